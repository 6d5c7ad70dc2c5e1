import PyProof.Rows.All
import Wide.All
import OpenK.AllK
import Wide.FinOn
import Lean
import PyProof.EqAt
import PyProof.EqKinds
import PyProof.NeKinds
import PyProof.TupleCall
import PySem.Challenge.RW_rinsework_k63_trays_told
set_option Elab.async false
set_option linter.all false
set_option maxRecDepth 100000
namespace PySem.W.Fast
theorem tw12890262211154492448:True:=trivial
theorem tw976098040565114592:True:=trivial
theorem tw6026661644443308931:True:=trivial
theorem tw13632609076468628582:True:=trivial
theorem tw6844944438375680712:True:=trivial
theorem tw5531997475451157385:True:=trivial
theorem tw18392518705034146858:True:=trivial
theorem tw4705683779246029674:True:=trivial
theorem tw6560380066958081388:True:=trivial
theorem tw16858217332688578318:True:=trivial
theorem tw12748894429911890165:True:=trivial
theorem tw3779699253269932375:True:=trivial
theorem tw18422581361067792728:True:=trivial
theorem tw9790850005499194713:True:=trivial
theorem tw16883627680774588475:True:=trivial
theorem tw7760725350641250652:True:=trivial
theorem tw5746656247045913021:True:=trivial
theorem tw1432623081025142846:True:=trivial
theorem tw12717696397192479077:True:=trivial
theorem tw2569848224371031443:True:=trivial
theorem tw112925572683122987:True:=trivial
theorem tw14740065803838740267:True:=trivial
theorem tw8882195581364943277:True:=trivial
theorem tw759388654185273358:True:=trivial
theorem tw10747159729038570909:True:=trivial
theorem tw8367940439982403706:True:=trivial
theorem tw12626627781585032486:True:=trivial
theorem tw11888117873269356585:True:=trivial
theorem tw14376684415221330209:True:=trivial
theorem tw11597645629889403925:True:=trivial
theorem tw13942227981035430617:True:=trivial
theorem tw14507392618633327369:True:=trivial
theorem tw17995303621991641045:True:=trivial
theorem tw16123519716274868970:True:=trivial
theorem tw10285527973627561027:True:=trivial
theorem tw6813624506995110679:True:=trivial
theorem tw16882620695207911080:True:=trivial
theorem tw15122976466809199817:True:=trivial
theorem tw7688435828676710044:True:=trivial
theorem tw3689342349290089280:True:=trivial
theorem tw3245444303502871727:True:=trivial
theorem tw6625239828287209907:True:=trivial
theorem tw10637598282002206097:True:=trivial
theorem tw10237053520720666599:True:=trivial
theorem tw4409279406096906599:True:=trivial
theorem tw3329990976267411604:True:=trivial
theorem tw2736696739611051843:True:=trivial
theorem tw3660122574137078238:True:=trivial
theorem tw15099786863815590170:True:=trivial
theorem tw8815935837301551545:True:=trivial
theorem tw17032528944353436854:True:=trivial
theorem tw7731414763087270809:True:=trivial
theorem tw13371518561471029882:True:=trivial
theorem tw8416063210903183112:True:=trivial
theorem tw9655437772594581724:True:=trivial
theorem tw9621003175514051897:True:=trivial
theorem tw15833220778495205621:True:=trivial
theorem tw11474922899646566330:True:=trivial
theorem tw8056897707591660072:True:=trivial
theorem tw9326119161953753168:True:=trivial
theorem tw11292278066459943927:True:=trivial
theorem tw15826481926542818176:True:=trivial
theorem tw8591339336243082890:True:=trivial
theorem tw10821749123247130301:True:=trivial
theorem tw16107380810216478163:True:=trivial
theorem tw16963509516874383428:True:=trivial
theorem tw13910078318595902403:True:=trivial
theorem tw4187195531612544323:True:=trivial
theorem tw12418138595164482652:True:=trivial
theorem tw13386867157545003511:True:=trivial
theorem tw7556391969662116124:True:=trivial
theorem tw13015961882884608107:True:=trivial
theorem tw12332034480250443106:True:=trivial
theorem tw7963981463735802452:True:=trivial
theorem tw3839596046920625796:True:=trivial
theorem tw47030871725850219:True:=trivial
theorem tw15168745994734989505:True:=trivial
theorem tw4388477739189564570:True:=trivial
end PySem.W.Fast
abbrev yZ:=@List.length_map
abbrev yY:=@List.size_toArray
abbrev yX:=@PySem.Heap.get?_push_of_some
abbrev yW:=@PySem.wpAny_bind
abbrev yV:=@List.getElem?_eq_getElem
abbrev yU:=@Nat.le_refl
abbrev yT:=@Bool.false_ne_true
abbrev yS:=@PySem.Heap.lt_size
abbrev yR:=@List.mem_cons_self
abbrev yQ:=@List.length_append
abbrev yP:=@List.getElem?_map
abbrev yO:=@List.mem_cons_of_mem
abbrev yN:=@List.mem_singleton
abbrev yM:=@List.map_cons
abbrev yL:=@Nat.ne_of_lt
abbrev yK:=@List.mem_cons
abbrev yJ:=@PySem.wpAny_pure
abbrev yI:=@Option.map_eq_some_iff
abbrev yH:=@List.getElem?_eq_some_iff
abbrev yG:=@PySem.Heap.get?_push_size
abbrev yF:=@List.getD_eq_getElem?_getD
abbrev yE:=@Nat.lt_of_lt_of_le
abbrev yD:=@List.getElem?_set
abbrev yC:=@List.map_map
abbrev yB:=@decide_eq_false
abbrev yA:=@List.mem_map
abbrev yz:=@List.length_cons
abbrev yy:=@Option.bind_some
abbrev yx:=@List.nodup_cons
abbrev yw:=@List.getElem?_set_ne
abbrev yv:=@List.mem_append_right
abbrev yu:=@List.getElem_mem
abbrev yt:=@List.map_append
abbrev yr:=@Int.emod_lt_of_pos
abbrev yq:=@List.append_nil
abbrev yp:=@List.mem_of_getElem?
abbrev yo:=@List.mem_append
abbrev yn:=@List.length_set
abbrev ym:=@List.flatten_cons
abbrev yk:=@Int.emod_nonneg
abbrev yj:=@Int.eq_ofNat_of_zero_le
abbrev yi:=@PySem.Heap.get?_update_other
abbrev yh:=@List.getElem_toArray
abbrev yg:=@decide_eq_true
abbrev yf:=@Nat.le_trans
abbrev ye:=@Nat.zero_le
abbrev yd:=@List.not_mem_nil
abbrev yc:=@Nat.lt_irrefl
abbrev yb:=@List.append_assoc
abbrev ya:=@List.mem_range
abbrev uZ:=@List.getElem?_set_self
abbrev uY:=@List.drop_eq_getElem_cons
abbrev uX:=@Bool.and_eq_true
abbrev uW:=@List.lookup_cons
abbrev uV:=@Nat.le_of_lt
abbrev uU:=@List.all_eq_true
abbrev uT:=@List.mem_append_left
abbrev uS:=@PySem.Heap.size_push
abbrev uR:=@of_decide_eq_true
abbrev uQ:=@List.of_mem_zip
abbrev uP:=@List.find?_cons
abbrev uO:=@List.replicate_succ
abbrev uN:=@List.getElem_of_mem
abbrev uM:=@List.exists_cons_of_ne_nil
abbrev uL:=@Bool.false_eq_true
abbrev uK:=@List.getElem?_append_left
abbrev uJ:=@Int.le_refl
abbrev uI:=@Option.map_some
abbrev uH:=@Int.mul_le_mul_of_nonneg_right
abbrev uG:=@List.length_eq_zero_iff
abbrev uF:=@Nat.lt_succ_self
abbrev uE:=@Int.le_trans
abbrev uD:=@PySem.Heap.get?_update_self
abbrev uC:=@List.getElem?_append_right
abbrev uB:=@List.length_range
abbrev uA:=@Array.getElem?_eq_getElem
abbrev uz:=@Nat.le_succ
abbrev uy:=@List.nodup_nil
abbrev ux:=@List.getElem_map
abbrev uw:=@List.perm_middle
abbrev uu:=@List.length_pos_iff
abbrev ut:=@List.getElem?_replicate
abbrev ur:=@Nat.lt_succ_of_lt
abbrev uq:=@List.nodup_append
abbrev uo:=@List.length_replicate
abbrev um:=@List.length_take
abbrev ul:=@List.length_drop
abbrev uk:=@List.drop_length
namespace L2
abbrev Fg:=PySem.W.Frag
end L2
namespace L2
open PySem PySem.Spec PyProof.Rows
variable{us:List Value}{C a b dx it:Addr}{u:Value}{P:Program}{w:World}{base h:Heap}{g':Array GenState}{j n t':Nat}{d':Drawn}{ch fp:List Addr}{m qual x:Str}{c e tg:Expr}{N ps:List Str}{A:Around}{E Q:Value->Shared->Prop}{s s':Shared}{α:Type}{pins:List (Addr×Obj)}{pos:Pos}{op op':CmpOp}{K:Fg}{f:Value->Value->Sem Value}{es:List Expr}{lo:Int}{pl:Sem Bool}{body:List Stmt}{mA mg:Str->Option Value}{kw:List (Str×Value)}{fd:FuncData}{outer:List Env}{scope:Scope}
abbrev z5:=Sum Int Str
def jt:z5->Value->Bool
 | .inl k,v=>Value.isInt k v
 | .inr x,v=>Value.isStrOf x v
def keyH (w:World):z5->Int
 | .inl k=>hashInt k
 | .inr x=>hashStr w x
theorem zc:∀{k:z5}{v:Value},jt k v=true->(∃ i t,k=Sum.inl i/\v=Value.int i t)∨(∃ x t,k=Sum.inr x/\v=Value.str x t)
 | .inl i,v,h=>by
  obtain ⟨t,e⟩:=Value.isInt_shape (k:=i) (v:=v) h;exact .inl ⟨i,t,rfl,e⟩
 | .inr x,v,h=>by
  obtain ⟨t,e⟩:=Value.isStrOf_shape (x:=x) (v:=v) h;exact .inr ⟨x,t,rfl,e⟩
theorem Bz (i:Int)(t:Tok):jt (.inl i) (.int i t)=true:=by simp [jt,Value.isInt]
theorem Yk (x:Str)(t:Tok):jt (.inr x) (.str x t)=true:=by simp [jt,Value.isStrOf]
theorem BA (a b:Int):decide ((Sum.inl a:z5)=Sum.inl b)=(a==b):=by
 by_cases e:a=b
 ·subst e;simp
 ·have h:¬ (Sum.inl a:z5)=Sum.inl b:=λq=>e (Sum.inl.inj q);rw [yB h];exact (beq_eq_false_iff_ne.mpr e).symm
theorem BD (a b:Str):decide ((Sum.inr a:z5)=Sum.inr b)=decide (a=b):=by
 by_cases e:a=b
 ·subst e;simp
 ·have h:¬ (Sum.inr a:z5)=Sum.inr b:=λq=>e (Sum.inr.inj q);rw [yB h,yB e]
theorem BB (a:Int)(b:Str):decide ((Sum.inl a:z5)=Sum.inr b)=false:=yB (λq=>nomatch q)
theorem BC (a:Str)(b:Int):decide ((Sum.inr a:z5)=Sum.inl b)=false:=yB (λq=>nomatch q)
def i8 (prog:Program)(w:World):PySem.KeyKind prog w z5 where
 is:=jt
 hash:=keyH w
 inj:=λv a b ha hb=>by
  rcases zc ha with ⟨i,t,rfl,rfl⟩|⟨x,t,rfl,rfl⟩
  ·rcases zc hb with ⟨j,u,rfl,e⟩|⟨y,u,rfl,e⟩
   ·injection e with e1 _;rw [e1]
   ·exact nomatch e
  ·rcases zc hb with ⟨j,u,rfl,e⟩|⟨y,u,rfl,e⟩
   ·exact nomatch e
   ·injection e with e1 _;rw [e1]
 byValue:=λk v h=>by
  rcases zc h with ⟨i,t,rfl,rfl⟩|⟨x,t,rfl,rfl⟩<;>rfl
 pyHash:=λhv h=>by
  rcases zc hv with ⟨i,t,rfl,rfl⟩|⟨x,t,rfl,rfl⟩
  ·exact wpAny_pyHash_int h
  ·exact wpAny_pyHash_str h
 eqBool:=λhu hv h=>by
  rcases zc hu with ⟨i,t,rfl,rfl⟩|⟨x,t,rfl,rfl⟩
  ·rcases zc hv with ⟨j,u,rfl,rfl⟩|⟨y,u,rfl,rfl⟩
   ·rw [BA] at h;exact wpAny_eqBool_int h
   ·rw [BB] at h;exact SeqAt.EqAt.int_str i t y u _ _ _ _ h
  ·rcases zc hv with ⟨j,u,rfl,rfl⟩|⟨y,u,rfl,rfl⟩
   ·rw [BC] at h;exact SeqAt.EqAt.str_int x t j u _ _ _ _ h
   ·rw [BD] at h;exact wpAny_eqBool_str h
 «strs»:=λk x t v h=>by
  rcases zc h with ⟨i,u,rfl,e⟩|⟨y,u,rfl,e⟩
  ·exact nomatch e
  ·injection e with e1 _;subst e1;cases v<;>rfl
theorem Pc (prog:Program)(w:World)(i:Int)(t:Tok):(i8 prog w).is (.inl i) (.int i t)=true:=Bz i t
theorem Zc (prog:Program)(w:World)(x:Str)(t:Tok):(i8 prog w).is (.inr x) (.str x t)=true:=Yk x t
inductive V where
 |non|bl (b:Bool)|int (i:Int)|str (x:Str)|byt (b:Array UInt8)|flt (b:UInt64)|ref (a:Addr)|ty (n:String)
 deriving DecidableEq
variable{vs xs:List V}{v y:V}
def RelV:V->Value->Prop
 | .non,u=>u=Value.none
 | .bl b,u=>u=Value.bool b
 | .int i,u=>∃ t,u=Value.int i t
 | .str x,u=>∃ t,u=Value.str x t
 | .byt b,u=>∃ t,u=Value.bytes b t
 | .flt b,u=>∃ t,u=Value.float b t
 | .ref a,u=>u=Value.ref a
 | .ty n,u=>u=Value.type n
abbrev Vals:List V->List Value->Prop:=Paired RelV
theorem Vals.length (r:Vals xs us):xs.length=us.length:=Paired.length r
theorem Vals.get:∀{xs:List V}{us:List Value}{i:Nat}{x:V},Vals xs us->xs[i]?=some x->∃ u,us[i]?=some u/\RelV x u
 |_,_,_,_,.nil,e=>by simp at e
 |_,_,0,_,.cons r _,e=>by simp at e;subst e;exact ⟨_,rfl,r⟩
 |_,_,i+1,x,.cons _ t,e=>by
  obtain ⟨u,h1,h2⟩:=Vals.get (i:=i) (x:=x) t (by simpa using e);exact ⟨u,by simpa using h1,h2⟩
theorem Vals.set {x:V}{u:Value}(r:RelV x u):∀{xs:List V}{us:List Value}(i:Nat),Vals xs us->Vals (xs.set i x) (us.set i u)
 |_,_,_,.nil=> .nil
 |_,_,0,.cons _ t=> .cons r t
 |_,_,i+1,.cons q t=> .cons q (Vals.set r i t)
theorem Vals.append:∀{xs ys:List V}{us ws:List Value},Vals xs us->Vals ys ws->Vals (xs++ys) (us++ws)
 |_,_,_,_,.nil,s=>s
 |_,_,_,_,.cons r t,s=> .cons r (Vals.append t s)
theorem Vals.take:∀{xs:List V}{us:List Value}(n:Nat),Vals xs us->Vals (xs.take n) (us.take n)
 |_,_,0,_=> .nil
 |_,_,_+1,.nil=> .nil
 |_,_,n+1,.cons r t=> .cons r (Vals.take n t)
theorem Vals.drop:∀{xs:List V}{us:List Value}(n:Nat),Vals xs us->Vals (xs.drop n) (us.drop n)
 |_,_,0,r=>r
 |_,_,_+1,.nil=> .nil
 |_,_,n+1,.cons _ t=>Vals.drop n t
def RelO:Option V->Option Value->Prop
 |some v,some u=>RelV v u
 |none,none=>True
 |_,_=>False
def KV {κ:Type}:List (κ×V)->List (κ×Value)->Prop:=Paired λ(p:κ×V) (q:κ×Value)=>p.1=q.1/\RelV p.2 q.2
def kV:z5->V
 | .inl i=> .int i
 | .inr x=> .str x
def TABS:List (Addr×Array Value×List (Pos×Str)):=[]
inductive HO where
 /-- a list -/
 |lst (xs:List V)
 /-- a tuple (never changes) -/
 |tup (xs:List V)
 /-- a dict whose keys are ints and texts;one whose keys are tuples of ints and texts (the empty one is both) -/
 |dK (kvs:List (z5×V))|dT (kvs:List (List z5×V))
 /-- a set of ints: its members,its size -/
 |set (S:Int->Bool) (n:Nat)
 /-- an instance of the class at C,its dict at dx,its attributes -/
 |ins (C dx:Addr) (fs:List (Str×V))
 /-- the dict of the instance at x -/
 |own (x:Addr)
 /-- the dict of an exception -/
 |xd (fs:List (Str×V))
 /-- a bound method,f of x -/
 |met (f x:Addr)
 /-- a range object lo,lo+1,.. below hi -/
 |rng (lo hi:Int)
 /-- a thing that is known to the object (the script;a dict while a loop walks it): read,never written while it is so -/
 |frz (o:Obj) (u:HO)
 /-- a code object's table -/
 |tbl (ps:Array Value) (q:List (Pos×Str))
 /-- any other thing,by what is true of its one object (a def of one's own: jg a S n:=HO.ext λh=> ..) -/
 |ext (φ:Heap->Prop)
variable{o:HO}
abbrev Hp:=Addr->Option HO
variable{H:Hp}{R:V->V->Hp->Prop}
def z6 (H:Hp)(a:Addr)(o:HO):Hp:=λb=>if b=a then some o else H b
theorem w9 :z6 H a o a=some o:=by unfold z6;rw [if_pos rfl]
theorem z8 (h:b≠a):z6 H a o b=H b:=by unfold z6;rw [if_neg h]
theorem ne_of {u:HO}(h:H a=some o)(h':H b=some u)(d:o≠u):a≠b:=by intro e;subst e;rw [h] at h';exact d (Option.some.inj h')
theorem u7 (h:H a=some o)(h':H b=none):a≠b:=by intro e;subst e;rw [h] at h';cases h'
section
variable (P:Program)(w:World)
def ObjOk (H:Hp)(h:Heap)(a:Addr):HO->Prop
 | .lst xs=>xs.length<=sizeLine/\∃ (its:List Value) (n:Nat),Vals xs its/\h.get? a=some { cls:= .type "list",data:= .seq its.toArray n }
 | .tup xs=>xs.length<=sizeLine/\∃ its:List Value,Vals xs its/\IsTup h a its.toArray
 | .dK kvs=>kvs.length<=sizeLine/\(a==sysModules)=false/\∃ vs,KV kvs vs/\h.DictOf (i8 P w) a vs
 | .dT kvs=>kvs.length<=sizeLine/\(a==sysModules)=false/\∃ xs:List (List z5×Addr×Value),
   Paired (λ(p:List z5×V) (q:List z5×Addr×Value)=>p.1=q.1/\H q.2.1=some (.tup (p.1.map kV))/\RelV p.2 q.2.2) kvs xs /\
   ∃ o es ep,h.get? a=some o/\o.ExactDict/\o.data = .dict es ep/\es.toList=xs.map (entryOfKey (tupleKind (i8 P w)))/\(xs.map (·.1)).Nodup
 | .set S n=>h.SetOf (intKind P w) a S n
 | .ins C dx fs=>H dx=some (.own a)/\fs.length<=1000/\dx≠a/\h.get? a=some (PySem.W.instObj C dx) /\
   ∃ mA,h.Ns1 dx mA/\(∀ f,RelO (fs.lookup f) (mA f))/\PySem.Within mA (fs.map (·.1))
 | .own _=>∃ o,h.get? a=some o
 | .xd fs=>∃ mA,h.Ns1 a mA/\∀ f,RelO (fs.lookup f) (mA f)
 | .rng lo hi=>∃ t u v,h.get? a=some { cls:= .type "range",data:= .fields #[.int lo t,.int hi u,.int 1 v] }
 | .frz o u=>h.get? a=some o/\ObjOk H h a u
 | .tbl ps q=>∃ more:Array Value,h.get? a=some { cls:= .none,data:= .fields (ps++more) }/\TriplesOk (ps++more).toList /\
   ∀ p∈q,codeAmong p.1 (ps++more).toList=none∨∃ c o vs t,codeAmong p.1 (ps++more).toList=some (.ref c)/\H c=some (.frz o (.own a))/\o.data = .fields vs/\vs[1]?=some (.str p.2 t)
 | .met f x=>h.get? a=some (PySem.W.methodObj (.ref f) (.ref x))
 | .ext φ=>φ h/\(∃ o,h.get? a=some o)/\∀ h1 h2:Heap,φ h1->(∀ o,h1.get? a=some o->h2.get? a=some o)->φ h2
def HOk (H:Hp)(h:Heap):Prop:=∀ a o,H a=some o->ObjOk P w H h a o
end
section
variable {P:Program}{w:World}{H H':Hp}{h h':Heap}{a:Addr}{o:HO}
theorem ObjOk.lt (x:ObjOk P w H h a o):a<h.objs.size:=by
 cases o with
 |lst xs=>obtain ⟨_,_,_,_,e⟩:=x;exact yS e
 |tup xs=>obtain ⟨_,_,_,p⟩:=x;exact p.lt
 |dK kvs=>obtain ⟨_,_,_,_,o,_,_,e,_⟩:=x;exact yS e
 |dT kvs=>obtain ⟨_,_,_,_,o,_,_,e,_⟩:=x;exact yS e
 |set S n=>obtain ⟨o,_,_,_,e,_⟩:=x;exact yS e
 |ins C dx fs=>obtain ⟨_,_,_,e,_⟩:=x;exact yS e
 |own y=>obtain ⟨_,e⟩:=x;exact yS e
 |xd fs=>obtain ⟨_,⟨_,_,_,e,_⟩,_⟩:=x;exact yS e
 |rng lo hi=>obtain ⟨_,_,_,e⟩:=x;exact yS e
 |frz ob u=>obtain ⟨e,_⟩:=x;exact yS e
 |tbl ps q=>obtain ⟨_,e,_⟩:=x;exact yS e
 |met f y=>exact yS (show h.get? a=some _ from x)
 |ext φ=>obtain ⟨_,⟨_,e⟩,_⟩:=x;exact yS e
theorem Paired.mapP {α β:Type}{F G:α->β->Prop}:∀{l₁:List α}{l₂:List β},Paired F l₁ l₂->(∀ a b,F a b->G a b)->Paired G l₁ l₂
 |_,_,.nil,_=> .nil
 |_,_,.cons r t,f=> .cons (f _ _ r) (Paired.mapP t f)
theorem ObjOk.stay (x:ObjOk P w H h a o)(k:∀ b u,(b=a∨H b=some (.own a))->h.get? b=some u->h'.get? b=some u)(ho:∀ b,H b=some (.own a)->H' b=some (.own a))(ht:∀ b xs,H b=some (.tup xs)->H' b=some (.tup xs))(hz:∀ b o u,H b=some (.frz o u)->H' b=some (.frz o u)):ObjOk P w H' h' a o:=by
 induction o with
 |lst xs=>obtain ⟨z,its,n,r,e⟩:=x;exact ⟨z,its,n,r,k _ _ (.inl rfl) e⟩
 |tup xs=>obtain ⟨z,its,r,ob,e,c⟩:=x;exact ⟨z,its,r,ob,k _ _ (.inl rfl) e,c⟩
 |dK kvs=>obtain ⟨z,y,vs,r,ob,es,ep,e,c⟩:=x;exact ⟨z,y,vs,r,ob,es,ep,k _ _ (.inl rfl) e,c⟩
 |dT kvs=>obtain ⟨z,y,xs,r,ob,es,ep,e,c⟩:=x;exact ⟨z,y,xs,Paired.mapP r λp q z=>⟨z.1,ht _ _ z.2.1,z.2.2⟩,ob,es,ep,k _ _ (.inl rfl) e,c⟩
 |set S n=>obtain ⟨ob,es,ep,t,e,c⟩:=x;exact ⟨ob,es,ep,t,k _ _ (.inl rfl) e,c⟩
 |ins C dx fs=>obtain ⟨d,z,ne,e,mA,⟨od,es,ep,e2,c⟩,r⟩:=x;exact ⟨ho _ d,z,ne,k _ _ (.inl rfl) e,mA,⟨od,es,ep,k _ _ (.inr d) e2,c⟩,r⟩
 |own y=>obtain ⟨ob,e⟩:=x;exact ⟨ob,k _ _ (.inl rfl) e⟩
 |xd fs=>obtain ⟨mA,⟨od,es,ep,e,c⟩,r⟩:=x;exact ⟨mA,⟨od,es,ep,k _ _ (.inl rfl) e,c⟩,r⟩
 |rng lo hi=>obtain ⟨t,u,v,e⟩:=x;exact ⟨t,u,v,k _ _ (.inl rfl) e⟩
 |frz ob u ih=>obtain ⟨e,q⟩:=x;exact ⟨k _ _ (.inl rfl) e,ih q⟩
 |tbl ps q =>
  obtain ⟨more,e,t,r⟩:=x;refine ⟨more,k a _ (.inl rfl) e,t,λp hp=>?_⟩;rcases r p hp with z|⟨c,o,vs,t,z,oc,e2⟩
  ·exact .inl z
  ·exact .inr ⟨c,o,vs,t,z,hz c o _ oc,e2⟩
 |met f y=>have e:h.get? a=some (PySem.W.methodObj (.ref f) (.ref y)):=x;show h'.get? a=some (PySem.W.methodObj (.ref f) (.ref y));exact k a _ (.inl rfl) e
 |ext φ=>obtain ⟨p,⟨o,e⟩,st⟩:=x;exact ⟨st _ _ p λo q=>k _ _ (.inl rfl) q,⟨o,k _ _ (.inl rfl) e⟩,st⟩
theorem HOk.lt (x:HOk P w H h)(e:H a=some o):a<h.objs.size:=(x a o e).lt
theorem HOk.fresh (x:HOk P w H h)(e:h.objs.size<=a):H a=none:=by
 cases q:H a with
 |none=>rfl
 |some u=>exact absurd (yE (x.lt q) e) (yc _)
theorem HOk.kept (x:HOk P w H h)(k:∀ b u,h.get? b=some u->h'.get? b=some u):HOk P w H h':=λa o e =>
 (x a o e).stay (λb u _ q=>k b u q) (λ_ q=>q) (λ_ _ q=>q) λ_ _ _ q=>q
theorem HOk.laid (x:HOk P w H h)(k:∀ b u,h.get? b=some u->h'.get? b=some u)(hp:h.objs.size<=a)(new:ObjOk P w (z6 H a o) h' a o):HOk P w (z6 H a o) h':=λb u e=>by
 have hn:=x.fresh hp;by_cases hb:b=a
 ·subst hb;rw [w9] at e;cases e;exact new
 ·rw [z8 hb] at e;exact (x b u e).stay (λc v _ q=>k c v q) (λc q=>by rw [z8 (u7 q hn)];exact q) (λc xs q=>by rw [z8 (u7 q hn)];exact q) λc _ _ q=>by rw [z8 (u7 q hn)];exact q
end
def Rd (H:Hp)(a:Addr)(u:HO):Prop:=H a=some u∨∃ o,H a=some (.frz o u)
theorem Rd.ok {u:HO}(r:Rd H a u)(x:HOk P w H h):ObjOk P w H h a u:=by
 rcases r with r|⟨o,r⟩
 ·exact x a u r
 ·obtain ⟨_,q⟩:=x a _ r;exact q
def Mut:Option HO->Prop
 |some (.lst _)=>True
 |some (.dK _)=>True
 |some (.dT _)=>True
 |some (.set _ _)=>True
 |some (.ins _ _ _)=>True
 |some (.ext _)=>True
 |_=>False
section
variable {P:Program}{w:World}{H:Hp}{h h':Heap}{x e:Addr}{o':HO}
theorem HOk.write (ok:HOk P w H h)(mu:Mut (H x))(he:e=x∨H e=some (.own x))(k:∀ b u,b≠e->h.get? b=some u->h'.get? b=some u)(heo:∃ u,h'.get? e=some u)(new:ObjOk P w (z6 H x o') h' x o'):HOk P w (z6 H x o') h':=λb u q=>by
 have nown:∀ c y,H c=some (.own y)->c≠x:=λc y r z=>by subst z;rw [r] at mu;exact mu
 have ntup:∀ c xs,H c=some (.tup xs)->c≠x:=λc xs r z=>by subst z;rw [r] at mu;exact mu
 have nfrz:∀ c ob xs,H c=some (.frz ob xs)->c≠x:=λc ob xs r z=>by subst z;rw [r] at mu;exact mu
 by_cases hb:b=x
 ·subst hb;rw [w9] at q;cases q;exact new
 ·rw [z8 hb] at q;by_cases hbe:b=e
  ·have q':H b=some (.own x):=by
    rcases he with z|z
    ·exact absurd (hbe.trans z) hb
    ·rw [hbe];exact z
   rw [q] at q';cases q';obtain ⟨v,hv⟩:=heo;exact ⟨v,by rw [hbe];exact hv⟩
  ·refine (ok b u q).stay (λc v hc r=>k c v ?_ r) (λc r=>by rw [z8 (nown c b r)];exact r) (λc xs r=>by rw [z8 (ntup c xs r)];exact r) λc ob xs r=>by rw [z8 (nfrz c ob xs r)];exact r
   rcases hc with rfl|hc
   ·exact hbe
   ·rintro rfl;rcases he with z|z
    ·exact nown c b hc z
    ·rw [hc] at z;cases z;exact hb rfl
end
structure Un (fs ex:List Addr)(H H':Hp)(h h':Heap):Prop where
 keep:∀ b o,h.get? b=some o->H b=none->b∉fs->b∉ex->h'.get? b=some o
 slot:∀ b o,h.get? b=some o->H b=none->b∈fs->b∉ex->∃ sl,h'.get? b=some { o with slots:=sl }
 free:∀ b o,h.get? b=some o->H b=none->b∉ex->H' b=none
 there:∀ b o,h.get? b=some o->b∉ex->∃ o',h'.get? b=some o'
 tups:∀ b xs,H b=some (.tup xs)->H' b=some (.tup xs)
 frzs:∀ b o u,H b=some (.frz o u)->H' b=some (.frz o u)
 tbls:∀ b ps q,H b=some (.tbl ps q)->H' b=some (.tbl ps q)
section
variable {fs fs' ex ex':List Addr}{H H1 H2:Hp}{h h1 h2 h':Heap}{a x e:Addr}{o:HO}
theorem Un.any (u:Un fs ex H H1 h h1){ob:Obj}(q:h.get? b=some ob)(n:H b=none)(hx:b∉ex):∃ sl,h1.get? b=some { ob with slots:=sl }:=by
 by_cases hb:b∈fs
 ·exact u.slot b ob q n hb hx
 ·exact ⟨ob.slots,u.keep b ob q n hb hx⟩
theorem Un.kept (k:∀ b u,h.get? b=some u->h'.get? b=some u):Un fs ex H H h h' :=
 ⟨λb ob q _ _ _=>k b ob q,λb ob q _ _ _=>⟨ob.slots,k b ob q⟩,λ_ _ _ n _=>n,λb ob q _=>⟨ob,k b ob q⟩,λ_ _ q=>q,λ_ _ _ q=>q,λ_ _ _ q=>q⟩
theorem Un.refl:Un fs ex H H h h:=Un.kept λ_ _ q=>q
theorem Un.laid (k:∀ b u,h.get? b=some u->h'.get? b=some u)(hp:h.objs.size<=a)(hn:H a=none):Un fs ex H (z6 H a o) h h' where
 keep:=λb u q _ _ _=>k b u q
 slot:=λb u q _ _ _=>⟨u.slots,k b u q⟩
 free:=λb u q n _=>by rw [z8 (yL (yE (yS q) hp))];exact n
 there:=λb u q _=>⟨u,k b u q⟩
 tups:=λb xs q=>by rw [z8 (u7 q hn)];exact q
 frzs:=λb u xs q=>by rw [z8 (u7 q hn)];exact q
 tbls:=λb ps z q=>by rw [z8 (u7 q hn)];exact q
theorem Un.write (mu:Mut (H x))(he:e=x∨H e=some (.own x))(k:∀ b u,b≠e->h.get? b=some u->h'.get? b=some u)(heo:∃ u,h'.get? e=some u):Un fs ex H (z6 H x o) h h':=by
 have hx:∀ b,H b=none->b≠x:=λb n z=>by subst z;rw [n] at mu;exact mu
 have hb:∀ b,H b=none->b≠e:=λb n z=>by
  subst z;rcases he with r|r
  ·exact hx b n r
  ·rw [n] at r;cases r
 have hm:∀ b u,H b=some u->¬ Mut (some u)->b≠x:=λb u q nm z=>by subst z;rw [q] at mu;exact nm mu
 refine ⟨λb u q n _ _=>k b u (hb b n) q,λb u q n _ _=>⟨u.slots,k b u (hb b n) q⟩,λb u q n _=>by rw [z8 (hx b n)];exact n,λb u q _=>?_,
  λb xs q=>by rw [z8 (hm b _ q λz=>z)];exact q,λb u xs q=>by rw [z8 (hm b _ q λz=>z)];exact q,λb ps r q=>by rw [z8 (hm b _ q λz=>z)];exact q⟩
 by_cases hbe:b=e
 ·subst hbe;exact heo
 ·exact ⟨u,k b u hbe q⟩
end
def trk (h:Heap)(H:Hp):List Addr:=(List.range h.objs.size).filter λa=>(H a).isSome
def xZ (h:Heap)(H:Hp):Heap:=PySem.W.hideAll h (trk h H)
theorem KQ (h:Heap)(H:Hp):(xZ h H).objs.size=h.objs.size:=PySem.W.hideAll_size _ _
theorem KP {o:Obj}(e:h.get? b=some o)(n:H b=none):(xZ h H).get? b=some o :=
 PySem.W.hideAll_get _ e λhm=>by
  have q:(H b).isSome=true:=(List.mem_filter.mp hm).2;rw [n] at q;simp at q
theorem Pg {o:Obj}(e:(xZ h H).get? b=some o):h.get? b=some o/\H b=none:=by
 have e':h.get? b=some o:=PySem.W.of_hideAll (trk h H) e;refine ⟨e',?_⟩;cases q:H b with
 |none=>rfl
 |some x=>have hm:b∈trk h H:=List.mem_filter.mpr ⟨ya.mpr (yS e'),by simp [q]⟩;have z:(xZ h H).get? b=none:=PySem.W.hideAll_none (trk h H) hm;rw [z] at e;cases e
structure Mod (K:Fg)(mg:Str->Option Value)(base:Heap):Prop where
 kin:K.In base
 glob:base.Ns mainGlobals mg
 blt:∃ mb,base.Ns builtinsNs mb/\∀ x:Str,x ≠ "__name__"->mb x=bootBuiltins x
 nolimit:base.NoLimit
 bmn:∃ bm ob,mg "__builtins__"=some (.ref bm)/\bm≠builtinsNs/\base.get? bm=some ob/\ob.cls = .type "module"/\ob.dict=some builtinsNs/\ob.data = .plain
structure Cx where
 prog:Program
 w:World
 K:Fg
 mg:Str->Option Value
 base:Heap
 A:Around
 N:List Str
 s₀:Shared
 H₀:Hp
 env:Env
 outer:List Env
 stack:List Env
 ex:List Addr
 fn:Str->Bool
 calm:Bool
 pn:List (Addr×Obj)
 xe:Value->Shared->Prop
variable{X:Cx}
def frs (l:List Env):List Addr:=l.filterMap (·.frame)
abbrev Cx.fs (X:Cx):List Addr:=frs X.outer
def Vis (sc:Scope)(x:Str):Prop:=sc.names.lookup x=some .local∨sc.names.lookup x=some .cell∨sc.names.lookup x=some .free
def Loc (sc:Scope)(x:Str):Prop:=sc.names.lookup x=some .local∨sc.names.lookup x=some .cell
def Look (env:Env)(h:Heap)(m:Str->Option Value)(x:Str)(u:Value):Prop :=
 (env.kindOf x=some .local/\m x=some u)∨((env.kindOf x=some .cell∨env.kindOf x=some .free)/\∃ c,env.cells.lookup x=some c/\h.IsCell c (some u))
structure Cx.Ok (X:Cx):Prop where
 mod:Mod X.K X.mg X.base
 kind:X.env.scope.kind = .function
 glob:X.env.globals=mainGlobals
 blt:X.env.builtins=builtinsNs
 above:X.s₀.heap.objs.size<=X.env.locals
 inj:∀ x y c,X.env.cells.lookup x=some c->X.env.cells.lookup y=some c->x=y
 has:∀ x,(X.env.kindOf x=some .cell∨X.env.kindOf x=some .free)->∃ c,X.env.cells.lookup x=some c
 cab:∀ x c,X.fn x=true->X.env.cells.lookup x=some c->X.s₀.heap.objs.size<=c
 hd:X.calm=true->X.A.handled=none
 frames:X.A.frames=some X.stack
 stk:X.stack=X.outer∨(X.stack=X.env::X.outer/\X.env.frame=some X.env.locals)
 exf:∀ b∈X.ex,b≠X.env.locals/\∀ x c,X.env.cells.lookup x=some c->c≠b
 bs:∀ b o,X.base.get? b=some o->X.s₀.heap.get? b=some o/\X.H₀ b=none
 bsz:X.base.objs.size<=X.s₀.heap.objs.size
 noex:∀ b o,X.base.get? b=some o->b∉X.ex
 exfs:∀ b∈X.ex,b∉X.fs
 funs:X.s₀.heap.FunFrames X.base X.outer
 frf:∀ b∈X.fs,X.H₀ b=none
 tbs:∀ p∈TABS,X.H₀ p.1=some (.tbl p.2.1 p.2.2)
structure Inv (X:Cx)(pins:List (Addr×Obj))(σ:List (Option V))(H:Hp)(s:Shared):Prop where
 ok:X.Ok
 os:s.os=X.s₀.os
 bare:AllBare s.gens
 base:Un X.fs X.ex X.H₀ H X.s₀.heap s.heap
 loc:∃ m,s.heap.Ns X.env.locals m/\∀(i:Nat)(x:Str)(v:V),X.N[i]?=some x->σ[i]?=some (some v)->Vis X.env.scope x->∃ u,RelV v u/\Look X.env s.heap m x u
 cell:∀ x c,X.env.cells.lookup x=some c->∃ v,s.heap.IsCell c v
 free:H X.env.locals=none
 freeC:∀ x c,X.env.cells.lookup x=some c->H c=none
 pin:∀ p∈X.pn++pins,s.heap.get? p.1=some p.2/\H p.1=none/\p.1≠X.env.locals/\p.1∉X.fs/\∀ v,p.2.data ≠ .cell v
 hok:HOk X.prog X.w H s.heap
 len:σ.length=X.N.length
section
variable {X:Cx}{pins:List (Addr×Obj)}{σ:List (Option V)}{H H':Hp}{s:Shared}{h':Heap}
theorem Cx.Ok.nofr (ok:X.Ok){o:Obj}(e:X.base.get? b=some o):b∉X.fs:=λhb=>by
 have:=(ok.funs.mem hb).1;rw [e] at this;cases this
theorem Inv.bs (I:Inv X pins σ H s):∀ b o,X.base.get? b=some o->s.heap.get? b=some o/\H b=none:=λb o e =>
 ⟨I.base.keep b o (I.ok.bs b o e).1 (I.ok.bs b o e).2 (I.ok.nofr e) (I.ok.noex b o e),I.base.free b o (I.ok.bs b o e).1 (I.ok.bs b o e).2 (I.ok.noex b o e)⟩
theorem Inv.bk (I:Inv X pins σ H s):∀ b o,X.base.get? b=some o->s.heap.get? b=some o:=λb o e=>(I.bs b o e).1
theorem Inv.mod (I:Inv X pins σ H s):Mod X.K X.mg X.base:=I.ok.mod
theorem Inv.kIn (I:Inv X pins σ H s):X.K.In s.heap:=I.ok.mod.kin.keeps I.bk
theorem Inv.fr (I:Inv X pins σ H s):∃ m,Fr X.base X.env.locals s.heap m :=
 let ⟨m,hn,_⟩:=I.loc
 ⟨m,hn,I.bk,yf I.ok.bsz I.ok.above⟩
theorem Inv.lt (I:Inv X pins σ H s):X.env.locals<s.heap.objs.size:=let ⟨_,hn,_⟩:=I.loc;hn.lt
theorem Inv.sz (I:Inv X pins σ H s):X.s₀.heap.objs.size<=s.heap.objs.size:=yf I.ok.above (uV I.lt)
theorem Inv.nofs (I:Inv X pins σ H s)(h:s.heap.objs.size<=a):a∉X.fs:=λhb=>by
 obtain ⟨_,o,ho,_⟩:=I.ok.funs.mem hb;exact absurd (yE (yS ho) (yf I.sz h)) (yc _)
theorem Inv.cne (I:Inv X pins σ H s):∀ x c,X.env.cells.lookup x=some c->c≠X.env.locals:=λx c e z=>by
 obtain ⟨v,o,ho,hd⟩:=I.cell x c e;obtain ⟨m,⟨o',es,ep,ho',hd',_⟩,_⟩:=I.loc;rw [z,ho'] at ho;cases ho;rw [hd'] at hd;cases hd
theorem Inv.funs (I:Inv X pins σ H s):s.heap.FunFrames X.base X.outer:=by
 have all:∀(l:List Env),(∀ b∈frs l,b∈X.fs)->X.s₀.heap.FunFrames X.base l->s.heap.FunFrames X.base l:=by
  intro l
  induction l with
  |nil=>intro _ _;trivial
  |cons env r ih=>intro hs hl;obtain ⟨hk,⟨L,o,hf,hn,ho,hd⟩,hr⟩:=hl;have hL:L∈X.fs:=hs L (by unfold frs;rw [List.filterMap_cons,hf];exact yR);obtain ⟨sl,e⟩:=I.base.slot L o ho (I.ok.frf L hL) hL λz=>I.ok.exfs L z hL;exact ⟨hk,⟨L,_,hf,hn,e,hd⟩,ih (λb hb=>hs b (by unfold frs;rw [List.filterMap_cons,hf];exact yO _ hb)) hr⟩
 exact all X.outer (λ_ hb=>hb) I.ok.funs
theorem Inv.stack (I:Inv X pins σ H s):s.heap.FunFrames X.base X.stack:=by
 rcases I.ok.stk with e|⟨e,hf⟩
 ·rw [e];exact I.funs
 ·rw [e];obtain ⟨m,hn,_⟩:=I.loc;refine .cons (by rw [I.ok.kind];decide) hf hn ?_ I.funs;exact Heap.get?_none_of_le (yf I.ok.bsz I.ok.above)
theorem Inv.stkSub (I:Inv X pins σ H s):∀ b∈frs X.stack,b∈X.env.locals::X.fs:=λb hb=>by
 rcases I.ok.stk with e|⟨e,hf⟩
 ·rw [e] at hb;exact yO _ hb
 ·rw [e] at hb;unfold frs at hb;rw [List.filterMap_cons,hf] at hb;exact hb
theorem Inv.stkFree (I:Inv X pins σ H s):∀ b∈frs X.stack,H b=none:=λb hb=>by
 rcases yK.mp (I.stkSub b hb) with e|hb
 ·rw [e];exact I.free
 ·obtain ⟨_,o,ho,_⟩:=I.ok.funs.mem hb;exact I.base.free b o ho (I.ok.frf b hb) λz=>I.ok.exfs b z hb
theorem Inv.step (I:Inv X pins σ H s)(hch:∀ b∈ch,(b∈X.ex∨X.s₀.heap.objs.size<=b)/\b≠X.env.locals/\(∀ x c,X.env.cells.lookup x=some c->c≠b)/\∀ p∈X.pn++pins,p.1≠b)(keep:∀ b o,b≠X.env.locals->b∉X.fs->b∉ch->s.heap.get? b=some o->H b=none->h'.get? b=some o)(slot:∀ b o,b≠X.env.locals->b∈X.fs->b∉ch->s.heap.get? b=some o->H b=none->∃ sl,h'.get? b=some { o with slots:=sl })(free:∀ b o,b∉ch->s.heap.get? b=some o->H b=none->H' b=none)(there:∀ b o,b∉ch->s.heap.get? b=some o->∃ o',h'.get? b=some o')(tups:∀ b xs,H b=some (.tup xs)->H' b=some (.tup xs))(frzs:∀ b o u,H b=some (.frz o u)->H' b=some (.frz o u))(tbls:∀ b ps q,H b=some (.tbl ps q)->H' b=some (.tbl ps q))(ns:∀ m,s.heap.Ns X.env.locals m->h'.Ns X.env.locals m)(hok:HOk X.prog X.w H' h')(hg:AllBare g'):Inv X pins σ H' { s with heap:=h',gens:=g',drawn:=d',toks:=t' }:=by
 have neL:∀ b o,X.s₀.heap.get? b=some o->b≠X.env.locals:=λb o e=>yL (yE (yS e) I.ok.above);have neC:∀ b o,X.s₀.heap.get? b=some o->b∉X.ex->b∉ch:=λb o e hx hb=>by
  rcases (hch b hb).1 with z|z
  ·exact hx z
  ·exact absurd (yE (yS e) z) (yc _)
 have cellK:∀ x c,X.env.cells.lookup x=some c->∀ v,s.heap.IsCell c v->h'.IsCell c v:=λx c e v ⟨o,ho,hd⟩=>by
  have nch:c∉ch:=λz=>(hch c z).2.2.1 x c e rfl;by_cases hc:c∈X.fs
  ·obtain ⟨sl,q⟩:=slot c o (I.cne x c e) hc nch ho (I.freeC x c e);exact ⟨_,q,hd⟩
  ·exact ⟨o,keep c o (I.cne x c e) hc nch ho (I.freeC x c e),hd⟩
 refine ⟨I.ok,I.os,hg,⟨λb o e n hb hx=>?_,λb o e n hb hx=>?_,λb o e n hx=>?_,λb o e hx=>?_,λb xs e=>tups b xs (I.base.tups b xs e),λb o xs e=>frzs b o xs (I.base.frzs b o xs e),λb ps q e=>tbls b ps q (I.base.tbls b ps q e)⟩,?_,λx c e=>?_,?_,λx c e=>?_,λp hp=>?_,hok,I.len⟩
 ·exact keep b o (neL b o e) hb (neC b o e hx) (I.base.keep b o e n hb hx) (I.base.free b o e n hx)
 ·obtain ⟨sl,e1⟩:=I.base.slot b o e n hb hx;obtain ⟨sl',e2⟩:=slot b _ (neL b o e) hb (neC b o e hx) e1 (I.base.free b o e n hx);exact ⟨sl',e2⟩
 ·obtain ⟨o',e1⟩:=I.base.there b o e hx;exact free b o' (neC b o e hx) e1 (I.base.free b o e n hx)
 ·obtain ⟨o',e1⟩:=I.base.there b o e hx;exact there b o' (neC b o e hx) e1
 ·obtain ⟨m,hn,hl⟩:=I.loc;refine ⟨m,ns m hn,λi x v e1 e2 e3=>?_⟩;obtain ⟨u,r,l⟩:=hl i x v e1 e2 e3;refine ⟨u,r,?_⟩;rcases l with l|⟨k,c,e,z⟩
  ·exact .inl l
  ·exact .inr ⟨k,c,e,cellK x c e _ z⟩
 ·obtain ⟨v,z⟩:=I.cell x c e;exact ⟨v,cellK x c e v z⟩
 ·obtain ⟨m,⟨o,_,_,ho,_⟩,_⟩:=I.loc;exact free _ o (λz=>(hch _ z).2.1 rfl) ho I.free
 ·obtain ⟨v,o,ho,hd⟩:=I.cell x c e;exact free c o (λz=>(hch c z).2.2.1 x c e rfl) ho (I.freeC x c e)
 ·obtain ⟨e,n,ne,nf,d⟩:=I.pin p hp;have nch:p.1∉ch:=λz=>(hch p.1 z).2.2.2 p hp rfl;exact ⟨keep p.1 p.2 ne nf nch e n,free p.1 p.2 nch e n,ne,nf,d⟩
theorem Inv.un (I:Inv X pins σ H s)(u:Un X.fs [] H H' s.heap h')(hok:HOk X.prog X.w H' h'):Inv X pins σ H' { s with heap:=h',toks:=t' }:=by
 obtain ⟨m,⟨o,es,ep,ho,r⟩,_⟩:=id I.loc;obtain ⟨sl,hL⟩:=u.any ho I.free (by simp);exact I.step (g':=s.gens) (d':=s.drawn) (ch:=[]) (λ_ z=>nomatch z) (λb o _ hb _ e n=>u.keep b o e n hb (by simp)) (λb o _ hb _ e n=>u.slot b o e n hb (by simp)) (λb o _ e n=>u.free b o e n (by simp)) (λb o _ e=>u.there b o e (by simp)) u.tups u.frzs u.tbls (λm' hm=>by
  obtain ⟨o',es',ep',ho',r'⟩:=hm;rw [ho] at ho';cases ho';exact ⟨_,es',ep',hL,r'⟩) hok I.bare
theorem Inv.call (I:Inv X pins σ H s)(u:Un (frs X.stack) ch H H' s.heap h')(hok:HOk X.prog X.w H' h')(hg:AllBare g')(hch:∀ b∈ch,(b∈X.ex∨X.s₀.heap.objs.size<=b)/\b≠X.env.locals/\(∀ x c,X.env.cells.lookup x=some c->c≠b)/\∀ p∈X.pn++pins,p.1≠b):Inv X pins σ H' { s with heap:=h',gens:=g',drawn:=d',toks:=t' }:=by
 obtain ⟨m,⟨o,es,ep,ho,r⟩,_⟩:=id I.loc;obtain ⟨sl,hL⟩:=u.any ho I.free λz=>(hch _ z).2.1 rfl;exact I.step (ch:=ch) hch (λb o hL hb hc e n=>u.keep b o e n (λz=>(yK.mp (I.stkSub b z)).elim hL hb) hc) (λb o _ _ hc e n=>u.any e n hc) (λb o hc e n=>u.free b o e n hc) (λb o hc e=>u.there b o e hc) u.tups u.frzs u.tbls (λm' hm=>by
  obtain ⟨o',es',ep',ho',r'⟩:=hm;rw [ho] at ho';cases ho';exact ⟨_,es',ep',hL,r'⟩) hok hg
theorem Inv.turned (I:Inv X pins σ H s)(k:∀ b o,b≠it->s.heap.get? b=some o->h'.get? b=some o)(hn:H it=none)(hL:it≠X.env.locals)(h1:it∈X.ex∨X.s₀.heap.objs.size<=it)(h2:∀ x c,X.env.cells.lookup x=some c->c≠it)(h3:∀ p∈X.pn++pins,p.1≠it):Inv X pins σ H { s with heap:=h',toks:=t' }:=by
 have nit:∀ b u,H b=some u->b≠it:=λb u e z=>by rw [z,hn] at e;cases e
 refine I.step (g':=s.gens) (d':=s.drawn) (ch:=[it]) (λb hb=>?_) (λb o _ _ hc e _=>k b o (λz=>hc (by simp [z])) e) (λb o _ _ hc e _=>⟨o.slots,k b o (λz=>hc (by simp [z])) e⟩) (λ_ _ _ _ n=>n)
  (λb o hc e=>⟨o,k b o (λz=>hc (by simp [z])) e⟩) (λ_ _ e=>e) (λ_ _ _ e=>e) (λ_ _ _ e=>e) (λm hm=>?_) (λb u e=>?_) I.bare
 ·have e:b=it:=by simpa using hb
  subst e;exact ⟨h1,hL,h2,h3⟩
 ·obtain ⟨o,es,ep,ho,r⟩:=hm;exact ⟨o,es,ep,k _ o (Ne.symm hL) ho,r⟩
 ·refine (I.hok b u e).stay (λc v hc q=>k c v ?_ q) (λ_ q=>q) (λ_ _ q=>q) λ_ _ _ q=>q;rcases hc with z|z
  ·rw [z];exact nit b u e
  ·exact nit c _ z
theorem Inv.tok (I:Inv X pins σ H s)(t:Nat):Inv X pins σ H { s with toks:=t }:=I.un (h':=s.heap) (t':=t) Un.refl I.hok
theorem Inv.kept (I:Inv X pins σ H s)(k:∀ b u,s.heap.get? b=some u->h'.get? b=some u):Inv X pins σ H { s with heap:=h',toks:=t' }:=I.un (Un.kept k) (I.hok.kept k)
theorem Inv.laid (I:Inv X pins σ H s)(k:∀ b u,s.heap.get? b=some u->h'.get? b=some u)(hp:s.heap.objs.size<=a)(new:ObjOk X.prog X.w (z6 H a o) h' a o):Inv X pins σ (z6 H a o) { s with heap:=h',toks:=t' }:=I.un (Un.laid k hp (I.hok.fresh hp)) (I.hok.laid k hp new)
theorem Inv.write {x e:Addr}(I:Inv X pins σ H s)(mu:Mut (H x))(he:e=x∨H e=some (.own x))(k:∀ b u,b≠e->s.heap.get? b=some u->h'.get? b=some u)(heo:∃ u,h'.get? e=some u)(new:ObjOk X.prog X.w (z6 H x o) h' x o):Inv X pins σ (z6 H x o) { s with heap:=h',toks:=t' }:=I.un (Un.write mu he k heo) (I.hok.write mu he k heo new)
theorem Inv.weak {σ':List (Option V)}(I:Inv X pins σ H s)(hl:σ'.length=σ.length)(w:∀(i:Nat) v,σ'[i]?=some (some v)->σ[i]?=some (some v)):Inv X pins σ' H s :=
 ⟨I.ok,I.os,I.bare,I.base,let ⟨m,hn,hl'⟩:=I.loc;⟨m,hn,λi x v e1 e2 e3=>hl' i x v e1 (w i v e2) e3⟩,I.cell,I.free,I.freeC,I.pin,I.hok,hl.trans I.len⟩
theorem Inv.pins_of {pins':List (Addr×Obj)}(I:Inv X pins σ H s)(h:∀ p∈pins',s.heap.get? p.1=some p.2/\H p.1=none/\p.1≠X.env.locals/\p.1∉X.fs/\∀ v,p.2.data ≠ .cell v):Inv X pins' σ H s :=
 ⟨I.ok,I.os,I.bare,I.base,I.loc,I.cell,I.free,I.freeC,λp hp=>(yo.mp hp).elim (λz=>I.pin p (uT _ z)) (h p),I.hok,I.len⟩
theorem YC (hN:N.Nodup){i:Nat}(a:N[i]?=some x)(b:N[j]?=some x):i=j:=by obtain ⟨h1,e1⟩:=yH.mp a;obtain ⟨h2,e2⟩:=yH.mp b;exact (List.getElem_inj hN).mp (e1.trans e2.symm)
theorem UG {M:Model}{i:Nat}{Q:Unit->Shared->Prop}(I:Inv X pins σ H s)(hN:X.N.Nodup)(hi:X.N[i]?=some x)(hx:Loc X.env.scope x)(r:RelV v u)(h:∀ s',Inv X pins (σ.set i (some v)) H s'->(∃ a,Heap.SameBut a s.heap s'.heap/\(a=X.env.locals∨X.env.cells.lookup x=some a))->Q () s')(hf:X.fn x=true∨X.env.scope.names.lookup x=some .local:=by first|exact .inl rfl|exact .inr rfl|assumption):wpAny M A (storeName X.env x u) Q E s:=by
 obtain ⟨m,hn,hl⟩:=id I.loc;have hcls:(X.env.scope.kind == .class || (X.env.scope.kind == .module&&X.env.locals != X.env.globals))=false:=by rw [I.ok.kind];rfl
 have hiσ:i<σ.length:=by rw [I.len];exact (yH.mp hi).1
 have cne:=I.cne;have tracked:∀{a:Addr}{h':Heap},(∃ o,s.heap.get? a=some o/\H a=none)->Heap.SameBut a s.heap h'->HOk X.prog X.w H h':=λ{a h'} ha hs b ob e=>by
  obtain ⟨_,_,hfree⟩:=ha;refine (I.hok b ob e).stay (λc w' hc q=>(hs.2 c ?_).trans q) (λ_ q=>q) (λ_ _ q=>q) λ_ _ _ q=>q;rintro rfl;rcases hc with rfl|hc
  ·rw [hfree] at e;cases e
  ·rw [hfree] at hc;cases hc
 rcases hx with hk|hk
 ·refine wpAny_storeName_local hk hn (λh' hn' hs=>?_) hcls;obtain ⟨oL,_,_,hoL,_⟩:=id hn;refine h _ ⟨I.ok,I.os,I.bare,⟨λb o e n hb hx=>?_,λb o e n hb hx=>?_,I.base.free,λb o e hx=>?_,I.base.tups,I.base.frzs,I.base.tbls⟩,⟨_,hn',λj y v' e1 e2 e3=>?_⟩,λy c e=>?_,I.free,I.freeC,λp hp=>?_,tracked ⟨oL,hoL,I.free⟩ hs,by simpa using I.len⟩ ⟨_,hs,.inl rfl⟩
  ·exact (hs.2 b (yL (yE (yS e) I.ok.above))).trans (I.base.keep b o e n hb hx)
  ·obtain ⟨sl,e1⟩:=I.base.slot b o e n hb hx;exact ⟨sl,(hs.2 b (yL (yE (yS e) I.ok.above))).trans e1⟩
  ·obtain ⟨o',e1⟩:=I.base.there b o e hx;exact ⟨o',(hs.2 b (yL (yE (yS e) I.ok.above))).trans e1⟩
  ·by_cases hj:j=i
   ·subst hj;rw [hi] at e1;cases e1;rw [uZ hiσ] at e2;cases e2;exact ⟨u,r,.inl ⟨hk,by simp⟩⟩
   ·rw [yw (Ne.symm hj)] at e2;obtain ⟨u',r',q⟩:=hl j y v' e1 e2 e3;refine ⟨u',r',?_⟩;rcases q with ⟨k,e⟩|⟨k,c,e,z⟩
    ·refine .inl ⟨k,?_⟩;have:y≠x:=λe=>hj (YC hN e1 (e▸hi));simp [this,e]
    ·exact .inr ⟨k,c,e,z.sameBut hs (cne y c e)⟩
  ·obtain ⟨w',z⟩:=I.cell y c e;exact ⟨w',z.sameBut hs (cne y c e)⟩
  ·obtain ⟨e,n,ne,nf,d⟩:=I.pin p hp;exact ⟨(hs.2 p.1 ne).trans e,n,ne,nf,d⟩
 ·have hfn:X.fn x=true:=by
   rcases hf with z|z
   ·exact z
   ·rw [z] at hk;cases hk
  obtain ⟨c,hc⟩:=I.ok.has x (.inl hk);obtain ⟨w',z⟩:=I.cell x c hc;refine wpAny_storeName_cell I.ok.kind hk hc z (λh' hc' hs=>?_);obtain ⟨oc,hoc,hocd⟩:=id z;refine h { s with heap:=h' } ⟨I.ok,I.os,I.bare,⟨λb o e n hb hx=>?_,λb o e n hb hx=>?_,I.base.free,λb o e hx=>?_,I.base.tups,I.base.frzs,I.base.tbls⟩,⟨m,hn.sameBut hs (Ne.symm (cne x c hc)),λj y v' e1 e2 e3=>?_⟩,λy c' e=>?_,I.free,I.freeC,λp hp=>?_,tracked ⟨oc,hoc,I.freeC x c hc⟩ hs,by simpa using I.len⟩ ⟨c,hs,.inr hc⟩
  ·exact (hs.2 b (yL (yE (yS e) (I.ok.cab x c hfn hc)))).trans (I.base.keep b o e n hb hx)
  ·obtain ⟨sl,e1⟩:=I.base.slot b o e n hb hx;exact ⟨sl,(hs.2 b (yL (yE (yS e) (I.ok.cab x c hfn hc)))).trans e1⟩
  ·obtain ⟨o',e1⟩:=I.base.there b o e hx;exact ⟨o',(hs.2 b (yL (yE (yS e) (I.ok.cab x c hfn hc)))).trans e1⟩
  ·by_cases hj:j=i
   ·subst hj;rw [hi] at e1;cases e1;rw [uZ hiσ] at e2;cases e2;exact ⟨u,r,.inr ⟨.inl hk,c,hc,hc'⟩⟩
   ·rw [yw (Ne.symm hj)] at e2;obtain ⟨u',r',q⟩:=hl j y v' e1 e2 e3;refine ⟨u',r',?_⟩;rcases q with q|⟨k,c',e,z'⟩
    ·exact .inl q
    ·refine .inr ⟨k,c',e,z'.sameBut hs ?_⟩;rintro rfl;exact hj (YC hN e1 (I.ok.inj _ _ _ e hc▸hi))
  ·by_cases hcc:c'=c
   ·subst hcc;exact ⟨_,hc'⟩
   ·obtain ⟨w2,z2⟩:=I.cell y c' e;exact ⟨w2,z2.sameBut hs hcc⟩
  ·obtain ⟨e,n,ne,nf,d⟩:=I.pin p hp;refine ⟨(hs.2 p.1 ?_).trans e,n,ne,nf,d⟩;intro q;rw [q,hoc] at e;have q':oc=p.2:=Option.some.inj e;exact d w' (by rw [<- q'];exact hocd)
theorem UF {M:Model}{i:Nat}{Q:Unit->Shared->Prop}(I:Inv X pins σ H s)(hN:X.N.Nodup)(hi:X.N[i]?=some x)(hx:Loc X.env.scope x)(r:RelV v u)(h:∀ s',Inv X pins (σ.set i (some v)) H s'->Q () s')(hf:X.fn x=true∨X.env.scope.names.lookup x=some .local:=by first|exact .inl rfl|exact .inr rfl|assumption):wpAny M A (storeName X.env x u) Q E s :=
 UG I hN hi hx r (λs' I' _=>h s' I') hf
theorem Inv.call' (I:Inv X pins σ H s)(ho:s'.os=s.os)(u:Un (frs X.stack) ch H H' s.heap s'.heap)(hok:HOk X.prog X.w H' s'.heap)(hg:AllBare s'.gens)(hch:∀ b∈ch,(b∈X.ex∨X.s₀.heap.objs.size<=b)/\b≠X.env.locals/\(∀ x c,X.env.cells.lookup x=some c->c≠b)/\∀ p∈X.pn++pins,p.1≠b):Inv X pins σ H' s':=by obtain ⟨h',g',d',t',o'⟩:=s';have e:o'=s.os:=ho;subst e;exact I.call (g':=g') (t':=t') (d':=d') u hok hg hch
end
abbrev XK:=Value->Option Addr->Hp->Prop
abbrev St:=List (Option V)
variable{σ:St}
abbrev VK:=V->Hp->Prop
abbrev TE:=St->Hp->VK->Prop
variable{t te:TE}
abbrev TT:=St->Hp->(Bool->Hp->Prop)->Prop
abbrev TA:=St->Hp->(List V->Hp->Prop)->Prop
structure qO where
 nx:St->Hp->Prop
 rt:VK
 bk:St->Hp->Prop:=λ_ _=>False
 ct:St->Hp->Prop:=λ_ _=>False
variable{D:qO}
abbrev TS:=qO->St->Hp->Prop
variable{tb:TS}
def EP (X:Cx)(pins:List (Addr×Obj))(σ:St)(Q:VK)(u:Value)(s':Shared):Prop:=∃ v H',Inv X pins σ H' s'/\RelV v u/\Q v H'
def TP (X:Cx)(pins:List (Addr×Obj))(σ:St)(Q:Bool->Hp->Prop)(b:Bool)(s':Shared):Prop:=∃ H',Inv X pins σ H' s'/\Q b H'
def AP (X:Cx)(pins:List (Addr×Obj))(σ:St)(Q:List V->Hp->Prop)(us:List Value)(s':Shared):Prop:=∃ vs H',Inv X pins σ H' s'/\Vals vs us/\Q vs H'
def SP (X:Cx)(pins:List (Addr×Obj))(D:qO)(f:Flow)(s':Shared):Prop :=
 match f with
 | .next=>∃ σ' H',Inv X pins σ' H' s'/\D.nx σ' H'
 | .brk=>∃ σ' H',Inv X pins σ' H' s'/\D.bk σ' H'
 | .cont=>∃ σ' H',Inv X pins σ' H' s'/\D.ct σ' H'
 | .ret u=>∃ v σ' H',Inv X pins σ' H' s'/\RelV v u/\D.rt v H'
def PE (X:Cx)(e:Expr)(t:TE):Prop :=
 ∀(pins:List (Addr×Obj))(s:Shared)(σ:St)(H:Hp)(Q:VK),Inv X pins σ H s->t σ H Q->wpAny (model X.prog X.w) X.A (eval e X.env) (EP X pins σ Q) X.xe s
def PT (X:Cx)(e:Expr)(t:TT):Prop :=
 ∀(pins:List (Addr×Obj))(s:Shared)(σ:St)(H:Hp)(Q:Bool->Hp->Prop),Inv X pins σ H s->t σ H Q->wpAny (model X.prog X.w) X.A (isTrue e X.env (eval e X.env)) (TP X pins σ Q) X.xe s
def PW (X:Cx)(e:Expr)(t:TT):Prop :=
 ∀(whole:Sem Value)(pins:List (Addr×Obj))(s:Shared)(σ:St)(H:Hp)(Q:Bool->Hp->Prop),Inv X pins σ H s->t σ H Q->wpAny (model X.prog X.w) X.A (isTrue e X.env whole) (TP X pins σ Q) X.xe s
theorem PW.pt {t:TT}(h:PW X e t):PT X e t:=h _
def PA (X:Cx)(es:List Expr)(t:TA):Prop :=
 ∀(pos:Pos)(pins:List (Addr×Obj))(s:Shared)(σ:St)(H:Hp)(Q:List V->Hp->Prop),Inv X pins σ H s->t σ H Q->wpAny (model X.prog X.w) X.A (spliced (backTo pos (starEach es X.env))) (AP X pins σ Q) X.xe s
def PS (X:Cx)(st:Stmt)(t:TS):Prop :=
 ∀(pins:List (Addr×Obj))(s:Shared)(σ:St)(H:Hp)(D:qO),Inv X pins σ H s->t D σ H->wpAny (model X.prog X.w) X.A (exec st X.env) (SP X pins D) X.xe s
def PSs (X:Cx)(st:List Stmt)(t:TS):Prop :=
 ∀(pins:List (Addr×Obj))(s:Shared)(σ:St)(H:Hp)(D:qO),Inv X pins σ H s->t D σ H->wpAny (model X.prog X.w) X.A (execs st X.env) (SP X pins D) X.xe s
theorem z9 {t:Sem α}{Q Q':α->Shared->Prop}{M:Model}(h:wpAny M A t Q E s)(hQ:∀ a s,Q a s->Q' a s):wpAny M A t Q' E s:=wpAny_mono h hQ λ_ _ x=>x
section
variable {X:Cx}
theorem bin {a b:Expr}{ta tb:TE}(ha:PE X a ta)(hb:PE X b tb)(I:Inv X pins σ H s)(h:ta σ H λx H1=>tb σ H1 λy H2=>R x y H2){Q:α->Shared->Prop}{f:Value->Value->Sem α}(hf:∀ v u s2 x y H2,Inv X pins σ H2 s2->RelV x v->RelV y u->R x y H2->wpAny (model X.prog X.w) X.A (f v u) Q X.xe s2):wpAny (model X.prog X.w) X.A (eval a X.env) (λv s₁=>wpAny (model X.prog X.w) X.A (eval b X.env) (λu s₂=>wpAny (model X.prog X.w) X.A (f v u) Q X.xe s₂) X.xe s₁) X.xe s:=by refine z9 (ha pins s σ H _ I h) λv s1 ⟨x,H1,I1,r1,q1⟩=>?_;refine z9 (hb pins s1 σ H1 _ I1 q1) λu s2 ⟨y,H2,I2,r2,q2⟩=>?_;exact hf v u s2 x y H2 I2 r1 r2 q2
def n8 (i:Nat):TE:=λσ H Q=>∃ v,σ[i]?=some (some v)/\Q v H
def tC (v:V):TE:=λ_ H Q=>Q v H
theorem CW {i:Nat}(hN:X.N[i]?=some x)(hv:Vis X.env.scope x)(hd:(x==("__debug__":Str))=false:=by decide)(hcd:(x==("__classdict__":Str))=false:=by decide):PE X (.Name x pos) (n8 i):=by
 intro pins s σ H Q I h;obtain ⟨v,e,h⟩:=h;obtain ⟨m,hn,hl⟩:=I.loc;obtain ⟨u,r,l⟩:=hl i x v hN e hv;have fin:EP X pins σ Q u s:=⟨v,H,I,r,h⟩;rcases l with ⟨hk,hm⟩|⟨hk,c,hc,hcell⟩
 ·exact wpAny_Name (wpAny_loadName_local I.ok.kind hk hn hm fin) hd
 ·rcases hk with hk|hk
  ·exact wpAny_Name (wpAny_loadName_cell I.ok.kind hk hc hcell fin) hd
  ·exact wpAny_Name (wpAny_loadName_free I.ok.kind hk hc hcell fin hcd) hd
theorem x9 {i j pos}:PE X (.Constant (.int i) j pos) (tC (.int i)):=λ_ _ _ H _ I h=>wpAny_Constant_int ⟨.int i,H,I.tok _,⟨_,rfl⟩,h⟩
theorem xh {b j pos}:PE X (.Constant (.bool b) j pos) (tC (.bl b)):=λ_ _ _ H _ I h=>Constant_bool ⟨.bl b,H,I,rfl,h⟩
theorem YI {j pos}:PE X (.Constant .none j pos) (tC .non):=λ_ _ _ H _ I h=>Constant_none ⟨.non,H,I,rfl,h⟩
theorem qL {x j pos}:PE X (.Constant (.str x) j pos) (tC (.str x)):=λ_ _ _ H _ I h=>Calls.Constant_str ⟨.str x,H,I.tok _,⟨_,rfl⟩,h⟩
def Gl (X:Cx)(x:Str):Prop:=X.env.kindOf x=some .globalImplicit
theorem XT (I:Inv X pins σ H s)(hg:Gl X x)(hm:X.mg x=some u)(h:Q u s)(hd:(x==("__debug__":Str))=false:=by decide):wpAny (model X.prog X.w) X.A (eval (.Name x pos) X.env) Q E s :=
 Calls.Name_function_global I.ok.kind hg (Calls.loadGlobal_global (by rw [I.ok.glob];exact I.mod.glob.keeps I.bk) hm h) hd
theorem ze (I:Inv X pins σ H s)(hg:Gl X x)(hm:X.mg x=none)(hv:bootBuiltins x=some u)(h:Q u s)(hn:x ≠ "__name__":=by decide)(hd:(x==("__debug__":Str))=false:=by decide):wpAny (model X.prog X.w) X.A (eval (.Name x pos) X.env) Q E s:=by obtain ⟨mb,h1,h2⟩:=I.mod.blt;exact Calls.Name_function_global I.ok.kind hg (Calls.loadGlobal_builtin (by rw [I.ok.glob];exact I.mod.glob.keeps I.bk) hm (by rw [I.ok.blt];exact h1.keeps I.bk) ((h2 x hn).trans hv) h) hd
theorem QU (hg:Gl X x)(hm:X.mg x=some u)(r:RelV v u)(hd:(x==("__debug__":Str))=false:=by decide):PE X (.Name x pos) (tC v) :=
 λ_ _ _ H _ I h=>XT I hg hm ⟨v,H,I,r,h⟩ hd
theorem qK (hg:Gl X x)(hm:X.mg x=none)(hv:bootBuiltins x=some u)(r:RelV v u)(hn:x ≠ "__name__":=by decide)(hd:(x==("__debug__":Str))=false:=by decide):PE X (.Name x pos) (tC v) :=
 λ_ _ _ H _ I h=>ze I hg hm hv ⟨v,H,I,r,h⟩ hn hd
variable {a b:Expr}{ta tb:TE}{pos:Pos}
def PC (X:Cx)(op:CmpOp)(a b:Expr)(t:TE):Prop :=
 ∀(pins:List (Addr×Obj))(s:Shared)(σ:St)(H:Hp)(Q:VK),Inv X pins σ H s->t σ H Q ->
  wpAny (model X.prog X.w) X.A (eval a X.env) (λv s₁=>wpAny (model X.prog X.w) X.A (eval b X.env) (λu s₂=>wpAny (model X.prog X.w) X.A (compareOp op v u) (EP X pins σ Q) X.xe s₂) X.xe s₁) X.xe s
def tB (t:TE):TT:=λσ H Q=>t σ H λx H1=>∃ c,x = .bl c/\Q c H1
theorem YQ (h:PC X op a b t)(h1:behindInMarks op b=false:=by first|exact nobehind _ (by decide) (by decide)|rfl):PT X (.Compare a [op] [b] pos) (tB t):=by intro pins s σ H Q I hw;refine wpAny_isTrue_Compare1 (z9 (h pins s σ H _ I hw) λv s1 h1=>z9 h1 λu s2 h2=>z9 h2 λc s3 ⟨x,H1,I1,r1,q1⟩=>?_) h1;obtain ⟨d,rfl,q⟩:=q1;cases r1;exact wpAny_truthy_bool ⟨H1,I1,q⟩
variable {tA tB':TT}{rest:List Expr}
def tAnd (t u:TT):TT:=λσ H Q=>t σ H λc H1=>if c=true then u σ H1 Q else Q false H1
def tOr (t u:TT):TT:=λσ H Q=>t σ H λc H1=>if c=true then Q true H1 else u σ H1 Q
def tNot (t:TT):TT:=λσ H Q=>t σ H λc H1=>Q (!c) H1
theorem YU (ha:PT X a tA):PW X (.BoolOp .And [a] pos) tA:=by
 intro wh pins s σ H Q I h;refine isTrue_and (z9 (ha pins s σ H Q I h) λc s1 e=>?_);cases c with
 |true=>exact isTrue_and_nil e
 |false=>exact e
theorem zT (ha:PT X a tA):PW X (.BoolOp .Or [a] pos) tA:=by
 intro wh pins s σ H Q I h;refine isTrue_or (z9 (ha pins s σ H Q I h) λc s1 e=>?_);cases c with
 |false=>exact isTrue_or_nil e
 |true=>exact e
theorem YT (ha:PT X a tA)(hb:PW X (.BoolOp .And (b::rest) pos) tB'):PW X (.BoolOp .And (a::b::rest) pos) (tAnd tA tB'):=by
 intro wh pins s σ H Q I h;refine isTrue_and (z9 (ha pins s σ H _ I h) λc s1 ⟨H1,I1,q1⟩=>?_);cases c with
 |true=>exact hb wh pins s1 σ H1 Q I1 q1
 |false=>exact ⟨H1,I1,q1⟩
theorem xS (ha:PT X a tA)(hb:PW X (.BoolOp .Or (b::rest) pos) tB'):PW X (.BoolOp .Or (a::b::rest) pos) (tOr tA tB'):=by
 intro wh pins s σ H Q I h;refine isTrue_or (z9 (ha pins s σ H _ I h) λc s1 ⟨H1,I1,q1⟩=>?_);cases c with
 |true=>exact ⟨H1,I1,q1⟩
 |false=>exact hb wh pins s1 σ H1 Q I1 q1
theorem qa (ha:PT X a tA):PT X (.UnaryOp .Not a pos) (tNot tA):=by intro pins s σ H Q I h;exact isTrue_not (ha pins s σ H (λc H1=>Q (!c) H1) I h)
def UJ (ta tb:TE):TE:=λσ H Q=>ta σ H λx H1=>∃ c,x = .bl c/\if c=true then tb σ H1 Q else Q (.bl false) H1
def UQ (ta:TE):TE:=λσ H Q=>ta σ H λx H1=>∃ c,x = .bl c/\Q (.bl (!c)) H1
theorem zj {op}(h:PE X a t):PE X (.BoolOp op [a] pos) t:=λpins s σ H Q I hw=>BoolOp_one (h pins s σ H Q I hw)
theorem xP (ha:PE X a ta)(hb:PE X (.BoolOp .And (b::rest) pos) tb):PE X (.BoolOp .And (a::b::rest) pos) (UJ ta tb):=by
 intro pins s σ H Q I h;refine BoolOp_and (z9 (ha pins s σ H _ I h) λv s1 ⟨x,H1,I1,r1,q1⟩=>?_);obtain ⟨c,rfl,q1⟩:=q1;cases r1;refine wpAny_truthy_bool ?_;cases c with
 |true=>exact hb pins s1 σ H1 Q I1 q1
 |false=>exact ⟨.bl false,H1,I1,rfl,q1⟩
theorem YJ (ha:PE X a ta):PE X (.UnaryOp .Not a pos) (UQ ta):=by intro pins s σ H Q I h;refine UnaryOp_ (z9 (ha pins s σ H _ I h) λv s1 ⟨x,H1,I1,r1,q1⟩=>?_);obtain ⟨c,rfl,q1⟩:=q1;cases r1;exact not_of (wpAny_truthy_bool ⟨.bl (!c),H1,I1,rfl,q1⟩)
def tIf (t:TT)(ta tb:TE):TE:=λσ H Q=>t σ H λc H1=>if c=true then ta σ H1 Q else tb σ H1 Q
theorem Zk (hc:PT X c tA)(ha:PE X a ta)(hb:PE X b tb):PE X (.IfExp c a b pos) (tIf tA ta tb):=by
 intro pins s σ H Q I h;refine wpAny_IfExp (z9 (hc pins s σ H _ I h) λd s1 ⟨H1,I1,q1⟩=>?_);cases d with
 |true=>exact ha pins s1 σ H1 Q I1 q1
 |false=>exact hb pins s1 σ H1 Q I1 q1
end
def SqL (K:Fg)(H:Hp)(a:Addr)(xs:List V):Prop :=
 Rd H a (.lst xs) ∨
  ∃ (o:Obj) (its:Array Value) (n:Nat),K.lookup a=some o/\o.cls = .type "list"/\o.dict=none/\o.data = .seq its n/\its.size<=sizeLine/\Vals xs its.toList
def SqT (K:Fg)(H:Hp)(a:Addr)(xs:List V):Prop :=
 Rd H a (.tup xs) ∨
  ∃ (o:Obj) (its:Array Value) (n:Nat),K.lookup a=some o/\o.cls = .type "tuple"/\o.data = .seq its n/\its.size<=sizeLine/\Vals xs its.toList
def absV:Value->Option V
 | .none=>some .non
 | .bool b=>some (.bl b)
 | .int i _=>some (.int i)
 | .str x _=>some (.str x)
 | .bytes b _=>some (.byt b)
 | .float b _=>some (.flt b)
 | .ref a=>some (.ref a)
 | .type n=>some (.ty n)
 |_=>none
theorem RelV.abs {x:V}(r:RelV x u):absV u=some x:=by
 cases x with
 |non=>cases r;rfl
 |bl _=>cases r;rfl
 |int _=>obtain ⟨t,rfl⟩:=r;rfl
 |str _=>obtain ⟨t,rfl⟩:=r;rfl
 |byt _=>obtain ⟨t,rfl⟩:=r;rfl
 |flt _=>obtain ⟨t,rfl⟩:=r;rfl
 |ref _=>cases r;rfl
 |ty _=>cases r;rfl
theorem RelV.inj {x:V}(r:RelV x u)(q:RelV y u):x=y:=Option.some.inj (r.abs.symm.trans q.abs)
theorem Vals.inj:∀{xs ys:List V}{us:List Value},Vals xs us->Vals ys us->xs=ys
 |_,_,_,.nil,.nil=>rfl
 |_,_,_,.cons r t,.cons r' t'=>by rw [r.inj r',Vals.inj t t']
section
variable {X:Cx}{pins:List (Addr×Obj)}{σ:St}{H:Hp}{s:Shared}{a:Addr}{xs ys:List V}
theorem SqL.of (h:H a=some (.lst xs)):SqL K H a xs:= .inl (.inl h)
theorem SqT.of (h:H a=some (.tup xs)):SqT K H a xs:= .inl (.inl h)
theorem Inv.list (I:Inv X pins σ H s)(h:SqL X.K H a xs):∃ its:List Value,Vals xs its/\PlainL s.heap a its.toArray/\xs.length<=sizeLine:=by
 rcases h with h|⟨o,its,n,hk,hc,hd,hs,hz,r⟩
 ·obtain ⟨z,its,n,r,e⟩:=h.ok I.hok;exact ⟨its,r,⟨_,n,e,rfl,rfl,rfl⟩,z⟩
 ·refine ⟨its.toList,r,⟨o,n,I.kIn a o hk,hc,hd,by simpa using hs⟩,?_⟩;have e:=r.length;simp only [Array.length_toList] at e;omega
theorem Inv.tuple (I:Inv X pins σ H s)(h:SqT X.K H a xs):∃ its:List Value,Vals xs its/\IsTup s.heap a its.toArray/\xs.length<=sizeLine:=by
 rcases h with h|⟨o,its,n,hk,hc,hs,hz,r⟩
 ·obtain ⟨z,its,r,p⟩:=h.ok I.hok;exact ⟨its,r,p,z⟩
 ·refine ⟨its.toList,r,⟨o,I.kIn a o hk,hc,n,by simpa using hs⟩,?_⟩;have e:=r.length;simp only [Array.length_toList] at e;omega
theorem Inv.list_inj (I:Inv X pins σ H s)(h:SqL X.K H a xs)(h':SqL X.K H a ys):xs=ys:=by
 obtain ⟨its,r,⟨o,n,e,_,_,d⟩,_⟩:=I.list h;obtain ⟨its',r',⟨o',n',e',_,_,d'⟩,_⟩:=I.list h';rw [e] at e';cases e';rw [d] at d';injection d' with d1 _;have:its=its':=by simpa using congrArg Array.toList d1
 subst this;exact r.inj r'
theorem Inv.tuple_inj (I:Inv X pins σ H s)(h:SqT X.K H a xs)(h':SqT X.K H a ys):xs=ys:=by
 obtain ⟨its,r,⟨o,e,_,n,d⟩,_⟩:=I.tuple h;obtain ⟨its',r',⟨o',e',_,n',d'⟩,_⟩:=I.tuple h';rw [e] at e';cases e';rw [d] at d';injection d' with d1 _;have:its=its':=by simpa using congrArg Array.toList d1
 subst this;exact r.inj r'
end
abbrev Cx.wish (X:Cx)(E:Value->Shared->Prop):Cx:={ X with xe:=E }
abbrev Cx.nox (X:Cx):Cx:=X.wish λ_ _=>False
theorem Cx.Ok.wish (ok:X.Ok)(E:Value->Shared->Prop):(X.wish E).Ok :=
 ⟨ok.mod,ok.kind,ok.glob,ok.blt,ok.above,ok.inj,ok.has,ok.cab,ok.hd,ok.frames,ok.stk,ok.exf,ok.bs,ok.bsz,ok.noex,ok.exfs,ok.funs,ok.frf,ok.tbs⟩
theorem Cx.Ok.unwish (ok:(X.wish E).Ok):X.Ok :=
 ⟨ok.mod,ok.kind,ok.glob,ok.blt,ok.above,ok.inj,ok.has,ok.cab,ok.hd,ok.frames,ok.stk,ok.exf,ok.bs,ok.bsz,ok.noex,ok.exfs,ok.funs,ok.frf,ok.tbs⟩
section
variable {X:Cx}{pins:List (Addr×Obj)}{σ:St}{H:Hp}{s:Shared}{E:Value->Shared->Prop}
theorem Inv.wish (I:Inv X pins σ H s)(E:Value->Shared->Prop):Inv (X.wish E) pins σ H s:=⟨I.ok.wish E,I.os,I.bare,I.base,I.loc,I.cell,I.free,I.freeC,I.pin,I.hok,I.len⟩
theorem Inv.unwish (I:Inv (X.wish E) pins σ H s):Inv X pins σ H s:=⟨I.ok.unwish,I.os,I.bare,I.base,I.loc,I.cell,I.free,I.freeC,I.pin,I.hok,I.len⟩
theorem SP.unwish {f:Flow}(h:SP (X.wish E) pins D f s'):SP X pins D f s':=by
 cases f with
 |next=>obtain ⟨σ',H',I,q⟩:=h;exact ⟨σ',H',I.unwish,q⟩
 |brk=>obtain ⟨σ',H',I,q⟩:=h;exact ⟨σ',H',I.unwish,q⟩
 |cont=>obtain ⟨σ',H',I,q⟩:=h;exact ⟨σ',H',I.unwish,q⟩
 |ret u=>obtain ⟨v,σ',H',I,r,q⟩:=h;exact ⟨v,σ',H',I.unwish,r,q⟩
theorem PSs.nox {st:List Stmt}{t:TS}(h:PSs X.nox st t):PSs X st t:=λpins s σ H D I hw =>
 wpAny_mono (h pins s σ H D (I.wish _) hw) (λ_ _ q=>q.unwish) λ_ _ z=>False.elim z
end
section
variable {X:Cx}{st:Stmt}{rest:List Stmt}{t u:TS}{e:Expr}{te:TE}{pos:Pos}
def JH:TS:=λD σ H=>D.nx σ H
def tSeq (t u:TS):TS:=λD σ H=>t { D with nx:=u D } σ H
theorem m3:PSs X [] JH:=λ_ _ σ H _ I h=>wpAny_execs_nil ⟨σ,H,I,h⟩
theorem j3 (h1:PS X st t)(h2:PSs X rest u):PSs X (st::rest) (tSeq t u):=by
 intro pins s σ H D I h;refine wpAny_execs_cons (z9 (h1 pins s σ H { D with nx:=u D } I h) λf s1 q=>?_);cases f with
 |next=>obtain ⟨σ',H',I',q⟩:=q;exact h2 pins s1 σ' H' D I' q
 |ret v=>exact q
 |brk=>exact q
 |cont=>exact q
theorem j4 (h1:PS X st t):PSs X [st] t:=by
 intro pins s σ H D I h;refine wpAny_execs_cons (z9 (h1 pins s σ H D I h) λf s1 q=>?_);cases f with
 |next=>exact wpAny_execs_nil q
 |ret v=>exact q
 |brk=>exact q
 |cont=>exact q
theorem Inv.quiet (I:Inv X pins σ H s):interactive X.env=false:=by simp [interactive,I.ok.kind]
def jL (te:TE):TS:=λD σ H=>te σ H λ_ H1=>D.nx σ H1
theorem xR (he:PE X e te)(hs:swapsWith e none pos.line X.env=pure false:=by rfl):PS X (.Expr e pos) (jL te):=by intro pins s σ H D I h;exact wpAny_Expr_any (z9 (he pins s σ H _ I h) λv s1 ⟨x,H1,I1,r1,q1⟩=>⟨σ,H1,I1,q1⟩) I.quiet hs
def wS (te:TE):TS:=λD σ H=>te σ H D.rt
theorem w6 (he:PE X e te):PS X (.Return (some e) pos) (wS te):=by intro pins s σ H D I h;exact wpAny_Return_some (z9 (he pins s σ H _ I h) λv s1 ⟨x,H1,I1,r1,q1⟩=>⟨x,σ,H1,I1,r1,q1⟩)
def tIfS (c:TT)(t u:TS):TS:=λD σ H=>c σ H λb H1=>if b=true then t D σ H1 else u D σ H1
theorem c6 {a b:List Stmt}{tc:TT}(hc:PT X c tc)(ha:PSs X a t)(hb:PSs X b u):PS X (.If c a b pos) (tIfS tc t u):=by
 intro pins s σ H D I h;refine wpAny_If (z9 (hc pins s σ H _ I h) λd s1 ⟨H1,I1,q1⟩=>?_);cases d with
 |true=>exact ha pins s1 σ H1 D I1 q1
 |false=>exact hb pins s1 σ H1 D I1 q1
def UO:TS:=λ_ _ _=>False
theorem xB:PS X st UO:=λ_ _ _ _ _ _ h=>h.elim
end
abbrev TG:=V->St->Hp->(St->Hp->Prop)->Prop
variable{g:TG}
abbrev TGs:=List V->St->Hp->(St->Hp->Prop)->Prop
def PG (X:Cx)(target:Expr)(t:TG):Prop :=
 ∀(pins:List (Addr×Obj))(s:Shared)(σ:St)(H:Hp)(v:V)(u:Value)(Q:St->Hp->Prop),Inv X pins σ H s->RelV v u->t v σ H Q ->
  wpAny (model X.prog X.w) X.A (assign target X.env u) (λ_ s'=>∃ σ' H',Inv X pins σ' H' s'/\Q σ' H') X.xe s
def PGs (X:Cx)(ts:List Expr)(t:TGs):Prop :=
 ∀(pins:List (Addr×Obj))(s:Shared)(σ:St)(H:Hp)(vs:List V)(us:List Value)(Q:St->Hp->Prop),Inv X pins σ H s->Vals vs us->t vs σ H Q ->
  wpAny (model X.prog X.w) X.A (assignInOrder ((assignEach ts X.env).map (·.2)) us) (λ_ s'=>∃ σ' H',Inv X pins σ' H' s'/\Q σ' H') X.xe s
abbrev TSet:=V->V->V->Hp->(Hp->Prop)->Prop
def PSet (X:Cx)(t:TSet):Prop :=
 ∀(pins:List (Addr×Obj))(s:Shared)(σ:St)(H:Hp)(o i v:V)(ov iv u:Value)(Q:Hp->Prop),Inv X pins σ H s->RelV o ov->RelV i iv->RelV v u->t o i v H Q ->
  wpAny (model X.prog X.w) X.A (setItem ov iv u) (λ_ s'=>∃ H',Inv X pins σ H' s'/\Q H') X.xe s
section
variable {X:Cx}{pos:Pos}
def e7 (i:Nat):TG:=λv σ H Q=>Q (σ.set i (some v)) H
theorem g7 {i:Nat}(hN:X.N.Nodup)(hi:X.N[i]?=some x)(hx:Loc X.env.scope x)(hf:X.fn x=true∨X.env.scope.names.lookup x=some .local:=by first|exact .inl rfl|exact .inr rfl|assumption):PG X (.Name x pos) (e7 i):=by intro pins s σ H v u Q I r h;exact wpAny_assign_Name (UF I hN hi hx r (λs' I'=>⟨_,H,I',h⟩) hf)
def gNil:TGs:=λvs σ H Q=>vs=[]/\Q σ H
def XG (t:TG)(u:TGs):TGs:=λvs σ H Q=>∃ v r,vs=v::r/\t v σ H λσ' H'=>u r σ' H' Q
theorem wE:PGs X [] gNil:=by intro pins s σ H vs us Q I r h;obtain ⟨e,h⟩:=h;subst e;cases r;exact assignInOrder_nil ⟨σ,H,I,h⟩
theorem xQ {t:TG}{u:TGs}(h1:PG X e t)(h2:PGs X es u)(hs:(assignEach (e::es) X.env).map (·.2)=assign e X.env::(assignEach es X.env).map (·.2):=by rfl):PGs X (e::es) (XG t u):=by
 intro pins s σ H vs us Q I r h;obtain ⟨v,vr,e1,h⟩:=h;subst e1;cases r with
 |cons r rr=>rw [hs];refine assignInOrder_cons (z9 (h1 pins s σ H _ _ _ I r h) λ_ s1 ⟨σ1,H1,I1,q1⟩=>?_);exact h2 pins s1 σ1 H1 _ _ Q I1 rr q1
def gTup (K:Fg)(n:Nat)(t:TGs):TG:=λv σ H Q=>∃ a xs,v = .ref a/\SqT K H a xs/\xs.length=n/\t xs σ H Q
theorem CY {k:Nat}{t:TGs}(hc:X.calm=true)(h:PGs X es t)(hn:(assignEach es X.env).length=n:=by rfl)(hst:(assignEach es X.env).findIdx? (·.1)=none:=by rfl):PG X (.Tuple es k pos) (gTup X.K n t):=by intro pins s σ H v u Q I r hw;obtain ⟨a,xs,e1,hq,hl,hw⟩:=hw;subst e1;cases r;obtain ⟨its,rv,ht,hz⟩:=I.tuple hq;refine assign_Tuple_tuple (I.ok.hd hc) ht (by simp [hn,<- hl,rv.length]) hst λh' hx=>?_;have I1:Inv X pins σ H { s with heap:=h' }:=I.kept (t':=s.toks) λb o e=>hx b o (yL (yS e)) e;exact h pins _ σ H xs _ Q I1 (by simpa using rv) hw
def gSub (to ti:TE)(t:TSet):TG:=λv σ H Q=>to σ H λo H1=>ti σ H1 λi H2=>t o i v H2 λH3=>Q σ H3
theorem YK {o i:Expr}{to ti:TE}{t:TSet}(ho:PE X o to)(hi:PE X i ti)(hs:PSet X t)
  (ha:∀ v,assign (.Subscript o i pos) X.env v=(do
   let ov <- holding [v] (eval o X.env)
   let iv <- holding [v,ov] (eval i X.env)
   standAt pos
   holding [v,ov,iv] (setItem ov iv v)
   release [v,ov,iv] []):=by intro _;rfl):PG X (.Subscript o i pos) (gSub to ti t):=by
 intro pins s σ H v u Q I r h;rw [ha];refine yW (wpAny_holding (z9 (ho pins s σ H _ I h) λov s1 ⟨x,H1,I1,r1,q1⟩=>?_));refine yW (wpAny_holding (z9 (hi pins s1 σ H1 _ I1 q1) λiv s2 ⟨y,H2,I2,r2,q2⟩=>?_));refine yW (wpAny_standAt (yW (wpAny_holding (z9 (hs pins s2 σ H2 x y v ov iv u _ I2 r1 r2 r q2) λ_ s3 ⟨H3,I3,q3⟩=>?_))));exact wpAny_release ⟨σ,H3,I3,q3⟩
def xU (te:TE)(g:TG):TS:=λD σ H=>te σ H λx H1=>g x σ H1 D.nx
theorem Zs (he:PE X e te)(hg:PG X tg g)(hs:swapsWithSole [tg] e pos.line X.env=pure false:=by rfl)(hw:swappedStores [tg] e X.env=pure none:=by rfl)(h1:(assignEach [tg] X.env).map (·.2)=[assign tg X.env]:=by rfl):PS X (.Assign [tg] e pos) (xU te g):=by intro pins s σ H D I h;refine wpAny_Assign_stores (z9 (he pins s σ H _ I h) λv s1 ⟨x,H1,I1,r1,q1⟩=>?_) hs hw;rw [h1];exact z9 (hg pins s1 σ H1 x v _ I1 r1 q1) λ_ s2 q=>q
theorem i5 {i:Nat}{x:Str}{e:Expr}{te:TE}{pos':Pos}(hN:X.N.Nodup)(hi:X.N[i]?=some x)(hx:Loc X.env.scope x)(he:PE X e te)(hs:swapsWith e (some (.Name x pos')) pos.line X.env=pure false:=by rfl)(hf:X.fn x=true∨X.env.scope.names.lookup x=some .local:=by first|exact .inl rfl|exact .inr rfl|assumption):PS X (.Assign [.Name x pos'] e pos) (xU te (e7 i)):=by intro pins s σ H D I h;refine wpAny_Assign_Name (z9 (he pins s σ H _ I h) λv s1 ⟨y,H1,I1,r1,q1⟩=>?_) hs;exact UF I1 hN hi hx r1 (λs2 I2=>⟨_,H1,I2,q1⟩) hf
end
structure It where
 go:Nat->Hp->Prop
 yld:Nat->Hp->V->Hp->Prop
 stop:Nat->Hp->Prop
def qq (X:Cx)(pins:List (Addr×Obj))(H:Hp)(b:Addr):Prop :=
 H b=none/\b≠X.env.locals/\b∉X.fs/\(b∈X.ex∨X.s₀.heap.objs.size<=b)/\(∀ x c,X.env.cells.lookup x=some c->c≠b)/\∀ p∈X.pn++pins,p.1≠b
theorem Inv.fpOk {H':Hp}(I:Inv X pins σ H s)(hb:s.heap.objs.size<=b)(hn:H' b=none):qq X pins H' b:=by
 refine ⟨hn,Nat.ne_of_gt (yE I.lt hb),I.nofs hb,.inr (yf I.sz hb),λx c e z=>?_,λp hp z=>?_⟩
 ·obtain ⟨v,q⟩:=I.cell x c e;exact absurd (yE q.lt (by rw [z];exact hb)) (yc _)
 ·exact absurd (yE (yS (I.pin p hp).1) (by rw [z];exact hb)) (yc _)
structure zv (P:Program)(w:World)(K:Fg)(tg:Expr)(J:It)(fp:List Addr)(it:Addr)(tn:Nat->Heap->Prop):Prop where
 mem:it∈fp
 obj:∀ i h,tn i h->∀ b∈fp,∃ o,h.get? b=some o/\∀ v,o.data ≠ .cell v
 keep:∀ i h h',tn i h->(∀ b∈fp,∀ o,h.get? b=some o->h'.get? b=some o)->tn i h'
 item:∀(X:Cx),X.prog=P->X.w=w->X.K=K->X.calm=true->∀(i:Nat)(pins:List (Addr×Obj))(s:Shared)(σ:St)(H:Hp)(E:Value->Shared->Prop),Inv X pins σ H s->(∀ b∈fp,qq X pins H b)->tn i s.heap->J.go i H ->
  wpAny (model P w) X.A (pyNext (.ref it)) (λr s1=>∃ u,r=some u /\
   wpAny (model P w) X.A (letOwnedTupleGo tg (.ref it) u) (λ_ s2=>∃ x H',Inv X pins σ H' s2/\RelV x u/\J.yld i H x H'/\tn (i+1) s2.heap/\∀ b∈fp,H' b=none) E s1) E s
 done:∀(X:Cx),X.prog=P->X.w=w->X.K=K->X.calm=true->∀(i:Nat)(pins:List (Addr×Obj))(s:Shared)(σ:St)(H:Hp)(E:Value->Shared->Prop),Inv X pins σ H s->(∀ b∈fp,qq X pins H b)->tn i s.heap->J.stop i H ->
  wpAny (model P w) X.A (pyNext (.ref it)) (λr s1=>r=none/\Inv X pins σ H s1) E s
 self:∀(A:Around)(i:Nat)(s:Shared)(Q:Value->Shared->Prop)(E:Value->Shared->Prop),tn i s.heap->Q (.ref it) s->wpAny (model P w) A (pyIter (.ref it)) Q E s
abbrev TI:=St->Hp->(It->Hp->Prop)->Prop
def PIE (X:Cx)(pins:List (Addr×Obj))(σ:St)(tg:Expr)(R:It->Hp->Prop)(itv:Value)(s2:Shared):Prop :=
 ∃(it:Addr)(fp:List Addr)(tn:Nat->Heap->Prop)(J:It)(H':Hp),itv = .ref it/\Inv X pins σ H' s2/\zv X.prog X.w X.K tg J fp it tn/\tn 0 s2.heap/\(∀ b∈fp,qq X pins H' b)/\R J H'
def PI (X:Cx)(tg iter:Expr)(wi:TI):Prop :=
 ∀(pins:List (Addr×Obj))(s:Shared)(σ:St)(H:Hp)(R:It->Hp->Prop),Inv X pins σ H s->wi σ H R ->
  wpAny (model X.prog X.w) X.A (eval iter X.env) (λv s1=>wpAny (model X.prog X.w) X.A (pyIter v) (PIE X pins σ tg R) X.xe s1) X.xe s
theorem XI {M:Model}{o:Obj}{n:String}{vs:Array Value}{Q:Unit->Shared->Prop}(ho:s.heap.get? it=some o)(hc:o.cls = .type n)(hd:o.data = .fields vs)(hn:["enumerate","zip","dict_itemiterator","dict_reverseitemiterator","odict_iterator","itertools.zip_longest","itertools.pairwise"].contains n=false)(hQ:Q () s):wpAny M A (letOwnedTupleGo tg (.ref it) u) Q E s:=by
  unfold letOwnedTupleGo;cases tg<;>first
    |exact yJ hQ
    | (cases u <;> first
        |exact yJ hQ
        | (refine yW (wpAny_load ho ?_)
           rw [hc,hd];show wpAny M A (if (["enumerate","zip","dict_itemiterator","dict_reverseitemiterator","odict_iterator","itertools.zip_longest","itertools.pairwise"].contains n&&vs[0]?==some (rawInt _))=true then _ else _) Q E s;rw [if_neg (by intro h;rw [hn,Bool.false_and] at h;cases h)];exact yJ hQ))
def Itl (K:Fg)(a:Addr):It :=
 ⟨λi H=>∃ xs x,SqL K H a xs/\xs[i]?=some x,λi H x H'=>H'=H/\∀ xs,SqL K H a xs->xs[i]?=some x,λi H=>∃ xs,SqL K H a xs/\xs.length<=i⟩
def Itr (lo:Int)(n:Nat):It:=⟨λi _=>i<n,λi H x H'=>H'=H/\x = .int (lo+i),λi _=>n<=i⟩
theorem MU (a it:Addr):zv P w K tg (Itl K a) [it] it (λi h=>h.IsListIter it a i) where
 mem:=by simp
 obj:=λi h st b hb=>by
  have e:b=it:=by simpa using hb
  subst e;obtain ⟨o,e,c,d⟩:=st;exact ⟨o,e,λv z=>by rw [d] at z;cases z⟩
 keep:=λi h h' st k=>st.at λo e=>k it (by simp) o e
 item:=by intro X hP hw hK hc i pins s σ H E I hf st hg;subst hP hw hK;obtain ⟨xs,x,hq,hx⟩:=hg;obtain ⟨its,rv,p,hz⟩:=I.list hq;obtain ⟨u,hu,ru⟩:=rv.get hx;obtain ⟨f0,f1,f2,f3,f4,f5⟩:=hf it (by simp);refine wpAny_pyNext_list_item st p.isList (x:=u) (by simpa using hu) λh' st' sb=>?_;have I1:Inv X pins σ H { s with heap:=h' }:=I.turned (t':=s.toks) (λb o hb e=>(sb.2 b hb).trans e) f0 f1 f3 f4 f5;obtain ⟨o,e,c,d⟩:=id st';exact ⟨u,rfl,XI (s:={ s with heap:=h' }) e c d (by decide) ⟨x,H,I1,ru,⟨rfl,λys hy=>by rw [I.list_inj hy hq];exact hx⟩,st',λb hb=>(hf b hb).1⟩⟩
 done:=by intro X hP hw hK hc i pins s σ H E I hf st hg;subst hP hw hK;obtain ⟨xs,hq,hx⟩:=hg;obtain ⟨its,rv,p,hz⟩:=I.list hq;obtain ⟨f0,f1,f2,f3,f4,f5⟩:=hf it (by simp);have hl:=rv.length;exact wpAny_pyNext_list_end (I.ok.hd hc) st p.isList (by simp;omega) λh' eb=>⟨rfl,I.turned (t':=s.toks) (λb o hb e=>eb b o hb e) f0 f1 f3 f4 f5⟩
 self:=λ_ _ _ _ _ st h=>wpAny_pyIter_listiter st h
theorem MV (it:Addr)(lo:Int)(n:Nat):zv P w K tg (Itr lo n) [it] it (λi h=>IsRangeIter h it (lo+(i:Nat)*1) ((n:Int)-(i:Nat)) 1) where
 mem:=by simp
 obj:=λi h st b hb=>by
  have e:b=it:=by simpa using hb
  subst e;exact ⟨_,st,λv z=>by
   have z':Data.fields _=Data.cell v:=z;cases z'⟩
 keep:=λi h h' st k=>k it (by simp) _ st
 item:=by intro X hP hw hK hc i pins s σ H E I hf st hg;subst hP hw hK;obtain ⟨f0,f1,f2,f3,f4,f5⟩:=hf it (by simp);have W:=Walks.range (prog:=X.prog) (w:=X.w) (I.ok.hd hc) it lo 1 n;refine W.item i s _ _ hg st λv h' tk hv st' kk=>?_;obtain ⟨t,rfl⟩:=hv;have I1:Inv X pins σ H { s with heap:=h',toks:=tk }:=I.turned (λb o hb e=>kk b o (by simpa using hb) e) f0 f1 f3 f4 f5;refine ⟨_,rfl,XI (s:={ s with heap:=h',toks:=tk }) (n:="range_iterator") st' rfl rfl (by decide) ⟨.int (lo+i),H,I1,⟨t,?_⟩,⟨rfl,rfl⟩,st',λb hb=>(hf b hb).1⟩⟩;rw [Int.mul_one]
 done:=by intro X hP hw hK hc i pins s σ H E I hf st hg;subst hP hw hK;obtain ⟨f0,f1,f2,f3,f4,f5⟩:=hf it (by simp);exact wpAny_pyNext_range_end (I.ok.hd hc) st (by have:n<=i:=hg;omega) λh' eb=>⟨rfl,I.turned (t':=s.toks) (λb o hb e=>eb b o hb e) f0 f1 f3 f4 f5⟩
 self:=λ_ _ _ _ _ st h=>wpAny_pyIter_rangeiter st h
section
variable {X:Cx}{tg:Expr}
def Qs (K:Fg)(tl:TE):TI:=λσ H R=>tl σ H λx H1=>∃ a,x = .ref a/\(∃ xs,SqL K H1 a xs)/\R (Itl K a) H1
theorem Db {l:Expr}{tl:TE}(hl:PE X l tl):PI X tg l (Qs X.K tl):=by
 intro pins s σ H R I h;refine z9 (hl pins s σ H _ I h) λv s1 ⟨x,H1,I1,r1,q1⟩=>?_;obtain ⟨a,e,⟨xs,hq⟩,q⟩:=q1;subst e;cases r1;obtain ⟨its,rv,p,hz⟩:=I1.list hq;refine wpAny_pyIter_list p.isList ?_;refine ⟨s1.heap.objs.size,[s1.heap.objs.size],_,_,H1,rfl,I1.kept (t':=s1.toks) λb o e=>yX _ e,MU a _,⟨_,yG _ rfl,rfl,rfl⟩,λb hb=>?_,q⟩;have e:b=s1.heap.objs.size:=by simpa using hb
 subst e;exact I1.fpOk (yU _) (I1.hok.fresh (yU _))
theorem Dt {R:It->Hp->Prop}{hi:Int}{t u v:Tok}{tk:Nat}(I:Inv X pins σ H s)(h1:-(2 ^ 62)<=lo)(h2:lo<2 ^ 62)(h3:-(2 ^ 62)<=hi)(h4:hi<2 ^ 62)(q:R (Itr lo (hi-lo).toNat) H):wpAny (model X.prog X.w) X.A (pyIter (.ref s.heap.objs.size)) (PIE X pins σ tg R) E { s with heap:=s.heap.push { cls:= .type "range",data:= .fields #[.int lo t,.int hi u,.int 1 v] },toks:=tk }:=by
 refine wpAny_pyIter_range (IsRange.new ..) (small_one h1 h2 h3 h4) ?_;have I1:Inv X pins σ H { s with heap:=s.heap.push { cls:= .type "range",data:= .fields #[.int lo t,.int hi u,.int 1 v] },toks:=tk }:=I.kept λb o e=>yX _ e;refine ⟨(s.heap.push { cls:= .type "range",data:= .fields #[.int lo t,.int hi u,.int 1 v] }).objs.size,[(s.heap.push { cls:= .type "range",data:= .fields #[.int lo t,.int hi u,.int 1 v] }).objs.size],_,_,H,rfl,
  I1.kept (t':=tk) λb o e=>yX _ e,MV _ lo (hi-lo).toNat,?_,λb hb=>?_,q⟩
 ·have e1:lo+((0:Nat):Int)*1=lo:=by simp
  have e2:(((hi-lo).toNat:Nat):Int)-((0:Nat):Int)=Builtin.Range.rangeSize lo hi 1:=by rw [rangeSize_one];split<;>omega
  show IsRangeIter _ _ (lo+((0:Nat):Int)*1) ((((hi-lo).toNat:Nat):Int)-((0:Nat):Int)) 1;rw [e1,e2];exact yG _ rfl
 ·have e:b=(s.heap.push { cls:= .type "range",data:= .fields #[.int lo t,.int hi u,.int 1 v] }).objs.size:=by simpa using hb
  subst e;exact I1.fpOk (yU _) (I1.hok.fresh (yU _))
def jq (ta:TA):TI:=λσ H R=>ta σ H λvs H1=>∃ j:Int,vs=[.int j]/\-(2 ^ 62)<=j/\j<2 ^ 62/\R (Itr 0 j.toNat) H1
theorem xz {a:Expr}{ta:TA}{p:Pos}(hg:Gl X "range")(hm:X.mg "range"=none)(ha:PA X [a] ta)(hs:starEach [a] X.env=[(false,eval a X.env)]:=by rfl):PI X tg (.Call (.Name "range" p) [a] [] pos) (jq ta):=by
 intro pins s σ H R I h;refine Call_ (ze I hg hm boot_range (PyProof.Rows.callWith_type1 (z9 (ha pos pins s σ H _ I h) λus s1 ⟨vs,H1,I1,r1,q1⟩=>?_) hs rfl));obtain ⟨j,e,q1,q2,q⟩:=q1;subst e;cases r1 with
 |cons r rr=>cases rr;obtain ⟨t,rfl⟩:=r;exact call_range_1 (Dt I1 (by omega) (by omega) q1 q2 (by simpa using q))
def tFor (wi:TI)(g:TG)(tb:TS):TS:=λD σ H=>wi σ H λJ H1=>∃ W:Nat->Nat->St->Hp->Prop,(∃ m,W 0 m σ H1)/\∀ i m σ H,W i m σ H ->
 (J.stop i H/\D.nx σ H)∨(J.go i H/\∃ N:St->Hp->Prop,(∀ σ' H',N σ' H'->∃ m',m'<m/\W (i+1) m' σ' H')/\∀ x H',J.yld i H x H'->g x σ H' λσ2 H2=>tb { D with nx:=N,ct:=N,bk:=D.nx } σ2 H2)
def wF (fp:List Addr)(h:Heap):List (Addr×Obj):=fp.filterMap λb=>(h.get? b).map λo=>(b,o)
theorem QN {o:Obj}(hb:b∈fp)(e:h.get? b=some o):(b,o)∈wF fp h:=List.mem_filterMap.mpr ⟨b,hb,by rw [e];rfl⟩
theorem Ph {p:Addr×Obj}(hp:p∈wF fp h):p.1∈fp/\h.get? p.1=some p.2:=by
 obtain ⟨b,hb,e⟩:=List.mem_filterMap.mp hp;cases q:h.get? b with
 |none=>rw [q] at e;cases e
 |some o=>rw [q] at e;have e':(b,o)=p:=Option.some.inj e;subst e';exact ⟨hb,q⟩
theorem Inv.pinned (I:Inv X pins σ H s)(hf:∀ b∈fp,qq X pins H b)(ho:∀ b∈fp,∃ o,s.heap.get? b=some o/\∀ v,o.data ≠ .cell v):Inv X (pins++wF fp s.heap) σ H s :=
 I.pins_of λp hp=>(yo.mp hp).elim (λz=>I.pin p (yv _ z)) λz=>by
  obtain ⟨hb,e⟩:=Ph z;obtain ⟨f0,f1,f2,_⟩:=hf p.1 hb;obtain ⟨o,e',d⟩:=ho p.1 hb;rw [e] at e';cases e';exact ⟨e,f0,f1,f2,d⟩
theorem Inv.unpinned {pl:List (Addr×Obj)}(I:Inv X (pins++pl) σ H s):Inv X pins σ H s:=I.pins_of λp hp=>I.pin p (yv _ (uT _ hp))
theorem qC {iter:Expr}{wi:TI}(hp:PassesOwn (model X.prog X.w) X.A X.env X.xe)(hc:X.calm=true)(hi:PI X tg iter wi)(hg:PG X tg g)(hb:PSs X body tb)(hs:∀ x,foldedSetIterable iter X.env x=pure x:=by intro _;rfl):PS X (.For tg iter body [] pos) (tFor wi g tb):=by
 intro pins s σ H D I h;refine wpAny_For (z9 (hi pins s σ H _ I h) λv s1 h1=>z9 h1 λitv s2 h2=>?_) hs;obtain ⟨it,fp,tn,J,H2,e,I2,T,st2,f2,W,⟨m0,w0⟩,turn⟩:=h2;subst e
 -- what stays true of the iterator's objects through the loop
 have stat:∀{H':Hp},(∀ b∈fp,H' b=none)->∀ b∈fp,qq X pins H' b:=λhn b hb=>⟨hn b hb,(f2 b hb).2⟩;refine codeAny_forLoop_any (λn s'=>∃ i σ' H',Inv X pins σ' H' s'/\tn i s'.heap/\(∀ b∈fp,H' b=none)/\W i n σ' H') ?_ m0 ⟨0,σ,H2,I2,st2,λb hb=>(f2 b hb).1,w0⟩;rintro n s3 ⟨i,σ3,H3,I3,st3,fr3,w3⟩;rcases turn i n σ3 H3 w3 with ⟨stop,qn⟩|⟨go,N,hN,step⟩
 ·refine wpAny_passesOwn hp (z9 (T.done X rfl rfl rfl hc i pins s3 σ3 H3 X.xe I3 (stat fr3) st3 stop) λr s4 ⟨hr,I4⟩=>?_);subst hr;exact wpAny_execs_nil ⟨σ3,H3,I4,qn⟩
 ·refine wpAny_passesOwn hp (z9 (T.item X rfl rfl rfl hc i pins s3 σ3 H3 X.xe I3 (stat fr3) st3 go) λr s4 ⟨u,hr,h4⟩=>?_);subst hr;refine wpAny_passesOwn hp (z9 h4 λ_ s5 ⟨x,H5,I5,r5,y5,st5,fr5⟩=>?_);have I5':=I5.pinned (stat fr5) (T.obj _ _ st5);refine wpAny_passesOwn hp (z9 (hg _ s5 σ3 H5 x u _ I5' r5 (step x H5 y5)) λ_ s6 ⟨σ6,H6,I6,q6⟩=>?_);refine wpAny_passesOwn hp (z9 (hb _ s6 σ6 H6 _ I6 q6) λf s7 q7=>?_);have again:∀{σ7:St}{H7:Hp},Inv X (pins++wF fp s5.heap) σ7 H7 s7->N σ7 H7->∃ m,m<n/\∃ i σ' H',Inv X pins σ' H' s7/\tn i s7.heap/\(∀ b∈fp,H' b=none)/\W i m σ' H':=λ{σ7 H7} I7 n7=>by
   obtain ⟨m',hm,w7⟩:=hN σ7 H7 n7;refine ⟨m',hm,i+1,σ7,H7,I7.unpinned,T.keep _ _ _ st5 λb hb o e=>(I7.pin (b,o) (yv _ (yv _ (QN hb e)))).1,λb hb=>?_,w7⟩;obtain ⟨o,e,d⟩:=T.obj _ _ st5 b hb;exact (I7.pin (b,o) (yv _ (yv _ (QN hb e)))).2.1
  cases f with
  |next=>obtain ⟨σ7,H7,I7,n7⟩:=q7;exact again I7 n7
  |cont=>obtain ⟨σ7,H7,I7,n7⟩:=q7;exact again I7 n7
  |brk=>obtain ⟨σ7,H7,I7,q7⟩:=q7;exact ⟨σ7,H7,I7.unpinned,q7⟩
  |ret v=>obtain ⟨x7,σ7,H7,I7,r7,q7⟩:=q7;exact ⟨x7,σ7,H7,I7.unpinned,r7,q7⟩
end
theorem KI (Pv:Nat->St->Hp->Prop)(h0:Pv 0 σ H)(hl:∀ i σ H,i<=xs.length->Pv i σ H->SqL K H a xs)(hs:∀ i x σ H,xs[i]?=some x->Pv i σ H->g x σ H λσ2 H2=>tb { D with nx:=Pv (i+1),ct:=Pv (i+1),bk:=D.nx } σ2 H2)(hd:∀ σ H,Pv xs.length σ H->D.nx σ H):∃ W:Nat->Nat->St->Hp->Prop,(∃ m,W 0 m σ H)/\∀ i m σ H,W i m σ H -> ((Itl K a).stop i H/\D.nx σ H)∨((Itl K a).go i H/\∃ N:St->Hp->Prop,(∀ σ' H',N σ' H'->∃ m',m'<m/\W (i+1) m' σ' H')/\∀ x H',(Itl K a).yld i H x H'->g x σ H' λσ2 H2=>tb { D with nx:=N,ct:=N,bk:=D.nx } σ2 H2):=by
 refine ⟨λi m σ H=>m=xs.length-i/\i<=xs.length/\Pv i σ H,⟨xs.length,by simp,ye _,h0⟩,?_⟩;rintro i m σ H ⟨rfl,hi,p⟩;have q:=hl i σ H hi p;by_cases hlt:i<xs.length
 ·refine .inr ⟨⟨xs,xs[i],q,by simp [hlt]⟩,Pv (i+1),λσ' H' p'=>⟨xs.length-(i+1),by omega,rfl,hlt,p'⟩,λx H' y=>?_⟩;obtain ⟨e,y⟩:=y;subst e;exact hs i x σ _ (y xs q) p
 ·have e:i=xs.length:=by omega
  subst e;exact .inl ⟨⟨xs,q,yU _⟩,hd σ H p⟩
theorem vU (Pv:Nat->St->Hp->Prop)(h0:Pv 0 σ H)(hs:∀ i σ H,i<n->Pv i σ H->g (.int (lo+i)) σ H λσ2 H2=>tb { D with nx:=Pv (i+1),ct:=Pv (i+1),bk:=D.nx } σ2 H2)(hd:∀ σ H,Pv n σ H->D.nx σ H):∃ W:Nat->Nat->St->Hp->Prop,(∃ m,W 0 m σ H)/\∀ i m σ H,W i m σ H -> ((Itr lo n).stop i H/\D.nx σ H)∨((Itr lo n).go i H/\∃ N:St->Hp->Prop,(∀ σ' H',N σ' H'->∃ m',m'<m/\W (i+1) m' σ' H')/\∀ x H',(Itr lo n).yld i H x H'->g x σ H' λσ2 H2=>tb { D with nx:=N,ct:=N,bk:=D.nx } σ2 H2):=by
 refine ⟨λi m σ H=>m=n-i/\i<=n/\Pv i σ H,⟨n,by simp,ye _,h0⟩,?_⟩;rintro i m σ H ⟨rfl,hi,p⟩;by_cases hlt:i<n
 ·refine .inr ⟨hlt,Pv (i+1),λσ' H' p'=>⟨n-(i+1),by omega,rfl,hlt,p'⟩,λx H' y=>?_⟩;obtain ⟨e,y⟩:=y;subst e y;exact hs i σ _ hlt p
 ·have e:i=n:=by omega
  subst e;exact .inl ⟨yU _,hd σ H p⟩
abbrev R2:=V->V->Hp->VK->Prop
variable{r r':R2}
def OpR (X:Cx)(f:Value->Value->Sem Value)(r:R2):Prop :=
 ∀(pins:List (Addr×Obj))(s:Shared)(σ:St)(H:Hp)(x y:V)(v u:Value)(Q:VK),Inv X pins σ H s->RelV x v->RelV y u->r x y H Q ->
  wpAny (model X.prog X.w) X.A (f v u) (EP X pins σ Q) X.xe s
def UnR (X:Cx)(f:Value->Sem Value)(r:V->Hp->VK->Prop):Prop :=
 ∀(pins:List (Addr×Obj))(s:Shared)(σ:St)(H:Hp)(x:V)(v:Value)(Q:VK),Inv X pins σ H s->RelV x v->r x H Q ->
  wpAny (model X.prog X.w) X.A (f v) (EP X pins σ Q) X.xe s
def CallR (X:Cx)(f:Value)(r:List V->Hp->VK->Prop):Prop :=
 ∀(pins:List (Addr×Obj))(s:Shared)(σ:St)(H:Hp)(xs:List V)(us:List Value)(Q:VK),Inv X pins σ H s->Vals xs us->r xs H Q ->
  wpAny (model X.prog X.w) X.A (call f us) (EP X pins σ Q) X.xe s
def TruR (X:Cx)(r:V->Hp->(Bool->Hp->Prop)->Prop):Prop :=
 ∀(pins:List (Addr×Obj))(s:Shared)(σ:St)(H:Hp)(x:V)(v:Value)(Q:Bool->Hp->Prop),Inv X pins σ H s->RelV x v->r x H Q ->
  wpAny (model X.prog X.w) X.A (truthy v) (TP X pins σ Q) X.xe s
def tOp (r:R2)(ta tb:TE):TE:=λσ H Q=>ta σ H λx H1=>tb σ H1 λy H2=>r x y H2 Q
def tUn (r:V->Hp->VK->Prop)(ta:TE):TE:=λσ H Q=>ta σ H λx H1=>r x H1 Q
def rI (C:Int->Int->Prop)(g:Int->Int->V):R2:=λx y H Q=>∃ i j,x = .int i/\y = .int j/\C i j/\Q (g i j) H
def rI0 (g:Int->Int->V):R2:=λx y H Q=>∃ i j,x = .int i/\y = .int j/\Q (g i j) H
def rU (g:Int->V):V->Hp->VK->Prop:=λx H Q=>∃ i,x = .int i/\Q (g i) H
section
variable {X:Cx}{a b c:Expr}{ta tb tc:TE}{pos:Pos}
theorem binT (ha:PE X a ta)(hb:PE X b tb)(I:Inv X pins σ H s)(h:ta σ H λx H1=>tb σ H1 λy H2=>R x y H2)(hf:∀ v u s2 x y H2,Inv X pins σ H2 s2->RelV x v->RelV y u->R x y H2->wpAny (model X.prog X.w) X.A (f v u) Q X.xe s2):wpAny (model X.prog X.w) X.A (eval a X.env) (λv s₁=>wpAny (model X.prog X.w) X.A (eval b X.env) (λu s₂=>wpAny (model X.prog X.w) X.A (f v u) Q X.xe s₂) X.xe s₁) X.xe s:=by refine z9 (ha pins s σ H _ I h) λv s1 ⟨x,H1,I1,r1,q1⟩=>?_;refine z9 (hb pins s1 σ H1 _ I1 q1) λu s2 ⟨y,H2,I2,r2,q2⟩=>?_;exact hf v u s2 x y H2 I2 r1 r2 q2
theorem w5 {op:Operator}(ho:OpR X (binaryOp op) r)(ha:PE X a ta)(hb:PE X b tb):PE X (.BinOp a op b pos) (tOp r ta tb):=by intro pins s σ H Q I h;exact wpAny_BinOp (binT ha hb I h λv u s2 x y H2 I2 rx ry q=>ho pins s2 σ H2 x y v u Q I2 rx ry q)
theorem QW {op:UnaryOp}{r:V->Hp->VK->Prop}(ho:UnR X (unaryOp op) r)(ha:PE X a ta):PE X (.UnaryOp op a pos) (tUn r ta):=by intro pins s σ H Q I h;exact UnaryOp_ (z9 (ha pins s σ H _ I h) λv s1 ⟨x,H1,I1,r1,q1⟩=>ho pins s1 σ H1 x v Q I1 r1 q1)
theorem opI {C:Int->Int->Prop}{g:Int->Int->Int}(rule:∀(i j:Int)(t u:Tok)(s:Shared)(Q:Value->Shared->Prop)(E:Value->Shared->Prop),C i j->Q (.int (g i j) s.toks) { s with toks:=s.toks+1 }->wpAny (model X.prog X.w) X.A (f (.int i t) (.int j u)) Q E s):OpR X f (rI C λi j=> .int (g i j)):=by intro pins s σ H x y v u Q I rx ry h;obtain ⟨i,j,rfl,rfl,hc,q⟩:=h;obtain ⟨t,rfl⟩:=rx;obtain ⟨t',rfl⟩:=ry;exact rule i j t t' s _ _ hc ⟨.int (g i j),H,I.tok _,⟨_,rfl⟩,q⟩
theorem opI0 {g:Int->Int->Int}(rule:∀(i j:Int)(t u:Tok)(s:Shared)(Q:Value->Shared->Prop)(E:Value->Shared->Prop),Q (.int (g i j) s.toks) { s with toks:=s.toks+1 }->wpAny (model X.prog X.w) X.A (f (.int i t) (.int j u)) Q E s):OpR X f (rI0 λi j=> .int (g i j)):=by intro pins s σ H x y v u Q I rx ry h;obtain ⟨i,j,rfl,rfl,q⟩:=h;obtain ⟨t,rfl⟩:=rx;obtain ⟨t',rfl⟩:=ry;exact rule i j t t' s _ _ ⟨.int (g i j),H,I.tok _,⟨_,rfl⟩,q⟩
theorem opB0 {g:Int->Int->Bool}(rule:∀(i j:Int)(t u:Tok)(s:Shared)(Q:Value->Shared->Prop)(E:Value->Shared->Prop),Q (.bool (g i j)) s->wpAny (model X.prog X.w) X.A (f (.int i t) (.int j u)) Q E s):OpR X f (rI0 λi j=> .bl (g i j)):=by intro pins s σ H x y v u Q I rx ry h;obtain ⟨i,j,rfl,rfl,q⟩:=h;obtain ⟨t,rfl⟩:=rx;obtain ⟨t',rfl⟩:=ry;exact rule i j t t' s _ _ ⟨.bl (g i j),H,I,rfl,q⟩
def zt (i j:Int):Prop:=0<=j/\j<=1000000/\i.natAbs<2 ^ 64
def CMul (i j:Int):Prop:=(-(2 ^ 64)<i/\i<2 ^ 64)∨(-(2 ^ 64)<j/\j<2 ^ 64)
theorem CMul.ok {i j:Int}(h:CMul i j):IntMulOk i j:=by
 rcases h with ⟨h1,h2⟩|⟨h1,h2⟩
 ·exact .of_left (intBits_le_64 h1 h2)
 ·exact .of_right (intBits_le_64 h1 h2)
theorem op_add:OpR X (binaryOp .Add) (rI0 λi j=> .int (i+j)):=opI0 λ_ _ _ _ _ _ _ q=>add_int q
theorem jD:OpR X (binaryOp .Sub) (rI0 λi j=> .int (i-j)):=opI0 λ_ _ _ _ _ _ _ q=>sub_int q
theorem vw:OpR X (binaryOp .Mult) (rI CMul λi j=> .int (i*j)):=opI λ_ _ _ _ _ _ _ hc q=>mul_int q hc.ok
theorem jB:OpR X (binaryOp .Mod) (rI (λ_ j=>0<j) λi j=> .int (i % j)):=opI λi j _ _ _ _ _ hc q=>by
 have h1:(0:Int)<j:=hc;exact mod_int' (by omega) (by rw [Int.fmod_eq_emod_of_nonneg i (by omega)];exact q)
theorem vx:OpR X (binaryOp .Pow) (rI zt λi j=> .int (i ^ j.toNat)):=opI λ_ _ _ _ _ _ _ hc q=>pow_int_small hc.1 hc.2.1 hc.2.2 q
theorem unI {f:Value->Sem Value}{g:Int->Int}(rule:∀(i:Int)(t:Tok)(s:Shared)(Q:Value->Shared->Prop)(E:Value->Shared->Prop),Q (.int (g i) s.toks) { s with toks:=s.toks+1 }->wpAny (model X.prog X.w) X.A (f (.int i t)) Q E s):UnR X f (rU λi=> .int (g i)):=by intro pins s σ H x v Q I rx h;obtain ⟨i,rfl,q⟩:=h;obtain ⟨t,rfl⟩:=rx;exact rule i t s _ _ ⟨.int (g i),H,I.tok _,⟨_,rfl⟩,q⟩
theorem Xe:UnR X (unaryOp .USub) (rU λi=> .int (-i)):=unI λ_ _ _ _ _ q=>neg_int q
end
section
variable {X:Cx}{a b c:Expr}{ta tb tc:TE}{pos:Pos}
theorem XD {Q:VK}{k k':Bool}(I:Inv X pins σ H s)(q:Q (.bl k) H)(e:k=k'):EP X pins σ Q (.bool k') s:=by subst e;exact ⟨.bl k,H,I,rfl,q⟩
theorem Zg:OpR X (compareOp .Lt) (rI0 λi j=> .bl (decide (i<j))):=opB0 λ_ _ _ _ _ _ _ q=>lt_int q
theorem QQ:OpR X (compareOp .LtE) (rI0 λi j=> .bl (decide (i<=j))):=opB0 λ_ _ _ _ _ _ _ q=>le_int q
theorem YE:OpR X (compareOp .Gt) (rI0 λi j=> .bl (decide (j<i))):=opB0 λ_ _ _ _ _ _ _ q=>gt_int q
theorem QP:OpR X (compareOp .GtE) (rI0 λi j=> .bl (decide (j<=i))):=opB0 λ_ _ _ _ _ _ _ q=>ge_int q
theorem CB:OpR X (compareOp .Is) (λx y H Q=>y = .non/\Q (.bl (decide (x = .non))) H):=by
 intro pins s σ H x y v u Q I rx ry h;obtain ⟨rfl,q⟩:=h;cases ry;refine is_none_gen (XD I q ?_);cases x<;>first
  |(cases rx;rfl)
  |(obtain ⟨t,rfl⟩:=rx;rfl)
theorem CF:OpR X (compareOp .IsNot) (λx y H Q=>y = .non/\Q (.bl (!decide (x = .non))) H):=by
 intro pins s σ H x y v u Q I rx ry h;obtain ⟨rfl,q⟩:=h;cases ry;refine isnot_none_gen (XD I q ?_);cases x<;>first
  |(cases rx;rfl)
  |(obtain ⟨t,rfl⟩:=rx;rfl)
theorem OpR.or (h:OpR X f r)(h':OpR X f r'):OpR X f (λx y H Q=>r x y H Q∨r' x y H Q):=by
 intro pins s σ H x y v u Q I rx ry q;rcases q with q|q
 ·exact h pins s σ H x y v u Q I rx ry q
 ·exact h' pins s σ H x y v u Q I rx ry q
theorem m7 (b:Expr)(h:op ≠ .In:=by decide)(h2:op ≠ .NotIn:=by decide):behindInMarks op b=false:=by
 have e1:(op==CmpOp.In)=false:=by cases op<;>first|rfl|exact absurd rfl h
 have e2:(op==CmpOp.NotIn)=false:=by cases op<;>first|rfl|exact absurd rfl h2
 cases b<;>simp [behindInMarks,e1,e2]
theorem zR (ho:OpR X (compareOp op) r)(ha:PE X a ta)(hb:PE X b tb)(hm:behindInMarks op b=false):PE X (.Compare a [op] [b] pos) (tOp r ta tb):=by intro pins s σ H Q I h;exact wpAny_Compare1 (binT ha hb I h λv u s2 x y H2 I2 rx ry q=>ho pins s2 σ H2 x y v u Q I2 rx ry q) hm
def JI (t:TE):TT:=λσ H Q=>t σ H λx H'=>∃ k,x = .bl k/\Q k H'
theorem ql (ho:OpR X (compareOp op) r)(ha:PE X a ta)(hb:PE X b tb)(hm:behindInMarks op b=false):PT X (.Compare a [op] [b] pos) (JI (tOp r ta tb)):=by
 intro pins s σ H Q I h;refine wpAny_isTrue_Compare1 (z9 (ha pins s σ H _ I h) λv s1 ⟨x,H1,I1,r1,q1⟩=>z9 (hb pins s1 σ H1 _ I1 q1) λu s2 ⟨y,H2,I2,r2,q2⟩ =>
  z9 (ho pins s2 σ H2 x y v u _ I2 r1 r2 q2) λc s3 ⟨z,H3,I3,r3,k,e,q3⟩=>?_) hm
 subst e;cases r3;exact wpAny_truthy_bool ⟨H3,I3,q3⟩
def JG (r r':R2)(ta tb tc:TE):TE:=λσ H Q=>ta σ H λx H1=>tb σ H1 λy H2=>r x y H2 λz H3=>∃ k,z = .bl k /\
 (if k=true then tc σ H3 λw' H4=>r' y w' H4 Q else Q (.bl false) H3)
theorem CN (ho:OpR X (compareOp op) r)(ho':OpR X (compareOp op') r')(ha:PE X a ta)(hb:PE X b tb)(hc:PE X c tc)(hm:lastMarks [op,op'] [b,c]=false:=by with_unfolding_all rfl):PE X (.Compare a [op,op'] [b,c] pos) (JG r r' ta tb tc):=by
 intro pins s σ H Q I h;refine Compare_chain (z9 (ha pins s σ H _ I h) λv s1 ⟨x,H1,I1,r1,q1⟩=>chain_link (z9 (hb pins s1 σ H1 _ I1 q1) λu s2 ⟨y,H2,I2,r2,q2⟩ =>
  z9 (ho pins s2 σ H2 x y v u _ I2 r1 r2 q2) λd s3 ⟨z,H3,I3,r3,k,e,q3⟩=>?_)) hm
 subst e;cases r3;refine wpAny_truthy_bool ?_;cases k with
 |false=>exact ite_ff ⟨.bl false,H3,I3,rfl,q3⟩
 |true=>exact ite_tt (chain_last (z9 (hc pins s3 σ H3 _ I3 q3) λw' s4 ⟨z',H4,I4,r4,q4⟩=>ho' pins s4 σ H4 y z' u w' Q I4 r2 r4 q4))
theorem YO (ho:OpR X (compareOp op) r)(ho':OpR X (compareOp op') r')(ha:PE X a ta)(hb:PE X b tb)(hc:PE X c tc)(hm:lastMarks [op,op'] [b,c]=false:=by with_unfolding_all rfl):PT X (.Compare a [op,op'] [b,c] pos) (JI (JG r r' ta tb tc)):=by
 intro pins s σ H Q I h;refine isTrue_chain (z9 (ha pins s σ H _ I h) λv s1 ⟨x,H1,I1,r1,q1⟩=>test_link (z9 (hb pins s1 σ H1 _ I1 q1) λu s2 ⟨y,H2,I2,r2,q2⟩ =>
  z9 (ho pins s2 σ H2 x y v u _ I2 r1 r2 q2) λd s3 ⟨z,H3,I3,r3,k,e,q3⟩=>?_)) hm
 subst e;cases r3;refine wpAny_truthy_bool ?_;cases k with
 |false=>obtain ⟨k',e',q'⟩:=q3;cases e';exact ite_ff ⟨H3,I3,q'⟩
 |true=>refine ite_tt (test_last (z9 (hc pins s3 σ H3 _ I3 q3) λw' s4 ⟨z',H4,I4,r4,q4⟩=>z9 (ho' pins s4 σ H4 y z' u w' _ I4 r2 r4 q4) λd' s5 ⟨z2,H5,I5,r5,k2,e2,q5⟩=>?_));subst e2;cases r5;exact wpAny_truthy_bool ⟨H5,I5,q5⟩
def TruV (K:Fg)(x:V)(H:Hp)(k:Bool):Prop :=
 match x with
 | .non=>k=false
 | .bl b=>k=b
 | .int i=>k=(i != 0)
 | .str y=>y.length<=sizeLine/\k=((y.length:Int) != 0)
 | .byt y=>y.size<=sizeLine/\k=((y.size:Int) != 0)
 | .ref p=>(∃ xs,SqL K H p xs/\k=!xs.isEmpty)∨(∃ xs,SqT K H p xs/\k=!xs.isEmpty)∨∃ kvs,H p=some (.dK kvs)/\k=!kvs.isEmpty
 |_=>False
theorem Bl {κ:Type}{kvs:List (κ×V)}{vs:List (κ×Value)}(r:KV kvs vs):(!vs.isEmpty)=!kvs.isEmpty:=by cases r<;>rfl
theorem Yg {its:List Value}(r:Vals xs its):(!its.toArray.isEmpty)=!xs.isEmpty:=by cases r<;>simp
theorem jv:(sizeLine:Nat)<2 ^ 63:=by rw [sizeLine_eq];decide
theorem MR:TruR X (λx H Q=>∃ k,TruV X.K x H k/\Q k H):=by
 intro pins s σ H x v Q I rx h;obtain ⟨k,e,q⟩:=h;have hl:=jv;have hs:sizeLine=16777216:=sizeLine_eq;cases x with
 |non=>cases rx;have e':k=false:=e;subst e';exact truthy_none ⟨H,I,q⟩
 |bl b=>cases rx;have e':k=b:=e;subst e';exact wpAny_truthy_bool ⟨H,I,q⟩
 |int i=>obtain ⟨t,rfl⟩:=rx;have e':k=(i != 0):=e;subst e';exact PySem.P.truthy_int ⟨H,I,q⟩
 |str y=>obtain ⟨t,rfl⟩:=rx;obtain ⟨hy,e'⟩:y.length<=sizeLine/\k=((y.length:Int) != 0):=e;subst e';exact PySem.P.truthy_str (by omega) ⟨H,I.tok _,q⟩
 |byt y=>obtain ⟨t,rfl⟩:=rx;obtain ⟨hy,e'⟩:y.size<=sizeLine/\k=((y.size:Int) != 0):=e;subst e';exact PySem.W.truthy_bytes (by omega) ⟨H,I.tok _,q⟩
 |ref p =>
  cases rx;have e':(∃ xs,SqL X.K H p xs/\k=!xs.isEmpty)∨(∃ xs,SqT X.K H p xs/\k=!xs.isEmpty)∨∃ kvs,H p=some (.dK kvs)/\k=!kvs.isEmpty:=e;rcases e' with ⟨xs,hx,e'⟩|⟨xs,hx,e'⟩|⟨kvs,hx,e'⟩
  ·subst e';obtain ⟨its,r,pl,hz⟩:=I.list hx;have hlen:=r.length;exact wpAny_truthy_list pl.isList (by simp only [yY];omega) ⟨H,I.tok _,by rw [Yg r];exact q⟩
  ·subst e';obtain ⟨its,r,pl,hz⟩:=I.tuple hx;have hlen:=r.length;exact truthy_tuple pl (by simp only [yY];omega) ⟨H,I.tok _,by rw [Yg r];exact q⟩
  ·subst e';obtain ⟨hz,hS,vs,r,m⟩:kvs.length<=sizeLine/\(p==sysModules)=false/\∃ vs,KV kvs vs/\s.heap.DictOf (i8 X.prog X.w) p vs:=I.hok p _ hx;have hlen:kvs.length=vs.length:=Paired.length r;exact wpAny_truthy_dict hS m (by omega) ⟨H,I.tok _,by rw [Bl r];exact q⟩
 |_=>exact (show False from e).elim
theorem Do (ha:PE X a ta)(he:∀ whole,isTrue a X.env whole=(do let v <- whole;standAt a.pos;holding [v] (truthy v))):
  PT X a (λσ H Q=>ta σ H λx H'=>∃ k,TruV X.K x H' k/\Q k H'):=by
 intro pins s σ H Q I h;exact isTrue_plain (z9 (ha pins s σ H _ I h) λv s1 ⟨x,H1,I1,r1,q1⟩=>MR pins s1 σ H1 x v Q I1 r1 q1) (he _)
theorem op_add_str:OpR X (binaryOp .Add) (λx y H Q=>∃ i j,x = .str i/\y = .str j/\i.length+j.length<=sizeLine/\Q (.str (i++j)) H):=by intro pins s σ H x y v u Q I rx ry h;obtain ⟨i,j,rfl,rfl,hz,q⟩:=h;obtain ⟨t,rfl⟩:=rx;obtain ⟨t',rfl⟩:=ry;exact add_str (λt' tk=>⟨.str (i++j),H,I.tok _,⟨_,rfl⟩,q⟩) hz
theorem qY {x:V}(r:Vals [x] us):∃ u,us=[u]/\RelV x u:=by
 cases r with
 |cons r1 r2=>cases r2;exact ⟨_,rfl,r1⟩
theorem Gb {x:V}(r:Vals [x,y] us):∃ u w',us=[u,w']/\RelV x u/\RelV y w':=by
 cases r with
 |cons r1 r2 =>
  cases r2 with
  |cons r3 r4=>cases r4;exact ⟨_,_,rfl,r1,r3⟩
theorem GW (hc:X.calm=true):CallR X (.builtin "min") (λxs H Q=>∃ i j,xs=[.int i,.int j]/\Q (.int (if j<i then j else i)) H):=by
 intro pins s σ H xs us Q I r h;obtain ⟨i,j,rfl,q⟩:=h;obtain ⟨u,w',rfl,⟨t,rfl⟩,⟨t',rfl⟩⟩:=Gb r;refine min_two_ints (I.ok.hd hc) λh' tk k=>⟨_,H,I.kept k,?_,q⟩;by_cases hj:j<i
 ·rw [if_pos hj,if_pos hj];exact ⟨_,rfl⟩
 ·rw [if_neg hj,if_neg hj];exact ⟨_,rfl⟩
def LenV (K:Fg)(x:V)(H:Hp)(n:Nat):Prop :=
 match x with
 | .str y=>y.length<=sizeLine/\n=y.length
 | .byt y=>y.size<=sizeLine/\n=y.size
 | .ref p=>(∃ xs,SqL K H p xs/\n=xs.length)∨∃ xs,SqT K H p xs/\n=xs.length
 |_=>False
theorem GQ:CallR X (.builtin "len") (λxs H Q=>∃ x n,xs=[x]/\LenV X.K x H n/\Q (.int n) H):=by
 intro pins s σ H xs us Q I r h;obtain ⟨x,n,rfl,e,q⟩:=h;obtain ⟨u,rfl,rx⟩:=qY r;have hl:=jv;have hs:sizeLine=16777216:=sizeLine_eq;cases x with
 |str y=>obtain ⟨t,rfl⟩:=rx;obtain ⟨hy,e'⟩:y.length<=sizeLine/\n=y.length:=e;subst e';exact len_str (by omega) ⟨.int _,H,I.tok _,⟨_,rfl⟩,q⟩
 |byt y=>obtain ⟨t,rfl⟩:=rx;obtain ⟨hy,e'⟩:y.size<=sizeLine/\n=y.size:=e;subst e';exact PySem.W.len_bytes (by omega) ⟨.int _,H,I.tok _,⟨_,rfl⟩,q⟩
 |ref p =>
  cases rx;have e':(∃ xs,SqL X.K H p xs/\n=xs.length)∨∃ xs,SqT X.K H p xs/\n=xs.length:=e;rcases e' with ⟨xs,hx,e'⟩|⟨xs,hx,e'⟩
  ·subst e';obtain ⟨its,r',pl,hz⟩:=I.list hx;have hlen:=r'.length;exact Calls.call_len_list pl.isList (by simp only [yY];omega) ⟨.int xs.length,H,I.tok _,⟨_,by simp only [yY];rw [hlen]⟩,q⟩
  ·subst e';obtain ⟨its,r',pl,hz⟩:=I.tuple hx;have hlen:=r'.length;exact len_tuple pl (by simp only [yY];omega) ⟨.int xs.length,H,I.tok _,⟨_,by simp only [yY];rw [hlen]⟩,q⟩
 |_=>exact (show False from e).elim
end
structure ObjM (h:Heap)(x dx C:Addr)(mA:Str->Option Value):Prop where
 obj:h.get? x=some (PySem.W.instObj C dx)
 ns:h.Ns1 dx mA
 ne:dx≠x
theorem BQ (n:h.Ns1 dx mA):∃ od,h.get? dx=some od/\∀ name,PySem.W.lookIn name od=some (mA name):=by
 obtain ⟨o,es,ep,ho,hd,hk,_,hm⟩:=n;refine ⟨o,ho,λname=>?_⟩;have e:=hm name;unfold nsFind findBy at e;rw [<- Array.find?_toList] at e;unfold PySem.W.lookIn;rw [hd]
 dsimp only
 split
 ·rename_i y q;rw [q] at e;exact congrArg some e
 ·rename_i q;rw [q] at e;have a:es.toList.any (·.refKey)=false:=by rw [List.any_eq_false];intro y hy;obtain ⟨z,t,hkey⟩:=hk y (Array.mem_toList_iff.mp hy);simp [DictEntry.refKey,hkey]
  have a':¬ es.toList.any (·.refKey)=true:=by rw [a];exact yT
  rw [if_neg a'];exact congrArg some e
theorem ObjM.look {x:Addr}(I:ObjM h x dx C mA):∃ od,PySem.W.InstAt h x (PySem.W.instObj C dx) C (some od)/\∀ name,PySem.W.lookIn name od=some (mA name) :=
 let ⟨od,ho,hl⟩:=BQ I.ns
 ⟨od,⟨I.obj,rfl,rfl,ho⟩,hl⟩
section
variable {prog:Program}{w:World}{A:Around}{E:Value->Shared->Prop}{s:Shared}{K:Fg}{x dx C f:Addr}{mA:Str->Option Value}{name:Str}{v:Value}
theorem KL {expr:Bool}(X:K.In s.heap)(I:ObjM s.heap x dx C mA)(hg:PySem.W.plainGet K C name=true)(hh:PySem.W.hasDictIn K C=true)(ha:PySem.W.findIn K (.ref C) name=some none)(hv:mA name=some v)(hv':PySem.W.handedIn v=true)(h:Q v { s with toks:=s.toks+1 }):wpAny (model prog w) A (getAttr (.ref x) name expr) Q E s:=by obtain ⟨od,J,hl⟩:=I.look;exact PySem.W.get_value X J (PySem.W.plainGet_of hg).1 (PySem.W.findObj_own hh ha rfl (by rw [hl,hv])) hv' h
theorem KM {Q:Value×List Value->Shared->Prop}(X:K.In s.heap)(I:ObjM s.heap x dx C mA)(hg:PySem.W.plainGet K C name=true)(hf:PySem.W.findIn K (.ref C) name=some (some (.ref f)))(ht:PySem.W.isFn K (.ref f)=true)(hv:mA name=none)(h:Q (.ref f,[.ref x]) s):wpAny (model prog w) A (getMethod (.ref x) name pl) Q E s:=by obtain ⟨od,J,hl⟩:=I.look;exact PySem.W.method_fn X J (PySem.W.plainGet_of hg).1 (PySem.W.plainGet_of hg).2 hf (beq_iff_eq.mp ht) (by show (PySem.W.lookIn name od).map (·.isSome)=some false;rw [hl,hv];rfl) h
theorem MC {ns:List Str}{Q:Unit->Shared->Prop}(X:K.In s.heap)(I:ObjM s.heap x dx C mA)(hs:PySem.W.findIn K (.ref C) "__setattr__"=some (some (.builtin "object.__setattr__")))(hp:PySem.W.plainOver K C=true)(ht:PySem.W.takerIn K C name=some none)(hh:PySem.W.hasDictIn K C=true)(hw:PySem.Within mA ns)(hsz:ns.length<=sizeLine)(h:∀ h',ObjM h' x dx C (λy=>if y=name then some v else mA y)->Heap.SameBut dx s.heap h'->Q () { s with heap:=h',toks:=s.toks+2 }):wpAny (model prog w) A (setAttr (.ref x) name v) Q E s:=by obtain ⟨od,J,hl⟩:=I.look;refine PySem.W.set_plain X J hs (PySem.W.osa_open (s:={ s with toks:=s.toks+1 }) (r:=none) X J hp ht λb=>?_);obtain ⟨cd,hc,hd'⟩:=PySem.W.any_some hh;have hx:s.heap.get? x=some ⟨.ref C,some dx,.plain,#[]⟩:=I.obj;refine yW (yJ (yW (yW (wpAny_loadPart hx (yW (PySem.W.Looks.here (s:={ s with toks:=s.toks+1 }) (PySem.W.looks_clsIn X hc) ?_))))));rw [hd'];refine yJ (a:=some dx) (yW (yJ (yW ?_)));refine wpAny_nsSet1 (s:={ s with toks:=s.toks+1 }) I.ns λh' hn2 hs2=>?_;obtain ⟨oD,esD,epD,hoD,hdD,hcD⟩:=hn2.count (PySem.Within.cons name v hw);refine yW (wpAny_lookBehind hoD (by rw [hdD];exact pastItsLine_dict (yf hcD (by rw [yz];omega))) ?_);exact yJ (h _ ⟨(hs2.2 _ (Ne.symm I.ne)).trans I.obj,hn2,I.ne⟩ hs2)
theorem BU {R:Result->Shared->Prop}{vs:List Value}(X:K.In s.heap)(hm:PySem.W.makesIn K C=true)(hi:PySem.W.findIn K (.ref C) "__init__"=some (some (.ref f)))(hf:PySem.W.typeIn K (.ref f)=some (.type "function"))(h:codeAny (model prog w) (A.under (.builtin "type.__call__" ⟨.ref C::vs,kw⟩)) (.call (.ref f) ⟨.ref (s.heap.objs.size+1)::vs,kw⟩) (PySem.W.InitBack (s.heap.objs.size+1) R) { s with heap:=(s.heap.push PySem.W.emptyDict).push (PySem.W.instObj C s.heap.objs.size) }):codeAny (model prog w) A (.call (.ref C) ⟨vs,kw⟩) R s:=by obtain ⟨hh,g,d,t,os⟩:=s;exact PySem.W.make_core (PySem.W.makes_of X hm) (PySem.W.looks_findIn X hi) (λself=>PySem.W.bind_fn X self hf) (.inl rfl) h
end
def qm (f:Str)(v:V):List (Str×V)->List (Str×V)
 |[]=>[(f,v)]
 |(g,x)::r=>if g=f then (g,v)::r else (g,x)::qm f v r
theorem Yw (f g:Str)(v:V):∀ fs:List (Str×V),(qm f v fs).lookup g=if g=f then some v else fs.lookup g
 |[]=>by
  show List.lookup g [(f,v)]=_;by_cases h:g=f
  ·have hb:(g==f)=true:=beq_iff_eq.mpr h;simp only [List.lookup,hb,if_pos h]
  ·have hb:(g==f)=false:=beq_eq_false_iff_ne.mpr h;simp only [List.lookup,hb,if_neg h]
 |(k,x)::r=>by
  have ih:=Yw f g v r;rw [show qm f v ((k,x)::r)=(if k=f then (k,v)::r else (k,x)::qm f v r) from rfl];by_cases hk:k=f
  ·rw [if_pos hk];by_cases h:g=k
   ·have hb:(g==k)=true:=beq_iff_eq.mpr h;simp only [List.lookup,hb,if_pos (h.trans hk)]
   ·have hb:(g==k)=false:=beq_eq_false_iff_ne.mpr h;simp only [List.lookup,hb,if_neg (λe:g=f=>h (e.trans hk.symm))]
  ·rw [if_neg hk];by_cases h:g=k
   ·have hb:(g==k)=true:=beq_iff_eq.mpr h;simp only [List.lookup,hb,if_neg (λe:g=f=>hk (h.symm.trans e))]
   ·have hb:(g==k)=false:=beq_eq_false_iff_ne.mpr h;simp only [List.lookup,hb];exact ih
theorem XR (f:Str)(v:V):∀ fs:List (Str×V),f∈(qm f v fs).map (·.1)/\∀ g,g∈fs.map (·.1)->g∈(qm f v fs).map (·.1)
 |[]=>⟨by simp [qm],λg h=>by simp at h⟩
 |(k,x)::r=>by
  obtain ⟨i1,i2⟩:=XR f v r;rw [show qm f v ((k,x)::r)=(if k=f then (k,v)::r else (k,x)::qm f v r) from rfl];by_cases hk:k=f
  ·rw [if_pos hk];subst hk;exact ⟨by simp,λg h=>by simpa using h⟩
  ·rw [if_neg hk];refine ⟨?_,λg h=>?_⟩
   ·rw [yM];exact yO _ i1
   ·rw [yM] at h ⊢;rcases yK.mp h with e|e
    ·exact yK.mpr (.inl e)
    ·exact yO _ (i2 g e)
theorem Yq (f:Str)(v:V):∀ fs:List (Str×V),(qm f v fs).length<=fs.length+1
 |[]=>by simp [qm]
 |(k,x)::r=>by
  have ih:=Yq f v r;rw [show qm f v ((k,x)::r)=(if k=f then (k,v)::r else (k,x)::qm f v r) from rfl];by_cases hk:k=f
  ·rw [if_pos hk,yz,yz];omega
  ·rw [if_neg hk,yz,yz];omega
theorem RelO.some_of {o:Option Value}(r:RelO (some v) o):∃ u,o=some u/\RelV v u:=by
 cases o with
 |none=>exact (show False from r).elim
 |some u=>exact ⟨u,rfl,r⟩
theorem RelO.none_of {o:Option Value}(r:RelO none o):o=none:=by
 cases o with
 |none=>rfl
 |some u=>exact (show False from r).elim
theorem KO (r:RelV v u):PySem.W.handedIn u=true:=by
 cases v with
 |non=>cases (show u=Value.none from r);rfl
 |bl b=>cases (show u=Value.bool b from r);rfl
 |int i=>obtain ⟨t,e⟩:=(show ∃ t,u=Value.int i t from r);cases e;rfl
 |str x=>obtain ⟨t,e⟩:=(show ∃ t,u=Value.str x t from r);cases e;rfl
 |byt b=>obtain ⟨t,e⟩:=(show ∃ t,u=Value.bytes b t from r);cases e;rfl
 |flt b=>obtain ⟨t,e⟩:=(show ∃ t,u=Value.float b t from r);cases e;rfl
 |ref a=>cases (show u=Value.ref a from r);rfl
 |ty n=>cases (show u=Value.type n from r);rfl
section
variable {P:Program}{w:World}{H H':Hp}{h h':Heap}{a C dx:Addr}{fs fs':List (Str×V)}
theorem jr (hok:HOk P w H h)(e:H a=some (.ins C dx fs)):∃ mA,ObjM h a dx C mA/\(∀ f,RelO (fs.lookup f) (mA f))/\PySem.Within mA (fs.map (·.1))/\fs.length<=1000/\H dx=some (.own a):=by obtain ⟨d,z,ne,ob,mA,n,r,q⟩:=(show ObjOk P w H h a (.ins C dx fs) from hok a _ e);exact ⟨mA,⟨ob,n,ne⟩,r,q,z,d⟩
end
structure Cls (K:Fg)(C:Addr):Prop where
 pg:PySem.W.plainGet K C Str.empty=true
 hd:PySem.W.hasDictIn K C=true
 po:PySem.W.plainOver K C=true
 sa:PySem.W.findIn K (.ref C) "__setattr__"=some (some (.builtin "object.__setattr__"))
theorem Cls.get (c:Cls K C)(f:Str):PySem.W.plainGet K C f=true:=c.pg
def NoAttr (K:Fg)(C:Addr)(f:Str):Prop:=PySem.W.findIn K (.ref C) f=some none
theorem NoAttr.taker {f:Str}(n:NoAttr K C f):PySem.W.takerIn K C f=some none:=by unfold PySem.W.takerIn;rw [show PySem.W.findIn K (.ref C) f=some none from n];rfl
structure vJ (K:Fg)(C:Addr)(m:Str)(f:Addr):Prop where
 at_:PySem.W.findIn K (.ref C) m=some (some (.ref f))
 fn:PySem.W.isFn K (.ref f)=true
 kp:PySem.W.keepIn K (.ref f)=true
section
variable {X:Cx}{pins:List (Addr×Obj)}{σ:St}{H:Hp}{s:Shared}{a C dx:Addr}{fs:List (Str×V)}{f:Str}{v:V}{A:Around}{E:Value->Shared->Prop}
theorem KN {b:Bool}(I:Inv X pins σ H s)(e:H a=some (.ins C dx fs))(c:Cls X.K C)(n:NoAttr X.K C f)(l:fs.lookup f=some v)(h:∀ u s',Inv X pins σ H s'->RelV v u->Q u s'):wpAny (model X.prog X.w) A (getAttr (.ref a) f b) Q E s:=by obtain ⟨mA,O,r,_,_,_⟩:=jr I.hok e;obtain ⟨u,hu,ru⟩:=RelO.some_of (v:=v) (o:=mA f) (by rw [<- l];exact r f);exact KL I.kIn O (c.get f) c.hd n hu (KO ru) (h u _ (I.tok _) ru)
theorem XH {g:Addr}{Q:Value×List Value->Shared->Prop}(I:Inv X pins σ H s)(e:H a=some (.ins C dx fs))(c:Cls X.K C)(k:vJ X.K C m g)(l:fs.lookup m=none)(h:Q (.ref g,[.ref a]) s):wpAny (model X.prog X.w) A (getMethod (.ref a) m pl) Q E s:=by obtain ⟨mA,O,r,_,_,_⟩:=jr I.hok e;have hn:mA m=none:=RelO.none_of (by rw [<- l];exact r m);exact KM I.kIn O (c.get m) k.at_ k.fn hn h
theorem MF {Q:Unit->Shared->Prop}(I:Inv X pins σ H s)(e:H a=some (.ins C dx fs))(c:Cls X.K C)(n:NoAttr X.K C f)(hl:fs.length<1000)(ry:RelV y u)(h:∀ s',Inv X pins σ (z6 H a (.ins C dx (qm f y fs))) s'->Q () s'):wpAny (model X.prog X.w) A (setAttr (.ref a) f u) Q E s:=by
 obtain ⟨mA,O,r,wi,_,ho⟩:=jr I.hok e;have hz:(fs.map (·.1)).length<=sizeLine:=by rw [yZ,sizeLine_eq];omega
 refine MC I.kIn O c.sa c.po n.taker c.hd wi hz λh' O' sb=>h _ ?_;have hd:∃ o,h'.get? dx=some o:=let ⟨o,_,_,e',_⟩:=O'.ns;⟨o,e'⟩
 refine I.write (x:=a) (e:=dx) (by rw [e];exact True.intro) (.inr ho) (λb q hb z=>(sb.2 b hb).trans z) hd ?_;refine ⟨by rw [z8 O.ne];exact ho,?_,O.ne,O'.obj,_,O'.ns,λg=>?_,λg hg=>?_⟩
 ·have:=Yq f y fs;omega
 ·show RelO ((qm f y fs).lookup g) (if g=f then some u else mA g);rw [Yw];by_cases q:g=f
  ·rw [if_pos q,if_pos q];exact ry
  ·rw [if_neg q,if_neg q];exact r g
 ·by_cases q:g=f
  ·rw [q];exact (XR f y fs).1
  ·refine (XR f y fs).2 g (wi g λz=>hg ?_);show (if g=f then some u else mA g)=none;rw [if_neg q];exact z
theorem Inv.made (I:Inv X pins σ H s):Inv X pins σ (z6 (z6 H s.heap.objs.size (.own (s.heap.objs.size+1))) (s.heap.objs.size+1) (.ins C s.heap.objs.size [])) { s with heap:=(s.heap.push PySem.W.emptyDict).push (PySem.W.instObj C s.heap.objs.size) }:=by
 have e1:(s.heap.push PySem.W.emptyDict).get? s.heap.objs.size=some PySem.W.emptyDict:=yG s.heap rfl;have e2:((s.heap.push PySem.W.emptyDict).push (PySem.W.instObj C s.heap.objs.size)).get? (s.heap.objs.size+1)=some (PySem.W.instObj C s.heap.objs.size):=by have:=yG (s.heap.push PySem.W.emptyDict) (o:=PySem.W.instObj C s.heap.objs.size) rfl;rwa [uS] at this
 have e3:(s.heap.push PySem.W.emptyDict).Ns s.heap.objs.size (λ_=>none):=⟨PySem.W.emptyDict,#[],_,e1,rfl,(λe he=>absurd he (by simp)),λ_=>rfl⟩;have I1:=I.laid (a:=s.heap.objs.size) (o:= .own (s.heap.objs.size+1)) (h':=s.heap.push PySem.W.emptyDict) (t':=s.toks) (λb u q=>yX _ q) (yU _) ⟨_,e1⟩;refine I1.laid (a:=s.heap.objs.size+1) (o:= .ins C s.heap.objs.size []) (t':=s.toks) (λb u q=>yX _ q) (Nat.le_of_eq (uS _ _)) ?_;have ne:s.heap.objs.size≠s.heap.objs.size+1:=yL (uF _);refine ⟨by rw [z8 ne,w9],ye _,ne,e2,λ_=>none,(Heap.Ns1.of_empty e3).at λo q=>yX _ q,λ_=>True.intro,λy hy=>absurd rfl hy⟩
theorem Gz {prog:Program}{env:Env}{f:Str}{s:Shared}(hb:attributeBase e f env (eval e env)=eval e env)(h:wpAny (model prog w) A (eval e env) (λo s₁=>wpAny (model prog w) A (getAttr o f true) Q E s₁) E s):wpAny (model prog w) A (eval (.Attribute e f pos) env) Q E s :=
 Attribute_any_ h (by rw [arm_eval_Attribute,hb])
end
def tFld (K:Fg)(ta:TE)(f:Str):TE:=λσ H Q=>ta σ H λx H1=>∃ a C dx fs v,x = .ref a/\H1 a=some (.ins C dx fs)/\Cls K C/\NoAttr K C f/\fs.lookup f=some v/\Q v H1
def wM (K:Fg)(ta tv:TE)(f:Str):TS:=λD σ H=>tv σ H λy H1=>ta σ H1 λx H2=>∃ a C dx fs,x = .ref a/\H2 a=some (.ins C dx fs)/\Cls K C/\NoAttr K C f/\fs.length<1000 /\
 D.nx σ (z6 H2 a (.ins C dx (qm f y fs)))
section
variable {X:Cx}{o e value:Expr}{f:Str}{pos pos' tpos:Pos}{ta tv:TE}
theorem CP (he:PE X e ta)(hb:attributeBase e f X.env (eval e X.env)=eval e X.env):PE X (.Attribute e f pos) (tFld X.K ta f):=by intro pins s σ H Q I h;refine Gz hb (z9 (he pins s σ H _ I h) λu s1 ⟨x,H1,I1,rx,a,C,dx,fs,v,ex,ea,c,n,l,q⟩=>?_);subst ex;obtain rfl:u=Value.ref a:=rx;exact KN I1 ea c n l λu' s2 I2 ru=>⟨v,H1,I2,ru,q⟩
theorem Dm (ha:PE X o ta)(hv:PE X value tv)(hs:swapsWith value (some (.Attribute o f pos')) pos.line X.env=pure false):PS X (.Assign [.Attribute o f pos'] value pos) (wM X.K ta tv f):=by intro pins s σ H D I h;refine plainObj_wpAny_Assign_Attribute (z9 (hv pins s σ H _ I h) λu s1 ⟨y,H1,I1,ry,q⟩=>z9 (ha pins s1 σ H1 _ I1 q) λov s2 ⟨x,H2,I2,rx,a,C,dx,fs,ex,ea,c,n,l,q2⟩=>?_) hs;subst ex;obtain rfl:ov=Value.ref a:=rx;exact MF I2 ea c n l ry λs3 I3=>⟨σ,_,I3,q2⟩
theorem LO {apos:Pos}{args:List Expr}(he:PE X e te)(I:Inv X pins σ H s)
  (h:te σ H λx H1=>∃ a C dx fs g,x = .ref a/\H1 a=some (.ins C dx fs)/\Cls X.K C/\vJ X.K C m g/\fs.lookup m=none /\
   ∀ s1,Inv X pins σ H1 s1->wpAny (model X.prog X.w) X.A (callWith pos (.ref g) [.ref a] (backTo pos (starEach args X.env)) (backToKw pos (keywordEach [] X.env))) Q X.xe s1)
  (ht:eval (.Call (.Attribute e m apos) args [] pos) X.env=(do
   let ov <- eval e X.env
   standAt apos.atName
   let (f,first) <- holding [ov] (getMethod ov m pl)
   callWith pos f first (backTo pos (starEach args X.env)) (backToKw pos (keywordEach [] X.env)))) :
  wpAny (model X.prog X.w) X.A (eval (.Call (.Attribute e m apos) args [] pos) X.env) Q X.xe s:=by
 refine PySem.W.methodCall_KW (pl:=pl) (z9 (he pins s σ H _ I h) λu s1 ⟨x,H1,I1,rx,a,C,dx,fs,g,ex,ea,c,k,l,q⟩=>?_) ht;subst ex;obtain rfl:u=Value.ref a:=rx;exact XH I1 ea c k l (q s1 I1)
end
section
variable {X:Cx}{pins:List (Addr×Obj)}{σ:St}{H:Hp}{s:Shared}{A:Around}{E:Value->Shared->Prop}{Q:Value->Shared->Prop}{c:Value}{b:Bool}
inductive qA (K:Fg)(H:Hp):V->Value->Prop where
 |non:qA K H .non (.type "NoneType")
 |bl (x:Bool):qA K H (.bl x) (.type "bool")
 |int (i:Int):qA K H (.int i) (.type "int")
 |str (x:Str):qA K H (.str x) (.type "str")
 |flt (x:UInt64):qA K H (.flt x) (.type "float")
 |lst {a:Addr} {xs:List V} (e:H a=some (.lst xs)):qA K H (.ref a) (.type "list")
 |frz {a:Addr} {o:Obj} {xs:List V} (e:H a=some (.frz o (.lst xs))):qA K H (.ref a) (.type "list")
 |tup {a:Addr} {xs:List V} (e:H a=some (.tup xs)):qA K H (.ref a) (.type "tuple")
 |dK {a:Addr} {kvs:List (z5×V)} (e:H a=some (.dK kvs)):qA K H (.ref a) (.type "dict")
 |dT {a:Addr} {kvs:List (List z5×V)} (e:H a=some (.dT kvs)):qA K H (.ref a) (.type "dict")
 |ins {a C dx:Addr} {fs:List (Str×V)} (e:H a=some (.ins C dx fs)) (cl:Cls K C) (ha:PySem.W.findIn K (.ref C) "__class__"=some (some (.builtin "object.__class__")))
   (hn:PySem.W.specialIn K (.builtin "object.__class__") "__get__"=some (some (.builtin "getset_descriptor.__get__"))) (htk:PySem.W.takesIn K (.builtin "object.__class__")=some true)
   (hm:PySem.W.mroIn K C (.type "object")=some true):qA K H (.ref a) (.ref C)
theorem Bp {x:V}{t:Value}(I:Inv X pins σ H s)(rx:RelV x u)(ty:qA X.K H x t)(e:PySem.W.kitOne X.K t c=some b)(h:∀ tk,Q (.bool b) { s with toks:=tk }):wpAny (model X.prog X.w) A (call (.builtin "isinstance") [u,c]) Q E s:=by
 cases ty with
 |non=>cases (show u=Value.none from rx);exact PySem.W.kia_one PySem.W.kitx_none I.kIn True.intro e (λz=>nomatch z) h
 |bl y=>cases (show u=Value.bool y from rx);exact PySem.W.kia_one PySem.W.kitx_bool I.kIn True.intro e (λz=>nomatch z) h
 |int i=>obtain ⟨t,q⟩:=(show ∃ t,u=Value.int i t from rx);cases q;exact PySem.W.kia_one PySem.W.kitx_int I.kIn True.intro e (λz=>nomatch z) h
 |str y=>obtain ⟨t,q⟩:=(show ∃ t,u=Value.str y t from rx);cases q;exact PySem.W.kia_one PySem.W.kitx_str I.kIn True.intro e (λz=>nomatch z) h
 |flt y=>obtain ⟨t,q⟩:=(show ∃ t,u=Value.float y t from rx);cases q;exact PySem.W.kia_one PySem.W.kitx_float I.kIn True.intro e (λz=>nomatch z) h
 |@lst a xs ea=>cases (show u=Value.ref a from rx);obtain ⟨_,_,n,_,h1⟩:=(show ObjOk X.prog X.w H s.heap a (.lst xs) from I.hok a _ ea);exact PySem.W.kia_one PySem.W.kitx_list I.kIn ⟨_,h1,rfl⟩ e (λz=>nomatch z) h
 |@frz a ob xs ea=>cases (show u=Value.ref a from rx);obtain ⟨_,_,_,n,_,h1⟩:=(show ObjOk X.prog X.w H s.heap a (.frz ob (.lst xs)) from I.hok a _ ea);exact PySem.W.kia_one PySem.W.kitx_list I.kIn ⟨_,h1,rfl⟩ e (λz=>nomatch z) h
 |@tup a xs ea=>cases (show u=Value.ref a from rx);obtain ⟨_,_,_,p⟩:=(show ObjOk X.prog X.w H s.heap a (.tup xs) from I.hok a _ ea);obtain ⟨o,h1,h2,_⟩:=p;exact PySem.W.kia_one PySem.W.kitx_tuple I.kIn ⟨o,h1,h2⟩ e (λz=>nomatch z) h
 |@dK a kvs ea=>cases (show u=Value.ref a from rx);obtain ⟨_,_,vs,_,p⟩:=(show ObjOk X.prog X.w H s.heap a (.dK kvs) from I.hok a _ ea);obtain ⟨o,es,ep,h1,h2,_⟩:=p;exact PySem.W.kia_one PySem.W.kitx_dict I.kIn ⟨o,h1,h2.1⟩ e (λz=>nomatch z) h
 |@dT a kvs ea=>cases (show u=Value.ref a from rx);obtain ⟨_,_,xs,_,o,es,ep,h1,h2,_⟩:=(show ObjOk X.prog X.w H s.heap a (.dT kvs) from I.hok a _ ea);exact PySem.W.kia_one PySem.W.kitx_dict I.kIn ⟨o,h1,h2.1⟩ e (λz=>nomatch z) h
 |@ins a C dx fs ea cl ha hn htk hm=>cases (show u=Value.ref a from rx);obtain ⟨mA,O,_⟩:=jr I.hok ea;obtain ⟨od,J,_⟩:=O.look;exact PySem.W.kia_one (PySem.W.kitx_own (cl.get _) cl.hd ha hn htk hm) I.kIn J e (λz=>nomatch z) h
end
structure Room (k:Nat)(A:Around):Prop where
 hd:A.handled=none
 dp:A.depth+3*k+5<recursionLimit
 un:A.units+16*k+200<cLine
theorem Room.mono {k:Nat}(r:Room k A)(h:j<=k):Room j A:=⟨r.hd,by have:=r.dp;omega,by have:=r.un;omega⟩
theorem Room.deeper {k:Nat}(r:Room (k+1) A)(env:Env):Room k (A.deeper env) :=
 ⟨r.hd,by have:=r.dp;show A.depth+1+3*k+5<_;omega,by have:=r.un;show A.units+3+16*k+200<_;omega⟩
theorem BS :(A.under (.builtin "type.__call__" ⟨.ref C::us,kw⟩)).depth=A.depth+1:=by first|rfl|simp [Around.under,Code.weight,Code.isCreation,Code.isGuard,Code.isCaller,Code.frames,Code.isFrame,guardIds]
theorem BV :(A.under (.builtin "type.__call__" ⟨.ref C::us,kw⟩)).units=A.units+1:=by first|rfl|simp [Around.under,Code.cUnits,Code.frames,Code.isFrame]
theorem Room.make {k:Nat}(r:Room (k+1) A)(C:Addr)(us:List Value)(kw:List (Str×Value)):Room k (A.under (.builtin "type.__call__" ⟨.ref C::us,kw⟩)) :=
 ⟨r.hd,by have:=r.dp;rw [BS];omega,by have:=r.un;rw [BV];omega⟩
theorem Room.depth {k:Nat}(r:Room k A):A.depth<recursionLimit:=by have:=r.dp;omega
theorem Room.units {k:Nat}(r:Room k A):A.units+64<cLine:=by have:=r.un;omega
def c5:TA:=λ_ H Q=>Q [] H
def p8 (ta:TE)(tr:TA):TA:=λσ H Q=>ta σ H λx H1=>tr σ H1 λxs H2=>Q (x::xs) H2
section
variable {X:Cx}{e:Expr}{es:List Expr}{te:TE}{t:TA}{pos:Pos}
theorem y1:PA X [] c5:=λ_ _ _ _ H Q I h=>Calls.spliced_nil ⟨[],H,I,.nil,h⟩
theorem j7 (ha:PE X e te)(hr:PA X es t)(hs:starEach (e::es) X.env=(false,eval e X.env)::starEach es X.env:=by rfl):PA X (e::es) (p8 te t):=by intro pos pins s σ H Q I h;rw [hs];show wpAny _ _ (spliced ((false,eval e X.env)::backTo pos (starEach es X.env))) _ _ s;refine Calls.spliced_cons (z9 (ha pins s σ H _ I h) λu s1 ⟨x,H1,I1,r1,q1⟩=>?_);exact z9 (hr pos pins s1 σ H1 _ I1 q1) λus s2 ⟨xs,H2,I2,r2,q2⟩=>⟨x::xs,H2,I2,.cons r1 r2,q2⟩
def tTup (t:TA):TE:=λσ H Q=>t σ H λxs H1=>xs.length<=sizeLine/\∀ p,H1 p=none->Q (.ref p) (z6 H1 p (.tup xs))
def tLst (t:TA):TE:=λσ H Q=>t σ H λxs H1=>xs.length<=sizeLine/\∀ p,H1 p=none->Q (.ref p) (z6 H1 p (.lst xs))
theorem qX {x1}(h:PA X es t):PE X (.Tuple es x1 pos) (tTup t):=by intro pins s σ H Q I hq;refine wpAny_Tuple_spliced (z9 (h pos pins s σ H _ I hq) λus s1 ⟨xs,H1,I1,r,z,q⟩=>⟨by rw [<- r.length];exact z,?_⟩);have hf:H1 s1.heap.objs.size=none:=I1.hok.fresh (yU _);refine ⟨.ref s1.heap.objs.size,z6 H1 s1.heap.objs.size (.tup xs),I1.laid (t':=s1.toks) (λb u e=>yX _ e) (yU _) ?_,rfl,q _ hf⟩;exact ⟨z,us,r,⟨_,yG _ rfl,rfl,_,rfl⟩⟩
theorem xi (h:PA X es t):PE X (.List es pos) (tLst t):=by intro pins s σ H Q I hq;refine wpAny_List_spliced (z9 (h pos pins s σ H _ I hq) λus s1 ⟨xs,H1,I1,r,z,q⟩=>⟨by rw [<- r.length];exact z,?_⟩);have hf:H1 s1.heap.objs.size=none:=I1.hok.fresh (yU _);refine ⟨.ref s1.heap.objs.size,z6 H1 s1.heap.objs.size (.lst xs),I1.laid (t':=s1.toks) (λb u e=>yX _ e) (yU _) ?_,rfl,q _ hf⟩;exact ⟨z,us,0,r,yG _ rfl⟩
end
abbrev Sp:=List V->Hp->VK->XK->Prop
variable{sp:Sp}
abbrev CXT:=List Env->Hp->Shared->XK->Value->Shared->Prop
variable{CX:CXT}
structure Env0 (P:Program)(w:World)(K:Fg)(mg:Str->Option Value)(base:Heap)(A:Around)(outer:List Env)(s:Shared)(H:Hp):Prop where
 frames:A.frames=some outer
 mod:Mod K mg base
 bs:∀ b o,base.get? b=some o->s.heap.get? b=some o/\H b=none
 bsz:base.objs.size<=s.heap.objs.size
 funs:s.heap.FunFrames base outer
 frf:∀ b∈frs outer,H b=none
 hok:HOk P w H s.heap
 bare:AllBare s.gens
 tbs:∀ p∈TABS,H p.1=some (.tbl p.2.1 p.2.2)
def CE (outer:List Env)(P:Program)(w:World)(H:Hp)(s:Shared)(Q:VK)(u:Value)(s':Shared):Prop :=
 ∃ v H',s'.os=s.os/\AllBare s'.gens/\Un (frs outer) [] H H' s.heap s'.heap/\HOk P w H' s'.heap/\RelV v u/\Q v H'
def CR (CX:CXT)(outer:List Env)(P:Program)(w:World)(H:Hp)(s:Shared)(Q:VK)(E:XK)(r:Result)(s':Shared):Prop :=
 match r with
 | .ok (.ret u)=>CE outer P w H s Q u s'
 | .ok _=>False
 | .error e=>CX outer H s E e s'
structure FnOk (P:Program)(w:World)(K:Fg)(mg:Str->Option Value)(base:Heap)(CX:CXT)(k:Nat)(f:Addr)(fd:FuncData)(ps:List Str)(sp:Sp):Prop where
 len:∀ vs H Q E,sp vs H Q E->vs.length=ps.length
 run:∀(A:Around)(outer:List Env)(s:Shared)(H:Hp)(args:Args)(us:List Value)(vs:List V)(Q:VK)(E:XK),Room k A->Env0 P w K mg base A outer s H->BindsTo s fd args (ps.zip us)->Vals vs us->sp vs H Q E ->
  codeAny (model P w) A (.call (.ref f) args) (CR CX outer P w H s Q E) s
theorem FnOk.imp {k:Nat}{f:Addr}{sp':Sp}(F:FnOk P w K mg base CX k f fd ps sp)(h:∀ vs H Q E,sp' vs H Q E->sp vs H Q E):FnOk P w K mg base CX k f fd ps sp' :=
 ⟨λvs H Q E q=>F.len vs H Q E (h _ _ _ _ q),λA outer s H args us vs Q E hr he hb hv hs=>F.run A outer s H args us vs Q E hr he hb hv (h _ _ _ _ hs)⟩
theorem Env0.make (e:Env0 P w K mg base A outer s H)(C:Addr)(us:List Value)(kw:List (Str×Value)):Env0 P w K mg base (A.under (.builtin "type.__call__" ⟨.ref C::us,kw⟩)) outer s H:=⟨by first|exact e.frames|(simpa [Around.under,Code.envs,Code.isFrame,pushEnvs] using e.frames),e.mod,e.bs,e.bsz,e.funs,e.frf,e.hok,e.bare,e.tbs⟩
section
variable {X:Cx}{pins:List (Addr×Obj)}{σ:St}{H:Hp}{s s':Shared}
theorem Inv.env0 (I:Inv X pins σ H s):Env0 X.prog X.w X.K X.mg X.base X.A X.stack s H :=
 ⟨I.ok.frames,I.ok.mod,I.bs,yf I.ok.bsz I.sz,I.stack,I.stkFree,I.hok,I.bare,λp hp=>I.base.tbls _ _ _ (I.ok.tbs p hp)⟩
theorem Inv.after {Q:VK}(I:Inv X pins σ H s)(h:CE X.stack X.prog X.w H s Q u s'):EP X pins σ Q u s':=by obtain ⟨v,H',os,bare,un,hok,r,q⟩:=h;obtain ⟨hh,g,d,t,os'⟩:=s';obtain rfl:os'=s.os:=os;exact ⟨v,H',I.call (h':=hh) (g':=g) (d':=d) (t':=t) (ch:=[]) un hok bare (λb z=>absurd z (by simp)),r,q⟩
end
def xV (sp:Sp)(dvs:List V)(E:XK)(t:TA):TE:=λσ H Q=>t σ H λvs H1=>sp (vs++dvs) H1 Q E
def jM (C:Addr)(m:Str)(sp:Sp)(dvs:List V)(E:XK)(ta:TE)(t:TA):TE:=λσ H Q=>ta σ H λx H1=>∃ a dx fs,x = .ref a/\H1 a=some (.ins C dx fs)/\fs.lookup m=none /\
 t σ H1 λvs H2=>sp (x::(vs++dvs)) H2 Q E
def wR (C:Addr)(sp:Sp)(dvs:List V)(E:XK)(t:TA):TE:=λσ H Q=>t σ H λvs H1=>∀ x dx,H1 x=none->H1 dx=none->dx≠x ->
 sp (.ref x::(vs++dvs)) (z6 (z6 H1 dx (.own x)) x (.ins C dx [])) (λv H2=>v = .non/\Q (.ref x) H2) E
def Binds (K:Fg)(fd:FuncData)(ps:List Str)(ds:List Value):Prop :=
 ∀(s:Shared)(us:List Value),K.In s.heap->(us++ds).length=ps.length->BindsTo s fd ⟨us,[]⟩ (ps.zip (us++ds))
theorem Binds.all (h:∀ us:List Value,us.length=ps.length->bindArgs fd ⟨us,[]⟩=pure (ps.zip us)):Binds K fd ps []:=λs us _ hl=>by
 rw [yq] at hl ⊢;exact .of_eq (h us hl)
def jb (CX:CXT)(X:Cx)(E:XK):Prop:=∀(pins:List (Addr×Obj))(σ:St)(H:Hp)(s:Shared)(e:Value)(s':Shared),Inv X pins σ H s->CX X.stack H s E e s'->X.xe e s'
section
variable {X:Cx}{CX:CXT}{k:Nat}{f C:Addr}{fd:FuncData}{ps:List Str}{sp:Sp}{dvs:List V}{ds:List Value}{E:XK}{x m:Str}{p pos apos:Pos}{e o:Expr}{es:List Expr}{ta:TE}{t:TA}
theorem ZC {Q:VK}(F:FnOk X.prog X.w X.K X.mg X.base CX k f fd ps sp)(hr:Room k X.A)(hb:Binds X.K fd ps ds)(hd:Vals dvs ds)(hx:jb CX X E)(I:Inv X pins σ H s)(r:Vals vs us)(h:sp (vs++dvs) H Q E):wpAny (model X.prog X.w) X.A (call (.ref f) us) (EP X pins σ Q) X.xe s:=by
 have r2:Vals (vs++dvs) (us++ds):=r.append hd;have hl:(us++ds).length=ps.length:=by rw [<- r2.length];exact F.len _ _ _ _ h
 refine wpAny_call (codeAny_mono (F.run X.A X.stack s H ⟨us,[]⟩ (us++ds) (vs++dvs) Q E hr I.env0 (hb s us I.kIn hl) r2 h) λr s' hq=>?_);cases r with
 |error e=>exact hx pins σ H s e s' I hq
 |ok fl =>
  cases fl with
  |ret u=>exact I.after hq
  |next=>exact False.elim hq
  |brk=>exact False.elim hq
  |cont=>exact False.elim hq
theorem CM (F:FnOk X.prog X.w X.K X.mg X.base CX k f fd ps sp)(hr:Room k X.A)(hg:Gl X x)(hm:X.mg x=some (.ref f))(hk:PySem.W.keepIn X.K (.ref f)=true)(hb:Binds X.K fd ps ds)(hd:Vals dvs ds)(hx:jb CX X E)(ha:PA X (e::es) t)(hdb:(x==("__debug__":Str))=false:=by decide)(he:starEach (e::es) X.env=(false,eval e X.env)::starEach es X.env:=by rfl)(hpl:(backTo pos (starEach es X.env)).any (·.1)=false:=by rfl):PE X (.Call (.Name x p) (e::es) [] pos) (xV sp dvs E t):=by intro pins s σ H Q I h;refine wpAny_Call_Name_kw (XT I hg hm ?_ hdb);refine PySem.W.callWith_K (h₀:=X.base) I.ok.mod.kin hk (z9 (ha pos pins s σ H _ I h) λus s1 ⟨vs,H1,I1,r,q⟩=>⟨I1.kIn,?_⟩) he hpl;exact ZC F hr hb hd hx I1 r q
theorem CS (he:PE X o ta)(c:Cls X.K C)(hm:vJ X.K C m f)(F:FnOk X.prog X.w X.K X.mg X.base CX k f fd ps sp)(hr:Room k X.A)(hb:Binds X.K fd ps ds)(hd:Vals dvs ds)(hx:jb CX X E)(ha:PA X (e::es) t)
  (hst:starEach (e::es) X.env=(false,eval e X.env)::starEach es X.env:=by rfl) (hpl:(backTo pos (starEach es X.env)).any (·.1)=false:=by rfl)
  (ht:eval (.Call (.Attribute o m apos) (e::es) [] pos) X.env=(do
   let ov <- eval o X.env
   standAt apos.atName
   let (f,first) <- holding [ov] (getMethod ov m pl)
   callWith pos f first (backTo pos (starEach (e::es) X.env)) (backToKw pos (keywordEach [] X.env))):=by rfl) :
  PE X (.Call (.Attribute o m apos) (e::es) [] pos) (jM C m sp dvs E ta t):=by
 intro pins s σ H Q I h;refine PySem.W.methodCall_KW (pl:=pl) (z9 (he pins s σ H _ I h) λu s1 ⟨x,H1,I1,rx,a,dx,fs,ex,ea,l,q⟩=>?_) ht;subst ex;obtain rfl:u=Value.ref a:=rx;refine XH I1 ea c hm l ?_;refine PySem.W.callWith_K (first:=[.ref a]) (h₀:=X.base) I.ok.mod.kin hm.kp (z9 (ha pos pins s1 σ H1 _ I1 q) λus s2 ⟨vs,H2,I2,r,q2⟩=>⟨I2.kIn,?_⟩) hst hpl;exact ZC (us:= .ref a::us) (vs:= .ref a::vs) F hr hb hd hx I2 (.cons rfl r) q2
theorem CT (he:PE X o ta)(c:Cls X.K C)(hm:vJ X.K C m f)(F:FnOk X.prog X.w X.K X.mg X.base CX k f fd ps sp)(hr:Room k X.A)(hb:Binds X.K fd ps ds)(hd:Vals dvs ds)(hx:jb CX X E)
  (ht:eval (.Call (.Attribute o m apos) [] [] pos) X.env=(do
   let ov <- eval o X.env
   standAt apos.atName
   let (f,first) <- holding [ov] (getMethod ov m pl)
   callWith pos f first (backTo pos (starEach [] X.env)) (backToKw pos (keywordEach [] X.env))):=by rfl) :
  PE X (.Call (.Attribute o m apos) [] [] pos) (jM C m sp dvs E ta c5):=by
 intro pins s σ H Q I h;refine PySem.W.methodCall_KW (pl:=pl) (z9 (he pins s σ H _ I h) λu s1 ⟨x,H1,I1,rx,a,dx,fs,ex,ea,l,q⟩=>?_) ht;subst ex;obtain rfl:u=Value.ref a:=rx;refine XH I1 ea c hm l ?_;exact PySem.W.callWith_K0 (first:=[.ref a]) I1.kIn hm.kp (ZC (us:=[.ref a]) (vs:=[.ref a]) F hr hb hd hx I1 (.cons rfl .nil) q)
structure Mk (K:Fg)(C f:Addr):Prop where
 makes:PySem.W.makesIn K C=true
 init:PySem.W.findIn K (.ref C) "__init__"=some (some (.ref f))
 fn:PySem.W.isFn K (.ref f)=true
 kp:PySem.W.keepIn K (.ref C)=true
theorem DL {Q:VK}(M:Mk X.K C f)(F:FnOk X.prog X.w X.K X.mg X.base CX k f fd ps sp)(hr:Room (k+1) X.A)(hb:Binds X.K fd ps ds)(hd:Vals dvs ds)(hx:jb CX X E)(I:Inv X pins σ H s)(r:Vals vs us)(h:∀ x dx,H x=none->H dx=none->dx≠x->sp (.ref x::(vs++dvs)) (z6 (z6 H dx (.own x)) x (.ins C dx [])) (λv H2=>v = .non/\Q (.ref x) H2) E):wpAny (model X.prog X.w) X.A (call (.ref C) us) (EP X pins σ Q) X.xe s:=by
 have hq:=h (s.heap.objs.size+1) s.heap.objs.size (I.hok.fresh (uz _)) (I.hok.fresh (yU _)) (yL (uF _));have I2:=Inv.made (C:=C) I;have r2:Vals (V.ref (s.heap.objs.size+1)::(vs++dvs)) (Value.ref (s.heap.objs.size+1)::(us++ds)):= .cons rfl (r.append hd);have hl:(Value.ref (s.heap.objs.size+1)::us++ds).length=ps.length:=by have e:=r2.length;rw [F.len _ _ _ _ hq] at e;exact e.symm
 refine wpAny_call (BU (f:=f) I.kIn M.makes M.init (beq_iff_eq.mp M.fn) (codeAny_mono (F.run _ X.stack _ _ ⟨Value.ref (s.heap.objs.size+1)::us,[]⟩ (Value.ref (s.heap.objs.size+1)::(us++ds)) _ _ E (hr.make C us [])
  (I2.env0.make C us []) (hb _ (Value.ref (s.heap.objs.size+1)::us) I2.kIn hl) r2 hq) λr s' hq'=>?_))
 cases r with
 |error e=>exact hx pins σ _ _ e s' I2 hq'
 |ok fl =>
  cases fl with
  |ret u=>obtain ⟨v,H',I3,rv,ev,q3⟩:=I2.after hq';subst ev;exact ⟨rv,⟨V.ref (s.heap.objs.size+1),H',I3,rfl,q3⟩⟩
  |next=>exact False.elim hq'
  |brk=>exact False.elim hq'
  |cont=>exact False.elim hq'
theorem CQ (M:Mk X.K C f)(F:FnOk X.prog X.w X.K X.mg X.base CX k f fd ps sp)(hr:Room (k+1) X.A)(hg:Gl X x)(hm:X.mg x=some (.ref C))(hb:Binds X.K fd ps ds)(hd:Vals dvs ds)(hx:jb CX X E)(ha:PA X (e::es) t)(hdb:(x==("__debug__":Str))=false:=by decide)(he:starEach (e::es) X.env=(false,eval e X.env)::starEach es X.env:=by rfl)(hpl:(backTo pos (starEach es X.env)).any (·.1)=false:=by rfl):PE X (.Call (.Name x p) (e::es) [] pos) (wR C sp dvs E t):=by intro pins s σ H Q I h;refine wpAny_Call_Name_kw (XT I hg hm ?_ hdb);refine PySem.W.callWith_K (h₀:=X.base) I.ok.mod.kin M.kp (z9 (ha pos pins s σ H _ I h) λus s1 ⟨vs,H1,I1,r,q⟩=>⟨I1.kIn,?_⟩) he hpl;exact DL M F hr hb hd hx I1 r q
end
structure v7 (N P:List Str)(sc:Scope):Prop where
 kind:sc.kind = .function
 co:sc.isCoroutine=false
 gen:sc.isGenerator=false
 nd:N.Nodup
 pre:N.take P.length=P
 par:∀ x∈P,sc.names.lookup x=some .local∨sc.names.lookup x=some .cell
 nofree:∀ y∈sc.names,y.2 ≠ .free
theorem Wf {kindOf:Str->Option NameKind}{x:Str}:∀{binds:List (Str×Value)}{m:Str->Option Value},(∀ v,(x,v)∉binds)->bindL kindOf binds m x=m x
 |[],_,_=>rfl
 |(n,v)::r,m,h=>by
  unfold bindL;rw [Wf λw hw=>h w (yO _ hw)];split
  ·have:x≠n:=by rintro rfl;exact h v yR
   simp [this]
  ·rfl
theorem Wd {kindOf:Str->Option NameKind}{x:Str}:∀{binds:List (Str×Value)}{m:Str->Option Value},(∀ v,(x,v)∉binds)->bindC kindOf binds m x=m x
 |[],_,_=>rfl
 |(n,v)::r,m,h=>by
  unfold bindC;rw [Wd λw hw=>h w (yO _ hw)];split
  ·rfl
  ·have:x≠n:=by rintro rfl;exact h v yR
   simp [this]
theorem We {kindOf:Str->Option NameKind}{x:Str}{v:Value}:∀{P:List Str}{vs:List Value}{i:Nat}{m:Str->Option Value},P.Nodup->P[i]?=some x->vs[i]?=some v->kindOf x=some .local -> bindL kindOf (P.zip vs) m x=some v
 |[],_,_,_,_,h,_,_=>by simp at h
 |_::_,[],_,_,_,_,h,_=>by simp at h
 |p::P,w::vs,0,m,nd,h1,h2,hk=>by
  simp at h1 h2;subst h1;subst h2;show bindL kindOf ((p,w)::P.zip vs) m p=_;unfold bindL;rw [Wf λv hv=>(yx.mp nd).1 (uQ hv).1,if_pos hk];simp
 |p::P,w::vs,i+1,m,nd,h1,h2,hk=>by
  show bindL kindOf ((p,w)::P.zip vs) m x=_;unfold bindL;exact We (i:=i) (yx.mp nd).2 (by simpa using h1) (by simpa using h2) hk
theorem Wc {kindOf:Str->Option NameKind}{x:Str}{v:Value}:∀{P:List Str}{vs:List Value}{i:Nat}{m:Str->Option Value},P.Nodup->P[i]?=some x->vs[i]?=some v->kindOf x≠some .local -> bindC kindOf (P.zip vs) m x=some v
 |[],_,_,_,_,h,_,_=>by simp at h
 |_::_,[],_,_,_,_,h,_=>by simp at h
 |p::P,w::vs,0,m,nd,h1,h2,hk=>by
  simp at h1 h2;subst h1;subst h2;show bindC kindOf ((p,w)::P.zip vs) m p=_;unfold bindC;rw [Wd λv hv=>(yx.mp nd).1 (uQ hv).1,if_neg hk];simp
 |p::P,w::vs,i+1,m,nd,h1,h2,hk=>by
  show bindC kindOf ((p,w)::P.zip vs) m x=_;unfold bindC;exact Wc (i:=i) (yx.mp nd).2 (by simpa using h1) (by simpa using h2) hk
def start (N:List Str)(vs:List V):St:=vs.map some++List.replicate (N.length-vs.length) none
def qG (CX:CXT)(P:Program)(w:World)(K:Fg)(mg:Str->Option Value)(base:Heap)(N:List Str)(qual:Str)(scope:Scope)(f:Addr)(cd:Value)(A:Around)(outer:List Env)(s:Shared)(H:Hp)(E:XK):Cx where
 prog:=P
 w:=w
 K:=K
 mg:=mg
 base:=base
 A:=A.deeper (envOfC qual scope s.heap.objs.size f cd)
 N:=N
 s₀:=s
 H₀:=H
 env:=envOfC qual scope s.heap.objs.size f cd
 outer:=outer
 stack:=envOfC qual scope s.heap.objs.size f cd::outer
 ex:=[]
 calm:=true
 fn:=λ_=>true
 pn:=[]
 xe:=λe s'=>wpAny (model P w) (A.deeper (envOfC qual scope s.heap.objs.size f cd)) (leaving (envOfC qual scope s.heap.objs.size f cd) e) (λ_ s''=>CX outer H s E e s'') (λe' s''=>CX outer H s E e' s'') s'
theorem Wu {sc:Scope}(h:sc.names.lookup x=some .cell):∃ c,(cellsFrom n sc.names []).lookup x=some c:=by have q:=PySem.W.cellsFrom_some sc.names n [] (.inl h);exact Option.isSome_iff_exists.mp q
theorem Bk {f:Addr}{cd:Value}{s1:Shared}{E:XK}(S:v7 N ps scope)(hd:A.handled=none)(e0:Env0 P w K mg base A outer s H)(hl:vs.length=ps.length)(r:Vals vs us)(x:InCallC s s.heap.objs.size (bindL (envOfC qual scope s.heap.objs.size f cd).kindOf (ps.zip us) λ_=>none) (cellsFrom (s.heap.objs.size+1) scope.names []) (bindC (envOfC qual scope s.heap.objs.size f cd).kindOf (ps.zip us) λ_=>none) s1):Inv (qG CX P w K mg base N qual scope f cd A outer s H E) [] (start N vs) H s1:=by
 have hpl:ps.length<=N.length:=by have:=congrArg List.length S.pre;rw [um] at this;omega
 obtain ⟨h1,tk,rfl,hk⟩:=x.done;have noA:∀ b:Addr,b∉(qG CX P w K mg base N qual scope f cd A outer s H E).ex:=λb z=>absurd (show b∈([]:List Addr) from z) (by simp);refine ⟨⟨e0.mod,S.kind,rfl,rfl,yU _,λy z c h1 h2=>?_,λy hy=>?_,λy c _ h=>?_,λ_=>hd,Around.frames_deeper e0.frames,.inr ⟨rfl,rfl⟩,λb z=>absurd z (noA b),e0.bs,e0.bsz,λb _ _=>noA b,λb z=>absurd z (noA b),e0.funs,e0.frf,e0.tbs⟩,
  rfl,e0.bare,Un.kept hk,⟨_,x.toInCall.ns,λi y v h1 h2 h3=>?_⟩,λy c h=>⟨_,x.cell y c h⟩,e0.hok.fresh (yU _),λy c h=>?_,λp hp=>absurd (show p∈([]:List (Addr×Obj)) from hp) (by simp),e0.hok.kept hk,?_⟩
 ·exact name_of_addr x.apart (PySem.mem_of_lookup h1) (PySem.mem_of_lookup h2)
 ·have hy:scope.names.lookup y=some .cell∨scope.names.lookup y=some .free:=hy;rcases hy with hy|hy
  ·exact Wu hy
  ·exact absurd rfl (S.nofree _ (PySem.mem_of_lookup hy))
 ·exact uV (x.above y c (PySem.mem_of_lookup h))
 ·have hi:i<vs.length:=by
   unfold start at h2;by_cases hi:i<vs.length
   ·exact hi
   ·rw [uC (by simpa using hi)] at h2;rw [ut] at h2;split at h2<;>cases h2
  have ha:vs[i]?=some v:=by
   unfold start at h2;rw [uK (by simpa using hi),yP] at h2;cases e:vs[i]? with
   |none=>rw [e] at h2;cases h2
   |some a=>rw [e] at h2;cases h2;rfl
  obtain ⟨u,hu,rv⟩:=r.get ha;have hp:ps[i]?=some y:=by rw [<- S.pre,List.getElem?_take_of_lt (by omega)];exact h1
  have ndP:ps.Nodup:=by rw [<- S.pre];exact S.nd.sublist (List.take_sublist _ _)
  refine ⟨u,rv,?_⟩;rcases S.par y (yp hp) with k|k
  ·exact .inl ⟨k,We ndP hp hu k⟩
  ·obtain ⟨c,e⟩:=Wu (n:=s.heap.objs.size+1) k;refine .inr ⟨.inl k,c,e,?_⟩;have q:=x.cell y c e;rw [Wc ndP hp hu (by show scope.names.lookup y≠_;rw [k];decide)] at q;exact q
 ·exact e0.hok.fresh (uV (x.above y c (PySem.mem_of_lookup h)))
 ·unfold start;show _=N.length;rw [yQ,yZ,uo];omega
theorem WZ {k:Nat}{f:Addr}{name:Str}{params:Arguments}{dV kV doc pm cdv ct oc:Value}{an od:Option Addr}{osl:Array (Option Value)}(lk:K.lookup f=some ⟨oc,od,.func (PySem.W.fnOf name qual params body scope dV kV doc pm an cdv ct),osl⟩)(hcd:PySem.W.codeIn K cdv qual=true)(S:v7 N ps scope)(len:∀ vs H Q E,sp vs H Q E->vs.length=ps.length)(hbody:∀(A:Around)(outer:List Env)(s:Shared)(H:Hp)(vs:List V)(Q:VK)(E:XK),Room k (A.deeper (envOfC qual scope s.heap.objs.size f cdv))->sp vs H Q E -> ∃ t,PSs (qG CX P w K mg base N qual scope f cdv A outer s H E) body t/\t { nx:=λ_ H'=>Q .non H',rt:=Q } (start N vs) H):FnOk P w K mg base CX (k+1) f (PySem.W.fnOf name qual params body scope dV kV doc pm an cdv ct) ps sp:=by
 refine ⟨len,λA outer s H args us vs Q E hr e0 hb r hsp=>?_⟩;have hl:=len _ _ _ _ hsp;have KX:K.In s.heap:=e0.mod.kin.keeps λb o e=>(e0.bs b o e).1;have lim:s.heap.NoLimit:=e0.mod.nolimit.keeps λb o e=>(e0.bs b o e).1;have hkind:∀ y∈ps.zip us,scope.names.lookup y.1=some .local∨(scope.names.lookup y.1=some .cell/\((cellsFrom (s.heap.objs.size+1) scope.names []).lookup y.1).isSome=true):=λ⟨n,v⟩ hy=>by
  rcases S.par n (uQ hy).1 with q|q
  ·exact .inl q
  ·exact .inr ⟨q,PySem.W.cellsFrom_some _ _ _ (.inl q)⟩
 refine codeAny_call_function hr.depth (KX _ _ lk) rfl S.co S.gen rfl (PySem.W.codeRec_of KX hcd) (hb _ _ _ _ ?_);refine wpAny_newFunctionEnv_cells S.kind hkind λenv he s1 x=>?_;subst he;refine ⟨lim.keeps x.toInCall.keep,codeAny_func ?_⟩;obtain ⟨t,ht,hq⟩:=hbody A outer s H vs Q E (hr.deeper _) hsp;have I:Inv (qG CX P w K mg base N qual scope f cdv A outer s H E) [] (start N vs) H s1:=Bk S hr.hd e0 hl r x;refine wpAny_mono (ht [] s1 (start N vs) H _ I hq) (λfl s' hs=>?_) λe s' hs=>hs;have fin:∀{σ':St}{H':Hp}{v:V}{u:Value},Inv (qG CX P w K mg base N qual scope f cdv A outer s H E) [] σ' H' s'->RelV v u->Q v H'->CE outer P w H s Q u s' :=
  λ{σ' H' v u} J rv q=>⟨v,H',J.os,J.bare,J.base,J.hok,rv,q⟩
 cases fl with
 |ret u=>obtain ⟨v,σ',H',J,rv,q⟩:=hs;exact fin J rv q
 |next=>obtain ⟨σ',H',J,q⟩:=hs;exact fin (v:=V.non) (u:=Value.none) J rfl q
 |brk=>obtain ⟨_,_,_,q⟩:=hs;exact False.elim q
 |cont=>obtain ⟨_,_,_,q⟩:=hs;exact False.elim q
section
variable {X:Cx}{x:Str}{p pos:Pos}{e:Expr}{es:List Expr}{t:TA}{id T:String}{r:List V->Hp->VK->Prop}
def tCB (r:List V->Hp->VK->Prop)(t:TA):TE:=λσ H Q=>t σ H λvs H1=>r vs H1 Q
theorem y2 (hc:CallR X (.builtin id) r)(hg:Gl X x)(hm:X.mg x=none)(hv:bootBuiltins x=some (.builtin id))(ha:PA X (e::es) t)(hn:x ≠ "__name__":=by decide)(hdb:(x==("__debug__":Str))=false:=by decide)(he:starEach (e::es) X.env=(false,eval e X.env)::starEach es X.env:=by rfl)(hpl:(backTo pos (starEach es X.env)).any (·.1)=false:=by rfl):PE X (.Call (.Name x p) (e::es) [] pos) (tCB r t):=by intro pins s σ H Q I h;refine wpAny_Call_Name_kw (ze I hg hm hv ?_ hn hdb);exact PyProof.Rows.callWith_builtin1 (z9 (ha pos pins s σ H _ I h) λus s1 ⟨vs,H1,I1,r1,q1⟩=>hc pins s1 σ H1 vs us Q I1 r1 q1) he hpl
theorem zQ (hc:CallR X (.type T) r)(hg:Gl X x)(hm:X.mg x=none)(hv:bootBuiltins x=some (.type T))(ha:PA X (e::es) t)(hn:x ≠ "__name__":=by decide)(hdb:(x==("__debug__":Str))=false:=by decide)(he:starEach (e::es) X.env=(false,eval e X.env)::starEach es X.env:=by rfl)(hpl:(backTo pos (starEach es X.env)).any (·.1)=false:=by rfl):PE X (.Call (.Name x p) (e::es) [] pos) (tCB r t):=by intro pins s σ H Q I h;refine wpAny_Call_Name_kw (ze I hg hm hv ?_ hn hdb);exact PyProof.Rows.callWith_type1 (z9 (ha pos pins s σ H _ I h) λus s1 ⟨vs,H1,I1,r1,q1⟩=>hc pins s1 σ H1 vs us Q I1 r1 q1) he hpl
end
end L2
namespace HT
open PySem PyProof.Rows
section
variable {prog:Program}{w:World}{A:Around}{E:Value->Shared->Prop}{s:Shared}
theorem cat_tup {t b:Addr}{vs ws:List Value}{Q:Value->Shared->Prop}(ht:IsTup s.heap t vs.toArray)(hb:IsTup s.heap b ws.toArray)(hv:vs≠[])(h1:ws=[]->Q (.ref t) s)(h2:ws≠[]->Q (.ref s.heap.objs.size) { s with heap:=s.heap.push { cls:= .type "tuple",data:= .seq (vs++ws).toArray } })(hsz:vs.length+ws.length<=sizeLine):wpAny (model prog w) A (binaryOp .Add (.ref t) (.ref b)) Q E s:=by
 obtain ⟨⟨cls,dd,data,sl⟩,ho,hc,n,hd⟩:=id ht;obtain ⟨⟨cls2,dd2,data2,sl2⟩,ho2,hc2,n2,hd2⟩:=id hb;simp only at hc hd hc2 hd2;subst hc hd hc2 hd2;have e:vs.toArray++ws.toArray=(vs++ws).toArray:=by simp
 by_cases hw:ws=[]
 ·exact concat_meets ⟨_,ho,rfl⟩ ⟨_,ho2,rfl⟩ noFill_tuple_add seq_tuple_add PySem.F.slot_tuple_add PySem.F.entry_tuple_add (PySem.F.args_tuple_add_2 _ _)
   (tuple_addW1 t b vs.toArray ws.toArray n n2 dd dd2 sl sl2 (by simpa using hv) (by simp [hw])) ⟨ho,ho2,h1 hw⟩
 ·refine concat_meets ⟨_,ho,rfl⟩ ⟨_,ho2,rfl⟩ noFill_tuple_add seq_tuple_add PySem.F.slot_tuple_add PySem.F.entry_tuple_add (PySem.F.args_tuple_add_2 _ _)
   (tuple_addW2 t b vs.toArray ws.toArray n n2 dd dd2 sl sl2 (by simpa using hv) (by simpa using hw) (by rw [yY,yY];exact hsz)) ⟨ho,ho2,?_⟩
  rw [e];exact h2 hw
end
end HT
namespace L2
open PySem PySem.Spec PyProof.Rows
variable{r:R2}{xs:List (List z5×Addr×Value)}{j n t':Nat}{α:Type}{pins:List (Addr×Obj)}{σ:St}{H H':Hp}{s:Shared}{its its':List Value}{A:Around}{x y:V}{u v:Value}{T:String}{o:Option V}{P:Program}{w:World}{kvs:List (List z5×V)}{a:Addr}{Q:Value->Shared->Prop}{h':Heap}
abbrev TO:=St->Hp->(Option Int->Hp->Prop)->Prop
def PO (X:Cx)(e:Option Expr)(t:TO):Prop :=
 ∀(pins:List (Addr×Obj))(s:Shared)(σ:St)(H:Hp)(Q:Option Int->Hp->Prop),Inv X pins σ H s->t σ H Q ->
  wpAny (model X.prog X.w) X.A (evalPart e X.env) (λu s'=>∃ o H',Inv X pins σ H' s'/\IsPart u o/\Q o H') X.xe s
def UP:TO:=λ_ H Q=>Q none H
def UR (t:TE):TO:=λσ H Q=>t σ H λx H1=>∃ i,x = .int i/\Q (some i) H1
section
variable {X:Cx}{e:Expr}{te:TE}{lo hi:Option Expr}{tl th:TO}{pos p2:Pos}
theorem Dh:PO X none UP:=by intro pins s σ H Q I h;rw [evalPart_none];exact yJ ⟨none,H,I,.none,h⟩
theorem Di (h:PE X e te):PO X (some e) (UR te):=by intro pins s σ H Q I hw;rw [evalPart_some];refine z9 (h pins s σ H _ I hw) λu s1 ⟨x,H1,I1,r1,q1⟩=>?_;obtain ⟨i,rfl,q⟩:=q1;obtain ⟨t,rfl⟩:=r1;exact ⟨some i,H1,I1,.int i t,q⟩
def SlR (X:Cx)(r:V->Option Int->Option Int->Hp->VK->Prop):Prop :=
 ∀(pins:List (Addr×Obj))(s:Shared)(σ:St)(H:Hp)(x:V)(v vl vu:Value)(lo hi:Option Int)(sl:Addr)(Q:VK),Inv X pins σ H s->RelV x v->s.heap.IsSliceOf sl vl vu .none->IsPart vl lo->IsPart vu hi->r x lo hi H Q ->
  ∃ T id,typeLookup (.type T) "__getitem__"=pure (some (.builtin id))/\s.TypeIs v T/\wpAny (model X.prog X.w) X.A (getItem v (.ref sl)) (EP X pins σ Q) X.xe s
def tSl (r:V->Option Int->Option Int->Hp->VK->Prop)(te:TE)(tl th:TO):TE:=λσ H Q=>te σ H λx H1=>tl σ H1 λl H2=>th σ H2 λu H3=>r x l u H3 Q
theorem CU {r:V->Option Int->Option Int->Hp->VK->Prop}(hr:SlR X r)(he:PE X e te)(hl:PO X lo tl)(hu:PO X hi th):PE X (.Subscript e (.Slice lo hi none p2) pos) (tSl r te tl th):=by intro pins s σ H Q I h;refine Subscript_ (z9 (he pins s σ H _ I h) λv s1 ⟨x,H1,I1,r1,q1⟩=>?_);refine wpAny_Slice (z9 (hl pins s1 σ H1 _ I1 q1) λvl s2 ⟨l,H2,I2,pl,q2⟩=>z9 (hu pins s2 σ H2 _ I2 q2) λvu s3 ⟨u,H3,I3,pu,q3⟩=>?_);rw [evalPart_none];refine yJ ?_;have I4:Inv X pins σ H3 { s3 with heap:=s3.heap.push { cls:= .type "slice",data:= .fields #[vl,vu,.none] } }:=I3.kept (t':=s3.toks) λb ob q=>yX _ q;obtain ⟨T,id,hT,ht,hg⟩:=hr pins { s3 with heap:=s3.heap.push { cls:= .type "slice",data:= .fields #[vl,vu,.none] } } σ H3 x v vl vu l u s3.heap.objs.size Q I4 r1 (Heap.IsSliceOf.new ..) pl pu q3;show wpAny (model X.prog X.w) X.A (subscriptTail e (.Slice lo hi none p2) v (.ref s3.heap.objs.size)) (EP X pins σ Q) X.xe { s3 with heap:=s3.heap.push { cls:= .type "slice",data:= .fields #[vl,vu,.none] } };exact tail_any (ops:=[.ref s3.heap.objs.size,v]) ht hT hg (by with_unfolding_all rfl)
def YX (K:Fg):R2:=λx y H Q=>∃ a b xs ys,x = .ref a/\y = .ref b/\SqT K H a xs/\SqT K H b ys/\xs≠[]/\xs.length+ys.length<=sizeLine /\
 (ys=[]->Q (.ref a) H)/\(ys≠[]->∀ p,H p=none->Q (.ref p) (z6 H p (.tup (xs++ys))))
theorem Vals.nil_iff {xs:List V}{us:List Value}(r:Vals xs us):us=[]↔xs=[]:=by
 cases r with
 |nil=>simp
 |cons _ _=>simp
theorem Cy:OpR X (binaryOp .Add) (YX X.K):=by intro pins s σ H x y v u Q I rx ry h;obtain ⟨a,b,xs,ys,rfl,rfl,ha,hb,hx,hz,q1,q2⟩:=h;cases rx;cases ry;obtain ⟨its,r1,p1,_⟩:=I.tuple ha;obtain ⟨its2,r2,p2,_⟩:=I.tuple hb;refine HT.cat_tup p1 p2 (λz=>hx (r1.nil_iff.mp z)) (λz=>⟨.ref a,H,I,rfl,q1 (r2.nil_iff.mp z)⟩) (λz=>?_) (by rw [<- r1.length,<- r2.length];exact hz);refine ⟨.ref s.heap.objs.size,_,I.laid (t':=s.toks) (o:= .tup (xs++ys)) (λb ob q=>yX _ q) (yU _) ?_,rfl,q2 (λw=>z (r2.nil_iff.mpr w)) _ (I.hok.fresh (yU _))⟩;exact ⟨by rw [yQ];exact hz,_,r1.append r2,IsTup.new _ _⟩
end
def ixN (n:Nat)(i:Int):Option Nat:=if 0<=i then (if i<n then some i.toNat else none) else if -(n:Int)<=i then some (i+n).toNat else none
def atI {α:Type}(xs:List α)(i:Int):Option α:=(ixN xs.length i).bind λj=>xs[j]?
theorem Yj {i:Int}(h:ixN n i=some j):seqIndex? i n=some j/\j<n/\-(n:Int)<=i/\i<n:=by
 unfold ixN at h;by_cases h0:0<=i
 ·rw [if_pos h0] at h;by_cases h1:i<n
  ·rw [if_pos h1] at h;have e:i.toNat=j:=Option.some.inj h;exact ⟨by rw [seqIndex_of h0 h1,e],by omega,by omega,h1⟩
  ·rw [if_neg h1] at h;cases h
 ·rw [if_neg h0] at h;by_cases h1:-(n:Int)<=i
  ·rw [if_pos h1] at h;have e:(i+n).toNat=j:=Option.some.inj h;exact ⟨by rw [seqIndex_neg (by omega) h1,e],by omega,h1,by omega⟩
  ·rw [if_neg h1] at h;cases h
theorem Xk {xs:List α}{i:Int}{v:α}(h:atI xs i=some v):∃ j,seqIndex? i xs.length=some j/\xs[j]?=some v/\j<xs.length/\-(xs.length:Int)<=i/\i<xs.length:=by
 unfold atI at h;cases e:ixN xs.length i with
 |none=>rw [e] at h;cases h
 |some j=>rw [e] at h;obtain ⟨h1,h2,h3,h4⟩:=Yj e;exact ⟨j,h1,h,h2,h3,h4⟩
theorem qQ {xs:List α}{v:α}(h:xs[j]?=some v):atI xs (j:Int)=some v:=by
 have hj:j<xs.length:=(yH.mp h).1;have e:ixN xs.length (j:Int)=some j:=by unfold ixN;rw [if_pos (by omega),if_pos (by omega)];simp
 unfold atI;rw [e];exact h
def JZ (b:Expr):Prop:=∀ o i,subscripted b false o i=operate [o,i] (getItem o i)
def IxR (X:Cx)(r:R2):Prop :=
 ∀(value slice:Expr)(pins:List (Addr×Obj))(s:Shared)(σ:St)(H:Hp)(x y:V)(v u:Value)(Q:VK),Inv X pins σ H s->RelV x v->RelV y u->r x y H Q ->
  subscripted slice false v u=operate [v,u] (getItem v u)->wpAny (model X.prog X.w) X.A (subscriptTail value slice v u) (EP X pins σ Q) X.xe s
def MtR (X:Cx)(id:String)(r:V->List V->Hp->VK->Prop):Prop :=
 ∀(pins:List (Addr×Obj))(s:Shared)(σ:St)(H:Hp)(x:V)(xs:List V)(v:Value)(us:List Value)(Q:VK),Inv X pins σ H s->RelV x v->Vals xs us->r x xs H Q ->
  wpAny (model X.prog X.w) X.A (call (.builtin id) (v::us)) (EP X pins σ Q) X.xe s
section
variable {X:Cx}{a b:Expr}{ta tb:TE}{pos:Pos}
theorem IxR.or {r':R2}(h:IxR X r)(h':IxR X r'):IxR X (λx y H Q=>r x y H Q∨r' x y H Q):=by
 intro value slice pins s σ H x y v u Q I rx ry q hs;rcases q with q|q
 ·exact h value slice pins s σ H x y v u Q I rx ry q hs
 ·exact h' value slice pins s σ H x y v u Q I rx ry q hs
theorem QV (hr:IxR X r)(ha:PE X a ta)(hb:PE X b tb)(hs:JZ b):PE X (.Subscript a b pos) (tOp r ta tb):=by intro pins s σ H Q I h;exact Subscript_ (binT ha hb I h λv u s2 x y H2 I2 rx ry q=>hr a b pins s2 σ H2 x y v u Q I2 rx ry q (hs _ _))
def rIxL (K:Fg):R2:=λx y H Q=>∃ p xs i v,x = .ref p/\y = .int i/\SqL K H p xs/\atI xs i=some v/\Q v H
def rIxT (K:Fg):R2:=λx y H Q=>∃ p xs i v,x = .ref p/\y = .int i/\SqT K H p xs/\atI xs i=some v/\Q v H
def rIxS:R2:=λx y H Q=>∃ z i c,x = .str z/\y = .int i/\z.length<=sizeLine/\atI z.cps.toList i=some c/\Q (.str ⟨#[c]⟩) H
theorem ix_list:IxR X (rIxL X.K):=by
 intro value slice pins s σ H x y v u Q I rx ry h hs;obtain ⟨p,xs,i,z,rfl,rfl,hq,he,q⟩:=h;cases rx;obtain ⟨t,rfl⟩:=ry;obtain ⟨its,r,pl,hz⟩:=I.list hq;obtain ⟨j,h1,h2,h3,h4,h5⟩:=Xk he;obtain ⟨w,ew,rw'⟩:=r.get h2;have hl:=r.length;have hn:=jv;have fin:EP X pins σ Q w s:=⟨z,H,I,rw',q⟩;by_cases h0:0<=i
 ·have hj:i.toNat=j:=by rw [seqIndex_of h0 h5] at h1;exact Option.some.inj h1
  exact item_listR pl.isList h0 (by omega) (by rw [hj];simpa using ew) fin hs
 ·have hj:(i+(its.toArray.size:Int)).toNat=j:=by rw [seqIndex_neg (by omega) h4] at h1;rw [yY,<- hl];exact Option.some.inj h1
  exact subscriptTail_builtinR (x:=w) pl.isList.typeIs slot_list_getitem.lookup
   (wpAny_getItem_list_neg (Q:=λr s'=>r=w/\EP X pins σ Q r s') pl.isList (by omega) (by rw [yY]<;>omega) (by omega) (by rw [hj];simpa using ew) ⟨rfl,fin⟩) hs
theorem ix_tup:IxR X (rIxT X.K):=by
 intro value slice pins s σ H x y v u Q I rx ry h hs;obtain ⟨p,xs,i,z,rfl,rfl,hq,he,q⟩:=h;cases rx;obtain ⟨t,rfl⟩:=ry;obtain ⟨its,r,pl,hz⟩:=I.tuple hq;obtain ⟨j,h1,h2,h3,h4,h5⟩:=Xk he;obtain ⟨w,ew,rw'⟩:=r.get h2;have hl:=r.length;have hn:=jv;have fin:EP X pins σ Q w s:=⟨z,H,I,rw',q⟩;exact subscriptTail_builtinR (x:=w) pl.typeIs slot_tuple_getitem.lookup
  (getItem_tuple (j:=j) (Q:=λr s'=>r=w/\EP X pins σ Q r s') pl (by omega) (by omega) (by rw [yY,<- hl];exact h1) (by simpa using ew) ⟨rfl,fin⟩) hs
theorem By:IxR X rIxS:=by
 intro value slice pins s σ H x y v u Q I rx ry h hs;obtain ⟨z,i,c,rfl,rfl,hz,he,q⟩:=h;obtain ⟨t,rfl⟩:=rx;obtain ⟨t',rfl⟩:=ry;obtain ⟨j,h1,h2,h3,h4,h5⟩:=Xk he;have hl:z.cps.toList.length=z.length:=by simp [Str.length]
 rw [hl] at h1 h4 h5;have hn:=jv;exact tail_any (typeIs_str s z t) slot_str_getitem.lookup (getItem_str (c:=c) (by
  have e1:decide (i < -(2 ^ 63:Int))=false:=yB (by omega);have e2:decide (i >= 2 ^ 63)=false:=yB (by omega);rw [e1,e2,Bool.or_false]) (by rw [h1];simpa using h2) ⟨.str ⟨#[c]⟩,H,I.tok _,⟨_,rfl⟩,q⟩) hs
def rIx (K:Fg):R2:=λx y H Q=>rIxL K x y H Q∨rIxT K x y H Q∨rIxS x y H Q
theorem Bw:IxR X (rIx X.K):=ix_list.or (ix_tup.or By)
theorem BX (its:List Value)(n j:Nat)(u:Value):Obj.mapSeq (·.setIfInBounds j u) { cls:= .type "list",data:= .seq its.toArray n }={ cls:= .type "list",data:= .seq (its.set j u).toArray n }:=by simp [Obj.mapSeq]
theorem Inv.lst {pins:List (Addr×Obj)}{σ:St}{H:Hp}{s:Shared}{p:Addr}{xs:List V}(I:Inv X pins σ H s)(h:H p=some (.lst xs)):∃ (its:List Value) (n:Nat),Vals xs its/\s.heap.get? p=some { cls:= .type "list",data:= .seq its.toArray n }/\xs.length<=sizeLine:=by obtain ⟨z,its,n,r,e⟩:=I.hok p _ h;exact ⟨its,n,r,e,z⟩
theorem Inv.lstUpd {p:Addr}{xs ys:List V}{n':Nat}{f:Obj->Obj}(I:Inv X pins σ H s)(h:H p=some (.lst xs))(ho:s.heap.get? p=some { cls:= .type "list",data:= .seq its.toArray n })(hf:f { cls:= .type "list",data:= .seq its.toArray n }={ cls:= .type "list",data:= .seq its'.toArray n' })(r:Vals ys its')(hz:ys.length<=sizeLine)(t:Nat):Inv X pins σ (z6 H p (.lst ys)) { s with heap:=s.heap.update p f,toks:=t }:=by
 have e:(s.heap.update p f).get? p=some { cls:= .type "list",data:= .seq its'.toArray n' }:=by rw [uD f ho (by rw [hf]<;>rfl),hf]
 refine I.write (x:=p) (e:=p) (by rw [h];trivial) (.inl rfl) (λb u hb q=>(yi _ _ (Ne.symm hb)).trans q) ⟨_,e⟩ ?_;exact ⟨hz,its',n',r,e⟩
def rSetL:V->V->V->Hp->(Hp->Prop)->Prop:=λo i v H Q=>∃ p xs k j,o = .ref p/\i = .int k/\H p=some (.lst xs)/\ixN xs.length k=some j/\Q (z6 H p (.lst (xs.set j v)))
theorem UA:PSet X rSetL:=by
 intro pins s σ H o i v ov iv u Q I ro ri rv h;obtain ⟨p,xs,k,j,rfl,rfl,hp,hj,q⟩:=h;cases ro;obtain ⟨t,rfl⟩:=ri;obtain ⟨its,n,r,ho,hz⟩:=I.lst hp;obtain ⟨h1,h2,h3,h4⟩:=Yj hj;have hl:=r.length;have hn:=jv;have I':Inv X pins σ (z6 H p (.lst (xs.set j v))) { s with heap:=s.heap.update p (Obj.mapSeq (·.setIfInBounds j u)) } :=
  I.lstUpd hp ho (BX its n j u) (r.set rv j) (by rw [yn];exact hz) s.toks
 by_cases h0:0<=k
 ·have hk:k.toNat=j:=by rw [seqIndex_of h0 h4] at h1;exact Option.some.inj h1
  exact PySem.W.ki_setAt ho h0 (by omega) (by rw [yY,<- hl];exact h4) (by rw [hk];exact ⟨_,I',q⟩)
 ·have hk:(k+(its.toArray.size:Int)).toNat=j:=by rw [seqIndex_neg (by omega) h3] at h1;rw [yY,<- hl];exact Option.some.inj h1
  exact PySem.W.ki_setBack ho (by omega) (by rw [yY,<- hl];exact h3) (by omega) (by rw [hk];exact ⟨_,I',q⟩)
def y8:V->Bool
 | .non=>true
 | .bl _=>true
 | .int _=>true
 | .str _=>true
 |_=>false
def h8:V->V->Bool
 | .non,.non=>true
 | .bl a,.bl b=>a==b
 | .bl a,.int b=>(if a then 1 else 0)==b
 | .int a,.bl b=>a==(if b then 1 else 0)
 | .int a,.int b=>a==b
 | .str a,.str b=>a==b
 |_,_=>false
theorem Xz (ry:RelV y u)(rx:RelV x v)(fy:y8 y=true)(fx:y8 x=true):SeqAt.EqAt A s u v (h8 y x):=by
 cases y with
 |non =>
  cases ry;cases x with
  |non=>cases rx;exact SeqAt.EqAt.same _
  |bl b=>cases rx;exact SeqAt.EqAt.none_bool b
  |int b=>obtain ⟨t,rfl⟩:=rx;exact SeqAt.EqAt.none_int b t
  |str b=>obtain ⟨t,rfl⟩:=rx;exact SeqAt.EqAt.none_str b t
  |_=>exact absurd (show false=true from fx) yT
 |bl a =>
  cases ry;cases x with
  |non=>cases rx;exact SeqAt.EqAt.bool_none a
  |bl b=>cases rx;exact SeqAt.EqAt.bool_bool a b
  |int b=>obtain ⟨t,rfl⟩:=rx;exact SeqAt.EqAt.bool_int a b t
  |str b=>obtain ⟨t,rfl⟩:=rx;exact SeqAt.EqAt.bool_str a b t
  |_=>exact absurd (show false=true from fx) yT
 |int a =>
  obtain ⟨t',rfl⟩:=ry;cases x with
  |non=>cases rx;exact SeqAt.EqAt.int_none a t'
  |bl b=>cases rx;exact SeqAt.EqAt.int_bool a t' b
  |int b=>obtain ⟨t,rfl⟩:=rx;exact SeqAt.EqAt.int_int a t' b t
  |str b=>obtain ⟨t,rfl⟩:=rx;exact SeqAt.EqAt.int_str a t' b t
  |_=>exact absurd (show false=true from fx) yT
 |str a =>
  obtain ⟨t',rfl⟩:=ry;cases x with
  |non=>cases rx;exact SeqAt.EqAt.str_none a t'
  |bl b=>cases rx;exact SeqAt.EqAt.str_bool a t' b
  |int b=>obtain ⟨t,rfl⟩:=rx;exact SeqAt.EqAt.str_int a t' b t
  |str b=>obtain ⟨t,rfl⟩:=rx;exact SeqAt.EqAt.str_str a t' b t
  |_=>exact absurd (show false=true from fx) yT
 |_=>exact absurd (show false=true from fy) yT
def eqU (x:V)(u:Value):Bool:=match u with
 | .none=>h8 .non x
 | .bool b=>h8 (.bl b) x
 | .int i _=>h8 (.int i) x
 | .str z _=>h8 (.str z) x
 |_=>false
theorem WP (r:RelV y u)(f:y8 y=true):eqU x u=h8 y x:=by
 cases y with
 |non=>cases r;rfl
 |bl b=>cases r;rfl
 |int i=>obtain ⟨t,rfl⟩:=r;rfl
 |str z=>obtain ⟨t,rfl⟩:=r;rfl
 |_=>exact absurd (show false=true from f) yT
theorem Xj {x:V}:∀{xs:List V}{us:List Value},Vals xs us->xs.all y8=true->us.any (eqU x)=xs.any λy=>h8 y x
 |_,_,.nil,_=>rfl
 |y::xs,u::us,.cons r t,f=>by
  rw [List.all_cons,uX] at f;rw [List.any_cons,List.any_cons,WP r f.1,Xj t f.2]
theorem Za {A:Around}{s:Shared}{x:V}{v:Value}(rx:RelV x v)(fx:y8 x=true):∀{xs:List V}{us:List Value},Vals xs us->xs.all y8=true->∀ u∈us,SeqAt.EqAt A s u v (eqU x u)
 |_,_,.nil,_=>λu hu=>by cases hu
 |y::xs,u::us,.cons r t,f=>λu' hu=>by
  rw [List.all_cons,uX] at f;rcases yK.mp hu with rfl|hu
  ·rw [WP r f.1];exact Xz r rx f.1 fx
  ·exact Za rx fx t f.2 u' hu
def inV (x:V)(xs:List V):Bool:=xs.any λy=>h8 y x
def rIn (K:Fg)(neg:Bool):R2:=λx y H Q=>∃ p xs,y = .ref p/\(SqL K H p xs∨SqT K H p xs)/\y8 x=true/\xs.all y8=true/\Q (.bl (if neg then !inV x xs else inV x xs)) H
theorem Cz:OpR X (compareOp .In) (rIn X.K false):=by
 intro pins s σ H x y v u Q I rx ry h;obtain ⟨p,xs,rfl,hq,fx,fs,q⟩:=h;cases ry;rcases hq with hq|hq
 ·obtain ⟨its,r,pl,hz⟩:=I.list hq;refine SeqAt.in_listAt (eqU x) pl.isList (λw hw=>Za rx fx r fs w (by simpa using hw)) ⟨.bl _,H,I,rfl,?_⟩;rw [show its.toArray.any (eqU x)=its.any (eqU x) by simp,Xj r fs];exact q
 ·obtain ⟨its,r,pl,hz⟩:=I.tuple hq;refine SeqAt.in_tupleAt (eqU x) pl (λw hw=>Za rx fx r fs w (by simpa using hw)) ⟨.bl _,H,I,rfl,?_⟩;rw [show its.toArray.any (eqU x)=its.any (eqU x) by simp,Xj r fs];exact q
theorem GU:CallR X (.builtin "len") (λxs H Q=>∃ p ys,xs=[.ref p]/\(SqL X.K H p ys∨SqT X.K H p ys)/\Q (.int ys.length) H):=by
 intro pins s σ H xs us Q I r h;obtain ⟨p,ys,rfl,hq,q⟩:=h;obtain ⟨u,rfl,rx⟩:=qY r;cases rx;have hn:=jv;rcases hq with hq|hq
 ·obtain ⟨its,r',pl,hz⟩:=I.list hq;have hlen:=r'.length;exact Calls.call_len_list pl.isList (by simp only [yY]<;>omega) ⟨.int ys.length,H,I.tok _,⟨s.toks+1,by rw [yY,hlen]⟩,q⟩
 ·obtain ⟨its,r',pl,hz⟩:=I.tuple hq;have hlen:=r'.length;exact len_tuple pl (by simp only [yY]<;>omega) ⟨.int ys.length,H,I.tok _,⟨s.toks+1,by rw [yY,hlen]⟩,q⟩
theorem CallR.or {f:Value}{r r':List V->Hp->VK->Prop}(h:CallR X f r)(h':CallR X f r'):CallR X f (λxs H Q=>r xs H Q∨r' xs H Q):=by
 intro pins s σ H xs us Q I rs q;rcases q with q|q
 ·exact h pins s σ H xs us Q I rs q
 ·exact h' pins s σ H xs us Q I rs q
theorem GV:CallR X (.type "list") (λxs H Q=>∃ p ys,xs=[.ref p]/\(SqL X.K H p ys∨SqT X.K H p ys)/\∀ l,H l=none->Q (.ref l) (z6 H l (.lst ys))):=by
 intro pins s σ H xs us Q I r h;obtain ⟨p,ys,rfl,hq,q⟩:=h;obtain ⟨u,rfl,rx⟩:=qY r;cases rx;have fin:∀(its:List Value),Vals ys its->ys.length<=sizeLine->∀(h':Heap)(c':Nat),(∀ b o',s.heap.get? b=some o'->h'.get? b=some o') ->
   h'.get? s.heap.objs.size=some { cls:= .type "list",dict:=none,data:= .seq its.toArray c',slots:=#[] }->EP X pins σ Q (.ref s.heap.objs.size) { s with heap:=h' }:=λits r' hz h' c' kp e =>
  ⟨.ref s.heap.objs.size,_,I.laid (t':=s.toks) kp (yU _) (show ObjOk X.prog X.w _ h' _ (.lst ys) from ⟨hz,its,c',r',e⟩),rfl,q _ (I.hok.fresh (yU _))⟩
 rcases hq with hq|hq
 ·obtain ⟨its,r',pl,hz⟩:=I.list hq;have hlen:=r'.length;obtain ⟨o,ho,hc,n,hd⟩:=pl.isList;exact call_list_seq p (.inl rfl) ho hc hd (λh' c' kp e=>fin its r' hz h' c' kp e) (by simp only [yY]<;>omega)
 ·obtain ⟨its,r',pl,hz⟩:=I.tuple hq;have hlen:=r'.length;obtain ⟨o,ho,hc,n,hd⟩:=pl;exact call_list_seq p (.inr rfl) ho hc hd (λh' c' kp e=>fin its r' hz h' c' kp e) (by simp only [yY]<;>omega)
def tyV (K:Fg)(T:String)(x:V)(H:Hp):Prop:=match x with
 | .str _=>T = "str"
 | .int _=>T = "int"
 | .ref p=>(T = "list"/\∃ xs,SqL K H p xs)∨(T = "tuple"/\∃ o,K.lookup p=some o/\o.cls = .type "tuple"/\o.dict=none) ∨
   (T = "dict"/\((∃ kvs,H p=some (.dK kvs))∨∃ kvs,H p=some (.dT kvs)))∨(T = "set"/\∃ S n,H p=some (.set S n))
 |_=>False
theorem Lb (I:Inv X pins σ H s)(r:RelV x v)(ty:tyV X.K T x H):s.TypeIs v T/\∀ a,v = .ref a->∃ ob,s.heap.get? a=some ob/\ob.dict=none:=by
 cases x with
 |str z=>obtain ⟨t,rfl⟩:=r;cases (show T = "str" from ty);exact ⟨typeIs_str s z t,λ_ e=>nomatch e⟩
 |int i=>obtain ⟨t,rfl⟩:=r;cases (show T = "int" from ty);exact ⟨typeIs_int s i t,λ_ e=>nomatch e⟩
 |ref p =>
  cases r;rcases ty with ⟨rfl,xs,hq⟩|⟨rfl,o,hk,hc,hd⟩|⟨rfl,hk⟩|⟨rfl,S,n,hk⟩
  ·obtain ⟨its,_,pl,_⟩:=I.list hq;refine ⟨pl.isList.typeIs,λa e=>?_⟩;cases e;obtain ⟨o,n,e,c,hd,_⟩:=pl;exact ⟨o,e,hd⟩
  ·refine ⟨⟨o,I.kIn p o hk,hc⟩,λa e=>?_⟩;cases e;exact ⟨o,I.kIn _ o hk,hd⟩
  ·have z:∃ o,s.heap.get? p=some o/\o.ExactDict:=by
    rcases hk with ⟨kvs,hk⟩|⟨kvs,hk⟩
    ·obtain ⟨_,_,_,_,o,_,_,e,ex,_⟩:=I.hok p _ hk;exact ⟨o,e,ex⟩
    ·obtain ⟨_,_,_,_,o,_,_,e,ex,_⟩:=I.hok p _ hk;exact ⟨o,e,ex⟩
   obtain ⟨o,e,ex⟩:=z;refine ⟨⟨o,e,ex.1⟩,λa e2=>?_⟩;cases e2;exact ⟨o,e,ex.2.1⟩
  ·obtain ⟨o,_,_,_,e,ex,_⟩:=I.hok p _ hk;refine ⟨⟨o,e,ex.1⟩,λa e2=>?_⟩;cases e2;exact ⟨o,e,ex.2.1⟩
 |_=>exact False.elim ty
def tBM (K:Fg)(T:String)(r:V->List V->Hp->VK->Prop)(to:TE)(t:TA):TE:=λσ H Q=>to σ H λx H1=>tyV K T x H1/\t σ H1 λxs H2=>r x xs H2 Q
variable {o e:Expr}{es:List Expr}{to:TE}{t:TA}{name:Str}{apos cpos:Pos}{T id:String}{r:V->List V->Hp->VK->Prop}
theorem pe_bm (pa:PlainAttrs T)(slot:Slot T name id)(hty:typeOf (.builtin id)=pure (.type "method_descriptor"))(hm:MtR X id r)(ho:PE X o to)(ha:PA X (e::es) t)(hbase:attributeBase o name X.env (eval o X.env)=eval o X.env:=by rfl)(hfew:((backTo cpos (starEach (e::es) X.env)).all (λx=>!x.1)&&(backToKw cpos (keywordEach [] X.env)).all (λx=>x.1.isSome)&&decide ((e::es).length+([]:List Keyword).length+(if ([]:List Keyword).isEmpty then 0 else 1)<30))=true:=by rfl)(hline:(apos.endLine==cpos.line)=true:=by rfl)(hs:starEach (e::es) X.env=(false,eval e X.env)::starEach es X.env:=by rfl)(hplain:(backTo cpos (starEach es X.env)).any (·.1)=false:=by rfl):PE X (.Call (.Attribute o name apos) (e::es) [] cpos) (tBM X.K T r to t):=by intro pins s σ H Q I h;refine wpAny_Call_method_late hbase hfew hline rfl (z9 (ho pins s σ H _ I h) λv s1 ⟨x,H1,I1,r1,ty,q1⟩=>?_);obtain ⟨h1,h2⟩:=Lb I1 r1 ty;refine ⟨T,id,pa,slot,hty,h1,h2,?_⟩;have hA:=ha cpos pins s1 σ H1 _ I1 q1;rw [hs] at hA ⊢;refine Calls.callWith_builtin (by show (false || (backTo cpos (starEach es X.env)).any (·.1))=false;rw [hplain]<;>rfl) (Calls.evalArgs_plain ?_);exact z9 hA λus s2 ⟨vs,H2,I2,r2,q2⟩=>hm pins s2 σ H2 x vs v us Q I2 r1 r2 q2
end
def MtM (X:Cx)(id:String)(r:V->List V->Hp->VK->Prop):Prop :=
 ∀(pins:List (Addr×Obj))(s:Shared)(σ:St)(H:Hp)(x:V)(xs:List V)(v:Value)(us:List Value)(Q:VK),Inv X pins σ H s->RelV x v->Vals xs us->r x xs H Q ->
  wpAny (model X.prog X.w) X.A (call (.builtin id) (v::us)) (EP X pins σ Q) X.xe s
theorem Vals.one:∀{x:V}{us:List Value},Vals [x] us->∃ u,us=[u]/\RelV x u
 |_,_,.cons r .nil=>⟨_,rfl,r⟩
theorem Vals.two:∀{x y:V}{us:List Value},Vals [x,y] us->∃ u v,us=[u,v]/\RelV x u/\RelV y v
 |_,_,_,.cons r (.cons q .nil)=>⟨_,_,rfl,r,q⟩
theorem Vals.eraseIdx:∀{xs:List V}{us:List Value}(i:Nat),Vals xs us->Vals (xs.eraseIdx i) (us.eraseIdx i)
 |_,_,_,.nil=> .nil
 |_,_,0,.cons _ t=>t
 |_,_,i+1,.cons r t=> .cons r (Vals.eraseIdx i t)
theorem Vals.rep {xs:List V}{us:List Value}(h:Vals xs us):∀ k:Nat,Vals (List.replicate k xs).flatten (List.replicate k us).flatten
 |0=> .nil
 |k+1=>by
  rw [uO,uO,ym,ym];exact Vals.append h (Vals.rep h k)
theorem Yp {α:Type}:∀(l:List α)(i:Nat),(l.eraseIdx i).length<=l.length
 |[],_=>yU _
 |_::_,0=>uz _
 |_::r,i+1=>Nat.succ_le_succ (Yp r i)
theorem Ya (its:List Value):∀(k:Nat)(acc:List Value), List.foldl (λx1 x2=>x1++x2) acc.toArray (List.replicate k its.toArray)=(acc++(List.replicate k its).flatten).toArray
 |0,acc=>by simp
 |k+1,acc=>by
  have e:acc.toArray++its.toArray=(acc++its).toArray:=by simp
  have e2:(acc++its)++(List.replicate k its).flatten=acc++(List.replicate (k+1) its).flatten:=by rw [uO,ym,yb]
  rw [<- e2,<- Ya its k (acc++its),<- e,uO,List.foldl_cons]
section
variable {X:Cx}{pins:List (Addr×Obj)}{σ:St}{H:Hp}{s:Shared}{l b:Addr}{xs ys zs:List V}
theorem Inv.lset {f:Array Value->Array Value}(I:Inv X pins σ H s)(hH:H l=some (.lst xs))(e:s.heap.get? l=some { cls:= .type "list",data:= .seq its.toArray n })(hf:f its.toArray=its'.toArray)(hv:Vals ys its')(hz:ys.length<=sizeLine):Inv X pins σ (z6 H l (.lst ys)) { s with heap:=s.heap.update l (Obj.mapSeq f),toks:=t' }:=by have q:=PySem.IsL.update e f;rw [hf] at q;refine I.write (x:=l) (e:=l) (by rw [hH];exact trivial) (.inl rfl) (λb' u hb hu=>(yi s.heap (Obj.mapSeq f) (Ne.symm hb)).trans hu) ⟨_,q⟩ ?_;exact ⟨hz,its',_,hv,q⟩
theorem Inv.lnew (I:Inv X pins σ H s)(hv:Vals ys its)(hz:ys.length<=sizeLine):Inv X pins σ (z6 H s.heap.objs.size (.lst ys)) { s with heap:=s.heap.push { cls:= .type "list",data:= .seq its.toArray },toks:=t' } :=
 I.laid (λ_ _ q=>yX _ q) (yU _) ⟨hz,its,0,hv,yG _ rfl⟩
theorem Inv.fresh (I:Inv X pins σ H s):H s.heap.objs.size=none:=I.hok.fresh (yU _)
theorem Inv.lstM (I:Inv X pins σ H s)(hH:H l=some (.lst xs)):xs.length<=sizeLine/\∃ (its:List Value) (n:Nat),Vals xs its/\xs.length=its.length/\s.heap.get? l=some { cls:= .type "list",data:= .seq its.toArray n }:=by obtain ⟨z,its,n,r,e⟩:=I.hok l _ hH;exact ⟨z,its,n,r,r.length,e⟩
theorem Pf (h:n<=sizeLine):Builtin.List.listTooLong n=false:=by unfold Builtin.List.listTooLong;exact yB (by omega)
end
section
variable {X:Cx}
def Zv:V->List V->Hp->VK->Prop:=λx vs H Q=>∃ l xs y,x = .ref l/\vs=[y]/\H l=some (.lst xs)/\xs.length<sizeLine/\Q .non (z6 H l (.lst (xs++[y])))
theorem wx:MtM X "list.append" Zv:=by intro pins s σ H x vs v us Q I rx rv h;obtain ⟨l,xs,y,rfl,rfl,hH,hz,q⟩:=h;cases rx;obtain ⟨u,rfl,ru⟩:=rv.one;obtain ⟨z,its,n,r,hl,e⟩:=I.lstM hH;refine call_meets F.slot_list_append ⟨_,e,rfl⟩ F.entry_list_append (F.args_list_append_2 _ _) (PySem.list_append l its.toArray n u (by rw [yY];omega)) ⟨e,?_⟩;refine ⟨.non,_,I.lset (its':=its++[u]) hH e (by simp) (r.append (.cons ru .nil)) ?_,rfl,q⟩;rw [yQ,List.length_singleton];omega
def Ud:V->List V->Hp->VK->Prop:=λx vs H Q=>∃ l xs i k y,x = .ref l/\vs=[.int i]/\H l=some (.lst xs)/\-(2 ^ 63)<=i/\i<2 ^ 63/\seqIndex? i xs.length=some k/\xs[k]?=some y/\Q y (z6 H l (.lst (xs.eraseIdx k)))
theorem YA:MtM X "list.pop" Ud:=by
 intro pins s σ H x vs v us Q I rx rv h;obtain ⟨l,xs,i,k,y,rfl,rfl,hH,h1,h2,hk,hy,q⟩:=h;cases rx;obtain ⟨u,rfl,ru⟩:=rv.one;obtain ⟨t,rfl⟩:=ru;obtain ⟨z,its,n,r,hl,e⟩:=I.lstM hH;obtain ⟨w,hw,rw'⟩:=r.get hy;refine call_meets F.slot_list_pop ⟨_,e,rfl⟩ F.entry_list_pop (F.args_list_pop_2 _ _)
  (MeetsSeq.list_pop_at l its.toArray n i t k w (fitsIndex_both h1 h2) (by rw [yY,<- hl];exact hk) (by rw [<- Array.getElem?_toList];exact hw) (by rw [yY];omega)) ⟨e,?_⟩
 refine ⟨y,_,I.lset (its':=its.eraseIdx k) hH e ?_ (r.eraseIdx k) ?_,rw',q⟩
 ·show its.toArray.eraseIdxIfInBounds k=(its.eraseIdx k).toArray;rw [List.eraseIdxIfInBounds_toArray]
 ·have:=Yp xs k;omega
def rRep:R2:=λx y H Q=>∃ l k xs,x = .ref l/\y = .int k/\H l=some (.lst xs)/\-(2 ^ 63)<=k/\k<2 ^ 63/\xs.length*k.toNat<=sizeLine /\
 ∀ p,H p=none->Q (.ref p) (z6 H p (.lst (List.replicate k.toNat xs).flatten))
theorem BL (xs:List α)(k:Nat):(List.replicate k xs).flatten.length=k*xs.length:=by
 induction k with
 |zero=>simp
 |succ k ih=>rw [uO,ym,yQ,ih,Nat.succ_mul,Nat.add_comm]
theorem CH:OpR X (binaryOp .Mult) rRep:=by
 intro pins s σ H x y v u Q I rx ry h;obtain ⟨l,k,xs,rfl,rfl,hH,h1,h2,hz,q⟩:=h;cases rx;obtain ⟨t,rfl⟩:=ry;obtain ⟨z,its,n,r,hl,e⟩:=I.lstM hH;have hlen:its.toArray.size*k.toNat<=sizeLine:=by rw [yY,<- hl];exact hz
 have hcap:¬ its.toArray.size*k.toNat > (2 ^ 63-1) / 8:=by
  have:(sizeLine:Nat)<=(2 ^ 63-1) / 8:=by decide
  omega
 have hfit:¬ (!Builtin.List.listFitsIndex k)=true:=by rw [fitsIndex_both h1 h2];exact yT
 have hlong:¬ Builtin.List.listTooLong (its.toArray.size*k.toNat)=true:=by rw [Pf hlen];exact yT
 have hnew:List.foldl (λx1 x2=>x1++x2) #[] (List.replicate (if its.toArray.isEmpty=true then 0 else k.toNat) its.toArray)=(List.replicate k.toNat its).flatten.toArray:=by
  have f0:∀ m:Nat,List.foldl (λx1 x2=>x1++x2) #[] (List.replicate m its.toArray)=(List.replicate m its).flatten.toArray:=λm=>by
   have:=Ya its m [];rw [List.nil_append] at this;exact this
  rw [f0];cases its with
  |nil=>simp
  |cons a r'=>rw [if_neg (by simp)]
 refine wpAny_binaryOp_repeat_ref (T:="list") (U:="int") (by decide) ⟨_,e,rfl⟩ (λs'=>typeIs_int s' k t) noFill_list_mul F.fills_int_mul F.slot_int_rmul repeat_list F.slot_int_index.lookup
  (call_meets F.slot_int_rmul (typeIs_int s k t) F.entry_int_rmul (F.args_int_rmul_2 _ _) (int___rmul___int_list k t l its.toArray n)
   ⟨e,rfl,⟨_,e,rfl⟩,call_meets F.slot_list_mul ⟨_,e,rfl⟩ F.entry_list_mul (F.args_list_mul_2 _ _) (AutoListH.list___mul___list_int_3 l its.toArray n k t hfit hcap hlong) ⟨e,?_⟩⟩)
 rw [hnew];exact ⟨.ref _,_,I.lnew (t':=s.toks) (r.rep k.toNat) (by rw [BL,Nat.mul_comm];exact hz),rfl,q _ I.fresh⟩
end
section
variable {κ:Type}[DecidableEq κ]
def o3 (kvs:List (κ×V))(k:κ):Option V:=(kvs.find? λkv=>decide (kv.1=k)).map (·.2)
def xk (kvs:List (κ×V))(k:κ)(v:V):List (κ×V) :=
 if (kvs.any λkv=>decide (kv.1=k))=true then kvs.map (λkv=>if kv.1=k then (kv.1,v) else kv) else kvs++[(k,v)]
theorem JT {p:κ×V}{r:List (κ×V)}{k:κ}(e:p.1=k):o3 (p::r) k=some p.2:=by simp [o3,uP,e]
theorem JS {p:κ×V}{r:List (κ×V)}{k:κ}(e:¬ p.1=k):o3 (p::r) k=o3 r k:=by simp [o3,uP,e]
theorem JR (k:κ):∀ kvs:List (κ×V),(kvs.any λkv=>decide (kv.1=k))=(o3 kvs k).isSome
 |[]=>rfl
 |p::r=>by
  rw [List.any_cons];by_cases e:p.1=k
  ·simp only [JT e,yg e,Bool.true_or,Option.isSome_some]
  ·rw [JS e,yB e,Bool.false_or];exact JR k r
theorem Yr (kvs:List (κ×V))(k:κ)(v:V):(xk kvs k v).length<=kvs.length+1:=by
 unfold xk;split
 ·rw [yZ];omega
 ·rw [yQ,yz,List.length_nil];omega
theorem RelO.isSome_eq {u:Option Value}(r:RelO o u):o.isSome=u.isSome:=by
 cases o with
 |none=>cases u with
  |none=>rfl
  |some _=>exact (show False from r).elim
 |some _=>cases u with
  |none=>exact (show False from r).elim
  |some _=>rfl
theorem KV.val {kvs:List (κ×V)}{vs:List (κ×Value)}(r:KV kvs vs)(k:κ):RelO (o3 kvs k) (valueAt vs k):=by
 unfold KV at r
 induction r with
 |nil=>exact True.intro
 |@cons p q ps qs h t ih =>
  obtain ⟨h1,h2⟩:=h;by_cases e:p.1=k
  ·have e':q.1=k:=h1.symm.trans e;have b:valueAt (q::qs) k=some q.2:=by simp [valueAt,uP,e']
   rw [JT e,b];exact h2
  ·have e':¬ q.1=k:=λz=>e (h1.trans z);have b:valueAt (q::qs) k=valueAt qs k:=by simp [valueAt,uP,e']
   rw [JS e,b];exact ih
theorem KV.any {kvs:List (κ×V)}{vs:List (κ×Value)}(r:KV kvs vs)(k:κ):(kvs.any λkv=>decide (kv.1=k))=vs.any λkv=>decide (kv.1=k):=by
 unfold KV at r
 induction r with
 |nil=>rfl
 |cons h t ih=>rw [List.any_cons,List.any_cons,ih,h.1]
theorem KV.repl {kvs:List (κ×V)}{vs:List (κ×Value)}(r:KV kvs vs)(k:κ)(ry:RelV y u):KV (kvs.map λkv=>if kv.1=k then (kv.1,y) else kv) (vs.map λkv=>if kv.1=k then (kv.1,u) else kv):=by
 unfold KV at r ⊢
 induction r with
 |nil=>exact .nil
 |@cons p q ps qs h t ih =>
  rw [yM,yM];refine .cons ?_ ih;obtain ⟨h1,h2⟩:=h;by_cases e:p.1=k
  ·rw [if_pos e,if_pos (h1.symm.trans e)];exact ⟨h1,ry⟩
  ·rw [if_neg e,if_neg (λz=>e (h1.trans z))];exact ⟨h1,h2⟩
theorem KV.put {kvs:List (κ×V)}{vs:List (κ×Value)}(r:KV kvs vs)(k:κ)(ry:RelV y u):KV (xk kvs k y) (stored vs k u):=by
 unfold xk stored;rw [r.any k];by_cases e:(vs.any λkv=>decide (kv.1=k))=true
 ·rw [if_pos e,if_pos e];exact r.repl k ry
 ·rw [if_neg e,if_neg e];exact Paired.snoc r ⟨rfl,ry⟩
theorem KV.length {kvs:List (κ×V)}{vs:List (κ×Value)}(r:KV kvs vs):kvs.length=vs.length:=Paired.length r
end
theorem vg {k:z5}(r:RelV (kV k) u):(i8 P w).is k u=true:=by
 cases k with
 |inl i=>obtain ⟨t,e⟩:=(show ∃ t,u=Value.int i t from r);subst e;exact Pc P w i t
 |inr x=>obtain ⟨t,e⟩:=(show ∃ t,u=Value.str x t from r);subst e;exact Zc P w x t
theorem Yi {P:Program}{w:World}:∀{ks:List z5}{us:List Value},Vals (ks.map kV) us->ItemsAre (i8 P w) ks us
 |[],_,r=>by rw [List.map_nil] at r;cases r;exact .nil
 |k::ks,_,r=>by
  rw [yM] at r;cases r with
  |cons h t=>exact .cons (vg h) (Yi t)
abbrev KT (H:Hp):List (List z5×V)->List (List z5×Addr×Value)->Prop:=Paired λp q=>p.1=q.1/\H q.2.1=some (.tup (p.1.map kV))/\RelV p.2 q.2.2
theorem KT.val (r:KT H kvs xs)(k:List z5):RelO (o3 kvs k) ((atKey xs k).map (·.2)):=by
 induction r with
 |nil=>exact True.intro
 |@cons p q ps qs h t ih =>
  obtain ⟨h1,_,h2⟩:=h;by_cases e:p.1=k
  ·have e':q.1=k:=h1.symm.trans e;have b:atKey (q::qs) k=some q.2:=by simp [atKey,uP,e']
   rw [JT e,b];exact h2
  ·have e':¬ q.1=k:=λz=>e (h1.trans z);have b:atKey (q::qs) k=atKey qs k:=by simp [atKey,uP,e']
   rw [JS e,b];exact ih
theorem KT.repl (r:KT H kvs xs)(k:List z5)(ry:RelV y u):KT H (kvs.map λkv=>if kv.1=k then (kv.1,y) else kv) (xs.map (putAt k u)):=by
 induction r with
 |nil=>exact .nil
 |@cons p q ps qs h t ih =>
  rw [yM,yM];refine .cons ?_ ih;obtain ⟨h1,h2,h3⟩:=h;unfold putAt;by_cases e:p.1=k
  ·rw [if_pos e,if_pos (h1.symm.trans e)];exact ⟨h1,h2,ry⟩
  ·rw [if_neg e,if_neg (λz=>e (h1.trans z))];exact ⟨h1,h2,h3⟩
theorem KT.put (r:KT H kvs xs)(k:List z5){b:Addr}(hb:H b=some (.tup (k.map kV)))(ry:RelV y u):KT H (xk kvs k y) (storedH xs k b u):=by
 have e:(kvs.any λkv=>decide (kv.1=k))=(atKey xs k).isSome:=by rw [JR,(r.val k).isSome_eq,Option.isSome_map]
 unfold xk storedH;rw [e];by_cases q:(atKey xs k).isSome=true
 ·rw [if_pos q,if_pos q];exact r.repl k ry
 ·rw [if_neg q,if_neg q];exact Paired.snoc r ⟨rfl,hb,ry⟩
theorem KT.keeps (r:KT H kvs xs)(ht:∀ b ys,H b=some (.tup ys)->H' b=some (.tup ys)):KT H' kvs xs :=
 Paired.mapP r λ_ _ z=>⟨z.1,ht _ _ z.2.1,z.2.2⟩
section
variable {P:Program}{w:World}{H:Hp}{h:Heap}{a:Addr}
theorem Uk {u:HO}(ok:HOk P w H h)(e:Rd H a u):ObjOk P w H h a u:=e.ok ok
theorem jm {kvs:List (z5×V)}(ok:HOk P w H h)(e:Rd H a (.dK kvs)):kvs.length<=sizeLine/\(a==sysModules)=false/\∃ vs,KV kvs vs/\h.DictOf (i8 P w) a vs :=
 show ObjOk P w H h a (.dK kvs) from Uk ok e
theorem dk_of {kvs:List (z5×V)}(ok:HOk P w H h)(e:H a=some (.dK kvs)):kvs.length<=sizeLine/\(a==sysModules)=false/\∃ vs,KV kvs vs/\h.DictOf (i8 P w) a vs:=jm ok (.inl e)
theorem vX {ks:List z5}(ok:HOk P w H h)(e:H a=some (.tup (ks.map kV))):(tupleKind (i8 P w)).is h ks a:=by obtain ⟨_,its,r,o,h1,h2,n,h3⟩:=(show ObjOk P w H h a (.tup (ks.map kV)) from ok a _ e);exact ⟨o,its.toArray,n,h1,h2,h3,by simpa using Yi r⟩
theorem vQ (ok:HOk P w H h)(e:Rd H a (.dT kvs)):kvs.length<=sizeLine/\(a==sysModules)=false /\ ∃ xs,KT H kvs xs/\h.DictOfH (tupleKind (i8 P w)) a xs:=by
 obtain ⟨z,y,xs,r,o,es,ep,h1,h2,h3,h4,h5⟩:=(show ObjOk P w H h a (.dT kvs) from Uk ok e);refine ⟨z,y,xs,r,o,es,ep,h1,h2,h3,h4,λx hx=>?_,h5⟩;have all:∀{l:List (List z5×V)}{m:List (List z5×Addr×Value)},KT H l m->∀ x∈m,(tupleKind (i8 P w)).is h x.1 x.2.1:=by
  intro l m q
  induction q with
  |nil=>intro x hx;exact nomatch hx
  |@cons p q ps qs hq t ih =>
   intro x hx;rcases yK.mp hx with e|hx
   ·subst e;exact vX ok (by rw [<- hq.1];exact hq.2.1)
   ·exact ih x hx
 exact all r x hx
theorem dt_of (ok:HOk P w H h)(e:H a=some (.dT kvs)):kvs.length<=sizeLine/\(a==sysModules)=false /\ ∃ xs,KT H kvs xs/\h.DictOfH (tupleKind (i8 P w)) a xs:=vQ ok (.inl e)
end
def DGet (H:Hp)(a:Addr)(y:V)(r:Option V):Prop :=
 (∃ kvs k,Rd H a (.dK kvs)/\y=kV k/\r=o3 kvs k)∨∃ kvs k b,Rd H a (.dT kvs)/\y = .ref b/\H b=some (.tup (k.map kV))/\r=o3 kvs k
def DPut (H:Hp)(a:Addr)(y v:V)(H':Hp):Prop :=
 (∃ kvs k,H a=some (.dK kvs)/\y=kV k/\kvs.length<sizeLine/\H'=z6 H a (.dK (xk kvs k v))) ∨
 ∃ kvs k b,H a=some (.dT kvs)/\y = .ref b/\H b=some (.tup (k.map kV))/\kvs.length<sizeLine/\H'=z6 H a (.dT (xk kvs k v))
theorem DGet.k {kvs:List (z5×V)}{k:z5}(e:H a=some (.dK kvs)):DGet H a (kV k) (o3 kvs k):= .inl ⟨kvs,k,.inl e,rfl,rfl⟩
theorem DPut.k {kvs:List (z5×V)}{k:z5}{v:V}(e:H a=some (.dK kvs))(hl:kvs.length<sizeLine):DPut H a (kV k) v (z6 H a (.dK (xk kvs k v))):= .inl ⟨kvs,k,e,rfl,hl,rfl⟩
section
variable {X:Cx}{pins:List (Addr×Obj)}{σ:St}{H:Hp}{s:Shared}{a:Addr}{y v:V}{u r:Value}{o:Option V}{A:Around}{E:Value->Shared->Prop}
theorem Inv.big (I:Inv X pins σ H s):sysModules<s.heap.objs.size:=by have h:mainGlobals<s.heap.objs.size:=(I.mod.glob.keeps I.bk).lt;exact Nat.lt_trans (by decide) h
theorem Kk (hu:A.units+1<cLine)(I:Inv X pins σ H s)(g:DGet H a y (some v))(ry:RelV y u)(h:∀ w' s',Inv X pins σ H s'->RelV v w'->Q w' s'):wpAny (model X.prog X.w) A (getItem (.ref a) u) Q E s:=by
 rcases g with ⟨kvs,k,e,ey,l⟩|⟨kvs,k,b,e,ey,eb,l⟩
 ·subst ey;obtain ⟨z,hd,vs,rel,dd⟩:=jm I.hok e;obtain ⟨w',hw,rw'⟩:=RelO.some_of (v:=v) (o:=valueAt vs k) (by rw [l];exact rel.val k);exact wpAny_getItem_of (vg ry) dd.mapOf hw (h w' _ (I.tok _) rw')
 ·subst ey;cases (show u=Value.ref b from ry);obtain ⟨z,hd,xs,rel,dd⟩:=vQ I.hok e;obtain ⟨w',hw,rw'⟩:=RelO.some_of (v:=v) (o:=(atKey xs k).map (·.2)) (by rw [l];exact rel.val k);obtain ⟨p,hp,hp2⟩:=yI.mp hw;refine wpAny_getItem_heap (tupleKind_room_in1 hu) (vX I.hok eb) dd hp ?_;rw [hp2];exact h w' _ (I.tok _) rw'
theorem d_in (hu:A.units+1<cLine)(I:Inv X pins σ H s)(g:DGet H a y o)(ry:RelV y u)(h:∀ s',Inv X pins σ H s'->Q (.bool o.isSome) s'):wpAny (model X.prog X.w) A (compareOp .In u (.ref a)) Q E s:=by
 rcases g with ⟨kvs,k,e,ey,l⟩|⟨kvs,k,b,e,ey,eb,l⟩
 ·subst ey;obtain ⟨z,hd,vs,rel,dd⟩:=jm I.hok e;refine wpAny_in_of (vg ry) hd dd.mapOf ?_;rw [<- (rel.val k).isSome_eq,<- l];exact h _ (I.tok _)
 ·subst ey;cases (show u=Value.ref b from ry);obtain ⟨z,hd,xs,rel,dd⟩:=vQ I.hok e;refine wpAny_in_heap (tupleKind_room_in1 hu) (vX I.hok eb) hd dd ?_;have q:=(rel.val k).isSome_eq;rw [Option.isSome_map] at q;rw [<- q,<- l];exact h _ (I.tok _)
theorem Kl (hu:A.units+1<cLine)(I:Inv X pins σ H s)(g:DGet H a y o)(ry:RelV y u)(h:∀ s',Inv X pins σ H s'->Q (.bool (!o.isSome)) s'):wpAny (model X.prog X.w) A (compareOp .NotIn u (.ref a)) Q E s:=by
 rcases g with ⟨kvs,k,e,ey,l⟩|⟨kvs,k,b,e,ey,eb,l⟩
 ·subst ey;obtain ⟨z,hd,vs,rel,dd⟩:=jm I.hok e;refine wpAny_notIn_of (vg ry) hd dd.mapOf ?_;rw [<- (rel.val k).isSome_eq,<- l];exact h _ (I.tok _)
 ·subst ey;cases (show u=Value.ref b from ry);obtain ⟨z,hd,xs,rel,dd⟩:=vQ I.hok e;refine wpAny_notIn_heap (tupleKind_room_in1 hu) (vX I.hok eb) hd dd ?_;have q:=(rel.val k).isSome_eq;rw [Option.isSome_map] at q;rw [<- q,<- l];exact h _ (I.tok _)
theorem WI {ob:HO}(I:Inv X pins σ H s)(mu:Mut (H a))(hs:Heap.SameBut a s.heap h')(he:∃ q,h'.get? a=some q)(new:ObjOk X.prog X.w (z6 H a ob) h' a ob):Inv X pins σ (z6 H a ob) { s with heap:=h',toks:=t' } :=
 I.write (x:=a) (e:=a) mu (.inl rfl) (λb q hb z=>(hs.2 b hb).trans z) he new
theorem WK {kvs:List (z5×V)}{vs:List (z5×Value)}(z:kvs.length<=sizeLine)(hd:(a==sysModules)=false)(rel:KV kvs vs)(dd:h'.DictOf (i8 P w) a vs):ObjOk P w H' h' a (.dK kvs):=⟨z,hd,vs,rel,dd⟩
theorem Km {Q:Unit->Shared->Prop}(hu:A.units+1<cLine)(I:Inv X pins σ H s)(g:DPut H a y v H')(ry:RelV y u)(rv:RelV v r)(h:∀ s',Inv X pins σ H' s'->Q () s'):wpAny (model X.prog X.w) A (setItem (.ref a) u r) Q E s:=by
 rcases g with ⟨kvs,k,e,ey,l,eH⟩|⟨kvs,k,b,e,ey,eb,l,eH⟩
 ·subst ey eH;obtain ⟨z,hd,vs,rel,dd⟩:=dk_of I.hok e;have hz:vs.length<=sizeLine:=by rw [<- rel.length];exact z
  have hl:(xk kvs k v).length<=sizeLine:=by have:=Yr kvs k v;omega
  refine wpAny_setItem_pairs (hsz:=hz) (vg ry) dd λh' dd' hs=>h _ ?_;have he:∃ q,h'.get? a=some q:=let ⟨q,_,_,hq,_⟩:=dd';⟨q,hq⟩
  exact WI I (by rw [e];exact True.intro) hs he (WK hl hd (rel.put k rv) dd')
 ·subst ey eH;cases (show u=Value.ref b from ry);obtain ⟨z,hd,xs,rel,dd⟩:=dt_of I.hok e;have hz:xs.length<=sizeLine:=by rw [<- Paired.length rel];exact z
  have hl:(xk kvs k v).length<=sizeLine:=by have:=Yr kvs k v;omega
  refine wpAny_setItem_heap (hsz:=hz) (tupleKind_room_in1 hu) (vX I.hok eb) dd λh' dd' hs=>h _ ?_;obtain ⟨q,es,ep,hq,h2,h3,h4,_,h5⟩:=dd';refine WI I (by rw [e];exact True.intro) hs ⟨q,hq⟩ ⟨hl,hd,_,(rel.put k eb rv).keeps λc ys ec=>?_,q,es,ep,hq,h2,h3,h4,h5⟩;rw [z8 (ne_of ec e (λz=>nomatch z))];exact ec
end
section
variable {X:Cx}{pins:List (Addr×Obj)}{σ:St}{H:Hp}{s:Shared}{a:Addr}{kvs:List (z5×V)}{k:z5}{u:Value}{A:Around}{E:Value->Shared->Prop}
theorem d_len (I:Inv X pins σ H s)(e:Rd H a (.dK kvs))(h:∀ t s',Inv X pins σ H s'->Q (.int kvs.length t) s'):wpAny (model X.prog X.w) A (call (.builtin "len") [.ref a]) Q E s:=by obtain ⟨z,hd,vs,rel,dd⟩:=jm I.hok e;refine call_len_dict hd dd (by rw [<- rel.length];rw [sizeLine_eq] at z;omega) ?_;rw [<- rel.length];exact h _ _ (I.tok _)
end
def NoSl (i:Expr):Prop:=∀ ov iv,subscripted i false ov iv=operate [ov,iv] (getItem ov iv)
theorem MO {prog:Program}{E:Value->Shared->Prop}{env:Env}{value slice:Expr}{pos:Pos}{id:String}(hl:typeLookup (.type T) "__getitem__"=pure (some (.builtin id)))(hs:NoSl slice)(h:wpAny (model prog w) A (eval value env) (λo s₁=>wpAny (model prog w) A (eval slice env) (λi s₂=>s₂.TypeIs o T/\wpAny (model prog w) A (getItem o i) Q E s₂) E s₁) E s):wpAny (model prog w) A (eval (.Subscript value slice pos) env) Q E s:=by
 refine Subscript_ (wpAny_mono h (λo s₁ h₁=>wpAny_mono h₁ (λi s₂ h₂=>?_) λ_ _ x=>x) λ_ _ x=>x);obtain ⟨hT,h₂⟩:=h₂;unfold subscriptTail;refine yW ?_;rw [getitemInPython_of_ne hT.not_modules];refine yW (wpAny_specialOf hT hl ?_);have fin:wpAny (model prog w) A (subscripted slice false o i) (λr s₃=>wpAny (model prog w) A (letTemporaryGo value o r >>= λ_=>pure r) Q E s₃) E s₂:=by rw [hs o i];exact wpAny_operating (wpAny_mono h₂ (λr s₃ h₃=>yW (wpAny_letTemporaryGo (yJ h₃))) λ_ _ x=>x)
 first
  |exact yJ (yW fin)
  |exact yW (yJ (yW fin))
  |exact yW fin
theorem Kn {X:Cx}(I:Inv X pins σ H s)(g:DGet H a y o):s.TypeIs (.ref a) "dict":=by
 rcases g with ⟨kvs,k,e,_,_⟩|⟨kvs,k,b,e,_,_,_⟩
 ·obtain ⟨_,_,vs,_,dd⟩:=jm I.hok e;exact dd.typeIs
 ·obtain ⟨_,_,xs,_,dd⟩:=vQ I.hok e;exact dd.typeIs
def UK (td ty:TE):TE:=λσ H Q=>td σ H λx H1=>ty σ H1 λy H2=>∃ a v,x = .ref a/\DGet H2 a y (some v)/\Q v H2
def tDIn (ty td:TE):TE:=λσ H Q=>ty σ H λy H1=>td σ H1 λx H2=>∃ a o,x = .ref a/\DGet H2 a y o/\Q (.bl o.isSome) H2
def UM (ty td:TE):TE:=λσ H Q=>ty σ H λy H1=>td σ H1 λx H2=>∃ a o,x = .ref a/\DGet H2 a y o/\Q (.bl (!o.isSome)) H2
def Uw (td ty tv:TE):TS:=λD σ H=>tv σ H λv H1=>td σ H1 λx H2=>ty σ H2 λy H3=>∃ a H4,x = .ref a/\DPut H3 a y v H4/\D.nx σ H4
section
variable {X:Cx}{o i e value:Expr}{pos pos' tpos:Pos}{td ty tv:TE}
theorem vy (hu:X.A.units+1<cLine)(ho:PE X o td)(hi:PE X i ty)(hs:NoSl i):PE X (.Subscript o i pos) (UK td ty):=by intro pins s σ H Q I h;refine MO PySem.F.slot_dict_getitem.lookup hs (z9 (ho pins s σ H _ I h) λu s1 ⟨x,H1,I1,rx,q1⟩=>z9 (hi pins s1 σ H1 _ I1 q1) λiv s2 ⟨y,H2,I2,ry,a,v,ex,g,q2⟩=>?_);subst ex;obtain rfl:u=Value.ref a:=rx;exact ⟨Kn I2 g,Kk hu I2 g ry λw' s3 I3 rw'=>⟨v,H2,I3,rw',q2⟩⟩
theorem CK (hu:X.A.units+1<cLine)(hi:PE X i ty)(ho:PE X o td):PC X .In i o (tDIn ty td):=by intro pins s σ H Q I h;refine z9 (hi pins s σ H _ I h) λiv s1 ⟨y,H1,I1,ry,q1⟩=>z9 (ho pins s1 σ H1 _ I1 q1) λu s2 ⟨x,H2,I2,rx,a,ov,ex,g,q2⟩=>?_;subst ex;obtain rfl:u=Value.ref a:=rx;exact d_in hu I2 g ry λs3 I3=>⟨.bl ov.isSome,H2,I3,rfl,q2⟩
theorem CL (hu:X.A.units+1<cLine)(hi:PE X i ty)(ho:PE X o td):PC X .NotIn i o (UM ty td):=by intro pins s σ H Q I h;refine z9 (hi pins s σ H _ I h) λiv s1 ⟨y,H1,I1,ry,q1⟩=>z9 (ho pins s1 σ H1 _ I1 q1) λu s2 ⟨x,H2,I2,rx,a,ov,ex,g,q2⟩=>?_;subst ex;obtain rfl:u=Value.ref a:=rx;exact Kl hu I2 g ry λs3 I3=>⟨.bl (!ov.isSome),H2,I3,rfl,q2⟩
theorem Dl (hu:X.A.units+1<cLine)(ho:PE X o td)(hi:PE X i ty)(hv:PE X value tv)(hs:swapsWith value (some (.Subscript o i pos')) pos.line X.env=pure false):PS X (.Assign [.Subscript o i pos'] value pos) (Uw td ty tv):=by intro pins s σ H D I h;refine wpAny_Assign_Subscript (z9 (hv pins s σ H _ I h) λr s1 ⟨v,H1,I1,rv,q1⟩=>z9 (ho pins s1 σ H1 _ I1 q1) λu s2 ⟨x,H2,I2,rx,q2⟩=>z9 (hi pins s2 σ H2 _ I2 q2) λiv s3 ⟨y,H3,I3,ry,a,H4,ex,g,q3⟩=>?_) hs;subst ex;obtain rfl:u=Value.ref a:=rx;exact Km hu I3 g ry rv λs4 I4=>⟨σ,H4,I4,q3⟩
end
theorem Kp (h:Heap)(hb:sysModules<h.objs.size):ObjOk P w H (h.push { cls:= .type "dict",data:= .dict #[] }) h.objs.size (.dK []) :=
 ⟨ye _,beq_eq_false_iff_ne.mpr (Ne.symm (yL hb)),[],.nil,Heap.DictOf.new h⟩
def UL:TE:=λ_ H Q=>∀ p,H p=none->Q (.ref p) (z6 H p (.dK []))
section
variable {X:Cx}{pos:Pos}
theorem CO:PE X (.Dict [] [] pos) UL:=λpins s σ H Q I h =>
 wpAny_Dict_empty ⟨.ref s.heap.objs.size,_,I.laid (a:=s.heap.objs.size) (o:= .dK []) (t':=s.toks) (λ_ _ q=>yX _ q) (yU _) (Kp s.heap I.big),rfl,h _ (I.hok.fresh (yU _))⟩
end
end L2
namespace Att
open PySem PySem.W PySem.Calls PyProof.Rows
variable{P:Params}{h:Heap}{l:OpenLaw}{n:Nat}
theorem Bi :∀(ns:List Int)(vs:List Value),WellAll P h vs (ns.map WData.int)->IntsAre vs ns:=by
 intro ns
 induction ns with
 |nil=>intro vs w;rw [List.map_nil] at w;cases w;exact .nil
 |cons n ns ih =>
  intro vs w;rw [yM] at w;cases w with
  |cons a b=>cases a;exact .cons _ _ (ih _ b)
theorem Mx (hn:l.most=some n){args:List WData}{vals:List Value}(hpre:l.row.toRowW.claim.pre args=true)(hwl:WellAll P h vals args):∃ a vs ns,vals=[Value.ref a]/\args=[WData.list (ns.map WData.int)]/\h.get? a=some { cls:= .type "list",data:= .seq vs.toArray }/\IntsAre vs ns/\ns.length<=n:=by
 have hsh:WShape.hasAll [] args [.list .int]=true:=(pre_splitW hpre).1;have hc:l.pre.holds [] { args:=args }=true:=(pre_splitW hpre).2;obtain ⟨d,r,rfl,h1,h2⟩:=hasAllW_cons hsh;obtain rfl:=hasAllW_nil h2;obtain ⟨xs,rfl,h3⟩:=hasW_list h1;obtain ⟨ns,rfl⟩:=items_int h3;have hlen:ns.length<=n:=by
  unfold OpenLaw.pre at hc;have h4:(WTm.not (.lt (.lit (.int (n:Int))) (.len (.arg 0)))).holds [] { args:=[.list (ns.map .int)] }=true:=by have h4:=(holds_andW hc).1;rw [hn] at h4;exact h4
  have h5:=condW_of h4 (w_not (w_lt w_lit (w_len_list (w_arg rfl))));rw [yZ] at h5;refine Nat.le_of_not_lt λq=>?_;have q':(n:Int)<((ns.length:Nat):Int):=by omega
  first
   |(rw [yg q'] at h5;exact absurd h5 (by decide))
   |(simp at h5;omega)
 cases hwl with
 |cons w1 w2 =>
  cases w2;cases w1 with
  |list ho hall=>exact ⟨_,_,ns,rfl,rfl,ho,Bi ns _ hall,hlen⟩
theorem Dk (l:OpenLaw)(args:List WData):l.row.toRowW.claim.post args (.bool true) args=true :=
 postW_of (r:=l.row.toRowW) (X:=(true==true))
  (show WShape.has [] (.bool true) .bool=true by first|rfl|decide|simp [WShape.has,WShape.arms,WShape.armsAll])
  (show (WTm.eq .res (.lit (.bool true))).value [] { args:=args,res:=some (.bool true),after:=args }=some (.bool (true==true)) from w_eq_bool (w_res rfl) w_lit) rfl
theorem attach_call {q:Program}{loose:List Str}{XP:(Str->Option Value)->Heap->Prop}{YP:World->Heap->Prop}{d:DefRec}(hn:l.most=some n)(hdf:d.params.defaults=[])(call:∀ (w:World) (s₀ s₁:Shared) (mg mb:Str->Option Value) (fa:Addr) (o:Obj) (pm cd doc:Value) (a:Addr) (vs:List Value) (ns:List Int), Ground q loose [] XP w s₀ mg mb s₁.heap->YP w s₁.heap -> s₁.heap.get? fa=some o->o.data = .func (docDef d.name d.params d.body d.scope pm cd doc)->s₁.heap.CodeRec cd d.name->mg d.name=some (.ref fa) -> s₁.heap.get? a=some { cls:= .type "list",data:= .seq vs.toArray }->IntsAre vs ns->ns.length<=n->s₁.gens=#[] -> codeAny (model l.prog w) callerA (.call (.ref fa) ⟨[.ref a],[]⟩) (λr s'=>r = .ok (.ret (.bool true))/\OldK s₁.heap s'.heap/\s'.os=s₁.os/\AllBare s'.gens) s₁):WalkO q loose XP YP l.row.toRowW d [] (λf vs=>PySem.call f vs):=by intro w s₀ s₁ mg mb G Y fa o pm cd doc dV kV ho hd hcd hD hmg hg args vals as hpre hlay hrd hwl hlo;obtain rfl:dV = .none:=Dflts.none hD hdf;obtain rfl:kV = .none:=Dflts.noKw hD;obtain ⟨a,vs,ns,rfl,rfl,hobj,hints,hlen⟩:=Mx hn hpre hwl;refine enter_call (codeAny_mono (call w s₀ s₁ mg mb fa o pm cd doc a vs ns G Y ho (fd_plain hd) hcd hmg hobj hints hlen hg) λr s' hq=>?_);obtain ⟨rfl,h2,h3,h4⟩:=hq;exact ⟨.inl ⟨.bool true,.bool true,[],rfl,λ_=>rfl,.bool true,Dk l _,λ_=>⟨List.Pairwise.nil,λ_ hm=>(nomatch hm)⟩⟩,h2,h3,h4⟩
end Att
namespace L2
open PySem PySem.Spec PyProof.Rows
variable{K:Fg}{a f:Addr}{fd:FuncData}{qual x:Str}{sp:Sp}{n:Nat}{st:Stmt}{ps:List Str}{A B:Prop}{H H':Hp}
theorem Gd:∀{vs:List Value}{ns:List Int},IntsAre vs ns->Vals (ns.map V.int) vs
 |_,_,.nil=> .nil
 |_,_,.cons n t h=> .cons ⟨t,rfl⟩ (Gd h)
def Only (H:Hp):Prop:=∀ b,H b=none∨(∃ o xs,H b=some (.frz o (.lst xs)))∨∃ p∈TABS,p.1=b/\H b=some (.tbl p.2.1 p.2.2)
structure jX (K:Fg)(h:Heap):Prop where
 at_:∀ p∈TABS,h.get? p.1=some { cls:= .none,data:= .fields p.2.1 }
 tri:∀ p∈TABS,TriplesOk p.2.1.toList
 non:∀ p∈TABS,∀ q∈p.2.2,codeAmong q.1 p.2.1.toList=none
 tab:∀ p∈TABS,isCodeTable h p.1
 one:∀ p∈TABS,∀ q∈TABS,p.1=q.1->p=q
 out:∀ p∈TABS,K.lookup p.1=none
def xm:Hp:=λb=>(TABS.find? λp=>p.1==b).map λp=> .tbl p.2.1 p.2.2
theorem Xd {b:Addr}{u:HO}(h:xm b=some u):∃ p∈TABS,p.1=b/\u = .tbl p.2.1 p.2.2:=by unfold xm at h;obtain ⟨p,e,r⟩:=yI.mp h;exact ⟨p,List.mem_of_find?_eq_some e,by have:=List.find?_some e;simpa using this,r.symm⟩
theorem UT {h:Heap}(T:jX K h){p:Addr×Array Value×List (Pos×Str)}(hp:p∈TABS):xm p.1=some (.tbl p.2.1 p.2.2):=by
 unfold xm;cases e:TABS.find? λq=>q.1==p.1 with
 |none=>exact absurd (List.find?_eq_none.mp e p hp) (by simp)
 |some q =>
  have e1:q.1=p.1:=by have:=List.find?_some e;simpa using this
  rw [T.one q (List.mem_of_find?_eq_some e) p hp e1];rfl
theorem BK {P:Program}{w:World}{mg mb:Str->Option Value}{CX:CXT}{k:Nat}{fa:Addr}{s₁:Shared}{vs:List Value}{ns:List Int}(KX:K.In s₁.heap)(T:jX K s₁.heap)(hns:s₁.heap.Ns mainGlobals mg)(hb:s₁.heap.Ns builtinsNs mb)(hbb:∀ x:Str,x ≠ "__name__"->mb x=bootBuiltins x)(hlim:s₁.heap.NoLimit)(hbm:∃ bm ob,mg "__builtins__"=some (.ref bm)/\bm≠builtinsNs/\s₁.heap.get? bm=some ob/\ob.cls = .type "module"/\ob.dict=some builtinsNs/\ob.data = .plain)(hg:s₁.gens=#[])(ha:s₁.heap.get? a=some { cls:= .type "list",data:= .seq vs.toArray })(hi:IntsAre vs ns)(hl:ns.length<=sizeLine)(hr:Room k callerA)(F:∀ base:Heap,K.In base->base.Ns mainGlobals mg->FnOk P w K mg base CX k fa fd [x] sp)(hbind:∀ (s:Shared) (u:Value),BindsTo s fd ⟨[u],[]⟩ [(x,u)])(hsp:∀ H:Hp,Only H->SqL K H a (ns.map V.int)->sp [.ref a] H (λv _=>v = .bl true) λ_ _ _=>False)(hCX:∀ H e s',CX [] H s₁ (λ_ _ _=>False) e s'->False):codeAny (model P w) callerA (.call (.ref fa) ⟨[.ref a],[]⟩) (λr s'=>r = .ok (.ret (.bool true))/\OldK s₁.heap s'.heap/\s'.os=s₁.os/\AllBare s'.gens) s₁:=by
 have rv:=Gd hi;have lenV:=hi.length;have naT:∀ p∈TABS,p.1≠a:=λp hp z=>by
  have e:=T.at_ p hp;rw [z,ha] at e;cases e
 have core:∀ H:Hp,Only H->SqL K H a (ns.map V.int)->HOk P w H s₁.heap->(∀ b,H b≠none->b=a∨∃ p∈TABS,p.1=b)->(∀ b,H b≠none->K.lookup b=none)->(∀ p∈TABS,H p.1=some (.tbl p.2.1 p.2.2)) ->
   codeAny (model P w) callerA (.call (.ref fa) ⟨[.ref a],[]⟩) (λr s'=>r = .ok (.ret (.bool true))/\OldK s₁.heap s'.heap/\s'.os=s₁.os/\AllBare s'.gens) s₁:=by
  intro H hO hS hok hA hK hT;have base_of:∀{b:Addr}{o:Obj},s₁.heap.get? b=some o->H b=none->(xZ s₁.heap H).get? b=some o:=λe n=>KP e n;have noA:∀{b:Addr}{o:Obj}{es:Array DictEntry}{ep:Nat},s₁.heap.get? b=some o->o.data = .dict es ep->H b=none:=λ{b o es ep} e d=>by
   cases q:H b with
   |none=>rfl
   |some u =>
    rcases hA b (by rw [q];simp) with e'|⟨p,hp,e'⟩
    ·subst e';rw [ha] at e;cases e;have d':Data.seq vs.toArray _=Data.dict es ep:=d;cases d'
    ·subst e';rw [T.at_ p hp] at e;cases e;have d':Data.fields p.2.1=Data.dict es ep:=d;cases d'
  have nsK:∀{b:Addr}{m:Str->Option Value},s₁.heap.Ns b m->(xZ s₁.heap H).Ns b m:=λ{b m} ⟨o,es,ep,e,d,r⟩=>⟨o,es,ep,base_of e (noA e d),d,r⟩;have hKb:K.In (xZ s₁.heap H):=λb o e=>base_of (KX b o e) (by
   cases q:H b with
   |none=>rfl
   |some u=>rw [hK b (by rw [q];simp)] at e;cases e)
  have noP:∀{b:Addr}{o:Obj},s₁.heap.get? b=some o->o.data = .plain->H b=none:=λ{b o} e d=>by
   cases q:H b with
   |none=>rfl
   |some u =>
    rcases hA b (by rw [q];simp) with e'|⟨p,hp,e'⟩
    ·subst e';rw [ha] at e;cases e;have d':Data.seq vs.toArray _=Data.plain:=d;cases d'
    ·subst e';rw [T.at_ p hp] at e;cases e;have d':Data.fields p.2.1=Data.plain:=d;cases d'
  have hM:Mod K mg (xZ s₁.heap H):=⟨hKb,nsK hns,⟨mb,nsK hb,hbb⟩,let ⟨mc,h1,h2⟩:=hlim;⟨mc,nsK h1,h2⟩,let ⟨bm,ob,b1,b2,b3,b4,b5,b6⟩:=hbm;⟨bm,ob,b1,b2,base_of b3 (noP b3 b6),b4,b5,b6⟩⟩;have e0:Env0 P w K mg (xZ s₁.heap H) callerA [] s₁ H:=⟨rfl,hM,λb o e=>Pg e,Nat.le_of_eq (KQ _ _),trivial,λb hb=>absurd (show b∈([]:List Addr) from hb) (by simp),hok,.of_eq hg,hT⟩;refine codeAny_mono ((F _ hKb (nsK hns)).run callerA [] s₁ H ⟨[.ref a],[]⟩ [.ref a] [.ref a] _ _ hr e0 (hbind s₁ (.ref a)) (.cons rfl .nil) (hsp H hO hS)) λr s' h=>?_;cases r with
  |error e=>exact (hCX H e s' h).elim
  |ok fl =>
   cases fl with
   |next=>exact False.elim h
   |brk=>exact False.elim h
   |cont=>exact False.elim h
   |ret u =>
    obtain ⟨v,H',os,bare,un,hok',r',q⟩:=h;have q':v = .bl true:=q;subst q';obtain rfl:u=Value.bool true:=r';refine ⟨rfl,⟨λb o e=>?_,λb o e=>un.there b o e (by simp)⟩,os,bare⟩;rcases hO b with z|⟨ob,xs,z⟩|⟨p,hp,rfl,z⟩
    ·exact .inl (un.keep b o e z (by intro z;exact absurd (show b∈([]:List Addr) from z) (by simp)) (by simp))
    ·have z2:=un.frzs b ob _ z;obtain ⟨e1,_⟩:=hok b _ z;obtain ⟨e2,_⟩:=hok' b _ z2;rw [e] at e1;cases e1;exact .inl e2
    ·have z2:=un.tbls p.1 _ _ z;obtain ⟨more,e2,_⟩:=hok' p.1 _ z2;rw [T.at_ p hp] at e;cases e;exact .inr (.inl ⟨T.tab p hp,rfl,p.2.1,more,rfl,e2⟩)
 have tok:∀{H:Hp}{p:Addr×Array Value×List (Pos×Str)},p∈TABS->ObjOk P w H s₁.heap p.1 (.tbl p.2.1 p.2.2):=λ{H p} hp =>
  ⟨#[],by rw [Array.append_empty];exact T.at_ p hp,by rw [Array.append_empty];exact T.tri p hp,λq hq=> .inl (by rw [Array.append_empty];exact T.non p hp q hq)⟩
 have only:∀ b,xm b=none∨(∃ o xs,xm b=some (.frz o (.lst xs)))∨∃ p∈TABS,p.1=b/\xm b=some (.tbl p.2.1 p.2.2):=λb=>by
  cases q:xm b with
  |none=>exact .inl rfl
  |some u=>obtain ⟨p,hp,e1,rfl⟩:=Xd q;exact .inr (.inr ⟨p,hp,e1,rfl⟩)
 have mine:∀ b,xm b≠none->∃ p∈TABS,p.1=b:=λb z=>by
  cases q:xm b with
  |none=>exact absurd q z
  |some u=>obtain ⟨p,hp,e1,_⟩:=Xd q;exact ⟨p,hp,e1⟩
 cases hk:K.lookup a with
 |some o =>
  have e:=KX a o hk;rw [ha] at e;cases e;refine core xm only (.inr ⟨_,vs.toArray,_,hk,rfl,rfl,rfl,by rw [yY,lenV];exact hl,by simpa using rv⟩) (λb u z=>?_) (λb z=> .inr (mine b z)) (λb z=>?_) λp hp=>UT T hp
  ·obtain ⟨p,hp,rfl,rfl⟩:=Xd z;exact tok hp
  ·obtain ⟨p,hp,rfl⟩:=mine b z;exact T.out p hp
 |none =>
  refine core (λb=>if b=a then some (.frz { cls:= .type "list",data:= .seq vs.toArray } (.lst (ns.map V.int))) else xm b) (λb=>?_) (.inl (.inr ⟨{ cls:= .type "list",data:= .seq vs.toArray },if_pos rfl⟩)) (λb u z=>?_) (λb z=>?_) (λb z=>?_) λp hp=>?_
  ·by_cases hb:b=a
   ·exact .inr (.inl ⟨_,_,if_pos hb⟩)
   ·rcases only b with z|⟨o,xs,z⟩|⟨p,hp,e1,z⟩
    ·exact .inl ((if_neg hb).trans z)
    ·exact .inr (.inl ⟨o,xs,(if_neg hb).trans z⟩)
    ·exact .inr (.inr ⟨p,hp,e1,(if_neg hb).trans z⟩)
  ·by_cases hb:b=a
   ·have z':=(if_pos hb).symm.trans z;cases z';subst hb;exact ⟨ha,by rw [yZ];exact hl,vs,_,rv,ha⟩
   ·have z':=(if_neg hb).symm.trans z;obtain ⟨p,hp,rfl,rfl⟩:=Xd z';exact tok hp
  ·by_cases hb:b=a
   ·exact .inl hb
   ·exact .inr (mine b λq=>z ((if_neg hb).trans q))
  ·by_cases hb:b=a
   ·rw [hb];exact hk
   ·obtain ⟨p,hp,rfl⟩:=mine b λq=>z ((if_neg hb).trans q);exact T.out p hp
  ·exact (if_neg (naT p hp)).trans (UT T hp)
theorem LL {l:PySem.W.OpenLaw}{k:Nat}{q:Program}{loose:List Str}{XP:(Str->Option Value)->Heap->Prop}{YP:World->Heap->Prop}{d:DefRec}{K:Params->Fg}{CX:World->CXT}{sp:World->Sp}(hn:l.most=some n)(hn2:n<=sizeLine)(hdf:d.params.defaults=[])(hr:Room k callerA)(hY:∀(w:World)(h:Heap),YP w h->(K w.params).In h)(F:∀(w:World)(mg:Str->Option Value)(fa:Addr)(h:Heap),YP w h->(K w.params).In h->h.Ns mainGlobals mg->mg d.name=some (.ref fa) -> ∃ fd:FuncData,(∀(s:Shared)(u:Value),BindsTo s fd ⟨[u],[]⟩ [(x,u)])/\jX (K w.params) h /\ ∀ base:Heap,(K w.params).In base->base.Ns mainGlobals mg->FnOk l.prog w (K w.params) mg base (CX w) k fa fd [x] (sp w))(hsp:∀(w:World)(H:Hp)(a:Addr)(ns:List Int),ns.length<=n->Only H->SqL (K w.params) H a (ns.map V.int)->sp w [.ref a] H (λv _=>v = .bl true) λ_ _ _=>False)(hCX:∀(w:World)(H:Hp)(s:Shared)(e:Value)(s':Shared),CX w [] H s (λ_ _ _=>False) e s'->False):PySem.W.WalkO q loose XP YP l.row.toRowW d [] (λf vs=>PySem.call f vs):=by refine Att.attach_call hn hdf λw s₀ s₁ mg mb fa o pm cd doc a vs ns G Y ho hd hcd hmg hobj hints hlen hg=>?_;have KX:=hY w _ Y;obtain ⟨fd,hb,hT,hF⟩:=F w mg fa _ Y KX G.T.g hmg;exact BK KX hT G.T.g G.T.b G.T.builtins G.T.nolimit G.T.bmain hg hobj hints (yf hlen hn2) hr hF hb (λH hO hS=>hsp w H a ns hlen hO hS) λH e s'=>hCX w H s₁ e s'
def vf (s:Stmt)(j:Nat):Stmt:=match s with
 | .ClassDef _ _ _ body _ _ _ _ _ _ _=>body.getD j (.Pass ⟨0,0,0,0⟩)
 |_=> .Pass ⟨0,0,0,0⟩
def qS (s:Stmt):Arguments:=match s with
 | .FunctionDef _ a _ _ _ _ _ _ _ _=>a
 |_=>{ posonlyargs:=[],args:=[],vararg:=none,kwonlyargs:=[],kw_defaults:=[],kwarg:=none,defaults:=[] }
def i0 (s:Stmt):List Stmt:=match s with
 | .FunctionDef _ _ b _ _ _ _ _ _ _=>b
 |_=>[]
def j6 (s:Stmt):Scope:=match s with
 | .FunctionDef _ _ _ _ _ _ sc _ _ _=>sc
 |_=>{ kind:= .function,names:=[],isGenerator:=false,isCoroutine:=false }
abbrev j8:CXT:=λ_ _ _ _ _ _=>False
abbrev E0:XK:=λ_ _ _=>False
theorem QT {X:Cx}:jb j8 X E0:=λ_ _ _ _ _ _ _ h=>h.elim
structure Fun (K:Fg)(x qual:Str)(st:Stmt)(f:Addr)(fd:FuncData):Prop where
 ex:∃(oc:Value)(od:Option Addr)(kV doc pm:Value)(an:Option Addr)(cdv ct:Value)(osl:Array (Option Value)),
  fd=PySem.W.fnOf x qual (qS st) (i0 st) (j6 st) .none kV doc pm an cdv ct/\K.lookup f=some ⟨oc,od,.func fd,osl⟩/\PySem.W.codeIn K cdv qual=true
 kp:PySem.W.keepIn K (.ref f)=true
section
variable {P:Program}{w:World}{K:Fg}{mg:Str->Option Value}{base:Heap}
theorem Fun.ok {N:List Str}{k:Nat}(F:Fun K x qual st f fd)(S:v7 N ps (j6 st))(len:∀ vs H Q E,sp vs H Q E->vs.length=ps.length)(hbody:∀(cdv:Value)(A:Around)(outer:List Env)(s:Shared)(H:Hp)(vs:List V)(Q:VK)(E:XK),Room k (A.deeper (envOfC qual (j6 st) s.heap.objs.size f cdv))->sp vs H Q E -> ∃ t,PSs (qG j8 P w K mg base N qual (j6 st) f cdv A outer s H E).nox (i0 st) t/\t { nx:=λ_ H'=>Q .non H',rt:=Q } (start N vs) H):FnOk P w K mg base j8 (k+1) f fd ps sp:=by obtain ⟨oc,od,kV,doc,pm,an,cdv,ct,osl,rfl,lk,hcd⟩:=F.ex;refine WZ lk hcd S len λA outer s H vs Q E hr hsp=>?_;obtain ⟨t,h,q⟩:=hbody cdv A outer s H vs Q E hr hsp;exact ⟨t,h.nox,q⟩
theorem Fun.binds (F:Fun K x qual st f fd)(h:∀(kV doc pm:Value)(an:Option Addr)(cdv ct:Value)(us:List Value),us.length=ps.length->bindArgs (PySem.W.fnOf x qual (qS st) (i0 st) (j6 st) .none kV doc pm an cdv ct) ⟨us,[]⟩=pure (ps.zip us)):Binds K fd ps []:=by obtain ⟨oc,od,kV,doc,pm,an,cdv,ct,osl,rfl,lk,hcd⟩:=F.ex;exact .all (h kV doc pm an cdv ct)
theorem vV {oc:Value}{od an:Option Addr}{osl:Array (Option Value)}{kV doc pm cdv ct:Value}(l:K.lookup f=some ⟨oc,od,.func (PySem.W.fnOf x qual (qS st) (i0 st) (j6 st) .none kV doc pm an cdv ct),osl⟩)(c:PySem.W.codeIn K cdv qual=true)(k:PySem.W.keepIn K (.ref f)=true):Fun K x qual st f (PySem.W.fnOf x qual (qS st) (i0 st) (j6 st) .none kV doc pm an cdv ct):=⟨⟨oc,od,kV,doc,pm,an,cdv,ct,osl,rfl,l,c⟩,k⟩
end
theorem za {A:Around}{k:Nat}(hr:Room k A):A.units+1<cLine:=Nat.lt_of_le_of_lt (Nat.add_le_add_left (by decide:1<=64) _) hr.units
theorem vD (h:n<=1000):n<sizeLine:=Nat.lt_of_le_of_lt h (by decide)
section
variable {X:Cx}
theorem pv (i:Nat){pos:Pos}(hN:X.N[i]?=some x:=by rfl)(hv:Vis X.env.scope x:=by first|exact Or.inl rfl|exact Or.inr (Or.inl rfl)|exact Or.inr (Or.inr rfl))(hd:(x==("__debug__":Str))=false:=by decide)(hcd:(x==("__classdict__":Str))=false:=by decide):PE X (.Name x pos) (n8 i):=CW hN hv hd hcd
theorem GR:CallR X (.builtin "len") (λxs H Q=>∃ a kvs,xs=[V.ref a]/\H a=some (.dK kvs)/\Q (.int kvs.length) H):=by intro pins s σ H xs us Q I r h;obtain ⟨a,kvs,rfl,ha,q⟩:=h;obtain ⟨u,rfl,ru⟩:=qY r;cases ru;exact d_len I (.inl ha) λt s' I'=>⟨.int kvs.length,H,I',⟨t,rfl⟩,q⟩
end
theorem xt (h:B):if false=true then A else B:=by rw [if_neg yT];exact h
theorem xu (h:A):if true=true then A else B:=by rw [if_pos rfl];exact h
theorem ite2 {c:Prop}[Decidable c](h1:c->A)(h2:¬ c->B):if c then A else B:=by
 by_cases h:c
 ·rw [if_pos h];exact h1 h
 ·rw [if_neg h];exact h2 h
def Same (H H':Hp):Prop:=∀ b o,H b=some o->H' b=some o
theorem Same.refl (H:Hp):Same H H:=λ_ _ h=>h
theorem Same.trans {H1 H2:Hp}(a:Same H H1)(b:Same H1 H2):Same H H2:=λc o h=>b c o (a c o h)
theorem Same.free (e:Same H H'){l:Addr}(h:H' l=Option.none):H l=Option.none:=by
 cases q:H l with
 |none=>rfl
 |some o=>rw [e l o q] at h;cases h
theorem Same.seq {xs:List V}(e:Same H H')(h:SqL K H a xs):SqL K H' a xs:=by
 rcases h with (h|⟨o,h⟩)|h
 ·exact .inl (.inl (e _ _ h))
 ·exact .inl (.inr ⟨o,e _ _ h⟩)
 ·exact .inr h
end L2
set_option maxHeartbeats 4000000
set_option synthInstance.maxHeartbeats 4000000
set_option synthInstance.maxSize 4096
namespace L2
open PySem PySem.Spec PyProof.Rows
variable{c elt iter tg:Expr}{ifs:List Expr}{scope:Scope}{pos:Pos}{env:Env}{X:Cx}{o:Option V}{σ:St}{g:TG}{tt:TT}{te:TE}{wi:TI}{K:Fg}
section
variable {prog:Program}{w:World}{A:Around}{R:Result->Shared->Prop}{s:Shared}
theorem Kg {target:Expr}{it acc:Value}(I:Nat->Shared->Prop)
  (turn:∀ n s,I n s->wpAny (model prog w) A (pyNext it) (λr s₁=>match r with
   |none=>R (.ok .next) s₁
   |some v=>wpAny (model prog w) A (letOwnedTupleGo target it v) (λ_ s₀=>wpAny (model prog w) A (assign target env v) (λ_ s₂ =>
     wpAny (model prog w) A (forIn ifs true λc r=>if r=true then do let ok <- isTrue c env (eval c env);pure (ForInStep.yield ok) else pure (ForInStep.yield r)) (λok s₃ =>
      if ok=true then wpAny (model prog w) A (eval elt env) (λx s₄ =>
       wpAny (model prog w) A (call (.builtin "list.append") [acc,x]) (λ_ s₅=>∃ m,m<n/\I m s₅) (λ_ _=>False) s₄) (λ_ _=>False) s₃
      else ∃ m,m<n/\I m s₃) (λ_ _=>False) s₂) (λ_ _=>False) s₀) (λ_ _=>False) s₁) (λ_ _=>False) s)
  (n:Nat) (h:I n s) :
  codeAny (model prog w) A (.compLoop (.ListComp elt [⟨target,iter,ifs,0⟩] scope pos) 0 it acc env) R s:=by
 refine codeAny_loop rfl I (λn s hI=>?_) n h;show wpAny _ A ((compTurn (.ListComp elt [⟨target,iter,ifs,0⟩] scope pos) 0 it acc env).onRaise (λx=>do noteFrame x env;theTreesLotGoes x)) _ _ s;refine wpAny_noted (wpAny_noRaise ?_);rw [compTurn_list];refine yW (wpAny_standAt (yW (z9 (turn n s hI) λr s₁ h₁=>?_)));cases r with
 |none=>exact yJ h₁
 |some v =>
  refine yW (z9 h₁ λ_ s₀ h₀=>?_);refine yW (z9 h₀ λ_ s₂ h₂=>yW (z9 h₂ λok s₃ h₃=>?_));cases ok with
  |false=>exact yJ ⟨rfl,h₃⟩
  |true=>exact yW (yW (z9 h₃ λx s₄ h₄=>yW (z9 h₄ λ_ s₅ h₅=>yJ (yJ ⟨rfl,h₅⟩))))
end
theorem Yb {α β:Type}{f:α->β->Sem (ForInStep β)}(g:α->β->β):∀(l:List α)(b:β),(∀ a∈l,∀ b,f a b=pure (.yield (g a b)))->forIn l b f=(pure (l.foldl (λb a=>g a b) b):Sem β)
 |[],_,_=>rfl
 |x::l,b,h=>by
  rw [List.forIn_cons,h x yR,pure_bind];exact Yb g l (g x b) λy hy=>h y (yO _ hy)
def xX (env:Env)(y:Str×NameKind)(cs:List (Str×Addr)):List (Str×Addr):=if y.2 == .free then (y.1,(env.cells.lookup y.1).getD 0)::cs else cs
theorem Ww (env:Env):∀(l:List (Str×NameKind))(cs:List (Str×Addr)),(∀ y∈l,y.2 = .free->∃ c,env.cells.lookup y.1=some c)->(∀ x c,cs.lookup x=some c->env.cells.lookup x=some c) -> (∀ x c,(l.foldl (λb a=>xX env a b) cs).lookup x=some c->env.cells.lookup x=some c)
 |[],_,_,h=>h
 |(n,k)::l,cs,hl,h=>by
  refine Ww env l _ (λy hy=>hl y (yO _ hy)) λx c e=>?_;unfold xX at e
  dsimp only at e
  cases hk:(k==NameKind.free) with
  |false=>rw [hk,if_neg yT] at e;exact h x c e
  |true =>
   rw [hk,if_pos rfl] at e;obtain ⟨c0,e0⟩:=hl (n,k) yR (by simpa using hk);cases hx:x==n with
   |true =>
    rw [uW,hx] at e;have hx':x=n:=by simpa using hx
    subst hx';have e':(List.lookup x env.cells).getD 0=c:=Option.some.inj e;have e0':List.lookup x env.cells=some c0:=e0;rw [e0'] at e';rw [e0',<- e'];rfl
   |false=>rw [uW,hx] at e;exact h x c e
theorem Wx (env:Env)(x:Str):∀(l:List (Str×NameKind))(cs:List (Str×Addr)),(∃ c,cs.lookup x=some c)->∃ c,(l.foldl (λb a=>xX env a b) cs).lookup x=some c
 |[],_,h=>h
 |(n,k)::l,cs,h=>by
  refine Wx env x l _ ?_;unfold xX
  dsimp only
  split
  ·rw [uW];cases hx:x==n with
   |true=>exact ⟨_,rfl⟩
   |false=>exact h
  ·exact h
theorem Wv (env:Env):∀(l:List (Str×NameKind))(cs:List (Str×Addr)),∀ y∈l,y.2 = .free->∃ c,(l.foldl (λb a=>xX env a b) cs).lookup y.1=some c
 |[],_,_,h,_=>nomatch h
 |z::l,cs,y,h,hf=>by
  rcases yK.mp h with e|h
  ·subst e;refine Wx env y.1 l _ ?_;unfold xX
   dsimp only
   rw [hf,if_pos (by rfl),uW,beq_self_eq_true];exact ⟨_,rfl⟩
  ·exact Wv env l _ y h hf
theorem Wz (h:∀ y∈scope.names,y.2 = .free->∃ c,env.cells.lookup y.1=some c):∃ cl,closureFor scope env=pure cl/\(∀ x c,cl.lookup x=some c->env.cells.lookup x=some c)/\∀ y∈scope.names,y.2 = .free->∃ c,cl.lookup y.1=some c:=by
 refine ⟨scope.names.foldl (λb a=>xX env a b) [],?_,Ww env _ _ h (λx c e=>by cases e),Wv env _ _⟩;simp only [closureFor];rw [Yb (xX env) scope.names [] (λy hy b=>?_)]
 ·rfl
 ·obtain ⟨n,k⟩:=y;unfold xX;cases hk:(k==NameKind.free) with
  |false=>simp only [hk,uL,if_false]<;>rfl
  |true=>obtain ⟨c,e⟩:=h (n,k) hy (by simpa using hk);have e':List.lookup n env.cells=some c:=e;simp only [hk,if_true,cellOf,e'];rfl
theorem Uo (env:Env)(n:Str)(k:NameKind)(r:List (Str×NameKind))(x:Str):((List.map (λ(n,k)=>if (k==NameKind.free&&env.scope.kind == .function&&env.kindOf n==some .cell) then (n,NameKind.cell) else (n,k)) ((n,k)::r)).lookup x) = (if x==n then some (if (k==NameKind.free&&env.scope.kind == .function&&env.kindOf n==some .cell) then NameKind.cell else k) else (List.map (λ(n,k)=>if (k==NameKind.free&&env.scope.kind == .function&&env.kindOf n==some .cell) then (n,NameKind.cell) else (n,k)) r).lookup x):=by
 rw [yM];show List.lookup x ((if (k==NameKind.free&&env.scope.kind == .function&&env.kindOf n==some .cell)=true then (n,NameKind.cell) else (n,k))::_)=_;by_cases hc:(k==NameKind.free&&env.scope.kind == .function&&env.kindOf n==some .cell)=true
 ·rw [if_pos hc,if_pos hc,uW];cases x==n<;>rfl
 ·rw [if_neg hc,if_neg hc,uW];cases x==n<;>rfl
theorem Uq {env:Env}{x:Str}{k:NameKind}:∀{names:List (Str×NameKind)}, (names.map λ(n,k)=>if (k==NameKind.free&&env.scope.kind == .function&&env.kindOf n==some .cell) then (n,NameKind.cell) else (n,k)).lookup x=some k -> ∃ k',names.lookup x=some k'/\(k'=k∨(k' = .free/\k = .cell))
 |[],h=>by simp at h
 |(n,q)::r,h=>by
  rw [Uo] at h;rw [uW];cases hx:x==n with
  |true =>
   rw [hx,if_pos rfl] at h;have h':=Option.some.inj h;refine ⟨q,rfl,?_⟩;by_cases hc:(q==NameKind.free&&env.scope.kind == .function&&env.kindOf n==some .cell)=true
   ·rw [if_pos hc] at h';have hq:(q==NameKind.free)=true:=by
     cases z:(q==NameKind.free) with
     |true=>rfl
     |false=>rw [z] at hc;simp at hc
    exact .inr ⟨by simpa using hq,h'.symm⟩
   ·rw [if_neg hc] at h';exact .inl h'
  |false=>rw [hx,if_neg yT] at h;exact Uq h
theorem Up {env:Env}{x:Str}:∀{names:List (Str×NameKind)},names.lookup x=some .free -> (names.map λ(n,k)=>if (k==NameKind.free&&env.scope.kind == .function&&env.kindOf n==some .cell) then (n,NameKind.cell) else (n,k)).lookup x=some .cell∨(names.map λ(n,k)=>if (k==NameKind.free&&env.scope.kind == .function&&env.kindOf n==some .cell) then (n,NameKind.cell) else (n,k)).lookup x=some .free
 |[],h=>by simp at h
 |(n,q)::r,h=>by
  rw [Uo];rw [uW] at h;cases hx:x==n with
  |true =>
   rw [hx] at h;have h':q = .free:=Option.some.inj h;rw [if_pos rfl];by_cases hc:(q==NameKind.free&&env.scope.kind == .function&&env.kindOf n==some .cell)=true
   ·rw [if_pos hc];exact .inl rfl
   ·rw [if_neg hc,h'];exact .inr rfl
  |false=>rw [hx] at h;rw [if_neg yT];exact Up h
def k7 (cap:List (Option Nat))(σ:St):St:=cap.map λo=>o.bind λi=>(σ[i]?).join
structure jO (X:Cx)(N':List Str)(cap:List (Option Nat))(sc:Scope):Prop where
 kind:sc.kind = .function
 nocell:∀ y∈sc.names,y.2 ≠ .cell
 names:∀ y∈sc.names,y.2 = .local->sc.names.lookup y.1=some .local
 free:∀ y∈sc.names,y.2 = .free->X.env.kindOf y.1=some .cell∨X.env.kindOf y.1=some .free
 len:cap.length=N'.length
 cap:∀(j i:Nat),cap[j]?=some (some i)->∃ x,N'[j]?=some x/\X.N[i]?=some x/\sc.names.lookup x=some .free
def Yl:Option NameKind->Bool
 |some .cell=>true
 |some .free=>true
 |_=>false
theorem BH {k:Option NameKind}(h:Yl k=true):k=some .cell∨k=some .free:=by
 cases k with
 |none=>cases h
 |some k=>cases k<;>first|exact .inl rfl|exact .inr rfl|cases h
def QO (names:List (Str×NameKind))(kd:Str->Option NameKind)(y:Str×NameKind):Bool :=
 match y.2 with
 | .cell=>false
 | .local=>names.lookup y.1==some .local
 | .free=>Yl (kd y.1)
 |_=>true
def xG (N:List Str)(sc:Scope):List Str->List (Option Nat)->Bool
 |[],[]=>true
 |_::r,none::c=>xG N sc r c
 |x::r,some i::c=>N[i]?==some x&&(sc.names.lookup x==some .free&&xG N sc r c)
 |_,_=>false
theorem Xs {N:List Str}{sc:Scope}:∀{xs:List Str}{c:List (Option Nat)},xG N sc xs c=true->c.length=xs.length
 |[],[],_=>rfl
 |_::r,none::c,h=>by
  have h':xG N sc r c=true:=h;simp [Xs h']
 |x::r,some i::c,h=>by
  have h':(N[i]?==some x&&(sc.names.lookup x==some .free&&xG N sc r c))=true:=h;simp only [uX] at h';simp [Xs h'.2.2]
 |[],_::_,h=>by cases h
 |_::_,[],h=>by cases h
theorem Xr {N:List Str}{sc:Scope}:∀{xs:List Str}{c:List (Option Nat)},xG N sc xs c=true->∀(j i:Nat),c[j]?=some (some i)->∃ x,xs[j]?=some x/\N[i]?=some x/\sc.names.lookup x=some .free
 |[],[],_,j,i,e=>by simp at e
 |_::r,none::c,h,0,i,e=>by simp at e
 |_::r,none::c,h,j+1,i,e=>by
  have h':xG N sc r c=true:=h;obtain ⟨x,h1,h2⟩:=Xr h' j i (by simpa using e);exact ⟨x,by simpa using h1,h2⟩
 |x::r,some k::c,h,0,i,e=>by
  have h':(N[k]?==some x&&(sc.names.lookup x==some .free&&xG N sc r c))=true:=h;simp only [uX] at h';have e':k=i:=by simpa using e
  subst e';exact ⟨x,rfl,by simpa using h'.1,by simpa using h'.2.1⟩
 |x::r,some k::c,h,j+1,i,e=>by
  have h':(N[k]?==some x&&(sc.names.lookup x==some .free&&xG N sc r c))=true:=h;simp only [uX] at h';obtain ⟨x',h1,h2⟩:=Xr h'.2.2 j i (by simpa using e);exact ⟨x',by simpa using h1,h2⟩
 |[],_::_,h,_,_,_=>by cases h
 |_::_,[],h,_,_,_=>by cases h
theorem k8 {N':List Str}{cap:List (Option Nat)}{sc:Scope}(h1:sc.kind = .function)(h2:(sc.names.all λy=>QO sc.names X.env.kindOf y)=true)(h3:xG X.N sc N' cap=true):jO X N' cap sc:=by
 have h2':=uU.mp h2;refine ⟨h1,λy hy e=>?_,λy hy e=>?_,λy hy e=>?_,Xs h3,Xr h3⟩
 ·have q:=h2' y hy;unfold QO at q;rw [e] at q;cases q
 ·have q:=h2' y hy;unfold QO at q;rw [e] at q;simpa using q
 ·have q:=h2' y hy;unfold QO at q;rw [e] at q;exact BH q
def o7 (X:Cx)(N':List Str)(sc:Scope)(cl:List (Str×Addr))(C:Addr)(s:Shared)(H:Hp)(fp:List Addr)(pn:List (Addr×Obj)):Cx where
 prog:=X.prog
 w:=X.w
 K:=X.K
 mg:=X.mg
 base:=X.base
 A:=X.A
 N:=N'
 s₀:=s
 H₀:=H
 env:=compEnvC sc cl C X.env
 outer:=X.stack
 stack:=X.stack
 ex:=fp
 fn:=λ_=>false
 calm:=X.calm
 pn:=pn
 xe:=λ_ _=>False
section
variable {X:Cx}{pins:List (Addr×Obj)}{σ:St}{H:Hp}{s:Shared}{h1:Heap}{N':List Str}{cap:List (Option Nat)}{sc:Scope}{cl:List (Str×Addr)}{fp:List Addr}{C D:Addr}
theorem Kh (I:Inv X pins σ H s)(S:jO X N' cap sc)(hc1:∀ x c,cl.lookup x=some c->X.env.cells.lookup x=some c)(hc2:∀ y∈sc.names,y.2 = .free->∃ c,cl.lookup y.1=some c)(hf:∀ b∈fp,qq X pins H b)(ho:∀ b∈fp,b<s.heap.objs.size)(hC:s.heap.objs.size<=C):(o7 X N' sc cl C s H fp (X.pn++pins)).Ok where
 mod:=I.ok.mod
 kind:=S.kind
 glob:=I.ok.glob
 blt:=I.ok.blt
 above:=hC
 inj:=λx y c e1 e2=>I.ok.inj x y c (hc1 x c e1) (hc1 y c e2)
 has:=λx hx=>by
  have key:∀ k,(relabel sc X.env).names.lookup x=some k->(k = .cell∨k = .free)->∃ c,cl.lookup x=some c:=λk e hk=>by
   obtain ⟨k',e',q⟩:=Uq e;have hm:=PySem.mem_of_lookup e';have hfree:k' = .free:=by
    rcases q with q|q
    ·rcases hk with z|z
     ·exact absurd (q.trans z) (S.nocell _ hm)
     ·exact q.trans z
    ·exact q.1
   exact hc2 (x,k') hm hfree
  rcases hx with e|e
  ·exact key _ e (.inl rfl)
  ·exact key _ e (.inr rfl)
 cab:=λx c hx _=>by cases hx
 hd:=I.ok.hd
 frames:=I.ok.frames
 stk:= .inl rfl
 exf:=λb hb=>⟨yL (yE (ho b hb) hC),λx c e=>(hf b hb).2.2.2.2.1 x c (hc1 x c e)⟩
 bs:=I.bs
 bsz:=yf I.ok.bsz I.sz
 noex:=λb o e hb=>by
  rcases (hf b hb).2.2.2.1 with z|z
  ·exact I.ok.noex b o e z
  ·exact absurd (yE (yS e) (yf I.ok.bsz z)) (yc _)
 exfs:=λb hb hz=>by
  rcases yK.mp (I.stkSub b hz) with e|e
  ·exact (hf b hb).2.1 e
  ·exact (hf b hb).2.2.1 e
 funs:=I.stack
 frf:=I.stkFree
 tbs:=λp hp=>I.base.tbls _ _ _ (I.ok.tbs p hp)
theorem Bj {m0:Str->Option Value}{o:Obj}(I:Inv X pins σ H s)(S:jO X N' cap sc)(hc1:∀ x c,cl.lookup x=some c->X.env.cells.lookup x=some c)(hc2:∀ y∈sc.names,y.2 = .free->∃ c,cl.lookup y.1=some c)(hf:∀ b∈fp,qq X pins H b)(ho:∀ b∈fp,b<s.heap.objs.size)(hD:s.heap.objs.size<=D)(hC:D<C)(hDo:h1.get? D=some o)(hoc:∀ v,o.data ≠ .cell v)(hns:h1.Ns C m0)(hk:∀ b o,s.heap.get? b=some o->h1.get? b=some o)(t:Nat):Inv (o7 X N' sc cl C s H fp (X.pn++pins)) [(D,o)] (k7 cap σ) H { s with heap:=h1,toks:=t }:=by
 have hCs:s.heap.objs.size<=C:=yf hD (uV hC);have lt_s:∀ b o,s.heap.get? b=some o->b≠C:=λb o e=>yL (yE (yS e) hCs);refine ⟨Kh I S hc1 hc2 hf ho hCs,rfl,I.bare,Un.kept hk,⟨m0,hns,λj x v e1 e2 e3=>?_⟩,λx c e=>?_,I.hok.fresh hCs,λx c e=>I.freeC x c (hc1 x c e),λp hp=>?_,I.hok.kept hk,?_⟩
 ·obtain ⟨i,hi,hσ⟩:∃ i,cap[j]?=some (some i)/\σ[i]?=some (some v):=by
   unfold k7 at e2;rw [yP] at e2;cases hc:cap[j]? with
   |none=>rw [hc] at e2;cases e2
   |some o' =>
    rw [hc] at e2;have e2':(o'.bind λi=>(σ[i]?).join)=some v:=Option.some.inj e2;cases o' with
    |none=>cases e2'
    |some i =>
     refine ⟨i,rfl,?_⟩;have e3':(σ[i]?).join=some v:=e2';cases hs:σ[i]? with
     |none=>rw [hs] at e3';cases e3'
     |some q=>rw [hs] at e3';exact congrArg some e3'
  obtain ⟨x',n1,n2,n3⟩:=S.cap j i hi;have e1':N'[j]?=some x:=e1;rw [n1] at e1';obtain rfl:x'=x:=Option.some.inj e1';have hkd:=S.free (x',.free) (PySem.mem_of_lookup n3) rfl;obtain ⟨m,_,hl⟩:=I.loc;obtain ⟨u,r,l⟩:=hl i x' v n2 hσ (by
   rcases hkd with z|z
   ·exact .inr (.inl z)
   ·exact .inr (.inr z))
  refine ⟨u,r,?_⟩;rcases l with ⟨l1,_⟩|⟨_,c,ec,hcell⟩
  ·rcases hkd with z|z
   ·exact absurd (l1.symm.trans z) (by simp)
   ·exact absurd (l1.symm.trans z) (by simp)
  ·obtain ⟨c',ec'⟩:=hc2 (x',.free) (PySem.mem_of_lookup n3) rfl;have q:=hc1 x' c' ec';rw [ec] at q;obtain rfl:c=c':=Option.some.inj q;refine .inr ⟨Up n3,c,ec',?_⟩;obtain ⟨oc,hoc',hd⟩:=hcell;exact ⟨oc,hk _ _ hoc',hd⟩
 ·obtain ⟨v,oc,hoc',hd⟩:=I.cell x c (hc1 x c e);exact ⟨v,oc,hk _ _ hoc',hd⟩
 ·rcases yo.mp hp with hp|hp
  ·obtain ⟨e,n,ne,nf,d⟩:=I.pin p hp;refine ⟨hk _ _ e,n,lt_s _ _ e,λhz=>?_,d⟩;rcases yK.mp (I.stkSub _ hz) with e'|e'
   ·exact ne e'
   ·exact nf e'
  ·have e:p=(D,o):=by simpa using hp
   subst e;refine ⟨hDo,I.hok.fresh hD,yL hC,λhz=>?_,hoc⟩;rcases yK.mp (I.stkSub _ hz) with e'|e'
   ·exact absurd (yE I.lt hD) (by rw [show X.env.locals=D from e'.symm];exact yc _)
   ·exact I.nofs hD e'
 ·unfold k7;rw [yZ];exact S.len
end
structure Wk (σ σ':St):Prop where
 len:σ.length=σ'.length
 at':∀(i:Nat) v,σ[i]?=some (some v)->σ'[i]?=some (some v)
theorem Wk.refl (σ:St):Wk σ σ:=⟨rfl,λ_ _ h=>h⟩
theorem Wk.set {σ':St}{i:Nat}(w:Wk σ σ')(h:σ[i]?=some none):Wk σ (σ'.set i o):=by
 refine ⟨by rw [yn];exact w.len,λj v e=>?_⟩;have ne:i≠j:=λz=>by rw [<- z,h] at e;cases e
 rw [yw ne];exact w.at' j v e
theorem Wk.one {i:Nat}(h:σ[i]?=some none):Wk σ (σ.set i o):=(Wk.refl σ).set h
def PTs (X:Cx)(ifs:List Expr)(t:TT):Prop :=
 ∀(pins:List (Addr×Obj))(s:Shared)(σ:St)(H:Hp)(Q:Bool->Hp->Prop),Inv X pins σ H s->t σ H Q ->
  wpAny (model X.prog X.w) X.A (forIn ifs true λc r=>if r=true then do let ok <- isTrue c X.env (eval c X.env);pure (ForInStep.yield ok) else pure (ForInStep.yield r)) (TP X pins σ Q) X.xe s
def tYes:TT:=λ_ H Q=>Q true H
theorem b9 :PTs X [] tYes:=λ_ _ _ H _ I h=>wpAny_tests_nil ⟨H,I,h⟩
theorem Dp {t:TT}(h:PT X c t):PTs X [c] t:=λpins s σ H Q I q=>wpAny_tests_one (h pins s σ H Q I q)
def JX (J:It)(g:TG)(tt:TT)(te:TE)(Q:VK)(σ0:St)(H1:Hp):Prop:=∃ W:Nat->Nat->List V->Hp->Prop,(∃ m,W 0 m [] H1)/\∀ i m ys H,W i m ys H->ys.length<=sizeLine /\
  ((J.stop i H/\∀ D,H D=none->Q (.ref D) (z6 H D (.lst ys))) ∨
   (J.go i H/\∀ x H',J.yld i H x H'->g x σ0 H' λσ2 H2=>Wk σ0 σ2/\tt σ2 H2 λb H3 =>
      if b=true then te σ2 H3 λv H4=>∃ m',m'<m/\W (i+1) m' (ys++[v]) H4 else ∃ m',m'<m/\W (i+1) m' ys H3))
def wQ (wi:TI)(g:TG)(tt:TT)(te:TE)(cap:List (Option Nat)):TE:=λσ H Q=>wi σ H λJ H1=>JX J g tt te Q (k7 cap σ) H1
section
variable {X:Cx}{pins:List (Addr×Obj)}{σ:St}{s₂:Shared}{N':List Str}{cap:List (Option Nat)}{sc:Scope}{cl:List (Str×Addr)}{fp:List Addr}
theorem WB {Q:VK}{H2:Hp}{it:Addr}{tn:Nat->Heap->Prop}{J:It}{E:Value->Shared->Prop}{RR:Value->Addr->Result->Shared->Prop}(S:jO X N' cap sc)(hc:X.calm=true)(hc1:∀ x c,cl.lookup x=some c->X.env.cells.lookup x=some c)(hc2:∀ y∈sc.names,y.2 = .free->∃ c,cl.lookup y.1=some c)(hg:∀ C pn,PG (o7 X N' sc cl C s₂ H2 fp pn) tg g)(ht:∀ C pn,PTs (o7 X N' sc cl C s₂ H2 fp pn) ifs tt)(he:∀ C pn,PE (o7 X N' sc cl C s₂ H2 fp pn) elt te)(I2:Inv X pins σ H2 s₂)(T:zv X.prog X.w X.K tg J fp it tn)(st2:tn 0 s₂.heap)(f2:∀ b∈fp,qq X pins H2 b)(W:Nat->Nat->List V->Hp->Prop)(w0:∃ m,W 0 m [] H2)(turn:∀ i m ys H,W i m ys H->ys.length<=sizeLine /\ ((J.stop i H/\∀ D,H D=none->Q (.ref D) (z6 H D (.lst ys)))∨(J.go i H/\∀ x H',J.yld i H x H'->g x (k7 cap σ) H' λσ2 H2=>Wk (k7 cap σ) σ2/\tt σ2 H2 λb H3 => if b=true then te σ2 H3 λv H4=>∃ m',m'<m/\W (i+1) m' (ys++[v]) H4 else ∃ m',m'<m/\W (i+1) m' ys H3)))(hRR:∀ D C H' s' m,Inv X pins σ H' s'->s'.heap.Ns C m->qq X pins H' C->Q (.ref D) H'->RR (.ref D) C (.ok .next) s'):wpAny (model X.prog X.w) X.A (newList []) (λacc s₃=>wpAny (model X.prog X.w) X.A (newFunctionEnv sc X.env.globals cl [] X.env.qual none .none (some X.env)) (λcenv s₄ => codeAny (model X.prog X.w) X.A (.compStart (.ListComp elt [⟨tg,iter,ifs,0⟩] sc pos) 0 (.ref it) acc { cenv with scope:=relabel sc X.env }) (RR acc cenv.locals) s₄) E s₃) E s₂:=by
  refine wpAny_newObj_type (wpAny_newFunctionEnv S.nocell (by intro y hy;simp at hy) (λh₁ hns₁ hsb₁=>?_) S.kind)
  dsimp only at hns₁ hsb₁ ⊢
  generalize hG:s₂.heap.push { cls:= .type "list",dict:=none,data:= .seq ([]:List Value).toArray }=G at hns₁ hsb₁ ⊢;have hC:G.objs.size=s₂.heap.objs.size+1:=by rw [<- hG,uS]
  have hDC:s₂.heap.objs.size<G.objs.size:=by rw [hC];exact uF _
  have old:∀ b o,s₂.heap.get? b=some o->h₁.get? b=some o:=λb o e =>
    hsb₁.extBut b o (yL (Nat.lt_trans (yS e) hDC)) (yX _ (hG▸yX _ e))
  have hacc:h₁.get? s₂.heap.objs.size=some (LCg.lst []):=hsb₁.extBut _ _ (yL hDC) (yX _ (hG▸yG _ rfl));have fl:∀ b∈fp,b<s₂.heap.objs.size:=λb hb=>by obtain ⟨o,e,_⟩:=T.obj _ _ st2 b hb;exact yS e
  have seqd:∀(us:List Value) v,(LCg.lst us).data ≠ .cell v:=λus v z=>by cases z
  have cellt:∀ x c,cl.lookup x=some c->c<s₂.heap.objs.size:=λx c e=>by obtain ⟨v,oc,ho,_⟩:=I2.cell x c (hc1 x c e);exact yS ho
  have pint:∀ p∈X.pn++pins,p.1<s₂.heap.objs.size:=λp hp=>yS (I2.pin p hp).1;have I0:Inv (o7 X N' sc cl G.objs.size s₂ H2 fp (X.pn++pins)) [(s₂.heap.objs.size,LCg.lst [])] (k7 cap σ) H2 { s₂ with heap:=h₁,toks:=s₂.toks+([]:List (Str×Value)).length } :=
    Bj I2 S hc1 hc2 f2 fl (yU _) hDC hacc (seqd []) hns₁ old _
  have stat:∀{H':Hp}{us:List Value},(∀ b∈fp,H' b=none)->∀ b∈fp,qq (o7 X N' sc cl G.objs.size s₂ H2 fp (X.pn++pins)) [(s₂.heap.objs.size,LCg.lst us)] H' b:=λ{H' us} hn b hb=>by
    obtain ⟨f0,f1,f2',f3,f4,f5⟩:=f2 b hb;refine ⟨hn b hb,yL (Nat.lt_trans (fl b hb) hDC),λhz=>?_,.inl hb,λx c e=>f4 x c (hc1 x c e),λp hp=>?_⟩
    · rcases yK.mp (I2.stkSub b hz) with e|e
      · exact f1 e
      · exact f2' e
    · rcases yo.mp hp with hp|hp
      · exact f5 p hp
      · have e:p=(s₂.heap.objs.size,LCg.lst us):=by simpa using hp
        rw [e];exact Ne.symm (yL (fl b hb))
  have loop:∀ s₃:Shared,s₃={ s₂ with heap:=h₁,toks:=s₂.toks+([]:List (Str×Value)).length } ->
      codeAny (model X.prog X.w) X.A (.compLoop (.ListComp elt [⟨tg,iter,ifs,0⟩] sc pos) 0 (.ref it) (.ref s₂.heap.objs.size) (compEnvC sc cl G.objs.size X.env)) (RR (.ref s₂.heap.objs.size) G.objs.size) s₃:=by
    rintro s₃ rfl;obtain ⟨m0,w0⟩:=w0;refine Kg
      (λn s'=>∃ i ys us H',Inv (o7 X N' sc cl G.objs.size s₂ H2 fp (X.pn++pins)) [(s₂.heap.objs.size,LCg.lst us)] (k7 cap σ) H' s'/\Vals ys us/\tn i s'.heap/\(∀ b∈fp,H' b=none)/\W i n ys H') ?_ m0
      ⟨0,[],[],H2,I0,.nil,T.keep _ _ _ st2 λb _ o e=>old b o e,λb hb=>(f2 b hb).1,w0⟩
    rintro n s3 ⟨i,ys,us,H3,I3,rv,st3,fr3,w3⟩;obtain ⟨hz,alt⟩:=turn i n ys H3 w3;rcases alt with ⟨stop,fin⟩|⟨go,step⟩
    · refine z9 (T.done (o7 X N' sc cl G.objs.size s₂ H2 fp (X.pn++pins)) rfl rfl rfl hc i _ s3 _ H3 _ I3 (stat fr3) st3 stop) λr s4 ⟨hr,I4⟩=>?_
      subst hr;obtain ⟨gD,nD,_,_,_⟩:=I4.pin (s₂.heap.objs.size,LCg.lst us) (yv _ (yN.mpr rfl));have nD':H3 s₂.heap.objs.size=none:=nD;have gD':s4.heap.get? s₂.heap.objs.size=some (LCg.lst us):=gD;have b4:Un (frs X.stack) fp H2 H3 s₂.heap s4.heap:=I4.base;have n2:H2 s₂.heap.objs.size=none:=I2.hok.fresh (yU _);have un:Un (frs X.stack) fp H2 (z6 H3 s₂.heap.objs.size (.lst ys)) s₂.heap s4.heap :=
        ⟨b4.keep,b4.slot,λb o e n hx=>by rw [z8 (yL (yS e))];exact b4.free b o e n hx,b4.there,
          λb xs e=>by rw [z8 (u7 e n2)];exact b4.tups b xs e,λb o u e=>by rw [z8 (u7 e n2)];exact b4.frzs b o u e,
          λb ps q e=>by rw [z8 (u7 e n2)];exact b4.tbls b ps q e⟩
      have hok:HOk X.prog X.w (z6 H3 s₂.heap.objs.size (.lst ys)) s4.heap:=λb u e=>by
        by_cases hb:b=s₂.heap.objs.size
        · subst hb
          rw [w9] at e;cases e;exact ⟨hz,us,us.length,rv,gD'⟩
        · rw [z8 hb] at e
          exact (I4.hok b u e).stay (λc v _ q=>q) (λc q=>by rw [z8 (u7 q nD')];exact q) (λc xs q=>by rw [z8 (u7 q nD')];exact q) λc _ _ q=>by rw [z8 (u7 q nD')];exact q
      have IF:Inv X pins σ (z6 H3 s₂.heap.objs.size (.lst ys)) s4:=I2.call' (ch:=fp) I4.os un hok I4.bare λb hb=>by
        obtain ⟨f0,f1,f2',f3,f4,f5⟩:=f2 b hb;exact ⟨f3,f1,f4,f5⟩
      obtain ⟨mF,hnF,_⟩:=I4.loc;refine hRR _ _ _ _ mF IF hnF (I2.fpOk (uV hDC) ?_) (fin _ nD');rw [z8 (Ne.symm (yL hDC))];exact I4.free
    · refine z9 (T.item (o7 X N' sc cl G.objs.size s₂ H2 fp (X.pn++pins)) rfl rfl rfl hc i _ s3 _ H3 _ I3 (stat fr3) st3 go) λr s4 ⟨u,hr,h4⟩=>?_
      subst hr;refine z9 h4 λ_ s5 ⟨x,H5,I5,r5,y5,st5,fr5⟩=>?_;have I5':=I5.pinned (stat fr5) (T.obj _ _ st5);refine z9 (hg G.objs.size (X.pn++pins) _ s5 _ H5 x u _ I5' r5 (step x H5 y5)) λ_ s6 ⟨σ6,H6,I6,wk,q6⟩=>?_;refine z9 (ht G.objs.size (X.pn++pins) _ s6 σ6 H6 _ I6 q6) λok s7 ⟨H7,I7,q7⟩=>?_;have back:∀{σ8:St}{H8:Hp}{s8:Shared}{us8:List Value},Inv (o7 X N' sc cl G.objs.size s₂ H2 fp (X.pn++pins)) ([(s₂.heap.objs.size,LCg.lst us8)]++wF fp s5.heap) σ8 H8 s8 ->
          tn (i+1) s8.heap/\∀ b∈fp,H8 b=none:=λ{σ8 H8 s8 us8} I8=>by
        refine ⟨T.keep _ _ _ st5 λb hb o e=>(I8.pin (b,o) (yv _ (yv _ (QN hb e)))).1,λb hb=>?_⟩;obtain ⟨o,e,d⟩:=T.obj _ _ st5 b hb;exact (I8.pin (b,o) (yv _ (yv _ (QN hb e)))).2.1
      cases ok with
      |false=>obtain ⟨m',hm,w7⟩:=q7;obtain ⟨t7,f7⟩:=back I7;exact ⟨m',hm,i+1,ys,us,H7,I7.unpinned.weak wk.len wk.at',rv,t7,f7,w7⟩
      |true =>
        refine z9 (he G.objs.size (X.pn++pins) _ s7 σ6 H7 _ I7 q7) λuv s8 ⟨v,H8,I8,r8,m',hm,w8⟩=>?_;obtain ⟨t8,f8⟩:=back I8;obtain ⟨gD,nD,lD,fD,_⟩:=I8.pin (s₂.heap.objs.size,LCg.lst us) (yv _ (uT _ (yN.mpr rfl)));have gD':s8.heap.get? s₂.heap.objs.size=some { cls:= .type "list",data:= .seq us.toArray us.length }:=gD;refine append_at (hsz:=by rw [yY,<- rv.length];exact hz) gD' λh9 hs9 hD9=>?_;have I8a:Inv (o7 X N' sc cl G.objs.size s₂ H2 fp (X.pn++pins)) [] σ6 H8 s8:=I8.pins_of λp hp=>nomatch hp;have I9:Inv (o7 X N' sc cl G.objs.size s₂ H2 fp (X.pn++pins)) [] σ6 H8 { s8 with heap:=h9,toks:=s8.toks } :=
          I8a.turned (it:=s₂.heap.objs.size) (λb o hb e=>hs9.extBut b o hb e) nD lD (.inr (yU _)) (λx c e=>yL (cellt x c e)) λp hp=>by
            rw [yq] at hp;exact yL (pint p hp)
        have I10:Inv (o7 X N' sc cl G.objs.size s₂ H2 fp (X.pn++pins)) [(s₂.heap.objs.size,LCg.lst (us++[uv]))] σ6 H8 { s8 with heap:=h9,toks:=s8.toks }:=I9.pins_of λp hp=>by
          have e:p=(s₂.heap.objs.size,LCg.lst (us++[uv])):=by simpa using hp
          subst e;exact ⟨hD9.trans (congrArg some (LCg.lst_snoc us uv)),nD,lD,fD,seqd _⟩
        refine ⟨m',hm,i+1,ys++[v],us++[uv],H8,I10.weak wk.len wk.at',rv.append (.cons r8 .nil),T.keep _ _ _ t8 λb hb o e=>hs9.extBut b o (yL (fl b hb)) e,f8,w8⟩
  have st1:tn 0 h₁:=T.keep _ _ _ st2 λb _ o e=>old b o e;exact codeAny_compStart_list (loop _ rfl) (T.self _ 0 _ _ _ st1 (loop _ rfl))
theorem m8 (S:jO X N' cap sc)(hc:X.calm=true)(hi:PI X tg iter wi)(hg:∀ cl C s H fp pn,PG (o7 X N' sc cl C s H fp pn) tg g)(ht:∀ cl C s H fp pn,PTs (o7 X N' sc cl C s H fp pn) ifs tt)(he:∀ cl C s H fp pn,PE (o7 X N' sc cl C s H fp pn) elt te)(hs:∀ x,foldedSetIterable iter X.env x=pure x:=by intro _;rfl):PE X (.ListComp elt [⟨tg,iter,ifs,0⟩] sc pos) (wQ wi g tt te cap):=by intro pins s σ H Q I h;rw [eval_ListComp];obtain ⟨cl,hcl,hc1,hc2⟩:=Wz (scope:=sc) (env:=X.env) λy hy e=>I.ok.has y.1 (S.free y hy e);refine wpAny_comprehension_free (use:=none) rfl hs hcl S.kind S.names (z9 (hi pins s σ H _ I h) λv s1 h1=>z9 h1 λitv s2 h2=>?_);obtain ⟨it,fp,tn,J,H2,e,I2,T,st2,f2,W,w0,turn⟩:=h2;subst e;refine WB (RR:=λacc C=>compPost (model X.prog X.w) X.A X.xe none (EP X pins σ Q) acc C) S hc hc1 hc2 (λC pn=>hg cl C s2 H2 fp pn) (λC pn=>ht cl C s2 H2 fp pn) (λC pn=>he cl C s2 H2 fp pn) I2 T st2 f2 W w0 turn ?_;intro D C H' s' m I' hn F q;obtain ⟨f0,f1,f2',f3,f4,f5⟩:=F;exact ⟨m,hn,λh' hs'=>⟨.ref D,H',I'.turned (t':=s'.toks) (λb o hb e=>hs'.extBut b o hb e) f0 f1 f3 f4 f5,rfl,q⟩⟩
theorem zk {i:Nat}{x:Str}{spos pos':Pos}(S:jO X N' cap sc)(hc:X.calm=true)(hN:X.N.Nodup)(hx:X.N[i]?=some x)(hk:X.env.scope.names.lookup x=some .local)(hi:PI X tg iter wi)
  (hg:∀ cl C s H fp pn,PG (o7 X N' sc cl C s H fp pn) tg g) (ht:∀ cl C s H fp pn,PTs (o7 X N' sc cl C s H fp pn) ifs tt) (he:∀ cl C s H fp pn,PE (o7 X N' sc cl C s H fp pn) elt te)
  (hsw:swapsWith (.ListComp elt [⟨tg,iter,ifs,0⟩] sc pos) (some (.Name x pos')) spos.line X.env=pure true:=by rfl)
  (hs:∀ x,foldedSetIterable iter X.env x=pure x:=by intro _;rfl):PS X (.Assign [.Name x pos'] (.ListComp elt [⟨tg,iter,ifs,0⟩] sc pos) spos) (xU (wQ wi g tt te cap) (e7 i)):=by
 intro pins s σ H D I h;rw [exec_Assign_Name_used _ _ _ _ hsw];refine yW (wpAny_standAt (yW ?_));show wpAny _ X.A (do let _ <- comprehension (.ListComp elt [⟨tg,iter,ifs,0⟩] sc pos) sc X.env _ (newList []) false (eval iter X.env) (some (assign (.Name x pos') X.env))) _ _ s;obtain ⟨cl,hcl,hc1,hc2⟩:=Wz (scope:=sc) (env:=X.env) λy hy e=>I.ok.has y.1 (S.free y hy e);refine yW (z9 (wpAny_comprehension_free (use:=some (assign (.Name x pos') X.env)) (Q:=λ_ s'=>SP X pins D .next s') rfl hs hcl S.kind S.names
  (z9 (hi pins s σ H _ I h) λv s1 h1=>z9 h1 λitv s2 h2=>?_)) λ_ s' hq=>yJ (yJ hq))
 obtain ⟨it,fp,tn,J,H2,e,I2,T,st2,f2,W,w0,turn⟩:=h2;subst e;refine WB (Q:=λv H1=>e7 i v σ H1 D.nx) (RR:=λacc C=>compPost (model X.prog X.w) X.A X.xe (some (assign (.Name x pos') X.env)) (λ_ s'=>SP X pins D .next s') acc C) S hc hc1 hc2 (λC pn=>hg cl C s2 H2 fp pn) (λC pn=>ht cl C s2 H2 fp pn) (λC pn=>he cl C s2 H2 fp pn) I2 T st2 f2 W w0 turn ?_;intro E C H' s' m I' hn F q;obtain ⟨f0,f1,f2',f3,f4,f5⟩:=F;show wpAny _ X.A (assign (.Name x pos') X.env (.ref E)) _ _ _;refine wpAny_assign_Name (UG I' hN hx (.inl hk) (v:= .ref E) rfl (λs'' I'' ch=>?_) (.inr hk));obtain ⟨a,sb,ha⟩:=ch;have nC:C≠a:=by
  rcases ha with z|z
  ·rw [z];exact f1
  ·exact Ne.symm (f4 x a z)
 exact ⟨m,hn.sameBut sb nC,λh' hs'=>⟨_,H',I''.turned (t':=s''.toks) (λb o hb e=>hs'.extBut b o hb e) f0 f1 f3 f4 f5,q⟩⟩
end
section
variable {g:TG}{tt:TT}{te:TE}{Q:VK}{H:Hp}{σ0:St}
theorem Xu {a:Addr}{xs:List V}(Pv:Nat->List V->Hp->Prop)(h0:Pv 0 [] H)(hz:∀ i ys H,i<=xs.length->Pv i ys H->ys.length<=sizeLine)(hl:∀ i ys H,i<=xs.length->Pv i ys H->SqL K H a xs)(hs:∀ i x ys H (R:List V->Hp->Prop),xs[i]?=some x->Pv i ys H->(∀ ys' H',Pv (i+1) ys' H'->R ys' H')->g x σ0 H λσ2 H2=>Wk σ0 σ2/\tt σ2 H2 λb H3=>if b=true then te σ2 H3 λv H4=>R (ys++[v]) H4 else R ys H3)(hd:∀ ys H,Pv xs.length ys H->∀ D,H D=none->Q (.ref D) (z6 H D (.lst ys))):JX (Itl K a) g tt te Q σ0 H:=by
 refine ⟨λi m ys H=>m=xs.length-i/\i<=xs.length/\Pv i ys H,⟨xs.length,by simp,ye _,h0⟩,?_⟩;rintro i m ys H ⟨rfl,hi,p⟩;have q:=hl i ys H hi p;refine ⟨hz i ys H hi p,?_⟩;by_cases hlt:i<xs.length
 ·refine .inr ⟨⟨xs,xs[i],q,by simp [hlt]⟩,λx H' y=>?_⟩;obtain ⟨e,y⟩:=y;subst e;exact hs i x ys _ (λys' H'=>∃ m',m'<xs.length-i/\m'=xs.length-(i+1)/\i+1<=xs.length/\Pv (i+1) ys' H') (y xs q) p λys' H' p'=>⟨xs.length-(i+1),by omega,rfl,hlt,p'⟩
 ·have e:i=xs.length:=by omega
  subst e;exact .inl ⟨⟨xs,q,yU _⟩,hd ys H p⟩
end
def tyB (T c:String):Option Bool:=if (Value.type T==Value.type c)=true then some true else if PySem.W.kitMeta c=true then (fastBuiltinMro T).map (·.contains (Value.type c)) else none
theorem BI {T c:String}{b:Bool}(h:tyB T c=some b):PySem.W.kitOne K (.type T) (.type c)=some b:=h
theorem Ld:tyB "int" "int"=some true:=by decide +kernel
theorem Lc:tyB "int" "bool"=some false:=by decide +kernel
theorem Le:tyB "list" "list"=some true:=by decide +kernel
theorem Lf:tyB "str" "str"=some true:=by decide +kernel
theorem qE:bootBuiltins "isinstance"=some (.builtin "isinstance"):=by decide +kernel
theorem xW:bootBuiltins "list"=some (.type "list"):=by decide +kernel
theorem Wl:bootBuiltins "int"=some (.type "int"):=by decide +kernel
theorem Wj:bootBuiltins "bool"=some (.type "bool"):=by decide +kernel
theorem Wn:bootBuiltins "str"=some (.type "str"):=by decide +kernel
theorem zx:bootBuiltins "all"=some (.builtin "all"):=by decide +kernel
theorem Qg:bootBuiltins "sum"=some (.builtin "sum"):=by decide +kernel
theorem Wm:bootBuiltins "min"=some (.builtin "min"):=by decide +kernel
theorem GG:bootBuiltins "enumerate"=some (.type "enumerate"):=by decide +kernel
theorem GK:bootBuiltins "zip"=some (.type "zip"):=by decide +kernel
section
variable {X:Cx}
theorem GP:CallR X (.builtin "isinstance") (λxs H Q=>∃ x n T b,xs=[x,.ty n]/\qA X.K H x (.type T)/\tyB T n=some b/\Q (.bl b) H):=by intro pins s σ H xs us Q I r h;obtain ⟨x,n,T,b,rfl,ty,e,q⟩:=h;obtain ⟨u,w',rfl,rx,rw'⟩:=Gb r;obtain rfl:w'=Value.type n:=rw';exact Bp I rx ty (BI e) λtk=>⟨.bl b,H,I.tok _,rfl,q⟩
theorem Gc:∀{bs:List Bool}{us:List Value}{i:Nat}{u:Value},Vals (bs.map V.bl) us->us[i]?=some u->u = .bool (bs.getD i false)
 |[],_,_,_,.nil,e=>by simp at e
 |b::_,_,0,_,.cons r _,e=>by
  have e':=Option.some.inj e;subst e';exact r
 |_::bs,_,i+1,u,.cons _ t,e=>by
  have q:=Gc (i:=i) (u:=u) t (by simpa using e);simpa using q
theorem Gs:∀(bs:List Bool),(List.range bs.length).all (λi=>bs.getD i false)=bs.all id:=by
 intro bs;rw [Bool.eq_iff_iff,uU,uU];constructor
 ·intro h b hb;obtain ⟨i,hi,e⟩:=uN hb;have q:=h i (ya.mpr hi);rw [yF,yV hi] at q;rw [<- e];exact q
 ·intro h i hi;have hi':=ya.mp hi;rw [yF,yV hi'];exact h _ (yu hi')
theorem GN (hc:X.calm=true):CallR X (.builtin "all") (λxs H Q=>∃ (a:Addr) (bs:List Bool),xs=[.ref a]/\SqL X.K H a (bs.map V.bl)/\Q (.bl (bs.all id)) H):=by
 intro pins s σ H xs us Q I r h;obtain ⟨a,bs,rfl,hq,q⟩:=h;obtain ⟨u,rfl,ru⟩:=qY r;obtain rfl:u=Value.ref a:=ru;obtain ⟨its,rv,p,hz⟩:=I.list hq;have hlt:a<s.heap.objs.size:=by obtain ⟨_,_,e,_⟩:=p;exact yS e
 have hl:s.heap.IsList a its.toArray:=p.isList;refine call_all_walk (wpAny_pyIter_list hl ?_);refine ⟨s.heap.objs.size,_,_,_,_,_,λi=>bs.getD i false,rfl,Walks.list (A:=X.A.in1) (I.ok.hd hc) s.heap.objs.size a (yL hlt) its.toArray,⟨⟨_,yG _ rfl,rfl,rfl⟩,hl.push _⟩,?_,λh' tk k=>?_⟩
 ·intro i v s' Q' E' hP hQ;have e:=Gc rv (by simpa using hP);subst e;exact wpAny_truthy_bool hQ
 ·have hn:its.toArray.size=bs.length:=by have e:=rv.length;rw [yZ] at e;rw [yY];exact e.symm
  rw [hn,Gs];refine ⟨.bl (bs.all id),H,I.kept (t':=tk) (λb o e=>k b o (λhm=>?_) (yX _ e)),rfl,q⟩;have e':b=s.heap.objs.size:=by simpa using hm
  exact absurd (yS e) (by rw [e'];exact yc _)
theorem JU:∀{ns:List Int}{us:List Value},Vals (ns.map V.int) us->IntsAre us ns
 |[],_,.nil=> .nil
 |n::_,_,.cons ⟨t,e⟩ r=>by
  subst e;exact .cons n t (JU r)
theorem Wq (hc:X.calm=true):CallR X (.builtin "sum") (λxs H Q=>∃ (a:Addr) (ns:List Int),xs=[.ref a]/\SqL X.K H a (ns.map V.int)/\Q (.int ns.sum) H):=by
 intro pins s σ H xs us Q I r h;obtain ⟨a,ns,rfl,hq,q⟩:=h;obtain ⟨u,rfl,ru⟩:=qY r;obtain rfl:u=Value.ref a:=ru;obtain ⟨its,rv,p,hz⟩:=I.list hq;have hi:=JU rv;have hl:s.heap.IsList a its.toArray:=p.isList;obtain ⟨xs,ex⟩:=hi.allInts.items;have e2:(numsOf its.toArray.toList).sum=ns.sum:=by rw [show its.toArray.toList=its from rfl,hi.numsOf]
 rw [ex] at hl e2;rw [nums_intItems] at e2;refine sum_intListG (I.ok.hd hc) hl λh' tk t' k=>⟨.int ns.sum,H,I.kept (t':=tk) k,?_,q⟩;rw [preSum_eq,List.take_of_length_le (by simp),e2];exact ⟨_,rfl⟩
def vH (_i j:Int):Prop:=0<j/\j.natAbs.log2<9000
theorem YD:OpR X (binaryOp .FloorDiv) (rI vH λi j=> .int (i / j)):=opI λi j _ _ _ _ _ hc q=>by
 have e:i.fdiv j=i / j:=Int.fdiv_eq_ediv_of_nonneg i (Int.le_of_lt hc.1);exact floordiv_int (Ne.symm (Int.ne_of_lt hc.1)) (by rw [e];exact q) (.inl (PyProof.noPylong_of_log2 hc.2))
def vI (i j:Int):Prop:=Builtin.Int.intBits i<=2 ^ 20/\Builtin.Int.intBits j<=2 ^ 20
theorem QR:OpR X (binaryOp .Mult) (rI vI λi j=> .int (i*j)):=opI λ_ _ _ _ _ _ _ hc q=>mul_int q (IntMulOk.of_bits hc.1 hc.2)
def Its (lo c:Int)(n:Nat):It:=⟨λi _=>i<n,λi H x H'=>H'=H/\x = .int (lo+i*c),λi _=>n<=i⟩
theorem MW {P:Program}{w:World}(it:Addr)(lo c:Int)(n:Nat):zv P w K tg (Its lo c n) [it] it (λi h=>IsRangeIter h it (lo+(i:Nat)*c) ((n:Int)-(i:Nat)) c) where
 mem:=by simp
 obj:=λi h st b hb=>by
  have e:b=it:=by simpa using hb
  subst e;exact ⟨_,st,λv z=>by
   have z':Data.fields _=Data.cell v:=z;cases z'⟩
 keep:=λi h h' st k=>k it (by simp) _ st
 item:=by intro X hP hw hK hc i pins s σ H E I hf st hg;subst hP hw hK;obtain ⟨f0,f1,f2,f3,f4,f5⟩:=hf it (by simp);have W:=Walks.range (prog:=X.prog) (w:=X.w) (I.ok.hd hc) it lo c n;refine W.item i s _ _ hg st λv h' tk hv st' kk=>?_;obtain ⟨t,rfl⟩:=hv;have I1:Inv X pins σ H { s with heap:=h',toks:=tk }:=I.turned (λb o hb e=>kk b o (by simpa using hb) e) f0 f1 f3 f4 f5;exact ⟨_,rfl,XI (s:={ s with heap:=h',toks:=tk }) (n:="range_iterator") st' rfl rfl (by decide) ⟨.int (lo+i*c),H,I1,⟨t,rfl⟩,⟨rfl,rfl⟩,st',λb hb=>(hf b hb).1⟩⟩
 done:=by intro X hP hw hK hc i pins s σ H E I hf st hg;subst hP hw hK;obtain ⟨f0,f1,f2,f3,f4,f5⟩:=hf it (by simp);exact wpAny_pyNext_range_end (I.ok.hd hc) st (by have:n<=i:=hg;omega) λh' eb=>⟨rfl,I.turned (t':=s.toks) (λb o hb e=>eb b o hb e) f0 f1 f3 f4 f5⟩
 self:=λ_ _ _ _ _ st h=>wpAny_pyIter_rangeiter st h
def zn (i j c:Int):Nat:=(Builtin.Range.rangeSize i j c).toNat
def iRng3 (ta:TA):TI:=λσ H R=>ta σ H λvs H1=>∃ i j c:Int,vs=[.int i,.int j,.int c]/\(0<c/\c<1073741824)/\0<=Builtin.Range.rangeSize i j c/\Builtin.Range.small i j c=true/\R (Its i c (zn i j c)) H1
variable {tg:Expr}
theorem Dc {a b:Expr}{ta:TA}{p:Pos}(hg:Gl X "range")(hm:X.mg "range"=none)(ha:PA X [a,b,c] ta)(hs:starEach [a,b,c] X.env=[(false,eval a X.env),(false,eval b X.env),(false,eval c X.env)]:=by rfl)(hs2:starEach [b,c] X.env=[(false,eval b X.env),(false,eval c X.env)]:=by rfl):PI X tg (.Call (.Name "range" p) [a,b,c] [] pos) (iRng3 ta):=by
 intro pins s σ H R I h;refine Call_ (ze I hg hm boot_range (PyProof.Rows.callWith_type1 (z9 (ha pos pins s σ H _ I h) λus s1 ⟨vs,H1,I1,r1,q1⟩=>?_) (by rw [hs,hs2]) (by rw [hs2];rfl)));obtain ⟨i,j,c,e,⟨q1,q2⟩,q3,q4,q⟩:=q1;subst e;cases r1 with
 |cons r rr =>
  cases rr with
  |cons r' rr =>
   cases rr with
   |cons r'' rr =>
    cases rr;obtain ⟨t,rfl⟩:=r;obtain ⟨t',rfl⟩:=r';obtain ⟨t'',rfl⟩:=r'';refine call_range_3 (Ne.symm (Int.ne_of_lt q1)) ?_ (.inl (PyProof.noPylong_small (by omega)));refine wpAny_pyIter_range (IsRange.new ..) q4 ?_;have I2:Inv X pins σ H1 { s1 with heap:=s1.heap.push { cls:= .type "range",data:= .fields #[.int i t,.int j t',.int c t''] },toks:=s1.toks }:=I1.kept λb o e=>yX _ e;refine ⟨(s1.heap.push { cls:= .type "range",data:= .fields #[.int i t,.int j t',.int c t''] }).objs.size,[(s1.heap.push { cls:= .type "range",data:= .fields #[.int i t,.int j t',.int c t''] }).objs.size],_,_,H1,rfl,
     I2.kept (t':=s1.toks) λb o e=>yX _ e,MW _ i c (zn i j c),?_,λb hb=>?_,q⟩
    ·have e1:i+((0:Nat):Int)*c=i:=by simp
     have e2:((zn i j c:Nat):Int)-((0:Nat):Int)=Builtin.Range.rangeSize i j c:=by unfold zn;omega
     show IsRangeIter _ _ (i+((0:Nat):Int)*c) (((zn i j c:Nat):Int)-((0:Nat):Int)) c;rw [e1,e2];exact yG _ rfl
    ·have e:b=(s1.heap.push { cls:= .type "range",data:= .fields #[.int i t,.int j t',.int c t''] }).objs.size:=by simpa using hb
     subst e;exact I2.fpOk (yU _) (I2.hok.fresh (yU _))
end
theorem KH {lo c:Int}{n:Nat}{tb:TS}{D:qO}{H:Hp}(Pv:Nat->St->Hp->Prop)(h0:Pv 0 σ H)(hs:∀ i σ H,i<n->Pv i σ H->g (.int (lo+i*c)) σ H λσ2 H2=>tb { D with nx:=Pv (i+1),ct:=Pv (i+1),bk:=D.nx } σ2 H2)(hd:∀ σ H,Pv n σ H->D.nx σ H):∃ W:Nat->Nat->St->Hp->Prop,(∃ m,W 0 m σ H)/\∀ i m σ H,W i m σ H -> ((Its lo c n).stop i H/\D.nx σ H)∨((Its lo c n).go i H/\∃ N:St->Hp->Prop,(∀ σ' H',N σ' H'->∃ m',m'<m/\W (i+1) m' σ' H')/\∀ x H',(Its lo c n).yld i H x H'->g x σ H' λσ2 H2=>tb { D with nx:=N,ct:=N,bk:=D.nx } σ2 H2):=by
 refine ⟨λi m σ H=>m=n-i/\i<=n/\Pv i σ H,⟨n,by simp,ye _,h0⟩,?_⟩;rintro i m σ H ⟨rfl,hi,p⟩;by_cases hlt:i<n
 ·refine .inr ⟨hlt,Pv (i+1),λσ' H' p'=>⟨n-(i+1),by omega,rfl,hlt,p'⟩,λx H' y=>?_⟩;obtain ⟨e,y⟩:=y;subst e y;exact hs i σ _ hlt p
 ·have e:i=n:=by omega
  subst e;exact .inl ⟨yU _,hd σ H p⟩
section
open PySem.SeqAt
theorem qW {α β:Type}{F:α->β->Prop}:∀{l₁:List α}{l₂:List β},Paired F l₁ l₂->∀(j:Nat)(h1:j<l₁.length)(h2:j<l₂.length),F l₁[j] l₂[j]
 |_,_,.cons r _,0,_,_=>r
 |_,_,.cons _ t,j+1,h1,h2=>qW t j (by simpa using h1) (by simpa using h2)
variable {X:Cx}
end
structure Fn (P:Program)(w:World)(K:Fg)(mg:Str->Option Value)(base:Heap)(k:Nat)(x:Str)(ps:List Str)(sp:Sp):Prop where
 ex:∃ f fd,FnOk P w K mg base j8 k f fd ps sp/\mg x=some (.ref f)/\PySem.W.keepIn K (.ref f)=true/\Binds K fd ps []
section
variable {X:Cx}{k j:Nat}{x:Str}{ps:List Str}{sp:Sp}{e:Expr}{es:List Expr}{t:TA}{p pos:Pos}
theorem i4 (c:Fn X.prog X.w X.K X.mg X.base k x ps sp)(hr:Room j X.A)(hj:k<=j)(hg:Gl X x)(ha:PA X (e::es) t)(hdb:(x==("__debug__":Str))=false:=by decide)(he:starEach (e::es) X.env=(false,eval e X.env)::starEach es X.env:=by rfl)(hpl:(backTo pos (starEach es X.env)).any (·.1)=false:=by rfl):PE X (.Call (.Name x p) (e::es) [] pos) (xV sp [] E0 t):=by obtain ⟨f,fd,F,hm,hk,hb⟩:=c.ex;exact CM F (hr.mono hj) hg hm hk hb .nil QT ha hdb he hpl
end
end L2
namespace L2
open PySem PySem.Spec PyProof.Rows
variable{p pos px tp:Pos}{a b:Expr}{P:Program}{w:World}{K:Fg}{elts:List Expr}{x1:Nat}{ta:TA}{x:Str}
section
variable {X:Cx}{pins:List (Addr×Obj)}{σ:St}{H:Hp}{s:Shared}{h':Heap}
theorem Inv.turnedL {t':Nat}{ch:List Addr}(I:Inv X pins σ H s)(k:∀ b o,b∉ch->s.heap.get? b=some o->h'.get? b=some o)(hf:∀ b∈ch,qq X pins H b):Inv X pins σ H { s with heap:=h',toks:=t' }:=by
 have nit:∀ b u,H b=some u->b∉ch:=λb u e z=>by rw [(hf b z).1] at e;cases e
 have nL:X.env.locals∉ch:=λz=>(hf _ z).2.1 rfl;refine I.step (g':=s.gens) (d':=s.drawn) (ch:=ch) (λb hb=>?_) (λb o _ _ hc e _=>k b o hc e) (λb o _ _ hc e _=>⟨o.slots,k b o hc e⟩) (λ_ _ _ _ n=>n)
  (λb o hc e=>⟨o,k b o hc e⟩) (λ_ _ e=>e) (λ_ _ _ e=>e) (λ_ _ _ e=>e) (λm hm=>?_) (λb u e=>?_) I.bare
 ·obtain ⟨f0,f1,f2,f3,f4,f5⟩:=hf b hb;exact ⟨f3,f1,f4,f5⟩
 ·obtain ⟨o,es,ep,ho,r⟩:=hm;exact ⟨o,es,ep,k _ o nL ho,r⟩
 ·refine (I.hok b u e).stay (λc v hc q=>k c v ?_ q) (λ_ q=>q) (λ_ _ q=>q) λ_ _ _ q=>q;rcases hc with z|z
  ·rw [z];exact nit b u e
  ·exact nit c _ z
theorem Inv.track {p:Addr}{o:HO}(I:Inv X pins σ H s)(hp:X.s₀.heap.objs.size<=p)(hn:H p=none)(nL:p≠X.env.locals)(nC:∀ x c,X.env.cells.lookup x=some c->c≠p)(nP:∀ q∈X.pn++pins,q.1≠p)(new:ObjOk X.prog X.w (z6 H p o) s.heap p o):Inv X pins σ (z6 H p o) s:=by
 refine ⟨I.ok,I.os,I.bare,⟨I.base.keep,I.base.slot,λb ob e n hx=>?_,I.base.there,λb xs e=>?_,λb ob u e=>?_,λb ps q e=>?_⟩,I.loc,I.cell,?_,λx c e=>?_,λq hq=>?_,λb u e=>?_,I.len⟩
 ·rw [z8 (yL (yE (yS e) hp))];exact I.base.free b ob e n hx
 ·have z:=I.base.tups b xs e;rw [z8 (u7 z hn)];exact z
 ·have z:=I.base.frzs b ob u e;rw [z8 (u7 z hn)];exact z
 ·have z:=I.base.tbls b ps q e;rw [z8 (u7 z hn)];exact z
 ·rw [z8 (Ne.symm nL)];exact I.free
 ·rw [z8 (nC x c e)];exact I.freeC x c e
 ·obtain ⟨a1,a2,a3⟩:=I.pin q hq;exact ⟨a1,by rw [z8 (nP q hq)];exact a2,a3⟩
 ·by_cases hb:b=p
  ·subst hb;rw [w9] at e;cases e;exact new
  ·rw [z8 hb] at e;exact (I.hok b u e).stay (λc v _ q=>q) (λc q=>by rw [z8 (u7 q hn)];exact q) (λc xs q=>by rw [z8 (u7 q hn)];exact q) λc _ _ q=>by rw [z8 (u7 q hn)];exact q
theorem Inv.seq_ne {a b:Addr}{xs:List V}(I:Inv X pins σ H s)(hq:SqL X.K H a xs)(hf:qq X pins H b):a≠b:=by
 rintro rfl;rcases hq with (h|⟨o,h⟩)|⟨o,its,n,hk,_⟩
 ·rw [hf.1] at h;cases h
 ·rw [hf.1] at h;cases h
 ·have e:=I.ok.mod.kin a o hk;rcases hf.2.2.2.1 with z|z
  ·exact I.ok.noex a o e z
  ·exact absurd (yE (yS e) (yf I.ok.bsz z)) (yc _)
end
def Ite (K:Fg)(a:Addr):It :=
 ⟨λi H=>∃ xs x,SqL K H a xs/\xs[i]?=some x,λi H x H'=>∃ p y,H p=none/\x = .ref p/\H'=z6 H p (.tup [.int i,y])/\∀ xs,SqL K H a xs->xs[i]?=some y,λi H=>∃ xs,SqL K H a xs/\xs.length<=i⟩
theorem MT (a e it:Addr)(hne:e≠it):zv P w K (.Tuple elts x1 tp) (Ite K a) [e,it] e (λi h=>(∃ old,IsEnum h e it ((i:Nat):Int) old)/\h.IsListIter it a i) where
 mem:=by simp
 obj:=λi h st b hb=>by
  obtain ⟨⟨old,he⟩,hit⟩:=st;rcases yK.mp hb with rfl|hb
  ·exact ⟨_,he,λv z=>by
    have z':Data.fields _=Data.cell v:=z;cases z'⟩
  ·have eb:b=it:=by simpa using hb
   subst eb;obtain ⟨o,e1,c,d⟩:=hit;exact ⟨o,e1,λv z=>by rw [d] at z;cases z⟩
 keep:=λi h h' st k=>by
  obtain ⟨⟨old,he⟩,hit⟩:=st;exact ⟨⟨old,k e (by simp) _ he⟩,hit.at λo q=>k it (by simp) o q⟩
 item:=by
  intro X hP hw hK hc i pins s σ H E I hf st hg;subst hP hw hK;obtain ⟨⟨old,he⟩,hit⟩:=st;obtain ⟨xs,x,hq,hx⟩:=hg;obtain ⟨its,rv,p,hz⟩:=I.list hq;obtain ⟨u,hu,ru⟩:=rv.get hx;have fz:qq X pins H s.heap.objs.size:=I.fpOk (yU _) (I.hok.fresh (yU _));have lte:e<s.heap.objs.size:=yS he;have lti:it<s.heap.objs.size:=by obtain ⟨o,q,_⟩:=hit;exact yS q
  refine wpAny_pyNext_enum_item he hit p.isList (x:=u) (by simpa using hu) hne λh1 heo hit1 ht1 hz1 hk1=>⟨_,rfl,?_⟩;refine wpAny_letOwnedTupleGo_enum heo λh2 he2 hs2=>?_;have hs2':Heap.SameBut e h1 h2:=hs2;have I2:Inv X pins σ H { s with heap:=h2,toks:=s.toks+1 }:=I.turnedL (ch:=[e,it]) (λb o hb q=>by
   have n1:b≠e:=λz=>hb (by rw [z];simp);have n2:b≠it:=λz=>hb (by rw [z];simp);exact hs2'.extBut b o n1 (hk1 b o n1 n2 q)) hf
  obtain ⟨f0,f1,f2,f3,f4,f5⟩:=fz;have tup:h2.get? s.heap.objs.size=some { cls:= .type "tuple",data:= .seq #[.int i s.toks,u] }:=hs2'.extBut _ _ (Ne.symm (yL lte)) ht1;refine ⟨.ref s.heap.objs.size,z6 H s.heap.objs.size (.tup [.int i,x]),I2.track I.sz f0 f1 f4 f5 ?_,rfl,⟨s.heap.objs.size,x,f0,rfl,rfl,λys hy=>by rw [I.list_inj hy hq];exact hx⟩,⟨⟨u,?_⟩,?_⟩,λb hb=>?_⟩
  ·exact ⟨by show 2<=sizeLine;decide,[.int i s.toks,u],.cons ⟨_,rfl⟩ (.cons ru .nil),⟨_,tup,rfl,_,rfl⟩⟩
  ·have ei:(((i+1:Nat):Int))=(i:Int)+1:=by omega
   rw [ei];exact he2
  ·exact hit1.at λo q=>hs2'.extBut it o (Ne.symm hne) q
  ·have nb:b≠s.heap.objs.size:=by
    rcases yK.mp hb with rfl|hb
    ·exact yL lte
    ·have eb:b=it:=by simpa using hb
     rw [eb];exact yL lti
   rw [z8 nb];exact (hf b hb).1
 done:=by intro X hP hw hK hc i pins s σ H E I hf st hg;subst hP hw hK;obtain ⟨⟨old,he⟩,hit⟩:=st;obtain ⟨xs,hq,hx⟩:=hg;obtain ⟨its,rv,p,hz⟩:=I.list hq;have hl:=rv.length;exact wpAny_pyNext_enum_end (I.ok.hd hc) he hit p.isList (by simp;omega) λh1 eb=>⟨rfl,I.turnedL (t':=s.toks) (ch:=[e,it]) (λb o hb q=>eb b o (λz=>hb (by rw [z];simp)) q) hf⟩
 self:=λ_ _ _ _ _ st h=>by
  obtain ⟨⟨old,he⟩,hit⟩:=st;exact wpAny_pyIter_enum he h
section
variable {X:Cx}{elts:List Expr}{x1:Nat}{tp:Pos}
def XJ (K:Fg)(ta:TA):TI:=λσ H R=>ta σ H λvs H1=>∃ a,vs=[.ref a]/\(∃ xs,SqL K H1 a xs)/\R (Ite K a) H1
theorem CZ (hg:Gl X "enumerate")(hm:X.mg "enumerate"=none)(ha:PA X [a] ta)(hs:starEach [a] X.env=[(false,eval a X.env)]:=by rfl):PI X (.Tuple elts x1 tp) (.Call (.Name "enumerate" p) [a] [] pos) (XJ X.K ta):=by
 intro pins s σ H R I h;refine Call_ (ze I hg hm GG (PyProof.Rows.callWith_type1 (z9 (ha pos pins s σ H _ I h) λus s1 ⟨vs,H1,I1,r1,q1⟩=>?_) hs rfl));obtain ⟨a,e,⟨xs,hq⟩,q⟩:=q1;subst e;cases r1 with
 |cons r rr =>
  cases rr;cases r;obtain ⟨its,rv,p,hz⟩:=I1.list hq;refine call_enumerate_list p.isList λh' he hit hsz hk=>?_;refine wpAny_pyIter_enum he ?_;refine ⟨s1.heap.objs.size+1,[s1.heap.objs.size+1,s1.heap.objs.size],_,_,H1,rfl,I1.kept (t':=s1.toks) hk,MT a (s1.heap.objs.size+1) s1.heap.objs.size (Nat.ne_of_gt (uF _)),⟨⟨_,he⟩,hit⟩,λb hb=>?_,q⟩;rcases yK.mp hb with rfl|hb
  ·exact I1.fpOk (uz _) (I1.hok.fresh (uz _))
  ·have eb:b=s1.heap.objs.size:=by simpa using hb
   subst eb;exact I1.fpOk (yU _) (I1.hok.fresh (yU _))
end
def Itz (K:Fg)(a b:Addr):It :=
  ⟨λi H=>∃ xs ys x y,SqL K H a xs/\SqL K H b ys/\xs[i]?=some x/\ys[i]?=some y,
   λi H z H'=>∃ p x y,H p=none/\z = .ref p/\H'=z6 H p (.tup [x,y])/\(∀ xs,SqL K H a xs->xs[i]?=some x)/\∀ ys,SqL K H b ys->ys[i]?=some y,
   λi H=>∃ xs ys,SqL K H a xs/\SqL K H b ys/\(xs.length<=i∨ys.length<=i)⟩
theorem MX (a b z TI TO i1 i2:Addr)(d:[z,TI,TO,i1,i2].Nodup):zv P w K (.Tuple elts x1 tp) (Itz K a b) [z,TI,TO,i1,i2] z (λi h=>IsZip h z TI TO .none/\IsPair h TI (.ref i1) (.ref i2)/\(∃ u v,IsPair h TO u v)/\h.IsListIter i1 a i/\h.IsListIter i2 b i) where
 mem:=by simp
 obj:=λi h st c hc=>by
  obtain ⟨hz,hTI,⟨u,v,hTO⟩,h1,h2⟩:=st;have hc':c=z∨c=TI∨c=TO∨c=i1∨c=i2:=by simpa using hc
  rcases hc' with rfl|rfl|rfl|rfl|rfl
  ·exact ⟨_,hz,λv q=>by
    have q':Data.fields _=Data.cell v:=q;cases q'⟩
  ·exact ⟨_,hTI,λv q=>by
    have q':Data.seq _ _=Data.cell v:=q;cases q'⟩
  ·exact ⟨_,hTO,λv q=>by
    have q':Data.seq _ _=Data.cell v:=q;cases q'⟩
  ·obtain ⟨o,e1,cc,dd⟩:=h1;exact ⟨o,e1,λv q=>by rw [dd] at q;cases q⟩
  ·obtain ⟨o,e1,cc,dd⟩:=h2;exact ⟨o,e1,λv q=>by rw [dd] at q;cases q⟩
 keep:=λi h h' st k=>by
  obtain ⟨hz,hTI,⟨u,v,hTO⟩,h1,h2⟩:=st;exact ⟨k z (by simp) _ hz,k TI (by simp) _ hTI,⟨u,v,k TO (by simp) _ hTO⟩,h1.at λo e=>k i1 (by simp) o e,h2.at λo e=>k i2 (by simp) o e⟩
 item:=by
  intro X hP hw hK hc i pins s σ H E I hf st hg;subst hP hw hK;obtain ⟨hz,hTI,⟨u0,v0,hTO⟩,h1,h2⟩:=st;obtain ⟨xs,ys,x,y,hqa,hqb,hx,hy⟩:=hg;obtain ⟨its,rv,p,_⟩:=I.list hqa;obtain ⟨jts,rw',p',_⟩:=I.list hqb;obtain ⟨u,hu,ru⟩:=rv.get hx;obtain ⟨v,hv,rv'⟩:=rw'.get hy;simp only [yx,yK,not_or,yd,not_false_eq_true,uy,and_true] at d;obtain ⟨⟨d1,d2,d3,d4⟩,⟨d5,d6,d7⟩,⟨d8,d9⟩,d10⟩:=d;have ap:ZipApart z TI TO i1 i2 a b:=⟨Ne.symm d1,Ne.symm d2,Ne.symm d3,Ne.symm d4,d5,d6,d7,d8,d9,d10,
   I.seq_ne hqa (hf z (by simp)),I.seq_ne hqa (hf TO (by simp)),I.seq_ne hqa (hf i1 (by simp)),I.seq_ne hqa (hf i2 (by simp)),
   I.seq_ne hqb (hf z (by simp)),I.seq_ne hqb (hf TO (by simp)),I.seq_ne hqb (hf i1 (by simp)),I.seq_ne hqb (hf i2 (by simp))⟩
  have fz:qq X pins H s.heap.objs.size:=I.fpOk (yU _) (I.hok.fresh (yU _));have lt:∀ c∈[z,TI,TO,i1,i2],c<s.heap.objs.size:=λc hc=>by
   have hc':c=z∨c=TI∨c=TO∨c=i1∨c=i2:=by simpa using hc
   rcases hc' with rfl|rfl|rfl|rfl|rfl
   ·exact yS hz
   ·exact yS hTI
   ·exact yS hTO
   ·obtain ⟨o,q,_⟩:=h1;exact yS q
   ·obtain ⟨o,q,_⟩:=h2;exact yS q
  refine wpAny_pyNext_zip_item ap hz hTI hTO h1 h2 p.isList p'.isList (x:=u) (y:=v) (by simpa using hu) (by simpa using hv) λh3 hz3 hTO3 h13 h23 hp3 hs3 hk3=>⟨_,rfl,?_⟩;refine wpAny_letOwnedTupleGo_zip hz3 λh4 hz4 hs4=>?_;have hs4':Heap.SameBut z h3 h4:=hs4;have I4:Inv X pins σ H { s with heap:=h4,toks:=s.toks }:=I.turnedL (ch:=[z,TI,TO,i1,i2]) (λc o hc q=>by
   have n1:c≠z:=λe=>hc (by rw [e];simp);have n2:c≠TO:=λe=>hc (by rw [e];simp);have n3:c≠i1:=λe=>hc (by rw [e];simp);have n4:c≠i2:=λe=>hc (by rw [e];simp);exact hs4'.extBut c o n1 (hk3 c o n1 n2 n3 n4 q)) hf
  obtain ⟨f0,f1,f2,f3,f4,f5⟩:=fz;have tup:h4.get? s.heap.objs.size=some { cls:= .type "tuple",data:= .seq #[u,v] }:=hs4'.extBut _ _ (Ne.symm (yL (lt z (by simp)))) hp3;refine ⟨.ref s.heap.objs.size,z6 H s.heap.objs.size (.tup [x,y]),I4.track I.sz f0 f1 f4 f5 ?_,rfl,⟨s.heap.objs.size,x,y,f0,rfl,rfl,(λzs hy'=>by rw [I.list_inj hy' hqa];exact hx),λzs hy'=>by rw [I.list_inj hy' hqb];exact hy⟩,⟨hz4,?_,⟨u,v,?_⟩,?_,?_⟩,λc hc=>?_⟩
  ·exact ⟨by show 2<=sizeLine;decide,[u,v],.cons ru (.cons rv' .nil),⟨_,tup,rfl,_,rfl⟩⟩
  ·exact hs4'.extBut _ _ (Ne.symm d1) (hk3 _ _ (Ne.symm d1) d5 d6 d7 hTI)
  ·exact hs4'.extBut _ _ (Ne.symm d2) hTO3
  ·exact h13.at λo q=>hs4'.extBut i1 o (Ne.symm d3) q
  ·exact h23.at λo q=>hs4'.extBut i2 o (Ne.symm d4) q
  ·rw [z8 (yL (lt c hc))];exact (hf c hc).1
 done:=by
  intro X hP hw hK hc i pins s σ H E I hf st hg;subst hP hw hK;obtain ⟨hz,hTI,⟨u0,v0,hTO⟩,h1,h2⟩:=st;obtain ⟨xs,ys,hqa,hqb,hend⟩:=hg;obtain ⟨its,rv,p,_⟩:=I.list hqa;obtain ⟨jts,rw',p',_⟩:=I.list hqb;have l1:=rv.length;have l2:=rw'.length;simp only [yx,yK,not_or,yd,not_false_eq_true,uy,and_true] at d;obtain ⟨⟨d1,d2,d3,d4⟩,⟨d5,d6,d7⟩,⟨d8,d9⟩,d10⟩:=d;have ap:ZipApart z TI TO i1 i2 a b:=⟨Ne.symm d1,Ne.symm d2,Ne.symm d3,Ne.symm d4,d5,d6,d7,d8,d9,d10,
   I.seq_ne hqa (hf z (by simp)),I.seq_ne hqa (hf TO (by simp)),I.seq_ne hqa (hf i1 (by simp)),I.seq_ne hqa (hf i2 (by simp)),
   I.seq_ne hqb (hf z (by simp)),I.seq_ne hqb (hf TO (by simp)),I.seq_ne hqb (hf i1 (by simp)),I.seq_ne hqb (hf i2 (by simp))⟩
  refine wpAny_pyNext_zip_end (I.ok.hd hc) ap hz hTI hTO h1 h2 p.isList p'.isList (hend.elim (λq=> .inl (by simp;omega)) (λq=> .inr (by simp;omega))) λh3 hk3=>⟨rfl,I.turnedL (t':=s.toks) (ch:=[z,TI,TO,i1,i2]) (λc o hc q=>?_) hf⟩;exact hk3 c o (λe=>hc (by rw [e];simp)) (λe=>hc (by rw [e];simp)) (λe=>hc (by rw [e];simp)) (λe=>hc (by rw [e];simp)) q
 self:=λ_ _ _ _ _ st h=>wpAny_pyIter_zip st.1 h
section
variable {X:Cx}{elts:List Expr}{x1:Nat}{tp:Pos}
def iZip (K:Fg)(ta:TA):TI:=λσ H R=>ta σ H λvs H1=>∃ a b,vs=[.ref a,.ref b]/\(∃ xs,SqL K H1 a xs)/\(∃ ys,SqL K H1 b ys)/\R (Itz K a b) H1
theorem De (hg:Gl X "zip")(hm:X.mg "zip"=none)(ha:PA X [a,b] ta)(hs:starEach [a,b] X.env=[(false,eval a X.env),(false,eval b X.env)]:=by rfl)(hs2:starEach [b] X.env=[(false,eval b X.env)]:=by rfl):PI X (.Tuple elts x1 tp) (.Call (.Name "zip" p) [a,b] [] pos) (iZip X.K ta):=by
 intro pins s σ H R I h;refine Call_ (ze I hg hm GK (PyProof.Rows.callWith_type1 (z9 (ha pos pins s σ H _ I h) λus s1 ⟨vs,H1,I1,r1,q1⟩=>?_) (by rw [hs,hs2]) (by rw [hs2];rfl)));obtain ⟨a,b,e,⟨xs,hq⟩,⟨ys,hq'⟩,q⟩:=q1;subst e;cases r1 with
 |cons r rr =>
  cases rr with
  |cons r' rr =>
   cases rr;cases r;cases r';obtain ⟨its,rv,p,hz⟩:=I1.list hq;obtain ⟨jts,rw',p',_⟩:=I1.list hq';refine call_zip_2 p.isList p'.isList λh' g1 g2 g3 g4 g5 hsz hk=>?_;refine wpAny_pyIter_zip g1 ?_;refine ⟨s1.heap.objs.size+4,[s1.heap.objs.size+4,s1.heap.objs.size+2,s1.heap.objs.size+3,s1.heap.objs.size,s1.heap.objs.size+1],_,_,H1,rfl,I1.kept (t':=s1.toks) hk,MX a b _ _ _ _ _ ?_,⟨g1,g2,⟨_,_,g3⟩,g4,g5⟩,λc hc=>?_,q⟩
   ·simp only [yx,yK,not_or,yd,not_false_eq_true,uy,and_true];refine ⟨⟨?_,?_,?_,?_⟩,⟨?_,?_,?_⟩,⟨?_,?_⟩,?_⟩<;>(show ¬ (_:Nat)=_;omega)
   ·have hc':s1.heap.objs.size<=c:=by
     have hc2:c=s1.heap.objs.size+4∨c=s1.heap.objs.size+2∨c=s1.heap.objs.size+3∨c=s1.heap.objs.size∨c=s1.heap.objs.size+1:=by simpa using hc
     rcases hc2 with e|e|e|e|e<;>(rw [e];first|exact yU _|exact Nat.le_add_right _ _)
    exact I1.fpOk hc' (I1.hok.fresh hc')
end
section
variable {X:Cx}{K:Fg}
theorem XO (h:X.K=K):IxR X (rIxL K):=by subst h;exact ix_list
theorem Wp (h:X.K=K):CallR X (.builtin "len") (λxs H Q=>∃ p ys,xs=[.ref p]/\(SqL K H p ys∨SqT K H p ys)/\Q (.int ys.length) H):=by subst h;exact GU
theorem Kd (hc:X.calm=true)(h:X.K=K):CallR X (.builtin "sum") (λxs H Q=>∃ (a:Addr) (ns:List Int),xs=[.ref a]/\SqL K H a (ns.map V.int)/\Q (.int ns.sum) H):=by subst h;exact Wq hc
theorem wD {es:List Expr}{k:Nat}{t:TGs}{n:Nat}(hc:X.calm=true)(hK:X.K=K)(h:PGs X es t)(hn:(assignEach es X.env).length=n:=by rfl)(hst:(assignEach es X.env).findIdx? (·.1)=none:=by rfl):PG X (.Tuple es k pos) (gTup K n t):=by subst hK;exact CY hc h hn hst
theorem p0 {tg l:Expr}{tl:TE}(hK:X.K=K)(hl:PE X l tl):PI X tg l (Qs K tl):=by subst hK;exact Db hl
theorem Da (hK:X.K=K)(hg:Gl X "enumerate")(hm:X.mg "enumerate"=none)(ha:PA X [a] ta)(hs:starEach [a] X.env=[(false,eval a X.env)]:=by rfl):PI X (.Tuple elts x1 tp) (.Call (.Name "enumerate" p) [a] [] pos) (XJ K ta):=by subst hK;exact CZ hg hm ha hs
theorem Zq (hK:X.K=K)(hg:Gl X "zip")(hm:X.mg "zip"=none)(ha:PA X [a,b] ta)(hs:starEach [a,b] X.env=[(false,eval a X.env),(false,eval b X.env)]:=by rfl)(hs2:starEach [b] X.env=[(false,eval b X.env)]:=by rfl):PI X (.Tuple elts x1 tp) (.Call (.Name "zip" p) [a,b] [] pos) (iZip K ta):=by subst hK;exact De hg hm ha hs hs2
end
section
variable {X:Cx}
theorem CD:OpR X (compareOp .LtE) (λx y H Q=>∃ i j,x = .str i/\y = .str j/\Q (.bl (!decide (j.cps.toList<i.cps.toList))) H):=by intro pins s σ H x y v u Q I rx ry h;obtain ⟨i,j,rfl,rfl,q⟩:=h;obtain ⟨t,rfl⟩:=rx;obtain ⟨t',rfl⟩:=ry;exact PySem.P.le_str (XD I q rfl)
def ItS (z:Str):It:=⟨λi _=>i<z.cps.size,λi H x H'=>H'=H/\∃ c,z.cps[i]?=some c/\x = .str ⟨#[c]⟩,λi _=>i=z.cps.size⟩
theorem UV (it:Addr)(ty:String)(z:Str)(t:Tok)(W:∀ A':Around,A'.handled=none->Walks P w A' it [it] [it] z.cps.size (SignAt z) (λi h=>h.IsStrIter it ty z t i))(sf:∀(A:Around)(i:Nat)(s:Shared)(Q:Value->Shared->Prop)(E:Value->Shared->Prop),s.heap.IsStrIter it ty z t i->Q (.ref it) s->wpAny (model P w) A (pyIter (.ref it)) Q E s):zv P w K (.Name x px) (ItS z) [it] it (λi h=>h.IsStrIter it ty z t i) where
 mem:=by simp
 obj:=λi h st b hb=>by
  have e:b=it:=by simpa using hb
  subst e;obtain ⟨o,e,c,d⟩:=st;exact ⟨o,e,λv q=>by rw [d] at q;cases q⟩
 keep:=λi h h' st k=>by
  obtain ⟨o,e,r⟩:=st;exact ⟨o,k it (by simp) o e,r⟩
 item:=by intro X hP hw hK hc i pins s σ H E I hf st hg;subst hP hw hK;obtain ⟨f0,f1,f2,f3,f4,f5⟩:=hf it (by simp);refine (W X.A (I.ok.hd hc)).item i s _ _ hg st λv h' tk hv st' kk=>?_;obtain ⟨c,u,e1,rfl⟩:=hv;have I1:Inv X pins σ H { s with heap:=h',toks:=tk }:=I.turned (λb o hb e=>kk b o (by simpa using hb) e) f0 f1 f3 f4 f5;refine ⟨_,rfl,?_⟩;show wpAny _ _ (pure ()) _ _ _;exact yJ ⟨.str ⟨#[c]⟩,H,I1,⟨u,rfl⟩,⟨rfl,c,e1,rfl⟩,st',λb hb=>(hf b hb).1⟩
 done:=by intro X hP hw hK hc i pins s σ H E I hf st hg;subst hP hw hK;obtain ⟨f0,f1,f2,f3,f4,f5⟩:=hf it (by simp);have hg':i=z.cps.size:=hg;subst hg';exact (W X.A (I.ok.hd hc)).done s _ _ st λh' tk kk=>⟨rfl,I.turned (λb o hb e=>kk b o (by simpa using hb) e) f0 f1 f3 f4 f5⟩
 self:=sf
def iStr (tl:TE):TI:=λσ H R=>tl σ H λx H1=>∃ z,x = .str z/\R (ItS z) H1
theorem Dd {l:Expr}{tl:TE}(hl:PE X l tl):PI X (.Name x px) l (iStr tl):=by
 intro pins s σ H R I h;refine z9 (hl pins s σ H _ I h) λv s1 ⟨x,H1,I1,r1,q1⟩=>?_;obtain ⟨z,e,q⟩:=q1;subst e;obtain ⟨t,rfl⟩:=r1;have fp:∀ b∈[s1.heap.objs.size],qq X pins H1 b:=λb hb=>by
  have e:b=s1.heap.objs.size:=by simpa using hb
  subst e;exact I1.fpOk (yU _) (I1.hok.fresh (yU _))
 cases ha:z.cps.all (·<128)
 ·refine wpAny_pyIter_wide ha ?_;exact ⟨s1.heap.objs.size,[s1.heap.objs.size],_,_,H1,rfl,I1.kept (t':=s1.toks) λb o e=>yX _ e,UV _ "str_iterator" z t (λA' hA=>Walks.strWide hA _ z t) (λ_ _ _ _ _ st h=>wpAny_pyIter_striter_wide st h),⟨_,yG _ rfl,rfl,rfl⟩,fp,q⟩
 ·refine wpAny_pyIter_ascii ha ?_;exact ⟨s1.heap.objs.size,[s1.heap.objs.size],_,_,H1,rfl,I1.kept (t':=s1.toks) λb o e=>yX _ e,UV _ "str_ascii_iterator" z t (λA' hA=>Walks.strAscii hA _ z t) (λ_ _ _ _ _ st h=>wpAny_pyIter_striter_ascii st h),⟨_,yG _ rfl,rfl,rfl⟩,fp,q⟩
end
section
variable {X:Cx}{K:Fg}
def YW (K:Fg):R2:=λx y H Q=>∃ l b xs zs,x = .ref l/\y = .ref b/\SqL K H l xs/\SqL K H b zs/\xs.length+zs.length<=sizeLine/\∀ p,H p=none->Q (.ref p) (z6 H p (.lst (xs++zs)))
theorem op_catL:OpR X (binaryOp .Add) (YW X.K):=by
 intro pins s σ H x y v u Q I rx ry h;obtain ⟨l,b,xs,zs,rfl,rfl,hH,hB,hz,q⟩:=h;cases rx;cases ry;obtain ⟨its,r,⟨⟨cls,dd,data,sl⟩,n,e,h1,h2,h3⟩,_⟩:=I.list hH;obtain ⟨its2,r2,⟨⟨cls2,dd2,data2,sl2⟩,n2,e2,k1,k2,k3⟩,_⟩:=I.list hB
 dsimp only at h1 h2 h3 k1 k2 k3
 subst h1 h2 h3 k1 k2 k3;have hl:=r.length;have hl2:=r2.length;have hsz:its.toArray.size+its2.toArray.size<=sizeLine:=by rw [yY,yY];omega
 refine concat_meets ⟨_,e,rfl⟩ ⟨_,e2,rfl⟩ noFill_list_add seq_list_add PySem.F.slot_list_add PySem.F.entry_list_add (PySem.F.args_list_add_2 _ _) (list_addW l b its.toArray its2.toArray n n2 none none sl sl2 hsz) ⟨e,e2,?_⟩;have ea:its.toArray++its2.toArray=(its++its2).toArray:=by simp
 rw [ea];exact ⟨.ref _,_,I.lnew (t':=s.toks) (r.append r2) (by rw [yQ];omega),rfl,q _ I.fresh⟩
end
section
variable {X:Cx}
def Ds:V->List V->Hp->VK->Prop:=λx vs H Q=>∃(l:Addr)(xs:List V)(i:Int)(y:V),x = .ref l/\vs=[.int i,y]/\H l=some (.lst xs)/\0<=i/\i<=(xs.length:Int)/\xs.length<1000/\Q .non (z6 H l (.lst (xs.take i.toNat++y::xs.drop i.toNat)))
theorem Pd:MtM X "list.insert" Ds:=by
 intro pins s σ H x vs v us Q I rx rv h;obtain ⟨l,xs,i,y,rfl,rfl,hH,h0,hi,hz,q⟩:=h;cases rx;obtain ⟨u,w',rfl,⟨t,rfl⟩,rw'⟩:=rv.two;obtain ⟨z,its,n,r,hl,e⟩:=I.lstM hH;have hfit:¬ (!Builtin.List.listFitsIndex i)=true:=by rw [fitsIndex_both (k:=i) (by omega) (by omega)];decide
 have hsz:its.toArray.size<=sizeLine:=by rw [yY,<- hl];exact z
 refine call_meets F.slot_list_insert ⟨_,e,rfl⟩ F.entry_list_insert (F.args_list_insert_3 _ _ _) (AutoSeq1.list_insert_list_int_val_1 l its.toArray n i t w' hfit hsz) ⟨e,?_⟩;refine ⟨.non,_,I.lset (its':=its.take i.toNat++w'::its.drop i.toNat) hH e ?_ ((r.take i.toNat).append (.cons rw' (r.drop i.toNat))) ?_,rfl,q⟩
 ·have e1:¬ (i<0):=by omega
  have e2:min i.toNat its.toArray.size=i.toNat:=by rw [yY];omega
  show (its.toArray.extract 0 (if i<0 then (i+(its.toArray.size:Int)).toNat else min i.toNat its.toArray.size)).push w'++its.toArray.extract (if i<0 then (i+(its.toArray.size:Int)).toNat else min i.toNat its.toArray.size)=_;rw [if_neg e1,e2];apply Array.toList_inj.mp;simp [List.extract_eq_take_drop]
  try exact List.take_of_length_le (by rw [ul];exact yU _)
 ·rw [yQ,yz,um,ul];have:=vD (n:=1000) (yU _);omega
end
end L2
namespace L2
open PySem PySem.Spec PyProof.Rows PySem.SeqAt
variable{x y:V}{A:Around}{s:Shared}{u v:Value}{l:Addr}{items:Array Value}{n:Nat}{b:Bool}{K:Fg}
def EqP (K:Fg)(H:Hp):Nat->V->V->Bool->Prop
 |0,x,y,b=>y8 x=true/\y8 y=true/\b=h8 x y
 |n+1,x,y,b=>(y8 x=true/\y8 y=true/\b=h8 x y) ∨
  (∃(a c:Addr)(xs ys:List V),x = .ref a/\y = .ref c/\SqL K H a xs/\SqL K H c ys/\((xs.length≠ys.length/\b=false)∨(xs.length=ys.length/\∃ e:Nat->Bool,(∀ j (h1:j<xs.length) (h2:j<ys.length),EqP K H n xs[j] ys[j] (e j))/\b=(List.range xs.length).all e))) ∨
  (∃(a c:Addr)(xs ys:List V),x = .ref a/\y = .ref c/\SqT K H a xs/\SqT K H c ys/\∃ e:Nat->Bool,(∀ j (h1:j<xs.length) (h2:j<ys.length),EqP K H n xs[j] ys[j] (e j))/\b=((List.range (min xs.length ys.length)).all e&&xs.length==ys.length)) ∨
  (∃(a c:Addr)(xs ys:List V),x = .ref a/\y = .ref c/\SqL K H a xs/\SqT K H c ys/\b=false) ∨
  (∃(a c:Addr)(xs ys:List V),x = .ref a/\y = .ref c/\SqT K H a xs/\SqL K H c ys/\b=false) ∨
  (∃(c:Addr)(ys:List V),y8 x=true/\y = .ref c/\(SqL K H c ys∨SqT K H c ys)/\b=false) ∨
  (∃(a:Addr)(xs:List V),y8 y=true/\x = .ref a/\(SqL K H a xs∨SqT K H a xs)/\b=false)
theorem Qn (h:y8 x=true):h8 x x=true:=by cases x<;>first|rfl|exact beq_self_eq_true _|cases h
theorem Uh (ry:RelV y u)(rx:RelV x v)(fy:y8 y=true)(fx:y8 x=true):RcAt A s u v (h8 y x):=by
 cases y with
 |non =>
  cases ry;cases x with
  |non=>cases rx;exact RcAt.none_none
  |bl b=>cases rx;exact RcAt.none_bool b
  |int b=>obtain ⟨t2,rfl⟩:=rx;exact RcAt.none_int b t2
  |str b=>obtain ⟨t2,rfl⟩:=rx;exact RcAt.none_str b t2
  |_=>exact absurd (show false=true from fx) yT
 |bl a =>
  cases ry;cases x with
  |non=>cases rx;exact RcAt.bool_none a
  |bl b=>cases rx;exact RcAt.bool_bool a b
  |int b=>obtain ⟨t2,rfl⟩:=rx;exact RcAt.bool_int a b t2
  |str b=>obtain ⟨t2,rfl⟩:=rx;exact RcAt.bool_str a b t2
  |_=>exact absurd (show false=true from fx) yT
 |int a =>
  obtain ⟨t1,rfl⟩:=ry;cases x with
  |non=>cases rx;exact RcAt.int_none a t1
  |bl b=>cases rx;exact RcAt.int_bool a t1 b
  |int b=>obtain ⟨t2,rfl⟩:=rx;exact RcAt.int_int a t1 b t2
  |str b=>obtain ⟨t2,rfl⟩:=rx;exact RcAt.int_str a t1 b t2
  |_=>exact absurd (show false=true from fx) yT
 |str a =>
  obtain ⟨t1,rfl⟩:=ry;cases x with
  |non=>cases rx;exact RcAt.str_none a t1
  |bl b=>cases rx;exact RcAt.str_bool a t1 b
  |int b=>obtain ⟨t2,rfl⟩:=rx;exact RcAt.str_int a t1 b t2
  |str b=>obtain ⟨t2,rfl⟩:=rx;exact RcAt.str_str a t1 b t2
  |_=>exact absurd (show false=true from fx) yT
 |_=>exact absurd (show false=true from fy) yT
theorem Ui (ry:RelV y u)(rx:RelV x v)(fy:y8 y=true)(fx:y8 x=true):RcNeAt A s u v (!h8 y x):=by
 cases y with
 |non =>
  cases ry;cases x with
  |non=>cases rx;exact RcNeAt.none_none
  |bl b=>cases rx;exact RcNeAt.none_bool b
  |int b=>obtain ⟨t2,rfl⟩:=rx;exact RcNeAt.none_int b t2
  |str b=>obtain ⟨t2,rfl⟩:=rx;exact RcNeAt.none_str b t2
  |_=>exact absurd (show false=true from fx) yT
 |bl a =>
  cases ry;cases x with
  |non=>cases rx;exact RcNeAt.bool_none a
  |bl b=>cases rx;exact RcNeAt.bool_bool a b
  |int b=>obtain ⟨t2,rfl⟩:=rx;exact RcNeAt.bool_int a b t2
  |str b=>obtain ⟨t2,rfl⟩:=rx;exact RcNeAt.bool_str a b t2
  |_=>exact absurd (show false=true from fx) yT
 |int a =>
  obtain ⟨t1,rfl⟩:=ry;cases x with
  |non=>cases rx;exact RcNeAt.int_none a t1
  |bl b=>cases rx;exact RcNeAt.int_bool a t1 b
  |int b=>obtain ⟨t2,rfl⟩:=rx;exact RcNeAt.int_int a t1 b t2
  |str b=>obtain ⟨t2,rfl⟩:=rx;exact RcNeAt.int_str a t1 b t2
  |_=>exact absurd (show false=true from fx) yT
 |str a =>
  obtain ⟨t1,rfl⟩:=ry;cases x with
  |non=>cases rx;exact RcNeAt.str_none a t1
  |bl b=>cases rx;exact RcNeAt.str_bool a t1 b
  |int b=>obtain ⟨t2,rfl⟩:=rx;exact RcNeAt.str_int a t1 b t2
  |str b=>obtain ⟨t2,rfl⟩:=rx;exact RcNeAt.str_str a t1 b t2
  |_=>exact absurd (show false=true from fx) yT
 |_=>exact absurd (show false=true from fy) yT
theorem Kr (hl:s.heap.IsList l items)(hu:A.units<cLine)(ry:RelV y u)(fy:y8 y=true):EqAt A s u (.ref l) false:=by
 cases y with
 |non=>cases ry;exact EqAt.none_list hl hu
 |bl a=>cases ry;exact EqAt.bool_list a hl hu
 |int a=>obtain ⟨t1,rfl⟩:=ry;exact EqAt.int_list a t1 hl hu
 |str a=>obtain ⟨t1,rfl⟩:=ry;exact EqAt.str_list a t1 hl hu
 |_=>exact absurd (show false=true from fy) yT
theorem Kt (hl:s.heap.IsList l items)(hu:A.units<cLine)(ry:RelV y u)(fy:y8 y=true):EqAt A s (.ref l) u false:=by
 cases y with
 |non=>cases ry;exact EqAt.list_none hl hu
 |bl a=>cases ry;exact EqAt.list_bool a hl hu
 |int a=>obtain ⟨t1,rfl⟩:=ry;exact EqAt.list_int a t1 hl hu
 |str a=>obtain ⟨t1,rfl⟩:=ry;exact EqAt.list_str a t1 hl hu
 |_=>exact absurd (show false=true from fy) yT
theorem Ks (hl:s.heap.IsTuple l items)(hu:A.units<cLine)(ry:RelV y u)(fy:y8 y=true):EqAt A s u (.ref l) false:=by
 cases y with
 |non=>cases ry;exact EqAt.none_tuple hl hu
 |bl a=>cases ry;exact EqAt.bool_tuple a hl hu
 |int a=>obtain ⟨t1,rfl⟩:=ry;exact EqAt.int_tuple a t1 hl hu
 |str a=>obtain ⟨t1,rfl⟩:=ry;exact EqAt.str_tuple a t1 hl hu
 |_=>exact absurd (show false=true from fy) yT
theorem Ku (hl:s.heap.IsTuple l items)(hu:A.units<cLine)(ry:RelV y u)(fy:y8 y=true):EqAt A s (.ref l) u false:=by
 cases y with
 |non=>cases ry;exact EqAt.tuple_none hl hu
 |bl a=>cases ry;exact EqAt.tuple_bool a hl hu
 |int a=>obtain ⟨t1,rfl⟩:=ry;exact EqAt.tuple_int a t1 hl hu
 |str a=>obtain ⟨t1,rfl⟩:=ry;exact EqAt.tuple_str a t1 hl hu
 |_=>exact absurd (show false=true from fy) yT
theorem Du (hl:s.heap.IsList l items)(hu:A.units<cLine)(ry:RelV y u)(fy:y8 y=true):RcAt A s u (.ref l) false:=by
 cases y with
 |non=>cases ry;exact RcAt.none_list hl hu
 |bl a=>cases ry;exact RcAt.bool_list a hl hu
 |int a=>obtain ⟨t1,rfl⟩:=ry;exact RcAt.int_list a t1 hl hu
 |str a=>obtain ⟨t1,rfl⟩:=ry;exact RcAt.str_list a t1 hl hu
 |_=>exact absurd (show false=true from fy) yT
theorem Dw (hl:s.heap.IsList l items)(hu:A.units<cLine)(ry:RelV y u)(fy:y8 y=true):RcAt A s (.ref l) u false:=by
 cases y with
 |non=>cases ry;exact RcAt.list_none hl hu
 |bl a=>cases ry;exact RcAt.list_bool a hl hu
 |int a=>obtain ⟨t1,rfl⟩:=ry;exact RcAt.list_int a t1 hl hu
 |str a=>obtain ⟨t1,rfl⟩:=ry;exact RcAt.list_str a t1 hl hu
 |_=>exact absurd (show false=true from fy) yT
theorem Dv (hl:s.heap.IsTuple l items)(hu:A.units<cLine)(ry:RelV y u)(fy:y8 y=true):RcAt A s u (.ref l) false:=by
 cases y with
 |non=>cases ry;exact RcAt.none_tuple hl hu
 |bl a=>cases ry;exact RcAt.bool_tuple a hl hu
 |int a=>obtain ⟨t1,rfl⟩:=ry;exact RcAt.int_tuple a t1 hl hu
 |str a=>obtain ⟨t1,rfl⟩:=ry;exact RcAt.str_tuple a t1 hl hu
 |_=>exact absurd (show false=true from fy) yT
theorem Dx (hl:s.heap.IsTuple l items)(hu:A.units<cLine)(ry:RelV y u)(fy:y8 y=true):RcAt A s (.ref l) u false:=by
 cases y with
 |non=>cases ry;exact RcAt.tuple_none hl hu
 |bl a=>cases ry;exact RcAt.tuple_bool a hl hu
 |int a=>obtain ⟨t1,rfl⟩:=ry;exact RcAt.tuple_int a t1 hl hu
 |str a=>obtain ⟨t1,rfl⟩:=ry;exact RcAt.tuple_str a t1 hl hu
 |_=>exact absurd (show false=true from fy) yT
theorem Dy (hl:s.heap.IsList l items)(hu:A.units<cLine)(ry:RelV y u)(fy:y8 y=true):RcNeAt A s u (.ref l) true:=by
 cases y with
 |non=>cases ry;exact RcNeAt.none_list hl hu
 |bl a=>cases ry;exact RcNeAt.bool_list a hl hu
 |int a=>obtain ⟨t1,rfl⟩:=ry;exact RcNeAt.int_list a t1 hl hu
 |str a=>obtain ⟨t1,rfl⟩:=ry;exact RcNeAt.str_list a t1 hl hu
 |_=>exact absurd (show false=true from fy) yT
theorem DA (hl:s.heap.IsList l items)(hu:A.units<cLine)(ry:RelV y u)(fy:y8 y=true):RcNeAt A s (.ref l) u true:=by
 cases y with
 |non=>cases ry;exact RcNeAt.list_none hl hu
 |bl a=>cases ry;exact RcNeAt.list_bool a hl hu
 |int a=>obtain ⟨t1,rfl⟩:=ry;exact RcNeAt.list_int a t1 hl hu
 |str a=>obtain ⟨t1,rfl⟩:=ry;exact RcNeAt.list_str a t1 hl hu
 |_=>exact absurd (show false=true from fy) yT
theorem Dz (hl:s.heap.IsTuple l items)(hu:A.units<cLine)(ry:RelV y u)(fy:y8 y=true):RcNeAt A s u (.ref l) true:=by
 cases y with
 |non=>cases ry;exact RcNeAt.none_tuple hl hu
 |bl a=>cases ry;exact RcNeAt.bool_tuple a hl hu
 |int a=>obtain ⟨t1,rfl⟩:=ry;exact RcNeAt.int_tuple a t1 hl hu
 |str a=>obtain ⟨t1,rfl⟩:=ry;exact RcNeAt.str_tuple a t1 hl hu
 |_=>exact absurd (show false=true from fy) yT
theorem DB (hl:s.heap.IsTuple l items)(hu:A.units<cLine)(ry:RelV y u)(fy:y8 y=true):RcNeAt A s (.ref l) u true:=by
 cases y with
 |non=>cases ry;exact RcNeAt.tuple_none hl hu
 |bl a=>cases ry;exact RcNeAt.tuple_bool a hl hu
 |int a=>obtain ⟨t1,rfl⟩:=ry;exact RcNeAt.tuple_int a t1 hl hu
 |str a=>obtain ⟨t1,rfl⟩:=ry;exact RcNeAt.tuple_str a t1 hl hu
 |_=>exact absurd (show false=true from fy) yT
section
variable {X:Cx}{pins:List (Addr×Obj)}{σ:St}{H:Hp}{s:Shared}
theorem Qm (I:Inv X pins σ H s):∀(n:Nat){x:V}{b:Bool},EqP X.K H n x x b->b=true
 |0,x,b,h=>by obtain ⟨h1,_,rfl⟩:=h;exact Qn h1
 |n+1,x,b,h=>by
  rcases h with ⟨h1,_,rfl⟩|⟨a,c,xs,ys,rfl,e2,p1,p2,h⟩|⟨a,c,xs,ys,rfl,e2,p1,p2,e,he,rfl⟩|⟨a,c,xs,ys,rfl,e2,p1,p2,_⟩|⟨a,c,xs,ys,rfl,e2,p1,p2,_⟩|⟨c,ys,f,rfl,_⟩|⟨c,ys,f,rfl,_⟩
  ·exact Qn h1
  ·cases e2;cases I.list_inj p1 p2;rcases h with ⟨h,_⟩|⟨_,e,he,rfl⟩
   ·exact absurd rfl h
   ·rw [uU];exact λj hj=>Qm I n (he j (ya.mp hj) (ya.mp hj))
  ·cases e2;cases I.tuple_inj p1 p2;rw [Nat.min_self,beq_self_eq_true,Bool.and_true,uU];exact λj hj=>Qm I n (he j (ya.mp hj) (ya.mp hj))
  ·cases e2;obtain ⟨_,_,⟨o1,_,q1,c1,_⟩,_⟩:=I.list p1;obtain ⟨_,_,⟨o2,q2,c2,_⟩,_⟩:=I.tuple p2;rw [q1] at q2;cases q2;rw [c1] at c2;exact absurd c2 (by decide)
  ·cases e2;obtain ⟨_,_,⟨o2,q2,c2,_⟩,_⟩:=I.tuple p1;obtain ⟨_,_,⟨o1,_,q1,c1,_⟩,_⟩:=I.list p2;rw [q1] at q2;cases q2;rw [c1] at c2;exact absurd c2 (by decide)
  ·cases f
  ·cases f
theorem vd (I:Inv X pins σ H s):∀(n:Nat)(A:Around){x y:V}{u v:Value}{b:Bool},A.units+n<cLine->EqP X.K H n x y b->RelV x u->RelV y v->EqAt A s u v b
 |0,A,x,y,u,v,b,hu,h,r1,r2=>by obtain ⟨h1,h2,rfl⟩:=h;exact Xz r1 r2 h1 h2
 |n+1,A,x,y,u,v,b,hu,h,r1,r2=>by
  have h':=h;rcases h with ⟨h1,h2,rfl⟩|⟨a,c,xs,ys,rfl,rfl,p1,p2,h⟩|⟨a,c,xs,ys,rfl,rfl,p1,p2,e,he,rfl⟩|⟨a,c,xs,ys,rfl,rfl,p1,p2,rfl⟩|⟨a,c,xs,ys,rfl,rfl,p1,p2,rfl⟩|⟨c,ys,f,rfl,p,rfl⟩|⟨c,ys,f,rfl,p,rfl⟩
  ·exact Xz r1 r2 h1 h2
  ·cases r1;cases r2;by_cases hac:a=c
   ·subst hac;have hb:=Qm I (n+1) h';rw [hb];exact EqAt.same _
   obtain ⟨us,v1,q1,_⟩:=I.list p1;obtain ⟨ws,v2,q2,_⟩:=I.list p2;have l1:=v1.length;have l2:=v2.length;refine EqAt.of_refs hac ?_;rcases h with ⟨h,rfl⟩|⟨hl,e,he,rfl⟩
   ·exact RcAt.lists_lengths q1.isList q2.isList (by rw [yY,yY];simp;omega) (by omega)
   ·have q:=RcAt.lists (A:=A) (s:=s) q1.isList q2.isList (by rw [yY,yY];omega) (by omega) (e:=e) (λj j1 j2=>?_)
    ·rw [yY,<- l1] at q;exact q
    ·have j1':j<us.length:=by simpa using j1
     have j2':j<ws.length:=by simpa using j2
     rw [yh,yh];exact vd I n A.in1 (by show A.units+1+n<cLine;omega) (he j (by omega) (by omega)) (qW v1 j (by omega) j1') (qW v2 j (by omega) j2')
  ·cases r1;cases r2;by_cases hac:a=c
   ·subst hac;have hb:=Qm I (n+1) h';rw [hb];exact EqAt.same _
   obtain ⟨us,v1,q1,_⟩:=I.tuple p1;obtain ⟨ws,v2,q2,_⟩:=I.tuple p2;have l1:=v1.length;have l2:=v2.length;refine EqAt.of_refs hac ?_;have q:=RcAt.tuples (A:=A) (s:=s) q1 q2 (by omega) (e:=e) (λj j1 j2=>?_)
   ·rw [yY,yY,<- l1,<- l2] at q;exact q
   ·have j1':j<us.length:=by simpa using j1
    have j2':j<ws.length:=by simpa using j2
    rw [yh,yh];exact vd I n A.in1 (by show A.units+1+n<cLine;omega) (he j (by omega) (by omega)) (qW v1 j (by omega) j1') (qW v2 j (by omega) j2')
  ·cases r1;cases r2;obtain ⟨us,v1,q1,_⟩:=I.list p1;obtain ⟨ws,v2,q2,_⟩:=I.tuple p2;exact EqAt.list_tuple q1.isList q2 (by omega)
  ·cases r1;cases r2;obtain ⟨us,v1,q1,_⟩:=I.tuple p1;obtain ⟨ws,v2,q2,_⟩:=I.list p2;exact EqAt.tuple_list q1 q2.isList (by omega)
  ·cases r2;rcases p with p|p
   ·obtain ⟨us,v1,q1,_⟩:=I.list p;exact Kr q1.isList (by omega) r1 f
   ·obtain ⟨us,v1,q1,_⟩:=I.tuple p;exact Ks q1 (by omega) r1 f
  ·cases r1;rcases p with p|p
   ·obtain ⟨us,v1,q1,_⟩:=I.list p;exact Kt q1.isList (by omega) r2 f
   ·obtain ⟨us,v1,q1,_⟩:=I.tuple p;exact Ku q1 (by omega) r2 f
theorem rc_at (I:Inv X pins σ H s)(hu:A.units+n<cLine)(h:EqP X.K H n x y b)(r1:RelV x u)(r2:RelV y v):RcAt A s u v b:=by
 cases n with
 |zero=>obtain ⟨h1,h2,rfl⟩:=h;exact Uh r1 r2 h1 h2
 |succ n =>
  rcases h with ⟨h1,h2,rfl⟩|⟨a,c,xs,ys,rfl,rfl,p1,p2,h⟩|⟨a,c,xs,ys,rfl,rfl,p1,p2,e,he,rfl⟩|⟨a,c,xs,ys,rfl,rfl,p1,p2,rfl⟩|⟨a,c,xs,ys,rfl,rfl,p1,p2,rfl⟩|⟨c,ys,f,rfl,p,rfl⟩|⟨c,ys,f,rfl,p,rfl⟩
  ·exact Uh r1 r2 h1 h2
  ·cases r1;cases r2;obtain ⟨us,v1,q1,_⟩:=I.list p1;obtain ⟨ws,v2,q2,_⟩:=I.list p2;have l1:=v1.length;have l2:=v2.length;rcases h with ⟨h,rfl⟩|⟨hl,e,he,rfl⟩
   ·exact RcAt.lists_lengths q1.isList q2.isList (by rw [yY,yY];simp;omega) (by omega)
   ·have q:=RcAt.lists (A:=A) (s:=s) q1.isList q2.isList (by rw [yY,yY];omega) (by omega) (e:=e) (λj j1 j2=>?_)
    ·rw [yY,<- l1] at q;exact q
    ·have j1':j<us.length:=by simpa using j1
     have j2':j<ws.length:=by simpa using j2
     rw [yh,yh];exact vd I n A.in1 (by show A.units+1+n<cLine;omega) (he j (by omega) (by omega)) (qW v1 j (by omega) j1') (qW v2 j (by omega) j2')
  ·cases r1;cases r2;obtain ⟨us,v1,q1,_⟩:=I.tuple p1;obtain ⟨ws,v2,q2,_⟩:=I.tuple p2;have l1:=v1.length;have l2:=v2.length;have q:=RcAt.tuples (A:=A) (s:=s) q1 q2 (by omega) (e:=e) (λj j1 j2=>?_)
   ·rw [yY,yY,<- l1,<- l2] at q;exact q
   ·have j1':j<us.length:=by simpa using j1
    have j2':j<ws.length:=by simpa using j2
    rw [yh,yh];exact vd I n A.in1 (by show A.units+1+n<cLine;omega) (he j (by omega) (by omega)) (qW v1 j (by omega) j1') (qW v2 j (by omega) j2')
  ·cases r1;cases r2;obtain ⟨us,v1,q1,_⟩:=I.list p1;obtain ⟨ws,v2,q2,_⟩:=I.tuple p2;exact RcAt.list_tuple q1.isList q2 (by omega)
  ·cases r1;cases r2;obtain ⟨us,v1,q1,_⟩:=I.tuple p1;obtain ⟨ws,v2,q2,_⟩:=I.list p2;exact RcAt.tuple_list q1 q2.isList (by omega)
  ·cases r2;rcases p with p|p
   ·obtain ⟨us,v1,q1,_⟩:=I.list p;exact Du q1.isList (by omega) r1 f
   ·obtain ⟨us,v1,q1,_⟩:=I.tuple p;exact Dv q1 (by omega) r1 f
  ·cases r1;rcases p with p|p
   ·obtain ⟨us,v1,q1,_⟩:=I.list p;exact Dw q1.isList (by omega) r2 f
   ·obtain ⟨us,v1,q1,_⟩:=I.tuple p;exact Dx q1 (by omega) r2 f
theorem DC (I:Inv X pins σ H s)(hu:A.units+n<cLine)(h:EqP X.K H n x y b)(r1:RelV x u)(r2:RelV y v):RcNeAt A s u v (!b):=by
 cases n with
 |zero=>obtain ⟨h1,h2,rfl⟩:=h;exact Ui r1 r2 h1 h2
 |succ n =>
  rcases h with ⟨h1,h2,rfl⟩|⟨a,c,xs,ys,rfl,rfl,p1,p2,h⟩|⟨a,c,xs,ys,rfl,rfl,p1,p2,e,he,rfl⟩|⟨a,c,xs,ys,rfl,rfl,p1,p2,rfl⟩|⟨a,c,xs,ys,rfl,rfl,p1,p2,rfl⟩|⟨c,ys,f,rfl,p,rfl⟩|⟨c,ys,f,rfl,p,rfl⟩
  ·exact Ui r1 r2 h1 h2
  ·cases r1;cases r2;obtain ⟨us,v1,q1,_⟩:=I.list p1;obtain ⟨ws,v2,q2,_⟩:=I.list p2;have l1:=v1.length;have l2:=v2.length;rcases h with ⟨h,rfl⟩|⟨hl,e,he,rfl⟩
   ·exact RcNeAt.lists_lengths q1.isList q2.isList (by rw [yY,yY];simp;omega) (by omega)
   ·have q:=RcNeAt.lists (A:=A) (s:=s) q1.isList q2.isList (by rw [yY,yY];omega) (by omega) (e:=e) (λj j1 j2=>?_)
    ·rw [yY,<- l1] at q;exact q
    ·have j1':j<us.length:=by simpa using j1
     have j2':j<ws.length:=by simpa using j2
     rw [yh,yh];exact vd I n A.in1 (by show A.units+1+n<cLine;omega) (he j (by omega) (by omega)) (qW v1 j (by omega) j1') (qW v2 j (by omega) j2')
  ·cases r1;cases r2;obtain ⟨us,v1,q1,_⟩:=I.tuple p1;obtain ⟨ws,v2,q2,_⟩:=I.tuple p2;have l1:=v1.length;have l2:=v2.length;have q:=RcNeAt.tuples (A:=A) (s:=s) q1 q2 (by omega) (e:=e) (λj j1 j2=>?_)
   ·rw [yY,yY,<- l1,<- l2] at q;exact q
   ·have j1':j<us.length:=by simpa using j1
    have j2':j<ws.length:=by simpa using j2
    rw [yh,yh];exact vd I n A.in1 (by show A.units+1+n<cLine;omega) (he j (by omega) (by omega)) (qW v1 j (by omega) j1') (qW v2 j (by omega) j2')
  ·cases r1;cases r2;obtain ⟨us,v1,q1,_⟩:=I.list p1;obtain ⟨ws,v2,q2,_⟩:=I.tuple p2;exact RcNeAt.list_tuple q1.isList q2 (by omega)
  ·cases r1;cases r2;obtain ⟨us,v1,q1,_⟩:=I.tuple p1;obtain ⟨ws,v2,q2,_⟩:=I.list p2;exact RcNeAt.tuple_list q1 q2.isList (by omega)
  ·cases r2;rcases p with p|p
   ·obtain ⟨us,v1,q1,_⟩:=I.list p;exact Dy q1.isList (by omega) r1 f
   ·obtain ⟨us,v1,q1,_⟩:=I.tuple p;exact Dz q1 (by omega) r1 f
  ·cases r1;rcases p with p|p
   ·obtain ⟨us,v1,q1,_⟩:=I.list p;exact DA q1.isList (by omega) r2 f
   ·obtain ⟨us,v1,q1,_⟩:=I.tuple p;exact DB q1 (by omega) r2 f
def rEqD (K:Fg)(n:Nat)(neg:Bool):R2:=λx y H Q=>∃ b,EqP K H n x y b/\Q (.bl (if neg then !b else b)) H
theorem jA (hu:X.A.units+n<cLine)(hK:X.K=K):OpR X (compareOp .Eq) (rEqD K n false):=by subst hK;intro pins s σ H x y v u Q I rx ry h;obtain ⟨b,h,q⟩:=h;exact rc_at I hu h rx ry X.prog X.w X.xe _ ⟨.bl b,H,I,rfl,q⟩
theorem jC (hu:X.A.units+n<cLine)(hK:X.K=K):OpR X (compareOp .NotEq) (rEqD K n true):=by subst hK;intro pins s σ H x y v u Q I rx ry h;obtain ⟨b,h,q⟩:=h;exact DC I hu h rx ry X.prog X.w X.xe _ ⟨.bl (!b),H,I,rfl,q⟩
theorem hu6 {k:Nat}(hr:Room k A):A.units+6<cLine:=by have:=hr.units;omega
end
end L2
namespace L2
open PySem PySem.Spec PyProof.Rows
section
variable {X:Cx}{K:Fg}
def rAddS:R2:=λx y H Q=>∃ i j,x = .str i/\y = .str j/\i.length+j.length<=sizeLine/\Q (.str (i++j)) H
def Zu (K:Fg):R2:=λx y H Q=>(rI0 λi j=> .int (i+j)) x y H Q∨rAddS x y H Q∨YW K x y H Q∨YX K x y H Q
theorem qg (h:X.K=K):OpR X (binaryOp .Add) (Zu K):=by subst h;exact op_add.or (op_add_str.or (op_catL.or Cy))
theorem Bx (h:X.K=K):IxR X (rIx K):=by subst h;exact Bw
def zm (K:Fg):List V->Hp->VK->Prop:=λxs H Q=>(∃ x n,xs=[x]/\LenV K x H n/\Q (.int n) H)∨∃ a kvs,xs=[V.ref a]/\H a=some (.dK kvs)/\Q (.int kvs.length) H
theorem o6 (h:X.K=K):CallR X (.builtin "len") (zm K):=by subst h;exact CallR.or (f:= .builtin "len") GQ GR
theorem Dn {a:Expr}{ta:TE}(h:X.K=K)(ha:PE X a ta)(he:∀ whole,isTrue a X.env whole=(do let v <- whole;standAt a.pos;holding [v] (truthy v))):PT X a (λσ H Q=>ta σ H λx H'=>∃ k,TruV K x H' k/\Q k H'):=by subst h;exact Do ha he
theorem CA (h:X.K=K):OpR X (compareOp .In) (rIn K false):=by subst h;exact Cz
def Ua (K:Fg):List V->Hp->VK->Prop:=λxs H Q=>∃ p ys,xs=[.ref p]/\(SqL K H p ys∨SqT K H p ys)/\∀ l,H l=none->Q (.ref l) (z6 H l (.lst ys))
theorem Xq (h:X.K=K):CallR X (.type "list") (Ua K):=by subst h;exact GV
def rIsi (K:Fg):List V->Hp->VK->Prop:=λxs H Q=>∃ x n T b,xs=[x,.ty n]/\qA K H x (.type T)/\tyB T n=some b/\Q (.bl b) H
theorem qF (h:X.K=K):CallR X (.builtin "isinstance") (rIsi K):=by subst h;exact GP
def YV (K:Fg):List V->Hp->VK->Prop:=λxs H Q=>∃(a:Addr)(bs:List Bool),xs=[.ref a]/\SqL K H a (bs.map V.bl)/\Q (.bl (bs.all id)) H
theorem zy (hc:X.calm=true)(h:X.K=K):CallR X (.builtin "all") (YV K):=by subst h;exact GN hc
def Ug (K:Fg):List V->Hp->VK->Prop:=λxs H Q=>∃(a:Addr)(ns:List Int),xs=[.ref a]/\SqL K H a (ns.map V.int)/\Q (.int ns.sum) H
theorem Wr (hc:X.calm=true)(h:X.K=K):CallR X (.builtin "sum") (Ug K):=by subst h;exact Wq hc
def rMin2:List V->Hp->VK->Prop:=λxs H Q=>∃ i j,xs=[.int i,.int j]/\Q (.int (if j<i then j else i)) H
theorem GX (hc:X.calm=true):CallR X (.builtin "min") rMin2:=GW hc
def rIsN:R2:=λx y H Q=>y = .non/\Q (.bl (decide (x = .non))) H
def Uc:R2:=λx y H Q=>y = .non/\Q (.bl (!decide (x = .non))) H
theorem CC:OpR X (compareOp .Is) rIsN:=CB
theorem CG:OpR X (compareOp .IsNot) Uc:=CF
theorem Wo:bootBuiltins "tuple"=some (.type "tuple"):=by decide +kernel
theorem GH:bootBuiltins "max"=some (.builtin "max"):=by decide +kernel
theorem GJ:bootBuiltins "sorted"=some (.builtin "sorted"):=by decide +kernel
theorem Qf:bootBuiltins "dict"=some (.type "dict"):=by decide +kernel
theorem Lg:tyB "tuple" "tuple"=some true:=by decide +kernel
end
section
variable {X:Cx}{K:Fg}{o e:Expr}{es:List Expr}{to:TE}{t:TA}{name:Str}{apos cpos:Pos}{T id:String}{r:V->List V->Hp->VK->Prop}
theorem zP (hK:X.K=K)(pa:PlainAttrs T)(slot:Slot T name id)(hty:typeOf (.builtin id)=pure (.type "method_descriptor"))(hm:MtR X id r)(ho:PE X o to)(ha:PA X (e::es) t)(hbase:attributeBase o name X.env (eval o X.env)=eval o X.env:=by rfl)(hfew:((backTo cpos (starEach (e::es) X.env)).all (λx=>!x.1)&&(backToKw cpos (keywordEach [] X.env)).all (λx=>x.1.isSome)&&decide ((e::es).length+([]:List Keyword).length+(if ([]:List Keyword).isEmpty then 0 else 1)<30))=true:=by rfl)(hline:(apos.endLine==cpos.line)=true:=by rfl)(hs:starEach (e::es) X.env=(false,eval e X.env)::starEach es X.env:=by rfl)(hplain:(backTo cpos (starEach es X.env)).any (·.1)=false:=by rfl):PE X (.Call (.Attribute o name apos) (e::es) [] cpos) (tBM K T r to t):=by subst hK;exact pe_bm pa slot hty hm ho ha hbase hfew hline hs hplain
end
end L2
namespace L2
open PySem PySem.Spec PySem.Calls
variable{h:Heap}{a:Addr}{n:Nat}{A:Around}
section
variable {P:Program}{w:World}{κ:Type}[DecidableEq κ]{knd:PySem.KeyKind P w κ}
def b7 (val:Nat->κ):Nat->List κ
 |0=>[]
 |i+1=>if val i∈b7 val i then b7 val i else b7 val i++[val i]
theorem Ux (val:Nat->κ):∀ i,(b7 val i).length<=i
 |0=>yU _
 |i+1=>by
  have ih:=Ux val i;unfold b7;split
  ·omega
  ·rw [yQ,List.length_singleton];omega
theorem Uz {S S':κ->Bool}{n':Nat}(x:h.SetOf knd a S n)(e:∀ k,S k=S' k)(en:n=n'):h.SetOf knd a S' n':=by cases (funext e:S=S');cases en;exact x
theorem JB {h':Heap}{S:κ->Bool}(x:h.SetOf knd a S n)(e:∀ o,h.get? a=some o->h'.get? a=some o):h'.SetOf knd a S n:=by obtain ⟨o,es,ep,t,ho,r⟩:=x;exact ⟨o,es,ep,t,e _ ho,r⟩
theorem MD {R:Result->Shared->Prop}{I:Addr}{fp wr:List Addr}{G:Array GenState->Array GenState->Prop}{Pp:Nat->Value->Prop}{St:Nat->Shared->Prop}(W:WalksS P w A.in1 I fp wr G n Pp St)(a:Addr)(ha:a∉fp)(val:Nat->κ)(hv:∀ i v,Pp i v->knd.is (val i) v=true/\v.scannable=true)(hb:n+1<scanBound):∀ (m i:Nat) (s:Shared),n-i=m->i<=n->St i s->s.heap.SetOf knd a (λx=>decide (x∈b7 val i)) (b7 val i).length -> (∀ s',Moved (a::wr) G s s'->s'.heap.SetOf knd a (λx=>decide (x∈b7 val n)) (b7 val n).length->R (.ok (.ret .none)) s') -> codeAny (model P w) A (.builtin "set.update.loop" ⟨[.ref a,.ref I],[]⟩) R s:=by
 have haw:a∉wr:=λz=>ha (W.sub _ z);have up:∀ b∈wr,b∈a::wr:=λb z=>yO _ z;intro m
 induction m with
 |zero =>
  intro i s hm hi st hS hR;obtain rfl:i=n:=by omega
  refine codeAny_builtin PyProof.Rows.F.entry_set_update_loop ?_;rw [Around.under_plainId PyProof.Rows.F.plain_set_update_loop _];show wpAny _ A.in1 (pyNext (.ref I) >>= _) _ _ s;refine yW (W.done s _ _ st λs' mv=>?_);show wpAny _ A.in1 (ret Value.none) _ _ s';exact yJ (hR s' (mv.mono up) (JB hS λo e=>mv.heap a o haw e))
 |succ m ih =>
  intro i s hm hi st hS hR;have hlt:i<n:=by omega
  refine codeAny_builtin PyProof.Rows.F.entry_set_update_loop ?_;rw [Around.under_plainId PyProof.Rows.F.plain_set_update_loop _];show wpAny _ A.in1 (pyNext (.ref I) >>= _) _ _ s;refine yW (W.item i s _ _ hlt st λv s' hP st' mv=>?_);obtain ⟨hk,hsc⟩:=hv i v hP;have hS':s'.heap.SetOf knd a (λx=>decide (x∈b7 val i)) (b7 val i).length:=JB hS λo e=>mv.heap a o haw e;show wpAny _ A.in1 (holding [v] (setAdd a v) >>= _) _ _ s';refine yW (wpAny_holding ?_);unfold setAdd;refine wpAny_holding (yW (knd.pyHash (k:=val i) hk ?_));have room:(b7 val i).length+1<scanBound:=by have:=Ux val i;omega
  refine wpAny_setAddHashed_of (knd:=knd) (s:={ s' with toks:=s'.toks+1 }) hk hsc hS' room λh' sb hS2=>?_;have hSi:h'.SetOf knd a (λx=>decide (x∈b7 val (i+1))) (b7 val (i+1)).length:=by
   refine Uz hS2 (λx=>?_) ?_
   ·by_cases hc:val i∈b7 val i
    ·rw [show b7 val (i+1)=b7 val i from if_pos hc];by_cases hx:x=val i
     ·subst hx;simp [hc]
     ·simp [hx]
    ·rw [show b7 val (i+1)=b7 val i++[val i] from if_neg hc];simp
   ·by_cases hc:val i∈b7 val i
    ·rw [show b7 val (i+1)=b7 val i from if_pos hc];simp [hc]
    ·rw [show b7 val (i+1)=b7 val i++[val i] from if_neg hc];simp [hc]
  refine yJ ⟨plainId_quiet PyProof.Rows.F.plain_set_update_loop _,ih (i+1) _ (by omega) hlt (W.frame _ s' _ _ st' (uz _) λb z o e=>?_) hSi λs2 mv2 hS3=>?_⟩
  ·rw [sb.2 b (λq:b=a=>ha (by rw [<- q];exact z))];exact e
  ·refine hR s2 (Moved.trans W.gtrans ((mv.mono up).then_heap (uz _) λb o z e=>?_) mv2) hS3;rw [sb.2 b (λq:b=a=>z (by rw [q];exact yR))];exact e
theorem Kb {E:Value->Shared->Prop}{s:Shared}{l:Addr}{its:Array Value}{val:Nat->κ}{Q:Value->Shared->Prop}(hh:A.handled=none)(hl:s.heap.IsList l its)(hv:∀ (i:Nat) (v:Value),its[i]?=some v->knd.is (val i) v=true/\v.scannable=true)(hb:its.size+1<scanBound)(h:∀ (h':Heap) (tk:Nat),h'.SetOf knd s.heap.objs.size (λx=>decide (x∈b7 val its.size)) (b7 val its.size).length -> (∀ b o,s.heap.get? b=some o->h'.get? b=some o)->Q (.ref s.heap.objs.size) { s with heap:=h',toks:=tk }):wpAny (model P w) A (call (.type "set") [.ref l]) Q E s:=by
 obtain ⟨c,tl,hmro⟩:=PySem.F.called_set.mro;have hmade:=PySem.F.called_set.made;have hsub:=PySem.F.called_set.sub;refine wpAny_call (codeAny_of_tree ?_);show wpAny _ _ (callAny (.type "set") _) _ _ _;refine yJ ⟨Code.quiet_builtin _ (by decide +kernel),codeAny_builtin PySem.F.entry_type_call ?_⟩;rw [Around.under_plain (weight_type_call_type "set" [.ref l] []) rfl];have q1:=PySem.F.called_set.notType;have q2:=PySem.F.called_set.canCreate;have q3:=PySem.F.typeCall_set_1 (.ref l)
 (repeat (any_goals (first|assumption|wp_step)))
 refine codeAny_mono (code_set_new_1 (.ref l) (E:=E) (Q₁:=λob s1=>∃ led:Bool,ob = .ref s.heap.objs.size/\s1={ s with heap:=s.heap.push { cls:= .type "set",dict:=none,data:= .set #[] 0 (.fresh 0 0 led) } }) λled=>⟨led,rfl,rfl⟩) λr s1 hr=>?_;cases r with
 |error e=>exact hr
 |ok fl =>
  cases fl with
  |ret ob =>
   obtain ⟨led,rfl,rfl⟩:=hr;have hS:(s.heap.push { cls:= .type "set",dict:=none,data:= .set #[] 0 (.fresh 0 0 led) }).get? s.heap.objs.size=some { cls:= .type "set",dict:=none,data:= .set #[] 0 (.fresh 0 0 led) }:=yG _ rfl;have hT:Shared.TypeIs { s with heap:=s.heap.push { cls:= .type "set",dict:=none,data:= .set #[] 0 (.fresh 0 0 led) } } (.ref s.heap.objs.size) "set":=⟨_,hS,rfl⟩;have hli:=PySem.F.called_set.init.lookup;have hbi:=PySem.F.called_set.init.bind (.ref s.heap.objs.size)
   (repeat (any_goals (first|assumption|wp_step)))
   refine codeAny_mono (codeAny_call_builtin (R:=wants (λr s2=>r = .none/\∃ h' tk,s2={ s with heap:=h',toks:=tk }/\h'.SetOf knd s.heap.objs.size (λx=>decide (x∈b7 val its.size)) (b7 val its.size).length /\
     (∀ b o,s.heap.get? b=some o->h'.get? b=some o)) E) PySem.F.called_set.init.plain PySem.F.entry_set_init (check_set_init_1 hT ?_)) λr2 s2 hr2=>?_
   ·obtain ⟨ol,hol,hcl,nl,hdl⟩:=hl;obtain ⟨ocls,odict,odata,oslots⟩:=ol;simp only at hcl hdl;subst hcl;subst hdl;have hol':(s.heap.push { cls:= .type "set",dict:=none,data:= .set #[] 0 (.fresh 0 0 led) }).get? l=some { cls:= .type "list",dict:=odict,data:= .seq its nl,slots:=oslots }:=yX _ hol;have z1:=PySem.F.sub_list_set;have z2:=PySem.F.sub_list_frozenset;have z3:(Value.type "list" == Value.type "dict")=false:=by decide
    have hl1:(s.heap.push { cls:= .type "set",dict:=none,data:= .set #[] 0 (.fresh 0 0 led) }).IsList l its:=⟨_,hol',rfl,nl,rfl⟩;unfold Builtin.«set.__init__» noKeywords Builtin.Frozenset.updateFrom;generalize hPI:pyIter=PI
    wp_walk
    subst hPI;refine wpAny_pyIter_list hl1 ?_;refine yW (wpAny_runValue ?_);have hlS:l<s.heap.objs.size:=yS hol;have h3:A.in1.in1.in1.handled=none:=by simp [hh]
    have ne1:l≠(s.heap.push { cls:= .type "set",dict:=none,data:= .set #[] 0 (.fresh 0 0 led) }).objs.size:=by rw [uS];exact yL (ur hlS)
    have ne2:s.heap.objs.size∉[(s.heap.push { cls:= .type "set",dict:=none,data:= .set #[] 0 (.fresh 0 0 led) }).objs.size,l]:=by rw [uS];simp only [yK,yd,or_false,not_or];exact ⟨yL (uF _),Nat.ne_of_gt hlS⟩
    refine MD (knd:=knd) ((Walks.list h3 _ l ne1 its).toS) s.heap.objs.size ne2 val hv hb (its.size-0) 0 _ (by omega) (ye _) ⟨⟨_,yG _ rfl,rfl,rfl⟩,(hl1.push _)⟩ ?_ ?_
    ·have hg:((s.heap.push { cls:= .type "set",dict:=none,data:= .set #[] 0 (.fresh 0 0 led) }).push { cls:= .type "list_iterator",data:= .fields #[.ref l,.int 0 0] }).get? s.heap.objs.size=some { cls:= .type "set",dict:=none,data:= .set #[] 0 (.fresh 0 0 led) }:=yX _ hS;exact Uz ((PyProof.Rows.setObjOf_fresh (knd:=knd) led).setOf hg (by unfold scanBound;omega)) (λx=>by simp [b7]) rfl
    ·rintro ⟨h',g',d',tk',os'⟩ mv hS';have eg:g'=s.gens:=mv.gens;have ed:d'=s.drawn:=mv.drawn;have eo:os'=s.os:=mv.os;subst eg ed eo;show wpAny _ _ _ _ _ _;refine yJ ?_;show wpAny _ _ (ret Value.none) _ _ _;refine yJ ⟨rfl,h',tk',rfl,hS',λb o e=>?_⟩;have hb0:=yS e;refine mv.heap b o ?_ (yX _ (yX _ e));rw [uS];simp only [yK,yd,or_false,not_or];exact ⟨yL hb0,yL (ur hb0)⟩
   ·cases r2 with
    |error e=>exact hr2
    |ok fl2 =>
     cases fl2 with
     |ret r =>
      obtain ⟨rfl,h',tk,rfl,hS',hk'⟩:=hr2
      (repeat (any_goals (first|assumption|wp_step)))
      exact h _ _ hS' hk'
     |_=>exact False.elim hr2
  |_=>exact False.elim hr
end
def jg (n:Nat)(a:Addr):HO:= .ext λh=>∃(P:Program)(w:World)(S:z5->Bool),h.SetOf (i8 P w) a S n
section
variable {X:Cx}
theorem LK {ss:List Str}{us:List Value}(r:Vals (ss.map V.str) us):∀(i:Nat)(v:Value),us[i]?=some v->∃ x t,ss[i]?=some x/\v = .str x t:=by
 have key:∀(ss:List Str)(us:List Value),Vals (ss.map V.str) us->∀(i:Nat)(v:Value),us[i]?=some v->∃ x t,ss[i]?=some x/\v = .str x t:=by
  intro ss
  induction ss with
  |nil=>intro us r i v e;cases r;simp at e
  |cons s ss ih =>
   intro us r i v e;cases r with
   |cons p q =>
    cases i with
    |zero=>obtain ⟨t,rfl⟩:=p;simp at e;exact ⟨s,t,rfl,e.symm⟩
    |succ i=>exact ih _ q i v (by simpa using e)
 intro i v e;exact key ss us r i v e
theorem Ka (hc:X.calm=true):CallR X (.type "set") (λxs H Q=>∃ (a:Addr) (ss:List Str),xs=[.ref a]/\SqL X.K H a (ss.map V.str)/\ss.length<=1000 /\ ∀ l,H l=none->Q (.ref l) (z6 H l (jg (b7 (λi=>(Sum.inr (ss.getD i ⟨#[]⟩):z5)) ss.length).length l))):=by
 intro pins s σ H xs us Q I r h;obtain ⟨a,ss,rfl,hq,hl,q⟩:=h;obtain ⟨u,rfl,ru⟩:=qY r;obtain rfl:u=Value.ref a:=ru;obtain ⟨its,rv,p,hz⟩:=I.list hq;have hn:its.length=ss.length:=by have e:=rv.length;rw [yZ] at e;exact e.symm
 refine Kb (knd:=i8 X.prog X.w) (its:=its.toArray) (val:=λi=>(Sum.inr (ss.getD i ⟨#[]⟩):z5)) (I.ok.hd hc) p.isList (λi v e=>?_) (by rw [yY,hn];unfold scanBound;omega) λh' tk hS k=>?_
 ·obtain ⟨x,t,hx,rfl⟩:=LK rv i v (by simpa using e);rw [yF,hx];exact ⟨Zc _ _ _ _,rfl⟩
 ·have e8:its.toArray.size=ss.length:=by rw [yY];exact hn
  rw [e8] at hS;refine ⟨.ref s.heap.objs.size,_,I.laid (t':=tk) k (yU _) (show ObjOk X.prog X.w _ h' _ (jg _ _) from ⟨⟨_,_,_,hS⟩,?_,?_⟩),rfl,q _ (I.hok.fresh (yU _))⟩
  ·obtain ⟨o,_,_,_,ho,_⟩:=hS;exact ⟨o,ho⟩
  ·rintro h1 h2 ⟨P,w,S,x⟩ e;exact ⟨P,w,S,JB x e⟩
theorem GS:CallR X (.builtin "len") (λxs H Q=>∃ (a:Addr) (n:Nat),xs=[.ref a]/\H a=some (jg n a)/\Q (.int n) H):=by
 intro pins s σ H xs us Q I r h;obtain ⟨a,n,rfl,hq,q⟩:=h;obtain ⟨u,rfl,ru⟩:=qY r;obtain rfl:u=Value.ref a:=ru;obtain ⟨⟨P,w,S,o,es,ep,t,ho,hex,hd,_,_,hb,hf,hn⟩,_⟩:=(show ObjOk X.prog X.w H s.heap a (jg n a) from I.hok a _ hq);subst hn;have h63:((es.size:Nat):Int)<2 ^ 63:=by unfold scanBound at hb;omega
 exact call_len_set ho hex hd hf h63 ⟨.int es.size,H,I.tok _,⟨_,rfl⟩,q⟩
end
end L2
namespace L2
open PySem PySem.Spec PySem.Calls PyProof.Rows
variable{ns:List Int}{f:Nat->Int}{K:Fg}{ss:List Str}{P:Program}{w:World}{vs:List Value}{A:Around}{E Q:Value->Shared->Prop}{s:Shared}
section
variable {X:Cx}
theorem Yf {its:List Value}(rv:Vals (ns.map V.int) its):∃ xs:Array (Int×Tok),its.toArray=intItems xs/\xs.size=ns.length/\∀ i,i<ns.length->numAt xs i=ns.getD i 0:=by
 have hi:=JU rv;obtain ⟨xs,ex⟩:=hi.allInts.items;have hl:xs.size=ns.length:=by
  have e:its.toArray.size=xs.size:=by rw [ex];unfold intItems;rw [Array.size_map]
  have e2:=rv.length;rw [yZ] at e2;rw [yY] at e;omega
 refine ⟨xs,ex,hl,λi h=>?_⟩;have hx:i<xs.size:=by omega
 have e1:its.toArray[i]?=some (.int xs[i].1 xs[i].2):=by rw [ex];unfold intItems;rw [Array.getElem?_map,uA hx];rfl
 have e2:its[i]?=some (.int xs[i].1 xs[i].2):=by simpa using e1
 obtain ⟨t,e3⟩:=IntsAre.int_at hi i _ e2;injection e3 with e3 _;unfold numAt;rw [uA hx];exact e3
def Ub (K:Fg):List V->Hp->VK->Prop:=λxs H Q=>∃(a:Addr)(ns:List Int),xs=[.ref a]/\SqL K H a (ns.map V.int)/\ns≠[]/\∀ m,m∈ns->(∀ x∈ns,m<=x)->Q (.int m) H
theorem Wb {k:Nat}(hf:∀ i,i<ns.length->f i=ns.getD i 0)(hk:k<ns.length):f k∈ns:=by rw [hf k hk,yF,yV hk];exact yu hk
theorem Wa {R:Int->Prop}(hf:∀ i,i<ns.length->f i=ns.getD i 0)(h:∀ j,j<ns.length->R (f j)):∀ x∈ns,R x:=by intro x hx;obtain ⟨j,hj,rfl⟩:=uN hx;have:=h j hj;rw [hf j hj,yF,yV hj] at this;exact this
theorem GY (hc:X.calm=true)(hK:X.K=K):CallR X (.builtin "min") (Ub K):=by subst hK;intro pins s σ H xs us Q I r h;obtain ⟨a,ns,rfl,hq,hne,q⟩:=h;obtain ⟨u,rfl,ru⟩:=qY r;obtain rfl:u=Value.ref a:=ru;obtain ⟨its,rv,p,hz⟩:=I.list hq;obtain ⟨ys,ey,el,en⟩:=Yf rv;have hl:s.heap.IsList a its.toArray:=p.isList;rw [ey] at hl;have hp:0<ns.length:=uu.mpr hne;refine min_intList (I.ok.hd hc) hl (by omega) λv h' tk hv k=>?_;obtain ⟨t,rfl⟩:=intItems_at hv;obtain ⟨h1,h2⟩:=argBest_lt (numAt ys) (ys.size-1);exact ⟨.int _,H,I.kept (t':=tk) k,⟨t,rfl⟩,q _ (Wb en (by omega)) (Wa en λj hj=>h2 j (by omega))⟩
def Qb (ss:List Str):Prop:=ss.Pairwise λx y=>¬ (y.cps.toList<x.cps.toList)
theorem UD (h:sortedS ss=true):Qb ss:=by
 cases ss with
 |nil=>exact List.Pairwise.nil
 |cons x r =>
  have key:∀(l:List Str)(p:Str),risingS p l=true->(p::l).Pairwise λx y=>¬ (y.cps.toList<x.cps.toList):=by
   intro l
   induction l with
   |nil=>intro p _;exact List.pairwise_singleton _ _
   |cons y l ih =>
    intro p hp;have hp':(!ltCps y.cps.toList p.cps.toList&&risingS y l)=true:=hp;rw [uX] at hp';have i2:=ih y hp'.2;have hyp:¬ (y.cps.toList<p.cps.toList):=by have e:=hp'.1;rw [ltCps_eq] at e;simpa using e
    refine List.pairwise_cons.mpr ⟨λz hz=>?_,i2⟩;rcases yK.mp hz with rfl|hz
    ·exact hyp
    ·have hzy:=(List.pairwise_cons.mp i2).1 z hz;intro hlt;exact hyp (Std.lt_of_le_of_lt (Std.not_lt.mp hzy) hlt)
  exact key r x h
def Uf (K:Fg):List V->Hp->VK->Prop:=λxs H Q=>∃(a:Addr)(ss:List Str),xs=[.ref a]/\(SqL K H a (ss.map V.str)∨∃ kvs,Rd H a (.dK kvs)/\kvs.map (·.1)=ss.map Sum.inr)/\ss.length<64 /\
 ∀ l ss',H l=none->ss'.Perm ss->Qb ss'->Q (.ref l) (z6 H l (.lst (ss'.map V.str)))
theorem UH:∀{ss:List Str}{us:List Value},Vals (ss.map V.str) us->StrsAre us ss
 |[],_,.nil=> .nil
 |x::_,_,.cons ⟨t,e⟩ r=>by subst e;exact .cons x t (UH r)
theorem JV:∀{us:List Value}{ss:List Str},StrsAre us ss->Vals (ss.map V.str) us
 |_,_,.nil=> .nil
 |_,_,.cons x t r=> .cons ⟨t,rfl⟩ (JV r)
theorem BE:∀{kvs:List (z5×V)}{vs:List (z5×Value)}{ss:List Str},KV kvs vs->kvs.map (·.1)=ss.map Sum.inr->vs.map (·.1)=ss.map Sum.inr:=by
 intro kvs vs ss r e;rw [<- e];clear e
 induction r with
 |nil=>rfl
 |cons p _ ih=>rw [yM,yM,ih,p.1]
theorem Br {vs:List (z5×Value)}{acc:Array Value}(e:vs.map (·.1)=ss.map Sum.inr)(h:ItemsOf (λi v=>∃ k x,vs[i]?=some (k,x)/\(i8 P w).is k v=true) acc vs.length):StrsAre acc.toList ss:=by
 have hl:vs.length=ss.length:=by have:=congrArg List.length e;rwa [yZ,yZ] at this
 have h0:∀ v∈acc.toList,∃ x t,v = .str x t:=by
  intro v hv;obtain ⟨i,hi,rfl⟩:=uN hv;obtain ⟨k,x,hk,his⟩:=h.2 i acc.toList[i] (by simp at hi ⊢);have hk2:(vs.map (·.1))[i]?=some k:=by rw [yP,hk];rfl
  rw [e,yP] at hk2;obtain ⟨z,_,rfl⟩:=yI.mp hk2;cases hv2:acc.toList[i] with
  |str y t=>exact ⟨y,t,rfl⟩
  |_=>rw [hv2] at his;cases his
 have h1:=strsAre_map acc.toList h0;have e2:acc.toList.map strOf=ss:=by
  apply List.ext_getElem?;intro i;rw [yP];by_cases hi:i<acc.size
  ·obtain ⟨k,x,hk,his⟩:=h.2 i acc[i] (uA hi);have hk2:(vs.map (·.1))[i]?=some k:=by rw [yP,hk];rfl
   rw [e,yP] at hk2;obtain ⟨z,hz,rfl⟩:=yI.mp hk2;obtain ⟨y,t,hy⟩:=h0 acc[i] (by simp);rw [hy] at his;have:y=z:=by have q:jt (Sum.inr z) (.str y t)=true:=his;have q2:=Yk y t;have q3:=(i8 P w).inj (.str y t) (Sum.inr z) (Sum.inr y) his (Zc P w y t);injection q3 with q3;exact q3.symm
   rw [hz,Array.getElem?_toList,uA hi,hy,<- this];rfl
  ·have h1:=h.1;rw [List.getElem?_eq_none (by simp;omega),List.getElem?_eq_none (by omega)];rfl
 rw [e2] at h1;exact h1
theorem LP (hS:StrsAre vs ss)(h64:vs.length<64)(h:∀ (h':Heap) (out:List Value) (ss':List Str) (e:Nat),(∀ b o,s.heap.get? b=some o->h'.get? b=some o)->h'.get? s.heap.objs.size=some (seqObj "list" out.toArray e)->StrsAre out ss'->ss'.Perm ss->sortedS ss'=true->Q (.ref s.heap.objs.size) { s with heap:=h' }):wpAny (model P w) A (newList vs >>= λl=>holding [l] (call (.builtin "list.sort") [l]) >>= λ_=>pure l) Q E s:=by
 refine yW (wpAny_newList ?_);have ho:(s.heap.push (seqObj "list" vs.toArray 0)).get? s.heap.objs.size=some (seqObj "list" vs.toArray 0):=yG _ rfl;refine yW (wpAny_holding (wpAny_call_entry slot_list_sort (s:={ s with heap:=s.heap.push (seqObj "list" vs.toArray 0) }) ⟨_,ho,rfl⟩ entry_list_sort
  (list_sort_treeK strKind_oneLt (s:={ s with heap:=s.heap.push (seqObj "list" vs.toArray 0) }) ho hS.keysOf (λv1 v2 rest e=>keyKind_strs (by rw [<- e];exact hS)) h64 λst p1 p2=>⟨_,rfl,?_⟩) (args_list_sort _)))
 obtain ⟨ss',a1,a2,a3⟩:=sorted_out_str hS p1 p2;obtain ⟨e,he⟩:=sortedHeap_at (out:=(arrOf st).map (·.2)) ho;refine yJ (h _ _ ss' e (λb o hb=>?_) (by rw [Array.toArray_toList];exact he) a1 a2 a3);have hlt:=yS hb;rw [sortedHeap_old (yL hlt) (by rw [uS];exact ur hlt)];exact yX _ hb
theorem MJ (hS:StrsAre vs ss)(h64:vs.length<64)(h:∀ (h':Heap) (out:List Value) (ss':List Str) (e:Nat),(∀ b o,s.heap.get? b=some o->h'.get? b=some o)->h'.get? s.heap.objs.size=some (seqObj "list" out.toArray e)->StrsAre out ss'->ss'.Perm ss->sortedS ss'=true->Q (.ref s.heap.objs.size) { s with heap:=h' }):wpAny (model P w) A (newList vs >>= λl=>holding [l] (call (.builtin "list.sort") [l] []) >>= λ_=>ret l) (λfin s'=>∃ v,fin=PySem.Fin.done (.ret v)/\Q v s') E s:=by
 refine yW (wpAny_newList ?_);have ho:(s.heap.push (seqObj "list" vs.toArray 0)).get? s.heap.objs.size=some (seqObj "list" vs.toArray 0):=yG _ rfl;refine yW (wpAny_holding (wpAny_call_entry slot_list_sort (s:={ s with heap:=s.heap.push (seqObj "list" vs.toArray 0) }) ⟨_,ho,rfl⟩ entry_list_sort
  (list_sort_treeK strKind_oneLt (s:={ s with heap:=s.heap.push (seqObj "list" vs.toArray 0) }) ho hS.keysOf (λv1 v2 rest e=>keyKind_strs (by rw [<- e];exact hS)) h64 λst p1 p2=>⟨_,rfl,?_⟩) (args_list_sort _)))
 obtain ⟨ss',a1,a2,a3⟩:=sorted_out_str hS p1 p2;obtain ⟨e,he⟩:=sortedHeap_at (out:=(arrOf st).map (·.2)) ho;refine yJ ⟨_,rfl,h _ _ ss' e (λb o hb=>?_) (by rw [Array.toArray_toList];exact he) a1 a2 a3⟩;have hlt:=yS hb;rw [sortedHeap_old (yL hlt) (by rw [uS];exact ur hlt)];exact yX _ hb
theorem Kc (hc:X.calm=true)(hK:X.K=K):CallR X (.builtin "sorted") (Uf K):=by
 subst hK;intro pins s σ H xs us Q I r h;obtain ⟨a,ss,rfl,hq,h64,q⟩:=h;obtain ⟨u,rfl,ru⟩:=qY r;obtain rfl:u=Value.ref a:=ru;rcases hq with hq|⟨kvs,hq,hk⟩
 ·obtain ⟨its,rv,p,hz⟩:=I.list hq;have hS:=UH rv;have hl:its.length=ss.length:=by have e:=rv.length;rw [yZ] at e;exact e.symm
  refine sorted_strs p.isList hS (by omega) λout ss' a1 a2 a3=>?_;obtain ⟨e,he⟩:=sortedAll_at s.heap its out;refine ⟨.ref _,_,I.laid (t':=s.toks) (o:= .lst (ss'.map V.str)) (λb o hb=>sortedAll_old hb) (uz _) ?_,rfl,q _ ss' (I.hok.fresh (uz _)) a2 (UD a3)⟩;exact ⟨by rw [yZ,a2.length_eq];exact uV (vD (by omega)),out.toList,e,JV a1,by simpa [seqObj] using he⟩
 ·obtain ⟨z,hd,vs,rel,dd⟩:=jm I.hok hq;obtain ⟨ep,hat⟩:=dd.dictAt;have ek:=BE rel hk;have hvl:vs.length=ss.length:=by have:=congrArg List.length ek;rwa [yZ,yZ] at this
  refine Calls.call_function_entry (id:="sorted") kind_sorted plain_sorted entry_sorted (args_sorted1 _) ?_;unfold Builtin.«sorted»;refine yW (m:=checkCount "sorted" 1 1 _) (yJ ?_);refine yW (PySem.W.kdu_collect (PySem.W.kdl_dict (knd:=i8 X.prog X.w) (kvs:=vs) (ep:=ep) hd) (by simpa using I.ok.hd hc) hat (uV (vD (by omega))) λh1 tk acc k1 hacc=>?_);have hS:=Br ek hacc;have hal:acc.toList.length=ss.length:=by have:=hacc.1;simp;omega
  refine MJ (s:={ s with heap:=h1,toks:=tk }) hS (by omega) λh' out ss' e k2 he a1 a2 a3=>?_;have I1:Inv X pins σ H { s with heap:=h1,toks:=tk }:=I.kept (t':=tk) k1;refine ⟨.ref _,_,I1.laid (t':=tk) (o:= .lst (ss'.map V.str)) k2 (yU _) ?_,rfl,q _ ss' (I1.hok.fresh (yU _)) a2 (UD a3)⟩;exact ⟨by rw [yZ,a2.length_eq];exact uV (vD (by omega)),out,e,JV a1,he⟩
end
end L2
namespace L2
open PySem PySem.Spec PySem.Calls
variable{a:Addr}{its:Array Value}{n:Nat}
section
variable {P:Program}{w:World}{A:Around}{E:Value->Shared->Prop}
theorem BO:typeLookup (.type "list") "keys"=pure none:=am_miss_of_fast (by kernel_rfl)
theorem BN:typeLookup (.type "list") "__getattr__"=pure none:=am_miss_of_fast (by kernel_rfl)
theorem KK {hp:Heap}{g:Array GenState}{d:Drawn}{tk:Nat}{os:_}{u:Tok}{Q:PySem.Fin->Shared->Prop}(ho:hp.get? a=some { cls:= .type "list",data:= .seq its n })(hh:A.handled=none)(h:∀ h' tk' e,Heap.NewAttrErr hp h' e (.ref a) "keys"->E (.ref e) ⟨h',g,d,tk',os⟩):wpAny (model P w) A (Builtin.«object.__getattribute__» ⟨[.ref a,.str "keys" u],[]⟩) Q E ⟨hp,g,d,tk,os⟩:=by
 have hT:(⟨hp,g,d,tk,os⟩:Shared).TypeIs (.ref a) "list":=⟨_,ho,rfl⟩;have f0:=BO;unfold Builtin.«object.__getattribute__»
 (repeat (any_goals (first|assumption|wp_step)))
 exact wpAny_raiseAttrError (s:=⟨hp,g,d,tk,os⟩) hh h (attrMsg_fits (by decide +kernel) (by decide +kernel))
theorem Gy {s:Shared}{Q:Option Value->Shared->Prop}(ho:s.heap.get? a=some { cls:= .type "list",data:= .seq its n })(hh:A.handled=none)(h:∀ h' tk,(∀ b o,s.heap.get? b=some o->h'.get? b=some o)->Q none { s with heap:=h',toks:=tk }):wpAny (model P w) A (getAttr? (.ref a) "keys") Q E s:=by
 obtain ⟨hp,g,d,tk,os⟩:=s;have hT:∀ t',(⟨hp,g,d,t',os⟩:Shared).TypeIs (.ref a) "list":=λ_=>⟨_,ho,rfl⟩;have f1:=sub_AttributeError;have f2:=PySem.F.slot_list_getattribute.lookup;have f3:=PySem.F.slot_list_getattribute.bind (.ref a);have f5:=BN;unfold getAttr? getAttrBy? getAttrBy
 (repeat (any_goals (first|assumption|exact hT _|wp_step)))
 refine codeAny_call_builtin PySem.F.slot_list_getattribute.plain PySem.F.entry_list_ga (PySem.F.slot_list_getattribute.check _ _ _ _ _ _ _ _ (hT _) (PySem.F.args_list_getattribute_2 _ _) (KK ho (by simpa using hh) λh' tk' e hx=>?_));obtain ⟨t',u',he⟩:=hx.there;have hk:=hx.keeps;show wpAny _ _ (getattributeRaised _ _ _ _ _ _ _) _ _ _;unfold getattributeRaised
 (repeat (any_goals (first|assumption|wp_step)))
 exact h _ _ hk
end
end L2
namespace L2
open PySem PySem.Spec PySem.Calls PyProof.Rows
variable{s:Shared}{Q:Value->Shared->Prop}{K:Fg}{A:Around}
theorem GI:bootBuiltins "set"=some (.type "set"):=by decide +kernel
section
variable {P:Program}{w:World}{A:Around}{R:Result->Shared->Prop}{I:Addr}{fp wr:List Addr}{n:Nat}{Pp:Nat->Value->Prop}{St:Nat->Heap->Prop}
abbrev dfl:List (Str×Value):=[(Str.ofString "default",Value.none)]
theorem Pa (W:Walks P w A.in1 I fp wr n Pp St)(bt:Nat->Nat->Bool)(hcmp:CmpOf P w A.in1 .Gt Pp bt)(a:Addr)(ha:a∉fp):∀ (m j:Nat) (s:Shared) (vb:Value) (c:Nat),n-(j+1)=m->j+1<=n->St (j+1) s.heap->Pp (argBest bt j) vb -> s.heap.get? a=some { cls:= .type "list",dict:=none,data:= .seq #[vb,vb] c,slots:=#[] } -> (∀ v h' tk,Pp (argBest bt (n-1)) v->(∀ b o,b∉wr->b≠a->s.heap.get? b=some o->h'.get? b=some o)->R (.ok (.ret v)) { s with heap:=h',toks:=tk }) -> codeAny (model P w) A (.builtin "max.loop" ⟨[.ref I,.none,.ref a],dfl⟩) R s:=by
 have haw:a∉wr:=λz=>ha (W.sub _ z);have nm:(toString "max"++toString ".loop":String) = "max.loop":=by decide
 intro m
 induction m with
 |zero =>
  intro j s vb c hm hj st hP hS hR;have hin:j+1=n:=by omega
  refine codeAny_builtin PySem.F.entry_max_loop ?_;rw [Around.under_plainId PySem.F.plain_max_loop _];show wpAny _ A.in1 (seqItems? (.ref a) >>= _) _ _ s;refine yW (wpAny_seqItems hS rfl ?_);show wpAny _ A.in1 (tryCatch (pyNext (.ref I)) _ >>= _) _ _ s;refine yW (wpAny_tryCatch (W.done s _ _ (hin▸st) λh' tk kk=>?_));have hS':=kk a _ haw hS;show wpAny _ A.in1 (updateSeq a (λ_=>#[]) >>= _) _ _ _;refine yW (wpAny_updateSeq hS' rfl (yW (wpAny_letGo (yJ ?_))));exact hR vb _ tk (by rw [<- hin];exact hP) λb o z1 z2 e=>(yi _ _ (Ne.symm z2)).trans (kk b o z1 e)
 |succ m ih =>
  intro j s vb c hm hj st hP hS hR;have hlt:j+1<n:=by omega
  refine codeAny_builtin PySem.F.entry_max_loop ?_;rw [Around.under_plainId PySem.F.plain_max_loop _];show wpAny _ A.in1 (seqItems? (.ref a) >>= _) _ _ s;refine yW (wpAny_seqItems hS rfl ?_);show wpAny _ A.in1 (tryCatch (pyNext (.ref I)) _ >>= _) _ _ s;refine yW (wpAny_tryCatch (W.item (j+1) s _ _ hlt st λv h' tk hPv st' kk=>?_));have hS':=kk a _ haw hS;show wpAny _ A.in1 (tryCatch (holding [v,v] (richCompare .Gt v vb >>= _)) _ >>= _) _ _ _;refine yW (wpAny_tryCatch (wpAny_holding (yW (hcmp (j+1) (argBest bt j) v vb _ _ _ hPv hP (yW (wpAny_holding (wpAny_truthy_bool (yW (wpAny_letGo (yJ ?_))))))))));cases hb:bt (j+1) (argBest bt j) with
  |true =>
   simp only [if_true];refine yW (wpAny_updateSeq hS' rfl (yW (wpAny_letGo ?_)));rw [nm];refine yJ ⟨plainId_quiet PySem.F.plain_max_loop _,ih (j+1) _ v _ (by omega) hlt (W.frame _ _ _ st' λb z o e=>?_) (by simp only [argBest,hb,if_true];exact hPv) (uD _ hS' rfl) λv' h2 tk2 hP2 k2=>?_⟩
   ·exact (yi _ _ (λq:a=b=>ha (by rw [q];exact z))).trans e
   ·exact hR v' h2 tk2 hP2 λb o z1 z2 e=>k2 b o z1 z2 ((yi _ _ (Ne.symm z2)).trans (kk b o z1 e))
  |false=>simp only [uL,if_false];refine yW (wpAny_letGo ?_);rw [nm];refine yJ ⟨plainId_quiet PySem.F.plain_max_loop _,ih (j+1) _ vb c (by omega) hlt st' (by simp only [argBest,hb,uL,if_false];exact hP) hS' λv' h2 tk2 hP2 k2=>?_⟩;exact hR v' h2 tk2 hP2 λb o z1 z2 e=>k2 b o z1 z2 (kk b o z1 e)
theorem BZ (W:Walks P w A.in1 I fp wr n Pp St)(bt:Nat->Nat->Bool)(hcmp:CmpOf P w A.in1 .Gt Pp bt)(a:Addr)(ha:a∉fp){c:Nat}(st:St 0 s.heap)(hS:s.heap.get? a=some { cls:= .type "list",dict:=none,data:= .seq #[] c,slots:=#[] })(hR:∀ v h' tk,(if n=0 then v = .none else Pp (argBest bt (n-1)) v)->(∀ b o,b∉wr->b≠a->s.heap.get? b=some o->h'.get? b=some o)->R (.ok (.ret v)) { s with heap:=h',toks:=tk }):codeAny (model P w) A (.builtin "max.loop" ⟨[.ref I,.none,.ref a],dfl⟩) R s:=by
 have haw:a∉wr:=λz=>ha (W.sub _ z);have nm:(toString "max"++toString ".loop":String) = "max.loop":=by decide
 refine codeAny_builtin PySem.F.entry_max_loop ?_;rw [Around.under_plainId PySem.F.plain_max_loop _];show wpAny _ A.in1 (seqItems? (.ref a) >>= _) _ _ s;refine yW (wpAny_seqItems hS rfl ?_);show wpAny _ A.in1 (tryCatch (pyNext (.ref I)) _ >>= _) _ _ s;by_cases hn:n=0
 ·subst hn;refine yW (wpAny_tryCatch (W.done s _ _ st λh' tk kk=>?_));show wpAny _ A.in1 (rule _ >>= _) _ _ _;refine yW (wpAny_rule ?_);exact yJ (hR .none h' tk (by rw [if_pos rfl]) λb o z1 _ e=>kk b o z1 e)
 ·refine yW (wpAny_tryCatch (W.item 0 s _ _ (by omega) st λv h' tk hPv st' kk=>?_));have hS':=kk a _ haw hS;show wpAny _ A.in1 (updateSeq a (λ_=>#[v,v]) >>= _) _ _ _;refine yW (wpAny_updateSeq hS' rfl ?_);rw [nm];refine yJ ⟨plainId_quiet PySem.F.plain_max_loop _,Pa W bt hcmp a ha _ 0 _ v _ rfl (by omega) (W.frame _ _ _ st' λb z o e=>?_) hPv (uD _ hS' rfl) λv' h2 tk2 hP2 k2=>?_⟩
  ·exact (yi _ _ (λq:a=b=>ha (by rw [q];exact z))).trans e
  ·exact hR v' h2 tk2 (by rw [if_neg hn];exact hP2) λb o z1 z2 e=>k2 b o z1 z2 ((yi _ _ (Ne.symm z2)).trans (kk b o z1 e))
end
section
variable {P:Program}{w:World}{A:Around}{E:Value->Shared->Prop}{s:Shared}{l:Addr}{xs:Array (Int×Tok)}
theorem Gv (v:Value):argsOk "max" ⟨[v],[(Str.ofString "default",Value.none)]⟩:=by unfold argsOk;kernel_rfl
theorem GL:Builtin.Builtins.bindParams "max" ["key","default"] 0 ⟨[],[(Str.ofString "default",Value.none)]⟩=pure [none,some Value.none]:=by kernel_rfl
theorem BY (hh:A.handled=none)(hl:s.heap.IsList l (intItems xs))(h:∀ v h' tk,(if xs.size=0 then v = .none else (intItems xs)[argBest (λi j=>decide (numAt xs i > numAt xs j)) (xs.size-1)]?=some v)->(∀ b o,s.heap.get? b=some o->h'.get? b=some o)->Q v { s with heap:=h',toks:=tk }):wpAny (model P w) A (call (.builtin "max") [.ref l] [(Str.ofString "default",Value.none)]) Q E s:=by
 have nm:(toString "max"++toString ".loop":String) = "max.loop":=by decide
 refine kmb_tree PySem.F.kind_max PySem.F.plain_max PySem.F.entry_max (Gv _) ?_;show wpAny _ A.in1 (Builtin.Builtins.bindParams "max" ["key","default"] 0 ⟨[],[(Str.ofString "default",Value.none)]⟩ >>= _) _ _ s;refine yW (wpAny_of_eq GL ?_);refine yW (yJ ?_);refine yW (iter_intList hl λs2 e st hfp hlI=>?_);subst e;refine yW (wpAny_newObj_type ?_);have hSf:=λhm=>yc _ (hfp _ hm);rw [nm];refine yJ ⟨plainId_quiet PySem.F.plain_max_loop _,BZ (Walks.list (A:=A.in1) hh _ l hlI (intItems xs)) _ (CmpOf.ints_gt (numAt xs) (λ_ _=>intItems_at)) _ hSf (((Walks.list (prog:=P) (w:=w) (A:=A.in1) hh _ l hlI (intItems xs))).frame _ _ _ st λb _ o e=>yX _ e) (yG _ rfl) λv h' tk hP kk=>?_⟩;refine h v h' tk (by simpa [intItems] using hP) λb o e=>?_;have hlt:=yS e;refine kk b o (by simp only [yN];exact yL hlt) ?_ (yX _ (yX _ e));rw [uS];exact yL (ur hlt)
end
section
variable {X:Cx}
def UN (K:Fg)(t:TA):TE:=λσ H Q=>t σ H λvs H1=>∃(a:Addr)(ns:List Int),vs=[.ref a]/\SqL K H1 a (ns.map V.int)/\(ns=[]->Q .non H1)/\(ns≠[]->∀ m,m∈ns->(∀ y∈ns,y<=m)->Q (.int m) H1)
theorem YH {e:Expr}{t:TA}{p pos kp cp:Pos}{ct:Nat}(hK:X.K=K)(hc:X.calm=true)(hg:Gl X "max")(hm:X.mg "max"=none)(ha:PA X [e] t)(hs:backTo pos (starEach [e] X.env)=(false,eval e X.env)::backTo pos (starEach [] X.env):=by rfl)(hpl:(backTo pos (starEach [e] X.env)).any (·.1)=false:=by rfl):PE X (.Call (.Name "max" p) [e] [⟨some "default",.Constant .none ct cp,kp⟩] pos) (UN K t):=by
 subst hK;intro pins s σ H Q I h;refine wpAny_Call_Name_kw (ze I hg hm GH ?_ (by decide) (by decide));refine PyProof.Rows.callWith_kw (z9 (ha pos pins s σ H _ I h) λus s1 ⟨vs,H1,I1,r1,q1⟩=>?_) hs hpl;refine PyProof.Rows.kws_cons (Constant_none (PyProof.Rows.kws_nil ?_));obtain ⟨a,ns,rfl,hq,qe,qn⟩:=q1;obtain ⟨u,rfl,ru⟩:=qY r1;obtain rfl:u=Value.ref a:=ru;obtain ⟨its,rv,pl,hz⟩:=I1.list hq;obtain ⟨ys,ey,el,en⟩:=Yf rv;have hl:s1.heap.IsList a its.toArray:=pl.isList;rw [ey] at hl;show wpAny _ _ (call (.builtin "max") [.ref a] [(Str.ofString "default",Value.none)]) _ _ _;refine BY (I1.ok.hd hc) hl λv h' tk hv k=>?_;by_cases hne:ns=[]
 ·have hz0:ys.size=0:=by rw [el,hne];rfl
  rw [if_pos hz0] at hv;subst hv;exact ⟨.non,H1,I1.kept (t':=tk) k,rfl,qe hne⟩
 ·have hp:0<ns.length:=uu.mpr hne;rw [if_neg (by omega)] at hv;obtain ⟨t,rfl⟩:=intItems_at hv;obtain ⟨h1,h2⟩:=argBest_gt (numAt ys) (ys.size-1);exact ⟨.int _,H1,I1.kept (t':=tk) k,⟨t,rfl⟩,qn hne _ (Wb en (by omega)) (Wa en λj hj=>h2 j (by omega))⟩
end
section
variable {P:Program}{w:World}{κ:Type}[DecidableEq κ]{knd:PySem.KeyKind P w κ}
theorem WL:entryFor table "dict.update.loop"=some Builtin.«dict.update.loop»:=entryFor_of_tree (by kernel_rfl)
theorem QY:plainId "dict.update.loop"=true:=by decide +kernel
theorem Ko {R:Result->Shared->Prop}{I:Addr}{fp wr:List Addr}{Pp:Nat->Value->Prop}{St:Nat->Heap->Prop}{more:List (κ×Value)}{lo:Addr}(W:Walks P w A.in1 I fp wr more.length Pp St)(d:Addr)(hdf:d∉fp)(hlo:lo<=d)(hwr:∀ b∈wr,lo<=b)(hsz:more.length<=sizeLine):∀ (m i:Nat) (z:Int) (tk:Tok) (s:Shared),more.length-i=m->i<=more.length->St i s.heap->s.heap.DictOf knd d (merged [] (more.take i)) -> (∀ j v kv,Pp j v->more[j]?=some kv->∃ t k,t<lo/\v = .ref t/\knd.is kv.1 k=true/\IsTup s.heap t #[k,kv.2]) -> (∀ h' tk',(∀ b o,b<lo->s.heap.get? b=some o->h'.get? b=some o)->h'.DictOf knd d (merged [] more)->R (.ok (.ret .none)) { s with heap:=h',toks:=tk' }) -> codeAny (model P w) A (.builtin "dict.update.loop" ⟨[.ref d,.ref I,.int z tk,.none],[]⟩) R s:=by
 have hdw:d∉wr:=λq=>hdf (W.sub _ q);intro m
 induction m with
 |zero =>
  intro i z tk s hm hi st hd hp hR;have hin:i=more.length:=by omega
  subst hin;refine codeAny_builtin WL ?_;rw [Around.under_plainId QY _];show wpAny _ A.in1 (pyNext (.ref I) >>= _) _ _ s;refine yW (W.done s _ _ st λh' tk' k=>?_);show wpAny _ A.in1 (Builtin.Dict.addKeywords d [] >>= _) _ _ _;refine yW (yJ ?_);refine yJ (hR h' tk' (λb o hb e=>k b o (λq=>absurd (hwr b q) (Nat.not_le.mpr hb)) e) ?_);rw [List.take_length] at hd;obtain ⟨o,es,ep,ho,r⟩:=hd;exact ⟨o,es,ep,k d o hdw ho,r⟩
 |succ m ih =>
  intro i z tk s hm hi st hd hp hR;have hlt:i<more.length:=by omega
  refine codeAny_builtin WL ?_;rw [Around.under_plainId QY _];show wpAny _ A.in1 (pyNext (.ref I) >>= _) _ _ s;refine yW (W.item i s _ _ hlt st λv h' tk' hPv st' k=>?_);obtain ⟨t,kk,ht,rfl,hk,o,ho,hc,n,hdt⟩:=hp i v more[i] hPv (yV hlt);have ho':h'.get? t=some o:=k t o (λq=>absurd (hwr t q) (Nat.not_le.mpr ht)) ho;have hd':h'.DictOf knd d (merged [] (more.take i)):=by obtain ⟨o,es,ep,ho,r⟩:=hd;exact ⟨o,es,ep,k d o hdw ho,r⟩
  have hT:Shared.TypeIs { s with heap:=h',toks:=tk' } (.ref t) "tuple":=⟨o,ho',hc⟩;show wpAny _ A.in1 (holding [.ref t] _ >>= _) _ _ _;refine yW (wpAny_holding (yW (wpAny_tryCatch ?_)));unfold Builtin.Dict.pairItems;refine yW (wpAny_typeOf hT ?_);rw [if_pos (by decide)];refine yW (wpAny_seqItems ho' hdt (yJ ?_));show wpAny _ A.in1 (holding [kk,more[i].2] (dictSet d kk more[i].2)) _ _ _;refine wpAny_holding (wpAny_dictSet_pairs (knd:=knd) hk hd' (λh2 hd2 sb=>?_) ?_)
  ·rw [<- merged_take_succ [] more i more[i] (yV hlt)] at hd2;have keep2:∀ b o,b<lo->s.heap.get? b=some o->h2.get? b=some o:=λb o hb e=>by
    rw [sb.2 b (yL (yE hb hlo))];exact k b o (λq=>absurd (hwr b q) (Nat.not_le.mpr hb)) e
   refine yJ ⟨plainId_quiet QY _,ih (i+1) _ _ _ (by omega) hlt (W.frame _ _ _ st' λb hb o e=>?_) hd2 (λj v kv hv hj=>?_) λh3 tk3 k3 hd3=>?_⟩
   ·rw [sb.2 b (λq=>hdf (by rw [<- q];exact hb))];exact e
   ·obtain ⟨t,kk,ht,rfl,hk,o,ho,r⟩:=hp j v kv hv hj;exact ⟨t,kk,ht,rfl,hk,o,keep2 t o ht ho,r⟩
   ·exact hR h3 tk3 (λb o hb e=>k3 b o hb (keep2 b o hb e)) hd3
  ·have:=merged_length_le [] (more.take i);rw [um,List.length_nil] at this;omega
theorem GO {E:Value->Shared->Prop}{l:Addr}{its:Array Value}{n:Nat}{more:List (κ×Value)}(hh:A.handled=none)(ho:s.heap.get? l=some { cls:= .type "list",data:= .seq its n })(hlen:its.size=more.length)(hsz:more.length<=sizeLine)(hp:∀ (j:Nat) (v:Value) (kv:κ×Value),its[j]?=some v->more[j]?=some kv->∃ t k,v = .ref t/\knd.is kv.1 k=true/\IsTup s.heap t #[k,kv.2])(h:∀ h' tk',(∀ b o,s.heap.get? b=some o->h'.get? b=some o)->h'.DictOf knd s.heap.objs.size (merged [] more)->Q (.ref s.heap.objs.size) { s with heap:=h',toks:=tk' }):wpAny (model P w) A (call (.type "dict") [.ref l]) Q E s:=by
 refine callType_codes (Q₁:=λob s1=>ob = .ref s.heap.objs.size/\s1={ s with heap:=s.heap.push { cls:= .type "dict",data:= .dict #[] } }) PySem.F.kt_called_dict (PySem.F.kt_typeCall_dict_1 _) PySem.F.entry_dict_init (kt_code_dict_new _ ⟨rfl,rfl⟩) ?_;rintro ob s1 ⟨rfl,rfl⟩;have hnew:(s.heap.push { cls:= .type "dict",data:= .dict #[] }).DictOf knd s.heap.objs.size []:=Heap.DictOf.new s.heap;have ho':(s.heap.push { cls:= .type "dict",data:= .dict #[] }).get? l=some { cls:= .type "list",data:= .seq its n }:=yX _ ho;have hTl:Shared.TypeIs { s with heap:=s.heap.push { cls:= .type "dict",data:= .dict #[] } } (.ref l) "list":=⟨_,ho',rfl⟩;have hlt:l<s.heap.objs.size:=yS ho;refine ⟨hnew.typeIs,PySem.F.args_dict_init_2 _ _,?_⟩;unfold Builtin.«dict.__init__»;refine yW ?_;unfold Builtin.Dict.selfAndRest;refine yW (wpAny_notOrdered_dict hnew.typeIs ?_);show wpAny _ _ (pure (s.heap.objs.size,[Value.ref l])) _ _ _;refine yJ ?_;show wpAny _ _ (Builtin.Dict.updateFrom "dict.__init__" s.heap.objs.size (.ref l) [] .none) _ _ _;unfold Builtin.Dict.updateFrom;refine yW (wpAny_typeOf hTl ?_);rw [if_pos (by decide)];refine yW (Gy ho' (by simpa using hh) λh1 tk1 k1=>?_);rw [if_pos (show (none:Option Value).isNone=true from rfl)];refine yW (wpAny_rule ?_);have ho1:=k1 _ _ ho';have hl1:h1.IsList l its:=⟨_,ho1,rfl,n,rfl⟩;refine yW (wpAny_pyIter_list (s:={ s with heap:=h1,toks:=tk1 }) hl1 ?_);have hd1:h1.DictOf knd s.heap.objs.size []:=by obtain ⟨o,es,ep,hq,r⟩:=hnew;exact ⟨o,es,ep,k1 _ _ hq,r⟩
 have hdlt:s.heap.objs.size<h1.objs.size:=by obtain ⟨o,es,ep,hq,r⟩:=hd1;exact yS hq
 have hll:l<h1.objs.size:=yS ho1;refine yJ ⟨plainId_quiet QY _,?_⟩;have W:=Walks.list (prog:=P) (w:=w) (A:=A.in1.in1) (by simpa using hh) h1.objs.size l (yL hll) its;rw [hlen] at W;refine Ko (knd:=knd) (lo:=s.heap.objs.size) W s.heap.objs.size ?_ (yU _) (λb hb=>?_) hsz more.length 0 _ _ { s with heap:=h1.push { cls:= .type "list_iterator",data:= .fields #[.ref l,.int 0 0] },toks:=tk1 } (by omega) (ye _) ⟨⟨_,yG _ rfl,rfl,rfl⟩,hl1.push _⟩ ?_ (λj v kv hv hj=>?_) λh' tk' kp hd=>?_
 ·simp only [yK,yd,or_false,not_or];exact ⟨yL hdlt,Nat.ne_of_gt hlt⟩
 ·rw [yN.mp hb];exact uV hdlt
 ·obtain ⟨o,es,ep,hq,r⟩:=hd1;exact ⟨o,es,ep,yX _ hq,r⟩
 ·obtain ⟨t,k,rfl,hk,o,hto,r⟩:=hp j v kv hv hj;exact ⟨t,k,yS hto,rfl,hk,o,yX _ (k1 _ _ (yX _ hto)),r⟩
 ·exact ⟨rfl,h h' tk' (λb o e=>kp b o (yS e) (yX _ (k1 _ _ (yX _ e)))) hd⟩
end
section
variable {X:Cx}
theorem CJ {pins:List (Addr×Obj)}{σ:St}{H:Hp}(I:Inv X pins σ H s){ts:List Addr}{kvs:List (z5×V)}(r:Paired (λt (kv:z5×V)=>H t=some (.tup [kV kv.1,kv.2])) ts kvs):∃ more:List (z5×Value),KV kvs more/\∀(j:Nat)(t:Addr)(m:z5×Value),ts[j]?=some t->more[j]?=some m->∃ k,(i8 X.prog X.w).is m.1 k=true/\IsTup s.heap t #[k,m.2]:=by
 induction r with
 |nil=>exact ⟨[],.nil,λj t m h=>by simp at h⟩
 |@cons t kv ts kvs p _ ih =>
  obtain ⟨more,k1,k2⟩:=ih;obtain ⟨_,its,rv,ht⟩:=(show ObjOk X.prog X.w H s.heap t (.tup [kV kv.1,kv.2]) from I.hok t _ p);cases rv with
  |cons p1 r1 =>
   cases r1 with
   |cons p2 r2 =>
    cases r2;rename_i u1 u2;refine ⟨(kv.1,u2)::more,.cons ⟨rfl,p2⟩ k1,λj t' m h1 h2=>?_⟩;cases j with
    |zero=>simp at h1 h2;subst h1 h2;exact ⟨u1,vg p1,ht⟩
    |succ j=>exact k2 j t' m (by simpa using h1) (by simpa using h2)
theorem Ge:∀{ts:List Addr}{us:List Value},Vals (ts.map V.ref) us->us=ts.map Value.ref
 |[],_,.nil=>rfl
 |t::ts,_,.cons p r=>by
  obtain rfl:=(show _=Value.ref t from p);rw [Ge r];rfl
theorem JY:∀{kvs:List (z5×V)}{vs:List (z5×Value)},KV kvs vs->vs.map (·.1)=kvs.map (·.1)
 |[],_,.nil=>rfl
 |_::_,_,.cons p r=>by rw [yM,yM,JY r,p.1]
end
section
variable {X:Cx}{tg:Expr}
def YY:List V->Hp->VK->Prop:=λxs H Q=>∃(a:Addr)(ts:List Addr)(kvs:List (z5×V)),xs=[.ref a]/\H a=some (.lst (ts.map V.ref))/\Paired (λt (kv:z5×V)=>H t=some (.tup [kV kv.1,kv.2])) ts kvs/\(kvs.map (·.1)).Nodup/\kvs.length<=1000 /\
  ∀ l o,H l=none->Q (.ref l) (z6 H l (.frz o (.dK kvs)))
theorem Qh (hc:X.calm=true)(_:X.K=K):CallR X (.type "dict") YY:=by
 intro pins s σ H xs us Q I r h;obtain ⟨a,ts,kvs,rfl,hq,hp,hn,h1000,q⟩:=h;obtain ⟨u,rfl,ru⟩:=qY r;obtain rfl:u=Value.ref a:=ru;obtain ⟨hz,its,n,rv,ho⟩:=(show ObjOk X.prog X.w H s.heap a (.lst (ts.map V.ref)) from I.hok a _ hq);have ei:=Ge rv;obtain ⟨more,k1,k2⟩:=CJ I hp;have lk:more.length=kvs.length:=k1.length.symm;have lt:=hp.length;have hsl:more.length<=sizeLine:=uV (vD (by omega));refine GO (knd:=i8 X.prog X.w) (more:=more) (I.ok.hd hc) ho (by rw [yY,ei,yZ];omega) hsl (λj v m hv hm=>?_) λh' tk k hd=>?_
 ·have hv':its[j]?=some v:=by simpa using hv
  rw [ei,yP] at hv';obtain ⟨t,ht,rfl⟩:=yI.mp hv';obtain ⟨kk,x1,x2⟩:=k2 j t m ht hm;exact ⟨t,kk,rfl,x1,x2⟩
 ·rw [merged_nil_of_nodup more (by rw [JY k1];exact hn)] at hd;obtain ⟨o,es,ep,ho',_⟩:=id hd;refine ⟨.ref s.heap.objs.size,_,I.laid (t':=tk) (o:= .frz o (.dK kvs)) k (yU _) ⟨ho',WK (by omega) (beq_eq_false_iff_ne.mpr (Ne.symm (yL I.big))) k1 hd⟩,rfl,q _ _ (I.hok.fresh (yU _))⟩
end
end L2
namespace Mi
open PySem L2
variable{H H' H0 Hb Hs Hs' Hs0:Hp}{u v:V}{ks:List z5}{C p:Addr}{ns:List Str}{vs:List V}{o:HO}{σ σ':St}{tb te:TE}{r:R2}{ta:TA}{n:Nat}{K:Fg}{t:TT}{E:XK}{nm:Str}{ts:List Nat}{tg:TG}{lo:Int}{wi:TI}
inductive PV where
 |at (v:V)|tup (xs:List PV)|lst (xs:List PV)|dk (ks:List z5) (xs:List PV)|fk (ks:List z5) (xs:List PV)|ob (C:Addr) (ns:List Str) (xs:List PV)|op (φ:Hp->V->Prop)
variable{xs:List PV}{x y:PV}{m:List PV->Option PV}
mutual
def Rep (H:Hp):PV->V->Prop
 | .at u,v=>v=u
 | .tup xs,v=>∃ a vs,v = .ref a/\H a=some (.tup vs)/\Reps H xs vs
 | .lst xs,v=>∃ a vs,v = .ref a/\H a=some (.lst vs)/\Reps H xs vs
 | .dk ks xs,v=>∃ a kvs,v = .ref a/\H a=some (.dK kvs)/\kvs.map (·.1)=ks/\Reps H xs (kvs.map (·.2))
 | .fk ks xs,v=>∃ a o kvs,v = .ref a/\H a=some (.frz o (.dK kvs))/\kvs.map (·.1)=ks/\Reps H xs (kvs.map (·.2))
 | .ob C ns xs,v=>∃ a dx fs,v = .ref a/\H a=some (.ins C dx fs)/\fs.map (·.1)=ns/\Reps H xs (fs.map (·.2))
 | .op φ,v=>∃ H',Same H' H/\φ H' v
def Reps (H:Hp):List PV->List V->Prop
 |[],vs=>vs=[]
 |x::xs,vs=>∃ v r,vs=v::r/\Rep H x v/\Reps H xs r
end
mutual
theorem Rep.mono {H H':Hp}(g:Same H H'):∀{x:PV}{v:V},Rep H x v->Rep H' x v
 | .at u,v,h=>by unfold Rep at h ⊢;exact h
 | .tup xs,v,h=>by unfold Rep at h ⊢;obtain ⟨a,vs,e,p,r⟩:=h;exact ⟨a,vs,e,g _ _ p,Reps.mono g r⟩
 | .lst xs,v,h=>by unfold Rep at h ⊢;obtain ⟨a,vs,e,p,r⟩:=h;exact ⟨a,vs,e,g _ _ p,Reps.mono g r⟩
 | .dk ks xs,v,h=>by unfold Rep at h ⊢;obtain ⟨a,vs,e,p,q,r⟩:=h;exact ⟨a,vs,e,g _ _ p,q,Reps.mono g r⟩
 | .fk ks xs,v,h=>by unfold Rep at h ⊢;obtain ⟨a,o,vs,e,p,q,r⟩:=h;exact ⟨a,o,vs,e,g _ _ p,q,Reps.mono g r⟩
 | .ob C ns xs,v,h=>by unfold Rep at h ⊢;obtain ⟨a,dx,vs,e,p,q,r⟩:=h;exact ⟨a,dx,vs,e,g _ _ p,q,Reps.mono g r⟩
 | .op φ,v,h=>by unfold Rep at h ⊢;obtain ⟨H1,s,p⟩:=h;exact ⟨H1,s.trans g,p⟩
theorem Reps.mono {H H':Hp}(g:Same H H'):∀{xs:List PV}{vs:List V},Reps H xs vs->Reps H' xs vs
 |[],vs,h=>by unfold Reps at h ⊢;exact h
 |x::xs,vs,h=>by unfold Reps at h ⊢;obtain ⟨v,r,e,p,q⟩:=h;exact ⟨v,r,e,Rep.mono g p,Reps.mono g q⟩
end
theorem rep_at :Rep H (.at u) v↔v=u:=by unfold Rep;exact Iff.rfl
theorem rep_tup :Rep H (.tup xs) v↔∃ a vs,v = .ref a/\H a=some (.tup vs)/\Reps H xs vs:=by unfold Rep;exact Iff.rfl
theorem rep_lst :Rep H (.lst xs) v↔∃ a vs,v = .ref a/\H a=some (.lst vs)/\Reps H xs vs:=by unfold Rep;exact Iff.rfl
theorem rep_dk :Rep H (.dk ks xs) v↔∃ a kvs,v = .ref a/\H a=some (.dK kvs)/\kvs.map (·.1)=ks/\Reps H xs (kvs.map (·.2)):=by unfold Rep;exact Iff.rfl
theorem rep_fk :Rep H (.fk ks xs) v↔∃ a o kvs,v = .ref a/\H a=some (.frz o (.dK kvs))/\kvs.map (·.1)=ks/\Reps H xs (kvs.map (·.2)):=by unfold Rep;exact Iff.rfl
theorem rep_ob :Rep H (.ob C ns xs) v↔∃ a dx fs,v = .ref a/\H a=some (.ins C dx fs)/\fs.map (·.1)=ns/\Reps H xs (fs.map (·.2)):=by unfold Rep;exact Iff.rfl
theorem rep_op {φ:Hp->V->Prop}:Rep H (.op φ) v↔∃ H',Same H' H/\φ H' v:=by unfold Rep;exact Iff.rfl
theorem reps_nil :Reps H [] vs↔vs=[]:=by unfold Reps;exact Iff.rfl
theorem reps_cons :Reps H (x::xs) vs↔∃ v r,vs=v::r/\Rep H x v/\Reps H xs r:=by
 constructor
 ·intro h;unfold Reps at h;exact h
 ·intro h;unfold Reps;exact h
theorem Reps.nil :Reps H [] []:=reps_nil.mpr rfl
theorem Reps.cons {H:Hp}{x:PV}{v:V}{xs:List PV}{vs:List V}(p:Rep H x v)(q:Reps H xs vs):Reps H (x::xs) (v::vs):=reps_cons.mpr ⟨v,vs,rfl,p,q⟩
theorem Reps.length {H:Hp}:∀{xs:List PV}{vs:List V},Reps H xs vs->vs.length=xs.length
 |[],vs,h=>by rw [reps_nil.mp h];rfl
 |x::xs,vs,h=>by obtain ⟨v,r,rfl,_,q⟩:=reps_cons.mp h;rw [yz,yz,Reps.length q]
theorem Reps.append {H:Hp}:∀{xs ys:List PV}{vs ws:List V},Reps H xs vs->Reps H ys ws->Reps H (xs++ys) (vs++ws)
 |[],ys,vs,ws,h,k=>by rw [reps_nil.mp h];exact k
 |x::xs,ys,vs,ws,h,k=>by obtain ⟨v,r,rfl,p,q⟩:=reps_cons.mp h;exact .cons p (Reps.append q k)
theorem Reps.one (p:Rep H x v):Reps H [x] [v]:= .cons p .nil
theorem Reps.get {H:Hp}:∀{xs:List PV}{vs:List V}{i:Nat}{x:PV},Reps H xs vs->xs[i]?=some x->∃ v,vs[i]?=some v/\Rep H x v
 |[],_,i,x,_,e=>by simp at e
 |y::xs,vs,0,x,h,e=>by
  obtain ⟨v,r,rfl,p,q⟩:=reps_cons.mp h;simp at e;subst e;exact ⟨v,rfl,p⟩
 |y::xs,vs,i+1,x,h,e=>by
  obtain ⟨v,r,rfl,p,q⟩:=reps_cons.mp h;obtain ⟨w,e1,e2⟩:=Reps.get (i:=i) (x:=x) q (by simpa using e);exact ⟨w,by simpa using e1,e2⟩
theorem Reps.take {H:Hp}:∀(n:Nat){xs:List PV}{vs:List V},Reps H xs vs->Reps H (xs.take n) (vs.take n)
 |0,_,_,_=>by rw [List.take_zero,List.take_zero];exact .nil
 |n+1,[],vs,h=>by rw [reps_nil.mp h];exact .nil
 |n+1,x::xs,vs,h=>by
  obtain ⟨v,r,rfl,p,q⟩:=reps_cons.mp h;exact .cons p (Reps.take n q)
theorem Reps.drop {H:Hp}:∀(n:Nat){xs:List PV}{vs:List V},Reps H xs vs->Reps H (xs.drop n) (vs.drop n)
 |0,_,_,h=>h
 |n+1,[],vs,h=>by rw [reps_nil.mp h];exact .nil
 |n+1,x::xs,vs,h=>by
  obtain ⟨v,r,rfl,p,q⟩:=reps_cons.mp h;exact Reps.drop n q
theorem Reps.ats {H:Hp}:∀{us vs:List V},Reps H (us.map .at) vs->vs=us
 |[],vs,h=>reps_nil.mp h
 |u::us,vs,h=>by
  obtain ⟨v,r,rfl,p,q⟩:=reps_cons.mp h;rw [rep_at.mp p,Reps.ats q]
theorem Reps.ofAts {H:Hp}:∀(us:List V),Reps H (us.map .at) us
 |[]=> .nil
 |u::us=> .cons (rep_at.mpr rfl) (Reps.ofAts us)
structure Ext (Hs H Hs' H':Hp):Prop where
 s1:Same Hs Hs'
 s2:Same H H'
 s3:Same Hs' H'
 s4:∀ b,H b≠none->Hs b=none->Hs' b=none
theorem UC (g:Same H H'){b:Addr}(h:H b≠none):H' b≠none:=λz=>h (g.free z)
theorem Ext.refl (s:Same Hs H):Ext Hs H Hs H:=⟨.refl _,.refl _,s,λ_ _ z=>z⟩
theorem Ext.trans {A B A1 B1 A2 B2:Hp}(x:Ext A B A1 B1)(y:Ext A1 B1 A2 B2):Ext A B A2 B2:=⟨x.s1.trans y.s1,x.s2.trans y.s2,y.s3,λb h z=>y.s4 b (UC x.s2 h) (x.s4 b h z)⟩
theorem Ext.new (s:Same Hs H)(h:H p=none):Ext Hs H (z6 Hs p o) (z6 H p o):=by
 have hs:Hs p=none:=s.free h;refine ⟨λb u e=>?_,λb u e=>?_,λb u e=>?_,λb e z=>?_⟩
 ·rw [z8 (u7 e hs)];exact e
 ·rw [z8 (u7 e h)];exact e
 ·by_cases hb:b=p
  ·subst hb;rw [w9] at e ⊢;exact e
  ·rw [z8 hb] at e ⊢;exact s _ _ e
 ·have hb:b≠p:=λq=>e (by rw [q];exact h);rw [z8 hb];exact z
theorem Ext.newO (s:Same Hs H)(h:H p=none):Ext Hs H Hs (z6 H p o) :=
 ⟨.refl _,λb u e=>by rw [z8 (u7 e h)];exact e,λb u e=>by rw [z8 (u7 (s _ _ e) h)];exact s _ _ e,λ_ _ z=>z⟩
def Top (Hs H:Hp)(a:Addr):PV->Prop
 | .lst xs=>∃ vs,H a=some (.lst vs)/\Reps Hs xs vs
 | .dk ks xs=>∃ kvs,H a=some (.dK kvs)/\kvs.map (·.1)=ks/\Reps Hs xs (kvs.map (·.2))
 | .ob C ns xs=>∃ dx fs,H a=some (.ins C dx fs)/\fs.map (·.1)=ns/\Reps Hs xs (fs.map (·.2))
 |_=>False
theorem Top.there {a:Addr}:∀{x:PV},Top Hs H a x->H a≠none
 | .lst _,h,z=>by obtain ⟨vs,e,_⟩:=h;rw [e] at z;cases z
 | .dk _ _,h,z=>by obtain ⟨vs,e,_⟩:=h;rw [e] at z;cases z
 | .ob _ _ _,h,z=>by obtain ⟨dx,vs,e,_⟩:=h;rw [e] at z;cases z
theorem Top.mono {a:Addr}(g:Same Hs Hs')(e:∀ o,H a=some o->H' a=some o):∀{x:PV},Top Hs H a x->Top Hs' H' a x
 | .lst _,h=>by obtain ⟨vs,q,r⟩:=h;exact ⟨vs,e _ q,r.mono g⟩
 | .dk _ _,h=>by obtain ⟨vs,q,k,r⟩:=h;exact ⟨vs,e _ q,k,r.mono g⟩
 | .ob _ _ _,h=>by obtain ⟨dx,vs,q,k,r⟩:=h;exact ⟨dx,vs,e _ q,k,r.mono g⟩
theorem Top.rep {a:Addr}:∀{x:PV},Top Hs H a x->Hs a=none->∃ o,H a=some o/\Rep (z6 Hs a o) x (.ref a)
 | .lst _,h,n=>by
  obtain ⟨vs,q,r⟩:=h;exact ⟨_,q,rep_lst.mpr ⟨a,vs,rfl,w9,r.mono λb u e=>by rw [z8 (u7 e n)];exact e⟩⟩
 | .dk _ _,h,n=>by
  obtain ⟨vs,q,k,r⟩:=h;exact ⟨_,q,rep_dk.mpr ⟨a,vs,rfl,w9,k,r.mono λb u e=>by rw [z8 (u7 e n)];exact e⟩⟩
 | .ob _ _ _,h,n=>by
  obtain ⟨dx,vs,q,k,r⟩:=h;exact ⟨_,q,rep_ob.mpr ⟨a,dx,vs,rfl,w9,k,r.mono λb u e=>by rw [z8 (u7 e n)];exact e⟩⟩
theorem Ext.share {a:Addr}(x:Ext Hs H Hs' H')(h:H a=none)(n:Hs' a=none)(e:H' a=some o):Ext Hs H (z6 Hs' a o) H':=by
 refine ⟨λb u q=>?_,x.s2,λb u q=>?_,λb q z=>?_⟩
 ·rw [z8 (u7 (x.s1 _ _ q) n)];exact x.s1 _ _ q
 ·by_cases hb:b=a
  ·subst hb;rw [w9] at q;cases q;exact e
  ·rw [z8 hb] at q;exact x.s3 _ _ q
 ·have hb:b≠a:=λr=>q (by rw [r];exact h);rw [z8 hb];exact x.s4 b q z
def RepB (Hs H:Hp)(x:PV)(v:V):Prop:=Rep Hs x v∨∃ a,v = .ref a/\Hs a=none/\Top Hs H a x
theorem RepB.ext (e:Ext Hs H Hs' H')(h:RepB Hs H x v):RepB Hs' H' x v:=by
 rcases h with h|⟨a,rfl,n,t⟩
 ·exact .inl (h.mono e.s1)
 ·exact .inr ⟨a,rfl,e.s4 a t.there n,t.mono e.s1 λo q=>e.s2 _ _ q⟩
inductive MSlot where
 |no|sh (x:PV)|ow (x:PV)|bo (x:PV)
abbrev ME:=List MSlot
variable{ε:ME}
def Own (H0 Hs H:Hp)(a:Addr)(x:PV):Prop:=H0 a=none/\Hs a=none/\Top Hs H a x
structure RS (Hs0 H0 Hs H:Hp)(σ:St)(ε:ME):Prop where
 ext:Ext Hs0 H0 Hs H
 sh:∀(i:Nat)(x:PV),ε[i]?=some (.sh x)->∃ v,σ[i]?=some (some v)/\Rep Hs x v
 ow:∀(i:Nat)(x:PV),ε[i]?=some (.ow x)->∃ a,σ[i]?=some (some (.ref a))/\Own H0 Hs H a x
 nd:∀(i j:Nat)(x y:PV)(a:Addr),ε[i]?=some (.ow x)->ε[j]?=some (.ow y)->σ[i]?=some (some (.ref a))->σ[j]?=some (some (.ref a))->i=j
 len:σ.length=ε.length
 bo:∀(i:Nat)(x:PV),ε[i]?=some (.bo x)->∃ v,σ[i]?=some (some v)/\(Rep Hs x v∨∃ a,v = .ref a/\H0 a≠none/\Hs a=none/\Top Hs H a x)
section
variable {Hs0 H0 Hs H Hs' H':Hp}{σ:St}{ε:ME}
theorem RS.go (r:RS Hs0 H0 Hs H σ ε)(e:Ext Hs H Hs' H'):RS Hs0 H0 Hs' H' σ ε where
 ext:=r.ext.trans e
 sh:=λi x q=>by obtain ⟨v,a,b⟩:=r.sh i x q;exact ⟨v,a,b.mono e.s1⟩
 ow:=λi x q=>by
  obtain ⟨a,b,n0,n,t⟩:=r.ow i x q;exact ⟨a,b,n0,e.s4 a t.there n,t.mono e.s1 λo z=>e.s2 _ _ z⟩
 nd:=r.nd
 len:=r.len
 bo:=λi x q=>by
  obtain ⟨v,b,h|⟨a,rfl,n0,n,t⟩⟩:=r.bo i x q
  ·exact ⟨v,b,.inl (h.mono e.s1)⟩
  ·exact ⟨_,b,.inr ⟨a,rfl,n0,e.s4 a t.there n,t.mono e.s1 λo z=>e.s2 _ _ z⟩⟩
theorem RS.sub (r:RS Hs0 H0 Hs H σ ε):Same Hs H:=r.ext.s3
theorem RS.rebase (r:RS Hs0 H0 Hs H σ ε):RS Hs H0 Hs H σ ε:=⟨⟨.refl _,r.ext.s2,r.ext.s3,λ_ _ z=>z⟩,r.sh,r.ow,r.nd,r.len,r.bo⟩
theorem Ext.unbase (r:Ext Hs0 H0 Hb H)(e:Ext Hb H0 Hs' H'):Ext Hs0 H0 Hs' H':=⟨r.s1.trans e.s1,e.s2,e.s3,λb h z=>e.s4 b h (r.s4 b h z)⟩
theorem RS.unbase {ε':ME}(r:Ext Hs0 H0 Hb H)(e:RS Hb H0 Hs' H' σ' ε'):RS Hs0 H0 Hs' H' σ' ε':=⟨r.unbase e.ext,e.sh,e.ow,e.nd,e.len,e.bo⟩
theorem RS.put (r:RS Hs0 H0 Hs H σ ε){i:Nat}(h:Rep Hs x v):RS Hs0 H0 Hs H (σ.set i (some v)) (ε.set i (.sh x)) where
 ext:=r.ext
 sh:=λj y q=>by
  rw [yD] at q ⊢;split at q
  ·rename_i hij;split at q
   ·rename_i hl;injection q with q;injection q with q;subst q;rw [if_pos hij,if_pos (by rw [r.len,hij];rw [hij] at hl;exact hl)];exact ⟨v,rfl,h⟩
   ·cases q
  ·rename_i hij;rw [if_neg hij];exact r.sh j y q
 ow:=λj y q=>by
  rw [yD] at q ⊢;split at q
  ·split at q<;>cases q
  ·rename_i hij;rw [if_neg hij];exact r.ow j y q
 nd:=λj k x y a h1 h2 h3 h4=>by
  rw [yD] at h1 h2 h3 h4;split at h1
  ·split at h1<;>cases h1
  ·rename_i hj;rw [if_neg hj] at h3;split at h2
   ·split at h2<;>cases h2
   ·rename_i hk;rw [if_neg hk] at h4;exact r.nd j k x y a h1 h2 h3 h4
 len:=by rw [yn,yn,r.len]
 bo:=λj y q=>by
  rw [yD] at q ⊢;split at q
  ·split at q<;>cases q
  ·rename_i hij;rw [if_neg hij];exact r.bo j y q
theorem RS.putO (r:RS Hs0 H0 Hs H σ ε){i:Nat}{a:Addr}(h:Own H0 Hs H a x)(ne:∀(j:Nat)(y:PV),ε[j]?=some (.ow y)->σ[j]?≠some (some (.ref a))):RS Hs0 H0 Hs H (σ.set i (some (.ref a))) (ε.set i (.ow x)) where
 ext:=r.ext
 sh:=λj y q=>by
  rw [yD] at q ⊢;split at q
  ·split at q<;>cases q
  ·rename_i hij;rw [if_neg hij];exact r.sh j y q
 ow:=λj y q=>by
  rw [yD] at q ⊢;split at q
  ·rename_i hij;split at q
   ·rename_i hl;injection q with q;injection q with q;subst q;rw [if_pos hij,if_pos (by rw [r.len,hij];rw [hij] at hl;exact hl)];exact ⟨a,rfl,h⟩
   ·cases q
  ·rename_i hij;rw [if_neg hij];exact r.ow j y q
 nd:=λj k x' y b h1 h2 h3 h4=>by
  rw [yD] at h1 h2 h3 h4;split at h1
  ·rename_i hj;rw [if_pos hj] at h3;split at h1
   ·rename_i hl;rw [if_pos (by rw [r.len];exact hl)] at h3;injection h3 with h3;injection h3 with h3;injection h3 with h3;subst h3;split at h2
    ·rename_i hk;exact hj.symm.trans hk
    ·rename_i hk;rw [if_neg hk] at h4;exact absurd h4 (ne k y h2)
   ·cases h1
  ·rename_i hj;rw [if_neg hj] at h3;split at h2
   ·rename_i hk;rw [if_pos hk] at h4;split at h2
    ·rename_i hl;rw [if_pos (by rw [r.len];exact hl)] at h4;injection h4 with h4;injection h4 with h4;injection h4 with h4;subst h4;exact absurd h3 (ne j x' h1)
    ·cases h2
   ·rename_i hk;rw [if_neg hk] at h4;exact r.nd j k x' y b h1 h2 h3 h4
 len:=by rw [yn,yn,r.len]
 bo:=λj y q=>by
  rw [yD] at q ⊢;split at q
  ·split at q<;>cases q
  ·rename_i hij;rw [if_neg hij];exact r.bo j y q
theorem RS.change (r:RS Hs0 H0 Hs H σ ε){i:Nat}{a:Addr}(hi:ε[i]?=some (.ow x))(ha:σ[i]?=some (some (.ref a)))(t:Top Hs (z6 H a o) a y):RS Hs0 H0 Hs (z6 H a o) σ (ε.set i (.ow y)):=by
 obtain ⟨b,hb,n0,n,tx⟩:=r.ow i x hi;rw [ha] at hb;injection hb with hb;injection hb with hb;injection hb with hb;subst hb;refine ⟨⟨r.ext.s1,λb u e=>?_,λb u e=>?_,r.ext.s4⟩,λj z q=>?_,λj z q=>?_,λj k z z' c h1 h2 h3 h4=>?_,by rw [yn,r.len],λj z q=>?_⟩
 ·rw [z8 (u7 e n0)];exact r.ext.s2 _ _ e
 ·rw [z8 (u7 e n)];exact r.ext.s3 _ _ e
 ·rw [yD] at q;split at q
  ·split at q<;>cases q
  ·exact r.sh j z q
 ·rw [yD] at q;split at q
  ·rename_i hij;split at q
   ·injection q with q;injection q with q;subst q;exact ⟨a,hij▸ha,n0,n,t⟩
   ·cases q
  ·rename_i hij;obtain ⟨c,hc,m0,m,tc⟩:=r.ow j z q;have hne:c≠a:=λe=>hij (r.nd i j x z a hi q ha (e▸hc));exact ⟨c,hc,m0,m,tc.mono (.refl _) λo' e=>by rw [z8 hne];exact e⟩
 ·have down:∀{m:Nat}{w:PV},(ε.set i (.ow y))[m]?=some (.ow w)->∃ w',ε[m]?=some (.ow w'):=by
   intro m w q;rw [yD] at q;split at q
   ·rename_i him;exact ⟨x,him▸hi⟩
   ·exact ⟨w,q⟩
  obtain ⟨w1,q1⟩:=down h1;obtain ⟨w2,q2⟩:=down h2;exact r.nd j k w1 w2 c q1 q2 h3 h4
 ·rw [yD] at q;split at q
  ·split at q<;>cases q
  ·obtain ⟨v,hv,h|⟨c,rfl,m0,m,tc⟩⟩:=r.bo j z q
   ·exact ⟨v,hv,.inl h⟩
   ·have hne:c≠a:=λe=>m0 (e▸n0);exact ⟨_,hv,.inr ⟨c,rfl,m0,m,tc.mono (.refl _) λo' e=>by rw [z8 hne];exact e⟩⟩
def fz (i:Nat)(ε:ME):ME:=match ε[i]? with
 |some (.ow x)=>ε.set i (.sh x)
 |_=>ε
end
theorem vt {j:Nat}{s:MSlot}(h:∀(i:Nat)(x:PV),ε[i]?≠some (.bo x))(hs:∀ x,s ≠ .bo x):∀(i:Nat)(x:PV),(ε.set j s)[i]?≠some (.bo x):=λi x q=>by
 rw [yD] at q;split at q
 ·split at q
  ·injection q with q;exact hs x q
  ·cases q
 ·exact h i x q
abbrev M:=ME->Option PV
variable{a b:M}
abbrev MB:=ME->Option Bool
variable{c:MB}
abbrev MA:=ME->Option (List PV)
variable{as f:MA}
class SemE (te:TE)(f:M):Prop where
 h:∀{ε y},f ε=some y->∀{Hs0 H0 Hs H σ},RS Hs0 H0 Hs H σ ε->∀{Q:VK},(∀ v Hs' H',Ext Hs H Hs' H'->Rep Hs' y v->Q v H')->te σ H Q
class p9 (te:TE)(f:M):Prop where
 h:∀{ε y},f ε=some y->∀{Hs0 H0 Hs H σ},RS Hs0 H0 Hs H σ ε->∀{Q:VK},(∀ v Hs' H',Ext Hs H Hs' H'->RepB Hs' H' y v->Q v H')->te σ H Q
class qP (te:TE)(f:M):Prop where
 h:∀{ε y},f ε=some y->∀{Hs0 H0 Hs H σ},RS Hs0 H0 Hs H σ ε->∀{Q:VK},(∀ a Hs' H',Ext Hs H Hs' H'->H a=none->Hs' a=none->Top Hs' H' a y->Q (.ref a) H')->te σ H Q
class qo (tt:TT)(f:MB):Prop where
 h:∀{ε y},f ε=some y->∀{Hs0 H0 Hs H σ},RS Hs0 H0 Hs H σ ε->∀{Q:Bool->Hp->Prop},(∀ Hs' H',Ext Hs H Hs' H'->Q y H')->tt σ H Q
class qz (ta:TA)(f:MA):Prop where
 h:∀{ε ys},f ε=some ys->∀{Hs0 H0 Hs H σ},RS Hs0 H0 Hs H σ ε->∀{Q:List V->Hp->Prop},(∀ vs Hs' H',Ext Hs H Hs' H'->Reps Hs' ys vs->Q vs H')->ta σ H Q
def jU (Hs H:Hp):List PV->List V->Prop
 |[],vs=>vs=[]
 |x::xs,vs=>∃ v r,vs=v::r/\RepB Hs H x v/\jU Hs H xs r
class vK (ta:TA)(f:MA):Prop where
 h:∀{ε ys},f ε=some ys->∀{Hs0 H0 Hs H σ},RS Hs0 H0 Hs H σ ε->∀{Q:List V->Hp->Prop},(∀ vs Hs' H',Ext Hs H Hs' H'->jU Hs' H' ys vs->Q vs H')->ta σ H Q
class qD (r:R2)(g:PV->PV->Option PV):Prop where
 h:∀{x y z},g x y=some z->∀{Hs H:Hp}{v w:V},Same Hs H->RepB Hs H x v->RepB Hs H y w->∀{Q:VK},(∀ u Hs' H',Ext Hs H Hs' H'->Rep Hs' z u->Q u H')->r v w H Q
class Vb (r:R2)(g:PV->PV->Option PV):Prop where
 h:∀{x y z},g x y=some z->∀{Hs H:Hp}{v w:V},Same Hs H->RepB Hs H x v->RepB Hs H y w->∀{Q:VK},(∀ a Hs' H',Ext Hs H Hs' H'->H a=none->Hs' a=none->Top Hs' H' a z->Q (.ref a) H')->r v w H Q
instance (priority:=50) semE_O {f:M}[s:qP te f]:SemE te f where
 h:=λe _ _ _ _ _ r _ q=>s.h e r λa Hs' H' x h n t=>by
  obtain ⟨o,ho,hr⟩:=t.rep n;exact q _ _ _ (x.share h n ho) hr
instance (priority:=50) semB_E {f:M}[s:SemE te f]:p9 te f where
 h:=λe _ _ _ _ _ r _ q=>s.h e r λv Hs' H' x h=>q v Hs' H' x (.inl h)
def q8 (i:Nat):M:=λε=>match ε[i]? with
 |some (.sh x)=>some x
 |_=>none
def x6 (i:Nat):M:=λε=>match ε[i]? with
 |some (.sh x)=>some x
 |some (.ow x)=>some x
 |some (.bo x)=>some x
 |_=>none
def dC (v:V):M:=λ_=>some (.at v)
instance {i:Nat}:SemE (n8 i) (q8 i) where
 h:=λ{ε y} e {_ _ _ _ _} r {_} q=>by
  unfold q8 at e;split at e
  ·rename_i x hx;cases e;obtain ⟨v,h1,h2⟩:=r.sh i _ hx;exact ⟨v,h1,q v _ _ (.refl r.sub) h2⟩
  ·cases e
instance {i:Nat}:p9 (n8 i) (x6 i) where
 h:=λ{ε y} e {_ _ _ _ _} r {_} q=>by
  unfold x6 at e;split at e
  ·rename_i x hx;cases e;obtain ⟨v,h1,h2⟩:=r.sh i _ hx;exact ⟨v,h1,q v _ _ (.refl r.sub) (.inl h2)⟩
  ·rename_i x hx;cases e;obtain ⟨a,h1,_,n,t⟩:=r.ow i _ hx;exact ⟨_,h1,q _ _ _ (.refl r.sub) (.inr ⟨a,rfl,n,t⟩)⟩
  ·rename_i x hx;cases e;obtain ⟨v,h1,h2|⟨a,rfl,_,n,t⟩⟩:=r.bo i _ hx
   ·exact ⟨v,h1,q v _ _ (.refl r.sub) (.inl h2)⟩
   ·exact ⟨_,h1,q _ _ _ (.refl r.sub) (.inr ⟨a,rfl,n,t⟩)⟩
  ·cases e
instance :SemE (tC v) (dC v) where
 h:=λe _ _ _ _ _ r _ q=>by cases e;exact q v _ _ (.refl r.sub) (rep_at.mpr rfl)
def z0 (g:PV->PV->Option PV)(a b:M):M:=λε=>(a ε).bind λx=>(b ε).bind λy=>g x y
theorem bind_some {α β:Type}{o:Option α}{f:α->Option β}{y:β}(h:o.bind f=some y):∃ x,o=some x/\f x=some y:=by
 cases o with
 |none=>cases h
 |some x=>exact ⟨x,rfl,h⟩
instance {g:PV->PV->Option PV}{ta:TE}[sr:qD r g][sa:p9 ta a][sb:p9 tb b]:SemE (tOp r ta tb) (z0 g a b) where
 h:=λe _ _ _ _ _ rs _ q=>by
  obtain ⟨x,ex,e⟩:=bind_some e;obtain ⟨y,ey,e⟩:=bind_some e;exact sa.h ex rs λv Hs1 H1 x1 r1=>sb.h ey (rs.go x1) λw Hs2 H2 x2 r2=>sr.h e x2.s3 (r1.ext x2) r2 λu Hs3 H3 x3 r3=>q u _ _ (x1.trans (x2.trans x3)) r3
instance {g:PV->PV->Option PV}{ta:TE}[sr:Vb r g][sa:p9 ta a][sb:p9 tb b]:qP (tOp r ta tb) (z0 g a b) where
 h:=λe _ _ _ _ _ rs _ q=>by
  obtain ⟨x,ex,e⟩:=bind_some e;obtain ⟨y,ey,e⟩:=bind_some e;exact sa.h ex rs λv Hs1 H1 x1 r1=>sb.h ey (rs.go x1) λw Hs2 H2 x2 r2=>sr.h e x2.s3 (r1.ext x2) r2 λu Hs3 H3 x3 n n' r3=>q u _ _ (x1.trans (x2.trans x3)) (x1.s2.free (x2.s2.free n)) n' r3
def q9:MA:=λ_=>some []
def q0 (a:M)(r:MA):MA:=λε=>(a ε).bind λx=>(r ε).bind λxs=>some (x::xs)
instance:qz c5 q9 where
 h:=λe _ _ _ _ _ r _ q=>by cases e;exact q [] _ _ (.refl r.sub) .nil
instance [sa:SemE te a][sr:qz ta f]:qz (p8 te ta) (q0 a f) where
 h:=λe _ _ _ _ _ rs _ q=>by
  obtain ⟨x,ex,e⟩:=bind_some e;obtain ⟨xs,ey,e⟩:=bind_some e;cases e;exact sa.h ex rs λv Hs1 H1 x1 r1=>sr.h ey (rs.go x1) λvs Hs2 H2 x2 r2=>q _ _ _ (x1.trans x2) (.cons (r1.mono x2.s1) r2)
instance:vK c5 q9 where
 h:=λe _ _ _ _ _ r _ q=>by cases e;exact q [] _ _ (.refl r.sub) rfl
instance [sa:p9 te a][sr:vK ta f]:vK (p8 te ta) (q0 a f) where
 h:=λe _ _ _ _ _ rs _ q=>by
  obtain ⟨x,ex,e⟩:=bind_some e;obtain ⟨xs,ey,e⟩:=bind_some e;cases e;exact sa.h ex rs λv Hs1 H1 x1 r1=>sr.h ey (rs.go x1) λvs Hs2 H2 x2 r2=>q _ _ _ (x1.trans x2) ⟨_,_,rfl,r1.ext x2,r2⟩
def lim:Nat:=1000000
theorem qp (h:n<=lim):n<=sizeLine:=yf h (by rw [sizeLine_eq];decide)
theorem Qy (h:n<=lim):n<sizeLine:=Nat.lt_of_le_of_lt h (by rw [sizeLine_eq];decide)
def qj (a:MA):M:=λε=>(a ε).bind λxs=>if xs.length<=lim then some (.tup xs) else none
def qR (a:MA):M:=λε=>(a ε).bind λxs=>if xs.length<=lim then some (.lst xs) else none
instance [sa:qz ta f]:SemE (tTup ta) (qj f) where
 h:=λe _ _ _ _ _ rs _ q=>by
  obtain ⟨xs,ex,e⟩:=bind_some e;split at e
  ·rename_i hl;cases e;exact sa.h ex rs λvs Hs1 H1 x1 r1=>⟨qp (r1.length▸hl),λp hp=>q _ _ _ (x1.trans (.new x1.s3 hp)) (rep_tup.mpr ⟨p,vs,rfl,w9,r1.mono (Ext.new x1.s3 hp).s1⟩)⟩
  ·cases e
instance [sa:qz ta f]:qP (tLst ta) (qR f) where
 h:=λe _ _ _ _ _ rs _ q=>by
  obtain ⟨xs,ex,e⟩:=bind_some e;split at e
  ·rename_i hl;cases e;exact sa.h ex rs λvs Hs1 H1 x1 r1=>⟨qp (r1.length▸hl),λp hp=>q _ _ _ (x1.trans (.newO x1.s3 hp)) (x1.s2.free hp) (x1.s3.free hp) ⟨vs,w9,r1⟩⟩
  ·cases e
theorem u3 (h:RepB Hs H (.at u) v):v=u:=by
 rcases h with h|⟨a,_,_,t⟩
 ·exact rep_at.mp h
 ·exact t.elim
theorem m9 (s:Same Hs H)(h:RepB Hs H (.lst xs) v):∃ a vs,v = .ref a/\H a=some (.lst vs)/\Reps Hs xs vs:=by
 rcases h with h|⟨a,rfl,_,vs,e,r⟩
 ·obtain ⟨a,vs,rfl,e,r⟩:=rep_lst.mp h;exact ⟨a,vs,rfl,s _ _ e,r⟩
 ·exact ⟨a,vs,rfl,e,r⟩
theorem qv (s:Same Hs H)(h:RepB Hs H (.tup xs) v):∃ a vs,v = .ref a/\H a=some (.tup vs)/\Reps Hs xs vs:=by
 rcases h with h|⟨a,rfl,_,t⟩
 ·obtain ⟨a,vs,rfl,e,r⟩:=rep_tup.mp h;exact ⟨a,vs,rfl,s _ _ e,r⟩
 ·exact t.elim
theorem wL (s:Same Hs H)(h:RepB Hs H (.fk ks xs) v):∃ a o kvs,v = .ref a/\H a=some (.frz o (.dK kvs))/\kvs.map (·.1)=ks/\Reps Hs xs (kvs.map (·.2)):=by
 rcases h with h|⟨a,rfl,n,t⟩
 ·obtain ⟨a,o,kvs,rfl,e,k,r⟩:=rep_fk.mp h;exact ⟨a,o,kvs,rfl,s _ _ e,k,r⟩
 ·exact t.elim
theorem zU (s:Same Hs H)(h:RepB Hs H (.dk ks xs) v):∃ a kvs,v = .ref a/\H a=some (.dK kvs)/\kvs.map (·.1)=ks/\Reps Hs xs (kvs.map (·.2)):=by
 rcases h with h|⟨a,rfl,_,kvs,e,k,r⟩
 ·obtain ⟨a,kvs,rfl,e,k,r⟩:=rep_dk.mp h;exact ⟨a,kvs,rfl,s _ _ e,k,r⟩
 ·exact ⟨a,kvs,rfl,e,k,r⟩
theorem Ur (s:Same Hs H)(h:RepB Hs H (.ob C ns xs) v):∃ a dx fs,v = .ref a/\H a=some (.ins C dx fs)/\fs.map (·.1)=ns/\Reps Hs xs (fs.map (·.2)):=by
 rcases h with h|⟨a,rfl,_,dx,fs,e,k,r⟩
 ·obtain ⟨a,dx,fs,rfl,e,k,r⟩:=rep_ob.mp h;exact ⟨a,dx,fs,rfl,s _ _ e,k,r⟩
 ·exact ⟨a,dx,fs,rfl,e,k,r⟩
def pI (g:Int->Int->Option V):PV->PV->Option PV
 | .at (.int i),.at (.int j)=>(g i j).map .at
 |_,_=>none
theorem YG {g:Int->Int->Option V}{z:PV}(h:pI g x y=some z):∃ i j u,x = .at (.int i)/\y = .at (.int j)/\g i j=some u/\z = .at u:=by
 unfold pI at h;split at h
 ·rename_i i j;obtain ⟨u,e,rfl⟩:=yI.mp h;exact ⟨i,j,u,rfl,rfl,e,rfl⟩
 ·cases h
instance {g:Int->Int->V}:qD (rI0 g) (pI λi j=>some (g i j)) where
 h:=λe _ _ _ _ s a b _ q=>by
  obtain ⟨i,j,u,rfl,rfl,e,rfl⟩:=YG e;cases e;exact ⟨i,j,u3 a,u3 b,q _ _ _ (.refl s) (rep_at.mpr rfl)⟩
instance {C:Int->Int->Prop}[d:∀ i j,Decidable (C i j)]{g:Int->Int->V}:qD (rI C g) (pI λi j=>if C i j then some (g i j) else none) where
 h:=λe _ _ _ _ s a b _ q=>by
  obtain ⟨i,j,u,rfl,rfl,e',rfl⟩:=YG e;split at e'
  ·rename_i hc;cases e';exact ⟨i,j,u3 a,u3 b,hc,q _ _ _ (.refl s) (rep_at.mpr rfl)⟩
  ·cases e'
def v9:PV->PV->Option PV
 | .lst xs,.at (.int i)=>atI xs i
 | .tup xs,.at (.int i)=>atI xs i
 | .at (.str z),.at (.int i)=>if z.length<=lim then (L2.atI z.cps.toList i).map λc=> .at (.str ⟨#[c]⟩) else none
 |_,_=>none
theorem Reps.atI {i:Int}(r:Reps H xs vs)(h:atI xs i=some x):∃ v,L2.atI vs i=some v/\Rep H x v:=by unfold L2.atI at h ⊢;rw [r.length];obtain ⟨j,ej,e⟩:=bind_some h;rw [ej];exact r.get e
instance :qD (rIx K) v9 where
 h:=λ{x y z} e {Hs H v w} s a b {Q} q=>by
  unfold v9 at e;split at e
  ·obtain ⟨p,vs,rfl,e1,r1⟩:=m9 s a;obtain ⟨u,hu,r⟩:=r1.atI e;exact .inl ⟨p,vs,_,u,rfl,u3 b,SqL.of e1,hu,q _ _ _ (.refl s) r⟩
  ·obtain ⟨p,vs,rfl,e1,r1⟩:=qv s a;obtain ⟨u,hu,r⟩:=r1.atI e;exact .inr (.inl ⟨p,vs,_,u,rfl,u3 b,SqT.of e1,hu,q _ _ _ (.refl s) r⟩)
  ·split at e
   ·rename_i hz;obtain ⟨c,hc,rfl⟩:=yI.mp e;exact .inr (.inr ⟨_,_,c,u3 a,u3 b,qp hz,hc,q _ _ _ (.refl s) (rep_at.mpr rfl)⟩)
   ·cases e
  ·cases e
def ats:List PV->Option (List V)
 |[]=>some []
 | .at u::xs=>(ats xs).map (u::·)
 |_::_=>none
theorem Xm:∀{xs:List PV}{us:List V},ats xs=some us->xs=us.map .at
 |[],_,h=>by cases h;rfl
 | .at u::xs,us,h=>by
  unfold ats at h;obtain ⟨r,e,rfl⟩:=yI.mp h;rw [yM,Xm e]
 | .tup _::_,_,h=>by cases h
 | .lst _::_,_,h=>by cases h
 | .dk _ _::_,_,h=>by cases h
 | .fk _ _::_,_,h=>by cases h
 | .ob _ _ _::_,_,h=>by cases h
 | .op _::_,_,h=>by cases h
def pIn (neg:Bool):PV->PV->Option PV
 | .at u,.lst xs=>(ats xs).bind λus=>if y8 u=true/\us.all y8=true then some (.at (.bl (if neg then !inV u us else inV u us))) else none
 | .at u,.tup xs=>(ats xs).bind λus=>if y8 u=true/\us.all y8=true then some (.at (.bl (if neg then !inV u us else inV u us))) else none
 |_,_=>none
instance {neg:Bool}:qD (rIn K neg) (pIn neg) where
 h:=λ{x y z} e {Hs H v w} s a b {Q} q=>by
  unfold pIn at e;split at e
  ·obtain ⟨us,e1,e⟩:=bind_some e;split at e
   ·rename_i hf;cases e;obtain ⟨p,vs,rfl,e2,r2⟩:=m9 s b;rw [Xm e1] at r2;cases r2.ats;cases u3 a;exact ⟨p,_,rfl,.inl (SqL.of e2),hf.1,hf.2,q _ _ _ (.refl s) (rep_at.mpr rfl)⟩
   ·cases e
  ·obtain ⟨us,e1,e⟩:=bind_some e;split at e
   ·rename_i hf;cases e;obtain ⟨p,vs,rfl,e2,r2⟩:=qv s b;rw [Xm e1] at r2;cases r2.ats;cases u3 a;exact ⟨p,_,rfl,.inr (SqT.of e2),hf.1,hf.2,q _ _ _ (.refl s) (rep_at.mpr rfl)⟩
   ·cases e
  ·cases e
class SemU (r:V->Hp->VK->Prop)(g:PV->Option PV):Prop where
 h:∀{x z},g x=some z->∀{Hs H:Hp}{v:V},Same Hs H->RepB Hs H x v->∀{Q:VK},(∀ u Hs' H',Ext Hs H Hs' H'->Rep Hs' z u->Q u H')->r v H Q
def dUn (g:PV->Option PV)(a:M):M:=λε=>(a ε).bind g
instance {r:V->Hp->VK->Prop}{g:PV->Option PV}{ta:TE}[sr:SemU r g][sa:p9 ta a]:SemE (tUn r ta) (dUn g a) where
 h:=λe _ _ _ _ _ rs _ q=>by
  obtain ⟨x,ex,e⟩:=bind_some e;exact sa.h ex rs λv Hs1 H1 x1 r1=>sr.h e x1.s3 r1 λu Hs3 H3 x3 r3=>q u _ _ (x1.trans x3) r3
def pU (g:Int->V):PV->Option PV
 | .at (.int i)=>some (.at (g i))
 |_=>none
instance {g:Int->V}:SemU (rU g) (pU g) where
 h:=λ{x z} e {_ _ _} s a {_} q=>by
  unfold pU at e;split at e
  ·cases e;exact ⟨_,u3 a,q _ _ _ (.refl s) (rep_at.mpr rfl)⟩
  ·cases e
def pB:PV->Option Bool
 | .at (.bl b)=>some b
 |_=>none
theorem wz {b:Bool}(h:pB x=some b):x = .at (.bl b):=by
 unfold pB at h;split at h
 ·cases h;rfl
 ·cases h
def dT (a:M):MB:=λε=>(a ε).bind pB
instance [sa:p9 te a]:qo (JI te) (dT a) where
 h:=λe _ _ _ _ _ rs _ q=>by
  obtain ⟨x,ex,e⟩:=bind_some e;cases wz e;exact sa.h ex rs λv Hs1 H1 x1 r1=>⟨_,u3 r1,q _ _ x1⟩
instance [sa:p9 te a]:qo (tB te) (dT a) where
 h:=λe _ _ _ _ _ rs _ q=>by
  obtain ⟨x,ex,e⟩:=bind_some e;cases wz e;exact sa.h ex rs λv Hs1 H1 x1 r1=>⟨_,u3 r1,q _ _ x1⟩
def tTru (K:Fg)(ta:TE):TT:=λσ H Q=>ta σ H λx H'=>∃ k,TruV K x H' k/\Q k H'
def pTru:PV->Option Bool
 | .at .non=>some false
 | .at (.bl b)=>some b
 | .at (.int i)=>some (i != 0)
 | .at (.str y)=>if y.length<=lim then some ((y.length:Int) != 0) else none
 | .lst xs=>some (!xs.isEmpty)
 | .tup xs=>some (!xs.isEmpty)
 | .dk ks _=>some (!ks.isEmpty)
 |_=>none
def m5 (a:M):MB:=λε=>(a ε).bind pTru
theorem Reps.isEmpty (r:Reps H xs vs):vs.isEmpty=xs.isEmpty:=by have:=r.length;cases xs<;>cases vs<;>first|rfl|(simp at this)
instance [sa:p9 te a]:qo (tTru K te) (m5 a) where
 h:=λe _ _ _ _ _ rs _ q=>by
  obtain ⟨x,ex,e⟩:=bind_some e;refine sa.h ex rs λv Hs1 H1 x1 r1=>?_;unfold pTru at e;split at e
  ·cases e;cases u3 r1;exact ⟨_,rfl,q _ _ x1⟩
  ·cases e;cases u3 r1;exact ⟨_,rfl,q _ _ x1⟩
  ·cases e;cases u3 r1;exact ⟨_,rfl,q _ _ x1⟩
  ·split at e
   ·rename_i hl;cases e;cases u3 r1;exact ⟨_,⟨qp hl,rfl⟩,q _ _ x1⟩
   ·cases e
  ·cases e;obtain ⟨p,vs,rfl,e1,r2⟩:=m9 x1.s3 r1;exact ⟨_,.inl ⟨vs,SqL.of e1,by rw [r2.isEmpty]⟩,q _ _ x1⟩
  ·cases e;obtain ⟨p,vs,rfl,e1,r2⟩:=qv x1.s3 r1;exact ⟨_,.inr (.inl ⟨vs,SqT.of e1,by rw [r2.isEmpty]⟩),q _ _ x1⟩
  ·cases e;obtain ⟨p,kvs,rfl,e1,k,r2⟩:=zU x1.s3 r1;refine ⟨_,.inr (.inr ⟨kvs,e1,?_⟩),q _ _ x1⟩;rw [<- k];cases kvs<;>rfl
  ·cases e
def vM (a b:MB):MB:=λε=>(a ε).bind λc=>if c=true then b ε else some false
def dOr (a b:MB):MB:=λε=>(a ε).bind λc=>if c=true then some true else b ε
def m4 (a:MB):MB:=λε=>(a ε).bind λc=>some (!c)
instance {u:TT}{a b:MB}[sa:qo t a][sb:qo u b]:qo (tAnd t u) (vM a b) where
 h:=λe _ _ _ _ _ rs _ q=>by
  obtain ⟨c,ex,e⟩:=bind_some e;refine sa.h ex rs λHs1 H1 x1=>?_;cases c with
  |true=>exact xu (sb.h e (rs.go x1) λHs2 H2 x2=>q _ _ (x1.trans x2))
  |false=>cases e;exact xt (q _ _ x1)
instance {u:TT}{a b:MB}[sa:qo t a][sb:qo u b]:qo (tOr t u) (dOr a b) where
 h:=λe _ _ _ _ _ rs _ q=>by
  obtain ⟨c,ex,e⟩:=bind_some e;refine sa.h ex rs λHs1 H1 x1=>?_;cases c with
  |true=>cases e;exact xu (q _ _ x1)
  |false=>exact xt (sb.h e (rs.go x1) λHs2 H2 x2=>q _ _ (x1.trans x2))
instance {a:MB}[sa:qo t a]:qo (tNot t) (m4 a) where
 h:=λe _ _ _ _ _ rs _ q=>by
  obtain ⟨c,ex,e⟩:=bind_some e;cases e;exact sa.h ex rs λHs1 H1 x1=>q _ _ x1
def qH (a b:M):M:=λε=>(a ε).bind λx=>(pB x).bind λc=>if c=true then b ε else some (.at (.bl false))
def jZ (a:M):M:=λε=>(a ε).bind λx=>(pB x).bind λc=>some (.at (.bl (!c)))
instance {t u:TE}[sa:SemE t a][sb:SemE u b]:SemE (UJ t u) (qH a b) where
 h:=λe _ _ _ _ _ rs _ q=>by
  obtain ⟨x,ex,e⟩:=bind_some e;obtain ⟨c,ec,e⟩:=bind_some e;cases wz ec;refine sa.h ex rs λv Hs1 H1 x1 r1=>⟨c,rep_at.mp r1,?_⟩;cases c with
  |true=>exact xu (sb.h e (rs.go x1) λw Hs2 H2 x2 r2=>q _ _ _ (x1.trans x2) r2)
  |false=>cases e;exact xt (q _ _ _ x1 (rep_at.mpr rfl))
instance {t:TE}[sa:p9 t a]:SemE (UQ t) (jZ a) where
 h:=λe _ _ _ _ _ rs _ q=>by
  obtain ⟨x,ex,e⟩:=bind_some e;obtain ⟨c,ec,e⟩:=bind_some e;cases wz ec;cases e;exact sa.h ex rs λv Hs1 H1 x1 r1=>⟨c,u3 r1,q _ _ _ x1 (rep_at.mpr rfl)⟩
def dIf (c:MB)(a b:M):M:=λε=>(c ε).bind λk=>if k=true then a ε else b ε
instance {ta:TE}[sc:qo t c][sa:SemE ta a][sb:SemE tb b]:SemE (tIf t ta tb) (dIf c a b) where
 h:=λe _ _ _ _ _ rs _ q=>by
  obtain ⟨k,ex,e⟩:=bind_some e;refine sc.h ex rs λHs1 H1 x1=>?_;cases k with
  |true=>exact xu (sa.h e (rs.go x1) λw Hs2 H2 x2 r2=>q _ _ _ (x1.trans x2) r2)
  |false=>exact xt (sb.h e (rs.go x1) λw Hs2 H2 x2 r2=>q _ _ _ (x1.trans x2) r2)
def jk (g g':PV->PV->Option PV)(a b c:M):M:=λε=>(a ε).bind λx=>(b ε).bind λy=>(g x y).bind λz=>(pB z).bind λk=>if k=true then (c ε).bind λw=>g' y w else some (.at (.bl false))
instance {r':R2}{g g':PV->PV->Option PV}{ta tc:TE}{c:M}[sr:qD r g][sr':qD r' g'][sa:p9 ta a][sb:p9 tb b][sc:p9 tc c]:SemE (JG r r' ta tb tc) (jk g g' a b c) where
 h:=λe _ _ _ _ _ rs _ q=>by
  obtain ⟨x,ex,e1⟩:=bind_some e;obtain ⟨y,ey,e2⟩:=bind_some e1;obtain ⟨z,ez,e3⟩:=bind_some e2;obtain ⟨k,ek,e4⟩:=bind_some e3;have ez':=wz ek;subst ez';refine sa.h ex rs λv Hs1 H1 x1 r1=>sb.h ey (rs.go x1) λw Hs2 H2 x2 r2=>sr.h ez x2.s3 (r1.ext x2) r2 λu Hs3 H3 x3 r3=>⟨k,rep_at.mp r3,?_⟩;cases k with
  |true=>obtain ⟨w',ew,e5⟩:=bind_some e4;exact xu (sc.h ew (((rs.go x1).go x2).go x3) λu' Hs4 H4 x4 r4=>sr'.h e5 x4.s3 ((r2.ext x3).ext x4) r4 λu'' Hs5 H5 x5 r5=>q _ _ _ (x1.trans (x2.trans (x3.trans (x4.trans x5)))) r5)
  |false=>cases e4;exact xt (q _ _ _ (x1.trans (x2.trans x3)) (rep_at.mpr rfl))
def z7 (m:List PV->Option PV):Sp:=λvs H Q _=>∃ Hs xs y,Same Hs H/\Reps Hs xs vs/\m xs=some y/\∀ v Hs' H',Ext Hs H Hs' H'->Rep Hs' y v->Q v H'
def r9 (m:List PV->Option PV):Sp:=λvs H Q _=>∃ Hs xs y,Same Hs H/\Reps Hs xs vs/\m xs=some y/\∀ a Hs' H',Ext Hs H Hs' H'->H a=none->Hs' a=none->Top Hs' H' a y->Q (.ref a) H'
def x8 (m:List PV->Option PV)(as:MA):M:=λε=>(as ε).bind m
instance [sa:qz ta as]:SemE (xV (z7 m) [] E ta) (x8 m as) where
 h:=λe _ _ _ _ _ rs _ q=>by
  obtain ⟨xs,ex,e1⟩:=bind_some e;refine sa.h ex rs λvs Hs1 H1 x1 r1=>⟨Hs1,xs,_,x1.s3,by rw [yq];exact r1,e1,λv Hs' H' x r=>q v _ _ (x1.trans x) r⟩
instance [sa:qz ta as]:qP (xV (r9 m) [] E ta) (x8 m as) where
 h:=λe _ _ _ _ _ rs _ q=>by
  obtain ⟨xs,ex,e1⟩:=bind_some e;refine sa.h ex rs λvs Hs1 H1 x1 r1=>⟨Hs1,xs,_,x1.s3,by rw [yq];exact r1,e1,λa Hs' H' x n n' r=>q a _ _ (x1.trans x) (x1.s2.free n) n' r⟩
def Xw (m:List PV->Option PV)(ds:List V)(as:MA):M:=λε=>(as ε).bind λxs=>m (xs++ds.map .at)
def qI (C:Addr)(nm:Str)(m:List PV->Option PV)(a:M)(as:MA):M:=λε=>(a ε).bind λx=>match x with
 | .ob C' ns fs=>if C'=C/\nm∉ns then (as ε).bind λxs=>m (x::xs) else none
 |_=>none
theorem XV {fs:List (Str×V)}{f:Str}(h:f∉fs.map (·.1)):fs.lookup f=none:=by
 induction fs with
 |nil=>rfl
 |cons p r ih =>
  rw [yM] at h;rw [uW];have h1:(f==p.1)=false:=by rw [beq_eq_false_iff_ne];exact λe=>h (e▸yR)
  rw [h1];exact ih λz=>h (yO _ z)
theorem WG (h:qI C nm m a as ε=some y):∃ ns fs xs,a ε=some (.ob C ns fs)/\nm∉ns/\as ε=some xs/\m (.ob C ns fs::xs)=some y:=by
 unfold qI at h;obtain ⟨x,ex,h1⟩:=bind_some h;split at h1
 ·rename_i C' ns fs;split at h1
  ·rename_i hc;obtain ⟨xs,e2,h2⟩:=bind_some h1;obtain ⟨rfl,hn⟩:=hc;exact ⟨ns,fs,xs,ex,hn,e2,h2⟩
  ·cases h1
 ·cases h1
instance [so:SemE te a][sa:qz ta as]:SemE (jM C nm (z7 m) [] E te ta) (qI C nm m a as) where
 h:=λe _ _ _ _ _ rs _ q=>by
  obtain ⟨ns,fs,xs,ea,hn,e1,e2⟩:=WG e;refine so.h ea rs λv Hs1 H1 x1 r1=>?_;obtain ⟨p,dx,gs,rfl,hp,hk,hr⟩:=rep_ob.mp r1;refine ⟨p,dx,gs,rfl,x1.s3 _ _ hp,XV (by rw [hk];exact hn),sa.h e1 (rs.go x1) λvs Hs2 H2 x2 r2=>?_⟩;exact ⟨Hs2,_,_,x2.s3,by rw [yq];exact .cons (r1.mono x2.s1) r2,e2,λv Hs' H' x r=>q v _ _ (x1.trans (x2.trans x)) r⟩
instance [so:SemE te a][sa:qz ta as]:qP (jM C nm (r9 m) [] E te ta) (qI C nm m a as) where
 h:=λe _ _ _ _ _ rs _ q=>by
  obtain ⟨ns,fs,xs,ea,hn,e1,e2⟩:=WG e;refine so.h ea rs λv Hs1 H1 x1 r1=>?_;obtain ⟨p,dx,gs,rfl,hp,hk,hr⟩:=rep_ob.mp r1;refine ⟨p,dx,gs,rfl,x1.s3 _ _ hp,XV (by rw [hk];exact hn),sa.h e1 (rs.go x1) λvs Hs2 H2 x2 r2=>?_⟩;exact ⟨Hs2,_,_,x2.s3,by rw [yq];exact .cons (r1.mono x2.s1) r2,e2,λv Hs' H' x n n' r=>q v _ _ (x1.trans (x2.trans x)) (x1.s2.free (x2.s2.free n)) n' r⟩
class jd (r:List V->Hp->VK->Prop)(g:List PV->Option PV):Prop where
 h:∀{xs z},g xs=some z->∀{Hs H:Hp}{vs:List V},Same Hs H->jU Hs H xs vs->∀{Q:VK},(∀ u Hs' H',Ext Hs H Hs' H'->Rep Hs' z u->Q u H')->r vs H Q
class Xi (r:List V->Hp->VK->Prop)(g:List PV->Option PV):Prop where
 h:∀{xs z},g xs=some z->∀{Hs H:Hp}{vs:List V},Same Hs H->jU Hs H xs vs->∀{Q:VK},(∀ a Hs' H',Ext Hs H Hs' H'->H a=none->Hs' a=none->Top Hs' H' a z->Q (.ref a) H')->r vs H Q
instance {r:List V->Hp->VK->Prop}{g:List PV->Option PV}[sr:jd r g][sa:vK ta as]:SemE (tCB r ta) (x8 g as) where
 h:=λe _ _ _ _ _ rs _ q=>by
  obtain ⟨xs,ex,e1⟩:=bind_some e;exact sa.h ex rs λvs Hs1 H1 x1 r1=>sr.h e1 x1.s3 r1 λv Hs' H' x r=>q v _ _ (x1.trans x) r
instance {r:List V->Hp->VK->Prop}{g:List PV->Option PV}[sr:Xi r g][sa:vK ta as]:qP (tCB r ta) (x8 g as) where
 h:=λe _ _ _ _ _ rs _ q=>by
  obtain ⟨xs,ex,e1⟩:=bind_some e;exact sa.h ex rs λvs Hs1 H1 x1 r1=>sr.h e1 x1.s3 r1 λv Hs' H' x n n' r=>q v _ _ (x1.trans x) (x1.s2.free n) n' r
theorem qM (h:jU Hs H [x] vs):∃ v,vs=[v]/\RepB Hs H x v:=by obtain ⟨v,r,rfl,a,b⟩:=h;cases (show r=[] from b);exact ⟨v,rfl,a⟩
theorem DF (h:jU Hs H [x,y] vs):∃ v w,vs=[v,w]/\RepB Hs H x v/\RepB Hs H y w:=by obtain ⟨v,r,rfl,a,b⟩:=h;obtain ⟨w,rfl,c⟩:=qM b;exact ⟨v,w,rfl,a,c⟩
inductive Out where
 |nx (ε:ME)|rt (y:PV)|bk (ε:ME)|ct (ε:ME)
abbrev MS:=ME->Option Out
def OutK (fr:Bool)(Hs0 H0:Hp)(D:qO):Out->Prop
 | .nx ε=>∀ Hs H σ,RS Hs0 H0 Hs H σ ε->D.nx σ H
 | .bk ε=>∀ Hs H σ,RS Hs0 H0 Hs H σ ε->D.bk σ H
 | .ct ε=>∀ Hs H σ,RS Hs0 H0 Hs H σ ε->D.ct σ H
 | .rt y=>match fr with
  |true=>∀ a Hs H,Ext Hs0 H0 Hs H->H0 a=none->Hs a=none->Top Hs H a y->D.rt (.ref a) H
  |false=>∀ v Hs H,Ext Hs0 H0 Hs H->Rep Hs y v->D.rt v H
class t6 (fr:Bool)(ts:TS)(f:MS):Prop where
 h:∀{ε o},f ε=some o->∀{Hs0 H0 Hs H σ},RS Hs0 H0 Hs H σ ε->∀{D:qO},OutK fr Hs0 H0 D o->ts D σ H
variable {fr:Bool}
def o9:MS:=λε=>some (.nx ε)
instance:t6 fr JH o9 where
 h:=λe _ _ _ _ _ rs _ q=>by cases e;exact q _ _ _ rs
def v8 (a b:MS):MS:=λε=>(a ε).bind λo=>match o with
 | .nx ε'=>b ε'
 |o=>some o
instance {t u:TS}{a b:MS}[sa:t6 fr t a][sb:t6 fr u b]:t6 fr (tSeq t u) (v8 a b) where
 h:=λe _ _ _ _ _ rs D q=>by
  obtain ⟨o,eo,e1⟩:=bind_some e;refine sa.h eo rs ?_;cases o with
  |nx ε'=>exact λHs H σ r=>sb.h e1 r q
  |rt y=>cases e1;exact q
  |bk ε'=>cases e1;exact q
  |ct ε'=>cases e1;exact q
def zB (a:M):MS:=λε=>(a ε).bind λ_=>some (.nx ε)
instance (priority:=100)[sa:p9 te a]:t6 fr (jL te) (zB a) where
 h:=λe _ _ _ _ _ rs _ q=>by
  obtain ⟨x,ex,e1⟩:=bind_some e;cases e1;exact sa.h ex rs λv Hs1 H1 x1 r1=>q _ _ _ (rs.go x1)
def y4 (a:M):MS:=λε=>(a ε).bind λx=>some (.rt x)
instance [sa:SemE te a]:t6 false (wS te) (y4 a) where
 h:=λe _ _ _ _ _ rs _ q=>by
  obtain ⟨x,ex,e1⟩:=bind_some e;cases e1;exact sa.h ex rs λv Hs1 H1 x1 r1=>q _ _ _ (rs.ext.trans x1) r1
instance [sa:qP te a]:t6 true (wS te) (y4 a) where
 h:=λe _ _ _ _ _ rs _ q=>by
  obtain ⟨x,ex,e1⟩:=bind_some e;cases e1;exact sa.h ex rs λv Hs1 H1 x1 n n' r1=>q _ _ _ (rs.ext.trans x1) (rs.ext.s2.free n) n' r1
def oVar (i:Nat):M:=λε=>match ε[i]? with
 |some (.ow x)=>some x
 |_=>none
instance {i:Nat}:t6 true (wS (n8 i)) (y4 (oVar i)) where
 h:=λe _ _ _ _ _ rs _ q=>by
  obtain ⟨x,ex,e1⟩:=bind_some e;cases e1;unfold oVar at ex;split at ex
  ·rename_i y hy;cases ex;obtain ⟨a,ha,n0,n,t⟩:=rs.ow i _ hy;exact ⟨_,ha,q _ _ _ rs.ext n0 n t⟩
  ·cases ex
def i7 (c:MB)(a b:MS):MS:=λε=>(c ε).bind λk=>if k=true then a ε else b ε
instance {ta tb:TS}{a b:MS}[sc:qo t c][sa:t6 fr ta a][sb:t6 fr tb b]:t6 fr (tIfS t ta tb) (i7 c a b) where
 h:=λe _ _ _ _ _ rs _ q=>by
  obtain ⟨k,ex,e1⟩:=bind_some e;refine sc.h ex rs λHs1 H1 x1=>?_;cases k with
  |true=>exact xu (sa.h e1 (rs.go x1) q)
  |false=>exact xt (sb.h e1 (rs.go x1) q)
def qJ:MS:=λ_=>none
instance:t6 fr UO qJ where
 h:=λe=>by cases e
abbrev MG:=PV->ME->Option ME
variable{g:MG}
def But (ts:List Nat)(σ σ':St):Prop:=σ'.length=σ.length/\∀ j,j∉ts->σ'[j]?=σ[j]?
theorem But.refl (σ:St):But [] σ σ:=⟨rfl,λ_ _=>rfl⟩
theorem But.trans {a b:List Nat}{σ1 σ2:St}(x:But a σ σ1)(y:But b σ1 σ2):But (a++b) σ σ2 :=
 ⟨y.1.trans x.1,λj hj=>(y.2 j λz=>hj (yo.mpr (.inr z))).trans (x.2 j λz=>hj (yo.mpr (.inl z)))⟩
theorem But.wk (b:But ts σ σ')(h:∀ i∈ts,σ[i]?=some none):Wk σ σ':=by refine ⟨b.1.symm,λi v e=>?_⟩;rw [b.2 i λz=>by rw [h i z] at e;cases e];exact e
class je (tg:TG)(ts:outParam (List Nat))(g:MG):Prop where
 h:∀{x ε ε'},g x ε=some ε'->∀{Hs0 H0 Hs H σ v},RS Hs0 H0 Hs H σ ε->Rep Hs x v->∀{Q:St->Hp->Prop},(∀ σ',RS Hs0 H0 Hs H σ' ε'->But ts σ σ'->Q σ' H)->tg v σ H Q
class jW (tg:TGs)(ts:outParam (List Nat))(g:List PV->ME->Option ME):Prop where
 h:∀{xs ε ε'},g xs ε=some ε'->∀{Hs0 H0 Hs H σ vs},RS Hs0 H0 Hs H σ ε->Reps Hs xs vs->∀{Q:St->Hp->Prop},(∀ σ',RS Hs0 H0 Hs H σ' ε'->But ts σ σ'->Q σ' H)->tg vs σ H Q
def j9 (i:Nat):MG:=λx ε=>some (ε.set i (.sh x))
instance {i:Nat}:je (e7 i) [i] (j9 i) where
 h:=λe _ _ _ _ _ _ rs r _ q=>by
  cases e;exact q _ (rs.put r) ⟨yn,λj hj=>yw λz=>hj (by rw [<- z];exact yN.mpr rfl)⟩
def xM:List PV->ME->Option ME:=λxs ε=>match xs with
 |[]=>some ε
 |_=>none
def qf (g:MG)(r:List PV->ME->Option ME):List PV->ME->Option ME:=λxs ε=>match xs with
 |x::xs=>(g x ε).bind (r xs)
 |_=>none
instance:jW gNil [] xM where
 h:=λ{xs ε ε'} e {_ _ _ _ _ _} rs r {_} q=>by
  unfold xM at e;split at e
  ·cases e;exact ⟨reps_nil.mp r,q _ rs (.refl _)⟩
  ·cases e
instance My {t:TG}{u:TGs}{a b:List Nat}{r:List PV->ME->Option ME}[sg:je t a g][sr:jW u b r]:jW (XG t u) (a++b) (qf g r) where
 h:=λ{xs ε ε'} e {_ _ _ _ _ _} rs rr {_} q=>by
  unfold qf at e;split at e
  ·obtain ⟨ε1,e1,e2⟩:=bind_some e;obtain ⟨v,w,rfl,r1,r2⟩:=reps_cons.mp rr;exact ⟨v,w,rfl,sg.h e1 rs r1 λσ1 rs1 b1=>sr.h e2 rs1 r2 λσ2 rs2 b2=>q _ rs2 (b1.trans b2)⟩
  ·cases e
instance (priority:=2000){i:Nat}{u:TGs}{b:List Nat}{r:List PV->ME->Option ME}[sr:jW u b r]:jW (XG (e7 i) u) (i::b) (qf (j9 i) r) where
 h:=λe _ _ _ _ _ _ rs rr _ q=>(My (t:=e7 i) (a:=[i]) (g:=j9 i)).h e rs rr q
def xN (n:Nat)(g:List PV->ME->Option ME):MG:=λx ε=>match x with
 | .tup xs=>if xs.length=n then g xs ε else none
 |_=>none
instance {t:TGs}{g:List PV->ME->Option ME}[sg:jW t ts g]:je (gTup K n t) ts (xN n g) where
 h:=λ{x ε ε'} e {_ _ _ _ _ _} rs rr {_} q=>by
  unfold xN at e;split at e
  ·split at e
   ·rename_i hl;obtain ⟨a,vs,rfl,h,r⟩:=rep_tup.mp rr;exact ⟨a,vs,rfl,SqT.of (rs.sub _ _ h),by rw [r.length];exact hl,sg.h e rs r λσ' rs' b=>q _ rs' b⟩
   ·cases e
  ·cases e
def k4 (i:Nat)(a:M):MS:=λε=>(a ε).bind λx=>some (.nx (ε.set i (.sh x)))
def zD (i:Nat)(a:M):MS:=λε=>(a ε).bind λx=>some (.nx (ε.set i (.ow x)))
instance {i:Nat}[sa:SemE te a]:t6 fr (xU te (e7 i)) (k4 i a) where
 h:=λe _ _ _ _ _ rs _ q=>by
  obtain ⟨x,ex,e1⟩:=bind_some e;cases e1;exact sa.h ex rs λv Hs1 H1 x1 r1=>q _ _ _ ((rs.go x1).put r1)
instance {i:Nat}[sa:qP te a]:t6 fr (xU te (e7 i)) (zD i a) where
 h:=λe _ _ _ _ _ rs _ q=>by
  obtain ⟨x,ex,e1⟩:=bind_some e;cases e1;refine sa.h ex rs λp Hs1 H1 x1 n n' t=>q _ _ _ ((rs.go x1).putO ⟨rs.ext.s2.free n,n',t⟩ λj y hj z=>?_);obtain ⟨b,hb,_,_,tb⟩:=rs.ow j y hj;rw [z] at hb;injection hb with hb;injection hb with hb;injection hb with hb;subst hb;exact tb.there n
def dAsg (g:MG)(a:M):MS:=λε=>(a ε).bind λx=>(g x ε).bind λε'=>some (.nx ε')
instance (priority:=500)[sa:SemE te a][sg:je tg ts g]:t6 fr (xU te tg) (dAsg g a) where
 h:=λe _ _ _ _ _ rs _ q=>by
  obtain ⟨x,ex,e1⟩:=bind_some e;obtain ⟨ε',e2,e3⟩:=bind_some e1;cases e3;exact sa.h ex rs λv Hs1 H1 x1 r1=>sg.h e2 (rs.go x1) r1 λσ' rs' _=>q _ _ _ rs'
def pIp (g:Int->Int->Int):PV->PV->Option PV
 | .at (.int i),.at (.int j)=>some (.at (.int (g i j)))
 |_,_=>none
def jj (i:Nat)(a:M):MS:=λε=>(a ε).bind λx=>match ε[i]? with
 |some (.ow (.lst xs))=>if xs.length<=lim then some (.nx (ε.set i (.ow (.lst (xs++[x]))))) else none
 |_=>none
instance {i:Nat}[sa:SemE te a]:t6 fr (jL (tBM K "list" Zv (n8 i) (p8 te c5))) (jj i a) where
 h:=λe _ _ _ _ _ rs _ q=>by
  obtain ⟨x,ex,e1⟩:=bind_some e;split at e1
  ·rename_i xs hi;split at e1
   ·rename_i hl;cases e1;obtain ⟨p,hp,n0,n,vs,hv,rv⟩:=rs.ow i _ hi;refine ⟨_,hp,.inl ⟨rfl,vs,SqL.of hv⟩,sa.h ex rs λv Hs1 H1 x1 r1=>?_⟩;have hv1:=x1.s2 _ _ hv;refine ⟨p,vs,v,rfl,rfl,hv1,Qy (by rw [rv.length];exact hl),q _ _ _ ((rs.go x1).change hi hp ⟨_,w9,(rv.mono x1.s1).append (.one r1)⟩)⟩
   ·cases e1
  ·cases e1
def dExtend (i:Nat)(a:M):MS:=λε=>(a ε).bind λx=>match x with
 | .lst ys=>(match ε[i]? with
  |some (.ow (.lst xs))=>if xs.length+ys.length<=lim then some (.nx (ε.set i (.ow (.lst (xs++ys))))) else none
  |_=>none)
 |_=>none
structure zZ (J:It)(xs:List PV)(Hs:Hp):Prop where
 go:∀(i:Nat)(x:PV)(Hs1 H1:Hp),xs[i]?=some x->Same Hs Hs1->Same Hs1 H1->J.go i H1/\∀ v H2,J.yld i H1 v H2->∃ Hs2,Ext Hs1 H1 Hs2 H2/\Rep Hs2 x v
 stop:∀(Hs1 H1:Hp),Same Hs Hs1->Same Hs1 H1->J.stop xs.length H1
class zu (ti:TI)(f:MA):Prop where
 h:∀{ε xs},f ε=some xs->∀{Hs0 H0 Hs H σ},RS Hs0 H0 Hs H σ ε->∀{R:It->Hp->Prop},(∀ J Hs' H',Ext Hs H Hs' H'->zZ J xs Hs'->R J H')->ti σ H R
def u5 (a:M):MA:=λε=>(a ε).bind λx=>match x with
 | .lst xs=>some xs
 |_=>none
theorem Bs {a:Addr}(h:Hs a=some (.lst vs))(r:Reps Hs xs vs):zZ (Itl K a) xs Hs where
 go:=λi x Hs1 H1 e g1 g2=>by
  obtain ⟨v,ev,rv⟩:=r.get e;refine ⟨⟨vs,v,SqL.of (g2 _ _ (g1 _ _ h)),ev⟩,λw H2 y=>?_⟩;obtain ⟨rfl,y⟩:=y;have z:=y vs (SqL.of (g2 _ _ (g1 _ _ h)));rw [ev] at z;cases z;exact ⟨Hs1,.refl g2,rv.mono g1⟩
 stop:=λHs1 H1 g1 g2=>⟨vs,SqL.of (g2 _ _ (g1 _ _ h)),by rw [r.length];exact yU _⟩
instance [sa:SemE te a]:zu (Qs K te) (u5 a) where
 h:=λe _ _ _ _ _ rs _ q=>by
  obtain ⟨x,ex,e1⟩:=bind_some e;split at e1
  ·cases e1;refine sa.h ex rs λv Hs1 H1 x1 r1=>?_;obtain ⟨p,vs,rfl,hp,r⟩:=rep_lst.mp r1;exact ⟨p,rfl,⟨vs,SqL.of (x1.s3 _ _ hp)⟩,q _ _ _ x1 (Bs hp r)⟩
  ·cases e1
def xl (lo:Int)(n:Nat):List PV:=(List.range n).map λ(i:Nat)=> .at (.int (lo+i))
theorem jH :(xl lo n).length=n:=by unfold xl;rw [yZ,uB]
theorem DI {i:Nat}(h:(xl lo n)[i]?=some x):i<n/\x = .at (.int (lo+i)):=by
 have hl:i<n:=by have:=(yH.mp h).1;rw [jH] at this;exact this
 refine ⟨hl,?_⟩;unfold xl at h;rw [yP,List.getElem?_range hl] at h;cases h;rfl
theorem Bt :zZ (Itr lo n) (xl lo n) Hs where
 go:=λi x Hs1 H1 e g1 g2=>by
  obtain ⟨hl,rfl⟩:=DI e;refine ⟨hl,λv H2 y=>?_⟩;obtain ⟨rfl,rfl⟩:=y;exact ⟨Hs1,.refl g2,rep_at.mpr rfl⟩
 stop:=λHs1 H1 g1 g2=>by show n<=_;rw [jH];exact yU _
def xI (a:MA):MA:=λε=>(a ε).bind λxs=>match xs with
 |[.at (.int j)]=>if -(lim:Int)<=j/\j<=lim then some (xl 0 j.toNat) else none
 |_=>none
instance {a:MA}[sa:qz ta a]:zu (jq ta) (xI a) where
 h:=λe _ _ _ _ _ rs _ q=>by
  obtain ⟨xs,ex,e1⟩:=bind_some e;split at e1
  ·rename_i j;split at e1
   ·rename_i hl;cases e1;refine sa.h ex rs λvs Hs1 H1 x1 r1=>?_;obtain ⟨v,r,rfl,p1,p2⟩:=reps_cons.mp r1;cases reps_nil.mp p2;cases rep_at.mp p1;have hlim:(lim:Int)=1000000:=rfl;exact ⟨j,rfl,by omega,by omega,q _ _ _ x1 Bt⟩
   ·cases e1
  ·cases e1
def xq (g:MG)(f:MS):List PV->ME->Option Out
 |[],ε=>some (.nx ε)
 |x::xs,ε=>(g x ε).bind λε1=>(f ε1).bind λo=>match o with
  | .nx ε2=>xq g f xs ε2
  | .ct ε2=>xq g f xs ε2
  | .bk ε2=>some (.nx ε2)
  | .rt y=>some (.rt y)
def zC (i:MA)(g:MG)(f:MS):MS:=λε=>(i ε).bind λxs=>xq g f xs ε
theorem OutK.unbase {D:qO}(x:Ext Hs0 H0 Hb H):∀{o:Out},OutK fr Hs0 H0 D o->OutK fr Hb H0 D o
 | .nx _,h=>λHs H σ r=>h _ _ _ (RS.unbase x r)
 | .bk _,h=>λHs H σ r=>h _ _ _ (RS.unbase x r)
 | .ct _,h=>λHs H σ r=>h _ _ _ (RS.unbase x r)
 | .rt _,h=>by
  cases fr with
  |true=>exact λa Hs H e n n' t=>h a Hs H (x.unbase e) n n' t
  |false=>exact λa Hs H e r=>h a Hs H (x.unbase e) r
instance {tb:TS}{i:MA}{f:MS}[si:zu wi i][sg:je tg ts g][sf:t6 fr tb f]:t6 fr (tFor wi tg tb) (zC i g f) where
 h:=λe Hs0 H0 _ _ _ rs D q=>by
  obtain ⟨xs,ex,e1⟩:=bind_some e;refine si.h ex rs λJ Hs1 H1 x1 ok=>?_;have rs1:=rs.go x1;have q1:=OutK.unbase rs1.ext q;refine ⟨λk m σ H=>m=xs.length-k/\k<=xs.length/\∃ Hs ε,RS Hs1 H0 Hs H σ ε/\xq g f (xs.drop k) ε=some _,⟨xs.length,by simp,ye _,Hs1,_,rs1.rebase,e1⟩,?_⟩;rintro k m σ H ⟨rfl,hk,Hs,ε,r,el⟩;by_cases hlt:k<xs.length
  ·have hd:xs.drop k=xs[k]::xs.drop (k+1):=uY hlt;rw [hd] at el;unfold xq at el;obtain ⟨ε1,eg,el1⟩:=bind_some el;obtain ⟨o,eo,el2⟩:=bind_some el1;obtain ⟨go,yl⟩:=ok.go k xs[k] Hs H (by simp [hlt]) r.ext.s1 r.ext.s3;refine .inr ⟨go,λσ' H'=>k+1<=xs.length/\∃ Hs ε,RS Hs1 H0 Hs H' σ' ε/\xq g f (xs.drop (k+1)) ε=some _,λσ' H' p=>⟨xs.length-(k+1),by omega,rfl,p.1,p.2⟩,λv H2 y=>?_⟩;obtain ⟨Hs2,x2,r2⟩:=yl v H2 y;refine sg.h eg (r.go x2) r2 λσ2 rs2 _=>sf.h eo rs2 ?_;cases o with
   |nx ε2=>exact λHs3 H3 σ3 r3=>⟨hlt,Hs3,ε2,r3,el2⟩
   |ct ε2=>exact λHs3 H3 σ3 r3=>⟨hlt,Hs3,ε2,r3,el2⟩
   |bk ε2=>cases el2;exact q1
   |rt y=>cases el2;exact q1
  ·have ek:k=xs.length:=by omega
   subst ek;rw [uk] at el;unfold xq at el;cases el;exact .inl ⟨ok.stop Hs H r.ext.s1 r.ext.s3,q1 _ _ _ r⟩
def c3 (cap:List (Option Nat))(ε:ME):ME:=cap.map λo=>match o with
 |none=> .no
 |some i=>(ε[i]?).getD .no
def qB (g:MG)(c:MB)(f:M)(ε0:ME):List PV->Option (List PV)
 |[]=>some []
 |x::xs=>(g x ε0).bind λε1=>(c ε1).bind λb=>if b=true then (f ε1).bind λy=>(qB g c f ε0 xs).bind λys=>some (y::ys) else qB g c f ε0 xs
def u6:MB:=λ_=>some true
instance:qo tYes u6 where
 h:=λe _ _ _ _ _ rs _ q=>by cases e;exact q _ _ (.refl rs.sub)
def xF (cap:List (Option Nat))(ts:List Nat):Bool:=decide (cap.filterMap id).Nodup&&ts.all λi=>decide (cap[i]?=some none)
def g9 (cap:List (Option Nat))(ts:List Nat)(i:MA)(g:MG)(c:MB)(f:M):M:=λε=>(i ε).bind λxs=>if xF cap ts=true/\xs.length<=lim then (qB g c f (c3 cap ε) xs).bind λys=>some (.lst ys) else none
theorem RS.cap {cap:List (Option Nat)}(hc:(cap.filterMap id).Nodup)(r:RS Hs0 H0 Hs H σ ε):RS Hs0 H0 Hs H (k7 cap σ) (c3 cap ε):=by
 have inj:∀(i j k:Nat),cap[i]?=some (some k)->cap[j]?=some (some k)->i=j:=by
  clear r
  induction cap with
  |nil=>intro i j k h;simp at h
  |cons o cap ih =>
   intro i j k hi hj;have no:∀(l:Nat),o=some k->cap[l]?=some (some k)->False:=λl ho hl=>by
    subst ho;rw [List.filterMap_cons_some (by rfl)] at hc;exact (yx.mp hc).1 (List.mem_filterMap.mpr ⟨some k,yp hl,rfl⟩)
   have hc':(cap.filterMap id).Nodup:=by
    cases o with
    |none=>rwa [List.filterMap_cons_none (by rfl)] at hc
    |some m=>rw [List.filterMap_cons_some (by rfl)] at hc;exact (yx.mp hc).2
   cases i with
   |zero =>
    cases j with
    |zero=>rfl
    |succ j=>exact (no j (by simpa using hi) (by simpa using hj)).elim
   |succ i =>
    cases j with
    |zero=>exact (no i (by simpa using hj) (by simpa using hi)).elim
    |succ j=>rw [ih hc' i j k (by simpa using hi) (by simpa using hj)]
 have at1:∀(i:Nat)(sl:MSlot),(c3 cap ε)[i]?=some sl->sl = .no∨∃ k,cap[i]?=some (some k)/\ε[k]?=some sl:=by
  intro i sl h;unfold c3 at h;rw [yP] at h;cases ho:cap[i]? with
  |none=>rw [ho] at h;cases h
  |some o =>
   rw [ho] at h;cases o with
   |none=>cases h;exact .inl rfl
   |some k =>
    cases hk:ε[k]? with
    |none=>simp only [uI,hk,Option.getD_none] at h;cases h;exact .inl rfl
    |some s=>simp only [uI,hk,Option.getD_some] at h;cases h;exact .inr ⟨k,rfl,hk⟩
 have at2:∀(i k:Nat),cap[i]?=some (some k)->∀ v,σ[k]?=some (some v)->(k7 cap σ)[i]?=some (some v):=by intro i k h v e;unfold k7;rw [yP,h];simp [e]
 have at3:∀(i k:Nat)(v:V),cap[i]?=some (some k)->(k7 cap σ)[i]?=some (some v)->σ[k]?=some (some v):=by
  intro i k v h e;unfold k7 at e;rw [yP,h] at e;simp only [uI,yy,Option.some.injEq] at e;cases hs:σ[k]? with
  |none=>rw [hs] at e;cases e
  |some o=>rw [hs] at e;simp at e;rw [e]
 refine ⟨r.ext,λi x h=>?_,λi x h=>?_,λi j x y a h1 h2 h3 h4=>?_,by unfold k7 c3;rw [yZ,yZ],λi x h=>?_⟩
 ·rcases at1 i _ h with z|⟨k,hk,e⟩
  ·cases z
  ·obtain ⟨v,hv,rv⟩:=r.sh k x e;exact ⟨v,at2 i k hk v hv,rv⟩
 ·rcases at1 i _ h with z|⟨k,hk,e⟩
  ·cases z
  ·obtain ⟨v,hv,rv⟩:=r.ow k x e;exact ⟨v,at2 i k hk _ hv,rv⟩
 ·rcases at1 i _ h1 with z|⟨k,hk,e⟩
  ·cases z
  ·rcases at1 j _ h2 with z|⟨l,hl,e'⟩
   ·cases z
   ·have kl:=r.nd k l x y a e e' (at3 i k _ hk h3) (at3 j l _ hl h4);subst kl;exact inj i j k hk hl
 ·rcases at1 i _ h with z|⟨k,hk,e⟩
  ·cases z
  ·obtain ⟨v,hv,rv⟩:=r.bo k x e;exact ⟨v,at2 i k hk _ hv,rv⟩
theorem Reps.snoc (r:Reps H xs vs)(p:Rep H x v):Reps H (xs++[x]) (vs++[v]):=r.append (.one p)
instance {tt:TT}{cap:List (Option Nat)}{i:MA}{f:M}[si:zu wi i][sg:je tg ts g][sc:qo tt c][sf:SemE te f]:qP (wQ wi tg tt te cap) (g9 cap ts i g c f) where
 h:=λe Hs0 H0 Hs H σ rs Q q=>by
  obtain ⟨xs,ex,e1⟩:=bind_some e;split at e1
  ·rename_i hcl;obtain ⟨hcap,hl⟩:=hcl;unfold xF at hcap;rw [uX] at hcap;obtain ⟨ys,ey,e2⟩:=bind_some e1;cases e2;refine si.h ex rs λJ Hs1 H1 x1 ok=>?_;have rc:=((rs.go x1).cap (uR hcap.1)).rebase;have wk:∀ i∈ts,(k7 cap σ)[i]?=some none:=λi hi=>by
    unfold k7;rw [yP,uR (uU.mp hcap.2 i hi)];rfl
   refine ⟨λk m zs H=>m=xs.length-k/\k<=xs.length/\∃ Hs2 ws,Ext Hs1 H1 Hs2 H/\RS Hs1 H0 Hs2 H (k7 cap σ) (c3 cap _)/\Reps Hs2 ws zs/\ws.length<=k/\∃ rest,qB g c f (c3 cap _) (xs.drop k)=some rest/\ys=ws++rest,
    ⟨xs.length,by simp,ye _,Hs1,[],.refl x1.s3,rc,.nil,yU _,ys,ey,rfl⟩,?_⟩
   rintro k m zs H2 ⟨rfl,hk,Hs2,ws,x2,r2,rz,hw,rest,er,eys⟩;refine ⟨qp (by rw [rz.length];omega),?_⟩;by_cases hlt:k<xs.length
   ·have hd:xs.drop k=xs[k]::xs.drop (k+1):=uY hlt;rw [hd] at er;unfold qB at er;obtain ⟨ε1,eg,er1⟩:=bind_some er;obtain ⟨b,eb,er2⟩:=bind_some er1;obtain ⟨go,yl⟩:=ok.go k xs[k] Hs2 H2 (by simp [hlt]) x2.s1 x2.s3;refine .inr ⟨go,λv H3 y=>?_⟩;obtain ⟨Hs3,x3,r3⟩:=yl v H3 y;refine sg.h eg (r2.go x3) r3 λσ2 rs2 bt=>⟨bt.wk wk,sc.h eb rs2 λHs4 H4 x4=>?_⟩;cases b with
    |true =>
     rw [if_pos rfl] at er2;obtain ⟨z,ez,er3⟩:=bind_some er2;obtain ⟨rest',er4,er5⟩:=bind_some er3;cases er5;refine xu (sf.h ez (rs2.go x4) λu Hs5 H5 x5 r5=>⟨xs.length-(k+1),by omega,rfl,hlt,Hs5,ws++[z],x2.trans (x3.trans (x4.trans x5)),((r2.go x3).go x4).go x5,?_,?_,rest',er4,?_⟩)
     ·exact (rz.mono (x3.s1.trans (x4.s1.trans x5.s1))).snoc r5
     ·rw [yQ];simp;omega
     ·rw [yb];exact eys
    |false=>rw [if_neg yT] at er2;exact xt ⟨xs.length-(k+1),by omega,rfl,hlt,Hs4,ws,x2.trans (x3.trans x4),(r2.go x3).go x4,rz.mono (x3.s1.trans x4.s1),by omega,rest,er2,eys⟩
   ·have ek:k=xs.length:=by omega
    subst ek;rw [uk] at er;unfold qB at er;cases er;refine .inl ⟨ok.stop Hs2 H2 x2.s1 x2.s3,λD hD=>?_⟩;rw [yq] at eys;subst eys;have x12:=x1.trans x2;exact q D Hs2 _ (x12.trans (.newO x2.s3 hD)) (x12.s2.free hD) (x2.s3.free hD) ⟨zs,w9,rz⟩
  ·cases e1
def u4 (n k:Nat)(f:MS):List PV->Option PV:=λxs=>if xs.length=k then (f (xs.map .sh++List.replicate (n-k) .no)).bind λo=>match o with
 | .rt y=>some y
 | .nx _=>some (.at .non)
 |_=>none else none
def xc (n k:Nat)(f:MS):List PV->Option PV:=λxs=>if xs.length=k then (f (xs.map .sh++List.replicate (n-k) .no)).bind λo=>match o with
 | .rt y=>some y
 |_=>none else none
end Mi
namespace Mi
open PySem PySem.Spec PyProof.Rows L2
variable{N ps:List Str}{qual x:Str}{st:Stmt}{f:Addr}{fd:FuncData}{b:MS}{m:List PV->Option PV}
theorem vC {Hs H:Hp}{xs:List PV}{vs:List V}(s:Same Hs H)(r:Reps Hs xs vs):RS Hs H Hs H (L2.start N vs) (xs.map .sh++List.replicate (N.length-xs.length) .no):=by
 have el:=r.length;have at1:∀(i:Nat)(sl:MSlot),(xs.map MSlot.sh++List.replicate (N.length-xs.length) .no)[i]?=some sl->sl = .no∨∃ x,xs[i]?=some x/\sl = .sh x:=by
  intro i sl h;by_cases hi:i<xs.length
  ·rw [uK (by rw [yZ];exact hi),yP] at h;obtain ⟨x,hx,rfl⟩:=yI.mp h;exact .inr ⟨x,hx,rfl⟩
  ·rw [uC (by rw [yZ];omega),ut] at h;split at h
   ·cases h;exact .inl rfl
   ·cases h
 refine ⟨.refl s,λi x h=>?_,λi x h=>?_,λi j x y a h1 _ _ _=>?_,?_,λi x h=>?_⟩
 ·rcases at1 i _ h with z|⟨y,hy,z⟩
  ·cases z
  ·cases z;obtain ⟨v,hv,rv⟩:=r.get hy;refine ⟨v,?_,rv⟩;unfold L2.start;rw [uK (by rw [yZ];exact (yH.mp hv).1),yP,hv];rfl
 ·rcases at1 i _ h with z|⟨y,hy,z⟩<;>cases z
 ·rcases at1 i _ h1 with z|⟨y,hy,z⟩<;>cases z
 ·unfold L2.start;rw [yQ,yQ,yZ,yZ,uo,uo,el]
 ·rcases at1 i _ h with z|⟨y,hy,z⟩<;>cases z
section
variable {P:Program}{w:World}{K:Fg}{mg:Str->Option Value}{base:Heap}
theorem k9 {k:Nat}(F:Fun K x qual st f fd)(S:v7 N ps (j6 st))(hm:m=u4 N.length ps.length b)(hb:∀(cdv:Value)(A:Around)(outer:List Env)(s:Shared)(H:Hp)(E:XK),Room k (A.deeper (envOfC qual (j6 st) s.heap.objs.size f cdv)) -> ∃ t,PSs (qG j8 P w K mg base N qual (j6 st) f cdv A outer s H E).nox (i0 st) t/\t6 false t b):FnOk P w K mg base j8 (k+1) f fd ps (z7 m):=by
 subst hm;refine F.ok S (λvs H Q E h=>?_) (λcdv A outer s H vs Q E hr h=>?_)
 ·obtain ⟨Hs,xs,y,_,r,e,_⟩:=h;unfold u4 at e;split at e
  ·rename_i hl;rw [r.length];exact hl
  ·cases e
 ·obtain ⟨Hs,xs,y,sm,r,e,q⟩:=h;obtain ⟨t,ht,sem⟩:=hb cdv A outer s H E hr;refine ⟨t,ht,?_⟩;unfold u4 at e;split at e
  ·rename_i hl;obtain ⟨o,eo,e1⟩:=bind_some e;refine sem.h eo (by rw [<- hl];exact vC sm r) ?_;cases o with
   |rt z=>cases e1;exact λv Hs' H' x rv=>q v Hs' H' x rv
   |nx ε=>cases e1;exact λHs' H' σ rs=>q _ Hs' H' rs.ext (rep_at.mpr rfl)
   |bk ε=>cases e1
   |ct ε=>cases e1
  ·cases e
theorem okO {k:Nat}(F:Fun K x qual st f fd)(S:v7 N ps (j6 st))(hm:m=xc N.length ps.length b)(hb:∀(cdv:Value)(A:Around)(outer:List Env)(s:Shared)(H:Hp)(E:XK),Room k (A.deeper (envOfC qual (j6 st) s.heap.objs.size f cdv)) -> ∃ t,PSs (qG j8 P w K mg base N qual (j6 st) f cdv A outer s H E).nox (i0 st) t/\t6 true t b):FnOk P w K mg base j8 (k+1) f fd ps (r9 m):=by
 subst hm;refine F.ok S (λvs H Q E h=>?_) (λcdv A outer s H vs Q E hr h=>?_)
 ·obtain ⟨Hs,xs,y,_,r,e,_⟩:=h;unfold xc at e;split at e
  ·rename_i hl;rw [r.length];exact hl
  ·cases e
 ·obtain ⟨Hs,xs,y,sm,r,e,q⟩:=h;obtain ⟨t,ht,sem⟩:=hb cdv A outer s H E hr;refine ⟨t,ht,?_⟩;unfold xc at e;split at e
  ·rename_i hl;obtain ⟨o,eo,e1⟩:=bind_some e;refine sem.h eo (by rw [<- hl];exact vC sm r) ?_;cases o with
   |rt z=>cases e1;exact λa Hs' H' x n n' t=>q a Hs' H' x n n' t
   |nx ε=>cases e1
   |bk ε=>cases e1
   |ct ε=>cases e1
  ·cases e
end
end Mi
namespace Mi
open PySem L2
variable{X:Cx}{K:Fg}{ta:TA}{j n:Int}{H H0 Hs Hs0:Hp}{xs ys:List PV}{x y:PV}{v:V}{td te tv ty:TE}{vs ws:List V}{o:HO}{f nm qual:Str}{tt:TT}{G g:MG}{t tb u:TS}{S:List Addr}{σ σ':St}{ε ε':ME}{E:XK}{pre:List PV->Prop}{R:List PV->PV->Prop}{as:MA}{c:MB}{wi:TI}{tg:TG}{ts:List Nat}{N ns ps:List Str}{st:Stmt}{fd:FuncData}{m:List PV->Option PV}{C:Addr}{e:Expr}{pos:Pos}{pl:Sem Bool}{α:Type}{l:List Int}{sp:Sp}
theorem i9 {a:Expr}{ta:TE}(h:X.K=K)(ha:PE X a ta)(he:∀ whole,isTrue a X.env whole=(do let v <- whole;standAt a.pos;holding [v] (truthy v))):PT X a (tTru K ta):=Dn h ha he
abbrev xx:PV->PV->Option PV:=pI λi j=>some (.int (i-j))
abbrev pLt:PV->PV->Option PV:=pI λi j=>some (.bl (decide (i<j)))
abbrev pLe:PV->PV->Option PV:=pI λi j=>some (.bl (decide (i<=j)))
abbrev pGt:PV->PV->Option PV:=pI λi j=>some (.bl (decide (j<i)))
abbrev pGe:PV->PV->Option PV:=pI λi j=>some (.bl (decide (j<=i)))
instance {i:Int}:Decidable (vI i j):=by unfold vI;infer_instance
instance {i:Int}:Decidable (zt i j):=by unfold zt;infer_instance
abbrev wB:PV->PV->Option PV:=pI λi j=>if vI i j then some (.int (i*j)) else none
abbrev pPow:PV->PV->Option PV:=pI λi j=>if zt i j then some (.int (i ^ j.toNat)) else none
abbrev pNeg:PV->Option PV:=pU λi=> .int (-i)
theorem Reps.nil_of (r:Reps H xs []):xs=[]:=uG.mp r.length.symm
def c4:PV->PV->Option PV
 | .at (.int i),.at (.int j)=>some (.at (.int (i+j)))
 | .at (.str x),.at (.str y)=>if x.length+y.length<=lim then some (.at (.str (x++y))) else none
 | .lst xs,.lst ys=>if xs.length+ys.length<=lim then some (.lst (xs++ys)) else none
 | .tup xs,.tup ys=>if xs≠[]/\xs.length+ys.length<=lim then some (.tup (xs++ys)) else none
 |_,_=>none
instance :qD (Zu K) c4 where
 h:=λ{x y z} e {Hs H v w} s a b {Q} q=>by
  unfold c4 at e;split at e
  ·cases e;exact .inl ⟨_,_,u3 a,u3 b,q _ _ _ (.refl s) (rep_at.mpr rfl)⟩
  ·split at e
   ·rename_i hl;cases e;exact .inr (.inl ⟨_,_,u3 a,u3 b,qp hl,q _ _ _ (.refl s) (rep_at.mpr rfl)⟩)
   ·cases e
  ·split at e
   ·rename_i hl;cases e;obtain ⟨p,vs,rfl,e1,r1⟩:=m9 s a;obtain ⟨p',ws,rfl,e2,r2⟩:=m9 s b;refine .inr (.inr (.inl ⟨p,p',vs,ws,rfl,rfl,SqL.of e1,SqL.of e2,qp (by rw [r1.length,r2.length];exact hl),λl hl=>?_⟩));exact q _ _ _ (.new s hl) (rep_lst.mpr ⟨l,_,rfl,w9,(r1.append r2).mono (Ext.new s hl).s1⟩)
   ·cases e
  ·split at e
   ·rename_i hl;cases e;obtain ⟨p,vs,rfl,e1,r1⟩:=qv s a;obtain ⟨p',ws,rfl,e2,r2⟩:=qv s b;have hn:vs≠[]:=λz=>by
     have h1:=r1.length;rw [z] at h1;exact hl.1 (uG.mp h1.symm)
    refine .inr (.inr (.inr ⟨p,p',vs,ws,rfl,rfl,SqT.of e1,SqT.of e2,hn,qp (by rw [r1.length,r2.length];exact hl.2),λz=>?_,λz l hl=>?_⟩))
    ·subst z;cases r2.nil_of;rw [yq] at q;rcases a with a|⟨_,_,_,t⟩
     ·exact q _ _ _ (.refl s) a
     ·exact t.elim
    ·exact q _ _ _ (.new s hl) (rep_tup.mpr ⟨l,_,rfl,w9,(r1.append r2).mono (Ext.new s hl).s1⟩)
   ·cases e
  ·cases e
def qu:List PV->Option PV
 |[.at (.str x)]=>if x.length<=lim then some (.at (.int x.length)) else none
 |[.lst xs]=>some (.at (.int xs.length))
 |[.tup xs]=>some (.at (.int xs.length))
 |[.dk ks _]=>some (.at (.int ks.length))
 |_=>none
instance :jd (zm K) qu where
 h:=λ{xs z} e {Hs H vs} s r {Q} q=>by
  unfold qu at e;split at e
  ·split at e
   ·rename_i hl;cases e;obtain ⟨v,rfl,a⟩:=qM r;cases u3 a;exact .inl ⟨_,_,rfl,⟨qp hl,rfl⟩,q _ _ _ (.refl s) (rep_at.mpr rfl)⟩
   ·cases e
  ·cases e;obtain ⟨v,rfl,a⟩:=qM r;obtain ⟨p,ws,rfl,e1,r1⟩:=m9 s a;exact .inl ⟨_,_,rfl,.inl ⟨ws,SqL.of e1,rfl⟩,q _ _ _ (.refl s) (rep_at.mpr (by rw [r1.length]))⟩
  ·cases e;obtain ⟨v,rfl,a⟩:=qM r;obtain ⟨p,ws,rfl,e1,r1⟩:=qv s a;exact .inl ⟨_,_,rfl,.inr ⟨ws,SqT.of e1,rfl⟩,q _ _ _ (.refl s) (rep_at.mpr (by rw [r1.length]))⟩
  ·cases e;obtain ⟨v,rfl,a⟩:=qM r;obtain ⟨p,kvs,rfl,e1,k,r1⟩:=zU s a;exact .inr ⟨p,kvs,rfl,e1,q _ _ _ (.refl s) (rep_at.mpr (by rw [<- k,yZ]))⟩
  ·cases e
def wA:List PV->Option PV
 |[.lst xs]=>some (.lst xs)
 |[.tup xs]=>some (.lst xs)
 |_=>none
instance :Xi (Ua K) wA where
 h:=λ{xs z} e {Hs H vs} s r {Q} q=>by
  unfold wA at e;split at e
  ·cases e;obtain ⟨v,rfl,a⟩:=qM r;obtain ⟨p,ws,rfl,e1,r1⟩:=m9 s a;exact ⟨p,ws,rfl,.inl (SqL.of e1),λl hl=>q l _ _ (.newO s hl) hl (s.free hl) ⟨ws,w9,r1⟩⟩
  ·cases e;obtain ⟨v,rfl,a⟩:=qM r;obtain ⟨p,ws,rfl,e1,r1⟩:=qv s a;exact ⟨p,ws,rfl,.inr (SqT.of e1),λl hl=>q l _ _ (.newO s hl) hl (s.free hl) ⟨ws,w9,r1⟩⟩
  ·cases e
def tyP:PV->Option String
 | .at .non=>some "NoneType"
 | .at (.bl _)=>some "bool"
 | .at (.int _)=>some "int"
 | .at (.str _)=>some "str"
 | .lst _=>some "list"
 | .tup _=>some "tuple"
 | .dk _ _=>some "dict"
 |_=>none
theorem La {T:String}(s:Same Hs H)(r:RepB Hs H x v)(e:tyP x=some T):qA K H v (.type T):=by
 unfold tyP at e;split at e
 ·cases e;cases u3 r;exact .non
 ·cases e;cases u3 r;exact .bl _
 ·cases e;cases u3 r;exact .int _
 ·cases e;cases u3 r;exact .str _
 ·cases e;obtain ⟨p,ws,rfl,e1,r1⟩:=m9 s r;exact .lst e1
 ·cases e;obtain ⟨p,ws,rfl,e1,r1⟩:=qv s r;exact .tup e1
 ·cases e;obtain ⟨p,ws,rfl,e1,_⟩:=zU s r;exact .dK e1
 ·cases e
def p7:List PV->Option PV
 |[x,.at (.ty n)]=>(tyP x).bind λT=>(tyB T n).bind λb=>some (.at (.bl b))
 |_=>none
instance :jd (rIsi K) p7 where
 h:=λ{xs z} e {Hs H vs} s r {Q} q=>by
  unfold p7 at e;split at e
  ·obtain ⟨T,eT,e1⟩:=bind_some e;obtain ⟨b,eb,e2⟩:=bind_some e1;cases e2;obtain ⟨v,w,rfl,a,c⟩:=DF r;cases u3 c;exact ⟨v,_,T,b,rfl,La s a eT,eb,q _ _ _ (.refl s) (rep_at.mpr rfl)⟩
  ·cases e
def bls:List PV->Option (List Bool)
 |[]=>some []
 | .at (.bl b)::xs=>(bls xs).map (b::·)
 |_::_=>none
theorem Wh:∀{xs:List PV}{bs:List Bool},bls xs=some bs->xs=bs.map λb=> .at (.bl b)
 |[],_,h=>by cases h;rfl
 |x::xs,bs,h=>by
  unfold bls at h;split at h
  ·rename_i heq;cases heq
  ·rename_i b ys heq;injection heq with h1 h2;obtain ⟨r,e,rfl⟩:=yI.mp h;subst h2;rw [h1,yM,Wh e]
  ·cases h
def xr:List PV->Option (List Int)
 |[]=>some []
 | .at (.int b)::xs=>(xr xs).map (b::·)
 |_::_=>none
theorem Qt:∀{xs:List PV}{bs:List Int},xr xs=some bs->xs=bs.map λb=> .at (.int b)
 |[],_,h=>by cases h;rfl
 |x::xs,bs,h=>by
  unfold xr at h;split at h
  ·rename_i heq;cases heq
  ·rename_i b ys heq;injection heq with h1 h2;obtain ⟨r,e,rfl⟩:=yI.mp h;subst h2;rw [h1,yM,Qt e]
  ·cases h
def qV:List PV->Option PV
 |[.lst xs]=>(bls xs).bind λbs=>some (.at (.bl (bs.all id)))
 |_=>none
instance :jd (YV K) qV where
 h:=λ{xs z} e {Hs H vs} s r {Q} q=>by
  unfold qV at e;split at e
  ·obtain ⟨bs,eb,e1⟩:=bind_some e;cases e1;obtain ⟨v,rfl,a⟩:=qM r;obtain ⟨p,ws,rfl,e1,r1⟩:=m9 s a;rw [Wh eb,show (bs.map λb=>PV.at (.bl b))=(bs.map V.bl).map .at by rw [yC];rfl] at r1;cases r1.ats;exact ⟨p,bs,rfl,SqL.of e1,q _ _ _ (.refl s) (rep_at.mpr rfl)⟩
  ·cases e
def jE:List PV->Option PV
 |[.lst xs]=>(xr xs).bind λbs=>some (.at (.int bs.sum))
 |_=>none
instance :jd (Ug K) jE where
 h:=λ{xs z} e {Hs H vs} s r {Q} q=>by
  unfold jE at e;split at e
  ·obtain ⟨bs,eb,e1⟩:=bind_some e;cases e1;obtain ⟨v,rfl,a⟩:=qM r;obtain ⟨p,ws,rfl,e1,r1⟩:=m9 s a;rw [Qt eb,show (bs.map λb=>PV.at (.int b))=(bs.map V.int).map .at by rw [yC];rfl] at r1;cases r1.ats;exact ⟨p,bs,rfl,SqL.of e1,q _ _ _ (.refl s) (rep_at.mpr rfl)⟩
  ·cases e
def js:PV->Bool
 | .at .non=>true
 |_=>false
def vW:PV->Bool
 | .op _=>true
 |_=>false
def pIsN:PV->PV->Option PV:=λx y=>if js y=true/\vW x=false then some (.at (.bl (js x))) else none
def Zi:PV->PV->Option PV:=λx y=>if js y=true/\vW x=false then some (.at (.bl (!js x))) else none
theorem Qv (s:Same Hs H)(r:RepB Hs H x v)(ho:vW x=false):decide (v = .non)=js x:=by
 cases x with
 |«at» u=>cases u3 r;cases v<;>first|rfl|(exact yB (λz=>nomatch z))
 |tup xs=>obtain ⟨p,ws,rfl,_⟩:=qv s r;exact yB (λz=>nomatch z)
 |lst xs=>obtain ⟨p,ws,rfl,_⟩:=m9 s r;exact yB (λz=>nomatch z)
 |dk ks xs=>obtain ⟨p,ws,rfl,_⟩:=zU s r;exact yB (λz=>nomatch z)
 |fk ks xs=>obtain ⟨p,o,ws,rfl,_⟩:=wL s r;exact yB (λz=>nomatch z)
 |ob C ns xs=>obtain ⟨p,dx,ws,rfl,_⟩:=Ur s r;exact yB (λz=>nomatch z)
 |op φ=>cases ho
instance:qD rIsN pIsN where
 h:=λ{x y z} e {Hs H v w} s a b {Q} q=>by
  unfold pIsN at e;split at e
  ·rename_i hy;cases e;have hb:vW y=false:=by cases y<;>first|rfl|(exact absurd hy.1 (by simp [js]))
   refine ⟨uR ((Qv s b hb).trans hy.1),?_⟩;rw [Qv s a hy.2];exact q _ _ _ (.refl s) (rep_at.mpr rfl)
  ·cases e
instance:qD Uc Zi where
 h:=λ{x y z} e {Hs H v w} s a b {Q} q=>by
  unfold Zi at e;split at e
  ·rename_i hy;cases e;have hb:vW y=false:=by cases y<;>first|rfl|(exact absurd hy.1 (by simp [js]))
   refine ⟨uR ((Qv s b hb).trans hy.1),?_⟩;rw [Qv s a hy.2];exact q _ _ _ (.refl s) (rep_at.mpr rfl)
  ·cases e
def xy (f:PV->PV->Option Bool):List PV->List PV->Option Bool
 |x::xs,y::ys=>(f x y).bind λa=>(xy f xs ys).bind λb=>some (a&&b)
 |_,_=>some true
def peq0:PV->PV->Option Bool
 | .at u,.at v=>if y8 u=true/\y8 v=true then some (h8 u v) else none
 |_,_=>none
def peq1 (f:PV->PV->Option Bool):PV->PV->Option Bool
 | .at u,.at v=>if y8 u=true/\y8 v=true then some (h8 u v) else none
 | .lst xs,.lst ys=>if xs.length=ys.length then xy f xs ys else some false
 | .tup xs,.tup ys=>(xy f xs ys).bind λb=>some (b&&xs.length==ys.length)
 | .lst _,.tup _=>some false
 | .tup _,.lst _=>some false
 | .at u,.lst _=>if y8 u=true then some false else none
 | .at u,.tup _=>if y8 u=true then some false else none
 | .lst _,.at u=>if y8 u=true then some false else none
 | .tup _,.at u=>if y8 u=true then some false else none
 |_,_=>none
def peq:Nat->PV->PV->Option Bool
 |0=>peq0
 |n+1=>peq1 (peq n)
theorem Zn {K:Fg}{Hs H:Hp}{n:Nat}(s:Same Hs H)(ih:∀{x y:PV}{v w:V}{b:Bool},peq n x y=some b->Rep Hs x v->Rep Hs y w->EqP K H n v w b):∀{xs ys:List PV}{vs ws:List V}{b:Bool},xy (peq n) xs ys=some b->Reps Hs xs vs->Reps Hs ys ws->∃ e:Nat->Bool,(∀ j (h1:j<vs.length) (h2:j<ws.length),EqP K H n vs[j] ws[j] (e j))/\b=(List.range (min vs.length ws.length)).all e
 |[],ys,vs,ws,b,h,r1,r2=>by
  cases reps_nil.mp r1;unfold xy at h;cases h;exact ⟨λ_=>true,λj h1=>absurd h1 (Nat.not_lt_zero _),by simp⟩
 |x::xs,[],vs,ws,b,h,r1,r2=>by
  cases reps_nil.mp r2;unfold xy at h;cases h;exact ⟨λ_=>true,λj h1 h2=>absurd h2 (Nat.not_lt_zero _),by simp⟩
 |x::xs,y::ys,vs,ws,b,h,r1,r2=>by
  obtain ⟨v,vr,rfl,p1,q1⟩:=reps_cons.mp r1;obtain ⟨w,wr,rfl,p2,q2⟩:=reps_cons.mp r2;unfold xy at h;obtain ⟨a,ea,h1⟩:=bind_some h;obtain ⟨c,ec,h2⟩:=bind_some h1;cases h2;obtain ⟨e,he,hb⟩:=Zn s ih ec q1 q2;refine ⟨λj=>match j with|0=>a|j+1=>e j,λj h1 h2=>?_,?_⟩
  ·cases j with
   |zero=>exact ih ea p1 p2
   |succ j=>exact he j (by simpa using h1) (by simpa using h2)
  ·rw [yz,yz,Nat.succ_min_succ,List.range_succ_eq_map,List.all_cons,List.all_map,hb];rfl
theorem Zm {K:Fg}{Hs H:Hp}(s:Same Hs H):∀(n:Nat){x y:PV}{v w:V}{b:Bool},peq n x y=some b->RepB Hs H x v->RepB Hs H y w->EqP K H n v w b
 |0,x,y,v,w,b,h,r1,r2=>by
  unfold peq peq0 at h;split at h
  ·split at h
   ·rename_i hf;cases h;cases u3 r1;cases u3 r2;exact ⟨hf.1,hf.2,rfl⟩
   ·cases h
  ·cases h
 |n+1,x,y,v,w,b,h,r1,r2=>by
  have ih:∀{x y:PV}{v w:V}{b:Bool},peq n x y=some b->Rep Hs x v->Rep Hs y w->EqP K H n v w b:=λh r1 r2=>Zm s n h (.inl r1) (.inl r2);unfold peq peq1 at h;split at h
  ·split at h
   ·rename_i hf;cases h;cases u3 r1;cases u3 r2;exact .inl ⟨hf.1,hf.2,rfl⟩
   ·cases h
  ·obtain ⟨a,vs,rfl,e1,q1⟩:=m9 s r1;obtain ⟨c,ws,rfl,e2,q2⟩:=m9 s r2;refine .inr (.inl ⟨a,c,vs,ws,rfl,rfl,SqL.of e1,SqL.of e2,?_⟩);split at h
   ·rename_i hl;obtain ⟨e,he,hb⟩:=Zn s ih h q1 q2;have hl':vs.length=ws.length:=by rw [q1.length,q2.length,hl]
    exact .inr ⟨hl',e,he,by rw [hb,<- hl',Nat.min_self]⟩
   ·rename_i hl;cases h;exact .inl ⟨by rw [q1.length,q2.length];exact hl,rfl⟩
  ·obtain ⟨a,vs,rfl,e1,q1⟩:=qv s r1;obtain ⟨c,ws,rfl,e2,q2⟩:=qv s r2;obtain ⟨d,ed,h1⟩:=bind_some h;cases h1;obtain ⟨e,he,hb⟩:=Zn s ih ed q1 q2;exact .inr (.inr (.inl ⟨a,c,vs,ws,rfl,rfl,SqT.of e1,SqT.of e2,e,he,by rw [hb,q1.length,q2.length]⟩))
  ·cases h;obtain ⟨a,vs,rfl,e1,q1⟩:=m9 s r1;obtain ⟨c,ws,rfl,e2,q2⟩:=qv s r2;exact .inr (.inr (.inr (.inl ⟨a,c,vs,ws,rfl,rfl,SqL.of e1,SqT.of e2,rfl⟩)))
  ·cases h;obtain ⟨a,vs,rfl,e1,q1⟩:=qv s r1;obtain ⟨c,ws,rfl,e2,q2⟩:=m9 s r2;exact .inr (.inr (.inr (.inr (.inl ⟨a,c,vs,ws,rfl,rfl,SqT.of e1,SqL.of e2,rfl⟩))))
  ·split at h
   ·rename_i hf;cases h;cases u3 r1;obtain ⟨c,ws,rfl,e2,q2⟩:=m9 s r2;exact .inr (.inr (.inr (.inr (.inr (.inl ⟨c,ws,hf,rfl,.inl (SqL.of e2),rfl⟩)))))
   ·cases h
  ·split at h
   ·rename_i hf;cases h;cases u3 r1;obtain ⟨c,ws,rfl,e2,q2⟩:=qv s r2;exact .inr (.inr (.inr (.inr (.inr (.inl ⟨c,ws,hf,rfl,.inr (SqT.of e2),rfl⟩)))))
   ·cases h
  ·split at h
   ·rename_i hf;cases h;cases u3 r2;obtain ⟨c,ws,rfl,e2,q2⟩:=m9 s r1;exact .inr (.inr (.inr (.inr (.inr (.inr ⟨c,ws,hf,rfl,.inl (SqL.of e2),rfl⟩)))))
   ·cases h
  ·split at h
   ·rename_i hf;cases h;cases u3 r2;obtain ⟨c,ws,rfl,e2,q2⟩:=qv s r1;exact .inr (.inr (.inr (.inr (.inr (.inr ⟨c,ws,hf,rfl,.inr (SqT.of e2),rfl⟩)))))
   ·cases h
  ·cases h
def pEq:PV->PV->Option PV:=λx y=>(peq 6 x y).bind λb=>some (.at (.bl b))
def pNe:PV->PV->Option PV:=λx y=>(peq 6 x y).bind λb=>some (.at (.bl (!b)))
instance :qD (rEqD K 6 false) pEq where
 h:=λ{x y z} e {Hs H v w} s a b {Q} q=>by
  obtain ⟨c,ec,e1⟩:=bind_some e;cases e1;exact ⟨c,Zm s 6 ec a b,q _ _ _ (.refl s) (rep_at.mpr rfl)⟩
instance :qD (rEqD K 6 true) pNe where
 h:=λ{x y z} e {Hs H v w} s a b {Q} q=>by
  obtain ⟨c,ec,e1⟩:=bind_some e;cases e1;exact ⟨c,Zm s 6 ec a b,q _ _ _ (.refl s) (rep_at.mpr rfl)⟩
class SemP (to:TO)(f:ME->Option (Option Int)):Prop where
 h:∀{ε y},f ε=some y->∀{Hs0 H0 Hs H σ},RS Hs0 H0 Hs H σ ε->∀{Q:Option Int->Hp->Prop},(∀ Hs' H',Ext Hs H Hs' H'->Q y H')->to σ H Q
def pNo:ME->Option (Option Int):=λ_=>some none
def pInt:PV->Option Int
 | .at (.int i)=>some i
 |_=>none
def pSo (a:M):ME->Option (Option Int):=λε=>(a ε).bind λx=>(pInt x).bind λi=>some (some i)
instance:SemP UP pNo where
 h:=λe _ _ _ _ _ rs _ q=>by cases e;exact q _ _ (.refl rs.sub)
instance {a:M}[sa:p9 te a]:SemP (UR te) (pSo a) where
 h:=λe _ _ _ _ _ rs _ q=>by
  obtain ⟨x,ex,e1⟩:=bind_some e;obtain ⟨i,ei,e2⟩:=bind_some e1;cases e2;unfold pInt at ei;split at ei
  ·cases ei;exact sa.h ex rs λv Hs1 H1 x1 r1=>⟨_,u3 r1,q _ _ x1⟩
  ·cases ei
def xf (n:Nat):List PV->List PV
 |[]=>[]
 |x::xs=> .tup [.at (.int n),x]::xf (n+1) xs
theorem WM:∀{xs:List PV}{n i:Nat}{z:PV},(xf n xs)[i]?=some z->∃ x,xs[i]?=some x/\z = .tup [.at (.int ((n+i:Nat):Int)),x]
 |[],n,i,z,h=>by simp [xf] at h
 |x::xs,n,0,z,h=>by simp [xf] at h;exact ⟨x,rfl,h.symm⟩
 |x::xs,n,i+1,z,h=>by
  obtain ⟨y,h1,h2⟩:=WM (xs:=xs) (n:=n+1) (i:=i) (z:=z) (by simpa [xf] using h);exact ⟨y,by simpa using h1,by rw [h2,show n+1+i=n+(i+1) by omega]⟩
theorem WN:∀{xs:List PV}{n:Nat},(xf n xs).length=xs.length
 |[],_=>rfl
 |x::xs,n=>by simp [xf,WN]
theorem Bq {a:Addr}(h:Hs a=some (.lst vs))(r:Reps Hs xs vs):zZ (Ite K a) (xf 0 xs) Hs where
 go:=λi x Hs1 H1 e g1 g2=>by
  obtain ⟨y,ey,rfl⟩:=WM e;obtain ⟨v,ev,rv⟩:=r.get ey;refine ⟨⟨vs,v,SqL.of (g2 _ _ (g1 _ _ h)),ev⟩,λw H2 z=>?_⟩;obtain ⟨p,u,hp,rfl,rfl,hu⟩:=z;have e1:=hu vs (SqL.of (g2 _ _ (g1 _ _ h)));rw [ev] at e1;cases e1;refine ⟨_,.new g2 hp,rep_tup.mpr ⟨p,_,rfl,w9,.cons (rep_at.mpr (by rw [Nat.zero_add])) (.one (rv.mono (g1.trans (Ext.new g2 hp).s1)))⟩⟩
 stop:=λHs1 H1 g1 g2=>⟨vs,SqL.of (g2 _ _ (g1 _ _ h)),by rw [r.length,WN];exact yU _⟩
def Xx (a:MA):MA:=λε=>(a ε).bind λxs=>match xs with
 |[.lst ys]=>some (xf 0 ys)
 |_=>none
instance {a:MA}[sa:qz ta a]:zu (XJ K ta) (Xx a) where
 h:=λe _ _ _ _ _ rs _ q=>by
  obtain ⟨xs,ex,e1⟩:=bind_some e;split at e1
  ·cases e1;refine sa.h ex rs λvs Hs1 H1 x1 r1=>?_;obtain ⟨v,r,rfl,p1,p2⟩:=reps_cons.mp r1;cases reps_nil.mp p2;obtain ⟨p,ws,rfl,hp,rw⟩:=rep_lst.mp p1;exact ⟨p,rfl,⟨ws,SqL.of (x1.s3 _ _ hp)⟩,q _ _ _ x1 (Bq hp rw)⟩
  ·cases e1
def o5:List PV->List PV->List PV
 |x::xs,y::ys=> .tup [x,y]::o5 xs ys
 |_,_=>[]
theorem Gk:∀{xs ys:List PV}{i:Nat}{z:PV},(o5 xs ys)[i]?=some z->∃ x y,xs[i]?=some x/\ys[i]?=some y/\z = .tup [x,y]
 |[],_,i,z,h=>by simp [o5] at h
 |_::_,[],i,z,h=>by simp [o5] at h
 |x::xs,y::ys,0,z,h=>by simp [o5] at h;exact ⟨x,y,rfl,rfl,h.symm⟩
 |x::xs,y::ys,i+1,z,h=>by
  obtain ⟨u,v,h1,h2,h3⟩:=Gk (xs:=xs) (ys:=ys) (i:=i) (z:=z) (by simpa [o5] using h);exact ⟨u,v,by simpa using h1,by simpa using h2,h3⟩
theorem Gm:∀{xs ys:List PV},(o5 xs ys).length=min xs.length ys.length
 |[],_=>by simp [o5]
 |_::_,[]=>by simp [o5]
 |x::xs,y::ys=>by simp [o5,Gm,Nat.succ_min_succ]
theorem Bv {a b:Addr}(h:Hs a=some (.lst vs))(r:Reps Hs xs vs)(h':Hs b=some (.lst ws))(r':Reps Hs ys ws):zZ (Itz K a b) (o5 xs ys) Hs where
 go:=λi x Hs1 H1 e g1 g2=>by
  obtain ⟨y,z,ey,ez,rfl⟩:=Gk e;obtain ⟨v,ev,rv⟩:=r.get ey;obtain ⟨w,ew,rw⟩:=r'.get ez;have q1:SqL K H1 a vs:=SqL.of (g2 _ _ (g1 _ _ h));have q2:SqL K H1 b ws:=SqL.of (g2 _ _ (g1 _ _ h'));refine ⟨⟨vs,ws,v,w,q1,q2,ev,ew⟩,λu H2 z=>?_⟩;obtain ⟨p,v',w',hp,rfl,rfl,hv,hw⟩:=z;have e1:=hv vs q1;have e2:=hw ws q2;rw [ev] at e1;rw [ew] at e2;cases e1;cases e2;have g3:=g1.trans (Ext.new (o:= .tup [v,w]) g2 hp).s1;exact ⟨_,.new g2 hp,rep_tup.mpr ⟨p,_,rfl,w9,.cons (rv.mono g3) (.one (rw.mono g3))⟩⟩
 stop:=λHs1 H1 g1 g2=>⟨vs,ws,SqL.of (g2 _ _ (g1 _ _ h)),SqL.of (g2 _ _ (g1 _ _ h')),by rw [r.length,r'.length,Gm];omega⟩
def va (a:MA):MA:=λε=>(a ε).bind λxs=>match xs with
 |[.lst ys,.lst zs]=>some (o5 ys zs)
 |_=>none
instance {a:MA}[sa:qz ta a]:zu (iZip K ta) (va a) where
 h:=λe _ _ _ _ _ rs _ q=>by
  obtain ⟨xs,ex,e1⟩:=bind_some e;split at e1
  ·cases e1;refine sa.h ex rs λvs Hs1 H1 x1 r1=>?_;obtain ⟨v,r,rfl,p1,p2⟩:=reps_cons.mp r1;obtain ⟨v',r',rfl,p3,p4⟩:=reps_cons.mp p2;cases reps_nil.mp p4;obtain ⟨p,ws,rfl,hp,rw1⟩:=rep_lst.mp p1;obtain ⟨p',ws',rfl,hp',rw2⟩:=rep_lst.mp p3;exact ⟨p,p',rfl,⟨ws,SqL.of (x1.s3 _ _ hp)⟩,⟨ws',SqL.of (x1.s3 _ _ hp')⟩,q _ _ _ x1 (Bv hp rw1 hp' rw2)⟩
  ·cases e1
structure RD (S:List Addr)(Hs0 H0 Hs H:Hp)(σ:St)(ε:ME):Prop where
 s1:Same Hs0 Hs
 s2:∀ b o,H0 b=some o->b∉S->H b=some o
 s3:Same Hs H
 s4:∀ b,H0 b≠none->Hs0 b=none->Hs b=none
 sh:∀(i:Nat)(x:PV),ε[i]?=some (.sh x)->∃ v,σ[i]?=some (some v)/\Rep Hs x v
 ow:∀(i:Nat)(x:PV),ε[i]?=some (.ow x)->∃ a,σ[i]?=some (some (.ref a))/\(H0 a=none∨a∈S)/\Hs a=none/\Top Hs H a x
 nd:∀(i j:Nat)(x y:PV)(a:Addr),ε[i]?=some (.ow x)->ε[j]?=some (.ow y)->σ[i]?=some (some (.ref a))->σ[j]?=some (some (.ref a))->i=j
 len:σ.length=ε.length
 pin:∀ a∈S,σ[0]?=some (some (.ref a))
 live:∀ a∈S,H a≠none
 str:∀ a∈S,∃ y,ε[0]?=some (.ow y)
 nb:∀(i:Nat)(x:PV),ε[i]?≠some (.bo x)
section
variable {S:List Addr}{Hs0 H0 Hs H Hs' H':Hp}{σ:St}{ε:ME}
theorem RD.rs (r:RD S Hs0 H0 Hs H σ ε):RS Hs Hs Hs H σ ε where
 ext:=⟨.refl _,r.s3,r.s3,λ_ h z=>absurd z h⟩
 sh:=r.sh
 ow:=λi x h=>by obtain ⟨a,h1,_,h3,h4⟩:=r.ow i x h;exact ⟨a,h1,h3,h3,h4⟩
 nd:=r.nd
 len:=r.len
 bo:=λi x h=>absurd h (r.nb i x)
theorem RD.there (r:RD S Hs0 H0 Hs H σ ε){b:Addr}(h:H0 b≠none):H b≠none:=by
 by_cases hS:b∈S
 ·exact r.live b hS
 ·cases q:H0 b with
  |none=>exact absurd q h
  |some o=>rw [r.s2 b o q hS];exact λz=>nomatch z
theorem RD.go (r:RD S Hs0 H0 Hs H σ ε)(e:Ext Hs H Hs' H'):RD S Hs0 H0 Hs' H' σ ε where
 s1:=r.s1.trans e.s1
 s2:=λb o h n=>e.s2 _ _ (r.s2 b o h n)
 s3:=e.s3
 s4:=λb h z=>e.s4 b (r.there h) (r.s4 b h z)
 sh:=λi x q=>by obtain ⟨v,a,b⟩:=r.sh i x q;exact ⟨v,a,b.mono e.s1⟩
 ow:=λi x q=>by
  obtain ⟨a,b,n0,n,t⟩:=r.ow i x q;exact ⟨a,b,n0,e.s4 a t.there n,t.mono e.s1 λo z=>e.s2 _ _ z⟩
 nd:=r.nd
 len:=r.len
 pin:=r.pin
 live:=λa h=>UC e.s2 (r.live a h)
 str:=r.str
 nb:=r.nb
theorem RD.change (r:RD S Hs0 H0 Hs H σ ε){i:Nat}{a:Addr}(hi:ε[i]?=some (.ow x))(ha:σ[i]?=some (some (.ref a)))(t:Top Hs (z6 H a o) a y):RD S Hs0 H0 Hs (z6 H a o) σ (ε.set i (.ow y)):=by
 obtain ⟨b,hb,n0,n,tx⟩:=r.ow i x hi;rw [ha] at hb;injection hb with hb;injection hb with hb;injection hb with hb;subst hb;have q:=(r.rs).change hi ha t;refine ⟨r.s1,λb u e hS=>?_,λb u e=>?_,r.s4,q.sh,λj z hz=>?_,q.nd,q.len,r.pin,λb hS=>?_,λb hS=>?_,vt r.nb λ_ z=>nomatch z⟩
 ·have hne:b≠a:=λz=>by
   rcases n0 with n0|n0
   ·rw [z,n0] at e;cases e
   ·exact hS (z▸n0)
  rw [z8 hne];exact r.s2 b u e hS
 ·rw [z8 (u7 e n)];exact r.s3 _ _ e
 ·obtain ⟨c,hc,m1,m2,tc⟩:=q.ow j z hz;refine ⟨c,hc,?_,m2,tc⟩;rw [yD] at hz;split at hz
  ·rename_i hij;rw [<- hij,ha] at hc;injection hc with hc;injection hc with hc;injection hc with hc;rw [<- hc];exact n0
  ·obtain ⟨d,hd,m0,_⟩:=r.ow j z hz;rw [hd] at hc;injection hc with hc;injection hc with hc;injection hc with hc;rw [<- hc];exact m0
 ·by_cases hba:b=a
  ·rw [hba,w9];exact λz=>nomatch z
  ·rw [z8 hba];exact r.live b hS
 ·obtain ⟨y',hy⟩:=r.str b hS;rw [yD];split
  ·rename_i h0;rw [if_pos (by rw [h0];exact (yH.mp hy).1)];exact ⟨y,rfl⟩
  ·exact ⟨y',hy⟩
theorem RD.put (r:RD S Hs0 H0 Hs H σ ε){i:Nat}(h:Rep Hs x v):RD S Hs0 H0 Hs H (σ.set (i+1) (some v)) (ε.set (i+1) (.sh x)):=by
 have q:=(r.rs).put (i:=i+1) h;refine ⟨r.s1,r.s2,r.s3,r.s4,q.sh,λj z hz=>?_,q.nd,q.len,λa hS=>by rw [yw (by omega)];exact r.pin a hS,r.live,λa hS=>by rw [yw (by omega)];exact r.str a hS,vt r.nb λ_ z=>nomatch z⟩;obtain ⟨c,hc,m1,m2,tc⟩:=q.ow j z hz;refine ⟨c,hc,?_,m2,tc⟩;rw [yD] at hz hc;split at hz
 ·split at hz<;>cases hz
 ·rename_i hij;rw [if_neg hij] at hc;obtain ⟨d,hd,m0,_⟩:=r.ow j z hz;rw [hd] at hc;injection hc with hc;injection hc with hc;injection hc with hc;rw [<- hc];exact m0
theorem RD.putO (r:RD S Hs0 H0 Hs H σ ε){i:Nat}{a:Addr}(h0:H0 a=none∨a∈S)(h1:Hs a=none)(h2:Top Hs H a x)(ne:∀(j:Nat)(y:PV),ε[j]?=some (.ow y)->σ[j]?≠some (some (.ref a))):RD S Hs0 H0 Hs H (σ.set (i+1) (some (.ref a))) (ε.set (i+1) (.ow x)):=by
 have q:=(r.rs).putO (i:=i+1) ⟨h1,h1,h2⟩ ne;refine ⟨r.s1,r.s2,r.s3,r.s4,q.sh,λj z hz=>?_,q.nd,q.len,λa hS=>by rw [yw (by omega)];exact r.pin a hS,r.live,λa hS=>by rw [yw (by omega)];exact r.str a hS,vt r.nb λ_ z=>nomatch z⟩;obtain ⟨c,hc,m1,m2,tc⟩:=q.ow j z hz;refine ⟨c,hc,?_,m2,tc⟩;rw [yD] at hz hc;split at hz
 ·rename_i hij;rw [if_pos hij] at hc;split at hc
  ·injection hc with hc;injection hc with hc;injection hc with hc;rw [<- hc];exact h0
  ·cases hc
 ·rename_i hij;rw [if_neg hij] at hc;obtain ⟨d,hd,m0,_⟩:=r.ow j z hz;rw [hd] at hc;injection hc with hc;injection hc with hc;injection hc with hc;rw [<- hc];exact m0
theorem RD.free0 (r:RD S Hs0 H0 Hs H σ ε){a:Addr}(h:H a=none):H0 a=none:=by
 cases q:H0 a with
 |none=>rfl
 |some o=>exact absurd h (r.there (by rw [q];exact λz=>nomatch z))
theorem RD.freeze (r:RD S Hs0 H0 Hs H σ ε)(i:Nat):∃ Hs',Same Hs Hs'/\RD S Hs0 H0 Hs' H σ (fz (i+1) ε):=by
 by_cases h:∃ x,ε[i+1]?=some (.ow x)
 ·obtain ⟨x,hi⟩:=h;obtain ⟨a,ha,n0,n,t⟩:=r.ow (i+1) x hi;have hS:a∉S:=λhS=>by
   obtain ⟨y,hy⟩:=r.str a hS;exact absurd (r.nd 0 (i+1) y x a hy hi (r.pin a hS) ha) (by omega)
  obtain ⟨o,ho,hr⟩:=t.rep n;have g:Same Hs (z6 Hs a o):=λb u e=>by rw [z8 (u7 e n)];exact e
  have ef:fz (i+1) ε=ε.set (i+1) (.sh x):=by unfold fz;rw [hi]
  have n0':H0 a=none:=n0.resolve_right hS;rw [ef];have dn:∀(j:Nat)(y:PV),(ε.set (i+1) (.sh x))[j]?=some (.ow y)->i+1≠j/\ε[j]?=some (.ow y):=λj y q=>by
   rw [yD] at q;split at q
   ·split at q<;>cases q
   ·rename_i hij;exact ⟨hij,q⟩
  refine ⟨z6 Hs a o,g,r.s1.trans g,r.s2,λb u e=>?_,λb h z=>?_,λj y q=>?_,λj y q=>?_,λj k z z' c h1 h2 h3 h4=>r.nd j k z z' c (dn j z h1).2 (dn k z' h2).2 h3 h4,by rw [yn,r.len],r.pin,r.live,(λb hb=>by rw [yw (by omega)];exact r.str b hb),vt r.nb λ_ z=>nomatch z⟩
  ·by_cases hb:b=a
   ·subst hb;rw [w9] at e;cases e;exact ho
   ·rw [z8 hb] at e;exact r.s3 _ _ e
  ·have hb:b≠a:=λe=>h (e▸n0');rw [z8 hb];exact r.s4 b h z
  ·rw [yD] at q;split at q
   ·rename_i hij;split at q
    ·injection q with q;injection q with q;subst q;exact ⟨.ref a,hij▸ha,hr⟩
    ·cases q
   ·obtain ⟨v,e,w⟩:=r.sh j y q;exact ⟨v,e,w.mono g⟩
  ·obtain ⟨hij,hq⟩:=dn j y q;obtain ⟨c,hc,m0,m,tc⟩:=r.ow j y hq;have hne:c≠a:=λe=>hij (r.nd (i+1) j x y a hi hq ha (e▸hc));exact ⟨c,hc,m0,by rw [z8 hne];exact m,tc.mono g λ_ e=>e⟩
 ·refine ⟨Hs,.refl _,?_⟩;unfold fz;split
  ·rename_i x hx;exact absurd ⟨x,hx⟩ h
  ·exact r
end
abbrev W:=ME->(PV->ME->Prop)->Prop
variable{a:W}
abbrev WA:=ME->(List PV->ME->Prop)->Prop
variable{it r:WA}
abbrev WT:=ME->(Bool->ME->Prop)->Prop
abbrev WS:=ME->(ME->Prop)->(PV->ME->Prop)->Prop
variable{b:WS}
class SemW (te:TE)(w:W):Prop where
 h:∀{ε Q'},w ε Q'->∀{S Hs0 H0 Hs H σ},RD S Hs0 H0 Hs H σ ε->∀{Q:VK},(∀ y ε' v Hs' H',Q' y ε'->RD S Hs0 H0 Hs' H' σ ε'->Same Hs Hs'->Rep Hs' y v->Q v H')->te σ H Q
class jf (ta:TA)(w:WA):Prop where
 h:∀{ε Q'},w ε Q'->∀{S Hs0 H0 Hs H σ},RD S Hs0 H0 Hs H σ ε->∀{Q:List V->Hp->Prop},(∀ ys ε' vs Hs' H',Q' ys ε'->RD S Hs0 H0 Hs' H' σ ε'->Same Hs Hs'->Reps Hs' ys vs->Q vs H')->ta σ H Q
class Qa (tt:TT)(w:WT):Prop where
 h:∀{ε Q'},w ε Q'->∀{S Hs0 H0 Hs H σ},RD S Hs0 H0 Hs H σ ε->∀{Q:Bool->Hp->Prop},(∀ b ε' Hs' H',Q' b ε'->RD S Hs0 H0 Hs' H' σ ε'->Same Hs Hs'->Q b H')->tt σ H Q
class SemWS (ts:TS)(w:WS):Prop where
 h:∀{ε N R},w ε N R->∀{S Hs0 H0 Hs H σ},RD S Hs0 H0 Hs H σ ε->∀{D:qO},(∀ ε' σ' Hs' H',N ε'->RD S Hs0 H0 Hs' H' σ' ε'->Same Hs Hs'->D.nx σ' H') ->
  (∀ y ε' σ' v Hs' H',R y ε'->RD S Hs0 H0 Hs' H' σ' ε'->Same Hs Hs'->Rep Hs' y v->D.rt v H')->ts D σ H
def wP (f:M):W:=λε Q=>∃ y,f ε=some y/\Q y ε
def wPT (f:MB):WT:=λε Q=>∃ y,f ε=some y/\Q y ε
instance (priority:=50){f:M}[s:SemE te f]:SemW te (wP f) where
 h:=λ⟨y,e,q⟩ _ _ _ _ _ _ r _ k=>s.h e r.rs λv Hs' H' x rv=>k y _ v Hs' H' q (r.go x) x.s1 rv
instance (priority:=50){f:MB}[s:qo tt f]:Qa tt (wPT f) where
 h:=λ⟨y,e,q⟩ _ _ _ _ _ _ r _ k=>s.h e r.rs λHs' H' x=>k y _ Hs' H' q (r.go x) x.s1
def qw (g:PV->PV->Option PV)(a b:W):W:=λε Q=>a ε λx ε1=>b ε1 λy ε2=>∃ z,g x y=some z/\Q z ε2
instance {r:R2}{g:PV->PV->Option PV}{ta tb:TE}{b:W}[sr:qD r g][sa:SemW ta a][sb:SemW tb b]:SemW (tOp r ta tb) (qw g a b) where
 h:=λh _ _ _ _ _ _ rd _ k=>sa.h h rd λx ε1 v Hs1 H1 h1 rd1 g1 r1=>sb.h h1 rd1 λy ε2 w Hs2 H2 h2 rd2 g2 r2=>by
  obtain ⟨z,ez,h2⟩:=h2;exact sr.h ez rd2.s3 (.inl (r1.mono g2)) (.inl r2) λu Hs3 H3 x3 r3=>k z ε2 u Hs3 H3 h2 (rd2.go x3) (g1.trans (g2.trans x3.s1)) r3
def i6:WA:=λε Q=>Q [] ε
def y6 (a:W)(r:WA):WA:=λε Q=>a ε λx ε1=>r ε1 λxs ε2=>Q (x::xs) ε2
instance:jf c5 i6 where
 h:=λh _ _ _ _ _ _ rd _ k=>k [] _ [] _ _ h rd (.refl _) .nil
instance [sa:SemW te a][sr:jf ta r]:jf (p8 te ta) (y6 a r) where
 h:=λh _ _ _ _ _ _ rd _ k=>sa.h h rd λx ε1 v Hs1 H1 h1 rd1 g1 r1=>sr.h h1 rd1 λxs ε2 vs Hs2 H2 h2 rd2 g2 r2=>k _ ε2 _ Hs2 H2 h2 rd2 (g1.trans g2) (.cons (r1.mono g2) r2)
def vF (a:WA):W:=λε Q=>a ε λxs ε1=>xs.length<=lim/\Q (.tup xs) ε1
instance {a:WA}[sa:jf ta a]:SemW (tTup ta) (vF a) where
 h:=λh _ _ _ _ _ _ rd _ k=>sa.h h rd λxs ε1 vs Hs1 H1 h1 rd1 g1 r1=>⟨qp (r1.length▸h1.1),λp hp=>k _ ε1 _ _ _ h1.2 (rd1.go (.new rd1.s3 hp)) (g1.trans (Ext.new rd1.s3 hp).s1) (rep_tup.mpr ⟨p,vs,rfl,w9,r1.mono (Ext.new rd1.s3 hp).s1⟩)⟩
def zp:Sp:=λvs H Q _=>∃(a:Addr)(n m:Int),vs=[.ref a,.int m]/\H a=some (.lst [.int n])/\vH n m/\Q (.int (n % m)) (z6 H a (.lst [.int (n / m)]))
def g8 (n:Int):MSlot:= .ow (.lst [.at (.int n)])
def wTake (i:Nat)(a:W):W:=λε Q=>a ε λx ε1=>∃ n k,x = .at (.int k)/\ε1[i]?=some (g8 n)/\vH n k/\Q (.at (.int (n % k))) (ε1.set i (g8 (n / k)))
theorem RD.strm_at {i:Nat}(r:RD S Hs0 H0 Hs H σ ε)(h:ε[i]?=some (g8 n)):∃ a,σ[i]?=some (some (.ref a))/\H a=some (.lst [.int n])/\Hs a=none/\(H0 a=none∨a∈S):=by obtain ⟨a,ha,n0,n1,vs,hv,rv⟩:=r.ow i _ h;obtain ⟨v,w,rfl,p1,p2⟩:=reps_cons.mp rv;cases reps_nil.mp p2;cases rep_at.mp p1;exact ⟨a,ha,hv,n1,n0⟩
def xE (i:Nat):ME->Prop:=λε=>∃ n,ε[i]?=some (g8 n)
def qb (i:Nat)(a:W):W:=λε Q=>xE i ε/\wTake i a ε Q
instance {i:Nat}[sa:SemW te a]:SemW (xV zp [] E (p8 (n8 i) (p8 te c5))) (qb i a) where
 h:=λh _ _ _ _ _ _ rd _ k=>by
  obtain ⟨⟨n0,hn0⟩,h⟩:=h;obtain ⟨p,hp,_⟩:=rd.strm_at hn0;refine ⟨_,hp,sa.h h rd λx ε1 v Hs1 H1 h1 rd1 g1 r1=>?_⟩;obtain ⟨n,m,rfl,hn,hc,h2⟩:=h1;obtain ⟨p',hp',hH,hs,_⟩:=rd1.strm_at hn;rw [hp] at hp';injection hp' with hp';injection hp' with hp';injection hp' with hp';subst hp';cases rep_at.mp r1;exact ⟨p,n,m,rfl,hH,hc,k _ _ _ _ _ h2 (rd1.change hn hp ⟨_,w9,.one (rep_at.mpr rfl)⟩) g1 (rep_at.mpr rfl)⟩
structure ExtD (p:Addr)(Hs H Hs' H':Hp):Prop where
 s1:Same Hs Hs'
 s2:∀ b o,H b=some o->b≠p->H' b=some o
 s3:Same Hs' H'
 s4:∀ b,H b≠none->Hs b=none->Hs' b=none
def spD (pre:List PV->Prop)(R:List PV->PV->Prop):Sp:=λvs H Q _=>∃ Hs a n xs ws,vs = .ref a::ws/\Same Hs H/\Hs a=none/\H a=some (.lst [.int n])/\Reps Hs xs ws/\pre xs /\
 ∀ y v n' Hs' H',R xs y->ExtD a Hs H Hs' H'->Hs' a=none->H' a=some (.lst [.int n'])->Rep Hs' y v->Q v H'
section
variable {S:List Addr}{Hs0 H0 Hs H Hs' H':Hp}{σ:St}{ε:ME}
theorem RD.drawn (r:RD S Hs0 H0 Hs H σ ε){i:Nat}{n':Int}{p:Addr}(hi:ε[i]?=some (g8 n))(hp:σ[i]?=some (some (.ref p)))(x:ExtD p Hs H Hs' H')(np:Hs' p=none)(ep:H' p=some (.lst [.int n'])):RD S Hs0 H0 Hs' H' σ (ε.set i (g8 n')):=by
 obtain ⟨p',hp',hH,hs,h0⟩:=r.strm_at hi;rw [hp] at hp';injection hp' with hp';injection hp' with hp';injection hp' with hp';subst hp';have up:∀(j:Nat)(z:PV),(ε.set i (g8 n'))[j]?=some (.ow z)->(j=i/\z = .lst [.at (.int n')])∨(j≠i/\ε[j]?=some (.ow z)):=λj z q=>by
  rw [yD] at q;split at q
  ·rename_i hij;split at q
   ·injection q with q;unfold g8 at q;injection q with q;exact .inl ⟨hij.symm,q.symm⟩
   ·cases q
  ·rename_i hij;exact .inr ⟨Ne.symm hij,q⟩
 have wasOw:∀(j:Nat)(z:PV),(ε.set i (g8 n'))[j]?=some (.ow z)->∃ z',ε[j]?=some (.ow z'):=λj z q=>by
  rcases up j z q with ⟨rfl,_⟩|⟨_,q⟩
  ·exact ⟨_,hi⟩
  ·exact ⟨z,q⟩
 refine ⟨r.s1.trans x.s1,λb o e hS=>x.s2 b o (r.s2 b o e hS) λz=>?_,x.s3,λb h z=>x.s4 b (r.there h) (r.s4 b h z),λj z q=>?_,λj z q=>?_,λj k z z' c h1 h2 h3 h4=>?_,by rw [yn,r.len],r.pin,λb hS=>?_,λb hS=>?_,vt r.nb λ_ z=>by unfold g8 at z;cases z⟩
 ·rcases h0 with h0|h0
  ·rw [z,h0] at e;cases e
  ·exact hS (z▸h0)
 ·rw [yD] at q;split at q
  ·split at q
   ·unfold g8 at q;cases q
   ·cases q
  ·obtain ⟨v,h1,h2⟩:=r.sh j z q;exact ⟨v,h1,h2.mono x.s1⟩
 ·rcases up j z q with ⟨rfl,rfl⟩|⟨hij,q⟩
  ·exact ⟨p,hp,h0,np,_,ep,.one (rep_at.mpr rfl)⟩
  ·obtain ⟨c,hc,m0,m1,tc⟩:=r.ow j z q;have hne:c≠p:=λe=>hij (r.nd j i z _ p q hi (e▸hc) hp);exact ⟨c,hc,m0,x.s4 c tc.there m1,tc.mono x.s1 λo e=>x.s2 c o e hne⟩
 ·obtain ⟨w1,q1⟩:=wasOw j z h1;obtain ⟨w2,q2⟩:=wasOw k z' h2;exact r.nd j k w1 w2 c q1 q2 h3 h4
 ·by_cases hb:b=p
  ·rw [hb,ep];exact λz=>nomatch z
  ·have:=r.live b hS;cases q:H b with
   |none=>exact absurd q this
   |some o=>rw [x.s2 b o q hb];exact λz=>nomatch z
 ·obtain ⟨y',hy⟩:=r.str b hS;rw [yD];split
  ·rename_i h0;rw [if_pos (by rw [h0];exact (yH.mp hy).1)];exact ⟨_,rfl⟩
  ·exact ⟨y',hy⟩
end
def qZ (i:Nat)(pre:List PV->Prop)(R:List PV->PV->Prop)(as:WA):W:=λε Q=>xE i ε/\as ε λxs ε1=>xE i ε1/\pre xs/\∀ y n',R xs y->Q y (ε1.set i (g8 n'))
instance {i:Nat}{as:WA}[sa:jf ta as]:SemW (xV (spD pre R) [] E (p8 (n8 i) ta)) (qZ i pre R as) where
 h:=λh _ _ _ _ _ _ rd _ k=>by
  obtain ⟨⟨n0,hn0⟩,h⟩:=h;obtain ⟨p,hp,_⟩:=rd.strm_at hn0;refine ⟨_,hp,sa.h h rd λxs ε1 vs Hs1 H1 h1 rd1 g1 r1=>?_⟩;obtain ⟨⟨n,hn⟩,hpre,h2⟩:=h1;obtain ⟨p',hp',hH,hs,_⟩:=rd1.strm_at hn;rw [hp] at hp';injection hp' with hp';injection hp' with hp';injection hp' with hp';subst hp';refine ⟨Hs1,p,n,xs,vs,by rw [yq],rd1.s3,hs,hH,r1,hpre,λy v n' Hs' H' hR x np ep rv=>?_⟩;exact k y _ v Hs' H' (h2 y n' hR) (rd1.drawn hn hp x np ep) (g1.trans x.s1) rv
def xn:WS:=λε N _=>N ε
def wSeq (a b:WS):WS:=λε N R=>a ε (λε1=>b ε1 N R) R
def t0 (i:Nat)(a:W):WS:=λε N _=>a ε λx ε1=>N (ε1.set i (.sh x))
def wW (i:Nat)(f:M):WS:=λε N _=>∃ x,f ε=some x/\N (ε.set i (.ow x))
def qx (a:W):WS:=λε _ R=>a ε R
def Gg (a:W):WS:=λε N _=>a ε λ_ ε1=>N ε1
def qN (c:WT)(a b:WS):WS:=λε N R=>c ε λk ε1=>if k=true then a ε1 N R else b ε1 N R
def wFz (i:Nat)(a:WS):WS:=λε N R=>a (fz i ε) N R
def vE (i:Nat)(a:W):WS:=λε N _=>(∃ xs,ε[i]?=some (.ow (.lst xs)))/\a ε λx ε1=>∃ xs,ε1[i]?=some (.ow (.lst xs))/\xs.length<=lim/\N (ε1.set i (.ow (.lst (xs++[x]))))
instance:SemWS JH xn where
 h:=λh _ _ _ _ _ _ rd _ k _=>k _ _ _ _ h rd (.refl _)
instance {a:WS}[sa:SemWS t a][sb:SemWS u b]:SemWS (tSeq t u) (wSeq a b) where
 h:=λh _ _ _ _ _ _ rd _ k r=>sa.h h rd (λε1 σ1 Hs1 H1 h1 rd1 g1=>sb.h h1 rd1 (λε2 σ2 Hs2 H2 h2 rd2 g2=>k ε2 σ2 Hs2 H2 h2 rd2 (g1.trans g2)) λy ε2 σ2 v Hs2 H2 h2 rd2 g2 rv=>r y ε2 σ2 v Hs2 H2 h2 rd2 (g1.trans g2) rv) r
instance {i:Nat}[sa:SemW te a]:SemWS (xU te (e7 (i+1))) (t0 (i+1) a) where
 h:=λh _ _ _ _ _ _ rd _ k _=>sa.h h rd λx ε1 v Hs1 H1 h1 rd1 g1 r1=>k _ _ _ _ h1 (rd1.put r1) g1
instance {i:Nat}{f:M}[sa:qP te f]:SemWS (xU te (e7 (i+1))) (wW (i+1) f) where
 h:=λ⟨x,e,h⟩ _ _ _ _ _ _ rd _ k _=>sa.h e rd.rs λa Hs1 H1 x1 n n' t=>k _ _ _ _ h ((rd.go x1).putO (.inl (rd.free0 n)) n' t λj y hj z=>by
  obtain ⟨b,hb,_,_,tb⟩:=rd.ow j y hj;rw [z] at hb;injection hb with hb;injection hb with hb;injection hb with hb;subst hb;exact tb.there n) x1.s1
instance [sa:SemW te a]:SemWS (wS te) (qx a) where
 h:=λh _ _ _ _ _ _ rd _ _ r=>sa.h h rd λx ε1 v Hs1 H1 h1 rd1 g1 r1=>r x ε1 _ v Hs1 H1 h1 rd1 g1 r1
instance [sa:SemW te a]:SemWS (jL te) (Gg a) where
 h:=λh _ _ _ _ _ _ rd _ k _=>sa.h h rd λx ε1 v Hs1 H1 h1 rd1 g1 r1=>k ε1 _ Hs1 H1 h1 rd1 g1
instance {t:TT}{ta:TS}{c:WT}{a:WS}[sc:Qa t c][sa:SemWS ta a][sb:SemWS tb b]:SemWS (tIfS t ta tb) (qN c a b) where
 h:=λh _ _ _ _ _ _ rd _ k r=>sc.h h rd λc ε1 Hs1 H1 h1 rd1 g1=>by
  cases c with
  |true=>exact xu (sa.h (by simpa using h1) rd1 (λε2 σ2 Hs2 H2 h2 rd2 g2=>k ε2 σ2 Hs2 H2 h2 rd2 (g1.trans g2)) λy ε2 σ2 v Hs2 H2 h2 rd2 g2 rv=>r y ε2 σ2 v Hs2 H2 h2 rd2 (g1.trans g2) rv)
  |false=>exact xt (sb.h (by simpa using h1) rd1 (λε2 σ2 Hs2 H2 h2 rd2 g2=>k ε2 σ2 Hs2 H2 h2 rd2 (g1.trans g2)) λy ε2 σ2 v Hs2 H2 h2 rd2 g2 rv=>r y ε2 σ2 v Hs2 H2 h2 rd2 (g1.trans g2) rv)
instance {i:Nat}{a:WS}[sa:SemWS t a]:SemWS t (wFz (i+1) a) where
 h:=λh _ _ _ _ _ _ rd _ k r=>by
  obtain ⟨Hs',g,rd'⟩:=rd.freeze i;exact sa.h h rd' (λε2 σ2 Hs2 H2 h2 rd2 g2=>k ε2 σ2 Hs2 H2 h2 rd2 (g.trans g2)) λy ε2 σ2 v Hs2 H2 h2 rd2 g2 rv=>r y ε2 σ2 v Hs2 H2 h2 rd2 (g.trans g2) rv
instance {i:Nat}[sa:SemW te a]:SemWS (jL (tBM K "list" Zv (n8 i) (p8 te c5))) (vE i a) where
 h:=λh _ _ _ _ _ _ rd _ k _=>by
  obtain ⟨⟨xs0,hx0⟩,h⟩:=h;obtain ⟨p,hp,n0,n,vs,hv,rv⟩:=rd.ow i _ hx0;refine ⟨_,hp,.inl ⟨rfl,vs,SqL.of hv⟩,sa.h h rd λx ε1 v Hs1 H1 h1 rd1 g1 r1=>?_⟩;obtain ⟨xs,hx,hl,h2⟩:=h1;obtain ⟨p',hp',_,n1,ws,hw,rw⟩:=rd1.ow i _ hx;rw [hp] at hp';injection hp' with hp';injection hp' with hp';injection hp' with hp';subst hp';exact ⟨p,ws,v,rfl,rfl,hw,Qy (by rw [rw.length];exact hl),k _ _ _ _ h2 (rd1.change hx hp ⟨_,w9,rw.append (.one r1)⟩) g1⟩
def wPop (i:Nat)(a:W):W:=λε Q=>(∃ xs,ε[i]?=some (.ow (.lst xs)))/\a ε λx ε1=>∃ xs k y,ε1[i]?=some (.ow (.lst xs))/\x = .at (.int k)/\0<=k/\k<xs.length/\xs.length<=lim/\xs[k.toNat]?=some y/\Q y (ε1.set i (.ow (.lst (xs.eraseIdx k.toNat))))
theorem Reps.eraseIdx {H:Hp}:∀(i:Nat){xs:List PV}{vs:List V},Reps H xs vs->Reps H (xs.eraseIdx i) (vs.eraseIdx i)
 |i,[],vs,h=>by rw [reps_nil.mp h];exact .nil
 |0,x::xs,vs,h=>by obtain ⟨v,r,rfl,p,q⟩:=reps_cons.mp h;exact q
 |i+1,x::xs,vs,h=>by obtain ⟨v,r,rfl,p,q⟩:=reps_cons.mp h;exact .cons p (Reps.eraseIdx i q)
instance {i:Nat}[sa:SemW te a]:SemW (tBM K "list" Ud (n8 i) (p8 te c5)) (wPop i a) where
 h:=λh _ _ _ _ _ _ rd _ k=>by
  obtain ⟨⟨xs0,hx0⟩,h⟩:=h;obtain ⟨p,hp,n0,n,vs,hv,rv⟩:=rd.ow i _ hx0;refine ⟨_,hp,.inl ⟨rfl,vs,SqL.of hv⟩,sa.h h rd λx ε1 v Hs1 H1 h1 rd1 g1 r1=>?_⟩;obtain ⟨xs,j,y,hx,rfl,j0,j1,hl,hy,h2⟩:=h1;obtain ⟨p',hp',_,n1,ws,hw,rw⟩:=rd1.ow i _ hx;rw [hp] at hp';injection hp' with hp';injection hp' with hp';injection hp' with hp';subst hp';cases rep_at.mp r1;obtain ⟨u,hu,ru⟩:=rw.get hy;have hlim:lim=1000000:=rfl;refine ⟨p,ws,j,j.toNat,u,rfl,rfl,hw,by omega,by omega,?_,hu,k _ _ _ _ _ h2 (rd1.change hx hp ⟨_,w9,rw.eraseIdx j.toNat⟩) g1 ru⟩;unfold seqIndex?;have e1:(if j<0 then j+(ws.length:Int) else j)=j:=if_neg (by omega);simp only [e1];rw [if_pos];rw [rw.length];simp only [uX,decide_eq_true_eq];exact ⟨j0,j1⟩
class SemWI (ti:TI)(w:WA):Prop where
 h:∀{ε Q'},w ε Q'->∀{S Hs0 H0 Hs H σ},RD S Hs0 H0 Hs H σ ε->∀{R:It->Hp->Prop},(∀ xs ε' J Hs' H',Q' xs ε'->RD S Hs0 H0 Hs' H' σ ε'->Same Hs Hs'->zZ J xs Hs'->R J H')->ti σ H R
def wIp (f:MA):WA:=λε Q=>∃ xs,f ε=some xs/\Q xs ε
instance (priority:=50){ti:TI}{f:MA}[s:zu ti f]:SemWI ti (wIp f) where
 h:=λ⟨xs,e,q⟩ _ _ _ _ _ _ r _ k=>s.h e r.rs λJ Hs' H' x ok=>k xs _ J Hs' H' q (r.go x) x.s1 ok
class SemWG (tg:TG)(g:MG):Prop where
 h:∀{x ε ε'},g x ε=some ε'->∀{S Hs0 H0 Hs H σ v},RD S Hs0 H0 Hs H σ ε->Rep Hs x v->∀{Q:St->Hp->Prop},(∀ σ',RD S Hs0 H0 Hs H σ' ε'->Q σ' H)->tg v σ H Q
instance {i:Nat}:SemWG (e7 (i+1)) (j9 (i+1)) where
 h:=λe _ _ _ _ _ _ _ rd r _ q=>by cases e;exact q _ (rd.put r)
def jN (g:MG)(f:WS):List PV->WS
 |[]=>λε N _=>N ε
 |x::xs=>λε N R=>∃ ε1,g x ε=some ε1/\f ε1 (λε2=>jN g f xs ε2 N R) R
def wFor (it:WA)(g:MG)(f:WS):WS:=λε N R=>it ε λxs ε1=>jN g f xs ε1 N R
theorem RD.rebase (r:RD S Hs0 H0 Hs H σ ε):RD S Hs H0 Hs H σ ε :=
 ⟨.refl _,r.s2,r.s3,λ_ _ z=>z,r.sh,r.ow,r.nd,r.len,r.pin,r.live,r.str,r.nb⟩
theorem RD.unbase {Hb Hx:Hp}(b:RD S Hs0 H0 Hb Hx σ ε)(r:RD S Hb H0 Hs H σ' ε'):RD S Hs0 H0 Hs H σ' ε' :=
 ⟨b.s1.trans r.s1,r.s2,r.s3,λc h z=>r.s4 c h (b.s4 c h z),r.sh,r.ow,r.nd,r.len,r.pin,r.live,r.str,r.nb⟩
instance {f:WS}[si:SemWI wi it][sg:SemWG tg g][sf:SemWS tb f]:SemWS (tFor wi tg tb) (wFor it g f) where
 h:=λ{ε N R} h S Hs0 H0 _ _ _ rd D k rt=>si.h h rd λxs ε1 J Hs1 H1 h1 rd1 g1 ok=>by
  refine ⟨λn m σ H=>m=xs.length-n/\n<=xs.length/\∃ Hs ε,RD S Hs1 H0 Hs H σ ε/\jN g f (xs.drop n) ε N R,⟨xs.length,by simp,ye _,Hs1,ε1,rd1.rebase,h1⟩,?_⟩;rintro n m σ H ⟨rfl,hn,Hs,ε2,r2,h2⟩;by_cases hlt:n<xs.length
  ·have hd:xs.drop n=xs[n]::xs.drop (n+1):=uY hlt;rw [hd] at h2;obtain ⟨ε3,e3,h3⟩:=h2;obtain ⟨go,yl⟩:=ok.go n xs[n] Hs H (by simp [hlt]) r2.s1 r2.s3;refine .inr ⟨go,λσ' H'=>n+1<=xs.length/\∃ Hs ε,RD S Hs1 H0 Hs H' σ' ε/\jN g f (xs.drop (n+1)) ε N R,λσ' H' p=>⟨xs.length-(n+1),by omega,rfl,p.1,p.2⟩,λv H3 y=>?_⟩;obtain ⟨Hs3,x3,r3⟩:=yl v H3 y;refine sg.h e3 (r2.go x3) r3 λσ4 rd4=>sf.h h3 rd4 (λε5 σ5 Hs5 H5 h5 rd5 g5=>⟨hlt,Hs5,ε5,rd5,h5⟩) λy ε5 σ5 v Hs5 H5 h5 rd5 g5 rv=>rt y ε5 σ5 v Hs5 H5 h5 (rd1.unbase rd5) (g1.trans rd5.s1) rv
  ·have en:n=xs.length:=by omega
   subst en;rw [uk] at h2;exact .inl ⟨ok.stop Hs H r2.s1 r2.s3,k _ _ _ _ h2 (rd1.unbase r2) (g1.trans r2.s1)⟩
def f9:List (Option Nat)->ME->ME->ME
 |some i::cap,s::ε2,ε1=>(f9 cap ε2 ε1).set i s
 |none::cap,_::ε2,ε1=>f9 cap ε2 ε1
 |_,_,ε1=>ε1
theorem wU:∀(cap:List (Option Nat))(ε2 ε1:ME),(f9 cap ε2 ε1).length=ε1.length
 |some i::cap,s::ε2,ε1=>by unfold f9;rw [yn,wU]
 |none::cap,_::ε2,ε1=>by unfold f9;exact wU cap ε2 ε1
 |[],_,_=>rfl
 |some _::_,[],_=>rfl
 |none::_,[],_=>rfl
theorem JM:∀(cap:List (Option Nat))(ε2 ε1:ME)(i:Nat),some i∉cap->(f9 cap ε2 ε1)[i]?=ε1[i]?
 |some k::cap,s::ε2,ε1,i,h=>by
  unfold f9;rw [yw (λz=>h (by rw [z];exact yR))];exact JM cap ε2 ε1 i λz=>h (yO _ z)
 |none::cap,_::ε2,ε1,i,h=>by unfold f9;exact JM cap ε2 ε1 i λz=>h (yO _ z)
 |[],_,_,_,_=>rfl
 |some _::_,[],_,_,_=>rfl
 |none::_,[],_,_,_=>rfl
theorem JL:∀(cap:List (Option Nat))(ε2 ε1:ME)(i:Nat),cap.length=ε2.length->some i∈cap->i<ε1.length->(cap.filterMap id).Nodup->∃ j:Nat,cap[j]?=some (some i)/\(f9 cap ε2 ε1)[i]?=ε2[j]?
 |some k::cap,s::ε2,ε1,i,hl,h,hi,nd=>by
  rw [List.filterMap_cons_some (by rfl)] at nd;by_cases e:k=i
  ·subst e;refine ⟨0,rfl,?_⟩;unfold f9;rw [uZ (by rw [wU];exact hi)];rfl
  ·obtain ⟨j,h1,h2⟩:=JL cap ε2 ε1 i (by simpa using hl) (by rcases yK.mp h with z|z;exact absurd (Option.some.inj z).symm e;exact z) hi (yx.mp nd).2;refine ⟨j+1,by simpa using h1,?_⟩;unfold f9;rw [yw e];simpa using h2
 |none::cap,s::ε2,ε1,i,hl,h,hi,nd=>by
  rw [List.filterMap_cons_none (by rfl)] at nd;obtain ⟨j,h1,h2⟩:=JL cap ε2 ε1 i (by simpa using hl) (by rcases yK.mp h with z|z;exact nomatch z;exact z) hi nd;exact ⟨j+1,by simpa using h1,by unfold f9;simpa using h2⟩
 |[],_,_,_,_,h,_,_=>nomatch h
 |some _::_,[],_,_,hl,_,_,_=>by simp at hl
 |none::_,[],_,_,hl,_,_,_=>by simp at hl
def rst:List Nat->ME->ME
 |[],ε=>ε
 |t::ts,ε=>(rst ts ε).set t .no
theorem Uv:∀(ts:List Nat)(ε:ME),(rst ts ε).length=ε.length
 |[],_=>rfl
 |t::ts,ε=>by unfold rst;rw [yn,Uv]
theorem Uu:∀(ts:List Nat)(ε:ME)(i:Nat)(s:MSlot),(rst ts ε)[i]?=some s->s = .no∨(i∉ts/\ε[i]?=some s)
 |[],_,_,_,h=> .inr ⟨yd,h⟩
 |t::ts,ε,i,s,h=>by
  unfold rst at h;rw [yD] at h;split at h
  ·split at h
   ·cases h;exact .inl rfl
   ·cases h
  ·rename_i hne;rcases Uu ts ε i s h with z|⟨z1,z2⟩
   ·exact .inl z
   ·exact .inr ⟨λm=>by rcases yK.mp m with m|m;exact hne m.symm;exact z1 m,z2⟩
theorem RD.reset (r:RD [] Hs0 H0 Hs H σ' ε)(b:But ts σ σ'):RD [] Hs0 H0 Hs H σ (rst ts ε):=by
 have at1:∀(i:Nat)(s:MSlot),(rst ts ε)[i]?=some s->s = .no∨(σ'[i]?=σ[i]?/\ε[i]?=some s):=λi s h=>by
  rcases Uu ts ε i s h with z|⟨z1,z2⟩
  ·exact .inl z
  ·exact .inr ⟨b.2 i z1,z2⟩
 refine ⟨r.s1,r.s2,r.s3,r.s4,λi x h=>?_,λi x h=>?_,λi j x y a h1 h2 h3 h4=>?_,by rw [Uv,<- r.len,b.1],(λ_ z=>nomatch z),(λ_ z=>nomatch z),(λ_ z=>nomatch z),λi x h=>by
  rcases at1 i _ h with z|⟨_,z2⟩
  ·cases z
  ·exact r.nb i x z2⟩
 ·rcases at1 i _ h with z|⟨z1,z2⟩
  ·cases z
  ·rw [<- z1];exact r.sh i x z2
 ·rcases at1 i _ h with z|⟨z1,z2⟩
  ·cases z
  ·rw [<- z1];exact r.ow i x z2
 ·rcases at1 i _ h1 with z|⟨z1,z2⟩
  ·cases z
  ·rcases at1 j _ h2 with w|⟨w1,w2⟩
   ·cases w
   ·exact r.nd i j x y a z2 w2 (z1.trans h3) (w1.trans h4)
class Vc (tg:TG)(ts:outParam (List Nat))(g:MG):Prop where
 h:∀{x ε ε'},g x ε=some ε'->∀{Hs0 H0 Hs H σ v},RD [] Hs0 H0 Hs H σ ε->Rep Hs x v->∀{Q:St->Hp->Prop},(∀ σ',RD [] Hs0 H0 Hs H σ' ε'->But ts σ σ'->Q σ' H)->tg v σ H Q
theorem RD.put0 (r:RD [] Hs0 H0 Hs H σ ε){i:Nat}(h:Rep Hs x v):RD [] Hs0 H0 Hs H (σ.set i (some v)) (ε.set i (.sh x)):=by
 have q:=(r.rs).put (i:=i) h;refine ⟨r.s1,r.s2,r.s3,r.s4,q.sh,λj z hz=>?_,q.nd,q.len,(λ_ z=>nomatch z),(λ_ z=>nomatch z),(λ_ z=>nomatch z),vt r.nb λ_ z=>nomatch z⟩;obtain ⟨c,hc,m1,m2,tc⟩:=q.ow j z hz;refine ⟨c,hc,?_,m2,tc⟩;rw [yD] at hz hc;split at hz
 ·split at hz<;>cases hz
 ·rename_i hij;rw [if_neg hij] at hc;obtain ⟨d,hd,m0,_⟩:=r.ow j z hz;rw [hd] at hc;injection hc with hc;injection hc with hc;injection hc with hc;rw [<- hc];exact m0
instance {i:Nat}:Vc (e7 i) [i] (j9 i) where
 h:=λe _ _ _ _ _ _ rd r _ q=>by
  cases e;exact q _ (rd.put0 r) ⟨yn,λj hj=>yw λz=>hj (by rw [<- z];exact yN.mpr rfl)⟩
def zY (g:MG)(c:WT)(f:W)(ts:List Nat):List PV->List PV->ME->(List PV->ME->Prop)->Prop
 |[],ys,ε,Q=>Q ys ε
 |x::xs,ys,ε,Q=>∃ ε1,g x ε=some ε1/\c ε1 λb ε2=>if b=true then f ε2 λy ε3=>zY g c f ts xs (ys++[y]) (rst ts ε3) Q else zY g c f ts xs ys (rst ts ε2) Q
def zq:WT:=λε Q=>Q true ε
instance:Qa tYes zq where
 h:=λh _ _ _ _ _ _ rd _ k=>k true _ _ _ h rd (.refl _)
def zX (cap:List (Option Nat))(ts:List Nat)(it:WA)(g:MG)(c:WT)(f:W):W:=λε Q=>it ε λxs ε1=>xF cap ts=true/\xs.length<=lim /\
 zY g c f ts xs [] (c3 cap ε1) λys ε2=>((∃ y:PV,ε1[0]?=some (MSlot.ow y))->∃ y:PV,(f9 cap ε2 ε1)[0]?=some (MSlot.ow y))/\Q (.lst ys) (f9 cap ε2 ε1)
noncomputable def qT (σ:St)(ε:ME)(H:Hp):Hp:=λb=>open Classical in if ∃(i:Nat)(x:PV),ε[i]?=some (MSlot.ow x)/\σ[i]?=some (some (V.ref b)) then none else H b
theorem XU {b:Addr}(h:qT σ ε H b=some o):H b=some o/\∀(i:Nat)(x:PV),ε[i]?=some (MSlot.ow x)->σ[i]?≠some (some (V.ref b)):=by
 unfold qT at h;split at h
 ·cases h
 ·rename_i hn;exact ⟨h,λi x h1 h2=>hn ⟨i,x,h1,h2⟩⟩
theorem Ys {b:Addr}(h:qT σ ε H b=none):H b=none∨∃(i:Nat)(x:PV),ε[i]?=some (MSlot.ow x)/\σ[i]?=some (some (V.ref b)):=by
 unfold qT at h;split at h
 ·rename_i hn;exact .inr hn
 ·exact .inl h
theorem Ke {cap:List (Option Nat)}(nb:∀(i:Nat)(x:PV),ε[i]?≠some (.bo x)):∀(i:Nat)(x:PV),(c3 cap ε)[i]?≠some (.bo x):=λi x h=>by
 unfold c3 at h;rw [yP] at h;cases ho:cap[i]? with
 |none=>rw [ho] at h;cases h
 |some o =>
  rw [ho] at h;cases o with
  |none=>cases h
  |some k =>
   cases hk:ε[k]? with
   |none=>simp only [uI,hk,Option.getD_none] at h;cases h
   |some s=>simp only [uI,hk,Option.getD_some] at h;cases h;exact nb k x hk
theorem RD.block {cap:List (Option Nat)}(hc:(cap.filterMap id).Nodup)(r:RD S Hs0 H0 Hs H σ ε):RD [] Hs (qT (k7 cap σ) (c3 cap ε) H) Hs H (k7 cap σ) (c3 cap ε):=by have q:=(r.rs).cap hc;refine ⟨.refl _,λb o e _=>(XU e).1,r.s3,λ_ _ z=>z,q.sh,λi x h=>?_,q.nd,q.len,(λ_ z=>nomatch z),(λ_ z=>nomatch z),(λ_ z=>nomatch z),Ke r.nb⟩;obtain ⟨a,h1,h2,h3,h4⟩:=q.ow i x h;refine ⟨a,h1,.inl ?_,h3,h4⟩;unfold qT;rw [if_pos ⟨i,x,h,h1⟩]
theorem zA {cap:List (Option Nat)}{i k:Nat}(h:cap[i]?=some (some k))(e:(k7 cap σ)[i]?=some (some v)):σ[k]?=some (some v):=by
 unfold k7 at e;rw [yP,h] at e;simp only [uI,yy,Option.some.injEq] at e;cases hs:σ[k]? with
 |none=>rw [hs] at e;cases e
 |some o=>rw [hs] at e;simp at e;rw [e]
theorem Ws {cap:List (Option Nat)}{i:Nat}(h:(c3 cap ε)[i]?=some (.ow x)):∃ k:Nat,cap[i]?=some (some k)/\ε[k]?=some (.ow x):=by
 unfold c3 at h;rw [yP] at h;cases ho:cap[i]? with
 |none=>rw [ho] at h;cases h
 |some o =>
  rw [ho] at h;cases o with
  |none=>cases h
  |some k =>
   cases hk:ε[k]? with
   |none=>simp only [uI,hk,Option.getD_none] at h;cases h
   |some s=>simp only [uI,hk,Option.getD_some] at h;cases h;exact ⟨k,rfl,hk⟩
theorem RD.unblock {Hs1 H1 Hs2 H2:Hp}{ε1 ε2:ME}{cap:List (Option Nat)}(hc:(cap.filterMap id).Nodup)(r:RD S Hs0 H0 Hs1 H1 σ ε1)(q:RD [] Hs1 (qT (k7 cap σ) (c3 cap ε1) H1) Hs2 H2 (k7 cap σ) ε2)(st:(∃ y,ε1[0]?=some (.ow y))->∃ y,(f9 cap ε2 ε1)[0]?=some (.ow y)):RD S Hs0 H0 Hs2 H2 σ (f9 cap ε2 ε1):=by
 have hl:cap.length=ε2.length:=by rw [<- q.len];unfold k7;rw [yZ]
 have at1:∀(i:Nat)(s:MSlot),(f9 cap ε2 ε1)[i]?=some s->(some i∉cap/\ε1[i]?=some s)∨∃ j:Nat,cap[j]?=some (some i)/\ε2[j]?=some s:=λi s h=>by
  by_cases hi:some i∈cap
  ·have hlt:i<ε1.length:=by have:=(yH.mp h).1;rwa [wU] at this
   obtain ⟨j,h1,h2⟩:=JL cap ε2 ε1 i hl hi hlt hc;exact .inr ⟨j,h1,h2▸h⟩
  ·exact .inl ⟨hi,JM cap ε2 ε1 i hi▸h⟩
 have own0:∀ a,qT (k7 cap σ) (c3 cap ε1) H1 a=none->H0 a=none∨a∈S:=λa h=>by
  rcases Ys h with h|⟨i,x,h1,h2⟩
  ·exact .inl (r.free0 h)
  ·obtain ⟨k,hk,hx⟩:=Ws h1;obtain ⟨c,hc',m0,_⟩:=r.ow k x hx;rw [zA hk h2] at hc';injection hc' with hc';injection hc' with hc';injection hc' with hc';rw [hc'];exact m0
 have keep:∀(k:Nat)(x:PV)(a:Addr),some k∉cap->ε1[k]?=some (.ow x)->σ[k]?=some (some (.ref a))->∀ o,H1 a=some o->qT (k7 cap σ) (c3 cap ε1) H1 a=some o:=λk x a hk hx ha o ho=>by
  cases z:qT (k7 cap σ) (c3 cap ε1) H1 a with
  |some u=>rw [<- ho,(XU z).1]
  |none =>
   rcases Ys z with z|⟨i,y,h1,h2⟩
   ·rw [z] at ho;cases ho
   ·obtain ⟨m,hm,hy⟩:=Ws h1;have:=r.nd k m x y a hx hy ha (zA hm h2);subst this;exact absurd (yp hm) hk
 have ow':∀(i:Nat)(x:PV),(f9 cap ε2 ε1)[i]?=some (.ow x)->∃ a,σ[i]?=some (some (.ref a))/\(H0 a=none∨a∈S)/\Hs2 a=none/\Top Hs2 H2 a x:=λi x h=>by
  rcases at1 i _ h with ⟨hi,e⟩|⟨j,hj,e⟩
  ·obtain ⟨a,ha,m0,m1,t⟩:=r.ow i x e;refine ⟨a,ha,m0,?_,t.mono q.s1 λo ho=>q.s2 a o (keep i x a hi e ha o ho) yd⟩;cases z:H1 a with
   |none=>exact absurd z t.there
   |some o=>exact q.s4 a (by rw [keep i x a hi e ha o z];exact λw=>nomatch w) m1
  ·obtain ⟨a,ha,m0,m1,t⟩:=q.ow j x e;exact ⟨a,zA hj ha,own0 a (m0.resolve_right yd),m1,t⟩
 have str':∀ a∈S,∃ y,(f9 cap ε2 ε1)[0]?=some (.ow y):=λa hS=>st (r.str a hS);refine ⟨r.s1.trans q.s1,λb o e hS=>?_,q.s3,λb h z=>?_,λi x h=>?_,ow',λi j x y a h1 h2 h3 h4=>?_,by rw [wU];exact r.len,r.pin,λb hS=>?_,str',λi x h=>by
  rcases at1 i _ h with ⟨_,e⟩|⟨j,_,e⟩
  ·exact r.nb i x e
  ·exact q.nb j x e⟩
 ·have e1:=r.s2 b o e hS;refine q.s2 b o ?_ yd;cases z:qT (k7 cap σ) (c3 cap ε1) H1 b with
  |some u=>rw [<- e1,(XU z).1]
  |none =>
   rcases own0 b z with w|w
   ·rw [w] at e;cases e
   ·exact absurd w hS
 ·have z1:=r.s4 b h z;by_cases hL:qT (k7 cap σ) (c3 cap ε1) H1 b=none
  ·rcases own0 b hL with w|w
   ·exact absurd w h
   ·obtain ⟨y,hy⟩:=str' b w;obtain ⟨a,ha,_,m1,_⟩:=ow' 0 y hy;rw [r.pin b w] at ha;injection ha with ha;injection ha with ha;injection ha with ha;rw [ha];exact m1
  ·exact q.s4 b hL z1
 ·rcases at1 i _ h with ⟨hi,e⟩|⟨j,hj,e⟩
  ·obtain ⟨v,hv,rv⟩:=r.sh i x e;exact ⟨v,hv,rv.mono q.s1⟩
  ·obtain ⟨v,hv,rv⟩:=q.sh j x e;exact ⟨v,zA hj hv,rv⟩
 ·rcases at1 i _ h1 with ⟨hi,e⟩|⟨k,hk,e⟩
  ·rcases at1 j _ h2 with ⟨hj,e'⟩|⟨l,hl',e'⟩
   ·exact r.nd i j x y a e e' h3 h4
   ·-- one of the block's own,one that it does not see
    obtain ⟨a',ha',m0,_,_⟩:=q.ow l y e';have ea:=zA hl' ha';rw [h4] at ea;injection ea with ea;injection ea with ea;injection ea with ea;subst ea;obtain ⟨c,hc1,_,_,t⟩:=r.ow i x e;rw [h3] at hc1;injection hc1 with hc1;injection hc1 with hc1;injection hc1 with hc1;subst hc1;cases z:H1 a with
    |none=>exact absurd z t.there
    |some o=>have w:=keep i x a hi e h3 o z;rw [m0.resolve_right yd] at w;cases w
  ·rcases at1 j _ h2 with ⟨hj,e'⟩|⟨l,hl',e'⟩
   ·obtain ⟨a',ha',m0,_,_⟩:=q.ow k x e;have ea:=zA hk ha';rw [h3] at ea;injection ea with ea;injection ea with ea;injection ea with ea;subst ea;obtain ⟨c,hc1,_,_,t⟩:=r.ow j y e';rw [h4] at hc1;injection hc1 with hc1;injection hc1 with hc1;injection hc1 with hc1;subst hc1;cases z:H1 a with
    |none=>exact absurd z t.there
    |some o=>have w:=keep j y a hj e' h4 o z;rw [m0.resolve_right yd] at w;cases w
   ·obtain ⟨a1,ha1,_⟩:=q.ow k x e;obtain ⟨a2,ha2,_⟩:=q.ow l y e';have e1:=zA hk ha1;have e2:=zA hl' ha2;rw [h3] at e1;rw [h4] at e2;injection e1 with e1;injection e1 with e1;injection e1 with e1;injection e2 with e2;injection e2 with e2;injection e2 with e2;subst e1;subst e2;have kl:=q.nd k l x y a e e' ha1 ha2;subst kl;rw [hk] at hl';injection hl' with hl';injection hl' with hl'
 ·obtain ⟨y,hy⟩:=str' b hS;obtain ⟨a,ha,_,_,t⟩:=ow' 0 y hy;rw [r.pin b hS] at ha;injection ha with ha;injection ha with ha;injection ha with ha;rw [ha];exact t.there
instance {cap:List (Option Nat)}{c:WT}{f:W}[si:SemWI wi it][sg:Vc tg ts g][sc:Qa tt c][sf:SemW te f]:SemW (wQ wi tg tt te cap) (zX cap ts it g c f) where
 h:=λ{ε Q'} h S Hs0 H0 Hs H σ rd Q k=>si.h h rd λxs ε1 J Hs1 H1 h1 rd1 g1 ok=>by
  obtain ⟨hcap,hl,h1⟩:=h1;unfold xF at hcap;rw [uX] at hcap;have hnd:=uR hcap.1;have wk:∀ i∈ts,(k7 cap σ)[i]?=some none:=λi hi=>by
   unfold k7;rw [yP,uR (uU.mp hcap.2 i hi)];rfl
  refine ⟨λn m zs H=>m=xs.length-n/\n<=xs.length/\∃ Hs2 ws ε2,RD [] Hs1 (qT (k7 cap σ) (c3 cap ε1) H1) Hs2 H (k7 cap σ) ε2/\Reps Hs2 ws zs/\ws.length<=n /\
    zY g c f ts (xs.drop n) ws ε2 (λys ε3=>((∃ y:PV,ε1[0]?=some (MSlot.ow y))->∃ y:PV,(f9 cap ε3 ε1)[0]?=some (MSlot.ow y))/\Q' (PV.lst ys) (f9 cap ε3 ε1)),
   ⟨xs.length,by simp,ye _,Hs1,[],_,rd1.block hnd,.nil,yU _,h1⟩,?_⟩
  rintro n m zs H2 ⟨rfl,hn,Hs2,ws,ε2,r2,rz,hw,h2⟩;refine ⟨qp (by rw [rz.length];omega),?_⟩;by_cases hlt:n<xs.length
  ·have hd:xs.drop n=xs[n]::xs.drop (n+1):=uY hlt;rw [hd] at h2;obtain ⟨ε3,e3,h3⟩:=h2;obtain ⟨go,yl⟩:=ok.go n xs[n] Hs2 H2 (by simp [hlt]) r2.s1 r2.s3;refine .inr ⟨go,λv H3 y=>?_⟩;obtain ⟨Hs3,x3,r3⟩:=yl v H3 y;refine sg.h e3 (r2.go x3) r3 λσ4 rd4 bt=>⟨bt.wk wk,sc.h h3 rd4 λb ε5 Hs5 H5 h5 rd5 g5=>?_⟩;cases b with
   |true=>refine xu (sf.h (by simpa using h5) rd5 λy ε6 u Hs6 H6 h6 rd6 g6 ru=>⟨xs.length-(n+1),by omega,rfl,hlt,Hs6,ws++[y],_,rd6.reset bt,?_,by rw [yQ];simp;omega,h6⟩);exact (rz.mono (x3.s1.trans (g5.trans g6))).snoc ru
   |false=>exact xt ⟨xs.length-(n+1),by omega,rfl,hlt,Hs5,ws,_,rd5.reset bt,rz.mono (x3.s1.trans g5),by omega,by simpa using h5⟩
  ·have en:n=xs.length:=by omega
   subst en;rw [uk] at h2;refine .inl ⟨ok.stop Hs2 H2 r2.s1 r2.s3,λD hD=>?_⟩;have rd2:=rd1.unblock hnd r2 h2.1;exact k _ _ _ _ _ h2.2 (rd2.go (.new rd2.s3 hD)) (g1.trans (r2.s1.trans (Ext.new rd2.s3 hD).s1)) (rep_lst.mpr ⟨D,zs,rfl,w9,rz.mono (Ext.new rd2.s3 hD).s1⟩)
section
variable {P:Program}{w:World}{K:Fg}{mg:Str->Option Value}{base:Heap}
theorem jI {n i:Nat}:(xs.map MSlot.sh++List.replicate n .no)[i]?≠some (.ow x):=λh=>by
 by_cases hi:i<xs.length
 ·rw [uK (by rw [yZ];exact hi),yP] at h;obtain ⟨y,_,z⟩:=yI.mp h;cases z
 ·rw [uC (by rw [yZ];omega),ut] at h;split at h<;>cases h
theorem ZB {n i:Nat}:(xs.map MSlot.sh++List.replicate n .no)[i]?≠some (.bo x):=λh=>by
 by_cases hi:i<xs.length
 ·rw [uK (by rw [yZ];exact hi),yP] at h;obtain ⟨y,_,z⟩:=yI.mp h;cases z
 ·rw [uC (by rw [yZ];omega),ut] at h;split at h<;>cases h
theorem DD {a:Addr}(s:Same Hs H)(ha:Hs a=none)(hH:H a=some (.lst [.int n]))(r:Reps Hs xs ws):RD [a] Hs H Hs H (L2.start N (.ref a::ws)) (g8 n::xs.map .sh++List.replicate (N.length-(xs.length+1)) .no):=by
 have q:=vC (N:=N) (xs:= .at (.ref a)::xs) s (.cons (rep_at.mpr rfl) r);have tl:∀(i:Nat)(sl:MSlot),(g8 n::xs.map .sh++List.replicate (N.length-(xs.length+1)) .no)[i+1]?=some sl->((PV.at (.ref a)::xs).map MSlot.sh++List.replicate (N.length-(PV.at (.ref a)::xs).length) .no)[i+1]?=some sl:=λi sl h=>h;refine ⟨.refl _,λb o e _=>e,s,λ_ _ z=>z,λi x h=>?_,λi x h=>?_,λi j x y b h1 h2 _ _=>?_,?_,λb hb=>?_,λb hb=>?_,(λb hb=>⟨_,rfl⟩),λi x h=>by
  cases i with
  |zero=>unfold g8 at h;simp at h
  |succ i=>exact ZB (xs:=PV.at (.ref a)::xs) (tl i _ h)⟩
 ·cases i with
  |zero=>unfold g8 at h;simp at h
  |succ i=>exact q.sh (i+1) x (tl i _ h)
 ·cases i with
  |zero=>unfold g8 at h;simp at h;subst h;refine ⟨a,?_,.inr (yN.mpr rfl),ha,_,hH,.one (rep_at.mpr rfl)⟩;unfold L2.start;rfl
  |succ i =>
   obtain ⟨c,h1,_⟩:=q.ow (i+1) x (tl i _ h);exact absurd (tl i _ h) λz=>by
    have:=jI (i:=i+1) (x:=x) (xs:=PV.at (.ref a)::xs) (n:=N.length-(PV.at (.ref a)::xs).length);exact this z
 ·cases i with
  |zero =>
   cases j with
   |zero=>rfl
   |succ j=>exact absurd (tl j _ h2) (jI (xs:=PV.at (.ref a)::xs))
  |succ i=>exact absurd (tl i _ h1) (jI (xs:=PV.at (.ref a)::xs))
 ·exact q.len
 ·rw [yN.mp hb];unfold L2.start;rfl
 ·rw [yN.mp hb,hH];exact λz=>nomatch z
theorem okD {x:Str}{f:Addr}{k:Nat}(F:Fun K x qual st f fd)(S:v7 N ps (j6 st))(hpre:∀ xs,pre xs->xs.length+1=ps.length)(hb:∀(cdv:Value)(A:Around)(outer:List Env)(s:Shared)(H:Hp)(E:XK),Room k (A.deeper (PyProof.Rows.envOfC qual (j6 st) s.heap.objs.size f cdv)) -> ∃ t,PSs (qG j8 P w K mg base N qual (j6 st) f cdv A outer s H E).nox (i0 st) t/\SemWS t b)(hw:∀ xs n,pre xs->b (g8 n::xs.map .sh++List.replicate (N.length-(xs.length+1)) .no) (λ_=>False) λy ε=>R xs y/\xE 0 ε):FnOk P w K mg base j8 (k+1) f fd ps (spD pre R):=by
 refine F.ok S (λvs H Q E h=>?_) (λcdv A outer s H vs Q E hr h=>?_)
 ·obtain ⟨Hs,a,n,xs,ws,rfl,_,_,_,r,hp,_⟩:=h;rw [yz,r.length];exact hpre xs hp
 ·obtain ⟨Hs,a,n,xs,ws,rfl,sm,ha,hH,r,hp,q⟩:=h;obtain ⟨t,ht,sem⟩:=hb cdv A outer s H E hr;refine ⟨t,ht,sem.h (hw xs n hp) (DD sm ha hH r) (λε σ Hs' H' z _ _=>z.elim) λy ε σ v Hs' H' hR rd g rv=>?_⟩;obtain ⟨hR,n',hn'⟩:=hR;obtain ⟨a',ha',hH',hs',_⟩:=rd.strm_at hn';rw [rd.pin a (yN.mpr rfl)] at ha';injection ha' with ha';injection ha' with ha';injection ha' with ha';subst ha';refine q y v n' Hs' H' hR ⟨g,λb o e hb=>rd.s2 b o e λz=>hb (yN.mp z),rd.s3,λb h z=>rd.s4 b h z⟩ hs' hH' rv
end
def spN (pre:List PV->Prop)(R:List PV->PV->Prop):Sp:=λvs H Q _=>∃ Hs xs,Same Hs H/\Reps Hs xs vs/\pre xs/\∀ y a Hs' H',R xs y->Ext Hs H Hs' H'->H a=none->Hs' a=none->Top Hs' H' a y->Q (.ref a) H'
def spV (pre:List PV->Prop)(R:List PV->PV->Prop):Sp:=λvs H Q _=>∃ Hs xs,Same Hs H/\Reps Hs xs vs/\pre xs/\∀ y v Hs' H',R xs y->Ext Hs H Hs' H'->Rep Hs' y v->Q v H'
def Xf (i:Nat)(pre:List PV->Prop)(R:List PV->PV->Prop)(as:WA):WS:=λε N _=>as ε λxs ε1=>pre xs/\∀ y,R xs y->N (ε1.set i (.ow y))
instance {i:Nat}{as:WA}[sa:jf ta as]:SemWS (xU (xV (spN pre R) [] E ta) (e7 (i+1))) (Xf (i+1) pre R as) where
 h:=λh _ _ _ _ _ _ rd _ k _=>sa.h h rd λxs ε1 vs Hs1 H1 h1 rd1 g1 r1=>by
  refine ⟨Hs1,xs,rd1.s3,by rw [yq];exact r1,h1.1,λy a Hs' H' hR x n n' t=>?_⟩;refine k _ _ _ _ (h1.2 y hR) ((rd1.go x).putO (.inl (rd1.free0 n)) n' t λj z hj e=>?_) (g1.trans x.s1);obtain ⟨b,hb,_,_,tb⟩:=rd1.ow j z hj;rw [e] at hb;injection hb with hb;injection hb with hb;injection hb with hb;subst hb;exact tb.there n
def Gf (pre:List PV->Prop)(R:List PV->PV->Prop)(as:WA):W:=λε Q=>as ε λxs ε1=>pre xs/\∀ y,R xs y->Q y ε1
instance {as:WA}[sa:jf ta as]:SemW (xV (spV pre R) [] E ta) (Gf pre R as) where
 h:=λh _ _ _ _ _ _ rd _ k=>sa.h h rd λxs ε1 vs Hs1 H1 h1 rd1 g1 r1 =>
  ⟨Hs1,xs,rd1.s3,by rw [yq];exact r1,h1.1,λy v Hs' H' hR x rv=>k y ε1 v Hs' H' (h1.2 y hR) (rd1.go x) (g1.trans x.s1) rv⟩
section
variable {P:Program}{w:World}{K:Fg}{mg:Str->Option Value}{base:Heap}
theorem Ul (s:Same Hs H)(r:Reps Hs xs vs):RD [] Hs H Hs H (L2.start N vs) (xs.map .sh++List.replicate (N.length-xs.length) .no):=by have q:=vC (N:=N) s r;exact ⟨.refl _,λb o e _=>e,s,λ_ _ z=>z,q.sh,λi x h=>absurd h jI,q.nd,q.len,(λ_ z=>nomatch z),(λ_ z=>nomatch z),(λ_ z=>nomatch z),λ_ _=>ZB⟩
theorem okV {x:Str}{f:Addr}{k:Nat}(F:Fun K x qual st f fd)(S:v7 N ps (j6 st))(hpre:∀ xs,pre xs->xs.length=ps.length)(hb:∀(cdv:Value)(A:Around)(outer:List Env)(s:Shared)(H:Hp)(E:XK),Room k (A.deeper (PyProof.Rows.envOfC qual (j6 st) s.heap.objs.size f cdv)) -> ∃ t,PSs (qG j8 P w K mg base N qual (j6 st) f cdv A outer s H E).nox (i0 st) t/\SemWS t b)(hw:∀ xs,pre xs->b (xs.map .sh++List.replicate (N.length-xs.length) .no) (λ_=>False) λy _=>R xs y):FnOk P w K mg base j8 (k+1) f fd ps (spV pre R):=by
 refine F.ok S (λvs H Q E h=>?_) (λcdv A outer s H vs Q E hr h=>?_)
 ·obtain ⟨Hs,xs,_,r,hp,_⟩:=h;rw [r.length];exact hpre xs hp
 ·obtain ⟨Hs,xs,sm,r,hp,q⟩:=h;obtain ⟨t,ht,sem⟩:=hb cdv A outer s H E hr;refine ⟨t,ht,sem.h (hw xs hp) (Ul sm r) (λε σ Hs' H' z _ _=>z.elim) λy ε σ v Hs' H' hR rd g rv=>?_⟩;exact q y v Hs' H' hR ⟨g,λb o e=>rd.s2 b o e yd,rd.s3,rd.s4⟩ rv
def scr (K:Fg)(ns:List Int):PV:= .op λH v=>∃ a,v = .ref a/\SqL K H a (ns.map V.int)
theorem Mw {K:Fg}{ns:List Int}(s:Same Hs H)(r:Rep Hs (scr K ns) v):∃ a,v = .ref a/\SqL K H a (ns.map V.int):=by obtain ⟨H1,s1,a,rfl,q⟩:=rep_op.mp r;exact ⟨a,rfl,(s1.trans s).seq q⟩
def wO (K:Fg):Sp:=λvs H Q _=>∃(a:Addr)(ns:List Int),vs=[.ref a]/\SqL K H a (ns.map V.int)/\ns.length<=63/\∀ H',Q (.bl true) H'
theorem okL {x:Str}{f:Addr}{k:Nat}(F:Fun K x qual st f fd)(S:v7 N ["script"] (j6 st))(hb:∀ (cdv:Value) (A:Around) (outer:List Env) (s:Shared) (H:Hp) (E:XK),Room k (A.deeper (PyProof.Rows.envOfC qual (j6 st) s.heap.objs.size f cdv)) -> ∃ t,PSs (qG j8 P w K mg base N qual (j6 st) f cdv A outer s H E).nox (i0 st) t/\SemWS t b)(hw:∀ ns:List Int,ns.length<=63->b (.sh (scr K ns)::List.replicate (N.length-1) .no) (λ_=>False) λy _=>y = .at (.bl true)):FnOk P w K mg base j8 (k+1) f fd ["script"] (wO K):=by
 refine F.ok S (λvs H Q E h=>?_) (λcdv A outer s H vs Q E hr h=>?_)
 ·obtain ⟨a,ns,rfl,_⟩:=h;rfl
 ·obtain ⟨a,ns,rfl,hS,h63,q⟩:=h;obtain ⟨t,ht,sem⟩:=hb cdv A outer s H E hr;have r:Reps H [scr K ns] [.ref a]:= .one (rep_op.mpr ⟨H,.refl _,a,rfl,hS⟩);refine ⟨t,ht,sem.h (hw ns h63) (Ul (N:=N) (.refl H) r) (λε σ Hs' H' z _ _=>z.elim) λy ε σ v Hs' H' hR rd g rv=>?_⟩;subst hR;cases rep_at.mp rv;exact q H'
end
class qh (w:W):Prop where
 h:∀{ε:ME}{P P':PV->ME->Prop},(∀ y e,P y e->P' y e)->w ε P->w ε P'
class ja (w:WA):Prop where
 h:∀{ε:ME}{P P':List PV->ME->Prop},(∀ y e,P y e->P' y e)->w ε P->w ε P'
class jP (w:WT):Prop where
 h:∀{ε:ME}{P P':Bool->ME->Prop},(∀ y e,P y e->P' y e)->w ε P->w ε P'
class qy (w:WS):Prop where
 h:∀{ε:ME}{N N':ME->Prop}{R R':PV->ME->Prop},(∀ e,N e->N' e)->(∀ y e,R y e->R' y e)->w ε N R->w ε N' R'
instance {f:M}:qh (wP f) where h:=λk ⟨y,e,q⟩=>⟨y,e,k _ _ q⟩
instance {f:MB}:jP (wPT f) where h:=λk ⟨y,e,q⟩=>⟨y,e,k _ _ q⟩
instance {g:PV->PV->Option PV}{b:W}[A:qh a][B:qh b]:qh (qw g a b) where h:=λk h=>A.h (λ_ _ h1=>B.h (λ_ _ ⟨z,e,q⟩=>⟨z,e,k _ _ q⟩) h1) h
instance:jP zq where h:=λk h=>k _ _ h
theorem XN {c:Bool}{A B A' B':Prop}(h1:A->A')(h2:B->B')(h:if c=true then A else B):if c=true then A' else B':=by
 cases c with
 |true=>exact xu (h1 (by simpa using h))
 |false=>exact xt (h2 (by simpa using h))
instance:ja i6 where h:=λk h=>k _ _ h
instance [A:qh a][B:ja r]:ja (y6 a r) where h:=λk h=>A.h (λ_ _ h1=>B.h (λ_ _ h2=>k _ _ h2) h1) h
instance {i:Nat}[A:qh a]:qh (qb i a) where h:=λk h=>⟨h.1,A.h (λ_ _ ⟨n,m,e1,e2,e3,q⟩=>⟨n,m,e1,e2,e3,k _ _ q⟩) h.2⟩
instance {i:Nat}{a:WA}[A:ja a]:qh (qZ i pre R a) where h:=λk h=>⟨h.1,A.h (λ_ _ ⟨h1,h2,h3⟩=>⟨h1,h2,λy n r=>k _ _ (h3 y n r)⟩) h.2⟩
instance {i:Nat}[A:qh a]:qh (wPop i a) where h:=λk h=>⟨h.1,A.h (λ_ _ ⟨xs,j,y,e1,e2,e3,e4,e5,e6,q⟩=>⟨xs,j,y,e1,e2,e3,e4,e5,e6,k _ _ q⟩) h.2⟩
instance {f:MA}:ja (wIp f) where h:=λk ⟨y,e,q⟩=>⟨y,e,k _ _ q⟩
theorem JW {g:MG}{c:WT}{f:W}{ts:List Nat}[C:jP c][F:qh f]{Q Q':List PV->ME->Prop}(k:∀ y e,Q y e->Q' y e):∀(xs ys:List PV)(ε:ME),zY g c f ts xs ys ε Q->zY g c f ts xs ys ε Q'
 |[],ys,ε,h=>k _ _ h
 |x::xs,ys,ε,h=>by
  obtain ⟨ε1,e1,h1⟩:=h;exact ⟨ε1,e1,C.h (λb ε2 h2=>XN (λh3=>F.h (λy ε3 h4=>JW k xs _ _ h4) h3) (λh3=>JW k xs _ _ h3) h2) h1⟩
instance {cap:List (Option Nat)}{c:WT}{f:W}[I:ja it][C:jP c][F:qh f]:qh (zX cap ts it g c f) where
 h:=λk h=>I.h (λ_ _ ⟨h1,h2,h3⟩=>⟨h1,h2,JW (λ_ _ ⟨q1,q2⟩=>⟨q1,k _ _ q2⟩) _ _ _ h3⟩) h
instance:qy xn where h:=λk _ h=>k _ h
instance {a:WS}[A:qy a][B:qy b]:qy (wSeq a b) where h:=λk r h=>A.h (λ_ h1=>B.h k r h1) r h
instance {i:Nat}[A:qh a]:qy (t0 i a) where h:=λk _ h=>A.h (λ_ _ h1=>k _ h1) h
instance {i:Nat}{f:M}:qy (wW i f) where h:=λk _ ⟨x,e,q⟩=>⟨x,e,k _ q⟩
instance [A:qh a]:qy (qx a) where h:=λ_ r h=>A.h r h
instance {c:WT}{a:WS}[C:jP c][A:qy a][B:qy b]:qy (qN c a b) where h:=λk r h=>C.h (λ_ _ h1=>XN (λh2=>A.h k r h2) (λh2=>B.h k r h2) h1) h
instance {i:Nat}[A:qh a]:qy (vE i a) where h:=λk _ h=>⟨h.1,A.h (λ_ _ ⟨xs,e1,e2,q⟩=>⟨xs,e1,e2,k _ q⟩) h.2⟩
theorem Gh {g:MG}{f:WS}[F:qy f]{N N':ME->Prop}{R R':PV->ME->Prop}(k:∀ e,N e->N' e)(r:∀ y e,R y e->R' y e):∀(xs:List PV)(ε:ME),jN g f xs ε N R->jN g f xs ε N' R'
 |[],ε,h=>k _ h
 |x::xs,ε,h=>by
  obtain ⟨ε1,e1,h1⟩:=h;exact ⟨ε1,e1,F.h (λε2 h2=>Gh k r xs ε2 h2) r h1⟩
instance {f:WS}[I:ja it][F:qy f]:qy (wFor it g f) where h:=λk r h=>I.h (λ_ _ h1=>Gh k r _ _ h1) h
theorem Xt {g:MG}{c:WT}{f:W}{ts:List Nat}{Q:List PV->ME->Prop}[C:jP c][F:qh f](I:List PV->List PV->ME->Prop)(hd:∀ ys ε,I [] ys ε->Q ys ε)(hs:∀ x xs ys ε,I (x::xs) ys ε->∃ ε1,g x ε=some ε1/\c ε1 λb ε2=>if b=true then f ε2 λy ε3=>I xs (ys++[y]) (rst ts ε3) else I xs ys (rst ts ε2)):∀(xs ys:List PV)(ε:ME),I xs ys ε->zY g c f ts xs ys ε Q
 |[],ys,ε,h=>hd ys ε h
 |x::xs,ys,ε,h=>by
  obtain ⟨ε1,e1,h1⟩:=hs x xs ys ε h;exact ⟨ε1,e1,C.h (λb ε2 h2=>XN (λh3=>F.h (λy ε3 h4=>Xt I hd hs xs _ _ h4) h3) (λh3=>Xt I hd hs xs _ _ h3) h2) h1⟩
theorem Qi {f:W}{Q:List PV->ME->Prop}[F:qh f](I:List PV->List PV->ME->Prop)(hd:∀ ys ε,I [] ys ε->Q ys ε)(hs:∀ x xs ys ε,I (x::xs) ys ε->∃ ε1,g x ε=some ε1/\f ε1 λy ε3=>I xs (ys++[y]) (rst ts ε3))(xs ys:List PV)(ε:ME)(h:I xs ys ε):zY g zq f ts xs ys ε Q :=
 Xt I hd (λx xs ys ε h=>by
  obtain ⟨ε1,e,q⟩:=hs x xs ys ε h;refine ⟨ε1,e,?_⟩;show if true=true then (f ε1 λy ε3=>I xs (ys++[y]) (rst ts ε3)) else I xs ys (rst ts ε1)
  rw [if_pos rfl];exact q) xs ys ε h
theorem QA {g:MG}{f:WS}{N:ME->Prop}{R:PV->ME->Prop}[F:qy f](I:List PV->ME->Prop)(hd:∀ ε,I [] ε->N ε)(hs:∀ x xs ε,I (x::xs) ε->∃ ε1,g x ε=some ε1/\f ε1 (λε2=>I xs ε2) R):∀(xs:List PV)(ε:ME),I xs ε->jN g f xs ε N R
 |[],ε,h=>hd ε h
 |x::xs,ε,h=>by
  obtain ⟨ε1,e1,h1⟩:=hs x xs ε h;exact ⟨ε1,e1,F.h (λε2 h2=>QA I hd hs xs ε2 h2) (λ_ _ z=>z) h1⟩
section
variable {ε ε1:ME}{a b:MS}{f g:M}{x y z:PV}{i:Nat}{o:Option Out}
theorem y3 (h:a ε=some (.nx ε1))(k:b ε1=o):v8 a b ε=o:=by unfold v8;rw [h];exact k
theorem r6 (h:f ε=some x):k4 i f ε=some (.nx (ε.set i (.sh x))):=by unfold k4;rw [h];rfl
theorem vT (h:f ε=some x):zD i f ε=some (.nx (ε.set i (.ow x))):=by unfold zD;rw [h];rfl
theorem p6 (h:f ε=some x):y4 f ε=some (.rt x):=by unfold y4;rw [h];rfl
theorem v5 {G:PV->PV->Option PV}{r:Option PV}(h1:f ε=some x)(h2:g ε=some y)(h:G x y=r):z0 G f g ε=r:=by unfold z0;rw [h1];show Option.bind (g ε) _=_;rw [h2];exact h
theorem j5 {r:Option PV}(h1:as ε=some xs)(h:m xs=r):x8 m as ε=r:=by unfold x8;rw [h1];exact h
theorem w4 {r:MA}(h1:f ε=some x)(h2:r ε=some xs):q0 f r ε=some (x::xs):=by unfold q0;rw [h1];show Option.bind (r ε) _=_;rw [h2];rfl
theorem qr (h:c ε=some false)(k:b ε=o):i7 c a b ε=o:=by unfold i7;rw [h];exact k
theorem vR {it:MA}(h:it ε=some xs)(k:xq G a xs ε=o):zC it G a ε=o:=by unfold zC;rw [h];exact k
theorem ve (h:as ε=some xs)(hl:xs.length<=lim):qR as ε=some (.lst xs):=by unfold qR;rw [h];show (if _ then _ else _)=_;rw [if_pos hl]
theorem xK (h:as ε=some xs)(hl:xs.length<=lim):qj as ε=some (.tup xs):=by unfold qj;rw [h];show (if _ then _ else _)=_;rw [if_pos hl]
theorem Kx {cap:List (Option Nat)}{it:MA}(h:it ε=some xs)(hc:xF cap ts=true)(hl:xs.length<=lim)(k:qB G c f (c3 cap ε) xs=some ys):g9 cap ts it G c f ε=some (.lst ys):=by unfold g9;rw [h];show (if _ then _ else _)=_;rw [if_pos ⟨hc,hl⟩,k];rfl
end
theorem Zh (h:xs.length+ys.length<=lim):c4 (.lst xs) (.lst ys)=some (.lst (xs++ys)):=by show (if _ then _ else _)=_;rw [if_pos h]
theorem jo {n k:Nat}{b:MS}(hl:xs.length=k)(h:b (xs.map .sh++List.replicate (n-k) .no)=some (.rt y)):xc n k b xs=some y:=by unfold xc;rw [if_pos hl,h];rfl
theorem m6 {n k:Nat}{b:MS}(hl:xs.length=k)(h:b (xs.map .sh++List.replicate (n-k) .no)=some (.rt y)):u4 n k b xs=some y:=by unfold u4;rw [if_pos hl,h];rfl
theorem Zo {f:PV->PV->Option Bool}:∀{xs:List PV},(∀ x∈xs,f x x=some true)->xy f xs xs=some true
 |[],_=>rfl
 |x::xs,h=>by unfold xy;rw [h x yR];show Option.bind (xy f xs xs) _=_;rw [Zo λy hy=>h y (yO _ hy)];rfl
def zS:Nat->PV->Prop
 |_,.at u=>y8 u=true
 |n+1,.lst xs=>∀ x∈xs,zS n x
 |n+1,.tup xs=>∀ x∈xs,zS n x
 |_,_=>False
theorem QX:∀(n:Nat){x:PV},zS n x->peq n x x=some true
 |0,x,h=>by
  cases x with
  |«at» u=>show (if _ then _ else _)=_;rw [if_pos ⟨h,h⟩,Qn h]
  |_=>exact h.elim
 |n+1,x,h=>by
  cases x with
  |«at» u=>show (if _ then _ else _)=_;rw [if_pos ⟨(show y8 u=true from h),h⟩,Qn h]
  |lst xs=>show (if _ then _ else _)=_;rw [if_pos rfl];exact Zo λy hy=>QX n (h y hy)
  |tup xs=>show Option.bind (xy (peq n) xs xs) _=_;rw [Zo λy hy=>QX n (h y hy)];show some (true&&(xs.length==xs.length))=_;rw [beq_self_eq_true];rfl
  |_=>exact h.elim
theorem CI (h:zS 6 x):pEq x x=some (.at (.bl true)):=by unfold pEq;rw [QX 6 h];rfl
theorem wC (h:zS 6 x):pNe x x=some (.at (.bl false)):=by unfold pNe;rw [QX 6 h];rfl
class xo (K:Fg)(C:Addr):Prop where
 c:Cls K C
class NoA (K:Fg)(C:Addr)(f:Str):Prop where
 n:NoAttr K C f
def vi (f:Str):List Str->List PV->Option PV
 |n::ns,x::xs=>if f=n then some x else vi f ns xs
 |_,_=>none
theorem Yu {H:Hp}{f:Str}{y:PV}:∀{fs:List (Str×V)}{xs:List PV},Reps H xs (fs.map (·.2))->vi f (fs.map (·.1)) xs=some y->∃ v,fs.lookup f=some v/\Rep H y v
 |[],xs,r,h=>by cases xs<;>cases h
 |p::fs,xs,r,h=>by
  cases xs with
  |nil=>cases h
  |cons x xs =>
   obtain ⟨v,w,e,p1,p2⟩:=reps_cons.mp r;rw [yM] at e;injection e with e1 e2;subst e1 e2;rw [yM] at h;unfold vi at h;rw [uW];split at h
   ·rename_i hf;cases h;rw [hf,beq_self_eq_true];exact ⟨p.2,rfl,p1⟩
   ·rename_i hf;rw [beq_eq_false_iff_ne.mpr hf];exact Yu p2 h
def xb (C:Addr)(f:Str)(a:M):M:=λε=>(a ε).bind λx=>match x with
 | .ob C' ns xs=>if C'=C then vi f ns xs else none
 |_=>none
theorem Ki {a:M}(h:xb C f a ε=some y):∃ ns xs,a ε=some (.ob C ns xs)/\vi f ns xs=some y:=by
 unfold xb at h;obtain ⟨x,ex,h1⟩:=bind_some h;split at h1
 ·split at h1
  ·rename_i hc;subst hc;exact ⟨_,_,ex,h1⟩
  ·cases h1
 ·cases h1
instance {a:M}[c:xo K C][n:NoA K C f][s:p9 te a]:SemE (tFld K te f) (xb C f a) where
 h:=λe _ _ _ _ _ rs _ q=>by
  obtain ⟨ns,xs,ea,el⟩:=Ki e;refine s.h ea rs λv Hs1 H1 x1 r1=>?_;obtain ⟨p,dx,fs,rfl,hp,hk,hr⟩:=Ur x1.s3 r1;rw [<- hk] at el;obtain ⟨u,hu,ru⟩:=Yu hr el;exact ⟨p,C,dx,fs,u,rfl,hp,c.c,n.n,hu,q u _ _ x1 ru⟩
theorem jF {ta:TE}(hK:X.K=K)(he:PE X e ta)(hb:attributeBase e f X.env (eval e X.env)=eval e X.env:=by rfl):PE X (.Attribute e f pos) (tFld K ta f):=by subst hK;exact CP he hb
structure Mt (P:Program)(w:World)(K:Fg)(mg:Str->Option Value)(base:Heap)(k:Nat)(C:Addr)(m:Str)(ps:List Str)(sp:Sp):Prop where
 ex:∃ f fd,FnOk P w K mg base j8 k f fd ps sp/\vJ K C m f/\Cls K C/\Binds K fd ps []
section
variable {X:Cx}{k j:Nat}{C:Addr}{m:Str}{ps:List Str}{sp:Sp}{o e:Expr}{es:List Expr}{ta:TE}{t:TA}{apos pos:Pos}
theorem Zl (c:Mt X.prog X.w X.K X.mg X.base k C m ps sp)(hr:Room j X.A)(hj:k<=j)(ho:PE X o ta)(ha:PA X (e::es) t)
  (hst:starEach (e::es) X.env=(false,eval e X.env)::starEach es X.env:=by rfl) (hpl:(backTo pos (starEach es X.env)).any (·.1)=false:=by rfl)
  (ht:eval (.Call (.Attribute o m apos) (e::es) [] pos) X.env=(do
   let ov <- eval o X.env
   standAt apos.atName
   let (f,first) <- holding [ov] (getMethod ov m pl)
   callWith pos f first (backTo pos (starEach (e::es) X.env)) (backToKw pos (keywordEach [] X.env))):=by rfl) :
  PE X (.Call (.Attribute o m apos) (e::es) [] pos) (jM C m sp [] E0 ta t):=by
 obtain ⟨f,fd,F,hm,hc,hb⟩:=c.ex;exact CS ho hc hm F (hr.mono hj) hb .nil QT ha hst hpl ht
theorem vz (c:Mt X.prog X.w X.K X.mg X.base k C m ps sp)(hr:Room j X.A)(hj:k<=j)(ho:PE X o ta)
  (ht:eval (.Call (.Attribute o m apos) [] [] pos) X.env=(do
   let ov <- eval o X.env
   standAt apos.atName
   let (f,first) <- holding [ov] (getMethod ov m pl)
   callWith pos f first (backTo pos (starEach [] X.env)) (backToKw pos (keywordEach [] X.env))):=by rfl) :
  PE X (.Call (.Attribute o m apos) [] [] pos) (jM C m sp [] E0 ta c5):=by
 obtain ⟨f,fd,F,hm,hc,hb⟩:=c.ex;exact CT ho hc hm F (hr.mono hj) hb .nil QT ht
end
variable {fr:Bool}
def xw:PV->Option z5
 | .at (.int i)=>some (.inl i)
 | .at (.str x)=>some (.inr x)
 |_=>none
theorem zG {k:z5}(r:RepB Hs H x v)(h:xw x=some k):v=kV k:=by
 unfold xw at h;split at h
 ·cases h;cases u3 r;rfl
 ·cases h;cases u3 r;rfl
 ·cases h
def e9 (k:z5):List z5->List PV->Option PV
 |n::ns,x::xs=>if n=k then some x else e9 k ns xs
 |_,_=>none
theorem Qz {H:Hp}{k:z5}:∀{kvs:List (z5×V)}{xs:List PV},Reps H xs (kvs.map (·.2))->match e9 k (kvs.map (·.1)) xs with
  |some y=>∃ v,o3 kvs k=some v/\Rep H y v
  |none=>o3 kvs k=none
 |[],xs,r=>by
  have hx:xs=[]:=uG.mp r.length.symm;subst hx;rfl
 |p::kvs,xs,r=>by
  cases xs with
  |nil=>have:=r.length;simp at this
  |cons x xs =>
   obtain ⟨v,w,e,p1,p2⟩:=reps_cons.mp r;rw [yM] at e;injection e with e1 e2;subst e1 e2;rw [yM];unfold e9;by_cases hk:p.1=k
   ·rw [if_pos hk];refine ⟨p.2,?_,p1⟩;unfold o3;rw [uP,yg hk];rfl
   ·rw [if_neg hk];have ih:=Qz (k:=k) p2;have ev:o3 (p::kvs) k=o3 kvs k:=by unfold o3;rw [uP,yB hk]
    rw [ev];exact ih
def xa (a b:M):M:=λε=>(a ε).bind λx=>(b ε).bind λy=>(xw y).bind λk=>match x with
 | .dk ks xs=>e9 k ks xs
 | .fk ks xs=>e9 k ks xs
 |_=>none
instance {a b:M}[sa:p9 td a][sb:p9 ty b]:SemE (UK td ty) (xa a b) where
 h:=λe _ _ _ _ _ rs _ q=>by
  obtain ⟨x,ex,e1⟩:=bind_some e;obtain ⟨y,ey,e2⟩:=bind_some e1;obtain ⟨k,ek,e3⟩:=bind_some e2;split at e3
  ·refine sa.h ex rs λv Hs1 H1 x1 r1=>sb.h ey (rs.go x1) λw Hs2 H2 x2 r2=>?_;obtain ⟨p,kvs,rfl,hp,hk,hr⟩:=zU x2.s3 (r1.ext x2);have l:=Qz (k:=k) hr;rw [hk,e3] at l;obtain ⟨u,hu,ru⟩:=l;have ew:=zG r2 ek;subst ew;exact ⟨p,u,rfl,by rw [<- hu];exact DGet.k hp,q u _ _ (x1.trans x2) ru⟩
  ·refine sa.h ex rs λv Hs1 H1 x1 r1=>sb.h ey (rs.go x1) λw Hs2 H2 x2 r2=>?_;obtain ⟨p,o,kvs,rfl,hp,hk,hr⟩:=wL x2.s3 (r1.ext x2);have l:=Qz (k:=k) hr;rw [hk,e3] at l;obtain ⟨u,hu,ru⟩:=l;have ew:=zG r2 ek;subst ew;exact ⟨p,u,rfl,by rw [<- hu];exact .inl ⟨kvs,k,.inr ⟨o,hp⟩,rfl,rfl⟩,q u _ _ (x1.trans x2) ru⟩
  ·cases e3
def dDIn (b a:M):M:=λε=>(b ε).bind λy=>(a ε).bind λx=>(xw y).bind λk=>match x with
 | .dk ks xs=>some (.at (.bl (e9 k ks xs).isSome))
 | .fk ks xs=>some (.at (.bl (e9 k ks xs).isSome))
 |_=>none
def Qj (b a:M):M:=λε=>(b ε).bind λy=>(a ε).bind λx=>(xw y).bind λk=>match x with
 | .dk ks xs=>some (.at (.bl (!(e9 k ks xs).isSome)))
 | .fk ks xs=>some (.at (.bl (!(e9 k ks xs).isSome)))
 |_=>none
theorem vY {k:z5}{kvs:List (z5×V)}(r:Reps H xs (kvs.map (·.2))):(e9 k (kvs.map (·.1)) xs).isSome=(o3 kvs k).isSome:=by
 have l:=Qz (k:=k) r;cases e:e9 k (kvs.map (·.1)) xs with
 |none=>rw [e] at l;rw [show o3 kvs k=none from l];rfl
 |some y=>rw [e] at l;obtain ⟨v,hv,_⟩:=l;rw [hv];rfl
instance {a b:M}[sa:p9 td a][sb:p9 ty b]:SemE (tDIn ty td) (dDIn b a) where
 h:=λe _ _ _ _ _ rs _ q=>by
  obtain ⟨y,ey,e1⟩:=bind_some e;obtain ⟨x,ex,e2⟩:=bind_some e1;obtain ⟨k,ek,e3⟩:=bind_some e2;split at e3
  ·cases e3;refine sb.h ey rs λw Hs1 H1 x1 r1=>sa.h ex (rs.go x1) λv Hs2 H2 x2 r2=>?_;obtain ⟨p,kvs,rfl,hp,hk,hr⟩:=zU x2.s3 r2;have ew:=zG r1 ek;subst ew;exact ⟨p,_,rfl,DGet.k hp,q _ _ _ (x1.trans x2) (rep_at.mpr (by rw [<- hk,vY hr]))⟩
  ·cases e3;refine sb.h ey rs λw Hs1 H1 x1 r1=>sa.h ex (rs.go x1) λv Hs2 H2 x2 r2=>?_;obtain ⟨p,o,kvs,rfl,hp,hk,hr⟩:=wL x2.s3 r2;have ew:=zG r1 ek;subst ew;exact ⟨p,_,rfl,.inl ⟨kvs,_,.inr ⟨o,hp⟩,rfl,rfl⟩,q _ _ _ (x1.trans x2) (rep_at.mpr (by rw [<- hk,vY hr]))⟩
  ·cases e3
instance {a b:M}[sa:p9 td a][sb:p9 ty b]:SemE (UM ty td) (Qj b a) where
 h:=λe _ _ _ _ _ rs _ q=>by
  obtain ⟨y,ey,e1⟩:=bind_some e;obtain ⟨x,ex,e2⟩:=bind_some e1;obtain ⟨k,ek,e3⟩:=bind_some e2;split at e3
  ·cases e3;refine sb.h ey rs λw Hs1 H1 x1 r1=>sa.h ex (rs.go x1) λv Hs2 H2 x2 r2=>?_;obtain ⟨p,kvs,rfl,hp,hk,hr⟩:=zU x2.s3 r2;have ew:=zG r1 ek;subst ew;exact ⟨p,_,rfl,DGet.k hp,q _ _ _ (x1.trans x2) (rep_at.mpr (by rw [<- hk,vY hr]))⟩
  ·cases e3;refine sb.h ey rs λw Hs1 H1 x1 r1=>sa.h ex (rs.go x1) λv Hs2 H2 x2 r2=>?_;obtain ⟨p,o,kvs,rfl,hp,hk,hr⟩:=wL x2.s3 r2;have ew:=zG r1 ek;subst ew;exact ⟨p,_,rfl,.inl ⟨kvs,_,.inr ⟨o,hp⟩,rfl,rfl⟩,q _ _ _ (x1.trans x2) (rep_at.mpr (by rw [<- hk,vY hr]))⟩
  ·cases e3
def WH:M:=λ_=>some (.dk [] [])
instance:qP UL WH where
 h:=λe _ _ _ _ _ rs _ q=>by
  cases e;exact λp hp=>q p _ _ (.newO rs.sub hp) hp (rs.sub.free hp) ⟨[],w9,rfl,.nil⟩
def wK (k:z5)(y:PV):List z5->List PV->List PV
 |n::ns,x::xs=>if n=k then y::wK k y ns xs else x::wK k y ns xs
 |_,xs=>xs
def Xa (k:z5)(y:PV)(ks:List z5)(xs:List PV):PV:=if (e9 k ks xs).isSome=true then .dk ks (wK k y ks xs) else .dk (ks++[k]) (xs++[y])
theorem YS {H:Hp}{k:z5}{y:PV}{v:V}(ry:Rep H y v):∀{kvs:List (z5×V)}{xs:List PV},Reps H xs (kvs.map (·.2))->Reps H (wK k y (kvs.map (·.1)) xs) ((kvs.map (λkv=>if kv.1=k then (kv.1,v) else kv)).map (·.2))/\(kvs.map (λkv=>if kv.1=k then (kv.1,v) else kv)).map (·.1)=kvs.map (·.1)
 |[],xs,r=>by
  have hx:xs=[]:=uG.mp r.length.symm;subst hx;exact ⟨.nil,rfl⟩
 |p::kvs,xs,r=>by
  cases xs with
  |nil=>have:=r.length;simp at this
  |cons x xs =>
   obtain ⟨u,w,e,p1,p2⟩:=reps_cons.mp r;rw [yM] at e;injection e with e1 e2;subst e1 e2;obtain ⟨h1,h2⟩:=YS (k:=k) ry p2;rw [yM,yM,yM,yM];unfold wK;by_cases hk:p.1=k
   ·rw [if_pos hk,if_pos hk];exact ⟨.cons ry h1,by rw [h2]⟩
   ·rw [if_neg hk,if_neg hk];exact ⟨.cons p1 h1,by rw [h2]⟩
def dPut (i:Nat)(kk vv:M):MS:=λε=>(vv ε).bind λy=>(kk ε).bind λx=>(xw x).bind λk=>match ε[i]? with
 |some (.ow (.dk ks xs))=>if ks.length<=lim then some (.nx (ε.set i (.ow (Xa k y ks xs)))) else none
 |_=>none
instance {i:Nat}{kk vv:M}[sk:SemE ty kk][sv:SemE tv vv]:t6 fr (Uw (n8 i) ty tv) (dPut i kk vv) where
 h:=λe _ _ _ _ _ rs _ q=>by
  obtain ⟨y,ey,e1⟩:=bind_some e;obtain ⟨x,ex,e2⟩:=bind_some e1;obtain ⟨k,ek,e3⟩:=bind_some e2;split at e3
  ·rename_i ks xs hi;split at e3
   ·rename_i hl;cases e3;refine sv.h ey rs λv Hs1 H1 x1 r1=>?_;obtain ⟨p,hp,n0,n,t⟩:=(rs.go x1).ow i _ hi;refine ⟨_,hp,sk.h ex (rs.go x1) λw Hs2 H2 x2 r2=>?_⟩;obtain ⟨p',hp',_,n2,kvs,hv,hk,hr⟩:=((rs.go x1).go x2).ow i _ hi;rw [hp] at hp';injection hp' with hp';injection hp' with hp';injection hp' with hp';subst hp';have ew:=zG (.inl r2:RepB Hs2 H2 x w) ek;subst ew;have hlen:kvs.length<=lim:=by rw [<- hk,yZ] at hl;exact hl
    refine ⟨p,_,rfl,DPut.k hv (Qy hlen),q _ _ _ (((rs.go x1).go x2).change hi hp ?_)⟩;have hs:=vY (k:=k) hr;unfold Xa xk;rw [JR,<- hs,hk];by_cases hc:(e9 k ks xs).isSome=true
    ·rw [if_pos hc,if_pos hc];obtain ⟨q1,q2⟩:=YS (k:=k) (r1.mono x2.s1) hr;exact ⟨_,w9,by rw [q2,hk],by rw [<- hk];exact q1⟩
    ·rw [if_neg hc,if_neg hc];exact ⟨_,w9,by rw [yt,hk];rfl,by rw [yt];exact hr.append (.one (r1.mono x2.s1))⟩
   ·cases e3
  ·cases e3
def rLeS:R2:=λx y H Q=>∃ i j,x = .str i/\y = .str j/\Q (.bl (!decide (j.cps.toList<i.cps.toList))) H
theorem YF :OpR X (compareOp .LtE) rLeS:=CD
def pLeS:PV->PV->Option PV
 | .at (.str i),.at (.str j)=>some (.at (.bl (!decide (j.cps.toList<i.cps.toList))))
 |_,_=>none
instance:qD rLeS pLeS where
 h:=λ{x y z} e {Hs H v w} s a b {Q} q=>by
  unfold pLeS at e;split at e
  ·cases e;cases u3 a;cases u3 b;exact ⟨_,_,rfl,rfl,q _ _ _ (.refl s) (rep_at.mpr rfl)⟩
  ·cases e
def wN (z:Str):List PV:=z.cps.toList.map λc=> .at (.str ⟨#[c]⟩)
def dItS (a:M):MA:=λε=>(a ε).bind λx=>match x with
 | .at (.str z)=>some (wN z)
 |_=>none
theorem Bu {z:Str}:zZ (ItS z) (wN z) Hs where
 go:=λi x Hs1 H1 e g1 g2=>by
  unfold wN at e;rw [yP] at e;obtain ⟨c,hc,rfl⟩:=yI.mp e;rw [Array.getElem?_toList] at hc;have hl:i<z.cps.size:=(Array.getElem?_eq_some_iff.mp hc).1;refine ⟨hl,λv H2 y=>?_⟩;obtain ⟨rfl,c',hc',rfl⟩:=y;rw [hc] at hc';cases hc';exact ⟨Hs1,.refl g2,rep_at.mpr rfl⟩
 stop:=λHs1 H1 g1 g2=>by
  show (wN z).length=z.cps.size;unfold wN;rw [yZ,Array.length_toList]
instance {a:M}[sa:SemE te a]:zu (iStr te) (dItS a) where
 h:=λe _ _ _ _ _ rs _ q=>by
  obtain ⟨x,ex,e1⟩:=bind_some e;split at e1
  ·cases e1;exact sa.h ex rs λv Hs1 H1 x1 r1=>⟨_,rep_at.mp r1,q _ _ _ x1 Bu⟩
  ·cases e1
theorem YR {f:Str}{v:V}:∀{fs:List (Str×V)},f∉fs.map (·.1)->qm f v fs=fs++[(f,v)]
 |[],_=>rfl
 |(g,x)::r,h=>by
  rw [yM] at h;unfold qm;rw [if_neg (show ¬ g=f from λz=>h (by rw [<- z];exact yR)),YR λz=>h (yO _ z)];rfl
def Gi (C:Addr)(f:Str)(a:W):WS:=λε N _=>a ε λy ε1=>∃ ns xs,ε1[0]?=some (.ow (.ob C ns xs))/\f∉ns/\ns.length<1000/\N (ε1.set 0 (.ow (.ob C (ns++[f]) (xs++[y]))))
instance [c:xo K C][n:NoA K C f][sa:SemW te a]:SemWS (wM K (n8 0) te f) (Gi C f a) where
 h:=λh _ _ _ _ _ _ rd _ k _=>sa.h h rd λy ε1 v Hs1 H1 h1 rd1 g1 r1=>by
  obtain ⟨ns,xs,he,hf,hl,h2⟩:=h1;obtain ⟨p,hp,h0,hs,dx,fs,hH,hk,hr⟩:=rd1.ow 0 _ he;have hf':f∉fs.map (·.1):=by rw [hk];exact hf
  have hl':fs.length<1000:=by rw [<- yZ (f:=(·.1)),hk];exact hl
  refine ⟨_,hp,p,C,dx,fs,rfl,hH,c.c,n.n,hl',?_⟩;rw [YR hf'];exact k _ _ _ _ h2 (rd1.change he hp ⟨dx,_,w9,by rw [yt,hk];rfl,by rw [yt];exact hr.append (.one r1)⟩) g1
def jY (C:Addr)(nm:Str)(m:List PV->Option PV)(i:Nat)(as:MA):M:=λε=>match ε[i]? with
 |some (.ow (.ob C' ns fs))=>if C'=C/\nm∉ns then (as ε).bind λxs=>(m (.ob C ns fs::xs)).bind λy=>match y with
  | .at u=>some (.at u)
  |_=>none else none
 |_=>none
instance {i:Nat}[sa:qz ta as]:SemE (jM C nm (z7 m) [] E (n8 i) ta) (jY C nm m i as) where
 h:=λ{ε y} e {Hs0 H0 Hs H σ} rs {Q} q=>by
  unfold jY at e;split at e
  ·rename_i C' ns fs hi;split at e
   ·rename_i hc;obtain ⟨rfl,hn⟩:=hc;obtain ⟨xs,ex,e1⟩:=bind_some e;obtain ⟨z,ez,e2⟩:=bind_some e1;split at e2
    ·rename_i u;cases e2;obtain ⟨p,hp,n0,n,dx,gs,hH,hk,hr⟩:=rs.ow i _ hi;refine ⟨_,hp,p,dx,gs,rfl,hH,XV (by rw [hk];exact hn),sa.h ex rs λvs Hs1 H1 x1 r1=>?_⟩;have hH1:=x1.s2 _ _ hH;have n1:Hs1 p=none:=x1.s4 p (by rw [hH];exact λz=>nomatch z) n;have g:Same Hs1 (z6 Hs1 p (.ins C' dx gs)):=λb w e=>by rw [z8 (u7 e n1)];exact e
     refine ⟨z6 Hs1 p (.ins C' dx gs),_,_,?_,?_,ez,λv Hs' H' x r=>?_⟩
     ·intro b w e;by_cases hb:b=p
      ·subst hb;rw [w9] at e;cases e;exact hH1
      ·rw [z8 hb] at e;exact x1.s3 _ _ e
     ·rw [yq];exact .cons (rep_ob.mpr ⟨p,dx,gs,rfl,w9,hk,(hr.mono x1.s1).mono g⟩) (r1.mono g)
     ·cases rep_at.mp r;refine q _ (λb=>if b=p then none else Hs' b) H' (x1.trans ⟨λb w e=>?_,x.s2,λb w e=>?_,λb hb w=>?_⟩) (rep_at.mpr rfl)
      ·rw [if_neg (u7 e n1)];exact x.s1 _ _ (g _ _ e)
      ·split at e
       ·cases e
       ·exact x.s3 _ _ e
      ·by_cases hbp:b=p
       ·rw [if_pos hbp]
       ·rw [if_neg hbp];exact x.s4 b hb (by rw [z8 hbp];exact w)
    ·cases e2
   ·cases e
  ·cases e
def spI (C:Addr)(m:List PV->Option PV):Sp:=λvs H Q _=>∃ Hs x dx xs ws y,vs = .ref x::ws/\Same Hs H/\H x=some (.ins C dx [])/\Hs x=none/\Reps Hs xs ws/\m xs=some y /\
 ∀ Hs' H',Same Hs Hs'->(∀ b o,H b=some o->b≠x->H' b=some o)->Same Hs' H'->(∀ b,H b≠none->b≠x->Hs b=none->Hs' b=none)->Rep Hs' y (.ref x)->Q .non H'
instance {ds:List V}[sa:qz ta as]:SemE (wR C (spI C m) ds E ta) (Xw m ds as) where
 h:=λe _ _ _ _ _ rs _ q=>by
  obtain ⟨xs,ex,e1⟩:=bind_some e;refine sa.h ex rs λvs Hs1 H1 x1 r1=>λx dx hx hdx hne=>?_;have s3:Same Hs1 (z6 (z6 H1 dx (.own x)) x (.ins C dx [])):=λb o e=>by
   have e':=x1.s3 _ _ e;rw [z8 (u7 e' hx),z8 (u7 e' hdx)];exact e'
  refine ⟨Hs1,x,dx,_,_,_,rfl,s3,w9,x1.s3.free hx,r1.append (.ofAts ds),e1,λHs' H' g1 g2 g3 g4 r=>⟨rfl,q _ _ _ (x1.trans ⟨g1,λb o e=>?_,g3,λb hb z=>?_⟩) r⟩⟩
  ·refine g2 b o ?_ (u7 e hx);rw [z8 (u7 e hx),z8 (u7 e hdx)];exact e
  ·have hbx:b≠x:=λw=>hb (by rw [w];exact hx);have hbd:b≠dx:=λw=>hb (by rw [w];exact hdx);exact g4 b (by rw [z8 hbx,z8 hbd];exact hb) hbx z
section
variable {P:Program}{w:World}{K:Fg}{mg:Str->Option Value}{base:Heap}
theorem DE {a:Addr}(s:Same Hs H)(ha:Hs a=none)(t:Top Hs H a y)(r:Reps Hs xs ws):RD [a] Hs H Hs H (L2.start N (.ref a::ws)) (.ow y::xs.map .sh++List.replicate (N.length-(xs.length+1)) .no):=by
 have q:=vC (N:=N) (xs:= .at (.ref a)::xs) s (.cons (rep_at.mpr rfl) r);have tl:∀(i:Nat)(sl:MSlot),(MSlot.ow y::xs.map .sh++List.replicate (N.length-(xs.length+1)) .no)[i+1]?=some sl->((PV.at (.ref a)::xs).map MSlot.sh++List.replicate (N.length-(PV.at (.ref a)::xs).length) .no)[i+1]?=some sl:=λi sl h=>h;refine ⟨.refl _,λb o e _=>e,s,λ_ _ z=>z,λi x h=>?_,λi x h=>?_,λi j x y b h1 h2 _ _=>?_,?_,λb hb=>?_,λb hb=>?_,(λb hb=>⟨_,rfl⟩),λi x h=>by
  cases i with
  |zero=>simp at h
  |succ i=>exact ZB (xs:=PV.at (.ref a)::xs) (tl i _ h)⟩
 ·cases i with
  |zero=>simp at h
  |succ i=>exact q.sh (i+1) x (tl i _ h)
 ·cases i with
  |zero=>simp at h;subst h;exact ⟨a,by unfold L2.start;rfl,.inr (yN.mpr rfl),ha,t⟩
  |succ i=>exact absurd (tl i _ h) (jI (xs:=PV.at (.ref a)::xs))
 ·cases i with
  |zero =>
   cases j with
   |zero=>rfl
   |succ j=>exact absurd (tl j _ h2) (jI (xs:=PV.at (.ref a)::xs))
  |succ i=>exact absurd (tl i _ h1) (jI (xs:=PV.at (.ref a)::xs))
 ·exact q.len
 ·rw [yN.mp hb];unfold L2.start;rfl
 ·rw [yN.mp hb];exact t.there
end
variable {fr:Bool}
structure ItOkB (J:It)(xs:List PV)(Hs H:Hp):Prop where
 go:∀(i:Nat)(x:PV)(Hs1 H1:Hp),xs[i]?=some x->Same Hs Hs1->Same H H1->Same Hs1 H1->J.go i H1/\∀ v H2,J.yld i H1 v H2->∃ Hs2,Ext Hs1 H1 Hs2 H2/\Rep Hs2 x v
 stop:∀(Hs1 H1:Hp),Same Hs Hs1->Same H H1->Same Hs1 H1->J.stop xs.length H1
class Va (ti:TI)(f:MA):Prop where
 h:∀{ε xs},f ε=some xs->∀{Hs0 H0 Hs H σ},RS Hs0 H0 Hs H σ ε->∀{R:It->Hp->Prop},(∀ J Hs' H',Ext Hs H Hs' H'->ItOkB J xs Hs' H'->R J H')->ti σ H R
instance {a:M}[sa:p9 te a]:Va (Qs K te) (u5 a) where
 h:=λe _ _ _ _ _ rs _ q=>by
  obtain ⟨x,ex,e1⟩:=bind_some e;split at e1
  ·cases e1;refine sa.h ex rs λv Hs1 H1 x1 r1=>?_;obtain ⟨p,vs,rfl,hp,r⟩:=m9 x1.s3 r1;refine ⟨p,rfl,⟨vs,SqL.of hp⟩,q _ _ _ x1 ⟨λi x Hs2 H2 ei g1 g2 g3=>?_,λHs2 H2 g1 g2 g3=>⟨vs,SqL.of (g2 _ _ hp),by rw [r.length];exact yU _⟩⟩⟩;obtain ⟨v,ev,rv⟩:=r.get ei;refine ⟨⟨vs,v,SqL.of (g2 _ _ hp),ev⟩,λw H3 y=>?_⟩;obtain ⟨rfl,y⟩:=y;have z:=y vs (SqL.of (g2 _ _ hp));rw [ev] at z;cases z;exact ⟨Hs2,.refl g3,rv.mono g1⟩
  ·cases e1
def vN (cap:List (Option Nat))(ts:List Nat)(i:MA)(g:MG)(c:MB)(f:M):M:=λε=>(i ε).bind λxs=>if xF cap ts=true/\xs.length<=lim then (qB g c f (c3 cap ε) xs).bind λys=>some (.lst ys) else none
instance {cap:List (Option Nat)}{i:MA}{f:M}[si:Va wi i][sg:je tg ts g][sc:qo tt c][sf:SemE te f]:qP (wQ wi tg tt te cap) (vN cap ts i g c f) where
 h:=λe Hs0 H0 Hs H σ rs Q q=>by
  obtain ⟨xs,ex,e1⟩:=bind_some e;split at e1
  ·rename_i hcl;obtain ⟨hcap,hl⟩:=hcl;unfold xF at hcap;rw [uX] at hcap;obtain ⟨ys,ey,e2⟩:=bind_some e1;cases e2;refine si.h ex rs λJ Hs1 H1 x1 ok=>?_;have rc:=((rs.go x1).cap (uR hcap.1)).rebase;have wk:∀ i∈ts,(k7 cap σ)[i]?=some none:=λi hi=>by
    unfold k7;rw [yP,uR (uU.mp hcap.2 i hi)];rfl
   refine ⟨λk m zs H=>m=xs.length-k/\k<=xs.length/\∃ Hs2 ws,Ext Hs1 H1 Hs2 H/\RS Hs1 H0 Hs2 H (k7 cap σ) (c3 cap _)/\Reps Hs2 ws zs/\ws.length<=k/\∃ rest,qB g c f (c3 cap _) (xs.drop k)=some rest/\ys=ws++rest,
    ⟨xs.length,by simp,ye _,Hs1,[],.refl x1.s3,rc,.nil,yU _,ys,ey,rfl⟩,?_⟩
   rintro k m zs H2 ⟨rfl,hk,Hs2,ws,x2,r2,rz,hw,rest,er,eys⟩;refine ⟨qp (by rw [rz.length];omega),?_⟩;by_cases hlt:k<xs.length
   ·have hd:xs.drop k=xs[k]::xs.drop (k+1):=uY hlt;rw [hd] at er;unfold qB at er;obtain ⟨ε1,eg,er1⟩:=bind_some er;obtain ⟨b,eb,er2⟩:=bind_some er1;obtain ⟨go,yl⟩:=ok.go k xs[k] Hs2 H2 (by simp [hlt]) x2.s1 x2.s2 x2.s3;refine .inr ⟨go,λv H3 y=>?_⟩;obtain ⟨Hs3,x3,r3⟩:=yl v H3 y;refine sg.h eg (r2.go x3) r3 λσ2 rs2 bt=>⟨bt.wk wk,sc.h eb rs2 λHs4 H4 x4=>?_⟩;cases b with
    |true =>
     rw [if_pos rfl] at er2;obtain ⟨z,ez,er3⟩:=bind_some er2;obtain ⟨rest',er4,er5⟩:=bind_some er3;cases er5;refine xu (sf.h ez (rs2.go x4) λu Hs5 H5 x5 r5=>⟨xs.length-(k+1),by omega,rfl,hlt,Hs5,ws++[z],x2.trans (x3.trans (x4.trans x5)),((r2.go x3).go x4).go x5,?_,?_,rest',er4,?_⟩)
     ·exact (rz.mono (x3.s1.trans (x4.s1.trans x5.s1))).snoc r5
     ·rw [yQ];simp;omega
     ·rw [yb];exact eys
    |false=>rw [if_neg yT] at er2;exact xt ⟨xs.length-(k+1),by omega,rfl,hlt,Hs4,ws,x2.trans (x3.trans x4),(r2.go x3).go x4,rz.mono (x3.s1.trans x4.s1),by omega,rest,er2,eys⟩
   ·have ek:k=xs.length:=by omega
    subst ek;rw [uk] at er;unfold qB at er;cases er;refine .inl ⟨ok.stop Hs2 H2 x2.s1 x2.s2 x2.s3,λD hD=>?_⟩;rw [yq] at eys;subst eys;have x12:=x1.trans x2;exact q D Hs2 _ (x12.trans (.newO x2.s3 hD)) (x12.s2.free hD) (x2.s3.free hD) ⟨zs,w9,rz⟩
  ·cases e1
section
variable {ε:ME}{c d:MB}{f:M}{a b:WS}{N:ME->Prop}{R:PV->ME->Prop}
theorem zr (h:c ε=some false)(k:b ε N R):qN (wPT c) a b ε N R:=by
 refine ⟨false,h,?_⟩;show if false=true then a ε N R else b ε N R
 rw [if_neg yT];exact k
theorem Xg (h:c ε=some true)(k:a ε N R):qN (wPT c) a b ε N R:=by
 refine ⟨true,h,?_⟩;show if true=true then a ε N R else b ε N R
 rw [if_pos rfl];exact k
theorem xH (h1:c ε=some false)(h2:d ε=some false):dOr c d ε=some false:=by unfold dOr;rw [h1];show (if false=true then some true else d ε)=_;rw [if_neg yT];exact h2
theorem WE {v:Bool}(h1:c ε=some true)(h2:d ε=some v):vM c d ε=some v:=by unfold vM;rw [h1];show (if true=true then d ε else some false)=_;rw [if_pos rfl];exact h2
theorem o8 (h:c ε=some true):m4 c ε=some false:=by unfold m4;rw [h];rfl
theorem qi {v:Bool}(h:f ε=some (.at (.bl v))):m5 f ε=some v:=by unfold m5;rw [h];rfl
theorem t9 {v:Bool}(h:f ε=some (.at (.bl v))):dT f ε=some v:=by unfold dT;rw [h];rfl
theorem XL :p7 [.lst xs,.at (.ty "list")]=some (.at (.bl true)):=by unfold p7 tyP;simp only [yy,Le]
end
variable {fr:Bool}
theorem Xv {g:MG}{f:M}{ε0:ME}{α:Type}(F G:α->PV):∀(l:List α),(∀ a∈l,∃ ε1,g (F a) ε0=some ε1/\f ε1=some (G a))->qB g u6 f ε0 (l.map F)=some (l.map G)
 |[],_=>rfl
 |a::l,h=>by
  obtain ⟨ε1,e1,e2⟩:=h a yR;have ih:=Xv F G l λb hb=>h b (yO _ hb);show Option.bind (g (F a) ε0) (λε1=>Option.bind (u6 ε1) λb=>if b=true then (f ε1).bind λy=>(qB g u6 f ε0 (l.map F)).bind λys=>some (y::ys) else qB g u6 f ε0 (l.map F))=_;rw [e1,ih];show (if true=true then (f ε1).bind λy=>some (y::l.map G) else some (l.map G))=_;rw [if_pos rfl,e2];rfl
theorem c8 {cap:List (Option Nat)}{it:MA}{f:M}(F G:α->PV)(l:List α)(h:it ε=some (l.map F))(hc:xF cap ts=true)(hl:l.length<=lim)(k:∀ a∈l,∃ ε1,g (F a) (c3 cap ε)=some ε1/\f ε1=some (G a)):g9 cap ts it g u6 f ε=some (.lst (l.map G)):=Kx h hc (by rw [yZ];exact hl) (Xv F G l k)
theorem vj {g:MG}{f:MS}{α:Type}(F:α->PV)(I:List α->ME->Prop)(h:∀ a l ε,I (a::l) ε->∃ ε1 ε2,g (F a) ε=some ε1/\f ε1=some (.nx ε2)/\I l ε2):∀(l:List α)(ε:ME),I l ε->∃ ε',xq g f (l.map F) ε=some (.nx ε')/\I [] ε'
 |[],ε,i=>⟨ε,rfl,i⟩
 |a::l,ε,i=>by
  obtain ⟨ε1,ε2,e1,e2,i2⟩:=h a l ε i;obtain ⟨ε',e3,i3⟩:=vj F I h l ε2 i2;refine ⟨ε',?_,i3⟩;show Option.bind (g (F a) ε) (λε1=>Option.bind (f ε1) λo=>match o with
   | .nx ε2=>xq g f (l.map F) ε2
   | .ct ε2=>xq g f (l.map F) ε2
   | .bk ε2=>some (.nx ε2)
   | .rt y=>some (.rt y))=_
  rw [e1,yy,e2];exact e3
section
variable {ε:ME}{a b:M}{v w:Bool}
theorem xY (h1:a ε=some (.at (.bl true)))(h2:b ε=some (.at (.bl w))):qH a b ε=some (.at (.bl w)):=by unfold qH;rw [h1];exact h2
theorem KA (h1:a ε=some (.at (.bl v))):jZ a ε=some (.at (.bl (!v))):=by unfold jZ;rw [h1];rfl
theorem WU (h:c ε=some true)(k:a ε=some x):dIf c a b ε=some x:=by unfold dIf;rw [h];exact k
theorem XC (h:c ε=some false)(k:b ε=some x):dIf c a b ε=some x:=by unfold dIf;rw [h];exact k
theorem XB {g g':PV->PV->Option PV}{c:M}{z:PV}{r:Bool}(h1:a ε=some x)(h2:b ε=some y)(h3:g x y=some (.at (.bl true)))(h4:c ε=some z)(h5:g' y z=some (.at (.bl r))):jk g g' a b c ε=some (.at (.bl r)):=by unfold jk;rw [h1,yy,h2,yy,h3];show Option.bind (c ε) _=_;rw [h4];exact h5
theorem Qp (h:a ε=some x):zB a ε=some (.nx ε):=by unfold zB;rw [h];rfl
theorem Kv (h:a ε=some x)(k:G x ε=some ε'):dAsg G a ε=some (.nx ε'):=by unfold dAsg;rw [h,yy,k];rfl
theorem qt:o9 ε=some (.nx ε):=rfl
theorem zF (h:a ε=some (.lst xs)):u5 a ε=some xs:=by unfold u5;rw [h];rfl
theorem jn (h:a ε=some (.ob C ns xs))(k:vi f ns xs=some y):xb C f a ε=some y:=by unfold xb;rw [h,yy];show (if C=C then _ else _)=_;rw [if_pos rfl];exact k
theorem jp {fs:List PV}{y:Option PV}(h:a ε=some (.ob C ns fs))(hn:nm∉ns)(k:as ε=some xs)(e:m (.ob C ns fs::xs)=y):qI C nm m a as ε=y:=by unfold qI;rw [h,yy];show (if C=C/\nm∉ns then _ else _)=_;rw [if_pos ⟨rfl,hn⟩,k];exact e
theorem Qq {n k:Nat}{bd:MS}(hl:xs.length=k)(h:bd (xs.map .sh++List.replicate (n-k) .no)=some (.nx ε')):u4 n k bd xs=some (.at .non):=by unfold u4;rw [if_pos hl,h];rfl
theorem Bm :p7 [.at (.int n),.at (.ty "int")]=some (.at (.bl true)):=by unfold p7 tyP;simp only [yy,Ld]
theorem Bn :p7 [.at (.int n),.at (.ty "bool")]=some (.at (.bl false)):=by unfold p7 tyP;simp only [yy,Lc]
theorem Yh {n:Str}:p7 [.at (.str n),.at (.ty "str")]=some (.at (.bl true)):=by unfold p7 tyP;simp only [yy,Lf]
theorem Bo {n:List PV}:p7 [.tup n,.at (.ty "tuple")]=some (.at (.bl true)):=by unfold p7 tyP;simp only [yy,Lg]
theorem Wi:∀ bs:List Bool,bls (bs.map λb=> .at (.bl b))=some bs
 |[]=>rfl
 |b::bs=>by
  have ih:=Wi bs;rw [yM];unfold bls;rw [ih];rfl
theorem Qu:∀ bs:List Int,xr (bs.map λb=> .at (.int b))=some bs
 |[]=>rfl
 |b::bs=>by
  have ih:=Qu bs;rw [yM];unfold xr;rw [ih];rfl
theorem Gu (bs:List Bool):qV [.lst (bs.map λb=> .at (.bl b))]=some (.at (.bl (bs.all id))):=by show (bls _).bind _=_;rw [Wi];rfl
theorem UI (bs:List Int):jE [.lst (bs.map λb=> .at (.int b))]=some (.at (.int bs.sum)):=by show (xr _).bind _=_;rw [Qu];rfl
theorem zw (l:List α):qV [.lst (l.map λ_=> .at (.bl true))]=some (.at (.bl true)):=by
 have e:(l.map λ_=>PV.at (.bl true))=((l.map λ_=>true).map λb=>PV.at (.bl b)):=by rw [yC];rfl
 rw [e,Gu];have:(l.map λ_=>true).all id=true:=by simp
 rw [this]
end
def zi:List Int->Int
 |[]=>0
 |x::l=>l.foldl (λb y=>if y<b then y else b) x
theorem Zb (l:List Int):∀ b:Int,l.foldl (λb y=>if y<b then y else b) b<=b/\(∀ y∈l,l.foldl (λb y=>if y<b then y else b) b<=y)/\(l.foldl (λb y=>if y<b then y else b) b=b∨l.foldl (λb y=>if y<b then y else b) b∈l):=by
 induction l with
 |nil=>intro b;exact ⟨uJ _,(λ_ z=>nomatch z),.inl rfl⟩
 |cons x l ih =>
  intro b;rw [List.foldl_cons];obtain ⟨h1,h2,h3⟩:=ih (if x<b then x else b);have hx:(if x<b then x else b)<=b/\(if x<b then x else b)<=x:=by split<;>omega
  refine ⟨by omega,λy hy=>?_,?_⟩
  ·rcases yK.mp hy with rfl|hy
   ·omega
   ·exact h2 y hy
  ·rcases h3 with h3|h3
   ·rw [h3];by_cases hc:x<b
    ·rw [if_pos hc];exact .inr yR
    ·rw [if_neg hc];exact .inl rfl
   ·exact .inr (yO _ h3)
theorem ww (h:l≠[]):zi l∈l:=by
 cases l with
 |nil=>exact absurd rfl h
 |cons x l =>
  rcases (Zb l x).2.2 with e|e
  ·show l.foldl _ x∈_;rw [e];exact yR
  ·exact yO _ e
theorem vq {y:Int}(h:y∈l):zi l<=y:=by
 cases l with
 |nil=>cases h
 |cons x l =>
  rcases yK.mp h with rfl|h
  ·exact (Zb l y).1
  ·exact (Zb l x).2.1 y h
def jz (l:List Int):Int:=-zi (l.map λx=>-x)
theorem XZ (h:l≠[]):jz l∈l:=by have:=ww (l:=l.map λx=>-x) (by cases l with|nil=>exact absurd rfl h|cons x l=>simp);obtain ⟨x,hx,e⟩:=yA.mp this;unfold jz;rw [<- e,Int.neg_neg];exact hx
theorem XY {y:Int}(h:y∈l):y<=jz l:=by have:=vq (l:=l.map λx=>-x) (y:=-y) (yA.mpr ⟨y,h,rfl⟩);unfold jz;omega
def QS:List PV->Option PV
 |[.lst xs]=>(xr xs).bind λns=>if ns=[] then none else some (.at (.int (zi ns)))
 |_=>none
instance :jd (Ub K) QS where
 h:=λ{xs z} e {Hs H vs} s r {Q} q=>by
  unfold QS at e;split at e
  ·obtain ⟨ns,eb,e1⟩:=bind_some e;split at e1
   ·cases e1
   ·rename_i hne;cases e1;obtain ⟨v,rfl,a⟩:=qM r;obtain ⟨p,ws,rfl,e1,r1⟩:=m9 s a;rw [Qt eb,show (ns.map λb=>PV.at (.int b))=(ns.map V.int).map .at by rw [yC];rfl] at r1;cases r1.ats;refine ⟨p,ns,rfl,SqL.of e1,hne,λm m1 m2=>?_⟩;have em:m=zi ns:=Int.le_antisymm (m2 _ (ww hne)) (vq m1);subst em;exact q _ _ _ (.refl s) (rep_at.mpr rfl)
  ·cases e
def leS (a b:Str):Bool:=!decide (b.cps.toList<a.cps.toList)
def zo (ss:List Str):List Str:=ss.mergeSort leS
theorem JD (ss:List Str):(zo ss).Perm ss:=List.mergeSort_perm ss leS
theorem MI (ss:List Str):Qb (zo ss):=by
 have:=List.pairwise_mergeSort (le:=leS) (λa b c h1 h2=>by
  unfold leS at h1 h2 ⊢;simp only [Bool.not_eq_true',decide_eq_false_iff_not] at h1 h2 ⊢;exact List.not_lt.mpr (List.le_trans (List.not_lt.mp h1) (List.not_lt.mp h2))) (λa b=>by
  unfold leS;by_cases h:b.cps.toList<a.cps.toList
  ·have h2:¬ (a.cps.toList<b.cps.toList):=λk=>List.lt_irrefl _ (List.lt_trans h k);simp [h2]
  ·simp [h]) ss
 exact this.imp λh=>by unfold leS at h;simpa using h
theorem JC {ss ss':List Str}(p:ss'.Perm ss)(u:Qb ss'):ss'=zo ss :=
 List.Perm.eq_of_pairwise (λa b _ _ h1 h2=>by
  have e:=List.le_antisymm (List.not_lt.mp h1) (List.not_lt.mp h2);cases a;cases b;simp only [Str.mk.injEq];exact Array.toList_inj.mp e) u (MI ss) (p.trans (JD ss).symm)
def zW:List PV->Option (List Str)
 |[]=>some []
 | .at (.str s)::xs=>(zW xs).map (s::·)
 |_::_=>none
theorem JF:∀{xs:List PV}{ss:List Str},zW xs=some ss->xs=ss.map λs=> .at (.str s)
 |[],_,h=>by cases h;rfl
 |x::xs,ss,h=>by
  unfold zW at h;split at h
  ·rename_i e;cases e
  ·rename_i s' xs' e;injection e with e1 e2;subst e1 e2;obtain ⟨r,hr,rfl⟩:=yI.mp h;rw [JF hr];rfl
  ·cases h
def zH:List z5->Option (List Str)
 |[]=>some []
 | .inr s::xs=>(zH xs).map (s::·)
 |_::_=>none
theorem XQ:∀{xs:List z5}{ss:List Str},zH xs=some ss->xs=ss.map Sum.inr
 |[],_,h=>by cases h;rfl
 |x::xs,ss,h=>by
  unfold zH at h;split at h
  ·rename_i e;cases e
  ·rename_i s' xs' e;injection e with e1 e2;subst e1 e2;obtain ⟨r,hr,rfl⟩:=yI.mp h;rw [XQ hr];rfl
  ·cases h
def Zj:List PV->Option PV
 |[.lst xs]=>(zW xs).bind λss=>if ss.length<64 then some (.lst ((zo ss).map λs=> .at (.str s))) else none
 |[.dk ks _]=>(zH ks).bind λss=>if ss.length<64 then some (.lst ((zo ss).map λs=> .at (.str s))) else none
 |[.fk ks _]=>(zH ks).bind λss=>if ss.length<64 then some (.lst ((zo ss).map λs=> .at (.str s))) else none
 |_=>none
theorem Zz (ss:List Str):Reps H (ss.map λs=> .at (.str s)) (ss.map V.str):=by have:=Reps.ofAts (H:=H) (ss.map V.str);rwa [yC] at this
instance :Xi (Uf K) Zj where
 h:=λ{xs z} e {Hs H vs} s r {Q} q=>by
  unfold Zj at e;split at e
  ·obtain ⟨ss,eb,e1⟩:=bind_some e;split at e1
   ·rename_i hl;cases e1;obtain ⟨v,rfl,a⟩:=qM r;obtain ⟨p,ws,rfl,e1,r1⟩:=m9 s a;rw [JF eb,show (ss.map λb=>PV.at (.str b))=(ss.map V.str).map .at by rw [yC];rfl] at r1;cases r1.ats;refine ⟨p,ss,rfl,.inl (SqL.of e1),hl,λl ss' hn p1 p2=>?_⟩;rw [JC p1 p2];exact q l _ _ (.newO s hn) hn (s.free hn) ⟨_,w9,Zz _⟩
   ·cases e1
  ·obtain ⟨ss,eb,e1⟩:=bind_some e;split at e1
   ·rename_i hl;cases e1;obtain ⟨v,rfl,a⟩:=qM r;obtain ⟨p,kvs,rfl,hp,hk,hr⟩:=zU s a;refine ⟨p,ss,rfl,.inr ⟨kvs,.inl hp,by rw [hk,XQ eb]⟩,hl,λl ss' hn p1 p2=>?_⟩;rw [JC p1 p2];exact q l _ _ (.newO s hn) hn (s.free hn) ⟨_,w9,Zz _⟩
   ·cases e1
  ·obtain ⟨ss,eb,e1⟩:=bind_some e;split at e1
   ·rename_i hl;cases e1;obtain ⟨v,rfl,a⟩:=qM r;obtain ⟨p,o,kvs,rfl,hp,hk,hr⟩:=wL s a;refine ⟨p,ss,rfl,.inr ⟨kvs,.inr ⟨o,hp⟩,by rw [hk,XQ eb]⟩,hl,λl ss' hn p1 p2=>?_⟩;rw [JC p1 p2];exact q l _ _ (.newO s hn) hn (s.free hn) ⟨_,w9,Zz _⟩
   ·cases e1
  ·cases e
def Ue (K:Fg):List V->Hp->VK->Prop:=λxs H Q=>∃(a:Addr)(ss:List Str),xs=[.ref a]/\SqL K H a (ss.map V.str)/\ss.length<=1000 /\
  ∀ l,H l=none->Q (.ref l) (z6 H l (jg (b7 (λi=>(Sum.inr (ss.getD i ⟨#[]⟩):z5)) ss.length).length l))
theorem GZ (hc:X.calm=true)(h:X.K=K):CallR X (.type "set") (Ue K):=by subst h;exact Ka hc
def XX (ss:List Str):Nat:=(b7 (λi=>(Sum.inr (ss.getD i ⟨#[]⟩):z5)) ss.length).length
def YZ:List V->Hp->VK->Prop:=λxs H Q=>∃(a:Addr)(n:Nat),xs=[.ref a]/\H a=some (jg n a)/\Q (.int n) H
theorem GT :CallR X (.builtin "len") YZ:=GS
def WF (a:M):M:=λε=>(a ε).bind λx=>match x with
 | .lst xs=>(zW xs).bind λss=>if ss.length<=1000 then some (.at (.int (XX ss))) else none
 |_=>none
instance {a:M}[sa:p9 te a]:SemE (tCB YZ (p8 (tCB (Ue K) (p8 te c5)) c5)) (WF a) where
 h:=λe _ _ _ _ _ rs _ q=>by
  obtain ⟨x,ex,e1⟩:=bind_some e;split at e1
  ·obtain ⟨ss,eb,e2⟩:=bind_some e1;split at e2
   ·rename_i hl;cases e2;refine sa.h ex rs λv Hs1 H1 x1 r1=>?_;obtain ⟨p,ws,rfl,ep,r2⟩:=m9 x1.s3 r1;rw [JF eb,show (ss.map λb=>PV.at (.str b))=(ss.map V.str).map .at by rw [yC];rfl] at r2;cases r2.ats;refine ⟨p,ss,rfl,SqL.of ep,hl,λl hn=>⟨l,_,rfl,w9,q _ _ _ (x1.trans (.newO x1.s3 hn)) (rep_at.mpr rfl)⟩⟩
   ·cases e2
  ·cases e1
structure Mkr (P:Program)(w:World)(K:Fg)(mg:Str->Option Value)(base:Heap)(k:Nat)(C:Addr)(ps:List Str)(sp:Sp):Prop where
 ex:∃ f fd,FnOk P w K mg base j8 k f fd ps sp/\Mk K C f/\Binds K fd ps []
theorem pe_mk {k j:Nat}{x:Str}{p:Pos}{es:List Expr}{t:TA}(c:Mkr X.prog X.w X.K X.mg X.base k C ps sp)(hr:Room j X.A)(hj:k+1<=j)(hg:Gl X x)(hm:X.mg x=some (.ref C))(ha:PA X (e::es) t)(hdb:(x==("__debug__":Str))=false:=by decide)(he:starEach (e::es) X.env=(false,eval e X.env)::starEach es X.env:=by rfl)(hpl:(backTo pos (starEach es X.env)).any (·.1)=false:=by rfl):PE X (.Call (.Name x p) (e::es) [] pos) (wR C sp [] E0 t):=by obtain ⟨f,fd,F,hm',hb⟩:=c.ex;exact CQ hm' F (hr.mono hj) hg hm hb .nil QT ha hdb he hpl
instance (priority:=1100)[sa:qz ta as]:SemE (wR C (spI C m) [] E ta) (x8 m as) where
 h:=λ{ε y} e=>SemE.h (te:=wR C (spI C m) [] E ta) (f:=Xw m [] as) (by
  unfold Xw;unfold x8 at e;simpa using e)
structure FunD (K:Fg)(x qual:Str)(st:Stmt)(f:Addr)(fd:FuncData):Prop where
 ex:∃(oc:Value)(od:Option Addr)(dV kV doc pm:Value)(an:Option Addr)(cdv ct:Value)(osl:Array (Option Value)),
  fd=PySem.W.fnOf x qual (qS st) (i0 st) (j6 st) dV kV doc pm an cdv ct/\K.lookup f=some ⟨oc,od,.func fd,osl⟩/\PySem.W.codeIn K cdv qual=true
 kp:PySem.W.keepIn K (.ref f)=true
section
variable {P:Program}{w:World}{K:Fg}{mg:Str->Option Value}{base:Heap}
theorem FunD.ok {x:Str}{f:Addr}{k:Nat}(F:FunD K x qual st f fd)(S:v7 N ps (j6 st))(len:∀ vs H Q E,sp vs H Q E->vs.length=ps.length)(hbody:∀(cdv:Value)(A:Around)(outer:List Env)(s:Shared)(H:Hp)(vs:List V)(Q:VK)(E:XK),Room k (A.deeper (PyProof.Rows.envOfC qual (j6 st) s.heap.objs.size f cdv))->sp vs H Q E -> ∃ t,PSs (qG j8 P w K mg base N qual (j6 st) f cdv A outer s H E).nox (i0 st) t/\t { nx:=λ_ H'=>Q .non H',rt:=Q } (L2.start N vs) H):FnOk P w K mg base j8 (k+1) f fd ps sp:=by obtain ⟨oc,od,dV,kV,doc,pm,an,cdv,ct,osl,rfl,lk,hcd⟩:=F.ex;refine WZ lk hcd S len λA outer s H vs Q E hr hsp=>?_;obtain ⟨t,h,q⟩:=hbody cdv A outer s H vs Q E hr hsp;exact ⟨t,h.nox,q⟩
theorem KJ {x:Str}{f:Addr}{oc:Value}{od an:Option Addr}{osl:Array (Option Value)}{dV kV doc pm cdv ct:Value}(l:K.lookup f=some ⟨oc,od,.func (PySem.W.fnOf x qual (qS st) (i0 st) (j6 st) dV kV doc pm an cdv ct),osl⟩)(c:PySem.W.codeIn K cdv qual=true)(k:PySem.W.keepIn K (.ref f)=true):FunD K x qual st f (PySem.W.fnOf x qual (qS st) (i0 st) (j6 st) dV kV doc pm an cdv ct):=⟨⟨oc,od,dV,kV,doc,pm,an,cdv,ct,osl,rfl,l,c⟩,k⟩
theorem wJ {o value:Expr}{ta:TE}{pos':Pos}(hK:X.K=K)(ha:PE X o ta)(hv:PE X value tv)(hs:swapsWith value (some (.Attribute o f pos')) pos.line X.env=pure false:=by rfl):PS X (.Assign [.Attribute o f pos'] value pos) (wM K ta tv f):=by subst hK;exact Dm ha hv hs
theorem okI' {x:Str}{f:Addr}{k:Nat}(F:FunD K x qual st f fd)(S:v7 N ps (j6 st))(hm:∀ xs y,m xs=some y->xs.length+1=ps.length)(hb:∀(cdv:Value)(A:Around)(outer:List Env)(s:Shared)(H:Hp)(E:XK),Room k (A.deeper (PyProof.Rows.envOfC qual (j6 st) s.heap.objs.size f cdv)) -> ∃ t,PSs (qG j8 P w K mg base N qual (j6 st) f cdv A outer s H E).nox (i0 st) t/\SemWS t b)(hw:∀ xs y,m xs=some y->b (.ow (.ob C [] [])::xs.map .sh++List.replicate (N.length-(xs.length+1)) .no) (λε=>ε[0]?=some (.ow y)) λ_ _=>False):FnOk P w K mg base j8 (k+1) f fd ps (spI C m):=by
 refine F.ok S (λvs H Q E h=>?_) (λcdv A outer s H vs Q E hr h=>?_)
 ·obtain ⟨Hs,x,dx,xs,ws,y,rfl,_,_,_,r,e,_⟩:=h;rw [yz,r.length];exact hm xs y e
 ·obtain ⟨Hs,x,dx,xs,ws,y,rfl,sm,hx,hs,r,e,q⟩:=h;obtain ⟨t,ht,sem⟩:=hb cdv A outer s H E hr;refine ⟨t,ht,sem.h (hw xs y e) (DE sm hs ⟨dx,[],hx,rfl,.nil⟩ r) (λε σ Hs' H' z rd g=>?_) λ_ _ _ _ _ _ z _ _ _=>z.elim⟩;obtain ⟨a,ha,_,n,tp⟩:=rd.ow 0 y z;rw [rd.pin x (yN.mpr rfl)] at ha;injection ha with ha;injection ha with ha;injection ha with ha;subst ha;obtain ⟨o,ho,ro⟩:=tp.rep n;have g2:Same Hs' (z6 Hs' x o):=λb u e=>by rw [z8 (u7 e n)];exact e
  refine q (z6 Hs' x o) H' (g.trans g2) (λb u e hb=>rd.s2 b u e λw=>hb (yN.mp w)) (λb u e=>?_) (λb hb hbx w=>?_) ro
  ·by_cases hbx:b=x
   ·subst hbx;rw [w9] at e;cases e;exact ho
   ·rw [z8 hbx] at e;exact rd.s3 _ _ e
  ·rw [z8 hbx];exact rd.s4 b hb w
end
def xJ (C:Addr)(f:Str)(a:M):MS:=λε=>(a ε).bind λy=>match (ε[0]?:Option MSlot) with
 |some (.ow (.ob C' ns xs))=>if C'=C/\f∉ns/\ns.length<1000 then some (.nx (ε.set 0 (.ow (.ob C (ns++[f]) (xs++[y]))))) else none
 |_=>none
def wPN (f:MS):WS:=λε N _=>∃ ε',f ε=some (.nx ε')/\N ε'
theorem Kj {a:M}{o:Out}(h:xJ C f a ε=some o):∃ y ns xs,a ε=some y/\ε[0]?=some (.ow (.ob C ns xs))/\f∉ns/\ns.length<1000/\o = .nx (ε.set 0 (.ow (.ob C (ns++[f]) (xs++[y])))):=by
 unfold xJ at h;obtain ⟨y,ey,h1⟩:=bind_some h;split at h1
 ·rename_i C' ns xs he;split at h1
  ·rename_i hc;cases h1;obtain ⟨rfl,h2,h3⟩:=hc;exact ⟨y,ns,xs,ey,he,h2,h3,rfl⟩
  ·cases h1
 ·cases h1
instance {a:M}[c:xo K C][n:NoA K C f][sa:SemE te a]:SemWS (wM K (n8 0) te f) (wPN (xJ C f a)) where
 h:=λ{ε N R} h=>by
  obtain ⟨ε',e,h1⟩:=h;obtain ⟨y,ns,xs,ey,he,h2,h3,e4⟩:=Kj e;injection e4 with e4;subst e4;exact SemWS.h (ts:=wM K (n8 0) te f) (w:=Gi C f (wP a)) ⟨y,ey,ns,xs,he,h2,h3,h1⟩
instance {a:M}[sa:SemE te a]:SemWS (jL te) (wPN (zB a)) where
 h:=λ{ε N R} h=>by
  obtain ⟨ε',e,h1⟩:=h;obtain ⟨y,ey,e2⟩:=bind_some e;cases e2;exact SemWS.h (ts:=jL te) (w:=Gg (wP a)) ⟨y,ey,h1⟩
instance Mz {a b:MS}[sa:SemWS t (wPN a)][sb:SemWS u (wPN b)]:SemWS (tSeq t u) (wPN (v8 a b)) where
 h:=λ{ε N R} h S Hs0 H0 Hs H σ rd D k rt=>by
  obtain ⟨ε',e,h1⟩:=h;obtain ⟨o1,e1,e2⟩:=bind_some e;refine SemWS.h (ts:=tSeq t u) (w:=wSeq (wPN a) (wPN b)) (ε:=ε) (N:=N) (R:=R) ?_ rd k rt;cases o1 with
  |nx ε1=>exact ⟨ε1,e1,ε',e2,h1⟩
  |rt y=>cases e2
  |bk ε1=>cases e2
  |ct ε1=>cases e2
def vO (n k:Nat)(C:Addr)(f:MS):List PV->Option PV:=λxs=>if xs.length+1=k then (f (.ow (.ob C [] [])::xs.map .sh++List.replicate (n-k) .no)).bind λo=>match o with
 | .nx ε=>(match (ε[0]?:Option MSlot) with
  |some (.ow y)=>some y
  |_=>none)
 |_=>none else none
theorem okID {P:Program}{w:World}{mg:Str->Option Value}{base:Heap}{x:Str}{f:Addr}{k:Nat}{b:MS}(F:FunD K x qual st f fd)(S:v7 N ps (j6 st))(hm:m=vO N.length ps.length C b)(hb:∀(cdv:Value)(A:Around)(outer:List Env)(s:Shared)(H:Hp)(E:XK),Room k (A.deeper (PyProof.Rows.envOfC qual (j6 st) s.heap.objs.size f cdv)) -> ∃ t,PSs (qG j8 P w K mg base N qual (j6 st) f cdv A outer s H E).nox (i0 st) t/\SemWS t (wPN b)):FnOk P w K mg base j8 (k+1) f fd ps (spI C m):=by
 subst hm;refine okI' F S (λxs y e=>?_) hb (λxs y e=>?_)
 ·unfold vO at e;split at e
  ·rename_i hl;exact hl
  ·cases e
 ·unfold vO at e;split at e
  ·rename_i hl;obtain ⟨o,eo,e1⟩:=bind_some e;rw [hl];cases o with
   |nx ε =>
    refine ⟨ε,eo,?_⟩;have e2:(match (ε[0]?:Option MSlot) with
     |some (.ow y)=>some y
     |_=>none)=some y:=e1
    show ε[0]?=some (.ow y);split at e2
    ·rename_i z hz;cases e2;exact hz
    ·cases e2
   |rt z=>cases e1
   |bk z=>cases e1
   |ct z=>cases e1
  ·cases e
def vP (a:M):M:=λε=>(a ε).bind λx=>match x with
 | .lst xs=>(xr xs).bind λns=>if ns=[] then some (.at .non) else some (.at (.int (jz ns)))
 |_=>none
instance {a:M}[sa:p9 te a]:SemE (UN K (p8 te c5)) (vP a) where
 h:=λe _ _ _ _ _ rs _ q=>by
  obtain ⟨x,ex,e1⟩:=bind_some e;split at e1
  ·obtain ⟨ns,eb,e2⟩:=bind_some e1;refine sa.h ex rs λv Hs1 H1 x1 r1=>?_;obtain ⟨p,ws,rfl,ep,r2⟩:=m9 x1.s3 r1;rw [Qt eb,show (ns.map λb=>PV.at (.int b))=(ns.map V.int).map .at by rw [yC];rfl] at r2;cases r2.ats;refine ⟨p,ns,rfl,SqL.of ep,λhn=>?_,λhn m m1 m2=>?_⟩
   ·rw [if_pos hn] at e2;cases e2;exact q _ _ _ x1 (rep_at.mpr rfl)
   ·rw [if_neg hn] at e2;cases e2;have em:m=jz ns:=Int.le_antisymm (XY m1) (m2 _ (XZ hn));subst em;exact q _ _ _ x1 (rep_at.mpr rfl)
  ·cases e1
def xA:List PV->Option (List (z5×PV))
 |[]=>some []
 | .tup [k,v]::xs=>(xw k).bind λkk=>(xA xs).map ((kk,v)::·)
 |_::_=>none
def zO:List PV->Option PV
 |[.lst xs]=>(xA xs).bind λps=>if (ps.map (·.1)).Nodup/\ps.length<=1000 then some (.fk (ps.map (·.1)) (ps.map (·.2))) else none
 |_=>none
theorem YM {Hs H:Hp}(s:Same Hs H):∀{xs:List PV}{ps:List (z5×PV)}{vs:List V},xA xs=some ps->Reps Hs xs vs->∃(ts:List Addr)(kvs:List (z5×V)),vs=ts.map V.ref/\Paired (λt (kv:z5×V)=>H t=some (.tup [kV kv.1,kv.2])) ts kvs/\kvs.map (·.1)=ps.map (·.1)/\Reps Hs (ps.map (·.2)) (kvs.map (·.2))
 |[],ps,vs,h,r=>by
  cases h;cases reps_nil.mp r;exact ⟨[],[],rfl,.nil,rfl,.nil⟩
 |x::xs,ps,vs,h,r=>by
  unfold xA at h;split at h
  ·rename_i e;cases e
  ·rename_i k v xs' e;injection e with e1 e2;subst e1 e2;obtain ⟨kk,ek,h1⟩:=bind_some h;obtain ⟨ps',hp,rfl⟩:=yI.mp h1;obtain ⟨w,ws,rfl,r1,r2⟩:=reps_cons.mp r;obtain ⟨t,us,rfl,ht,ru⟩:=rep_tup.mp r1;obtain ⟨u1,us1,rfl,p1,p2⟩:=reps_cons.mp ru;obtain ⟨u2,us2,rfl,p3,p4⟩:=reps_cons.mp p2;cases reps_nil.mp p4;have ew:=zG (H:=H) (.inl p1) ek;subst ew;obtain ⟨ts,kvs,rfl,q1,q2,q3⟩:=YM s hp r2;exact ⟨t::ts,(kk,u2)::kvs,rfl,.cons (s _ _ ht) q1,by rw [yM,yM,q2],.cons p3 q3⟩
  ·cases h
instance:jd YY zO where
 h:=λ{xs z} e {Hs H vs} s r {Q} q=>by
  unfold zO at e;split at e
  ·obtain ⟨ps,eb,e1⟩:=bind_some e;split at e1
   ·rename_i hl;cases e1;obtain ⟨v,rfl,a⟩:=qM r;obtain ⟨p,ws,rfl,ep,r1⟩:=m9 s a;obtain ⟨ts,kvs,rfl,q1,q2,q3⟩:=YM s eb r1;have hk:kvs.length=ps.length:=by have:=congrArg List.length q2;rwa [yZ,yZ] at this
    refine ⟨p,ts,kvs,rfl,ep,q1,by rw [q2];exact hl.1,by omega,λl o hn=>?_⟩;exact q _ _ _ (.new s hn) (rep_fk.mpr ⟨l,o,kvs,rfl,w9,q2,q3.mono (Ext.new s hn).s1⟩)
   ·cases e1
  ·cases e
end Mi
namespace Mi
open PySem PySem.Spec PyProof.Rows L2
variable{ε:ME}{f:M}{ts:List Nat}{it:MA}
variable {fr:Bool}
section
variable {P:Program}{w:World}{K:Fg}{mg:Str->Option Value}{base:Heap}
theorem Ky {cap:List (Option Nat)}{G:MG}{c:MB}{xs ys:List PV}(h:it ε=some xs)(hc:xF cap ts=true)(hl:xs.length<=lim)(k:qB G c f (c3 cap ε) xs=some ys):vN cap ts it G c f ε=some (.lst ys):=by unfold vN;rw [h];show (if _ then _ else _)=_;rw [if_pos ⟨hc,hl⟩,k];rfl
theorem Kw {cap:List (Option Nat)}{g:MG}{α:Type}(F G:α->PV)(l:List α)(h:it ε=some (l.map F))(hc:xF cap ts=true)(hl:l.length<=lim)(k:∀ a∈l,∃ ε1,g (F a) (c3 cap ε)=some ε1/\f ε1=some (G a)):vN cap ts it g u6 f ε=some (.lst (l.map G)):=Ky h hc (by rw [yZ];exact hl) (Xv F G l k)
end
end Mi
namespace L2
open PySem PySem.Spec PyProof.Rows
section
variable {P:Program}{w:World}{K:Fg}{mg:Str->Option Value}{base:Heap}{A:Around}{outer:List Env}{s:Shared}{H:Hp}{f c':Addr}{pm ctv:Value}{params:Arguments}{body:Expr}{scope:Scope}{qual:Str}{clos:List (Str×Addr)}{ps fr:List Str}
 {us:List Value} {vs cv:List V} {t:TE} {Q:VK} {E:XK}
end
end L2
namespace Mi
open PySem L2
variable {fr:Bool}
def pRep:PV->PV->Option PV
 | .lst xs,.at (.int k)=>if -(lim:Int)<=k/\k<=lim/\xs.length*k.toNat<=lim then some (.lst (List.replicate k.toNat xs).flatten) else none
 |_,_=>none
theorem Reps.rep {H:Hp}{xs:List PV}{vs:List V}(r:Reps H xs vs):∀ k:Nat,Reps H (List.replicate k xs).flatten (List.replicate k vs).flatten
 |0=> .nil
 |k+1=>by
  rw [uO,uO,ym,ym];exact r.append (Reps.rep r k)
instance:Vb rRep pRep where
 h:=λ{x y z} e {Hs H v w} s a b {Q} q=>by
  unfold pRep at e;split at e
  ·split at e
   ·rename_i xs k hl;cases e;obtain ⟨p,vs,rfl,e1,r1⟩:=m9 s a;cases u3 b;have hlim:(lim:Int)=1000000:=rfl;exact ⟨p,k,vs,rfl,rfl,e1,by omega,by omega,qp (by rw [r1.length];exact hl.2.2),λl hl=>q l _ _ (.newO s hl) hl (s.free hl) ⟨_,w9,r1.rep _⟩⟩
   ·cases e
  ·cases e
end Mi
namespace L2
open PySem PySem.Spec PySem.Calls PyProof.Rows
def rSlU (K:Fg):V->Option Int->Option Int->Hp->VK->Prop:=λx lo hi H Q=>∃(a:Addr)(xs:List V)(n:Nat),x = .ref a/\SqT K H a xs/\lo=some (n:Int)/\hi=none/\1<=n/\n<=xs.length/\∀ p,H p=none->Q (.ref p) (z6 H p (.tup (xs.drop n)))
theorem MH {X:Cx}{K:Fg}(h:X.K=K):SlR X (rSlU K):=by subst h;intro pins s σ H x v vl vu lo hi sl Q I rx hs pl pu h;obtain ⟨a,xs,n,rfl,hx,rfl,rfl,h1,h2,q⟩:=h;cases rx;cases pl;cases pu;obtain ⟨its,r,ht,hz⟩:=I.tuple hx;have hlen:=r.length;refine ⟨"tuple",_,slot_tuple_getitem.lookup,ht.typeIs,?_⟩;refine getItem_tuple_from ht hs h1 (by rw [yY];omega) ?_ (by rw [yY];omega);refine ⟨.ref s.heap.objs.size,_,I.laid (t':=s.toks) (o:= .tup (xs.drop n)) (λb ob q=>yX _ q) (yU _) ?_,rfl,q _ (I.hok.fresh (yU _))⟩;exact ⟨by rw [ul];omega,_,r.drop n,⟨_,yG _ rfl,rfl,_,rfl⟩⟩
end L2
namespace Mi
open PySem L2
variable{l u:ME->Option (Option Int)}
def dSlT (a:M)(l u:ME->Option (Option Int)):M:=λε=>(a ε).bind λx=>(l ε).bind λlo=>(u ε).bind λhi=>match x,lo,hi with
 | .tup xs,some i,none=>if 1<=i/\i.toNat<=xs.length then some (.tup (xs.drop i.toNat)) else none
 |_,_,_=>none
theorem KB {f:M}{ε:ME}{xs:List PV}{i:Int}(h1:f ε=some (.tup xs))(h2:l ε=some (some i))(h3:u ε=some none)(h4:1<=i/\i.toNat<=xs.length):dSlT f l u ε=some (.tup (xs.drop i.toNat)):=by unfold dSlT;rw [h1];show Option.bind (l ε) _=_;rw [h2];show Option.bind (u ε) _=_;rw [h3];exact if_pos h4
instance {K:Fg}{te:TE}{tl th:TO}{a:M}[sa:p9 te a][sl:SemP tl l][su:SemP th u]:SemE (tSl (rSlU K) te tl th) (dSlT a l u) where
 h:=λe _ _ _ _ _ rs _ q=>by
  obtain ⟨x,ex,e1⟩:=bind_some e;obtain ⟨lo,el,e2⟩:=bind_some e1;obtain ⟨hi,eu,e3⟩:=bind_some e2;split at e3
  ·split at e3
   ·rename_i xs i hl;cases e3;refine sa.h ex rs λv Hs1 H1 x1 r1=>sl.h el (rs.go x1) λHs2 H2 x2=>su.h eu ((rs.go x1).go x2) λHs3 H3 x3=>?_;have x13:=x1.trans (x2.trans x3);obtain ⟨p,vs,rfl,e1,r⟩:=qv x3.s3 ((r1.ext x2).ext x3);have hn:vs.length=xs.length:=r.length;refine ⟨p,vs,i.toNat,rfl,SqT.of e1,by congr 1;omega,rfl,by omega,by omega,λd hd=>q _ _ _ (x13.trans (.new x3.s3 hd)) (rep_tup.mpr ⟨d,_,rfl,w9,(r.mono (Ext.new x3.s3 hd).s1).drop _⟩)⟩
   ·cases e3
  ·cases e3
end Mi
namespace L2
open PySem PySem.Spec PySem.Calls PyProof.Rows
variable{x:Str}{e:Expr}{te:TE}{p pos:Pos}{es:List Expr}{t:TA}{h0:Heap}
section
variable {X:Cx}{K:Fg}
theorem y0 {N P:List Str}{sc:Scope}(h1:sc.kind = .function:=by rfl)(h2:sc.isCoroutine=false:=by rfl)(h3:sc.isGenerator=false:=by rfl)(h4:N.Nodup:=by decide +kernel)(h5:N.take P.length=P:=by rfl)(h6:∀ x∈P,sc.names.lookup x=some .local∨sc.names.lookup x=some .cell:=by decide +kernel)(h7:∀ y∈sc.names,y.2 ≠ .free:=by decide +kernel):v7 N P sc:=⟨h1,h2,h3,h4,h5,h6,h7⟩
theorem sW (i:Nat){pos':Pos}(hN:X.N.Nodup)(he:PE X e te)(hi:X.N[i]?=some x:=by rfl)(hx:Loc X.env.scope x:=by first|exact Or.inl rfl|exact Or.inr rfl)(hs:swapsWith e (some (.Name x pos')) pos.line X.env=pure false:=by rfl)(hf:X.fn x=true∨X.env.scope.names.lookup x=some .local:=by first|exact .inl rfl|exact .inr rfl):PS X (.Assign [.Name x pos'] e pos) (xU te (e7 i)):=i5 hN hi hx he hs hf
theorem aW (ha:PE X e te)(hs:starEach [e] X.env=(false,eval e X.env)::starEach [] X.env:=by rfl):PA X [e] (p8 te c5):=j7 ha y1 hs
theorem aC (ha:PE X e te)(hr:PA X es t)(hs:starEach (e::es) X.env=(false,eval e X.env)::starEach es X.env:=by rfl):PA X (e::es) (p8 te t):=j7 ha hr hs
theorem iW {a b:Expr}{ta tb:TE}(hK:X.K=K)(ha:PE X a ta)(hb:PE X b tb)(hs:JZ b:=by exact λ_ _=>rfl):PE X (.Subscript a b pos) (tOp (rIx K) ta tb):=QV (Bx hK) ha hb hs
end
section
variable {X:Cx}{K:Fg}
theorem fW {ps:List Str}{sp:Sp}{k j:Nat}(c:Fn X.prog X.w X.K X.mg X.base k x ps sp)(hr:Room j X.A)(ha:PA X (e::es) t)(hj:k<=j:=by decide)(hg:Gl X x:=by rfl)(hdb:(x==("__debug__":Str))=false:=by decide)(he:starEach (e::es) X.env=(false,eval e X.env)::starEach es X.env:=by rfl)(hpl:(backTo pos (starEach es X.env)).any (·.1)=false:=by rfl):PE X (.Call (.Name x p) (e::es) [] pos) (xV sp [] E0 t):=i4 c hr hj hg ha hdb he hpl
theorem gW (i:Nat)(hN:X.N.Nodup)(hi:X.N[i]?=some x:=by rfl)(hx:Loc X.env.scope x:=by first|exact Or.inl rfl|exact Or.inr rfl)(hf:X.fn x=true∨X.env.scope.names.lookup x=some .local:=by first|exact .inl rfl|exact .inr rfl):PG X (.Name x pos) (e7 i):=g7 hN hi hx hf
end
section
variable {P:Program}{w:World}{A:Around}{R:Result->Shared->Prop}{I S:Addr}{fp wr:List Addr}{n:Nat}{Pp:Nat->Value->Prop}{St:Nat->Heap->Prop}
theorem Kf (W:Walks P w A.in1 I fp wr n Pp St)(its:Nat->List Value)(hSf:S∉fp)(lo:h0.objs.size<=S)(hw:∀ b∈wr,h0.get? b=none)(lv:∀ i h,St i h->∀ b∈wr,b<h.objs.size)(hv:∀ i v,Pp i v->∃ b c,v = .ref b/\IsL h0 b (its i).toArray c):∀ (m i:Nat) (s:Shared) (t c ct:Nat) (acc:List Value),n-i=m->i<=n->St i s.heap->(∀ b o,h0.get? b=some o->s.heap.get? b=some o) -> s.heap.get? S=some { cls:= .type "list",dict:=none,data:= .seq #[.ref t] c,slots:=#[] }->IsL s.heap t acc.toArray ct->t∉wr->t≠S->h0.objs.size<=t -> acc.length+((List.range' i (n-i)).flatMap its).length<=sizeLine -> (∀ h' tk t' c',(∀ b o,h0.get? b=some o->h'.get? b=some o)->IsL h' t' (acc++(List.range' i (n-i)).flatMap its).toArray c'->h0.objs.size<=t'->R (.ok (.ret (.ref t'))) { s with heap:=h',toks:=tk }) -> codeAny (model P w) A (.builtin "sum.loop" ⟨[.ref I,.ref S,rawInt 2,rawInt 0],[]⟩) R s:=by
 have hSw:S∉wr:=λz=>hSf (W.sub _ z);have new:∀ b o,h0.get? b=some o->b≠S:=λb o e z=>yc _ (yE (z▸yS e) lo);intro m
 induction m with
 |zero =>
  intro i s t c ct acc hm hi st k0 hS ht tw tS lt sz hR;have hin:i=n:=by omega
  subst hin;refine codeAny_builtin PySem.F.entry_sum_loop ?_;rw [Around.under_plainId PySem.F.plain_sum_loop _];show wpAny _ A.in1 (seqItems? (.ref S) >>= _) _ _ s;refine yW (wpAny_seqItems hS rfl ?_);show wpAny _ A.in1 (tryCatch (pyNext (.ref I)) _ >>= _) _ _ s;refine yW (wpAny_tryCatch (W.done s _ _ st λh' tk kk=>?_));refine yJ (hR h' tk t ct (λb o e=>kk b o (λz=>by rw [hw b z] at e;cases e) (k0 b o e)) ?_ lt);rw [Nat.sub_self];simp only [List.range'_zero,List.flatMap_nil,yq];exact kk t _ tw ht
 |succ m ih =>
  intro i s t c ct acc hm hi st k0 hS ht tw tS lt sz hR;have hlt:i<n:=by omega
  have er:List.range' i (n-i)=i::List.range' (i+1) (n-(i+1)):=by rw [show n-i=(n-(i+1))+1 by omega];rfl
  rw [er,List.flatMap_cons] at sz hR;rw [yQ] at sz;refine codeAny_builtin PySem.F.entry_sum_loop ?_;rw [Around.under_plainId PySem.F.plain_sum_loop _];show wpAny _ A.in1 (seqItems? (.ref S) >>= _) _ _ s;refine yW (wpAny_seqItems hS rfl ?_);show wpAny _ A.in1 (tryCatch (pyNext (.ref I)) _ >>= _) _ _ s;refine yW (wpAny_tryCatch (W.item i s _ _ hlt st λv h' tk hP st' kk=>?_));obtain ⟨b,cb,rfl,hb⟩:=hv i v hP;have hS':=kk S _ hSw hS;have ht':=kk t _ tw ht;have k1:∀ b o,h0.get? b=some o->h'.get? b=some o:=λb o e=>kk b o (λz=>by rw [hw b z] at e;cases e) (k0 b o e);show wpAny _ A.in1 ((holding [Value.ref b] (binaryOp .Add (.ref t) (.ref b))).attempt >>= _) _ _ _;refine yW (wpAny_attempt (wpAny_holding (PySem.P.add_list ht' (k1 _ _ hb) ?_ (by rw [yY,yY];omega))));have hS1:=yX { cls:= .type "list",data:= .seq (acc.toArray++(its i).toArray) } hS';show wpAny _ A.in1 (updateSeq S (λ_=>#[Value.ref h'.objs.size]) >>= _) _ _ _;refine yW (wpAny_updateSeq hS1 rfl ?_);have hS2:=uD (Obj.mapSeq λ_=>#[Value.ref h'.objs.size]) hS1 rfl;refine yW (wpAny_letGo ?_);have ne:h'.objs.size≠S:=Nat.ne_of_gt (yS hS');have hlo:h0.objs.size<=h'.objs.size:=uV (Nat.lt_of_le_of_lt lo (yS hS'));have oth:∀ b o,b≠S->h'.get? b=some o->(((h'.push { cls:= .type "list",data:= .seq (acc.toArray++(its i).toArray) }).update S (Obj.mapSeq λ_=>#[Value.ref h'.objs.size])).update S (Obj.mapSeq λ_=>#[Value.ref h'.objs.size])).get? b=some o:=λb o nb e=>by
   rw [yi _ _ (Ne.symm nb),yi _ _ (Ne.symm nb)];exact yX _ e
  refine yW (wpAny_updateSeq hS2 rfl (yJ ⟨plainId_quiet PySem.F.plain_sum_loop _,ih (i+1) _ h'.objs.size _ 0 (acc++its i) (by omega) hlt (W.frame _ _ _ st' λb z o e=>oth b o (λq=>hSf (q▸z)) e) (λb o e=>oth b o (new b o e) (k1 b o e)) (uD _ hS2 rfl) ?_ (λz=>yc _ (lv _ _ st' _ z)) ne hlo (by rw [yQ];omega) λh2 tk2 t2 c2 k2 l2 lo2=>?_⟩))
  ·show (((h'.push { cls:= .type "list",data:= .seq (acc.toArray++(its i).toArray) }).update S _).update S _).get? h'.objs.size=_;rw [yi _ _ (Ne.symm ne),yi _ _ (Ne.symm ne),yG _ rfl,List.append_toArray]
  ·rw [yb] at l2;exact hR h2 tk2 t2 c2 k2 l2 lo2
end
section
variable {P:Program}{w:World}{A:Around}{E:Value->Shared->Prop}{s:Shared}{l z:Addr}{bs:List Addr}
theorem Gw (v u:Value):argsOk "sum" ⟨[v],[(Str.ofString "start",u)]⟩:=by unfold argsOk;kernel_rfl
theorem GM (u:Value):Builtin.Builtins.bindParams "sum" ["start"] 0 ⟨[],[(Str.ofString "start",u)]⟩=pure [some u]:=by kernel_rfl
theorem KF:∀(its:List (List Value)),(List.range' 0 its.length).flatMap (λi=>its.getD i [])=its.flatten:=λits=>by
 have go:∀(m i:Nat),its.length-i=m->i<=its.length->(List.range' i m).flatMap (λi=>its.getD i [])=(its.drop i).flatten:=by
  intro m
  induction m with
  |zero=>intro i h hi;rw [List.drop_of_length_le (by omega)];rfl
  |succ m ih =>
   intro i h hi;have hl:i<its.length:=by omega
   rw [List.range'_succ,List.flatMap_cons,ih (i+1) (by omega) hl,uY hl,ym,yF,yV hl];rfl
 exact go its.length 0 rfl (ye _)
theorem MP:isSubtype (.type "list") (.type "bytearray")=pure false:=by rw [isSubtype_type];kernel_rfl
theorem MQ {Q:Value->Shared->Prop}{its:List (List Value)}{cz:Nat}(hh:A.handled=none)(k0:∀ b o,h0.get? b=some o->s.heap.get? b=some o)(hl:s.heap.IsList l (bs.map Value.ref).toArray)(hz:IsL s.heap z #[] cz)(lz:h0.objs.size<=z)(hb:∀ (i:Nat) (b:Addr),bs[i]?=some b->∃ c,IsL h0 b (its.getD i []).toArray c)(el:its.length=bs.length)(sz:its.flatten.length<=sizeLine)(h:∀ h' tk t' c',(∀ b o,h0.get? b=some o->h'.get? b=some o)->IsL h' t' its.flatten.toArray c'->h0.objs.size<=t'->Q (.ref t') { s with heap:=h',toks:=tk }):wpAny (model P w) A (call (.builtin "sum") [.ref l] [(Str.ofString "start",Value.ref z)]) Q E s:=by
 have hTz:s.TypeIs (.ref z) "list":=⟨_,hz,rfl⟩;refine kmb_tree PySem.F.kind_sum PySem.F.plain_sum PySem.F.entry_sum (Gw _ _) ?_;show wpAny _ A.in1 (Builtin.Builtins.bindParams "sum" ["start"] 0 ⟨[],[(Str.ofString "start",Value.ref z)]⟩ >>= _) _ _ s;refine yW (wpAny_of_eq (GM _) ?_);have hlt:l<s.heap.objs.size:=by obtain ⟨_,e,_⟩:=hl;exact yS e
 refine yW (wpAny_pyIter_list hl ?_);refine yW (yJ ?_);have hz1:=yX { cls:= .type "list_iterator",data:= .fields #[.ref l,.int 0 0] } hz;have hT1:Shared.TypeIs { s with heap:=s.heap.push { cls:= .type "list_iterator",data:= .fields #[.ref l,.int 0 0] } } (.ref z) "list":=⟨_,hz1,rfl⟩;simp only [List.forIn_cons,List.forIn_nil];refine yW (yW (yW (wpAny_isInstance (b:=false) hT1 PySem.F.sub_list_str ?_)));simp only [uL,if_false];refine yJ (yW (yW (wpAny_isInstance (b:=false) hT1 PySem.F.sub_list_bytes ?_)));simp only [uL,if_false];refine yJ (yW (yW (wpAny_isInstance (b:=false) hT1 MP ?_)));simp only [uL,if_false];refine yJ (yJ (yW (wpAny_newObj_type ?_)));have hI:l≠s.heap.objs.size:=yL hlt;have hlo:h0.objs.size<=s.heap.objs.size:=yf lz (uV (yS hz));have zz:z<s.heap.objs.size:=yS hz;have sp:(s.heap.push { cls:= .type "list_iterator",data:= .fields #[.ref l,.int 0 0] }).objs.size=s.heap.objs.size+1:=uS _ _;have en:(bs.map Value.ref).toArray.size=its.length:=by rw [yY,yZ,el]
 have ef:(List.range' 0 ((bs.map Value.ref).toArray.size-0)).flatMap (λi=>its.getD i [])=its.flatten:=by rw [en];exact KF its
 refine yJ ⟨plainId_quiet PySem.F.plain_sum_loop _,Kf (h0:=h0) (S:=(s.heap.push { cls:= .type "list_iterator",data:= .fields #[.ref l,.int 0 0] }).objs.size) (Walks.list (A:=A.in1) hh s.heap.objs.size l hI (bs.map Value.ref).toArray) (λi=>its.getD i []) (λq=>?_) (by rw [sp];exact Nat.le_succ_of_le hlo) (λb hb=>?_) (λi h st b hb=>?_) (λi v hv=>?_) _ 0 _ z _ cz [] rfl (ye _) ⟨⟨_,yX _ (yG _ rfl),rfl,rfl⟩,(hl.push _).push _⟩ (λb o e=>yX _ (yX _ (k0 b o e))) (yG _ rfl) (yX _ hz1) (λq=>?_) (λq=>?_) lz (by rw [ef];simpa using sz) λh' tk t' c' k l' lo'=>?_⟩
 ·rcases yK.mp q with q|q
  ·rw [sp] at q;exact absurd q (Nat.succ_ne_self _)
  ·have q:=yN.mp q;rw [sp] at q;exact yc _ (Nat.lt_trans (uF _) (q▸hlt))
 ·rw [yN.mp hb];exact Heap.get?_none_of_le hlo
 ·rw [yN.mp hb];obtain ⟨⟨o,e,_⟩,_⟩:=st;exact yS e
 ·rw [List.getElem?_toArray,yP] at hv;obtain ⟨b,e1,rfl⟩:=yI.mp hv;obtain ⟨c,e2⟩:=hb i b e1;exact ⟨b,c,rfl,e2⟩
 ·exact yc _ (yN.mp q▸zz)
 ·rw [sp] at q;exact yc _ (Nat.lt_trans (uF _) (q▸zz))
 ·rw [ef,List.nil_append] at l';exact h h' tk t' c' k l' lo'
end
section
variable {X:Cx}
theorem Um:∀{bs:List Addr}{us:List Value},Vals (bs.map V.ref) us->us=bs.map Value.ref
 |[],us,r=>by cases r;rfl
 |b::bs,us,r=>by
  cases r with
  |cons r1 r2=>rw [Um r2,show _=Value.ref b from r1];rfl
theorem Yt {pins:List (Addr×Obj)}{σ:St}{H:Hp}{s:Shared}(I:Inv X pins σ H s):∀{bs:List Addr}{xss:List (List V)},xss.length=bs.length->(∀(i:Nat)(b:Addr),bs[i]?=some b->H b=some (.lst (xss.getD i []))) -> ∃ iss:List (List Value),iss.length=bs.length/\Vals xss.flatten iss.flatten/\∀(i:Nat)(b:Addr),bs[i]?=some b->∃ c,IsL s.heap b (iss.getD i []).toArray c
 |[],[],_,_=>⟨[],rfl,.nil,λi b z=>by simp at z⟩
 |b::bs,xs::xss,hl,h=>by
  obtain ⟨iss,e1,e2,e3⟩:=Yt I (bs:=bs) (xss:=xss) (by simpa using hl) λi b e=>h (i+1) b e;obtain ⟨z,its,n,r,hz,e⟩:=I.lstM (h 0 b rfl);refine ⟨its::iss,by simp [e1],r.append e2,λi b' q=>?_⟩;cases i with
  |zero=>cases q;exact ⟨n,e⟩
  |succ i=>exact e3 i b' q
def US (K:Fg)(t:TA):TE:=λσ H Q=>t σ H λvs H1=>∃(a:Addr)(bs:List Addr)(xss:List (List V)),vs=[.ref a]/\SqL K H1 a (bs.map V.ref)/\(∀(i:Nat)(b:Addr),bs[i]?=some b->H1 b=some (.lst (xss.getD i [])))/\xss.length=bs.length/\xss.flatten.length<=sizeLine/\∀ p,H1 p=none->Q (.ref p) (z6 H1 p (.lst xss.flatten))
theorem CV {K:Fg}{kp lp:Pos}(hK:X.K=K)(hc:X.calm=true)(hg:Gl X "sum")(hm:X.mg "sum"=none)(ha:PA X [e] t)(hs:backTo pos (starEach [e] X.env)=(false,eval e X.env)::backTo pos (starEach [] X.env):=by rfl)(hpl:(backTo pos (starEach [e] X.env)).any (·.1)=false:=by rfl):PE X (.Call (.Name "sum" p) [e] [⟨some "start",.List [] lp,kp⟩] pos) (US K t):=by subst hK;intro pins s σ H Q I h;refine wpAny_Call_Name_kw (ze I hg hm Qg ?_ (by decide) (by decide));refine PyProof.Rows.callWith_kw (z9 (ha pos pins s σ H _ I h) λus s1 ⟨vs,H1,I1,r1,q1⟩=>?_) hs hpl;refine PyProof.Rows.kws_cons (wpAny_List_spliced ?_);obtain ⟨a,bs,xss,rfl,hq,hb,el,sz,q⟩:=q1;obtain ⟨u,rfl,ru⟩:=qY r1;obtain rfl:u=Value.ref a:=ru;obtain ⟨its,rv,pl,hz⟩:=I1.list hq;have ei:its=bs.map Value.ref:=Um rv;subst ei;obtain ⟨iss,e1,e2,e3⟩:=Yt I1 el hb;have hl:s1.heap.IsList a (bs.map Value.ref).toArray:=pl.isList;refine Calls.spliced_nil ⟨ye _,PyProof.Rows.kws_nil ?_⟩;show wpAny _ _ (call (.builtin "sum") [.ref a] [(Str.ofString "start",Value.ref s1.heap.objs.size)]) _ _ _;refine MQ (its:=iss) (bs:=bs) (h0:=s1.heap) (cz:=0) (I1.ok.hd hc) (λb o e=>yX _ e) (hl.push _) (yG _ rfl) (yU _) e3 e1 (by rw [<- e2.length];exact sz) λh' tk t' c' k l' lo'=>?_;exact ⟨.ref t',_,I1.laid (o:= .lst xss.flatten) (t':=tk) k lo' ⟨sz,_,c',e2,l'⟩,rfl,q t' (I1.hok.fresh lo')⟩
end
end L2
namespace Mi
open PySem L2
variable{a:M}
def zI:List PV->Option (List (List PV))
 |[]=>some []
 | .lst ys::xs=>(zI xs).map (ys::·)
 |_::_=>none
theorem Yz {Hs:Hp}:∀{xs:List PV}{yss:List (List PV)}{ws:List V},zI xs=some yss->Reps Hs xs ws->∃(bs:List Addr)(xss:List (List V)),ws=bs.map V.ref/\xss.length=bs.length/\(∀(i:Nat)(b:Addr),bs[i]?=some b->Hs b=some (.lst (xss.getD i [])))/\Reps Hs yss.flatten xss.flatten
 |[],yss,ws,h,r=>by
  cases h;cases reps_nil.mp r;exact ⟨[],[],rfl,rfl,λi b z=>by simp at z,.nil⟩
 |x::xs,yss,ws,h,r=>by
  unfold zI at h;split at h
  ·rename_i e;cases e
  ·rename_i ys xs' e;injection e with e1 e2;subst e1 e2;obtain ⟨zss,hz,rfl⟩:=yI.mp h;obtain ⟨w,ws',rfl,p,q⟩:=reps_cons.mp r;obtain ⟨b,us,rfl,hb,ru⟩:=rep_lst.mp p;obtain ⟨bs,xss,rfl,e1,e2,e3⟩:=Yz hz q;refine ⟨b::bs,us::xss,rfl,by simp [e1],λi b' z=>?_,ru.append e3⟩;cases i with
   |zero=>cases z;exact hb
   |succ i=>exact e2 i b' z
  ·cases h
def Qk (a:M):M:=λε=>(a ε).bind λx=>match x with
 | .lst xs=>(zI xs).bind λyss=>if yss.flatten.length<=lim then some (.lst yss.flatten) else none
 |_=>none
instance {K:Fg}{te:TE}[sa:p9 te a]:qP (US K (p8 te c5)) (Qk a) where
 h:=λe _ _ _ _ _ rs _ q=>by
  obtain ⟨x,ex,e1⟩:=bind_some e;split at e1
  ·obtain ⟨yss,ey,e2⟩:=bind_some e1;split at e2
   ·rename_i hl;cases e2;refine sa.h ex rs λv Hs1 H1 x1 r1=>?_;obtain ⟨p,ws,rfl,ep,r2⟩:=m9 x1.s3 r1;obtain ⟨bs,xss,rfl,a1,a2,a3⟩:=Yz ey r2;exact ⟨p,bs,xss,rfl,SqL.of ep,λi b z=>x1.s3 _ _ (a2 i b z),a1,qp (by rw [a3.length];exact hl),λp' hp=>q _ _ _ (x1.trans (.newO x1.s3 hp)) (x1.s2.free hp) (x1.s3.free hp) ⟨_,w9,a3⟩⟩
   ·cases e2
  ·cases e1
theorem KC {ε:ME}{xs:List PV}{yss:List (List PV)}(h:a ε=some (.lst xs))(k:zI xs=some yss)(l:yss.flatten.length<=lim):Qk a ε=some (.lst yss.flatten):=by unfold Qk;rw [h];show (zI xs).bind _=_;rw [k];exact if_pos l
end Mi
namespace Lw
open PySem L2 Mi
variable{rss:List (List Int)}{g h j l t:Nat}{α:Type}{a:M}{Aa b p:Addr}{q qual x:Str}{H H0:Hp}{n v:Int}{r:List Int}{vs:List V}{Q:VK}{E:XK}{ε:ME}{as:List Addr}{σ:St}{xs:List PV}{u:V}{y:PV}{A6 B9 D6 E4:Tok}{ks:List z5}{ps:List Str}{st:Stmt}{cd ct dc oc pm:Value}{an od:Option Addr}{sl:Array (Option Value)}
variable {P:Program}{w:World}{K:Fg}{mg:Str->Option Value}{base:Heap}{f:Addr}{fd:FuncData}
theorem l0:0<=lim:=by decide
theorem l1:1<=lim:=by decide
theorem l2:2<=lim:=by decide
theorem l3:3<=lim:=by decide
theorem l4:4<=lim:=by decide
theorem l5:5<=lim:=by decide
theorem l6:6<=lim:=by decide
theorem l7:7<=lim:=by decide
theorem l8:8<=lim:=by decide
theorem l9:9<=lim:=by decide
structure b8 (h:Nat)(rss:List (List Int)):Prop where
 len:rss.length=h+1
 row:∀ r∈rss,r.length=h/\∀ v∈r,0<=v/\v<10 ^ 30
def rin (rss:List (List Int))(f g:Int):Int:=((atI rss f).bind λr=>atI r g).getD 0
def o4 (rss:List (List Int)):Int->List Int->Int
 |_,[]=>0
 |f,h::r=>rin rss f h+o4 rss h r
theorem DH (e:rss.length=h+1)(g:Int):rin rss (-1) g=rin rss (h:Int) g:=by
 unfold rin atI;rw [e];have e1:ixN (h+1) (-1)=some h:=by
  unfold ixN;rw [if_neg (by decide),if_pos (by omega)]
  congr 1
  omega
 have e2:ixN (h+1) (h:Int)=some h:=by
  unfold ixN;rw [if_pos (by omega),if_pos (by omega)]
  congr 1
 rw [e1,e2]
abbrev Wy:=Int×List Int
variable{T:List (List Wy)}{onw ws:List Wy}
def xL (a b:Wy):Wy:=if b.1<a.1 then b else a
def xv (a b:Wy):Wy:=(a.1+b.1,a.2++b.2)
def thr (ws:List Wy)(k:Nat)(onw:List Wy):List Wy:=List.zipWith (λw m=>xL w (xv (ws.getD k (0,[])) m)) ws onw
def qk (T:List (List Wy))(k:Nat):List (List Wy):=T.map λrow=>thr row k (T.getD k [])
def xC (row:List Int):List Wy:=row.mapIdx λi v=>(v,[(i:Int)])
def u8 (rss:List (List Int)):Nat->List (List Wy)
 |0=>rss.map xC
 |k+1=>qk (u8 rss k) k
def v6 (T:List (List Wy))(f g:Nat):Wy:=(T.getD f []).getD g (0,[])
def qd (rss:List (List Int))(h:Nat):List (List Int):=(u8 rss h).map λrow=>row.map (·.1)
structure Shp (h:Nat)(T:List (List Wy)):Prop where
 len:T.length=h+1
 row:∀ r∈T,r.length=h
theorem y9 {l:List α}{i:Nat}{d:α}(h:i<l.length):l.getD i d=l[i]:=by rw [yF,yV h];rfl
theorem Shp.rowAt (S:Shp h T){f:Nat}(hf:f<=h):(T.getD f []).length=h:=by
 have hl:f<T.length:=by have:=S.len;omega
 rw [y9 hl];exact S.row _ (yu hl)
theorem UU {k:Nat}(h:ws.length=onw.length):(thr ws k onw).length=ws.length:=by unfold thr;rw [List.length_zipWith,h,Nat.min_self]
theorem Shp.step (S:Shp h T){k:Nat}(hk:k<h):Shp h (qk T k):=by refine ⟨by unfold qk;rw [yZ];exact S.len,λr hr=>?_⟩;unfold qk at hr;obtain ⟨row,hm,rfl⟩:=yA.mp hr;have e1:=S.row row hm;rw [UU (by rw [e1,S.rowAt (by omega)]),e1]
theorem vc (S:Shp h T){k f:Nat}(hk:k<h)(hf:f<=h)(hg:g<h):v6 (qk T k) f g=xL (v6 T f g) (xv (v6 T f k) (v6 T k g)):=by
 have hl:f<T.length:=by have:=S.len;omega
 have hl2:f<(qk T k).length:=by unfold qk;rw [yZ];exact hl
 have e1:(qk T k).getD f []=thr (T.getD f []) k (T.getD k []):=by unfold qk;rw [y9 (by rw [yZ];exact hl),ux,y9 hl]
 have r1:=S.rowAt hf;have r2:=S.rowAt (f:=k) (by omega);unfold v6;rw [e1,y9 (by rw [UU (by rw [r1,r2])];omega),y9 (l:=T.getD f []) (i:=g) (by omega),y9 (l:=T.getD k []) (i:=g) (by omega)];unfold thr;rw [List.getElem_zipWith]
theorem Shp.start (G:b8 h rss):Shp h (u8 rss 0):=by refine ⟨by show (rss.map xC).length=_;rw [yZ];exact G.len,λr hr=>?_⟩;obtain ⟨row,hm,rfl⟩:=yA.mp hr;unfold xC;rw [List.length_mapIdx];exact (G.row row hm).1
theorem Shp.all {h:Nat}{rss:List (List Int)}(G:b8 h rss):∀ k,k<=h->Shp h (u8 rss k)
 |0,_=>Shp.start G
 |k+1,hk=>(Shp.all G k (by omega)).step (by omega)
theorem zV (G:b8 h rss){f:Nat}(hf:f<=h)(hg:g<h):rin rss (f:Int) (g:Int)=(rss.getD f []).getD g 0:=by
 have hl:f<rss.length:=by have:=G.len;omega
 have e1:atI rss (f:Int)=some rss[f]:=qQ (yV hl);have hg2:g<rss[f].length:=by rw [(G.row _ (yu hl)).1];exact hg
 have e2:atI rss[f] (g:Int)=some rss[f][g]:=qQ (yV hg2);unfold rin;rw [e1];show (atI rss[f] (g:Int)).getD 0=_;rw [e2,y9 hl,y9 hg2];rfl
theorem Ql (G:b8 h rss){f:Nat}(hf:f<=h)(hg:g<h):v6 (u8 rss 0) f g=(rin rss (f:Int) (g:Int),[(g:Int)]):=by
 have hl:f<rss.length:=by have:=G.len;omega
 have hl2:f<(rss.map xC).length:=by rw [yZ];exact hl
 have hg2:g<rss[f].length:=by rw [(G.row _ (yu hl)).1];exact hg
 rw [zV G hf hg];unfold v6;show ((rss.map xC).getD f []).getD g (0,[])=_;rw [y9 hl2,ux,y9 (by unfold xC;rw [List.length_mapIdx];exact hg2),y9 hl,y9 hg2];unfold xC;rw [List.getElem_mapIdx]
theorem Us (G:b8 h rss){f:Nat}(hf:f<=h)(hg:g<h):0<=rin rss (f:Int) (g:Int):=by
 have hl:f<rss.length:=by have:=G.len;omega
 have hg2:g<rss[f].length:=by rw [(G.row _ (yu hl)).1];exact hg
 rw [zV G hf hg,y9 hl,y9 hg2];exact ((G.row _ (yu hl)).2 _ (yu hg2)).1
theorem Xh {rss:List (List Int)}:∀{xs ys:List Int}{f g:Int},xs.getLast?=some g->o4 rss f (xs++ys)=o4 rss f xs+o4 rss g ys
 |[],_,_,_,e=>by simp at e
 |[x],ys,f,g,e=>by
  have e':x=g:=by simpa using e
  subst e';show rin rss f x+o4 rss x ys=rin rss f x+0+o4 rss x ys;omega
 |x::y::r,ys,f,g,e=>by
  have q:=Xh (rss:=rss) (xs:=y::r) (ys:=ys) (f:=x) (g:=g) (by simpa [List.getLast?_cons_cons] using e);show rin rss f x+o4 rss x (y::r++ys)=rin rss f x+o4 rss x (y::r)+o4 rss g ys;rw [q];omega
structure WayOk (rss:List (List Int))(h:Nat)(f g:Nat)(w:Wy):Prop where
 sum:w.1=o4 rss (f:Int) w.2
 last:w.2.getLast?=some (g:Int)
 ok:∀ x∈w.2,0<=x/\x<(h:Int)
structure FW (rss:List (List Int))(h k:Nat)(T:List (List Wy)):Prop where
 way:∀ f g,f<=h->g<h->WayOk rss h f g (v6 T f g)
 pos:∀ f g,f<=h->g<h->0<=(v6 T f g).1
 le:∀ f g,f<=h->g<h->(v6 T f g).1<=rin rss (f:Int) (g:Int)
 tri:∀ j f g,j<k->f<=h->g<h->(v6 T f g).1<=(v6 T f j).1+(v6 T j g).1
 len:∀ f g,f<=h->g<h->(v6 T f g).2.length<=2 ^ k
theorem vh (a b:Wy):(xL a b=a/\a.1<=b.1)∨(xL a b=b/\b.1<a.1):=by
 unfold xL;by_cases h:b.1<a.1
 ·rw [if_pos h];exact .inr ⟨rfl,h⟩
 ·rw [if_neg h];exact .inl ⟨rfl,by omega⟩
theorem BM (a b:Wy):(xL a b).1<=a.1/\(xL a b).1<=b.1:=by
 rcases vh a b with ⟨e,q⟩|⟨e,q⟩
 ·rw [e];exact ⟨uJ _,q⟩
 ·rw [e];exact ⟨Int.le_of_lt q,uJ _⟩
theorem WayOk.join {f k:Nat}{a b:Wy}(x:WayOk rss h f k a)(y:WayOk rss h k g b):WayOk rss h f g (xv a b):=by
 refine ⟨?_,?_,λz hz=>?_⟩
 ·show a.1+b.1=o4 rss f (a.2++b.2);rw [Xh x.last,x.sum,y.sum]
 ·show (a.2++b.2).getLast?=_;rw [List.getLast?_append,y.last];rfl
 ·rcases yo.mp hz with q|q
  ·exact x.ok z q
  ·exact y.ok z q
theorem FW.start (G:b8 h rss):FW rss h 0 (u8 rss 0):=by
 refine ⟨λf g hf hg=>?_,λf g hf hg=>?_,λf g hf hg=>?_,λj f g hj=>absurd hj (by omega),λf g hf hg=>?_⟩
 ·rw [Ql G hf hg];refine ⟨?_,rfl,λx hx=>?_⟩
  ·show rin rss f g=rin rss f g+0;omega
  ·have e:x=(g:Int):=by simpa using hx
   rw [e];omega
 ·rw [Ql G hf hg];exact Us G hf hg
 ·rw [Ql G hf hg];exact uJ _
 ·rw [Ql G hf hg];exact yU 1
theorem FW.step {k:Nat}(S:Shp h T)(x:FW rss h k T)(hk:k<h):FW rss h (k+1) (qk T k):=by
 have kl:k<=h:=by omega
 have toK:∀ f,f<=h->(v6 (qk T k) f k).1=(v6 T f k).1:=λf hf=>by
  rw [vc S hk hf hk];rcases vh (v6 T f k) (xv (v6 T f k) (v6 T k k)) with ⟨e,q⟩|⟨e,q⟩
  ·rw [e]
  ·have p:=x.pos k k kl hk;have q':(v6 T f k).1+(v6 T k k).1<(v6 T f k).1:=q;omega
 have ofK:∀ g,g<h->(v6 (qk T k) k g).1=(v6 T k g).1:=λg hg=>by
  rw [vc S hk kl hg];rcases vh (v6 T k g) (xv (v6 T k k) (v6 T k g)) with ⟨e,q⟩|⟨e,q⟩
  ·rw [e]
  ·have p:=x.pos k k kl hk;have q':(v6 T k k).1+(v6 T k g).1<(v6 T k g).1:=q;omega
 have bound:∀ f g,f<=h->g<h->(v6 (qk T k) f g).1<=(v6 T f g).1/\(v6 (qk T k) f g).1<=(v6 T f k).1+(v6 T k g).1:=λf g hf hg=>by
  rw [vc S hk hf hg];exact BM _ _
 have alt:∀ f g,f<=h->g<h->(v6 (qk T k) f g).1=(v6 T f g).1∨(v6 (qk T k) f g).1=(v6 T f k).1+(v6 T k g).1:=λf g hf hg=>by
  rw [vc S hk hf hg];rcases vh (v6 T f g) (xv (v6 T f k) (v6 T k g)) with ⟨e,q⟩|⟨e,q⟩
  ·rw [e];exact .inl rfl
  ·rw [e];exact .inr rfl
 refine ⟨λf g hf hg=>?_,λf g hf hg=>?_,λf g hf hg=>uE (bound f g hf hg).1 (x.le f g hf hg),λj f g hj hf hg=>?_,λf g hf hg=>?_⟩
 ·rw [vc S hk hf hg];rcases vh (v6 T f g) (xv (v6 T f k) (v6 T k g)) with ⟨e,_⟩|⟨e,_⟩
  ·rw [e];exact x.way f g hf hg
  ·rw [e];exact (x.way f k hf hk).join (x.way k g kl hg)
 ·rcases alt f g hf hg with e|e
  ·rw [e];exact x.pos f g hf hg
  ·rw [e];have p1:=x.pos f k hf hk;have p2:=x.pos k g kl hg;omega
 ·by_cases hjk:j=k
  ·subst hjk;rw [toK f hf,ofK g hg];exact (bound f g hf hg).2
  ·have hj':j<k:=by omega
   have jl:j<=h:=by omega
   have jh:j<h:=by omega
   have b:=bound f g hf hg;have t1:=x.tri j f g hj' hf hg;have t2:=x.tri j f k hj' hf hk;have t3:=x.tri j k g hj' kl hg;have t4:=x.pos k j kl jh;have t5:=x.pos j k jl hk;rcases alt f j hf jh with e1|e1<;>rcases alt j g jl hg with e2|e2<;>rw [e1,e2]<;>omega
 ·rw [vc S hk hf hg];have e:2 ^ (k+1)=2 ^ k+2 ^ k:=by rw [Nat.pow_succ];omega
  rcases vh (v6 T f g) (xv (v6 T f k) (v6 T k g)) with ⟨q,_⟩|⟨q,_⟩
  ·rw [q];have:=x.len f g hf hg;omega
  ·rw [q];have a1:=x.len f k hf hk;have a2:=x.len k g kl hg;show ((v6 T f k).2++(v6 T k g).2).length<=_;rw [yQ];omega
theorem FW.all {h:Nat}{rss:List (List Int)}(G:b8 h rss):∀ k,k<=h->FW rss h k (u8 rss k)
 |0,_=>FW.start G
 |k+1,hk=>FW.step (Shp.all G k (by omega)) (FW.all G k (by omega)) (by omega)
theorem Yx (G:b8 h rss){f:Nat}(hf:f<=h)(hg:g<h):((qd rss h).getD f []).getD g 0=(v6 (u8 rss h) f g).1:=by
 have S:=Shp.all G h (yU _);have hl:f<(u8 rss h).length:=by have:=S.len;omega
 have hl2:f<(qd rss h).length:=by unfold qd;rw [yZ];exact hl
 have r:=S.rowAt hf;rw [y9 hl] at r;unfold v6;rw [y9 hl,y9 (l:=(u8 rss h)[f]) (by omega)];unfold qd;rw [y9 (l:=(u8 rss h).map λrow=>row.map (·.1)) (i:=f) (by rw [yZ];exact hl),ux,y9 (by rw [yZ];omega),ux]
theorem wa (G:b8 h rss):b8 h (qd rss h):=by
 have S:=Shp.all G h (yU _);have F:=FW.all G h (yU _);refine ⟨by unfold qd;rw [yZ];exact S.len,λr hr=>?_⟩;unfold qd at hr;obtain ⟨row,hm,rfl⟩:=yA.mp hr;refine ⟨by rw [yZ];exact S.row row hm,λv hv=>?_⟩;obtain ⟨w,hw,rfl⟩:=yA.mp hv;obtain ⟨f,hf,rfl⟩:=uN hm;obtain ⟨g,hg,rfl⟩:=uN hw;have hf':f<=h:=by have:=S.len;omega
 have hg':g<h:=by rw [<- S.row _ hm];exact hg
 have e:v6 (u8 rss h) f g=(u8 rss h)[f][g]:=by unfold v6;rw [y9 hf,y9 hg]
 have p:=F.pos f g hf' hg';have l:=F.le f g hf' hg';rw [e] at p l;refine ⟨p,Int.lt_of_le_of_lt l ?_⟩;have hl:f<rss.length:=by have:=G.len;omega
 have hg2:g<rss[f].length:=by rw [(G.row _ (yu hl)).1];exact hg'
 rw [zV G hf' hg',y9 hl,y9 hg2];exact ((G.row _ (yu hl)).2 _ (yu hg2)).2
theorem Gj {rss:List (List Int)}{h:Nat}(G:b8 h rss):∀(hs:List Int)(f:Nat),f<=h->(∀ x∈hs,0<=x/\x<(h:Int))->0<=o4 rss (f:Int) hs
 |[],_,_,_=>uJ _
 |x::r,f,hf,ho=>by
  obtain ⟨x0,x1⟩:=ho x yR;obtain ⟨m,rfl⟩:=yj x0;have q:=Gj G r m (by omega) λy hy=>ho y (yO _ hy);have p:=Us G hf (g:=m) (by omega);show 0<=rin rss f m+o4 rss m r;omega
theorem UB {rss:List (List Int)}{h:Nat}(G:b8 h rss){g:Nat}(hg:g<h):∀(mids:List Int)(f:Nat),f<=h->(∀ x∈mids,0<=x/\x<(h:Int)) -> ∃ ms:List Int,ms.Nodup/\(∀ x∈ms,x∈mids)/\o4 rss (f:Int) (ms++[(g:Int)])<=o4 rss (f:Int) (mids++[(g:Int)])
 |[],_,_,_=>⟨[],uy,λ_ z=>z,uJ _⟩
 |x::r,f,hf,ho=>by
  obtain ⟨x0,x1⟩:=ho x yR;obtain ⟨m,rfl⟩:=yj x0;obtain ⟨ms,hn,hs,hw⟩:=UB G hg r m (by omega) λy hy=>ho y (yO _ hy);by_cases hm:(m:Int)∈ms
  ·obtain ⟨p,s,rfl⟩:=List.append_of_mem hm;have hn2:=uq.mp hn;refine ⟨(m:Int)::s,hn2.2.1,λy hy=>?_,?_⟩
   ·rcases yK.mp hy with e|hy
    ·rw [e];exact yR
    ·exact yO _ (hs y (yv _ (yO _ hy)))
   ·have e1:p++(m:Int)::s++[(g:Int)]=(p++[(m:Int)])++(s++[(g:Int)]):=by simp
    rw [e1,Xh (g:=(m:Int)) (by simp)] at hw;have nn:=Gj G (p++[(m:Int)]) m (by omega) (λy hy=>by
     rcases yo.mp hy with hy|hy
     ·exact ho y (yO _ (hs y (uT _ hy)))
     ·rw [yN.mp hy];exact ⟨x0,x1⟩)
    show rin rss f m+o4 rss m (s++[(g:Int)])<=rin rss f m+o4 rss m (r++[(g:Int)]);omega
  ·refine ⟨(m:Int)::ms,yx.mpr ⟨hm,hn⟩,λy hy=>?_,?_⟩
   ·rcases yK.mp hy with e|hy
    ·rw [e];exact yR
    ·exact yO _ (hs y hy)
   ·show rin rss f m+o4 rss m (ms++[(g:Int)])<=rin rss f m+o4 rss m (r++[(g:Int)]);omega
def Qr (h:Nat):List Int:=(List.range h).map λ(i:Nat)=>(i:Int)
theorem mem_huesL {x:Int}:x∈Qr h↔0<=x/\x<(h:Int):=by
 unfold Qr;constructor
 ·intro hx;obtain ⟨i,hi,rfl⟩:=yA.mp hx;have:=ya.mp hi;omega
 ·intro hx;exact yA.mpr ⟨x.toNat,ya.mpr (by omega),by omega⟩
theorem Zf {α:Type}[DecidableEq α]:∀{ms left:List α},ms.Nodup->(∀ x∈ms,x∈left)->ms.length<=left.length
 |[],_,_,_=>ye _
 |x::r,left,hn,hs=>by
  have hn':=yx.mp hn;have q:=Zf (ms:=r) (left:=left.erase x) hn'.2 (λy hy=>(List.mem_erase_of_ne (λe=>hn'.1 (by rw [e] at hy;exact hy))).mpr (hs y (yO _ hy)));have hx:=hs x yR;rw [List.length_erase_of_mem hx] at q;have pos:0<left.length:=List.length_pos_of_mem hx;show r.length+1<=_;omega
def vL (rss:List (List Int))(h:Nat)(row:List Int):List Int:=(List.range h).map λg=>zi (row.getD g 0::(List.range h).map λa=>row.getD a 0+(rss.getD a []).getD g 0)
def bfN (rss:List (List Int))(h:Nat):Nat->List (List Int)
 |0=>rss
 |k+1=>(bfN rss h k).map (vL rss h)
theorem Xo {rss:List (List Int)}{h:Nat}(G:b8 h rss):∀ k,(bfN rss h k).length=h+1/\∀ r∈bfN rss h k,r.length=h
 |0=>⟨G.len,λr hr=>(G.row r hr).1⟩
 |k+1=>by
  have ih:=Xo G k;refine ⟨by show ((bfN rss h k).map _).length=_;rw [yZ];exact ih.1,λr hr=>?_⟩;obtain ⟨q,_,rfl⟩:=yA.mp hr;unfold vL;rw [yZ,uB]
def k6 (rss:List (List Int))(h k f g:Nat):Int:=((bfN rss h k).getD f []).getD g 0
theorem Qd (G:b8 h rss){k f:Nat}(hf:f<=h)(hg:g<h):k6 rss h (k+1) f g=zi (k6 rss h k f g::(List.range h).map λa=>k6 rss h k f a+rin rss (a:Int) (g:Int)):=by
 have L:=Xo G k;have hl:f<(bfN rss h k).length:=by omega
 unfold k6;show (((bfN rss h k).map (vL rss h)).getD f []).getD g 0=_;rw [y9 (l:=(bfN rss h k).map (vL rss h)) (i:=f) (by rw [yZ];exact hl),ux,y9 (l:=bfN rss h k) (i:=f) hl];unfold vL;rw [y9 (by rw [yZ,uB];exact hg),ux,List.getElem_range]
 congr 2
 refine List.map_congr_left λa ha=>?_;rw [zV G (by have:=ya.mp ha;omega) hg]
theorem Qe {rss:List (List Int)}{h:Nat}(G:b8 h rss):∀ k f g,f<=h->g<h->(v6 (u8 rss h) f g).1<=k6 rss h k f g
 |0,f,g,hf,hg=>by
  have q:=(FW.all G h (yU _)).le f g hf hg;rw [zV G hf hg] at q;exact q
 |k+1,f,g,hf,hg=>by
  rw [Qd G hf hg];have m:=ww (l:=k6 rss h k f g::(List.range h).map λa=>k6 rss h k f a+rin rss (a:Int) (g:Int)) (by simp);rcases yK.mp m with e|e
  ·rw [e];exact Qe G k f g hf hg
  ·obtain ⟨a,ha,e2⟩:=yA.mp e;rw [<- e2];have ha':=ya.mp ha;have F:=FW.all G h (yU _);have i:=Qe G k f a hf ha';have t:=F.tri a f g ha' hf hg;have l:=F.le a g (by omega) hg;omega
theorem Xp {rss:List (List Int)}{h:Nat}(G:b8 h rss):∀(k:Nat)(ms:List Int)(f g:Nat),f<=h->g<h->(∀ x∈ms,0<=x/\x<(h:Int))->ms.length<=k->k6 rss h k f g<=o4 rss (f:Int) (ms++[(g:Int)])
 |0,ms,f,g,hf,hg,_,hl=>by
  have:ms=[]:=uG.mp (by omega);subst this;show _<=rin rss f g+0;rw [zV G hf hg];show (rss.getD f []).getD g 0<=_;omega
 |k+1,ms,f,g,hf,hg,ho,hl=>by
  rw [Qd G hf hg];by_cases hk:ms.length<=k
  ·exact uE (vq yR) (Xp G k ms f g hf hg ho hk)
  ·have hne:ms≠[]:=λz=>by rw [z] at hk;simp at hk
   have e:=List.dropLast_concat_getLast hne;obtain ⟨x0,x1⟩:=ho (ms.getLast hne) (List.getLast_mem hne);obtain ⟨a,ha⟩:=yj x0;rw [ha] at x1 e;have i:=Xp G k ms.dropLast f a hf (by omega) (λx hx=>ho x ((List.dropLast_sublist ms).subset hx)) (by rw [List.length_dropLast];omega);refine uE (vq (yO _ (yA.mpr ⟨a,ya.mpr (by omega),rfl⟩))) ?_;rw [<- e,Xh (g:=(a:Int)) (by simp)];show _<=o4 rss f (ms.dropLast++[(a:Int)])+(rin rss a g+0);omega
theorem GA (G:b8 h rss):bfN rss h h=qd rss h:=by
 have L:=Xo G h;have G2:=wa G;have F:=FW.all G h (yU _);refine List.ext_getElem (by rw [L.1,G2.len]) λf h1 h2=>?_;have hf:f<=h:=by omega
 refine List.ext_getElem (by rw [L.2 _ (yu h1),(G2.row _ (yu h2)).1]) λg g1 g2=>?_;have hg:g<h:=by rw [L.2 _ (yu h1)] at g1;exact g1
 have a1:k6 rss h h f g=(bfN rss h h)[f][g]:=by unfold k6;rw [y9 h1,y9 g1]
 have a2:=Yx G hf hg;rw [y9 h2,y9 g2] at a2;rw [<- a1,a2];refine Int.le_antisymm ?_ (Qe G h f g hf hg);have W:=F.way f g hf hg;obtain ⟨mids,e⟩:∃ mids,(v6 (u8 rss h) f g).2=mids++[(g:Int)]:=by
  have ne:(v6 (u8 rss h) f g).2≠[]:=λz=>by have q:=W.last;rw [z] at q;cases q
  refine ⟨(v6 (u8 rss h) f g).2.dropLast,?_⟩;have q:=List.dropLast_concat_getLast ne;have q2:(v6 (u8 rss h) f g).2.getLast ne=(g:Int):=by have q3:=W.last;rw [List.getLast?_eq_some_getLast ne] at q3;exact Option.some.inj q3
  rw [q2] at q;exact q.symm
 have hmid:∀ x∈mids,0<=x/\x<(h:Int):=λx hx=>W.ok x (by rw [e];exact uT _ hx);obtain ⟨ms,hn,hs,hw⟩:=UB G hg mids f hf hmid;have sub:∀ x∈ms,x∈Qr h:=λx hx=>mem_huesL.mpr (hmid x (hs x hx));have lm:ms.length<=h:=by have q:=Zf hn sub;unfold Qr at q;rw [yZ,uB] at q;exact q
 have b:=Xp G h ms f g hf hg (λx hx=>hmid x (hs x hx)) lm;have s:=W.sum;rw [e] at s;omega
def top (i:Nat):Stmt:=PySem.Challenge.pw_rinsework_k63_trays_told.main.body.getD i (.Pass ⟨0,0,0,0⟩)
abbrev Ji:Stmt:=top 54
abbrev Xb:Stmt:=top 55
abbrev ZQ:Stmt:=top 56
theorem Xc (h:H p=none)(o:HO):Same H (z6 H p o):=λb u q=>by rw [z8 (u7 q h)];exact q
theorem sizes {n:Nat}(h:n<=1000):n<=sizeLine:=uV (vD h)
def JE:Sp:=λvs H Q _=>∃ c k:Int,vs=[.int c,.int k]/\0<=k/\k<=100/\∀ v:Int,0<=v->v<2147483648->Q (.int v) H
def UE (K:Fg):Sp:=λvs H Q _=>∃(a:Addr)(ns:List Int)(k:Int),vs=[.ref a,.int k]/\SqL K H a (ns.map V.int)/\ns.length<=63/\0<=k/\k<=12 /\
 ∀(r:Addr)(n:Int)(H':Hp),H r=none->Same H H'->H' r=some (.lst [.int n])->Q (.ref r) H'
section
theorem sc_digit:v7 ["row","many","digit"] ["row","many"] (j6 ZQ):=y0
theorem Py (F:Fun K "_law_digit" "_law_digit" ZQ f fd):FnOk P w K mg base j8 1 f fd ["row","many"] zp:=by
 refine F.ok sc_digit (λvs H Q E h=>?_) (λcdv A outer s H vs Q E hr h=>?_)
 ·obtain ⟨a,n,m,rfl,_⟩:=h;rfl
 obtain ⟨a,n,m,rfl,hH,hm,q⟩:=h;refine ⟨_,(j3 (i5 (i:=2) sc_digit.nd rfl (Or.inl rfl) (w5 jB (QV (XO (K:=K) rfl) (pv 0) x9 (λ_ _=>rfl)) (pv 1)))
  (j3 (Zs (w5 YD (QV (XO (K:=K) rfl) (pv 0) x9 (λ_ _=>rfl)) (pv 1)) (YK (pv 0) x9 UA))
  (j4 (w6 (pv 2))))),?_⟩
 refine ⟨_,rfl,a,_,0,_,rfl,rfl,SqL.of hH,rfl,_,rfl,n,m,rfl,rfl,hm.1,?_⟩;refine ⟨_,rfl,a,_,0,_,rfl,rfl,SqL.of hH,rfl,_,rfl,n,m,rfl,rfl,hm,?_⟩;refine ⟨_,rfl,a,_,0,0,rfl,rfl,hH,rfl,?_⟩;exact ⟨_,rfl,q⟩
theorem sc_mixed:v7 ["cell","k","stir"] ["cell","k"] (j6 Ji):=y0
theorem Cb (F:Fun K "_law_mixed" "_law_mixed" Ji f fd):FnOk P w K mg base j8 1 f fd ["cell","k"] JE:=by
 refine F.ok sc_mixed (λvs H Q E h=>?_) (λcdv A outer s H vs Q E hr h=>?_)
 ·obtain ⟨c,k,rfl,_⟩:=h;rfl
 obtain ⟨c,k,rfl,k0,k1,q⟩:=h;refine ⟨_,(j3 (i5 (i:=2) sc_mixed.nd rfl (Or.inl rfl) (w5 jB (w5 vw (w5 op_add (w5 op_add (w5 jB (pv 0) x9) (w5 vw x9 (pv 1))) x9) x9) x9))
  (j4 (w6 (w5 jB (w5 vw (w5 jB (w5 vw (pv 2) (pv 2)) x9) x9) x9)))),?_⟩
 refine ⟨_,rfl,_,_,rfl,rfl,(by show (0:Int)<1000000007;decide),_,rfl,_,_,rfl,rfl,.inl ⟨by decide,by decide⟩,_,_,rfl,rfl,_,_,rfl,rfl,_,_,rfl,rfl,.inr ⟨by decide,by decide⟩,_,_,rfl,rfl,(by show (0:Int)<2147483647;decide),?_⟩;generalize hone:(c % 1000000007+7919*k+1)*48271 % 2147483647=one;have o0:0<=one:=by rw [<- hone];exact yk _ (by decide)
 have o1:one<2147483647:=by rw [<- hone];exact yr _ (by decide)
 refine ⟨_,rfl,_,rfl,_,_,rfl,rfl,.inl ⟨by omega,by omega⟩,_,_,rfl,rfl,(by show (0:Int)<2147483629;decide),_,_,rfl,rfl,.inr ⟨by decide,by decide⟩,_,_,rfl,rfl,(by show (0:Int)<2147483647;decide),?_⟩;exact q _ (yk _ (by decide)) (Int.lt_trans (yr _ (by decide)) (by decide))
end
def MM:Int:=10 ^ (60:Int).toNat
theorem wX:0<MM:=by decide +kernel
theorem WD:zt 10 60:=⟨by decide,by decide,by decide⟩
theorem WC:zt 10 18:=⟨by decide,by decide,by decide⟩
theorem GE:Builtin.Int.intBits MM<=2 ^ 20:=by decide +kernel
theorem MK {M c r:Int}{i:Nat}(hM:0<M)(h0:0<=c)(h:c<M ^ i)(r0:0<=r)(r1:r<M):0<=c*M+r/\c*M+r<M ^ (i+1):=by
 have e:M ^ (i+1)=M ^ i*M:=Int.pow_succ M i;have h1:(c+1)*M<=M ^ i*M:=uH (by omega) (Int.le_of_lt hM);have h2:(c+1)*M=c*M+M:=by rw [Int.add_mul,Int.one_mul]
 have h3:0<=c*M:=Int.mul_nonneg h0 (Int.le_of_lt hM);rw [e];omega
theorem Gr:∀ i:_root_.Fin 14,(MM ^ (i:Nat)).toNat<2 ^ 2700:=by decide +kernel
theorem GF {c:Int}{i:Nat}(hi:i<=13)(h0:0<=c)(h:c<MM ^ i):Builtin.Int.intBits c<=2 ^ 20:=by
 obtain ⟨n,rfl⟩:=yj h0;have q:=Gr ⟨i,by omega⟩;have q2:n<2 ^ 2700:=by have q':(MM ^ i).toNat<2 ^ 2700:=q;omega
 exact yf (PyProof.Rows.intBits_le (by rw [Int.natAbs_natCast];exact q2)) (by decide)
theorem DK:∀ i:_root_.Fin 13,∀ j:_root_.Fin 64,Builtin.Range.small ((i:Nat):Int) ((j:Nat):Int) 5=true:=by decide +kernel
theorem ZA {i j:Int}:Builtin.Range.rangeSize i j 5=if i<j then (j-i-1) / 5+1 else 0:=rfl
theorem DJ {i j:Int}(h0:0<=i)(h1:i<=12)(h2:0<=j)(h3:j<=63):0<=Builtin.Range.rangeSize i j 5/\Builtin.Range.small i j 5=true/\zn i j 5<=13/\∀ t:Nat,t<zn i j 5->i+t*5<j:=by
 refine ⟨?_,?_,?_,λt ht=>?_⟩
 ·rw [ZA];split<;>omega
 ·have q:=DK ⟨i.toNat,by omega⟩ ⟨j.toNat,by omega⟩;have e1:((i.toNat:Nat):Int)=i:=by omega
  have e2:((j.toNat:Nat):Int)=j:=by omega
  have q':Builtin.Range.small ((i.toNat:Nat):Int) ((j.toNat:Nat):Int) 5=true:=q;rw [e1,e2] at q';exact q'
 ·unfold zn;rw [ZA];split<;>omega
 ·unfold zn at ht;rw [ZA] at ht;split at ht<;>omega
theorem Gx {ns:List Int}{k:Int}(h0:0<=k)(h:k<(ns.length:Int)):∃ v:Int,atI (ns.map V.int) k=some (.int v):=by
 have hk:k.toNat<ns.length:=by omega
 have ek:k=((k.toNat:Nat):Int):=by omega
 have q:atI (ns.map V.int) ((k.toNat:Nat):Int)=some (.int ns[k.toNat]):=qQ (by rw [yP,yV hk]<;>rfl);rw [<- ek] at q;exact ⟨_,q⟩
section
theorem sc_stream:v7 ["script","k","cell","j","found"] ["script","k"] (j6 Xb):=y0
theorem Cj (F:Fun K "_law_stream" "_law_stream" Xb f fd)(Ed:Fn P w K mg base 1 "_law_mixed" ["cell","k"] JE)(Ac:mg "len"=none)(Ad:mg "range"=none)(B4:mg "sum"=none):FnOk P w K mg base j8 2 f fd ["script","k"] (UE K):=by
 refine F.ok sc_stream (λvs H Q E h=>?_) (λcdv A outer s H vs Q E hr h=>?_)
 ·obtain ⟨a,ns,k,rfl,_⟩:=h;rfl
 obtain ⟨a,ns,k,rfl,hS,h63,k0,k1,q⟩:=h;refine ⟨_,(j3 (i5 (i:=2) sc_stream.nd rfl (Or.inl rfl) x9)
  (j3 (qC PassesOwn.never rfl (Dc rfl Ad (j7 (pv 1) (j7 (y2 (Wp (K:=K) rfl) rfl Ac PySem.boot_len (j7 (pv 0) y1)) (j7 x9 y1)))) (gW 3 sc_stream.nd)
   (j4 (i5 (i:=2) sc_stream.nd rfl (Or.inl rfl) (w5 op_add (w5 QR (pv 2) (w5 vx x9 x9)) (w5 jB (QV (XO (K:=K) rfl) (pv 0) (pv 3) (λ_ _=>rfl)) (w5 vx x9 x9))))))
  (j3 (c6 (ql QP (pv 2) (w5 vx x9 x9) (m7 _)) (j4 (w6 (xi (j7 (pv 2) y1)))) m3)
  (j3 (i5 (i:=2) sc_stream.nd rfl (Or.inl rfl) (w5 op_add (pv 2) (y2 (Kd (K:=K) rfl rfl) rfl B4 Qg (j7 (m8 (N':=["one"]) (cap:=[none]) (k8 rfl rfl rfl) rfl (p0 (K:=K) rfl (pv 0)) (λ_ _ _ _ _ _=>(g7 (i:=0) (by show (["one"]:List Str).Nodup;decide +kernel) rfl (Or.inl rfl))) (λ_ _ _ _ _ _=>b9) (λ_ _ _ _ _ _=>(w5 jB (pv 0) (w5 vx x9 x9)))) y1))))
  (j3 (i5 (i:=4) sc_stream.nd rfl (Or.inl rfl) x9)
  (j3 (qC PassesOwn.never rfl (xz rfl Ad (j7 x9 y1)) (gW 3 sc_stream.nd)
   (j4 (i5 (i:=4) sc_stream.nd rfl (Or.inl rfl) (w5 op_add (w5 vw (pv 4) x9) (fW Ed hr (j7 (w5 op_add (w5 op_add (pv 2) (w5 vw x9 (pv 1))) (y2 (Wp (K:=K) rfl) rfl Ac PySem.boot_len (j7 (pv 0) y1))) (j7 (pv 3) y1)))))))
  (j4 (w6 (xi (j7 (w5 YD (pv 4) x9) y1)))))))))),?_⟩
 have hl:(((ns.map V.int).length:Nat):Int)=(ns.length:Int):=by rw [yZ]
 obtain ⟨z1,z2,z3,z4⟩:=DJ (i:=k) (j:=(((ns.map V.int).length:Nat):Int)) k0 k1 (by omega) (by omega);refine ⟨_,rfl,_,rfl,a,_,rfl,.inl hS,k,_,5,rfl,⟨by decide,by decide⟩,z1,z2,KH (λi σ H2=>∃(c:Int)(j:Option V),σ=[some (.ref a),some (.int k),some (.int c),j,none]/\H2=H/\0<=c/\c<MM ^ i)
  ⟨0,none,rfl,rfl,uJ 0,by decide⟩ ?_ ?_⟩
 ·rintro i σ H2 hi ⟨c,j,rfl,rfl,c0,c1⟩;obtain ⟨v,hv⟩:=Gx (ns:=ns) (k:=k+i*5) (by omega) (by have:=z4 i hi;omega);refine ⟨_,rfl,_,_,rfl,rfl,WD,_,_,rfl,rfl,⟨GF (by omega) c0 c1,GE⟩,_,rfl,_,rfl,a,_,_,_,rfl,rfl,hS,hv,
   _,_,rfl,rfl,WD,_,_,rfl,rfl,wX,_,_,rfl,rfl,?_⟩
  have sb:=MK (i:=i) wX c0 c1 (yk v (Ne.symm (Int.ne_of_lt wX))) (yr v wX);exact ⟨_,_,rfl,rfl,sb.1,sb.2⟩
 ·rintro σ H2 ⟨c,j,rfl,rfl,c0,c1⟩;refine ⟨_,rfl,_,_,rfl,rfl,WC,_,_,rfl,rfl,_,rfl,ite2 (λ_=>?_) (λ_=>?_)⟩
  ·refine ⟨_,rfl,(by show 1<=sizeLine;decide),λp hp=>?_⟩;exact q p c _ hp (Xc hp _) w9
  ·refine ⟨_,rfl,_,rfl,a,rfl,⟨_,hS⟩,Xu (K:=K) (a:=a) (xs:=ns.map V.int) (λi ys H3=>H3=H2/\∃ ms:List Int,ys=ms.map V.int/\ms.length=i) ⟨rfl,[],rfl,rfl⟩ ?_ ?_ ?_ ?_⟩
   ·rintro i ys H3 hi ⟨_,ms,rfl,rfl⟩;rw [yZ] at hi ⊢;exact sizes (by omega)
   ·rintro i ys H3 hi ⟨rfl,_⟩;exact hS
   ·rintro i x ys H3 R hx ⟨rfl,ms,rfl,rfl⟩ hR;rw [yP] at hx;obtain ⟨v,hv,rfl⟩:=yI.mp hx;refine ⟨Wk.one rfl,⟨_,rfl,_,_,rfl,rfl,WC,_,_,rfl,rfl,(by show (0:Int)<10 ^ (18:Int).toNat;decide),?_⟩⟩;exact hR _ _ ⟨rfl,ms++[_],by rw [yt];rfl,by rw [yQ];rfl⟩
   ·rintro ys H3 ⟨rfl,ms,rfl,_⟩ D hD;refine ⟨D,ms,rfl,SqL.of w9,_,_,rfl,rfl,?_⟩;have g1:Same H3 (z6 H3 D (.lst (ms.map V.int))):=Xc hD _;refine ⟨12,rfl,by decide,by decide,vU (n:=12) (λi σ H4=>∃(f:Int)(j:Option V),σ=[some (.ref a),some (.int k),some (.int (c+ms.sum)),j,some (.int f)]/\H4=z6 H3 D (.lst (ms.map V.int))) ⟨0,_,rfl,rfl⟩ ?_ ?_⟩
    ·rintro i σ H4 hi ⟨f,j,rfl,rfl⟩;refine ⟨_,rfl,_,_,rfl,rfl,.inr ⟨by decide,by decide⟩,_,rfl,_,rfl,_,_,rfl,rfl,.inl ⟨by decide,by decide⟩,_,_,rfl,rfl,_,rfl,a,_,rfl,.inl (g1.seq hS),_,_,rfl,rfl,_,rfl,_,_,rfl,by omega,by omega,λv v0 v1=>?_⟩;exact ⟨_,_,rfl,rfl,_,_,rfl,rfl⟩
    ·rintro σ H4 ⟨f,j,rfl,rfl⟩;refine ⟨_,rfl,_,_,rfl,rfl,⟨by decide,by decide +kernel⟩,(by show 1<=sizeLine;decide),λp hp=>?_⟩;exact q p (f / 64) _ (g1.free hp) (g1.trans (Xc hp _)) w9
end
def jG (K:Fg):List PV->Prop:=λxs=>∃(ns:List Int)(k:Int),xs=[scr K ns,.at (.int k)]/\ns.length<=63/\0<=k/\k<=12
def jc:List PV->PV->Prop:=λ_ y=>∃ n:Int,y = .lst [.at (.int n)]
theorem ML {K:Fg}(h:spN (jG K) jc vs H Q E):UE K vs H Q E:=by obtain ⟨Hs,xs,sm,r,⟨ns,k,rfl,h63,k0,k1⟩,q⟩:=h;obtain ⟨v,w,rfl,p1,p2⟩:=reps_cons.mp r;obtain ⟨u,z,rfl,p3,p4⟩:=reps_cons.mp p2;cases reps_nil.mp p4;cases rep_at.mp p3;obtain ⟨a,rfl,hS⟩:=Mw sm p1;exact ⟨a,ns,k,rfl,hS,h63,k0,k1,λb n H' nb g e=>q _ b Hs H' ⟨n,rfl⟩ ⟨.refl _,g,sm.trans g,λ_ _ z=>z⟩ nb (sm.free nb) ⟨_,e,.one (rep_at.mpr rfl)⟩⟩
section
theorem Ci (F:Fun K "_law_stream" "_law_stream" Xb f fd)(Ed:Fn P w K mg base 1 "_law_mixed" ["cell","k"] JE)(Ac:mg "len"=none)(Ad:mg "range"=none)(B4:mg "sum"=none):FnOk P w K mg base j8 2 f fd ["script","k"] (spN (jG K) jc):=(Cj F Ed Ac Ad B4).imp λ_ _ _ _ h=>ML h
end
def n9:Int:=10 ^ 30
theorem BP {k:Int}(h0:0<=k)(h1:k<=2*n9):k.natAbs.log2<9000:=by
 have hb:(2*n9).toNat<2 ^ 9000:=yE (show (2*n9).toNat<2 ^ 110 by decide +kernel) (Nat.pow_le_pow_right (by decide) (by decide));have:k.natAbs<2 ^ 9000:=by omega
 by_cases hz:k.natAbs=0
 ·rw [hz];decide
 ·exact (Nat.log2_lt hz).mpr this
theorem ji {k:Int}(h0:0<k)(h1:k<=2*n9):vH n k:=⟨h0,BP (by omega) h1⟩
theorem vG:(1000:Int)<=n9:=by decide +kernel
def k5 (rss:List (List Int)):PV:= .lst (rss.map λr=> .lst (r.map λn=> .at (.int n)))
theorem vB {a:MA}{k:Nat}(h:a ε=some [.at (.int (k:Int))])(hk:k<=lim):xI a ε=some (xl 0 k):=by have hlim:(lim:Int)=1000000:=rfl;have hl:lim=1000000:=rfl;unfold xI;rw [h];show (if -(lim:Int)<=(k:Int)/\(k:Int)<=(lim:Int) then some (xl 0 (k:Int).toNat) else none)=_;rw [if_pos ⟨by omega,by omega⟩,Int.toNat_natCast]
def y7 (ss:List Str):List PV:=ss.map λs=> .at (.str s)
theorem xD (ss:List Str):(y7 ss).length=ss.length:=yZ _
def Low (x:Str):Prop:=∀ c∈x.cps.toList,97<=c/\c<=122
structure jQ (x:Str):Prop where
 low:Low x
 one:1<=x.length
 eight:x.length<=8
theorem Ve:∀ ss:List Str,ats (y7 ss)=some (ss.map V.str)
 |[]=>rfl
 |s::ss=>by
  show (ats (y7 ss)).map (V.str s::·)=_;rw [Ve ss];rfl
theorem Ye (x:Str):∀ ss:List Str,inV (.str x) (ss.map V.str)=decide (x∈ss)
 |[]=>by simp [inV]
 |s::ss=>by
  have ih:=Ye x ss;unfold inV at ih ⊢;rw [yM,List.any_cons,ih];have e:h8 (.str s) (.str x)=decide (s=x):=rfl;rw [e];by_cases h:s=x
  ·subst h;simp
  ·simp [h,Ne.symm h]
theorem KG (ss:List Str):(ss.map V.str).all y8=true:=by rw [uU];intro v hv;obtain ⟨s,_,rfl⟩:=yA.mp hv;rfl
theorem Bh (neg:Bool)(x:Str)(ss:List Str):pIn neg (.at (.str x)) (.lst (y7 ss))=some (.at (.bl (if neg then !decide (x∈ss) else decide (x∈ss)))):=by show (ats (y7 ss)).bind _=_;rw [Ve,yy,if_pos ⟨rfl,KG ss⟩,Ye]
structure Cl where
 name:Str
 hue:Nat
 len:Int
 due:Int
 wt:Int
variable{c:Cl}{cs ns:List Cl}
def Cl.pv (c:Cl):PV:= .tup [.at (.str c.name),.at (.int c.hue),.at (.int c.len),.at (.int c.due),.at (.int c.wt)]
structure Cl.Ok (h:Nat)(c:Cl):Prop where
 nm:jQ c.name
 hu:c.hue<h
 l1:1<=c.len
 l2:c.len<=n9
 d1:-n9<=c.due
 d2:c.due<=n9
 w1:1<=c.wt
 w2:c.wt<=n9
theorem QM {α β:Type}{f:α->β}(hf:∀ x y,f x=f y->x=y):∀{a b:List α},a.map f=b.map f->a=b
 |[],[],_=>rfl
 |[],_::_,h=>by cases h
 |_::_,[],h=>by cases h
 |x::a,y::b,h=>by
  rw [yM,yM] at h;injection h with h1 h2;rw [hf x y h1,QM hf h2]
theorem XA {α β:Type}(f:α->β):∀(l:List α)(i:Nat),(l.map f).eraseIdx i=(l.eraseIdx i).map f
 |[],_=>rfl
 |_::_,0=>rfl
 |x::l,i+1=>by simp [XA f l i]
theorem Zp {α:Type}:∀{ss:List α}{j:Nat}(h:j<ss.length),(ss[j]::ss.eraseIdx j).Perm ss
 |x::ss,0,_=>List.Perm.refl _
 |x::ss,j+1,h=>by
  have hj:j<ss.length:=by simpa using h
  have ih:=Zp hj;show (ss[j]::x::ss.eraseIdx j).Perm (x::ss);exact (List.Perm.swap _ _ _).trans (ih.cons x)
structure Dr where
 h:Nat
 rss:List (List Int)
 cls:List Cl
 last:Int
 time:Int
def Dr.pv (d:Dr):PV:= .tup [k5 d.rss,.lst (d.cls.map Cl.pv),.at (.int d.last),.at (.int d.time)]
structure Dr.Ok (d:Dr):Prop where
 h1:1<=d.h
 h4:d.h<=4
 rin:b8 d.h d.rss
 ten:d.cls.length<=10
 cl:∀ c∈d.cls,c.Ok d.h
 nd:(d.cls.map Cl.name).Nodup
 l1:-1<=d.last
 l2:d.last<d.h
 t1:0<=d.time
 t2:d.time<60*n9
theorem Dq {a b:Cl}(h:a.pv=b.pv):a=b:=by cases a;cases b;unfold Cl.pv at h;injection h with h;simp only [List.cons.injEq,PV.at.injEq,V.str.injEq,V.int.injEq] at h;obtain ⟨h1,h2,h3,h4,h5,_⟩:=h;have h2:=Int.ofNat.inj h2;subst h1 h2 h3 h4 h5;rfl
theorem Kq {d e:Dr}(h:d.pv=e.pv):d.cls=e.cls:=by unfold Dr.pv at h;injection h with h;injection h with _ h;injection h with h _;injection h with h;exact QM (λ_ _=>Dq) h
def T26:Int:=10 ^ 26
def T27:Int:=10 ^ 27
theorem Ts:T27=10*T26/\n9=1000*T27/\1000<T26:=by decide +kernel
theorem pow26:pPow (.at (.int 10)) (.at (.int 26))=some (.at (.int T26)):=by show (if zt 10 26 then some (V.int (10 ^ (26:Int).toNat)) else none).map PV.at=_;rw [if_pos ⟨by decide,by decide,by decide⟩];rfl
theorem pow27:pPow (.at (.int 10)) (.at (.int 27))=some (.at (.int T27)):=by show (if zt 10 27 then some (V.int (10 ^ (27:Int).toNat)) else none).map PV.at=_;rw [if_pos ⟨by decide,by decide,by decide⟩];rfl
theorem Wg (h0:-n9<=n)(h1:n<=n9):Builtin.Int.intBits n<=2 ^ 20:=by
 have hb:n9<2 ^ 120:=by decide +kernel
 exact yf (PyProof.Rows.intBits_le (k:=120) (by omega)) (by decide)
theorem Zd {a b:Int}(a0:-n9<=a)(a1:a<=n9)(b0:-n9<=b)(b1:b<=n9):wB (.at (.int a)) (.at (.int b))=some (.at (.int (a*b))):=by show (if vI a b then some (V.int (a*b)) else none).map PV.at=_;rw [if_pos ⟨Wg a0 a1,Wg b0 b1⟩];rfl
def xj:List PV->Prop:=λxs=>∃ b:Bool,xs=[.at (.bl b)]
def xp:List PV->PV->Prop:=λ_ y=>∃ n:Int,y = .at (.int n)/\0<=n/\n<10*T27
abbrev Jl:Stmt:=top 57
abbrev VM (K:Fg):WS:=(wSeq (t0 2 (qb 0 (wP (dC (.int 10)))))
  (wSeq (qN (wPT (m5 (x6 1))) (t0 2 (qw c4 (wP (z0 wB (x6 2) (z0 pPow (dC (.int 10)) (dC (.int 27))))) (qb 0 (wP (dC (.int 3)))))) xn)
  (qx (wP (q8 2)))))
theorem sc_number:v7 ["row","great","number"] ["row","great"] (j6 Jl):=y0
theorem KY:∀ xs,xj xs->xs.length+1=(["row","great"]:List Str).length:=by rintro xs ⟨b,rfl⟩;rfl
theorem Be {K:Fg}:∀ xs n,xj xs->VM K (g8 n::xs.map .sh++List.replicate ((["row","great","number"]:List Str).length-(xs.length+1)) .no) (λ_=>False) λy ε=>xp xs y/\xE 0 ε:=by
 rintro xs n ⟨b,rfl⟩;have hB:=vG;obtain ⟨t1,t2,t3⟩:=Ts;refine ⟨⟨n,rfl⟩,_,rfl,n,10,rfl,rfl,⟨by decide,by decide⟩,?_⟩;have a0:0<=n % 10:=yk _ (by decide);have a1:n % 10<10:=yr _ (by decide);cases b with
 |false=>exact zr rfl ⟨_,rfl,⟨_,rfl,a0,by omega⟩,_,rfl⟩
 |true =>
  have b0:0<=n / 10 % 3:=yk _ (by decide);have b1:n / 10 % 3<3:=yr _ (by decide);refine Xg rfl ⟨_,v5 rfl (v5 rfl rfl pow27) (Zd (a:=n % 10) (b:=T27) (by omega) (by omega) (by omega) (by omega)),⟨_,rfl⟩,_,rfl,n / 10,3,rfl,rfl,⟨by decide,by decide⟩,_,rfl,_,rfl,⟨_,rfl,?_,?_⟩,_,rfl⟩
  ·generalize n % 10=p at a0 a1 ⊢;have:=Int.mul_nonneg a0 (show 0<=T27 by omega);omega
  ·generalize n % 10=p at a0 a1 ⊢;have:p*T27<=9*T27:=uH (by omega) (by omega);omega
theorem Ce (F:Fun K "_law_number" "_law_number" Jl f fd)(Ae:Fn P w K mg base 1 "_law_digit" ["row","many"] zp):FnOk P w K mg base j8 2 f fd ["row","great"] (spD xj xp) :=
 okD (k:=1) (b:=VM K) F sc_number KY (λcdv A outer s H E hr=>⟨_,(@j3 _ _ _ _ _ (@i5 _ _ 2 _ _ _ _ sc_number.nd rfl (Or.inl rfl) (i4 Ae hr (by decide) rfl (@j7 _ _ _ _ _ (pv 0) (@j7 _ _ _ _ _ x9 y1 (by rfl)) (by rfl))) (by rfl) (.inl rfl))
  (@j3 _ _ _ _ _ (c6 (i9 (K:=K) rfl (pv 1) (λ_=>rfl)) (@j4 _ _ _ (@i5 _ _ 2 _ _ _ _ sc_number.nd rfl (Or.inl rfl) (w5 (qg (K:=K) rfl) (w5 (QR) (pv 2) (w5 (vx) x9 x9)) (i4 Ae hr (by decide) rfl (@j7 _ _ _ _ _ (pv 0) (@j7 _ _ _ _ _ x9 y1 (by rfl)) (by rfl)))) (by rfl) (.inl rfl))) m3)
  (@j4 _ _ _ (w6 (pv 2))))),
  (by repeat' first|infer_instance|(refine @Mi.instSemWSTSeqWSeq _ _ _ _ ?_ ?_)|(apply @Mi.instSemWSTForWForOfSemWIOfSemWG))⟩) Be
def xT (r:List Int):PV:= .lst (r.map λn=> .at (.int n))
def wI:List PV->Prop:=λxs=>∃(h:Nat)(b:Bool),xs=[.at (.int h),.at (.bl b)]/\1<=h/\h<=4
def jT:List PV->PV->Prop:=λxs y=>∃(h:Nat)(b:Bool)(rss:List (List Int)),xs=[.at (.int h),.at (.bl b)]/\y=k5 rss/\b8 h rss
abbrev Jn:Stmt:=top 58
abbrev VO (K:Fg):WS:=(wSeq (t0 3 (qb 0 (wP (dC (.int 4)))))
  (wSeq (wW 4 (qR q9))
  (wSeq (wFor (wIp (xI (q0 (z0 c4 (x6 1) (dC (.int 1))) q9))) (j9 5) (wSeq (t0 6 (zX [none,some 0,some 2] [0] (wIp (xI (q0 (q8 1) q9))) (j9 0) zq (qZ 1 xj xp (y6 (wP (q8 2)) i6))))
  (wSeq (qN (wPT (dT (z0 pEq (x6 3) (dC (.int 0))))) (t0 6 (wP (z0 pRep (qR (q0 (dC (.int 0)) q9)) (x6 1)))) xn)
  (wSeq (qN (wPT (dT (z0 pEq (x6 3) (dC (.int 1))))) (t0 6 (zX [none,some 0] [0] (wIp (u5 (q8 6))) (j9 0) zq (qw wB (wP (q8 0)) (qb 1 (wP (dC (.int 2))))))) xn)
  (vE 4 (wP (q8 6)))))))
  (wFz 4 (qx (wP (q8 4)))))))
theorem sc_rinses:v7 ["row","hues","great","way","found","first","numbers"] ["row","hues","great"] (j6 Jn):=y0
theorem Ba:∀ xs,wI xs->xs.length+1=(["row","hues","great"]:List Str).length:=by rintro xs ⟨h,b,rfl,_⟩;rfl
structure jV (h:Nat)(r:List Int):Prop where
 len:r.length=h
 lo:∀ v∈r,0<=v/\v<10 ^ 30
theorem Bg {K:Fg}:∀ xs n,wI xs->VO K (g8 n::xs.map .sh++List.replicate ((["row","hues","great","way","found","first","numbers"]:List Str).length-(xs.length+1)) .no) (λ_=>False) λy ε=>jT xs y/\xE 0 ε:=by
 rintro xs n ⟨h,b,rfl,h1,h4⟩;have hl:lim=1000000:=rfl;obtain ⟨t1,t2,t3⟩:=Ts;have eB:n9=10 ^ 30:=rfl;refine ⟨⟨n,rfl⟩,_,rfl,n,4,rfl,rfl,⟨by decide,by decide⟩,_,rfl,?_⟩;generalize n % 4=way;generalize n / 4=n1;refine ⟨xl 0 (h+1),vB rfl (by omega),?_⟩;refine QA (λrest ε=>∃(m:Int)(rss:List (List Int))(s5 s6:MSlot),rss.length+rest.length=h+1/\(∀ r∈rss,jV h r)/\ε=[g8 m,.sh (.at (.int (h:Int))),.sh (.at (.bl b)),.sh (.at (.int way)),.ow (.lst (rss.map xT)),s5,s6]) ?_ ?_ _ _ ⟨n1,[],_,_,by rw [jH];simp,(λ_ z=>nomatch z),rfl⟩
 ·rintro ε ⟨m,rss,s5,s6,e1,e2,rfl⟩;exact ⟨_,rfl,⟨h,b,rss,rfl,rfl,by simpa using e1,λr hr=>⟨(e2 r hr).len,(e2 r hr).lo⟩⟩,m,rfl⟩
 ·rintro x rest ε ⟨m,rss,s5,s6,e1,e2,rfl⟩;simp only [yz] at e1;refine ⟨_,rfl,xl 0 h,vB rfl (by omega),rfl,by rw [jH];omega,?_⟩;have app:∀(m:Int)(r:List Int),jV h r->vE 4 (wP (q8 6)) [g8 m,.sh (.at (.int (h:Int))),.sh (.at (.bl b)),.sh (.at (.int way)),.ow (.lst (rss.map xT)),.sh x,.sh (xT r)] (λε=>∃(m:Int)(rss:List (List Int))(s5 s6:MSlot),rss.length+rest.length=h+1/\(∀ r∈rss,jV h r)/\ε=[g8 m,.sh (.at (.int (h:Int))),.sh (.at (.bl b)),.sh (.at (.int way)),.ow (.lst (rss.map xT)),s5,s6]) (λy ε=>jT [.at (.int h),.at (.bl b)] y/\xE 0 ε):=by
   intro m r hr;refine ⟨⟨_,rfl⟩,_,rfl,_,rfl,by rw [yZ];omega,m,rss++[r],.sh x,.sh (xT r),by rw [yQ];simp;omega,?_,by rw [yt];rfl⟩;intro q hq;rcases yo.mp hq with hq|hq
   ·exact e2 q hq
   ·rw [yN.mp hq];exact hr
  have if1:∀(m:Int)(r:List Int),jV h r->(wSeq (qN (wPT (dT (z0 pEq (x6 3) (dC (.int 1))))) (t0 6 (zX [none,some 0] [0] (wIp (u5 (q8 6))) (j9 0) zq (qw wB (wP (q8 0)) (qb 1 (wP (dC (.int 2))))))) xn) (vE 4 (wP (q8 6)))) [g8 m,.sh (.at (.int (h:Int))),.sh (.at (.bl b)),.sh (.at (.int way)),.ow (.lst (rss.map xT)),.sh x,.sh (xT r)] (λε=>∃(m:Int)(rss:List (List Int))(s5 s6:MSlot),rss.length+rest.length=h+1/\(∀ r∈rss,jV h r)/\ε=[g8 m,.sh (.at (.int (h:Int))),.sh (.at (.bl b)),.sh (.at (.int way)),.ow (.lst (rss.map xT)),s5,s6]) (λy ε=>jT [.at (.int h),.at (.bl b)] y/\xE 0 ε):=by
   intro m r hr;by_cases hw:way=1
   ·subst hw;refine Xg (t9 (v:=true) rfl) ⟨_,rfl,rfl,by rw [yZ,hr.len];omega,?_⟩;refine Qi (λtodo zs ε=>∃(m:Int)(done left:List Int),ε=[.no,g8 m]/\todo=left.map (λn=>PV.at (.int n))/\zs=done.map (λn=>PV.at (.int n))/\done.length+left.length=h/\(∀ v∈left,0<=v/\v<10 ^ 30)/\∀ v∈done,0<=v/\v<10 ^ 30) ?_ ?_ _ [] _ ⟨m,[],r,rfl,rfl,rfl,by rw [hr.len];simp,hr.lo,(λ_ z=>nomatch z)⟩
    ·rintro zs ε ⟨m2,done,left,rfl,z,rfl,g1,g2,g3⟩;have e:left=[]:=by cases left with|nil=>rfl|cons _ _=>cases z
     subst e;exact ⟨λ_=>⟨_,rfl⟩,app _ done ⟨by simpa using g1,g3⟩⟩
    ·rintro x2 rest2 zs ε ⟨m2,done,left,rfl,z,rfl,g1,g2,g3⟩;cases left with
     |nil=>cases z
     |cons v left =>
      rw [yM] at z;injection z with z1 z2;subst z1;simp only [yz] at g1;have v0:=g2 v yR;rw [<- eB] at v0;have c0:0<=m2 % 2:=yk _ (by decide);have c1:m2 % 2<2:=yr _ (by decide);refine ⟨_,rfl,_,rfl,⟨_,rfl⟩,_,rfl,m2,2,rfl,rfl,⟨by decide,by decide⟩,_,Zd (a:=v) (b:=m2 % 2) (by omega) (by omega) (by omega) (by omega),m2 / 2,done++[v*(m2 % 2)],left,rfl,z2,by rw [yt];rfl,by rw [yQ];simp;omega,λw hw=>g2 w (yO _ hw),λw hw=>?_⟩;rcases yo.mp hw with hw|hw
      ·exact g3 w hw
      ·rw [yN.mp hw,<- eB];have:m2 % 2=0∨m2 % 2=1:=by omega
       rcases this with e|e<;>rw [e]<;>omega
   ·refine zr (t9 (v:=false) ?_) (app m r hr);show some (PV.at (.bl (decide (way=1))))=_;rw [yB hw]
  refine Qi (λrest2 zs ε=>∃(m:Int)(r:List Int),ε=[.no,g8 m,.sh (.at (.bl b))]/\zs=r.map (λn=>PV.at (.int n))/\r.length+rest2.length=h/\(∀ v∈r,0<=v/\v<10 ^ 30)) ?_ ?_ _ [] _ ⟨m,[],rfl,rfl,by rw [jH];simp,(λ_ z=>nomatch z)⟩
  ·rintro zs ε ⟨m2,r,rfl,rfl,g1,g2⟩;have hr:jV h r:=⟨by simpa using g1,g2⟩;refine ⟨λ_=>⟨_,rfl⟩,?_⟩;by_cases hw:way=0
   ·subst hw;refine Xg (t9 (v:=true) rfl) ⟨xT (List.replicate h 0),?_,if1 m2 _ ⟨uo,λv hv=>?_⟩⟩
    ·refine v5 (ve (xs:=[.at (.int 0)]) rfl l1) rfl ?_;show (if -(lim:Int)<=(h:Int)/\(h:Int)<=lim/\[PV.at (.int 0)].length*(h:Int).toNat<=lim then some (PV.lst (List.replicate (h:Int).toNat [PV.at (.int 0)]).flatten) else none)=_;rw [if_pos ⟨by omega,by omega,by simp;omega⟩];unfold xT;simp
    ·rw [List.eq_of_mem_replicate hv];decide
   ·refine zr (t9 (v:=false) ?_) (if1 m2 r hr);show some (PV.at (.bl (decide (way=0))))=_;rw [yB hw]
  ·rintro x2 rest2 zs ε ⟨m2,r,rfl,rfl,g1,g2⟩;simp only [yz] at g1;refine ⟨_,rfl,⟨_,rfl⟩,_,rfl,⟨_,rfl⟩,⟨b,rfl⟩,?_⟩;rintro y n' ⟨v,rfl,v0,v1⟩;refine ⟨n',r++[v],rfl,by rw [yt];rfl,by rw [yQ];simp;omega,λq hq=>?_⟩;rcases yo.mp hq with hq|hq
   ·exact g2 q hq
   ·rw [yN.mp hq,<- eB];exact ⟨v0,by omega⟩
theorem Cg (F:Fun K "_law_rinses" "_law_rinses" Jn f fd)(Ae:Fn P w K mg base 1 "_law_digit" ["row","many"] zp)(At:Fn P w K mg base 2 "_law_number" ["row","great"] (spD xj xp))(Ad:mg "range"=none):FnOk P w K mg base j8 3 f fd ["row","hues","great"] (spD wI jT) :=
 okD (k:=2) (b:=VO K) F sc_rinses Ba (λcdv A outer s H E hr=>⟨_,(@j3 _ _ _ _ _ (@i5 _ _ 3 _ _ _ _ sc_rinses.nd rfl (Or.inl rfl) (i4 Ae hr (by decide) rfl (@j7 _ _ _ _ _ (pv 0) (@j7 _ _ _ _ _ x9 y1 (by rfl)) (by rfl))) (by rfl) (.inl rfl))
  (@j3 _ _ _ _ _ (@i5 _ _ 4 _ _ _ _ sc_rinses.nd rfl (Or.inl rfl) (@xi _ _ _ _ y1) (by rfl) (.inl rfl))
  (@j3 _ _ _ _ _ (qC PassesOwn.never rfl (xz rfl Ad (@j7 _ _ _ _ _ (w5 (qg (K:=K) rfl) (pv 1) x9) y1 (by rfl))) (g7 (i:=5) sc_rinses.nd rfl (Or.inl rfl))
   (@j3 _ _ _ _ _ (zk (i:=6) (N':=["hue","row","great"]) (cap:=[none,some 0,some 2]) (k8 rfl rfl rfl) rfl sc_rinses.nd rfl rfl (xz rfl Ad (@j7 _ _ _ _ _ (pv 1) y1 (by rfl))) (λ_ _ _ _ _ _=>(g7 (i:=0) (by show (["hue","row","great"]:List Str).Nodup;decide +kernel) rfl (Or.inl rfl))) (λ_ _ _ _ _ _=>b9) (λ_ _ _ _ _ _=>(i4 At hr (by decide) rfl (@j7 _ _ _ _ _ (pv 1) (@j7 _ _ _ _ _ (pv 2) y1 (by rfl)) (by rfl)))))
  (@j3 _ _ _ _ _ (c6 (ql (jA (K:=K) (hu6 hr) rfl) (pv 3) x9 (m7 _)) (@j4 _ _ _ (@i5 _ _ 6 _ _ _ _ sc_rinses.nd rfl (Or.inl rfl) (w5 (CH) (@xi _ _ _ _ (@j7 _ _ _ _ _ x9 y1 (by rfl))) (pv 1)) (by rfl) (.inl rfl))) m3)
  (@j3 _ _ _ _ _ (c6 (ql (jA (K:=K) (hu6 hr) rfl) (pv 3) x9 (m7 _)) (@j4 _ _ _ (zk (i:=6) (N':=["number","row"]) (cap:=[none,some 0]) (k8 rfl rfl rfl) rfl sc_rinses.nd rfl rfl (@p0 _ K _ _ _ rfl (pv 6)) (λ_ _ _ _ _ _=>(g7 (i:=0) (by show (["number","row"]:List Str).Nodup;decide +kernel) rfl (Or.inl rfl))) (λ_ _ _ _ _ _=>b9) (λ_ _ _ _ _ _=>(w5 (QR) (pv 0) (i4 Ae hr (by decide) rfl (@j7 _ _ _ _ _ (pv 1) (@j7 _ _ _ _ _ x9 y1 (by rfl)) (by rfl))))))) m3)
  (@j4 _ _ _ (xR (zP (K:=K) rfl PySem.F.plainAttrs_list PySem.F.slot_list_append PySem.F.type_list_append wx (pv 4) (j7 (pv 6) y1))))))))
  (@j4 _ _ _ (w6 (pv 4)))))),
  (by repeat' first|infer_instance|(refine @Mi.instSemWSTSeqWSeq _ _ _ _ ?_ ?_)|(apply @Mi.instSemWSTForWForOfSemWIOfSemWG))⟩) Bg
def twelve:List Str:=["b","ab","a","abc","ba","aa","z","abcdefgh","abcdefgi","zz","abcd","bb"]
theorem MY:twelve.Nodup:=by decide +kernel
theorem MZ:∀ s∈twelve,jQ s:=by
 have:∀ s∈twelve,(∀ c∈s.cps.toList,97<=c/\c<=122)/\1<=s.length/\s.length<=8:=by decide +kernel
 exact λs hs=>⟨(this s hs).1,(this s hs).2.1,(this s hs).2.2⟩
def wG:List PV->Prop:=λxs=>∃ k:Nat,xs=[.at (.int k)]/\k<=12
def wY:List PV->PV->Prop:=λxs y=>∃ ss:List Str,y = .lst (y7 ss)/\xs=[.at (.int ss.length)]/\ss.Nodup/\∀ s∈ss,jQ s
abbrev Jk:Stmt:=top 59
abbrev VL (K:Fg):WS:=(wSeq (wW 2 (qR (q0 (dC (.str "b")) (q0 (dC (.str "ab")) (q0 (dC (.str "a")) (q0 (dC (.str "abc")) (q0 (dC (.str "ba")) (q0 (dC (.str "aa")) (q0 (dC (.str "z")) (q0 (dC (.str "abcdefgh")) (q0 (dC (.str "abcdefgi")) (q0 (dC (.str "zz")) (q0 (dC (.str "abcd")) (q0 (dC (.str "bb")) q9))))))))))))))
  (qx (zX [none,some 2,some 0] [0] (wIp (xI (q0 (q8 1) q9))) (j9 0) zq (wPop 1 (qb 2 (wP (x8 qu (q0 (x6 1) q9))))))))
theorem sc_names:v7 ["row","many","free"] ["row","many"] (j6 Jk):=y0
theorem KW:∀ xs,wG xs->xs.length+1=(["row","many"]:List Str).length:=by rintro xs ⟨k,rfl,_⟩;rfl
theorem Dj {free got all:List Str}(h:j<free.length)(p:(got++free).Perm all):((got++[free[j]])++free.eraseIdx j).Perm all:=by rw [yb];exact ((Zp h).append_left got).trans p
theorem Bd {K:Fg}:∀ xs n,wG xs->VL K (g8 n::xs.map .sh++List.replicate ((["row","many","free"]:List Str).length-(xs.length+1)) .no) (λ_=>False) λy ε=>wY xs y/\xE 0 ε:=by
 rintro xs n ⟨k,rfl,hk⟩;have hl:lim=1000000:=rfl;have hB:=vG;refine ⟨_,rfl,?_⟩;refine ⟨xl 0 k,vB rfl (by omega),rfl,by rw [jH];omega,?_⟩;refine Qi (λrest ys ε=>∃(m:Int)(free got:List Str),ε=[.no,.ow (.lst (y7 free)),g8 m]/\ys=y7 got/\got.length+rest.length=k/\(got++free).Perm twelve) ?_ ?_ (xl 0 k) [] _ ⟨n,twelve,[],rfl,rfl,by rw [jH];simp,.refl _⟩
 ·rintro ys ε ⟨m,free,got,rfl,rfl,h1,h2⟩;have nd:(got++free).Nodup:=h2.nodup_iff.mpr MY;refine ⟨λ_=>⟨_,rfl⟩,⟨got,rfl,?_,(uq.mp nd).1,λs hs=>MZ s (h2.mem_iff.mp (uT _ hs))⟩,m,rfl⟩;simp at h1;rw [h1]
 ·rintro x rest ys ε ⟨m,free,got,rfl,rfl,h1,h2⟩;simp only [yz] at h1;have hlen:=h2.length_eq;rw [yQ,show twelve.length=12 from rfl] at hlen;refine ⟨_,rfl,?_⟩;have hf:0<free.length:=by omega
  have c0:0<=m % (((y7 free).length:Nat):Int):=yk _ (by rw [xD];omega);have c1:m % (((y7 free).length:Nat):Int)<(((y7 free).length:Nat):Int):=yr _ (by rw [xD];omega);refine ⟨⟨_,rfl⟩,⟨m,rfl⟩,_,rfl,m,(((y7 free).length:Nat):Int),rfl,rfl,ji (by rw [xD];omega) (by rw [xD];omega),?_⟩;generalize hj:m % (((y7 free).length:Nat):Int)=j at c0 c1;rw [xD] at c1;have hjl:j.toNat<free.length:=by omega
  refine ⟨y7 free,j,.at (.str free[j.toNat]),rfl,rfl,c0,by rw [xD];exact c1,by rw [xD];omega,?_,?_⟩
  ·unfold y7;rw [yP,yV hjl];rfl
  ·refine ⟨m / (((y7 free).length:Nat):Int),free.eraseIdx j.toNat,got++[free[j.toNat]],?_,?_,?_,Dj hjl h2⟩
   ·show [MSlot.no,MSlot.ow (.lst ((y7 free).eraseIdx j.toNat)),g8 _]=_;unfold y7;rw [XA]
   ·unfold y7;rw [yt];rfl
   ·rw [yQ];simp only [yz,List.length_nil];omega
theorem Cd (F:Fun K "_law_names" "_law_names" Jk f fd)(Ae:Fn P w K mg base 1 "_law_digit" ["row","many"] zp)(Ac:mg "len"=none)(Ad:mg "range"=none):FnOk P w K mg base j8 2 f fd ["row","many"] (spD wG wY) :=
 okD (k:=1) (b:=VL K) F sc_names KW (λcdv A outer s H E hr=>⟨_,(@j3 _ _ _ _ _ (@i5 _ _ 2 _ _ _ _ sc_names.nd rfl (Or.inr rfl) (@xi _ _ _ _ (@j7 _ _ _ _ _ qL (@j7 _ _ _ _ _ qL (@j7 _ _ _ _ _ qL (@j7 _ _ _ _ _ qL (@j7 _ _ _ _ _ qL (@j7 _ _ _ _ _ qL (@j7 _ _ _ _ _ qL (@j7 _ _ _ _ _ qL (@j7 _ _ _ _ _ qL (@j7 _ _ _ _ _ qL (@j7 _ _ _ _ _ qL (@j7 _ _ _ _ _ qL y1 (by rfl)) (by rfl)) (by rfl)) (by rfl)) (by rfl)) (by rfl)) (by rfl)) (by rfl)) (by rfl)) (by rfl)) (by rfl)) (by rfl))) (by rfl) (.inl rfl))
  (@j4 _ _ _ (w6 (m8 (N':=["k","free","row"]) (cap:=[none,some 2,some 0]) (k8 rfl rfl rfl) rfl (xz rfl Ad (@j7 _ _ _ _ _ (pv 1) y1 (by rfl))) (λ_ _ _ _ _ _=>(g7 (i:=0) (by show (["k","free","row"]:List Str).Nodup;decide +kernel) rfl (Or.inl rfl))) (λ_ _ _ _ _ _=>b9) (λ_ _ _ _ _ _=>(zP (K:=K) rfl PySem.F.plainAttrs_list PySem.F.slot_list_pop PySem.F.type_list_pop YA (pv 1) (j7 (i4 Ae hr (by decide) rfl (@j7 _ _ _ _ _ (pv 2) (@j7 _ _ _ _ _ (y2 (o6 (K:=K) rfl) rfl Ac PySem.boot_len (@j7 _ _ _ _ _ (pv 1) y1 (by rfl))) y1 (by rfl)) (by rfl))) y1))))))),
  (by repeat' first|infer_instance|(refine @Mi.instSemWSTSeqWSeq _ _ _ _ ?_ ?_)|(apply @Mi.instSemWSTForWForOfSemWIOfSemWG))⟩) Bd
def vA:List PV->Prop:=λxs=>∃(s:Str)(h:Nat)(b:Bool),xs=[.at (.str s),.at (.int h),.at (.bl b)]/\jQ s/\1<=h/\h<=4
def jR:List PV->PV->Prop:=λxs y=>∃(s:Str)(h:Nat)(b:Bool)(c:Cl),xs=[.at (.str s),.at (.int h),.at (.bl b)]/\y=c.pv/\c.name=s/\c.Ok h
abbrev ZO:Stmt:=top 60
abbrev Vq (K:Fg):WS:=(wSeq (t0 4 (qw xx (qb 0 (wP (dC (.int 40)))) (wP (dC (.int 6)))))
  (wSeq (qN (wPT (m5 (x6 3))) (t0 4 (qw c4 (wP (z0 wB (x6 4) (z0 pPow (dC (.int 10)) (dC (.int 26))))) (qb 0 (wP (dC (.int 3)))))) xn)
  (qx (vF (y6 (wP (q8 1)) (y6 (qb 0 (wP (q8 2))) (y6 (qw c4 (wP (dC (.int 1))) (qZ 0 xj xp (y6 (wP (q8 3)) i6))) (y6 (wP (q8 4)) (y6 (qw c4 (wP (dC (.int 1))) (qb 0 (wP (dC (.int 9))))) i6)))))))))
theorem sc_cloth:v7 ["row","name","hues","great","due"] ["row","name","hues","great"] (j6 ZO):=y0
theorem KU:∀ xs,vA xs->xs.length+1=(["row","name","hues","great"]:List Str).length:=by rintro xs ⟨s,h,b,rfl,_⟩;rfl
theorem Bb {K:Fg}:∀ xs n,vA xs->Vq K (g8 n::xs.map .sh++List.replicate ((["row","name","hues","great","due"]:List Str).length-(xs.length+1)) .no) (λ_=>False) λy ε=>jR xs y/\xE 0 ε:=by
 rintro xs n ⟨s,h,b,rfl,hs,h1,h4⟩;have hB:=vG;obtain ⟨t1,t2,t3⟩:=Ts;have rest:∀(n due:Int),-n9<=due->due<=n9->((qx (vF (y6 (wP (q8 1)) (y6 (qb 0 (wP (q8 2))) (y6 (qw c4 (wP (dC (.int 1))) (qZ 0 xj xp (y6 (wP (q8 3)) i6))) (y6 (wP (q8 4)) (y6 (qw c4 (wP (dC (.int 1))) (qb 0 (wP (dC (.int 9))))) i6))))))):WS) [g8 n,.sh (.at (.str s)),.sh (.at (.int (h:Int))),.sh (.at (.bl b)),.sh (.at (.int due))] (λ_=>False) λy ε=>jR [.at (.str s),.at (.int h),.at (.bl b)] y/\xE 0 ε:=by intro n due d1 d2;refine ⟨_,rfl,⟨_,rfl⟩,_,rfl,n,(h:Int),rfl,rfl,ji (by omega) (by omega),_,rfl,⟨_,rfl⟩,_,rfl,⟨_,rfl⟩,⟨b,rfl⟩,?_⟩;rintro y n' ⟨v,rfl,v0,v1⟩;have u0:0<=n % (h:Int):=yk _ (by omega);have u1:n % (h:Int)<h:=yr _ (by omega);obtain ⟨u,hu⟩:=yj u0;rw [hu] at u1 ⊢;have w0:0<=n' % 9:=yk _ (by decide);have w1:n' % 9<9:=yr _ (by decide);exact ⟨_,rfl,_,rfl,_,rfl,⟨_,rfl⟩,_,rfl,n',9,rfl,rfl,⟨by decide,by decide⟩,_,rfl,l5,⟨s,h,b,⟨s,u,1+v,due,1+n' % 9⟩,rfl,rfl,rfl,⟨hs,(show u<h by omega),(show (1:Int)<=1+v by omega),(show 1+v<=n9 by omega),d1,d2,(show (1:Int)<=1+n' % 9 by omega),(show 1+n' % 9<=n9 by omega)⟩⟩,_,rfl⟩
 refine ⟨⟨n,rfl⟩,_,rfl,n,40,rfl,rfl,⟨by decide,by decide⟩,_,rfl,_,rfl,?_⟩;have a0:0<=n % 40:=yk _ (by decide);have a1:n % 40<40:=yr _ (by decide);generalize n % 40=p at a0 a1 ⊢;generalize n / 40=n1;cases b with
 |false=>exact zr rfl (rest _ _ (by omega) (by omega))
 |true=>have b0:0<=n1 % 3:=yk _ (by decide);have b1:n1 % 3<3:=yr _ (by decide);have m1:(p-6)*T26<=34*T26:=uH (by omega) (by omega);have m2:-6*T26<=(p-6)*T26:=uH (by omega) (by omega);exact Xg rfl ⟨_,v5 rfl (v5 rfl rfl pow26) (Zd (a:=p-6) (b:=T26) (by omega) (by omega) (by omega) (by omega)),⟨_,rfl⟩,_,rfl,n1,3,rfl,rfl,⟨by decide,by decide⟩,_,rfl,rest _ _ (by omega) (by omega)⟩
theorem Pw (F:Fun K "_law_cloth" "_law_cloth" ZO f fd)(Ae:Fn P w K mg base 1 "_law_digit" ["row","many"] zp)(At:Fn P w K mg base 2 "_law_number" ["row","great"] (spD xj xp)):FnOk P w K mg base j8 3 f fd ["row","name","hues","great"] (spD vA jR) :=
 okD (k:=2) (b:=Vq K) F sc_cloth KU (λcdv A outer s H E hr=>⟨_,(@j3 _ _ _ _ _ (@i5 _ _ 4 _ _ _ _ sc_cloth.nd rfl (Or.inl rfl) (w5 (jD) (i4 Ae hr (by decide) rfl (@j7 _ _ _ _ _ (pv 0) (@j7 _ _ _ _ _ x9 y1 (by rfl)) (by rfl))) x9) (by rfl) (.inl rfl))
  (@j3 _ _ _ _ _ (c6 (i9 (K:=K) rfl (pv 3) (λ_=>rfl)) (@j4 _ _ _ (@i5 _ _ 4 _ _ _ _ sc_cloth.nd rfl (Or.inl rfl) (w5 (qg (K:=K) rfl) (w5 (QR) (pv 4) (w5 (vx) x9 x9)) (i4 Ae hr (by decide) rfl (@j7 _ _ _ _ _ (pv 0) (@j7 _ _ _ _ _ x9 y1 (by rfl)) (by rfl)))) (by rfl) (.inl rfl))) m3)
  (@j4 _ _ _ (w6 (@qX _ _ _ _ _ (@j7 _ _ _ _ _ (pv 1) (@j7 _ _ _ _ _ (i4 Ae hr (by decide) rfl (@j7 _ _ _ _ _ (pv 0) (@j7 _ _ _ _ _ (pv 2) y1 (by rfl)) (by rfl))) (@j7 _ _ _ _ _ (w5 (qg (K:=K) rfl) x9 (i4 At hr (by decide) rfl (@j7 _ _ _ _ _ (pv 0) (@j7 _ _ _ _ _ (pv 3) y1 (by rfl)) (by rfl)))) (@j7 _ _ _ _ _ (pv 4) (@j7 _ _ _ _ _ (w5 (qg (K:=K) rfl) x9 (i4 Ae hr (by decide) rfl (@j7 _ _ _ _ _ (pv 0) (@j7 _ _ _ _ _ x9 y1 (by rfl)) (by rfl)))) y1 (by rfl)) (by rfl)) (by rfl)) (by rfl)) (by rfl))))))),
  (by repeat' first|infer_instance|(refine @Mi.instSemWSTSeqWSeq _ _ _ _ ?_ ?_)|(apply @Mi.instSemWSTForWForOfSemWIOfSemWG))⟩) Bb
def wH (K:Fg):List PV->Prop:=λxs=>∃(ns:List Int)(m:Nat),xs=[scr K ns,.at (.int m)]/\ns.length<=63/\m<=10
def jS:List PV->PV->Prop:=λxs y=>∃(d:Dr)(z:PV)(m:Nat),xs=[z,.at (.int m)]/\y=d.pv/\d.Ok/\d.cls.length<=m
abbrev Jm:Stmt:=top 61
abbrev VN (K:Fg):WS:=(wSeq (Xf 2 (jG K) jc (y6 (wP (q8 0)) (y6 (wP (dC (.int 0))) i6)))
  (wSeq (t0 3 (qw pEq (qb 2 (wP (dC (.int 6)))) (wP (dC (.int 5)))))
  (wSeq (t0 4 (qw c4 (wP (dC (.int 1))) (qb 2 (wP (dC (.int 4))))))
  (wSeq (t0 5 (qZ 2 wI jT (y6 (wP (q8 4)) (y6 (wP (q8 3)) i6))))
  (wSeq (Xf 6 (jG K) jc (y6 (wP (q8 0)) (y6 (wP (dC (.int 1))) i6)))
  (wSeq (t0 7 (qZ 6 wG wY (y6 (qb 6 (wP (z0 c4 (x6 1) (dC (.int 1))))) i6)))
  (wSeq (t0 8 (zX [none,some 6,some 4,some 3] [0] (wIp (u5 (q8 7))) (j9 0) zq (qZ 1 vA jR (y6 (wP (q8 0)) (y6 (wP (q8 2)) (y6 (wP (q8 3)) i6))))))
  (qx (vF (y6 (wP (q8 5)) (y6 (wP (q8 8)) (y6 (qw xx (qb 2 (wP (z0 c4 (x6 4) (dC (.int 1))))) (wP (dC (.int 1)))) (y6 (qZ 2 xj xp (y6 (wP (q8 3)) i6)) i6)))))))))))))
theorem sc_parts:v7 ["script","most","row","great","hues","rinses","more","names","cloths"] ["script","most"] (j6 Jm):=y0
theorem KZ {K:Fg}:∀ xs,wH K xs->xs.length=(["script","most"]:List Str).length:=by rintro xs ⟨ns,m,rfl,_⟩;rfl
theorem Bf {K:Fg}:∀ xs,wH K xs->VN K (xs.map .sh++List.replicate ((["script","most","row","great","hues","rinses","more","names","cloths"]:List Str).length-xs.length) .no) (λ_=>False) λy _=>jS xs y:=by
 rintro xs ⟨ns,mo,rfl,h63,hmo⟩;have hB:=vG;obtain ⟨t1,t2,t3⟩:=Ts;have hlim:lim=1000000:=rfl;refine ⟨_,rfl,_,rfl,⟨ns,0,rfl,h63,by decide,by decide⟩,?_⟩;rintro y ⟨n,rfl⟩
 -- great,hues
 refine ⟨⟨n,rfl⟩,_,rfl,n,6,rfl,rfl,⟨by decide,by decide⟩,_,rfl,_,rfl,?_⟩;generalize h8 (.int (n % 6)) (.int 5)=great;generalize n / 6=n1;refine ⟨_,rfl,⟨_,rfl⟩,_,rfl,n1,4,rfl,rfl,⟨by decide,by decide⟩,_,rfl,?_⟩;have a0:0<=n1 % 4:=yk _ (by decide);have a1:n1 % 4<4:=yr _ (by decide);obtain ⟨h,hh⟩:=yj (show 0<=1+n1 % 4 by omega);generalize n1 / 4=n2;have hh1:1<=h:=by omega
 have hh4:h<=4:=by omega
 rw [hh];clear a0 a1 hh
 -- rinses
 refine ⟨⟨_,rfl⟩,_,rfl,_,rfl,⟨_,rfl⟩,⟨h,great,rfl,hh1,hh4⟩,?_⟩;rintro y n3 ⟨h',b',rss,e,rfl,hr⟩;have e':h'=h:=by injection e with e _;injection e with e;injection e with e;omega
 subst e';have fin:∀(n3 m:Int)(z:MSlot)(cs:List Cl),cs.length<=10->cs.length<=mo->(∀ c∈cs,c.Ok h')->(cs.map Cl.name).Nodup->((qx (vF (y6 (wP (q8 5)) (y6 (wP (q8 8)) (y6 (qw xx (qb 2 (wP (z0 c4 (x6 4) (dC (.int 1))))) (wP (dC (.int 1)))) (y6 (qZ 2 xj xp (y6 (wP (q8 3)) i6)) i6)))))):WS) [.sh (scr K ns),.sh (.at (.int (mo:Int))),g8 n3,.sh (.at (.bl great)),.sh (.at (.int (h':Int))),.sh (k5 rss),g8 m,z,.sh (.lst (cs.map Cl.pv))] (λ_=>False) λy _=>jS [scr K ns,.at (.int (mo:Int))] y:=by intro n3 m z cs l10 lmo g1 nd;have d0:0<=n3 % ((h':Int)+1):=yk _ (by omega);have d1:n3 % ((h':Int)+1)<(h':Int)+1:=yr _ (by omega);refine ⟨_,rfl,_,rfl,⟨n3,rfl⟩,_,rfl,n3,(h':Int)+1,rfl,rfl,ji (by omega) (by omega),_,rfl,_,rfl,⟨_,rfl⟩,_,rfl,⟨_,rfl⟩,⟨great,rfl⟩,?_⟩;rintro y n4 ⟨ti,rfl,ti0,ti1⟩;exact ⟨by show 4<=lim;decide,⟨h',rss,cs,n3 % ((h':Int)+1)-1,ti⟩,scr K ns,mo,rfl,rfl,⟨hh1,hh4,hr,l10,g1,nd,(by show -1<=n3 % ((h':Int)+1)-1;omega),(by show n3 % ((h':Int)+1)-1<(h':Int);omega),ti0,(by show ti<60*n9;omega)⟩,lmo⟩
 -- cloths
 have cloths:∀(n3 q2:Int)(ss:List Str)(k:Nat),ss.length=k->k<=mo->ss.Nodup->(∀ s∈ss,jQ s)->((wSeq (t0 8 (zX [none,some 6,some 4,some 3] [0] (wIp (u5 (q8 7))) (j9 0) zq (qZ 1 vA jR (y6 (wP (q8 0)) (y6 (wP (q8 2)) (y6 (wP (q8 3)) i6))))))
  (qx (vF (y6 (wP (q8 5)) (y6 (wP (q8 8)) (y6 (qw xx (qb 2 (wP (z0 c4 (x6 4) (dC (.int 1))))) (wP (dC (.int 1)))) (y6 (qZ 2 xj xp (y6 (wP (q8 3)) i6)) i6))))))):WS) [.sh (scr K ns),.sh (.at (.int (mo:Int))),g8 n3,.sh (.at (.bl great)),.sh (.at (.int (h':Int))),.sh (k5 rss),g8 q2,.sh (.lst (y7 ss)),.no] (λ_=>False) λy _=>jS [scr K ns,.at (.int (mo:Int))] y:=by
  intro n3 q2 ss k el hkm nd nok;refine ⟨_,rfl,rfl,by rw [xD];omega,?_⟩;refine Qi (λrest ys ε=>∃(m:Int)(todo:List Str)(cs:List Cl),rest=y7 todo/\ε=[.no,g8 m,.sh (.at (.int (h':Int))),.sh (.at (.bl great))]/\ys=cs.map Cl.pv/\cs.map Cl.name++todo=ss/\(∀ c∈cs,c.Ok h')) ?_ ?_ _ [] _ ⟨q2,ss,[],rfl,rfl,rfl,rfl,(λ_ z=>nomatch z)⟩
  ·rintro ys ε ⟨m,todo,cs,e2,rfl,rfl,e3,g1⟩;have:todo=[]:=by
    cases todo with
    |nil=>rfl
    |cons _ _=>cases e2
   subst this;rw [yq] at e3;have cl:cs.length=k:=by rw [<- el,<- e3,yZ]
   refine ⟨(λ⟨y,e⟩=>nomatch (show some (MSlot.sh (scr K ns))=some (MSlot.ow y) from e)),?_⟩;exact fin n3 m _ cs (by omega) (by omega) g1 (by rw [e3];exact nd)
  ·rintro x rest ys ε ⟨m,todo,cs,e2,rfl,rfl,e3,g1⟩;cases todo with
   |nil=>cases e2
   |cons s todo =>
    have e2':x = .at (.str s)/\rest=y7 todo:=by injection e2 with e4 e5;exact ⟨e4,e5⟩
    obtain ⟨rfl,rfl⟩:=e2';have hs:s∈ss:=by rw [<- e3];exact yv _ yR
    refine ⟨_,rfl,⟨_,rfl⟩,_,rfl,_,rfl,_,rfl,⟨_,rfl⟩,⟨s,h',great,rfl,nok s hs,hh1,hh4⟩,?_⟩;rintro y m2 ⟨s2,h2,b2,c,e4,rfl,en,ok⟩;injection e4 with e4 e5;injection e4 with e4;injection e4 with e4;injection e5 with e5 _;injection e5 with e5;injection e5 with e5;have e6:h'=h2:=by omega
    subst e4 e6;refine ⟨m2,todo,cs++[c],rfl,rfl,by rw [yt];rfl,by rw [yt,yb,<- e3];show _++(c.name::todo)=_;rw [en],λx hx=>?_⟩;rcases yo.mp hx with hx|hx
    ·exact g1 x hx
    ·rw [yN.mp hx];exact ok
 -- names
 refine ⟨_,rfl,_,rfl,⟨ns,1,rfl,h63,by decide,by decide⟩,?_⟩;rintro y ⟨q,rfl⟩;have c0:0<=q % ((mo:Int)+1):=yk _ (by omega);have c1:q % ((mo:Int)+1)<(mo:Int)+1:=yr _ (by omega);obtain ⟨k,hk⟩:=yj c0;refine ⟨⟨_,rfl⟩,⟨_,rfl⟩,_,rfl,q,(mo:Int)+1,rfl,rfl,ji (by omega) (by omega),⟨_,rfl⟩,⟨k,by rw [hk],by omega⟩,?_⟩;rintro y q2 ⟨ss,rfl,e1,nd,nok⟩;have el:ss.length=k:=by injection e1 with e1 _;injection e1 with e1;injection e1 with e1;rw [hk] at e1;omega
 exact cloths n3 q2 ss k el (by omega) nd nok
theorem Cf (F:Fun K "_law_parts" "_law_parts" Jm f fd)(E5:Fn P w K mg base 3 "_law_cloth" ["row","name","hues","great"] (spD vA jR))(Ae:Fn P w K mg base 1 "_law_digit" ["row","many"] zp)(E9:Fn P w K mg base 2 "_law_names" ["row","many"] (spD wG wY))(At:Fn P w K mg base 2 "_law_number" ["row","great"] (spD xj xp))(Em:Fn P w K mg base 3 "_law_rinses" ["row","hues","great"] (spD wI jT))(A7:Fn P w K mg base 2 "_law_stream" ["script","k"] (spN (jG K) jc)):FnOk P w K mg base j8 4 f fd ["script","most"] (spV (wH K) jS) :=
 okV (k:=3) (b:=VN K) F sc_parts KZ (λcdv A outer s H E hr=>⟨_,(@j3 _ _ _ _ _ (@i5 _ _ 2 _ _ _ _ sc_parts.nd rfl (Or.inl rfl) (i4 A7 hr (by decide) rfl (@j7 _ _ _ _ _ (pv 0) (@j7 _ _ _ _ _ x9 y1 (by rfl)) (by rfl))) (by rfl) (.inl rfl))
  (@j3 _ _ _ _ _ (@i5 _ _ 3 _ _ _ _ sc_parts.nd rfl (Or.inr rfl) (zR (jA (K:=K) (hu6 hr) rfl) (i4 Ae hr (by decide) rfl (@j7 _ _ _ _ _ (pv 2) (@j7 _ _ _ _ _ x9 y1 (by rfl)) (by rfl))) x9 (m7 _)) (by rfl) (.inl rfl))
  (@j3 _ _ _ _ _ (@i5 _ _ 4 _ _ _ _ sc_parts.nd rfl (Or.inr rfl) (w5 (qg (K:=K) rfl) x9 (i4 Ae hr (by decide) rfl (@j7 _ _ _ _ _ (pv 2) (@j7 _ _ _ _ _ x9 y1 (by rfl)) (by rfl)))) (by rfl) (.inl rfl))
  (@j3 _ _ _ _ _ (@i5 _ _ 5 _ _ _ _ sc_parts.nd rfl (Or.inl rfl) (i4 Em hr (by decide) rfl (@j7 _ _ _ _ _ (pv 2) (@j7 _ _ _ _ _ (pv 4) (@j7 _ _ _ _ _ (pv 3) y1 (by rfl)) (by rfl)) (by rfl))) (by rfl) (.inl rfl))
  (@j3 _ _ _ _ _ (@i5 _ _ 6 _ _ _ _ sc_parts.nd rfl (Or.inr rfl) (i4 A7 hr (by decide) rfl (@j7 _ _ _ _ _ (pv 0) (@j7 _ _ _ _ _ x9 y1 (by rfl)) (by rfl))) (by rfl) (.inl rfl))
  (@j3 _ _ _ _ _ (@i5 _ _ 7 _ _ _ _ sc_parts.nd rfl (Or.inl rfl) (i4 E9 hr (by decide) rfl (@j7 _ _ _ _ _ (pv 6) (@j7 _ _ _ _ _ (i4 Ae hr (by decide) rfl (@j7 _ _ _ _ _ (pv 6) (@j7 _ _ _ _ _ (w5 (qg (K:=K) rfl) (pv 1) x9) y1 (by rfl)) (by rfl))) y1 (by rfl)) (by rfl))) (by rfl) (.inl rfl))
  (@j3 _ _ _ _ _ (zk (i:=8) (N':=["name","more","hues","great"]) (cap:=[none,some 6,some 4,some 3]) (k8 rfl rfl rfl) rfl sc_parts.nd rfl rfl (@p0 _ K _ _ _ rfl (pv 7)) (λ_ _ _ _ _ _=>(g7 (i:=0) (by show (["name","more","hues","great"]:List Str).Nodup;decide +kernel) rfl (Or.inl rfl))) (λ_ _ _ _ _ _=>b9) (λ_ _ _ _ _ _=>(i4 E5 hr (by decide) rfl (@j7 _ _ _ _ _ (pv 1) (@j7 _ _ _ _ _ (pv 0) (@j7 _ _ _ _ _ (pv 2) (@j7 _ _ _ _ _ (pv 3) y1 (by rfl)) (by rfl)) (by rfl)) (by rfl)))))
  (@j4 _ _ _ (w6 (@qX _ _ _ _ _ (@j7 _ _ _ _ _ (pv 5) (@j7 _ _ _ _ _ (pv 8) (@j7 _ _ _ _ _ (w5 (jD) (i4 Ae hr (by decide) rfl (@j7 _ _ _ _ _ (pv 2) (@j7 _ _ _ _ _ (w5 (qg (K:=K) rfl) (pv 4) x9) y1 (by rfl)) (by rfl))) x9) (@j7 _ _ _ _ _ (i4 At hr (by decide) rfl (@j7 _ _ _ _ _ (pv 2) (@j7 _ _ _ _ _ (pv 3) y1 (by rfl)) (by rfl))) y1 (by rfl)) (by rfl)) (by rfl)) (by rfl)))))))))))),
  (by repeat' first|infer_instance|(refine @Mi.instSemWSTSeqWSeq _ _ _ _ ?_ ?_)|(apply @Mi.instSemWSTForWForOfSemWIOfSemWG))⟩) Bf
structure Mat (H:Hp)(F:Addr)(as:List Addr)(M:List (List Int)):Prop where
 top:H F=some (.lst (as.map V.ref))
 len:as.length=M.length
 row:∀(i:Nat)(a:Addr)(r:List Int),as[i]?=some a->M[i]?=some r->H a=some (.lst (r.map V.int))
 nd:(F::as).Nodup
def me (M:List (List Int))(f g:Nat):Int:=(M.getD f []).getD g 0
def qU (M:List (List Int))(i l:Nat)(v:Int):List (List Int):=M.set i ((M.getD i []).set l v)
theorem Pb {M:List (List Int)}{i f:Nat}(hi:i<M.length)(hl:l<(M.getD i []).length)(v:Int):me (qU M i l v) f g=if f=i/\g=l then v else me M f g:=by
 unfold me qU;by_cases hf:f=i
 ·subst hf;have e:(M.set f ((M.getD f []).set l v)).getD f []=(M.getD f []).set l v:=by rw [yF,uZ hi];rfl
  rw [e];by_cases hg:g=l
  ·subst hg;rw [if_pos ⟨rfl,rfl⟩,yF,uZ hl];rfl
  ·rw [if_neg (λz=>hg z.2),yF,yw (Ne.symm hg),<- yF]
 ·have e:(M.set i ((M.getD i []).set l v)).getD f []=M.getD f []:=by rw [yF,yw (Ne.symm hf),<- yF]
  rw [if_neg (λz=>hf z.1),e]
theorem Mat.set {F:Addr}{M:List (List Int)}(m:Mat H F as M){i:Nat}{a:Addr}(ha:as[i]?=some a)(l:Nat)(v:Int):Mat (z6 H a (.lst (((M.getD i []).set l v).map V.int))) F as (qU M i l v):=by
 have nd:=yx.mp m.nd;have am:a∈as:=yp ha;have fa:F≠a:=λz=>nd.1 (z▸am);have hi:i<M.length:=by rw [<- m.len];exact (yH.mp ha).1
 refine ⟨by rw [z8 fa];exact m.top,by unfold qU;rw [yn];exact m.len,λj b r hb hr=>?_,m.nd⟩;unfold qU at hr;by_cases hj:j=i
 ·subst hj;rw [ha] at hb;cases hb;rw [uZ hi] at hr;cases hr;exact w9
 ·rw [yw (Ne.symm hj)] at hr;have:b≠a:=λz=>by
   subst z;obtain ⟨h1,e1⟩:=yH.mp ha;obtain ⟨h2,e2⟩:=yH.mp hb;exact hj ((List.getElem_inj (h₀:=h2) (h₁:=h1) nd.2).mp (e2.trans e1.symm))
  rw [z8 this];exact m.row j b r hb hr
structure ShM (h:Nat)(M:List (List Int)):Prop where
 len:M.length=h+1
 row:∀ i,i<=h->(M.getD i []).length=h
theorem ShM.set {M:List (List Int)}(s:ShM h M){i:Nat}(v:Int):ShM h (qU M i l v):=by
 refine ⟨by unfold qU;rw [yn];exact s.len,λj hj=>?_⟩;unfold qU;by_cases e:j=i
 ·subst e;rw [yF,uZ (by rw [s.len];omega)];show ((M.getD j []).set l v).length=h;rw [yn];exact s.row j hj
 ·rw [yF,yw (Ne.symm e),<- yF];exact s.row j hj
theorem ShM.ofGood {M:List (List Int)}(G:b8 h M):ShM h M:=⟨G.len,λi hi=>by
 have hl:i<M.length:=by rw [G.len];omega
 rw [y9 hl];exact (G.row _ (yu hl)).1⟩
structure Rlx (rss:List (List Int))(h t:Nat)(M:List (List Int)):Prop where
 sh:ShM h M
 ge:∀ f g,f<=h->g<h->(v6 (u8 rss h) f g).1<=me M f g
 z:∀ f g,f<=h->g<h->me M f g<=k6 rss h 0 f g
 t:∀ f g,f<=h->g<h->me M f g<=k6 rss h t f g
theorem Rlx.step {M:List (List Int)}(G:b8 h rss)(R:Rlx rss h t M){i a:Nat}(hi:i<=h)(ha:a<h)(hl:l<h)(hv:v=me M i l∨v=me M i a+me M a l)(v1:v<=me M i l)(v2:v<=me M i a+me M a l):Rlx rss h t (qU M i l v)/\(∀ f g,me (qU M i l v) f g<=me M f g)/\me (qU M i l v) i l<=k6 rss h t i a+k6 rss h 0 a l:=by
 have hil:i<M.length:=by rw [R.sh.len];omega
 have hll:l<(M.getD i []).length:=by rw [R.sh.row i hi];exact hl
 have ee:=λf g=>Pb (M:=M) (i:=i) (l:=l) (f:=f) (g:=g) hil hll v;have dn:∀ f g,me (qU M i l v) f g<=me M f g:=λf g=>by
  rw [ee];split
  ·rename_i e;rw [e.1,e.2];exact v1
  ·exact uJ _
 refine ⟨⟨R.sh.set v,λf g hf hg=>?_,λf g hf hg=>uE (dn f g) (R.z f g hf hg),λf g hf hg=>uE (dn f g) (R.t f g hf hg)⟩,dn,?_⟩
 ·rw [ee];split
  ·rename_i e;rw [e.1,e.2];rcases hv with hv|hv
   ·rw [hv];exact R.ge i l hi hl
   ·have t1:=(FW.all G h (yU _)).tri a i l ha hi hl;have t2:=R.ge i a hi ha;have t3:=R.ge a l (by omega) hl;omega
  ·exact R.ge f g hf hg
 ·rw [ee,if_pos ⟨rfl,rfl⟩];have t2:=R.t i a hi ha;have t3:=R.z a l (by omega) hl;omega
theorem GC (G:b8 h rss){f:Nat}(hf:f<=h)(hg:g<h):k6 rss h 0 f g=rin rss (f:Int) (g:Int):=(zV G hf hg).symm
theorem GB (G:b8 h rss){f:Nat}(hf:f<=h)(hg:g<h)(h0:v<=k6 rss h t f g)(h1:∀ a,a<h->v<=k6 rss h t f a+k6 rss h 0 a g):v<=k6 rss h (t+1) f g:=by
 rw [Qd G hf hg];rcases yK.mp (ww (l:=k6 rss h t f g::(List.range h).map λa=>k6 rss h t f a+rin rss (a:Int) (g:Int)) (by simp)) with e|e
 ·rw [e];exact h0
 ·obtain ⟨a,ha,e⟩:=yA.mp e;have ha:=ya.mp ha;rw [<- e,<- GC G (by omega) hg];exact h1 a ha
theorem BR {M:List (List Int)}(G:b8 h rss)(ht:h<=t)(R:Rlx rss h t M):M=qd rss h:=by
 have G2:=wa G;have dec:∀ k f g,f<=h->g<h->k6 rss h (k+1) f g<=k6 rss h k f g:=λk f g hf hg=>by
  rw [Qd G hf hg];exact vq yR
 have dec2:∀ k f g,f<=h->g<h->k6 rss h (h+k) f g<=k6 rss h h f g:=λk f g hf hg=>by
  induction k with
  |zero=>exact uJ _
  |succ k ih=>exact uE (dec (h+k) f g hf hg) ih
 have lowE:∀ f g,f<=h->g<h->((qd rss h).getD f []).getD g 0=(v6 (u8 rss h) f g).1:=λf g hf hg=>Yx G hf hg;have bl:∀ f g,f<=h->g<h->k6 rss h h f g=(v6 (u8 rss h) f g).1:=λf g hf hg=>by
  unfold k6;rw [GA G];exact lowE f g hf hg
 refine List.ext_getElem (by rw [R.sh.len,G2.len]) λi h1 h2=>?_;have hi:i<=h:=by rw [R.sh.len] at h1;omega
 have r1:=R.sh.row i hi;rw [y9 h1] at r1;have r2:=(G2.row _ (yu h2)).1;refine List.ext_getElem (by rw [r1,r2]) λj j1 j2=>?_;have hj:j<h:=by rw [r1] at j1;exact j1
 have e1:M[i][j]=me M i j:=by unfold me;rw [y9 h1,y9 j1]
 have e2:(qd rss h)[i][j]=(v6 (u8 rss h) i j).1:=by rw [<- lowE i j hi hj,y9 h2,y9 j2]
 rw [e1,e2];have a:=R.ge i j hi hj;have b:=R.t i j hi hj;have c:=dec2 (t-h) i j hi hj;rw [show h+(t-h)=t by omega,bl i j hi hj] at c;omega
theorem Zw {K:Fg}{i:Nat}{xs:List V}{k:Int}(hi:σ[i]?=some (some (.ref p)))(hj:σ[j]?=some (some (.int k)))(hp:H p=some (.lst xs))(hk:atI xs k=some u)(q:Q u H):tOp (rIx K) (n8 i) (n8 j) σ H Q :=
 ⟨_,hi,_,hj,.inl ⟨p,xs,k,u,rfl,rfl,SqL.of hp,hk,q⟩⟩
theorem Xl {k:Nat}(h:k<r.length):atI (r.map V.int) ((0:Int)+(k:Int))=some (.int (r.getD k 0)):=by rw [Int.zero_add];exact qQ (by rw [yP,yV h,y9 h];rfl)
theorem Qx {K:Fg}{R:It->Hp->Prop}{i:Nat}{xs:List V}(hi:σ[i]?=some (some (.ref p)))(hp:SqL K H p xs)(hl:xs.length<=1000)(q:R (Itr 0 xs.length) H):jq (p8 (tCB (zm K) (p8 (n8 i) c5)) c5) σ H R :=
 ⟨_,hi,.inl ⟨_,_,rfl,.inl ⟨xs,hp,rfl⟩,(xs.length:Int),rfl,by omega,by omega,by rw [Int.toNat_natCast];exact q⟩⟩
noncomputable def zM:List PV->Option PV:=λxs=>open Classical in if h:∃(n:Nat)(rss:List (List Int)),xs=[k5 rss]/\b8 n rss/\1<=n/\n<=4 then some (k5 (qd h.choose_spec.choose h.choose)) else none
theorem DG {a b:List (List Int)}(h:k5 a=k5 b):a=b:=by unfold k5 at h;injection h with h;exact QM (λx y e=>by injection e with e;exact QM (λ_ _ e=>by injection e with e;injection e) e) h
theorem Lv (G:b8 h rss)(h1:1<=h)(h4:h<=4):zM [k5 rss]=some (k5 (qd rss h)):=by
 have ex:∃(n:Nat)(rs:List (List Int)),[k5 rss]=[k5 rs]/\b8 n rs/\1<=n/\n<=4:=⟨h,rss,rfl,G,h1,h4⟩;unfold zM;rw [dif_pos ex];have q:=ex.choose_spec.choose_spec;generalize ex.choose_spec.choose=rs at q;generalize ex.choose=n at q;obtain ⟨e,G',_⟩:=q;injection e with e _;have e:=DG e;subst e;have:n=h:=by have:=G.len;have:=G'.len;omega
 subst this;rfl
theorem Yo (h:zM xs=some y):∃(n:Nat)(rss:List (List Int)),xs=[k5 rss]/\b8 n rss/\1<=n/\n<=4/\y=k5 (qd rss n):=by
 unfold zM at h;split at h
 ·rename_i ex;obtain ⟨e,G,h1,h4⟩:=ex.choose_spec.choose_spec;exact ⟨_,_,e,G,h1,h4,(Option.some.inj h).symm⟩
 ·cases h
theorem KR (h:z7 zM vs H Q E):vs.length=(["rinses"]:List Str).length:=by obtain ⟨Hs,xs,y,_,r,e,_⟩:=h;obtain ⟨n,rss,rfl,_⟩:=Yo e;rw [r.length];rfl
structure Copied (H0 H:Hp)(as:List Addr)(M:List (List Int)):Prop where
 len:as.length=M.length
 row:∀(i:Nat)(a:Addr)(r:List Int),as[i]?=some a->M[i]?=some r->H a=some (.lst (r.map V.int))
 new:∀ a∈as,H0 a=none
 nd:as.Nodup
 keep:Same H0 H
theorem Copied.snoc {M:List (List Int)}(c:Copied H0 H as M){a:Addr}(ha:H a=none):Copied H0 (z6 H a (.lst (r.map V.int))) (as++[a]) (M++[r]):=by
 have na:∀ b∈as,b≠a:=λb hb z=>by
  obtain ⟨i,hi,e⟩:=List.mem_iff_getElem.mp hb;have hm:i<M.length:=by rw [<- c.len];exact hi
  have:=c.row i b M[i] (by rw [yV hi,e]) (yV hm);rw [z,ha] at this;cases this
 refine ⟨by rw [yQ,yQ,c.len];rfl,λi b q hb hq=>?_,λb hb=>?_,?_,λb o h=>?_⟩
 ·rw [List.getElem?_append] at hb hq;split at hb
  ·rename_i hi;rw [if_pos (by rw [<- c.len];exact hi)] at hq;rw [z8 (na b (yp hb))];exact c.row i b q hb hq
  ·rename_i hi;rw [if_neg (by rw [<- c.len];exact hi)] at hq;rw [c.len] at hb;cases hk:i-M.length with
   |zero=>rw [hk] at hb hq;cases hb;cases hq;exact w9
   |succ k=>rw [hk] at hb;simp at hb
 ·rcases yo.mp hb with hb|hb
  ·exact c.new b hb
  ·rw [yN.mp hb];cases h:H0 a with
   |none=>rfl
   |some o=>rw [c.keep _ _ h] at ha;cases ha
 ·refine uq.mpr ⟨c.nd,yx.mpr ⟨by simp,uy⟩,λx hx y hy=>?_⟩;rw [yN.mp hy];exact na x hx
 ·rw [z8 (λz=>by rw [z,] at h;rw [c.keep _ _ h] at ha;cases ha)];exact c.keep b o h
abbrev Jd:Stmt:=top 63
theorem sc_least:v7 ["rinses","found","turn","row","amid","last"] ["rinses"] (j6 Jd):=y0
theorem PU (F:Fun K "_law_least" "_law_least" Jd f fd)(Ac:mg "len"=none)(Ag:mg "list"=none)(Eu:mg "min"=none)(Ad:mg "range"=none):FnOk P w K mg base j8 1 f fd ["rinses"] (z7 zM):=by
 refine F.ok (k:=0) sc_least (λvs H Q E h=>KR h) (λcdv A outer s H vs Q E hr h=>⟨_,(j3 (zk (i:=1) (N':=["row"]) (cap:=[none]) (k8 rfl rfl rfl) rfl sc_least.nd rfl rfl (@p0 _ K _ _ _ rfl (pv 0)) (λ_ _ _ _ _ _=>(g7 (i:=0) (by show (["row"]:List Str).Nodup;decide +kernel) rfl (Or.inl rfl))) (λ_ _ _ _ _ _=>b9) (λ_ _ _ _ _ _=>(zQ (Xq (K:=K) rfl) rfl Ag xW (aW (pv 0)))))
  (j3 (qC PassesOwn.never rfl (xz rfl Ad (aW (y2 (o6 (K:=K) rfl) rfl Ac PySem.boot_len (aW (pv 0))))) (gW 2 sc_least.nd)
   (j4 (qC PassesOwn.never rfl (@p0 _ K _ _ _ rfl (pv 1)) (gW 3 sc_least.nd)
   (j4 (qC PassesOwn.never rfl (xz rfl Ad (aW (y2 (o6 (K:=K) rfl) rfl Ac PySem.boot_len (aW (pv 3))))) (gW 4 sc_least.nd)
   (j4 (qC PassesOwn.never rfl (xz rfl Ad (aW (y2 (o6 (K:=K) rfl) rfl Ac PySem.boot_len (aW (pv 3))))) (gW 5 sc_least.nd)
   (j4 (Zs (y2 (GX rfl) rfl Eu Wm (aC (iW (K:=K) rfl (pv 3) (pv 5)) (aW (w5 (qg (K:=K) rfl) (iW (K:=K) rfl (pv 3) (pv 4)) (iW (K:=K) rfl (iW (K:=K) rfl (pv 1) (pv 4)) (pv 5)))))) (YK (pv 3) (pv 5) UA))))))))))
  (j4 (w6 (pv 1))))),?_⟩)
 obtain ⟨Hs,xs,y,sm,r,e,q⟩:=h;obtain ⟨h,rss,rfl,G,h1,h4,rfl⟩:=Yo e;obtain ⟨v0,rr,rfl,p1,p2⟩:=reps_cons.mp r;cases reps_nil.mp p2;obtain ⟨A0,ws,rfl,hA,rA⟩:=rep_lst.mp p1;have hlim:lim=1000000:=rfl;have glen:=G.len;have wl:ws.length=h+1:=by rw [rA.length,yZ];exact glen
 -- copies
 refine ⟨_,rfl,A0,rfl,⟨ws,SqL.of (sm _ _ hA)⟩,Xu (xs:=ws) (λi ys H'=>∃ as:List Addr,ys=as.map V.ref/\Copied H H' as (rss.take i)) ⟨[],rfl,rfl,(λ_ _ _ z=>by simp at z),(λ_ z=>nomatch z),uy,.refl _⟩ (λi ys H' hi ⟨as,e,c⟩=>qp (by rw [e,yZ,c.len,um];omega)) (λi ys H' hi ⟨as,e,c⟩=>SqL.of (c.keep _ _ (sm _ _ hA))) ?_ ?_⟩
 ·rintro i x ys H' R hx ⟨as,rfl,c⟩ hR;have hi:i<rss.length:=by have:=(yH.mp hx).1;omega
  obtain ⟨w,hw,rw'⟩:=rA.get (i:=i) (x:= .lst (rss[i].map λn=> .at (.int n))) (by rw [yP,yV hi];rfl);rw [hx] at hw;cases hw;obtain ⟨b,us,rfl,hb,rb⟩:=rep_lst.mp rw';have eu:us=rss[i].map V.int:=by have:=Reps.ats (us:=rss[i].map V.int) (by rw [yC];exact rb);exact this
  subst eu;refine ⟨Wk.one rfl,_,rfl,b,_,rfl,.inl (SqL.of (c.keep _ _ (sm _ _ hb))),λl hl=>hR _ _ ⟨as++[l],by rw [yt];rfl,?_⟩⟩;rw [List.take_add_one,yV hi];exact c.snoc hl
 ·rintro ys H1 ⟨as,rfl,c⟩ F hF;rw [wl,<- glen,List.take_length] at c;have m0:Mat (z6 H1 F (.lst (as.map V.ref))) F as rss:=by
   have fa:∀ a∈as,a≠F:=λa ha z=>by
    obtain ⟨i,hi,e⟩:=List.mem_iff_getElem.mp ha;have hm:i<rss.length:=by rw [<- c.len];exact hi
    have:=c.row i a rss[i] (by rw [yV hi,e]) (yV hm);rw [z,hF] at this;cases this
   exact ⟨w9,c.len,λi a r ha hr=>by rw [z8 (fa a (yp ha))];exact c.row i a r ha hr,yx.mpr ⟨λz=>fa F z rfl,c.nd⟩⟩
  have k0:Same H (z6 H1 F (.lst (as.map V.ref))):=c.keep.trans (Xc hF _);have nF:H F=none:=by
   cases z:H F with
   |none=>rfl
   |some o=>rw [c.keep _ _ z] at hF;cases hF
  have al:as.length=h+1:=c.len.trans glen;have kp:∀{H2:Hp}{a:Addr}{o:HO},Same H H2->a∈as->Same H (z6 H2 a o):=λ{H2 a o} k ha b u z=>by
   rw [z8 (λe=>by rw [e,c.new a ha] at z;cases z)];exact k b u z
  have R0:Rlx rss h 0 rss:=⟨ShM.ofGood G,λf g hf hg=>by
   have:=Qe G 0 f g hf hg;exact this,λf g _ _=>uJ _,λf g _ _=>uJ _⟩
  show tFor (jq (p8 (tCB (zm K) (p8 (n8 0) c5)) c5)) (e7 2) _ _ [some (.ref A0),some (.ref F),none,none,none,none] _;refine Qx (K:=K) (i:=0) (p:=A0) (xs:=ws) (σ:=[some (.ref A0),some (.ref F),none,none,none,none]) rfl (SqL.of (k0 _ _ (sm _ _ hA))) (by omega) ?_;refine vU (λt σ H2=>∃(M:List (List Int))(s2 s3 s4 s5:Option V),σ=[some (.ref A0),some (.ref F),s2,s3,s4,s5]/\Mat H2 F as M/\Same H H2/\Rlx rss h t M) ⟨rss,_,_,_,_,rfl,m0,k0,R0⟩ ?_ ?_
  ·rintro t σ H2 ht ⟨M,s2,s3,s4,s5,rfl,m,k,R⟩;refine ⟨_,rfl,F,rfl,⟨_,SqL.of m.top⟩,KI (xs:=as.map V.ref) (λi σ H2=>∃(M:List (List Int))(s3 s4 s5:Option V),σ=[some (.ref A0),some (.ref F),some (.int (0+t)),s3,s4,s5]/\Mat H2 F as M/\Same H H2/\Rlx rss h t M/\∀ f g,f<i->f<=h->g<h->me M f g<=k6 rss h (t+1) f g) ⟨M,s3,s4,s5,rfl,m,k,R,λf g hf=>absurd hf (Nat.not_lt_zero _)⟩ (λi σ H2 _ ⟨M,_,_,_,_,m,_⟩=>SqL.of m.top) ?_ ?_⟩
   ·rintro i x σ H2 hx ⟨M,s3,s4,s5,rfl,m,k,R,C⟩;rw [yP] at hx;obtain ⟨a,ha,rfl⟩:=yI.mp hx;have hi:i<=h:=by have:=(yH.mp ha).1;omega
    have hiM:∀{M:List (List Int)},ShM h M->M[i]?=some (M.getD i []):=λ{M} s=>by
     have:i<M.length:=by rw [s.len];omega
     rw [y9 this,yV this]
    have am:a∈as:=yp ha;show tFor (jq (p8 (tCB (zm K) (p8 (n8 3) c5)) c5)) (e7 4) _ _ [some (.ref A0),some (.ref F),some (.int (0+t)),some (.ref a),s4,s5] _;refine Qx (K:=K) (i:=3) (p:=a) (xs:=(M.getD i []).map V.int) (σ:=[some (.ref A0),some (.ref F),some (.int (0+t)),some (.ref a),s4,s5]) rfl (SqL.of (m.row i a _ ha (hiM R.sh))) (by rw [yZ,R.sh.row i hi];omega) ?_;rw [yZ,R.sh.row i hi];refine vU (λb σ H2=>∃(M:List (List Int))(s4 s5:Option V),σ=[some (.ref A0),some (.ref F),some (.int (0+t)),some (.ref a),s4,s5]/\Mat H2 F as M/\Same H H2/\Rlx rss h t M/\(∀ f g,f<i->f<=h->g<h->me M f g<=k6 rss h (t+1) f g)/\∀ c g,c<b->c<h->g<h->me M i g<=k6 rss h t i c+k6 rss h 0 c g) ⟨M,s4,s5,rfl,m,k,R,C,λc g hc=>absurd hc (Nat.not_lt_zero _)⟩ ?_ ?_
    ·rintro b σ H2 hb ⟨M,s4,s5,rfl,m,k,R,C,D⟩;show tFor (jq (p8 (tCB (zm K) (p8 (n8 3) c5)) c5)) (e7 5) _ _ [some (.ref A0),some (.ref F),some (.int (0+t)),some (.ref a),some (.int (0+b)),s5] _;refine Qx (K:=K) (i:=3) (p:=a) (xs:=(M.getD i []).map V.int) (σ:=[some (.ref A0),some (.ref F),some (.int (0+t)),some (.ref a),some (.int (0+b)),s5]) rfl (SqL.of (m.row i a _ ha (hiM R.sh))) (by rw [yZ,R.sh.row i hi];omega) ?_;rw [yZ,R.sh.row i hi];refine vU (λl σ H2=>∃(M:List (List Int))(s5:Option V),σ=[some (.ref A0),some (.ref F),some (.int (0+t)),some (.ref a),some (.int (0+b)),s5]/\Mat H2 F as M/\Same H H2/\Rlx rss h t M/\(∀ f g,f<i->f<=h->g<h->me M f g<=k6 rss h (t+1) f g)/\(∀ c g,c<b->c<h->g<h->me M i g<=k6 rss h t i c+k6 rss h 0 c g)/\∀ g,g<l->g<h->me M i g<=k6 rss h t i b+k6 rss h 0 b g) ⟨M,s5,rfl,m,k,R,C,D,λg hg=>absurd hg (Nat.not_lt_zero _)⟩ ?_ ?_
     ·rintro l σ H2 hl ⟨M,s5,rfl,m,k,R,C,D,L⟩;have ri:H2 a=some (.lst ((M.getD i []).map V.int)):=m.row i a _ ha (hiM R.sh);have bl:b<as.length:=by omega
      have rbM:M[b]?=some (M.getD b []):=by
       have:b<M.length:=by rw [R.sh.len];omega
       rw [y9 this,yV this]
      have rb:H2 as[b]=some (.lst ((M.getD b []).map V.int)):=m.row b _ _ (yV bl) rbM;have li:l<(M.getD i []).length:=by rw [R.sh.row i hi];exact hl
      have bi:b<(M.getD i []).length:=by rw [R.sh.row i hi];exact hb
      have lb:l<(M.getD b []).length:=by rw [R.sh.row b (by omega)];exact hl
      refine Zw (k:=0+(l:Int)) rfl rfl ri (Xl li) ?_;refine Zw (k:=0+(b:Int)) rfl rfl ri (Xl bi) ?_;refine Zw (i:=1) (k:=0+(b:Int)) (u:= .ref as[b]) rfl rfl m.top (by rw [Int.zero_add];exact qQ (by rw [yP,yV bl];rfl)) ?_;refine ⟨_,rfl,.inl ⟨_,_,_,_,rfl,rfl,SqL.of rb,Xl lb,.inl ⟨_,_,rfl,rfl,_,_,rfl,?_⟩⟩⟩;generalize hv:(if (M.getD i []).getD b 0+(M.getD b []).getD l 0<(M.getD i []).getD l 0 then (M.getD i []).getD b 0+(M.getD b []).getD l 0 else (M.getD i []).getD l 0)=v;have hv':(v=me M i l∨v=me M i b+me M b l)/\v<=me M i l/\v<=me M i b+me M b l:=by unfold me;rw [<- hv];split<;>omega
      obtain ⟨R',dn,ne⟩:=R.step G hi hb hl hv'.1 hv'.2.1 hv'.2.2;refine ⟨_,rfl,_,rfl,a,_,_,l,rfl,rfl,ri,?_,?_⟩
      ·rw [yZ,R.sh.row i hi,Int.zero_add];unfold ixN;rw [if_pos (by omega),if_pos (by omega)]
       congr 1
      ·have es:((M.getD i []).map V.int).set l (.int v)=(((M.getD i []).set l v).map V.int):=by rw [List.map_set]
       rw [es];refine ⟨qU M i l v,_,rfl,m.set ha l v,kp k am,R',λf g hf hf' hg=>uE (dn f g) (C f g hf hf' hg),λc g hc hc' hg=>uE (dn i g) (D c g hc hc' hg),λg hg hg'=>?_⟩;rcases Nat.lt_or_ge g l with z|z
       ·exact uE (dn i g) (L g z hg')
       ·have:g=l:=by omega
        subst this;exact ne
     ·rintro σ H2 ⟨M,s5,rfl,m,k,R,C,D,L⟩;refine ⟨M,_,_,rfl,m,k,R,C,λc g hc hc' hg=>?_⟩;rcases Nat.lt_or_ge c b with z|z
      ·exact D c g z hc' hg
      ·have:c=b:=by omega
       subst this;exact L g hg hg
    ·rintro σ H2 ⟨M,s4,s5,rfl,m,k,R,C,D⟩;refine ⟨M,_,_,_,rfl,m,k,R,λf g hf hf' hg=>?_⟩;rcases Nat.lt_or_ge f i with z|z
     ·exact C f g z hf' hg
     ·have:f=i:=by omega
      subst this;exact GB G hf' hg (R.t f g hf' hg) λc hc=>D c g hc hc hg
   ·rintro σ H2 ⟨M,s3,s4,s5,rfl,m,k,R,C⟩;rw [yZ,al] at C;exact ⟨M,_,_,_,_,rfl,m,k,R.sh,R.ge,R.z,λf g hf hg=>C f g (by omega) hf hg⟩
  ·rintro σ H2 ⟨M,s2,s3,s4,s5,rfl,m,k,R⟩;rw [wl] at R;have eM:=BR G (uz h) R;subst eM
   -- all of it becomes shared
   let Hs':Hp:=λb=>if b=F∨b∈as then H2 b else Hs b
   have nn:∀ b,b=F∨b∈as->H b=none:=λb hb=>by
    rcases hb with rfl|hb
    ·exact nF
    ·exact c.new b hb
   have s1:Same Hs Hs':=λb o z=>by
    show (if _ then _ else _)=_;rw [if_neg (λy=>by have:=sm _ _ z;rw [nn b y] at this;cases this)];exact z
   have s3:Same Hs' H2:=λb o z=>by
    have z:(if b=F∨b∈as then H2 b else Hs b)=some o:=z;split at z
    ·exact z
    ·exact k _ _ (sm _ _ z)
   refine ⟨_,rfl,q (.ref F) Hs' H2 ⟨s1,k,s3,λb hb z=>?_⟩ (rep_lst.mpr ⟨F,as.map V.ref,rfl,?_,?_⟩)⟩
   ·show (if _ then _ else _)=_;rw [if_neg (λy=>hb (nn b y))];exact z
   ·show (if _ then _ else _)=_;rw [if_pos (.inl rfl)];exact m.top
   ·have lens:=m.len;have rows:=m.row;have inAs:∀ a∈as,Hs' a=H2 a:=λa ha=>by show (if _ then _ else _)=_;rw [if_pos (.inr ha)]
    clear_value Hs'
    clear m R q s1 s3;generalize qd rss h=M at lens rows;have go:∀(as:List Addr)(M:List (List Int)),as.length=M.length->(∀(i:Nat)(a:Addr)(r:List Int),as[i]?=some a->M[i]?=some r->Hs' a=some (.lst (r.map V.int)))->Reps Hs' (M.map λr=>PV.lst (r.map λn=> .at (.int n))) (as.map V.ref):=by
     intro as
     induction as with
     |nil =>
      intro M hl _;cases M with
      |nil=>exact .nil
      |cons _ _=>cases hl
     |cons a as ih =>
      intro M hl hr;cases M with
      |nil=>cases hl
      |cons r M=>refine .cons (rep_lst.mpr ⟨a,r.map V.int,rfl,hr 0 a r rfl rfl,?_⟩) (ih M (by simpa using hl) λi b q hb hq=>hr (i+1) b q hb hq);have:=Reps.ofAts (H:=Hs') (r.map V.int);rw [yC] at this;exact this
    exact go as M lens λi a r ha hr=>by rw [inAs a (yp ha)];exact rows i a r ha hr
abbrev ZZ:Stmt:=top 4
abbrev VA:MS:=(y4 (qH (x8 p7 (q0 (x6 0) (q0 (dC (.ty "int")) q9))) (jZ (x8 p7 (q0 (x6 0) (q0 (dC (.ty "bool")) q9))))))
def zK:List PV->Option PV:=u4 1 1 VA
theorem Me:v7 ["thing"] ["thing"] (j6 ZZ):=y0
theorem PM (F:Fun K "is_whole" "is_whole" ZZ f fd)(Eh:mg "bool"=none)(Et:mg "int"=none)(Ab:mg "isinstance"=none):FnOk P w K mg base j8 1 f fd ["thing"] (z7 zK) :=
 k9 (k:=0) (b:=VA) F Me rfl λcdv A outer s H E hr=>⟨_,(j4 (w6 (xP (y2 (qF (K:=K) rfl) rfl Ab qE (aC (pv 0) (aW (qK (v:= .ty "int") rfl Et Wl rfl)))) (zj (YJ (y2 (qF (K:=K) rfl) rfl Ab qE (aC (pv 0) (aW (qK (v:= .ty "bool") rfl Eh Wj rfl))))))))),
  inferInstance⟩
abbrev Jj:Stmt:=top 7
abbrev VJ:MS:=(y4 (z0 v9 (x6 0) (dC (.int 0))))
def zg:List PV->Option PV:=u4 1 1 VJ
theorem Mm:v7 ["cloth"] ["cloth"] (j6 Jj):=y0
theorem Cc (F:Fun K "name_of" "name_of" Jj f fd):FnOk P w K mg base j8 1 f fd ["cloth"] (z7 zg) :=
 k9 (k:=0) (b:=VJ) F Mm rfl λcdv A outer s H E hr=>⟨_,(j4 (w6 (iW (K:=K) rfl (pv 0) x9))),
  inferInstance⟩
abbrev ZS:Stmt:=top 8
abbrev Vt:MS:=(y4 (z0 v9 (x6 0) (dC (.int 1))))
def zJ:List PV->Option PV:=u4 1 1 Vt
theorem DX:v7 ["cloth"] ["cloth"] (j6 ZS):=y0
theorem PB (F:Fun K "hue_of" "hue_of" ZS f fd):FnOk P w K mg base j8 1 f fd ["cloth"] (z7 zJ) :=
 k9 (k:=0) (b:=Vt) F DX rfl λcdv A outer s H E hr=>⟨_,(j4 (w6 (iW (K:=K) rfl (pv 0) x9))),
  inferInstance⟩
abbrev Jg:Stmt:=top 9
abbrev VH:MS:=(y4 (z0 v9 (x6 0) (dC (.int 2))))
def wm:List PV->Option PV:=u4 1 1 VH
theorem Mj:v7 ["cloth"] ["cloth"] (j6 Jg):=y0
theorem PZ (F:Fun K "length_of" "length_of" Jg f fd):FnOk P w K mg base j8 1 f fd ["cloth"] (z7 wm) :=
 k9 (k:=0) (b:=VH) F Mj rfl λcdv A outer s H E hr=>⟨_,(j4 (w6 (iW (K:=K) rfl (pv 0) x9))),
  inferInstance⟩
abbrev ZR:Stmt:=top 10
abbrev Vs:MS:=(y4 (z0 v9 (x6 0) (dC (.int 3))))
def wd:List PV->Option PV:=u4 1 1 Vs
theorem DW:v7 ["cloth"] ["cloth"] (j6 ZR):=y0
theorem Pz (F:Fun K "due_of" "due_of" ZR f fd):FnOk P w K mg base j8 1 f fd ["cloth"] (z7 wd) :=
 k9 (k:=0) (b:=Vs) F DW rfl λcdv A outer s H E hr=>⟨_,(j4 (w6 (iW (K:=K) rfl (pv 0) x9))),
  inferInstance⟩
abbrev Jz:Stmt:=top 11
abbrev VZ:MS:=(y4 (z0 v9 (x6 0) (dC (.int 4))))
def XW:List PV->Option PV:=u4 1 1 VZ
theorem Mu:v7 ["cloth"] ["cloth"] (j6 Jz):=y0
theorem Cv (F:Fun K "weight_of" "weight_of" Jz f fd):FnOk P w K mg base j8 1 f fd ["cloth"] (z7 XW) :=
 k9 (k:=0) (b:=VZ) F Mu rfl λcdv A outer s H E hr=>⟨_,(j4 (w6 (iW (K:=K) rfl (pv 0) x9))),
  inferInstance⟩
abbrev ZU:Stmt:=top 12
abbrev Vv:MS:=(y4 (qH (x8 zK (q0 (q8 0) q9)) (z0 pGe (x6 0) (x6 1))))
def xO:List PV->Option PV:=u4 2 2 Vv
theorem DZ:v7 ["thing","least"] ["thing","least"] (j6 ZU):=y0
theorem PF (F:Fun K "is_from" "is_from" ZU f fd)(Aj:Fn P w K mg base 1 "is_whole" ["thing"] (z7 zK)):FnOk P w K mg base j8 2 f fd ["thing","least"] (z7 xO) :=
 k9 (k:=1) (b:=Vv) F DZ rfl λcdv A outer s H E hr=>⟨_,(j4 (w6 (xP (fW Aj hr (aW (pv 0))) (zj (zR (QP) (pv 0) (pv 1) (m7 _)))))),
  inferInstance⟩
abbrev ZV:Stmt:=top 3
abbrev Vw:MS:=(v8 (i7 (dOr (m4 (m5 (x8 p7 (q0 (x6 0) (q0 (dC (.ty "str")) q9))))) (m4 (dT (jk pLe pLe (dC (.int 1)) (x8 qu (q0 (x6 0) q9)) (dC (.int 8)))))) (y4 (dC (.bl false))) o9)
  (y4 (x8 qV (q0 (g9 [none] [0] (dItS (q8 0)) (j9 0) u6 (jk pLeS pLeS (dC (.str "a")) (x6 0) (dC (.str "z")))) q9))))
def QG:List PV->Option PV:=u4 1 1 Vw
theorem Ma:v7 ["thing"] ["thing"] (j6 ZV):=y0
theorem PH (F:Fun K "is_name" "is_name" ZV f fd)(Ao:mg "all"=none)(Ab:mg "isinstance"=none)(Ac:mg "len"=none)(Ev:mg "str"=none)(A4:mg "LONGEST_NAME"=some (.int 8 A6)):FnOk P w K mg base j8 1 f fd ["thing"] (z7 QG) :=
 k9 (k:=0) (b:=Vw) F Ma rfl λcdv A outer s H E hr=>⟨_,(j3 (c6 (PW.pt (xS (qa (i9 (K:=K) rfl (y2 (qF (K:=K) rfl) rfl Ab qE (aC (pv 0) (aW (qK (v:= .ty "str") rfl Ev Wn rfl)))) (λ_=>rfl))) (zT (qa (YO (QQ) (QQ) x9 (y2 (o6 (K:=K) rfl) rfl Ac PySem.boot_len (aW (pv 0))) (QU (v:= .int 8) rfl A4 ⟨_,rfl⟩)))))) (j4 (w6 xh)) m3)
  (j4 (w6 (y2 (zy (K:=K) rfl rfl) rfl Ao zx (aW (m8 (N':=["sign"]) (cap:=[none]) (k8 rfl rfl rfl) rfl (Dd (pv 0)) (λ_ _ _ _ _ _=>(g7 (i:=0) (by show (["sign"]:List Str).Nodup;decide +kernel) rfl (Or.inl rfl))) (λ_ _ _ _ _ _=>b9) (λ_ _ _ _ _ _=>(CN (YF) (YF) qL (pv 0) qL)))))))),
  inferInstance⟩
abbrev ZT:Stmt:=top 13
abbrev Vu:MS:=(v8 (i7 (dOr (m4 (m5 (x8 p7 (q0 (x6 0) (q0 (dC (.ty "tuple")) q9))))) (dT (z0 pNe (x8 qu (q0 (x6 0) q9)) (dC (.int 5))))) (y4 (dC (.bl false))) o9)
  (v8 (i7 (dOr (m4 (m5 (x8 QG (q0 (x8 zg (q0 (q8 0) q9)) q9)))) (dOr (m4 (m5 (x8 xO (q0 (x8 zJ (q0 (q8 0) q9)) (q0 (dC (.int 0)) q9))))) (dT (z0 pGe (x8 zJ (q0 (q8 0) q9)) (x6 1))))) (y4 (dC (.bl false))) o9)
  (y4 (qH (x8 xO (q0 (x8 wm (q0 (q8 0) q9)) (q0 (dC (.int 1)) q9))) (qH (x8 zK (q0 (x8 wd (q0 (q8 0) q9)) q9)) (x8 xO (q0 (x8 XW (q0 (q8 0) q9)) (q0 (dC (.int 1)) q9))))))))
def QF:List PV->Option PV:=u4 2 2 Vu
theorem DY:v7 ["thing","hues"] ["thing","hues"] (j6 ZT):=y0
theorem PD (F:Fun K "is_cloth" "is_cloth" ZT f fd)(D0:Fn P w K mg base 1 "due_of" ["cloth"] (z7 wd))(Aq:Fn P w K mg base 1 "hue_of" ["cloth"] (z7 zJ))(Ap:Fn P w K mg base 2 "is_from" ["thing","least"] (z7 xO))(Ej:Fn P w K mg base 1 "is_name" ["thing"] (z7 QG))(Aj:Fn P w K mg base 1 "is_whole" ["thing"] (z7 zK))(As:Fn P w K mg base 1 "length_of" ["cloth"] (z7 wm))(Ak:Fn P w K mg base 1 "name_of" ["cloth"] (z7 zg))(D4:Fn P w K mg base 1 "weight_of" ["cloth"] (z7 XW))(Ab:mg "isinstance"=none)(Ac:mg "len"=none)(D9:mg "tuple"=none)(Ia:mg "PARTS"=some (.int 5 E4)):FnOk P w K mg base j8 3 f fd ["thing","hues"] (z7 QF) :=
 k9 (k:=2) (b:=Vu) F DY rfl λcdv A outer s H E hr=>⟨_,(j3 (c6 (PW.pt (xS (qa (i9 (K:=K) rfl (y2 (qF (K:=K) rfl) rfl Ab qE (aC (pv 0) (aW (qK (v:= .ty "tuple") rfl D9 Wo rfl)))) (λ_=>rfl))) (zT (ql (jC (K:=K) (hu6 hr) rfl) (y2 (o6 (K:=K) rfl) rfl Ac PySem.boot_len (aW (pv 0))) (QU (v:= .int 5) rfl Ia ⟨_,rfl⟩) (m7 _))))) (j4 (w6 xh)) m3)
  (j3 (c6 (PW.pt (xS (qa (i9 (K:=K) rfl (fW Ej hr (aW (fW Ak hr (aW (pv 0))))) (λ_=>rfl))) (xS (qa (i9 (K:=K) rfl (fW Ap hr (aC (fW Aq hr (aW (pv 0))) (aW x9))) (λ_=>rfl))) (zT (ql (QP) (fW Aq hr (aW (pv 0))) (pv 1) (m7 _)))))) (j4 (w6 xh)) m3)
  (j4 (w6 (xP (fW Ap hr (aC (fW As hr (aW (pv 0))) (aW x9))) (xP (fW Aj hr (aW (fW D0 hr (aW (pv 0))))) (zj (fW Ap hr (aC (fW D4 hr (aW (pv 0))) (aW x9)))))))))),
  inferInstance⟩
abbrev ZY:Stmt:=top 39
abbrev Vz:MS:=(v8 (i7 (dOr (m4 (m5 (x8 p7 (q0 (x6 0) (q0 (dC (.ty "list")) q9))))) (dT (z0 pNe (x8 qu (q0 (x6 0) q9)) (x6 1)))) (y4 (dC (.bl false))) o9)
  (y4 (x8 qV (q0 (g9 [none] [0] (u5 (q8 0)) (j9 0) u6 (qH (x8 zK (q0 (q8 0) q9)) (z0 pGe (x6 0) (dC (.int 0))))) q9))))
def wg:List PV->Option PV:=u4 2 2 Vz
theorem Md:v7 ["row","hues"] ["row","hues"] (j6 ZY):=y0
theorem PL (F:Fun K "is_rinse_row" "is_rinse_row" ZY f fd)(Aj:Fn P w K mg base 1 "is_whole" ["thing"] (z7 zK))(Ao:mg "all"=none)(Ab:mg "isinstance"=none)(Ac:mg "len"=none)(Ag:mg "list"=none):FnOk P w K mg base j8 2 f fd ["row","hues"] (z7 wg) :=
 k9 (k:=1) (b:=Vz) F Md rfl λcdv A outer s H E hr=>⟨_,(j3 (c6 (PW.pt (xS (qa (i9 (K:=K) rfl (y2 (qF (K:=K) rfl) rfl Ab qE (aC (pv 0) (aW (qK (v:= .ty "list") rfl Ag xW rfl)))) (λ_=>rfl))) (zT (ql (jC (K:=K) (hu6 hr) rfl) (y2 (o6 (K:=K) rfl) rfl Ac PySem.boot_len (aW (pv 0))) (pv 1) (m7 _))))) (j4 (w6 xh)) m3)
  (j4 (w6 (y2 (zy (K:=K) rfl rfl) rfl Ao zx (aW (m8 (N':=["number"]) (cap:=[none]) (k8 rfl rfl rfl) rfl (@p0 _ K _ _ _ rfl (pv 0)) (λ_ _ _ _ _ _=>(g7 (i:=0) (by show (["number"]:List Str).Nodup;decide +kernel) rfl (Or.inl rfl))) (λ_ _ _ _ _ _=>b9) (λ_ _ _ _ _ _=>(xP (fW Aj hr (aW (pv 0))) (zj (zR (QP) (pv 0) x9 (m7 _))))))))))),
  inferInstance⟩
abbrev ZL:Stmt:=top 40
abbrev Vn:MS:=(v8 (i7 (m4 (m5 (x8 p7 (q0 (x6 0) (q0 (dC (.ty "list")) q9))))) qJ o9)
  (v8 (k4 1 (z0 xx (x8 qu (q0 (x6 0) q9)) (dC (.int 1))))
  (v8 (i7 (m4 (dT (jk pLe pLe (dC (.int 1)) (x6 1) (dC (.int 4))))) qJ o9)
  (i7 (m4 (m5 (x8 qV (q0 (g9 [none,some 1] [0] (u5 (q8 0)) (j9 0) u6 (x8 wg (q0 (q8 0) (q0 (q8 1) q9)))) q9)))) qJ o9))))
def QD:List PV->Option PV:=u4 2 1 Vn
theorem sc_check_rinses:v7 ["rinses","hues"] ["rinses"] (j6 ZL):=y0
theorem Ps (F:Fun K "check_rinses" "check_rinses" ZL f fd)(A5:Fn P w K mg base 2 "is_rinse_row" ["row","hues"] (z7 wg))(Ao:mg "all"=none)(Ab:mg "isinstance"=none)(Ac:mg "len"=none)(Ag:mg "list"=none)(D3:mg "MOST_HUES"=some (.int 4 D6)):FnOk P w K mg base j8 3 f fd ["rinses"] (z7 QD) :=
 k9 (k:=2) (b:=Vn) F sc_check_rinses rfl λcdv A outer s H E hr=>⟨_,(j3 (c6 (qa (i9 (K:=K) rfl (y2 (qF (K:=K) rfl) rfl Ab qE (aC (pv 0) (aW (qK (v:= .ty "list") rfl Ag xW rfl)))) (λ_=>rfl))) (j4 xB) m3)
  (j3 (sW 1 sc_check_rinses.nd (w5 (jD) (y2 (o6 (K:=K) rfl) rfl Ac PySem.boot_len (aW (pv 0))) x9))
  (j3 (c6 (qa (YO (QQ) (QQ) x9 (pv 1) (QU (v:= .int 4) rfl D3 ⟨_,rfl⟩))) (j4 xB) m3)
  (j4 (c6 (qa (i9 (K:=K) rfl (y2 (zy (K:=K) rfl rfl) rfl Ao zx (aW (m8 (N':=["row","hues"]) (cap:=[none,some 1]) (k8 rfl rfl rfl) rfl (@p0 _ K _ _ _ rfl (pv 0)) (λ_ _ _ _ _ _=>(g7 (i:=0) (by show (["row","hues"]:List Str).Nodup;decide +kernel) rfl (Or.inl rfl))) (λ_ _ _ _ _ _=>b9) (λ_ _ _ _ _ _=>(fW A5 hr (aC (pv 0) (aW (pv 1)))))))) (λ_=>rfl))) (j4 xB) m3))))),
  inferInstance⟩
abbrev Jo:Stmt:=top 41
abbrev VP:MS:=(y4 (g9 [none,none] [0,1] (Xx (q0 (q8 0) q9)) (xN 2 (qf (j9 0) (qf (j9 1) xM))) u6 (qj (q0 (q8 1) (q0 (qR (q0 (q8 0) q9)) q9)))))
def wo:List PV->Option PV:=xc 1 1 VP
theorem Mn:v7 ["row"] ["row"] (j6 Jo):=y0
theorem Ch (F:Fun K "straight_ways" "straight_ways" Jo f fd)(D5:mg "enumerate"=none):FnOk P w K mg base j8 1 f fd ["row"] (r9 wo) :=
 okO (k:=0) (b:=VP) F Mn rfl λcdv A outer s H E hr=>⟨_,(j4 (w6 (m8 (N':=["hue","number"]) (cap:=[none,none]) (k8 rfl rfl rfl) rfl (Da (K:=K) rfl rfl D5 (aW (pv 0))) (λ_ _ _ _ _ _=>(wD (K:=K) (n:=2) rfl rfl (xQ (g7 (i:=0) (by show (["hue","number"]:List Str).Nodup;decide +kernel) rfl (Or.inl rfl)) (xQ (g7 (i:=1) (by show (["hue","number"]:List Str).Nodup;decide +kernel) rfl (Or.inl rfl)) wE)))) (λ_ _ _ _ _ _=>b9) (λ_ _ _ _ _ _=>(@qX _ _ _ _ _ (aC (pv 1) (aW (@xi _ _ _ _ (aW (pv 0)))))))))),
  inferInstance⟩
abbrev Ja:Stmt:=top 42
abbrev VB:MS:=(y4 (qj (q0 (z0 c4 (z0 v9 (x6 0) (dC (.int 0))) (z0 v9 (x6 1) (dC (.int 0)))) (q0 (z0 c4 (z0 v9 (x6 0) (dC (.int 1))) (z0 v9 (x6 1) (dC (.int 1)))) q9))))
def wj:List PV->Option PV:=u4 2 2 VB
theorem Mf:v7 ["way","onward"] ["way","onward"] (j6 Ja):=y0
theorem PN (F:Fun K "joined" "joined" Ja f fd):FnOk P w K mg base j8 1 f fd ["way","onward"] (z7 wj) :=
 k9 (k:=0) (b:=VB) F Mf rfl λcdv A outer s H E hr=>⟨_,(j4 (w6 (@qX _ _ _ _ _ (aC (w5 (qg (K:=K) rfl) (iW (K:=K) rfl (pv 0) x9) (iW (K:=K) rfl (pv 1) x9)) (aW (w5 (qg (K:=K) rfl) (iW (K:=K) rfl (pv 0) x9) (iW (K:=K) rfl (pv 1) x9))))))),
  inferInstance⟩
abbrev Jh:Stmt:=top 43
abbrev VI:MS:=(y4 (dIf (dT (z0 pLt (z0 v9 (x6 1) (dC (.int 0))) (z0 v9 (x6 0) (dC (.int 0))))) (q8 1) (q8 0)))
def wn:List PV->Option PV:=u4 2 2 VI
theorem Ml:v7 ["way","other"] ["way","other"] (j6 Jh):=y0
theorem Ca (F:Fun K "lesser" "lesser" Jh f fd):FnOk P w K mg base j8 1 f fd ["way","other"] (z7 wn) :=
 k9 (k:=0) (b:=VI) F Ml rfl λcdv A outer s H E hr=>⟨_,(j4 (w6 (Zk (ql (Zg) (iW (K:=K) rfl (pv 1) x9) (iW (K:=K) rfl (pv 0) x9) (m7 _)) (pv 1) (pv 0)))),
  inferInstance⟩
abbrev Jy:Stmt:=top 44
abbrev VY:MS:=(y4 (g9 [none,none,some 0,some 1] [0,1] (va (q0 (q8 0) (q0 (q8 2) q9))) (xN 2 (qf (j9 0) (qf (j9 1) xM))) u6 (x8 wn (q0 (q8 0) (q0 (x8 wj (q0 (z0 v9 (x6 2) (x6 3)) (q0 (q8 1) q9))) q9)))))
def vp:List PV->Option PV:=xc 3 3 VY
theorem Ms:v7 ["ways","hue","onward"] ["ways","hue","onward"] (j6 Jy):=y0
theorem Cu (F:Fun K "ways_through" "ways_through" Jy f fd)(El:Fn P w K mg base 1 "joined" ["way","onward"] (z7 wj))(Eo:Fn P w K mg base 1 "lesser" ["way","other"] (z7 wn))(Ee:mg "zip"=none):FnOk P w K mg base j8 2 f fd ["ways","hue","onward"] (r9 vp) :=
 okO (k:=1) (b:=VY) F Ms rfl λcdv A outer s H E hr=>⟨_,(j4 (w6 (m8 (N':=["way","more","ways","hue"]) (cap:=[none,none,some 0,some 1]) (k8 rfl rfl rfl) rfl (Zq (K:=K) rfl rfl Ee (aC (pv 0) (aW (pv 2)))) (λ_ _ _ _ _ _=>(wD (K:=K) (n:=2) rfl rfl (xQ (g7 (i:=0) (by show (["way","more","ways","hue"]:List Str).Nodup;decide +kernel) rfl (Or.inl rfl)) (xQ (g7 (i:=1) (by show (["way","more","ways","hue"]:List Str).Nodup;decide +kernel) rfl (Or.inl rfl)) wE)))) (λ_ _ _ _ _ _=>b9) (λ_ _ _ _ _ _=>(fW Eo hr (aC (pv 0) (aW (fW El hr (aC (iW (K:=K) rfl (pv 2) (pv 3)) (aW (pv 1))))))))))),
  inferInstance⟩
abbrev Jf:Stmt:=top 45
abbrev VG:MS:=(v8 (k4 1 (g9 [none] [0] (u5 (q8 0)) (j9 0) u6 (x8 wo (q0 (q8 0) q9))))
  (v8 (zC (xI (q0 (z0 xx (x8 qu (q0 (x6 0) q9)) (dC (.int 1))) q9)) (j9 2) (v8 (k4 3 (z0 v9 (x6 1) (x6 2)))
  (k4 1 (g9 [none,some 2,some 3] [0] (u5 (q8 1)) (j9 0) u6 (x8 vp (q0 (q8 0) (q0 (q8 1) (q0 (q8 2) q9))))))))
  (y4 (q8 1))))
def QJ:List PV->Option PV:=u4 4 1 VG
theorem sc_least_ways:v7 ["rinses","table","hue","onward"] ["rinses"] (j6 Jf):=y0
theorem PY (F:Fun K "least_ways" "least_ways" Jf f fd)(Aw:Fn P w K mg base 1 "straight_ways" ["row"] (r9 wo))(B3:Fn P w K mg base 2 "ways_through" ["ways","hue","onward"] (r9 vp))(Ac:mg "len"=none)(Ad:mg "range"=none):FnOk P w K mg base j8 3 f fd ["rinses"] (z7 QJ) :=
 k9 (k:=2) (b:=VG) F sc_least_ways rfl λcdv A outer s H E hr=>⟨_,(j3 (zk (i:=1) (N':=["row"]) (cap:=[none]) (k8 rfl rfl rfl) rfl sc_least_ways.nd rfl rfl (@p0 _ K _ _ _ rfl (pv 0)) (λ_ _ _ _ _ _=>(g7 (i:=0) (by show (["row"]:List Str).Nodup;decide +kernel) rfl (Or.inl rfl))) (λ_ _ _ _ _ _=>b9) (λ_ _ _ _ _ _=>(fW Aw hr (aW (pv 0)))))
  (j3 (qC PassesOwn.never rfl (xz rfl Ad (aW (w5 (jD) (y2 (o6 (K:=K) rfl) rfl Ac PySem.boot_len (aW (pv 0))) x9))) (gW 2 sc_least_ways.nd)
   (j3 (sW 3 sc_least_ways.nd (iW (K:=K) rfl (pv 1) (pv 2)))
  (j4 (zk (i:=1) (N':=["ways","hue","onward"]) (cap:=[none,some 2,some 3]) (k8 rfl rfl rfl) rfl sc_least_ways.nd rfl rfl (@p0 _ K _ _ _ rfl (pv 1)) (λ_ _ _ _ _ _=>(g7 (i:=0) (by show (["ways","hue","onward"]:List Str).Nodup;decide +kernel) rfl (Or.inl rfl))) (λ_ _ _ _ _ _=>b9) (λ_ _ _ _ _ _=>(fW B3 hr (aC (pv 0) (aC (pv 1) (aW (pv 2))))))))))
  (j4 (w6 (pv 1))))),
  inferInstance⟩
abbrev Jp:Stmt:=top 46
abbrev VQ:MS:=(y4 (g9 [none] [0] (u5 (q8 0)) (j9 0) u6 (z0 v9 (x6 0) (dC (.int 0)))))
def QK:List PV->Option PV:=xc 1 1 VQ
theorem Mo:v7 ["ways"] ["ways"] (j6 Jp):=y0
theorem Ck (F:Fun K "sums_of" "sums_of" Jp f fd):FnOk P w K mg base j8 1 f fd ["ways"] (r9 QK) :=
 okO (k:=0) (b:=VQ) F Mo rfl λcdv A outer s H E hr=>⟨_,(j4 (w6 (m8 (N':=["way"]) (cap:=[none]) (k8 rfl rfl rfl) rfl (@p0 _ K _ _ _ rfl (pv 0)) (λ_ _ _ _ _ _=>(g7 (i:=0) (by show (["way"]:List Str).Nodup;decide +kernel) rfl (Or.inl rfl))) (λ_ _ _ _ _ _=>b9) (λ_ _ _ _ _ _=>(iW (K:=K) rfl (pv 0) x9))))),
  inferInstance⟩
abbrev Je:Stmt:=top 47
abbrev VF:MS:=(v8 (zB (x8 QD (q0 (q8 0) q9)))
  (y4 (g9 [none] [0] (u5 (x8 QJ (q0 (q8 0) q9))) (j9 0) u6 (x8 QK (q0 (q8 0) q9)))))
def QI:List PV->Option PV:=xc 1 1 VF
theorem Mh:v7 ["rinses"] ["rinses"] (j6 Je):=y0
theorem PX (F:Fun K "least_rinses" "least_rinses" Je f fd)(A8:Fn P w K mg base 3 "check_rinses" ["rinses"] (z7 QD))(D1:Fn P w K mg base 3 "least_ways" ["rinses"] (z7 QJ))(Eg:Fn P w K mg base 1 "sums_of" ["ways"] (r9 QK)):FnOk P w K mg base j8 4 f fd ["rinses"] (r9 QI) :=
 okO (k:=3) (b:=VF) F Mh rfl λcdv A outer s H E hr=>⟨_,(j3 (xR (fW A8 hr (aW (pv 0))))
  (j4 (w6 (m8 (N':=["ways"]) (cap:=[none]) (k8 rfl rfl rfl) rfl (@p0 _ K _ _ _ rfl (fW D1 hr (aW (pv 0)))) (λ_ _ _ _ _ _=>(g7 (i:=0) (by show (["ways"]:List Str).Nodup;decide +kernel) rfl (Or.inl rfl))) (λ_ _ _ _ _ _=>b9) (λ_ _ _ _ _ _=>(fW Eg hr (aW (pv 0)))))))),
  inferInstance⟩
abbrev ZM:Stmt:=top 50
abbrev Vo:MS:=(v8 (i7 (vM (dT (z0 Zi (x6 0) (dC .non))) (m4 (vM (m5 (x8 xO (q0 (q8 0) (q0 (dUn pNeg (dC (.int 1))) q9)))) (dT (z0 pLt (x6 0) (x6 2)))))) qJ o9)
  (i7 (m4 (m5 (x8 xO (q0 (q8 1) (q0 (dC (.int 0)) q9))))) qJ o9))
def QE:List PV->Option PV:=u4 3 3 Vo
theorem DT:v7 ["last","time","hues"] ["last","time","hues"] (j6 ZM):=y0
theorem Pt (F:Fun K "check_start" "check_start" ZM f fd)(Ap:Fn P w K mg base 2 "is_from" ["thing","least"] (z7 xO)):FnOk P w K mg base j8 3 f fd ["last","time","hues"] (z7 QE) :=
 k9 (k:=2) (b:=Vo) F DT rfl λcdv A outer s H E hr=>⟨_,(j3 (c6 (PW.pt (YT (ql (CG) (pv 0) YI (m7 _)) (YU (qa (PW.pt (YT (i9 (K:=K) rfl (fW Ap hr (aC (pv 0) (aW (QW Xe x9)))) (λ_=>rfl)) (YU (ql (Zg) (pv 0) (pv 2) (m7 _))))))))) (j4 xB) m3)
  (j4 (c6 (qa (i9 (K:=K) rfl (fW Ap hr (aC (pv 1) (aW x9))) (λ_=>rfl))) (j4 xB) m3))),
  inferInstance⟩
abbrev ZK:Stmt:=top 51
abbrev Vm:MS:=(v8 (i7 (dT (z0 pGt (x8 qu (q0 (x6 0) q9)) (dC (.int 10)))) qJ o9)
  (v8 (zD 2 WH)
  (zC (u5 (q8 0)) (j9 3) (v8 (i7 (m4 (m5 (x8 QF (q0 (q8 3) (q0 (q8 1) q9))))) qJ o9)
  (v8 (i7 (dT (dDIn (x8 zg (q0 (q8 3) q9)) (x6 2))) qJ o9)
  (dPut 2 (x8 zg (q0 (q8 3) q9)) (dC (.bl true))))))))
def QC:List PV->Option PV:=u4 4 2 Vm
theorem sc_check_cloths:v7 ["cloths","hues","seen","cloth"] ["cloths","hues"] (j6 ZK):=y0
theorem Pr (F:Fun K "check_cloths" "check_cloths" ZK f fd)(Ea:Fn P w K mg base 3 "is_cloth" ["thing","hues"] (z7 QF))(Ak:Fn P w K mg base 1 "name_of" ["cloth"] (z7 zg))(Ac:mg "len"=none)(B8:mg "MOST_CLOTHS"=some (.int 10 B9)):FnOk P w K mg base j8 4 f fd ["cloths","hues"] (z7 QC) :=
 k9 (k:=3) (b:=Vm) F sc_check_cloths rfl λcdv A outer s H E hr=>⟨_,(j3 (c6 (ql (YE) (y2 (o6 (K:=K) rfl) rfl Ac PySem.boot_len (aW (pv 0))) (QU (v:= .int 10) rfl B8 ⟨_,rfl⟩) (m7 _)) (j4 xB) m3)
  (j3 (sW 2 sc_check_cloths.nd CO)
  (j4 (qC PassesOwn.never rfl (@p0 _ K _ _ _ rfl (pv 0)) (gW 3 sc_check_cloths.nd)
   (j3 (c6 (qa (i9 (K:=K) rfl (fW Ea hr (aC (pv 3) (aW (pv 1)))) (λ_=>rfl))) (j4 xB) m3)
  (j3 (c6 (YQ (CK (za hr) (fW Ak hr (aW (pv 3))) (pv 2))) (j4 xB) m3)
  (j4 (Dl (za hr) (pv 2) (fW Ak hr (aW (pv 3))) xh rfl)))))))),
  inferInstance⟩
abbrev ZE:Stmt:=vf (top 52) 1
abbrev Vg (Aa:Addr):MS:=(y4 (z0 xx (x8 qu (q0 (xb Aa "least" (q8 0)) q9)) (dC (.int 1))))
def vk (Aa:Addr):List PV->Option PV:=u4 1 1 (Vg Aa)
theorem DN:v7 ["self"] ["self"] (j6 ZE):=y0
theorem Pj (F:Fun K "hues" "Works.hues" ZE f fd)(Ac:mg "len"=none)[xo K Aa][NoA K Aa "least"]:FnOk P w K mg base j8 1 f fd ["self"] (z7 (vk Aa)) :=
 k9 (k:=0) (b:=(Vg Aa)) F DN rfl λcdv A outer s H E hr=>⟨_,(j4 (w6 (w5 (jD) (y2 (o6 (K:=K) rfl) rfl Ac PySem.boot_len (aW (jF (K:=K) rfl (pv 0) rfl))) x9))),
  inferInstance⟩
abbrev ZH:Stmt:=vf (top 52) 4
abbrev Vj (Aa:Addr):MS:=(y4 (z0 v9 (z0 v9 (xb Aa "least" (q8 0)) (x6 1)) (x6 2)))
def vn (Aa:Addr):List PV->Option PV:=u4 3 3 (Vj Aa)
theorem DR:v7 ["self","first","then"] ["self","first","then"] (j6 ZH):=y0
theorem Pn (F:Fun K "tray_rinse" "Works.tray_rinse" ZH f fd)[xo K Aa][NoA K Aa "least"]:FnOk P w K mg base j8 1 f fd ["self","first","then"] (z7 (vn Aa)) :=
 k9 (k:=0) (b:=(Vj Aa)) F DR rfl λcdv A outer s H E hr=>⟨_,(j4 (w6 (iW (K:=K) rfl (iW (K:=K) rfl (jF (K:=K) rfl (pv 0) rfl) (pv 1)) (pv 2)))),
  inferInstance⟩
abbrev ZG:Stmt:=vf (top 52) 5
abbrev Vi (Aa:Addr):MS:=(y4 (qj (q0 (xb Aa "last" (q8 0)) (q0 (xb Aa "time" (q8 0)) q9))))
def jy (Aa:Addr):List PV->Option PV:=u4 1 1 (Vi Aa)
theorem DQ:v7 ["self"] ["self"] (j6 ZG):=y0
theorem Pm (F:Fun K "start" "Works.start" ZG f fd)[xo K Aa][NoA K Aa "last"][NoA K Aa "time"]:FnOk P w K mg base j8 1 f fd ["self"] (z7 (jy Aa)) :=
 k9 (k:=0) (b:=(Vi Aa)) F DQ rfl λcdv A outer s H E hr=>⟨_,(j4 (w6 (@qX _ _ _ _ _ (aC (jF (K:=K) rfl (pv 0) rfl) (aW (jF (K:=K) rfl (pv 0) rfl)))))),
  inferInstance⟩
abbrev ZF:Stmt:=vf (top 52) 6
abbrev Vh (Aa:Addr):MS:=(y4 (x8 Zj (q0 (xb Aa "held" (q8 0)) q9)))
def jx (Aa:Addr):List PV->Option PV:=xc 1 1 (Vh Aa)
theorem DP:v7 ["self"] ["self"] (j6 ZF):=y0
theorem Pl (F:Fun K "names" "Works.names" ZF f fd)(En:mg "sorted"=none)[xo K Aa][NoA K Aa "held"]:FnOk P w K mg base j8 1 f fd ["self"] (r9 (jx Aa)) :=
 okO (k:=0) (b:=(Vh Aa)) F DP rfl λcdv A outer s H E hr=>⟨_,(j4 (w6 (y2 (Kc (K:=K) rfl rfl) rfl En GJ (aW (jF (K:=K) rfl (pv 0) rfl))))),
  inferInstance⟩
abbrev ZD:Stmt:=vf (top 52) 7
abbrev Vf (Aa:Addr):MS:=(v8 (i7 (dOr (m4 (m5 (x8 p7 (q0 (x6 1) (q0 (dC (.ty "str")) q9))))) (dT (Qj (x6 1) (xb Aa "held" (q8 0))))) qJ o9)
  (y4 (xa (xb Aa "held" (q8 0)) (x6 1))))
def jw (Aa:Addr):List PV->Option PV:=u4 2 2 (Vf Aa)
theorem DM:v7 ["self","name"] ["self","name"] (j6 ZD):=y0
theorem Pi (F:Fun K "cloth" "Works.cloth" ZD f fd)(Ab:mg "isinstance"=none)(Ev:mg "str"=none)[xo K Aa][NoA K Aa "held"]:FnOk P w K mg base j8 1 f fd ["self","name"] (z7 (jw Aa)) :=
 k9 (k:=0) (b:=(Vf Aa)) F DM rfl λcdv A outer s H E hr=>⟨_,(j3 (c6 (PW.pt (xS (qa (i9 (K:=K) rfl (y2 (qF (K:=K) rfl) rfl Ab qE (aC (pv 1) (aW (qK (v:= .ty "str") rfl Ev Wn rfl)))) (λ_=>rfl))) (zT (YQ (CL (za hr) (pv 1) (jF (K:=K) rfl (pv 0) rfl)))))) (j4 xB) m3)
  (j4 (w6 (vy (za hr) (jF (K:=K) rfl (pv 0) rfl) (pv 1) (λ_ _=>rfl))))),
  inferInstance⟩
abbrev ZJ:Stmt:=top 24
abbrev Vl (Aa:Addr):MS:=(v8 (i7 (m4 (m5 (x8 p7 (q0 (x6 1) (q0 (dC (.ty "list")) q9))))) (y4 (dC (.bl false))) o9)
  (v8 (k4 2 (qI Aa "names" (jx Aa) (q8 0) q9))
  (y4 (qH (x8 qV (q0 (g9 [none,some 2] [0] (u5 (q8 1)) (j9 0) u6 (z0 (pIn false) (x6 0) (x6 1))) q9)) (z0 pEq (WF (x6 1)) (x8 qu (q0 (x6 1) q9)))))))
def wb (Aa:Addr):List PV->Option PV:=u4 3 2 (Vl Aa)
theorem sc_are_names:v7 ["works","names","known"] ["works","names"] (j6 ZJ):=y0
theorem Pq (F:Fun K "are_names" "are_names" ZJ f fd)(Ao:mg "all"=none)(Ab:mg "isinstance"=none)(Ac:mg "len"=none)(Ag:mg "list"=none)(Ig:mg "set"=none)(Al:Mt P w K mg base 1 Aa "names" ["self"] (r9 (jx Aa))):FnOk P w K mg base j8 2 f fd ["works","names"] (z7 (wb Aa)) :=
 k9 (k:=1) (b:=(Vl Aa)) F sc_are_names rfl λcdv A outer s H E hr=>⟨_,(j3 (c6 (qa (i9 (K:=K) rfl (y2 (qF (K:=K) rfl) rfl Ab qE (aC (pv 1) (aW (qK (v:= .ty "list") rfl Ag xW rfl)))) (λ_=>rfl))) (j4 (w6 xh)) m3)
  (j3 (sW 2 sc_are_names.nd (vz Al hr (by decide) (pv 0)))
  (j4 (w6 (xP (y2 (zy (K:=K) rfl rfl) rfl Ao zx (aW (m8 (N':=["thing","known"]) (cap:=[none,some 2]) (k8 rfl rfl rfl) rfl (@p0 _ K _ _ _ rfl (pv 1)) (λ_ _ _ _ _ _=>(g7 (i:=0) (by show (["thing","known"]:List Str).Nodup;decide +kernel) rfl (Or.inl rfl))) (λ_ _ _ _ _ _=>b9) (λ_ _ _ _ _ _=>(zR (CA (K:=K) rfl) (pv 0) (pv 1) (by with_unfolding_all rfl)))))) (zj (zR (jA (K:=K) (hu6 hr) rfl) (y2 GT rfl Ac PySem.boot_len (aW (zQ (GZ (K:=K) rfl rfl) rfl Ig GI (aW (pv 1))))) (y2 (o6 (K:=K) rfl) rfl Ac PySem.boot_len (aW (pv 1))) (m7 _)))))))),
  inferInstance⟩
abbrev ZX:Stmt:=top 25
abbrev Vy (Aa:Addr):MS:=(y4 (qH (x8 (wb Aa) (q0 (q8 0) (q0 (q8 1) q9))) (z0 pEq (x8 qu (q0 (x6 1) q9)) (x8 qu (q0 (qI Aa "names" (jx Aa) (q8 0) q9) q9)))))
def wf (Aa:Addr):List PV->Option PV:=u4 2 2 (Vy Aa)
theorem Mc:v7 ["works","names"] ["works","names"] (j6 ZX):=y0
theorem PK (F:Fun K "is_plan" "is_plan" ZX f fd)(D8:Fn P w K mg base 2 "are_names" ["works","names"] (z7 (wb Aa)))(Ac:mg "len"=none)(Al:Mt P w K mg base 1 Aa "names" ["self"] (r9 (jx Aa))):FnOk P w K mg base j8 3 f fd ["works","names"] (z7 (wf Aa)) :=
 k9 (k:=2) (b:=(Vy Aa)) F Mc rfl λcdv A outer s H E hr=>⟨_,(j4 (w6 (xP (fW D8 hr (aC (pv 0) (aW (pv 1)))) (zj (zR (jA (K:=K) (hu6 hr) rfl) (y2 (o6 (K:=K) rfl) rfl Ac PySem.boot_len (aW (pv 1))) (y2 (o6 (K:=K) rfl) rfl Ac PySem.boot_len (aW (vz Al hr (by decide) (pv 0)))) (m7 _)))))),
  inferInstance⟩
abbrev ZP:Stmt:=top 27
abbrev Vr (Aa:Addr):MS:=(y4 (g9 [none,some 0] [0] (u5 (q8 1)) (j9 0) u6 (qI Aa "cloth" (jw Aa) (q8 1) (q0 (q8 0) q9))))
def zf (Aa:Addr):List PV->Option PV:=u4 2 2 (Vr Aa)
theorem DV:v7 ["works","tray"] ["works","tray"] (j6 ZP):=y0
theorem Px (F:Fun K "cloths_of" "cloths_of" ZP f fd)(Am:Mt P w K mg base 1 Aa "cloth" ["self","name"] (z7 (jw Aa))):FnOk P w K mg base j8 2 f fd ["works","tray"] (z7 (zf Aa)) :=
 k9 (k:=1) (b:=(Vr Aa)) F DV rfl λcdv A outer s H E hr=>⟨_,(j4 (w6 (m8 (N':=["name","works"]) (cap:=[none,some 0]) (k8 rfl rfl rfl) rfl (@p0 _ K _ _ _ rfl (pv 1)) (λ_ _ _ _ _ _=>(g7 (i:=0) (by show (["name","works"]:List Str).Nodup;decide +kernel) rfl (Or.inl rfl))) (λ_ _ _ _ _ _=>b9) (λ_ _ _ _ _ _=>(Zl Am hr (by decide) (pv 1) (aW (pv 0))))))),
  inferInstance⟩
abbrev Js:Stmt:=top 28
abbrev VT (Aa:Addr):MS:=(y4 (x8 zJ (q0 (qI Aa "cloth" (jw Aa) (q8 0) (q0 (z0 v9 (x6 1) (dC (.int 0))) q9)) q9)))
def zN (Aa:Addr):List PV->Option PV:=u4 2 2 (VT Aa)
theorem Mq:v7 ["works","tray"] ["works","tray"] (j6 Js):=y0
theorem Co (F:Fun K "tray_hue" "tray_hue" Js f fd)(Aq:Fn P w K mg base 1 "hue_of" ["cloth"] (z7 zJ))(Am:Mt P w K mg base 1 Aa "cloth" ["self","name"] (z7 (jw Aa))):FnOk P w K mg base j8 2 f fd ["works","tray"] (z7 (zN Aa)) :=
 k9 (k:=1) (b:=(VT Aa)) F Mq rfl λcdv A outer s H E hr=>⟨_,(j4 (w6 (fW Aq hr (aW (Zl Am hr (by decide) (pv 0) (aW (iW (K:=K) rfl (pv 1) x9))))))),
  inferInstance⟩
abbrev Jv:Stmt:=top 29
abbrev VW (Aa:Addr):MS:=(y4 (x8 jE (q0 (g9 [none] [0] (u5 (x8 (zf Aa) (q0 (q8 0) (q0 (q8 1) q9)))) (j9 0) u6 (x8 wm (q0 (q8 0) q9))) q9)))
def vo (Aa:Addr):List PV->Option PV:=u4 2 2 (VW Aa)
theorem Mr:v7 ["works","tray"] ["works","tray"] (j6 Jv):=y0
theorem Cr (F:Fun K "tray_length" "tray_length" Jv f fd)(Ai:Fn P w K mg base 2 "cloths_of" ["works","tray"] (z7 (zf Aa)))(As:Fn P w K mg base 1 "length_of" ["cloth"] (z7 wm))(B4:mg "sum"=none):FnOk P w K mg base j8 3 f fd ["works","tray"] (z7 (vo Aa)) :=
 k9 (k:=2) (b:=(VW Aa)) F Mr rfl λcdv A outer s H E hr=>⟨_,(j4 (w6 (y2 (Wr (K:=K) rfl rfl) rfl B4 Qg (aW (m8 (N':=["cloth"]) (cap:=[none]) (k8 rfl rfl rfl) rfl (@p0 _ K _ _ _ rfl (fW Ai hr (aC (pv 0) (aW (pv 1))))) (λ_ _ _ _ _ _=>(g7 (i:=0) (by show (["cloth"]:List Str).Nodup;decide +kernel) rfl (Or.inl rfl))) (λ_ _ _ _ _ _=>b9) (λ_ _ _ _ _ _=>(fW As hr (aW (pv 0))))))))),
  inferInstance⟩
abbrev Jq:Stmt:=top 30
abbrev VR (Aa:Addr):MS:=(y4 (x8 QS (q0 (g9 [none] [0] (u5 (x8 (zf Aa) (q0 (q8 0) (q0 (q8 1) q9)))) (j9 0) u6 (x8 wd (q0 (q8 0) q9))) q9)))
def wp (Aa:Addr):List PV->Option PV:=u4 2 2 (VR Aa)
theorem Mp:v7 ["works","tray"] ["works","tray"] (j6 Jq):=y0
theorem Cm (F:Fun K "tray_due" "tray_due" Jq f fd)(Ai:Fn P w K mg base 2 "cloths_of" ["works","tray"] (z7 (zf Aa)))(D0:Fn P w K mg base 1 "due_of" ["cloth"] (z7 wd))(Eu:mg "min"=none):FnOk P w K mg base j8 3 f fd ["works","tray"] (z7 (wp Aa)) :=
 k9 (k:=2) (b:=(VR Aa)) F Mp rfl λcdv A outer s H E hr=>⟨_,(j4 (w6 (y2 (GY (K:=K) rfl rfl) rfl Eu Wm (aW (m8 (N':=["cloth"]) (cap:=[none]) (k8 rfl rfl rfl) rfl (@p0 _ K _ _ _ rfl (fW Ai hr (aC (pv 0) (aW (pv 1))))) (λ_ _ _ _ _ _=>(g7 (i:=0) (by show (["cloth"]:List Str).Nodup;decide +kernel) rfl (Or.inl rfl))) (λ_ _ _ _ _ _=>b9) (λ_ _ _ _ _ _=>(fW D0 hr (aW (pv 0))))))))),
  inferInstance⟩
abbrev ZW:Stmt:=top 31
abbrev Vx (Aa:Addr):MS:=(y4 (x8 qV (q0 (g9 [none,some 0,some 1] [0] (u5 (x8 (zf Aa) (q0 (q8 0) (q0 (q8 1) q9)))) (j9 0) u6 (z0 pEq (x8 zJ (q0 (q8 0) q9)) (x8 (zN Aa) (q0 (q8 1) (q0 (q8 2) q9))))) q9)))
def we (Aa:Addr):List PV->Option PV:=u4 2 2 (Vx Aa)
theorem Mb:v7 ["works","tray"] ["works","tray"] (j6 ZW):=y0
theorem PJ (F:Fun K "is_of_one_hue" "is_of_one_hue" ZW f fd)(Ai:Fn P w K mg base 2 "cloths_of" ["works","tray"] (z7 (zf Aa)))(Aq:Fn P w K mg base 1 "hue_of" ["cloth"] (z7 zJ))(Av:Fn P w K mg base 2 "tray_hue" ["works","tray"] (z7 (zN Aa)))(Ao:mg "all"=none):FnOk P w K mg base j8 3 f fd ["works","tray"] (z7 (we Aa)) :=
 k9 (k:=2) (b:=(Vx Aa)) F Mb rfl λcdv A outer s H E hr=>⟨_,(j4 (w6 (y2 (zy (K:=K) rfl rfl) rfl Ao zx (aW (m8 (N':=["cloth","works","tray"]) (cap:=[none,some 0,some 1]) (k8 rfl rfl rfl) rfl (@p0 _ K _ _ _ rfl (fW Ai hr (aC (pv 0) (aW (pv 1))))) (λ_ _ _ _ _ _=>(g7 (i:=0) (by show (["cloth","works","tray"]:List Str).Nodup;decide +kernel) rfl (Or.inl rfl))) (λ_ _ _ _ _ _=>b9) (λ_ _ _ _ _ _=>(zR (jA (K:=K) (hu6 hr) rfl) (fW Aq hr (aW (pv 0))) (fW Av hr (aC (pv 1) (aW (pv 2)))) (m7 _)))))))),
  inferInstance⟩
abbrev ZI:Stmt:=top 32
abbrev Vk:MS:=(y4 (qH (x8 p7 (q0 (x6 0) (q0 (dC (.ty "list")) q9))) (x8 qV (q0 (g9 [none] [0] (u5 (q8 0)) (j9 0) u6 (qH (x8 p7 (q0 (x6 0) (q0 (dC (.ty "list")) q9))) (z0 pGt (x8 qu (q0 (x6 0) q9)) (dC (.int 0))))) q9))))
def QB:List PV->Option PV:=u4 1 1 Vk
theorem DS:v7 ["trays"] ["trays"] (j6 ZI):=y0
theorem Po (F:Fun K "are_full_lists" "are_full_lists" ZI f fd)(Ao:mg "all"=none)(Ab:mg "isinstance"=none)(Ac:mg "len"=none)(Ag:mg "list"=none):FnOk P w K mg base j8 1 f fd ["trays"] (z7 QB) :=
 k9 (k:=0) (b:=Vk) F DS rfl λcdv A outer s H E hr=>⟨_,(j4 (w6 (xP (y2 (qF (K:=K) rfl) rfl Ab qE (aC (pv 0) (aW (qK (v:= .ty "list") rfl Ag xW rfl)))) (zj (y2 (zy (K:=K) rfl rfl) rfl Ao zx (aW (m8 (N':=["tray"]) (cap:=[none]) (k8 rfl rfl rfl) rfl (@p0 _ K _ _ _ rfl (pv 0)) (λ_ _ _ _ _ _=>(g7 (i:=0) (by show (["tray"]:List Str).Nodup;decide +kernel) rfl (Or.inl rfl))) (λ_ _ _ _ _ _=>b9) (λ_ _ _ _ _ _=>(xP (y2 (qF (K:=K) rfl) rfl Ab qE (aC (pv 0) (aW (qK (v:= .ty "list") rfl Ag xW rfl)))) (zj (zR (YE) (y2 (o6 (K:=K) rfl) rfl Ac PySem.boot_len (aW (pv 0))) x9 (m7 _)))))))))))),
  inferInstance⟩
abbrev ZN:Stmt:=top 33
abbrev Vp (Aa:Addr):MS:=(v8 (i7 (dOr (m4 (m5 (x8 QB (q0 (q8 1) q9)))) (m4 (m5 (x8 (wf Aa) (q0 (q8 0) (q0 (Qk (x6 1)) q9)))))) qJ o9)
  (i7 (m4 (m5 (x8 qV (q0 (g9 [none,some 0] [0] (u5 (q8 1)) (j9 0) u6 (x8 (we Aa) (q0 (q8 1) (q0 (q8 0) q9)))) q9)))) qJ o9))
def wc (Aa:Addr):List PV->Option PV:=u4 2 2 (Vp Aa)
theorem DU:v7 ["works","trays"] ["works","trays"] (j6 ZN):=y0
theorem Pu (F:Fun K "check_trays" "check_trays" ZN f fd)(Au:Fn P w K mg base 1 "are_full_lists" ["trays"] (z7 QB))(Az:Fn P w K mg base 3 "is_of_one_hue" ["works","tray"] (z7 (we Aa)))(Ei:Fn P w K mg base 3 "is_plan" ["works","names"] (z7 (wf Aa)))(Ao:mg "all"=none)(B4:mg "sum"=none):FnOk P w K mg base j8 4 f fd ["works","trays"] (z7 (wc Aa)) :=
 k9 (k:=3) (b:=(Vp Aa)) F DU rfl λcdv A outer s H E hr=>⟨_,(j3 (c6 (PW.pt (xS (qa (i9 (K:=K) rfl (fW Au hr (aW (pv 1))) (λ_=>rfl))) (zT (qa (i9 (K:=K) rfl (fW Ei hr (aC (pv 0) (aW (CV (K:=K) rfl rfl rfl B4 (aW (pv 1)))))) (λ_=>rfl)))))) (j4 xB) m3)
  (j4 (c6 (qa (i9 (K:=K) rfl (y2 (zy (K:=K) rfl rfl) rfl Ao zx (aW (m8 (N':=["tray","works"]) (cap:=[none,some 0]) (k8 rfl rfl rfl) rfl (@p0 _ K _ _ _ rfl (pv 1)) (λ_ _ _ _ _ _=>(g7 (i:=0) (by show (["tray","works"]:List Str).Nodup;decide +kernel) rfl (Or.inl rfl))) (λ_ _ _ _ _ _=>b9) (λ_ _ _ _ _ _=>(fW Az hr (aC (pv 1) (aW (pv 0)))))))) (λ_=>rfl))) (j4 xB) m3))),
  inferInstance⟩
abbrev Jw:Stmt:=top 34
abbrev VX (Aa:Addr):MS:=(v8 (zB (x8 (wc Aa) (q0 (q8 0) (q0 (q8 1) q9))))
  (v8 (k4 2 (qI Aa "start" (jy Aa) (q8 0) q9))
  (v8 (k4 3 (z0 v9 (x6 2) (dC (.int 0))))
  (v8 (k4 4 (z0 v9 (x6 2) (dC (.int 1))))
  (v8 (zD 5 (qR q9))
  (v8 (zC (u5 (q8 1)) (j9 6) (v8 (k4 7 (x8 (zN Aa) (q0 (q8 0) (q0 (q8 6) q9))))
  (v8 (k4 8 (z0 c4 (x6 4) (qI Aa "tray_rinse" (vn Aa) (q8 0) (q0 (q8 3) (q0 (q8 7) q9)))))
  (v8 (k4 4 (z0 c4 (x6 8) (x8 (vo Aa) (q0 (q8 0) (q0 (q8 6) q9)))))
  (v8 (k4 3 (q8 7))
  (jj 5 (qj (q0 (q8 8) (q0 (q8 4) q9)))))))))
  (y4 (oVar 5))))))))
def zh (Aa:Addr):List PV->Option PV:=xc 9 2 (VX Aa)
theorem sc_tray_rows:v7 ["works","trays","start","last","time","rows","tray","hue","begin"] ["works","trays"] (j6 Jw):=y0
theorem Cs (F:Fun K "tray_rows" "tray_rows" Jw f fd)(B7:Fn P w K mg base 4 "check_trays" ["works","trays"] (z7 (wc Aa)))(Av:Fn P w K mg base 2 "tray_hue" ["works","tray"] (z7 (zN Aa)))(B5:Fn P w K mg base 3 "tray_length" ["works","tray"] (z7 (vo Aa)))(An:Mt P w K mg base 1 Aa "start" ["self"] (z7 (jy Aa)))(Ar:Mt P w K mg base 1 Aa "tray_rinse" ["self","first","then"] (z7 (vn Aa))):FnOk P w K mg base j8 5 f fd ["works","trays"] (r9 (zh Aa)) :=
 okO (k:=4) (b:=(VX Aa)) F sc_tray_rows rfl λcdv A outer s H E hr=>⟨_,(j3 (xR (fW B7 hr (aC (pv 0) (aW (pv 1)))))
  (j3 (sW 2 sc_tray_rows.nd (vz An hr (by decide) (pv 0)))
  (j3 (sW 3 sc_tray_rows.nd (iW (K:=K) rfl (pv 2) x9))
  (j3 (sW 4 sc_tray_rows.nd (iW (K:=K) rfl (pv 2) x9))
  (j3 (sW 5 sc_tray_rows.nd (@xi _ _ _ _ y1))
  (j3 (qC PassesOwn.never rfl (@p0 _ K _ _ _ rfl (pv 1)) (gW 6 sc_tray_rows.nd)
   (j3 (sW 7 sc_tray_rows.nd (fW Av hr (aC (pv 0) (aW (pv 6)))))
  (j3 (sW 8 sc_tray_rows.nd (w5 (qg (K:=K) rfl) (pv 4) (Zl Ar hr (by decide) (pv 0) (aC (pv 3) (aW (pv 7))))))
  (j3 (sW 4 sc_tray_rows.nd (w5 (qg (K:=K) rfl) (pv 8) (fW B5 hr (aC (pv 0) (aW (pv 6))))))
  (j3 (sW 3 sc_tray_rows.nd (pv 7))
  (j4 (xR (zP (K:=K) rfl PySem.F.plainAttrs_list PySem.F.slot_list_append PySem.F.type_list_append wx (pv 5) (j7 (@qX _ _ _ _ _ (aC (pv 8) (aW (pv 4)))) y1)))))))))
  (j4 (w6 (pv 5))))))))),
  inferInstance⟩
abbrev Jr:Stmt:=top 35
abbrev VS (Aa:Addr):MS:=(v8 (k4 2 (x8 (zh Aa) (q0 (q8 0) (q0 (q8 1) q9))))
  (y4 (dIf (m5 (x6 2)) (z0 v9 (z0 v9 (x6 2) (dUn pNeg (dC (.int 1)))) (dC (.int 1))) (z0 v9 (qI Aa "start" (jy Aa) (q8 0) q9) (dC (.int 1))))))
def wq (Aa:Addr):List PV->Option PV:=u4 3 2 (VS Aa)
theorem sc_tray_end:v7 ["works","trays","rows"] ["works","trays"] (j6 Jr):=y0
theorem Cn (F:Fun K "tray_end" "tray_end" Jr f fd)(Ah:Fn P w K mg base 5 "tray_rows" ["works","trays"] (r9 (zh Aa)))(An:Mt P w K mg base 1 Aa "start" ["self"] (z7 (jy Aa))):FnOk P w K mg base j8 6 f fd ["works","trays"] (z7 (wq Aa)) :=
 k9 (k:=5) (b:=(VS Aa)) F sc_tray_end rfl λcdv A outer s H E hr=>⟨_,(j3 (sW 2 sc_tray_end.nd (fW Ah hr (aC (pv 0) (aW (pv 1)))))
  (j4 (w6 (Zk (i9 (K:=K) rfl (pv 2) (λ_=>rfl)) (iW (K:=K) rfl (iW (K:=K) rfl (pv 2) (QW Xe x9)) x9) (iW (K:=K) rfl (vz An hr (by decide) (pv 0)) x9))))),
  inferInstance⟩
abbrev Ju:Stmt:=top 36
abbrev VV (Aa:Addr):MS:=(v8 (k4 2 (x8 (zh Aa) (q0 (q8 0) (q0 (q8 1) q9))))
  (y4 (vP (g9 [none,none,some 0] [0,1] (va (q0 (q8 2) (q0 (q8 1) q9))) (xN 2 (qf (j9 0) (qf (j9 1) xM))) u6 (z0 xx (z0 v9 (x6 0) (dC (.int 1))) (x8 (wp Aa) (q0 (q8 2) (q0 (q8 1) q9))))))))
def wu (Aa:Addr):List PV->Option PV:=u4 3 2 (VV Aa)
theorem sc_tray_lateness:v7 ["works","trays","rows"] ["works","trays"] (j6 Ju):=y0
theorem Cq (F:Fun K "tray_lateness" "tray_lateness" Ju f fd)(Eb:Fn P w K mg base 3 "tray_due" ["works","tray"] (z7 (wp Aa)))(Ah:Fn P w K mg base 5 "tray_rows" ["works","trays"] (r9 (zh Aa)))(Ew:mg "max"=none)(Ee:mg "zip"=none):FnOk P w K mg base j8 6 f fd ["works","trays"] (z7 (wu Aa)) :=
 k9 (k:=5) (b:=(VV Aa)) F sc_tray_lateness rfl λcdv A outer s H E hr=>⟨_,(j3 (sW 2 sc_tray_lateness.nd (fW Ah hr (aC (pv 0) (aW (pv 1)))))
  (j4 (w6 (YH (K:=K) rfl rfl rfl Ew (aW (m8 (N':=["row","tray","works"]) (cap:=[none,none,some 0]) (k8 rfl rfl rfl) rfl (Zq (K:=K) rfl rfl Ee (aC (pv 2) (aW (pv 1)))) (λ_ _ _ _ _ _=>(wD (K:=K) (n:=2) rfl rfl (xQ (g7 (i:=0) (by show (["row","tray","works"]:List Str).Nodup;decide +kernel) rfl (Or.inl rfl)) (xQ (g7 (i:=1) (by show (["row","tray","works"]:List Str).Nodup;decide +kernel) rfl (Or.inl rfl)) wE)))) (λ_ _ _ _ _ _=>b9) (λ_ _ _ _ _ _=>(w5 (jD) (iW (K:=K) rfl (pv 0) x9) (fW Eb hr (aC (pv 2) (aW (pv 1)))))))))))),
  inferInstance⟩
abbrev jJ:Stmt:=vf (top 52) 0
abbrev Qc (Aa:Addr):MS:=(v8 (xJ Aa "least" (x8 QI (q0 (q8 1) q9)))
  (v8 (zB (x8 QE (q0 (q8 3) (q0 (q8 4) (q0 (jY Aa "hues" (vk Aa) 0 q9) q9)))))
  (v8 (zB (x8 QC (q0 (q8 2) (q0 (jY Aa "hues" (vk Aa) 0 q9) q9))))
  (v8 (xJ Aa "given" (g9 [none] [0] (u5 (q8 1)) (j9 0) u6 (x8 wA (q0 (x6 0) q9))))
  (v8 (xJ Aa "held" (x8 zO (q0 (g9 [none] [0] (u5 (q8 2)) (j9 0) u6 (qj (q0 (x8 zg (q0 (q8 0) q9)) (q0 (q8 0) q9)))) q9)))
  (v8 (xJ Aa "last" (dIf (dT (z0 pIsN (x6 3) (dC .non))) (dUn pNeg (dC (.int 1))) (q8 3)))
  (xJ Aa "time" (q8 4))))))))
def vm (Aa:Addr):List PV->Option PV:=vO 5 5 Aa (Qc Aa)
theorem DO:v7 ["self","rinses","cloths","last","time"] ["self","rinses","cloths","last","time"] (j6 jJ):=y0
theorem Pk (F:FunD K "__init__" "Works.__init__" jJ f fd)(B0:Fn P w K mg base 4 "check_cloths" ["cloths","hues"] (z7 QC))(B6:Fn P w K mg base 3 "check_start" ["last","time","hues"] (z7 QE))(A9:Fn P w K mg base 4 "least_rinses" ["rinses"] (r9 QI))(Ak:Fn P w K mg base 1 "name_of" ["cloth"] (z7 zg))(Ay:mg "dict"=none)(Ag:mg "list"=none)[xo K Aa][NoA K Aa "given"][NoA K Aa "held"][NoA K Aa "last"][NoA K Aa "least"][NoA K Aa "time"](A3:Mt P w K mg base 1 Aa "hues" ["self"] (z7 (vk Aa))):FnOk P w K mg base j8 5 f fd ["self","rinses","cloths","last","time"] (spI Aa (vm Aa)) :=
 okID (k:=4) (b:=Qc Aa) F DO rfl (λcdv A outer s H E hr=>⟨_,(j3 (wJ (K:=K) rfl (pv 0) (fW A9 hr (aW (pv 1))))
  (j3 (xR (fW B6 hr (aC (pv 3) (aC (pv 4) (aW (vz A3 hr (by decide) (pv 0)))))))
  (j3 (xR (fW B0 hr (aC (pv 2) (aW (vz A3 hr (by decide) (pv 0))))))
  (j3 (wJ (K:=K) rfl (pv 0) (m8 (N':=["row"]) (cap:=[none]) (k8 rfl rfl rfl) rfl (@p0 _ K _ _ _ rfl (pv 1)) (λ_ _ _ _ _ _=>(g7 (i:=0) (by show (["row"]:List Str).Nodup;decide +kernel) rfl (Or.inl rfl))) (λ_ _ _ _ _ _=>b9) (λ_ _ _ _ _ _=>(zQ (Xq (K:=K) rfl) rfl Ag xW (aW (pv 0))))))
  (j3 (wJ (K:=K) rfl (pv 0) (zQ (Qh (K:=K) rfl rfl) rfl Ay Qf (aW (m8 (N':=["cloth"]) (cap:=[none]) (k8 rfl rfl rfl) rfl (@p0 _ K _ _ _ rfl (pv 2)) (λ_ _ _ _ _ _=>(g7 (i:=0) (by show (["cloth"]:List Str).Nodup;decide +kernel) rfl (Or.inl rfl))) (λ_ _ _ _ _ _=>b9) (λ_ _ _ _ _ _=>(@qX _ _ _ _ _ (aC (fW Ak hr (aW (pv 0))) (aW (pv 0)))))))))
  (j3 (wJ (K:=K) rfl (pv 0) (Zk (ql (CC) (pv 3) YI (m7 _)) (QW Xe x9) (pv 3)))
  (j4 (wJ (K:=K) rfl (pv 0) (pv 4))))))))),
  (by repeat' first|infer_instance|(refine @Mi.Mz _ _ _ _ ?_ ?_))⟩)
abbrev Jc:Stmt:=top 64
noncomputable abbrev VD:MS:=(v8 (k4 2 (x8 zM (q0 (z0 v9 (x6 0) (dC (.int 0))) q9)))
  (v8 (k4 3 (x8 zO (q0 (g9 [none] [0] (u5 (z0 v9 (x6 0) (dC (.int 1)))) (j9 0) u6 (qj (q0 (z0 v9 (x6 0) (dC (.int 0))) (q0 (q8 0) q9)))) q9)))
  (v8 (dAsg (xN 2 (qf (j9 4) (qf (j9 5) xM))) (dSlT (x6 0) (pSo (dC (.int 2))) pNo))
  (v8 (zD 6 (qR q9))
  (v8 (zC (u5 (q8 1)) (j9 7) (v8 (k4 8 (z0 v9 (xa (x6 3) (z0 v9 (x6 7) (dC (.int 0)))) (dC (.int 1))))
  (v8 (k4 9 (z0 c4 (x6 5) (z0 v9 (z0 v9 (x6 2) (x6 4)) (x6 8))))
  (v8 (k4 5 (z0 c4 (x6 9) (x8 jE (q0 (g9 [none,some 3] [0] (u5 (q8 7)) (j9 0) u6 (z0 v9 (xa (x6 1) (x6 0)) (dC (.int 2)))) q9))))
  (v8 (jj 6 (qj (q0 (q8 9) (q0 (q8 5) q9))))
  (k4 4 (q8 8)))))))
  (y4 (oVar 6)))))))
noncomputable def zL:List PV->Option PV:=xc 10 2 VD
theorem sc_l_tray_rows:v7 ["parts","trays","least","cloths","last","time","found","tray","hue","begin"] ["parts","trays"] (j6 Jc):=y0
theorem PQ (F:Fun K "_law_tray_rows" "_law_tray_rows" Jc f fd)(Ib:Fn P w K mg base 1 "_law_least" ["rinses"] (z7 zM))(Ay:mg "dict"=none)(B4:mg "sum"=none):FnOk P w K mg base j8 2 f fd ["parts","trays"] (r9 zL) :=
 okO (k:=1) (b:=VD) F sc_l_tray_rows rfl λcdv A outer s H E hr=>⟨_,(j3 (sW 2 sc_l_tray_rows.nd (fW Ib hr (aW (iW (K:=K) rfl (pv 0) x9))))
  (j3 (sW 3 sc_l_tray_rows.nd (zQ (Qh (K:=K) rfl rfl) rfl Ay Qf (aW (m8 (N':=["cloth"]) (cap:=[none]) (k8 rfl rfl rfl) rfl (@p0 _ K _ _ _ rfl (iW (K:=K) rfl (pv 0) x9)) (λ_ _ _ _ _ _=>(g7 (i:=0) (by show (["cloth"]:List Str).Nodup;decide +kernel) rfl (Or.inl rfl))) (λ_ _ _ _ _ _=>b9) (λ_ _ _ _ _ _=>(@qX _ _ _ _ _ (aC (iW (K:=K) rfl (pv 0) x9) (aW (pv 0)))))))))
  (j3 (Zs (CU (MH (K:=K) rfl) (pv 0) (Di x9) Dh) (wD (K:=K) (n:=2) rfl rfl (xQ (gW 4 sc_l_tray_rows.nd) (xQ (gW 5 sc_l_tray_rows.nd) wE))))
  (j3 (sW 6 sc_l_tray_rows.nd (@xi _ _ _ _ y1))
  (j3 (qC PassesOwn.never rfl (@p0 _ K _ _ _ rfl (pv 1)) (gW 7 sc_l_tray_rows.nd)
   (j3 (sW 8 sc_l_tray_rows.nd (iW (K:=K) rfl (vy (za hr) (pv 3) (iW (K:=K) rfl (pv 7) x9) (λ_ _=>rfl)) x9))
  (j3 (sW 9 sc_l_tray_rows.nd (w5 (qg (K:=K) rfl) (pv 5) (iW (K:=K) rfl (iW (K:=K) rfl (pv 2) (pv 4)) (pv 8))))
  (j3 (sW 5 sc_l_tray_rows.nd (w5 (qg (K:=K) rfl) (pv 9) (y2 (Wr (K:=K) rfl rfl) rfl B4 Qg (aW (m8 (N':=["name","cloths"]) (cap:=[none,some 3]) (k8 rfl rfl rfl) rfl (@p0 _ K _ _ _ rfl (pv 7)) (λ_ _ _ _ _ _=>(g7 (i:=0) (by show (["name","cloths"]:List Str).Nodup;decide +kernel) rfl (Or.inl rfl))) (λ_ _ _ _ _ _=>b9) (λ_ _ _ _ _ _=>(iW (K:=K) rfl (vy (za hr) (pv 1) (pv 0) (λ_ _=>rfl)) x9)))))))
  (j3 (xR (zP (K:=K) rfl PySem.F.plainAttrs_list PySem.F.slot_list_append PySem.F.type_list_append wx (pv 6) (j7 (@qX _ _ _ _ _ (aC (pv 9) (aW (pv 5)))) y1)))
  (j4 (sW 4 sc_l_tray_rows.nd (pv 8))))))))
  (j4 (w6 (pv 6)))))))),
  inferInstance⟩
abbrev Jt:Stmt:=top 65
noncomputable abbrev VU:MS:=(v8 (k4 2 (x8 zO (q0 (g9 [none] [0] (u5 (z0 v9 (x6 0) (dC (.int 1)))) (j9 0) u6 (qj (q0 (z0 v9 (x6 0) (dC (.int 0))) (q0 (z0 v9 (x6 0) (dC (.int 3))) q9)))) q9)))
  (v8 (k4 3 (qR q9))
  (v8 (zC (va (q0 (q8 1) (q0 (x8 zL (q0 (q8 0) (q0 (q8 1) q9))) q9))) (xN 2 (qf (j9 4) (qf (j9 5) xM))) (k4 3 (z0 c4 (x6 3) (g9 [none,some 5,some 2] [0] (u5 (q8 4)) (j9 0) u6 (z0 xx (z0 v9 (x6 1) (dC (.int 1))) (xa (x6 2) (x6 0)))))))
  (y4 (vP (x6 3))))))
noncomputable def QL:List PV->Option PV:=u4 6 2 VU
theorem sc_tray_late:v7 ["parts","trays","dues","late","tray","span"] ["parts","trays"] (j6 Jt):=y0
theorem Cp (F:Fun K "_law_tray_late" "_law_tray_late" Jt f fd)(Af:Fn P w K mg base 2 "_law_tray_rows" ["parts","trays"] (r9 zL))(Ay:mg "dict"=none)(Ew:mg "max"=none)(Ee:mg "zip"=none):FnOk P w K mg base j8 3 f fd ["parts","trays"] (z7 QL) :=
 k9 (k:=2) (b:=VU) F sc_tray_late rfl λcdv A outer s H E hr=>⟨_,(j3 (sW 2 sc_tray_late.nd (zQ (Qh (K:=K) rfl rfl) rfl Ay Qf (aW (m8 (N':=["cloth"]) (cap:=[none]) (k8 rfl rfl rfl) rfl (@p0 _ K _ _ _ rfl (iW (K:=K) rfl (pv 0) x9)) (λ_ _ _ _ _ _=>(g7 (i:=0) (by show (["cloth"]:List Str).Nodup;decide +kernel) rfl (Or.inl rfl))) (λ_ _ _ _ _ _=>b9) (λ_ _ _ _ _ _=>(@qX _ _ _ _ _ (aC (iW (K:=K) rfl (pv 0) x9) (aW (iW (K:=K) rfl (pv 0) x9)))))))))
  (j3 (sW 3 sc_tray_late.nd (@xi _ _ _ _ y1))
  (j3 (qC PassesOwn.never rfl (Zq (K:=K) rfl rfl Ee (aC (pv 1) (aW (fW Af hr (aC (pv 0) (aW (pv 1))))))) (wD (K:=K) (n:=2) rfl rfl (xQ (gW 4 sc_tray_late.nd) (xQ (gW 5 sc_tray_late.nd) wE)))
   (j4 (sW 3 sc_tray_late.nd (w5 (qg (K:=K) rfl) (pv 3) (m8 (N':=["name","span","dues"]) (cap:=[none,some 5,some 2]) (k8 rfl rfl rfl) rfl (@p0 _ K _ _ _ rfl (pv 4)) (λ_ _ _ _ _ _=>(g7 (i:=0) (by show (["name","span","dues"]:List Str).Nodup;decide +kernel) rfl (Or.inl rfl))) (λ_ _ _ _ _ _=>b9) (λ_ _ _ _ _ _=>(w5 (jD) (iW (K:=K) rfl (pv 1) x9) (vy (za hr) (pv 2) (pv 0) (λ_ _=>rfl)))))))))
  (j4 (w6 (YH (K:=K) rfl rfl rfl Ew (aW (pv 3)))))))),
  inferInstance⟩
abbrev Jb:Stmt:=top 66
noncomputable abbrev VC:MS:=(y4 (z0 v9 (z0 v9 (z0 c4 (qR (q0 (qj (q0 (dC (.int 0)) (q0 (z0 v9 (x6 0) (dC (.int 3))) q9))) q9)) (x8 zL (q0 (q8 0) (q0 (q8 1) q9)))) (dUn pNeg (dC (.int 1)))) (dC (.int 1))))
noncomputable def QH:List PV->Option PV:=u4 2 2 VC
theorem Mg:v7 ["parts","trays"] ["parts","trays"] (j6 Jb):=y0
theorem PP (F:Fun K "_law_tray_end" "_law_tray_end" Jb f fd)(Af:Fn P w K mg base 2 "_law_tray_rows" ["parts","trays"] (r9 zL)):FnOk P w K mg base j8 3 f fd ["parts","trays"] (z7 QH) :=
 k9 (k:=2) (b:=VC) F Mg rfl λcdv A outer s H E hr=>⟨_,(j4 (w6 (iW (K:=K) rfl (iW (K:=K) rfl (w5 (qg (K:=K) rfl) (@xi _ _ _ _ (aW (@qX _ _ _ _ _ (aC x9 (aW (iW (K:=K) rfl (pv 0) x9)))))) (fW Af hr (aC (pv 0) (aW (pv 1))))) (QW Xe x9)) x9))),
  inferInstance⟩
abbrev JA:Stmt:=top 67
abbrev Xn:MS:=(y4 (qH (x8 p7 (q0 (x6 0) (q0 (dC (.ty "int")) q9))) (jZ (x8 p7 (q0 (x6 0) (q0 (dC (.ty "bool")) q9))))))
def wv:List PV->Option PV:=u4 1 1 Xn
theorem Mv:v7 ["thing"] ["thing"] (j6 JA):=y0
theorem Cw (F:Fun K "_law_whole" "_law_whole" JA f fd)(Eh:mg "bool"=none)(Et:mg "int"=none)(Ab:mg "isinstance"=none):FnOk P w K mg base j8 1 f fd ["thing"] (z7 wv) :=
 k9 (k:=0) (b:=Xn) F Mv rfl λcdv A outer s H E hr=>⟨_,(j4 (w6 (xP (y2 (qF (K:=K) rfl) rfl Ab qE (aC (pv 0) (aW (qK (v:= .ty "int") rfl Et Wl rfl)))) (zj (YJ (y2 (qF (K:=K) rfl) rfl Ab qE (aC (pv 0) (aW (qK (v:= .ty "bool") rfl Eh Wj rfl))))))))),
  inferInstance⟩
theorem JQ (n:Int):zK [.at (.int n)]=some (.at (.bl true)):=m6 rfl (p6 (xY (j5 rfl Bm) (KA (v:=false) (j5 rfl Bn))))
theorem Lm (n k:Int):xO [.at (.int n),.at (.int k)]=some (.at (.bl (decide (k<=n)))):=m6 rfl (p6 (xY (j5 rfl (JQ n)) rfl))
theorem wV {k:Int}(h:k<=n):xO [.at (.int n),.at (.int k)]=some (.at (.bl true)):=(Lm n k).trans (by rw [yg h])
theorem Lq {s:Str}(h:jQ s):QG [.at (.str s)]=some (.at (.bl true)):=by
 have hl:lim=1000000:=rfl;have l1:=h.one;have l8:=h.eight;have ln:qu [.at (.str s)]=some (.at (.int s.length)):=if_pos (by omega);refine m6 rfl (y3 (qr (xH (o8 (qi (j5 rfl Yh))) (o8 (t9 (XB (r:=true) rfl (j5 rfl ln) ?_ rfl ?_)))) qt) (p6 (j5 (w4 (c8 (λc:Nat=>PV.at (.str ⟨#[c]⟩)) (λ_=>PV.at (.bl true)) s.cps.toList rfl rfl ?_ ?_) rfl) (zw _))))
 ·show some (PV.at (.bl (decide ((1:Int)<=(s.length:Int)))))=_;rw [yg (by omega)]
 ·show some (PV.at (.bl (decide ((s.length:Int)<=8))))=_;rw [yg (by omega)]
 ·have:s.cps.toList.length=s.length:=by simp [Str.length]
  omega
 ·intro c hc;obtain ⟨c1,c2⟩:=h.low c hc;refine ⟨_,rfl,XB rfl rfl ?_ rfl ?_⟩
  ·show some (PV.at (.bl (!decide ([c]<("a":Str).cps.toList))))=_;have e:¬ ([c]<[97]):=by rw [List.cons_lt_cons_iff];simp;omega
   rw [show ("a":Str).cps.toList=[97] by decide +kernel,yB e];rfl
  ·show some (PV.at (.bl (!decide (("z":Str).cps.toList<[c]))))=_;have e:¬ ([122]<[c]):=by rw [List.cons_lt_cons_iff];simp;omega
   rw [show ("z":Str).cps.toList=[122] by decide +kernel,yB e];rfl
theorem Lp (ok:c.Ok h):QF [c.pv,.at (.int h)]=some (.at (.bl true)):=by refine m6 rfl (y3 (qr (xH (o8 (qi (j5 rfl Bo))) (t9 (v:=false) rfl)) qt) (y3 (qr (xH (o8 (qi (j5 (w4 (j5 rfl rfl) rfl) (Lq ok.nm)))) (xH (o8 (qi (j5 (w4 (j5 rfl rfl) rfl) (wV (n:=(c.hue:Int)) (k:=0) (by omega))))) (t9 (v:=false) (v5 (j5 rfl rfl) rfl ?_)))) qt) (p6 (xY (j5 (w4 (j5 rfl rfl) rfl) (wV ok.l1)) (xY (j5 (w4 (j5 rfl rfl) rfl) (JQ _)) (j5 (w4 (j5 rfl rfl) rfl) (wV ok.w1)))))));show some (PV.at (.bl (decide ((h:Int)<=(c.hue:Int)))))=_;have:=ok.hu;rw [yB (by omega)]
theorem Lk {l t:Int}(h1:-1<=l)(h2:l<(h:Int))(h3:0<=t):QE [.at (.int l),.at (.int t),.at (.int h)]=some (.at .non):=by refine Qq rfl (y3 (qr (WE (v:=false) (t9 (v:=true) rfl) (o8 (WE (v:=true) (qi (j5 rfl (wV h1))) (t9 (v:=true) ?_)))) qt) (qr (o8 (qi (j5 rfl (wV h3)))) qt));show some (PV.at (.bl (decide (l<(h:Int)))))=_;rw [yg h2]
def keysOf (cs:List Cl):List z5:=cs.map λc=>Sum.inr c.name
theorem Yv {x:Str}{α:Type}(f:Cl->PV):∀{cs:List Cl},x∉cs.map Cl.name->e9 (.inr x) (keysOf cs) (cs.map f)=none
 |[],_=>rfl
 |c::cs,h=>by
  rw [yM] at h;show (if (Sum.inr c.name:z5) = .inr x then _ else e9 (.inr x) (keysOf cs) (cs.map f))=_;rw [if_neg (λe=>h (by injection e with e;rw [e];exact yR)),Yv (α:=α) f λz=>h (yO _ z)]
theorem vZ (f:Cl->PV):∀{cs:List Cl},(cs.map Cl.name).Nodup->∀ c∈cs,e9 (.inr c.name) (keysOf cs) (cs.map f)=some (f c)
 |[],_,_,h=>nomatch h
 |d::cs,nd,c,h=>by
  rw [yM] at nd;have nd':=yx.mp nd;show (if (Sum.inr d.name:z5) = .inr c.name then some (f d) else e9 (.inr c.name) (keysOf cs) (cs.map f))=_;rcases yK.mp h with rfl|h
  ·rw [if_pos rfl]
  ·rw [if_neg (λe=>nd'.1 (by injection e with e;rw [e];exact yA.mpr ⟨c,h,rfl⟩)),vZ f nd'.2 c h]
theorem Li {cls:List Cl}(hok:∀ c∈cls,c.Ok h)(nd:(cls.map Cl.name).Nodup)(ten:cls.length<=10):QC [.lst (cls.map Cl.pv),.at (.int h)]=some (.at .non):=by
 have hl:lim=1000000:=rfl;refine Qq rfl (y3 (qr (t9 (v:=false) (v5 (j5 rfl rfl) rfl ?_)) qt) (y3 (vT rfl) (vR rfl (vj Cl.pv (λl ε=>∃(done:List Cl)(s3:MSlot),done++l=cls/\ε=[.sh (.lst (cls.map Cl.pv)),.sh (.at (.int h)),.ow (.dk (keysOf done) (done.map λ_=>PV.at (.bl true))),s3]) ?_ cls _ ⟨[],.no,rfl,rfl⟩).choose_spec.1)))
 ·show some (PV.at (.bl (decide ((10:Int)<((cls.map Cl.pv).length:Int)))))=_;rw [yZ,yB (by omega)]
 ·rintro c l ε ⟨done,s3,e,rfl⟩;have hc:c∈cls:=by rw [<- e];exact yv _ yR
  have hn:c.name∉done.map Cl.name:=λz=>by
   rw [<- e,yt,yM] at nd;exact (uq.mp nd).2.2 _ z _ yR rfl
  have ln:=Yv (α:=Unit) (λ_=>PV.at (.bl true)) hn;have hd:done.length<=10:=by rw [<- e] at ten;rw [yQ] at ten;omega
  refine ⟨_,_,rfl,y3 (qr (o8 (qi (j5 rfl (Lp (hok c hc))))) qt) (y3 (qr (t9 (v:=false) ?_) qt) ?_),done++[c],.sh c.pv,by rw [<- e,yb];rfl,rfl⟩
  ·show some (PV.at (.bl (e9 (.inr c.name) (keysOf done) (done.map λ_=>PV.at (.bl true))).isSome))=_;rw [ln];rfl
  ·show (if (keysOf done).length<=lim then some (Out.nx [_,_,.ow (Xa (.inr c.name) (.at (.bl true)) (keysOf done) (done.map λ_=>PV.at (.bl true))),_]) else none)=_;unfold Xa;rw [if_pos (by unfold keysOf;rw [yZ];omega),ln];simp only [Option.isSome_none,uL,if_false];unfold keysOf;rw [yt,yt];rfl
def zb (n:Int):PV:= .at (.int n)
def f6 (r:List Int):PV:= .lst (r.map zb)
def wyP (w:Wy):PV:= .tup [.at (.int w.1),.lst (w.2.map zb)]
def qc (ws:List Wy):PV:= .lst (ws.map wyP)
theorem LC (hl:r.length=h)(h4:h<=4)(hv:∀ v∈r,0<=v):wg [f6 r,.at (.int h)]=some (.at (.bl true)):=by
 have hlim:lim=1000000:=rfl;refine m6 rfl (y3 (qr (xH (o8 (qi (j5 rfl XL))) (t9 (v:=false) (v5 (j5 rfl rfl) rfl ?_))) qt) (p6 (j5 (w4 (c8 zb (λ_=>PV.at (.bl true)) r rfl rfl (by omega) λv hvm=>?_) rfl) (zw _))))
 ·show (peq 6 (.at (.int ((r.map zb).length:Int))) (.at (.int (h:Int)))).bind _=_;rw [yZ,hl];exact wC (x:= .at (.int (h:Int))) rfl
 ·refine ⟨_,rfl,xY (j5 rfl (JQ v)) ?_⟩;show some (PV.at (.bl (decide ((0:Int)<=v))))=_;rw [yg (hv v hvm)]
theorem Lj (G:b8 h rss)(h1:1<=h)(h4:h<=4):QD [k5 rss]=some (.at .non):=by
 have hlim:lim=1000000:=rfl;have hlen:=G.len;have eh:((rss.map f6).length:Int)-1=(h:Int):=by rw [yZ,hlen];omega
 have step:∀(k:Int),k=(h:Int)->v8 (i7 (m4 (dT (jk pLe pLe (dC (.int 1)) (x6 1) (dC (.int 4))))) qJ o9)
  (i7 (m4 (m5 (x8 qV (q0 (g9 [none,some 1] [0] (u5 (q8 0)) (j9 0) u6 (x8 wg (q0 (q8 0) (q0 (q8 1) q9)))) q9)))) qJ o9) [.sh (k5 rss),.sh (.at (.int k))]=some (.nx [.sh (k5 rss),.sh (.at (.int k))]):=by
  rintro k rfl;refine y3 (qr (o8 (t9 (XB (r:=true) rfl rfl ?_ rfl ?_))) qt) (qr (o8 (qi (j5 (w4 (c8 f6 (λ_=>PV.at (.bl true)) rss rfl rfl (by omega) λr hr=>⟨_,rfl,j5 rfl (LC (G.row r hr).1 h4 λv hv=>((G.row r hr).2 v hv).1)⟩) rfl) (zw _)))) qt)
  ·show some (PV.at (.bl (decide ((1:Int)<=(h:Int)))))=_;rw [yg (by omega)]
  ·show some (PV.at (.bl (decide ((h:Int)<=4))))=_;rw [yg (by omega)]
 exact Qq rfl (y3 (qr (o8 (qi (j5 rfl XL))) qt) (y3 (r6 rfl) (step _ eh)))
theorem WO {α:Type}(f:α->PV):∀(l:List α)(n:Nat),xf n (l.map f)=(l.zipIdx n).map λp=>PV.tup [.at (.int ((p.2:Nat):Int)),f p.1]
 |[],_=>rfl
 |x::l,n=>by
  rw [yM,List.zipIdx_cons,yM];show PV.tup [.at (.int n),f x]::xf (n+1) (l.map f)=_;rw [WO f l (n+1)]
theorem LD (h:r.length<=4):wo [f6 r]=some (qc (xC r)):=by
 have hlim:lim=1000000:=rfl;refine jo rfl (p6 ?_);have e:=c8 (cap:=[none,none]) (ts:=[0,1]) (it:=Xx (q0 (q8 0) q9)) (g:=xN 2 (qf (j9 0) (qf (j9 1) xM))) (f:=qj (q0 (q8 1) (q0 (qR (q0 (q8 0) q9)) q9))) (ε:=[.sh (f6 r)])
  (λp:Int×Nat=>PV.tup [.at (.int ((p.2:Nat):Int)),zb p.1]) (λp:Int×Nat=>wyP (p.1,[(p.2:Int)])) (r.zipIdx 0) (by show some (xf 0 (r.map zb))=_;rw [WO]) rfl (by rw [List.length_zipIdx];omega) λp _=>⟨_,rfl,rfl⟩
 refine e.trans ?_;unfold qc xC;rw [List.mapIdx_eq_zipIdx_map,yC];rfl
theorem Lr {a b:Wy}(h:a.2.length+b.2.length<=1000):wj [wyP a,wyP b]=some (wyP (xv a b)):=by have hlim:lim=1000000:=rfl;refine m6 rfl (p6 (xK (w4 (v5 rfl rfl rfl) (w4 (v5 rfl rfl (Zh (by rw [yZ,yZ];omega))) rfl)) (by first|decide|(show 1<=lim;decide)|(show 2<=lim;decide)|(show 3<=lim;decide))) |>.trans ?_);unfold wyP xv;rw [yt]
theorem Lz (a b:Wy):wn [wyP a,wyP b]=some (wyP (xL a b)):=by
 unfold xL;by_cases h:b.1<a.1
 ·rw [if_pos h];exact m6 rfl (p6 (WU (t9 (v:=true) (v5 rfl rfl (show some (PV.at (.bl (decide (b.1<a.1))))=_ by rw [yg h]))) rfl))
 ·rw [if_neg h];exact m6 rfl (p6 (XC (t9 (v:=false) (v5 rfl rfl (show some (PV.at (.bl (decide (b.1<a.1))))=_ by rw [yB h]))) rfl))
theorem Gn {α β:Type}(f:α->PV)(g:β->PV):∀(l:List α)(m:List β),o5 (l.map f) (m.map g)=(l.zip m).map λp=>PV.tup [f p.1,g p.2]
 |[],_=>by cases ‹List β›<;>rfl
 |_::_,[]=>rfl
 |x::l,y::m=>by
  show PV.tup [f x,g y]::o5 (l.map f) (m.map g)=_;rw [Gn f g l m];rfl
theorem Go {α β γ:Type}(f:α->β->γ):∀(l:List α)(m:List β),List.zipWith f l m=(l.zip m).map λp=>f p.1 p.2
 |[],_=>by simp
 |_::_,[]=>rfl
 |x::l,y::m=>by
  show f x y::List.zipWith f l m=_;rw [Go f l m];rfl
theorem LG {k:Nat}(hk:k<ws.length)(h4:ws.length<=4)(l1:∀ w∈ws,w.2.length<=100)(l2:∀ w∈onw,w.2.length<=100):vp [qc ws,.at (.int (k:Int)),qc onw]=some (qc (thr ws k onw)):=by
 have hlim:lim=1000000:=rfl;have hg:ws.getD k (0,[])=ws[k]:=y9 hk;have hw:=yu hk;refine jo rfl (p6 ?_);have e:=c8 (cap:=[none,none,some 0,some 1]) (ts:=[0,1]) (it:=va (q0 (q8 0) (q0 (q8 2) q9))) (g:=xN 2 (qf (j9 0) (qf (j9 1) xM))) (f:=x8 wn (q0 (q8 0) (q0 (x8 wj (q0 (z0 v9 (x6 2) (x6 3)) (q0 (q8 1) q9))) q9))) (ε:=[.sh (qc ws),.sh (.at (.int (k:Int))),.sh (qc onw)])
  (λp:Wy×Wy=>PV.tup [wyP p.1,wyP p.2]) (λp:Wy×Wy=>wyP (xL p.1 (xv ws[k] p.2))) (ws.zip onw) (by show some (o5 (ws.map wyP) (onw.map wyP))=_;rw [Gn]) rfl (by rw [List.length_zip];omega) λp hp=>⟨_,rfl,j5 (w4 rfl (w4 (j5 (w4 (v5 rfl rfl (qQ (v:=wyP ws[k]) (by rw [yP,yV hk];rfl))) (w4 rfl rfl)) (Lr (by
   have q1:=l1 _ hw;have q2:=l2 p.2 (uQ hp).2;omega))) rfl)) (Lz _ _)⟩
 refine e.trans ?_;unfold qc thr;rw [hg,Go,yC];rfl
theorem LM {k:Nat}(G:b8 h rss)(hk:k<=h)(h4:h<=4):∀ r∈u8 rss k,∀ w∈r,w.2.length<=100:=by
 intro r hr w hw;have S:=Shp.all G k hk;have F:=FW.all G k hk;obtain ⟨f,hf,rfl⟩:=uN hr;obtain ⟨g,hg,rfl⟩:=uN hw;have hf':f<=h:=by have:=S.len;omega
 have hg':g<h:=by rw [<- S.row _ hr];exact hg
 have e:v6 (u8 rss k) f g=(u8 rss k)[f][g]:=by unfold v6;rw [y9 hf,y9 hg]
 have q:=F.len f g hf' hg';rw [e] at q;have:2 ^ k<=2 ^ 4:=Nat.pow_le_pow_right (by decide) (by omega);omega
def wT (T:List (List Wy)):PV:= .lst (T.map qc)
theorem Ly (G:b8 h rss)(h1:1<=h)(h4:h<=4):QJ [k5 rss]=some (wT (u8 rss h)):=by
 have hlim:lim=1000000:=rfl;have hlimI:(lim:Int)=1000000:=rfl;have hlen:=G.len;have st:g9 [none] [0] (u5 (q8 0)) (j9 0) u6 (x8 wo (q0 (q8 0) q9)) [.sh (k5 rss),.no,.no,.no]=some (wT (u8 rss 0)):=by refine (c8 f6 (λr=>qc (xC r)) rss rfl rfl (by omega) λr hr=>⟨_,rfl,j5 rfl (LD (by rw [(G.row r hr).1];exact h4))⟩).trans ?_;show _=some (PV.lst ((rss.map xC).map qc));rw [yC];rfl
 have rg:xI (q0 (z0 xx (x8 qu (q0 (x6 0) q9)) (dC (.int 1))) q9) [.sh (k5 rss),.sh (wT (u8 rss 0)),.no,.no]=some ((List.range h).map λ(i:Nat)=>PV.at (.int ((0:Int)+i))):=by refine vB (k:=h) (w4 (v5 (j5 rfl rfl) rfl ?_) rfl) (by omega);show some (PV.at (.int (((rss.map f6).length:Int)-1)))=_;rw [yZ,hlen,show ((h+1:Nat):Int)-1=(h:Int) by omega]
 have lp:=vj (g:=j9 2) (f:=v8 (k4 3 (z0 v9 (x6 1) (x6 2))) (k4 1 (g9 [none,some 2,some 3] [0] (u5 (q8 1)) (j9 0) u6 (x8 vp (q0 (q8 0) (q0 (q8 1) (q0 (q8 2) q9)))))))
  (λ(i:Nat)=>PV.at (.int ((0:Int)+i))) (λl ε=>∃(k:Nat)(s2 s3:MSlot),l=(List.range h).drop k/\k<=h/\ε=[.sh (k5 rss),.sh (wT (u8 rss k)),s2,s3]) (by
   rintro i l ε ⟨k,s2,s3,el,hk,rfl⟩;have hkl:k<h:=by
    have e5:(i::l).length=((List.range h).drop k).length:=by rw [<- el]
    rw [ul,uB,yz] at e5;omega
   have ei:i=k:=by
    have:((List.range h).drop k)[0]?=some i:=by rw [<- el];rfl
    rw [List.getElem?_drop,List.getElem?_range (by omega)] at this;simpa using this.symm
   have er:l=(List.range h).drop (k+1):=by
    have:((List.range h).drop k).tail=l:=by rw [<- el];rfl
    rw [<- this,List.tail_drop]
   subst ei;have S:=Shp.all G i hk;have hT:i<(u8 rss i).length:=by rw [S.len];omega
   have gD:(u8 rss i).getD i []=(u8 rss i)[i]:=y9 hT;have wl:=LM G hk h4;refine ⟨_,_,rfl,y3 (r6 (x:=qc (u8 rss i)[i]) (v5 rfl rfl ?_)) (r6 (x:=wT (u8 rss (i+1))) ?_),i+1,_,_,er,hkl,rfl⟩
   ·show atI ((u8 rss i).map qc) (0+(i:Int))=_;rw [Int.zero_add];exact qQ (by rw [yP,yV hT];rfl)
   ·refine (c8 qc (λrow=>qc (thr row i (u8 rss i)[i])) (u8 rss i) rfl rfl (by rw [S.len];omega) λrow hr=>⟨_,rfl,j5 rfl ?_⟩).trans ?_
    ·show vp [qc row,.at (.int (0+(i:Int))),qc (u8 rss i)[i]]=_;rw [Int.zero_add];exact LG (by rw [S.row row hr];exact hkl) (by rw [S.row row hr];exact h4) (wl row hr) (wl _ (yu hT))
    ·show _=some (PV.lst ((qk (u8 rss i) i).map qc));unfold qk;rw [yC,gD];rfl) (List.range h) _ ⟨0,.no,.no,rfl,ye _,rfl⟩
 obtain ⟨ε',e',k,s2,s3,el,hk,rfl⟩:=lp;have ek:k=h:=by have:=congrArg List.length el;rw [ul,uB] at this;simp at this;omega
 subst ek;exact m6 rfl (y3 (r6 st) (y3 (vR rg e') (p6 rfl)))
theorem LE (h4:ws.length<=4):QK [qc ws]=some (f6 (ws.map (·.1))):=by have hlim:lim=1000000:=rfl;refine jo rfl (p6 ((c8 wyP (λw=>zb w.1) ws rfl rfl (by omega) λw _=>⟨_,rfl,rfl⟩).trans ?_));unfold f6;rw [yC];rfl
theorem Lx (G:b8 h rss)(h1:1<=h)(h4:h<=4):QI [k5 rss]=some (k5 (qd rss h)):=by have hlim:lim=1000000:=rfl;have S:=Shp.all G h (yU _);refine jo rfl (y3 (Qp (j5 rfl (Lj G h1 h4))) (p6 ((c8 qc (λws=>f6 (ws.map (·.1))) (u8 rss h) (zF (j5 rfl (Ly G h1 h4))) rfl (by rw [S.len];omega) λws hw=>⟨_,rfl,j5 rfl (LE (by rw [S.row ws hw];exact h4))⟩).trans ?_)));show _=some (PV.lst ((qd rss h).map f6));unfold qd;rw [yC];rfl
def Dr.low (d:Dr):List (List Int):=qd d.rss d.h
def KD:List Str:=["least","given","held","last","time"]
def Dr.ob (C:Addr)(d:Dr):PV:= .ob C KD [k5 d.low,k5 d.rss,.fk (keysOf d.cls) (d.cls.map Cl.pv),.at (.int d.last),.at (.int d.time)]
def Dr.names (d:Dr):List Str:=d.cls.map Cl.name
section
variable {C:Addr}{d:Dr}
theorem UZ:jy C [d.ob C]=some (.tup [.at (.int d.last),.at (.int d.time)]):=m6 rfl (p6 (xK (w4 (jn rfl rfl) (w4 (jn rfl rfl) rfl)) (by first|decide|(show 1<=lim;decide)|(show 2<=lim;decide)|(show 3<=lim;decide))))
theorem WR {i:Nat}{x:PV}(h1:a ε=some x)(h2:ε[i]?=some (.ow (.lst xs)))(h3:xs.length<=lim):jj i a ε=some (.nx (ε.set i (.ow (.lst (xs++[x]))))):=by unfold jj;rw [h1];show (match ε[i]? with|some (.ow (.lst xs))=>if xs.length<=lim then some (Out.nx (ε.set i (.ow (.lst (xs++[x]))))) else none|_=>none)=_;rw [h2];exact if_pos h3
theorem Qo {b:M}{z:PV}{k:z5}(h1:a ε=some (.fk ks xs))(h2:b ε=some y)(h3:xw y=some k)(h4:e9 k ks xs=some z):xa a b ε=some z:=by unfold xa;rw [h1,h2];show (xw y).bind _=_;rw [h3];exact h4
theorem Kz {b:M}{k:z5}{o:Option PV}(h1:a ε=some (.fk ks xs))(h2:b ε=some y)(h3:xw y=some k)(h4:e9 k ks xs=o):Qj b a ε=some (.at (.bl (!o.isSome))):=by unfold Qj;rw [h1,h2];show (xw y).bind _=_;rw [h3,<- h4];rfl
theorem UW (ok:d.Ok)(hc:c∈d.cls):jw C [d.ob C,.at (.str c.name)]=some c.pv:=by
 have lk:=vZ Cl.pv ok.nd c hc;refine m6 rfl (y3 (qr (xH (o8 (qi (j5 rfl Yh))) (t9 (v:=false) ?_)) qt) (p6 ?_))
 ·exact Kz (jn rfl rfl) rfl rfl lk
 ·exact Qo (jn rfl rfl) rfl rfl lk
theorem Ut (G:b8 h rss){f:Int}(f0:-1<=f)(f1:f<(h:Int))(hg:g<h):∃ r:List Int,atI (rss.map f6) f=some (f6 r)/\atI (r.map zb) (g:Int)=some (.at (.int (rin rss f (g:Int)))):=by
 have main:∀ n:Nat,n<=h->∃ r:List Int,(rss.map f6)[n]?=some (f6 r)/\rss[n]?=some r/\atI (r.map zb) (g:Int)=some (.at (.int (rin rss (n:Int) (g:Int)))):=by
  intro n hn;have hl:n<rss.length:=by have:=G.len;omega
  have hgl:g<rss[n].length:=by rw [(G.row _ (yu hl)).1];exact hg
  refine ⟨rss[n],by rw [yP,yV hl];rfl,yV hl,?_⟩;rw [zV G hn hg,y9 hl,y9 hgl];exact qQ (by rw [yP,yV hgl];rfl)
 by_cases hf:f=-1
 ·subst hf;obtain ⟨r,e1,e2,e3⟩:=main h (yU _);refine ⟨r,?_,?_⟩
  ·have hlen:(rss.map f6).length=h+1:=by rw [yZ];exact G.len
   have e:atI (rss.map f6) (h:Int)=some (f6 r):=qQ e1;rw [<- e];unfold atI;rw [hlen];have i1:ixN (h+1) (-1)=some h:=by
    unfold ixN;rw [if_neg (by decide),if_pos (by omega)]
    congr 1
    omega
   have i2:ixN (h+1) (h:Int)=some h:=by
    unfold ixN;rw [if_pos (by omega),if_pos (by omega)]
    congr 1
   rw [i1,i2]
  ·rw [DH G.len];exact e3
 ·obtain ⟨n,rfl⟩:=yj (show 0<=f by omega);obtain ⟨r,e1,e2,e3⟩:=main n (by omega);exact ⟨r,qQ e1,e3⟩
theorem LI (ok:d.Ok){f:Int}(f0:-1<=f)(f1:f<(d.h:Int))(hg:g<d.h):vn C [d.ob C,.at (.int f),.at (.int (g:Int))]=some (.at (.int (rin d.low f (g:Int)))):=by obtain ⟨r,e1,e2⟩:=Ut (wa ok.rin) f0 f1 hg;exact m6 rfl (p6 (v5 (v5 (jn rfl rfl) rfl e1) rfl e2))
theorem WQ (a b:Int):pEq (.at (.int a)) (.at (.int b))=some (.at (.bl (decide (a=b)))):=by show some (PV.at (.bl (h8 (.int a) (.int b))))=_;have:h8 (.int a) (.int b)=decide (a=b):=rfl;rw [this]
theorem Pe (a b:Int):pNe (.at (.int a)) (.at (.int b))=some (.at (.bl (!decide (a=b)))):=by show some (PV.at (.bl (!h8 (.int a) (.int b))))=_;have:h8 (.int a) (.int b)=decide (a=b):=rfl;rw [this]
structure Lst (d:Dr)(ns:List Cl):Prop where
 sub:∀ c∈ns,c∈d.cls
 nd:(ns.map Cl.name).Nodup
def u9 (cs:List Cl):PV:= .lst (y7 (cs.map Cl.name))
theorem Lst.len (ok:d.Ok)(L:Lst d ns):ns.length<=10:=by
 have:=Zf L.nd (left:=d.cls.map Cl.name) λx hx=>by
  obtain ⟨c,hc,rfl⟩:=yA.mp hx;exact yA.mpr ⟨c,L.sub c hc,rfl⟩
 rw [yZ,yZ] at this;have:=ok.ten;omega
end
structure Tray (t:List Cl):Prop where
 ne:t≠[]
 one:∀ c∈t,∀ e∈t,c.hue=e.hue
structure Trays (d:Dr)(T:List (List Cl)):Prop where
 perm:T.flatten.Perm d.cls
 each:∀ t∈T,Tray t
def QZ:List PV->Prop:=λxs=>∃ d:Dr,xs=[d.pv]/\d.Ok
def wZ:List PV->PV->Prop:=λxs y=>∃(d:Dr)(T:List (List Cl)),xs=[d.pv]/\y = .lst (T.map u9)/\Trays d T
theorem KS (h:spD QZ wZ vs H Q E):vs.length=(["row","parts"]:List Str).length:=by obtain ⟨Hs,a,n,xs,ws,rfl,_,_,_,r,⟨d,rfl,_⟩,_⟩:=h;rw [yz,r.length];rfl
def c9 (cs:List Cl):List V:=cs.map λc=>V.str c.name
theorem wy (cs:List Cl):(c9 cs).length=cs.length:=yZ _
theorem YB (cs:List Cl):y7 (cs.map Cl.name)=(c9 cs).map PV.at:=by unfold y7 c9;rw [yC,yC];rfl
structure TI (H3:Hp)(a fr F:Addr)(H:Hp)(n:Int)(free:List Cl)(as:List Addr)(T:List (List Cl)):Prop where
 row:H a=some (.lst [.int n])
 fre:H fr=some (.lst (c9 free))
 top:H F=some (.lst (as.map V.ref))
 len:as.length=T.length
 tr:∀(i:Nat)(b:Addr)(t:List Cl),as[i]?=some b->T[i]?=some t->H b=some (.lst (c9 t))
 nd:(a::fr::F::as).Nodup
 new:∀ b∈as,H3 b=none
 kp:∀ b o,b≠a->b≠fr->b≠F->H3 b=some o->H b=some o
section
variable {H3 H:Hp}{a fr F p:Addr}{n m:Int}{free fre2:List Cl}{as:List Addr}{T:List (List Cl)}{o:HO}
theorem TI.ne (x:TI H3 a fr F H n free as T):a≠fr/\a≠F/\a∉as/\fr≠F/\fr∉as/\F∉as/\as.Nodup:=by obtain ⟨h1,h2⟩:=yx.mp x.nd;obtain ⟨h3,h4⟩:=yx.mp h2;obtain ⟨h5,h6⟩:=yx.mp h4;simp only [yK,not_or] at h1 h3;exact ⟨h1.1,h1.2.1,h1.2.2,h3.1,h3.2,h5,h6⟩
theorem TI.nb (x:TI H3 a fr F H n free as T)(hb:b∈as):b≠a/\b≠fr/\b≠F:=by obtain ⟨_,_,n3,_,n5,n6,_⟩:=x.ne;exact ⟨λz=>n3 (z▸hb),λz=>n5 (z▸hb),λz=>n6 (z▸hb)⟩
theorem TI.mem (x:TI H3 a fr F H n free as T)(hb:b∈as):∃(i:Nat)(t:List Cl),as[i]?=some b/\T[i]?=some t:=by obtain ⟨i,hi,e⟩:=List.mem_iff_getElem.mp hb;exact ⟨i,T[i]'(by rw [<- x.len];exact hi),by rw [yV hi,e],yV _⟩
theorem TI.setRow (x:TI H3 a fr F H n free as T):TI H3 a fr F (z6 H a (.lst [.int m])) m free as T:=by obtain ⟨n1,n2,n3,n4,n5,n6,_⟩:=x.ne;refine ⟨w9,by rw [z8 n1.symm];exact x.fre,by rw [z8 n2.symm];exact x.top,x.len,λi b t hb ht=>?_,x.nd,x.new,λb u h1 h2 h3 e=>by rw [z8 h1];exact x.kp b u h1 h2 h3 e⟩;rw [z8 (x.nb (yp hb)).1];exact x.tr i b t hb ht
theorem TI.setFre (x:TI H3 a fr F H n free as T):TI H3 a fr F (z6 H fr (.lst (c9 fre2))) n fre2 as T:=by obtain ⟨n1,n2,n3,n4,n5,n6,_⟩:=x.ne;refine ⟨by rw [z8 n1];exact x.row,w9,by rw [z8 n4.symm];exact x.top,x.len,λi b t hb ht=>?_,x.nd,x.new,λb u h1 h2 h3 e=>by rw [z8 h2];exact x.kp b u h1 h2 h3 e⟩;rw [z8 (x.nb (yp hb)).2.1];exact x.tr i b t hb ht
theorem TI.lay (x:TI H3 a fr F H n free as T)(hp:H p=none):TI H3 a fr F (z6 H p o) n free as T:=by
 have k:∀{b:Addr}{u:HO},H b=some u->z6 H p o b=some u:=λ{b u} e=>by rw [z8 (u7 e hp)];exact e
 exact ⟨k x.row,k x.fre,k x.top,x.len,λi b t hb ht=>k (x.tr i b t hb ht),x.nd,x.new,λb u h1 h2 h3 e=>k (x.kp b u h1 h2 h3 e)⟩
theorem TI.app (x:TI H3 a fr F H n free as T){i:Nat}{t:List Cl}(hb:as[i]?=some b)(ht:T[i]?=some t):TI H3 a fr F (z6 H b (.lst (c9 (t++[c])))) n free as (T.set i (t++[c])):=by
 obtain ⟨n1,n2,n3,n4,n5,n6,nd⟩:=x.ne;have bm:=yp hb;have hi:i<T.length:=(yH.mp ht).1;refine ⟨by rw [z8 (x.nb bm).1.symm];exact x.row,by rw [z8 (x.nb bm).2.1.symm];exact x.fre,by rw [z8 (x.nb bm).2.2.symm];exact x.top,by rw [yn];exact x.len,λj e u he hu=>?_,x.nd,x.new,λe u h1 h2 h3 z=>?_⟩
 ·by_cases hj:i=j
  ·subst hj;rw [hb] at he;cases he;rw [uZ hi] at hu;cases hu;exact w9
  ·rw [yw hj] at hu;rw [z8 (λz=>?_)]
   ·exact x.tr j e u he hu
   ·subst z;obtain ⟨q1,e1⟩:=yH.mp hb;obtain ⟨q2,e2⟩:=yH.mp he;exact hj ((List.getElem_inj (h₀:=q1) (h₁:=q2) nd).mp (e1.trans e2.symm))
 ·rw [z8 (λy=>by rw [y,x.new b bm] at z;cases z)];exact x.kp e u h1 h2 h3 z
theorem jr {l:List α}{i:Nat}{y b:α}(hj:j<=l.length)(h:(l.take j++y::l.drop j)[i]?=some b):(i<j/\l[i]?=some b)∨(i=j/\b=y)∨(j<i/\l[i-1]?=some b):=by
 rw [List.getElem?_append] at h;have tl:(l.take j).length=j:=by rw [um];omega
 split at h
 ·rename_i hi;rw [tl] at hi;rw [List.getElem?_take_of_lt hi] at h;exact .inl ⟨hi,h⟩
 ·rename_i hi;rw [tl] at hi h;cases hk:i-j with
  |zero=>rw [hk] at h;cases h;exact .inr (.inl ⟨by omega,rfl⟩)
  |succ k=>rw [hk,List.getElem?_cons_succ,List.getElem?_drop] at h;refine .inr (.inr ⟨by omega,?_⟩);rw [show i-1=j+k by omega];exact h
theorem TI.ins (x:TI H3 a fr F H n free as T)(hp:H p=none)(h3:H3 p=none){c:Cl}{j:Nat}(hj:j<=as.length):TI H3 a fr F (z6 (z6 H p (.lst (c9 [c]))) F (.lst ((as.take j++p::as.drop j).map V.ref))) n free (as.take j++p::as.drop j) (T.take j++[c]::T.drop j):=by
 obtain ⟨n1,n2,n3,n4,n5,n6,nd⟩:=x.ne;have k:∀{b:Addr}{u:HO},H b=some u->z6 H p (.lst (c9 [c])) b=some u:=λ{b u} e=>by rw [z8 (u7 e hp)];exact e
 have pa:p≠a:=λz=>by rw [z,x.row] at hp;cases hp
 have pf:p≠fr:=λz=>by rw [z,x.fre] at hp;cases hp
 have pF:p≠F:=λz=>by rw [z,x.top] at hp;cases hp
 have ps:p∉as:=λz=>by
  obtain ⟨i,t,h1,h2⟩:=x.mem z;rw [x.tr i p t h1 h2] at hp;cases hp
 have pm:(as.take j++p::as.drop j).Perm (p::as):=by have:=uw (a:=p) (l₁:=as.take j) (l₂:=as.drop j);rwa [List.take_append_drop] at this
 have hT:j<=T.length:=by rw [<- x.len];exact hj
 refine ⟨by rw [z8 n2];exact k x.row,by rw [z8 n4];exact k x.fre,w9,by simp [x.len],λi b t hb ht=>?_,?_,λb hb=>?_,λb u h1 h2 h4 e=>by rw [z8 h4];exact k (x.kp b u h1 h2 h4 e)⟩
 ·have fb:b≠F:=λz=>by
   have:=pm.mem_iff.mp (yp hb);rw [z] at this;rcases yK.mp this with h|h
   ·exact pF h.symm
   ·exact n6 h
  rw [z8 fb];rcases jr hj hb with ⟨q1,q2⟩|⟨q1,rfl⟩|⟨q1,q2⟩<;>rcases jr hT ht with ⟨w1,w2⟩|⟨w1,rfl⟩|⟨w1,w2⟩<;>first|omega|exact k (x.tr _ b t q2 w2)|exact w9
 ·have:(a::fr::F::(as.take j++p::as.drop j)).Perm (p::a::fr::F::as):=by refine (((pm.cons F).cons fr).cons a).trans ?_;exact (((List.Perm.swap p F as).cons fr).cons a).trans ((List.Perm.swap p fr (F::as)).cons a |>.trans (List.Perm.swap p a (fr::F::as)))
  refine this.nodup_iff.mpr (yx.mpr ⟨?_,x.nd⟩);simp only [yK,not_or];exact ⟨pa,pf,pF,ps⟩
 ·rcases yK.mp (pm.mem_iff.mp hb) with rfl|h
  ·exact h3
  ·exact x.new b h
end
section
variable {K:Fg}{σ:St}{H:Hp}{Q:VK}{i:Nat}{p a:Addr}{xs:List V}{n m:Int}
theorem Zx (hi:σ[i]?=some (some (.ref p)))(hp:H p=some (.lst xs))(q:Q (.int xs.length) H):tCB (zm K) (p8 (n8 i) c5) σ H Q:=⟨_,hi,.inl ⟨_,_,rfl,.inl ⟨xs,SqL.of hp,rfl⟩,q⟩⟩
theorem Uj (hi:σ[i]?=some (some (.ref p)))(hp:H p=some (.lst xs))(q:Q (.int (xs.length+1)) H):tOp (Zu K) (tCB (zm K) (p8 (n8 i) c5)) (tC (.int 1)) σ H Q:=Zx hi hp (.inl ⟨_,_,rfl,rfl,q⟩)
theorem Zy {te:TE}(hi:σ[0]?=some (some (.ref a)))(ha:H a=some (.lst [.int n]))(h:∀{R:VK},R (.int m) H->te σ H R)(hc:vH n m)(q:Q (.int (n % m)) (z6 H a (.lst [.int (n / m)]))):xV zp [] E0 (p8 (n8 0) (p8 te c5)) σ H Q :=
 ⟨_,hi,h ⟨a,n,m,rfl,ha,hc,q⟩⟩
end
theorem JK {K:Fg}{xs:List V}(h:H p=some (.lst xs)):tyV K "list" (.ref p) H:= .inl ⟨rfl,xs,SqL.of h⟩
theorem Ym:∀{kvs:List (z5×V)}{cs:List Cl},kvs.map (·.1)=keysOf cs->(kvs.map (·.2)=cs.map λc=>V.int c.hue)->kvs=cs.map λc=>((Sum.inr c.name:z5),V.int c.hue)
 |[],[],_,_=>rfl
 |[],_::_,h,_=>by cases h
 |_::_,[],h,_=>by cases h
 |(k,v)::kvs,c::cs,h1,h2=>by
  injection h1 with a1 b1;injection h2 with a2 b2;rw [Ym b1 b2,yM]
  congr 1
  exact Prod.ext a1 a2
theorem Zr (f:Cl->PV):∀ cs:List Cl,xA (cs.map λc=>PV.tup [.at (.str c.name),f c])=some (cs.map λc=>((.inr c.name:z5),f c))
 |[]=>rfl
 |c::cs=>by
  show Option.bind (some (Sum.inr c.name:z5)) (λkk=>(xA (cs.map λc=>PV.tup [.at (.str c.name),f c])).map ((kk,f c)::·))=_;rw [Zr f cs];rfl
theorem XF {α:Type}:∀{T:List (List α)},(∀ t∈T,t≠[])->T.length<=T.flatten.length
 |[],_=>yU _
 |t::T,h=>by
  rw [ym,yQ,yz];have:=XF (T:=T) λx hx=>h x (yO _ hx);have:=uu.mpr (h t yR);omega
theorem XE {α:Type}:∀{T:List (List α)}{t:List α},t∈T->t.length<=T.flatten.length
 |x::T,t,h=>by
  rw [ym,yQ];rcases yK.mp h with rfl|h
  ·omega
  ·have:=XE h;omega
theorem WY {α:Type}:∀{T:List (List α)}{i:Nat}{t:List α}{c:α},T[i]?=some t->(T.set i (t++[c])).flatten.Perm (c::T.flatten)
 |[],i,_,_,h=>by simp at h
 |x::T,0,t,c,h=>by
  cases h;rw [List.set_cons_zero,ym,ym,yb];exact uw
 |x::T,i+1,t,c,h=>by
  rw [List.set_cons_succ,ym,ym];exact ((WY (T:=T) (c:=c) (by simpa using h)).append_left x).trans uw
theorem KE (T:List (List α))(j:Nat)(c:α):(T.take j++[c]::T.drop j).flatten.Perm (c::T.flatten):=by
 rw [List.flatten_append,ym];have:T.flatten=(T.take j).flatten++(T.drop j).flatten:=by rw [<- List.flatten_append,List.take_append_drop]
 rw [this];exact uw
theorem keyN (h:(cs.map Cl.name).Nodup):(keysOf cs).Nodup:=by
 have e:keysOf cs=(cs.map Cl.name).map λs=>(Sum.inr s:z5):=by unfold keysOf;rw [yC];rfl
 rw [e];exact List.Pairwise.map _ (λa b hab z=>hab (Sum.inr.inj z)) h
theorem nine {l:List α}(h:l.length=9):∃ a b c d e f g i j,l=[a,b,c,d,e,f,g,i,j]:=by
 match l,h with
 |[a,b,c,d,e,f,g,i,j],_=>exact ⟨a,b,c,d,e,f,g,i,j,rfl⟩
theorem Yc (nd:(cs.map Cl.name).Nodup)(hc:c∈cs):o3 (cs.map λc=>((Sum.inr c.name:z5),V.int c.hue)) (Sum.inr c.name)=some (.int c.hue):=by
 unfold L2.o3
 induction cs with
 |nil=>cases hc
 |cons x cs ih =>
  rw [yM,yx] at nd;rw [yM,uP];rcases yK.mp hc with rfl|hc
  ·simp
  ·have:x.name≠c.name:=λe=>nd.1 (e▸yA.mpr ⟨c,hc,rfl⟩);rw [show decide ((Sum.inr x.name:z5)=Sum.inr c.name)=false by simp [this]];exact ih nd.2 hc
theorem seqS {t u:TS}{f:MS}[sf:t6 false t f]{ε':ME}{Hs0 Hs:Hp}{D:qO}(e:f ε=some (.nx ε'))(rs:RS Hs0 H0 Hs H σ ε)(k:∀ Hs H σ,RS Hs0 H0 Hs H σ ε'->u D σ H):tSeq t u D σ H:=sf.h e rs k
abbrev Jx:Stmt:=top 62
theorem sc_trays:v7 ["row","parts","hues","free","found","k","name","same","pick"] ["row","parts"] (j6 Jx):=y0
theorem Ct (F:Fun K "_law_trays" "_law_trays" Jx f fd)(Ae:Fn P w K mg base 1 "_law_digit" ["row","many"] zp)(Ay:mg "dict"=none)(Ac:mg "len"=none)(Ad:mg "range"=none):FnOk P w K mg base j8 2 f fd ["row","parts"] (spD QZ wZ):=by
 refine F.ok (k:=1) sc_trays (λvs H Q E h=>KS h) (λcdv A outer s H vs Q E hr h=>⟨_,(j3 (sW 2 sc_trays.nd (zQ (Qh (K:=K) rfl rfl) rfl Ay Qf (aW (m8 (N':=["cloth"]) (cap:=[none]) (k8 rfl rfl rfl) rfl (@p0 _ K _ _ _ rfl (iW (K:=K) rfl (pv 1) x9)) (λ_ _ _ _ _ _=>(g7 (i:=0) (by show (["cloth"]:List Str).Nodup;decide +kernel) rfl (Or.inl rfl))) (λ_ _ _ _ _ _=>b9) (λ_ _ _ _ _ _=>(@qX _ _ _ _ _ (aC (iW (K:=K) rfl (pv 0) x9) (aW (iW (K:=K) rfl (pv 0) x9)))))))))
  (j3 (zk (i:=3) (N':=["cloth"]) (cap:=[none]) (k8 rfl rfl rfl) rfl sc_trays.nd rfl rfl (@p0 _ K _ _ _ rfl (iW (K:=K) rfl (pv 1) x9)) (λ_ _ _ _ _ _=>(g7 (i:=0) (by show (["cloth"]:List Str).Nodup;decide +kernel) rfl (Or.inl rfl))) (λ_ _ _ _ _ _=>b9) (λ_ _ _ _ _ _=>(iW (K:=K) rfl (pv 0) x9)))
  (j3 (sW 4 sc_trays.nd (@xi _ _ _ _ y1))
  (j3 (qC PassesOwn.never rfl (xz rfl Ad (aW (y2 (o6 (K:=K) rfl) rfl Ac PySem.boot_len (aW (pv 3))))) (gW 5 sc_trays.nd)
   (j3 (sW 6 sc_trays.nd (zP (K:=K) rfl PySem.F.plainAttrs_list PySem.F.slot_list_pop PySem.F.type_list_pop YA (pv 3) (j7 (fW Ae hr (aC (pv 0) (aW (y2 (o6 (K:=K) rfl) rfl Ac PySem.boot_len (aW (pv 3)))))) y1)))
  (j3 (zk (i:=7) (N':=["tray","hues","name"]) (cap:=[none,some 2,some 6]) (k8 rfl rfl rfl) rfl sc_trays.nd rfl rfl (@p0 _ K _ _ _ rfl (pv 4)) (λ_ _ _ _ _ _=>(g7 (i:=0) (by show (["tray","hues","name"]:List Str).Nodup;decide +kernel) rfl (Or.inl rfl))) (λ_ _ _ _ _ _=>(Dp (ql (jA (K:=K) (hu6 hr) rfl) (vy (za hr) (pv 1) (iW (K:=K) rfl (pv 0) x9) (λ_ _=>rfl)) (vy (za hr) (pv 1) (pv 2) (λ_ _=>rfl)) (m7 _)))) (λ_ _ _ _ _ _=>(pv 0)))
  (j3 (sW 8 sc_trays.nd (fW Ae hr (aC (pv 0) (aW (w5 (qg (K:=K) rfl) (y2 (o6 (K:=K) rfl) rfl Ac PySem.boot_len (aW (pv 7))) x9)))))
  (j4 (c6 (ql (Zg) (pv 8) (y2 (o6 (K:=K) rfl) rfl Ac PySem.boot_len (aW (pv 7))) (m7 _)) (j4 (xR (zP (K:=K) rfl PySem.F.plainAttrs_list PySem.F.slot_list_append PySem.F.type_list_append wx (iW (K:=K) rfl (pv 7) (pv 8)) (j7 (pv 6) y1)))) (j4 (xR (zP (K:=K) rfl PySem.F.plainAttrs_list PySem.F.slot_list_insert PySem.F.type_list_insert Pd (pv 4) (j7 (fW Ae hr (aC (pv 0) (aW (w5 (qg (K:=K) rfl) (y2 (o6 (K:=K) rfl) rfl Ac PySem.boot_len (aW (pv 4))) x9)))) (j7 (@xi _ _ _ _ (aW (pv 6))) y1)))))))))))
  (j4 (w6 (pv 4))))))),?_⟩)
 obtain ⟨Hs,a,n,xs,ws,rfl,sm,na,ha,r,⟨d,rfl,ok⟩,q⟩:=h;obtain ⟨v1,rr,rfl,p1,p2⟩:=reps_cons.mp r;cases reps_nil.mp p2;have hlim:lim=1000000:=rfl;have ten:=ok.ten;have rs0:RS Hs H Hs H _ _:=vC (N:=["row","parts","hues","free","found","k","name","same","pick"]) (xs:=[.op λ_ v=>v = .ref a,d.pv]) (vs:=[.ref a,v1]) sm (.cons (rep_op.mpr ⟨Hs,.refl _,rfl⟩) (.one p1));have e1:k4 2 (x8 zO (q0 (g9 [none] [0] (u5 (z0 v9 (x6 1) (dC (.int 1)))) (j9 0) u6 (qj (q0 (z0 v9 (x6 0) (dC (.int 0))) (q0 (z0 v9 (x6 0) (dC (.int 1))) q9)))) q9)) [.sh (.op λ_ v=>v = .ref a),.sh d.pv,.no,.no,.no,.no,.no,.no,.no]=some (.nx [.sh (.op λ_ v=>v = .ref a),.sh d.pv,.sh (.fk (keysOf d.cls) (d.cls.map λc=> .at (.int c.hue))),.no,.no,.no,.no,.no,.no]):=by
  refine r6 (j5 (w4 (c8 Cl.pv (λc=>PV.tup [.at (.str c.name),.at (.int c.hue)]) d.cls (zF (v5 rfl rfl rfl)) rfl (by omega) λc _=>⟨_,rfl,xK (w4 (v5 rfl rfl rfl) (w4 (v5 rfl rfl rfl) rfl)) l2⟩) rfl) ?_);show (xA (d.cls.map λc=>PV.tup [.at (.str c.name),.at (.int c.hue)])).bind _=_;have q1:(d.cls.map λc=>((.inr c.name:z5),PV.at (.int c.hue))).map (·.1)=keysOf d.cls:=by rw [yC];rfl
  have q2:(d.cls.map λc=>((.inr c.name:z5),PV.at (.int c.hue))).map (·.2)=d.cls.map λc=>PV.at (.int c.hue):=by rw [yC];rfl
  rw [Zr,yy,q1,q2];exact if_pos ⟨keyN ok.nd,by rw [yZ];omega⟩
 have e2:zD 3 (g9 [none] [0] (u5 (z0 v9 (x6 1) (dC (.int 1)))) (j9 0) u6 (z0 v9 (x6 0) (dC (.int 0)))) [.sh (.op λ_ v=>v = .ref a),.sh d.pv,.sh (.fk (keysOf d.cls) (d.cls.map λc=> .at (.int c.hue))),.no,.no,.no,.no,.no,.no]=some (.nx [.sh (.op λ_ v=>v = .ref a),.sh d.pv,.sh (.fk (keysOf d.cls) (d.cls.map λc=> .at (.int c.hue))),.ow (.lst (d.cls.map λc=> .at (.str c.name))),.no,.no,.no,.no,.no]) :=
  vT (c8 Cl.pv (λc=>PV.at (.str c.name)) d.cls (zF (v5 rfl rfl rfl)) rfl (by omega) λc _=>⟨_,rfl,v5 rfl rfl rfl⟩)
 have e3:zD 4 (qR q9) [.sh (.op λ_ v=>v = .ref a),.sh d.pv,.sh (.fk (keysOf d.cls) (d.cls.map λc=> .at (.int c.hue))),.ow (.lst (d.cls.map λc=> .at (.str c.name))),.no,.no,.no,.no,.no]=some (.nx [.sh (.op λ_ v=>v = .ref a),.sh d.pv,.sh (.fk (keysOf d.cls) (d.cls.map λc=> .at (.int c.hue))),.ow (.lst (d.cls.map λc=> .at (.str c.name))),.ow (.lst []),.no,.no,.no,.no]):=vT (ve rfl l0);refine seqS e1 rs0 λHs1 H1 σ1 r1=>seqS e2 r1 λHs2 H2 σ2 r2=>seqS e3 r2 λHs3 H3 σ3 r3=>?_;clear r1 r2 e1 e2 e3 rs0;obtain ⟨w0,g0,c0⟩:=r3.sh 0 _ rfl;obtain ⟨_,_,rfl⟩:=rep_op.mp c0;obtain ⟨w1,g1,c1⟩:=r3.sh 1 _ rfl;obtain ⟨w2,g2,c2⟩:=r3.sh 2 _ rfl;obtain ⟨hu,oo,kvs,rfl,hk,k1,k2⟩:=rep_fk.mp c2;obtain ⟨fr,g3,n3,s3,fv,hf,rf⟩:=r3.ow 3 _ rfl;obtain ⟨F0,g4,n4,s4,ov,hF,rF⟩:=r3.ow 4 _ rfl;cases reps_nil.mp rF;have ffr:fr≠F0:=λz=>by
  subst z;exact absurd (r3.nd 3 4 _ _ fr rfl rfl g3 g4) (by decide)
 have efv:fv=c9 d.cls:=by
  have:Reps Hs3 ((c9 d.cls).map PV.at) fv:=by rw [<- YB];unfold y7;rw [yC];exact rf
  exact this.ats
 subst efv;have a3:H3 a=some (.lst [.int n]):=r3.ext.s2 _ _ ha;have sa:Hs3 a=none:=r3.ext.s4 a (by rw [ha];exact λz=>nomatch z) na;have anf:a≠fr:=λz=>by rw [<- z,ha] at n3;cases n3
 have anF:a≠F0:=λz=>by rw [<- z,ha] at n4;cases n4
 have ekv:kvs=d.cls.map λc=>((Sum.inr c.name:z5),V.int c.hue):=by
  have k3:kvs.map (·.2)=d.cls.map λc=>V.int c.hue:=by
   have:Reps Hs3 ((d.cls.map λc=>V.int c.hue).map PV.at) (kvs.map (·.2)):=by rw [yC];exact k2
   exact this.ats
  exact Ym k1 k3
 have T0:TI H3 a fr F0 H3 n d.cls [] []:=⟨a3,hf,hF,rfl,(λi b t z=>by simp at z),by simp [anf,anF,ffr],(λ_ z=>nomatch z),λ_ _ _ _ _ e=>e⟩;obtain ⟨x0,x1,x2,x3,x4,s5,s6,s7,s8,rfl⟩:=nine r3.len;obtain rfl:x0=some (.ref a):=Option.some.inj g0;obtain rfl:x1=some w1:=Option.some.inj g1;obtain rfl:x2=some (.ref hu):=Option.some.inj g2;obtain rfl:x3=some (.ref fr):=Option.some.inj g3;obtain rfl:x4=some (.ref F0):=Option.some.inj g4;show tFor (jq (p8 (tCB (zm K) (p8 (n8 3) c5)) c5)) (e7 5) _ _ [some (.ref a),some w1,some (.ref hu),some (.ref fr),some (.ref F0),s5,s6,s7,s8] _;refine Qx (K:=K) (i:=3) (p:=fr) (xs:=c9 d.cls) (σ:=[some (.ref a),some w1,some (.ref hu),some (.ref fr),some (.ref F0),s5,s6,s7,s8]) rfl (SqL.of hf) (by rw [wy];omega) ?_;rw [wy];have hua:hu≠a:=λz=>by rw [z,sa] at hk;cases hk
 have huf:hu≠fr:=λz=>by rw [z,s3] at hk;cases hk
 have huF:hu≠F0:=λz=>by rw [z,s4] at hk;cases hk
 have BT:=vG;refine vU (λi σ H2=>∃(n:Int)(free:List Cl)(as:List Addr)(T:List (List Cl))(s5 s6 s7 s8:Option V),σ=[some (.ref a),some w1,some (.ref hu),some (.ref fr),some (.ref F0),s5,s6,s7,s8]/\TI H3 a fr F0 H2 n free as T/\free.length+i=d.cls.length/\(T.flatten++free).Perm d.cls/\∀ t∈T,Tray t) ⟨n,d.cls,[],[],_,_,_,_,rfl,T0,rfl,.refl _,(λ_ z=>nomatch z)⟩ ?_ ?_
 ·rintro i σ H2 hi ⟨n2,free,as,T,s5,s6,s7,s8,rfl,X,fl,pm,tr⟩;have hfl:0<free.length:=by omega
  have tl:T.length<=10:=by have:=XF λt ht=>(tr t ht).ne;have:=pm.length_eq;rw [yQ] at this;omega
  have c0:0<=n2 % (free.length:Int):=yk _ (by omega);have c1:n2 % (free.length:Int)<(free.length:Int):=yr _ (by omega);obtain ⟨j,hj⟩:=yj c0;have jl:j<free.length:=by omega
  refine ⟨_,rfl,JK X.fre,Zy (m:=(free.length:Int)) rfl X.row (λ{R} z=>Zx (K:=K) (i:=3) rfl X.fre (by rw [wy];exact z)) (ji (by omega) (by omega)) ?_⟩;have X1:=X.setRow (m:=n2 / (free.length:Int));refine ⟨fr,c9 free,_,j,.str free[j].name,rfl,rfl,X1.fre,by omega,by omega,?_,?_,?_⟩
  ·rw [hj,PySem.StrLaws.seqIndex_nonneg (by omega) (by rw [wy];omega),Int.toNat_natCast]
  ·unfold c9;rw [yP,yV jl];rfl
  have X2:=X1.setFre (fre2:=free.eraseIdx j);rw [show (c9 free).eraseIdx j=c9 (free.eraseIdx j) from XA _ _ _];generalize z6 (z6 H2 a (.lst [.int (n2 / (free.length:Int))])) fr (.lst (c9 (free.eraseIdx j)))=Ha at X2 ⊢;clear X X1;have pe:=Zp jl;generalize hc:free[j]=c at pe ⊢;have cm:c∈d.cls:=pm.mem_iff.mp (yv _ (hc▸yu jl));have lf:(free.eraseIdx j).length+(i+1)=d.cls.length:=by rw [List.length_eraseIdx_of_lt jl];omega
  have pm2:(T.flatten++c::free.eraseIdx j).Perm d.cls:=(pe.append_left _).trans pm;have hd:Rd Ha hu (.dK kvs):= .inr ⟨oo,X2.kp hu _ hua huf huF (r3.ext.s3 _ _ hk)⟩;have tm:∀ t∈T,∀ e∈t,e∈d.cls:=λt ht e he=>pm.mem_iff.mp (uT _ (List.mem_flatten.mpr ⟨t,ht,he⟩));have al:(as.map V.ref).length<=10:=by rw [yZ,X2.len];exact tl
  refine ⟨_,rfl,F0,rfl,⟨_,SqL.of X2.top⟩,Xu (xs:=as.map V.ref) (λi ys H=>H=Ha/\ys.length<=i/\∀ y∈ys,∃(k:Nat)(b:Addr)(t:List Cl),as[k]?=some b/\T[k]?=some t/\y = .ref b/\∀ e∈t,e.hue=c.hue) ⟨rfl,yU _,(λ_ z=>nomatch z)⟩ (λi ys H hi h=>qp (by have:=h.2.1;omega)) (λi ys H _ h=>h.1▸SqL.of X2.top) ?_ ?_⟩
  ·rintro k x ys _ R hx ⟨rfl,hl,hy⟩ hR;rw [yP] at hx;obtain ⟨b,hb,rfl⟩:=yI.mp hx;obtain ⟨kl,_⟩:=yH.mp hb;have kT:k<T.length:=by rw [<- X2.len];exact kl
   have ht:=yV kT;generalize T[k]=t at ht;have mt:=yp ht;have Tt:=tr t mt;have hH:=X2.tr k b t hb ht;obtain ⟨e0,t',rfl⟩:=uM Tt.ne;have em:e0∈d.cls:=tm _ mt e0 yR;refine ⟨Wk.one rfl,⟨_,rfl,⟨_,rfl,.inl ⟨b,c9 (e0::t'),0,.str e0.name,rfl,rfl,SqL.of hH,qQ (j:=0) (show (c9 (e0::t'))[0]?=_ from rfl),⟨hu,.int e0.hue,rfl,.inl ⟨kvs,.inr e0.name,hd,rfl,by rw [ekv];exact (Yc ok.nd em).symm⟩,⟨_,rfl,⟨_,rfl,⟨hu,.int c.hue,rfl,.inl ⟨kvs,.inr c.name,hd,rfl,by rw [ekv];exact (Yc ok.nd cm).symm⟩,⟨h8 (.int e0.hue) (.int c.hue),.inl ⟨rfl,rfl,rfl⟩,⟨_,rfl,?_⟩⟩⟩⟩⟩⟩⟩⟩⟩⟩;have ev:h8 (.int e0.hue) (.int c.hue)=decide ((e0.hue:Int)=c.hue):=rfl;show (if h8 (.int e0.hue) (.int c.hue)=true then _ else _);rw [ev];by_cases he:(e0.hue:Int)=c.hue
   ·rw [if_pos (yg he)];refine ⟨_,rfl,hR _ _ ⟨rfl,by rw [yQ];simp;omega,λy hm=>?_⟩⟩;rcases yo.mp hm with hm|hm
    ·exact hy y hm
    ·exact ⟨k,b,_,hb,ht,yN.mp hm,λe h=>by have:=Tt.one e h e0 yR;omega⟩
   ·rw [if_neg (by rw [yB he];exact yT)];exact hR _ _ ⟨rfl,by omega,hy⟩
  rintro ys Ha ⟨rfl,hl,hy⟩ S hS;have X3:=X2.lay (o:= .lst ys) hS;have hSl:z6 Ha S (.lst ys) S=some (.lst ys):=w9;have Sa:S≠a:=λz=>by rw [z,X2.row] at hS;cases hS
  generalize z6 Ha S (.lst ys)=Hb at X3 hSl ⊢;clear X2 hd hS;refine Zy (m:=(ys.length:Int)+1) rfl X3.row (λ{R} z=>Uj (K:=K) (i:=7) rfl hSl z) (ji (by omega) (by omega)) ?_;generalize n2 / (free.length:Int)=n3 at X3 ⊢;have X4:=X3.setRow (m:=n3 / ((ys.length:Int)+1));have d0:0<=n3 % ((ys.length:Int)+1):=yk _ (by omega);have d1:n3 % ((ys.length:Int)+1)<(ys.length:Int)+1:=yr _ (by omega);obtain ⟨k,hk2⟩:=yj d0;rw [hk2];have hS2:z6 Hb a (.lst [.int (n3 / ((ys.length:Int)+1))]) S=some (.lst ys):=by rw [z8 Sa];exact hSl
  generalize n3 / ((ys.length:Int)+1)=n4 at X4 hS2 ⊢;generalize z6 Hb a (.lst [.int n4])=Hc at X4 hS2 ⊢;clear X3 hSl;refine ⟨_,rfl,Zx (K:=K) (i:=7) rfl hS2 ⟨_,_,rfl,rfl,⟨_,rfl,?_⟩⟩⟩;by_cases hp:(k:Int)<(ys.length:Int)
  ·refine Eq.mpr (if_pos (yg hp)) ?_;have kl:k<ys.length:=by omega
   obtain ⟨i2,b,t,hb,ht,ey,hh⟩:=hy ys[k] (yu kl);have mt:=yp ht;have tl2:(c9 t).length<sizeLine:=Qy (by
    have:=XE mt;have:=pm.length_eq;rw [yQ] at this;rw [wy];omega)
   have hH:=X4.tr i2 b t hb ht;refine ⟨_,rfl,_,rfl,.inl ⟨S,ys,(k:Int),.ref b,rfl,rfl,SqL.of hS2,qQ (by rw [yV kl,ey]),JK hH,_,rfl,b,c9 t,_,rfl,rfl,hH,tl2,?_⟩⟩;have X5:=X4.app (c:=c) hb ht;rw [show c9 t++[V.str c.name]=c9 (t++[c]) by unfold c9;rw [yt];rfl];refine ⟨n4,free.eraseIdx j,as,T.set i2 (t++[c]),_,_,_,_,rfl,X5,lf,?_,λu hu2=>?_⟩
   ·refine ((WY ht).append_right _).trans (List.Perm.trans ?_ pm2);exact uw.symm
   ·rcases List.mem_or_eq_of_mem_set hu2 with h|rfl
    ·exact tr u h
    ·refine ⟨by simp,λx hx e he=>?_⟩;have hx':x.hue=c.hue:=by
      rcases yo.mp hx with h|h
      ·exact hh x h
      ·rw [yN.mp h]
     have he':e.hue=c.hue:=by
      rcases yo.mp he with h|h
      ·exact hh e h
      ·rw [yN.mp h]
     rw [hx',he']
  ·refine Eq.mpr (if_neg (by rw [yB hp];exact yT)) ?_;have al2:(as.map V.ref).length=as.length:=yZ _;refine ⟨_,rfl,JK X4.top,Zy (m:=((as.map V.ref).length:Int)+1) rfl X4.row (λ{R} z=>Uj (K:=K) (i:=4) rfl X4.top z) (ji (by omega) (by omega)) ?_⟩;have X5:=X4.setRow (m:=n4 / (((as.map V.ref).length:Int)+1));have f0:0<=n4 % (((as.map V.ref).length:Int)+1):=yk _ (by omega);have f1:n4 % (((as.map V.ref).length:Int)+1)<((as.map V.ref).length:Int)+1:=yr _ (by omega);obtain ⟨z,hz⟩:=yj f0;rw [hz];generalize n4 / (((as.map V.ref).length:Int)+1)=n5 at X5 ⊢;generalize z6 Hc a (.lst [.int n5])=Hd at X5 ⊢;clear X4 hS2;refine ⟨_,rfl,(by show 1<=sizeLine;exact qp l1),λp hp2=>⟨F0,as.map V.ref,(z:Int),.ref p,rfl,rfl,?_,by omega,by omega,by omega,?_⟩⟩
   ·exact (X5.lay hp2).top
   have h3p:H3 p=none:=by
    cases hq:H3 p with
    |none=>rfl
    |some o =>
     by_cases h1:p=a
     ·rw [h1,X5.row] at hp2;cases hp2
     ·by_cases h2:p=fr
      ·rw [h2,X5.fre] at hp2;cases hp2
      ·by_cases h3:p=F0
       ·rw [h3,X5.top] at hp2;cases hp2
       ·rw [X5.kp p o h1 h2 h3 hq] at hp2;cases hp2
   have X6:=X5.ins hp2 h3p (c:=c) (j:=z) (by omega);rw [Int.toNat_natCast];rw [show (as.map V.ref).take z++V.ref p::(as.map V.ref).drop z=(as.take z++p::as.drop z).map V.ref by rw [yt,yM,List.map_take,List.map_drop]];refine ⟨n5,free.eraseIdx j,_,_,_,_,_,_,rfl,X6,lf,?_,λu hu2=>?_⟩
   ·exact ((KE T z c).append_right _).trans (uw.symm.trans pm2)
   ·rcases yo.mp hu2 with h|h
    ·exact tr u (List.mem_of_mem_take h)
    ·rcases yK.mp h with rfl|h
     ·exact ⟨by simp,λx hx e he=>by rw [yN.mp hx,yN.mp he]⟩
     ·exact tr u (List.mem_of_mem_drop h)
 ·rintro σ H2 ⟨n2,free,as,T,s5,s6,s7,s8,rfl,X,fl,pm,tr⟩;have f0:free=[]:=List.eq_nil_of_length_eq_zero (by omega);subst f0;rw [yq] at pm;have nn:∀ b,b=F0∨b∈as->H b=none:=λb hb=>by
   rcases hb with rfl|hb
   ·exact n4
   ·have:=X.new b hb;cases z:H b with
    |none=>rfl
    |some o=>rw [r3.ext.s2 _ _ z] at this;cases this
  have sn:∀ b,b=F0∨b∈as->Hs3 b=none:=λb hb=>by
   rcases hb with rfl|hb
   ·exact s4
   ·have:=X.new b hb;cases z:Hs3 b with
    |none=>rfl
    |some o=>rw [r3.ext.s3 _ _ z] at this;cases this
  have sm3:Same Hs3 H2:=λb o z=>X.kp b o (λy=>by rw [y,sa] at z;cases z) (λy=>by rw [y,s3] at z;cases z) (λy=>by rw [y,s4] at z;cases z) (r3.ext.s3 _ _ z)
  open Classical in
  let Hs':Hp:=λb=>if b=F0∨b∈as then H2 b else Hs3 b
  have hin:∀ b,(b=F0∨b∈as)->Hs' b=H2 b:=λb hb=>if_pos hb;have hout:∀ b,¬ (b=F0∨b∈as)->Hs' b=Hs3 b:=λb hb=>if_neg hb
  clear_value Hs'
  have ao:¬ (a=F0∨a∈as):=λy=>by rw [nn a y] at ha;cases ha
  refine ⟨_,rfl,q (.lst (T.map u9)) (.ref F0) n2 Hs' H2 ⟨d,T,rfl,rfl,pm,tr⟩ ⟨λb o z=>?_,λb o z nb=>?_,λb o z=>?_,λb hb z=>?_⟩ (by rw [hout a ao];exact sa) X.row (rep_lst.mpr ⟨F0,as.map V.ref,rfl,by rw [hin F0 (.inl rfl)];exact X.top,?_⟩)⟩
  ·have z1:=r3.ext.s1 _ _ z;rw [hout b (λy=>by rw [sn b y] at z1;cases z1)];exact z1
  ·have z1:=r3.ext.s2 _ _ z;exact X.kp b o nb (λy=>by rw [y,n3] at z;cases z) (λy=>by rw [y,n4] at z;cases z) z1
  ·by_cases hb:b=F0∨b∈as
   ·rw [hin b hb] at z;exact z
   ·rw [hout b hb] at z;exact sm3 _ _ z
  ·rw [hout b (λy=>hb (nn b y))];exact r3.ext.s4 b hb z
  ·have go:∀(as2:List Addr)(T2:List (List Cl)),as2.length=T2.length->(∀(i:Nat)(b:Addr)(t:List Cl),as2[i]?=some b->T2[i]?=some t->Hs' b=some (.lst (c9 t)))->Reps Hs' (T2.map u9) (as2.map V.ref):=by
    intro as2
    induction as2 with
    |nil =>
     intro T2 hl _;cases T2 with
     |nil=>exact .nil
     |cons _ _=>cases hl
    |cons b as2 ih =>
     intro T2 hl hr;cases T2 with
     |nil=>cases hl
     |cons t T2=>refine .cons (rep_lst.mpr ⟨b,c9 t,rfl,hr 0 b t rfl rfl,?_⟩) (ih T2 (by simpa using hl) λi e u he hu=>hr (i+1) e u he hu);rw [YB];exact Reps.ofAts _
   exact go as T X.len λi b t hb ht=>by rw [hin b (.inr (yp hb))];exact X.tr i b t hb ht
section
variable {C:Addr}{d:Dr}
theorem vS {f:Str}{ns:List Str}(h1:a ε=some y)(h0:ε[0]?=some (.ow (.ob C ns xs)))(hf:f∉ns)(hl:ns.length<1000):xJ C f a ε=some (.nx (ε.set 0 (.ow (.ob C (ns++[f]) (xs++[y]))))):=by unfold xJ;rw [h1,yy,h0];exact if_pos ⟨rfl,hf,hl⟩
theorem WW {nm:Str}{m:List PV->Option PV}{i:Nat}{as:MA}{ns:List Str}{fs:List PV}(h0:ε[i]?=some (.ow (.ob C ns fs)))(hn:nm∉ns)(k:as ε=some xs)(e:m (.ob C ns fs::xs)=some (.at u)):jY C nm m i as ε=some (.at u):=by unfold jY;rw [h0];show (if C=C/\nm∉ns then _ else _)=_;rw [if_pos ⟨rfl,hn⟩,k,yy,e];rfl
theorem UX (ok:d.Ok):vk C [.ob C ["least"] [k5 d.low]]=some (.at (.int d.h)):=by have G:=wa ok.rin;refine m6 rfl (p6 (v5 (j5 (w4 (jn rfl rfl) rfl) rfl) rfl ?_));show some (PV.at (.int (((d.low.map f6).length:Int)-1)))=_;rw [yZ,show d.low.length=d.h+1 from G.len,show ((d.h+1:Nat):Int)-1=(d.h:Int) by omega]
theorem YN:∀ cs:List Cl,xA (cs.map λc=>PV.tup [.at (.str c.name),c.pv])=some (cs.map λc=>((.inr c.name:z5),c.pv))
 |[]=>rfl
 |c::cs=>by
  show Option.bind (some (Sum.inr c.name)) (λkk=>(xA (cs.map λc=>PV.tup [.at (.str c.name),c.pv])).map ((kk,c.pv)::·))=_;rw [yy,YN cs];rfl
theorem BG (h:(cs.map Cl.name).Nodup):(keysOf cs).Nodup:=by
 induction cs with
 |nil=>exact uy
 |cons c cs ih=>rw [yM] at h;have h':=yx.mp h;refine yx.mpr ⟨λz=>?_,ih h'.2⟩;obtain ⟨y,hy,e⟩:=yA.mp z;injection e with e;exact h'.1 (yA.mpr ⟨y,hy,e⟩)
theorem Lo (ok:d.Ok):vm C [k5 d.rss,.lst (d.cls.map Cl.pv),.at (.int d.last),.at (.int d.time)]=some (d.ob C):=by
 have hlim:lim=1000000:=rfl;have ten:=ok.ten;have glen:=ok.rin.len;have h4:=ok.h4;have cp:∀(s0 s2 s3 s4:MSlot),g9 [none] [0] (u5 (q8 1)) (j9 0) u6 (x8 wA (q0 (x6 0) q9)) [s0,.sh (k5 d.rss),s2,s3,s4]=some (k5 d.rss):=λs0 s2 s3 s4 =>
  c8 f6 f6 d.rss rfl rfl (by omega) λr _=>⟨_,rfl,rfl⟩
 have dk:∀(s0 s1 s3 s4:MSlot),x8 zO (q0 (g9 [none] [0] (u5 (q8 2)) (j9 0) u6 (qj (q0 (x8 zg (q0 (q8 0) q9)) (q0 (q8 0) q9)))) q9) [s0,s1,.sh (.lst (d.cls.map Cl.pv)),s3,s4]=some (.fk (keysOf d.cls) (d.cls.map Cl.pv)):=λs0 s1 s3 s4=>by
  refine j5 (w4 (c8 Cl.pv (λc=>PV.tup [.at (.str c.name),c.pv]) d.cls rfl rfl (by omega) λc _=>⟨_,rfl,xK (w4 (j5 rfl rfl) (w4 rfl rfl)) l2⟩) rfl) ?_;show (xA (d.cls.map λc=>PV.tup [.at (.str c.name),c.pv])).bind _=_;have k1:(d.cls.map λc=>((.inr c.name:z5),c.pv)).map (·.1)=keysOf d.cls:=by rw [yC];rfl
  have k2:(d.cls.map λc=>((.inr c.name:z5),c.pv)).map (·.2)=d.cls.map Cl.pv:=by rw [yC];rfl
  rw [YN,yy,k1,k2];exact if_pos ⟨BG ok.nd,by rw [yZ];omega⟩
 have run:Qc C [.ow (.ob C [] []),.sh (k5 d.rss),.sh (.lst (d.cls.map Cl.pv)),.sh (.at (.int d.last)),.sh (.at (.int d.time))]=some (.nx [.ow (d.ob C),.sh (k5 d.rss),.sh (.lst (d.cls.map Cl.pv)),.sh (.at (.int d.last)),.sh (.at (.int d.time))]) :=
  y3 (vS (j5 rfl (Lx ok.rin ok.h1 ok.h4)) rfl (by decide) (by decide)) (y3 (Qp (j5 (w4 rfl (w4 rfl (w4 (WW rfl (by decide) rfl (UX ok)) rfl))) (Lk ok.l1 ok.l2 ok.t1)))
   (y3 (Qp (j5 (w4 rfl (w4 (WW rfl (by decide) rfl (UX ok)) rfl)) (Li ok.cl ok.nd ok.ten)))
   (y3 (vS (cp _ _ _ _) rfl (by decide) (by decide)) (y3 (vS (dk _ _ _ _) rfl (by decide) (by decide)) (y3 (vS (y:= .at (.int d.last)) (f:="last") (ns:=["least","given","held"]) (XC (t9 (v:=false) (v5 rfl rfl rfl)) rfl) rfl (by decide) (by decide)) (vS (y:= .at (.int d.time)) (f:="time") (ns:=["least","given","held","last"]) (xs:=[k5 d.low,k5 d.rss,.fk (keysOf d.cls) (d.cls.map Cl.pv),.at (.int d.last)]) rfl rfl (by decide) (by decide)))))))
 unfold vm vO;refine (if_pos rfl).trans ?_;show (Qc C [.ow (.ob C [] []),.sh (k5 d.rss),.sh (.lst (d.cls.map Cl.pv)),.sh (.at (.int d.last)),.sh (.at (.int d.time))]).bind _=_;rw [run];rfl
end
section
variable {C:Addr}{d:Dr}
theorem BF (cs:List Cl):zH (keysOf cs)=some (cs.map Cl.name):=by
 induction cs with
 |nil=>rfl
 |cons c cs ih=>show (zH (keysOf cs)).map (c.name::·)=_;rw [ih];rfl
theorem MN (ss:List Str):zW (y7 ss)=some ss:=by
 induction ss with
 |nil=>rfl
 |cons s ss ih=>show (zW (y7 ss)).map (s::·)=_;rw [ih];rfl
theorem UY (ok:d.Ok):jx C [d.ob C]=some (.lst (y7 (zo d.names))):=by refine jo rfl (p6 (j5 (w4 (jn rfl rfl) rfl) ?_));show (zH (keysOf d.cls)).bind _=_;rw [BF,yy,if_pos (by rw [yZ];have:=ok.ten;omega)];rfl
theorem Uy {ss:List Str}(h:ss.Nodup):∀ i,i<=ss.length->b7 (λi=>(Sum.inr (ss.getD i ⟨#[]⟩):z5)) i=(ss.take i).map Sum.inr
 |0,_=>rfl
 |i+1,hi=>by
  have ih:=Uy h i (by omega);have hl:i<ss.length:=by omega
  have eg:ss.getD i ⟨#[]⟩=ss[i]:=y9 hl;have hn:ss[i]∉ss.take i:=λz=>by
   have e:ss=ss.take i++ss[i]::ss.drop (i+1):=by rw [<- uY hl,List.take_append_drop]
   rw [e] at h;exact (uq.mp h).2.2 _ z _ yR rfl
  unfold b7;rw [ih,eg,if_neg (λz=>hn (by
   obtain ⟨y,hy,e⟩:=yA.mp z;injection e with e;rw [<- e];exact hy)),List.take_add_one,yV hl,yt]
  rfl
theorem BW {ss:List Str}(h:ss.Nodup):XX ss=ss.length:=by unfold XX;rw [Uy h _ (yU _),yZ,List.take_length]
theorem v_are (ok:d.Ok)(L:Lst d ns):wb C [d.ob C,u9 ns]=some (.at (.bl true)):=by
 have hlim:lim=1000000:=rfl;have l10:=L.len ok;have en:y7 (ns.map Cl.name)=(ns.map Cl.name).map λs=>PV.at (.str s):=rfl;refine m6 rfl (y3 (qr (o8 (qi (j5 rfl XL))) qt) (y3 (r6 (jp rfl (by decide) rfl (UY ok))) (p6 (xY (j5 (w4 (c8 (λs:Str=>PV.at (.str s)) (λ_=>PV.at (.bl true)) (ns.map Cl.name) rfl rfl (by rw [yZ];omega) λs hs=>⟨_,rfl,v5 rfl rfl ((Bh false s _).trans ?_)⟩) rfl) (zw _)) (v5 (y:= .at (.int (ns.length:Int))) (x:= .at (.int (ns.length:Int))) ?_ ?_ (CI rfl))))))
 ·obtain ⟨c,hc,rfl⟩:=yA.mp hs;have:c.name∈zo d.names:=(JD d.names).mem_iff.mpr (yA.mpr ⟨c,L.sub c hc,rfl⟩);simp [this]
 ·show (zW (y7 (ns.map Cl.name))).bind _=_;rw [MN,yy,if_pos (by rw [yZ];omega),BW L.nd,yZ]
 ·refine j5 rfl ?_;show some (PV.at (.int ((y7 (ns.map Cl.name)).length:Int)))=_;rw [xD,yZ]
end
theorem nm_F (l:List Cl):y7 (l.map Cl.name)=l.map λc=>PV.at (.str c.name):=by unfold y7;rw [yC];rfl
theorem Ze :(y7 (ns.map Cl.name)).length=ns.length:=by rw [xD,yZ]
theorem Vd {xs:List α}{x:α}(h:xs.getLast?=some x):atI xs (-1)=some x:=by
 have hl:xs≠[]:=λz=>by rw [z] at h;cases h
 have hp:0<xs.length:=uu.mpr hl;rw [List.getLast?_eq_getElem?] at h;unfold atI ixN;rw [if_neg (by decide),if_pos (by omega)];show xs[((-1:Int)+(xs.length:Int)).toNat]?=_;rw [show ((-1:Int)+(xs.length:Int)).toNat=xs.length-1 by omega];exact h
def p5:List Cl->Nat
 |[]=>0
 |c::_=>c.hue
def xg (t:List Cl):Int:=(t.map Cl.len).sum
def zE (t:List Cl):Int:=zi (t.map Cl.due)
def trP (T:List (List Cl)):PV:= .lst (T.map u9)
section
variable {C:Addr}{d:Dr}{T:List (List Cl)}{t:List Cl}
theorem Trays.sub (x:Trays d T)(ht:t∈T):∀ c∈t,c∈d.cls:=λc hc=>x.perm.mem_iff.mp (List.mem_flatten.mpr ⟨t,ht,hc⟩)
theorem Trays.fl (x:Trays d T)(ok:d.Ok):T.flatten.length<=10:=by rw [x.perm.length_eq];exact ok.ten
theorem Trays.len (x:Trays d T)(ok:d.Ok):T.length<=10:=yf (XF λt ht=>(x.each t ht).ne) (x.fl ok)
theorem Trays.tl (x:Trays d T)(ok:d.Ok)(ht:t∈T):t.length<=10:=yf (XE ht) (x.fl ok)
theorem Trays.lst (x:Trays d T)(ok:d.Ok):Lst d T.flatten:=⟨λc h=>x.perm.mem_iff.mp h,(x.perm.map Cl.name).nodup_iff.mpr ok.nd⟩
theorem JN (ok:d.Ok)(h:∀ c∈t,c∈d.cls)(hl:t.length<=10):zf C [d.ob C,u9 t]=some (.lst (t.map Cl.pv)):=by have hlim:lim=1000000:=rfl;exact m6 rfl (p6 (c8 (λc:Cl=>PV.at (.str c.name)) Cl.pv t (by show some (y7 (t.map Cl.name))=_;rw [nm_F]) rfl (by omega) λc hc=>⟨_,rfl,jp rfl (by decide) rfl (UW ok (h c hc))⟩))
theorem ix0 (c:Cl)(t:List Cl):v9 (u9 (c::t)) (.at (.int 0))=some (.at (.str c.name)):=qQ (xs:=y7 ((c::t).map Cl.name)) (j:=0) rfl
theorem Ga (ok:d.Ok)(h:∀ c∈t,c∈d.cls)(ne:t≠[]):zN C [d.ob C,u9 t]=some (.at (.int (p5 t))):=by
 cases t with
 |nil=>exact absurd rfl ne
 |cons c t=>exact m6 rfl (p6 (j5 (w4 (jp rfl (by decide) (w4 (v5 rfl rfl (ix0 c t)) rfl) (UW ok (h c yR))) rfl) rfl))
theorem LH (ok:d.Ok)(h:∀ c∈t,c∈d.cls)(hl:t.length<=10):vo C [d.ob C,u9 t]=some (.at (.int (xg t))):=by
 have hlim:lim=1000000:=rfl;refine m6 rfl (p6 (j5 (w4 (c8 Cl.pv (λc=>PV.at (.int c.len)) t (zF (j5 rfl (JN ok h hl))) rfl (by omega) λc hc=>⟨_,rfl,j5 rfl rfl⟩) rfl) ?_));have e:(t.map λc=>PV.at (.int c.len))=(t.map Cl.len).map λb=>PV.at (.int b):=by rw [yC];rfl
 rw [e,UI];rfl
theorem LA {l:List Int}(h:l≠[]):QS [.lst (l.map λb=>PV.at (.int b))]=some (.at (.int (zi l))):=by show (xr (l.map λb=>PV.at (.int b))).bind _=_;rw [Qu,yy,if_neg h]
theorem LF (ok:d.Ok)(h:∀ c∈t,c∈d.cls)(hl:t.length<=10)(ne:t≠[]):wp C [d.ob C,u9 t]=some (.at (.int (zE t))):=by
 have hlim:lim=1000000:=rfl;refine m6 rfl (p6 (j5 (w4 (c8 Cl.pv (λc=>PV.at (.int c.due)) t (zF (j5 rfl (JN ok h hl))) rfl (by omega) λc hc=>⟨_,rfl,j5 rfl rfl⟩) rfl) ?_));have e:(t.map λc=>PV.at (.int c.due))=(t.map Cl.due).map λb=>PV.at (.int b):=by rw [yC];rfl
 rw [e,LA (by simpa using ne)];rfl
theorem Tray.hue (x:Tray t):∀ c∈t,c.hue=p5 t:=λc hc=>by
 cases t with
 |nil=>cases hc
 |cons e t=>exact x.one c hc e yR
theorem v_one (ok:d.Ok)(h:∀ c∈t,c∈d.cls)(hl:t.length<=10)(x:Tray t):we C [d.ob C,u9 t]=some (.at (.bl true)):=by have hlim:lim=1000000:=rfl;refine m6 rfl (p6 (j5 (w4 (c8 Cl.pv (λ_=>PV.at (.bl true)) t (zF (j5 rfl (JN ok h hl))) rfl (by omega) λc hc=>⟨_,rfl,v5 (x:= .at (.int c.hue)) (j5 rfl rfl) (j5 rfl (Ga ok h x.ne)) ?_⟩) rfl) (zw _)));rw [x.hue c hc];exact (WQ _ _).trans (by rw [yg rfl])
theorem XM (xs:List PV):p7 [.lst xs,.at (.ty "list")]=some (.at (.bl true)):=by unfold p7 tyP;rfl
theorem Ln (ok:d.Ok)(x:Trays d T):QB [trP T]=some (.at (.bl true)):=by have hlim:lim=1000000:=rfl;have tl:=x.len ok;refine m6 rfl (p6 (xY (j5 rfl (XM _)) (j5 (w4 (c8 u9 (λ_=>PV.at (.bl true)) T rfl rfl (by omega) λt ht=>⟨_,rfl,xY (j5 rfl (XM _)) (v5 (x:= .at (.int (t.length:Int))) (j5 rfl (by show some (PV.at (.int ((y7 (t.map Cl.name)).length:Int)))=_;rw [Ze])) rfl ?_)⟩) rfl) (zw _))));have:=uu.mpr (x.each t ht).ne;show some (PV.at (.bl (decide ((0:Int)<(t.length:Int)))))=_;rw [yg (by omega)]
theorem LB (ok:d.Ok)(L:Lst d ns)(p:ns.Perm d.cls):wf C [d.ob C,u9 ns]=some (.at (.bl true)):=by refine m6 rfl (p6 (xY (j5 rfl (v_are ok L)) (v5 (x:= .at (.int (ns.length:Int))) (y:= .at (.int (ns.length:Int))) (j5 rfl (by show some (PV.at (.int ((y7 (ns.map Cl.name)).length:Int)))=_;rw [Ze])) (j5 (w4 (jp rfl (by decide) rfl (UY ok)) rfl) ?_) ((WQ _ _).trans (by rw [yg rfl])))));show some (PV.at (.int ((y7 (zo d.names)).length:Int)))=_;rw [xD,(JD _).length_eq,p.length_eq];unfold Dr.names;rw [yZ]
theorem Yy:∀ T:List (List Cl),zI (T.map u9)=some (T.map λt=>y7 (t.map Cl.name))
 |[]=>rfl
 |t::T=>by
  show (zI (T.map u9)).map (y7 (t.map Cl.name)::·)=_;rw [Yy T];rfl
theorem WX (T:List (List Cl)):(T.map λt=>y7 (t.map Cl.name)).flatten=y7 (T.flatten.map Cl.name):=by unfold y7;rw [List.map_flatten,List.map_flatten,yC];rfl
theorem Lh (ok:d.Ok)(x:Trays d T):wc C [d.ob C,trP T]=some (.at .non):=by have hlim:lim=1000000:=rfl;have tl:=x.len ok;have fl:=x.fl ok;refine Qq rfl (y3 (qr (xH (o8 (qi (j5 rfl (Ln ok x)))) (o8 (qi (j5 (w4 rfl (w4 ((KC rfl (Yy T) ?_).trans (by rw [WX];rfl)) rfl)) (LB ok (x.lst ok) x.perm))))) qt) (qr (o8 (qi (j5 (w4 (c8 u9 (λ_=>PV.at (.bl true)) T rfl rfl (by omega) λt ht=>⟨_,rfl,j5 rfl (v_one ok (x.sub ht) (x.tl ok ht) (x.each t ht))⟩) rfl) (zw _)))) qt));rw [WX,Ze];omega
def Dr.trs (d:Dr):Int->Int->List (List Cl)->List (Int×Int)
 |_,_,[]=>[]
 |l,s,t::T=>(s+rin d.low l (p5 t),s+rin d.low l (p5 t)+xg t)::d.trs (p5 t) (s+rin d.low l (p5 t)+xg t) T
theorem JJ:∀{T:List (List Cl)}{l s:Int},(d.trs l s T).length=T.length
 |[],_,_=>rfl
 |_::T,_,_=>congrArg (·+1) (JJ (T:=T))
def c7 (r:Int×Int):PV:= .tup [.at (.int r.1),.at (.int r.2)]
theorem Yd (ok:d.Ok)(x:Trays d T)(ht:t∈T):p5 t<d.h:=by have X:=x.each t ht;obtain ⟨c,t',rfl⟩:=uM X.ne;exact (ok.cl c (x.sub ht c yR)).hu
abbrev eR (C:Addr)(d:Dr)(T:List (List Cl))(a b:Int)(z:List PV)(s6 s7 s8:MSlot):ME:=[.sh (d.ob C),.sh (trP T),.sh (.tup [.at (.int d.last),.at (.int d.time)]),.sh (.at (.int a)),.sh (.at (.int b)),.ow (.lst z),s6,s7,s8]
theorem JO (ok:d.Ok)(x:Trays d T):zh C [d.ob C,trP T]=some (.lst ((d.trs d.last d.time T).map c7)):=by
 have hlim:lim=1000000:=rfl;have tl:=x.len ok;obtain ⟨ε',e',rest⟩:=vj (g:=j9 6) (f:=v8 (k4 7 (x8 (zN C) (q0 (q8 0) (q0 (q8 6) q9))))
  (v8 (k4 8 (z0 c4 (x6 4) (qI C "tray_rinse" (vn C) (q8 0) (q0 (q8 3) (q0 (q8 7) q9)))))
  (v8 (k4 4 (z0 c4 (x6 8) (x8 (vo C) (q0 (q8 0) (q0 (q8 6) q9)))))
  (v8 (k4 3 (q8 7))
  (jj 5 (qj (q0 (q8 8) (q0 (q8 4) q9)))))))) u9
  (λl ε=>∃(la ti:Int)(done:List (Int×Int))(s6 s7 s8:MSlot),done++d.trs la ti l=d.trs d.last d.time T/\(∀ t∈l,t∈T)/\done.length+l.length=T.length/\-1<=la/\la<(d.h:Int)/\ε=eR C d T la ti (done.map c7) s6 s7 s8) (by
   rintro t l ε ⟨la,ti,done,s6,s7,s8,q1,q2,q3,q4,q5,rfl⟩;have ht:=q2 t yR;have hh:=Yd ok x ht;simp only [yz] at q3;have v1:=Ga (C:=C) ok (x.sub ht) (x.each t ht).ne;have v2:=LI (C:=C) ok q4 q5 hh;have v3:=LH (C:=C) ok (x.sub ht) (x.tl ok ht);refine ⟨_,eR C d T (p5 t) (ti+rin d.low la (p5 t)+xg t) ((done++[(ti+rin d.low la (p5 t),ti+rin d.low la (p5 t)+xg t)]).map c7) (.sh (u9 t)) (.sh (.at (.int (p5 t)))) (.sh (.at (.int (ti+rin d.low la (p5 t))))),rfl,y3 (r6 (j5 rfl v1)) (y3 (r6 (x:= .at (.int (ti+rin d.low la (p5 t)))) (v5 rfl (jp rfl (by decide) rfl v2) rfl)) (y3 (r6 (x:= .at (.int (ti+rin d.low la (p5 t)+xg t))) (v5 rfl (j5 rfl v3) rfl)) (y3 (r6 rfl) ?_))),(p5 t:Int),_,_,_,_,_,by rw [yb];exact q1,λu hu=>q2 u (yO _ hu),by rw [yQ];simp;omega,by omega,by omega,rfl⟩;rw [yt];exact WR (xK rfl l2) rfl (by rw [yZ];omega)) T (eR C d T d.last d.time [] .no .no .no) ⟨d.last,d.time,[],.no,.no,.no,rfl,λt h=>h,by simp,ok.l1,ok.l2,rfl⟩
 obtain ⟨la,ti,done,s6,s7,s8,q1,_,_,_,_,rfl⟩:=rest;have q2:done=d.trs d.last d.time T:=by have:done++[]=d.trs d.last d.time T:=q1;rwa [yq] at this
 subst q2;exact jo rfl (y3 (Qp (j5 rfl (Lh ok x))) (y3 (r6 (jp rfl (by decide) rfl UZ)) (y3 (r6 (x:= .at (.int d.last)) (v5 rfl rfl rfl)) (y3 (r6 (x:= .at (.int d.time)) (v5 rfl rfl rfl)) (y3 (vT (ve rfl l0)) (y3 (vR rfl e') rfl))))))
theorem WJ (ok:d.Ok)(f:Cl->PV):zO [.lst (d.cls.map λc=>PV.tup [.at (.str c.name),f c])]=some (.fk (keysOf d.cls) (d.cls.map f)):=by
 have ten:=ok.ten;show (xA (d.cls.map λc=>PV.tup [.at (.str c.name),f c])).bind _=_;have q1:(d.cls.map λc=>((.inr c.name:z5),f c)).map (·.1)=keysOf d.cls:=by rw [yC];rfl
 have q2:(d.cls.map λc=>((.inr c.name:z5),f c)).map (·.2)=d.cls.map f:=by rw [yC];rfl
 rw [Zr,yy,q1,q2];exact if_pos ⟨keyN ok.nd,by rw [yZ];omega⟩
abbrev eL (d:Dr)(T:List (List Cl))(a b:Int)(z:List PV)(s7 s8 s9:MSlot):ME:=[.sh d.pv,.sh (trP T),.sh (k5 d.low),.sh (.fk (keysOf d.cls) (d.cls.map Cl.pv)),.sh (.at (.int a)),.sh (.at (.int b)),.ow (.lst z),s7,s8,s9]
theorem JP (ok:d.Ok)(x:Trays d T):zL [d.pv,trP T]=some (.lst ((d.trs d.last d.time T).map c7)):=by
 have hlim:lim=1000000:=rfl;have tl:=x.len ok;have ten:=ok.ten;obtain ⟨ε',e',rest⟩:=vj (g:=j9 7) (f:=v8 (k4 8 (z0 v9 (xa (x6 3) (z0 v9 (x6 7) (dC (.int 0)))) (dC (.int 1))))
  (v8 (k4 9 (z0 c4 (x6 5) (z0 v9 (z0 v9 (x6 2) (x6 4)) (x6 8))))
  (v8 (k4 5 (z0 c4 (x6 9) (x8 jE (q0 (g9 [none,some 3] [0] (u5 (q8 7)) (j9 0) u6 (z0 v9 (xa (x6 1) (x6 0)) (dC (.int 2)))) q9))))
  (v8 (jj 6 (qj (q0 (q8 9) (q0 (q8 5) q9))))
  (k4 4 (q8 8)))))) u9
  (λl ε=>∃(la ti:Int)(done:List (Int×Int))(s7 s8 s9:MSlot),done++d.trs la ti l=d.trs d.last d.time T/\(∀ t∈l,t∈T)/\done.length+l.length=T.length/\-1<=la/\la<(d.h:Int)/\ε=eL d T la ti (done.map c7) s7 s8 s9) (by
   rintro t l ε ⟨la,ti,done,s7,s8,s9,q1,q2,q3,q4,q5,rfl⟩;have ht:=q2 t yR;have hh:=Yd ok x ht;have sb:=x.sub ht;have l10:=x.tl ok ht;simp only [yz] at q3;have v1:z0 v9 (xa (x6 3) (z0 v9 (x6 7) (dC (.int 0)))) (dC (.int 1)) (eL d T la ti (done.map c7) (.sh (u9 t)) s8 s9)=some (.at (.int (p5 t))):=by obtain ⟨c,t',rfl⟩:=uM (x.each t ht).ne;exact v5 (Qo (k:= .inr c.name) rfl (v5 rfl rfl (ix0 c t')) rfl (vZ Cl.pv ok.nd c (sb c yR))) rfl rfl
   obtain ⟨r,r1,r2⟩:=Ut (wa ok.rin) q4 q5 hh;have v3:∀(b:Int)(s8 s9:MSlot),g9 [none,some 3] [0] (u5 (q8 7)) (j9 0) u6 (z0 v9 (xa (x6 1) (x6 0)) (dC (.int 2))) (eL d T la b (done.map c7) (.sh (u9 t)) s8 s9)=some (.lst (t.map λc=>PV.at (.int c.len))):=λb s8 s9 =>
    c8 (λc:Cl=>PV.at (.str c.name)) (λc=>PV.at (.int c.len)) t (by show some (y7 (t.map Cl.name))=_;rw [nm_F]) rfl (by omega) λc hc=>⟨_,rfl,v5 (Qo (k:= .inr c.name) rfl rfl rfl (vZ Cl.pv ok.nd c (sb c hc))) rfl rfl⟩
   have v4:jE [.lst (t.map λc=>PV.at (.int c.len))]=some (.at (.int (xg t))):=by
    have e:(t.map λc=>PV.at (.int c.len))=(t.map Cl.len).map λb=>PV.at (.int b):=by rw [yC];rfl
    rw [e,UI];rfl
   refine ⟨_,eL d T (p5 t) (ti+rin d.low la (p5 t)+xg t) ((done++[(ti+rin d.low la (p5 t),ti+rin d.low la (p5 t)+xg t)]).map c7) (.sh (u9 t)) (.sh (.at (.int (p5 t)))) (.sh (.at (.int (ti+rin d.low la (p5 t))))),rfl,y3 (r6 v1) (y3 (r6 (x:= .at (.int (ti+rin d.low la (p5 t)))) (v5 rfl (v5 (v5 rfl rfl r1) rfl r2) rfl)) (y3 (r6 (x:= .at (.int (ti+rin d.low la (p5 t)+xg t))) (v5 rfl (j5 (w4 (v3 _ _ _) rfl) v4) rfl)) (y3 (ε1:=eL d T la (ti+rin d.low la (p5 t)+xg t) ((done++[(ti+rin d.low la (p5 t),ti+rin d.low la (p5 t)+xg t)]).map c7) (.sh (u9 t)) (.sh (.at (.int (p5 t)))) (.sh (.at (.int (ti+rin d.low la (p5 t)))))) ?_ (r6 rfl)))),(p5 t:Int),_,_,_,_,_,by rw [yb];exact q1,λu hu=>q2 u (yO _ hu),by rw [yQ];simp;omega,by omega,by omega,rfl⟩;rw [yt];exact WR (xK rfl l2) rfl (by rw [yZ];omega)) T (eL d T d.last d.time [] .no .no .no) ⟨d.last,d.time,[],.no,.no,.no,rfl,λt h=>h,by simp,ok.l1,ok.l2,rfl⟩
 obtain ⟨la,ti,done,s7,s8,s9,q1,_,_,_,_,rfl⟩:=rest;have q2:done=d.trs d.last d.time T:=by have:done++[]=d.trs d.last d.time T:=q1;rwa [yq] at this
 subst q2;refine jo rfl (y3 (r6 (x:=k5 d.low) (j5 (w4 (v5 rfl rfl rfl) rfl) (Lv ok.rin ok.h1 ok.h4))) (y3 (r6 (j5 (w4 (c8 Cl.pv (λc=>PV.tup [.at (.str c.name),c.pv]) d.cls (zF (v5 rfl rfl rfl)) rfl (by omega) λc _=>⟨_,rfl,xK (w4 (v5 rfl rfl rfl) (w4 rfl rfl)) l2⟩) rfl) (WJ ok Cl.pv))) (y3 (Kv (x:= .tup [.at (.int d.last),.at (.int d.time)]) (KB (i:=2) (xs:=[k5 d.rss,.lst (d.cls.map Cl.pv),.at (.int d.last),.at (.int d.time)]) rfl rfl rfl ⟨by decide,by show 2<=4;decide⟩) rfl) (y3 (vT (ve rfl l0)) (y3 (vR rfl e') rfl)))))
def XS {α:Type}(a:α)(l:List α):α:=(a::l).getLast (by simp)
def Xy (d:Dr)(T:List (List Cl)):Int:=(XS (0,d.time) (d.trs d.last d.time T)).2
theorem Yn {f:α->PV}{a:α}{l:List α}:((a::l).map f).getLast?=some (f (XS a l)):=by rw [List.getLast?_map,List.getLast?_eq_some_getLast (by simp)];rfl
theorem v_end (ok:d.Ok)(x:Trays d T):wq C [d.ob C,trP T]=some (.at (.int (Xy d T))):=by
 refine m6 rfl (y3 (r6 (j5 rfl (JO ok x))) (p6 ?_));unfold Xy;generalize hr:d.trs d.last d.time T=rs;cases rs with
 |nil=>exact XC rfl (v5 (jp rfl (by decide) rfl UZ) rfl rfl)
 |cons r rs=>refine WU rfl (v5 (v5 rfl rfl (Vd Yn)) rfl ?_);unfold XS;rw [List.getLast_cons_cons (a:=(0,d.time))];rfl
theorem Ll (ok:d.Ok)(x:Trays d T):QH [d.pv,trP T]=some (.at (.int (Xy d T))):=by have hlim:lim=1000000:=rfl;have tl:=x.len ok;have tr:=JJ (d:=d) (T:=T) (l:=d.last) (s:=d.time);refine m6 rfl (p6 (v5 (v5 (x:= .lst (((0,d.time)::d.trs d.last d.time T).map c7)) (v5 (ve (w4 (xK (w4 rfl (w4 (v5 rfl rfl rfl) rfl)) l2) rfl) l1) (j5 rfl (JP ok x)) ((Zh (by rw [yZ];simp;omega)).trans rfl)) rfl (Vd Yn)) rfl rfl))
def Qw (d:Dr)(T:List (List Cl)):List Int:=(T.zip (d.trs d.last d.time T)).map λz=>z.2.2-zE z.1
def ju (d:Dr)(T:List (List Cl)):List Int:=(T.zip (d.trs d.last d.time T)).flatMap λz=>z.1.map λc=>z.2.2-c.due
def zd (l:List Int):PV:=if l=[] then .at .non else .at (.int (jz l))
theorem WV {l:List Int}(h:a ε=some (.lst (l.map λb=>PV.at (.int b)))):vP a ε=some (zd l):=by unfold vP zd;rw [h];show (xr (l.map λb=>PV.at (.int b))).bind _=_;rw [Qu];show (if l=[] then _ else _)=_;split<;>rfl
theorem Gp:∀(T:List (List Cl))(rs:List (Int×Int)),o5 (rs.map c7) (T.map u9)=(T.zip rs).map λz=>PV.tup [c7 z.2,u9 z.1]
 |[],[]=>rfl
 |[],_::_=>rfl
 |_::_,[]=>rfl
 |t::T,r::rs=>by
  show PV.tup [c7 r,u9 t]::o5 (rs.map c7) (T.map u9)=_;rw [Gp T rs];rfl
theorem Gq:∀(T:List (List Cl))(rs:List (Int×Int)),o5 (T.map u9) (rs.map c7)=(T.zip rs).map λz=>PV.tup [u9 z.1,c7 z.2]
 |[],[]=>rfl
 |[],_::_=>rfl
 |_::_,[]=>rfl
 |t::T,r::rs=>by
  show PV.tup [u9 t,c7 r]::o5 (T.map u9) (rs.map c7)=_;rw [Gq T rs];rfl
theorem LN (T:List (List Cl))(rs:List (Int×Int)):(T.zip rs).length<=T.length:=by rw [List.length_zip];omega
theorem Ls (ok:d.Ok)(x:Trays d T):wu C [d.ob C,trP T]=some (zd (Qw d T)):=by
 have hlim:lim=1000000:=rfl;have tl:=x.len ok;have zl:=LN T (d.trs d.last d.time T);refine m6 rfl (y3 (r6 (j5 rfl (JO ok x))) (p6 (WV ((c8 (λz:List Cl×Int×Int=>PV.tup [c7 z.2,u9 z.1]) (λz=>PV.at (.int (z.2.2-zE z.1))) (T.zip (d.trs d.last d.time T)) ?_ rfl (by omega) λz hz=>⟨_,rfl,v5 (v5 rfl rfl rfl) (j5 rfl (LF ok (x.sub (uQ hz).1) (x.tl ok (uQ hz).1) (x.each _ (uQ hz).1).ne)) rfl⟩).trans ?_))))
 ·show some (o5 ((d.trs d.last d.time T).map c7) (T.map u9))=_;rw [Gp]
 ·unfold Qw;rw [yC];rfl
theorem Wt:∀(T:List (List Cl))(rs:List (Int×Int)),((T.zip rs).flatMap λz=>z.1.map λc=>z.2.2-c.due).length<=T.flatten.length
 |[],[]=>yU _
 |[],_::_=>yU _
 |_::_,[]=>ye _
 |t::T,r::rs=>by
  have:=Wt T rs;rw [List.zip_cons_cons,List.flatMap_cons,ym,yQ,yQ,yZ];show t.length+_<=t.length+_;omega
abbrev eT (d:Dr)(T:List (List Cl))(z:List Int)(s4 s5:MSlot):ME:=[.sh d.pv,.sh (trP T),.sh (.fk (keysOf d.cls) (d.cls.map λc=> .at (.int c.due))),.sh (.lst (z.map λb=>PV.at (.int b))),s4,s5]
theorem Lu (ok:d.Ok)(x:Trays d T):QL [d.pv,trP T]=some (zd (ju d T)):=by
 have hlim:lim=1000000:=rfl;have fl:=x.fl ok;have ten:=ok.ten;have cl:=Wt T (d.trs d.last d.time T);obtain ⟨ε',e',rest⟩:=vj (g:=xN 2 (qf (j9 4) (qf (j9 5) xM))) (f:=k4 3 (z0 c4 (x6 3) (g9 [none,some 5,some 2] [0] (u5 (q8 4)) (j9 0) u6 (z0 xx (z0 v9 (x6 1) (dC (.int 1))) (xa (x6 2) (x6 0)))))) (λz:List Cl×Int×Int=>PV.tup [u9 z.1,c7 z.2])
  (λl ε=>∃(done:List Int)(s4 s5:MSlot),done++l.flatMap (λz=>z.1.map λc=>z.2.2-c.due)=ju d T/\(∀ z∈l,z.1∈T)/\ε=eT d T done s4 s5) (by
   rintro z l ε ⟨done,s4,s5,q1,q2,rfl⟩;have ht:=q2 z yR;have sb:=x.sub ht;have l10:=x.tl ok ht;rw [List.flatMap_cons,<- yb] at q1;have ll:=congrArg List.length q1;unfold ju at ll;rw [yQ,yQ,yZ] at ll;refine ⟨_,eT d T (done++z.1.map λc=>z.2.2-c.due) (.sh (u9 z.1)) (.sh (c7 z.2)),rfl,r6 (v5 rfl (c8 (λc:Cl=>PV.at (.str c.name)) (λc=>PV.at (.int (z.2.2-c.due))) z.1 (by show some (y7 (z.1.map Cl.name))=_;rw [nm_F]) rfl (by omega) λc hc=>⟨_,rfl,v5 (v5 rfl rfl rfl) (Qo (k:= .inr c.name) rfl rfl rfl (vZ (λc=>PV.at (.int c.due)) ok.nd c (sb c hc))) rfl⟩) ((Zh (by rw [yZ,yZ];omega)).trans ?_)),_,_,_,q1,λu hu=>q2 u (yO _ hu),rfl⟩;rw [yt,yC];rfl) (T.zip (d.trs d.last d.time T)) (eT d T [] .no .no) ⟨[],.no,.no,rfl,λz hz=>(uQ hz).1,rfl⟩
 obtain ⟨done,s4,s5,q1,_,rfl⟩:=rest;have q2:done=ju d T:=by have:done++[]=ju d T:=q1;rwa [yq] at this
 subst q2;refine m6 rfl (y3 (r6 (j5 (w4 (c8 Cl.pv (λc=>PV.tup [.at (.str c.name),.at (.int c.due)]) d.cls (zF (v5 rfl rfl rfl)) rfl (by omega) λc _=>⟨_,rfl,xK (w4 (v5 rfl rfl rfl) (w4 (v5 rfl rfl rfl) rfl)) l2⟩) rfl) (WJ ok λc=> .at (.int c.due)))) (y3 (r6 (x:= .lst []) (ve rfl l0)) (y3 (vR (xs:=(T.zip (d.trs d.last d.time T)).map λz=>PV.tup [u9 z.1,c7 z.2]) ?_ e') (p6 (WV rfl)))));unfold va;rw [w4 rfl (w4 (j5 rfl (JP ok x)) rfl)];show some (o5 (T.map u9) ((d.trs d.last d.time T).map c7))=_;rw [Gq]
theorem BJ (x:Trays d T):zd (Qw d T)=zd (ju d T):=by
 unfold zd Qw ju;have ne:∀ z∈T.zip (d.trs d.last d.time T),z.1≠[]:=λz hz=>(x.each _ (uQ hz).1).ne;generalize T.zip (d.trs d.last d.time T)=zs at ne;by_cases h:zs=[]
 ·subst h;rfl
 have n1:(zs.map λz=>z.2.2-zE z.1)≠[]:=by simpa using h
 have mem:∀ z∈zs,∀ c∈z.1,z.2.2-c.due∈zs.flatMap λz=>z.1.map λc=>z.2.2-c.due:=λz hz c hc=>List.mem_flatMap.mpr ⟨z,hz,yA.mpr ⟨c,hc,rfl⟩⟩;have n2:(zs.flatMap λz=>z.1.map λc=>z.2.2-c.due)≠[]:=λe=>by
  obtain ⟨z,zs',rfl⟩:=uM h;obtain ⟨c,t',ec⟩:=uM (ne z yR);have:=mem z yR c (by rw [ec];exact yR);rw [e] at this;cases this
 rw [if_neg n1,if_neg n2]
 congr 2
 refine Int.le_antisymm ?_ ?_
 ·obtain ⟨z,hz,e⟩:=yA.mp (XZ n1);obtain ⟨c,hc,e2⟩:=yA.mp (ww (l:=z.1.map Cl.due) (by simpa using ne z hz));rw [<- e];unfold zE;rw [<- e2];exact XY (mem z hz c hc)
 ·obtain ⟨z,hz,e⟩:=List.mem_flatMap.mp (XZ n2);obtain ⟨c,hc,e⟩:=yA.mp e;have h1:zE z.1<=c.due:=vq (yA.mpr ⟨c,hc,rfl⟩);have h2:=XY (yA.mpr ⟨z,hz,rfl⟩:z.2.2-zE z.1∈zs.map λz=>z.2.2-zE z.1);rw [<- e];omega
end
abbrev jK:Stmt:=top 68
noncomputable abbrev VE (K:Fg)(Aa:Addr):WS:=(wSeq (t0 1 (Gf (wH K) jS (y6 (wP (q8 0)) (y6 (wP (dC (.int 9))) i6))))
  (wSeq (t0 2 (wP (x8 (vm Aa) (q0 (z0 v9 (x6 1) (dC (.int 0))) (q0 (z0 v9 (x6 1) (dC (.int 1))) (q0 (z0 v9 (x6 1) (dC (.int 2))) (q0 (z0 v9 (x6 1) (dC (.int 3))) q9)))))))
  (wSeq (Xf 3 (jG K) jc (y6 (wP (q8 0)) (y6 (wP (dC (.int 2))) i6)))
  (wSeq (wFor (wIp (xI (q0 (dC (.int 4)) q9))) (j9 4) (wSeq (t0 5 (qZ 3 QZ wZ (y6 (wP (q8 1)) i6)))
  (wSeq (t0 6 (wP (x8 zL (q0 (q8 1) (q0 (q8 5) q9)))))
  (wSeq (t0 7 (wP (g9 [none] [0] (u5 (q8 5)) (j9 0) u6 (x8 wA (q0 (x6 0) q9)))))
  (wSeq (wFor (wIp (xI (q0 (dC (.int 2)) q9))) (j9 8) (wSeq (wW 9 (x8 (zh Aa) (q0 (q8 2) (q0 (q8 7) q9))))
  (wSeq (qN (wPT (dOr (m4 (m5 (x8 p7 (q0 (x6 9) (q0 (dC (.ty "list")) q9))))) (dOr (dT (z0 pNe (x6 9) (x6 6))) (dT (z0 pNe (x6 7) (x6 5)))))) (qx (wP (dC (.bl false)))) xn)
  (wSeq (qN (wPT (m4 (m5 (x8 qV (q0 (vN [none] [0] (u5 (x6 9)) (j9 0) u6 (x8 p7 (q0 (x6 0) (q0 (dC (.ty "tuple")) q9)))) q9))))) (qx (wP (dC (.bl false)))) xn)
  (vE 9 (wP (qj (q0 (dC (.int 0)) (q0 (dC (.int 0)) q9)))))))))
  (wSeq (t0 10 (wP (x8 (wq Aa) (q0 (q8 2) (q0 (q8 7) q9)))))
  (wSeq (qN (wPT (dOr (m4 (m5 (x8 wv (q0 (q8 10) q9)))) (dT (z0 pNe (x6 10) (x8 QH (q0 (q8 1) (q0 (q8 5) q9))))))) (qx (wP (dC (.bl false)))) xn)
  (wSeq (qN (wPT (dT (z0 pNe (x8 (wu Aa) (q0 (q8 2) (q0 (q8 7) q9))) (x8 QL (q0 (q8 1) (q0 (q8 5) q9)))))) (qx (wP (dC (.bl false)))) xn)
  (qN (wPT (dT (z0 pNe (x6 7) (x6 5)))) (qx (wP (dC (.bl false)))) xn)))))))))
  (qx (wP (dC (.bl true))))))))
theorem sc_law:v7 ["script","parts","works","row","turn","trays","due","handed","again","found","end"] ["script"] (j6 jK):=y0
theorem LJ (k:Int):wv [.at (.int k)]=some (.at (.bl true)):=by unfold wv Xn u4 y4 qH x8 jZ q0 q9 x6 dC p7 tyP;rfl
theorem YL (T:List (List Cl)):zS 6 (trP T):=λx hx=>by
 obtain ⟨t,_,rfl⟩:=yA.mp hx;intro y hy;obtain ⟨s,_,rfl⟩:=yA.mp hy;exact rfl
theorem Dg (rs:List (Int×Int)):zS 6 (.lst (rs.map c7)):=λx hx=>by
 obtain ⟨r,_,rfl⟩:=yA.mp hx;intro y hy;rcases yK.mp hy with rfl|hy
 ·exact rfl
 ·rw [yN.mp hy];exact rfl
theorem Df (l:List Int):zS 6 (zd l):=by unfold zd;split<;>exact rfl
theorem Bc {K:Fg}:∀ ns:List Int,ns.length<=63->VE K Aa (.sh (scr K ns)::List.replicate ((["script","parts","works","row","turn","trays","due","handed","again","found","end"]:List Str).length-1) .no) (λ_=>False) λy _=>y = .at (.bl true):=by
 intro ns h63;have hlim:lim=1000000:=rfl;refine ⟨_,rfl,_,rfl,⟨ns,9,rfl,h63,by decide⟩,?_⟩;rintro _ ⟨d,z,m,_,rfl,ok,_⟩;refine ⟨d.ob Aa,j5 (w4 (v5 rfl rfl rfl) (w4 (v5 rfl rfl rfl) (w4 (v5 rfl rfl rfl) (w4 (v5 rfl rfl rfl) rfl)))) (Lo ok),?_⟩;refine ⟨_,rfl,_,rfl,⟨ns,2,rfl,h63,by decide,by decide⟩,?_⟩;rintro _ ⟨n,rfl⟩;refine ⟨_,vB (k:=4) rfl (by decide),?_⟩;refine QA (λrest ε=>∃(n:Int)(s4 s5 s6 s7 s8 s9 s10:MSlot),ε=[.sh (scr K ns),.sh d.pv,.sh (d.ob Aa),g8 n,s4,s5,s6,s7,s8,s9,s10]) ?_ ?_ _ _ ⟨n,_,_,_,_,_,_,_,rfl⟩
 ·rintro ε ⟨n,s4,s5,s6,s7,s8,s9,s10,rfl⟩;exact ⟨.at (.bl true),rfl,rfl⟩
 ·rintro x rest ε ⟨n,s4,s5,s6,s7,s8,s9,s10,rfl⟩;refine ⟨_,rfl,⟨n,rfl⟩,_,rfl,⟨n,rfl⟩,⟨d,rfl,ok⟩,?_⟩;rintro _ n1 ⟨e,T,he,rfl,X0⟩;have X:Trays d T:=by injection he with he _;exact ⟨by rw [Kq he];exact X0.perm,X0.each⟩
  have tl:=X.len ok;have rl:=JJ (d:=d) (T:=T) (l:=d.last) (s:=d.time);refine ⟨_,j5 rfl (JP ok X),?_⟩;refine ⟨trP T,c8 u9 u9 T rfl rfl (by omega) λt _=>⟨_,rfl,j5 rfl rfl⟩,?_⟩;refine ⟨_,vB (k:=2) rfl (by decide),?_⟩;refine QA (λrest ε=>∃(s4 s8 s9:MSlot),ε=[.sh (scr K ns),.sh d.pv,.sh (d.ob Aa),g8 n1,s4,.sh (trP T),.sh (.lst ((d.trs d.last d.time T).map c7)),.sh (trP T),s8,s9,s10]) ?_ ?_ _ _ ⟨_,_,_,rfl⟩
  ·rintro ε ⟨s4,s8,s9,rfl⟩;refine ⟨_,j5 rfl (v_end ok X),?_⟩;refine zr (xH (o8 (qi (j5 rfl (LJ _)))) (t9 (v:=false) (v5 rfl (j5 rfl (Ll ok X)) ((Pe _ _).trans (by rw [yg rfl];rfl))))) ?_;refine zr (t9 (v:=false) (v5 (j5 rfl (Ls ok X)) (j5 rfl (Lu ok X)) (by rw [BJ X];exact wC (Df _)))) ?_;exact zr (t9 (v:=false) (v5 rfl rfl (wC (YL T)))) ⟨n1,_,_,_,_,_,_,_,rfl⟩
  ·rintro x rest ε ⟨s4,s8,s9,rfl⟩;refine ⟨_,rfl,_,j5 rfl (JO ok X),?_⟩;refine zr (xH (o8 (qi (j5 rfl (XM _)))) (xH (t9 (v:=false) (v5 rfl rfl (wC (Dg _)))) (t9 (v:=false) (v5 rfl rfl (wC (YL T)))))) ?_;refine zr (o8 (qi (j5 (w4 (Kw c7 (λ_=>PV.at (.bl true)) (d.trs d.last d.time T) rfl rfl (by omega) λr _=>⟨_,rfl,j5 rfl (by unfold p7 tyP;rfl)⟩) rfl) (zw _)))) ?_;exact ⟨⟨_,rfl⟩,_,xK rfl l2,_,rfl,(by rw [yZ];omega),_,_,_,rfl⟩
theorem PR (F:Fun K "law" "law" jK f fd)(D2:Fn P w K mg base 3 "_law_tray_end" ["parts","trays"] (z7 QH))(Af:Fn P w K mg base 2 "_law_tray_rows" ["parts","trays"] (r9 zL))(Ey:Fn P w K mg base 4 "_law_parts" ["script","most"] (spV (wH K) jS))(A7:Fn P w K mg base 2 "_law_stream" ["script","k"] (spN (jG K) jc))(Ec:Fn P w K mg base 6 "tray_end" ["works","trays"] (z7 (wq Aa)))(D7:Fn P w K mg base 3 "_law_tray_late" ["parts","trays"] (z7 QL))(Ax:Fn P w K mg base 6 "tray_lateness" ["works","trays"] (z7 (wu Aa)))(Ah:Fn P w K mg base 5 "tray_rows" ["works","trays"] (r9 (zh Aa)))(E3:Fn P w K mg base 2 "_law_trays" ["row","parts"] (spD QZ wZ))(Ex:Fn P w K mg base 1 "_law_whole" ["thing"] (z7 wv))(Ao:mg "all"=none)(Ab:mg "isinstance"=none)(Ag:mg "list"=none)(Ad:mg "range"=none)(D9:mg "tuple"=none)(E7:mg "Works"=some (.ref Aa))(E2:Mkr P w K mg base 5 Aa ["self","rinses","cloths","last","time"] (spI Aa (vm Aa))):FnOk P w K mg base j8 7 f fd ["script"] (wO K) :=
 okL (k:=6) (b:=VE K Aa) F sc_law (λcdv A outer s H E hr=>⟨_,(j3 (sW 1 sc_law.nd (fW Ey hr (aC (pv 0) (aW x9))))
  (j3 (sW 2 sc_law.nd (pe_mk E2 hr (by decide) rfl E7 (aC (iW (K:=K) rfl (pv 1) x9) (aC (iW (K:=K) rfl (pv 1) x9) (aC (iW (K:=K) rfl (pv 1) x9) (aW (iW (K:=K) rfl (pv 1) x9)))))))
  (j3 (sW 3 sc_law.nd (fW A7 hr (aC (pv 0) (aW x9))))
  (j3 (qC PassesOwn.never rfl (xz rfl Ad (aW x9)) (gW 4 sc_law.nd)
   (j3 (sW 5 sc_law.nd (fW E3 hr (aC (pv 3) (aW (pv 1)))))
  (j3 (sW 6 sc_law.nd (fW Af hr (aC (pv 1) (aW (pv 5)))))
  (j3 (zk (i:=7) (N':=["tray"]) (cap:=[none]) (k8 rfl rfl rfl) rfl sc_law.nd rfl rfl (@p0 _ K _ _ _ rfl (pv 5)) (λ_ _ _ _ _ _=>(g7 (i:=0) (by show (["tray"]:List Str).Nodup;decide +kernel) rfl (Or.inl rfl))) (λ_ _ _ _ _ _=>b9) (λ_ _ _ _ _ _=>(zQ (Xq (K:=K) rfl) rfl Ag xW (aW (pv 0)))))
  (j3 (qC PassesOwn.never rfl (xz rfl Ad (aW x9)) (gW 8 sc_law.nd)
   (j3 (sW 9 sc_law.nd (fW Ah hr (aC (pv 2) (aW (pv 7)))))
  (j3 (c6 (PW.pt (xS (qa (i9 (K:=K) rfl (y2 (qF (K:=K) rfl) rfl Ab qE (aC (pv 9) (aW (qK (v:= .ty "list") rfl Ag xW rfl)))) (λ_=>rfl))) (xS (ql (jC (K:=K) (hu6 hr) rfl) (pv 9) (pv 6) (m7 _)) (zT (ql (jC (K:=K) (hu6 hr) rfl) (pv 7) (pv 5) (m7 _)))))) (j4 (w6 xh)) m3)
  (j3 (c6 (qa (i9 (K:=K) rfl (y2 (zy (K:=K) rfl rfl) rfl Ao zx (aW (m8 (N':=["span"]) (cap:=[none]) (k8 rfl rfl rfl) rfl (@p0 _ K _ _ _ rfl (pv 9)) (λ_ _ _ _ _ _=>(g7 (i:=0) (by show (["span"]:List Str).Nodup;decide +kernel) rfl (Or.inl rfl))) (λ_ _ _ _ _ _=>b9) (λ_ _ _ _ _ _=>(y2 (qF (K:=K) rfl) rfl Ab qE (aC (pv 0) (aW (qK (v:= .ty "tuple") rfl D9 Wo rfl)))))))) (λ_=>rfl))) (j4 (w6 xh)) m3)
  (j4 (xR (zP (K:=K) rfl PySem.F.plainAttrs_list PySem.F.slot_list_append PySem.F.type_list_append wx (pv 9) (j7 (@qX _ _ _ _ _ (aC x9 (aW x9))) y1))))))))
  (j3 (sW 10 sc_law.nd (fW Ec hr (aC (pv 2) (aW (pv 7)))))
  (j3 (c6 (PW.pt (xS (qa (i9 (K:=K) rfl (fW Ex hr (aW (pv 10))) (λ_=>rfl))) (zT (ql (jC (K:=K) (hu6 hr) rfl) (pv 10) (fW D2 hr (aC (pv 1) (aW (pv 5)))) (m7 _))))) (j4 (w6 xh)) m3)
  (j3 (c6 (ql (jC (K:=K) (hu6 hr) rfl) (fW Ax hr (aC (pv 2) (aW (pv 7)))) (fW D7 hr (aC (pv 1) (aW (pv 5)))) (m7 _)) (j4 (w6 xh)) m3)
  (j4 (c6 (ql (jC (K:=K) (hu6 hr) rfl) (pv 7) (pv 5) (m7 _)) (j4 (w6 xh)) m3))))))))))
  (j4 (w6 xh)))))),
  (by repeat' first|infer_instance|(refine @Mi.instSemWSTSeqWSeq _ _ _ _ ?_ ?_)|(apply @Mi.instSemWSTForWForOfSemWIOfSemWG))⟩) Bc
theorem GD {K:Fg}{fd:FuncData}{T:Addr}{ob:Obj}{items:Array Value}{n:Nat}(hd:fd.defaults = .ref T)(q:K.lookup T=some ob)(hs:ob.data = .seq items n)(h:∀ us:List Value,us.length=ps.length->∃ k:Option (Array Value)->Sem (List (Str×Value)),bindArgs fd ⟨us,[]⟩=seqItems? fd.defaults >>= k/\k (some items)=pure (ps.zip us)):Binds K fd ps []:=λs us X hl=>by
 rw [yq] at hl ⊢;obtain ⟨k,e1,e2⟩:=h us hl;exact BindsTo.of_defaults hd (X _ _ q) hs e1 e2
abbrev so (f:Addr):Option (Option Value):=some (some (.ref f))
abbrev fO (oc:Value)(od:Option Addr)(x q:Str)(st:Stmt)(dV kV dc pm:Value)(an:Option Addr)(cd ct:Value)(sl:Array (Option Value)):Option Obj:=some ⟨oc,od,.func (PySem.W.fnOf x q (qS st) (i0 st) (j6 st) dV kV dc pm an cd ct),sl⟩
theorem fnM (P:Program)(w:World)(base:Heap){K:Fg}{mg:Str->Option Value}{k:Nat}{f:Addr}{fd:FuncData}{sp:Sp}(h:FnOk P w K mg base j8 k f fd ps sp)(a:mg x=some (.ref f))(kp:PySem.W.keepIn K (.ref f)=true)(b:Binds K fd ps []):Fn P w K mg base k x ps sp:=⟨f,fd,h,a,kp,b⟩
theorem bi1 {K:Fg}{f:Addr}{fd:FuncData}{p:Str}(F:Fun K x qual st f fd)(h:∀(kV doc pm:Value)(an:Option Addr)(cdv ct u:Value),bindArgs (PySem.W.fnOf x qual (qS st) (i0 st) (j6 st) .none kV doc pm an cdv ct) ⟨[u],[]⟩=pure [(p,u)]):Binds K fd [p] []:=F.binds λa b c d e g us hl=>match us,hl with|[_],_=>h a b c d e g _
theorem bi2 {K:Fg}{f:Addr}{fd:FuncData}{p:Str}(F:Fun K x qual st f fd)(h:∀(kV doc pm:Value)(an:Option Addr)(cdv ct u v:Value),bindArgs (PySem.W.fnOf x qual (qS st) (i0 st) (j6 st) .none kV doc pm an cdv ct) ⟨[u,v],[]⟩=pure [(p,u),(q,v)]):Binds K fd [p,q] []:=F.binds λa b c d e g us hl=>match us,hl with|[_,_],_=>h a b c d e g _ _
structure Zt (P:Program)(w:World)(K:Fg)(mg:Str->Option Value)(base h:Heap):Prop where
 X:K.In h
 G:h.Ns mainGlobals mg
def FG (K:Fg)(x:Str)(st:Stmt):Prop:=∃ f oc od kV dc pm an cd ct sl,PySem.W.nsIn K mainGlobals x=so f/\K.lookup f=fO oc od x x st .none kV dc pm an cd ct sl/\PySem.W.codeIn K cd x=true/\PySem.W.keepIn K (.ref f)=true
theorem FG.i {K:Fg}{f:Addr}{kV:Value}(a:PySem.W.nsIn K mainGlobals x=so f)(l:K.lookup f=fO oc od x x st .none kV dc pm an cd ct sl)(c:PySem.W.codeIn K cd x=true)(k:PySem.W.keepIn K (.ref f)=true):FG K x st:=⟨_,_,_,_,_,_,_,_,_,_,a,l,c,k⟩
def FM (K:Fg)(C:Addr)(x q:Str)(st:Stmt):Prop:=∃ f oc od kV dc pm an cd ct sl,PySem.W.findIn K (.ref C) x=so f/\PySem.W.isFn K (.ref f)=true/\K.lookup f=fO oc od x q st .none kV dc pm an cd ct sl/\PySem.W.codeIn K cd q=true/\PySem.W.keepIn K (.ref f)=true
theorem FM.i {K:Fg}{C:Addr}{f:Addr}{kV:Value}(a:PySem.W.findIn K (.ref C) x=so f)(i:PySem.W.isFn K (.ref f)=true)(l:K.lookup f=fO oc od x q st .none kV dc pm an cd ct sl)(c:PySem.W.codeIn K cd q=true)(k:PySem.W.keepIn K (.ref f)=true):FM K C x q st:=⟨_,_,_,_,_,_,_,_,_,_,a,i,l,c,k⟩
abbrev BdA (x q:Str)(st:Stmt)(ps:List Str):Prop:=∀(kV doc pm:Value)(an:Option Addr)(cdv ct:Value)(us:List Value),us.length=ps.length->bindArgs (PySem.W.fnOf x q (qS st) (i0 st) (j6 st) .none kV doc pm an cdv ct) ⟨us,[]⟩=pure (ps.zip us)
section
variable {P:Program}{w:World}{K:Fg}{mg:Str->Option Value}{base h:Heap}{k:Nat}{ps:List Str}{sp:Sp}{x q:Str}{st:Stmt}{C:Addr}
theorem fG (Z:Zt P w K mg base h)(a:FG K x st)(H:∀{f fd},Fun K x x st f fd->FnOk P w K mg base j8 k f fd ps sp)(b:BdA x x st ps:=by intro _ _ _ _ _ _ us hl;first|exact (match us,hl with|[_],_=>rfl)|exact (match us,hl with|[_,_],_=>rfl)|exact (match us,hl with|[_,_,_],_=>rfl)|exact (match us,hl with|[_,_,_,_],_=>rfl)|exact (match us,hl with|[_,_,_,_,_],_=>rfl)):Fn P w K mg base k x ps sp:=by obtain ⟨f,oc,od,kV,dc,pm,an,cd,ct,sl,a,l,c,kp⟩:=a;exact ⟨f,_,H (vV l c kp),PySem.W.mg_of Z.X Z.G a,kp,(vV l c kp).binds b⟩
theorem fM (Z:Zt P w K mg base h)(kc:xo K C)(a:FM K C x q st)(H:∀{f fd},Fun K x q st f fd->FnOk P w K mg base j8 k f fd ps sp)(b:BdA x q st ps:=by intro _ _ _ _ _ _ us hl;first|exact (match us,hl with|[_],_=>rfl)|exact (match us,hl with|[_,_],_=>rfl)|exact (match us,hl with|[_,_,_],_=>rfl)|exact (match us,hl with|[_,_,_,_],_=>rfl)|exact (match us,hl with|[_,_,_,_,_],_=>rfl)):Mt P w K mg base k C x ps sp:=by obtain ⟨f,oc,od,kV,dc,pm,an,cd,ct,sl,a,i,l,c,kp⟩:=a;exact ⟨f,_,H (vV l c kp),⟨a,i,kp⟩,kc.c,(vV l c kp).binds b⟩
end
theorem all_mk {l:PySem.W.OpenLaw}{w:World}{K:Fg}{h:Heap}{mg:Str->Option Value}{fa f46 f52:Addr}{od46 od52 an46 an52:Option Addr}{sl46 sl52:Array (Option Value)}{oc46 oc52 kV46 kV52 dc46 dc52 pm46 pm52 ct46 ct52 cd46 cd52:Value}{T46:Addr}{qc46 qv46_0 qv46_1:Value}{qd46:Option Addr}{qn46:Nat}{qs46:Array (Option Value)}(X:K.In h)(TT:∀ P∈[],h.get? P=some (PySem.W.tabObj #[]))(hTB:TABS=[])(G:h.Ns mainGlobals mg)(hfa:mg "law"=some (.ref fa))(Ix:W.nsIn K mainGlobals "Works"=some (some (.ref Aa)))(Ie:PySem.W.plainGet K Aa Str.empty=true)(Im:PySem.W.hasDictIn K Aa=true)(Ik:PySem.W.plainOver K Aa=true)(Io:W.findIn K (.ref Aa) "__setattr__"=some (some (.builtin "object.__setattr__")))(Ip:PySem.W.makesIn K Aa=true)(Il:W.keepIn K (.ref Aa)=true)(Ep:W.findIn K (.ref Aa) "given"=some none)(E1:W.findIn K (.ref Aa) "held"=some none)(E8:W.findIn K (.ref Aa) "last"=some none)(Er:W.findIn K (.ref Aa) "least"=some none)(Ez:W.findIn K (.ref Aa) "time"=some none)(a0:FG K "_law_mixed" Ji)(a1:FG K "_law_digit" ZQ)(a2:FG K "_law_stream" Xb)(a3:FG K "_law_number" Jl)(a4:FG K "_law_rinses" Jn)(a5:FG K "_law_names" Jk)(a6:FG K "_law_cloth" ZO)(a7:FG K "_law_parts" Jm)(a8:FG K "_law_least" Jd)(a9:FG K "is_whole" ZZ)(a10:FG K "name_of" Jj)(a11:FG K "hue_of" ZS)(a12:FG K "length_of" Jg)(a13:FG K "due_of" ZR)(a14:FG K "weight_of" Jz)(a15:FG K "is_from" ZU)(a16:FG K "is_name" ZV)(a17:FG K "is_cloth" ZT)(a18:FG K "is_rinse_row" ZY)(a19:FG K "check_rinses" ZL)(a20:FG K "straight_ways" Jo)(a21:FG K "joined" Ja)(a22:FG K "lesser" Jh)(a23:FG K "ways_through" Jy)(a24:FG K "least_ways" Jf)(a25:FG K "sums_of" Jp)(a26:FG K "least_rinses" Je)(a27:FG K "check_start" ZM)(a28:FG K "check_cloths" ZK)(a29:FM K Aa "hues" "Works.hues" ZE)(a30:FM K Aa "tray_rinse" "Works.tray_rinse" ZH)(a31:FM K Aa "start" "Works.start" ZG)(a32:FM K Aa "names" "Works.names" ZF)(a33:FM K Aa "cloth" "Works.cloth" ZD)(a34:FG K "are_names" ZJ)(a35:FG K "is_plan" ZX)(a36:FG K "cloths_of" ZP)(a37:FG K "tray_hue" Js)(a38:FG K "tray_length" Jv)(a39:FG K "tray_due" Jq)(a40:FG K "is_of_one_hue" ZW)(a41:FG K "are_full_lists" ZI)(a42:FG K "check_trays" ZN)(a43:FG K "tray_rows" Jw)(a44:FG K "tray_end" Jr)(a45:FG K "tray_lateness" Ju)(a46:W.findIn K (.ref Aa) "__init__"=so f46)(i46:W.isFn K (.ref f46)=true)(l46:K.lookup f46=fO oc46 od46 "__init__" "Works.__init__" jJ (.ref T46) kV46 dc46 pm46 an46 cd46 ct46 sl46)(c46:W.codeIn K cd46 "Works.__init__"=true)(k46:W.keepIn K (.ref f46)=true)(q46:K.lookup T46=some ⟨qc46,qd46,.seq #[qv46_0,qv46_1] qn46,qs46⟩)(a47:FG K "_law_tray_rows" Jc)(a48:FG K "_law_tray_late" Jt)(a49:FG K "_law_tray_end" Jb)(a50:FG K "_law_whole" JA)(a51:FG K "_law_trays" Jx)(a52:W.nsIn K mainGlobals "law"=so f52)(l52:K.lookup f52=fO oc52 od52 "law" "law" jK .none kV52 dc52 pm52 an52 cd52 ct52 sl52)(c52:W.codeIn K cd52 "law"=true)(k52:W.keepIn K (.ref f52)=true)(J4:W.nsIn K mainGlobals "all"=some none)(Iz:W.nsIn K mainGlobals "bool"=some none)(J1:W.nsIn K mainGlobals "dict"=some none)(Id:W.nsIn K mainGlobals "enumerate"=some none)(J2:W.nsIn K mainGlobals "int"=some none)(E6:W.nsIn K mainGlobals "isinstance"=some none)(J7:W.nsIn K mainGlobals "len"=some none)(J0:W.nsIn K mainGlobals "list"=some none)(J8:W.nsIn K mainGlobals "max"=some none)(J3:W.nsIn K mainGlobals "min"=some none)(Iw:W.nsIn K mainGlobals "range"=some none)(J5:W.nsIn K mainGlobals "set"=some none)(Ij:W.nsIn K mainGlobals "sorted"=some none)(J9:W.nsIn K mainGlobals "str"=some none)(Na:W.nsIn K mainGlobals "sum"=some none)(Iv:W.nsIn K mainGlobals "tuple"=some none)(J6:W.nsIn K mainGlobals "zip"=some none)(Ek:W.nsIn K mainGlobals "LONGEST_NAME"=some (some (.int 8 A6)))(Es:W.nsIn K mainGlobals "MOST_CLOTHS"=some (some (.int 10 B9)))(Ic:W.nsIn K mainGlobals "MOST_HUES"=some (some (.int 4 D6)))(Iy:W.nsIn K mainGlobals "PARTS"=some (some (.int 5 E4))):∃ fd:FuncData,(∀ (s:Shared) (v:Value),BindsTo s fd ⟨[v],[]⟩ [("script",v)])/\jX K h/\∀ base:Heap,K.In base->base.Ns mainGlobals mg->FnOk l.prog w K mg base j8 7 fa fd ["script"] (wO K):=by
 have e:=hfa.symm.trans (W.mg_of X G a52);cases e;have Ao:=W.mg_none_of X G J4;have Eh:=W.mg_none_of X G Iz;have Ay:=W.mg_none_of X G J1;have D5:=W.mg_none_of X G Id;have Et:=W.mg_none_of X G J2;have Ab:=W.mg_none_of X G E6;have Ac:=W.mg_none_of X G J7;have Ag:=W.mg_none_of X G J0;have Ew:=W.mg_none_of X G J8;have Eu:=W.mg_none_of X G J3;have Ad:=W.mg_none_of X G Iw;have Ig:=W.mg_none_of X G J5;have En:=W.mg_none_of X G Ij;have Ev:=W.mg_none_of X G J9;have B4:=W.mg_none_of X G Na;have D9:=W.mg_none_of X G Iv;have Ee:=W.mg_none_of X G J6;have A4:=W.mg_of X G Ek;have B8:=W.mg_of X G Es;have D3:=W.mg_of X G Ic;have Ia:=W.mg_of X G Iy;have E7:=W.mg_of X G Ix;have Ef:xo K Aa:=⟨⟨Ie,Im,Ik,Io⟩⟩;have Ih:NoA K Aa "given":=⟨Ep⟩;have Iq:NoA K Aa "held":=⟨E1⟩;have Ir:NoA K Aa "last":=⟨E8⟩;have Ii:NoA K Aa "least":=⟨Er⟩;have Iu:NoA K Aa "time":=⟨Ez⟩;have F46:=KJ (st:=jJ) l46 c46 k46;have F52:=vV (st:=jK) l52 c52 k52;have b46:Binds K (W.fnOf "__init__" "Works.__init__" (qS jJ) (i0 jJ) (j6 jJ) (.ref T46) kV46 dc46 pm46 an46 cd46 ct46) ["self","rinses","cloths","last","time"] []:=GD (T:=T46) rfl q46 rfl λus hl=>match us,hl with|[_,_,_,_,_],_=>⟨_,rfl,rfl⟩
 have TK:jX K h:=by refine ⟨λp hp=>?_,λp hp=>?_,λp hp q hq=>?_,λp hp=>?_,λp hp q hq e=>?_,λp hp=>?_⟩<;>rw [hTB] at hp<;>cases hp
 refine ⟨W.fnOf "law" "law" (qS jK) (i0 jK) (j6 jK) .none kV52 dc52 pm52 an52 cd52 ct52,λs v=> .of_eq rfl,TK,λbase _ _=>?_⟩;have Z:Zt l.prog w K mg base h:=⟨X,G⟩;have Ed:=fG Z a0 λF=>Cb F;have Ae:=fG Z a1 λF=>Py F;have A7:=fG Z a2 λF=>Ci F Ed Ac Ad B4;have At:=fG Z a3 λF=>Ce F Ae;have Em:=fG Z a4 λF=>Cg F Ae At Ad;have E9:=fG Z a5 λF=>Cd F Ae Ac Ad;have E5:=fG Z a6 λF=>Pw F Ae At;have Ey:=fG Z a7 λF=>Cf F E5 Ae E9 At Em A7;have Ib:=fG Z a8 λF=>PU F Ac Ag Eu Ad;have Aj:=fG Z a9 λF=>PM F Eh Et Ab;have Ak:=fG Z a10 λF=>Cc F;have Aq:=fG Z a11 λF=>PB F;have As:=fG Z a12 λF=>PZ F;have D0:=fG Z a13 λF=>Pz F;have D4:=fG Z a14 λF=>Cv F;have Ap:=fG Z a15 λF=>PF F Aj;have Ej:=fG Z a16 λF=>PH F Ao Ab Ac Ev A4;have Ea:=fG Z a17 λF=>PD F D0 Aq Ap Ej Aj As Ak D4 Ab Ac D9 Ia;have A5:=fG Z a18 λF=>PL F Aj Ao Ab Ac Ag;have A8:=fG Z a19 λF=>Ps F A5 Ao Ab Ac Ag D3;have Aw:=fG Z a20 λF=>Ch F D5;have El:=fG Z a21 λF=>PN F;have Eo:=fG Z a22 λF=>Ca F;have B3:=fG Z a23 λF=>Cu F El Eo Ee;have D1:=fG Z a24 λF=>PY F Aw B3 Ac Ad;have Eg:=fG Z a25 λF=>Ck F;have A9:=fG Z a26 λF=>PX F A8 D1 Eg;have B6:=fG Z a27 λF=>Pt F Ap;have B0:=fG Z a28 λF=>Pr F Ea Ak Ac B8;have A3:=fM (sp:=(z7 (vk Aa))) Z Ef a29 λF=>Pj F Ac;have Ar:=fM (sp:=(z7 (vn Aa))) Z Ef a30 λF=>Pn F;have An:=fM (sp:=(z7 (jy Aa))) Z Ef a31 λF=>Pm F;have Al:=fM (sp:=(r9 (jx Aa))) Z Ef a32 λF=>Pl F En;have Am:=fM (sp:=(z7 (jw Aa))) Z Ef a33 λF=>Pi F Ab Ev;have D8:=fG (sp:=(z7 (wb Aa))) Z a34 λF=>Pq F Ao Ab Ac Ag Ig Al;have Ei:=fG (sp:=(z7 (wf Aa))) Z a35 λF=>PK F D8 Ac Al;have Ai:=fG (sp:=(z7 (zf Aa))) Z a36 λF=>Px F Am;have Av:=fG (sp:=(z7 (zN Aa))) Z a37 λF=>Co F Aq Am;have B5:=fG (sp:=(z7 (vo Aa))) Z a38 λF=>Cr F Ai As B4;have Eb:=fG (sp:=(z7 (wp Aa))) Z a39 λF=>Cm F Ai D0 Eu;have Az:=fG (sp:=(z7 (we Aa))) Z a40 λF=>PJ F Ai Aq Av Ao;have Au:=fG Z a41 λF=>Po F Ao Ab Ac Ag;have B7:=fG (sp:=(z7 (wc Aa))) Z a42 λF=>Pu F Au Az Ei Ao B4;have Ah:=fG (sp:=(r9 (zh Aa))) Z a43 λF=>Cs F B7 Av B5 An Ar;have Ec:=fG (sp:=(z7 (wq Aa))) Z a44 λF=>Cn F Ah An;have Ax:=fG (sp:=(z7 (wu Aa))) Z a45 λF=>Cq F Eb Ah Ew Ee;have E2:Mkr l.prog w K mg base _ Aa _ (spI Aa (vm Aa)):=⟨_,_,Pk F46 B0 B6 A9 Ak Ay Ag A3,⟨Ip,a46,i46,Il⟩,b46⟩;have Af:=fG Z a47 λF=>PQ F Ib Ay B4;have D7:=fG Z a48 λF=>Cp F Af Ay Ew Ee;have D2:=fG Z a49 λF=>PP F Af;have Ex:=fG Z a50 λF=>Cw F Eh Et Ab;have E3:=fG Z a51 λF=>Ct F Ae Ay Ac Ad;exact PR F52 D2 Af Ey A7 Ec D7 Ax Ah E3 Ex Ao Ab Ag Ad D9 E7 E2
theorem walk {l:PySem.W.OpenLaw}{q:Program}{loose:List Str}{XP:(Str->Option Value)->Heap->Prop}{YP:World->Heap->Prop}{d:DefRec}{K:Params->Fg}(hn:l.most=some 63)(hdf:d.params.defaults=[])(hY:∀ (w:World) (h:Heap),YP w h->(K w.params).In h)(F:∀ (w:World) (mg:Str->Option Value) (fa:Addr) (h:Heap),YP w h->(K w.params).In h->h.Ns mainGlobals mg->mg d.name=some (.ref fa) -> ∃ fd:FuncData,(∀ (s:Shared) (u:Value),BindsTo s fd ⟨[u],[]⟩ [("script",u)])/\jX (K w.params) h/\∀ base:Heap,(K w.params).In base->base.Ns mainGlobals mg->FnOk l.prog w (K w.params) mg base j8 7 fa fd ["script"] (wO (K w.params))):PySem.W.WalkO q loose XP YP l.row.toRowW d [] (λf vs=>PySem.call f vs) :=
 L2.LL (n:=63) (k:=7) (x:="script") (CX:=λ_=>j8) (sp:=λw=>wO (K w.params)) hn (by decide) hdf ⟨rfl,by decide,by decide⟩ hY F (λ_ _ a ns hl _ hS=>⟨a,ns,rfl,hS,hl,λ_=>rfl⟩) λ_ _ _ _ _ z=>z
end Lw
open PySem PySem.W PyProof.Rows
set_option maxRecDepth 100000 in
set_option maxHeartbeats 0 in
theorem PySem.Challenge.cw_rinsework_k63_trays_told_holds : PySem.Challenge.rw_rinsework_k63_trays_told.Holds := by
  w_on; o_law; k_head; (case hw => w_witness2)
  k_fill
  refine Lw.walk (l := PySem.Challenge.rw_rinsework_k63_trays_told) rfl rfl (λw h Y => PySem.W.kIn_of Y) ?F
  case F =>
    intro w mg fa h Y KX G hmg
    apply Lw.all_mk KX (λ_ z => nomatch z) rfl G hmg
    iterate 12 k_is
    iterate 29 (apply Lw.FG.i;iterate 4 k_is)
    iterate 5 (apply Lw.FM.i;iterate 5 k_is)
    iterate 12 (apply Lw.FG.i;iterate 4 k_is)
    iterate 6 k_is
    iterate 5 (apply Lw.FG.i;iterate 4 k_is)
    iterate 25 k_is
