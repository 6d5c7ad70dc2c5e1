import PyProof.Rows.All
import Wide.All
import OpenK.AllK
import Wide.FinOn
import Lean
import PyProof.EqAt
import PyProof.EqKinds
import PyProof.NeKinds
import PyProof.TupleCall
import PySem.Challenge.RW_rinsework_k25_whole_steep_orders_are_eno
set_option Elab.async false
set_option linter.all false
set_option maxRecDepth 100000
namespace PySem.W.Fast
theorem tw16642703726152531488:True:=trivial
theorem tw11443823867231596132:True:=trivial
theorem tw6432306980247317062:True:=trivial
theorem tw7683012755893392807:True:=trivial
theorem tw10742885555136570473:True:=trivial
theorem tw3204772879087862284:True:=trivial
theorem tw7268047500701320301:True:=trivial
theorem tw13400773538040958669:True:=trivial
theorem tw7087202940647194766:True:=trivial
theorem tw13646561827706003279:True:=trivial
theorem tw2973850672353940624:True:=trivial
theorem tw15024387211044938544:True:=trivial
theorem tw218486491642816305:True:=trivial
theorem tw4780376686052974738:True:=trivial
theorem tw12278195503542387378:True:=trivial
theorem tw8629940051803001044:True:=trivial
theorem tw5825816025677153365:True:=trivial
theorem tw9320786622084439000:True:=trivial
theorem tw11809780657022068413:True:=trivial
theorem tw8243244347939534174:True:=trivial
theorem tw11554926078953060697:True:=trivial
theorem tw11576748989327495404:True:=trivial
theorem tw16781839593671579059:True:=trivial
theorem tw4267386441580817503:True:=trivial
theorem tw827576055606977654:True:=trivial
theorem tw5168614803411913433:True:=trivial
theorem tw9440735056147920566:True:=trivial
theorem tw11493506364074140460:True:=trivial
theorem tw12502071866018642845:True:=trivial
theorem tw15566188843759595919:True:=trivial
theorem tw12104059477663822243:True:=trivial
theorem tw18061297746062097607:True:=trivial
theorem tw8802454657337707211:True:=trivial
theorem tw17452723913520646794:True:=trivial
theorem tw2435878983139194652:True:=trivial
theorem tw13829725175535900993:True:=trivial
theorem tw12862722305395274637:True:=trivial
theorem tw6327433627753161003:True:=trivial
theorem tw12839763300656223373:True:=trivial
theorem tw16909060486403144802:True:=trivial
theorem tw10767238423707574026:True:=trivial
theorem tw9841936195352530650:True:=trivial
theorem tw10276983097571533875:True:=trivial
theorem tw14793313878978456981:True:=trivial
theorem tw15519971219915480922:True:=trivial
theorem tw14220680924188249843:True:=trivial
theorem tw2786046603224360013:True:=trivial
theorem tw5589321618171974886:True:=trivial
theorem tw11221278748454652013:True:=trivial
theorem tw8077084614194067161:True:=trivial
theorem tw6902111391669267307:True:=trivial
theorem tw10178567355134363070:True:=trivial
theorem tw5648790920693063486:True:=trivial
theorem tw3408486297920382469:True:=trivial
theorem tw1608106331819941295:True:=trivial
theorem tw16202838967526798414:True:=trivial
theorem tw9000791878010776151:True:=trivial
theorem tw13111129288572176361:True:=trivial
theorem tw10009071426236066544:True:=trivial
theorem tw10921846179009403476:True:=trivial
theorem tw8961223422033464776:True:=trivial
theorem tw16774760139534001705:True:=trivial
theorem tw7627707857277882797:True:=trivial
theorem tw4745068531178666668:True:=trivial
theorem tw11867492449235557143:True:=trivial
theorem tw16802008408303499073:True:=trivial
theorem tw17159250709209417705:True:=trivial
theorem tw13313485733577647824:True:=trivial
theorem tw8905032366349878903:True:=trivial
theorem tw14445717757303867920:True:=trivial
theorem tw10242369877437642374:True:=trivial
theorem tw93449087795111106:True:=trivial
theorem tw12639137150116650195:True:=trivial
theorem tw5830884034229402981:True:=trivial
theorem tw6852198940123594193:True:=trivial
theorem tw10369339840097097865:True:=trivial
theorem tw6800368590441690658:True:=trivial
theorem tw347950575312644565:True:=trivial
theorem tw927160026355361293:True:=trivial
theorem tw6867943029983015760:True:=trivial
end PySem.W.Fast
abbrev yZ:=@List.length_map
abbrev yY:=@List.getElem?_eq_getElem
abbrev yX:=@List.size_toArray
abbrev yW:=@List.mem_cons_of_mem
abbrev yV:=@Nat.le_refl
abbrev yU:=@List.mem_cons_self
abbrev yT:=@PySem.Heap.get?_push_of_some
abbrev yS:=@Bool.false_ne_true
abbrev yR:=@PySem.wpAny_bind
abbrev yQ:=@PySem.Heap.lt_size
abbrev yP:=@List.getElem?_map
abbrev yO:=@List.map_cons
abbrev yN:=@List.length_append
abbrev yM:=@Option.map_eq_some_iff
abbrev yL:=@Nat.ne_of_lt
abbrev yK:=@Option.bind_some
abbrev yJ:=@List.mem_singleton
abbrev yI:=@decide_eq_false
abbrev yH:=@List.mem_cons
abbrev yG:=@decide_eq_true
abbrev yF:=@List.length_cons
abbrev yE:=@Nat.lt_of_lt_of_le
abbrev yD:=@PySem.Heap.get?_push_size
abbrev yC:=@List.getD_eq_getElem?_getD
abbrev yB:=@List.getElem?_eq_some_iff
abbrev yA:=@List.getElem_mem
abbrev yz:=@List.mem_map
abbrev yy:=@List.getElem?_set
abbrev yx:=@PySem.wpAny_pure
abbrev yw:=@List.mem_append_right
abbrev yv:=@List.map_append
abbrev yu:=@List.mem_range
abbrev yt:=@List.append_nil
abbrev yr:=@List.map_map
abbrev yq:=@List.getElem?_set_ne
abbrev yp:=@List.nodup_cons
abbrev yo:=@Int.eq_ofNat_of_zero_le
abbrev yn:=@List.getElem?_append_right
abbrev ym:=@Nat.le_trans
abbrev yk:=@List.append_assoc
abbrev yj:=@List.mem_filter
abbrev yi:=@Int.emod_lt_of_pos
abbrev yh:=@List.mem_of_getElem?
abbrev yg:=@List.length_set
abbrev yf:=@Bool.and_eq_true
abbrev ye:=@List.not_mem_nil
abbrev yd:=@List.getElem_toArray
abbrev yc:=@List.mem_append
abbrev yb:=@List.getElem?_append_left
abbrev ya:=@List.getElem_map
abbrev uZ:=@List.length_range
abbrev uY:=@Nat.zero_le
abbrev uX:=@Int.emod_nonneg
abbrev uW:=@List.length_take
abbrev uV:=@List.mem_iff_getElem
abbrev uU:=@List.getElem?_eq_none
abbrev uT:=@of_decide_eq_true
abbrev uS:=@Int.le_refl
abbrev uR:=@Option.bind_eq_some_iff
abbrev uQ:=@List.mem_append_left
abbrev uP:=@List.length_drop
abbrev uO:=@List.lookup_cons
abbrev uN:=@Int.le_trans
abbrev uM:=@List.getElem?_set_self
abbrev uL:=@List.getElem_of_mem
abbrev uK:=@Option.map_some
abbrev uJ:=@Nat.le_of_lt
abbrev uI:=@List.pairwise_cons
abbrev uH:=@List.countP_append
abbrev uG:=@List.replicate_succ
abbrev uF:=@Nat.lt_irrefl
abbrev uE:=@List.all_eq_true
abbrev uD:=@List.drop_eq_getElem_cons
abbrev uC:=@List.find?_cons
abbrev uB:=@Nat.not_lt_zero
abbrev uA:=@Int.mul_le_mul_of_nonneg_right
abbrev uz:=@Int.mul_le_mul_of_nonneg_left
abbrev uy:=@List.length_eq_zero_iff
abbrev ux:=@PySem.Heap.size_push
abbrev uw:=@Int.zero_add
abbrev uu:=@List.findSome?_eq_none_iff
abbrev ut:=@List.flatten_cons
abbrev ur:=@PySem.Heap.get?_none_of_le
abbrev uq:=@Array.getElem?_eq_getElem
abbrev uo:=@List.pairwise_iff_getElem
abbrev um:=@Nat.pow_le_pow_right
abbrev ul:=@Nat.le_succ
abbrev uk:=@List.nodup_nil
abbrev uj:=@Nat.lt_succ_self
abbrev ui:=@Nat.lt_or_ge
abbrev uh:=@List.perm_middle
abbrev ug:=@Array.length_toList
abbrev uf:=@List.getElem?_replicate
abbrev ue:=@List.countP_cons_of_neg
abbrev ud:=@List.mem_filterMap
abbrev uc:=@List.of_mem_zip
abbrev ub:=@List.take_of_length_le
abbrev ua:=@List.not_lt
abbrev tZ:=@List.nodup_append
abbrev tY:=@Nat.ne_of_gt
abbrev tX:=@List.length_replicate
abbrev tW:=@Array.getElem?_toList
abbrev tV:=@List.Perm.append_left
abbrev tU:=@List.getElem_inj
abbrev tT:=@Option.getD_none
abbrev tS:=@List.take_length
abbrev tR:=@List.drop_length
namespace L2
abbrev Fg:=PySem.W.Frag
end L2
namespace L2
open PySem PySem.Spec PyProof.Rows
variable{us:List Value}{C a b dx it:Addr}{u:Value}{P:Program}{w:World}{base h:Heap}{g':Array GenState}{j n t':Nat}{d':Drawn}{ch fp:List Addr}{m qual x:Str}{c e l tg:Expr}{N ps:List Str}{A:Around}{E Q:Value->Shared->Prop}{s s':Shared}{α:Type}{pins:List (Addr×Obj)}{pos:Pos}{op op':CmpOp}{K:Fg}{f:Value->Value->Sem Value}{es:List Expr}{body:List Stmt}{lo:Int}{pl:Sem Bool}{mA mg:Str->Option Value}{kw:List (Str×Value)}{fd:FuncData}{outer:List Env}{scope:Scope}
abbrev j4:=Sum Int Str
def vP:j4->Value->Bool
 | .inl k,v=>Value.isInt k v
 | .inr x,v=>Value.isStrOf x v
def keyH (w:World):j4->Int
 | .inl k=>hashInt k
 | .inr x=>hashStr w x
theorem jt:∀{k:j4}{v:Value},vP k v=true->(∃ i t,k=Sum.inl i/\v=Value.int i t)∨(∃ x t,k=Sum.inr x/\v=Value.str x t)
 | .inl i,v,h=>by
  obtain ⟨t,e⟩:=Value.isInt_shape (k:=i) (v:=v) h;exact .inl ⟨i,t,rfl,e⟩
 | .inr x,v,h=>by
  obtain ⟨t,e⟩:=Value.isStrOf_shape (x:=x) (v:=v) h;exact .inr ⟨x,t,rfl,e⟩
theorem LI (i:Int)(t:Tok):vP (.inl i) (.int i t)=true:=by simp [vP,Value.isInt]
theorem KY (x:Str)(t:Tok):vP (.inr x) (.str x t)=true:=by simp [vP,Value.isStrOf]
theorem LJ (a b:Int):decide ((Sum.inl a:j4)=Sum.inl b)=(a==b):=by
 by_cases e:a=b
 ·subst e;simp
 ·have h:¬ (Sum.inl a:j4)=Sum.inl b:=λq=>e (Sum.inl.inj q);rw [yI h];exact (beq_eq_false_iff_ne.mpr e).symm
theorem LM (a b:Str):decide ((Sum.inr a:j4)=Sum.inr b)=decide (a=b):=by
 by_cases e:a=b
 ·subst e;simp
 ·have h:¬ (Sum.inr a:j4)=Sum.inr b:=λq=>e (Sum.inr.inj q);rw [yI h,yI e]
theorem LK (a:Int)(b:Str):decide ((Sum.inl a:j4)=Sum.inr b)=false:=yI (λq=>nomatch q)
theorem LL (a:Str)(b:Int):decide ((Sum.inr a:j4)=Sum.inl b)=false:=yI (λq=>nomatch q)
def qp (prog:Program)(w:World):PySem.KeyKind prog w j4 where
 is:=vP
 hash:=keyH w
 inj:=λv a b ha hb=>by
  rcases jt ha with ⟨i,t,rfl,rfl⟩|⟨x,t,rfl,rfl⟩
  ·rcases jt hb with ⟨j,u,rfl,e⟩|⟨y,u,rfl,e⟩
   ·injection e with e1 _;rw [e1]
   ·exact nomatch e
  ·rcases jt hb with ⟨j,u,rfl,e⟩|⟨y,u,rfl,e⟩
   ·exact nomatch e
   ·injection e with e1 _;rw [e1]
 byValue:=λk v h=>by
  rcases jt h with ⟨i,t,rfl,rfl⟩|⟨x,t,rfl,rfl⟩<;>rfl
 pyHash:=λhv h=>by
  rcases jt hv with ⟨i,t,rfl,rfl⟩|⟨x,t,rfl,rfl⟩
  ·exact wpAny_pyHash_int h
  ·exact wpAny_pyHash_str h
 eqBool:=λhu hv h=>by
  rcases jt hu with ⟨i,t,rfl,rfl⟩|⟨x,t,rfl,rfl⟩
  ·rcases jt hv with ⟨j,u,rfl,rfl⟩|⟨y,u,rfl,rfl⟩
   ·rw [LJ] at h;exact wpAny_eqBool_int h
   ·rw [LK] at h;exact SeqAt.EqAt.int_str i t y u _ _ _ _ h
  ·rcases jt hv with ⟨j,u,rfl,rfl⟩|⟨y,u,rfl,rfl⟩
   ·rw [LL] at h;exact SeqAt.EqAt.str_int x t j u _ _ _ _ h
   ·rw [LM] at h;exact wpAny_eqBool_str h
 «strs»:=λk x t v h=>by
  rcases jt h with ⟨i,u,rfl,e⟩|⟨y,u,rfl,e⟩
  ·exact nomatch e
  ·injection e with e1 _;subst e1;cases v<;>rfl
theorem Nm (prog:Program)(w:World)(i:Int)(t:Tok):(qp prog w).is (.inl i) (.int i t)=true:=LI i t
theorem VV (prog:Program)(w:World)(x:Str)(t:Tok):(qp prog w).is (.inr x) (.str x t)=true:=KY x t
inductive V where
 |non|bl (b:Bool)|int (i:Int)|str (x:Str)|byt (b:Array UInt8)|flt (b:UInt64)|ref (a:Addr)|ty (n:String)
 deriving DecidableEq
variable{vs xs:List V}{v y:V}
def RelV:V->Value->Prop
 | .non,u=>u=Value.none
 | .bl b,u=>u=Value.bool b
 | .int i,u=>∃ t,u=Value.int i t
 | .str x,u=>∃ t,u=Value.str x t
 | .byt b,u=>∃ t,u=Value.bytes b t
 | .flt b,u=>∃ t,u=Value.float b t
 | .ref a,u=>u=Value.ref a
 | .ty n,u=>u=Value.type n
abbrev Vals:List V->List Value->Prop:=Paired RelV
theorem Vals.length (r:Vals xs us):xs.length=us.length:=Paired.length r
theorem Vals.get:∀{xs:List V}{us:List Value}{i:Nat}{x:V},Vals xs us->xs[i]?=some x->∃ u,us[i]?=some u/\RelV x u
 |_,_,_,_,.nil,e=>by simp at e
 |_,_,0,_,.cons r _,e=>by simp at e;subst e;exact ⟨_,rfl,r⟩
 |_,_,i+1,x,.cons _ t,e=>by
  obtain ⟨u,h1,h2⟩:=Vals.get (i:=i) (x:=x) t (by simpa using e);exact ⟨u,by simpa using h1,h2⟩
theorem Vals.set {x:V}{u:Value}(r:RelV x u):∀{xs:List V}{us:List Value}(i:Nat),Vals xs us->Vals (xs.set i x) (us.set i u)
 |_,_,_,.nil=> .nil
 |_,_,0,.cons _ t=> .cons r t
 |_,_,i+1,.cons q t=> .cons q (Vals.set r i t)
theorem Vals.append:∀{xs ys:List V}{us ws:List Value},Vals xs us->Vals ys ws->Vals (xs++ys) (us++ws)
 |_,_,_,_,.nil,s=>s
 |_,_,_,_,.cons r t,s=> .cons r (Vals.append t s)
theorem Vals.take:∀{xs:List V}{us:List Value}(n:Nat),Vals xs us->Vals (xs.take n) (us.take n)
 |_,_,0,_=> .nil
 |_,_,_+1,.nil=> .nil
 |_,_,n+1,.cons r t=> .cons r (Vals.take n t)
theorem Vals.drop:∀{xs:List V}{us:List Value}(n:Nat),Vals xs us->Vals (xs.drop n) (us.drop n)
 |_,_,0,r=>r
 |_,_,_+1,.nil=> .nil
 |_,_,n+1,.cons _ t=>Vals.drop n t
def RelO:Option V->Option Value->Prop
 |some v,some u=>RelV v u
 |none,none=>True
 |_,_=>False
def KV {κ:Type}:List (κ×V)->List (κ×Value)->Prop:=Paired λ(p:κ×V) (q:κ×Value)=>p.1=q.1/\RelV p.2 q.2
def kV:j4->V
 | .inl i=> .int i
 | .inr x=> .str x
def TABS:List (Addr×Array Value×List (Pos×Str)):=[(212,#[],[((⟨61,30,61,109⟩:Pos),("by_steepness.<locals>.<lambda>":Str))]),(305,#[],[((⟨136,46,136,96⟩:Pos),("to_steep.<locals>.<lambda>":Str))])]
inductive HO where
 /-- a list -/
 |lst (xs:List V)
 /-- a tuple (never changes) -/
 |tup (xs:List V)
 /-- a dict whose keys are ints and texts;one whose keys are tuples of ints and texts (the empty one is both) -/
 |dK (kvs:List (j4×V))|dT (kvs:List (List j4×V))
 /-- a set of ints: its members,its size -/
 |set (S:Int->Bool) (n:Nat)
 /-- an instance of the class at C,its dict at dx,its attributes -/
 |ins (C dx:Addr) (fs:List (Str×V))
 /-- the dict of the instance at x -/
 |own (x:Addr)
 /-- the dict of an exception -/
 |xd (fs:List (Str×V))
 /-- a bound method,f of x -/
 |met (f x:Addr)
 /-- a range object lo,lo+1,.. below hi -/
 |rng (lo hi:Int)
 /-- a thing that is known to the object (the script;a dict while a loop walks it): read,never written while it is so -/
 |frz (o:Obj) (u:HO)
 /-- a code object's table -/
 |tbl (ps:Array Value) (q:List (Pos×Str))
 /-- any other thing,by what is true of its one object (a def of one's own: vG a S n:=HO.ext λh=> ..) -/
 |ext (φ:Heap->Prop)
variable{o:HO}
abbrev Hp:=Addr->Option HO
variable{H:Hp}{R:V->V->Hp->Prop}
def v9 (H:Hp)(a:Addr)(o:HO):Hp:=λb=>if b=a then some o else H b
theorem g0 :v9 H a o a=some o:=by unfold v9;rw [if_pos rfl]
theorem j9 (h:b≠a):v9 H a o b=H b:=by unfold v9;rw [if_neg h]
theorem ne_of {u:HO}(h:H a=some o)(h':H b=some u)(d:o≠u):a≠b:=by intro e;subst e;rw [h] at h';exact d (Option.some.inj h')
theorem g8 (h:H a=some o)(h':H b=none):a≠b:=by intro e;subst e;rw [h] at h';cases h'
section
variable (P:Program)(w:World)
def ObjOk (H:Hp)(h:Heap)(a:Addr):HO->Prop
 | .lst xs=>xs.length<=sizeLine/\∃ (its:List Value) (n:Nat),Vals xs its/\h.get? a=some { cls:= .type "list",data:= .seq its.toArray n }
 | .tup xs=>xs.length<=sizeLine/\∃ its:List Value,Vals xs its/\IsTup h a its.toArray
 | .dK kvs=>kvs.length<=sizeLine/\(a==sysModules)=false/\∃ vs,KV kvs vs/\h.DictOf (qp P w) a vs
 | .dT kvs=>kvs.length<=sizeLine/\(a==sysModules)=false/\∃ xs:List (List j4×Addr×Value),
   Paired (λ(p:List j4×V) (q:List j4×Addr×Value)=>p.1=q.1/\H q.2.1=some (.tup (p.1.map kV))/\RelV p.2 q.2.2) kvs xs /\
   ∃ o es ep,h.get? a=some o/\o.ExactDict/\o.data = .dict es ep/\es.toList=xs.map (entryOfKey (tupleKind (qp P w)))/\(xs.map (·.1)).Nodup
 | .set S n=>h.SetOf (intKind P w) a S n
 | .ins C dx fs=>H dx=some (.own a)/\fs.length<=1000/\dx≠a/\h.get? a=some (PySem.W.instObj C dx) /\
   ∃ mA,h.Ns1 dx mA/\(∀ f,RelO (fs.lookup f) (mA f))/\PySem.Within mA (fs.map (·.1))
 | .own _=>∃ o,h.get? a=some o
 | .xd fs=>∃ mA,h.Ns1 a mA/\∀ f,RelO (fs.lookup f) (mA f)
 | .rng lo hi=>∃ t u v,h.get? a=some { cls:= .type "range",data:= .fields #[.int lo t,.int hi u,.int 1 v] }
 | .frz o u=>h.get? a=some o/\ObjOk H h a u
 | .tbl ps q=>∃ more:Array Value,h.get? a=some { cls:= .none,data:= .fields (ps++more) }/\TriplesOk (ps++more).toList /\
   ∀ p∈q,codeAmong p.1 (ps++more).toList=none∨∃ c o vs t,codeAmong p.1 (ps++more).toList=some (.ref c)/\H c=some (.frz o (.own a))/\o.data = .fields vs/\vs[1]?=some (.str p.2 t)
 | .met f x=>h.get? a=some (PySem.W.methodObj (.ref f) (.ref x))
 | .ext φ=>φ h/\(∃ o,h.get? a=some o)/\∀ h1 h2:Heap,φ h1->(∀ o,h1.get? a=some o->h2.get? a=some o)->φ h2
def HOk (H:Hp)(h:Heap):Prop:=∀ a o,H a=some o->ObjOk P w H h a o
end
section
variable {P:Program}{w:World}{H H':Hp}{h h':Heap}{a:Addr}{o:HO}
theorem ObjOk.lt (x:ObjOk P w H h a o):a<h.objs.size:=by
 cases o with
 |lst xs=>obtain ⟨_,_,_,_,e⟩:=x;exact yQ e
 |tup xs=>obtain ⟨_,_,_,p⟩:=x;exact p.lt
 |dK kvs=>obtain ⟨_,_,_,_,o,_,_,e,_⟩:=x;exact yQ e
 |dT kvs=>obtain ⟨_,_,_,_,o,_,_,e,_⟩:=x;exact yQ e
 |set S n=>obtain ⟨o,_,_,_,e,_⟩:=x;exact yQ e
 |ins C dx fs=>obtain ⟨_,_,_,e,_⟩:=x;exact yQ e
 |own y=>obtain ⟨_,e⟩:=x;exact yQ e
 |xd fs=>obtain ⟨_,⟨_,_,_,e,_⟩,_⟩:=x;exact yQ e
 |rng lo hi=>obtain ⟨_,_,_,e⟩:=x;exact yQ e
 |frz ob u=>obtain ⟨e,_⟩:=x;exact yQ e
 |tbl ps q=>obtain ⟨_,e,_⟩:=x;exact yQ e
 |met f y=>exact yQ (show h.get? a=some _ from x)
 |ext φ=>obtain ⟨_,⟨_,e⟩,_⟩:=x;exact yQ e
theorem Paired.mapP {α β:Type}{F G:α->β->Prop}:∀{l₁:List α}{l₂:List β},Paired F l₁ l₂->(∀ a b,F a b->G a b)->Paired G l₁ l₂
 |_,_,.nil,_=> .nil
 |_,_,.cons r t,f=> .cons (f _ _ r) (Paired.mapP t f)
theorem ObjOk.stay (x:ObjOk P w H h a o)(k:∀ b u,(b=a∨H b=some (.own a))->h.get? b=some u->h'.get? b=some u)(ho:∀ b,H b=some (.own a)->H' b=some (.own a))(ht:∀ b xs,H b=some (.tup xs)->H' b=some (.tup xs))(hz:∀ b o u,H b=some (.frz o u)->H' b=some (.frz o u)):ObjOk P w H' h' a o:=by
 induction o with
 |lst xs=>obtain ⟨z,its,n,r,e⟩:=x;exact ⟨z,its,n,r,k _ _ (.inl rfl) e⟩
 |tup xs=>obtain ⟨z,its,r,ob,e,c⟩:=x;exact ⟨z,its,r,ob,k _ _ (.inl rfl) e,c⟩
 |dK kvs=>obtain ⟨z,y,vs,r,ob,es,ep,e,c⟩:=x;exact ⟨z,y,vs,r,ob,es,ep,k _ _ (.inl rfl) e,c⟩
 |dT kvs=>obtain ⟨z,y,xs,r,ob,es,ep,e,c⟩:=x;exact ⟨z,y,xs,Paired.mapP r λp q z=>⟨z.1,ht _ _ z.2.1,z.2.2⟩,ob,es,ep,k _ _ (.inl rfl) e,c⟩
 |set S n=>obtain ⟨ob,es,ep,t,e,c⟩:=x;exact ⟨ob,es,ep,t,k _ _ (.inl rfl) e,c⟩
 |ins C dx fs=>obtain ⟨d,z,ne,e,mA,⟨od,es,ep,e2,c⟩,r⟩:=x;exact ⟨ho _ d,z,ne,k _ _ (.inl rfl) e,mA,⟨od,es,ep,k _ _ (.inr d) e2,c⟩,r⟩
 |own y=>obtain ⟨ob,e⟩:=x;exact ⟨ob,k _ _ (.inl rfl) e⟩
 |xd fs=>obtain ⟨mA,⟨od,es,ep,e,c⟩,r⟩:=x;exact ⟨mA,⟨od,es,ep,k _ _ (.inl rfl) e,c⟩,r⟩
 |rng lo hi=>obtain ⟨t,u,v,e⟩:=x;exact ⟨t,u,v,k _ _ (.inl rfl) e⟩
 |frz ob u ih=>obtain ⟨e,q⟩:=x;exact ⟨k _ _ (.inl rfl) e,ih q⟩
 |tbl ps q =>
  obtain ⟨more,e,t,r⟩:=x;refine ⟨more,k a _ (.inl rfl) e,t,λp hp=>?_⟩;rcases r p hp with z|⟨c,o,vs,t,z,oc,e2⟩
  ·exact .inl z
  ·exact .inr ⟨c,o,vs,t,z,hz c o _ oc,e2⟩
 |met f y=>have e:h.get? a=some (PySem.W.methodObj (.ref f) (.ref y)):=x;show h'.get? a=some (PySem.W.methodObj (.ref f) (.ref y));exact k a _ (.inl rfl) e
 |ext φ=>obtain ⟨p,⟨o,e⟩,st⟩:=x;exact ⟨st _ _ p λo q=>k _ _ (.inl rfl) q,⟨o,k _ _ (.inl rfl) e⟩,st⟩
theorem HOk.lt (x:HOk P w H h)(e:H a=some o):a<h.objs.size:=(x a o e).lt
theorem HOk.fresh (x:HOk P w H h)(e:h.objs.size<=a):H a=none:=by
 cases q:H a with
 |none=>rfl
 |some u=>exact absurd (yE (x.lt q) e) (uF _)
theorem HOk.kept (x:HOk P w H h)(k:∀ b u,h.get? b=some u->h'.get? b=some u):HOk P w H h':=λa o e =>
 (x a o e).stay (λb u _ q=>k b u q) (λ_ q=>q) (λ_ _ q=>q) λ_ _ _ q=>q
theorem HOk.laid (x:HOk P w H h)(k:∀ b u,h.get? b=some u->h'.get? b=some u)(hp:h.objs.size<=a)(new:ObjOk P w (v9 H a o) h' a o):HOk P w (v9 H a o) h':=λb u e=>by
 have hn:=x.fresh hp;by_cases hb:b=a
 ·subst hb;rw [g0] at e;cases e;exact new
 ·rw [j9 hb] at e;exact (x b u e).stay (λc v _ q=>k c v q) (λc q=>by rw [j9 (g8 q hn)];exact q) (λc xs q=>by rw [j9 (g8 q hn)];exact q) λc _ _ q=>by rw [j9 (g8 q hn)];exact q
end
def Rd (H:Hp)(a:Addr)(u:HO):Prop:=H a=some u∨∃ o,H a=some (.frz o u)
theorem Rd.ok {u:HO}(r:Rd H a u)(x:HOk P w H h):ObjOk P w H h a u:=by
 rcases r with r|⟨o,r⟩
 ·exact x a u r
 ·obtain ⟨_,q⟩:=x a _ r;exact q
def Mut:Option HO->Prop
 |some (.lst _)=>True
 |some (.dK _)=>True
 |some (.dT _)=>True
 |some (.set _ _)=>True
 |some (.ins _ _ _)=>True
 |some (.ext _)=>True
 |_=>False
section
variable {P:Program}{w:World}{H:Hp}{h h':Heap}{x e:Addr}{o':HO}
theorem HOk.write (ok:HOk P w H h)(mu:Mut (H x))(he:e=x∨H e=some (.own x))(k:∀ b u,b≠e->h.get? b=some u->h'.get? b=some u)(heo:∃ u,h'.get? e=some u)(new:ObjOk P w (v9 H x o') h' x o'):HOk P w (v9 H x o') h':=λb u q=>by
 have nown:∀ c y,H c=some (.own y)->c≠x:=λc y r z=>by subst z;rw [r] at mu;exact mu
 have ntup:∀ c xs,H c=some (.tup xs)->c≠x:=λc xs r z=>by subst z;rw [r] at mu;exact mu
 have nfrz:∀ c ob xs,H c=some (.frz ob xs)->c≠x:=λc ob xs r z=>by subst z;rw [r] at mu;exact mu
 by_cases hb:b=x
 ·subst hb;rw [g0] at q;cases q;exact new
 ·rw [j9 hb] at q;by_cases hbe:b=e
  ·have q':H b=some (.own x):=by
    rcases he with z|z
    ·exact absurd (hbe.trans z) hb
    ·rw [hbe];exact z
   rw [q] at q';cases q';obtain ⟨v,hv⟩:=heo;exact ⟨v,by rw [hbe];exact hv⟩
  ·refine (ok b u q).stay (λc v hc r=>k c v ?_ r) (λc r=>by rw [j9 (nown c b r)];exact r) (λc xs r=>by rw [j9 (ntup c xs r)];exact r) λc ob xs r=>by rw [j9 (nfrz c ob xs r)];exact r
   rcases hc with rfl|hc
   ·exact hbe
   ·rintro rfl;rcases he with z|z
    ·exact nown c b hc z
    ·rw [hc] at z;cases z;exact hb rfl
end
structure Un (fs ex:List Addr)(H H':Hp)(h h':Heap):Prop where
 keep:∀ b o,h.get? b=some o->H b=none->b∉fs->b∉ex->h'.get? b=some o
 slot:∀ b o,h.get? b=some o->H b=none->b∈fs->b∉ex->∃ sl,h'.get? b=some { o with slots:=sl }
 free:∀ b o,h.get? b=some o->H b=none->b∉ex->H' b=none
 there:∀ b o,h.get? b=some o->b∉ex->∃ o',h'.get? b=some o'
 tups:∀ b xs,H b=some (.tup xs)->H' b=some (.tup xs)
 frzs:∀ b o u,H b=some (.frz o u)->H' b=some (.frz o u)
 tbls:∀ b ps q,H b=some (.tbl ps q)->H' b=some (.tbl ps q)
section
variable {fs fs' ex ex':List Addr}{H H1 H2:Hp}{h h1 h2 h':Heap}{a x e:Addr}{o:HO}
theorem Un.any (u:Un fs ex H H1 h h1){ob:Obj}(q:h.get? b=some ob)(n:H b=none)(hx:b∉ex):∃ sl,h1.get? b=some { ob with slots:=sl }:=by
 by_cases hb:b∈fs
 ·exact u.slot b ob q n hb hx
 ·exact ⟨ob.slots,u.keep b ob q n hb hx⟩
theorem Un.kept (k:∀ b u,h.get? b=some u->h'.get? b=some u):Un fs ex H H h h' :=
 ⟨λb ob q _ _ _=>k b ob q,λb ob q _ _ _=>⟨ob.slots,k b ob q⟩,λ_ _ _ n _=>n,λb ob q _=>⟨ob,k b ob q⟩,λ_ _ q=>q,λ_ _ _ q=>q,λ_ _ _ q=>q⟩
theorem Un.refl:Un fs ex H H h h:=Un.kept λ_ _ q=>q
theorem Un.laid (k:∀ b u,h.get? b=some u->h'.get? b=some u)(hp:h.objs.size<=a)(hn:H a=none):Un fs ex H (v9 H a o) h h' where
 keep:=λb u q _ _ _=>k b u q
 slot:=λb u q _ _ _=>⟨u.slots,k b u q⟩
 free:=λb u q n _=>by rw [j9 (yL (yE (yQ q) hp))];exact n
 there:=λb u q _=>⟨u,k b u q⟩
 tups:=λb xs q=>by rw [j9 (g8 q hn)];exact q
 frzs:=λb u xs q=>by rw [j9 (g8 q hn)];exact q
 tbls:=λb ps z q=>by rw [j9 (g8 q hn)];exact q
theorem Un.write (mu:Mut (H x))(he:e=x∨H e=some (.own x))(k:∀ b u,b≠e->h.get? b=some u->h'.get? b=some u)(heo:∃ u,h'.get? e=some u):Un fs ex H (v9 H x o) h h':=by
 have hx:∀ b,H b=none->b≠x:=λb n z=>by subst z;rw [n] at mu;exact mu
 have hb:∀ b,H b=none->b≠e:=λb n z=>by
  subst z;rcases he with r|r
  ·exact hx b n r
  ·rw [n] at r;cases r
 have hm:∀ b u,H b=some u->¬ Mut (some u)->b≠x:=λb u q nm z=>by subst z;rw [q] at mu;exact nm mu
 refine ⟨λb u q n _ _=>k b u (hb b n) q,λb u q n _ _=>⟨u.slots,k b u (hb b n) q⟩,λb u q n _=>by rw [j9 (hx b n)];exact n,λb u q _=>?_,
  λb xs q=>by rw [j9 (hm b _ q λz=>z)];exact q,λb u xs q=>by rw [j9 (hm b _ q λz=>z)];exact q,λb ps r q=>by rw [j9 (hm b _ q λz=>z)];exact q⟩
 by_cases hbe:b=e
 ·subst hbe;exact heo
 ·exact ⟨u,k b u hbe q⟩
end
def trk (h:Heap)(H:Hp):List Addr:=(List.range h.objs.size).filter λa=>(H a).isSome
def jp (h:Heap)(H:Hp):Heap:=PySem.W.hideAll h (trk h H)
theorem MR (h:Heap)(H:Hp):(jp h H).objs.size=h.objs.size:=PySem.W.hideAll_size _ _
theorem MQ {o:Obj}(e:h.get? b=some o)(n:H b=none):(jp h H).get? b=some o :=
 PySem.W.hideAll_get _ e λhm=>by
  have q:(H b).isSome=true:=(yj.mp hm).2;rw [n] at q;simp at q
theorem Nw {o:Obj}(e:(jp h H).get? b=some o):h.get? b=some o/\H b=none:=by
 have e':h.get? b=some o:=PySem.W.of_hideAll (trk h H) e;refine ⟨e',?_⟩;cases q:H b with
 |none=>rfl
 |some x=>have hm:b∈trk h H:=yj.mpr ⟨yu.mpr (yQ e'),by simp [q]⟩;have z:(jp h H).get? b=none:=PySem.W.hideAll_none (trk h H) hm;rw [z] at e;cases e
structure Mod (K:Fg)(mg:Str->Option Value)(base:Heap):Prop where
 kin:K.In base
 glob:base.Ns mainGlobals mg
 blt:∃ mb,base.Ns builtinsNs mb/\∀ x:Str,x ≠ "__name__"->mb x=bootBuiltins x
 nolimit:base.NoLimit
 bmn:∃ bm ob,mg "__builtins__"=some (.ref bm)/\bm≠builtinsNs/\base.get? bm=some ob/\ob.cls = .type "module"/\ob.dict=some builtinsNs/\ob.data = .plain
structure Cx where
 prog:Program
 w:World
 K:Fg
 mg:Str->Option Value
 base:Heap
 A:Around
 N:List Str
 s₀:Shared
 H₀:Hp
 env:Env
 outer:List Env
 stack:List Env
 ex:List Addr
 fn:Str->Bool
 calm:Bool
 pn:List (Addr×Obj)
 xe:Value->Shared->Prop
variable{X:Cx}
def frs (l:List Env):List Addr:=l.filterMap (·.frame)
abbrev Cx.fs (X:Cx):List Addr:=frs X.outer
def Vis (sc:Scope)(x:Str):Prop:=sc.names.lookup x=some .local∨sc.names.lookup x=some .cell∨sc.names.lookup x=some .free
def Loc (sc:Scope)(x:Str):Prop:=sc.names.lookup x=some .local∨sc.names.lookup x=some .cell
def Look (env:Env)(h:Heap)(m:Str->Option Value)(x:Str)(u:Value):Prop :=
 (env.kindOf x=some .local/\m x=some u)∨((env.kindOf x=some .cell∨env.kindOf x=some .free)/\∃ c,env.cells.lookup x=some c/\h.IsCell c (some u))
structure Cx.Ok (X:Cx):Prop where
 mod:Mod X.K X.mg X.base
 kind:X.env.scope.kind = .function
 glob:X.env.globals=mainGlobals
 blt:X.env.builtins=builtinsNs
 above:X.s₀.heap.objs.size<=X.env.locals
 inj:∀ x y c,X.env.cells.lookup x=some c->X.env.cells.lookup y=some c->x=y
 has:∀ x,(X.env.kindOf x=some .cell∨X.env.kindOf x=some .free)->∃ c,X.env.cells.lookup x=some c
 cab:∀ x c,X.fn x=true->X.env.cells.lookup x=some c->X.s₀.heap.objs.size<=c
 hd:X.calm=true->X.A.handled=none
 frames:X.A.frames=some X.stack
 stk:X.stack=X.outer∨(X.stack=X.env::X.outer/\X.env.frame=some X.env.locals)
 exf:∀ b∈X.ex,b≠X.env.locals/\∀ x c,X.env.cells.lookup x=some c->c≠b
 bs:∀ b o,X.base.get? b=some o->X.s₀.heap.get? b=some o/\X.H₀ b=none
 bsz:X.base.objs.size<=X.s₀.heap.objs.size
 noex:∀ b o,X.base.get? b=some o->b∉X.ex
 exfs:∀ b∈X.ex,b∉X.fs
 funs:X.s₀.heap.FunFrames X.base X.outer
 frf:∀ b∈X.fs,X.H₀ b=none
 tbs:∀ p∈TABS,X.H₀ p.1=some (.tbl p.2.1 p.2.2)
structure Inv (X:Cx)(pins:List (Addr×Obj))(σ:List (Option V))(H:Hp)(s:Shared):Prop where
 ok:X.Ok
 os:s.os=X.s₀.os
 bare:AllBare s.gens
 base:Un X.fs X.ex X.H₀ H X.s₀.heap s.heap
 loc:∃ m,s.heap.Ns X.env.locals m/\∀(i:Nat)(x:Str)(v:V),X.N[i]?=some x->σ[i]?=some (some v)->Vis X.env.scope x->∃ u,RelV v u/\Look X.env s.heap m x u
 cell:∀ x c,X.env.cells.lookup x=some c->∃ v,s.heap.IsCell c v
 free:H X.env.locals=none
 freeC:∀ x c,X.env.cells.lookup x=some c->H c=none
 pin:∀ p∈X.pn++pins,s.heap.get? p.1=some p.2/\H p.1=none/\p.1≠X.env.locals/\p.1∉X.fs/\∀ v,p.2.data ≠ .cell v
 hok:HOk X.prog X.w H s.heap
 len:σ.length=X.N.length
section
variable {X:Cx}{pins:List (Addr×Obj)}{σ:List (Option V)}{H H':Hp}{s:Shared}{h':Heap}
theorem Cx.Ok.nofr (ok:X.Ok){o:Obj}(e:X.base.get? b=some o):b∉X.fs:=λhb=>by
 have:=(ok.funs.mem hb).1;rw [e] at this;cases this
theorem Inv.bs (I:Inv X pins σ H s):∀ b o,X.base.get? b=some o->s.heap.get? b=some o/\H b=none:=λb o e =>
 ⟨I.base.keep b o (I.ok.bs b o e).1 (I.ok.bs b o e).2 (I.ok.nofr e) (I.ok.noex b o e),I.base.free b o (I.ok.bs b o e).1 (I.ok.bs b o e).2 (I.ok.noex b o e)⟩
theorem Inv.bk (I:Inv X pins σ H s):∀ b o,X.base.get? b=some o->s.heap.get? b=some o:=λb o e=>(I.bs b o e).1
theorem Inv.mod (I:Inv X pins σ H s):Mod X.K X.mg X.base:=I.ok.mod
theorem Inv.kIn (I:Inv X pins σ H s):X.K.In s.heap:=I.ok.mod.kin.keeps I.bk
theorem Inv.fr (I:Inv X pins σ H s):∃ m,Fr X.base X.env.locals s.heap m :=
 let ⟨m,hn,_⟩:=I.loc
 ⟨m,hn,I.bk,ym I.ok.bsz I.ok.above⟩
theorem Inv.lt (I:Inv X pins σ H s):X.env.locals<s.heap.objs.size:=let ⟨_,hn,_⟩:=I.loc;hn.lt
theorem Inv.sz (I:Inv X pins σ H s):X.s₀.heap.objs.size<=s.heap.objs.size:=ym I.ok.above (uJ I.lt)
theorem Inv.nofs (I:Inv X pins σ H s)(h:s.heap.objs.size<=a):a∉X.fs:=λhb=>by
 obtain ⟨_,o,ho,_⟩:=I.ok.funs.mem hb;exact absurd (yE (yQ ho) (ym I.sz h)) (uF _)
theorem Inv.cne (I:Inv X pins σ H s):∀ x c,X.env.cells.lookup x=some c->c≠X.env.locals:=λx c e z=>by
 obtain ⟨v,o,ho,hd⟩:=I.cell x c e;obtain ⟨m,⟨o',es,ep,ho',hd',_⟩,_⟩:=I.loc;rw [z,ho'] at ho;cases ho;rw [hd'] at hd;cases hd
theorem Inv.funs (I:Inv X pins σ H s):s.heap.FunFrames X.base X.outer:=by
 have all:∀(l:List Env),(∀ b∈frs l,b∈X.fs)->X.s₀.heap.FunFrames X.base l->s.heap.FunFrames X.base l:=by
  intro l
  induction l with
  |nil=>intro _ _;trivial
  |cons env r ih=>intro hs hl;obtain ⟨hk,⟨L,o,hf,hn,ho,hd⟩,hr⟩:=hl;have hL:L∈X.fs:=hs L (by unfold frs;rw [List.filterMap_cons,hf];exact yU);obtain ⟨sl,e⟩:=I.base.slot L o ho (I.ok.frf L hL) hL λz=>I.ok.exfs L z hL;exact ⟨hk,⟨L,_,hf,hn,e,hd⟩,ih (λb hb=>hs b (by unfold frs;rw [List.filterMap_cons,hf];exact yW _ hb)) hr⟩
 exact all X.outer (λ_ hb=>hb) I.ok.funs
theorem Inv.stack (I:Inv X pins σ H s):s.heap.FunFrames X.base X.stack:=by
 rcases I.ok.stk with e|⟨e,hf⟩
 ·rw [e];exact I.funs
 ·rw [e];obtain ⟨m,hn,_⟩:=I.loc;refine .cons (by rw [I.ok.kind];decide) hf hn ?_ I.funs;exact ur (ym I.ok.bsz I.ok.above)
theorem Inv.stkSub (I:Inv X pins σ H s):∀ b∈frs X.stack,b∈X.env.locals::X.fs:=λb hb=>by
 rcases I.ok.stk with e|⟨e,hf⟩
 ·rw [e] at hb;exact yW _ hb
 ·rw [e] at hb;unfold frs at hb;rw [List.filterMap_cons,hf] at hb;exact hb
theorem Inv.stkFree (I:Inv X pins σ H s):∀ b∈frs X.stack,H b=none:=λb hb=>by
 rcases yH.mp (I.stkSub b hb) with e|hb
 ·rw [e];exact I.free
 ·obtain ⟨_,o,ho,_⟩:=I.ok.funs.mem hb;exact I.base.free b o ho (I.ok.frf b hb) λz=>I.ok.exfs b z hb
theorem Inv.step (I:Inv X pins σ H s)(hch:∀ b∈ch,(b∈X.ex∨X.s₀.heap.objs.size<=b)/\b≠X.env.locals/\(∀ x c,X.env.cells.lookup x=some c->c≠b)/\∀ p∈X.pn++pins,p.1≠b)(keep:∀ b o,b≠X.env.locals->b∉X.fs->b∉ch->s.heap.get? b=some o->H b=none->h'.get? b=some o)(slot:∀ b o,b≠X.env.locals->b∈X.fs->b∉ch->s.heap.get? b=some o->H b=none->∃ sl,h'.get? b=some { o with slots:=sl })(free:∀ b o,b∉ch->s.heap.get? b=some o->H b=none->H' b=none)(there:∀ b o,b∉ch->s.heap.get? b=some o->∃ o',h'.get? b=some o')(tups:∀ b xs,H b=some (.tup xs)->H' b=some (.tup xs))(frzs:∀ b o u,H b=some (.frz o u)->H' b=some (.frz o u))(tbls:∀ b ps q,H b=some (.tbl ps q)->H' b=some (.tbl ps q))(ns:∀ m,s.heap.Ns X.env.locals m->h'.Ns X.env.locals m)(hok:HOk X.prog X.w H' h')(hg:AllBare g'):Inv X pins σ H' { s with heap:=h',gens:=g',drawn:=d',toks:=t' }:=by
 have neL:∀ b o,X.s₀.heap.get? b=some o->b≠X.env.locals:=λb o e=>yL (yE (yQ e) I.ok.above);have neC:∀ b o,X.s₀.heap.get? b=some o->b∉X.ex->b∉ch:=λb o e hx hb=>by
  rcases (hch b hb).1 with z|z
  ·exact hx z
  ·exact absurd (yE (yQ e) z) (uF _)
 have cellK:∀ x c,X.env.cells.lookup x=some c->∀ v,s.heap.IsCell c v->h'.IsCell c v:=λx c e v ⟨o,ho,hd⟩=>by
  have nch:c∉ch:=λz=>(hch c z).2.2.1 x c e rfl;by_cases hc:c∈X.fs
  ·obtain ⟨sl,q⟩:=slot c o (I.cne x c e) hc nch ho (I.freeC x c e);exact ⟨_,q,hd⟩
  ·exact ⟨o,keep c o (I.cne x c e) hc nch ho (I.freeC x c e),hd⟩
 refine ⟨I.ok,I.os,hg,⟨λb o e n hb hx=>?_,λb o e n hb hx=>?_,λb o e n hx=>?_,λb o e hx=>?_,λb xs e=>tups b xs (I.base.tups b xs e),λb o xs e=>frzs b o xs (I.base.frzs b o xs e),λb ps q e=>tbls b ps q (I.base.tbls b ps q e)⟩,?_,λx c e=>?_,?_,λx c e=>?_,λp hp=>?_,hok,I.len⟩
 ·exact keep b o (neL b o e) hb (neC b o e hx) (I.base.keep b o e n hb hx) (I.base.free b o e n hx)
 ·obtain ⟨sl,e1⟩:=I.base.slot b o e n hb hx;obtain ⟨sl',e2⟩:=slot b _ (neL b o e) hb (neC b o e hx) e1 (I.base.free b o e n hx);exact ⟨sl',e2⟩
 ·obtain ⟨o',e1⟩:=I.base.there b o e hx;exact free b o' (neC b o e hx) e1 (I.base.free b o e n hx)
 ·obtain ⟨o',e1⟩:=I.base.there b o e hx;exact there b o' (neC b o e hx) e1
 ·obtain ⟨m,hn,hl⟩:=I.loc;refine ⟨m,ns m hn,λi x v e1 e2 e3=>?_⟩;obtain ⟨u,r,l⟩:=hl i x v e1 e2 e3;refine ⟨u,r,?_⟩;rcases l with l|⟨k,c,e,z⟩
  ·exact .inl l
  ·exact .inr ⟨k,c,e,cellK x c e _ z⟩
 ·obtain ⟨v,z⟩:=I.cell x c e;exact ⟨v,cellK x c e v z⟩
 ·obtain ⟨m,⟨o,_,_,ho,_⟩,_⟩:=I.loc;exact free _ o (λz=>(hch _ z).2.1 rfl) ho I.free
 ·obtain ⟨v,o,ho,hd⟩:=I.cell x c e;exact free c o (λz=>(hch c z).2.2.1 x c e rfl) ho (I.freeC x c e)
 ·obtain ⟨e,n,ne,nf,d⟩:=I.pin p hp;have nch:p.1∉ch:=λz=>(hch p.1 z).2.2.2 p hp rfl;exact ⟨keep p.1 p.2 ne nf nch e n,free p.1 p.2 nch e n,ne,nf,d⟩
theorem Inv.un (I:Inv X pins σ H s)(u:Un X.fs [] H H' s.heap h')(hok:HOk X.prog X.w H' h'):Inv X pins σ H' { s with heap:=h',toks:=t' }:=by
 obtain ⟨m,⟨o,es,ep,ho,r⟩,_⟩:=id I.loc;obtain ⟨sl,hL⟩:=u.any ho I.free (by simp);exact I.step (g':=s.gens) (d':=s.drawn) (ch:=[]) (λ_ z=>nomatch z) (λb o _ hb _ e n=>u.keep b o e n hb (by simp)) (λb o _ hb _ e n=>u.slot b o e n hb (by simp)) (λb o _ e n=>u.free b o e n (by simp)) (λb o _ e=>u.there b o e (by simp)) u.tups u.frzs u.tbls (λm' hm=>by
  obtain ⟨o',es',ep',ho',r'⟩:=hm;rw [ho] at ho';cases ho';exact ⟨_,es',ep',hL,r'⟩) hok I.bare
theorem Inv.call (I:Inv X pins σ H s)(u:Un (frs X.stack) ch H H' s.heap h')(hok:HOk X.prog X.w H' h')(hg:AllBare g')(hch:∀ b∈ch,(b∈X.ex∨X.s₀.heap.objs.size<=b)/\b≠X.env.locals/\(∀ x c,X.env.cells.lookup x=some c->c≠b)/\∀ p∈X.pn++pins,p.1≠b):Inv X pins σ H' { s with heap:=h',gens:=g',drawn:=d',toks:=t' }:=by
 obtain ⟨m,⟨o,es,ep,ho,r⟩,_⟩:=id I.loc;obtain ⟨sl,hL⟩:=u.any ho I.free λz=>(hch _ z).2.1 rfl;exact I.step (ch:=ch) hch (λb o hL hb hc e n=>u.keep b o e n (λz=>(yH.mp (I.stkSub b z)).elim hL hb) hc) (λb o _ _ hc e n=>u.any e n hc) (λb o hc e n=>u.free b o e n hc) (λb o hc e=>u.there b o e hc) u.tups u.frzs u.tbls (λm' hm=>by
  obtain ⟨o',es',ep',ho',r'⟩:=hm;rw [ho] at ho';cases ho';exact ⟨_,es',ep',hL,r'⟩) hok hg
theorem Inv.turned (I:Inv X pins σ H s)(k:∀ b o,b≠it->s.heap.get? b=some o->h'.get? b=some o)(hn:H it=none)(hL:it≠X.env.locals)(h1:it∈X.ex∨X.s₀.heap.objs.size<=it)(h2:∀ x c,X.env.cells.lookup x=some c->c≠it)(h3:∀ p∈X.pn++pins,p.1≠it):Inv X pins σ H { s with heap:=h',toks:=t' }:=by
 have nit:∀ b u,H b=some u->b≠it:=λb u e z=>by rw [z,hn] at e;cases e
 refine I.step (g':=s.gens) (d':=s.drawn) (ch:=[it]) (λb hb=>?_) (λb o _ _ hc e _=>k b o (λz=>hc (by simp [z])) e) (λb o _ _ hc e _=>⟨o.slots,k b o (λz=>hc (by simp [z])) e⟩) (λ_ _ _ _ n=>n)
  (λb o hc e=>⟨o,k b o (λz=>hc (by simp [z])) e⟩) (λ_ _ e=>e) (λ_ _ _ e=>e) (λ_ _ _ e=>e) (λm hm=>?_) (λb u e=>?_) I.bare
 ·have e:b=it:=by simpa using hb
  subst e;exact ⟨h1,hL,h2,h3⟩
 ·obtain ⟨o,es,ep,ho,r⟩:=hm;exact ⟨o,es,ep,k _ o (Ne.symm hL) ho,r⟩
 ·refine (I.hok b u e).stay (λc v hc q=>k c v ?_ q) (λ_ q=>q) (λ_ _ q=>q) λ_ _ _ q=>q;rcases hc with z|z
  ·rw [z];exact nit b u e
  ·exact nit c _ z
theorem Inv.tok (I:Inv X pins σ H s)(t:Nat):Inv X pins σ H { s with toks:=t }:=I.un (h':=s.heap) (t':=t) Un.refl I.hok
theorem Inv.kept (I:Inv X pins σ H s)(k:∀ b u,s.heap.get? b=some u->h'.get? b=some u):Inv X pins σ H { s with heap:=h',toks:=t' }:=I.un (Un.kept k) (I.hok.kept k)
theorem Inv.laid (I:Inv X pins σ H s)(k:∀ b u,s.heap.get? b=some u->h'.get? b=some u)(hp:s.heap.objs.size<=a)(new:ObjOk X.prog X.w (v9 H a o) h' a o):Inv X pins σ (v9 H a o) { s with heap:=h',toks:=t' }:=I.un (Un.laid k hp (I.hok.fresh hp)) (I.hok.laid k hp new)
theorem Inv.write {x e:Addr}(I:Inv X pins σ H s)(mu:Mut (H x))(he:e=x∨H e=some (.own x))(k:∀ b u,b≠e->s.heap.get? b=some u->h'.get? b=some u)(heo:∃ u,h'.get? e=some u)(new:ObjOk X.prog X.w (v9 H x o) h' x o):Inv X pins σ (v9 H x o) { s with heap:=h',toks:=t' }:=I.un (Un.write mu he k heo) (I.hok.write mu he k heo new)
theorem Inv.weak {σ':List (Option V)}(I:Inv X pins σ H s)(hl:σ'.length=σ.length)(w:∀(i:Nat) v,σ'[i]?=some (some v)->σ[i]?=some (some v)):Inv X pins σ' H s :=
 ⟨I.ok,I.os,I.bare,I.base,let ⟨m,hn,hl'⟩:=I.loc;⟨m,hn,λi x v e1 e2 e3=>hl' i x v e1 (w i v e2) e3⟩,I.cell,I.free,I.freeC,I.pin,I.hok,hl.trans I.len⟩
theorem Inv.pins_of {pins':List (Addr×Obj)}(I:Inv X pins σ H s)(h:∀ p∈pins',s.heap.get? p.1=some p.2/\H p.1=none/\p.1≠X.env.locals/\p.1∉X.fs/\∀ v,p.2.data ≠ .cell v):Inv X pins' σ H s :=
 ⟨I.ok,I.os,I.bare,I.base,I.loc,I.cell,I.free,I.freeC,λp hp=>(yc.mp hp).elim (λz=>I.pin p (uQ _ z)) (h p),I.hok,I.len⟩
theorem Bw (hN:N.Nodup){i:Nat}(a:N[i]?=some x)(b:N[j]?=some x):i=j:=by obtain ⟨h1,e1⟩:=yB.mp a;obtain ⟨h2,e2⟩:=yB.mp b;exact (tU hN).mp (e1.trans e2.symm)
theorem Cc {M:Model}{i:Nat}{Q:Unit->Shared->Prop}(I:Inv X pins σ H s)(hN:X.N.Nodup)(hi:X.N[i]?=some x)(hx:Loc X.env.scope x)(r:RelV v u)(h:∀ s',Inv X pins (σ.set i (some v)) H s'->(∃ a,Heap.SameBut a s.heap s'.heap/\(a=X.env.locals∨X.env.cells.lookup x=some a))->Q () s')(hf:X.fn x=true∨X.env.scope.names.lookup x=some .local:=by first|exact .inl rfl|exact .inr rfl|assumption):wpAny M A (storeName X.env x u) Q E s:=by
 obtain ⟨m,hn,hl⟩:=id I.loc;have hcls:(X.env.scope.kind == .class || (X.env.scope.kind == .module&&X.env.locals != X.env.globals))=false:=by rw [I.ok.kind];rfl
 have hiσ:i<σ.length:=by rw [I.len];exact (yB.mp hi).1
 have cne:=I.cne;have tracked:∀{a:Addr}{h':Heap},(∃ o,s.heap.get? a=some o/\H a=none)->Heap.SameBut a s.heap h'->HOk X.prog X.w H h':=λ{a h'} ha hs b ob e=>by
  obtain ⟨_,_,hfree⟩:=ha;refine (I.hok b ob e).stay (λc w' hc q=>(hs.2 c ?_).trans q) (λ_ q=>q) (λ_ _ q=>q) λ_ _ _ q=>q;rintro rfl;rcases hc with rfl|hc
  ·rw [hfree] at e;cases e
  ·rw [hfree] at hc;cases hc
 rcases hx with hk|hk
 ·refine wpAny_storeName_local hk hn (λh' hn' hs=>?_) hcls;obtain ⟨oL,_,_,hoL,_⟩:=id hn;refine h _ ⟨I.ok,I.os,I.bare,⟨λb o e n hb hx=>?_,λb o e n hb hx=>?_,I.base.free,λb o e hx=>?_,I.base.tups,I.base.frzs,I.base.tbls⟩,⟨_,hn',λj y v' e1 e2 e3=>?_⟩,λy c e=>?_,I.free,I.freeC,λp hp=>?_,tracked ⟨oL,hoL,I.free⟩ hs,by simpa using I.len⟩ ⟨_,hs,.inl rfl⟩
  ·exact (hs.2 b (yL (yE (yQ e) I.ok.above))).trans (I.base.keep b o e n hb hx)
  ·obtain ⟨sl,e1⟩:=I.base.slot b o e n hb hx;exact ⟨sl,(hs.2 b (yL (yE (yQ e) I.ok.above))).trans e1⟩
  ·obtain ⟨o',e1⟩:=I.base.there b o e hx;exact ⟨o',(hs.2 b (yL (yE (yQ e) I.ok.above))).trans e1⟩
  ·by_cases hj:j=i
   ·subst hj;rw [hi] at e1;cases e1;rw [uM hiσ] at e2;cases e2;exact ⟨u,r,.inl ⟨hk,by simp⟩⟩
   ·rw [yq (Ne.symm hj)] at e2;obtain ⟨u',r',q⟩:=hl j y v' e1 e2 e3;refine ⟨u',r',?_⟩;rcases q with ⟨k,e⟩|⟨k,c,e,z⟩
    ·refine .inl ⟨k,?_⟩;have:y≠x:=λe=>hj (Bw hN e1 (e▸hi));simp [this,e]
    ·exact .inr ⟨k,c,e,z.sameBut hs (cne y c e)⟩
  ·obtain ⟨w',z⟩:=I.cell y c e;exact ⟨w',z.sameBut hs (cne y c e)⟩
  ·obtain ⟨e,n,ne,nf,d⟩:=I.pin p hp;exact ⟨(hs.2 p.1 ne).trans e,n,ne,nf,d⟩
 ·have hfn:X.fn x=true:=by
   rcases hf with z|z
   ·exact z
   ·rw [z] at hk;cases hk
  obtain ⟨c,hc⟩:=I.ok.has x (.inl hk);obtain ⟨w',z⟩:=I.cell x c hc;refine wpAny_storeName_cell I.ok.kind hk hc z (λh' hc' hs=>?_);obtain ⟨oc,hoc,hocd⟩:=id z;refine h { s with heap:=h' } ⟨I.ok,I.os,I.bare,⟨λb o e n hb hx=>?_,λb o e n hb hx=>?_,I.base.free,λb o e hx=>?_,I.base.tups,I.base.frzs,I.base.tbls⟩,⟨m,hn.sameBut hs (Ne.symm (cne x c hc)),λj y v' e1 e2 e3=>?_⟩,λy c' e=>?_,I.free,I.freeC,λp hp=>?_,tracked ⟨oc,hoc,I.freeC x c hc⟩ hs,by simpa using I.len⟩ ⟨c,hs,.inr hc⟩
  ·exact (hs.2 b (yL (yE (yQ e) (I.ok.cab x c hfn hc)))).trans (I.base.keep b o e n hb hx)
  ·obtain ⟨sl,e1⟩:=I.base.slot b o e n hb hx;exact ⟨sl,(hs.2 b (yL (yE (yQ e) (I.ok.cab x c hfn hc)))).trans e1⟩
  ·obtain ⟨o',e1⟩:=I.base.there b o e hx;exact ⟨o',(hs.2 b (yL (yE (yQ e) (I.ok.cab x c hfn hc)))).trans e1⟩
  ·by_cases hj:j=i
   ·subst hj;rw [hi] at e1;cases e1;rw [uM hiσ] at e2;cases e2;exact ⟨u,r,.inr ⟨.inl hk,c,hc,hc'⟩⟩
   ·rw [yq (Ne.symm hj)] at e2;obtain ⟨u',r',q⟩:=hl j y v' e1 e2 e3;refine ⟨u',r',?_⟩;rcases q with q|⟨k,c',e,z'⟩
    ·exact .inl q
    ·refine .inr ⟨k,c',e,z'.sameBut hs ?_⟩;rintro rfl;exact hj (Bw hN e1 (I.ok.inj _ _ _ e hc▸hi))
  ·by_cases hcc:c'=c
   ·subst hcc;exact ⟨_,hc'⟩
   ·obtain ⟨w2,z2⟩:=I.cell y c' e;exact ⟨w2,z2.sameBut hs hcc⟩
  ·obtain ⟨e,n,ne,nf,d⟩:=I.pin p hp;refine ⟨(hs.2 p.1 ?_).trans e,n,ne,nf,d⟩;intro q;rw [q,hoc] at e;have q':oc=p.2:=Option.some.inj e;exact d w' (by rw [<- q'];exact hocd)
theorem YM {M:Model}{i:Nat}{Q:Unit->Shared->Prop}(I:Inv X pins σ H s)(hN:X.N.Nodup)(hi:X.N[i]?=some x)(hx:Loc X.env.scope x)(r:RelV v u)(h:∀ s',Inv X pins (σ.set i (some v)) H s'->Q () s')(hf:X.fn x=true∨X.env.scope.names.lookup x=some .local:=by first|exact .inl rfl|exact .inr rfl|assumption):wpAny M A (storeName X.env x u) Q E s :=
 Cc I hN hi hx r (λs' I' _=>h s' I') hf
theorem Inv.call' (I:Inv X pins σ H s)(ho:s'.os=s.os)(u:Un (frs X.stack) ch H H' s.heap s'.heap)(hok:HOk X.prog X.w H' s'.heap)(hg:AllBare s'.gens)(hch:∀ b∈ch,(b∈X.ex∨X.s₀.heap.objs.size<=b)/\b≠X.env.locals/\(∀ x c,X.env.cells.lookup x=some c->c≠b)/\∀ p∈X.pn++pins,p.1≠b):Inv X pins σ H' s':=by obtain ⟨h',g',d',t',o'⟩:=s';have e:o'=s.os:=ho;subst e;exact I.call (g':=g') (t':=t') (d':=d') u hok hg hch
end
abbrev XK:=Value->Option Addr->Hp->Prop
abbrev St:=List (Option V)
variable{σ:St}
abbrev VK:=V->Hp->Prop
abbrev TE:=St->Hp->VK->Prop
variable{t te tl:TE}
abbrev TT:=St->Hp->(Bool->Hp->Prop)->Prop
variable{tc:TT}
abbrev TA:=St->Hp->(List V->Hp->Prop)->Prop
structure xQ where
 nx:St->Hp->Prop
 rt:VK
 bk:St->Hp->Prop:=λ_ _=>False
 ct:St->Hp->Prop:=λ_ _=>False
variable{D:xQ}
abbrev TS:=xQ->St->Hp->Prop
variable{tb:TS}
def EP (X:Cx)(pins:List (Addr×Obj))(σ:St)(Q:VK)(u:Value)(s':Shared):Prop:=∃ v H',Inv X pins σ H' s'/\RelV v u/\Q v H'
def TP (X:Cx)(pins:List (Addr×Obj))(σ:St)(Q:Bool->Hp->Prop)(b:Bool)(s':Shared):Prop:=∃ H',Inv X pins σ H' s'/\Q b H'
def AP (X:Cx)(pins:List (Addr×Obj))(σ:St)(Q:List V->Hp->Prop)(us:List Value)(s':Shared):Prop:=∃ vs H',Inv X pins σ H' s'/\Vals vs us/\Q vs H'
def SP (X:Cx)(pins:List (Addr×Obj))(D:xQ)(f:Flow)(s':Shared):Prop :=
 match f with
 | .next=>∃ σ' H',Inv X pins σ' H' s'/\D.nx σ' H'
 | .brk=>∃ σ' H',Inv X pins σ' H' s'/\D.bk σ' H'
 | .cont=>∃ σ' H',Inv X pins σ' H' s'/\D.ct σ' H'
 | .ret u=>∃ v σ' H',Inv X pins σ' H' s'/\RelV v u/\D.rt v H'
def PE (X:Cx)(e:Expr)(t:TE):Prop :=
 ∀(pins:List (Addr×Obj))(s:Shared)(σ:St)(H:Hp)(Q:VK),Inv X pins σ H s->t σ H Q->wpAny (model X.prog X.w) X.A (eval e X.env) (EP X pins σ Q) X.xe s
def PT (X:Cx)(e:Expr)(t:TT):Prop :=
 ∀(pins:List (Addr×Obj))(s:Shared)(σ:St)(H:Hp)(Q:Bool->Hp->Prop),Inv X pins σ H s->t σ H Q->wpAny (model X.prog X.w) X.A (isTrue e X.env (eval e X.env)) (TP X pins σ Q) X.xe s
def PW (X:Cx)(e:Expr)(t:TT):Prop :=
 ∀(whole:Sem Value)(pins:List (Addr×Obj))(s:Shared)(σ:St)(H:Hp)(Q:Bool->Hp->Prop),Inv X pins σ H s->t σ H Q->wpAny (model X.prog X.w) X.A (isTrue e X.env whole) (TP X pins σ Q) X.xe s
theorem PW.pt {t:TT}(h:PW X e t):PT X e t:=h _
def PA (X:Cx)(es:List Expr)(t:TA):Prop :=
 ∀(pos:Pos)(pins:List (Addr×Obj))(s:Shared)(σ:St)(H:Hp)(Q:List V->Hp->Prop),Inv X pins σ H s->t σ H Q->wpAny (model X.prog X.w) X.A (spliced (backTo pos (starEach es X.env))) (AP X pins σ Q) X.xe s
def PS (X:Cx)(st:Stmt)(t:TS):Prop :=
 ∀(pins:List (Addr×Obj))(s:Shared)(σ:St)(H:Hp)(D:xQ),Inv X pins σ H s->t D σ H->wpAny (model X.prog X.w) X.A (exec st X.env) (SP X pins D) X.xe s
def PSs (X:Cx)(st:List Stmt)(t:TS):Prop :=
 ∀(pins:List (Addr×Obj))(s:Shared)(σ:St)(H:Hp)(D:xQ),Inv X pins σ H s->t D σ H->wpAny (model X.prog X.w) X.A (execs st X.env) (SP X pins D) X.xe s
theorem j6 {t:Sem α}{Q Q':α->Shared->Prop}{M:Model}(h:wpAny M A t Q E s)(hQ:∀ a s,Q a s->Q' a s):wpAny M A t Q' E s:=wpAny_mono h hQ λ_ _ x=>x
section
variable {X:Cx}
theorem bin {a b:Expr}{ta tb:TE}(ha:PE X a ta)(hb:PE X b tb)(I:Inv X pins σ H s)(h:ta σ H λx H1=>tb σ H1 λy H2=>R x y H2){Q:α->Shared->Prop}{f:Value->Value->Sem α}(hf:∀ v u s2 x y H2,Inv X pins σ H2 s2->RelV x v->RelV y u->R x y H2->wpAny (model X.prog X.w) X.A (f v u) Q X.xe s2):wpAny (model X.prog X.w) X.A (eval a X.env) (λv s₁=>wpAny (model X.prog X.w) X.A (eval b X.env) (λu s₂=>wpAny (model X.prog X.w) X.A (f v u) Q X.xe s₂) X.xe s₁) X.xe s:=by refine j6 (ha pins s σ H _ I h) λv s1 ⟨x,H1,I1,r1,q1⟩=>?_;refine j6 (hb pins s1 σ H1 _ I1 q1) λu s2 ⟨y,H2,I2,r2,q2⟩=>?_;exact hf v u s2 x y H2 I2 r1 r2 q2
def qG (i:Nat):TE:=λσ H Q=>∃ v,σ[i]?=some (some v)/\Q v H
def tC (v:V):TE:=λ_ H Q=>Q v H
theorem BI {i:Nat}(hN:X.N[i]?=some x)(hv:Vis X.env.scope x)(hd:(x==("__debug__":Str))=false:=by decide)(hcd:(x==("__classdict__":Str))=false:=by decide):PE X (.Name x pos) (qG i):=by
 intro pins s σ H Q I h;obtain ⟨v,e,h⟩:=h;obtain ⟨m,hn,hl⟩:=I.loc;obtain ⟨u,r,l⟩:=hl i x v hN e hv;have fin:EP X pins σ Q u s:=⟨v,H,I,r,h⟩;rcases l with ⟨hk,hm⟩|⟨hk,c,hc,hcell⟩
 ·exact wpAny_Name (wpAny_loadName_local I.ok.kind hk hn hm fin) hd
 ·rcases hk with hk|hk
  ·exact wpAny_Name (wpAny_loadName_cell I.ok.kind hk hc hcell fin) hd
  ·exact wpAny_Name (wpAny_loadName_free I.ok.kind hk hc hcell fin hcd) hd
theorem z0 {i j pos}:PE X (.Constant (.int i) j pos) (tC (.int i)):=λ_ _ _ H _ I h=>wpAny_Constant_int ⟨.int i,H,I.tok _,⟨_,rfl⟩,h⟩
theorem zH {b j pos}:PE X (.Constant (.bool b) j pos) (tC (.bl b)):=λ_ _ _ H _ I h=>Constant_bool ⟨.bl b,H,I,rfl,h⟩
theorem we {j pos}:PE X (.Constant .none j pos) (tC .non):=λ_ _ _ H _ I h=>Constant_none ⟨.non,H,I,rfl,h⟩
theorem xO {x j pos}:PE X (.Constant (.str x) j pos) (tC (.str x)):=λ_ _ _ H _ I h=>Calls.Constant_str ⟨.str x,H,I.tok _,⟨_,rfl⟩,h⟩
def Gl (X:Cx)(x:Str):Prop:=X.env.kindOf x=some .globalImplicit
theorem ZO (I:Inv X pins σ H s)(hg:Gl X x)(hm:X.mg x=some u)(h:Q u s)(hd:(x==("__debug__":Str))=false:=by decide):wpAny (model X.prog X.w) X.A (eval (.Name x pos) X.env) Q E s :=
 Calls.Name_function_global I.ok.kind hg (Calls.loadGlobal_global (by rw [I.ok.glob];exact I.mod.glob.keeps I.bk) hm h) hd
theorem va (I:Inv X pins σ H s)(hg:Gl X x)(hm:X.mg x=none)(hv:bootBuiltins x=some u)(h:Q u s)(hn:x ≠ "__name__":=by decide)(hd:(x==("__debug__":Str))=false:=by decide):wpAny (model X.prog X.w) X.A (eval (.Name x pos) X.env) Q E s:=by obtain ⟨mb,h1,h2⟩:=I.mod.blt;exact Calls.Name_function_global I.ok.kind hg (Calls.loadGlobal_builtin (by rw [I.ok.glob];exact I.mod.glob.keeps I.bk) hm (by rw [I.ok.blt];exact h1.keeps I.bk) ((h2 x hn).trans hv) h) hd
theorem Jl (hg:Gl X x)(hm:X.mg x=some u)(r:RelV v u)(hd:(x==("__debug__":Str))=false:=by decide):PE X (.Name x pos) (tC v) :=
 λ_ _ _ H _ I h=>ZO I hg hm ⟨v,H,I,r,h⟩ hd
theorem vi (hg:Gl X x)(hm:X.mg x=none)(hv:bootBuiltins x=some u)(r:RelV v u)(hn:x ≠ "__name__":=by decide)(hd:(x==("__debug__":Str))=false:=by decide):PE X (.Name x pos) (tC v) :=
 λ_ _ _ H _ I h=>va I hg hm hv ⟨v,H,I,r,h⟩ hn hd
variable {a b:Expr}{ta tb:TE}{pos:Pos}
def PC (X:Cx)(op:CmpOp)(a b:Expr)(t:TE):Prop :=
 ∀(pins:List (Addr×Obj))(s:Shared)(σ:St)(H:Hp)(Q:VK),Inv X pins σ H s->t σ H Q ->
  wpAny (model X.prog X.w) X.A (eval a X.env) (λv s₁=>wpAny (model X.prog X.w) X.A (eval b X.env) (λu s₂=>wpAny (model X.prog X.w) X.A (compareOp op v u) (EP X pins σ Q) X.xe s₂) X.xe s₁) X.xe s
def tB (t:TE):TT:=λσ H Q=>t σ H λx H1=>∃ c,x = .bl c/\Q c H1
theorem BR (h:PC X op a b t)(h1:behindInMarks op b=false:=by first|exact nobehind _ (by decide) (by decide)|rfl):PT X (.Compare a [op] [b] pos) (tB t):=by intro pins s σ H Q I hw;refine wpAny_isTrue_Compare1 (j6 (h pins s σ H _ I hw) λv s1 h1=>j6 h1 λu s2 h2=>j6 h2 λc s3 ⟨x,H1,I1,r1,q1⟩=>?_) h1;obtain ⟨d,rfl,q⟩:=q1;cases r1;exact wpAny_truthy_bool ⟨H1,I1,q⟩
variable {tA tB':TT}{rest:List Expr}
def tAnd (t u:TT):TT:=λσ H Q=>t σ H λc H1=>if c=true then u σ H1 Q else Q false H1
def tOr (t u:TT):TT:=λσ H Q=>t σ H λc H1=>if c=true then Q true H1 else u σ H1 Q
def tNot (t:TT):TT:=λσ H Q=>t σ H λc H1=>Q (!c) H1
theorem Wq (ha:PT X a tA):PW X (.BoolOp .And [a] pos) tA:=by
 intro wh pins s σ H Q I h;refine isTrue_and (j6 (ha pins s σ H Q I h) λc s1 e=>?_);cases c with
 |true=>exact isTrue_and_nil e
 |false=>exact e
theorem QB (ha:PT X a tA):PW X (.BoolOp .Or [a] pos) tA:=by
 intro wh pins s σ H Q I h;refine isTrue_or (j6 (ha pins s σ H Q I h) λc s1 e=>?_);cases c with
 |false=>exact isTrue_or_nil e
 |true=>exact e
theorem Wp (ha:PT X a tA)(hb:PW X (.BoolOp .And (b::rest) pos) tB'):PW X (.BoolOp .And (a::b::rest) pos) (tAnd tA tB'):=by
 intro wh pins s σ H Q I h;refine isTrue_and (j6 (ha pins s σ H _ I h) λc s1 ⟨H1,I1,q1⟩=>?_);cases c with
 |true=>exact hb wh pins s1 σ H1 Q I1 q1
 |false=>exact ⟨H1,I1,q1⟩
theorem vw (ha:PT X a tA)(hb:PW X (.BoolOp .Or (b::rest) pos) tB'):PW X (.BoolOp .Or (a::b::rest) pos) (tOr tA tB'):=by
 intro wh pins s σ H Q I h;refine isTrue_or (j6 (ha pins s σ H _ I h) λc s1 ⟨H1,I1,q1⟩=>?_);cases c with
 |true=>exact ⟨H1,I1,q1⟩
 |false=>exact hb wh pins s1 σ H1 Q I1 q1
theorem xw (ha:PT X a tA):PT X (.UnaryOp .Not a pos) (tNot tA):=by intro pins s σ H Q I h;exact isTrue_not (ha pins s σ H (λc H1=>Q (!c) H1) I h)
def Ch (ta tb:TE):TE:=λσ H Q=>ta σ H λx H1=>∃ c,x = .bl c/\if c=true then tb σ H1 Q else Q (.bl false) H1
def Co (ta:TE):TE:=λσ H Q=>ta σ H λx H1=>∃ c,x = .bl c/\Q (.bl (!c)) H1
theorem XB {op}(h:PE X a t):PE X (.BoolOp op [a] pos) t:=λpins s σ H Q I hw=>BoolOp_one (h pins s σ H Q I hw)
theorem Qx (ha:PE X a ta)(hb:PE X (.BoolOp .And (b::rest) pos) tb):PE X (.BoolOp .And (a::b::rest) pos) (Ch ta tb):=by
 intro pins s σ H Q I h;refine BoolOp_and (j6 (ha pins s σ H _ I h) λv s1 ⟨x,H1,I1,r1,q1⟩=>?_);obtain ⟨c,rfl,q1⟩:=q1;cases r1;refine wpAny_truthy_bool ?_;cases c with
 |true=>exact hb pins s1 σ H1 Q I1 q1
 |false=>exact ⟨.bl false,H1,I1,rfl,q1⟩
theorem Ro (ha:PE X a ta):PE X (.UnaryOp .Not a pos) (Co ta):=by intro pins s σ H Q I h;refine UnaryOp_ (j6 (ha pins s σ H _ I h) λv s1 ⟨x,H1,I1,r1,q1⟩=>?_);obtain ⟨c,rfl,q1⟩:=q1;cases r1;exact not_of (wpAny_truthy_bool ⟨.bl (!c),H1,I1,rfl,q1⟩)
def tIf (t:TT)(ta tb:TE):TE:=λσ H Q=>t σ H λc H1=>if c=true then ta σ H1 Q else tb σ H1 Q
theorem We (hc:PT X c tA)(ha:PE X a ta)(hb:PE X b tb):PE X (.IfExp c a b pos) (tIf tA ta tb):=by
 intro pins s σ H Q I h;refine wpAny_IfExp (j6 (hc pins s σ H _ I h) λd s1 ⟨H1,I1,q1⟩=>?_);cases d with
 |true=>exact ha pins s1 σ H1 Q I1 q1
 |false=>exact hb pins s1 σ H1 Q I1 q1
end
def SqL (K:Fg)(H:Hp)(a:Addr)(xs:List V):Prop :=
 Rd H a (.lst xs) ∨
  ∃ (o:Obj) (its:Array Value) (n:Nat),K.lookup a=some o/\o.cls = .type "list"/\o.dict=none/\o.data = .seq its n/\its.size<=sizeLine/\Vals xs its.toList
def SqT (K:Fg)(H:Hp)(a:Addr)(xs:List V):Prop :=
 Rd H a (.tup xs) ∨
  ∃ (o:Obj) (its:Array Value) (n:Nat),K.lookup a=some o/\o.cls = .type "tuple"/\o.data = .seq its n/\its.size<=sizeLine/\Vals xs its.toList
def absV:Value->Option V
 | .none=>some .non
 | .bool b=>some (.bl b)
 | .int i _=>some (.int i)
 | .str x _=>some (.str x)
 | .bytes b _=>some (.byt b)
 | .float b _=>some (.flt b)
 | .ref a=>some (.ref a)
 | .type n=>some (.ty n)
 |_=>none
theorem RelV.abs {x:V}(r:RelV x u):absV u=some x:=by
 cases x with
 |non=>cases r;rfl
 |bl _=>cases r;rfl
 |int _=>obtain ⟨t,rfl⟩:=r;rfl
 |str _=>obtain ⟨t,rfl⟩:=r;rfl
 |byt _=>obtain ⟨t,rfl⟩:=r;rfl
 |flt _=>obtain ⟨t,rfl⟩:=r;rfl
 |ref _=>cases r;rfl
 |ty _=>cases r;rfl
theorem RelV.inj {x:V}(r:RelV x u)(q:RelV y u):x=y:=Option.some.inj (r.abs.symm.trans q.abs)
theorem Vals.inj:∀{xs ys:List V}{us:List Value},Vals xs us->Vals ys us->xs=ys
 |_,_,_,.nil,.nil=>rfl
 |_,_,_,.cons r t,.cons r' t'=>by rw [r.inj r',Vals.inj t t']
section
variable {X:Cx}{pins:List (Addr×Obj)}{σ:St}{H:Hp}{s:Shared}{a:Addr}{xs ys:List V}
theorem SqL.of (h:H a=some (.lst xs)):SqL K H a xs:= .inl (.inl h)
theorem SqT.of (h:H a=some (.tup xs)):SqT K H a xs:= .inl (.inl h)
theorem Inv.list (I:Inv X pins σ H s)(h:SqL X.K H a xs):∃ its:List Value,Vals xs its/\PlainL s.heap a its.toArray/\xs.length<=sizeLine:=by
 rcases h with h|⟨o,its,n,hk,hc,hd,hs,hz,r⟩
 ·obtain ⟨z,its,n,r,e⟩:=h.ok I.hok;exact ⟨its,r,⟨_,n,e,rfl,rfl,rfl⟩,z⟩
 ·refine ⟨its.toList,r,⟨o,n,I.kIn a o hk,hc,hd,by simpa using hs⟩,?_⟩;have e:=r.length;simp only [ug] at e;omega
theorem Inv.tuple (I:Inv X pins σ H s)(h:SqT X.K H a xs):∃ its:List Value,Vals xs its/\IsTup s.heap a its.toArray/\xs.length<=sizeLine:=by
 rcases h with h|⟨o,its,n,hk,hc,hs,hz,r⟩
 ·obtain ⟨z,its,r,p⟩:=h.ok I.hok;exact ⟨its,r,p,z⟩
 ·refine ⟨its.toList,r,⟨o,I.kIn a o hk,hc,n,by simpa using hs⟩,?_⟩;have e:=r.length;simp only [ug] at e;omega
theorem Inv.list_inj (I:Inv X pins σ H s)(h:SqL X.K H a xs)(h':SqL X.K H a ys):xs=ys:=by
 obtain ⟨its,r,⟨o,n,e,_,_,d⟩,_⟩:=I.list h;obtain ⟨its',r',⟨o',n',e',_,_,d'⟩,_⟩:=I.list h';rw [e] at e';cases e';rw [d] at d';injection d' with d1 _;have:its=its':=by simpa using congrArg Array.toList d1
 subst this;exact r.inj r'
theorem Inv.tuple_inj (I:Inv X pins σ H s)(h:SqT X.K H a xs)(h':SqT X.K H a ys):xs=ys:=by
 obtain ⟨its,r,⟨o,e,_,n,d⟩,_⟩:=I.tuple h;obtain ⟨its',r',⟨o',e',_,n',d'⟩,_⟩:=I.tuple h';rw [e] at e';cases e';rw [d] at d';injection d' with d1 _;have:its=its':=by simpa using congrArg Array.toList d1
 subst this;exact r.inj r'
end
abbrev Cx.wish (X:Cx)(E:Value->Shared->Prop):Cx:={ X with xe:=E }
abbrev Cx.nox (X:Cx):Cx:=X.wish λ_ _=>False
theorem Cx.Ok.wish (ok:X.Ok)(E:Value->Shared->Prop):(X.wish E).Ok :=
 ⟨ok.mod,ok.kind,ok.glob,ok.blt,ok.above,ok.inj,ok.has,ok.cab,ok.hd,ok.frames,ok.stk,ok.exf,ok.bs,ok.bsz,ok.noex,ok.exfs,ok.funs,ok.frf,ok.tbs⟩
theorem Cx.Ok.unwish (ok:(X.wish E).Ok):X.Ok :=
 ⟨ok.mod,ok.kind,ok.glob,ok.blt,ok.above,ok.inj,ok.has,ok.cab,ok.hd,ok.frames,ok.stk,ok.exf,ok.bs,ok.bsz,ok.noex,ok.exfs,ok.funs,ok.frf,ok.tbs⟩
section
variable {X:Cx}{pins:List (Addr×Obj)}{σ:St}{H:Hp}{s:Shared}{E:Value->Shared->Prop}
theorem Inv.wish (I:Inv X pins σ H s)(E:Value->Shared->Prop):Inv (X.wish E) pins σ H s:=⟨I.ok.wish E,I.os,I.bare,I.base,I.loc,I.cell,I.free,I.freeC,I.pin,I.hok,I.len⟩
theorem Inv.unwish (I:Inv (X.wish E) pins σ H s):Inv X pins σ H s:=⟨I.ok.unwish,I.os,I.bare,I.base,I.loc,I.cell,I.free,I.freeC,I.pin,I.hok,I.len⟩
theorem SP.unwish {f:Flow}(h:SP (X.wish E) pins D f s'):SP X pins D f s':=by
 cases f with
 |next=>obtain ⟨σ',H',I,q⟩:=h;exact ⟨σ',H',I.unwish,q⟩
 |brk=>obtain ⟨σ',H',I,q⟩:=h;exact ⟨σ',H',I.unwish,q⟩
 |cont=>obtain ⟨σ',H',I,q⟩:=h;exact ⟨σ',H',I.unwish,q⟩
 |ret u=>obtain ⟨v,σ',H',I,r,q⟩:=h;exact ⟨v,σ',H',I.unwish,r,q⟩
theorem PSs.nox {st:List Stmt}{t:TS}(h:PSs X.nox st t):PSs X st t:=λpins s σ H D I hw =>
 wpAny_mono (h pins s σ H D (I.wish _) hw) (λ_ _ q=>q.unwish) λ_ _ z=>False.elim z
end
section
variable {X:Cx}{st:Stmt}{rest:List Stmt}{t u:TS}{e:Expr}{te:TE}{pos:Pos}
def YQ:TS:=λD σ H=>D.nx σ H
def tSeq (t u:TS):TS:=λD σ H=>t { D with nx:=u D } σ H
theorem i9:PSs X [] YQ:=λ_ _ σ H _ I h=>wpAny_execs_nil ⟨σ,H,I,h⟩
theorem j3 (h1:PS X st t)(h2:PSs X rest u):PSs X (st::rest) (tSeq t u):=by
 intro pins s σ H D I h;refine wpAny_execs_cons (j6 (h1 pins s σ H { D with nx:=u D } I h) λf s1 q=>?_);cases f with
 |next=>obtain ⟨σ',H',I',q⟩:=q;exact h2 pins s1 σ' H' D I' q
 |ret v=>exact q
 |brk=>exact q
 |cont=>exact q
theorem j5 (h1:PS X st t):PSs X [st] t:=by
 intro pins s σ H D I h;refine wpAny_execs_cons (j6 (h1 pins s σ H D I h) λf s1 q=>?_);cases f with
 |next=>exact wpAny_execs_nil q
 |ret v=>exact q
 |brk=>exact q
 |cont=>exact q
theorem Inv.quiet (I:Inv X pins σ H s):interactive X.env=false:=by simp [interactive,I.ok.kind]
def wu (te:TE):TS:=λD σ H=>te σ H λ_ H1=>D.nx σ H1
theorem zl (he:PE X e te)(hs:swapsWith e none pos.line X.env=pure false:=by rfl):PS X (.Expr e pos) (wu te):=by intro pins s σ H D I h;exact wpAny_Expr_any (j6 (he pins s σ H _ I h) λv s1 ⟨x,H1,I1,r1,q1⟩=>⟨σ,H1,I1,q1⟩) I.quiet hs
def ww (te:TE):TS:=λD σ H=>te σ H D.rt
theorem y6 (he:PE X e te):PS X (.Return (some e) pos) (ww te):=by intro pins s σ H D I h;exact wpAny_Return_some (j6 (he pins s σ H _ I h) λv s1 ⟨x,H1,I1,r1,q1⟩=>⟨x,σ,H1,I1,r1,q1⟩)
def tIfS (c:TT)(t u:TS):TS:=λD σ H=>c σ H λb H1=>if b=true then t D σ H1 else u D σ H1
theorem i8 {a b:List Stmt}(hc:PT X c tc)(ha:PSs X a t)(hb:PSs X b u):PS X (.If c a b pos) (tIfS tc t u):=by
 intro pins s σ H D I h;refine wpAny_If (j6 (hc pins s σ H _ I h) λd s1 ⟨H1,I1,q1⟩=>?_);cases d with
 |true=>exact ha pins s1 σ H1 D I1 q1
 |false=>exact hb pins s1 σ H1 D I1 q1
def Cm:TS:=λ_ _ _=>False
theorem zJ:PS X st Cm:=λ_ _ _ _ _ _ h=>h.elim
end
abbrev TG:=V->St->Hp->(St->Hp->Prop)->Prop
abbrev TGs:=List V->St->Hp->(St->Hp->Prop)->Prop
def PG (X:Cx)(target:Expr)(t:TG):Prop :=
 ∀(pins:List (Addr×Obj))(s:Shared)(σ:St)(H:Hp)(v:V)(u:Value)(Q:St->Hp->Prop),Inv X pins σ H s->RelV v u->t v σ H Q ->
  wpAny (model X.prog X.w) X.A (assign target X.env u) (λ_ s'=>∃ σ' H',Inv X pins σ' H' s'/\Q σ' H') X.xe s
def PGs (X:Cx)(ts:List Expr)(t:TGs):Prop :=
 ∀(pins:List (Addr×Obj))(s:Shared)(σ:St)(H:Hp)(vs:List V)(us:List Value)(Q:St->Hp->Prop),Inv X pins σ H s->Vals vs us->t vs σ H Q ->
  wpAny (model X.prog X.w) X.A (assignInOrder ((assignEach ts X.env).map (·.2)) us) (λ_ s'=>∃ σ' H',Inv X pins σ' H' s'/\Q σ' H') X.xe s
abbrev TSet:=V->V->V->Hp->(Hp->Prop)->Prop
def PSet (X:Cx)(t:TSet):Prop :=
 ∀(pins:List (Addr×Obj))(s:Shared)(σ:St)(H:Hp)(o i v:V)(ov iv u:Value)(Q:Hp->Prop),Inv X pins σ H s->RelV o ov->RelV i iv->RelV v u->t o i v H Q ->
  wpAny (model X.prog X.w) X.A (setItem ov iv u) (λ_ s'=>∃ H',Inv X pins σ H' s'/\Q H') X.xe s
abbrev TIp:=V->V->Hp->VK->Prop
def PIp (X:Cx)(op:Operator)(t:TIp):Prop :=
 ∀(pins:List (Addr×Obj))(s:Shared)(σ:St)(H:Hp)(x y:V)(v u:Value)(Q:VK),Inv X pins σ H s->RelV x v->RelV y u->t x y H Q ->
  wpAny (model X.prog X.w) X.A (inplaceOp op v u) (EP X pins σ Q) X.xe s
section
variable {X:Cx}{pos:Pos}
def qV (i:Nat):TG:=λv σ H Q=>Q (σ.set i (some v)) H
theorem c9 {i:Nat}(hN:X.N.Nodup)(hi:X.N[i]?=some x)(hx:Loc X.env.scope x)(hf:X.fn x=true∨X.env.scope.names.lookup x=some .local:=by first|exact .inl rfl|exact .inr rfl|assumption):PG X (.Name x pos) (qV i):=by intro pins s σ H v u Q I r h;exact wpAny_assign_Name (YM I hN hi hx r (λs' I'=>⟨_,H,I',h⟩) hf)
def gNil:TGs:=λvs σ H Q=>vs=[]/\Q σ H
def Vm (t:TG)(u:TGs):TGs:=λvs σ H Q=>∃ v r,vs=v::r/\t v σ H λσ' H'=>u r σ' H' Q
theorem jI:PGs X [] gNil:=by intro pins s σ H vs us Q I r h;obtain ⟨e,h⟩:=h;subst e;cases r;exact assignInOrder_nil ⟨σ,H,I,h⟩
theorem qW {t:TG}{u:TGs}(h1:PG X e t)(h2:PGs X es u)(hs:(assignEach (e::es) X.env).map (·.2)=assign e X.env::(assignEach es X.env).map (·.2):=by rfl):PGs X (e::es) (Vm t u):=by
 intro pins s σ H vs us Q I r h;obtain ⟨v,vr,e1,h⟩:=h;subst e1;cases r with
 |cons r rr=>rw [hs];refine assignInOrder_cons (j6 (h1 pins s σ H _ _ _ I r h) λ_ s1 ⟨σ1,H1,I1,q1⟩=>?_);exact h2 pins s1 σ1 H1 _ _ Q I1 rr q1
def gTup (K:Fg)(n:Nat)(t:TGs):TG:=λv σ H Q=>∃ a xs,v = .ref a/\SqT K H a xs/\xs.length=n/\t xs σ H Q
theorem Rq {k:Nat}{t:TGs}(hc:X.calm=true)(h:PGs X es t)(hn:(assignEach es X.env).length=n:=by rfl)(hst:(assignEach es X.env).findIdx? (·.1)=none:=by rfl):PG X (.Tuple es k pos) (gTup X.K n t):=by intro pins s σ H v u Q I r hw;obtain ⟨a,xs,e1,hq,hl,hw⟩:=hw;subst e1;cases r;obtain ⟨its,rv,ht,hz⟩:=I.tuple hq;refine assign_Tuple_tuple (I.ok.hd hc) ht (by simp [hn,<- hl,rv.length]) hst λh' hx=>?_;have I1:Inv X pins σ H { s with heap:=h' }:=I.kept (t':=s.toks) λb o e=>hx b o (yL (yQ e)) e;exact h pins _ σ H xs _ Q I1 (by simpa using rv) hw
def gSub (to ti:TE)(t:TSet):TG:=λv σ H Q=>to σ H λo H1=>ti σ H1 λi H2=>t o i v H2 λH3=>Q σ H3
theorem BK {o i:Expr}{to ti:TE}{t:TSet}(ho:PE X o to)(hi:PE X i ti)(hs:PSet X t)
  (ha:∀ v,assign (.Subscript o i pos) X.env v=(do
   let ov <- holding [v] (eval o X.env)
   let iv <- holding [v,ov] (eval i X.env)
   standAt pos
   holding [v,ov,iv] (setItem ov iv v)
   release [v,ov,iv] []):=by intro _;rfl):PG X (.Subscript o i pos) (gSub to ti t):=by
 intro pins s σ H v u Q I r h;rw [ha];refine yR (wpAny_holding (j6 (ho pins s σ H _ I h) λov s1 ⟨x,H1,I1,r1,q1⟩=>?_));refine yR (wpAny_holding (j6 (hi pins s1 σ H1 _ I1 q1) λiv s2 ⟨y,H2,I2,r2,q2⟩=>?_));refine yR (wpAny_standAt (yR (wpAny_holding (j6 (hs pins s2 σ H2 x y v ov iv u _ I2 r1 r2 r q2) λ_ s3 ⟨H3,I3,q3⟩=>?_))));exact wpAny_release ⟨σ,H3,I3,q3⟩
def je (te:TE)(g:TG):TS:=λD σ H=>te σ H λx H1=>g x σ H1 D.nx
theorem Wo {g:TG}(he:PE X e te)(hg:PG X tg g)(hs:swapsWithSole [tg] e pos.line X.env=pure false:=by rfl)(hw:swappedStores [tg] e X.env=pure none:=by rfl)(h1:(assignEach [tg] X.env).map (·.2)=[assign tg X.env]:=by rfl):PS X (.Assign [tg] e pos) (je te g):=by intro pins s σ H D I h;refine wpAny_Assign_stores (j6 (he pins s σ H _ I h) λv s1 ⟨x,H1,I1,r1,q1⟩=>?_) hs hw;rw [h1];exact j6 (hg pins s1 σ H1 x v _ I1 r1 q1) λ_ s2 q=>q
theorem qB {i:Nat}{x:Str}{e:Expr}{te:TE}{pos':Pos}(hN:X.N.Nodup)(hi:X.N[i]?=some x)(hx:Loc X.env.scope x)(he:PE X e te)(hs:swapsWith e (some (.Name x pos')) pos.line X.env=pure false:=by rfl)(hf:X.fn x=true∨X.env.scope.names.lookup x=some .local:=by first|exact .inl rfl|exact .inr rfl|assumption):PS X (.Assign [.Name x pos'] e pos) (je te (qV i)):=by intro pins s σ H D I h;refine wpAny_Assign_Name (j6 (he pins s σ H _ I h) λv s1 ⟨y,H1,I1,r1,q1⟩=>?_) hs;exact YM I1 hN hi hx r1 (λs2 I2=>⟨_,H1,I2,q1⟩) hf
def tAug (i:Nat)(te:TE)(ti:TIp):TS:=λD σ H=>∃ x,σ[i]?=some (some x)/\te σ H λy H1=>ti x y H1 λz H2=>D.nx (σ.set i (some z)) H2
theorem RG {i:Nat}{op:Operator}{ti:TIp}{pos':Pos}(hN:X.N.Nodup)(hi:X.N[i]?=some x)(hx:Loc X.env.scope x)(he:PE X e te)(ho:PIp X op ti)(hf:X.fn x=true∨X.env.scope.names.lookup x=some .local:=by first|exact .inl rfl|exact .inr rfl|assumption):PS X (.AugAssign (.Name x pos') op e pos) (tAug i te ti):=by
 intro pins s σ H D I h;obtain ⟨v,e1,h⟩:=h;obtain ⟨m,hn,hl⟩:=I.loc;have vis:Vis X.env.scope x:=by rcases hx with k|k;exact .inl k;exact .inr (.inl k)
 obtain ⟨u,r,l⟩:=hl i x v hi e1 vis;refine wpAny_AugAssign_Name ?_;have go:wpAny (model X.prog X.w) X.A (eval e X.env) (λw s₂=>wpAny (model X.prog X.w) X.A (inplaceOp op u w) (λr s₃=>wpAny (model X.prog X.w) X.A (storeName X.env x r) (λ_=>SP X pins D .next) X.xe s₃) X.xe s₂) X.xe s:=by refine j6 (he pins s σ H _ I h) λw s1 ⟨y,H1,I1,r1,q1⟩=>?_;refine j6 (ho pins s1 σ H1 v y u w _ I1 r r1 q1) λz s2 ⟨zv,H2,I2,r2,q2⟩=>?_;exact YM I2 hN hi hx r2 (λs3 I3=>⟨_,H2,I3,q2⟩) hf
 rcases l with ⟨hk,hm⟩|⟨hk,c,hc,hcell⟩
 ·exact wpAny_loadName_local I.ok.kind hk hn hm go
 ·rcases hk with hk|hk
  ·exact wpAny_loadName_cell I.ok.kind hk hc hcell go
  ·rcases hx with k|k
   ·have:X.env.scope.names.lookup x=some .free:=hk;rw [k] at this;cases this
   ·have:X.env.scope.names.lookup x=some .free:=hk;rw [k] at this;cases this
end
section
variable {X:Cx}{pos:Pos}
def Cr (c:TT)(tb:TS):TS:=λD σ H=>∃ W:Nat->St->Hp->Prop,(∃ m,W m σ H)/\∀ m σ H,W m σ H ->
 c σ H λb H1=>if b=true then ∃ N:St->Hp->Prop,(∀ σ' H',N σ' H'->∃ m',m'<m/\W m' σ' H')/\tb { D with nx:=N,ct:=N,bk:=D.nx } σ H1 else D.nx σ H1
theorem RJ (hp:PassesOwn (model X.prog X.w) X.A X.env X.xe)(hc:PT X c tc)(hb:PSs X body tb):PS X (.While c body [] pos) (Cr tc tb):=by
 intro pins s σ H D I h;obtain ⟨W,⟨m0,w0⟩,turn⟩:=h;refine wpAny_While (codeAny_whileLoop (λn s'=>∃ σ' H',Inv X pins σ' H' s'/\W n σ' H') ?_ m0 ⟨σ,H,I,w0⟩);rintro n s1 ⟨σ1,H1,I1,w1⟩;refine wpAny_passesOwn hp (j6 (hc pins s1 σ1 H1 _ I1 (turn n σ1 H1 w1)) λb s2 ⟨H2,I2,q2⟩=>?_);cases b with
 |true =>
  obtain ⟨N,hN,q2⟩:=q2;rw [if_pos rfl];refine wpAny_passesOwn hp (j6 (hb pins s2 σ1 H2 _ I2 q2) λf s3 q3=>?_);cases f with
  |next=>obtain ⟨σ3,H3,I3,n3⟩:=q3;obtain ⟨m',hm,w3⟩:=hN σ3 H3 n3;exact ⟨m',hm,σ3,H3,I3,w3⟩
  |cont=>obtain ⟨σ3,H3,I3,n3⟩:=q3;obtain ⟨m',hm,w3⟩:=hN σ3 H3 n3;exact ⟨m',hm,σ3,H3,I3,w3⟩
  |brk=>exact q3
  |ret v=>exact q3
 |false=>rw [if_neg yS];exact wpAny_execs_nil ⟨σ1,H2,I2,q2⟩
end
structure It where
 go:Nat->Hp->Prop
 yld:Nat->Hp->V->Hp->Prop
 stop:Nat->Hp->Prop
def xx (X:Cx)(pins:List (Addr×Obj))(H:Hp)(b:Addr):Prop :=
 H b=none/\b≠X.env.locals/\b∉X.fs/\(b∈X.ex∨X.s₀.heap.objs.size<=b)/\(∀ x c,X.env.cells.lookup x=some c->c≠b)/\∀ p∈X.pn++pins,p.1≠b
theorem Inv.fpOk {H':Hp}(I:Inv X pins σ H s)(hb:s.heap.objs.size<=b)(hn:H' b=none):xx X pins H' b:=by
 refine ⟨hn,tY (yE I.lt hb),I.nofs hb,.inr (ym I.sz hb),λx c e z=>?_,λp hp z=>?_⟩
 ·obtain ⟨v,q⟩:=I.cell x c e;exact absurd (yE q.lt (by rw [z];exact hb)) (uF _)
 ·exact absurd (yE (yQ (I.pin p hp).1) (by rw [z];exact hb)) (uF _)
structure Turn (P:Program)(w:World)(K:Fg)(tg:Expr)(J:It)(fp:List Addr)(it:Addr)(tn:Nat->Heap->Prop):Prop where
 mem:it∈fp
 obj:∀ i h,tn i h->∀ b∈fp,∃ o,h.get? b=some o/\∀ v,o.data ≠ .cell v
 keep:∀ i h h',tn i h->(∀ b∈fp,∀ o,h.get? b=some o->h'.get? b=some o)->tn i h'
 item:∀(X:Cx),X.prog=P->X.w=w->X.K=K->X.calm=true->∀(i:Nat)(pins:List (Addr×Obj))(s:Shared)(σ:St)(H:Hp)(E:Value->Shared->Prop),Inv X pins σ H s->(∀ b∈fp,xx X pins H b)->tn i s.heap->J.go i H ->
  wpAny (model P w) X.A (pyNext (.ref it)) (λr s1=>∃ u,r=some u /\
   wpAny (model P w) X.A (letOwnedTupleGo tg (.ref it) u) (λ_ s2=>∃ x H',Inv X pins σ H' s2/\RelV x u/\J.yld i H x H'/\tn (i+1) s2.heap/\∀ b∈fp,H' b=none) E s1) E s
 done:∀(X:Cx),X.prog=P->X.w=w->X.K=K->X.calm=true->∀(i:Nat)(pins:List (Addr×Obj))(s:Shared)(σ:St)(H:Hp)(E:Value->Shared->Prop),Inv X pins σ H s->(∀ b∈fp,xx X pins H b)->tn i s.heap->J.stop i H ->
  wpAny (model P w) X.A (pyNext (.ref it)) (λr s1=>r=none/\Inv X pins σ H s1) E s
 self:∀(A:Around)(i:Nat)(s:Shared)(Q:Value->Shared->Prop)(E:Value->Shared->Prop),tn i s.heap->Q (.ref it) s->wpAny (model P w) A (pyIter (.ref it)) Q E s
abbrev TI:=St->Hp->(It->Hp->Prop)->Prop
def PIE (X:Cx)(pins:List (Addr×Obj))(σ:St)(tg:Expr)(R:It->Hp->Prop)(itv:Value)(s2:Shared):Prop :=
 ∃(it:Addr)(fp:List Addr)(tn:Nat->Heap->Prop)(J:It)(H':Hp),itv = .ref it/\Inv X pins σ H' s2/\Turn X.prog X.w X.K tg J fp it tn/\tn 0 s2.heap/\(∀ b∈fp,xx X pins H' b)/\R J H'
def PI (X:Cx)(tg iter:Expr)(wi:TI):Prop :=
 ∀(pins:List (Addr×Obj))(s:Shared)(σ:St)(H:Hp)(R:It->Hp->Prop),Inv X pins σ H s->wi σ H R ->
  wpAny (model X.prog X.w) X.A (eval iter X.env) (λv s1=>wpAny (model X.prog X.w) X.A (pyIter v) (PIE X pins σ tg R) X.xe s1) X.xe s
theorem QZ {M:Model}{o:Obj}{n:String}{vs:Array Value}{Q:Unit->Shared->Prop}(ho:s.heap.get? it=some o)(hc:o.cls = .type n)(hd:o.data = .fields vs)(hn:["enumerate","zip","dict_itemiterator","dict_reverseitemiterator","odict_iterator","itertools.zip_longest","itertools.pairwise"].contains n=false)(hQ:Q () s):wpAny M A (letOwnedTupleGo tg (.ref it) u) Q E s:=by
  unfold letOwnedTupleGo;cases tg<;>first
    |exact yx hQ
    | (cases u <;> first
        |exact yx hQ
        | (refine yR (wpAny_load ho ?_)
           rw [hc,hd];show wpAny M A (if (["enumerate","zip","dict_itemiterator","dict_reverseitemiterator","odict_iterator","itertools.zip_longest","itertools.pairwise"].contains n&&vs[0]?==some (rawInt _))=true then _ else _) Q E s;rw [if_neg (by intro h;rw [hn,Bool.false_and] at h;cases h)];exact yx hQ))
def Itl (K:Fg)(a:Addr):It :=
 ⟨λi H=>∃ xs x,SqL K H a xs/\xs[i]?=some x,λi H x H'=>H'=H/\∀ xs,SqL K H a xs->xs[i]?=some x,λi H=>∃ xs,SqL K H a xs/\xs.length<=i⟩
def Itt (K:Fg)(a:Addr):It :=
 ⟨λi H=>∃ xs x,SqT K H a xs/\xs[i]?=some x,λi H x H'=>H'=H/\∀ xs,SqT K H a xs->xs[i]?=some x,λi H=>∃ xs,SqT K H a xs/\xs.length<=i⟩
def Itr (lo:Int)(n:Nat):It:=⟨λi _=>i<n,λi H x H'=>H'=H/\x = .int (lo+i),λi _=>n<=i⟩
theorem SJ (a it:Addr):Turn P w K tg (Itl K a) [it] it (λi h=>h.IsListIter it a i) where
 mem:=by simp
 obj:=λi h st b hb=>by
  have e:b=it:=by simpa using hb
  subst e;obtain ⟨o,e,c,d⟩:=st;exact ⟨o,e,λv z=>by rw [d] at z;cases z⟩
 keep:=λi h h' st k=>st.at λo e=>k it (by simp) o e
 item:=by intro X hP hw hK hc i pins s σ H E I hf st hg;subst hP hw hK;obtain ⟨xs,x,hq,hx⟩:=hg;obtain ⟨its,rv,p,hz⟩:=I.list hq;obtain ⟨u,hu,ru⟩:=rv.get hx;obtain ⟨f0,f1,f2,f3,f4,f5⟩:=hf it (by simp);refine wpAny_pyNext_list_item st p.isList (x:=u) (by simpa using hu) λh' st' sb=>?_;have I1:Inv X pins σ H { s with heap:=h' }:=I.turned (t':=s.toks) (λb o hb e=>(sb.2 b hb).trans e) f0 f1 f3 f4 f5;obtain ⟨o,e,c,d⟩:=id st';exact ⟨u,rfl,QZ (s:={ s with heap:=h' }) e c d (by decide) ⟨x,H,I1,ru,⟨rfl,λys hy=>by rw [I.list_inj hy hq];exact hx⟩,st',λb hb=>(hf b hb).1⟩⟩
 done:=by intro X hP hw hK hc i pins s σ H E I hf st hg;subst hP hw hK;obtain ⟨xs,hq,hx⟩:=hg;obtain ⟨its,rv,p,hz⟩:=I.list hq;obtain ⟨f0,f1,f2,f3,f4,f5⟩:=hf it (by simp);have hl:=rv.length;exact wpAny_pyNext_list_end (I.ok.hd hc) st p.isList (by simp;omega) λh' eb=>⟨rfl,I.turned (t':=s.toks) (λb o hb e=>eb b o hb e) f0 f1 f3 f4 f5⟩
 self:=λ_ _ _ _ _ st h=>wpAny_pyIter_listiter st h
theorem SN (a it:Addr):Turn P w K tg (Itt K a) [it] it (λi h=>h.IsTupleIter it a i) where
 mem:=by simp
 obj:=λi h st b hb=>by
  have e:b=it:=by simpa using hb
  subst e;obtain ⟨o,e,c,d⟩:=st;exact ⟨o,e,λv z=>by rw [d] at z;cases z⟩
 keep:=λi h h' st k=>st.at λo e=>k it (by simp) o e
 item:=by intro X hP hw hK hc i pins s σ H E I hf st hg;subst hP hw hK;obtain ⟨xs,x,hq,hx⟩:=hg;obtain ⟨its,rv,p,hz⟩:=I.tuple hq;obtain ⟨u,hu,ru⟩:=rv.get hx;obtain ⟨f0,f1,f2,f3,f4,f5⟩:=hf it (by simp);refine wpAny_pyNext_tuple_item st (show s.heap.IsTuple a its.toArray from p) (x:=u) (by simpa using hu) λh' st' sb=>?_;have I1:Inv X pins σ H { s with heap:=h' }:=I.turned (t':=s.toks) (λb o hb e=>(sb.2 b hb).trans e) f0 f1 f3 f4 f5;obtain ⟨o,e,c,d⟩:=id st';exact ⟨u,rfl,QZ (s:={ s with heap:=h' }) e c d (by decide) ⟨x,H,I1,ru,⟨rfl,λys hy=>by rw [I.tuple_inj hy hq];exact hx⟩,st',λb hb=>(hf b hb).1⟩⟩
 done:=by intro X hP hw hK hc i pins s σ H E I hf st hg;subst hP hw hK;obtain ⟨xs,hq,hx⟩:=hg;obtain ⟨its,rv,p,hz⟩:=I.tuple hq;obtain ⟨f0,f1,f2,f3,f4,f5⟩:=hf it (by simp);have hl:=rv.length;exact wpAny_pyNext_tuple_end (I.ok.hd hc) st (show s.heap.IsTuple a its.toArray from p) (by simp;omega) λh' eb=>⟨rfl,I.turned (t':=s.toks) (λb o hb e=>eb b o hb e) f0 f1 f3 f4 f5⟩
 self:=λ_ _ _ _ _ st h=>wpAny_pyIter_tupleiter st h
theorem SL (it:Addr)(lo:Int)(n:Nat):Turn P w K tg (Itr lo n) [it] it (λi h=>IsRangeIter h it (lo+(i:Nat)*1) ((n:Int)-(i:Nat)) 1) where
 mem:=by simp
 obj:=λi h st b hb=>by
  have e:b=it:=by simpa using hb
  subst e;exact ⟨_,st,λv z=>by
   have z':Data.fields _=Data.cell v:=z;cases z'⟩
 keep:=λi h h' st k=>k it (by simp) _ st
 item:=by intro X hP hw hK hc i pins s σ H E I hf st hg;subst hP hw hK;obtain ⟨f0,f1,f2,f3,f4,f5⟩:=hf it (by simp);have W:=Walks.range (prog:=X.prog) (w:=X.w) (I.ok.hd hc) it lo 1 n;refine W.item i s _ _ hg st λv h' tk hv st' kk=>?_;obtain ⟨t,rfl⟩:=hv;have I1:Inv X pins σ H { s with heap:=h',toks:=tk }:=I.turned (λb o hb e=>kk b o (by simpa using hb) e) f0 f1 f3 f4 f5;refine ⟨_,rfl,QZ (s:={ s with heap:=h',toks:=tk }) (n:="range_iterator") st' rfl rfl (by decide) ⟨.int (lo+i),H,I1,⟨t,?_⟩,⟨rfl,rfl⟩,st',λb hb=>(hf b hb).1⟩⟩;rw [Int.mul_one]
 done:=by intro X hP hw hK hc i pins s σ H E I hf st hg;subst hP hw hK;obtain ⟨f0,f1,f2,f3,f4,f5⟩:=hf it (by simp);exact wpAny_pyNext_range_end (I.ok.hd hc) st (by have:n<=i:=hg;omega) λh' eb=>⟨rfl,I.turned (t':=s.toks) (λb o hb e=>eb b o hb e) f0 f1 f3 f4 f5⟩
 self:=λ_ _ _ _ _ st h=>wpAny_pyIter_rangeiter st h
section
variable {X:Cx}{tg:Expr}
def Vs (K:Fg)(tl:TE):TI:=λσ H R=>tl σ H λx H1=>∃ a,x = .ref a/\(∃ xs,SqL K H1 a xs)/\R (Itl K a) H1
def iTup (K:Fg)(tl:TE):TI:=λσ H R=>tl σ H λx H1=>∃ a,x = .ref a/\(∃ xs,SqT K H1 a xs)/\R (Itt K a) H1
theorem Rs (hl:PE X l tl):PI X tg l (Vs X.K tl):=by
 intro pins s σ H R I h;refine j6 (hl pins s σ H _ I h) λv s1 ⟨x,H1,I1,r1,q1⟩=>?_;obtain ⟨a,e,⟨xs,hq⟩,q⟩:=q1;subst e;cases r1;obtain ⟨its,rv,p,hz⟩:=I1.list hq;refine wpAny_pyIter_list p.isList ?_;refine ⟨s1.heap.objs.size,[s1.heap.objs.size],_,_,H1,rfl,I1.kept (t':=s1.toks) λb o e=>yT _ e,SJ a _,⟨_,yD _ rfl,rfl,rfl⟩,λb hb=>?_,q⟩;have e:b=s1.heap.objs.size:=by simpa using hb
 subst e;exact I1.fpOk (yV _) (I1.hok.fresh (yV _))
theorem Rv (hl:PE X l tl):PI X tg l (iTup X.K tl):=by
 intro pins s σ H R I h;refine j6 (hl pins s σ H _ I h) λv s1 ⟨x,H1,I1,r1,q1⟩=>?_;obtain ⟨a,e,⟨xs,hq⟩,q⟩:=q1;subst e;cases r1;obtain ⟨its,rv,p,hz⟩:=I1.tuple hq;refine wpAny_pyIter_tuple (show s1.heap.IsTuple a its.toArray from p) ?_;refine ⟨s1.heap.objs.size,[s1.heap.objs.size],_,_,H1,rfl,I1.kept (t':=s1.toks) λb o e=>yT _ e,SN a _,⟨_,yD _ rfl,rfl,rfl⟩,λb hb=>?_,q⟩;have e:b=s1.heap.objs.size:=by simpa using hb
 subst e;exact I1.fpOk (yV _) (I1.hok.fresh (yV _))
theorem RM {R:It->Hp->Prop}{hi:Int}{t u v:Tok}{tk:Nat}(I:Inv X pins σ H s)(h1:-(2 ^ 62)<=lo)(h2:lo<2 ^ 62)(h3:-(2 ^ 62)<=hi)(h4:hi<2 ^ 62)(q:R (Itr lo (hi-lo).toNat) H):wpAny (model X.prog X.w) X.A (pyIter (.ref s.heap.objs.size)) (PIE X pins σ tg R) E { s with heap:=s.heap.push { cls:= .type "range",data:= .fields #[.int lo t,.int hi u,.int 1 v] },toks:=tk }:=by
 refine wpAny_pyIter_range (IsRange.new ..) (small_one h1 h2 h3 h4) ?_;have I1:Inv X pins σ H { s with heap:=s.heap.push { cls:= .type "range",data:= .fields #[.int lo t,.int hi u,.int 1 v] },toks:=tk }:=I.kept λb o e=>yT _ e;refine ⟨(s.heap.push { cls:= .type "range",data:= .fields #[.int lo t,.int hi u,.int 1 v] }).objs.size,[(s.heap.push { cls:= .type "range",data:= .fields #[.int lo t,.int hi u,.int 1 v] }).objs.size],_,_,H,rfl,
  I1.kept (t':=tk) λb o e=>yT _ e,SL _ lo (hi-lo).toNat,?_,λb hb=>?_,q⟩
 ·have e1:lo+((0:Nat):Int)*1=lo:=by simp
  have e2:(((hi-lo).toNat:Nat):Int)-((0:Nat):Int)=Builtin.Range.rangeSize lo hi 1:=by rw [rangeSize_one];split<;>omega
  show IsRangeIter _ _ (lo+((0:Nat):Int)*1) ((((hi-lo).toNat:Nat):Int)-((0:Nat):Int)) 1;rw [e1,e2];exact yD _ rfl
 ·have e:b=(s.heap.push { cls:= .type "range",data:= .fields #[.int lo t,.int hi u,.int 1 v] }).objs.size:=by simpa using hb
  subst e;exact I1.fpOk (yV _) (I1.hok.fresh (yV _))
def Qe (ta:TA):TI:=λσ H R=>ta σ H λvs H1=>∃ j:Int,vs=[.int j]/\-(2 ^ 62)<=j/\j<2 ^ 62/\R (Itr 0 j.toNat) H1
theorem zj {a:Expr}{ta:TA}{p:Pos}(hg:Gl X "range")(hm:X.mg "range"=none)(ha:PA X [a] ta)(hs:starEach [a] X.env=[(false,eval a X.env)]:=by rfl):PI X tg (.Call (.Name "range" p) [a] [] pos) (Qe ta):=by
 intro pins s σ H R I h;refine Call_ (va I hg hm boot_range (PyProof.Rows.callWith_type1 (j6 (ha pos pins s σ H _ I h) λus s1 ⟨vs,H1,I1,r1,q1⟩=>?_) hs rfl));obtain ⟨j,e,q1,q2,q⟩:=q1;subst e;cases r1 with
 |cons r rr=>cases rr;obtain ⟨t,rfl⟩:=r;exact call_range_1 (RM I1 (by omega) (by omega) q1 q2 (by simpa using q))
def tFor (wi:TI)(g:TG)(tb:TS):TS:=λD σ H=>wi σ H λJ H1=>∃ W:Nat->Nat->St->Hp->Prop,(∃ m,W 0 m σ H1)/\∀ i m σ H,W i m σ H ->
 (J.stop i H/\D.nx σ H)∨(J.go i H/\∃ N:St->Hp->Prop,(∀ σ' H',N σ' H'->∃ m',m'<m/\W (i+1) m' σ' H')/\∀ x H',J.yld i H x H'->g x σ H' λσ2 H2=>tb { D with nx:=N,ct:=N,bk:=D.nx } σ2 H2)
def XC (fp:List Addr)(h:Heap):List (Addr×Obj):=fp.filterMap λb=>(h.get? b).map λo=>(b,o)
theorem Jf {o:Obj}(hb:b∈fp)(e:h.get? b=some o):(b,o)∈XC fp h:=ud.mpr ⟨b,hb,by rw [e];rfl⟩
theorem Nx {p:Addr×Obj}(hp:p∈XC fp h):p.1∈fp/\h.get? p.1=some p.2:=by
 obtain ⟨b,hb,e⟩:=ud.mp hp;cases q:h.get? b with
 |none=>rw [q] at e;cases e
 |some o=>rw [q] at e;have e':(b,o)=p:=Option.some.inj e;subst e';exact ⟨hb,q⟩
theorem Inv.pinned (I:Inv X pins σ H s)(hf:∀ b∈fp,xx X pins H b)(ho:∀ b∈fp,∃ o,s.heap.get? b=some o/\∀ v,o.data ≠ .cell v):Inv X (pins++XC fp s.heap) σ H s :=
 I.pins_of λp hp=>(yc.mp hp).elim (λz=>I.pin p (yw _ z)) λz=>by
  obtain ⟨hb,e⟩:=Nx z;obtain ⟨f0,f1,f2,_⟩:=hf p.1 hb;obtain ⟨o,e',d⟩:=ho p.1 hb;rw [e] at e';cases e';exact ⟨e,f0,f1,f2,d⟩
theorem Inv.unpinned {pl:List (Addr×Obj)}(I:Inv X (pins++pl) σ H s):Inv X pins σ H s:=I.pins_of λp hp=>I.pin p (yw _ (uQ _ hp))
theorem qR {iter:Expr}{wi:TI}{g:TG}(hp:PassesOwn (model X.prog X.w) X.A X.env X.xe)(hc:X.calm=true)(hi:PI X tg iter wi)(hg:PG X tg g)(hb:PSs X body tb)(hs:∀ x,foldedSetIterable iter X.env x=pure x:=by intro _;rfl):PS X (.For tg iter body [] pos) (tFor wi g tb):=by
 intro pins s σ H D I h;refine wpAny_For (j6 (hi pins s σ H _ I h) λv s1 h1=>j6 h1 λitv s2 h2=>?_) hs;obtain ⟨it,fp,tn,J,H2,e,I2,T,st2,f2,W,⟨m0,w0⟩,turn⟩:=h2;subst e
 -- what stays true of the iterator's objects through the loop
 have stat:∀{H':Hp},(∀ b∈fp,H' b=none)->∀ b∈fp,xx X pins H' b:=λhn b hb=>⟨hn b hb,(f2 b hb).2⟩;refine codeAny_forLoop_any (λn s'=>∃ i σ' H',Inv X pins σ' H' s'/\tn i s'.heap/\(∀ b∈fp,H' b=none)/\W i n σ' H') ?_ m0 ⟨0,σ,H2,I2,st2,λb hb=>(f2 b hb).1,w0⟩;rintro n s3 ⟨i,σ3,H3,I3,st3,fr3,w3⟩;rcases turn i n σ3 H3 w3 with ⟨stop,qn⟩|⟨go,N,hN,step⟩
 ·refine wpAny_passesOwn hp (j6 (T.done X rfl rfl rfl hc i pins s3 σ3 H3 X.xe I3 (stat fr3) st3 stop) λr s4 ⟨hr,I4⟩=>?_);subst hr;exact wpAny_execs_nil ⟨σ3,H3,I4,qn⟩
 ·refine wpAny_passesOwn hp (j6 (T.item X rfl rfl rfl hc i pins s3 σ3 H3 X.xe I3 (stat fr3) st3 go) λr s4 ⟨u,hr,h4⟩=>?_);subst hr;refine wpAny_passesOwn hp (j6 h4 λ_ s5 ⟨x,H5,I5,r5,y5,st5,fr5⟩=>?_);have I5':=I5.pinned (stat fr5) (T.obj _ _ st5);refine wpAny_passesOwn hp (j6 (hg _ s5 σ3 H5 x u _ I5' r5 (step x H5 y5)) λ_ s6 ⟨σ6,H6,I6,q6⟩=>?_);refine wpAny_passesOwn hp (j6 (hb _ s6 σ6 H6 _ I6 q6) λf s7 q7=>?_);have again:∀{σ7:St}{H7:Hp},Inv X (pins++XC fp s5.heap) σ7 H7 s7->N σ7 H7->∃ m,m<n/\∃ i σ' H',Inv X pins σ' H' s7/\tn i s7.heap/\(∀ b∈fp,H' b=none)/\W i m σ' H':=λ{σ7 H7} I7 n7=>by
   obtain ⟨m',hm,w7⟩:=hN σ7 H7 n7;refine ⟨m',hm,i+1,σ7,H7,I7.unpinned,T.keep _ _ _ st5 λb hb o e=>(I7.pin (b,o) (yw _ (yw _ (Jf hb e)))).1,λb hb=>?_,w7⟩;obtain ⟨o,e,d⟩:=T.obj _ _ st5 b hb;exact (I7.pin (b,o) (yw _ (yw _ (Jf hb e)))).2.1
  cases f with
  |next=>obtain ⟨σ7,H7,I7,n7⟩:=q7;exact again I7 n7
  |cont=>obtain ⟨σ7,H7,I7,n7⟩:=q7;exact again I7 n7
  |brk=>obtain ⟨σ7,H7,I7,q7⟩:=q7;exact ⟨σ7,H7,I7.unpinned,q7⟩
  |ret v=>obtain ⟨x7,σ7,H7,I7,r7,q7⟩:=q7;exact ⟨x7,σ7,H7,I7.unpinned,r7,q7⟩
end
theorem MI {g:TG}(Pv:Nat->St->Hp->Prop)(h0:Pv 0 σ H)(hl:∀ i σ H,i<=xs.length->Pv i σ H->SqL K H a xs)(hs:∀ i x σ H,xs[i]?=some x->Pv i σ H->g x σ H λσ2 H2=>tb { D with nx:=Pv (i+1),ct:=Pv (i+1),bk:=D.nx } σ2 H2)(hd:∀ σ H,Pv xs.length σ H->D.nx σ H):∃ W:Nat->Nat->St->Hp->Prop,(∃ m,W 0 m σ H)/\∀ i m σ H,W i m σ H -> ((Itl K a).stop i H/\D.nx σ H)∨((Itl K a).go i H/\∃ N:St->Hp->Prop,(∀ σ' H',N σ' H'->∃ m',m'<m/\W (i+1) m' σ' H')/\∀ x H',(Itl K a).yld i H x H'->g x σ H' λσ2 H2=>tb { D with nx:=N,ct:=N,bk:=D.nx } σ2 H2):=by
 refine ⟨λi m σ H=>m=xs.length-i/\i<=xs.length/\Pv i σ H,⟨xs.length,by simp,uY _,h0⟩,?_⟩;rintro i m σ H ⟨rfl,hi,p⟩;have q:=hl i σ H hi p;by_cases hlt:i<xs.length
 ·refine .inr ⟨⟨xs,xs[i],q,by simp [hlt]⟩,Pv (i+1),λσ' H' p'=>⟨xs.length-(i+1),by omega,rfl,hlt,p'⟩,λx H' y=>?_⟩;obtain ⟨e,y⟩:=y;subst e;exact hs i x σ _ (y xs q) p
 ·have e:i=xs.length:=by omega
  subst e;exact .inl ⟨⟨xs,q,yV _⟩,hd σ H p⟩
theorem ZH {g:TG}(Pv:Nat->St->Hp->Prop)(h0:Pv 0 σ H)(hs:∀ i σ H,i<n->Pv i σ H->g (.int (lo+i)) σ H λσ2 H2=>tb { D with nx:=Pv (i+1),ct:=Pv (i+1),bk:=D.nx } σ2 H2)(hd:∀ σ H,Pv n σ H->D.nx σ H):∃ W:Nat->Nat->St->Hp->Prop,(∃ m,W 0 m σ H)/\∀ i m σ H,W i m σ H -> ((Itr lo n).stop i H/\D.nx σ H)∨((Itr lo n).go i H/\∃ N:St->Hp->Prop,(∀ σ' H',N σ' H'->∃ m',m'<m/\W (i+1) m' σ' H')/\∀ x H',(Itr lo n).yld i H x H'->g x σ H' λσ2 H2=>tb { D with nx:=N,ct:=N,bk:=D.nx } σ2 H2):=by
 refine ⟨λi m σ H=>m=n-i/\i<=n/\Pv i σ H,⟨n,by simp,uY _,h0⟩,?_⟩;rintro i m σ H ⟨rfl,hi,p⟩;by_cases hlt:i<n
 ·refine .inr ⟨hlt,Pv (i+1),λσ' H' p'=>⟨n-(i+1),by omega,rfl,hlt,p'⟩,λx H' y=>?_⟩;obtain ⟨e,y⟩:=y;subst e y;exact hs i σ _ hlt p
 ·have e:i=n:=by omega
  subst e;exact .inl ⟨yV _,hd σ H p⟩
abbrev R2:=V->V->Hp->VK->Prop
variable{r r':R2}
def OpR (X:Cx)(f:Value->Value->Sem Value)(r:R2):Prop :=
 ∀(pins:List (Addr×Obj))(s:Shared)(σ:St)(H:Hp)(x y:V)(v u:Value)(Q:VK),Inv X pins σ H s->RelV x v->RelV y u->r x y H Q ->
  wpAny (model X.prog X.w) X.A (f v u) (EP X pins σ Q) X.xe s
def UnR (X:Cx)(f:Value->Sem Value)(r:V->Hp->VK->Prop):Prop :=
 ∀(pins:List (Addr×Obj))(s:Shared)(σ:St)(H:Hp)(x:V)(v:Value)(Q:VK),Inv X pins σ H s->RelV x v->r x H Q ->
  wpAny (model X.prog X.w) X.A (f v) (EP X pins σ Q) X.xe s
def CallR (X:Cx)(f:Value)(r:List V->Hp->VK->Prop):Prop :=
 ∀(pins:List (Addr×Obj))(s:Shared)(σ:St)(H:Hp)(xs:List V)(us:List Value)(Q:VK),Inv X pins σ H s->Vals xs us->r xs H Q ->
  wpAny (model X.prog X.w) X.A (call f us) (EP X pins σ Q) X.xe s
def TruR (X:Cx)(r:V->Hp->(Bool->Hp->Prop)->Prop):Prop :=
 ∀(pins:List (Addr×Obj))(s:Shared)(σ:St)(H:Hp)(x:V)(v:Value)(Q:Bool->Hp->Prop),Inv X pins σ H s->RelV x v->r x H Q ->
  wpAny (model X.prog X.w) X.A (truthy v) (TP X pins σ Q) X.xe s
def tOp (r:R2)(ta tb:TE):TE:=λσ H Q=>ta σ H λx H1=>tb σ H1 λy H2=>r x y H2 Q
def tUn (r:V->Hp->VK->Prop)(ta:TE):TE:=λσ H Q=>ta σ H λx H1=>r x H1 Q
def rI (C:Int->Int->Prop)(g:Int->Int->V):R2:=λx y H Q=>∃ i j,x = .int i/\y = .int j/\C i j/\Q (g i j) H
def rI0 (g:Int->Int->V):R2:=λx y H Q=>∃ i j,x = .int i/\y = .int j/\Q (g i j) H
def rU (g:Int->V):V->Hp->VK->Prop:=λx H Q=>∃ i,x = .int i/\Q (g i) H
section
variable {X:Cx}{a b c:Expr}{ta tb tc:TE}{pos:Pos}
theorem binT (ha:PE X a ta)(hb:PE X b tb)(I:Inv X pins σ H s)(h:ta σ H λx H1=>tb σ H1 λy H2=>R x y H2)(hf:∀ v u s2 x y H2,Inv X pins σ H2 s2->RelV x v->RelV y u->R x y H2->wpAny (model X.prog X.w) X.A (f v u) Q X.xe s2):wpAny (model X.prog X.w) X.A (eval a X.env) (λv s₁=>wpAny (model X.prog X.w) X.A (eval b X.env) (λu s₂=>wpAny (model X.prog X.w) X.A (f v u) Q X.xe s₂) X.xe s₁) X.xe s:=by refine j6 (ha pins s σ H _ I h) λv s1 ⟨x,H1,I1,r1,q1⟩=>?_;refine j6 (hb pins s1 σ H1 _ I1 q1) λu s2 ⟨y,H2,I2,r2,q2⟩=>?_;exact hf v u s2 x y H2 I2 r1 r2 q2
theorem y8 {op:Operator}(ho:OpR X (binaryOp op) r)(ha:PE X a ta)(hb:PE X b tb):PE X (.BinOp a op b pos) (tOp r ta tb):=by intro pins s σ H Q I h;exact wpAny_BinOp (binT ha hb I h λv u s2 x y H2 I2 rx ry q=>ho pins s2 σ H2 x y v u Q I2 rx ry q)
theorem Jn {op:UnaryOp}{r:V->Hp->VK->Prop}(ho:UnR X (unaryOp op) r)(ha:PE X a ta):PE X (.UnaryOp op a pos) (tUn r ta):=by intro pins s σ H Q I h;exact UnaryOp_ (j6 (ha pins s σ H _ I h) λv s1 ⟨x,H1,I1,r1,q1⟩=>ho pins s1 σ H1 x v Q I1 r1 q1)
theorem opI {C:Int->Int->Prop}{g:Int->Int->Int}(rule:∀(i j:Int)(t u:Tok)(s:Shared)(Q:Value->Shared->Prop)(E:Value->Shared->Prop),C i j->Q (.int (g i j) s.toks) { s with toks:=s.toks+1 }->wpAny (model X.prog X.w) X.A (f (.int i t) (.int j u)) Q E s):OpR X f (rI C λi j=> .int (g i j)):=by intro pins s σ H x y v u Q I rx ry h;obtain ⟨i,j,rfl,rfl,hc,q⟩:=h;obtain ⟨t,rfl⟩:=rx;obtain ⟨t',rfl⟩:=ry;exact rule i j t t' s _ _ hc ⟨.int (g i j),H,I.tok _,⟨_,rfl⟩,q⟩
theorem opI0 {g:Int->Int->Int}(rule:∀(i j:Int)(t u:Tok)(s:Shared)(Q:Value->Shared->Prop)(E:Value->Shared->Prop),Q (.int (g i j) s.toks) { s with toks:=s.toks+1 }->wpAny (model X.prog X.w) X.A (f (.int i t) (.int j u)) Q E s):OpR X f (rI0 λi j=> .int (g i j)):=by intro pins s σ H x y v u Q I rx ry h;obtain ⟨i,j,rfl,rfl,q⟩:=h;obtain ⟨t,rfl⟩:=rx;obtain ⟨t',rfl⟩:=ry;exact rule i j t t' s _ _ ⟨.int (g i j),H,I.tok _,⟨_,rfl⟩,q⟩
theorem opB0 {g:Int->Int->Bool}(rule:∀(i j:Int)(t u:Tok)(s:Shared)(Q:Value->Shared->Prop)(E:Value->Shared->Prop),Q (.bool (g i j)) s->wpAny (model X.prog X.w) X.A (f (.int i t) (.int j u)) Q E s):OpR X f (rI0 λi j=> .bl (g i j)):=by intro pins s σ H x y v u Q I rx ry h;obtain ⟨i,j,rfl,rfl,q⟩:=h;obtain ⟨t,rfl⟩:=rx;obtain ⟨t',rfl⟩:=ry;exact rule i j t t' s _ _ ⟨.bl (g i j),H,I,rfl,q⟩
def jQ (i j:Int):Prop:=0<=j/\j<=1000000/\i.natAbs<2 ^ 64
def CMul (i j:Int):Prop:=(-(2 ^ 64)<i/\i<2 ^ 64)∨(-(2 ^ 64)<j/\j<2 ^ 64)
theorem CMul.ok {i j:Int}(h:CMul i j):IntMulOk i j:=by
 rcases h with ⟨h1,h2⟩|⟨h1,h2⟩
 ·exact .of_left (intBits_le_64 h1 h2)
 ·exact .of_right (intBits_le_64 h1 h2)
theorem op_add:OpR X (binaryOp .Add) (rI0 λi j=> .int (i+j)):=opI0 λ_ _ _ _ _ _ _ q=>add_int q
theorem Xw:OpR X (binaryOp .Sub) (rI0 λi j=> .int (i-j)):=opI0 λ_ _ _ _ _ _ _ q=>sub_int q
theorem Qt:OpR X (binaryOp .Mult) (rI CMul λi j=> .int (i*j)):=opI λ_ _ _ _ _ _ _ hc q=>mul_int q hc.ok
theorem vY:OpR X (binaryOp .Mod) (rI (λ_ j=>0<j) λi j=> .int (i % j)):=opI λi j _ _ _ _ _ hc q=>by
 have h1:(0:Int)<j:=hc;exact mod_int' (by omega) (by rw [Int.fmod_eq_emod_of_nonneg i (by omega)];exact q)
theorem Qu:OpR X (binaryOp .Pow) (rI jQ λi j=> .int (i ^ j.toNat)):=opI λ_ _ _ _ _ _ _ hc q=>pow_int_small hc.1 hc.2.1 hc.2.2 q
theorem unI {f:Value->Sem Value}{g:Int->Int}(rule:∀(i:Int)(t:Tok)(s:Shared)(Q:Value->Shared->Prop)(E:Value->Shared->Prop),Q (.int (g i) s.toks) { s with toks:=s.toks+1 }->wpAny (model X.prog X.w) X.A (f (.int i t)) Q E s):UnR X f (rU λi=> .int (g i)):=by intro pins s σ H x v Q I rx h;obtain ⟨i,rfl,q⟩:=h;obtain ⟨t,rfl⟩:=rx;exact rule i t s _ _ ⟨.int (g i),H,I.tok _,⟨_,rfl⟩,q⟩
theorem JB:UnR X (unaryOp .USub) (rU λi=> .int (-i)):=unI λ_ _ _ _ _ q=>neg_int q
end
section
variable {X:Cx}{a b c:Expr}{ta tb tc:TE}{pos:Pos}
theorem ZG {Q:VK}{k k':Bool}(I:Inv X pins σ H s)(q:Q (.bl k) H)(e:k=k'):EP X pins σ Q (.bool k') s:=by subst e;exact ⟨.bl k,H,I,rfl,q⟩
theorem Wa:OpR X (compareOp .Lt) (rI0 λi j=> .bl (decide (i<j))):=opB0 λ_ _ _ _ _ _ _ q=>lt_int q
theorem Qs:OpR X (compareOp .LtE) (rI0 λi j=> .bl (decide (i<=j))):=opB0 λ_ _ _ _ _ _ _ q=>le_int q
theorem VZ:OpR X (compareOp .Gt) (rI0 λi j=> .bl (decide (j<i))):=opB0 λ_ _ _ _ _ _ _ q=>gt_int q
theorem Ji:OpR X (compareOp .GtE) (rI0 λi j=> .bl (decide (j<=i))):=opB0 λ_ _ _ _ _ _ _ q=>ge_int q
theorem HQ:OpR X (compareOp .Is) (λx y H Q=>y = .non/\Q (.bl (decide (x = .non))) H):=by
 intro pins s σ H x y v u Q I rx ry h;obtain ⟨rfl,q⟩:=h;cases ry;refine is_none_gen (ZG I q ?_);cases x<;>first
  |(cases rx;rfl)
  |(obtain ⟨t,rfl⟩:=rx;rfl)
theorem HU:OpR X (compareOp .IsNot) (λx y H Q=>y = .non/\Q (.bl (!decide (x = .non))) H):=by
 intro pins s σ H x y v u Q I rx ry h;obtain ⟨rfl,q⟩:=h;cases ry;refine isnot_none_gen (ZG I q ?_);cases x<;>first
  |(cases rx;rfl)
  |(obtain ⟨t,rfl⟩:=rx;rfl)
theorem OpR.or (h:OpR X f r)(h':OpR X f r'):OpR X f (λx y H Q=>r x y H Q∨r' x y H Q):=by
 intro pins s σ H x y v u Q I rx ry q;rcases q with q|q
 ·exact h pins s σ H x y v u Q I rx ry q
 ·exact h' pins s σ H x y v u Q I rx ry q
theorem i5 (b:Expr)(h:op ≠ .In:=by decide)(h2:op ≠ .NotIn:=by decide):behindInMarks op b=false:=by
 have e1:(op==CmpOp.In)=false:=by cases op<;>first|rfl|exact absurd rfl h
 have e2:(op==CmpOp.NotIn)=false:=by cases op<;>first|rfl|exact absurd rfl h2
 cases b<;>simp [behindInMarks,e1,e2]
theorem jG (ho:OpR X (compareOp op) r)(ha:PE X a ta)(hb:PE X b tb)(hm:behindInMarks op b=false):PE X (.Compare a [op] [b] pos) (tOp r ta tb):=by intro pins s σ H Q I h;exact wpAny_Compare1 (binT ha hb I h λv u s2 x y H2 I2 rx ry q=>ho pins s2 σ H2 x y v u Q I2 rx ry q) hm
def YR (t:TE):TT:=λσ H Q=>t σ H λx H'=>∃ k,x = .bl k/\Q k H'
theorem qq (ho:OpR X (compareOp op) r)(ha:PE X a ta)(hb:PE X b tb)(hm:behindInMarks op b=false):PT X (.Compare a [op] [b] pos) (YR (tOp r ta tb)):=by
 intro pins s σ H Q I h;refine wpAny_isTrue_Compare1 (j6 (ha pins s σ H _ I h) λv s1 ⟨x,H1,I1,r1,q1⟩=>j6 (hb pins s1 σ H1 _ I1 q1) λu s2 ⟨y,H2,I2,r2,q2⟩ =>
  j6 (ho pins s2 σ H2 x y v u _ I2 r1 r2 q2) λc s3 ⟨z,H3,I3,r3,k,e,q3⟩=>?_) hm
 subst e;cases r3;exact wpAny_truthy_bool ⟨H3,I3,q3⟩
def YO (r r':R2)(ta tb tc:TE):TE:=λσ H Q=>ta σ H λx H1=>tb σ H1 λy H2=>r x y H2 λz H3=>∃ k,z = .bl k /\
 (if k=true then tc σ H3 λw' H4=>r' y w' H4 Q else Q (.bl false) H3)
theorem BH (ho:OpR X (compareOp op) r)(ho':OpR X (compareOp op') r')(ha:PE X a ta)(hb:PE X b tb)(hc:PE X c tc)(hm:lastMarks [op,op'] [b,c]=false:=by with_unfolding_all rfl):PE X (.Compare a [op,op'] [b,c] pos) (YO r r' ta tb tc):=by
 intro pins s σ H Q I h;refine Compare_chain (j6 (ha pins s σ H _ I h) λv s1 ⟨x,H1,I1,r1,q1⟩=>chain_link (j6 (hb pins s1 σ H1 _ I1 q1) λu s2 ⟨y,H2,I2,r2,q2⟩ =>
  j6 (ho pins s2 σ H2 x y v u _ I2 r1 r2 q2) λd s3 ⟨z,H3,I3,r3,k,e,q3⟩=>?_)) hm
 subst e;cases r3;refine wpAny_truthy_bool ?_;cases k with
 |false=>exact ite_ff ⟨.bl false,H3,I3,rfl,q3⟩
 |true=>exact ite_tt (chain_last (j6 (hc pins s3 σ H3 _ I3 q3) λw' s4 ⟨z',H4,I4,r4,q4⟩=>ho' pins s4 σ H4 y z' u w' Q I4 r2 r4 q4))
theorem BQ (ho:OpR X (compareOp op) r)(ho':OpR X (compareOp op') r')(ha:PE X a ta)(hb:PE X b tb)(hc:PE X c tc)(hm:lastMarks [op,op'] [b,c]=false:=by with_unfolding_all rfl):PT X (.Compare a [op,op'] [b,c] pos) (YR (YO r r' ta tb tc)):=by
 intro pins s σ H Q I h;refine isTrue_chain (j6 (ha pins s σ H _ I h) λv s1 ⟨x,H1,I1,r1,q1⟩=>test_link (j6 (hb pins s1 σ H1 _ I1 q1) λu s2 ⟨y,H2,I2,r2,q2⟩ =>
  j6 (ho pins s2 σ H2 x y v u _ I2 r1 r2 q2) λd s3 ⟨z,H3,I3,r3,k,e,q3⟩=>?_)) hm
 subst e;cases r3;refine wpAny_truthy_bool ?_;cases k with
 |false=>obtain ⟨k',e',q'⟩:=q3;cases e';exact ite_ff ⟨H3,I3,q'⟩
 |true=>refine ite_tt (test_last (j6 (hc pins s3 σ H3 _ I3 q3) λw' s4 ⟨z',H4,I4,r4,q4⟩=>j6 (ho' pins s4 σ H4 y z' u w' _ I4 r2 r4 q4) λd' s5 ⟨z2,H5,I5,r5,k2,e2,q5⟩=>?_));subst e2;cases r5;exact wpAny_truthy_bool ⟨H5,I5,q5⟩
def TruV (K:Fg)(x:V)(H:Hp)(k:Bool):Prop :=
 match x with
 | .non=>k=false
 | .bl b=>k=b
 | .int i=>k=(i != 0)
 | .str y=>y.length<=sizeLine/\k=((y.length:Int) != 0)
 | .byt y=>y.size<=sizeLine/\k=((y.size:Int) != 0)
 | .ref p=>(∃ xs,SqL K H p xs/\k=!xs.isEmpty)∨(∃ xs,SqT K H p xs/\k=!xs.isEmpty)∨∃ kvs,H p=some (.dK kvs)/\k=!kvs.isEmpty
 |_=>False
theorem Lm {κ:Type}{kvs:List (κ×V)}{vs:List (κ×Value)}(r:KV kvs vs):(!vs.isEmpty)=!kvs.isEmpty:=by cases r<;>rfl
theorem KQ {its:List Value}(r:Vals xs its):(!its.toArray.isEmpty)=!xs.isEmpty:=by cases r<;>simp
theorem vS:(sizeLine:Nat)<2 ^ 63:=by rw [sizeLine_eq];decide
theorem SF:TruR X (λx H Q=>∃ k,TruV X.K x H k/\Q k H):=by
 intro pins s σ H x v Q I rx h;obtain ⟨k,e,q⟩:=h;have hl:=vS;have hs:sizeLine=16777216:=sizeLine_eq;cases x with
 |non=>cases rx;have e':k=false:=e;subst e';exact truthy_none ⟨H,I,q⟩
 |bl b=>cases rx;have e':k=b:=e;subst e';exact wpAny_truthy_bool ⟨H,I,q⟩
 |int i=>obtain ⟨t,rfl⟩:=rx;have e':k=(i != 0):=e;subst e';exact PySem.P.truthy_int ⟨H,I,q⟩
 |str y=>obtain ⟨t,rfl⟩:=rx;obtain ⟨hy,e'⟩:y.length<=sizeLine/\k=((y.length:Int) != 0):=e;subst e';exact PySem.P.truthy_str (by omega) ⟨H,I.tok _,q⟩
 |byt y=>obtain ⟨t,rfl⟩:=rx;obtain ⟨hy,e'⟩:y.size<=sizeLine/\k=((y.size:Int) != 0):=e;subst e';exact PySem.W.truthy_bytes (by omega) ⟨H,I.tok _,q⟩
 |ref p =>
  cases rx;have e':(∃ xs,SqL X.K H p xs/\k=!xs.isEmpty)∨(∃ xs,SqT X.K H p xs/\k=!xs.isEmpty)∨∃ kvs,H p=some (.dK kvs)/\k=!kvs.isEmpty:=e;rcases e' with ⟨xs,hx,e'⟩|⟨xs,hx,e'⟩|⟨kvs,hx,e'⟩
  ·subst e';obtain ⟨its,r,pl,hz⟩:=I.list hx;have hlen:=r.length;exact wpAny_truthy_list pl.isList (by simp only [yX];omega) ⟨H,I.tok _,by rw [KQ r];exact q⟩
  ·subst e';obtain ⟨its,r,pl,hz⟩:=I.tuple hx;have hlen:=r.length;exact truthy_tuple pl (by simp only [yX];omega) ⟨H,I.tok _,by rw [KQ r];exact q⟩
  ·subst e';obtain ⟨hz,hS,vs,r,m⟩:kvs.length<=sizeLine/\(p==sysModules)=false/\∃ vs,KV kvs vs/\s.heap.DictOf (qp X.prog X.w) p vs:=I.hok p _ hx;have hlen:kvs.length=vs.length:=Paired.length r;exact wpAny_truthy_dict hS m (by omega) ⟨H,I.tok _,by rw [Lm r];exact q⟩
 |_=>exact (show False from e).elim
theorem RL (ha:PE X a ta)(he:∀ whole,isTrue a X.env whole=(do let v <- whole;standAt a.pos;holding [v] (truthy v))):
  PT X a (λσ H Q=>ta σ H λx H'=>∃ k,TruV X.K x H' k/\Q k H'):=by
 intro pins s σ H Q I h;exact isTrue_plain (j6 (ha pins s σ H _ I h) λv s1 ⟨x,H1,I1,r1,q1⟩=>SF pins s1 σ H1 x v Q I1 r1 q1) (he _)
theorem op_add_str:OpR X (binaryOp .Add) (λx y H Q=>∃ i j,x = .str i/\y = .str j/\i.length+j.length<=sizeLine/\Q (.str (i++j)) H):=by intro pins s σ H x y v u Q I rx ry h;obtain ⟨i,j,rfl,rfl,hz,q⟩:=h;obtain ⟨t,rfl⟩:=rx;obtain ⟨t',rfl⟩:=ry;exact add_str (λt' tk=>⟨.str (i++j),H,I.tok _,⟨_,rfl⟩,q⟩) hz
theorem zq {x:V}(r:Vals [x] us):∃ u,us=[u]/\RelV x u:=by
 cases r with
 |cons r1 r2=>cases r2;exact ⟨_,rfl,r1⟩
theorem Ub {x:V}(r:Vals [x,y] us):∃ u w',us=[u,w']/\RelV x u/\RelV y w':=by
 cases r with
 |cons r1 r2 =>
  cases r2 with
  |cons r3 r4=>cases r4;exact ⟨_,_,rfl,r1,r3⟩
theorem DM (hc:X.calm=true):CallR X (.builtin "min") (λxs H Q=>∃ i j,xs=[.int i,.int j]/\Q (.int (if j<i then j else i)) H):=by
 intro pins s σ H xs us Q I r h;obtain ⟨i,j,rfl,q⟩:=h;obtain ⟨u,w',rfl,⟨t,rfl⟩,⟨t',rfl⟩⟩:=Ub r;refine min_two_ints (I.ok.hd hc) λh' tk k=>⟨_,H,I.kept k,?_,q⟩;by_cases hj:j<i
 ·rw [if_pos hj,if_pos hj];exact ⟨_,rfl⟩
 ·rw [if_neg hj,if_neg hj];exact ⟨_,rfl⟩
def LenV (K:Fg)(x:V)(H:Hp)(n:Nat):Prop :=
 match x with
 | .str y=>y.length<=sizeLine/\n=y.length
 | .byt y=>y.size<=sizeLine/\n=y.size
 | .ref p=>(∃ xs,SqL K H p xs/\n=xs.length)∨∃ xs,SqT K H p xs/\n=xs.length
 |_=>False
theorem DG:CallR X (.builtin "len") (λxs H Q=>∃ x n,xs=[x]/\LenV X.K x H n/\Q (.int n) H):=by
 intro pins s σ H xs us Q I r h;obtain ⟨x,n,rfl,e,q⟩:=h;obtain ⟨u,rfl,rx⟩:=zq r;have hl:=vS;have hs:sizeLine=16777216:=sizeLine_eq;cases x with
 |str y=>obtain ⟨t,rfl⟩:=rx;obtain ⟨hy,e'⟩:y.length<=sizeLine/\n=y.length:=e;subst e';exact len_str (by omega) ⟨.int _,H,I.tok _,⟨_,rfl⟩,q⟩
 |byt y=>obtain ⟨t,rfl⟩:=rx;obtain ⟨hy,e'⟩:y.size<=sizeLine/\n=y.size:=e;subst e';exact PySem.W.len_bytes (by omega) ⟨.int _,H,I.tok _,⟨_,rfl⟩,q⟩
 |ref p =>
  cases rx;have e':(∃ xs,SqL X.K H p xs/\n=xs.length)∨∃ xs,SqT X.K H p xs/\n=xs.length:=e;rcases e' with ⟨xs,hx,e'⟩|⟨xs,hx,e'⟩
  ·subst e';obtain ⟨its,r',pl,hz⟩:=I.list hx;have hlen:=r'.length;exact Calls.call_len_list pl.isList (by simp only [yX];omega) ⟨.int xs.length,H,I.tok _,⟨_,by simp only [yX];rw [hlen]⟩,q⟩
  ·subst e';obtain ⟨its,r',pl,hz⟩:=I.tuple hx;have hlen:=r'.length;exact len_tuple pl (by simp only [yX];omega) ⟨.int xs.length,H,I.tok _,⟨_,by simp only [yX];rw [hlen]⟩,q⟩
 |_=>exact (show False from e).elim
end
structure ObjM (h:Heap)(x dx C:Addr)(mA:Str->Option Value):Prop where
 obj:h.get? x=some (PySem.W.instObj C dx)
 ns:h.Ns1 dx mA
 ne:dx≠x
theorem Na (n:h.Ns1 dx mA):∃ od,h.get? dx=some od/\∀ name,PySem.W.lookIn name od=some (mA name):=by
 obtain ⟨o,es,ep,ho,hd,hk,_,hm⟩:=n;refine ⟨o,ho,λname=>?_⟩;have e:=hm name;unfold nsFind findBy at e;rw [<- Array.find?_toList] at e;unfold PySem.W.lookIn;rw [hd]
 dsimp only
 split
 ·rename_i y q;rw [q] at e;exact congrArg some e
 ·rename_i q;rw [q] at e;have a:es.toList.any (·.refKey)=false:=by rw [List.any_eq_false];intro y hy;obtain ⟨z,t,hkey⟩:=hk y (Array.mem_toList_iff.mp hy);simp [DictEntry.refKey,hkey]
  have a':¬ es.toList.any (·.refKey)=true:=by rw [a];exact yS
  rw [if_neg a'];exact congrArg some e
theorem ObjM.look {x:Addr}(I:ObjM h x dx C mA):∃ od,PySem.W.InstAt h x (PySem.W.instObj C dx) C (some od)/\∀ name,PySem.W.lookIn name od=some (mA name) :=
 let ⟨od,ho,hl⟩:=Na I.ns
 ⟨od,⟨I.obj,rfl,rfl,ho⟩,hl⟩
section
variable {prog:Program}{w:World}{A:Around}{E:Value->Shared->Prop}{s:Shared}{K:Fg}{x dx C f:Addr}{mA:Str->Option Value}{name:Str}{v:Value}
theorem ML {expr:Bool}(X:K.In s.heap)(I:ObjM s.heap x dx C mA)(hg:PySem.W.plainGet K C name=true)(hh:PySem.W.hasDictIn K C=true)(ha:PySem.W.findIn K (.ref C) name=some none)(hv:mA name=some v)(hv':PySem.W.handedIn v=true)(h:Q v { s with toks:=s.toks+1 }):wpAny (model prog w) A (getAttr (.ref x) name expr) Q E s:=by obtain ⟨od,J,hl⟩:=I.look;exact PySem.W.get_value X J (PySem.W.plainGet_of hg).1 (PySem.W.findObj_own hh ha rfl (by rw [hl,hv])) hv' h
theorem MN {Q:Value×List Value->Shared->Prop}(X:K.In s.heap)(I:ObjM s.heap x dx C mA)(hg:PySem.W.plainGet K C name=true)(hf:PySem.W.findIn K (.ref C) name=some (some (.ref f)))(ht:PySem.W.isFn K (.ref f)=true)(hv:mA name=none)(h:Q (.ref f,[.ref x]) s):wpAny (model prog w) A (getMethod (.ref x) name pl) Q E s:=by obtain ⟨od,J,hl⟩:=I.look;exact PySem.W.method_fn X J (PySem.W.plainGet_of hg).1 (PySem.W.plainGet_of hg).2 hf (beq_iff_eq.mp ht) (by show (PySem.W.lookIn name od).map (·.isSome)=some false;rw [hl,hv];rfl) h
theorem Sm {ns:List Str}{Q:Unit->Shared->Prop}(X:K.In s.heap)(I:ObjM s.heap x dx C mA)(hs:PySem.W.findIn K (.ref C) "__setattr__"=some (some (.builtin "object.__setattr__")))(hp:PySem.W.plainOver K C=true)(ht:PySem.W.takerIn K C name=some none)(hh:PySem.W.hasDictIn K C=true)(hw:PySem.Within mA ns)(hsz:ns.length<=sizeLine)(h:∀ h',ObjM h' x dx C (λy=>if y=name then some v else mA y)->Heap.SameBut dx s.heap h'->Q () { s with heap:=h',toks:=s.toks+2 }):wpAny (model prog w) A (setAttr (.ref x) name v) Q E s:=by obtain ⟨od,J,hl⟩:=I.look;refine PySem.W.set_plain X J hs (PySem.W.osa_open (s:={ s with toks:=s.toks+1 }) (r:=none) X J hp ht λb=>?_);obtain ⟨cd,hc,hd'⟩:=PySem.W.any_some hh;have hx:s.heap.get? x=some ⟨.ref C,some dx,.plain,#[]⟩:=I.obj;refine yR (yx (yR (yR (wpAny_loadPart hx (yR (PySem.W.Looks.here (s:={ s with toks:=s.toks+1 }) (PySem.W.looks_clsIn X hc) ?_))))));rw [hd'];refine yx (a:=some dx) (yR (yx (yR ?_)));refine wpAny_nsSet1 (s:={ s with toks:=s.toks+1 }) I.ns λh' hn2 hs2=>?_;obtain ⟨oD,esD,epD,hoD,hdD,hcD⟩:=hn2.count (PySem.Within.cons name v hw);refine yR (wpAny_lookBehind hoD (by rw [hdD];exact pastItsLine_dict (ym hcD (by rw [yF];omega))) ?_);exact yx (h _ ⟨(hs2.2 _ (Ne.symm I.ne)).trans I.obj,hn2,I.ne⟩ hs2)
theorem Nh {R:Result->Shared->Prop}{vs:List Value}(X:K.In s.heap)(hm:PySem.W.makesIn K C=true)(hi:PySem.W.findIn K (.ref C) "__init__"=some (some (.ref f)))(hf:PySem.W.typeIn K (.ref f)=some (.type "function"))(h:codeAny (model prog w) (A.under (.builtin "type.__call__" ⟨.ref C::vs,kw⟩)) (.call (.ref f) ⟨.ref (s.heap.objs.size+1)::vs,kw⟩) (PySem.W.InitBack (s.heap.objs.size+1) R) { s with heap:=(s.heap.push PySem.W.emptyDict).push (PySem.W.instObj C s.heap.objs.size) }):codeAny (model prog w) A (.call (.ref C) ⟨vs,kw⟩) R s:=by obtain ⟨hh,g,d,t,os⟩:=s;exact PySem.W.make_core (PySem.W.makes_of X hm) (PySem.W.looks_findIn X hi) (λself=>PySem.W.bind_fn X self hf) (.inl rfl) h
end
def xh (f:Str)(v:V):List (Str×V)->List (Str×V)
 |[]=>[(f,v)]
 |(g,x)::r=>if g=f then (g,v)::r else (g,x)::xh f v r
theorem Bp (f g:Str)(v:V):∀ fs:List (Str×V),(xh f v fs).lookup g=if g=f then some v else fs.lookup g
 |[]=>by
  show List.lookup g [(f,v)]=_;by_cases h:g=f
  ·have hb:(g==f)=true:=beq_iff_eq.mpr h;simp only [List.lookup,hb,if_pos h]
  ·have hb:(g==f)=false:=beq_eq_false_iff_ne.mpr h;simp only [List.lookup,hb,if_neg h]
 |(k,x)::r=>by
  have ih:=Bp f g v r;rw [show xh f v ((k,x)::r)=(if k=f then (k,v)::r else (k,x)::xh f v r) from rfl];by_cases hk:k=f
  ·rw [if_pos hk];by_cases h:g=k
   ·have hb:(g==k)=true:=beq_iff_eq.mpr h;simp only [List.lookup,hb,if_pos (h.trans hk)]
   ·have hb:(g==k)=false:=beq_eq_false_iff_ne.mpr h;simp only [List.lookup,hb,if_neg (λe:g=f=>h (e.trans hk.symm))]
  ·rw [if_neg hk];by_cases h:g=k
   ·have hb:(g==k)=true:=beq_iff_eq.mpr h;simp only [List.lookup,hb,if_neg (λe:g=f=>hk (h.symm.trans e))]
   ·have hb:(g==k)=false:=beq_eq_false_iff_ne.mpr h;simp only [List.lookup,hb];exact ih
theorem VD (f:Str)(v:V):∀ fs:List (Str×V),f∈(xh f v fs).map (·.1)/\∀ g,g∈fs.map (·.1)->g∈(xh f v fs).map (·.1)
 |[]=>⟨by simp [xh],λg h=>by simp at h⟩
 |(k,x)::r=>by
  obtain ⟨i1,i2⟩:=VD f v r;rw [show xh f v ((k,x)::r)=(if k=f then (k,v)::r else (k,x)::xh f v r) from rfl];by_cases hk:k=f
  ·rw [if_pos hk];subst hk;exact ⟨by simp,λg h=>by simpa using h⟩
  ·rw [if_neg hk];refine ⟨?_,λg h=>?_⟩
   ·rw [yO];exact yW _ i1
   ·rw [yO] at h ⊢;rcases yH.mp h with e|e
    ·exact yH.mpr (.inl e)
    ·exact yW _ (i2 g e)
theorem Bk (f:Str)(v:V):∀ fs:List (Str×V),(xh f v fs).length<=fs.length+1
 |[]=>by simp [xh]
 |(k,x)::r=>by
  have ih:=Bk f v r;rw [show xh f v ((k,x)::r)=(if k=f then (k,v)::r else (k,x)::xh f v r) from rfl];by_cases hk:k=f
  ·rw [if_pos hk,yF,yF];omega
  ·rw [if_neg hk,yF,yF];omega
theorem RelO.some_of {o:Option Value}(r:RelO (some v) o):∃ u,o=some u/\RelV v u:=by
 cases o with
 |none=>exact (show False from r).elim
 |some u=>exact ⟨u,rfl,r⟩
theorem RelO.none_of {o:Option Value}(r:RelO none o):o=none:=by
 cases o with
 |none=>rfl
 |some u=>exact (show False from r).elim
theorem MP (r:RelV v u):PySem.W.handedIn u=true:=by
 cases v with
 |non=>cases (show u=Value.none from r);rfl
 |bl b=>cases (show u=Value.bool b from r);rfl
 |int i=>obtain ⟨t,e⟩:=(show ∃ t,u=Value.int i t from r);cases e;rfl
 |str x=>obtain ⟨t,e⟩:=(show ∃ t,u=Value.str x t from r);cases e;rfl
 |byt b=>obtain ⟨t,e⟩:=(show ∃ t,u=Value.bytes b t from r);cases e;rfl
 |flt b=>obtain ⟨t,e⟩:=(show ∃ t,u=Value.float b t from r);cases e;rfl
 |ref a=>cases (show u=Value.ref a from r);rfl
 |ty n=>cases (show u=Value.type n from r);rfl
section
variable {P:Program}{w:World}{H H':Hp}{h h':Heap}{a C dx:Addr}{fs fs':List (Str×V)}
theorem ZL (hok:HOk P w H h)(e:H a=some (.ins C dx fs)):∃ mA,ObjM h a dx C mA/\(∀ f,RelO (fs.lookup f) (mA f))/\PySem.Within mA (fs.map (·.1))/\fs.length<=1000/\H dx=some (.own a):=by obtain ⟨d,z,ne,ob,mA,n,r,q⟩:=(show ObjOk P w H h a (.ins C dx fs) from hok a _ e);exact ⟨mA,⟨ob,n,ne⟩,r,q,z,d⟩
end
structure Cls (K:Fg)(C:Addr):Prop where
 pg:PySem.W.plainGet K C Str.empty=true
 hd:PySem.W.hasDictIn K C=true
 po:PySem.W.plainOver K C=true
 sa:PySem.W.findIn K (.ref C) "__setattr__"=some (some (.builtin "object.__setattr__"))
theorem Cls.get (c:Cls K C)(f:Str):PySem.W.plainGet K C f=true:=c.pg
def NoAttr (K:Fg)(C:Addr)(f:Str):Prop:=PySem.W.findIn K (.ref C) f=some none
theorem NoAttr.taker {f:Str}(n:NoAttr K C f):PySem.W.takerIn K C f=some none:=by unfold PySem.W.takerIn;rw [show PySem.W.findIn K (.ref C) f=some none from n];rfl
structure QJ (K:Fg)(C:Addr)(m:Str)(f:Addr):Prop where
 at_:PySem.W.findIn K (.ref C) m=some (some (.ref f))
 fn:PySem.W.isFn K (.ref f)=true
 kp:PySem.W.keepIn K (.ref f)=true
section
variable {X:Cx}{pins:List (Addr×Obj)}{σ:St}{H:Hp}{s:Shared}{a C dx:Addr}{fs:List (Str×V)}{f:Str}{v:V}{A:Around}{E:Value->Shared->Prop}
theorem MO {b:Bool}(I:Inv X pins σ H s)(e:H a=some (.ins C dx fs))(c:Cls X.K C)(n:NoAttr X.K C f)(l:fs.lookup f=some v)(h:∀ u s',Inv X pins σ H s'->RelV v u->Q u s'):wpAny (model X.prog X.w) A (getAttr (.ref a) f b) Q E s:=by obtain ⟨mA,O,r,_,_,_⟩:=ZL I.hok e;obtain ⟨u,hu,ru⟩:=RelO.some_of (v:=v) (o:=mA f) (by rw [<- l];exact r f);exact ML I.kIn O (c.get f) c.hd n hu (MP ru) (h u _ (I.tok _) ru)
theorem Vo {g:Addr}{Q:Value×List Value->Shared->Prop}(I:Inv X pins σ H s)(e:H a=some (.ins C dx fs))(c:Cls X.K C)(k:QJ X.K C m g)(l:fs.lookup m=none)(h:Q (.ref g,[.ref a]) s):wpAny (model X.prog X.w) A (getMethod (.ref a) m pl) Q E s:=by obtain ⟨mA,O,r,_,_,_⟩:=ZL I.hok e;have hn:mA m=none:=RelO.none_of (by rw [<- l];exact r m);exact MN I.kIn O (c.get m) k.at_ k.fn hn h
theorem So {Q:Unit->Shared->Prop}(I:Inv X pins σ H s)(e:H a=some (.ins C dx fs))(c:Cls X.K C)(n:NoAttr X.K C f)(hl:fs.length<1000)(ry:RelV y u)(h:∀ s',Inv X pins σ (v9 H a (.ins C dx (xh f y fs))) s'->Q () s'):wpAny (model X.prog X.w) A (setAttr (.ref a) f u) Q E s:=by
 obtain ⟨mA,O,r,wi,_,ho⟩:=ZL I.hok e;have hz:(fs.map (·.1)).length<=sizeLine:=by rw [yZ,sizeLine_eq];omega
 refine Sm I.kIn O c.sa c.po n.taker c.hd wi hz λh' O' sb=>h _ ?_;have hd:∃ o,h'.get? dx=some o:=let ⟨o,_,_,e',_⟩:=O'.ns;⟨o,e'⟩
 refine I.write (x:=a) (e:=dx) (by rw [e];exact True.intro) (.inr ho) (λb q hb z=>(sb.2 b hb).trans z) hd ?_;refine ⟨by rw [j9 O.ne];exact ho,?_,O.ne,O'.obj,_,O'.ns,λg=>?_,λg hg=>?_⟩
 ·have:=Bk f y fs;omega
 ·show RelO ((xh f y fs).lookup g) (if g=f then some u else mA g);rw [Bp];by_cases q:g=f
  ·rw [if_pos q,if_pos q];exact ry
  ·rw [if_neg q,if_neg q];exact r g
 ·by_cases q:g=f
  ·rw [q];exact (VD f y fs).1
  ·refine (VD f y fs).2 g (wi g λz=>hg ?_);show (if g=f then some u else mA g)=none;rw [if_neg q];exact z
theorem Inv.made (I:Inv X pins σ H s):Inv X pins σ (v9 (v9 H s.heap.objs.size (.own (s.heap.objs.size+1))) (s.heap.objs.size+1) (.ins C s.heap.objs.size [])) { s with heap:=(s.heap.push PySem.W.emptyDict).push (PySem.W.instObj C s.heap.objs.size) }:=by
 have e1:(s.heap.push PySem.W.emptyDict).get? s.heap.objs.size=some PySem.W.emptyDict:=yD s.heap rfl;have e2:((s.heap.push PySem.W.emptyDict).push (PySem.W.instObj C s.heap.objs.size)).get? (s.heap.objs.size+1)=some (PySem.W.instObj C s.heap.objs.size):=by have:=yD (s.heap.push PySem.W.emptyDict) (o:=PySem.W.instObj C s.heap.objs.size) rfl;rwa [ux] at this
 have e3:(s.heap.push PySem.W.emptyDict).Ns s.heap.objs.size (λ_=>none):=⟨PySem.W.emptyDict,#[],_,e1,rfl,(λe he=>absurd he (by simp)),λ_=>rfl⟩;have I1:=I.laid (a:=s.heap.objs.size) (o:= .own (s.heap.objs.size+1)) (h':=s.heap.push PySem.W.emptyDict) (t':=s.toks) (λb u q=>yT _ q) (yV _) ⟨_,e1⟩;refine I1.laid (a:=s.heap.objs.size+1) (o:= .ins C s.heap.objs.size []) (t':=s.toks) (λb u q=>yT _ q) (Nat.le_of_eq (ux _ _)) ?_;have ne:s.heap.objs.size≠s.heap.objs.size+1:=yL (uj _);refine ⟨by rw [j9 ne,g0],uY _,ne,e2,λ_=>none,(Heap.Ns1.of_empty e3).at λo q=>yT _ q,λ_=>True.intro,λy hy=>absurd rfl hy⟩
theorem Dk {prog:Program}{env:Env}{f:Str}{s:Shared}(hb:attributeBase e f env (eval e env)=eval e env)(h:wpAny (model prog w) A (eval e env) (λo s₁=>wpAny (model prog w) A (getAttr o f true) Q E s₁) E s):wpAny (model prog w) A (eval (.Attribute e f pos) env) Q E s :=
 Attribute_any_ h (by rw [arm_eval_Attribute,hb])
end
def tFld (K:Fg)(ta:TE)(f:Str):TE:=λσ H Q=>ta σ H λx H1=>∃ a C dx fs v,x = .ref a/\H1 a=some (.ins C dx fs)/\Cls K C/\NoAttr K C f/\fs.lookup f=some v/\Q v H1
def XN (K:Fg)(ta tv:TE)(f:Str):TS:=λD σ H=>tv σ H λy H1=>ta σ H1 λx H2=>∃ a C dx fs,x = .ref a/\H2 a=some (.ins C dx fs)/\Cls K C/\NoAttr K C f/\fs.length<1000 /\
 D.nx σ (v9 H2 a (.ins C dx (xh f y fs)))
section
variable {X:Cx}{o e value:Expr}{f:Str}{pos pos' tpos:Pos}{ta tv:TE}
theorem Rg (he:PE X e ta)(hb:attributeBase e f X.env (eval e X.env)=eval e X.env):PE X (.Attribute e f pos) (tFld X.K ta f):=by intro pins s σ H Q I h;refine Dk hb (j6 (he pins s σ H _ I h) λu s1 ⟨x,H1,I1,rx,a,C,dx,fs,v,ex,ea,c,n,l,q⟩=>?_);subst ex;obtain rfl:u=Value.ref a:=rx;exact MO I1 ea c n l λu' s2 I2 ru=>⟨v,H1,I2,ru,q⟩
theorem RI (ha:PE X o ta)(hv:PE X value tv)(hs:swapsWith value (some (.Attribute o f pos')) pos.line X.env=pure false):PS X (.Assign [.Attribute o f pos'] value pos) (XN X.K ta tv f):=by intro pins s σ H D I h;refine plainObj_wpAny_Assign_Attribute (j6 (hv pins s σ H _ I h) λu s1 ⟨y,H1,I1,ry,q⟩=>j6 (ha pins s1 σ H1 _ I1 q) λov s2 ⟨x,H2,I2,rx,a,C,dx,fs,ex,ea,c,n,l,q2⟩=>?_) hs;subst ex;obtain rfl:ov=Value.ref a:=rx;exact So I2 ea c n l ry λs3 I3=>⟨σ,_,I3,q2⟩
theorem Fe {apos:Pos}{args:List Expr}(he:PE X e te)(I:Inv X pins σ H s)
  (h:te σ H λx H1=>∃ a C dx fs g,x = .ref a/\H1 a=some (.ins C dx fs)/\Cls X.K C/\QJ X.K C m g/\fs.lookup m=none /\
   ∀ s1,Inv X pins σ H1 s1->wpAny (model X.prog X.w) X.A (callWith pos (.ref g) [.ref a] (backTo pos (starEach args X.env)) (backToKw pos (keywordEach [] X.env))) Q X.xe s1)
  (ht:eval (.Call (.Attribute e m apos) args [] pos) X.env=(do
   let ov <- eval e X.env
   standAt apos.atName
   let (f,first) <- holding [ov] (getMethod ov m pl)
   callWith pos f first (backTo pos (starEach args X.env)) (backToKw pos (keywordEach [] X.env)))) :
  wpAny (model X.prog X.w) X.A (eval (.Call (.Attribute e m apos) args [] pos) X.env) Q X.xe s:=by
 refine PySem.W.methodCall_KW (pl:=pl) (j6 (he pins s σ H _ I h) λu s1 ⟨x,H1,I1,rx,a,C,dx,fs,g,ex,ea,c,k,l,q⟩=>?_) ht;subst ex;obtain rfl:u=Value.ref a:=rx;exact Vo I1 ea c k l (q s1 I1)
end
section
variable {X:Cx}{pins:List (Addr×Obj)}{σ:St}{H:Hp}{s:Shared}{A:Around}{E:Value->Shared->Prop}{Q:Value->Shared->Prop}{c:Value}{b:Bool}
inductive xF (K:Fg)(H:Hp):V->Value->Prop where
 |non:xF K H .non (.type "NoneType")
 |bl (x:Bool):xF K H (.bl x) (.type "bool")
 |int (i:Int):xF K H (.int i) (.type "int")
 |str (x:Str):xF K H (.str x) (.type "str")
 |flt (x:UInt64):xF K H (.flt x) (.type "float")
 |lst {a:Addr} {xs:List V} (e:H a=some (.lst xs)):xF K H (.ref a) (.type "list")
 |frz {a:Addr} {o:Obj} {xs:List V} (e:H a=some (.frz o (.lst xs))):xF K H (.ref a) (.type "list")
 |tup {a:Addr} {xs:List V} (e:H a=some (.tup xs)):xF K H (.ref a) (.type "tuple")
 |dK {a:Addr} {kvs:List (j4×V)} (e:H a=some (.dK kvs)):xF K H (.ref a) (.type "dict")
 |dT {a:Addr} {kvs:List (List j4×V)} (e:H a=some (.dT kvs)):xF K H (.ref a) (.type "dict")
 |ins {a C dx:Addr} {fs:List (Str×V)} (e:H a=some (.ins C dx fs)) (cl:Cls K C) (ha:PySem.W.findIn K (.ref C) "__class__"=some (some (.builtin "object.__class__")))
   (hn:PySem.W.specialIn K (.builtin "object.__class__") "__get__"=some (some (.builtin "getset_descriptor.__get__"))) (htk:PySem.W.takesIn K (.builtin "object.__class__")=some true)
   (hm:PySem.W.mroIn K C (.type "object")=some true):xF K H (.ref a) (.ref C)
theorem Ls {x:V}{t:Value}(I:Inv X pins σ H s)(rx:RelV x u)(ty:xF X.K H x t)(e:PySem.W.kitOne X.K t c=some b)(h:∀ tk,Q (.bool b) { s with toks:=tk }):wpAny (model X.prog X.w) A (call (.builtin "isinstance") [u,c]) Q E s:=by
 cases ty with
 |non=>cases (show u=Value.none from rx);exact PySem.W.kia_one PySem.W.kitx_none I.kIn True.intro e (λz=>nomatch z) h
 |bl y=>cases (show u=Value.bool y from rx);exact PySem.W.kia_one PySem.W.kitx_bool I.kIn True.intro e (λz=>nomatch z) h
 |int i=>obtain ⟨t,q⟩:=(show ∃ t,u=Value.int i t from rx);cases q;exact PySem.W.kia_one PySem.W.kitx_int I.kIn True.intro e (λz=>nomatch z) h
 |str y=>obtain ⟨t,q⟩:=(show ∃ t,u=Value.str y t from rx);cases q;exact PySem.W.kia_one PySem.W.kitx_str I.kIn True.intro e (λz=>nomatch z) h
 |flt y=>obtain ⟨t,q⟩:=(show ∃ t,u=Value.float y t from rx);cases q;exact PySem.W.kia_one PySem.W.kitx_float I.kIn True.intro e (λz=>nomatch z) h
 |@lst a xs ea=>cases (show u=Value.ref a from rx);obtain ⟨_,_,n,_,h1⟩:=(show ObjOk X.prog X.w H s.heap a (.lst xs) from I.hok a _ ea);exact PySem.W.kia_one PySem.W.kitx_list I.kIn ⟨_,h1,rfl⟩ e (λz=>nomatch z) h
 |@frz a ob xs ea=>cases (show u=Value.ref a from rx);obtain ⟨_,_,_,n,_,h1⟩:=(show ObjOk X.prog X.w H s.heap a (.frz ob (.lst xs)) from I.hok a _ ea);exact PySem.W.kia_one PySem.W.kitx_list I.kIn ⟨_,h1,rfl⟩ e (λz=>nomatch z) h
 |@tup a xs ea=>cases (show u=Value.ref a from rx);obtain ⟨_,_,_,p⟩:=(show ObjOk X.prog X.w H s.heap a (.tup xs) from I.hok a _ ea);obtain ⟨o,h1,h2,_⟩:=p;exact PySem.W.kia_one PySem.W.kitx_tuple I.kIn ⟨o,h1,h2⟩ e (λz=>nomatch z) h
 |@dK a kvs ea=>cases (show u=Value.ref a from rx);obtain ⟨_,_,vs,_,p⟩:=(show ObjOk X.prog X.w H s.heap a (.dK kvs) from I.hok a _ ea);obtain ⟨o,es,ep,h1,h2,_⟩:=p;exact PySem.W.kia_one PySem.W.kitx_dict I.kIn ⟨o,h1,h2.1⟩ e (λz=>nomatch z) h
 |@dT a kvs ea=>cases (show u=Value.ref a from rx);obtain ⟨_,_,xs,_,o,es,ep,h1,h2,_⟩:=(show ObjOk X.prog X.w H s.heap a (.dT kvs) from I.hok a _ ea);exact PySem.W.kia_one PySem.W.kitx_dict I.kIn ⟨o,h1,h2.1⟩ e (λz=>nomatch z) h
 |@ins a C dx fs ea cl ha hn htk hm=>cases (show u=Value.ref a from rx);obtain ⟨mA,O,_⟩:=ZL I.hok ea;obtain ⟨od,J,_⟩:=O.look;exact PySem.W.kia_one (PySem.W.kitx_own (cl.get _) cl.hd ha hn htk hm) I.kIn J e (λz=>nomatch z) h
end
structure Room (k:Nat)(A:Around):Prop where
 hd:A.handled=none
 dp:A.depth+3*k+5<recursionLimit
 un:A.units+16*k+200<cLine
theorem Room.mono {k:Nat}(r:Room k A)(h:j<=k):Room j A:=⟨r.hd,by have:=r.dp;omega,by have:=r.un;omega⟩
theorem Room.deeper {k:Nat}(r:Room (k+1) A)(env:Env):Room k (A.deeper env) :=
 ⟨r.hd,by have:=r.dp;show A.depth+1+3*k+5<_;omega,by have:=r.un;show A.units+3+16*k+200<_;omega⟩
theorem Room.in1 {k:Nat}(r:Room (k+1) A):Room k A.in1 :=
 ⟨r.hd,by have:=r.dp;show A.depth+3*k+5<_;omega,by have:=r.un;show A.units+1+16*k+200<_;omega⟩
theorem Ng :(A.under (.builtin "type.__call__" ⟨.ref C::us,kw⟩)).depth=A.depth+1:=by first|rfl|simp [Around.under,Code.weight,Code.isCreation,Code.isGuard,Code.isCaller,Code.frames,Code.isFrame,guardIds]
theorem Ni :(A.under (.builtin "type.__call__" ⟨.ref C::us,kw⟩)).units=A.units+1:=by first|rfl|simp [Around.under,Code.cUnits,Code.frames,Code.isFrame]
theorem Room.make {k:Nat}(r:Room (k+1) A)(C:Addr)(us:List Value)(kw:List (Str×Value)):Room k (A.under (.builtin "type.__call__" ⟨.ref C::us,kw⟩)) :=
 ⟨r.hd,by have:=r.dp;rw [Ng];omega,by have:=r.un;rw [Ni];omega⟩
theorem Room.depth {k:Nat}(r:Room k A):A.depth<recursionLimit:=by have:=r.dp;omega
theorem Room.units {k:Nat}(r:Room k A):A.units+64<cLine:=by have:=r.un;omega
def ql:TA:=λ_ H Q=>Q [] H
def i4 (ta:TE)(tr:TA):TA:=λσ H Q=>ta σ H λx H1=>tr σ H1 λxs H2=>Q (x::xs) H2
section
variable {X:Cx}{e:Expr}{es:List Expr}{te:TE}{t:TA}{pos:Pos}
theorem u9:PA X [] ql:=λ_ _ _ _ H Q I h=>Calls.spliced_nil ⟨[],H,I,.nil,h⟩
theorem v8 (ha:PE X e te)(hr:PA X es t)(hs:starEach (e::es) X.env=(false,eval e X.env)::starEach es X.env:=by rfl):PA X (e::es) (i4 te t):=by intro pos pins s σ H Q I h;rw [hs];show wpAny _ _ (spliced ((false,eval e X.env)::backTo pos (starEach es X.env))) _ _ s;refine Calls.spliced_cons (j6 (ha pins s σ H _ I h) λu s1 ⟨x,H1,I1,r1,q1⟩=>?_);exact j6 (hr pos pins s1 σ H1 _ I1 q1) λus s2 ⟨xs,H2,I2,r2,q2⟩=>⟨x::xs,H2,I2,.cons r1 r2,q2⟩
def tTup (t:TA):TE:=λσ H Q=>t σ H λxs H1=>xs.length<=sizeLine/\∀ p,H1 p=none->Q (.ref p) (v9 H1 p (.tup xs))
def tLst (t:TA):TE:=λσ H Q=>t σ H λxs H1=>xs.length<=sizeLine/\∀ p,H1 p=none->Q (.ref p) (v9 H1 p (.lst xs))
theorem xf {x1}(h:PA X es t):PE X (.Tuple es x1 pos) (tTup t):=by intro pins s σ H Q I hq;refine wpAny_Tuple_spliced (j6 (h pos pins s σ H _ I hq) λus s1 ⟨xs,H1,I1,r,z,q⟩=>⟨by rw [<- r.length];exact z,?_⟩);have hf:H1 s1.heap.objs.size=none:=I1.hok.fresh (yV _);refine ⟨.ref s1.heap.objs.size,v9 H1 s1.heap.objs.size (.tup xs),I1.laid (t':=s1.toks) (λb u e=>yT _ e) (yV _) ?_,rfl,q _ hf⟩;exact ⟨z,us,r,⟨_,yD _ rfl,rfl,_,rfl⟩⟩
theorem xD (h:PA X es t):PE X (.List es pos) (tLst t):=by intro pins s σ H Q I hq;refine wpAny_List_spliced (j6 (h pos pins s σ H _ I hq) λus s1 ⟨xs,H1,I1,r,z,q⟩=>⟨by rw [<- r.length];exact z,?_⟩);have hf:H1 s1.heap.objs.size=none:=I1.hok.fresh (yV _);refine ⟨.ref s1.heap.objs.size,v9 H1 s1.heap.objs.size (.lst xs),I1.laid (t':=s1.toks) (λb u e=>yT _ e) (yV _) ?_,rfl,q _ hf⟩;exact ⟨z,us,0,r,yD _ rfl⟩
end
abbrev Sp:=List V->Hp->VK->XK->Prop
variable{sp:Sp}
abbrev CXT:=List Env->Hp->Shared->XK->Value->Shared->Prop
variable{CX:CXT}
structure Env0 (P:Program)(w:World)(K:Fg)(mg:Str->Option Value)(base:Heap)(A:Around)(outer:List Env)(s:Shared)(H:Hp):Prop where
 frames:A.frames=some outer
 mod:Mod K mg base
 bs:∀ b o,base.get? b=some o->s.heap.get? b=some o/\H b=none
 bsz:base.objs.size<=s.heap.objs.size
 funs:s.heap.FunFrames base outer
 frf:∀ b∈frs outer,H b=none
 hok:HOk P w H s.heap
 bare:AllBare s.gens
 tbs:∀ p∈TABS,H p.1=some (.tbl p.2.1 p.2.2)
def CE (outer:List Env)(P:Program)(w:World)(H:Hp)(s:Shared)(Q:VK)(u:Value)(s':Shared):Prop :=
 ∃ v H',s'.os=s.os/\AllBare s'.gens/\Un (frs outer) [] H H' s.heap s'.heap/\HOk P w H' s'.heap/\RelV v u/\Q v H'
def CR (CX:CXT)(outer:List Env)(P:Program)(w:World)(H:Hp)(s:Shared)(Q:VK)(E:XK)(r:Result)(s':Shared):Prop :=
 match r with
 | .ok (.ret u)=>CE outer P w H s Q u s'
 | .ok _=>False
 | .error e=>CX outer H s E e s'
structure FnOk (P:Program)(w:World)(K:Fg)(mg:Str->Option Value)(base:Heap)(CX:CXT)(k:Nat)(f:Addr)(fd:FuncData)(ps:List Str)(sp:Sp):Prop where
 len:∀ vs H Q E,sp vs H Q E->vs.length=ps.length
 run:∀(A:Around)(outer:List Env)(s:Shared)(H:Hp)(args:Args)(us:List Value)(vs:List V)(Q:VK)(E:XK),Room k A->Env0 P w K mg base A outer s H->BindsTo s fd args (ps.zip us)->Vals vs us->sp vs H Q E ->
  codeAny (model P w) A (.call (.ref f) args) (CR CX outer P w H s Q E) s
theorem FnOk.imp {k:Nat}{f:Addr}{sp':Sp}(F:FnOk P w K mg base CX k f fd ps sp)(h:∀ vs H Q E,sp' vs H Q E->sp vs H Q E):FnOk P w K mg base CX k f fd ps sp' :=
 ⟨λvs H Q E q=>F.len vs H Q E (h _ _ _ _ q),λA outer s H args us vs Q E hr he hb hv hs=>F.run A outer s H args us vs Q E hr he hb hv (h _ _ _ _ hs)⟩
theorem Env0.make (e:Env0 P w K mg base A outer s H)(C:Addr)(us:List Value)(kw:List (Str×Value)):Env0 P w K mg base (A.under (.builtin "type.__call__" ⟨.ref C::us,kw⟩)) outer s H:=⟨by first|exact e.frames|(simpa [Around.under,Code.envs,Code.isFrame,pushEnvs] using e.frames),e.mod,e.bs,e.bsz,e.funs,e.frf,e.hok,e.bare,e.tbs⟩
theorem Env0.in1 (e:Env0 P w K mg base A outer s H):Env0 P w K mg base A.in1 outer s H:=⟨e.frames,e.mod,e.bs,e.bsz,e.funs,e.frf,e.hok,e.bare,e.tbs⟩
section
variable {X:Cx}{pins:List (Addr×Obj)}{σ:St}{H:Hp}{s s':Shared}
theorem Inv.env0 (I:Inv X pins σ H s):Env0 X.prog X.w X.K X.mg X.base X.A X.stack s H :=
 ⟨I.ok.frames,I.ok.mod,I.bs,ym I.ok.bsz I.sz,I.stack,I.stkFree,I.hok,I.bare,λp hp=>I.base.tbls _ _ _ (I.ok.tbs p hp)⟩
theorem Inv.after {Q:VK}(I:Inv X pins σ H s)(h:CE X.stack X.prog X.w H s Q u s'):EP X pins σ Q u s':=by obtain ⟨v,H',os,bare,un,hok,r,q⟩:=h;obtain ⟨hh,g,d,t,os'⟩:=s';obtain rfl:os'=s.os:=os;exact ⟨v,H',I.call (h':=hh) (g':=g) (d':=d) (t':=t) (ch:=[]) un hok bare (λb z=>absurd z (by simp)),r,q⟩
end
def jM (sp:Sp)(dvs:List V)(E:XK)(t:TA):TE:=λσ H Q=>t σ H λvs H1=>sp (vs++dvs) H1 Q E
def wv (C:Addr)(m:Str)(sp:Sp)(dvs:List V)(E:XK)(ta:TE)(t:TA):TE:=λσ H Q=>ta σ H λx H1=>∃ a dx fs,x = .ref a/\H1 a=some (.ins C dx fs)/\fs.lookup m=none /\
 t σ H1 λvs H2=>sp (x::(vs++dvs)) H2 Q E
def XW (C:Addr)(sp:Sp)(dvs:List V)(E:XK)(t:TA):TE:=λσ H Q=>t σ H λvs H1=>∀ x dx,H1 x=none->H1 dx=none->dx≠x ->
 sp (.ref x::(vs++dvs)) (v9 (v9 H1 dx (.own x)) x (.ins C dx [])) (λv H2=>v = .non/\Q (.ref x) H2) E
def Binds (K:Fg)(fd:FuncData)(ps:List Str)(ds:List Value):Prop :=
 ∀(s:Shared)(us:List Value),K.In s.heap->(us++ds).length=ps.length->BindsTo s fd ⟨us,[]⟩ (ps.zip (us++ds))
theorem Binds.all (h:∀ us:List Value,us.length=ps.length->bindArgs fd ⟨us,[]⟩=pure (ps.zip us)):Binds K fd ps []:=λs us _ hl=>by
 rw [yt] at hl ⊢;exact .of_eq (h us hl)
def vD (CX:CXT)(X:Cx)(E:XK):Prop:=∀(pins:List (Addr×Obj))(σ:St)(H:Hp)(s:Shared)(e:Value)(s':Shared),Inv X pins σ H s->CX X.stack H s E e s'->X.xe e s'
section
variable {X:Cx}{CX:CXT}{k:Nat}{f C:Addr}{fd:FuncData}{ps:List Str}{sp:Sp}{dvs:List V}{ds:List Value}{E:XK}{x m:Str}{p pos apos:Pos}{e o:Expr}{es:List Expr}{ta:TE}{t:TA}
theorem Wx {Q:VK}(F:FnOk X.prog X.w X.K X.mg X.base CX k f fd ps sp)(hr:Room k X.A)(hb:Binds X.K fd ps ds)(hd:Vals dvs ds)(hx:vD CX X E)(I:Inv X pins σ H s)(r:Vals vs us)(h:sp (vs++dvs) H Q E):wpAny (model X.prog X.w) X.A (call (.ref f) us) (EP X pins σ Q) X.xe s:=by
 have r2:Vals (vs++dvs) (us++ds):=r.append hd;have hl:(us++ds).length=ps.length:=by rw [<- r2.length];exact F.len _ _ _ _ h
 refine wpAny_call (codeAny_mono (F.run X.A X.stack s H ⟨us,[]⟩ (us++ds) (vs++dvs) Q E hr I.env0 (hb s us I.kIn hl) r2 h) λr s' hq=>?_);cases r with
 |error e=>exact hx pins σ H s e s' I hq
 |ok fl =>
  cases fl with
  |ret u=>exact I.after hq
  |next=>exact False.elim hq
  |brk=>exact False.elim hq
  |cont=>exact False.elim hq
theorem Rb (F:FnOk X.prog X.w X.K X.mg X.base CX k f fd ps sp)(hr:Room k X.A)(hg:Gl X x)(hm:X.mg x=some (.ref f))(hk:PySem.W.keepIn X.K (.ref f)=true)(hb:Binds X.K fd ps ds)(hd:Vals dvs ds)(hx:vD CX X E)(ha:PA X (e::es) t)(hdb:(x==("__debug__":Str))=false:=by decide)(he:starEach (e::es) X.env=(false,eval e X.env)::starEach es X.env:=by rfl)(hpl:(backTo pos (starEach es X.env)).any (·.1)=false:=by rfl):PE X (.Call (.Name x p) (e::es) [] pos) (jM sp dvs E t):=by intro pins s σ H Q I h;refine wpAny_Call_Name_kw (ZO I hg hm ?_ hdb);refine PySem.W.callWith_K (h₀:=X.base) I.ok.mod.kin hk (j6 (ha pos pins s σ H _ I h) λus s1 ⟨vs,H1,I1,r,q⟩=>⟨I1.kIn,?_⟩) he hpl;exact Wx F hr hb hd hx I1 r q
theorem Rm (he:PE X o ta)(c:Cls X.K C)(hm:QJ X.K C m f)(F:FnOk X.prog X.w X.K X.mg X.base CX k f fd ps sp)(hr:Room k X.A)(hb:Binds X.K fd ps ds)(hd:Vals dvs ds)(hx:vD CX X E)(ha:PA X (e::es) t)
  (hst:starEach (e::es) X.env=(false,eval e X.env)::starEach es X.env:=by rfl) (hpl:(backTo pos (starEach es X.env)).any (·.1)=false:=by rfl)
  (ht:eval (.Call (.Attribute o m apos) (e::es) [] pos) X.env=(do
   let ov <- eval o X.env
   standAt apos.atName
   let (f,first) <- holding [ov] (getMethod ov m pl)
   callWith pos f first (backTo pos (starEach (e::es) X.env)) (backToKw pos (keywordEach [] X.env))):=by rfl) :
  PE X (.Call (.Attribute o m apos) (e::es) [] pos) (wv C m sp dvs E ta t):=by
 intro pins s σ H Q I h;refine PySem.W.methodCall_KW (pl:=pl) (j6 (he pins s σ H _ I h) λu s1 ⟨x,H1,I1,rx,a,dx,fs,ex,ea,l,q⟩=>?_) ht;subst ex;obtain rfl:u=Value.ref a:=rx;refine Vo I1 ea c hm l ?_;refine PySem.W.callWith_K (first:=[.ref a]) (h₀:=X.base) I.ok.mod.kin hm.kp (j6 (ha pos pins s1 σ H1 _ I1 q) λus s2 ⟨vs,H2,I2,r,q2⟩=>⟨I2.kIn,?_⟩) hst hpl;exact Wx (us:= .ref a::us) (vs:= .ref a::vs) F hr hb hd hx I2 (.cons rfl r) q2
theorem Rn (he:PE X o ta)(c:Cls X.K C)(hm:QJ X.K C m f)(F:FnOk X.prog X.w X.K X.mg X.base CX k f fd ps sp)(hr:Room k X.A)(hb:Binds X.K fd ps ds)(hd:Vals dvs ds)(hx:vD CX X E)
  (ht:eval (.Call (.Attribute o m apos) [] [] pos) X.env=(do
   let ov <- eval o X.env
   standAt apos.atName
   let (f,first) <- holding [ov] (getMethod ov m pl)
   callWith pos f first (backTo pos (starEach [] X.env)) (backToKw pos (keywordEach [] X.env))):=by rfl) :
  PE X (.Call (.Attribute o m apos) [] [] pos) (wv C m sp dvs E ta ql):=by
 intro pins s σ H Q I h;refine PySem.W.methodCall_KW (pl:=pl) (j6 (he pins s σ H _ I h) λu s1 ⟨x,H1,I1,rx,a,dx,fs,ex,ea,l,q⟩=>?_) ht;subst ex;obtain rfl:u=Value.ref a:=rx;refine Vo I1 ea c hm l ?_;exact PySem.W.callWith_K0 (first:=[.ref a]) I1.kIn hm.kp (Wx (us:=[.ref a]) (vs:=[.ref a]) F hr hb hd hx I1 (.cons rfl .nil) q)
structure Mk (K:Fg)(C f:Addr):Prop where
 makes:PySem.W.makesIn K C=true
 init:PySem.W.findIn K (.ref C) "__init__"=some (some (.ref f))
 fn:PySem.W.isFn K (.ref f)=true
 kp:PySem.W.keepIn K (.ref C)=true
theorem Tk {Q:VK}(M:Mk X.K C f)(F:FnOk X.prog X.w X.K X.mg X.base CX k f fd ps sp)(hr:Room (k+1) X.A)(hb:Binds X.K fd ps ds)(hd:Vals dvs ds)(hx:vD CX X E)(I:Inv X pins σ H s)(r:Vals vs us)(h:∀ x dx,H x=none->H dx=none->dx≠x->sp (.ref x::(vs++dvs)) (v9 (v9 H dx (.own x)) x (.ins C dx [])) (λv H2=>v = .non/\Q (.ref x) H2) E):wpAny (model X.prog X.w) X.A (call (.ref C) us) (EP X pins σ Q) X.xe s:=by
 have hq:=h (s.heap.objs.size+1) s.heap.objs.size (I.hok.fresh (ul _)) (I.hok.fresh (yV _)) (yL (uj _));have I2:=Inv.made (C:=C) I;have r2:Vals (V.ref (s.heap.objs.size+1)::(vs++dvs)) (Value.ref (s.heap.objs.size+1)::(us++ds)):= .cons rfl (r.append hd);have hl:(Value.ref (s.heap.objs.size+1)::us++ds).length=ps.length:=by have e:=r2.length;rw [F.len _ _ _ _ hq] at e;exact e.symm
 refine wpAny_call (Nh (f:=f) I.kIn M.makes M.init (beq_iff_eq.mp M.fn) (codeAny_mono (F.run _ X.stack _ _ ⟨Value.ref (s.heap.objs.size+1)::us,[]⟩ (Value.ref (s.heap.objs.size+1)::(us++ds)) _ _ E (hr.make C us [])
  (I2.env0.make C us []) (hb _ (Value.ref (s.heap.objs.size+1)::us) I2.kIn hl) r2 hq) λr s' hq'=>?_))
 cases r with
 |error e=>exact hx pins σ _ _ e s' I2 hq'
 |ok fl =>
  cases fl with
  |ret u=>obtain ⟨v,H',I3,rv,ev,q3⟩:=I2.after hq';subst ev;exact ⟨rv,⟨V.ref (s.heap.objs.size+1),H',I3,rfl,q3⟩⟩
  |next=>exact False.elim hq'
  |brk=>exact False.elim hq'
  |cont=>exact False.elim hq'
theorem Rl (M:Mk X.K C f)(F:FnOk X.prog X.w X.K X.mg X.base CX k f fd ps sp)(hr:Room (k+1) X.A)(hg:Gl X x)(hm:X.mg x=some (.ref C))(hb:Binds X.K fd ps ds)(hd:Vals dvs ds)(hx:vD CX X E)(ha:PA X (e::es) t)(hdb:(x==("__debug__":Str))=false:=by decide)(he:starEach (e::es) X.env=(false,eval e X.env)::starEach es X.env:=by rfl)(hpl:(backTo pos (starEach es X.env)).any (·.1)=false:=by rfl):PE X (.Call (.Name x p) (e::es) [] pos) (XW C sp dvs E t):=by intro pins s σ H Q I h;refine wpAny_Call_Name_kw (ZO I hg hm ?_ hdb);refine PySem.W.callWith_K (h₀:=X.base) I.ok.mod.kin M.kp (j6 (ha pos pins s σ H _ I h) λus s1 ⟨vs,H1,I1,r,q⟩=>⟨I1.kIn,?_⟩) he hpl;exact Tk M F hr hb hd hx I1 r q
end
structure y4 (N P:List Str)(sc:Scope):Prop where
 kind:sc.kind = .function
 co:sc.isCoroutine=false
 gen:sc.isGenerator=false
 nd:N.Nodup
 pre:N.take P.length=P
 par:∀ x∈P,sc.names.lookup x=some .local∨sc.names.lookup x=some .cell
 nofree:∀ y∈sc.names,y.2 ≠ .free
theorem GI {kindOf:Str->Option NameKind}{x:Str}:∀{binds:List (Str×Value)}{m:Str->Option Value},(∀ v,(x,v)∉binds)->bindL kindOf binds m x=m x
 |[],_,_=>rfl
 |(n,v)::r,m,h=>by
  unfold bindL;rw [GI λw hw=>h w (yW _ hw)];split
  ·have:x≠n:=by rintro rfl;exact h v yU
   simp [this]
  ·rfl
theorem GG {kindOf:Str->Option NameKind}{x:Str}:∀{binds:List (Str×Value)}{m:Str->Option Value},(∀ v,(x,v)∉binds)->bindC kindOf binds m x=m x
 |[],_,_=>rfl
 |(n,v)::r,m,h=>by
  unfold bindC;rw [GG λw hw=>h w (yW _ hw)];split
  ·rfl
  ·have:x≠n:=by rintro rfl;exact h v yU
   simp [this]
theorem GH {kindOf:Str->Option NameKind}{x:Str}{v:Value}:∀{P:List Str}{vs:List Value}{i:Nat}{m:Str->Option Value},P.Nodup->P[i]?=some x->vs[i]?=some v->kindOf x=some .local -> bindL kindOf (P.zip vs) m x=some v
 |[],_,_,_,_,h,_,_=>by simp at h
 |_::_,[],_,_,_,_,h,_=>by simp at h
 |p::P,w::vs,0,m,nd,h1,h2,hk=>by
  simp at h1 h2;subst h1;subst h2;show bindL kindOf ((p,w)::P.zip vs) m p=_;unfold bindL;rw [GI λv hv=>(yp.mp nd).1 (uc hv).1,if_pos hk];simp
 |p::P,w::vs,i+1,m,nd,h1,h2,hk=>by
  show bindL kindOf ((p,w)::P.zip vs) m x=_;unfold bindL;exact GH (i:=i) (yp.mp nd).2 (by simpa using h1) (by simpa using h2) hk
theorem GF {kindOf:Str->Option NameKind}{x:Str}{v:Value}:∀{P:List Str}{vs:List Value}{i:Nat}{m:Str->Option Value},P.Nodup->P[i]?=some x->vs[i]?=some v->kindOf x≠some .local -> bindC kindOf (P.zip vs) m x=some v
 |[],_,_,_,_,h,_,_=>by simp at h
 |_::_,[],_,_,_,_,h,_=>by simp at h
 |p::P,w::vs,0,m,nd,h1,h2,hk=>by
  simp at h1 h2;subst h1;subst h2;show bindC kindOf ((p,w)::P.zip vs) m p=_;unfold bindC;rw [GG λv hv=>(yp.mp nd).1 (uc hv).1,if_neg hk];simp
 |p::P,w::vs,i+1,m,nd,h1,h2,hk=>by
  show bindC kindOf ((p,w)::P.zip vs) m x=_;unfold bindC;exact GF (i:=i) (yp.mp nd).2 (by simpa using h1) (by simpa using h2) hk
def start (N:List Str)(vs:List V):St:=vs.map some++List.replicate (N.length-vs.length) none
def xz (CX:CXT)(P:Program)(w:World)(K:Fg)(mg:Str->Option Value)(base:Heap)(N:List Str)(qual:Str)(scope:Scope)(f:Addr)(cd:Value)(A:Around)(outer:List Env)(s:Shared)(H:Hp)(E:XK):Cx where
 prog:=P
 w:=w
 K:=K
 mg:=mg
 base:=base
 A:=A.deeper (envOfC qual scope s.heap.objs.size f cd)
 N:=N
 s₀:=s
 H₀:=H
 env:=envOfC qual scope s.heap.objs.size f cd
 outer:=outer
 stack:=envOfC qual scope s.heap.objs.size f cd::outer
 ex:=[]
 calm:=true
 fn:=λ_=>true
 pn:=[]
 xe:=λe s'=>wpAny (model P w) (A.deeper (envOfC qual scope s.heap.objs.size f cd)) (leaving (envOfC qual scope s.heap.objs.size f cd) e) (λ_ s''=>CX outer H s E e s'') (λe' s''=>CX outer H s E e' s'') s'
theorem GT {sc:Scope}(h:sc.names.lookup x=some .cell):∃ c,(cellsFrom n sc.names []).lookup x=some c:=by have q:=PySem.W.cellsFrom_some sc.names n [] (.inl h);exact Option.isSome_iff_exists.mp q
theorem Lk {f:Addr}{cd:Value}{s1:Shared}{E:XK}(S:y4 N ps scope)(hd:A.handled=none)(e0:Env0 P w K mg base A outer s H)(hl:vs.length=ps.length)(r:Vals vs us)(x:InCallC s s.heap.objs.size (bindL (envOfC qual scope s.heap.objs.size f cd).kindOf (ps.zip us) λ_=>none) (cellsFrom (s.heap.objs.size+1) scope.names []) (bindC (envOfC qual scope s.heap.objs.size f cd).kindOf (ps.zip us) λ_=>none) s1):Inv (xz CX P w K mg base N qual scope f cd A outer s H E) [] (start N vs) H s1:=by
 have hpl:ps.length<=N.length:=by have:=congrArg List.length S.pre;rw [uW] at this;omega
 obtain ⟨h1,tk,rfl,hk⟩:=x.done;have noA:∀ b:Addr,b∉(xz CX P w K mg base N qual scope f cd A outer s H E).ex:=λb z=>absurd (show b∈([]:List Addr) from z) (by simp);refine ⟨⟨e0.mod,S.kind,rfl,rfl,yV _,λy z c h1 h2=>?_,λy hy=>?_,λy c _ h=>?_,λ_=>hd,Around.frames_deeper e0.frames,.inr ⟨rfl,rfl⟩,λb z=>absurd z (noA b),e0.bs,e0.bsz,λb _ _=>noA b,λb z=>absurd z (noA b),e0.funs,e0.frf,e0.tbs⟩,
  rfl,e0.bare,Un.kept hk,⟨_,x.toInCall.ns,λi y v h1 h2 h3=>?_⟩,λy c h=>⟨_,x.cell y c h⟩,e0.hok.fresh (yV _),λy c h=>?_,λp hp=>absurd (show p∈([]:List (Addr×Obj)) from hp) (by simp),e0.hok.kept hk,?_⟩
 ·exact name_of_addr x.apart (PySem.mem_of_lookup h1) (PySem.mem_of_lookup h2)
 ·have hy:scope.names.lookup y=some .cell∨scope.names.lookup y=some .free:=hy;rcases hy with hy|hy
  ·exact GT hy
  ·exact absurd rfl (S.nofree _ (PySem.mem_of_lookup hy))
 ·exact uJ (x.above y c (PySem.mem_of_lookup h))
 ·have hi:i<vs.length:=by
   unfold start at h2;by_cases hi:i<vs.length
   ·exact hi
   ·rw [yn (by simpa using hi)] at h2;rw [uf] at h2;split at h2<;>cases h2
  have ha:vs[i]?=some v:=by
   unfold start at h2;rw [yb (by simpa using hi),yP] at h2;cases e:vs[i]? with
   |none=>rw [e] at h2;cases h2
   |some a=>rw [e] at h2;cases h2;rfl
  obtain ⟨u,hu,rv⟩:=r.get ha;have hp:ps[i]?=some y:=by rw [<- S.pre,List.getElem?_take_of_lt (by omega)];exact h1
  have ndP:ps.Nodup:=by rw [<- S.pre];exact S.nd.sublist (List.take_sublist _ _)
  refine ⟨u,rv,?_⟩;rcases S.par y (yh hp) with k|k
  ·exact .inl ⟨k,GH ndP hp hu k⟩
  ·obtain ⟨c,e⟩:=GT (n:=s.heap.objs.size+1) k;refine .inr ⟨.inl k,c,e,?_⟩;have q:=x.cell y c e;rw [GF ndP hp hu (by show scope.names.lookup y≠_;rw [k];decide)] at q;exact q
 ·exact e0.hok.fresh (uJ (x.above y c (PySem.mem_of_lookup h)))
 ·unfold start;show _=N.length;rw [yN,yZ,tX];omega
theorem Vl {k:Nat}{f:Addr}{name:Str}{params:Arguments}{dV kV doc pm cdv ct oc:Value}{an od:Option Addr}{osl:Array (Option Value)}(lk:K.lookup f=some ⟨oc,od,.func (PySem.W.fnOf name qual params body scope dV kV doc pm an cdv ct),osl⟩)(hcd:PySem.W.codeIn K cdv qual=true)(S:y4 N ps scope)(len:∀ vs H Q E,sp vs H Q E->vs.length=ps.length)(hbody:∀(A:Around)(outer:List Env)(s:Shared)(H:Hp)(vs:List V)(Q:VK)(E:XK),Room k (A.deeper (envOfC qual scope s.heap.objs.size f cdv))->sp vs H Q E -> ∃ t,PSs (xz CX P w K mg base N qual scope f cdv A outer s H E) body t/\t { nx:=λ_ H'=>Q .non H',rt:=Q } (start N vs) H):FnOk P w K mg base CX (k+1) f (PySem.W.fnOf name qual params body scope dV kV doc pm an cdv ct) ps sp:=by
 refine ⟨len,λA outer s H args us vs Q E hr e0 hb r hsp=>?_⟩;have hl:=len _ _ _ _ hsp;have KX:K.In s.heap:=e0.mod.kin.keeps λb o e=>(e0.bs b o e).1;have lim:s.heap.NoLimit:=e0.mod.nolimit.keeps λb o e=>(e0.bs b o e).1;have hkind:∀ y∈ps.zip us,scope.names.lookup y.1=some .local∨(scope.names.lookup y.1=some .cell/\((cellsFrom (s.heap.objs.size+1) scope.names []).lookup y.1).isSome=true):=λ⟨n,v⟩ hy=>by
  rcases S.par n (uc hy).1 with q|q
  ·exact .inl q
  ·exact .inr ⟨q,PySem.W.cellsFrom_some _ _ _ (.inl q)⟩
 refine codeAny_call_function hr.depth (KX _ _ lk) rfl S.co S.gen rfl (PySem.W.codeRec_of KX hcd) (hb _ _ _ _ ?_);refine wpAny_newFunctionEnv_cells S.kind hkind λenv he s1 x=>?_;subst he;refine ⟨lim.keeps x.toInCall.keep,codeAny_func ?_⟩;obtain ⟨t,ht,hq⟩:=hbody A outer s H vs Q E (hr.deeper _) hsp;have I:Inv (xz CX P w K mg base N qual scope f cdv A outer s H E) [] (start N vs) H s1:=Lk S hr.hd e0 hl r x;refine wpAny_mono (ht [] s1 (start N vs) H _ I hq) (λfl s' hs=>?_) λe s' hs=>hs;have fin:∀{σ':St}{H':Hp}{v:V}{u:Value},Inv (xz CX P w K mg base N qual scope f cdv A outer s H E) [] σ' H' s'->RelV v u->Q v H'->CE outer P w H s Q u s' :=
  λ{σ' H' v u} J rv q=>⟨v,H',J.os,J.bare,J.base,J.hok,rv,q⟩
 cases fl with
 |ret u=>obtain ⟨v,σ',H',J,rv,q⟩:=hs;exact fin J rv q
 |next=>obtain ⟨σ',H',J,q⟩:=hs;exact fin (v:=V.non) (u:=Value.none) J rfl q
 |brk=>obtain ⟨_,_,_,q⟩:=hs;exact False.elim q
 |cont=>obtain ⟨_,_,_,q⟩:=hs;exact False.elim q
section
variable {X:Cx}{x:Str}{p pos:Pos}{e:Expr}{es:List Expr}{t:TA}{id T:String}{r:List V->Hp->VK->Prop}
def tCB (r:List V->Hp->VK->Prop)(t:TA):TE:=λσ H Q=>t σ H λvs H1=>r vs H1 Q
theorem c8 (hc:CallR X (.builtin id) r)(hg:Gl X x)(hm:X.mg x=none)(hv:bootBuiltins x=some (.builtin id))(ha:PA X (e::es) t)(hn:x ≠ "__name__":=by decide)(hdb:(x==("__debug__":Str))=false:=by decide)(he:starEach (e::es) X.env=(false,eval e X.env)::starEach es X.env:=by rfl)(hpl:(backTo pos (starEach es X.env)).any (·.1)=false:=by rfl):PE X (.Call (.Name x p) (e::es) [] pos) (tCB r t):=by intro pins s σ H Q I h;refine wpAny_Call_Name_kw (va I hg hm hv ?_ hn hdb);exact PyProof.Rows.callWith_builtin1 (j6 (ha pos pins s σ H _ I h) λus s1 ⟨vs,H1,I1,r1,q1⟩=>hc pins s1 σ H1 vs us Q I1 r1 q1) he hpl
theorem vj (hc:CallR X (.type T) r)(hg:Gl X x)(hm:X.mg x=none)(hv:bootBuiltins x=some (.type T))(ha:PA X (e::es) t)(hn:x ≠ "__name__":=by decide)(hdb:(x==("__debug__":Str))=false:=by decide)(he:starEach (e::es) X.env=(false,eval e X.env)::starEach es X.env:=by rfl)(hpl:(backTo pos (starEach es X.env)).any (·.1)=false:=by rfl):PE X (.Call (.Name x p) (e::es) [] pos) (tCB r t):=by intro pins s σ H Q I h;refine wpAny_Call_Name_kw (va I hg hm hv ?_ hn hdb);exact PyProof.Rows.callWith_type1 (j6 (ha pos pins s σ H _ I h) λus s1 ⟨vs,H1,I1,r1,q1⟩=>hc pins s1 σ H1 vs us Q I1 r1 q1) he hpl
end
end L2
namespace HT
open PySem PyProof.Rows
section
variable {prog:Program}{w:World}{A:Around}{E:Value->Shared->Prop}{s:Shared}
theorem cat_tup {t b:Addr}{vs ws:List Value}{Q:Value->Shared->Prop}(ht:IsTup s.heap t vs.toArray)(hb:IsTup s.heap b ws.toArray)(hv:vs≠[])(h1:ws=[]->Q (.ref t) s)(h2:ws≠[]->Q (.ref s.heap.objs.size) { s with heap:=s.heap.push { cls:= .type "tuple",data:= .seq (vs++ws).toArray } })(hsz:vs.length+ws.length<=sizeLine):wpAny (model prog w) A (binaryOp .Add (.ref t) (.ref b)) Q E s:=by
 obtain ⟨⟨cls,dd,data,sl⟩,ho,hc,n,hd⟩:=id ht;obtain ⟨⟨cls2,dd2,data2,sl2⟩,ho2,hc2,n2,hd2⟩:=id hb;simp only at hc hd hc2 hd2;subst hc hd hc2 hd2;have e:vs.toArray++ws.toArray=(vs++ws).toArray:=by simp
 by_cases hw:ws=[]
 ·exact concat_meets ⟨_,ho,rfl⟩ ⟨_,ho2,rfl⟩ noFill_tuple_add seq_tuple_add PySem.F.slot_tuple_add PySem.F.entry_tuple_add (PySem.F.args_tuple_add_2 _ _)
   (tuple_addW1 t b vs.toArray ws.toArray n n2 dd dd2 sl sl2 (by simpa using hv) (by simp [hw])) ⟨ho,ho2,h1 hw⟩
 ·refine concat_meets ⟨_,ho,rfl⟩ ⟨_,ho2,rfl⟩ noFill_tuple_add seq_tuple_add PySem.F.slot_tuple_add PySem.F.entry_tuple_add (PySem.F.args_tuple_add_2 _ _)
   (tuple_addW2 t b vs.toArray ws.toArray n n2 dd dd2 sl sl2 (by simpa using hv) (by simpa using hw) (by rw [yX,yX];exact hsz)) ⟨ho,ho2,?_⟩
  rw [e];exact h2 hw
def sIx (n d:Nat):Option Int->Nat
 |none=>d
 |some v=>if v<0 then (v+(n:Int)).toNat else min v.toNat n
theorem sIx_none (n d:Nat):sIx n d none=d:=rfl
theorem sIx_nat (n d k:Nat):sIx n d (some (k:Int))=min k n:=by show (if (k:Int)<0 then ((k:Int)+(n:Int)).toNat else min (k:Int).toNat n)=min k n;rw [if_neg (by omega),Int.toNat_natCast]
end
end HT
namespace L2
open PySem PySem.Spec PyProof.Rows
variable{r:R2}{xs:List (List j4×Addr×Value)}{j n t':Nat}{α:Type}{pins:List (Addr×Obj)}{σ:St}{H H':Hp}{s:Shared}{its its':List Value}{A:Around}{x y:V}{u v:Value}{T:String}{o:Option V}{P:Program}{w:World}{kvs:List (List j4×V)}{a:Addr}{Q:Value->Shared->Prop}{h':Heap}
abbrev TO:=St->Hp->(Option Int->Hp->Prop)->Prop
def PO (X:Cx)(e:Option Expr)(t:TO):Prop :=
 ∀(pins:List (Addr×Obj))(s:Shared)(σ:St)(H:Hp)(Q:Option Int->Hp->Prop),Inv X pins σ H s->t σ H Q ->
  wpAny (model X.prog X.w) X.A (evalPart e X.env) (λu s'=>∃ o H',Inv X pins σ H' s'/\IsPart u o/\Q o H') X.xe s
def Cn:TO:=λ_ H Q=>Q none H
def Cp (t:TE):TO:=λσ H Q=>t σ H λx H1=>∃ i,x = .int i/\Q (some i) H1
section
variable {X:Cx}{e:Expr}{te:TE}{lo hi:Option Expr}{tl th:TO}{pos p2:Pos}
theorem vo:PO X none Cn:=by intro pins s σ H Q I h;rw [evalPart_none];exact yx ⟨none,H,I,.none,h⟩
theorem vp (h:PE X e te):PO X (some e) (Cp te):=by intro pins s σ H Q I hw;rw [evalPart_some];refine j6 (h pins s σ H _ I hw) λu s1 ⟨x,H1,I1,r1,q1⟩=>?_;obtain ⟨i,rfl,q⟩:=q1;obtain ⟨t,rfl⟩:=r1;exact ⟨some i,H1,I1,.int i t,q⟩
def SlR (X:Cx)(r:V->Option Int->Option Int->Hp->VK->Prop):Prop :=
 ∀(pins:List (Addr×Obj))(s:Shared)(σ:St)(H:Hp)(x:V)(v vl vu:Value)(lo hi:Option Int)(sl:Addr)(Q:VK),Inv X pins σ H s->RelV x v->s.heap.IsSliceOf sl vl vu .none->IsPart vl lo->IsPart vu hi->r x lo hi H Q ->
  ∃ T id,typeLookup (.type T) "__getitem__"=pure (some (.builtin id))/\s.TypeIs v T/\wpAny (model X.prog X.w) X.A (getItem v (.ref sl)) (EP X pins σ Q) X.xe s
def tSl (r:V->Option Int->Option Int->Hp->VK->Prop)(te:TE)(tl th:TO):TE:=λσ H Q=>te σ H λx H1=>tl σ H1 λl H2=>th σ H2 λu H3=>r x l u H3 Q
theorem vn {r:V->Option Int->Option Int->Hp->VK->Prop}(hr:SlR X r)(he:PE X e te)(hl:PO X lo tl)(hu:PO X hi th):PE X (.Subscript e (.Slice lo hi none p2) pos) (tSl r te tl th):=by intro pins s σ H Q I h;refine Subscript_ (j6 (he pins s σ H _ I h) λv s1 ⟨x,H1,I1,r1,q1⟩=>?_);refine wpAny_Slice (j6 (hl pins s1 σ H1 _ I1 q1) λvl s2 ⟨l,H2,I2,pl,q2⟩=>j6 (hu pins s2 σ H2 _ I2 q2) λvu s3 ⟨u,H3,I3,pu,q3⟩=>?_);rw [evalPart_none];refine yx ?_;have I4:Inv X pins σ H3 { s3 with heap:=s3.heap.push { cls:= .type "slice",data:= .fields #[vl,vu,.none] } }:=I3.kept (t':=s3.toks) λb ob q=>yT _ q;obtain ⟨T,id,hT,ht,hg⟩:=hr pins { s3 with heap:=s3.heap.push { cls:= .type "slice",data:= .fields #[vl,vu,.none] } } σ H3 x v vl vu l u s3.heap.objs.size Q I4 r1 (Heap.IsSliceOf.new ..) pl pu q3;show wpAny (model X.prog X.w) X.A (subscriptTail e (.Slice lo hi none p2) v (.ref s3.heap.objs.size)) (EP X pins σ Q) X.xe { s3 with heap:=s3.heap.push { cls:= .type "slice",data:= .fields #[vl,vu,.none] } };exact tail_any (ops:=[.ref s3.heap.objs.size,v]) ht hT hg (by with_unfolding_all rfl)
def wS (xs:List V)(lo hi:Option Int):List V:=(xs.drop (HT.sIx xs.length 0 lo)).take (HT.sIx xs.length xs.length hi-HT.sIx xs.length 0 lo)
theorem DY (xs:List V)(lo hi:Option Int):(wS xs lo hi).length<=xs.length:=by unfold wS;rw [uW,uP];omega
def BY (K:Fg):R2:=λx y H Q=>∃ a b xs ys,x = .ref a/\y = .ref b/\SqT K H a xs/\SqT K H b ys/\xs≠[]/\xs.length+ys.length<=sizeLine /\
 (ys=[]->Q (.ref a) H)/\(ys≠[]->∀ p,H p=none->Q (.ref p) (v9 H p (.tup (xs++ys))))
theorem Vals.nil_iff {xs:List V}{us:List Value}(r:Vals xs us):us=[]↔xs=[]:=by
 cases r with
 |nil=>simp
 |cons _ _=>simp
theorem HN:OpR X (binaryOp .Add) (BY X.K):=by intro pins s σ H x y v u Q I rx ry h;obtain ⟨a,b,xs,ys,rfl,rfl,ha,hb,hx,hz,q1,q2⟩:=h;cases rx;cases ry;obtain ⟨its,r1,p1,_⟩:=I.tuple ha;obtain ⟨its2,r2,p2,_⟩:=I.tuple hb;refine HT.cat_tup p1 p2 (λz=>hx (r1.nil_iff.mp z)) (λz=>⟨.ref a,H,I,rfl,q1 (r2.nil_iff.mp z)⟩) (λz=>?_) (by rw [<- r1.length,<- r2.length];exact hz);refine ⟨.ref s.heap.objs.size,_,I.laid (t':=s.toks) (o:= .tup (xs++ys)) (λb ob q=>yT _ q) (yV _) ?_,rfl,q2 (λw=>z (r2.nil_iff.mpr w)) _ (I.hok.fresh (yV _))⟩;exact ⟨by rw [yN];exact hz,_,r1.append r2,IsTup.new _ _⟩
end
def ixN (n:Nat)(i:Int):Option Nat:=if 0<=i then (if i<n then some i.toNat else none) else if -(n:Int)<=i then some (i+n).toNat else none
def atI {α:Type}(xs:List α)(i:Int):Option α:=(ixN xs.length i).bind λj=>xs[j]?
theorem KU {i:Int}(h:ixN n i=some j):seqIndex? i n=some j/\j<n/\-(n:Int)<=i/\i<n:=by
 unfold ixN at h;by_cases h0:0<=i
 ·rw [if_pos h0] at h;by_cases h1:i<n
  ·rw [if_pos h1] at h;have e:i.toNat=j:=Option.some.inj h;exact ⟨by rw [seqIndex_of h0 h1,e],by omega,by omega,h1⟩
  ·rw [if_neg h1] at h;cases h
 ·rw [if_neg h0] at h;by_cases h1:-(n:Int)<=i
  ·rw [if_pos h1] at h;have e:(i+n).toNat=j:=Option.some.inj h;exact ⟨by rw [seqIndex_neg (by omega) h1,e],by omega,h1,by omega⟩
  ·rw [if_neg h1] at h;cases h
theorem JK {xs:List α}{i:Int}{v:α}(h:atI xs i=some v):∃ j,seqIndex? i xs.length=some j/\xs[j]?=some v/\j<xs.length/\-(xs.length:Int)<=i/\i<xs.length:=by
 unfold atI at h;cases e:ixN xs.length i with
 |none=>rw [e] at h;cases h
 |some j=>rw [e] at h;obtain ⟨h1,h2,h3,h4⟩:=KU e;exact ⟨j,h1,h,h2,h3,h4⟩
theorem xS {xs:List α}{v:α}(h:xs[j]?=some v):atI xs (j:Int)=some v:=by
 have hj:j<xs.length:=(yB.mp h).1;have e:ixN xs.length (j:Int)=some j:=by unfold ixN;rw [if_pos (by omega),if_pos (by omega)];simp
 unfold atI;rw [e];exact h
def Ul (b:Expr):Prop:=∀ o i,subscripted b false o i=operate [o,i] (getItem o i)
def IxR (X:Cx)(r:R2):Prop :=
 ∀(value slice:Expr)(pins:List (Addr×Obj))(s:Shared)(σ:St)(H:Hp)(x y:V)(v u:Value)(Q:VK),Inv X pins σ H s->RelV x v->RelV y u->r x y H Q ->
  subscripted slice false v u=operate [v,u] (getItem v u)->wpAny (model X.prog X.w) X.A (subscriptTail value slice v u) (EP X pins σ Q) X.xe s
def MtR (X:Cx)(id:String)(r:V->List V->Hp->VK->Prop):Prop :=
 ∀(pins:List (Addr×Obj))(s:Shared)(σ:St)(H:Hp)(x:V)(xs:List V)(v:Value)(us:List Value)(Q:VK),Inv X pins σ H s->RelV x v->Vals xs us->r x xs H Q ->
  wpAny (model X.prog X.w) X.A (call (.builtin id) (v::us)) (EP X pins σ Q) X.xe s
section
variable {X:Cx}{a b:Expr}{ta tb:TE}{pos:Pos}
theorem IxR.or {r':R2}(h:IxR X r)(h':IxR X r'):IxR X (λx y H Q=>r x y H Q∨r' x y H Q):=by
 intro value slice pins s σ H x y v u Q I rx ry q hs;rcases q with q|q
 ·exact h value slice pins s σ H x y v u Q I rx ry q hs
 ·exact h' value slice pins s σ H x y v u Q I rx ry q hs
theorem Jm (hr:IxR X r)(ha:PE X a ta)(hb:PE X b tb)(hs:Ul b):PE X (.Subscript a b pos) (tOp r ta tb):=by intro pins s σ H Q I h;exact Subscript_ (binT ha hb I h λv u s2 x y H2 I2 rx ry q=>hr a b pins s2 σ H2 x y v u Q I2 rx ry q (hs _ _))
def rIxL (K:Fg):R2:=λx y H Q=>∃ p xs i v,x = .ref p/\y = .int i/\SqL K H p xs/\atI xs i=some v/\Q v H
def rIxT (K:Fg):R2:=λx y H Q=>∃ p xs i v,x = .ref p/\y = .int i/\SqT K H p xs/\atI xs i=some v/\Q v H
def rIxS:R2:=λx y H Q=>∃ z i c,x = .str z/\y = .int i/\z.length<=sizeLine/\atI z.cps.toList i=some c/\Q (.str ⟨#[c]⟩) H
theorem ix_list:IxR X (rIxL X.K):=by
 intro value slice pins s σ H x y v u Q I rx ry h hs;obtain ⟨p,xs,i,z,rfl,rfl,hq,he,q⟩:=h;cases rx;obtain ⟨t,rfl⟩:=ry;obtain ⟨its,r,pl,hz⟩:=I.list hq;obtain ⟨j,h1,h2,h3,h4,h5⟩:=JK he;obtain ⟨w,ew,rw'⟩:=r.get h2;have hl:=r.length;have hn:=vS;have fin:EP X pins σ Q w s:=⟨z,H,I,rw',q⟩;by_cases h0:0<=i
 ·have hj:i.toNat=j:=by rw [seqIndex_of h0 h5] at h1;exact Option.some.inj h1
  exact item_listR pl.isList h0 (by omega) (by rw [hj];simpa using ew) fin hs
 ·have hj:(i+(its.toArray.size:Int)).toNat=j:=by rw [seqIndex_neg (by omega) h4] at h1;rw [yX,<- hl];exact Option.some.inj h1
  exact subscriptTail_builtinR (x:=w) pl.isList.typeIs slot_list_getitem.lookup
   (wpAny_getItem_list_neg (Q:=λr s'=>r=w/\EP X pins σ Q r s') pl.isList (by omega) (by rw [yX]<;>omega) (by omega) (by rw [hj];simpa using ew) ⟨rfl,fin⟩) hs
theorem ix_tup:IxR X (rIxT X.K):=by
 intro value slice pins s σ H x y v u Q I rx ry h hs;obtain ⟨p,xs,i,z,rfl,rfl,hq,he,q⟩:=h;cases rx;obtain ⟨t,rfl⟩:=ry;obtain ⟨its,r,pl,hz⟩:=I.tuple hq;obtain ⟨j,h1,h2,h3,h4,h5⟩:=JK he;obtain ⟨w,ew,rw'⟩:=r.get h2;have hl:=r.length;have hn:=vS;have fin:EP X pins σ Q w s:=⟨z,H,I,rw',q⟩;exact subscriptTail_builtinR (x:=w) pl.typeIs slot_tuple_getitem.lookup
  (getItem_tuple (j:=j) (Q:=λr s'=>r=w/\EP X pins σ Q r s') pl (by omega) (by omega) (by rw [yX,<- hl];exact h1) (by simpa using ew) ⟨rfl,fin⟩) hs
theorem LG:IxR X rIxS:=by
 intro value slice pins s σ H x y v u Q I rx ry h hs;obtain ⟨z,i,c,rfl,rfl,hz,he,q⟩:=h;obtain ⟨t,rfl⟩:=rx;obtain ⟨t',rfl⟩:=ry;obtain ⟨j,h1,h2,h3,h4,h5⟩:=JK he;have hl:z.cps.toList.length=z.length:=by simp [Str.length]
 rw [hl] at h1 h4 h5;have hn:=vS;exact tail_any (typeIs_str s z t) slot_str_getitem.lookup (getItem_str (c:=c) (by
  have e1:decide (i < -(2 ^ 63:Int))=false:=yI (by omega);have e2:decide (i >= 2 ^ 63)=false:=yI (by omega);rw [e1,e2,Bool.or_false]) (by rw [h1];simpa using h2) ⟨.str ⟨#[c]⟩,H,I.tok _,⟨_,rfl⟩,q⟩) hs
def rIx (K:Fg):R2:=λx y H Q=>rIxL K x y H Q∨rIxT K x y H Q∨rIxS x y H Q
theorem LD:IxR X (rIx X.K):=ix_list.or (ix_tup.or LG)
theorem Nk (its:List Value)(n j:Nat)(u:Value):Obj.mapSeq (·.setIfInBounds j u) { cls:= .type "list",data:= .seq its.toArray n }={ cls:= .type "list",data:= .seq (its.set j u).toArray n }:=by simp [Obj.mapSeq]
theorem Inv.lst {pins:List (Addr×Obj)}{σ:St}{H:Hp}{s:Shared}{p:Addr}{xs:List V}(I:Inv X pins σ H s)(h:H p=some (.lst xs)):∃ (its:List Value) (n:Nat),Vals xs its/\s.heap.get? p=some { cls:= .type "list",data:= .seq its.toArray n }/\xs.length<=sizeLine:=by obtain ⟨z,its,n,r,e⟩:=I.hok p _ h;exact ⟨its,n,r,e,z⟩
theorem Inv.lstUpd {p:Addr}{xs ys:List V}{n':Nat}{f:Obj->Obj}(I:Inv X pins σ H s)(h:H p=some (.lst xs))(ho:s.heap.get? p=some { cls:= .type "list",data:= .seq its.toArray n })(hf:f { cls:= .type "list",data:= .seq its.toArray n }={ cls:= .type "list",data:= .seq its'.toArray n' })(r:Vals ys its')(hz:ys.length<=sizeLine)(t:Nat):Inv X pins σ (v9 H p (.lst ys)) { s with heap:=s.heap.update p f,toks:=t }:=by
 have e:(s.heap.update p f).get? p=some { cls:= .type "list",data:= .seq its'.toArray n' }:=by rw [Heap.get?_update_self f ho (by rw [hf]<;>rfl),hf]
 refine I.write (x:=p) (e:=p) (by rw [h];trivial) (.inl rfl) (λb u hb q=>(Heap.get?_update_other _ _ (Ne.symm hb)).trans q) ⟨_,e⟩ ?_;exact ⟨hz,its',n',r,e⟩
def rSetL:V->V->V->Hp->(Hp->Prop)->Prop:=λo i v H Q=>∃ p xs k j,o = .ref p/\i = .int k/\H p=some (.lst xs)/\ixN xs.length k=some j/\Q (v9 H p (.lst (xs.set j v)))
theorem PP:PSet X rSetL:=by
 intro pins s σ H o i v ov iv u Q I ro ri rv h;obtain ⟨p,xs,k,j,rfl,rfl,hp,hj,q⟩:=h;cases ro;obtain ⟨t,rfl⟩:=ri;obtain ⟨its,n,r,ho,hz⟩:=I.lst hp;obtain ⟨h1,h2,h3,h4⟩:=KU hj;have hl:=r.length;have hn:=vS;have I':Inv X pins σ (v9 H p (.lst (xs.set j v))) { s with heap:=s.heap.update p (Obj.mapSeq (·.setIfInBounds j u)) } :=
  I.lstUpd hp ho (Nk its n j u) (r.set rv j) (by rw [yg];exact hz) s.toks
 by_cases h0:0<=k
 ·have hk:k.toNat=j:=by rw [seqIndex_of h0 h4] at h1;exact Option.some.inj h1
  exact PySem.W.ki_setAt ho h0 (by omega) (by rw [yX,<- hl];exact h4) (by rw [hk];exact ⟨_,I',q⟩)
 ·have hk:(k+(its.toArray.size:Int)).toNat=j:=by rw [seqIndex_neg (by omega) h3] at h1;rw [yX,<- hl];exact Option.some.inj h1
  exact PySem.W.ki_setBack ho (by omega) (by rw [yX,<- hl];exact h3) (by omega) (by rw [hk];exact ⟨_,I',q⟩)
theorem Su (lo hi:Option Int)(n:Nat):(sliceBounds lo hi none n).1=((HT.sIx n 0 lo:Nat):Int)/\(sliceBounds lo hi none n).2.1=((HT.sIx n n hi:Nat):Int)/\(sliceBounds lo hi none n).2.2=1:=by
 refine ⟨?_,?_,rfl⟩
 ·cases lo with
  |none=>simp [sliceBounds,HT.sIx]
  |some i =>
   simp only [sliceBounds,HT.sIx,tT,show (1:Int) > 0 by decide,if_true];by_cases h:i<0
   ·simp only [h,if_true]<;>omega
   ·simp only [h,if_false]<;>omega
 ·cases hi with
  |none=>simp [sliceBounds,HT.sIx]
  |some i =>
   simp only [sliceBounds,HT.sIx,tT,show (1:Int) > 0 by decide,if_true];by_cases h:i<0
   ·simp only [h,if_true]<;>omega
   ·simp only [h,if_false]<;>omega
theorem Ss (its:List Value)(lo hi:Option Int):slicePick its.toArray lo hi none=((its.drop (HT.sIx its.length 0 lo)).take (HT.sIx its.length its.length hi-HT.sIx its.length 0 lo)).toArray:=by obtain ⟨h1,h2,h3⟩:=Su lo hi its.toArray.size;unfold slicePick;rw [h1,h2,h3];simp only [sliceRange_one,pick_run,yX]<;>rfl
def rSlL (K:Fg):V->Option Int->Option Int->Hp->VK->Prop:=λx lo hi H Q=>∃ a xs,x = .ref a/\SqL K H a xs/\∀ p,H p=none->Q (.ref p) (v9 H p (.lst (wS xs lo hi)))
theorem Sq:SlR X (rSlL X.K):=by intro pins s σ H x v vl vu lo hi sl Q I rx hs pl pu h;obtain ⟨a,xs,rfl,hx,q⟩:=h;cases rx;obtain ⟨its,r,ht,hz⟩:=I.list hx;have hlen:=r.length;refine ⟨"list",_,slot_list_getitem.lookup,ht.isList.typeIs,?_⟩;refine wpAny_getItem_list_slice ht.isList hs pl pu .none (by simp) ?_ (by rw [yX]<;>omega);rw [Ss,<- hlen];refine ⟨.ref s.heap.objs.size,_,I.laid (t':=s.toks) (o:= .lst (wS xs lo hi)) (λb ob q=>yT _ q) (yV _) ?_,rfl,q _ (I.hok.fresh (yV _))⟩;exact ⟨ym (DY xs lo hi) hz,_,0,(r.drop (HT.sIx xs.length 0 lo)).take (HT.sIx xs.length xs.length hi-HT.sIx xs.length 0 lo),yD _ rfl⟩
def k4:V->Bool
 | .non=>true
 | .bl _=>true
 | .int _=>true
 | .str _=>true
 |_=>false
def qc:V->V->Bool
 | .non,.non=>true
 | .bl a,.bl b=>a==b
 | .bl a,.int b=>(if a then 1 else 0)==b
 | .int a,.bl b=>a==(if b then 1 else 0)
 | .int a,.int b=>a==b
 | .str a,.str b=>a==b
 |_,_=>false
theorem Vf (ry:RelV y u)(rx:RelV x v)(fy:k4 y=true)(fx:k4 x=true):SeqAt.EqAt A s u v (qc y x):=by
 cases y with
 |non =>
  cases ry;cases x with
  |non=>cases rx;exact SeqAt.EqAt.same _
  |bl b=>cases rx;exact SeqAt.EqAt.none_bool b
  |int b=>obtain ⟨t,rfl⟩:=rx;exact SeqAt.EqAt.none_int b t
  |str b=>obtain ⟨t,rfl⟩:=rx;exact SeqAt.EqAt.none_str b t
  |_=>exact absurd (show false=true from fx) yS
 |bl a =>
  cases ry;cases x with
  |non=>cases rx;exact SeqAt.EqAt.bool_none a
  |bl b=>cases rx;exact SeqAt.EqAt.bool_bool a b
  |int b=>obtain ⟨t,rfl⟩:=rx;exact SeqAt.EqAt.bool_int a b t
  |str b=>obtain ⟨t,rfl⟩:=rx;exact SeqAt.EqAt.bool_str a b t
  |_=>exact absurd (show false=true from fx) yS
 |int a =>
  obtain ⟨t',rfl⟩:=ry;cases x with
  |non=>cases rx;exact SeqAt.EqAt.int_none a t'
  |bl b=>cases rx;exact SeqAt.EqAt.int_bool a t' b
  |int b=>obtain ⟨t,rfl⟩:=rx;exact SeqAt.EqAt.int_int a t' b t
  |str b=>obtain ⟨t,rfl⟩:=rx;exact SeqAt.EqAt.int_str a t' b t
  |_=>exact absurd (show false=true from fx) yS
 |str a =>
  obtain ⟨t',rfl⟩:=ry;cases x with
  |non=>cases rx;exact SeqAt.EqAt.str_none a t'
  |bl b=>cases rx;exact SeqAt.EqAt.str_bool a t' b
  |int b=>obtain ⟨t,rfl⟩:=rx;exact SeqAt.EqAt.str_int a t' b t
  |str b=>obtain ⟨t,rfl⟩:=rx;exact SeqAt.EqAt.str_str a t' b t
  |_=>exact absurd (show false=true from fx) yS
 |_=>exact absurd (show false=true from fy) yS
def eqU (x:V)(u:Value):Bool:=match u with
 | .none=>qc .non x
 | .bool b=>qc (.bl b) x
 | .int i _=>qc (.int i) x
 | .str z _=>qc (.str z) x
 |_=>false
theorem Vg (r:RelV y u)(f:k4 y=true):eqU x u=qc y x:=by
 cases y with
 |non=>cases r;rfl
 |bl b=>cases r;rfl
 |int i=>obtain ⟨t,rfl⟩:=r;rfl
 |str z=>obtain ⟨t,rfl⟩:=r;rfl
 |_=>exact absurd (show false=true from f) yS
theorem JI {x:V}:∀{xs:List V}{us:List Value},Vals xs us->xs.all k4=true->us.any (eqU x)=xs.any λy=>qc y x
 |_,_,.nil,_=>rfl
 |y::xs,u::us,.cons r t,f=>by
  rw [List.all_cons,yf] at f;rw [List.any_cons,List.any_cons,Vg r f.1,JI t f.2]
theorem Je {A:Around}{s:Shared}{x:V}{v:Value}(rx:RelV x v)(fx:k4 x=true):∀{xs:List V}{us:List Value},Vals xs us->xs.all k4=true->∀ u∈us,SeqAt.EqAt A s u v (eqU x u)
 |_,_,.nil,_=>λu hu=>by cases hu
 |y::xs,u::us,.cons r t,f=>λu' hu=>by
  rw [List.all_cons,yf] at f;rcases yH.mp hu with rfl|hu
  ·rw [Vg r f.1];exact Vf r rx f.1 fx
  ·exact Je rx fx t f.2 u' hu
def inV (x:V)(xs:List V):Bool:=xs.any λy=>qc y x
def rIn (K:Fg)(neg:Bool):R2:=λx y H Q=>∃ p xs,y = .ref p/\(SqL K H p xs∨SqT K H p xs)/\k4 x=true/\xs.all k4=true/\Q (.bl (if neg then !inV x xs else inV x xs)) H
theorem HP:OpR X (compareOp .In) (rIn X.K false):=by
 intro pins s σ H x y v u Q I rx ry h;obtain ⟨p,xs,rfl,hq,fx,fs,q⟩:=h;cases ry;rcases hq with hq|hq
 ·obtain ⟨its,r,pl,hz⟩:=I.list hq;refine SeqAt.in_listAt (eqU x) pl.isList (λw hw=>Je rx fx r fs w (by simpa using hw)) ⟨.bl _,H,I,rfl,?_⟩;rw [show its.toArray.any (eqU x)=its.any (eqU x) by simp,JI r fs];exact q
 ·obtain ⟨its,r,pl,hz⟩:=I.tuple hq;refine SeqAt.in_tupleAt (eqU x) pl (λw hw=>Je rx fx r fs w (by simpa using hw)) ⟨.bl _,H,I,rfl,?_⟩;rw [show its.toArray.any (eqU x)=its.any (eqU x) by simp,JI r fs];exact q
theorem DK:CallR X (.builtin "len") (λxs H Q=>∃ p ys,xs=[.ref p]/\(SqL X.K H p ys∨SqT X.K H p ys)/\Q (.int ys.length) H):=by
 intro pins s σ H xs us Q I r h;obtain ⟨p,ys,rfl,hq,q⟩:=h;obtain ⟨u,rfl,rx⟩:=zq r;cases rx;have hn:=vS;rcases hq with hq|hq
 ·obtain ⟨its,r',pl,hz⟩:=I.list hq;have hlen:=r'.length;exact Calls.call_len_list pl.isList (by simp only [yX]<;>omega) ⟨.int ys.length,H,I.tok _,⟨s.toks+1,by rw [yX,hlen]⟩,q⟩
 ·obtain ⟨its,r',pl,hz⟩:=I.tuple hq;have hlen:=r'.length;exact len_tuple pl (by simp only [yX]<;>omega) ⟨.int ys.length,H,I.tok _,⟨s.toks+1,by rw [yX,hlen]⟩,q⟩
theorem CallR.or {f:Value}{r r':List V->Hp->VK->Prop}(h:CallR X f r)(h':CallR X f r'):CallR X f (λxs H Q=>r xs H Q∨r' xs H Q):=by
 intro pins s σ H xs us Q I rs q;rcases q with q|q
 ·exact h pins s σ H xs us Q I rs q
 ·exact h' pins s σ H xs us Q I rs q
theorem DL:CallR X (.type "list") (λxs H Q=>∃ p ys,xs=[.ref p]/\(SqL X.K H p ys∨SqT X.K H p ys)/\∀ l,H l=none->Q (.ref l) (v9 H l (.lst ys))):=by
 intro pins s σ H xs us Q I r h;obtain ⟨p,ys,rfl,hq,q⟩:=h;obtain ⟨u,rfl,rx⟩:=zq r;cases rx;have fin:∀(its:List Value),Vals ys its->ys.length<=sizeLine->∀(h':Heap)(c':Nat),(∀ b o',s.heap.get? b=some o'->h'.get? b=some o') ->
   h'.get? s.heap.objs.size=some { cls:= .type "list",dict:=none,data:= .seq its.toArray c',slots:=#[] }->EP X pins σ Q (.ref s.heap.objs.size) { s with heap:=h' }:=λits r' hz h' c' kp e =>
  ⟨.ref s.heap.objs.size,_,I.laid (t':=s.toks) kp (yV _) (show ObjOk X.prog X.w _ h' _ (.lst ys) from ⟨hz,its,c',r',e⟩),rfl,q _ (I.hok.fresh (yV _))⟩
 rcases hq with hq|hq
 ·obtain ⟨its,r',pl,hz⟩:=I.list hq;have hlen:=r'.length;obtain ⟨o,ho,hc,n,hd⟩:=pl.isList;exact call_list_seq p (.inl rfl) ho hc hd (λh' c' kp e=>fin its r' hz h' c' kp e) (by simp only [yX]<;>omega)
 ·obtain ⟨its,r',pl,hz⟩:=I.tuple hq;have hlen:=r'.length;obtain ⟨o,ho,hc,n,hd⟩:=pl;exact call_list_seq p (.inr rfl) ho hc hd (λh' c' kp e=>fin its r' hz h' c' kp e) (by simp only [yX]<;>omega)
def tyV (K:Fg)(T:String)(x:V)(H:Hp):Prop:=match x with
 | .str _=>T = "str"
 | .int _=>T = "int"
 | .ref p=>(T = "list"/\∃ xs,SqL K H p xs)∨(T = "tuple"/\∃ o,K.lookup p=some o/\o.cls = .type "tuple"/\o.dict=none) ∨
   (T = "dict"/\((∃ kvs,H p=some (.dK kvs))∨∃ kvs,H p=some (.dT kvs)))∨(T = "set"/\∃ S n,H p=some (.set S n))
 |_=>False
theorem SV (I:Inv X pins σ H s)(r:RelV x v)(ty:tyV X.K T x H):s.TypeIs v T/\∀ a,v = .ref a->∃ ob,s.heap.get? a=some ob/\ob.dict=none:=by
 cases x with
 |str z=>obtain ⟨t,rfl⟩:=r;cases (show T = "str" from ty);exact ⟨typeIs_str s z t,λ_ e=>nomatch e⟩
 |int i=>obtain ⟨t,rfl⟩:=r;cases (show T = "int" from ty);exact ⟨typeIs_int s i t,λ_ e=>nomatch e⟩
 |ref p =>
  cases r;rcases ty with ⟨rfl,xs,hq⟩|⟨rfl,o,hk,hc,hd⟩|⟨rfl,hk⟩|⟨rfl,S,n,hk⟩
  ·obtain ⟨its,_,pl,_⟩:=I.list hq;refine ⟨pl.isList.typeIs,λa e=>?_⟩;cases e;obtain ⟨o,n,e,c,hd,_⟩:=pl;exact ⟨o,e,hd⟩
  ·refine ⟨⟨o,I.kIn p o hk,hc⟩,λa e=>?_⟩;cases e;exact ⟨o,I.kIn _ o hk,hd⟩
  ·have z:∃ o,s.heap.get? p=some o/\o.ExactDict:=by
    rcases hk with ⟨kvs,hk⟩|⟨kvs,hk⟩
    ·obtain ⟨_,_,_,_,o,_,_,e,ex,_⟩:=I.hok p _ hk;exact ⟨o,e,ex⟩
    ·obtain ⟨_,_,_,_,o,_,_,e,ex,_⟩:=I.hok p _ hk;exact ⟨o,e,ex⟩
   obtain ⟨o,e,ex⟩:=z;refine ⟨⟨o,e,ex.1⟩,λa e2=>?_⟩;cases e2;exact ⟨o,e,ex.2.1⟩
  ·obtain ⟨o,_,_,_,e,ex,_⟩:=I.hok p _ hk;refine ⟨⟨o,e,ex.1⟩,λa e2=>?_⟩;cases e2;exact ⟨o,e,ex.2.1⟩
 |_=>exact False.elim ty
def tBM (K:Fg)(T:String)(r:V->List V->Hp->VK->Prop)(to:TE)(t:TA):TE:=λσ H Q=>to σ H λx H1=>tyV K T x H1/\t σ H1 λxs H2=>r x xs H2 Q
variable {o e:Expr}{es:List Expr}{to:TE}{t:TA}{name:Str}{apos cpos:Pos}{T id:String}{r:V->List V->Hp->VK->Prop}
theorem pe_bm (pa:PlainAttrs T)(slot:Slot T name id)(hty:typeOf (.builtin id)=pure (.type "method_descriptor"))(hm:MtR X id r)(ho:PE X o to)(ha:PA X (e::es) t)(hbase:attributeBase o name X.env (eval o X.env)=eval o X.env:=by rfl)(hfew:((backTo cpos (starEach (e::es) X.env)).all (λx=>!x.1)&&(backToKw cpos (keywordEach [] X.env)).all (λx=>x.1.isSome)&&decide ((e::es).length+([]:List Keyword).length+(if ([]:List Keyword).isEmpty then 0 else 1)<30))=true:=by rfl)(hline:(apos.endLine==cpos.line)=true:=by rfl)(hs:starEach (e::es) X.env=(false,eval e X.env)::starEach es X.env:=by rfl)(hplain:(backTo cpos (starEach es X.env)).any (·.1)=false:=by rfl):PE X (.Call (.Attribute o name apos) (e::es) [] cpos) (tBM X.K T r to t):=by intro pins s σ H Q I h;refine wpAny_Call_method_late hbase hfew hline rfl (j6 (ho pins s σ H _ I h) λv s1 ⟨x,H1,I1,r1,ty,q1⟩=>?_);obtain ⟨h1,h2⟩:=SV I1 r1 ty;refine ⟨T,id,pa,slot,hty,h1,h2,?_⟩;have hA:=ha cpos pins s1 σ H1 _ I1 q1;rw [hs] at hA ⊢;refine Calls.callWith_builtin (by show (false || (backTo cpos (starEach es X.env)).any (·.1))=false;rw [hplain]<;>rfl) (Calls.evalArgs_plain ?_);exact j6 hA λus s2 ⟨vs,H2,I2,r2,q2⟩=>hm pins s2 σ H2 x vs v us Q I2 r1 r2 q2
end
def MtM (X:Cx)(id:String)(r:V->List V->Hp->VK->Prop):Prop :=
 ∀(pins:List (Addr×Obj))(s:Shared)(σ:St)(H:Hp)(x:V)(xs:List V)(v:Value)(us:List Value)(Q:VK),Inv X pins σ H s->RelV x v->Vals xs us->r x xs H Q ->
  wpAny (model X.prog X.w) X.A (call (.builtin id) (v::us)) (EP X pins σ Q) X.xe s
theorem Vals.one:∀{x:V}{us:List Value},Vals [x] us->∃ u,us=[u]/\RelV x u
 |_,_,.cons r .nil=>⟨_,rfl,r⟩
theorem Vals.eraseIdx:∀{xs:List V}{us:List Value}(i:Nat),Vals xs us->Vals (xs.eraseIdx i) (us.eraseIdx i)
 |_,_,_,.nil=> .nil
 |_,_,0,.cons _ t=>t
 |_,_,i+1,.cons r t=> .cons r (Vals.eraseIdx i t)
theorem Vals.rep {xs:List V}{us:List Value}(h:Vals xs us):∀ k:Nat,Vals (List.replicate k xs).flatten (List.replicate k us).flatten
 |0=> .nil
 |k+1=>by
  rw [uG,uG,ut,ut];exact Vals.append h (Vals.rep h k)
theorem Bj {α:Type}:∀(l:List α)(i:Nat),(l.eraseIdx i).length<=l.length
 |[],_=>yV _
 |_::_,0=>ul _
 |_::r,i+1=>Nat.succ_le_succ (Bj r i)
theorem KE (its:List Value):∀(k:Nat)(acc:List Value), List.foldl (λx1 x2=>x1++x2) acc.toArray (List.replicate k its.toArray)=(acc++(List.replicate k its).flatten).toArray
 |0,acc=>by simp
 |k+1,acc=>by
  have e:acc.toArray++its.toArray=(acc++its).toArray:=by simp
  have e2:(acc++its)++(List.replicate k its).flatten=acc++(List.replicate (k+1) its).flatten:=by rw [uG,ut,yk]
  rw [<- e2,<- KE its k (acc++its),<- e,uG,List.foldl_cons]
section
variable {X:Cx}{pins:List (Addr×Obj)}{σ:St}{H:Hp}{s:Shared}{l b:Addr}{xs ys zs:List V}
theorem Inv.lset {f:Array Value->Array Value}(I:Inv X pins σ H s)(hH:H l=some (.lst xs))(e:s.heap.get? l=some { cls:= .type "list",data:= .seq its.toArray n })(hf:f its.toArray=its'.toArray)(hv:Vals ys its')(hz:ys.length<=sizeLine):Inv X pins σ (v9 H l (.lst ys)) { s with heap:=s.heap.update l (Obj.mapSeq f),toks:=t' }:=by have q:=PySem.IsL.update e f;rw [hf] at q;refine I.write (x:=l) (e:=l) (by rw [hH];exact trivial) (.inl rfl) (λb' u hb hu=>(Heap.get?_update_other s.heap (Obj.mapSeq f) (Ne.symm hb)).trans hu) ⟨_,q⟩ ?_;exact ⟨hz,its',_,hv,q⟩
theorem Inv.lnew (I:Inv X pins σ H s)(hv:Vals ys its)(hz:ys.length<=sizeLine):Inv X pins σ (v9 H s.heap.objs.size (.lst ys)) { s with heap:=s.heap.push { cls:= .type "list",data:= .seq its.toArray },toks:=t' } :=
 I.laid (λ_ _ q=>yT _ q) (yV _) ⟨hz,its,0,hv,yD _ rfl⟩
theorem Inv.fresh (I:Inv X pins σ H s):H s.heap.objs.size=none:=I.hok.fresh (yV _)
theorem Inv.lstM (I:Inv X pins σ H s)(hH:H l=some (.lst xs)):xs.length<=sizeLine/\∃ (its:List Value) (n:Nat),Vals xs its/\xs.length=its.length/\s.heap.get? l=some { cls:= .type "list",data:= .seq its.toArray n }:=by obtain ⟨z,its,n,r,e⟩:=I.hok l _ hH;exact ⟨z,its,n,r,r.length,e⟩
theorem Nv (h:n<=sizeLine):Builtin.List.listTooLong n=false:=by unfold Builtin.List.listTooLong;exact yI (by omega)
end
section
variable {X:Cx}
def Wr:V->List V->Hp->VK->Prop:=λx vs H Q=>∃ l xs y,x = .ref l/\vs=[y]/\H l=some (.lst xs)/\xs.length<sizeLine/\Q .non (v9 H l (.lst (xs++[y])))
theorem Qq:MtM X "list.append" Wr:=by intro pins s σ H x vs v us Q I rx rv h;obtain ⟨l,xs,y,rfl,rfl,hH,hz,q⟩:=h;cases rx;obtain ⟨u,rfl,ru⟩:=rv.one;obtain ⟨z,its,n,r,hl,e⟩:=I.lstM hH;refine call_meets F.slot_list_append ⟨_,e,rfl⟩ F.entry_list_append (F.args_list_append_2 _ _) (PySem.list_append l its.toArray n u (by rw [yX];omega)) ⟨e,?_⟩;refine ⟨.non,_,I.lset (its':=its++[u]) hH e (by simp) (r.append (.cons ru .nil)) ?_,rfl,q⟩;rw [yN,List.length_singleton];omega
def Pg:V->List V->Hp->VK->Prop:=λx vs H Q=>∃ l xs i k y,x = .ref l/\vs=[.int i]/\H l=some (.lst xs)/\-(2 ^ 63)<=i/\i<2 ^ 63/\seqIndex? i xs.length=some k/\xs[k]?=some y/\Q y (v9 H l (.lst (xs.eraseIdx k)))
theorem Nn:MtM X "list.pop" Pg:=by
 intro pins s σ H x vs v us Q I rx rv h;obtain ⟨l,xs,i,k,y,rfl,rfl,hH,h1,h2,hk,hy,q⟩:=h;cases rx;obtain ⟨u,rfl,ru⟩:=rv.one;obtain ⟨t,rfl⟩:=ru;obtain ⟨z,its,n,r,hl,e⟩:=I.lstM hH;obtain ⟨w,hw,rw'⟩:=r.get hy;refine call_meets F.slot_list_pop ⟨_,e,rfl⟩ F.entry_list_pop (F.args_list_pop_2 _ _)
  (MeetsSeq.list_pop_at l its.toArray n i t k w (fitsIndex_both h1 h2) (by rw [yX,<- hl];exact hk) (by rw [<- tW];exact hw) (by rw [yX];omega)) ⟨e,?_⟩
 refine ⟨y,_,I.lset (its':=its.eraseIdx k) hH e ?_ (r.eraseIdx k) ?_,rw',q⟩
 ·show its.toArray.eraseIdxIfInBounds k=(its.eraseIdx k).toArray;rw [List.eraseIdxIfInBounds_toArray]
 ·have:=Bj xs k;omega
def rRep:R2:=λx y H Q=>∃ l k xs,x = .ref l/\y = .int k/\H l=some (.lst xs)/\-(2 ^ 63)<=k/\k<2 ^ 63/\xs.length*k.toNat<=sizeLine /\
 ∀ p,H p=none->Q (.ref p) (v9 H p (.lst (List.replicate k.toNat xs).flatten))
theorem LV (xs:List α)(k:Nat):(List.replicate k xs).flatten.length=k*xs.length:=by
 induction k with
 |zero=>simp
 |succ k ih=>rw [uG,ut,yN,ih,Nat.succ_mul,Nat.add_comm]
theorem HV:OpR X (binaryOp .Mult) rRep:=by
 intro pins s σ H x y v u Q I rx ry h;obtain ⟨l,k,xs,rfl,rfl,hH,h1,h2,hz,q⟩:=h;cases rx;obtain ⟨t,rfl⟩:=ry;obtain ⟨z,its,n,r,hl,e⟩:=I.lstM hH;have hlen:its.toArray.size*k.toNat<=sizeLine:=by rw [yX,<- hl];exact hz
 have hcap:¬ its.toArray.size*k.toNat > (2 ^ 63-1) / 8:=by
  have:(sizeLine:Nat)<=(2 ^ 63-1) / 8:=by decide
  omega
 have hfit:¬ (!Builtin.List.listFitsIndex k)=true:=by rw [fitsIndex_both h1 h2];exact yS
 have hlong:¬ Builtin.List.listTooLong (its.toArray.size*k.toNat)=true:=by rw [Nv hlen];exact yS
 have hnew:List.foldl (λx1 x2=>x1++x2) #[] (List.replicate (if its.toArray.isEmpty=true then 0 else k.toNat) its.toArray)=(List.replicate k.toNat its).flatten.toArray:=by
  have f0:∀ m:Nat,List.foldl (λx1 x2=>x1++x2) #[] (List.replicate m its.toArray)=(List.replicate m its).flatten.toArray:=λm=>by
   have:=KE its m [];rw [List.nil_append] at this;exact this
  rw [f0];cases its with
  |nil=>simp
  |cons a r'=>rw [if_neg (by simp)]
 refine wpAny_binaryOp_repeat_ref (T:="list") (U:="int") (by decide) ⟨_,e,rfl⟩ (λs'=>typeIs_int s' k t) noFill_list_mul F.fills_int_mul F.slot_int_rmul repeat_list F.slot_int_index.lookup
  (call_meets F.slot_int_rmul (typeIs_int s k t) F.entry_int_rmul (F.args_int_rmul_2 _ _) (int___rmul___int_list k t l its.toArray n)
   ⟨e,rfl,⟨_,e,rfl⟩,call_meets F.slot_list_mul ⟨_,e,rfl⟩ F.entry_list_mul (F.args_list_mul_2 _ _) (AutoListH.list___mul___list_int_3 l its.toArray n k t hfit hcap hlong) ⟨e,?_⟩⟩)
 rw [hnew];exact ⟨.ref _,_,I.lnew (t':=s.toks) (r.rep k.toNat) (by rw [LV,Nat.mul_comm];exact hz),rfl,q _ I.fresh⟩
end
section
variable {κ:Type}[DecidableEq κ]
def qY (kvs:List (κ×V))(k:κ):Option V:=(kvs.find? λkv=>decide (kv.1=k)).map (·.2)
def zm (kvs:List (κ×V))(k:κ)(v:V):List (κ×V) :=
 if (kvs.any λkv=>decide (kv.1=k))=true then kvs.map (λkv=>if kv.1=k then (kv.1,v) else kv) else kvs++[(k,v)]
theorem Ua {p:κ×V}{r:List (κ×V)}{k:κ}(e:p.1=k):qY (p::r) k=some p.2:=by simp [qY,uC,e]
theorem YZ {p:κ×V}{r:List (κ×V)}{k:κ}(e:¬ p.1=k):qY (p::r) k=qY r k:=by simp [qY,uC,e]
theorem YY (k:κ):∀ kvs:List (κ×V),(kvs.any λkv=>decide (kv.1=k))=(qY kvs k).isSome
 |[]=>rfl
 |p::r=>by
  rw [List.any_cons];by_cases e:p.1=k
  ·simp only [Ua e,yG e,Bool.true_or,Option.isSome_some]
  ·rw [YZ e,yI e,Bool.false_or];exact YY k r
theorem Bl (kvs:List (κ×V))(k:κ)(v:V):(zm kvs k v).length<=kvs.length+1:=by
 unfold zm;split
 ·rw [yZ];omega
 ·rw [yN,yF,List.length_nil];omega
theorem RelO.isSome_eq {u:Option Value}(r:RelO o u):o.isSome=u.isSome:=by
 cases o with
 |none=>cases u with
  |none=>rfl
  |some _=>exact (show False from r).elim
 |some _=>cases u with
  |none=>exact (show False from r).elim
  |some _=>rfl
theorem KV.val {kvs:List (κ×V)}{vs:List (κ×Value)}(r:KV kvs vs)(k:κ):RelO (qY kvs k) (valueAt vs k):=by
 unfold KV at r
 induction r with
 |nil=>exact True.intro
 |@cons p q ps qs h t ih =>
  obtain ⟨h1,h2⟩:=h;by_cases e:p.1=k
  ·have e':q.1=k:=h1.symm.trans e;have b:valueAt (q::qs) k=some q.2:=by simp [valueAt,uC,e']
   rw [Ua e,b];exact h2
  ·have e':¬ q.1=k:=λz=>e (h1.trans z);have b:valueAt (q::qs) k=valueAt qs k:=by simp [valueAt,uC,e']
   rw [YZ e,b];exact ih
theorem KV.any {kvs:List (κ×V)}{vs:List (κ×Value)}(r:KV kvs vs)(k:κ):(kvs.any λkv=>decide (kv.1=k))=vs.any λkv=>decide (kv.1=k):=by
 unfold KV at r
 induction r with
 |nil=>rfl
 |cons h t ih=>rw [List.any_cons,List.any_cons,ih,h.1]
theorem KV.repl {kvs:List (κ×V)}{vs:List (κ×Value)}(r:KV kvs vs)(k:κ)(ry:RelV y u):KV (kvs.map λkv=>if kv.1=k then (kv.1,y) else kv) (vs.map λkv=>if kv.1=k then (kv.1,u) else kv):=by
 unfold KV at r ⊢
 induction r with
 |nil=>exact .nil
 |@cons p q ps qs h t ih =>
  rw [yO,yO];refine .cons ?_ ih;obtain ⟨h1,h2⟩:=h;by_cases e:p.1=k
  ·rw [if_pos e,if_pos (h1.symm.trans e)];exact ⟨h1,ry⟩
  ·rw [if_neg e,if_neg (λz=>e (h1.trans z))];exact ⟨h1,h2⟩
theorem KV.put {kvs:List (κ×V)}{vs:List (κ×Value)}(r:KV kvs vs)(k:κ)(ry:RelV y u):KV (zm kvs k y) (stored vs k u):=by
 unfold zm stored;rw [r.any k];by_cases e:(vs.any λkv=>decide (kv.1=k))=true
 ·rw [if_pos e,if_pos e];exact r.repl k ry
 ·rw [if_neg e,if_neg e];exact Paired.snoc r ⟨rfl,ry⟩
theorem KV.length {kvs:List (κ×V)}{vs:List (κ×Value)}(r:KV kvs vs):kvs.length=vs.length:=Paired.length r
end
theorem Qg {k:j4}(r:RelV (kV k) u):(qp P w).is k u=true:=by
 cases k with
 |inl i=>obtain ⟨t,e⟩:=(show ∃ t,u=Value.int i t from r);subst e;exact Nm P w i t
 |inr x=>obtain ⟨t,e⟩:=(show ∃ t,u=Value.str x t from r);subst e;exact VV P w x t
theorem KS {P:Program}{w:World}:∀{ks:List j4}{us:List Value},Vals (ks.map kV) us->ItemsAre (qp P w) ks us
 |[],_,r=>by rw [List.map_nil] at r;cases r;exact .nil
 |k::ks,_,r=>by
  rw [yO] at r;cases r with
  |cons h t=>exact .cons (Qg h) (KS t)
abbrev KT (H:Hp):List (List j4×V)->List (List j4×Addr×Value)->Prop:=Paired λp q=>p.1=q.1/\H q.2.1=some (.tup (p.1.map kV))/\RelV p.2 q.2.2
theorem KT.val (r:KT H kvs xs)(k:List j4):RelO (qY kvs k) ((atKey xs k).map (·.2)):=by
 induction r with
 |nil=>exact True.intro
 |@cons p q ps qs h t ih =>
  obtain ⟨h1,_,h2⟩:=h;by_cases e:p.1=k
  ·have e':q.1=k:=h1.symm.trans e;have b:atKey (q::qs) k=some q.2:=by simp [atKey,uC,e']
   rw [Ua e,b];exact h2
  ·have e':¬ q.1=k:=λz=>e (h1.trans z);have b:atKey (q::qs) k=atKey qs k:=by simp [atKey,uC,e']
   rw [YZ e,b];exact ih
theorem KT.repl (r:KT H kvs xs)(k:List j4)(ry:RelV y u):KT H (kvs.map λkv=>if kv.1=k then (kv.1,y) else kv) (xs.map (putAt k u)):=by
 induction r with
 |nil=>exact .nil
 |@cons p q ps qs h t ih =>
  rw [yO,yO];refine .cons ?_ ih;obtain ⟨h1,h2,h3⟩:=h;unfold putAt;by_cases e:p.1=k
  ·rw [if_pos e,if_pos (h1.symm.trans e)];exact ⟨h1,h2,ry⟩
  ·rw [if_neg e,if_neg (λz=>e (h1.trans z))];exact ⟨h1,h2,h3⟩
theorem KT.put (r:KT H kvs xs)(k:List j4){b:Addr}(hb:H b=some (.tup (k.map kV)))(ry:RelV y u):KT H (zm kvs k y) (storedH xs k b u):=by
 have e:(kvs.any λkv=>decide (kv.1=k))=(atKey xs k).isSome:=by rw [YY,(r.val k).isSome_eq,Option.isSome_map]
 unfold zm storedH;rw [e];by_cases q:(atKey xs k).isSome=true
 ·rw [if_pos q,if_pos q];exact r.repl k ry
 ·rw [if_neg q,if_neg q];exact Paired.snoc r ⟨rfl,hb,ry⟩
theorem KT.keeps (r:KT H kvs xs)(ht:∀ b ys,H b=some (.tup ys)->H' b=some (.tup ys)):KT H' kvs xs :=
 Paired.mapP r λ_ _ z=>⟨z.1,ht _ _ z.2.1,z.2.2⟩
section
variable {P:Program}{w:World}{H:Hp}{h:Heap}{a:Addr}
theorem Pm {u:HO}(ok:HOk P w H h)(e:Rd H a u):ObjOk P w H h a u:=e.ok ok
theorem vK {kvs:List (j4×V)}(ok:HOk P w H h)(e:Rd H a (.dK kvs)):kvs.length<=sizeLine/\(a==sysModules)=false/\∃ vs,KV kvs vs/\h.DictOf (qp P w) a vs :=
 show ObjOk P w H h a (.dK kvs) from Pm ok e
theorem dk_of {kvs:List (j4×V)}(ok:HOk P w H h)(e:H a=some (.dK kvs)):kvs.length<=sizeLine/\(a==sysModules)=false/\∃ vs,KV kvs vs/\h.DictOf (qp P w) a vs:=vK ok (.inl e)
theorem Xb {ks:List j4}(ok:HOk P w H h)(e:H a=some (.tup (ks.map kV))):(tupleKind (qp P w)).is h ks a:=by obtain ⟨_,its,r,o,h1,h2,n,h3⟩:=(show ObjOk P w H h a (.tup (ks.map kV)) from ok a _ e);exact ⟨o,its.toArray,n,h1,h2,h3,by simpa using KS r⟩
theorem QU (ok:HOk P w H h)(e:Rd H a (.dT kvs)):kvs.length<=sizeLine/\(a==sysModules)=false /\ ∃ xs,KT H kvs xs/\h.DictOfH (tupleKind (qp P w)) a xs:=by
 obtain ⟨z,y,xs,r,o,es,ep,h1,h2,h3,h4,h5⟩:=(show ObjOk P w H h a (.dT kvs) from Pm ok e);refine ⟨z,y,xs,r,o,es,ep,h1,h2,h3,h4,λx hx=>?_,h5⟩;have all:∀{l:List (List j4×V)}{m:List (List j4×Addr×Value)},KT H l m->∀ x∈m,(tupleKind (qp P w)).is h x.1 x.2.1:=by
  intro l m q
  induction q with
  |nil=>intro x hx;exact nomatch hx
  |@cons p q ps qs hq t ih =>
   intro x hx;rcases yH.mp hx with e|hx
   ·subst e;exact Xb ok (by rw [<- hq.1];exact hq.2.1)
   ·exact ih x hx
 exact all r x hx
theorem dt_of (ok:HOk P w H h)(e:H a=some (.dT kvs)):kvs.length<=sizeLine/\(a==sysModules)=false /\ ∃ xs,KT H kvs xs/\h.DictOfH (tupleKind (qp P w)) a xs:=QU ok (.inl e)
end
def DGet (H:Hp)(a:Addr)(y:V)(r:Option V):Prop :=
 (∃ kvs k,Rd H a (.dK kvs)/\y=kV k/\r=qY kvs k)∨∃ kvs k b,Rd H a (.dT kvs)/\y = .ref b/\H b=some (.tup (k.map kV))/\r=qY kvs k
def DPut (H:Hp)(a:Addr)(y v:V)(H':Hp):Prop :=
 (∃ kvs k,H a=some (.dK kvs)/\y=kV k/\kvs.length<sizeLine/\H'=v9 H a (.dK (zm kvs k v))) ∨
 ∃ kvs k b,H a=some (.dT kvs)/\y = .ref b/\H b=some (.tup (k.map kV))/\kvs.length<sizeLine/\H'=v9 H a (.dT (zm kvs k v))
theorem DGet.k {kvs:List (j4×V)}{k:j4}(e:H a=some (.dK kvs)):DGet H a (kV k) (qY kvs k):= .inl ⟨kvs,k,.inl e,rfl,rfl⟩
theorem DPut.k {kvs:List (j4×V)}{k:j4}{v:V}(e:H a=some (.dK kvs))(hl:kvs.length<sizeLine):DPut H a (kV k) v (v9 H a (.dK (zm kvs k v))):= .inl ⟨kvs,k,e,rfl,hl,rfl⟩
section
variable {X:Cx}{pins:List (Addr×Obj)}{σ:St}{H:Hp}{s:Shared}{a:Addr}{y v:V}{u r:Value}{o:Option V}{A:Around}{E:Value->Shared->Prop}
theorem Inv.big (I:Inv X pins σ H s):sysModules<s.heap.objs.size:=by have h:mainGlobals<s.heap.objs.size:=(I.mod.glob.keeps I.bk).lt;exact Nat.lt_trans (by decide) h
theorem Md (hu:A.units+1<cLine)(I:Inv X pins σ H s)(g:DGet H a y (some v))(ry:RelV y u)(h:∀ w' s',Inv X pins σ H s'->RelV v w'->Q w' s'):wpAny (model X.prog X.w) A (getItem (.ref a) u) Q E s:=by
 rcases g with ⟨kvs,k,e,ey,l⟩|⟨kvs,k,b,e,ey,eb,l⟩
 ·subst ey;obtain ⟨z,hd,vs,rel,dd⟩:=vK I.hok e;obtain ⟨w',hw,rw'⟩:=RelO.some_of (v:=v) (o:=valueAt vs k) (by rw [l];exact rel.val k);exact wpAny_getItem_of (Qg ry) dd.mapOf hw (h w' _ (I.tok _) rw')
 ·subst ey;cases (show u=Value.ref b from ry);obtain ⟨z,hd,xs,rel,dd⟩:=QU I.hok e;obtain ⟨w',hw,rw'⟩:=RelO.some_of (v:=v) (o:=(atKey xs k).map (·.2)) (by rw [l];exact rel.val k);obtain ⟨p,hp,hp2⟩:=yM.mp hw;refine wpAny_getItem_heap (tupleKind_room_in1 hu) (Xb I.hok eb) dd hp ?_;rw [hp2];exact h w' _ (I.tok _) rw'
theorem d_in (hu:A.units+1<cLine)(I:Inv X pins σ H s)(g:DGet H a y o)(ry:RelV y u)(h:∀ s',Inv X pins σ H s'->Q (.bool o.isSome) s'):wpAny (model X.prog X.w) A (compareOp .In u (.ref a)) Q E s:=by
 rcases g with ⟨kvs,k,e,ey,l⟩|⟨kvs,k,b,e,ey,eb,l⟩
 ·subst ey;obtain ⟨z,hd,vs,rel,dd⟩:=vK I.hok e;refine wpAny_in_of (Qg ry) hd dd.mapOf ?_;rw [<- (rel.val k).isSome_eq,<- l];exact h _ (I.tok _)
 ·subst ey;cases (show u=Value.ref b from ry);obtain ⟨z,hd,xs,rel,dd⟩:=QU I.hok e;refine wpAny_in_heap (tupleKind_room_in1 hu) (Xb I.hok eb) hd dd ?_;have q:=(rel.val k).isSome_eq;rw [Option.isSome_map] at q;rw [<- q,<- l];exact h _ (I.tok _)
theorem Me (hu:A.units+1<cLine)(I:Inv X pins σ H s)(g:DGet H a y o)(ry:RelV y u)(h:∀ s',Inv X pins σ H s'->Q (.bool (!o.isSome)) s'):wpAny (model X.prog X.w) A (compareOp .NotIn u (.ref a)) Q E s:=by
 rcases g with ⟨kvs,k,e,ey,l⟩|⟨kvs,k,b,e,ey,eb,l⟩
 ·subst ey;obtain ⟨z,hd,vs,rel,dd⟩:=vK I.hok e;refine wpAny_notIn_of (Qg ry) hd dd.mapOf ?_;rw [<- (rel.val k).isSome_eq,<- l];exact h _ (I.tok _)
 ·subst ey;cases (show u=Value.ref b from ry);obtain ⟨z,hd,xs,rel,dd⟩:=QU I.hok e;refine wpAny_notIn_heap (tupleKind_room_in1 hu) (Xb I.hok eb) hd dd ?_;have q:=(rel.val k).isSome_eq;rw [Option.isSome_map] at q;rw [<- q,<- l];exact h _ (I.tok _)
theorem Kk {ob:HO}(I:Inv X pins σ H s)(mu:Mut (H a))(hs:Heap.SameBut a s.heap h')(he:∃ q,h'.get? a=some q)(new:ObjOk X.prog X.w (v9 H a ob) h' a ob):Inv X pins σ (v9 H a ob) { s with heap:=h',toks:=t' } :=
 I.write (x:=a) (e:=a) mu (.inl rfl) (λb q hb z=>(hs.2 b hb).trans z) he new
theorem Kn {kvs:List (j4×V)}{vs:List (j4×Value)}(z:kvs.length<=sizeLine)(hd:(a==sysModules)=false)(rel:KV kvs vs)(dd:h'.DictOf (qp P w) a vs):ObjOk P w H' h' a (.dK kvs):=⟨z,hd,vs,rel,dd⟩
theorem Mf {Q:Unit->Shared->Prop}(hu:A.units+1<cLine)(I:Inv X pins σ H s)(g:DPut H a y v H')(ry:RelV y u)(rv:RelV v r)(h:∀ s',Inv X pins σ H' s'->Q () s'):wpAny (model X.prog X.w) A (setItem (.ref a) u r) Q E s:=by
 rcases g with ⟨kvs,k,e,ey,l,eH⟩|⟨kvs,k,b,e,ey,eb,l,eH⟩
 ·subst ey eH;obtain ⟨z,hd,vs,rel,dd⟩:=dk_of I.hok e;have hz:vs.length<=sizeLine:=by rw [<- rel.length];exact z
  have hl:(zm kvs k v).length<=sizeLine:=by have:=Bl kvs k v;omega
  refine wpAny_setItem_pairs (hsz:=hz) (Qg ry) dd λh' dd' hs=>h _ ?_;have he:∃ q,h'.get? a=some q:=let ⟨q,_,_,hq,_⟩:=dd';⟨q,hq⟩
  exact Kk I (by rw [e];exact True.intro) hs he (Kn hl hd (rel.put k rv) dd')
 ·subst ey eH;cases (show u=Value.ref b from ry);obtain ⟨z,hd,xs,rel,dd⟩:=dt_of I.hok e;have hz:xs.length<=sizeLine:=by rw [<- Paired.length rel];exact z
  have hl:(zm kvs k v).length<=sizeLine:=by have:=Bl kvs k v;omega
  refine wpAny_setItem_heap (hsz:=hz) (tupleKind_room_in1 hu) (Xb I.hok eb) dd λh' dd' hs=>h _ ?_;obtain ⟨q,es,ep,hq,h2,h3,h4,_,h5⟩:=dd';refine Kk I (by rw [e];exact True.intro) hs ⟨q,hq⟩ ⟨hl,hd,_,(rel.put k eb rv).keeps λc ys ec=>?_,q,es,ep,hq,h2,h3,h4,h5⟩;rw [j9 (ne_of ec e (λz=>nomatch z))];exact ec
end
section
variable {X:Cx}{pins:List (Addr×Obj)}{σ:St}{H:Hp}{s:Shared}{a:Addr}{kvs:List (j4×V)}{k:j4}{u:Value}{A:Around}{E:Value->Shared->Prop}
theorem d_len (I:Inv X pins σ H s)(e:Rd H a (.dK kvs))(h:∀ t s',Inv X pins σ H s'->Q (.int kvs.length t) s'):wpAny (model X.prog X.w) A (call (.builtin "len") [.ref a]) Q E s:=by obtain ⟨z,hd,vs,rel,dd⟩:=vK I.hok e;refine call_len_dict hd dd (by rw [<- rel.length];rw [sizeLine_eq] at z;omega) ?_;rw [<- rel.length];exact h _ _ (I.tok _)
end
def NoSl (i:Expr):Prop:=∀ ov iv,subscripted i false ov iv=operate [ov,iv] (getItem ov iv)
theorem SC {prog:Program}{E:Value->Shared->Prop}{env:Env}{value slice:Expr}{pos:Pos}{id:String}(hl:typeLookup (.type T) "__getitem__"=pure (some (.builtin id)))(hs:NoSl slice)(h:wpAny (model prog w) A (eval value env) (λo s₁=>wpAny (model prog w) A (eval slice env) (λi s₂=>s₂.TypeIs o T/\wpAny (model prog w) A (getItem o i) Q E s₂) E s₁) E s):wpAny (model prog w) A (eval (.Subscript value slice pos) env) Q E s:=by
 refine Subscript_ (wpAny_mono h (λo s₁ h₁=>wpAny_mono h₁ (λi s₂ h₂=>?_) λ_ _ x=>x) λ_ _ x=>x);obtain ⟨hT,h₂⟩:=h₂;unfold subscriptTail;refine yR ?_;rw [getitemInPython_of_ne hT.not_modules];refine yR (wpAny_specialOf hT hl ?_);have fin:wpAny (model prog w) A (subscripted slice false o i) (λr s₃=>wpAny (model prog w) A (letTemporaryGo value o r >>= λ_=>pure r) Q E s₃) E s₂:=by rw [hs o i];exact wpAny_operating (wpAny_mono h₂ (λr s₃ h₃=>yR (wpAny_letTemporaryGo (yx h₃))) λ_ _ x=>x)
 first
  |exact yx (yR fin)
  |exact yR (yx (yR fin))
  |exact yR fin
theorem Mg {X:Cx}(I:Inv X pins σ H s)(g:DGet H a y o):s.TypeIs (.ref a) "dict":=by
 rcases g with ⟨kvs,k,e,_,_⟩|⟨kvs,k,b,e,_,_,_⟩
 ·obtain ⟨_,_,vs,_,dd⟩:=vK I.hok e;exact dd.typeIs
 ·obtain ⟨_,_,xs,_,dd⟩:=QU I.hok e;exact dd.typeIs
def Ci (td ty:TE):TE:=λσ H Q=>td σ H λx H1=>ty σ H1 λy H2=>∃ a v,x = .ref a/\DGet H2 a y (some v)/\Q v H2
def tDIn (ty td:TE):TE:=λσ H Q=>ty σ H λy H1=>td σ H1 λx H2=>∃ a o,x = .ref a/\DGet H2 a y o/\Q (.bl o.isSome) H2
def Ck (ty td:TE):TE:=λσ H Q=>ty σ H λy H1=>td σ H1 λx H2=>∃ a o,x = .ref a/\DGet H2 a y o/\Q (.bl (!o.isSome)) H2
def PJ (td ty tv:TE):TS:=λD σ H=>tv σ H λv H1=>td σ H1 λx H2=>ty σ H2 λy H3=>∃ a H4,x = .ref a/\DPut H3 a y v H4/\D.nx σ H4
section
variable {X:Cx}{o i e value:Expr}{pos pos' tpos:Pos}{td ty tv:TE}
theorem vk (hu:X.A.units+1<cLine)(ho:PE X o td)(hi:PE X i ty)(hs:NoSl i):PE X (.Subscript o i pos) (Ci td ty):=by intro pins s σ H Q I h;refine SC PySem.F.slot_dict_getitem.lookup hs (j6 (ho pins s σ H _ I h) λu s1 ⟨x,H1,I1,rx,q1⟩=>j6 (hi pins s1 σ H1 _ I1 q1) λiv s2 ⟨y,H2,I2,ry,a,v,ex,g,q2⟩=>?_);subst ex;obtain rfl:u=Value.ref a:=rx;exact ⟨Mg I2 g,Md hu I2 g ry λw' s3 I3 rw'=>⟨v,H2,I3,rw',q2⟩⟩
theorem HZ (hu:X.A.units+1<cLine)(hi:PE X i ty)(ho:PE X o td):PC X .In i o (tDIn ty td):=by intro pins s σ H Q I h;refine j6 (hi pins s σ H _ I h) λiv s1 ⟨y,H1,I1,ry,q1⟩=>j6 (ho pins s1 σ H1 _ I1 q1) λu s2 ⟨x,H2,I2,rx,a,ov,ex,g,q2⟩=>?_;subst ex;obtain rfl:u=Value.ref a:=rx;exact d_in hu I2 g ry λs3 I3=>⟨.bl ov.isSome,H2,I3,rfl,q2⟩
theorem Ra (hu:X.A.units+1<cLine)(hi:PE X i ty)(ho:PE X o td):PC X .NotIn i o (Ck ty td):=by intro pins s σ H Q I h;refine j6 (hi pins s σ H _ I h) λiv s1 ⟨y,H1,I1,ry,q1⟩=>j6 (ho pins s1 σ H1 _ I1 q1) λu s2 ⟨x,H2,I2,rx,a,ov,ex,g,q2⟩=>?_;subst ex;obtain rfl:u=Value.ref a:=rx;exact Me hu I2 g ry λs3 I3=>⟨.bl (!ov.isSome),H2,I3,rfl,q2⟩
theorem RH (hu:X.A.units+1<cLine)(ho:PE X o td)(hi:PE X i ty)(hv:PE X value tv)(hs:swapsWith value (some (.Subscript o i pos')) pos.line X.env=pure false):PS X (.Assign [.Subscript o i pos'] value pos) (PJ td ty tv):=by intro pins s σ H D I h;refine wpAny_Assign_Subscript (j6 (hv pins s σ H _ I h) λr s1 ⟨v,H1,I1,rv,q1⟩=>j6 (ho pins s1 σ H1 _ I1 q1) λu s2 ⟨x,H2,I2,rx,q2⟩=>j6 (hi pins s2 σ H2 _ I2 q2) λiv s3 ⟨y,H3,I3,ry,a,H4,ex,g,q3⟩=>?_) hs;subst ex;obtain rfl:u=Value.ref a:=rx;exact Mf hu I3 g ry rv λs4 I4=>⟨σ,H4,I4,q3⟩
end
theorem Mj (h:Heap)(hb:sysModules<h.objs.size):ObjOk P w H (h.push { cls:= .type "dict",data:= .dict #[] }) h.objs.size (.dK []) :=
 ⟨uY _,beq_eq_false_iff_ne.mpr (Ne.symm (yL hb)),[],.nil,Heap.DictOf.new h⟩
def Cj:TE:=λ_ H Q=>∀ p,H p=none->Q (.ref p) (v9 H p (.dK []))
section
variable {X:Cx}{pos:Pos}
theorem Rf:PE X (.Dict [] [] pos) Cj:=λpins s σ H Q I h =>
 wpAny_Dict_empty ⟨.ref s.heap.objs.size,_,I.laid (a:=s.heap.objs.size) (o:= .dK []) (t':=s.toks) (λ_ _ q=>yT _ q) (yV _) (Mj s.heap I.big),rfl,h _ (I.hok.fresh (yV _))⟩
end
end L2
namespace Att
open PySem PySem.W PySem.Calls PyProof.Rows
variable{P:Params}{h:Heap}{l:OpenLaw}{n:Nat}
theorem Lh :∀(ns:List Int)(vs:List Value),WellAll P h vs (ns.map WData.int)->IntsAre vs ns:=by
 intro ns
 induction ns with
 |nil=>intro vs w;rw [List.map_nil] at w;cases w;exact .nil
 |cons n ns ih =>
  intro vs w;rw [yO] at w;cases w with
  |cons a b=>cases a;exact .cons _ _ (ih _ b)
theorem Sj (hn:l.most=some n){args:List WData}{vals:List Value}(hpre:l.row.toRowW.claim.pre args=true)(hwl:WellAll P h vals args):∃ a vs ns,vals=[Value.ref a]/\args=[WData.list (ns.map WData.int)]/\h.get? a=some { cls:= .type "list",data:= .seq vs.toArray }/\IntsAre vs ns/\ns.length<=n:=by
 have hsh:WShape.hasAll [] args [.list .int]=true:=(pre_splitW hpre).1;have hc:l.pre.holds [] { args:=args }=true:=(pre_splitW hpre).2;obtain ⟨d,r,rfl,h1,h2⟩:=hasAllW_cons hsh;obtain rfl:=hasAllW_nil h2;obtain ⟨xs,rfl,h3⟩:=hasW_list h1;obtain ⟨ns,rfl⟩:=items_int h3;have hlen:ns.length<=n:=by
  unfold OpenLaw.pre at hc;have h4:(WTm.not (.lt (.lit (.int (n:Int))) (.len (.arg 0)))).holds [] { args:=[.list (ns.map .int)] }=true:=by have h4:=(holds_andW hc).1;rw [hn] at h4;exact h4
  have h5:=condW_of h4 (w_not (w_lt w_lit (w_len_list (w_arg rfl))));rw [yZ] at h5;refine Nat.le_of_not_lt λq=>?_;have q':(n:Int)<((ns.length:Nat):Int):=by omega
  first
   |(rw [yG q'] at h5;exact absurd h5 (by decide))
   |(simp at h5;omega)
 cases hwl with
 |cons w1 w2 =>
  cases w2;cases w1 with
  |list ho hall=>exact ⟨_,_,ns,rfl,rfl,ho,Lh ns _ hall,hlen⟩
theorem RF (l:OpenLaw)(args:List WData):l.row.toRowW.claim.post args (.bool true) args=true :=
 postW_of (r:=l.row.toRowW) (X:=(true==true))
  (show WShape.has [] (.bool true) .bool=true by first|rfl|decide|simp [WShape.has,WShape.arms,WShape.armsAll])
  (show (WTm.eq .res (.lit (.bool true))).value [] { args:=args,res:=some (.bool true),after:=args }=some (.bool (true==true)) from w_eq_bool (w_res rfl) w_lit) rfl
theorem attach_call {q:Program}{loose:List Str}{XP:(Str->Option Value)->Heap->Prop}{YP:World->Heap->Prop}{d:DefRec}(hn:l.most=some n)(hdf:d.params.defaults=[])(call:∀ (w:World) (s₀ s₁:Shared) (mg mb:Str->Option Value) (fa:Addr) (o:Obj) (pm cd doc:Value) (a:Addr) (vs:List Value) (ns:List Int), Ground q loose [] XP w s₀ mg mb s₁.heap->YP w s₁.heap -> s₁.heap.get? fa=some o->o.data = .func (docDef d.name d.params d.body d.scope pm cd doc)->s₁.heap.CodeRec cd d.name->mg d.name=some (.ref fa) -> s₁.heap.get? a=some { cls:= .type "list",data:= .seq vs.toArray }->IntsAre vs ns->ns.length<=n->s₁.gens=#[] -> codeAny (model l.prog w) callerA (.call (.ref fa) ⟨[.ref a],[]⟩) (λr s'=>r = .ok (.ret (.bool true))/\OldK s₁.heap s'.heap/\s'.os=s₁.os/\AllBare s'.gens) s₁):WalkO q loose XP YP l.row.toRowW d [] (λf vs=>PySem.call f vs):=by intro w s₀ s₁ mg mb G Y fa o pm cd doc dV kV ho hd hcd hD hmg hg args vals as hpre hlay hrd hwl hlo;obtain rfl:dV = .none:=Dflts.none hD hdf;obtain rfl:kV = .none:=Dflts.noKw hD;obtain ⟨a,vs,ns,rfl,rfl,hobj,hints,hlen⟩:=Sj hn hpre hwl;refine enter_call (codeAny_mono (call w s₀ s₁ mg mb fa o pm cd doc a vs ns G Y ho (fd_plain hd) hcd hmg hobj hints hlen hg) λr s' hq=>?_);obtain ⟨rfl,h2,h3,h4⟩:=hq;exact ⟨.inl ⟨.bool true,.bool true,[],rfl,λ_=>rfl,.bool true,RF l _,λ_=>⟨List.Pairwise.nil,λ_ hm=>(nomatch hm)⟩⟩,h2,h3,h4⟩
end Att
namespace L2
open PySem PySem.Spec PyProof.Rows
variable{K:Fg}{a f:Addr}{fd:FuncData}{qual x:Str}{sp:Sp}{n:Nat}{st:Stmt}{ps:List Str}{A B:Prop}{H H':Hp}
theorem CH:∀{vs:List Value}{ns:List Int},IntsAre vs ns->Vals (ns.map V.int) vs
 |_,_,.nil=> .nil
 |_,_,.cons n t h=> .cons ⟨t,rfl⟩ (CH h)
def Only (H:Hp):Prop:=∀ b,H b=none∨(∃ o xs,H b=some (.frz o (.lst xs)))∨∃ p∈TABS,p.1=b/\H b=some (.tbl p.2.1 p.2.2)
structure wQ (K:Fg)(h:Heap):Prop where
 at_:∀ p∈TABS,h.get? p.1=some { cls:= .none,data:= .fields p.2.1 }
 tri:∀ p∈TABS,TriplesOk p.2.1.toList
 non:∀ p∈TABS,∀ q∈p.2.2,codeAmong q.1 p.2.1.toList=none
 tab:∀ p∈TABS,isCodeTable h p.1
 one:∀ p∈TABS,∀ q∈TABS,p.1=q.1->p=q
 out:∀ p∈TABS,K.lookup p.1=none
def zo:Hp:=λb=>(TABS.find? λp=>p.1==b).map λp=> .tbl p.2.1 p.2.2
theorem JA {b:Addr}{u:HO}(h:zo b=some u):∃ p∈TABS,p.1=b/\u = .tbl p.2.1 p.2.2:=by unfold zo at h;obtain ⟨p,e,r⟩:=yM.mp h;exact ⟨p,List.mem_of_find?_eq_some e,by have:=List.find?_some e;simpa using this,r.symm⟩
theorem Cs {h:Heap}(T:wQ K h){p:Addr×Array Value×List (Pos×Str)}(hp:p∈TABS):zo p.1=some (.tbl p.2.1 p.2.2):=by
 unfold zo;cases e:TABS.find? λq=>q.1==p.1 with
 |none=>exact absurd (List.find?_eq_none.mp e p hp) (by simp)
 |some q =>
  have e1:q.1=p.1:=by have:=List.find?_some e;simpa using this
  rw [T.one q (List.mem_of_find?_eq_some e) p hp e1];rfl
theorem LU {P:Program}{w:World}{mg mb:Str->Option Value}{CX:CXT}{k:Nat}{fa:Addr}{s₁:Shared}{vs:List Value}{ns:List Int}(KX:K.In s₁.heap)(T:wQ K s₁.heap)(hns:s₁.heap.Ns mainGlobals mg)(hb:s₁.heap.Ns builtinsNs mb)(hbb:∀ x:Str,x ≠ "__name__"->mb x=bootBuiltins x)(hlim:s₁.heap.NoLimit)(hbm:∃ bm ob,mg "__builtins__"=some (.ref bm)/\bm≠builtinsNs/\s₁.heap.get? bm=some ob/\ob.cls = .type "module"/\ob.dict=some builtinsNs/\ob.data = .plain)(hg:s₁.gens=#[])(ha:s₁.heap.get? a=some { cls:= .type "list",data:= .seq vs.toArray })(hi:IntsAre vs ns)(hl:ns.length<=sizeLine)(hr:Room k callerA)(F:∀ base:Heap,K.In base->base.Ns mainGlobals mg->FnOk P w K mg base CX k fa fd [x] sp)(hbind:∀ (s:Shared) (u:Value),BindsTo s fd ⟨[u],[]⟩ [(x,u)])(hsp:∀ H:Hp,Only H->SqL K H a (ns.map V.int)->sp [.ref a] H (λv _=>v = .bl true) λ_ _ _=>False)(hCX:∀ H e s',CX [] H s₁ (λ_ _ _=>False) e s'->False):codeAny (model P w) callerA (.call (.ref fa) ⟨[.ref a],[]⟩) (λr s'=>r = .ok (.ret (.bool true))/\OldK s₁.heap s'.heap/\s'.os=s₁.os/\AllBare s'.gens) s₁:=by
 have rv:=CH hi;have lenV:=hi.length;have naT:∀ p∈TABS,p.1≠a:=λp hp z=>by
  have e:=T.at_ p hp;rw [z,ha] at e;cases e
 have core:∀ H:Hp,Only H->SqL K H a (ns.map V.int)->HOk P w H s₁.heap->(∀ b,H b≠none->b=a∨∃ p∈TABS,p.1=b)->(∀ b,H b≠none->K.lookup b=none)->(∀ p∈TABS,H p.1=some (.tbl p.2.1 p.2.2)) ->
   codeAny (model P w) callerA (.call (.ref fa) ⟨[.ref a],[]⟩) (λr s'=>r = .ok (.ret (.bool true))/\OldK s₁.heap s'.heap/\s'.os=s₁.os/\AllBare s'.gens) s₁:=by
  intro H hO hS hok hA hK hT;have base_of:∀{b:Addr}{o:Obj},s₁.heap.get? b=some o->H b=none->(jp s₁.heap H).get? b=some o:=λe n=>MQ e n;have noA:∀{b:Addr}{o:Obj}{es:Array DictEntry}{ep:Nat},s₁.heap.get? b=some o->o.data = .dict es ep->H b=none:=λ{b o es ep} e d=>by
   cases q:H b with
   |none=>rfl
   |some u =>
    rcases hA b (by rw [q];simp) with e'|⟨p,hp,e'⟩
    ·subst e';rw [ha] at e;cases e;have d':Data.seq vs.toArray _=Data.dict es ep:=d;cases d'
    ·subst e';rw [T.at_ p hp] at e;cases e;have d':Data.fields p.2.1=Data.dict es ep:=d;cases d'
  have nsK:∀{b:Addr}{m:Str->Option Value},s₁.heap.Ns b m->(jp s₁.heap H).Ns b m:=λ{b m} ⟨o,es,ep,e,d,r⟩=>⟨o,es,ep,base_of e (noA e d),d,r⟩;have hKb:K.In (jp s₁.heap H):=λb o e=>base_of (KX b o e) (by
   cases q:H b with
   |none=>rfl
   |some u=>rw [hK b (by rw [q];simp)] at e;cases e)
  have noP:∀{b:Addr}{o:Obj},s₁.heap.get? b=some o->o.data = .plain->H b=none:=λ{b o} e d=>by
   cases q:H b with
   |none=>rfl
   |some u =>
    rcases hA b (by rw [q];simp) with e'|⟨p,hp,e'⟩
    ·subst e';rw [ha] at e;cases e;have d':Data.seq vs.toArray _=Data.plain:=d;cases d'
    ·subst e';rw [T.at_ p hp] at e;cases e;have d':Data.fields p.2.1=Data.plain:=d;cases d'
  have hM:Mod K mg (jp s₁.heap H):=⟨hKb,nsK hns,⟨mb,nsK hb,hbb⟩,let ⟨mc,h1,h2⟩:=hlim;⟨mc,nsK h1,h2⟩,let ⟨bm,ob,b1,b2,b3,b4,b5,b6⟩:=hbm;⟨bm,ob,b1,b2,base_of b3 (noP b3 b6),b4,b5,b6⟩⟩;have e0:Env0 P w K mg (jp s₁.heap H) callerA [] s₁ H:=⟨rfl,hM,λb o e=>Nw e,Nat.le_of_eq (MR _ _),trivial,λb hb=>absurd (show b∈([]:List Addr) from hb) (by simp),hok,.of_eq hg,hT⟩;refine codeAny_mono ((F _ hKb (nsK hns)).run callerA [] s₁ H ⟨[.ref a],[]⟩ [.ref a] [.ref a] _ _ hr e0 (hbind s₁ (.ref a)) (.cons rfl .nil) (hsp H hO hS)) λr s' h=>?_;cases r with
  |error e=>exact (hCX H e s' h).elim
  |ok fl =>
   cases fl with
   |next=>exact False.elim h
   |brk=>exact False.elim h
   |cont=>exact False.elim h
   |ret u =>
    obtain ⟨v,H',os,bare,un,hok',r',q⟩:=h;have q':v = .bl true:=q;subst q';obtain rfl:u=Value.bool true:=r';refine ⟨rfl,⟨λb o e=>?_,λb o e=>un.there b o e (by simp)⟩,os,bare⟩;rcases hO b with z|⟨ob,xs,z⟩|⟨p,hp,rfl,z⟩
    ·exact .inl (un.keep b o e z (by intro z;exact absurd (show b∈([]:List Addr) from z) (by simp)) (by simp))
    ·have z2:=un.frzs b ob _ z;obtain ⟨e1,_⟩:=hok b _ z;obtain ⟨e2,_⟩:=hok' b _ z2;rw [e] at e1;cases e1;exact .inl e2
    ·have z2:=un.tbls p.1 _ _ z;obtain ⟨more,e2,_⟩:=hok' p.1 _ z2;rw [T.at_ p hp] at e;cases e;exact .inr (.inl ⟨T.tab p hp,rfl,p.2.1,more,rfl,e2⟩)
 have tok:∀{H:Hp}{p:Addr×Array Value×List (Pos×Str)},p∈TABS->ObjOk P w H s₁.heap p.1 (.tbl p.2.1 p.2.2):=λ{H p} hp =>
  ⟨#[],by rw [Array.append_empty];exact T.at_ p hp,by rw [Array.append_empty];exact T.tri p hp,λq hq=> .inl (by rw [Array.append_empty];exact T.non p hp q hq)⟩
 have only:∀ b,zo b=none∨(∃ o xs,zo b=some (.frz o (.lst xs)))∨∃ p∈TABS,p.1=b/\zo b=some (.tbl p.2.1 p.2.2):=λb=>by
  cases q:zo b with
  |none=>exact .inl rfl
  |some u=>obtain ⟨p,hp,e1,rfl⟩:=JA q;exact .inr (.inr ⟨p,hp,e1,rfl⟩)
 have mine:∀ b,zo b≠none->∃ p∈TABS,p.1=b:=λb z=>by
  cases q:zo b with
  |none=>exact absurd q z
  |some u=>obtain ⟨p,hp,e1,_⟩:=JA q;exact ⟨p,hp,e1⟩
 cases hk:K.lookup a with
 |some o =>
  have e:=KX a o hk;rw [ha] at e;cases e;refine core zo only (.inr ⟨_,vs.toArray,_,hk,rfl,rfl,rfl,by rw [yX,lenV];exact hl,by simpa using rv⟩) (λb u z=>?_) (λb z=> .inr (mine b z)) (λb z=>?_) λp hp=>Cs T hp
  ·obtain ⟨p,hp,rfl,rfl⟩:=JA z;exact tok hp
  ·obtain ⟨p,hp,rfl⟩:=mine b z;exact T.out p hp
 |none =>
  refine core (λb=>if b=a then some (.frz { cls:= .type "list",data:= .seq vs.toArray } (.lst (ns.map V.int))) else zo b) (λb=>?_) (.inl (.inr ⟨{ cls:= .type "list",data:= .seq vs.toArray },if_pos rfl⟩)) (λb u z=>?_) (λb z=>?_) (λb z=>?_) λp hp=>?_
  ·by_cases hb:b=a
   ·exact .inr (.inl ⟨_,_,if_pos hb⟩)
   ·rcases only b with z|⟨o,xs,z⟩|⟨p,hp,e1,z⟩
    ·exact .inl ((if_neg hb).trans z)
    ·exact .inr (.inl ⟨o,xs,(if_neg hb).trans z⟩)
    ·exact .inr (.inr ⟨p,hp,e1,(if_neg hb).trans z⟩)
  ·by_cases hb:b=a
   ·have z':=(if_pos hb).symm.trans z;cases z';subst hb;exact ⟨ha,by rw [yZ];exact hl,vs,_,rv,ha⟩
   ·have z':=(if_neg hb).symm.trans z;obtain ⟨p,hp,rfl,rfl⟩:=JA z';exact tok hp
  ·by_cases hb:b=a
   ·exact .inl hb
   ·exact .inr (mine b λq=>z ((if_neg hb).trans q))
  ·by_cases hb:b=a
   ·rw [hb];exact hk
   ·obtain ⟨p,hp,rfl⟩:=mine b λq=>z ((if_neg hb).trans q);exact T.out p hp
  ·exact (if_neg (naT p hp)).trans (Cs T hp)
theorem IZ {l:PySem.W.OpenLaw}{k:Nat}{q:Program}{loose:List Str}{XP:(Str->Option Value)->Heap->Prop}{YP:World->Heap->Prop}{d:DefRec}{K:Params->Fg}{CX:World->CXT}{sp:World->Sp}(hn:l.most=some n)(hn2:n<=sizeLine)(hdf:d.params.defaults=[])(hr:Room k callerA)(hY:∀(w:World)(h:Heap),YP w h->(K w.params).In h)(F:∀(w:World)(mg:Str->Option Value)(fa:Addr)(h:Heap),YP w h->(K w.params).In h->h.Ns mainGlobals mg->mg d.name=some (.ref fa) -> ∃ fd:FuncData,(∀(s:Shared)(u:Value),BindsTo s fd ⟨[u],[]⟩ [(x,u)])/\wQ (K w.params) h /\ ∀ base:Heap,(K w.params).In base->base.Ns mainGlobals mg->FnOk l.prog w (K w.params) mg base (CX w) k fa fd [x] (sp w))(hsp:∀(w:World)(H:Hp)(a:Addr)(ns:List Int),ns.length<=n->Only H->SqL (K w.params) H a (ns.map V.int)->sp w [.ref a] H (λv _=>v = .bl true) λ_ _ _=>False)(hCX:∀(w:World)(H:Hp)(s:Shared)(e:Value)(s':Shared),CX w [] H s (λ_ _ _=>False) e s'->False):PySem.W.WalkO q loose XP YP l.row.toRowW d [] (λf vs=>PySem.call f vs):=by refine Att.attach_call hn hdf λw s₀ s₁ mg mb fa o pm cd doc a vs ns G Y ho hd hcd hmg hobj hints hlen hg=>?_;have KX:=hY w _ Y;obtain ⟨fd,hb,hT,hF⟩:=F w mg fa _ Y KX G.T.g hmg;exact LU KX hT G.T.g G.T.b G.T.builtins G.T.nolimit G.T.bmain hg hobj hints (ym hlen hn2) hr hF hb (λH hO hS=>hsp w H a ns hlen hO hS) λH e s'=>hCX w H s₁ e s'
def jq (s:Stmt)(j:Nat):Stmt:=match s with
 | .ClassDef _ _ _ body _ _ _ _ _ _ _=>body.getD j (.Pass ⟨0,0,0,0⟩)
 |_=> .Pass ⟨0,0,0,0⟩
def xU (s:Stmt):Arguments:=match s with
 | .FunctionDef _ a _ _ _ _ _ _ _ _=>a
 |_=>{ posonlyargs:=[],args:=[],vararg:=none,kwonlyargs:=[],kw_defaults:=[],kwarg:=none,defaults:=[] }
def qo (s:Stmt):List Stmt:=match s with
 | .FunctionDef _ _ b _ _ _ _ _ _ _=>b
 |_=>[]
def j7 (s:Stmt):Scope:=match s with
 | .FunctionDef _ _ _ _ _ _ sc _ _ _=>sc
 |_=>{ kind:= .function,names:=[],isGenerator:=false,isCoroutine:=false }
abbrev v6:CXT:=λ_ _ _ _ _ _=>False
abbrev E0:XK:=λ_ _ _=>False
theorem Jk {X:Cx}:vD v6 X E0:=λ_ _ _ _ _ _ _ h=>h.elim
structure Fun (K:Fg)(x qual:Str)(st:Stmt)(f:Addr)(fd:FuncData):Prop where
 ex:∃(oc:Value)(od:Option Addr)(kV doc pm:Value)(an:Option Addr)(cdv ct:Value)(osl:Array (Option Value)),
  fd=PySem.W.fnOf x qual (xU st) (qo st) (j7 st) .none kV doc pm an cdv ct/\K.lookup f=some ⟨oc,od,.func fd,osl⟩/\PySem.W.codeIn K cdv qual=true
 kp:PySem.W.keepIn K (.ref f)=true
section
variable {P:Program}{w:World}{K:Fg}{mg:Str->Option Value}{base:Heap}
theorem Fun.ok {N:List Str}{k:Nat}(F:Fun K x qual st f fd)(S:y4 N ps (j7 st))(len:∀ vs H Q E,sp vs H Q E->vs.length=ps.length)(hbody:∀(cdv:Value)(A:Around)(outer:List Env)(s:Shared)(H:Hp)(vs:List V)(Q:VK)(E:XK),Room k (A.deeper (envOfC qual (j7 st) s.heap.objs.size f cdv))->sp vs H Q E -> ∃ t,PSs (xz v6 P w K mg base N qual (j7 st) f cdv A outer s H E).nox (qo st) t/\t { nx:=λ_ H'=>Q .non H',rt:=Q } (start N vs) H):FnOk P w K mg base v6 (k+1) f fd ps sp:=by obtain ⟨oc,od,kV,doc,pm,an,cdv,ct,osl,rfl,lk,hcd⟩:=F.ex;refine Vl lk hcd S len λA outer s H vs Q E hr hsp=>?_;obtain ⟨t,h,q⟩:=hbody cdv A outer s H vs Q E hr hsp;exact ⟨t,h.nox,q⟩
theorem Fun.binds (F:Fun K x qual st f fd)(h:∀(kV doc pm:Value)(an:Option Addr)(cdv ct:Value)(us:List Value),us.length=ps.length->bindArgs (PySem.W.fnOf x qual (xU st) (qo st) (j7 st) .none kV doc pm an cdv ct) ⟨us,[]⟩=pure (ps.zip us)):Binds K fd ps []:=by obtain ⟨oc,od,kV,doc,pm,an,cdv,ct,osl,rfl,lk,hcd⟩:=F.ex;exact .all (h kV doc pm an cdv ct)
theorem vN {oc:Value}{od an:Option Addr}{osl:Array (Option Value)}{kV doc pm cdv ct:Value}(l:K.lookup f=some ⟨oc,od,.func (PySem.W.fnOf x qual (xU st) (qo st) (j7 st) .none kV doc pm an cdv ct),osl⟩)(c:PySem.W.codeIn K cdv qual=true)(k:PySem.W.keepIn K (.ref f)=true):Fun K x qual st f (PySem.W.fnOf x qual (xU st) (qo st) (j7 st) .none kV doc pm an cdv ct):=⟨⟨oc,od,kV,doc,pm,an,cdv,ct,osl,rfl,l,c⟩,k⟩
end
theorem xV {A:Around}{k:Nat}(hr:Room k A):A.units+1<cLine:=Nat.lt_of_le_of_lt (Nat.add_le_add_left (by decide:1<=64) _) hr.units
theorem XQ (h:n<=1000):n<sizeLine:=Nat.lt_of_le_of_lt h (by decide)
section
variable {X:Cx}
theorem pv (i:Nat){pos:Pos}(hN:X.N[i]?=some x:=by rfl)(hv:Vis X.env.scope x:=by first|exact Or.inl rfl|exact Or.inr (Or.inl rfl)|exact Or.inr (Or.inr rfl))(hd:(x==("__debug__":Str))=false:=by decide)(hcd:(x==("__classdict__":Str))=false:=by decide):PE X (.Name x pos) (qG i):=BI hN hv hd hcd
theorem DH:CallR X (.builtin "len") (λxs H Q=>∃ a kvs,xs=[V.ref a]/\H a=some (.dK kvs)/\Q (.int kvs.length) H):=by intro pins s σ H xs us Q I r h;obtain ⟨a,kvs,rfl,ha,q⟩:=h;obtain ⟨u,rfl,ru⟩:=zq r;cases ru;exact d_len I (.inl ha) λt s' I'=>⟨.int kvs.length,H,I',⟨t,rfl⟩,q⟩
end
theorem zB (h:B):if false=true then A else B:=by rw [if_neg yS];exact h
theorem zC (h:A):if true=true then A else B:=by rw [if_pos rfl];exact h
theorem ite2 {c:Prop}[Decidable c](h1:c->A)(h2:¬ c->B):if c then A else B:=by
 by_cases h:c
 ·rw [if_pos h];exact h1 h
 ·rw [if_neg h];exact h2 h
def Same (H H':Hp):Prop:=∀ b o,H b=some o->H' b=some o
theorem Same.refl (H:Hp):Same H H:=λ_ _ h=>h
theorem Same.trans {H1 H2:Hp}(a:Same H H1)(b:Same H1 H2):Same H H2:=λc o h=>b c o (a c o h)
theorem Same.free (e:Same H H'){l:Addr}(h:H' l=Option.none):H l=Option.none:=by
 cases q:H l with
 |none=>rfl
 |some o=>rw [e l o q] at h;cases h
theorem Same.seq {xs:List V}(e:Same H H')(h:SqL K H a xs):SqL K H' a xs:=by
 rcases h with (h|⟨o,h⟩)|h
 ·exact .inl (.inl (e _ _ h))
 ·exact .inl (.inr ⟨o,e _ _ h⟩)
 ·exact .inr h
end L2
set_option maxHeartbeats 4000000
set_option synthInstance.maxHeartbeats 4000000
set_option synthInstance.maxSize 4096
namespace L2
open PySem PySem.Spec PyProof.Rows
variable{c elt iter tg:Expr}{ifs:List Expr}{scope:Scope}{pos:Pos}{env:Env}{X:Cx}{o:Option V}{σ:St}{tt:TT}{te:TE}{wi:TI}{K:Fg}
section
variable {prog:Program}{w:World}{A:Around}{R:Result->Shared->Prop}{s:Shared}
theorem DV {target:Expr}{it acc:Value}(I:Nat->Shared->Prop)
  (turn:∀ n s,I n s->wpAny (model prog w) A (pyNext it) (λr s₁=>match r with
   |none=>R (.ok .next) s₁
   |some v=>wpAny (model prog w) A (letOwnedTupleGo target it v) (λ_ s₀=>wpAny (model prog w) A (assign target env v) (λ_ s₂ =>
     wpAny (model prog w) A (forIn ifs true λc r=>if r=true then do let ok <- isTrue c env (eval c env);pure (ForInStep.yield ok) else pure (ForInStep.yield r)) (λok s₃ =>
      if ok=true then wpAny (model prog w) A (eval elt env) (λx s₄ =>
       wpAny (model prog w) A (call (.builtin "list.append") [acc,x]) (λ_ s₅=>∃ m,m<n/\I m s₅) (λ_ _=>False) s₄) (λ_ _=>False) s₃
      else ∃ m,m<n/\I m s₃) (λ_ _=>False) s₂) (λ_ _=>False) s₀) (λ_ _=>False) s₁) (λ_ _=>False) s)
  (n:Nat) (h:I n s) :
  codeAny (model prog w) A (.compLoop (.ListComp elt [⟨target,iter,ifs,0⟩] scope pos) 0 it acc env) R s:=by
 refine codeAny_loop rfl I (λn s hI=>?_) n h;show wpAny _ A ((compTurn (.ListComp elt [⟨target,iter,ifs,0⟩] scope pos) 0 it acc env).onRaise (λx=>do noteFrame x env;theTreesLotGoes x)) _ _ s;refine wpAny_noted (wpAny_noRaise ?_);rw [compTurn_list];refine yR (wpAny_standAt (yR (j6 (turn n s hI) λr s₁ h₁=>?_)));cases r with
 |none=>exact yx h₁
 |some v =>
  refine yR (j6 h₁ λ_ s₀ h₀=>?_);refine yR (j6 h₀ λ_ s₂ h₂=>yR (j6 h₂ λok s₃ h₃=>?_));cases ok with
  |false=>exact yx ⟨rfl,h₃⟩
  |true=>exact yR (yR (j6 h₃ λx s₄ h₄=>yR (j6 h₄ λ_ s₅ h₅=>yx (yx ⟨rfl,h₅⟩))))
end
theorem KF {α β:Type}{f:α->β->Sem (ForInStep β)}(g:α->β->β):∀(l:List α)(b:β),(∀ a∈l,∀ b,f a b=pure (.yield (g a b)))->forIn l b f=(pure (l.foldl (λb a=>g a b) b):Sem β)
 |[],_,_=>rfl
 |x::l,b,h=>by
  rw [List.forIn_cons,h x yU,pure_bind];exact KF g l (g x b) λy hy=>h y (yW _ hy)
def ji (env:Env)(y:Str×NameKind)(cs:List (Str×Addr)):List (Str×Addr):=if y.2 == .free then (y.1,(env.cells.lookup y.1).getD 0)::cs else cs
theorem GV (env:Env):∀(l:List (Str×NameKind))(cs:List (Str×Addr)),(∀ y∈l,y.2 = .free->∃ c,env.cells.lookup y.1=some c)->(∀ x c,cs.lookup x=some c->env.cells.lookup x=some c) -> (∀ x c,(l.foldl (λb a=>ji env a b) cs).lookup x=some c->env.cells.lookup x=some c)
 |[],_,_,h=>h
 |(n,k)::l,cs,hl,h=>by
  refine GV env l _ (λy hy=>hl y (yW _ hy)) λx c e=>?_;unfold ji at e
  dsimp only at e
  cases hk:(k==NameKind.free) with
  |false=>rw [hk,if_neg yS] at e;exact h x c e
  |true =>
   rw [hk,if_pos rfl] at e;obtain ⟨c0,e0⟩:=hl (n,k) yU (by simpa using hk);cases hx:x==n with
   |true =>
    rw [uO,hx] at e;have hx':x=n:=by simpa using hx
    subst hx';have e':(List.lookup x env.cells).getD 0=c:=Option.some.inj e;have e0':List.lookup x env.cells=some c0:=e0;rw [e0'] at e';rw [e0',<- e'];rfl
   |false=>rw [uO,hx] at e;exact h x c e
theorem GW (env:Env)(x:Str):∀(l:List (Str×NameKind))(cs:List (Str×Addr)),(∃ c,cs.lookup x=some c)->∃ c,(l.foldl (λb a=>ji env a b) cs).lookup x=some c
 |[],_,h=>h
 |(n,k)::l,cs,h=>by
  refine GW env x l _ ?_;unfold ji
  dsimp only
  split
  ·rw [uO];cases hx:x==n with
   |true=>exact ⟨_,rfl⟩
   |false=>exact h
  ·exact h
theorem GU (env:Env):∀(l:List (Str×NameKind))(cs:List (Str×Addr)),∀ y∈l,y.2 = .free->∃ c,(l.foldl (λb a=>ji env a b) cs).lookup y.1=some c
 |[],_,_,h,_=>nomatch h
 |z::l,cs,y,h,hf=>by
  rcases yH.mp h with e|h
  ·subst e;refine GW env y.1 l _ ?_;unfold ji
   dsimp only
   rw [hf,if_pos (by rfl),uO,beq_self_eq_true];exact ⟨_,rfl⟩
  ·exact GU env l _ y h hf
theorem GX (h:∀ y∈scope.names,y.2 = .free->∃ c,env.cells.lookup y.1=some c):∃ cl,closureFor scope env=pure cl/\(∀ x c,cl.lookup x=some c->env.cells.lookup x=some c)/\∀ y∈scope.names,y.2 = .free->∃ c,cl.lookup y.1=some c:=by
 refine ⟨scope.names.foldl (λb a=>ji env a b) [],?_,GV env _ _ h (λx c e=>by cases e),GU env _ _⟩;simp only [closureFor];rw [KF (ji env) scope.names [] (λy hy b=>?_)]
 ·rfl
 ·obtain ⟨n,k⟩:=y;unfold ji;cases hk:(k==NameKind.free) with
  |false=>simp only [hk,Bool.false_eq_true,if_false]<;>rfl
  |true=>obtain ⟨c,e⟩:=h (n,k) hy (by simpa using hk);have e':List.lookup n env.cells=some c:=e;simp only [hk,if_true,cellOf,e'];rfl
theorem Po (env:Env)(n:Str)(k:NameKind)(r:List (Str×NameKind))(x:Str):((List.map (λ(n,k)=>if (k==NameKind.free&&env.scope.kind == .function&&env.kindOf n==some .cell) then (n,NameKind.cell) else (n,k)) ((n,k)::r)).lookup x) = (if x==n then some (if (k==NameKind.free&&env.scope.kind == .function&&env.kindOf n==some .cell) then NameKind.cell else k) else (List.map (λ(n,k)=>if (k==NameKind.free&&env.scope.kind == .function&&env.kindOf n==some .cell) then (n,NameKind.cell) else (n,k)) r).lookup x):=by
 rw [yO];show List.lookup x ((if (k==NameKind.free&&env.scope.kind == .function&&env.kindOf n==some .cell)=true then (n,NameKind.cell) else (n,k))::_)=_;by_cases hc:(k==NameKind.free&&env.scope.kind == .function&&env.kindOf n==some .cell)=true
 ·rw [if_pos hc,if_pos hc,uO];cases x==n<;>rfl
 ·rw [if_neg hc,if_neg hc,uO];cases x==n<;>rfl
theorem Pr {env:Env}{x:Str}{k:NameKind}:∀{names:List (Str×NameKind)}, (names.map λ(n,k)=>if (k==NameKind.free&&env.scope.kind == .function&&env.kindOf n==some .cell) then (n,NameKind.cell) else (n,k)).lookup x=some k -> ∃ k',names.lookup x=some k'/\(k'=k∨(k' = .free/\k = .cell))
 |[],h=>by simp at h
 |(n,q)::r,h=>by
  rw [Po] at h;rw [uO];cases hx:x==n with
  |true =>
   rw [hx,if_pos rfl] at h;have h':=Option.some.inj h;refine ⟨q,rfl,?_⟩;by_cases hc:(q==NameKind.free&&env.scope.kind == .function&&env.kindOf n==some .cell)=true
   ·rw [if_pos hc] at h';have hq:(q==NameKind.free)=true:=by
     cases z:(q==NameKind.free) with
     |true=>rfl
     |false=>rw [z] at hc;simp at hc
    exact .inr ⟨by simpa using hq,h'.symm⟩
   ·rw [if_neg hc] at h';exact .inl h'
  |false=>rw [hx,if_neg yS] at h;exact Pr h
theorem Pq {env:Env}{x:Str}:∀{names:List (Str×NameKind)},names.lookup x=some .free -> (names.map λ(n,k)=>if (k==NameKind.free&&env.scope.kind == .function&&env.kindOf n==some .cell) then (n,NameKind.cell) else (n,k)).lookup x=some .cell∨(names.map λ(n,k)=>if (k==NameKind.free&&env.scope.kind == .function&&env.kindOf n==some .cell) then (n,NameKind.cell) else (n,k)).lookup x=some .free
 |[],h=>by simp at h
 |(n,q)::r,h=>by
  rw [Po];rw [uO] at h;cases hx:x==n with
  |true =>
   rw [hx] at h;have h':q = .free:=Option.some.inj h;rw [if_pos rfl];by_cases hc:(q==NameKind.free&&env.scope.kind == .function&&env.kindOf n==some .cell)=true
   ·rw [if_pos hc];exact .inl rfl
   ·rw [if_neg hc,h'];exact .inr rfl
  |false=>rw [hx] at h;rw [if_neg yS];exact Pq h
def i0 (cap:List (Option Nat))(σ:St):St:=cap.map λo=>o.bind λi=>(σ[i]?).join
structure wB (X:Cx)(N':List Str)(cap:List (Option Nat))(sc:Scope):Prop where
 kind:sc.kind = .function
 nocell:∀ y∈sc.names,y.2 ≠ .cell
 names:∀ y∈sc.names,y.2 = .local->sc.names.lookup y.1=some .local
 free:∀ y∈sc.names,y.2 = .free->X.env.kindOf y.1=some .cell∨X.env.kindOf y.1=some .free
 len:cap.length=N'.length
 cap:∀(j i:Nat),cap[j]?=some (some i)->∃ x,N'[j]?=some x/\X.N[i]?=some x/\sc.names.lookup x=some .free
def Be:Option NameKind->Bool
 |some .cell=>true
 |some .free=>true
 |_=>false
theorem LP {k:Option NameKind}(h:Be k=true):k=some .cell∨k=some .free:=by
 cases k with
 |none=>cases h
 |some k=>cases k<;>first|exact .inl rfl|exact .inr rfl|cases h
def Jh (names:List (Str×NameKind))(kd:Str->Option NameKind)(y:Str×NameKind):Bool :=
 match y.2 with
 | .cell=>false
 | .local=>names.lookup y.1==some .local
 | .free=>Be (kd y.1)
 |_=>true
def zS (N:List Str)(sc:Scope):List Str->List (Option Nat)->Bool
 |[],[]=>true
 |_::r,none::c=>zS N sc r c
 |x::r,some i::c=>N[i]?==some x&&(sc.names.lookup x==some .free&&zS N sc r c)
 |_,_=>false
theorem JX {N:List Str}{sc:Scope}:∀{xs:List Str}{c:List (Option Nat)},zS N sc xs c=true->c.length=xs.length
 |[],[],_=>rfl
 |_::r,none::c,h=>by
  have h':zS N sc r c=true:=h;simp [JX h']
 |x::r,some i::c,h=>by
  have h':(N[i]?==some x&&(sc.names.lookup x==some .free&&zS N sc r c))=true:=h;simp only [yf] at h';simp [JX h'.2.2]
 |[],_::_,h=>by cases h
 |_::_,[],h=>by cases h
theorem JW {N:List Str}{sc:Scope}:∀{xs:List Str}{c:List (Option Nat)},zS N sc xs c=true->∀(j i:Nat),c[j]?=some (some i)->∃ x,xs[j]?=some x/\N[i]?=some x/\sc.names.lookup x=some .free
 |[],[],_,j,i,e=>by simp at e
 |_::r,none::c,h,0,i,e=>by simp at e
 |_::r,none::c,h,j+1,i,e=>by
  have h':zS N sc r c=true:=h;obtain ⟨x,h1,h2⟩:=JW h' j i (by simpa using e);exact ⟨x,by simpa using h1,h2⟩
 |x::r,some k::c,h,0,i,e=>by
  have h':(N[k]?==some x&&(sc.names.lookup x==some .free&&zS N sc r c))=true:=h;simp only [yf] at h';have e':k=i:=by simpa using e
  subst e';exact ⟨x,rfl,by simpa using h'.1,by simpa using h'.2.1⟩
 |x::r,some k::c,h,j+1,i,e=>by
  have h':(N[k]?==some x&&(sc.names.lookup x==some .free&&zS N sc r c))=true:=h;simp only [yf] at h';obtain ⟨x',h1,h2⟩:=JW h'.2.2 j i (by simpa using e);exact ⟨x',by simpa using h1,h2⟩
 |[],_::_,h,_,_,_=>by cases h
 |_::_,[],h,_,_,_=>by cases h
theorem i6 {N':List Str}{cap:List (Option Nat)}{sc:Scope}(h1:sc.kind = .function)(h2:(sc.names.all λy=>Jh sc.names X.env.kindOf y)=true)(h3:zS X.N sc N' cap=true):wB X N' cap sc:=by
 have h2':=uE.mp h2;refine ⟨h1,λy hy e=>?_,λy hy e=>?_,λy hy e=>?_,JX h3,JW h3⟩
 ·have q:=h2' y hy;unfold Jh at q;rw [e] at q;cases q
 ·have q:=h2' y hy;unfold Jh at q;rw [e] at q;simpa using q
 ·have q:=h2' y hy;unfold Jh at q;rw [e] at q;exact LP q
def qL (X:Cx)(N':List Str)(sc:Scope)(cl:List (Str×Addr))(C:Addr)(s:Shared)(H:Hp)(fp:List Addr)(pn:List (Addr×Obj)):Cx where
 prog:=X.prog
 w:=X.w
 K:=X.K
 mg:=X.mg
 base:=X.base
 A:=X.A
 N:=N'
 s₀:=s
 H₀:=H
 env:=compEnvC sc cl C X.env
 outer:=X.stack
 stack:=X.stack
 ex:=fp
 fn:=λ_=>false
 calm:=X.calm
 pn:=pn
 xe:=λ_ _=>False
section
variable {X:Cx}{pins:List (Addr×Obj)}{σ:St}{H:Hp}{s:Shared}{h1:Heap}{N':List Str}{cap:List (Option Nat)}{sc:Scope}{cl:List (Str×Addr)}{fp:List Addr}{C D:Addr}
theorem DZ (I:Inv X pins σ H s)(S:wB X N' cap sc)(hc1:∀ x c,cl.lookup x=some c->X.env.cells.lookup x=some c)(hc2:∀ y∈sc.names,y.2 = .free->∃ c,cl.lookup y.1=some c)(hf:∀ b∈fp,xx X pins H b)(ho:∀ b∈fp,b<s.heap.objs.size)(hC:s.heap.objs.size<=C):(qL X N' sc cl C s H fp (X.pn++pins)).Ok where
 mod:=I.ok.mod
 kind:=S.kind
 glob:=I.ok.glob
 blt:=I.ok.blt
 above:=hC
 inj:=λx y c e1 e2=>I.ok.inj x y c (hc1 x c e1) (hc1 y c e2)
 has:=λx hx=>by
  have key:∀ k,(relabel sc X.env).names.lookup x=some k->(k = .cell∨k = .free)->∃ c,cl.lookup x=some c:=λk e hk=>by
   obtain ⟨k',e',q⟩:=Pr e;have hm:=PySem.mem_of_lookup e';have hfree:k' = .free:=by
    rcases q with q|q
    ·rcases hk with z|z
     ·exact absurd (q.trans z) (S.nocell _ hm)
     ·exact q.trans z
    ·exact q.1
   exact hc2 (x,k') hm hfree
  rcases hx with e|e
  ·exact key _ e (.inl rfl)
  ·exact key _ e (.inr rfl)
 cab:=λx c hx _=>by cases hx
 hd:=I.ok.hd
 frames:=I.ok.frames
 stk:= .inl rfl
 exf:=λb hb=>⟨yL (yE (ho b hb) hC),λx c e=>(hf b hb).2.2.2.2.1 x c (hc1 x c e)⟩
 bs:=I.bs
 bsz:=ym I.ok.bsz I.sz
 noex:=λb o e hb=>by
  rcases (hf b hb).2.2.2.1 with z|z
  ·exact I.ok.noex b o e z
  ·exact absurd (yE (yQ e) (ym I.ok.bsz z)) (uF _)
 exfs:=λb hb hz=>by
  rcases yH.mp (I.stkSub b hz) with e|e
  ·exact (hf b hb).2.1 e
  ·exact (hf b hb).2.2.1 e
 funs:=I.stack
 frf:=I.stkFree
 tbs:=λp hp=>I.base.tbls _ _ _ (I.ok.tbs p hp)
theorem Li {m0:Str->Option Value}{o:Obj}(I:Inv X pins σ H s)(S:wB X N' cap sc)(hc1:∀ x c,cl.lookup x=some c->X.env.cells.lookup x=some c)(hc2:∀ y∈sc.names,y.2 = .free->∃ c,cl.lookup y.1=some c)(hf:∀ b∈fp,xx X pins H b)(ho:∀ b∈fp,b<s.heap.objs.size)(hD:s.heap.objs.size<=D)(hC:D<C)(hDo:h1.get? D=some o)(hoc:∀ v,o.data ≠ .cell v)(hns:h1.Ns C m0)(hk:∀ b o,s.heap.get? b=some o->h1.get? b=some o)(t:Nat):Inv (qL X N' sc cl C s H fp (X.pn++pins)) [(D,o)] (i0 cap σ) H { s with heap:=h1,toks:=t }:=by
 have hCs:s.heap.objs.size<=C:=ym hD (uJ hC);have lt_s:∀ b o,s.heap.get? b=some o->b≠C:=λb o e=>yL (yE (yQ e) hCs);refine ⟨DZ I S hc1 hc2 hf ho hCs,rfl,I.bare,Un.kept hk,⟨m0,hns,λj x v e1 e2 e3=>?_⟩,λx c e=>?_,I.hok.fresh hCs,λx c e=>I.freeC x c (hc1 x c e),λp hp=>?_,I.hok.kept hk,?_⟩
 ·obtain ⟨i,hi,hσ⟩:∃ i,cap[j]?=some (some i)/\σ[i]?=some (some v):=by
   unfold i0 at e2;rw [yP] at e2;cases hc:cap[j]? with
   |none=>rw [hc] at e2;cases e2
   |some o' =>
    rw [hc] at e2;have e2':(o'.bind λi=>(σ[i]?).join)=some v:=Option.some.inj e2;cases o' with
    |none=>cases e2'
    |some i =>
     refine ⟨i,rfl,?_⟩;have e3':(σ[i]?).join=some v:=e2';cases hs:σ[i]? with
     |none=>rw [hs] at e3';cases e3'
     |some q=>rw [hs] at e3';exact congrArg some e3'
  obtain ⟨x',n1,n2,n3⟩:=S.cap j i hi;have e1':N'[j]?=some x:=e1;rw [n1] at e1';obtain rfl:x'=x:=Option.some.inj e1';have hkd:=S.free (x',.free) (PySem.mem_of_lookup n3) rfl;obtain ⟨m,_,hl⟩:=I.loc;obtain ⟨u,r,l⟩:=hl i x' v n2 hσ (by
   rcases hkd with z|z
   ·exact .inr (.inl z)
   ·exact .inr (.inr z))
  refine ⟨u,r,?_⟩;rcases l with ⟨l1,_⟩|⟨_,c,ec,hcell⟩
  ·rcases hkd with z|z
   ·exact absurd (l1.symm.trans z) (by simp)
   ·exact absurd (l1.symm.trans z) (by simp)
  ·obtain ⟨c',ec'⟩:=hc2 (x',.free) (PySem.mem_of_lookup n3) rfl;have q:=hc1 x' c' ec';rw [ec] at q;obtain rfl:c=c':=Option.some.inj q;refine .inr ⟨Pq n3,c,ec',?_⟩;obtain ⟨oc,hoc',hd⟩:=hcell;exact ⟨oc,hk _ _ hoc',hd⟩
 ·obtain ⟨v,oc,hoc',hd⟩:=I.cell x c (hc1 x c e);exact ⟨v,oc,hk _ _ hoc',hd⟩
 ·rcases yc.mp hp with hp|hp
  ·obtain ⟨e,n,ne,nf,d⟩:=I.pin p hp;refine ⟨hk _ _ e,n,lt_s _ _ e,λhz=>?_,d⟩;rcases yH.mp (I.stkSub _ hz) with e'|e'
   ·exact ne e'
   ·exact nf e'
  ·have e:p=(D,o):=by simpa using hp
   subst e;refine ⟨hDo,I.hok.fresh hD,yL hC,λhz=>?_,hoc⟩;rcases yH.mp (I.stkSub _ hz) with e'|e'
   ·exact absurd (yE I.lt hD) (by rw [show X.env.locals=D from e'.symm];exact uF _)
   ·exact I.nofs hD e'
 ·unfold i0;rw [yZ];exact S.len
end
structure Wk (σ σ':St):Prop where
 len:σ.length=σ'.length
 at':∀(i:Nat) v,σ[i]?=some (some v)->σ'[i]?=some (some v)
theorem Wk.refl (σ:St):Wk σ σ:=⟨rfl,λ_ _ h=>h⟩
theorem Wk.set {σ':St}{i:Nat}(w:Wk σ σ')(h:σ[i]?=some none):Wk σ (σ'.set i o):=by
 refine ⟨by rw [yg];exact w.len,λj v e=>?_⟩;have ne:i≠j:=λz=>by rw [<- z,h] at e;cases e
 rw [yq ne];exact w.at' j v e
theorem Wk.one {i:Nat}(h:σ[i]?=some none):Wk σ (σ.set i o):=(Wk.refl σ).set h
def PTs (X:Cx)(ifs:List Expr)(t:TT):Prop :=
 ∀(pins:List (Addr×Obj))(s:Shared)(σ:St)(H:Hp)(Q:Bool->Hp->Prop),Inv X pins σ H s->t σ H Q ->
  wpAny (model X.prog X.w) X.A (forIn ifs true λc r=>if r=true then do let ok <- isTrue c X.env (eval c X.env);pure (ForInStep.yield ok) else pure (ForInStep.yield r)) (TP X pins σ Q) X.xe s
def tYes:TT:=λ_ H Q=>Q true H
theorem o9 :PTs X [] tYes:=λ_ _ _ H _ I h=>wpAny_tests_nil ⟨H,I,h⟩
theorem BS {t:TT}(h:PT X c t):PTs X [c] t:=λpins s σ H Q I q=>wpAny_tests_one (h pins s σ H Q I q)
def Ui (J:It)(g:TG)(tt:TT)(te:TE)(Q:VK)(σ0:St)(H1:Hp):Prop:=∃ W:Nat->Nat->List V->Hp->Prop,(∃ m,W 0 m [] H1)/\∀ i m ys H,W i m ys H->ys.length<=sizeLine /\
  ((J.stop i H/\∀ D,H D=none->Q (.ref D) (v9 H D (.lst ys))) ∨
   (J.go i H/\∀ x H',J.yld i H x H'->g x σ0 H' λσ2 H2=>Wk σ0 σ2/\tt σ2 H2 λb H3 =>
      if b=true then te σ2 H3 λv H4=>∃ m',m'<m/\W (i+1) m' (ys++[v]) H4 else ∃ m',m'<m/\W (i+1) m' ys H3))
def Jy (wi:TI)(g:TG)(tt:TT)(te:TE)(cap:List (Option Nat)):TE:=λσ H Q=>wi σ H λJ H1=>Ui J g tt te Q (i0 cap σ) H1
section
variable {X:Cx}{pins:List (Addr×Obj)}{σ:St}{s₂:Shared}{N':List Str}{cap:List (Option Nat)}{sc:Scope}{cl:List (Str×Addr)}{fp:List Addr}
theorem GZ {g:TG}{Q:VK}{H2:Hp}{it:Addr}{tn:Nat->Heap->Prop}{J:It}{E:Value->Shared->Prop}{RR:Value->Addr->Result->Shared->Prop}(S:wB X N' cap sc)(hc:X.calm=true)(hc1:∀ x c,cl.lookup x=some c->X.env.cells.lookup x=some c)(hc2:∀ y∈sc.names,y.2 = .free->∃ c,cl.lookup y.1=some c)(hg:∀ C pn,PG (qL X N' sc cl C s₂ H2 fp pn) tg g)(ht:∀ C pn,PTs (qL X N' sc cl C s₂ H2 fp pn) ifs tt)(he:∀ C pn,PE (qL X N' sc cl C s₂ H2 fp pn) elt te)(I2:Inv X pins σ H2 s₂)(T:Turn X.prog X.w X.K tg J fp it tn)(st2:tn 0 s₂.heap)(f2:∀ b∈fp,xx X pins H2 b)(W:Nat->Nat->List V->Hp->Prop)(w0:∃ m,W 0 m [] H2)(turn:∀ i m ys H,W i m ys H->ys.length<=sizeLine /\ ((J.stop i H/\∀ D,H D=none->Q (.ref D) (v9 H D (.lst ys)))∨(J.go i H/\∀ x H',J.yld i H x H'->g x (i0 cap σ) H' λσ2 H2=>Wk (i0 cap σ) σ2/\tt σ2 H2 λb H3 => if b=true then te σ2 H3 λv H4=>∃ m',m'<m/\W (i+1) m' (ys++[v]) H4 else ∃ m',m'<m/\W (i+1) m' ys H3)))(hRR:∀ D C H' s' m,Inv X pins σ H' s'->s'.heap.Ns C m->xx X pins H' C->Q (.ref D) H'->RR (.ref D) C (.ok .next) s'):wpAny (model X.prog X.w) X.A (newList []) (λacc s₃=>wpAny (model X.prog X.w) X.A (newFunctionEnv sc X.env.globals cl [] X.env.qual none .none (some X.env)) (λcenv s₄ => codeAny (model X.prog X.w) X.A (.compStart (.ListComp elt [⟨tg,iter,ifs,0⟩] sc pos) 0 (.ref it) acc { cenv with scope:=relabel sc X.env }) (RR acc cenv.locals) s₄) E s₃) E s₂:=by
  refine wpAny_newObj_type (wpAny_newFunctionEnv S.nocell (by intro y hy;simp at hy) (λh₁ hns₁ hsb₁=>?_) S.kind)
  dsimp only at hns₁ hsb₁ ⊢
  generalize hG:s₂.heap.push { cls:= .type "list",dict:=none,data:= .seq ([]:List Value).toArray }=G at hns₁ hsb₁ ⊢;have hC:G.objs.size=s₂.heap.objs.size+1:=by rw [<- hG,ux]
  have hDC:s₂.heap.objs.size<G.objs.size:=by rw [hC];exact uj _
  have old:∀ b o,s₂.heap.get? b=some o->h₁.get? b=some o:=λb o e =>
    hsb₁.extBut b o (yL (Nat.lt_trans (yQ e) hDC)) (yT _ (hG▸yT _ e))
  have hacc:h₁.get? s₂.heap.objs.size=some (LCg.lst []):=hsb₁.extBut _ _ (yL hDC) (yT _ (hG▸yD _ rfl));have fl:∀ b∈fp,b<s₂.heap.objs.size:=λb hb=>by obtain ⟨o,e,_⟩:=T.obj _ _ st2 b hb;exact yQ e
  have seqd:∀(us:List Value) v,(LCg.lst us).data ≠ .cell v:=λus v z=>by cases z
  have cellt:∀ x c,cl.lookup x=some c->c<s₂.heap.objs.size:=λx c e=>by obtain ⟨v,oc,ho,_⟩:=I2.cell x c (hc1 x c e);exact yQ ho
  have pint:∀ p∈X.pn++pins,p.1<s₂.heap.objs.size:=λp hp=>yQ (I2.pin p hp).1;have I0:Inv (qL X N' sc cl G.objs.size s₂ H2 fp (X.pn++pins)) [(s₂.heap.objs.size,LCg.lst [])] (i0 cap σ) H2 { s₂ with heap:=h₁,toks:=s₂.toks+([]:List (Str×Value)).length } :=
    Li I2 S hc1 hc2 f2 fl (yV _) hDC hacc (seqd []) hns₁ old _
  have stat:∀{H':Hp}{us:List Value},(∀ b∈fp,H' b=none)->∀ b∈fp,xx (qL X N' sc cl G.objs.size s₂ H2 fp (X.pn++pins)) [(s₂.heap.objs.size,LCg.lst us)] H' b:=λ{H' us} hn b hb=>by
    obtain ⟨f0,f1,f2',f3,f4,f5⟩:=f2 b hb;refine ⟨hn b hb,yL (Nat.lt_trans (fl b hb) hDC),λhz=>?_,.inl hb,λx c e=>f4 x c (hc1 x c e),λp hp=>?_⟩
    · rcases yH.mp (I2.stkSub b hz) with e|e
      · exact f1 e
      · exact f2' e
    · rcases yc.mp hp with hp|hp
      · exact f5 p hp
      · have e:p=(s₂.heap.objs.size,LCg.lst us):=by simpa using hp
        rw [e];exact Ne.symm (yL (fl b hb))
  have loop:∀ s₃:Shared,s₃={ s₂ with heap:=h₁,toks:=s₂.toks+([]:List (Str×Value)).length } ->
      codeAny (model X.prog X.w) X.A (.compLoop (.ListComp elt [⟨tg,iter,ifs,0⟩] sc pos) 0 (.ref it) (.ref s₂.heap.objs.size) (compEnvC sc cl G.objs.size X.env)) (RR (.ref s₂.heap.objs.size) G.objs.size) s₃:=by
    rintro s₃ rfl;obtain ⟨m0,w0⟩:=w0;refine DV
      (λn s'=>∃ i ys us H',Inv (qL X N' sc cl G.objs.size s₂ H2 fp (X.pn++pins)) [(s₂.heap.objs.size,LCg.lst us)] (i0 cap σ) H' s'/\Vals ys us/\tn i s'.heap/\(∀ b∈fp,H' b=none)/\W i n ys H') ?_ m0
      ⟨0,[],[],H2,I0,.nil,T.keep _ _ _ st2 λb _ o e=>old b o e,λb hb=>(f2 b hb).1,w0⟩
    rintro n s3 ⟨i,ys,us,H3,I3,rv,st3,fr3,w3⟩;obtain ⟨hz,alt⟩:=turn i n ys H3 w3;rcases alt with ⟨stop,fin⟩|⟨go,step⟩
    · refine j6 (T.done (qL X N' sc cl G.objs.size s₂ H2 fp (X.pn++pins)) rfl rfl rfl hc i _ s3 _ H3 _ I3 (stat fr3) st3 stop) λr s4 ⟨hr,I4⟩=>?_
      subst hr;obtain ⟨gD,nD,_,_,_⟩:=I4.pin (s₂.heap.objs.size,LCg.lst us) (yw _ (yJ.mpr rfl));have nD':H3 s₂.heap.objs.size=none:=nD;have gD':s4.heap.get? s₂.heap.objs.size=some (LCg.lst us):=gD;have b4:Un (frs X.stack) fp H2 H3 s₂.heap s4.heap:=I4.base;have n2:H2 s₂.heap.objs.size=none:=I2.hok.fresh (yV _);have un:Un (frs X.stack) fp H2 (v9 H3 s₂.heap.objs.size (.lst ys)) s₂.heap s4.heap :=
        ⟨b4.keep,b4.slot,λb o e n hx=>by rw [j9 (yL (yQ e))];exact b4.free b o e n hx,b4.there,
          λb xs e=>by rw [j9 (g8 e n2)];exact b4.tups b xs e,λb o u e=>by rw [j9 (g8 e n2)];exact b4.frzs b o u e,
          λb ps q e=>by rw [j9 (g8 e n2)];exact b4.tbls b ps q e⟩
      have hok:HOk X.prog X.w (v9 H3 s₂.heap.objs.size (.lst ys)) s4.heap:=λb u e=>by
        by_cases hb:b=s₂.heap.objs.size
        · subst hb
          rw [g0] at e;cases e;exact ⟨hz,us,us.length,rv,gD'⟩
        · rw [j9 hb] at e
          exact (I4.hok b u e).stay (λc v _ q=>q) (λc q=>by rw [j9 (g8 q nD')];exact q) (λc xs q=>by rw [j9 (g8 q nD')];exact q) λc _ _ q=>by rw [j9 (g8 q nD')];exact q
      have IF:Inv X pins σ (v9 H3 s₂.heap.objs.size (.lst ys)) s4:=I2.call' (ch:=fp) I4.os un hok I4.bare λb hb=>by
        obtain ⟨f0,f1,f2',f3,f4,f5⟩:=f2 b hb;exact ⟨f3,f1,f4,f5⟩
      obtain ⟨mF,hnF,_⟩:=I4.loc;refine hRR _ _ _ _ mF IF hnF (I2.fpOk (uJ hDC) ?_) (fin _ nD');rw [j9 (Ne.symm (yL hDC))];exact I4.free
    · refine j6 (T.item (qL X N' sc cl G.objs.size s₂ H2 fp (X.pn++pins)) rfl rfl rfl hc i _ s3 _ H3 _ I3 (stat fr3) st3 go) λr s4 ⟨u,hr,h4⟩=>?_
      subst hr;refine j6 h4 λ_ s5 ⟨x,H5,I5,r5,y5,st5,fr5⟩=>?_;have I5':=I5.pinned (stat fr5) (T.obj _ _ st5);refine j6 (hg G.objs.size (X.pn++pins) _ s5 _ H5 x u _ I5' r5 (step x H5 y5)) λ_ s6 ⟨σ6,H6,I6,wk,q6⟩=>?_;refine j6 (ht G.objs.size (X.pn++pins) _ s6 σ6 H6 _ I6 q6) λok s7 ⟨H7,I7,q7⟩=>?_;have back:∀{σ8:St}{H8:Hp}{s8:Shared}{us8:List Value},Inv (qL X N' sc cl G.objs.size s₂ H2 fp (X.pn++pins)) ([(s₂.heap.objs.size,LCg.lst us8)]++XC fp s5.heap) σ8 H8 s8 ->
          tn (i+1) s8.heap/\∀ b∈fp,H8 b=none:=λ{σ8 H8 s8 us8} I8=>by
        refine ⟨T.keep _ _ _ st5 λb hb o e=>(I8.pin (b,o) (yw _ (yw _ (Jf hb e)))).1,λb hb=>?_⟩;obtain ⟨o,e,d⟩:=T.obj _ _ st5 b hb;exact (I8.pin (b,o) (yw _ (yw _ (Jf hb e)))).2.1
      cases ok with
      |false=>obtain ⟨m',hm,w7⟩:=q7;obtain ⟨t7,f7⟩:=back I7;exact ⟨m',hm,i+1,ys,us,H7,I7.unpinned.weak wk.len wk.at',rv,t7,f7,w7⟩
      |true =>
        refine j6 (he G.objs.size (X.pn++pins) _ s7 σ6 H7 _ I7 q7) λuv s8 ⟨v,H8,I8,r8,m',hm,w8⟩=>?_;obtain ⟨t8,f8⟩:=back I8;obtain ⟨gD,nD,lD,fD,_⟩:=I8.pin (s₂.heap.objs.size,LCg.lst us) (yw _ (uQ _ (yJ.mpr rfl)));have gD':s8.heap.get? s₂.heap.objs.size=some { cls:= .type "list",data:= .seq us.toArray us.length }:=gD;refine append_at (hsz:=by rw [yX,<- rv.length];exact hz) gD' λh9 hs9 hD9=>?_;have I8a:Inv (qL X N' sc cl G.objs.size s₂ H2 fp (X.pn++pins)) [] σ6 H8 s8:=I8.pins_of λp hp=>nomatch hp;have I9:Inv (qL X N' sc cl G.objs.size s₂ H2 fp (X.pn++pins)) [] σ6 H8 { s8 with heap:=h9,toks:=s8.toks } :=
          I8a.turned (it:=s₂.heap.objs.size) (λb o hb e=>hs9.extBut b o hb e) nD lD (.inr (yV _)) (λx c e=>yL (cellt x c e)) λp hp=>by
            rw [yt] at hp;exact yL (pint p hp)
        have I10:Inv (qL X N' sc cl G.objs.size s₂ H2 fp (X.pn++pins)) [(s₂.heap.objs.size,LCg.lst (us++[uv]))] σ6 H8 { s8 with heap:=h9,toks:=s8.toks }:=I9.pins_of λp hp=>by
          have e:p=(s₂.heap.objs.size,LCg.lst (us++[uv])):=by simpa using hp
          subst e;exact ⟨hD9.trans (congrArg some (LCg.lst_snoc us uv)),nD,lD,fD,seqd _⟩
        refine ⟨m',hm,i+1,ys++[v],us++[uv],H8,I10.weak wk.len wk.at',rv.append (.cons r8 .nil),T.keep _ _ _ t8 λb hb o e=>hs9.extBut b o (yL (fl b hb)) e,f8,w8⟩
  have st1:tn 0 h₁:=T.keep _ _ _ st2 λb _ o e=>old b o e;exact codeAny_compStart_list (loop _ rfl) (T.self _ 0 _ _ _ st1 (loop _ rfl))
theorem qz {g:TG}(S:wB X N' cap sc)(hc:X.calm=true)(hi:PI X tg iter wi)(hg:∀ cl C s H fp pn,PG (qL X N' sc cl C s H fp pn) tg g)(ht:∀ cl C s H fp pn,PTs (qL X N' sc cl C s H fp pn) ifs tt)(he:∀ cl C s H fp pn,PE (qL X N' sc cl C s H fp pn) elt te)(hs:∀ x,foldedSetIterable iter X.env x=pure x:=by intro _;rfl):PE X (.ListComp elt [⟨tg,iter,ifs,0⟩] sc pos) (Jy wi g tt te cap):=by intro pins s σ H Q I h;rw [eval_ListComp];obtain ⟨cl,hcl,hc1,hc2⟩:=GX (scope:=sc) (env:=X.env) λy hy e=>I.ok.has y.1 (S.free y hy e);refine wpAny_comprehension_free (use:=none) rfl hs hcl S.kind S.names (j6 (hi pins s σ H _ I h) λv s1 h1=>j6 h1 λitv s2 h2=>?_);obtain ⟨it,fp,tn,J,H2,e,I2,T,st2,f2,W,w0,turn⟩:=h2;subst e;refine GZ (RR:=λacc C=>compPost (model X.prog X.w) X.A X.xe none (EP X pins σ Q) acc C) S hc hc1 hc2 (λC pn=>hg cl C s2 H2 fp pn) (λC pn=>ht cl C s2 H2 fp pn) (λC pn=>he cl C s2 H2 fp pn) I2 T st2 f2 W w0 turn ?_;intro D C H' s' m I' hn F q;obtain ⟨f0,f1,f2',f3,f4,f5⟩:=F;exact ⟨m,hn,λh' hs'=>⟨.ref D,H',I'.turned (t':=s'.toks) (λb o hb e=>hs'.extBut b o hb e) f0 f1 f3 f4 f5,rfl,q⟩⟩
theorem vt {i:Nat}{x:Str}{spos pos':Pos}{g:TG}(S:wB X N' cap sc)(hc:X.calm=true)(hN:X.N.Nodup)(hx:X.N[i]?=some x)(hk:X.env.scope.names.lookup x=some .local)(hi:PI X tg iter wi)
  (hg:∀ cl C s H fp pn,PG (qL X N' sc cl C s H fp pn) tg g) (ht:∀ cl C s H fp pn,PTs (qL X N' sc cl C s H fp pn) ifs tt) (he:∀ cl C s H fp pn,PE (qL X N' sc cl C s H fp pn) elt te)
  (hsw:swapsWith (.ListComp elt [⟨tg,iter,ifs,0⟩] sc pos) (some (.Name x pos')) spos.line X.env=pure true:=by rfl)
  (hs:∀ x,foldedSetIterable iter X.env x=pure x:=by intro _;rfl):PS X (.Assign [.Name x pos'] (.ListComp elt [⟨tg,iter,ifs,0⟩] sc pos) spos) (je (Jy wi g tt te cap) (qV i)):=by
 intro pins s σ H D I h;rw [exec_Assign_Name_used _ _ _ _ hsw];refine yR (wpAny_standAt (yR ?_));show wpAny _ X.A (do let _ <- comprehension (.ListComp elt [⟨tg,iter,ifs,0⟩] sc pos) sc X.env _ (newList []) false (eval iter X.env) (some (assign (.Name x pos') X.env))) _ _ s;obtain ⟨cl,hcl,hc1,hc2⟩:=GX (scope:=sc) (env:=X.env) λy hy e=>I.ok.has y.1 (S.free y hy e);refine yR (j6 (wpAny_comprehension_free (use:=some (assign (.Name x pos') X.env)) (Q:=λ_ s'=>SP X pins D .next s') rfl hs hcl S.kind S.names
  (j6 (hi pins s σ H _ I h) λv s1 h1=>j6 h1 λitv s2 h2=>?_)) λ_ s' hq=>yx (yx hq))
 obtain ⟨it,fp,tn,J,H2,e,I2,T,st2,f2,W,w0,turn⟩:=h2;subst e;refine GZ (Q:=λv H1=>qV i v σ H1 D.nx) (RR:=λacc C=>compPost (model X.prog X.w) X.A X.xe (some (assign (.Name x pos') X.env)) (λ_ s'=>SP X pins D .next s') acc C) S hc hc1 hc2 (λC pn=>hg cl C s2 H2 fp pn) (λC pn=>ht cl C s2 H2 fp pn) (λC pn=>he cl C s2 H2 fp pn) I2 T st2 f2 W w0 turn ?_;intro E C H' s' m I' hn F q;obtain ⟨f0,f1,f2',f3,f4,f5⟩:=F;show wpAny _ X.A (assign (.Name x pos') X.env (.ref E)) _ _ _;refine wpAny_assign_Name (Cc I' hN hx (.inl hk) (v:= .ref E) rfl (λs'' I'' ch=>?_) (.inr hk));obtain ⟨a,sb,ha⟩:=ch;have nC:C≠a:=by
  rcases ha with z|z
  ·rw [z];exact f1
  ·exact Ne.symm (f4 x a z)
 exact ⟨m,hn.sameBut sb nC,λh' hs'=>⟨_,H',I''.turned (t':=s''.toks) (λb o hb e=>hs'.extBut b o hb e) f0 f1 f3 f4 f5,q⟩⟩
end
section
variable {g:TG}{tt:TT}{te:TE}{Q:VK}{H:Hp}{σ0:St}
theorem Kc {a:Addr}{xs:List V}(Pv:Nat->List V->Hp->Prop)(h0:Pv 0 [] H)(hz:∀ i ys H,i<=xs.length->Pv i ys H->ys.length<=sizeLine)(hl:∀ i ys H,i<=xs.length->Pv i ys H->SqL K H a xs)(hs:∀ i x ys H (R:List V->Hp->Prop),xs[i]?=some x->Pv i ys H->(∀ ys' H',Pv (i+1) ys' H'->R ys' H')->g x σ0 H λσ2 H2=>Wk σ0 σ2/\tt σ2 H2 λb H3=>if b=true then te σ2 H3 λv H4=>R (ys++[v]) H4 else R ys H3)(hd:∀ ys H,Pv xs.length ys H->∀ D,H D=none->Q (.ref D) (v9 H D (.lst ys))):Ui (Itl K a) g tt te Q σ0 H:=by
 refine ⟨λi m ys H=>m=xs.length-i/\i<=xs.length/\Pv i ys H,⟨xs.length,by simp,uY _,h0⟩,?_⟩;rintro i m ys H ⟨rfl,hi,p⟩;have q:=hl i ys H hi p;refine ⟨hz i ys H hi p,?_⟩;by_cases hlt:i<xs.length
 ·refine .inr ⟨⟨xs,xs[i],q,by simp [hlt]⟩,λx H' y=>?_⟩;obtain ⟨e,y⟩:=y;subst e;exact hs i x ys _ (λys' H'=>∃ m',m'<xs.length-i/\m'=xs.length-(i+1)/\i+1<=xs.length/\Pv (i+1) ys' H') (y xs q) p λys' H' p'=>⟨xs.length-(i+1),by omega,rfl,hlt,p'⟩
 ·have e:i=xs.length:=by omega
  subst e;exact .inl ⟨⟨xs,q,yV _⟩,hd ys H p⟩
end
def tyB (T c:String):Option Bool:=if (Value.type T==Value.type c)=true then some true else if PySem.W.kitMeta c=true then (fastBuiltinMro T).map (·.contains (Value.type c)) else none
theorem LR {T c:String}{b:Bool}(h:tyB T c=some b):PySem.W.kitOne K (.type T) (.type c)=some b:=h
theorem SX:tyB "int" "int"=some true:=by decide +kernel
theorem SW:tyB "int" "bool"=some false:=by decide +kernel
theorem SY:tyB "list" "list"=some true:=by decide +kernel
theorem SZ:tyB "str" "str"=some true:=by decide +kernel
theorem jR:bootBuiltins "isinstance"=some (.builtin "isinstance"):=by decide +kernel
theorem vH:bootBuiltins "list"=some (.type "list"):=by decide +kernel
theorem Dz:bootBuiltins "int"=some (.type "int"):=by decide +kernel
theorem Dx:bootBuiltins "bool"=some (.type "bool"):=by decide +kernel
theorem GN:bootBuiltins "str"=some (.type "str"):=by decide +kernel
theorem QN:bootBuiltins "all"=some (.builtin "all"):=by decide +kernel
theorem JT:bootBuiltins "sum"=some (.builtin "sum"):=by decide +kernel
theorem JS:bootBuiltins "min"=some (.builtin "min"):=by decide +kernel
theorem Dy:bootBuiltins "enumerate"=some (.type "enumerate"):=by decide +kernel
theorem DC:bootBuiltins "zip"=some (.type "zip"):=by decide +kernel
section
variable {X:Cx}
theorem DF:CallR X (.builtin "isinstance") (λxs H Q=>∃ x n T b,xs=[x,.ty n]/\xF X.K H x (.type T)/\tyB T n=some b/\Q (.bl b) H):=by intro pins s σ H xs us Q I r h;obtain ⟨x,n,T,b,rfl,ty,e,q⟩:=h;obtain ⟨u,w',rfl,rx,rw'⟩:=Ub r;obtain rfl:w'=Value.type n:=rw';exact Ls I rx ty (LR e) λtk=>⟨.bl b,H,I.tok _,rfl,q⟩
theorem CG:∀{bs:List Bool}{us:List Value}{i:Nat}{u:Value},Vals (bs.map V.bl) us->us[i]?=some u->u = .bool (bs.getD i false)
 |[],_,_,_,.nil,e=>by simp at e
 |b::_,_,0,_,.cons r _,e=>by
  have e':=Option.some.inj e;subst e';exact r
 |_::bs,_,i+1,u,.cons _ t,e=>by
  have q:=CG (i:=i) (u:=u) t (by simpa using e);simpa using q
theorem Dd:∀(bs:List Bool),(List.range bs.length).all (λi=>bs.getD i false)=bs.all id:=by
 intro bs;rw [Bool.eq_iff_iff,uE,uE];constructor
 ·intro h b hb;obtain ⟨i,hi,e⟩:=uL hb;have q:=h i (yu.mpr hi);rw [yC,yY hi] at q;rw [<- e];exact q
 ·intro h i hi;have hi':=yu.mp hi;rw [yC,yY hi'];exact h _ (yA hi')
theorem DD (hc:X.calm=true):CallR X (.builtin "all") (λxs H Q=>∃ (a:Addr) (bs:List Bool),xs=[.ref a]/\SqL X.K H a (bs.map V.bl)/\Q (.bl (bs.all id)) H):=by
 intro pins s σ H xs us Q I r h;obtain ⟨a,bs,rfl,hq,q⟩:=h;obtain ⟨u,rfl,ru⟩:=zq r;obtain rfl:u=Value.ref a:=ru;obtain ⟨its,rv,p,hz⟩:=I.list hq;have hlt:a<s.heap.objs.size:=by obtain ⟨_,_,e,_⟩:=p;exact yQ e
 have hl:s.heap.IsList a its.toArray:=p.isList;refine call_all_walk (wpAny_pyIter_list hl ?_);refine ⟨s.heap.objs.size,_,_,_,_,_,λi=>bs.getD i false,rfl,Walks.list (A:=X.A.in1) (I.ok.hd hc) s.heap.objs.size a (yL hlt) its.toArray,⟨⟨_,yD _ rfl,rfl,rfl⟩,hl.push _⟩,?_,λh' tk k=>?_⟩
 ·intro i v s' Q' E' hP hQ;have e:=CG rv (by simpa using hP);subst e;exact wpAny_truthy_bool hQ
 ·have hn:its.toArray.size=bs.length:=by have e:=rv.length;rw [yZ] at e;rw [yX];exact e.symm
  rw [hn,Dd];refine ⟨.bl (bs.all id),H,I.kept (t':=tk) (λb o e=>k b o (λhm=>?_) (yT _ e)),rfl,q⟩;have e':b=s.heap.objs.size:=by simpa using hm
  exact absurd (yQ e) (by rw [e'];exact uF _)
theorem Ud:∀{ns:List Int}{us:List Value},Vals (ns.map V.int) us->IntsAre us ns
 |[],_,.nil=> .nil
 |n::_,_,.cons ⟨t,e⟩ r=>by
  subst e;exact .cons n t (Ud r)
theorem GQ (hc:X.calm=true):CallR X (.builtin "sum") (λxs H Q=>∃ (a:Addr) (ns:List Int),xs=[.ref a]/\SqL X.K H a (ns.map V.int)/\Q (.int ns.sum) H):=by
 intro pins s σ H xs us Q I r h;obtain ⟨a,ns,rfl,hq,q⟩:=h;obtain ⟨u,rfl,ru⟩:=zq r;obtain rfl:u=Value.ref a:=ru;obtain ⟨its,rv,p,hz⟩:=I.list hq;have hi:=Ud rv;have hl:s.heap.IsList a its.toArray:=p.isList;obtain ⟨xs,ex⟩:=hi.allInts.items;have e2:(numsOf its.toArray.toList).sum=ns.sum:=by rw [show its.toArray.toList=its from rfl,hi.numsOf]
 rw [ex] at hl e2;rw [nums_intItems] at e2;refine sum_intListG (I.ok.hd hc) hl λh' tk t' k=>⟨.int ns.sum,H,I.kept (t':=tk) k,?_,q⟩;rw [preSum_eq,ub (by simp),e2];exact ⟨_,rfl⟩
def jP (_i j:Int):Prop:=0<j/\j.natAbs.log2<9000
theorem VY:OpR X (binaryOp .FloorDiv) (rI jP λi j=> .int (i / j)):=opI λi j _ _ _ _ _ hc q=>by
 have e:i.fdiv j=i / j:=Int.fdiv_eq_ediv_of_nonneg i (Int.le_of_lt hc.1);exact floordiv_int (Ne.symm (Int.ne_of_lt hc.1)) (by rw [e];exact q) (.inl (PyProof.noPylong_of_log2 hc.2))
def zP (i j:Int):Prop:=Builtin.Int.intBits i<=2 ^ 20/\Builtin.Int.intBits j<=2 ^ 20
theorem jD:OpR X (binaryOp .Mult) (rI zP λi j=> .int (i*j)):=opI λ_ _ _ _ _ _ _ hc q=>mul_int q (IntMulOk.of_bits hc.1 hc.2)
def Its (lo c:Int)(n:Nat):It:=⟨λi _=>i<n,λi H x H'=>H'=H/\x = .int (lo+i*c),λi _=>n<=i⟩
theorem SM {P:Program}{w:World}(it:Addr)(lo c:Int)(n:Nat):Turn P w K tg (Its lo c n) [it] it (λi h=>IsRangeIter h it (lo+(i:Nat)*c) ((n:Int)-(i:Nat)) c) where
 mem:=by simp
 obj:=λi h st b hb=>by
  have e:b=it:=by simpa using hb
  subst e;exact ⟨_,st,λv z=>by
   have z':Data.fields _=Data.cell v:=z;cases z'⟩
 keep:=λi h h' st k=>k it (by simp) _ st
 item:=by intro X hP hw hK hc i pins s σ H E I hf st hg;subst hP hw hK;obtain ⟨f0,f1,f2,f3,f4,f5⟩:=hf it (by simp);have W:=Walks.range (prog:=X.prog) (w:=X.w) (I.ok.hd hc) it lo c n;refine W.item i s _ _ hg st λv h' tk hv st' kk=>?_;obtain ⟨t,rfl⟩:=hv;have I1:Inv X pins σ H { s with heap:=h',toks:=tk }:=I.turned (λb o hb e=>kk b o (by simpa using hb) e) f0 f1 f3 f4 f5;exact ⟨_,rfl,QZ (s:={ s with heap:=h',toks:=tk }) (n:="range_iterator") st' rfl rfl (by decide) ⟨.int (lo+i*c),H,I1,⟨t,rfl⟩,⟨rfl,rfl⟩,st',λb hb=>(hf b hb).1⟩⟩
 done:=by intro X hP hw hK hc i pins s σ H E I hf st hg;subst hP hw hK;obtain ⟨f0,f1,f2,f3,f4,f5⟩:=hf it (by simp);exact wpAny_pyNext_range_end (I.ok.hd hc) st (by have:n<=i:=hg;omega) λh' eb=>⟨rfl,I.turned (t':=s.toks) (λb o hb e=>eb b o hb e) f0 f1 f3 f4 f5⟩
 self:=λ_ _ _ _ _ st h=>wpAny_pyIter_rangeiter st h
def jJ (i j c:Int):Nat:=(Builtin.Range.rangeSize i j c).toNat
def iRng3 (ta:TA):TI:=λσ H R=>ta σ H λvs H1=>∃ i j c:Int,vs=[.int i,.int j,.int c]/\(0<c/\c<1073741824)/\0<=Builtin.Range.rangeSize i j c/\Builtin.Range.small i j c=true/\R (Its i c (jJ i j c)) H1
variable {tg:Expr}
theorem Rt {a b:Expr}{ta:TA}{p:Pos}(hg:Gl X "range")(hm:X.mg "range"=none)(ha:PA X [a,b,c] ta)(hs:starEach [a,b,c] X.env=[(false,eval a X.env),(false,eval b X.env),(false,eval c X.env)]:=by rfl)(hs2:starEach [b,c] X.env=[(false,eval b X.env),(false,eval c X.env)]:=by rfl):PI X tg (.Call (.Name "range" p) [a,b,c] [] pos) (iRng3 ta):=by
 intro pins s σ H R I h;refine Call_ (va I hg hm boot_range (PyProof.Rows.callWith_type1 (j6 (ha pos pins s σ H _ I h) λus s1 ⟨vs,H1,I1,r1,q1⟩=>?_) (by rw [hs,hs2]) (by rw [hs2];rfl)));obtain ⟨i,j,c,e,⟨q1,q2⟩,q3,q4,q⟩:=q1;subst e;cases r1 with
 |cons r rr =>
  cases rr with
  |cons r' rr =>
   cases rr with
   |cons r'' rr =>
    cases rr;obtain ⟨t,rfl⟩:=r;obtain ⟨t',rfl⟩:=r';obtain ⟨t'',rfl⟩:=r'';refine call_range_3 (Ne.symm (Int.ne_of_lt q1)) ?_ (.inl (PyProof.noPylong_small (by omega)));refine wpAny_pyIter_range (IsRange.new ..) q4 ?_;have I2:Inv X pins σ H1 { s1 with heap:=s1.heap.push { cls:= .type "range",data:= .fields #[.int i t,.int j t',.int c t''] },toks:=s1.toks }:=I1.kept λb o e=>yT _ e;refine ⟨(s1.heap.push { cls:= .type "range",data:= .fields #[.int i t,.int j t',.int c t''] }).objs.size,[(s1.heap.push { cls:= .type "range",data:= .fields #[.int i t,.int j t',.int c t''] }).objs.size],_,_,H1,rfl,
     I2.kept (t':=s1.toks) λb o e=>yT _ e,SM _ i c (jJ i j c),?_,λb hb=>?_,q⟩
    ·have e1:i+((0:Nat):Int)*c=i:=by simp
     have e2:((jJ i j c:Nat):Int)-((0:Nat):Int)=Builtin.Range.rangeSize i j c:=by unfold jJ;omega
     show IsRangeIter _ _ (i+((0:Nat):Int)*c) (((jJ i j c:Nat):Int)-((0:Nat):Int)) c;rw [e1,e2];exact yD _ rfl
    ·have e:b=(s1.heap.push { cls:= .type "range",data:= .fields #[.int i t,.int j t',.int c t''] }).objs.size:=by simpa using hb
     subst e;exact I2.fpOk (yV _) (I2.hok.fresh (yV _))
end
theorem MH {lo c:Int}{n:Nat}{g:TG}{tb:TS}{D:xQ}{H:Hp}(Pv:Nat->St->Hp->Prop)(h0:Pv 0 σ H)(hs:∀ i σ H,i<n->Pv i σ H->g (.int (lo+i*c)) σ H λσ2 H2=>tb { D with nx:=Pv (i+1),ct:=Pv (i+1),bk:=D.nx } σ2 H2)(hd:∀ σ H,Pv n σ H->D.nx σ H):∃ W:Nat->Nat->St->Hp->Prop,(∃ m,W 0 m σ H)/\∀ i m σ H,W i m σ H -> ((Its lo c n).stop i H/\D.nx σ H)∨((Its lo c n).go i H/\∃ N:St->Hp->Prop,(∀ σ' H',N σ' H'->∃ m',m'<m/\W (i+1) m' σ' H')/\∀ x H',(Its lo c n).yld i H x H'->g x σ H' λσ2 H2=>tb { D with nx:=N,ct:=N,bk:=D.nx } σ2 H2):=by
 refine ⟨λi m σ H=>m=n-i/\i<=n/\Pv i σ H,⟨n,by simp,uY _,h0⟩,?_⟩;rintro i m σ H ⟨rfl,hi,p⟩;by_cases hlt:i<n
 ·refine .inr ⟨hlt,Pv (i+1),λσ' H' p'=>⟨n-(i+1),by omega,rfl,hlt,p'⟩,λx H' y=>?_⟩;obtain ⟨e,y⟩:=y;subst e y;exact hs i σ _ hlt p
 ·have e:i=n:=by omega
  subst e;exact .inl ⟨yV _,hd σ H p⟩
section
open PySem.SeqAt
theorem zd {α β:Type}{F:α->β->Prop}:∀{l₁:List α}{l₂:List β},Paired F l₁ l₂->∀(j:Nat)(h1:j<l₁.length)(h2:j<l₂.length),F l₁[j] l₂[j]
 |_,_,.cons r _,0,_,_=>r
 |_,_,.cons _ t,j+1,h1,h2=>zd t j (by simpa using h1) (by simpa using h2)
variable {X:Cx}
end
structure Fn (P:Program)(w:World)(K:Fg)(mg:Str->Option Value)(base:Heap)(k:Nat)(x:Str)(ps:List Str)(sp:Sp):Prop where
 ex:∃ f fd,FnOk P w K mg base v6 k f fd ps sp/\mg x=some (.ref f)/\PySem.W.keepIn K (.ref f)=true/\Binds K fd ps []
section
variable {X:Cx}{k j:Nat}{x:Str}{ps:List Str}{sp:Sp}{e:Expr}{es:List Expr}{t:TA}{p pos:Pos}
theorem qA (c:Fn X.prog X.w X.K X.mg X.base k x ps sp)(hr:Room j X.A)(hj:k<=j)(hg:Gl X x)(ha:PA X (e::es) t)(hdb:(x==("__debug__":Str))=false:=by decide)(he:starEach (e::es) X.env=(false,eval e X.env)::starEach es X.env:=by rfl)(hpl:(backTo pos (starEach es X.env)).any (·.1)=false:=by rfl):PE X (.Call (.Name x p) (e::es) [] pos) (jM sp [] E0 t):=by obtain ⟨f,fd,F,hm,hk,hb⟩:=c.ex;exact Rb F (hr.mono hj) hg hm hk hb .nil Jk ha hdb he hpl
end
end L2
namespace L2
open PySem PySem.Spec PyProof.Rows
variable{p pos px tp:Pos}{a b:Expr}{P:Program}{w:World}{K:Fg}{elts:List Expr}{x1:Nat}{ta:TA}{x:Str}
section
variable {X:Cx}{pins:List (Addr×Obj)}{σ:St}{H:Hp}{s:Shared}{h':Heap}
theorem Inv.turnedL {t':Nat}{ch:List Addr}(I:Inv X pins σ H s)(k:∀ b o,b∉ch->s.heap.get? b=some o->h'.get? b=some o)(hf:∀ b∈ch,xx X pins H b):Inv X pins σ H { s with heap:=h',toks:=t' }:=by
 have nit:∀ b u,H b=some u->b∉ch:=λb u e z=>by rw [(hf b z).1] at e;cases e
 have nL:X.env.locals∉ch:=λz=>(hf _ z).2.1 rfl;refine I.step (g':=s.gens) (d':=s.drawn) (ch:=ch) (λb hb=>?_) (λb o _ _ hc e _=>k b o hc e) (λb o _ _ hc e _=>⟨o.slots,k b o hc e⟩) (λ_ _ _ _ n=>n)
  (λb o hc e=>⟨o,k b o hc e⟩) (λ_ _ e=>e) (λ_ _ _ e=>e) (λ_ _ _ e=>e) (λm hm=>?_) (λb u e=>?_) I.bare
 ·obtain ⟨f0,f1,f2,f3,f4,f5⟩:=hf b hb;exact ⟨f3,f1,f4,f5⟩
 ·obtain ⟨o,es,ep,ho,r⟩:=hm;exact ⟨o,es,ep,k _ o nL ho,r⟩
 ·refine (I.hok b u e).stay (λc v hc q=>k c v ?_ q) (λ_ q=>q) (λ_ _ q=>q) λ_ _ _ q=>q;rcases hc with z|z
  ·rw [z];exact nit b u e
  ·exact nit c _ z
theorem Inv.track {p:Addr}{o:HO}(I:Inv X pins σ H s)(hp:X.s₀.heap.objs.size<=p)(hn:H p=none)(nL:p≠X.env.locals)(nC:∀ x c,X.env.cells.lookup x=some c->c≠p)(nP:∀ q∈X.pn++pins,q.1≠p)(new:ObjOk X.prog X.w (v9 H p o) s.heap p o):Inv X pins σ (v9 H p o) s:=by
 refine ⟨I.ok,I.os,I.bare,⟨I.base.keep,I.base.slot,λb ob e n hx=>?_,I.base.there,λb xs e=>?_,λb ob u e=>?_,λb ps q e=>?_⟩,I.loc,I.cell,?_,λx c e=>?_,λq hq=>?_,λb u e=>?_,I.len⟩
 ·rw [j9 (yL (yE (yQ e) hp))];exact I.base.free b ob e n hx
 ·have z:=I.base.tups b xs e;rw [j9 (g8 z hn)];exact z
 ·have z:=I.base.frzs b ob u e;rw [j9 (g8 z hn)];exact z
 ·have z:=I.base.tbls b ps q e;rw [j9 (g8 z hn)];exact z
 ·rw [j9 (Ne.symm nL)];exact I.free
 ·rw [j9 (nC x c e)];exact I.freeC x c e
 ·obtain ⟨a1,a2,a3⟩:=I.pin q hq;exact ⟨a1,by rw [j9 (nP q hq)];exact a2,a3⟩
 ·by_cases hb:b=p
  ·subst hb;rw [g0] at e;cases e;exact new
  ·rw [j9 hb] at e;exact (I.hok b u e).stay (λc v _ q=>q) (λc q=>by rw [j9 (g8 q hn)];exact q) (λc xs q=>by rw [j9 (g8 q hn)];exact q) λc _ _ q=>by rw [j9 (g8 q hn)];exact q
theorem Inv.seq_ne {a b:Addr}{xs:List V}(I:Inv X pins σ H s)(hq:SqL X.K H a xs)(hf:xx X pins H b):a≠b:=by
 rintro rfl;rcases hq with (h|⟨o,h⟩)|⟨o,its,n,hk,_⟩
 ·rw [hf.1] at h;cases h
 ·rw [hf.1] at h;cases h
 ·have e:=I.ok.mod.kin a o hk;rcases hf.2.2.2.1 with z|z
  ·exact I.ok.noex a o e z
  ·exact absurd (yE (yQ e) (ym I.ok.bsz z)) (uF _)
end
def Ite (K:Fg)(a:Addr):It :=
 ⟨λi H=>∃ xs x,SqL K H a xs/\xs[i]?=some x,λi H x H'=>∃ p y,H p=none/\x = .ref p/\H'=v9 H p (.tup [.int i,y])/\∀ xs,SqL K H a xs->xs[i]?=some y,λi H=>∃ xs,SqL K H a xs/\xs.length<=i⟩
theorem SI (a e it:Addr)(hne:e≠it):Turn P w K (.Tuple elts x1 tp) (Ite K a) [e,it] e (λi h=>(∃ old,IsEnum h e it ((i:Nat):Int) old)/\h.IsListIter it a i) where
 mem:=by simp
 obj:=λi h st b hb=>by
  obtain ⟨⟨old,he⟩,hit⟩:=st;rcases yH.mp hb with rfl|hb
  ·exact ⟨_,he,λv z=>by
    have z':Data.fields _=Data.cell v:=z;cases z'⟩
  ·have eb:b=it:=by simpa using hb
   subst eb;obtain ⟨o,e1,c,d⟩:=hit;exact ⟨o,e1,λv z=>by rw [d] at z;cases z⟩
 keep:=λi h h' st k=>by
  obtain ⟨⟨old,he⟩,hit⟩:=st;exact ⟨⟨old,k e (by simp) _ he⟩,hit.at λo q=>k it (by simp) o q⟩
 item:=by
  intro X hP hw hK hc i pins s σ H E I hf st hg;subst hP hw hK;obtain ⟨⟨old,he⟩,hit⟩:=st;obtain ⟨xs,x,hq,hx⟩:=hg;obtain ⟨its,rv,p,hz⟩:=I.list hq;obtain ⟨u,hu,ru⟩:=rv.get hx;have fz:xx X pins H s.heap.objs.size:=I.fpOk (yV _) (I.hok.fresh (yV _));have lte:e<s.heap.objs.size:=yQ he;have lti:it<s.heap.objs.size:=by obtain ⟨o,q,_⟩:=hit;exact yQ q
  refine wpAny_pyNext_enum_item he hit p.isList (x:=u) (by simpa using hu) hne λh1 heo hit1 ht1 hz1 hk1=>⟨_,rfl,?_⟩;refine wpAny_letOwnedTupleGo_enum heo λh2 he2 hs2=>?_;have hs2':Heap.SameBut e h1 h2:=hs2;have I2:Inv X pins σ H { s with heap:=h2,toks:=s.toks+1 }:=I.turnedL (ch:=[e,it]) (λb o hb q=>by
   have n1:b≠e:=λz=>hb (by rw [z];simp);have n2:b≠it:=λz=>hb (by rw [z];simp);exact hs2'.extBut b o n1 (hk1 b o n1 n2 q)) hf
  obtain ⟨f0,f1,f2,f3,f4,f5⟩:=fz;have tup:h2.get? s.heap.objs.size=some { cls:= .type "tuple",data:= .seq #[.int i s.toks,u] }:=hs2'.extBut _ _ (Ne.symm (yL lte)) ht1;refine ⟨.ref s.heap.objs.size,v9 H s.heap.objs.size (.tup [.int i,x]),I2.track I.sz f0 f1 f4 f5 ?_,rfl,⟨s.heap.objs.size,x,f0,rfl,rfl,λys hy=>by rw [I.list_inj hy hq];exact hx⟩,⟨⟨u,?_⟩,?_⟩,λb hb=>?_⟩
  ·exact ⟨by show 2<=sizeLine;decide,[.int i s.toks,u],.cons ⟨_,rfl⟩ (.cons ru .nil),⟨_,tup,rfl,_,rfl⟩⟩
  ·have ei:(((i+1:Nat):Int))=(i:Int)+1:=by omega
   rw [ei];exact he2
  ·exact hit1.at λo q=>hs2'.extBut it o (Ne.symm hne) q
  ·have nb:b≠s.heap.objs.size:=by
    rcases yH.mp hb with rfl|hb
    ·exact yL lte
    ·have eb:b=it:=by simpa using hb
     rw [eb];exact yL lti
   rw [j9 nb];exact (hf b hb).1
 done:=by intro X hP hw hK hc i pins s σ H E I hf st hg;subst hP hw hK;obtain ⟨⟨old,he⟩,hit⟩:=st;obtain ⟨xs,hq,hx⟩:=hg;obtain ⟨its,rv,p,hz⟩:=I.list hq;have hl:=rv.length;exact wpAny_pyNext_enum_end (I.ok.hd hc) he hit p.isList (by simp;omega) λh1 eb=>⟨rfl,I.turnedL (t':=s.toks) (ch:=[e,it]) (λb o hb q=>eb b o (λz=>hb (by rw [z];simp)) q) hf⟩
 self:=λ_ _ _ _ _ st h=>by
  obtain ⟨⟨old,he⟩,hit⟩:=st;exact wpAny_pyIter_enum he h
section
variable {X:Cx}{elts:List Expr}{x1:Nat}{tp:Pos}
def Vr (K:Fg)(ta:TA):TI:=λσ H R=>ta σ H λvs H1=>∃ a,vs=[.ref a]/\(∃ xs,SqL K H1 a xs)/\R (Ite K a) H1
theorem Rr (hg:Gl X "enumerate")(hm:X.mg "enumerate"=none)(ha:PA X [a] ta)(hs:starEach [a] X.env=[(false,eval a X.env)]:=by rfl):PI X (.Tuple elts x1 tp) (.Call (.Name "enumerate" p) [a] [] pos) (Vr X.K ta):=by
 intro pins s σ H R I h;refine Call_ (va I hg hm Dy (PyProof.Rows.callWith_type1 (j6 (ha pos pins s σ H _ I h) λus s1 ⟨vs,H1,I1,r1,q1⟩=>?_) hs rfl));obtain ⟨a,e,⟨xs,hq⟩,q⟩:=q1;subst e;cases r1 with
 |cons r rr =>
  cases rr;cases r;obtain ⟨its,rv,p,hz⟩:=I1.list hq;refine call_enumerate_list p.isList λh' he hit hsz hk=>?_;refine wpAny_pyIter_enum he ?_;refine ⟨s1.heap.objs.size+1,[s1.heap.objs.size+1,s1.heap.objs.size],_,_,H1,rfl,I1.kept (t':=s1.toks) hk,SI a (s1.heap.objs.size+1) s1.heap.objs.size (tY (uj _)),⟨⟨_,he⟩,hit⟩,λb hb=>?_,q⟩;rcases yH.mp hb with rfl|hb
  ·exact I1.fpOk (ul _) (I1.hok.fresh (ul _))
  ·have eb:b=s1.heap.objs.size:=by simpa using hb
   subst eb;exact I1.fpOk (yV _) (I1.hok.fresh (yV _))
end
def Itz (K:Fg)(a b:Addr):It :=
  ⟨λi H=>∃ xs ys x y,SqL K H a xs/\SqL K H b ys/\xs[i]?=some x/\ys[i]?=some y,
   λi H z H'=>∃ p x y,H p=none/\z = .ref p/\H'=v9 H p (.tup [x,y])/\(∀ xs,SqL K H a xs->xs[i]?=some x)/\∀ ys,SqL K H b ys->ys[i]?=some y,
   λi H=>∃ xs ys,SqL K H a xs/\SqL K H b ys/\(xs.length<=i∨ys.length<=i)⟩
theorem SQ (a b z TI TO i1 i2:Addr)(d:[z,TI,TO,i1,i2].Nodup):Turn P w K (.Tuple elts x1 tp) (Itz K a b) [z,TI,TO,i1,i2] z (λi h=>IsZip h z TI TO .none/\IsPair h TI (.ref i1) (.ref i2)/\(∃ u v,IsPair h TO u v)/\h.IsListIter i1 a i/\h.IsListIter i2 b i) where
 mem:=by simp
 obj:=λi h st c hc=>by
  obtain ⟨hz,hTI,⟨u,v,hTO⟩,h1,h2⟩:=st;have hc':c=z∨c=TI∨c=TO∨c=i1∨c=i2:=by simpa using hc
  rcases hc' with rfl|rfl|rfl|rfl|rfl
  ·exact ⟨_,hz,λv q=>by
    have q':Data.fields _=Data.cell v:=q;cases q'⟩
  ·exact ⟨_,hTI,λv q=>by
    have q':Data.seq _ _=Data.cell v:=q;cases q'⟩
  ·exact ⟨_,hTO,λv q=>by
    have q':Data.seq _ _=Data.cell v:=q;cases q'⟩
  ·obtain ⟨o,e1,cc,dd⟩:=h1;exact ⟨o,e1,λv q=>by rw [dd] at q;cases q⟩
  ·obtain ⟨o,e1,cc,dd⟩:=h2;exact ⟨o,e1,λv q=>by rw [dd] at q;cases q⟩
 keep:=λi h h' st k=>by
  obtain ⟨hz,hTI,⟨u,v,hTO⟩,h1,h2⟩:=st;exact ⟨k z (by simp) _ hz,k TI (by simp) _ hTI,⟨u,v,k TO (by simp) _ hTO⟩,h1.at λo e=>k i1 (by simp) o e,h2.at λo e=>k i2 (by simp) o e⟩
 item:=by
  intro X hP hw hK hc i pins s σ H E I hf st hg;subst hP hw hK;obtain ⟨hz,hTI,⟨u0,v0,hTO⟩,h1,h2⟩:=st;obtain ⟨xs,ys,x,y,hqa,hqb,hx,hy⟩:=hg;obtain ⟨its,rv,p,_⟩:=I.list hqa;obtain ⟨jts,rw',p',_⟩:=I.list hqb;obtain ⟨u,hu,ru⟩:=rv.get hx;obtain ⟨v,hv,rv'⟩:=rw'.get hy;simp only [yp,yH,not_or,ye,not_false_eq_true,uk,and_true] at d;obtain ⟨⟨d1,d2,d3,d4⟩,⟨d5,d6,d7⟩,⟨d8,d9⟩,d10⟩:=d;have ap:ZipApart z TI TO i1 i2 a b:=⟨Ne.symm d1,Ne.symm d2,Ne.symm d3,Ne.symm d4,d5,d6,d7,d8,d9,d10,
   I.seq_ne hqa (hf z (by simp)),I.seq_ne hqa (hf TO (by simp)),I.seq_ne hqa (hf i1 (by simp)),I.seq_ne hqa (hf i2 (by simp)),
   I.seq_ne hqb (hf z (by simp)),I.seq_ne hqb (hf TO (by simp)),I.seq_ne hqb (hf i1 (by simp)),I.seq_ne hqb (hf i2 (by simp))⟩
  have fz:xx X pins H s.heap.objs.size:=I.fpOk (yV _) (I.hok.fresh (yV _));have lt:∀ c∈[z,TI,TO,i1,i2],c<s.heap.objs.size:=λc hc=>by
   have hc':c=z∨c=TI∨c=TO∨c=i1∨c=i2:=by simpa using hc
   rcases hc' with rfl|rfl|rfl|rfl|rfl
   ·exact yQ hz
   ·exact yQ hTI
   ·exact yQ hTO
   ·obtain ⟨o,q,_⟩:=h1;exact yQ q
   ·obtain ⟨o,q,_⟩:=h2;exact yQ q
  refine wpAny_pyNext_zip_item ap hz hTI hTO h1 h2 p.isList p'.isList (x:=u) (y:=v) (by simpa using hu) (by simpa using hv) λh3 hz3 hTO3 h13 h23 hp3 hs3 hk3=>⟨_,rfl,?_⟩;refine wpAny_letOwnedTupleGo_zip hz3 λh4 hz4 hs4=>?_;have hs4':Heap.SameBut z h3 h4:=hs4;have I4:Inv X pins σ H { s with heap:=h4,toks:=s.toks }:=I.turnedL (ch:=[z,TI,TO,i1,i2]) (λc o hc q=>by
   have n1:c≠z:=λe=>hc (by rw [e];simp);have n2:c≠TO:=λe=>hc (by rw [e];simp);have n3:c≠i1:=λe=>hc (by rw [e];simp);have n4:c≠i2:=λe=>hc (by rw [e];simp);exact hs4'.extBut c o n1 (hk3 c o n1 n2 n3 n4 q)) hf
  obtain ⟨f0,f1,f2,f3,f4,f5⟩:=fz;have tup:h4.get? s.heap.objs.size=some { cls:= .type "tuple",data:= .seq #[u,v] }:=hs4'.extBut _ _ (Ne.symm (yL (lt z (by simp)))) hp3;refine ⟨.ref s.heap.objs.size,v9 H s.heap.objs.size (.tup [x,y]),I4.track I.sz f0 f1 f4 f5 ?_,rfl,⟨s.heap.objs.size,x,y,f0,rfl,rfl,(λzs hy'=>by rw [I.list_inj hy' hqa];exact hx),λzs hy'=>by rw [I.list_inj hy' hqb];exact hy⟩,⟨hz4,?_,⟨u,v,?_⟩,?_,?_⟩,λc hc=>?_⟩
  ·exact ⟨by show 2<=sizeLine;decide,[u,v],.cons ru (.cons rv' .nil),⟨_,tup,rfl,_,rfl⟩⟩
  ·exact hs4'.extBut _ _ (Ne.symm d1) (hk3 _ _ (Ne.symm d1) d5 d6 d7 hTI)
  ·exact hs4'.extBut _ _ (Ne.symm d2) hTO3
  ·exact h13.at λo q=>hs4'.extBut i1 o (Ne.symm d3) q
  ·exact h23.at λo q=>hs4'.extBut i2 o (Ne.symm d4) q
  ·rw [j9 (yL (lt c hc))];exact (hf c hc).1
 done:=by
  intro X hP hw hK hc i pins s σ H E I hf st hg;subst hP hw hK;obtain ⟨hz,hTI,⟨u0,v0,hTO⟩,h1,h2⟩:=st;obtain ⟨xs,ys,hqa,hqb,hend⟩:=hg;obtain ⟨its,rv,p,_⟩:=I.list hqa;obtain ⟨jts,rw',p',_⟩:=I.list hqb;have l1:=rv.length;have l2:=rw'.length;simp only [yp,yH,not_or,ye,not_false_eq_true,uk,and_true] at d;obtain ⟨⟨d1,d2,d3,d4⟩,⟨d5,d6,d7⟩,⟨d8,d9⟩,d10⟩:=d;have ap:ZipApart z TI TO i1 i2 a b:=⟨Ne.symm d1,Ne.symm d2,Ne.symm d3,Ne.symm d4,d5,d6,d7,d8,d9,d10,
   I.seq_ne hqa (hf z (by simp)),I.seq_ne hqa (hf TO (by simp)),I.seq_ne hqa (hf i1 (by simp)),I.seq_ne hqa (hf i2 (by simp)),
   I.seq_ne hqb (hf z (by simp)),I.seq_ne hqb (hf TO (by simp)),I.seq_ne hqb (hf i1 (by simp)),I.seq_ne hqb (hf i2 (by simp))⟩
  refine wpAny_pyNext_zip_end (I.ok.hd hc) ap hz hTI hTO h1 h2 p.isList p'.isList (hend.elim (λq=> .inl (by simp;omega)) (λq=> .inr (by simp;omega))) λh3 hk3=>⟨rfl,I.turnedL (t':=s.toks) (ch:=[z,TI,TO,i1,i2]) (λc o hc q=>?_) hf⟩;exact hk3 c o (λe=>hc (by rw [e];simp)) (λe=>hc (by rw [e];simp)) (λe=>hc (by rw [e];simp)) (λe=>hc (by rw [e];simp)) q
 self:=λ_ _ _ _ _ st h=>wpAny_pyIter_zip st.1 h
section
variable {X:Cx}{elts:List Expr}{x1:Nat}{tp:Pos}
def iZip (K:Fg)(ta:TA):TI:=λσ H R=>ta σ H λvs H1=>∃ a b,vs=[.ref a,.ref b]/\(∃ xs,SqL K H1 a xs)/\(∃ ys,SqL K H1 b ys)/\R (Itz K a b) H1
theorem Ry (hg:Gl X "zip")(hm:X.mg "zip"=none)(ha:PA X [a,b] ta)(hs:starEach [a,b] X.env=[(false,eval a X.env),(false,eval b X.env)]:=by rfl)(hs2:starEach [b] X.env=[(false,eval b X.env)]:=by rfl):PI X (.Tuple elts x1 tp) (.Call (.Name "zip" p) [a,b] [] pos) (iZip X.K ta):=by
 intro pins s σ H R I h;refine Call_ (va I hg hm DC (PyProof.Rows.callWith_type1 (j6 (ha pos pins s σ H _ I h) λus s1 ⟨vs,H1,I1,r1,q1⟩=>?_) (by rw [hs,hs2]) (by rw [hs2];rfl)));obtain ⟨a,b,e,⟨xs,hq⟩,⟨ys,hq'⟩,q⟩:=q1;subst e;cases r1 with
 |cons r rr =>
  cases rr with
  |cons r' rr =>
   cases rr;cases r;cases r';obtain ⟨its,rv,p,hz⟩:=I1.list hq;obtain ⟨jts,rw',p',_⟩:=I1.list hq';refine call_zip_2 p.isList p'.isList λh' g1 g2 g3 g4 g5 hsz hk=>?_;refine wpAny_pyIter_zip g1 ?_;refine ⟨s1.heap.objs.size+4,[s1.heap.objs.size+4,s1.heap.objs.size+2,s1.heap.objs.size+3,s1.heap.objs.size,s1.heap.objs.size+1],_,_,H1,rfl,I1.kept (t':=s1.toks) hk,SQ a b _ _ _ _ _ ?_,⟨g1,g2,⟨_,_,g3⟩,g4,g5⟩,λc hc=>?_,q⟩
   ·simp only [yp,yH,not_or,ye,not_false_eq_true,uk,and_true];refine ⟨⟨?_,?_,?_,?_⟩,⟨?_,?_,?_⟩,⟨?_,?_⟩,?_⟩<;>(show ¬ (_:Nat)=_;omega)
   ·have hc':s1.heap.objs.size<=c:=by
     have hc2:c=s1.heap.objs.size+4∨c=s1.heap.objs.size+2∨c=s1.heap.objs.size+3∨c=s1.heap.objs.size∨c=s1.heap.objs.size+1:=by simpa using hc
     rcases hc2 with e|e|e|e|e<;>(rw [e];first|exact yV _|exact Nat.le_add_right _ _)
    exact I1.fpOk hc' (I1.hok.fresh hc')
end
section
variable {X:Cx}{K:Fg}
theorem VA (h:X.K=K):IxR X (rIxL K):=by subst h;exact ix_list
theorem wp (h:X.K=K):SlR X (rSlL K):=by subst h;exact Sq
theorem GO (h:X.K=K):CallR X (.builtin "len") (λxs H Q=>∃ p ys,xs=[.ref p]/\(SqL K H p ys∨SqT K H p ys)/\Q (.int ys.length) H):=by subst h;exact DK
theorem DS (hc:X.calm=true)(h:X.K=K):CallR X (.builtin "sum") (λxs H Q=>∃ (a:Addr) (ns:List Int),xs=[.ref a]/\SqL K H a (ns.map V.int)/\Q (.int ns.sum) H):=by subst h;exact GQ hc
theorem jH {es:List Expr}{k:Nat}{t:TGs}{n:Nat}(hc:X.calm=true)(hK:X.K=K)(h:PGs X es t)(hn:(assignEach es X.env).length=n:=by rfl)(hst:(assignEach es X.env).findIdx? (·.1)=none:=by rfl):PG X (.Tuple es k pos) (gTup K n t):=by subst hK;exact Rq hc h hn hst
theorem i7 {tg l:Expr}{tl:TE}(hK:X.K=K)(hl:PE X l tl):PI X tg l (Vs K tl):=by subst hK;exact Rs hl
theorem Wi (hK:X.K=K)(hg:Gl X "enumerate")(hm:X.mg "enumerate"=none)(ha:PA X [a] ta)(hs:starEach [a] X.env=[(false,eval a X.env)]:=by rfl):PI X (.Tuple elts x1 tp) (.Call (.Name "enumerate" p) [a] [] pos) (Vr K ta):=by subst hK;exact Rr hg hm ha hs
theorem BL (hK:X.K=K)(hg:Gl X "zip")(hm:X.mg "zip"=none)(ha:PA X [a,b] ta)(hs:starEach [a,b] X.env=[(false,eval a X.env),(false,eval b X.env)]:=by rfl)(hs2:starEach [b] X.env=[(false,eval b X.env)]:=by rfl):PI X (.Tuple elts x1 tp) (.Call (.Name "zip" p) [a,b] [] pos) (iZip K ta):=by subst hK;exact Ry hg hm ha hs hs2
end
section
variable {X:Cx}
theorem HR:OpR X (compareOp .LtE) (λx y H Q=>∃ i j,x = .str i/\y = .str j/\Q (.bl (!decide (j.cps.toList<i.cps.toList))) H):=by intro pins s σ H x y v u Q I rx ry h;obtain ⟨i,j,rfl,rfl,q⟩:=h;obtain ⟨t,rfl⟩:=rx;obtain ⟨t',rfl⟩:=ry;exact PySem.P.le_str (ZG I q rfl)
def ItS (z:Str):It:=⟨λi _=>i<z.cps.size,λi H x H'=>H'=H/\∃ c,z.cps[i]?=some c/\x = .str ⟨#[c]⟩,λi _=>i=z.cps.size⟩
theorem Cw (it:Addr)(ty:String)(z:Str)(t:Tok)(W:∀ A':Around,A'.handled=none->Walks P w A' it [it] [it] z.cps.size (SignAt z) (λi h=>h.IsStrIter it ty z t i))(sf:∀(A:Around)(i:Nat)(s:Shared)(Q:Value->Shared->Prop)(E:Value->Shared->Prop),s.heap.IsStrIter it ty z t i->Q (.ref it) s->wpAny (model P w) A (pyIter (.ref it)) Q E s):Turn P w K (.Name x px) (ItS z) [it] it (λi h=>h.IsStrIter it ty z t i) where
 mem:=by simp
 obj:=λi h st b hb=>by
  have e:b=it:=by simpa using hb
  subst e;obtain ⟨o,e,c,d⟩:=st;exact ⟨o,e,λv q=>by rw [d] at q;cases q⟩
 keep:=λi h h' st k=>by
  obtain ⟨o,e,r⟩:=st;exact ⟨o,k it (by simp) o e,r⟩
 item:=by intro X hP hw hK hc i pins s σ H E I hf st hg;subst hP hw hK;obtain ⟨f0,f1,f2,f3,f4,f5⟩:=hf it (by simp);refine (W X.A (I.ok.hd hc)).item i s _ _ hg st λv h' tk hv st' kk=>?_;obtain ⟨c,u,e1,rfl⟩:=hv;have I1:Inv X pins σ H { s with heap:=h',toks:=tk }:=I.turned (λb o hb e=>kk b o (by simpa using hb) e) f0 f1 f3 f4 f5;refine ⟨_,rfl,?_⟩;show wpAny _ _ (pure ()) _ _ _;exact yx ⟨.str ⟨#[c]⟩,H,I1,⟨u,rfl⟩,⟨rfl,c,e1,rfl⟩,st',λb hb=>(hf b hb).1⟩
 done:=by intro X hP hw hK hc i pins s σ H E I hf st hg;subst hP hw hK;obtain ⟨f0,f1,f2,f3,f4,f5⟩:=hf it (by simp);have hg':i=z.cps.size:=hg;subst hg';exact (W X.A (I.ok.hd hc)).done s _ _ st λh' tk kk=>⟨rfl,I.turned (λb o hb e=>kk b o (by simpa using hb) e) f0 f1 f3 f4 f5⟩
 self:=sf
def iStr (tl:TE):TI:=λσ H R=>tl σ H λx H1=>∃ z,x = .str z/\R (ItS z) H1
theorem Ru {l:Expr}{tl:TE}(hl:PE X l tl):PI X (.Name x px) l (iStr tl):=by
 intro pins s σ H R I h;refine j6 (hl pins s σ H _ I h) λv s1 ⟨x,H1,I1,r1,q1⟩=>?_;obtain ⟨z,e,q⟩:=q1;subst e;obtain ⟨t,rfl⟩:=r1;have fp:∀ b∈[s1.heap.objs.size],xx X pins H1 b:=λb hb=>by
  have e:b=s1.heap.objs.size:=by simpa using hb
  subst e;exact I1.fpOk (yV _) (I1.hok.fresh (yV _))
 cases ha:z.cps.all (·<128)
 ·refine wpAny_pyIter_wide ha ?_;exact ⟨s1.heap.objs.size,[s1.heap.objs.size],_,_,H1,rfl,I1.kept (t':=s1.toks) λb o e=>yT _ e,Cw _ "str_iterator" z t (λA' hA=>Walks.strWide hA _ z t) (λ_ _ _ _ _ st h=>wpAny_pyIter_striter_wide st h),⟨_,yD _ rfl,rfl,rfl⟩,fp,q⟩
 ·refine wpAny_pyIter_ascii ha ?_;exact ⟨s1.heap.objs.size,[s1.heap.objs.size],_,_,H1,rfl,I1.kept (t':=s1.toks) λb o e=>yT _ e,Cw _ "str_ascii_iterator" z t (λA' hA=>Walks.strAscii hA _ z t) (λ_ _ _ _ _ st h=>wpAny_pyIter_striter_ascii st h),⟨_,yD _ rfl,rfl,rfl⟩,fp,q⟩
end
section
variable {X:Cx}{K:Fg}
def BX (K:Fg):R2:=λx y H Q=>∃ l b xs zs,x = .ref l/\y = .ref b/\SqL K H l xs/\SqL K H b zs/\xs.length+zs.length<=sizeLine/\∀ p,H p=none->Q (.ref p) (v9 H p (.lst (xs++zs)))
theorem op_catL:OpR X (binaryOp .Add) (BX X.K):=by
 intro pins s σ H x y v u Q I rx ry h;obtain ⟨l,b,xs,zs,rfl,rfl,hH,hB,hz,q⟩:=h;cases rx;cases ry;obtain ⟨its,r,⟨⟨cls,dd,data,sl⟩,n,e,h1,h2,h3⟩,_⟩:=I.list hH;obtain ⟨its2,r2,⟨⟨cls2,dd2,data2,sl2⟩,n2,e2,k1,k2,k3⟩,_⟩:=I.list hB
 dsimp only at h1 h2 h3 k1 k2 k3
 subst h1 h2 h3 k1 k2 k3;have hl:=r.length;have hl2:=r2.length;have hsz:its.toArray.size+its2.toArray.size<=sizeLine:=by rw [yX,yX];omega
 refine concat_meets ⟨_,e,rfl⟩ ⟨_,e2,rfl⟩ noFill_list_add seq_list_add PySem.F.slot_list_add PySem.F.entry_list_add (PySem.F.args_list_add_2 _ _) (list_addW l b its.toArray its2.toArray n n2 none none sl sl2 hsz) ⟨e,e2,?_⟩;have ea:its.toArray++its2.toArray=(its++its2).toArray:=by simp
 rw [ea];exact ⟨.ref _,_,I.lnew (t':=s.toks) (r.append r2) (by rw [yN];omega),rfl,q _ I.fresh⟩
end
end L2
namespace L2
open PySem PySem.Spec PyProof.Rows PySem.SeqAt
variable{x y:V}{A:Around}{s:Shared}{u v:Value}{l:Addr}{items:Array Value}{n:Nat}{b:Bool}{K:Fg}
def EqP (K:Fg)(H:Hp):Nat->V->V->Bool->Prop
 |0,x,y,b=>k4 x=true/\k4 y=true/\b=qc x y
 |n+1,x,y,b=>(k4 x=true/\k4 y=true/\b=qc x y) ∨
  (∃(a c:Addr)(xs ys:List V),x = .ref a/\y = .ref c/\SqL K H a xs/\SqL K H c ys/\((xs.length≠ys.length/\b=false)∨(xs.length=ys.length/\∃ e:Nat->Bool,(∀ j (h1:j<xs.length) (h2:j<ys.length),EqP K H n xs[j] ys[j] (e j))/\b=(List.range xs.length).all e))) ∨
  (∃(a c:Addr)(xs ys:List V),x = .ref a/\y = .ref c/\SqT K H a xs/\SqT K H c ys/\∃ e:Nat->Bool,(∀ j (h1:j<xs.length) (h2:j<ys.length),EqP K H n xs[j] ys[j] (e j))/\b=((List.range (min xs.length ys.length)).all e&&xs.length==ys.length)) ∨
  (∃(a c:Addr)(xs ys:List V),x = .ref a/\y = .ref c/\SqL K H a xs/\SqT K H c ys/\b=false) ∨
  (∃(a c:Addr)(xs ys:List V),x = .ref a/\y = .ref c/\SqT K H a xs/\SqL K H c ys/\b=false) ∨
  (∃(c:Addr)(ys:List V),k4 x=true/\y = .ref c/\(SqL K H c ys∨SqT K H c ys)/\b=false) ∨
  (∃(a:Addr)(xs:List V),k4 y=true/\x = .ref a/\(SqL K H a xs∨SqT K H a xs)/\b=false)
theorem ZC (h:k4 x=true):qc x x=true:=by cases x<;>first|rfl|exact beq_self_eq_true _|cases h
theorem Pk (ry:RelV y u)(rx:RelV x v)(fy:k4 y=true)(fx:k4 x=true):RcAt A s u v (qc y x):=by
 cases y with
 |non =>
  cases ry;cases x with
  |non=>cases rx;exact RcAt.none_none
  |bl b=>cases rx;exact RcAt.none_bool b
  |int b=>obtain ⟨t2,rfl⟩:=rx;exact RcAt.none_int b t2
  |str b=>obtain ⟨t2,rfl⟩:=rx;exact RcAt.none_str b t2
  |_=>exact absurd (show false=true from fx) yS
 |bl a =>
  cases ry;cases x with
  |non=>cases rx;exact RcAt.bool_none a
  |bl b=>cases rx;exact RcAt.bool_bool a b
  |int b=>obtain ⟨t2,rfl⟩:=rx;exact RcAt.bool_int a b t2
  |str b=>obtain ⟨t2,rfl⟩:=rx;exact RcAt.bool_str a b t2
  |_=>exact absurd (show false=true from fx) yS
 |int a =>
  obtain ⟨t1,rfl⟩:=ry;cases x with
  |non=>cases rx;exact RcAt.int_none a t1
  |bl b=>cases rx;exact RcAt.int_bool a t1 b
  |int b=>obtain ⟨t2,rfl⟩:=rx;exact RcAt.int_int a t1 b t2
  |str b=>obtain ⟨t2,rfl⟩:=rx;exact RcAt.int_str a t1 b t2
  |_=>exact absurd (show false=true from fx) yS
 |str a =>
  obtain ⟨t1,rfl⟩:=ry;cases x with
  |non=>cases rx;exact RcAt.str_none a t1
  |bl b=>cases rx;exact RcAt.str_bool a t1 b
  |int b=>obtain ⟨t2,rfl⟩:=rx;exact RcAt.str_int a t1 b t2
  |str b=>obtain ⟨t2,rfl⟩:=rx;exact RcAt.str_str a t1 b t2
  |_=>exact absurd (show false=true from fx) yS
 |_=>exact absurd (show false=true from fy) yS
theorem Pl (ry:RelV y u)(rx:RelV x v)(fy:k4 y=true)(fx:k4 x=true):RcNeAt A s u v (!qc y x):=by
 cases y with
 |non =>
  cases ry;cases x with
  |non=>cases rx;exact RcNeAt.none_none
  |bl b=>cases rx;exact RcNeAt.none_bool b
  |int b=>obtain ⟨t2,rfl⟩:=rx;exact RcNeAt.none_int b t2
  |str b=>obtain ⟨t2,rfl⟩:=rx;exact RcNeAt.none_str b t2
  |_=>exact absurd (show false=true from fx) yS
 |bl a =>
  cases ry;cases x with
  |non=>cases rx;exact RcNeAt.bool_none a
  |bl b=>cases rx;exact RcNeAt.bool_bool a b
  |int b=>obtain ⟨t2,rfl⟩:=rx;exact RcNeAt.bool_int a b t2
  |str b=>obtain ⟨t2,rfl⟩:=rx;exact RcNeAt.bool_str a b t2
  |_=>exact absurd (show false=true from fx) yS
 |int a =>
  obtain ⟨t1,rfl⟩:=ry;cases x with
  |non=>cases rx;exact RcNeAt.int_none a t1
  |bl b=>cases rx;exact RcNeAt.int_bool a t1 b
  |int b=>obtain ⟨t2,rfl⟩:=rx;exact RcNeAt.int_int a t1 b t2
  |str b=>obtain ⟨t2,rfl⟩:=rx;exact RcNeAt.int_str a t1 b t2
  |_=>exact absurd (show false=true from fx) yS
 |str a =>
  obtain ⟨t1,rfl⟩:=ry;cases x with
  |non=>cases rx;exact RcNeAt.str_none a t1
  |bl b=>cases rx;exact RcNeAt.str_bool a t1 b
  |int b=>obtain ⟨t2,rfl⟩:=rx;exact RcNeAt.str_int a t1 b t2
  |str b=>obtain ⟨t2,rfl⟩:=rx;exact RcNeAt.str_str a t1 b t2
  |_=>exact absurd (show false=true from fx) yS
 |_=>exact absurd (show false=true from fy) yS
theorem Ml (hl:s.heap.IsList l items)(hu:A.units<cLine)(ry:RelV y u)(fy:k4 y=true):EqAt A s u (.ref l) false:=by
 cases y with
 |non=>cases ry;exact EqAt.none_list hl hu
 |bl a=>cases ry;exact EqAt.bool_list a hl hu
 |int a=>obtain ⟨t1,rfl⟩:=ry;exact EqAt.int_list a t1 hl hu
 |str a=>obtain ⟨t1,rfl⟩:=ry;exact EqAt.str_list a t1 hl hu
 |_=>exact absurd (show false=true from fy) yS
theorem Mn (hl:s.heap.IsList l items)(hu:A.units<cLine)(ry:RelV y u)(fy:k4 y=true):EqAt A s (.ref l) u false:=by
 cases y with
 |non=>cases ry;exact EqAt.list_none hl hu
 |bl a=>cases ry;exact EqAt.list_bool a hl hu
 |int a=>obtain ⟨t1,rfl⟩:=ry;exact EqAt.list_int a t1 hl hu
 |str a=>obtain ⟨t1,rfl⟩:=ry;exact EqAt.list_str a t1 hl hu
 |_=>exact absurd (show false=true from fy) yS
theorem Mm (hl:s.heap.IsTuple l items)(hu:A.units<cLine)(ry:RelV y u)(fy:k4 y=true):EqAt A s u (.ref l) false:=by
 cases y with
 |non=>cases ry;exact EqAt.none_tuple hl hu
 |bl a=>cases ry;exact EqAt.bool_tuple a hl hu
 |int a=>obtain ⟨t1,rfl⟩:=ry;exact EqAt.int_tuple a t1 hl hu
 |str a=>obtain ⟨t1,rfl⟩:=ry;exact EqAt.str_tuple a t1 hl hu
 |_=>exact absurd (show false=true from fy) yS
theorem Mo (hl:s.heap.IsTuple l items)(hu:A.units<cLine)(ry:RelV y u)(fy:k4 y=true):EqAt A s (.ref l) u false:=by
 cases y with
 |non=>cases ry;exact EqAt.tuple_none hl hu
 |bl a=>cases ry;exact EqAt.tuple_bool a hl hu
 |int a=>obtain ⟨t1,rfl⟩:=ry;exact EqAt.tuple_int a t1 hl hu
 |str a=>obtain ⟨t1,rfl⟩:=ry;exact EqAt.tuple_str a t1 hl hu
 |_=>exact absurd (show false=true from fy) yS
theorem RO (hl:s.heap.IsList l items)(hu:A.units<cLine)(ry:RelV y u)(fy:k4 y=true):RcAt A s u (.ref l) false:=by
 cases y with
 |non=>cases ry;exact RcAt.none_list hl hu
 |bl a=>cases ry;exact RcAt.bool_list a hl hu
 |int a=>obtain ⟨t1,rfl⟩:=ry;exact RcAt.int_list a t1 hl hu
 |str a=>obtain ⟨t1,rfl⟩:=ry;exact RcAt.str_list a t1 hl hu
 |_=>exact absurd (show false=true from fy) yS
theorem RQ (hl:s.heap.IsList l items)(hu:A.units<cLine)(ry:RelV y u)(fy:k4 y=true):RcAt A s (.ref l) u false:=by
 cases y with
 |non=>cases ry;exact RcAt.list_none hl hu
 |bl a=>cases ry;exact RcAt.list_bool a hl hu
 |int a=>obtain ⟨t1,rfl⟩:=ry;exact RcAt.list_int a t1 hl hu
 |str a=>obtain ⟨t1,rfl⟩:=ry;exact RcAt.list_str a t1 hl hu
 |_=>exact absurd (show false=true from fy) yS
theorem RP (hl:s.heap.IsTuple l items)(hu:A.units<cLine)(ry:RelV y u)(fy:k4 y=true):RcAt A s u (.ref l) false:=by
 cases y with
 |non=>cases ry;exact RcAt.none_tuple hl hu
 |bl a=>cases ry;exact RcAt.bool_tuple a hl hu
 |int a=>obtain ⟨t1,rfl⟩:=ry;exact RcAt.int_tuple a t1 hl hu
 |str a=>obtain ⟨t1,rfl⟩:=ry;exact RcAt.str_tuple a t1 hl hu
 |_=>exact absurd (show false=true from fy) yS
theorem RT (hl:s.heap.IsTuple l items)(hu:A.units<cLine)(ry:RelV y u)(fy:k4 y=true):RcAt A s (.ref l) u false:=by
 cases y with
 |non=>cases ry;exact RcAt.tuple_none hl hu
 |bl a=>cases ry;exact RcAt.tuple_bool a hl hu
 |int a=>obtain ⟨t1,rfl⟩:=ry;exact RcAt.tuple_int a t1 hl hu
 |str a=>obtain ⟨t1,rfl⟩:=ry;exact RcAt.tuple_str a t1 hl hu
 |_=>exact absurd (show false=true from fy) yS
theorem RU (hl:s.heap.IsList l items)(hu:A.units<cLine)(ry:RelV y u)(fy:k4 y=true):RcNeAt A s u (.ref l) true:=by
 cases y with
 |non=>cases ry;exact RcNeAt.none_list hl hu
 |bl a=>cases ry;exact RcNeAt.bool_list a hl hu
 |int a=>obtain ⟨t1,rfl⟩:=ry;exact RcNeAt.int_list a t1 hl hu
 |str a=>obtain ⟨t1,rfl⟩:=ry;exact RcNeAt.str_list a t1 hl hu
 |_=>exact absurd (show false=true from fy) yS
theorem RW (hl:s.heap.IsList l items)(hu:A.units<cLine)(ry:RelV y u)(fy:k4 y=true):RcNeAt A s (.ref l) u true:=by
 cases y with
 |non=>cases ry;exact RcNeAt.list_none hl hu
 |bl a=>cases ry;exact RcNeAt.list_bool a hl hu
 |int a=>obtain ⟨t1,rfl⟩:=ry;exact RcNeAt.list_int a t1 hl hu
 |str a=>obtain ⟨t1,rfl⟩:=ry;exact RcNeAt.list_str a t1 hl hu
 |_=>exact absurd (show false=true from fy) yS
theorem RV (hl:s.heap.IsTuple l items)(hu:A.units<cLine)(ry:RelV y u)(fy:k4 y=true):RcNeAt A s u (.ref l) true:=by
 cases y with
 |non=>cases ry;exact RcNeAt.none_tuple hl hu
 |bl a=>cases ry;exact RcNeAt.bool_tuple a hl hu
 |int a=>obtain ⟨t1,rfl⟩:=ry;exact RcNeAt.int_tuple a t1 hl hu
 |str a=>obtain ⟨t1,rfl⟩:=ry;exact RcNeAt.str_tuple a t1 hl hu
 |_=>exact absurd (show false=true from fy) yS
theorem RX (hl:s.heap.IsTuple l items)(hu:A.units<cLine)(ry:RelV y u)(fy:k4 y=true):RcNeAt A s (.ref l) u true:=by
 cases y with
 |non=>cases ry;exact RcNeAt.tuple_none hl hu
 |bl a=>cases ry;exact RcNeAt.tuple_bool a hl hu
 |int a=>obtain ⟨t1,rfl⟩:=ry;exact RcNeAt.tuple_int a t1 hl hu
 |str a=>obtain ⟨t1,rfl⟩:=ry;exact RcNeAt.tuple_str a t1 hl hu
 |_=>exact absurd (show false=true from fy) yS
section
variable {X:Cx}{pins:List (Addr×Obj)}{σ:St}{H:Hp}{s:Shared}
theorem ZB (I:Inv X pins σ H s):∀(n:Nat){x:V}{b:Bool},EqP X.K H n x x b->b=true
 |0,x,b,h=>by obtain ⟨h1,_,rfl⟩:=h;exact ZC h1
 |n+1,x,b,h=>by
  rcases h with ⟨h1,_,rfl⟩|⟨a,c,xs,ys,rfl,e2,p1,p2,h⟩|⟨a,c,xs,ys,rfl,e2,p1,p2,e,he,rfl⟩|⟨a,c,xs,ys,rfl,e2,p1,p2,_⟩|⟨a,c,xs,ys,rfl,e2,p1,p2,_⟩|⟨c,ys,f,rfl,_⟩|⟨c,ys,f,rfl,_⟩
  ·exact ZC h1
  ·cases e2;cases I.list_inj p1 p2;rcases h with ⟨h,_⟩|⟨_,e,he,rfl⟩
   ·exact absurd rfl h
   ·rw [uE];exact λj hj=>ZB I n (he j (yu.mp hj) (yu.mp hj))
  ·cases e2;cases I.tuple_inj p1 p2;rw [Nat.min_self,beq_self_eq_true,Bool.and_true,uE];exact λj hj=>ZB I n (he j (yu.mp hj) (yu.mp hj))
  ·cases e2;obtain ⟨_,_,⟨o1,_,q1,c1,_⟩,_⟩:=I.list p1;obtain ⟨_,_,⟨o2,q2,c2,_⟩,_⟩:=I.tuple p2;rw [q1] at q2;cases q2;rw [c1] at c2;exact absurd c2 (by decide)
  ·cases e2;obtain ⟨_,_,⟨o2,q2,c2,_⟩,_⟩:=I.tuple p1;obtain ⟨_,_,⟨o1,_,q1,c1,_⟩,_⟩:=I.list p2;rw [q1] at q2;cases q2;rw [c1] at c2;exact absurd c2 (by decide)
  ·cases f
  ·cases f
theorem wY (I:Inv X pins σ H s):∀(n:Nat)(A:Around){x y:V}{u v:Value}{b:Bool},A.units+n<cLine->EqP X.K H n x y b->RelV x u->RelV y v->EqAt A s u v b
 |0,A,x,y,u,v,b,hu,h,r1,r2=>by obtain ⟨h1,h2,rfl⟩:=h;exact Vf r1 r2 h1 h2
 |n+1,A,x,y,u,v,b,hu,h,r1,r2=>by
  have h':=h;rcases h with ⟨h1,h2,rfl⟩|⟨a,c,xs,ys,rfl,rfl,p1,p2,h⟩|⟨a,c,xs,ys,rfl,rfl,p1,p2,e,he,rfl⟩|⟨a,c,xs,ys,rfl,rfl,p1,p2,rfl⟩|⟨a,c,xs,ys,rfl,rfl,p1,p2,rfl⟩|⟨c,ys,f,rfl,p,rfl⟩|⟨c,ys,f,rfl,p,rfl⟩
  ·exact Vf r1 r2 h1 h2
  ·cases r1;cases r2;by_cases hac:a=c
   ·subst hac;have hb:=ZB I (n+1) h';rw [hb];exact EqAt.same _
   obtain ⟨us,v1,q1,_⟩:=I.list p1;obtain ⟨ws,v2,q2,_⟩:=I.list p2;have l1:=v1.length;have l2:=v2.length;refine EqAt.of_refs hac ?_;rcases h with ⟨h,rfl⟩|⟨hl,e,he,rfl⟩
   ·exact RcAt.lists_lengths q1.isList q2.isList (by rw [yX,yX];simp;omega) (by omega)
   ·have q:=RcAt.lists (A:=A) (s:=s) q1.isList q2.isList (by rw [yX,yX];omega) (by omega) (e:=e) (λj j1 j2=>?_)
    ·rw [yX,<- l1] at q;exact q
    ·have j1':j<us.length:=by simpa using j1
     have j2':j<ws.length:=by simpa using j2
     rw [yd,yd];exact wY I n A.in1 (by show A.units+1+n<cLine;omega) (he j (by omega) (by omega)) (zd v1 j (by omega) j1') (zd v2 j (by omega) j2')
  ·cases r1;cases r2;by_cases hac:a=c
   ·subst hac;have hb:=ZB I (n+1) h';rw [hb];exact EqAt.same _
   obtain ⟨us,v1,q1,_⟩:=I.tuple p1;obtain ⟨ws,v2,q2,_⟩:=I.tuple p2;have l1:=v1.length;have l2:=v2.length;refine EqAt.of_refs hac ?_;have q:=RcAt.tuples (A:=A) (s:=s) q1 q2 (by omega) (e:=e) (λj j1 j2=>?_)
   ·rw [yX,yX,<- l1,<- l2] at q;exact q
   ·have j1':j<us.length:=by simpa using j1
    have j2':j<ws.length:=by simpa using j2
    rw [yd,yd];exact wY I n A.in1 (by show A.units+1+n<cLine;omega) (he j (by omega) (by omega)) (zd v1 j (by omega) j1') (zd v2 j (by omega) j2')
  ·cases r1;cases r2;obtain ⟨us,v1,q1,_⟩:=I.list p1;obtain ⟨ws,v2,q2,_⟩:=I.tuple p2;exact EqAt.list_tuple q1.isList q2 (by omega)
  ·cases r1;cases r2;obtain ⟨us,v1,q1,_⟩:=I.tuple p1;obtain ⟨ws,v2,q2,_⟩:=I.list p2;exact EqAt.tuple_list q1 q2.isList (by omega)
  ·cases r2;rcases p with p|p
   ·obtain ⟨us,v1,q1,_⟩:=I.list p;exact Ml q1.isList (by omega) r1 f
   ·obtain ⟨us,v1,q1,_⟩:=I.tuple p;exact Mm q1 (by omega) r1 f
  ·cases r1;rcases p with p|p
   ·obtain ⟨us,v1,q1,_⟩:=I.list p;exact Mn q1.isList (by omega) r2 f
   ·obtain ⟨us,v1,q1,_⟩:=I.tuple p;exact Mo q1 (by omega) r2 f
theorem rc_at (I:Inv X pins σ H s)(hu:A.units+n<cLine)(h:EqP X.K H n x y b)(r1:RelV x u)(r2:RelV y v):RcAt A s u v b:=by
 cases n with
 |zero=>obtain ⟨h1,h2,rfl⟩:=h;exact Pk r1 r2 h1 h2
 |succ n =>
  rcases h with ⟨h1,h2,rfl⟩|⟨a,c,xs,ys,rfl,rfl,p1,p2,h⟩|⟨a,c,xs,ys,rfl,rfl,p1,p2,e,he,rfl⟩|⟨a,c,xs,ys,rfl,rfl,p1,p2,rfl⟩|⟨a,c,xs,ys,rfl,rfl,p1,p2,rfl⟩|⟨c,ys,f,rfl,p,rfl⟩|⟨c,ys,f,rfl,p,rfl⟩
  ·exact Pk r1 r2 h1 h2
  ·cases r1;cases r2;obtain ⟨us,v1,q1,_⟩:=I.list p1;obtain ⟨ws,v2,q2,_⟩:=I.list p2;have l1:=v1.length;have l2:=v2.length;rcases h with ⟨h,rfl⟩|⟨hl,e,he,rfl⟩
   ·exact RcAt.lists_lengths q1.isList q2.isList (by rw [yX,yX];simp;omega) (by omega)
   ·have q:=RcAt.lists (A:=A) (s:=s) q1.isList q2.isList (by rw [yX,yX];omega) (by omega) (e:=e) (λj j1 j2=>?_)
    ·rw [yX,<- l1] at q;exact q
    ·have j1':j<us.length:=by simpa using j1
     have j2':j<ws.length:=by simpa using j2
     rw [yd,yd];exact wY I n A.in1 (by show A.units+1+n<cLine;omega) (he j (by omega) (by omega)) (zd v1 j (by omega) j1') (zd v2 j (by omega) j2')
  ·cases r1;cases r2;obtain ⟨us,v1,q1,_⟩:=I.tuple p1;obtain ⟨ws,v2,q2,_⟩:=I.tuple p2;have l1:=v1.length;have l2:=v2.length;have q:=RcAt.tuples (A:=A) (s:=s) q1 q2 (by omega) (e:=e) (λj j1 j2=>?_)
   ·rw [yX,yX,<- l1,<- l2] at q;exact q
   ·have j1':j<us.length:=by simpa using j1
    have j2':j<ws.length:=by simpa using j2
    rw [yd,yd];exact wY I n A.in1 (by show A.units+1+n<cLine;omega) (he j (by omega) (by omega)) (zd v1 j (by omega) j1') (zd v2 j (by omega) j2')
  ·cases r1;cases r2;obtain ⟨us,v1,q1,_⟩:=I.list p1;obtain ⟨ws,v2,q2,_⟩:=I.tuple p2;exact RcAt.list_tuple q1.isList q2 (by omega)
  ·cases r1;cases r2;obtain ⟨us,v1,q1,_⟩:=I.tuple p1;obtain ⟨ws,v2,q2,_⟩:=I.list p2;exact RcAt.tuple_list q1 q2.isList (by omega)
  ·cases r2;rcases p with p|p
   ·obtain ⟨us,v1,q1,_⟩:=I.list p;exact RO q1.isList (by omega) r1 f
   ·obtain ⟨us,v1,q1,_⟩:=I.tuple p;exact RP q1 (by omega) r1 f
  ·cases r1;rcases p with p|p
   ·obtain ⟨us,v1,q1,_⟩:=I.list p;exact RQ q1.isList (by omega) r2 f
   ·obtain ⟨us,v1,q1,_⟩:=I.tuple p;exact RT q1 (by omega) r2 f
theorem RY (I:Inv X pins σ H s)(hu:A.units+n<cLine)(h:EqP X.K H n x y b)(r1:RelV x u)(r2:RelV y v):RcNeAt A s u v (!b):=by
 cases n with
 |zero=>obtain ⟨h1,h2,rfl⟩:=h;exact Pl r1 r2 h1 h2
 |succ n =>
  rcases h with ⟨h1,h2,rfl⟩|⟨a,c,xs,ys,rfl,rfl,p1,p2,h⟩|⟨a,c,xs,ys,rfl,rfl,p1,p2,e,he,rfl⟩|⟨a,c,xs,ys,rfl,rfl,p1,p2,rfl⟩|⟨a,c,xs,ys,rfl,rfl,p1,p2,rfl⟩|⟨c,ys,f,rfl,p,rfl⟩|⟨c,ys,f,rfl,p,rfl⟩
  ·exact Pl r1 r2 h1 h2
  ·cases r1;cases r2;obtain ⟨us,v1,q1,_⟩:=I.list p1;obtain ⟨ws,v2,q2,_⟩:=I.list p2;have l1:=v1.length;have l2:=v2.length;rcases h with ⟨h,rfl⟩|⟨hl,e,he,rfl⟩
   ·exact RcNeAt.lists_lengths q1.isList q2.isList (by rw [yX,yX];simp;omega) (by omega)
   ·have q:=RcNeAt.lists (A:=A) (s:=s) q1.isList q2.isList (by rw [yX,yX];omega) (by omega) (e:=e) (λj j1 j2=>?_)
    ·rw [yX,<- l1] at q;exact q
    ·have j1':j<us.length:=by simpa using j1
     have j2':j<ws.length:=by simpa using j2
     rw [yd,yd];exact wY I n A.in1 (by show A.units+1+n<cLine;omega) (he j (by omega) (by omega)) (zd v1 j (by omega) j1') (zd v2 j (by omega) j2')
  ·cases r1;cases r2;obtain ⟨us,v1,q1,_⟩:=I.tuple p1;obtain ⟨ws,v2,q2,_⟩:=I.tuple p2;have l1:=v1.length;have l2:=v2.length;have q:=RcNeAt.tuples (A:=A) (s:=s) q1 q2 (by omega) (e:=e) (λj j1 j2=>?_)
   ·rw [yX,yX,<- l1,<- l2] at q;exact q
   ·have j1':j<us.length:=by simpa using j1
    have j2':j<ws.length:=by simpa using j2
    rw [yd,yd];exact wY I n A.in1 (by show A.units+1+n<cLine;omega) (he j (by omega) (by omega)) (zd v1 j (by omega) j1') (zd v2 j (by omega) j2')
  ·cases r1;cases r2;obtain ⟨us,v1,q1,_⟩:=I.list p1;obtain ⟨ws,v2,q2,_⟩:=I.tuple p2;exact RcNeAt.list_tuple q1.isList q2 (by omega)
  ·cases r1;cases r2;obtain ⟨us,v1,q1,_⟩:=I.tuple p1;obtain ⟨ws,v2,q2,_⟩:=I.list p2;exact RcNeAt.tuple_list q1 q2.isList (by omega)
  ·cases r2;rcases p with p|p
   ·obtain ⟨us,v1,q1,_⟩:=I.list p;exact RU q1.isList (by omega) r1 f
   ·obtain ⟨us,v1,q1,_⟩:=I.tuple p;exact RV q1 (by omega) r1 f
  ·cases r1;rcases p with p|p
   ·obtain ⟨us,v1,q1,_⟩:=I.list p;exact RW q1.isList (by omega) r2 f
   ·obtain ⟨us,v1,q1,_⟩:=I.tuple p;exact RX q1 (by omega) r2 f
def rEqD (K:Fg)(n:Nat)(neg:Bool):R2:=λx y H Q=>∃ b,EqP K H n x y b/\Q (.bl (if neg then !b else b)) H
theorem jC (hu:X.A.units+n<cLine)(hK:X.K=K):OpR X (compareOp .Eq) (rEqD K n false):=by subst hK;intro pins s σ H x y v u Q I rx ry h;obtain ⟨b,h,q⟩:=h;exact rc_at I hu h rx ry X.prog X.w X.xe _ ⟨.bl b,H,I,rfl,q⟩
theorem Jj (hu:X.A.units+n<cLine)(hK:X.K=K):OpR X (compareOp .NotEq) (rEqD K n true):=by subst hK;intro pins s σ H x y v u Q I rx ry h;obtain ⟨b,h,q⟩:=h;exact RY I hu h rx ry X.prog X.w X.xe _ ⟨.bl (!b),H,I,rfl,q⟩
theorem hu6 {k:Nat}(hr:Room k A):A.units+6<cLine:=by have:=hr.units;omega
end
end L2
namespace L2
open PySem PySem.Spec PyProof.Rows
section
variable {X:Cx}{K:Fg}
def rAddS:R2:=λx y H Q=>∃ i j,x = .str i/\y = .str j/\i.length+j.length<=sizeLine/\Q (.str (i++j)) H
def BV (K:Fg):R2:=λx y H Q=>(rI0 λi j=> .int (i+j)) x y H Q∨rAddS x y H Q∨BX K x y H Q∨BY K x y H Q
theorem qu (h:X.K=K):OpR X (binaryOp .Add) (BV K):=by subst h;exact op_add.or (op_add_str.or (op_catL.or HN))
theorem LE (h:X.K=K):IxR X (rIx K):=by subst h;exact LD
def QC (K:Fg):List V->Hp->VK->Prop:=λxs H Q=>(∃ x n,xs=[x]/\LenV K x H n/\Q (.int n) H)∨∃ a kvs,xs=[V.ref a]/\H a=some (.dK kvs)/\Q (.int kvs.length) H
theorem xG (h:X.K=K):CallR X (.builtin "len") (QC K):=by subst h;exact CallR.or (f:= .builtin "len") DG DH
theorem RK {a:Expr}{ta:TE}(h:X.K=K)(ha:PE X a ta)(he:∀ whole,isTrue a X.env whole=(do let v <- whole;standAt a.pos;holding [v] (truthy v))):PT X a (λσ H Q=>ta σ H λx H'=>∃ k,TruV K x H' k/\Q k H'):=by subst h;exact RL ha he
theorem By (h:X.K=K):OpR X (compareOp .In) (rIn K false):=by subst h;exact HP
theorem Rw {tg l:Expr}{tl:TE}(hK:X.K=K)(hl:PE X l tl):PI X tg l (iTup K tl):=by subst hK;exact Rv hl
def Pc (K:Fg):List V->Hp->VK->Prop:=λxs H Q=>∃ p ys,xs=[.ref p]/\(SqL K H p ys∨SqT K H p ys)/\∀ l,H l=none->Q (.ref l) (v9 H l (.lst ys))
theorem Zq (h:X.K=K):CallR X (.type "list") (Pc K):=by subst h;exact DL
def rIsi (K:Fg):List V->Hp->VK->Prop:=λxs H Q=>∃ x n T b,xs=[x,.ty n]/\xF K H x (.type T)/\tyB T n=some b/\Q (.bl b) H
theorem jS (h:X.K=K):CallR X (.builtin "isinstance") (rIsi K):=by subst h;exact DF
def BW (K:Fg):List V->Hp->VK->Prop:=λxs H Q=>∃(a:Addr)(bs:List Bool),xs=[.ref a]/\SqL K H a (bs.map V.bl)/\Q (.bl (bs.all id)) H
theorem QO (hc:X.calm=true)(h:X.K=K):CallR X (.builtin "all") (BW K):=by subst h;exact DD hc
def Pj (K:Fg):List V->Hp->VK->Prop:=λxs H Q=>∃(a:Addr)(ns:List Int),xs=[.ref a]/\SqL K H a (ns.map V.int)/\Q (.int ns.sum) H
theorem GR (hc:X.calm=true)(h:X.K=K):CallR X (.builtin "sum") (Pj K):=by subst h;exact GQ hc
def rMin2:List V->Hp->VK->Prop:=λxs H Q=>∃ i j,xs=[.int i,.int j]/\Q (.int (if j<i then j else i)) H
theorem DN (hc:X.calm=true):CallR X (.builtin "min") rMin2:=DM hc
def rIsN:R2:=λx y H Q=>y = .non/\Q (.bl (decide (x = .non))) H
def Pf:R2:=λx y H Q=>y = .non/\Q (.bl (!decide (x = .non))) H
theorem Bz:OpR X (compareOp .Is) rIsN:=HQ
theorem Wb:OpR X (compareOp .IsNot) Pf:=HU
theorem DB:bootBuiltins "tuple"=some (.type "tuple"):=by decide +kernel
theorem Zp:bootBuiltins "sorted"=some (.builtin "sorted"):=by decide +kernel
theorem JR:bootBuiltins "dict"=some (.type "dict"):=by decide +kernel
theorem Ia:tyB "tuple" "tuple"=some true:=by decide +kernel
end
section
variable {X:Cx}{K:Fg}{o e:Expr}{es:List Expr}{to:TE}{t:TA}{name:Str}{apos cpos:Pos}{T id:String}{r:V->List V->Hp->VK->Prop}
theorem jF (hK:X.K=K)(pa:PlainAttrs T)(slot:Slot T name id)(hty:typeOf (.builtin id)=pure (.type "method_descriptor"))(hm:MtR X id r)(ho:PE X o to)(ha:PA X (e::es) t)(hbase:attributeBase o name X.env (eval o X.env)=eval o X.env:=by rfl)(hfew:((backTo cpos (starEach (e::es) X.env)).all (λx=>!x.1)&&(backToKw cpos (keywordEach [] X.env)).all (λx=>x.1.isSome)&&decide ((e::es).length+([]:List Keyword).length+(if ([]:List Keyword).isEmpty then 0 else 1)<30))=true:=by rfl)(hline:(apos.endLine==cpos.line)=true:=by rfl)(hs:starEach (e::es) X.env=(false,eval e X.env)::starEach es X.env:=by rfl)(hplain:(backTo cpos (starEach es X.env)).any (·.1)=false:=by rfl):PE X (.Call (.Attribute o name apos) (e::es) [] cpos) (tBM K T r to t):=by subst hK;exact pe_bm pa slot hty hm ho ha hbase hfew hline hs hplain
end
end L2
namespace L2
open PySem PySem.Spec PySem.Calls
variable{h:Heap}{a:Addr}{n:Nat}{A:Around}
section
variable {P:Program}{w:World}{κ:Type}[DecidableEq κ]{knd:PySem.KeyKind P w κ}
def s9 (val:Nat->κ):Nat->List κ
 |0=>[]
 |i+1=>if val i∈s9 val i then s9 val i else s9 val i++[val i]
theorem PL (val:Nat->κ):∀ i,(s9 val i).length<=i
 |0=>yV _
 |i+1=>by
  have ih:=PL val i;unfold s9;split
  ·omega
  ·rw [yN,List.length_singleton];omega
theorem PN {S S':κ->Bool}{n':Nat}(x:h.SetOf knd a S n)(e:∀ k,S k=S' k)(en:n=n'):h.SetOf knd a S' n':=by cases (funext e:S=S');cases en;exact x
theorem YH {h':Heap}{S:κ->Bool}(x:h.SetOf knd a S n)(e:∀ o,h.get? a=some o->h'.get? a=some o):h'.SetOf knd a S n:=by obtain ⟨o,es,ep,t,ho,r⟩:=x;exact ⟨o,es,ep,t,e _ ho,r⟩
theorem Sn {R:Result->Shared->Prop}{I:Addr}{fp wr:List Addr}{G:Array GenState->Array GenState->Prop}{Pp:Nat->Value->Prop}{St:Nat->Shared->Prop}(W:WalksS P w A.in1 I fp wr G n Pp St)(a:Addr)(ha:a∉fp)(val:Nat->κ)(hv:∀ i v,Pp i v->knd.is (val i) v=true/\v.scannable=true)(hb:n+1<scanBound):∀ (m i:Nat) (s:Shared),n-i=m->i<=n->St i s->s.heap.SetOf knd a (λx=>decide (x∈s9 val i)) (s9 val i).length -> (∀ s',Moved (a::wr) G s s'->s'.heap.SetOf knd a (λx=>decide (x∈s9 val n)) (s9 val n).length->R (.ok (.ret .none)) s') -> codeAny (model P w) A (.builtin "set.update.loop" ⟨[.ref a,.ref I],[]⟩) R s:=by
 have haw:a∉wr:=λz=>ha (W.sub _ z);have up:∀ b∈wr,b∈a::wr:=λb z=>yW _ z;intro m
 induction m with
 |zero =>
  intro i s hm hi st hS hR;obtain rfl:i=n:=by omega
  refine codeAny_builtin PyProof.Rows.F.entry_set_update_loop ?_;rw [Around.under_plainId PyProof.Rows.F.plain_set_update_loop _];show wpAny _ A.in1 (pyNext (.ref I) >>= _) _ _ s;refine yR (W.done s _ _ st λs' mv=>?_);show wpAny _ A.in1 (ret Value.none) _ _ s';exact yx (hR s' (mv.mono up) (YH hS λo e=>mv.heap a o haw e))
 |succ m ih =>
  intro i s hm hi st hS hR;have hlt:i<n:=by omega
  refine codeAny_builtin PyProof.Rows.F.entry_set_update_loop ?_;rw [Around.under_plainId PyProof.Rows.F.plain_set_update_loop _];show wpAny _ A.in1 (pyNext (.ref I) >>= _) _ _ s;refine yR (W.item i s _ _ hlt st λv s' hP st' mv=>?_);obtain ⟨hk,hsc⟩:=hv i v hP;have hS':s'.heap.SetOf knd a (λx=>decide (x∈s9 val i)) (s9 val i).length:=YH hS λo e=>mv.heap a o haw e;show wpAny _ A.in1 (holding [v] (setAdd a v) >>= _) _ _ s';refine yR (wpAny_holding ?_);unfold setAdd;refine wpAny_holding (yR (knd.pyHash (k:=val i) hk ?_));have room:(s9 val i).length+1<scanBound:=by have:=PL val i;omega
  refine wpAny_setAddHashed_of (knd:=knd) (s:={ s' with toks:=s'.toks+1 }) hk hsc hS' room λh' sb hS2=>?_;have hSi:h'.SetOf knd a (λx=>decide (x∈s9 val (i+1))) (s9 val (i+1)).length:=by
   refine PN hS2 (λx=>?_) ?_
   ·by_cases hc:val i∈s9 val i
    ·rw [show s9 val (i+1)=s9 val i from if_pos hc];by_cases hx:x=val i
     ·subst hx;simp [hc]
     ·simp [hx]
    ·rw [show s9 val (i+1)=s9 val i++[val i] from if_neg hc];simp
   ·by_cases hc:val i∈s9 val i
    ·rw [show s9 val (i+1)=s9 val i from if_pos hc];simp [hc]
    ·rw [show s9 val (i+1)=s9 val i++[val i] from if_neg hc];simp [hc]
  refine yx ⟨plainId_quiet PyProof.Rows.F.plain_set_update_loop _,ih (i+1) _ (by omega) hlt (W.frame _ s' _ _ st' (ul _) λb z o e=>?_) hSi λs2 mv2 hS3=>?_⟩
  ·rw [sb.2 b (λq:b=a=>ha (by rw [<- q];exact z))];exact e
  ·refine hR s2 (Moved.trans W.gtrans ((mv.mono up).then_heap (ul _) λb o z e=>?_) mv2) hS3;rw [sb.2 b (λq:b=a=>z (by rw [q];exact yU))];exact e
theorem DQ {E:Value->Shared->Prop}{s:Shared}{l:Addr}{its:Array Value}{val:Nat->κ}{Q:Value->Shared->Prop}(hh:A.handled=none)(hl:s.heap.IsList l its)(hv:∀ (i:Nat) (v:Value),its[i]?=some v->knd.is (val i) v=true/\v.scannable=true)(hb:its.size+1<scanBound)(h:∀ (h':Heap) (tk:Nat),h'.SetOf knd s.heap.objs.size (λx=>decide (x∈s9 val its.size)) (s9 val its.size).length -> (∀ b o,s.heap.get? b=some o->h'.get? b=some o)->Q (.ref s.heap.objs.size) { s with heap:=h',toks:=tk }):wpAny (model P w) A (call (.type "set") [.ref l]) Q E s:=by
 obtain ⟨c,tl,hmro⟩:=PySem.F.called_set.mro;have hmade:=PySem.F.called_set.made;have hsub:=PySem.F.called_set.sub;refine wpAny_call (codeAny_of_tree ?_);show wpAny _ _ (callAny (.type "set") _) _ _ _;refine yx ⟨Code.quiet_builtin _ (by decide +kernel),codeAny_builtin PySem.F.entry_type_call ?_⟩;rw [Around.under_plain (weight_type_call_type "set" [.ref l] []) rfl];have q1:=PySem.F.called_set.notType;have q2:=PySem.F.called_set.canCreate;have q3:=PySem.F.typeCall_set_1 (.ref l)
 (repeat (any_goals (first|assumption|wp_step)))
 refine codeAny_mono (code_set_new_1 (.ref l) (E:=E) (Q₁:=λob s1=>∃ led:Bool,ob = .ref s.heap.objs.size/\s1={ s with heap:=s.heap.push { cls:= .type "set",dict:=none,data:= .set #[] 0 (.fresh 0 0 led) } }) λled=>⟨led,rfl,rfl⟩) λr s1 hr=>?_;cases r with
 |error e=>exact hr
 |ok fl =>
  cases fl with
  |ret ob =>
   obtain ⟨led,rfl,rfl⟩:=hr;have hS:(s.heap.push { cls:= .type "set",dict:=none,data:= .set #[] 0 (.fresh 0 0 led) }).get? s.heap.objs.size=some { cls:= .type "set",dict:=none,data:= .set #[] 0 (.fresh 0 0 led) }:=yD _ rfl;have hT:Shared.TypeIs { s with heap:=s.heap.push { cls:= .type "set",dict:=none,data:= .set #[] 0 (.fresh 0 0 led) } } (.ref s.heap.objs.size) "set":=⟨_,hS,rfl⟩;have hli:=PySem.F.called_set.init.lookup;have hbi:=PySem.F.called_set.init.bind (.ref s.heap.objs.size)
   (repeat (any_goals (first|assumption|wp_step)))
   refine codeAny_mono (codeAny_call_builtin (R:=wants (λr s2=>r = .none/\∃ h' tk,s2={ s with heap:=h',toks:=tk }/\h'.SetOf knd s.heap.objs.size (λx=>decide (x∈s9 val its.size)) (s9 val its.size).length /\
     (∀ b o,s.heap.get? b=some o->h'.get? b=some o)) E) PySem.F.called_set.init.plain PySem.F.entry_set_init (check_set_init_1 hT ?_)) λr2 s2 hr2=>?_
   ·obtain ⟨ol,hol,hcl,nl,hdl⟩:=hl;obtain ⟨ocls,odict,odata,oslots⟩:=ol;simp only at hcl hdl;subst hcl;subst hdl;have hol':(s.heap.push { cls:= .type "set",dict:=none,data:= .set #[] 0 (.fresh 0 0 led) }).get? l=some { cls:= .type "list",dict:=odict,data:= .seq its nl,slots:=oslots }:=yT _ hol;have z1:=PySem.F.sub_list_set;have z2:=PySem.F.sub_list_frozenset;have z3:(Value.type "list" == Value.type "dict")=false:=by decide
    have hl1:(s.heap.push { cls:= .type "set",dict:=none,data:= .set #[] 0 (.fresh 0 0 led) }).IsList l its:=⟨_,hol',rfl,nl,rfl⟩;unfold Builtin.«set.__init__» noKeywords Builtin.Frozenset.updateFrom;generalize hPI:pyIter=PI
    wp_walk
    subst hPI;refine wpAny_pyIter_list hl1 ?_;refine yR (wpAny_runValue ?_);have hlS:l<s.heap.objs.size:=yQ hol;have h3:A.in1.in1.in1.handled=none:=by simp [hh]
    have ne1:l≠(s.heap.push { cls:= .type "set",dict:=none,data:= .set #[] 0 (.fresh 0 0 led) }).objs.size:=by rw [ux];exact yL (Nat.lt_succ_of_lt hlS)
    have ne2:s.heap.objs.size∉[(s.heap.push { cls:= .type "set",dict:=none,data:= .set #[] 0 (.fresh 0 0 led) }).objs.size,l]:=by rw [ux];simp only [yH,ye,or_false,not_or];exact ⟨yL (uj _),tY hlS⟩
    refine Sn (knd:=knd) ((Walks.list h3 _ l ne1 its).toS) s.heap.objs.size ne2 val hv hb (its.size-0) 0 _ (by omega) (uY _) ⟨⟨_,yD _ rfl,rfl,rfl⟩,(hl1.push _)⟩ ?_ ?_
    ·have hg:((s.heap.push { cls:= .type "set",dict:=none,data:= .set #[] 0 (.fresh 0 0 led) }).push { cls:= .type "list_iterator",data:= .fields #[.ref l,.int 0 0] }).get? s.heap.objs.size=some { cls:= .type "set",dict:=none,data:= .set #[] 0 (.fresh 0 0 led) }:=yT _ hS;exact PN ((PyProof.Rows.setObjOf_fresh (knd:=knd) led).setOf hg (by unfold scanBound;omega)) (λx=>by simp [s9]) rfl
    ·rintro ⟨h',g',d',tk',os'⟩ mv hS';have eg:g'=s.gens:=mv.gens;have ed:d'=s.drawn:=mv.drawn;have eo:os'=s.os:=mv.os;subst eg ed eo;show wpAny _ _ _ _ _ _;refine yx ?_;show wpAny _ _ (ret Value.none) _ _ _;refine yx ⟨rfl,h',tk',rfl,hS',λb o e=>?_⟩;have hb0:=yQ e;refine mv.heap b o ?_ (yT _ (yT _ e));rw [ux];simp only [yH,ye,or_false,not_or];exact ⟨yL hb0,yL (Nat.lt_succ_of_lt hb0)⟩
   ·cases r2 with
    |error e=>exact hr2
    |ok fl2 =>
     cases fl2 with
     |ret r =>
      obtain ⟨rfl,h',tk,rfl,hS',hk'⟩:=hr2
      (repeat (any_goals (first|assumption|wp_step)))
      exact h _ _ hS' hk'
     |_=>exact False.elim hr2
  |_=>exact False.elim hr
end
def vG (n:Nat)(a:Addr):HO:= .ext λh=>∃(P:Program)(w:World)(S:j4->Bool),h.SetOf (qp P w) a S n
section
variable {X:Cx}
theorem IY {ss:List Str}{us:List Value}(r:Vals (ss.map V.str) us):∀(i:Nat)(v:Value),us[i]?=some v->∃ x t,ss[i]?=some x/\v = .str x t:=by
 have key:∀(ss:List Str)(us:List Value),Vals (ss.map V.str) us->∀(i:Nat)(v:Value),us[i]?=some v->∃ x t,ss[i]?=some x/\v = .str x t:=by
  intro ss
  induction ss with
  |nil=>intro us r i v e;cases r;simp at e
  |cons s ss ih =>
   intro us r i v e;cases r with
   |cons p q =>
    cases i with
    |zero=>obtain ⟨t,rfl⟩:=p;simp at e;exact ⟨s,t,rfl,e.symm⟩
    |succ i=>exact ih _ q i v (by simpa using e)
 intro i v e;exact key ss us r i v e
theorem DP (hc:X.calm=true):CallR X (.type "set") (λxs H Q=>∃ (a:Addr) (ss:List Str),xs=[.ref a]/\SqL X.K H a (ss.map V.str)/\ss.length<=1000 /\ ∀ l,H l=none->Q (.ref l) (v9 H l (vG (s9 (λi=>(Sum.inr (ss.getD i ⟨#[]⟩):j4)) ss.length).length l))):=by
 intro pins s σ H xs us Q I r h;obtain ⟨a,ss,rfl,hq,hl,q⟩:=h;obtain ⟨u,rfl,ru⟩:=zq r;obtain rfl:u=Value.ref a:=ru;obtain ⟨its,rv,p,hz⟩:=I.list hq;have hn:its.length=ss.length:=by have e:=rv.length;rw [yZ] at e;exact e.symm
 refine DQ (knd:=qp X.prog X.w) (its:=its.toArray) (val:=λi=>(Sum.inr (ss.getD i ⟨#[]⟩):j4)) (I.ok.hd hc) p.isList (λi v e=>?_) (by rw [yX,hn];unfold scanBound;omega) λh' tk hS k=>?_
 ·obtain ⟨x,t,hx,rfl⟩:=IY rv i v (by simpa using e);rw [yC,hx];exact ⟨VV _ _ _ _,rfl⟩
 ·have e8:its.toArray.size=ss.length:=by rw [yX];exact hn
  rw [e8] at hS;refine ⟨.ref s.heap.objs.size,_,I.laid (t':=tk) k (yV _) (show ObjOk X.prog X.w _ h' _ (vG _ _) from ⟨⟨_,_,_,hS⟩,?_,?_⟩),rfl,q _ (I.hok.fresh (yV _))⟩
  ·obtain ⟨o,_,_,_,ho,_⟩:=hS;exact ⟨o,ho⟩
  ·rintro h1 h2 ⟨P,w,S,x⟩ e;exact ⟨P,w,S,YH x e⟩
theorem DI:CallR X (.builtin "len") (λxs H Q=>∃ (a:Addr) (n:Nat),xs=[.ref a]/\H a=some (vG n a)/\Q (.int n) H):=by
 intro pins s σ H xs us Q I r h;obtain ⟨a,n,rfl,hq,q⟩:=h;obtain ⟨u,rfl,ru⟩:=zq r;obtain rfl:u=Value.ref a:=ru;obtain ⟨⟨P,w,S,o,es,ep,t,ho,hex,hd,_,_,hb,hf,hn⟩,_⟩:=(show ObjOk X.prog X.w H s.heap a (vG n a) from I.hok a _ hq);subst hn;have h63:((es.size:Nat):Int)<2 ^ 63:=by unfold scanBound at hb;omega
 exact call_len_set ho hex hd hf h63 ⟨.int es.size,H,I.tok _,⟨_,rfl⟩,q⟩
end
end L2
namespace L2
open PySem PySem.Spec PySem.Calls PyProof.Rows
variable{ns:List Int}{f:Nat->Int}{K:Fg}{ss:List Str}{P:Program}{w:World}{vs:List Value}{A:Around}{E Q:Value->Shared->Prop}{s:Shared}
section
variable {X:Cx}
theorem Lg {its:List Value}(rv:Vals (ns.map V.int) its):∃ xs:Array (Int×Tok),its.toArray=intItems xs/\xs.size=ns.length/\∀ i,i<ns.length->numAt xs i=ns.getD i 0:=by
 have hi:=Ud rv;obtain ⟨xs,ex⟩:=hi.allInts.items;have hl:xs.size=ns.length:=by
  have e:its.toArray.size=xs.size:=by rw [ex];unfold intItems;rw [Array.size_map]
  have e2:=rv.length;rw [yZ] at e2;rw [yX] at e;omega
 refine ⟨xs,ex,hl,λi h=>?_⟩;have hx:i<xs.size:=by omega
 have e1:its.toArray[i]?=some (.int xs[i].1 xs[i].2):=by rw [ex];unfold intItems;rw [Array.getElem?_map,uq hx];rfl
 have e2:its[i]?=some (.int xs[i].1 xs[i].2):=by simpa using e1
 obtain ⟨t,e3⟩:=IntsAre.int_at hi i _ e2;injection e3 with e3 _;unfold numAt;rw [uq hx];exact e3
def Pd (K:Fg):List V->Hp->VK->Prop:=λxs H Q=>∃(a:Addr)(ns:List Int),xs=[.ref a]/\SqL K H a (ns.map V.int)/\ns≠[]/\∀ m,m∈ns->(∀ x∈ns,m<=x)->Q (.int m) H
theorem Dp {k:Nat}(hf:∀ i,i<ns.length->f i=ns.getD i 0)(hk:k<ns.length):f k∈ns:=by rw [hf k hk,yC,yY hk];exact yA hk
theorem Do {R:Int->Prop}(hf:∀ i,i<ns.length->f i=ns.getD i 0)(h:∀ j,j<ns.length->R (f j)):∀ x∈ns,R x:=by intro x hx;obtain ⟨j,hj,rfl⟩:=uL hx;have:=h j hj;rw [hf j hj,yC,yY hj] at this;exact this
theorem GP (hc:X.calm=true)(hK:X.K=K):CallR X (.builtin "min") (Pd K):=by subst hK;intro pins s σ H xs us Q I r h;obtain ⟨a,ns,rfl,hq,hne,q⟩:=h;obtain ⟨u,rfl,ru⟩:=zq r;obtain rfl:u=Value.ref a:=ru;obtain ⟨its,rv,p,hz⟩:=I.list hq;obtain ⟨ys,ey,el,en⟩:=Lg rv;have hl:s.heap.IsList a its.toArray:=p.isList;rw [ey] at hl;have hp:0<ns.length:=List.length_pos_iff.mpr hne;refine min_intList (I.ok.hd hc) hl (by omega) λv h' tk hv k=>?_;obtain ⟨t,rfl⟩:=intItems_at hv;obtain ⟨h1,h2⟩:=argBest_lt (numAt ys) (ys.size-1);exact ⟨.int _,H,I.kept (t':=tk) k,⟨t,rfl⟩,q _ (Dp en (by omega)) (Do en λj hj=>h2 j (by omega))⟩
def Zh (ss:List Str):Prop:=ss.Pairwise λx y=>¬ (y.cps.toList<x.cps.toList)
theorem Ca (h:sortedS ss=true):Zh ss:=by
 cases ss with
 |nil=>exact List.Pairwise.nil
 |cons x r =>
  have key:∀(l:List Str)(p:Str),risingS p l=true->(p::l).Pairwise λx y=>¬ (y.cps.toList<x.cps.toList):=by
   intro l
   induction l with
   |nil=>intro p _;exact List.pairwise_singleton _ _
   |cons y l ih =>
    intro p hp;have hp':(!ltCps y.cps.toList p.cps.toList&&risingS y l)=true:=hp;rw [yf] at hp';have i2:=ih y hp'.2;have hyp:¬ (y.cps.toList<p.cps.toList):=by have e:=hp'.1;rw [ltCps_eq] at e;simpa using e
    refine uI.mpr ⟨λz hz=>?_,i2⟩;rcases yH.mp hz with rfl|hz
    ·exact hyp
    ·have hzy:=(uI.mp i2).1 z hz;intro hlt;exact hyp (Std.lt_of_le_of_lt (Std.not_lt.mp hzy) hlt)
  exact key r x h
def Pi (K:Fg):List V->Hp->VK->Prop:=λxs H Q=>∃(a:Addr)(ss:List Str),xs=[.ref a]/\(SqL K H a (ss.map V.str)∨∃ kvs,Rd H a (.dK kvs)/\kvs.map (·.1)=ss.map Sum.inr)/\ss.length<64 /\
 ∀ l ss',H l=none->ss'.Perm ss->Zh ss'->Q (.ref l) (v9 H l (.lst (ss'.map V.str)))
theorem Cf:∀{ss:List Str}{us:List Value},Vals (ss.map V.str) us->StrsAre us ss
 |[],_,.nil=> .nil
 |x::_,_,.cons ⟨t,e⟩ r=>by subst e;exact .cons x t (Cf r)
theorem Ue:∀{us:List Value}{ss:List Str},StrsAre us ss->Vals (ss.map V.str) us
 |_,_,.nil=> .nil
 |_,_,.cons x t r=> .cons ⟨t,rfl⟩ (Ue r)
theorem LN:∀{kvs:List (j4×V)}{vs:List (j4×Value)}{ss:List Str},KV kvs vs->kvs.map (·.1)=ss.map Sum.inr->vs.map (·.1)=ss.map Sum.inr:=by
 intro kvs vs ss r e;rw [<- e];clear e
 induction r with
 |nil=>rfl
 |cons p _ ih=>rw [yO,yO,ih,p.1]
theorem Lv {vs:List (j4×Value)}{acc:Array Value}(e:vs.map (·.1)=ss.map Sum.inr)(h:ItemsOf (λi v=>∃ k x,vs[i]?=some (k,x)/\(qp P w).is k v=true) acc vs.length):StrsAre acc.toList ss:=by
 have hl:vs.length=ss.length:=by have:=congrArg List.length e;rwa [yZ,yZ] at this
 have h0:∀ v∈acc.toList,∃ x t,v = .str x t:=by
  intro v hv;obtain ⟨i,hi,rfl⟩:=uL hv;obtain ⟨k,x,hk,his⟩:=h.2 i acc.toList[i] (by simp at hi ⊢);have hk2:(vs.map (·.1))[i]?=some k:=by rw [yP,hk];rfl
  rw [e,yP] at hk2;obtain ⟨z,_,rfl⟩:=yM.mp hk2;cases hv2:acc.toList[i] with
  |str y t=>exact ⟨y,t,rfl⟩
  |_=>rw [hv2] at his;cases his
 have h1:=strsAre_map acc.toList h0;have e2:acc.toList.map strOf=ss:=by
  apply List.ext_getElem?;intro i;rw [yP];by_cases hi:i<acc.size
  ·obtain ⟨k,x,hk,his⟩:=h.2 i acc[i] (uq hi);have hk2:(vs.map (·.1))[i]?=some k:=by rw [yP,hk];rfl
   rw [e,yP] at hk2;obtain ⟨z,hz,rfl⟩:=yM.mp hk2;obtain ⟨y,t,hy⟩:=h0 acc[i] (by simp);rw [hy] at his;have:y=z:=by have q:vP (Sum.inr z) (.str y t)=true:=his;have q2:=KY y t;have q3:=(qp P w).inj (.str y t) (Sum.inr z) (Sum.inr y) his (VV P w y t);injection q3 with q3;exact q3.symm
   rw [hz,tW,uq hi,hy,<- this];rfl
  ·have h1:=h.1;rw [uU (by simp;omega),uU (by omega)];rfl
 rw [e2] at h1;exact h1
theorem Fi (hS:StrsAre vs ss)(h64:vs.length<64)(h:∀ (h':Heap) (out:List Value) (ss':List Str) (e:Nat),(∀ b o,s.heap.get? b=some o->h'.get? b=some o)->h'.get? s.heap.objs.size=some (seqObj "list" out.toArray e)->StrsAre out ss'->ss'.Perm ss->sortedS ss'=true->Q (.ref s.heap.objs.size) { s with heap:=h' }):wpAny (model P w) A (newList vs >>= λl=>holding [l] (call (.builtin "list.sort") [l]) >>= λ_=>pure l) Q E s:=by
 refine yR (wpAny_newList ?_);have ho:(s.heap.push (seqObj "list" vs.toArray 0)).get? s.heap.objs.size=some (seqObj "list" vs.toArray 0):=yD _ rfl;refine yR (wpAny_holding (wpAny_call_entry slot_list_sort (s:={ s with heap:=s.heap.push (seqObj "list" vs.toArray 0) }) ⟨_,ho,rfl⟩ entry_list_sort
  (list_sort_treeK strKind_oneLt (s:={ s with heap:=s.heap.push (seqObj "list" vs.toArray 0) }) ho hS.keysOf (λv1 v2 rest e=>keyKind_strs (by rw [<- e];exact hS)) h64 λst p1 p2=>⟨_,rfl,?_⟩) (args_list_sort _)))
 obtain ⟨ss',a1,a2,a3⟩:=sorted_out_str hS p1 p2;obtain ⟨e,he⟩:=sortedHeap_at (out:=(arrOf st).map (·.2)) ho;refine yx (h _ _ ss' e (λb o hb=>?_) (by rw [Array.toArray_toList];exact he) a1 a2 a3);have hlt:=yQ hb;rw [sortedHeap_old (yL hlt) (by rw [ux];exact Nat.lt_succ_of_lt hlt)];exact yT _ hb
theorem Sy (hS:StrsAre vs ss)(h64:vs.length<64)(h:∀ (h':Heap) (out:List Value) (ss':List Str) (e:Nat),(∀ b o,s.heap.get? b=some o->h'.get? b=some o)->h'.get? s.heap.objs.size=some (seqObj "list" out.toArray e)->StrsAre out ss'->ss'.Perm ss->sortedS ss'=true->Q (.ref s.heap.objs.size) { s with heap:=h' }):wpAny (model P w) A (newList vs >>= λl=>holding [l] (call (.builtin "list.sort") [l] []) >>= λ_=>ret l) (λfin s'=>∃ v,fin=PySem.Fin.done (.ret v)/\Q v s') E s:=by
 refine yR (wpAny_newList ?_);have ho:(s.heap.push (seqObj "list" vs.toArray 0)).get? s.heap.objs.size=some (seqObj "list" vs.toArray 0):=yD _ rfl;refine yR (wpAny_holding (wpAny_call_entry slot_list_sort (s:={ s with heap:=s.heap.push (seqObj "list" vs.toArray 0) }) ⟨_,ho,rfl⟩ entry_list_sort
  (list_sort_treeK strKind_oneLt (s:={ s with heap:=s.heap.push (seqObj "list" vs.toArray 0) }) ho hS.keysOf (λv1 v2 rest e=>keyKind_strs (by rw [<- e];exact hS)) h64 λst p1 p2=>⟨_,rfl,?_⟩) (args_list_sort _)))
 obtain ⟨ss',a1,a2,a3⟩:=sorted_out_str hS p1 p2;obtain ⟨e,he⟩:=sortedHeap_at (out:=(arrOf st).map (·.2)) ho;refine yx ⟨_,rfl,h _ _ ss' e (λb o hb=>?_) (by rw [Array.toArray_toList];exact he) a1 a2 a3⟩;have hlt:=yQ hb;rw [sortedHeap_old (yL hlt) (by rw [ux];exact Nat.lt_succ_of_lt hlt)];exact yT _ hb
theorem JV (hc:X.calm=true)(hK:X.K=K):CallR X (.builtin "sorted") (Pi K):=by
 subst hK;intro pins s σ H xs us Q I r h;obtain ⟨a,ss,rfl,hq,h64,q⟩:=h;obtain ⟨u,rfl,ru⟩:=zq r;obtain rfl:u=Value.ref a:=ru;rcases hq with hq|⟨kvs,hq,hk⟩
 ·obtain ⟨its,rv,p,hz⟩:=I.list hq;have hS:=Cf rv;have hl:its.length=ss.length:=by have e:=rv.length;rw [yZ] at e;exact e.symm
  refine sorted_strs p.isList hS (by omega) λout ss' a1 a2 a3=>?_;obtain ⟨e,he⟩:=sortedAll_at s.heap its out;refine ⟨.ref _,_,I.laid (t':=s.toks) (o:= .lst (ss'.map V.str)) (λb o hb=>sortedAll_old hb) (ul _) ?_,rfl,q _ ss' (I.hok.fresh (ul _)) a2 (Ca a3)⟩;exact ⟨by rw [yZ,a2.length_eq];exact uJ (XQ (by omega)),out.toList,e,Ue a1,by simpa [seqObj] using he⟩
 ·obtain ⟨z,hd,vs,rel,dd⟩:=vK I.hok hq;obtain ⟨ep,hat⟩:=dd.dictAt;have ek:=LN rel hk;have hvl:vs.length=ss.length:=by have:=congrArg List.length ek;rwa [yZ,yZ] at this
  refine Calls.call_function_entry (id:="sorted") kind_sorted plain_sorted entry_sorted (args_sorted1 _) ?_;unfold Builtin.«sorted»;refine yR (m:=checkCount "sorted" 1 1 _) (yx ?_);refine yR (PySem.W.kdu_collect (PySem.W.kdl_dict (knd:=qp X.prog X.w) (kvs:=vs) (ep:=ep) hd) (by simpa using I.ok.hd hc) hat (uJ (XQ (by omega))) λh1 tk acc k1 hacc=>?_);have hS:=Lv ek hacc;have hal:acc.toList.length=ss.length:=by have:=hacc.1;simp;omega
  refine Sy (s:={ s with heap:=h1,toks:=tk }) hS (by omega) λh' out ss' e k2 he a1 a2 a3=>?_;have I1:Inv X pins σ H { s with heap:=h1,toks:=tk }:=I.kept (t':=tk) k1;refine ⟨.ref _,_,I1.laid (t':=tk) (o:= .lst (ss'.map V.str)) k2 (yV _) ?_,rfl,q _ ss' (I1.hok.fresh (yV _)) a2 (Ca a3)⟩;exact ⟨by rw [yZ,a2.length_eq];exact uJ (XQ (by omega)),out,e,Ue a1,he⟩
end
end L2
namespace L2
open PySem PySem.Spec PySem.Calls
variable{a:Addr}{its:Array Value}{n:Nat}
section
variable {P:Program}{w:World}{A:Around}{E:Value->Shared->Prop}
theorem LY:typeLookup (.type "list") "keys"=pure none:=am_miss_of_fast (by kernel_rfl)
theorem LX:typeLookup (.type "list") "__getattr__"=pure none:=am_miss_of_fast (by kernel_rfl)
theorem MK {hp:Heap}{g:Array GenState}{d:Drawn}{tk:Nat}{os:_}{u:Tok}{Q:PySem.Fin->Shared->Prop}(ho:hp.get? a=some { cls:= .type "list",data:= .seq its n })(hh:A.handled=none)(h:∀ h' tk' e,Heap.NewAttrErr hp h' e (.ref a) "keys"->E (.ref e) ⟨h',g,d,tk',os⟩):wpAny (model P w) A (Builtin.«object.__getattribute__» ⟨[.ref a,.str "keys" u],[]⟩) Q E ⟨hp,g,d,tk,os⟩:=by
 have hT:(⟨hp,g,d,tk,os⟩:Shared).TypeIs (.ref a) "list":=⟨_,ho,rfl⟩;have f0:=LY;unfold Builtin.«object.__getattribute__»
 (repeat (any_goals (first|assumption|wp_step)))
 exact wpAny_raiseAttrError (s:=⟨hp,g,d,tk,os⟩) hh h (attrMsg_fits (by decide +kernel) (by decide +kernel))
theorem Dj {s:Shared}{Q:Option Value->Shared->Prop}(ho:s.heap.get? a=some { cls:= .type "list",data:= .seq its n })(hh:A.handled=none)(h:∀ h' tk,(∀ b o,s.heap.get? b=some o->h'.get? b=some o)->Q none { s with heap:=h',toks:=tk }):wpAny (model P w) A (getAttr? (.ref a) "keys") Q E s:=by
 obtain ⟨hp,g,d,tk,os⟩:=s;have hT:∀ t',(⟨hp,g,d,t',os⟩:Shared).TypeIs (.ref a) "list":=λ_=>⟨_,ho,rfl⟩;have f1:=sub_AttributeError;have f2:=PySem.F.slot_list_getattribute.lookup;have f3:=PySem.F.slot_list_getattribute.bind (.ref a);have f5:=LX;unfold getAttr? getAttrBy? getAttrBy
 (repeat (any_goals (first|assumption|exact hT _|wp_step)))
 refine codeAny_call_builtin PySem.F.slot_list_getattribute.plain PySem.F.entry_list_ga (PySem.F.slot_list_getattribute.check _ _ _ _ _ _ _ _ (hT _) (PySem.F.args_list_getattribute_2 _ _) (MK ho (by simpa using hh) λh' tk' e hx=>?_));obtain ⟨t',u',he⟩:=hx.there;have hk:=hx.keeps;show wpAny _ _ (getattributeRaised _ _ _ _ _ _ _) _ _ _;unfold getattributeRaised
 (repeat (any_goals (first|assumption|wp_step)))
 exact h _ _ hk
end
end L2
namespace L2
open PySem PySem.Spec PySem.Calls PyProof.Rows
variable{A:Around}{s:Shared}{H:Hp}{kvs:List (j4×V)}{P:Program}{w:World}{o:Obj}{es:Array DictEntry}{ep:Nat}{K:Fg}
section
variable {X:Cx}
def Pe:R2:=λx y H Q=>∃ b c,x = .bl b/\y = .bl c/\Q (.bl (!decide (b=c))) H
theorem HS:OpR X (compareOp .IsNot) Pe:=by intro pins s σ H x y v u Q I rx ry h;obtain ⟨b,c,rfl,rfl,q⟩:=h;cases rx;cases ry;refine wpAny_isNot_plain rfl (ZG I q ?_);cases b<;>cases c<;>rfl
end
theorem DA:bootBuiltins "set"=some (.type "set"):=by decide +kernel
section
variable {P:Program}{w:World}{κ:Type}[DecidableEq κ]{knd:PySem.KeyKind P w κ}
theorem Kq:entryFor table "dict.update.loop"=some Builtin.«dict.update.loop»:=entryFor_of_tree (by kernel_rfl)
theorem Jp:plainId "dict.update.loop"=true:=by decide +kernel
theorem Mh {R:Result->Shared->Prop}{I:Addr}{fp wr:List Addr}{Pp:Nat->Value->Prop}{St:Nat->Heap->Prop}{more:List (κ×Value)}{lo:Addr}(W:Walks P w A.in1 I fp wr more.length Pp St)(d:Addr)(hdf:d∉fp)(hlo:lo<=d)(hwr:∀ b∈wr,lo<=b)(hsz:more.length<=sizeLine):∀ (m i:Nat) (z:Int) (tk:Tok) (s:Shared),more.length-i=m->i<=more.length->St i s.heap->s.heap.DictOf knd d (merged [] (more.take i)) -> (∀ j v kv,Pp j v->more[j]?=some kv->∃ t k,t<lo/\v = .ref t/\knd.is kv.1 k=true/\IsTup s.heap t #[k,kv.2]) -> (∀ h' tk',(∀ b o,b<lo->s.heap.get? b=some o->h'.get? b=some o)->h'.DictOf knd d (merged [] more)->R (.ok (.ret .none)) { s with heap:=h',toks:=tk' }) -> codeAny (model P w) A (.builtin "dict.update.loop" ⟨[.ref d,.ref I,.int z tk,.none],[]⟩) R s:=by
 have hdw:d∉wr:=λq=>hdf (W.sub _ q);intro m
 induction m with
 |zero =>
  intro i z tk s hm hi st hd hp hR;have hin:i=more.length:=by omega
  subst hin;refine codeAny_builtin Kq ?_;rw [Around.under_plainId Jp _];show wpAny _ A.in1 (pyNext (.ref I) >>= _) _ _ s;refine yR (W.done s _ _ st λh' tk' k=>?_);show wpAny _ A.in1 (Builtin.Dict.addKeywords d [] >>= _) _ _ _;refine yR (yx ?_);refine yx (hR h' tk' (λb o hb e=>k b o (λq=>absurd (hwr b q) (Nat.not_le.mpr hb)) e) ?_);rw [tS] at hd;obtain ⟨o,es,ep,ho,r⟩:=hd;exact ⟨o,es,ep,k d o hdw ho,r⟩
 |succ m ih =>
  intro i z tk s hm hi st hd hp hR;have hlt:i<more.length:=by omega
  refine codeAny_builtin Kq ?_;rw [Around.under_plainId Jp _];show wpAny _ A.in1 (pyNext (.ref I) >>= _) _ _ s;refine yR (W.item i s _ _ hlt st λv h' tk' hPv st' k=>?_);obtain ⟨t,kk,ht,rfl,hk,o,ho,hc,n,hdt⟩:=hp i v more[i] hPv (yY hlt);have ho':h'.get? t=some o:=k t o (λq=>absurd (hwr t q) (Nat.not_le.mpr ht)) ho;have hd':h'.DictOf knd d (merged [] (more.take i)):=by obtain ⟨o,es,ep,ho,r⟩:=hd;exact ⟨o,es,ep,k d o hdw ho,r⟩
  have hT:Shared.TypeIs { s with heap:=h',toks:=tk' } (.ref t) "tuple":=⟨o,ho',hc⟩;show wpAny _ A.in1 (holding [.ref t] _ >>= _) _ _ _;refine yR (wpAny_holding (yR (wpAny_tryCatch ?_)));unfold Builtin.Dict.pairItems;refine yR (wpAny_typeOf hT ?_);rw [if_pos (by decide)];refine yR (wpAny_seqItems ho' hdt (yx ?_));show wpAny _ A.in1 (holding [kk,more[i].2] (dictSet d kk more[i].2)) _ _ _;refine wpAny_holding (wpAny_dictSet_pairs (knd:=knd) hk hd' (λh2 hd2 sb=>?_) ?_)
  ·rw [<- merged_take_succ [] more i more[i] (yY hlt)] at hd2;have keep2:∀ b o,b<lo->s.heap.get? b=some o->h2.get? b=some o:=λb o hb e=>by
    rw [sb.2 b (yL (yE hb hlo))];exact k b o (λq=>absurd (hwr b q) (Nat.not_le.mpr hb)) e
   refine yx ⟨plainId_quiet Jp _,ih (i+1) _ _ _ (by omega) hlt (W.frame _ _ _ st' λb hb o e=>?_) hd2 (λj v kv hv hj=>?_) λh3 tk3 k3 hd3=>?_⟩
   ·rw [sb.2 b (λq=>hdf (by rw [<- q];exact hb))];exact e
   ·obtain ⟨t,kk,ht,rfl,hk,o,ho,r⟩:=hp j v kv hv hj;exact ⟨t,kk,ht,rfl,hk,o,keep2 t o ht ho,r⟩
   ·exact hR h3 tk3 (λb o hb e=>k3 b o hb (keep2 b o hb e)) hd3
  ·have:=merged_length_le [] (more.take i);rw [uW,List.length_nil] at this;omega
theorem DE {E:Value->Shared->Prop}{l:Addr}{its:Array Value}{n:Nat}{more:List (κ×Value)}{Q:Value->Shared->Prop}(hh:A.handled=none)(ho:s.heap.get? l=some { cls:= .type "list",data:= .seq its n })(hlen:its.size=more.length)(hsz:more.length<=sizeLine)(hp:∀ (j:Nat) (v:Value) (kv:κ×Value),its[j]?=some v->more[j]?=some kv->∃ t k,v = .ref t/\knd.is kv.1 k=true/\IsTup s.heap t #[k,kv.2])(h:∀ h' tk',(∀ b o,s.heap.get? b=some o->h'.get? b=some o)->h'.DictOf knd s.heap.objs.size (merged [] more)->Q (.ref s.heap.objs.size) { s with heap:=h',toks:=tk' }):wpAny (model P w) A (call (.type "dict") [.ref l]) Q E s:=by
 refine callType_codes (Q₁:=λob s1=>ob = .ref s.heap.objs.size/\s1={ s with heap:=s.heap.push { cls:= .type "dict",data:= .dict #[] } }) PySem.F.kt_called_dict (PySem.F.kt_typeCall_dict_1 _) PySem.F.entry_dict_init (kt_code_dict_new _ ⟨rfl,rfl⟩) ?_;rintro ob s1 ⟨rfl,rfl⟩;have hnew:(s.heap.push { cls:= .type "dict",data:= .dict #[] }).DictOf knd s.heap.objs.size []:=Heap.DictOf.new s.heap;have ho':(s.heap.push { cls:= .type "dict",data:= .dict #[] }).get? l=some { cls:= .type "list",data:= .seq its n }:=yT _ ho;have hTl:Shared.TypeIs { s with heap:=s.heap.push { cls:= .type "dict",data:= .dict #[] } } (.ref l) "list":=⟨_,ho',rfl⟩;have hlt:l<s.heap.objs.size:=yQ ho;refine ⟨hnew.typeIs,PySem.F.args_dict_init_2 _ _,?_⟩;unfold Builtin.«dict.__init__»;refine yR ?_;unfold Builtin.Dict.selfAndRest;refine yR (wpAny_notOrdered_dict hnew.typeIs ?_);show wpAny _ _ (pure (s.heap.objs.size,[Value.ref l])) _ _ _;refine yx ?_;show wpAny _ _ (Builtin.Dict.updateFrom "dict.__init__" s.heap.objs.size (.ref l) [] .none) _ _ _;unfold Builtin.Dict.updateFrom;refine yR (wpAny_typeOf hTl ?_);rw [if_pos (by decide)];refine yR (Dj ho' (by simpa using hh) λh1 tk1 k1=>?_);rw [if_pos (show (none:Option Value).isNone=true from rfl)];refine yR (wpAny_rule ?_);have ho1:=k1 _ _ ho';have hl1:h1.IsList l its:=⟨_,ho1,rfl,n,rfl⟩;refine yR (wpAny_pyIter_list (s:={ s with heap:=h1,toks:=tk1 }) hl1 ?_);have hd1:h1.DictOf knd s.heap.objs.size []:=by obtain ⟨o,es,ep,hq,r⟩:=hnew;exact ⟨o,es,ep,k1 _ _ hq,r⟩
 have hdlt:s.heap.objs.size<h1.objs.size:=by obtain ⟨o,es,ep,hq,r⟩:=hd1;exact yQ hq
 have hll:l<h1.objs.size:=yQ ho1;refine yx ⟨plainId_quiet Jp _,?_⟩;have W:=Walks.list (prog:=P) (w:=w) (A:=A.in1.in1) (by simpa using hh) h1.objs.size l (yL hll) its;rw [hlen] at W;refine Mh (knd:=knd) (lo:=s.heap.objs.size) W s.heap.objs.size ?_ (yV _) (λb hb=>?_) hsz more.length 0 _ _ { s with heap:=h1.push { cls:= .type "list_iterator",data:= .fields #[.ref l,.int 0 0] },toks:=tk1 } (by omega) (uY _) ⟨⟨_,yD _ rfl,rfl,rfl⟩,hl1.push _⟩ ?_ (λj v kv hv hj=>?_) λh' tk' kp hd=>?_
 ·simp only [yH,ye,or_false,not_or];exact ⟨yL hdlt,tY hlt⟩
 ·rw [yJ.mp hb];exact uJ hdlt
 ·obtain ⟨o,es,ep,hq,r⟩:=hd1;exact ⟨o,es,ep,yT _ hq,r⟩
 ·obtain ⟨t,k,rfl,hk,o,hto,r⟩:=hp j v kv hv hj;exact ⟨t,k,yQ hto,rfl,hk,o,yT _ (k1 _ _ (yT _ hto)),r⟩
 ·exact ⟨rfl,h h' tk' (λb o e=>kp b o (yQ e) (yT _ (k1 _ _ (yT _ e)))) hd⟩
end
section
variable {X:Cx}
theorem HY {pins:List (Addr×Obj)}{σ:St}(I:Inv X pins σ H s){ts:List Addr}(r:Paired (λt (kv:j4×V)=>H t=some (.tup [kV kv.1,kv.2])) ts kvs):∃ more:List (j4×Value),KV kvs more/\∀(j:Nat)(t:Addr)(m:j4×Value),ts[j]?=some t->more[j]?=some m->∃ k,(qp X.prog X.w).is m.1 k=true/\IsTup s.heap t #[k,m.2]:=by
 induction r with
 |nil=>exact ⟨[],.nil,λj t m h=>by simp at h⟩
 |@cons t kv ts kvs p _ ih =>
  obtain ⟨more,k1,k2⟩:=ih;obtain ⟨_,its,rv,ht⟩:=(show ObjOk X.prog X.w H s.heap t (.tup [kV kv.1,kv.2]) from I.hok t _ p);cases rv with
  |cons p1 r1 =>
   cases r1 with
   |cons p2 r2 =>
    cases r2;rename_i u1 u2;refine ⟨(kv.1,u2)::more,.cons ⟨rfl,p2⟩ k1,λj t' m h1 h2=>?_⟩;cases j with
    |zero=>simp at h1 h2;subst h1 h2;exact ⟨u1,Qg p1,ht⟩
    |succ j=>exact k2 j t' m (by simpa using h1) (by simpa using h2)
theorem CK:∀{ts:List Addr}{us:List Value},Vals (ts.map V.ref) us->us=ts.map Value.ref
 |[],_,.nil=>rfl
 |t::ts,_,.cons p r=>by
  obtain rfl:=(show _=Value.ref t from p);rw [CK r];rfl
theorem Uk:∀{kvs:List (j4×V)}{vs:List (j4×Value)},KV kvs vs->vs.map (·.1)=kvs.map (·.1)
 |[],_,.nil=>rfl
 |_::_,_,.cons p r=>by rw [yO,yO,Uk r,p.1]
end
theorem Uj:∀{kvs:List (j4×V)}{vs:List (j4×Value)}{i:Nat}{k:j4}{x:V},KV kvs vs->kvs[i]?=some (k,x)->∃ u,vs[i]?=some (k,u)/\RelV x u
 |[],_,i,_,_,_,e=>by simp at e
 |_::_,_,0,k,x,.cons (b:=q) p _,e=>by
  simp at e;subst e;refine ⟨q.2,?_,p.2⟩;have e1:k=q.1:=p.1;rw [e1];rfl
 |_::_,_,i+1,k,x,.cons _ r,e=>by
  obtain ⟨u,h1,h2⟩:=Uj (i:=i) (k:=k) (x:=x) r (by simpa using e);exact ⟨u,by simpa using h1,h2⟩
def Itv (a:Addr)(o:Obj)(kvs:List (j4×V)):It :=
 ⟨λi H=>H a=some (.frz o (.dK kvs))/\i<kvs.length,λi H x H'=>H'=H/\∃ k,kvs[i]?=some (k,x),λi H=>H a=some (.frz o (.dK kvs))/\kvs.length<=i⟩
theorem ZI {h:Heap}{a:Addr}(ok:HOk P w H h)(e:H a=some (.frz o (.dK kvs)))(hd:o.data = .dict es ep):(a==sysModules)=false/\∃ vs,KV kvs vs/\h.DictAt (qp P w) a vs ep:=by obtain ⟨h1,h2,h3,vs,r,o',es',ep',h4,h5,h6,h7⟩:=(show ObjOk P w H h a (.frz o (.dK kvs)) from ok a _ e);rw [h1] at h4;cases h4;rw [hd] at h6;cases h6;exact ⟨h3,vs,r,o,es,h1,h5,hd,h7⟩
theorem SO {tg:Expr}(a it:Addr)(kvs:List (j4×V))(hd:o.data = .dict es ep):Turn P w K tg (Itv a o kvs) [it] it (λi h=>h.IsValIter it a i kvs.length ep) where
 mem:=by simp
 obj:=λi h st b hb=>by
  have e:b=it:=by simpa using hb
  subst e;obtain ⟨o,e,c,d⟩:=st;exact ⟨o,e,λv z=>by rw [d] at z;cases z⟩
 keep:=λi h h' st k=>by
  obtain ⟨o,e,c,d⟩:=st;exact ⟨o,k it (by simp) o e,c,d⟩
 item:=by
  intro X hP hw hK hc i pins s σ H E I hf st hg;subst hP hw hK;obtain ⟨hq,hl⟩:=hg;obtain ⟨_,vs,r,hm⟩:=ZI I.hok hq hd;have lv:vs.length=kvs.length:=(KV.length r).symm;obtain ⟨u,hu,ru⟩:=Uj (i:=i) (k:=kvs[i].1) (x:=kvs[i].2) r (yY hl);obtain ⟨f0,f1,f2,f3,f4,f5⟩:=hf it (by simp);have st1:s.heap.IsValIter it a i vs.length ep:=by rw [lv];exact st
  refine wpAny_pyNext_values_item st1 hm hu λh' st' sb=>?_;have I1:Inv X pins σ H { s with heap:=h' }:=I.turned (t':=s.toks) (λb o hb e=>(sb.2 b hb).trans e) f0 f1 f3 f4 f5;rw [lv] at st';obtain ⟨o1,e1,c1,d1⟩:=id st';exact ⟨u,rfl,QZ (s:={ s with heap:=h' }) e1 c1 d1 (by decide) ⟨kvs[i].2,H,I1,ru,⟨rfl,kvs[i].1,yY hl⟩,st',λb hb=>(hf b hb).1⟩⟩
 done:=by
  intro X hP hw hK hc i pins s σ H E I hf st hg;subst hP hw hK;obtain ⟨hq,hl⟩:=hg;obtain ⟨_,vs,r,hm⟩:=ZI I.hok hq hd;have lv:vs.length=kvs.length:=(KV.length r).symm;obtain ⟨f0,f1,f2,f3,f4,f5⟩:=hf it (by simp);have st1:s.heap.IsValIter it a i vs.length ep:=by rw [lv];exact st
  exact wpAny_pyNext_values_end (I.ok.hd hc) st1 hm (uU (by omega)) λh' eb=>⟨rfl,I.turned (t':=s.toks) (λb o hb e=>eb b o hb e) f0 f1 f3 f4 f5⟩
 self:=λ_ _ _ _ _ st h=>wpAny_pyIter_valiter st h
section
variable {X:Cx}{tg:Expr}
def KI (td:TE):TI:=λσ H R=>td σ H λx H1=>∃ a o kvs,x = .ref a/\H1 a=some (.frz o (.dK kvs))/\R (Itv a o kvs) H1
theorem Rx {d:Expr}{td:TE}{apos cpos:Pos}(ho:PE X d td)(hbase:attributeBase d "values" X.env (eval d X.env)=eval d X.env:=by rfl)(hline:(apos.endLine==cpos.line)=true:=by rfl):PI X tg (.Call (.Attribute d "values" apos) [] [] cpos) (KI td):=by
 intro pins s σ H R I h;refine wpAny_Call_method0_late hbase hline (j6 (ho pins s σ H _ I h) λv s1 ⟨x,H1,I1,r1,q1⟩=>?_);obtain ⟨a,o,kvs,e,hq,q⟩:=q1;subst e;cases r1;obtain ⟨g1,g2,g3,ws,rw',o',es,ep,g4,g5,g6,g7⟩:=(show ObjOk X.prog X.w H1 s1.heap a (.frz o (.dK kvs)) from I1.hok a _ hq);rw [g1] at g4;cases g4;obtain ⟨hs,vs,r,hm⟩:=ZI I1.hok hq g6;have lv:vs.length=kvs.length:=(KV.length r).symm;refine ⟨"dict","dict.values",PySem.F.plainAttrs_dict,PySem.F.slot_dict_values,PySem.F.type_dict_values,hm.dictOf.typeIs,λb e=>?_,Calls.callWith_builtin rfl (PySem.evalArgs_none ?_)⟩
 ·cases e;exact ⟨o,g1,g5.2.1⟩
 refine call_meetsIn PySem.F.slot_dict_values hm.dictOf.typeIs PySem.F.entry_dict_values (PySem.F.args_dict_values_1 _) (meets_dict_values (qp X.prog X.w) a hs) ⟨⟨vs,hm.dictOf⟩,?_⟩;have I2:Inv X pins σ H1 { s1 with heap:=s1.heap.push { cls:= .type "dict_values",data:= .fields #[.ref a] } }:=I1.kept (t':=s1.toks) λb o e=>yT _ e;obtain ⟨_,vs2,r2,hm2⟩:=ZI I2.hok hq g6;have lv2:vs2.length=kvs.length:=(KV.length r2).symm;refine wpAny_pyIter_values (knd:=qp X.prog X.w) (kvs:=vs2) ⟨_,yD _ rfl,rfl,rfl⟩ hm2 ?_;refine ⟨_,[_],_,Itv a o kvs,H1,rfl,I2.kept (t':=s1.toks) λb o e=>yT _ e,SO a _ kvs g6,⟨_,yD _ rfl,rfl,?_⟩,λb hb=>?_,q⟩
 ·rw [lv2];rfl
 have e:b=(s1.heap.push { cls:= .type "dict_values",data:= .fields #[.ref a] }).objs.size:=by simpa using hb
 subst e;exact I2.fpOk (yV _) (I2.hok.fresh (yV _))
def BZ:List V->Hp->VK->Prop:=λxs H Q=>∃(a:Addr)(ts:List Addr)(kvs:List (j4×V)),xs=[.ref a]/\H a=some (.lst (ts.map V.ref))/\Paired (λt (kv:j4×V)=>H t=some (.tup [kV kv.1,kv.2])) ts kvs/\(kvs.map (·.1)).Nodup/\kvs.length<=1000 /\
  ∀ l o,H l=none->Q (.ref l) (v9 H l (.frz o (.dK kvs)))
theorem JU (hc:X.calm=true)(_:X.K=K):CallR X (.type "dict") BZ:=by
 intro pins s σ H xs us Q I r h;obtain ⟨a,ts,kvs,rfl,hq,hp,hn,h1000,q⟩:=h;obtain ⟨u,rfl,ru⟩:=zq r;obtain rfl:u=Value.ref a:=ru;obtain ⟨hz,its,n,rv,ho⟩:=(show ObjOk X.prog X.w H s.heap a (.lst (ts.map V.ref)) from I.hok a _ hq);have ei:=CK rv;obtain ⟨more,k1,k2⟩:=HY I hp;have lk:more.length=kvs.length:=k1.length.symm;have lt:=hp.length;have hsl:more.length<=sizeLine:=uJ (XQ (by omega));refine DE (knd:=qp X.prog X.w) (more:=more) (I.ok.hd hc) ho (by rw [yX,ei,yZ];omega) hsl (λj v m hv hm=>?_) λh' tk k hd=>?_
 ·have hv':its[j]?=some v:=by simpa using hv
  rw [ei,yP] at hv';obtain ⟨t,ht,rfl⟩:=yM.mp hv';obtain ⟨kk,x1,x2⟩:=k2 j t m ht hm;exact ⟨t,kk,rfl,x1,x2⟩
 ·rw [merged_nil_of_nodup more (by rw [Uk k1];exact hn)] at hd;obtain ⟨o,es,ep,ho',_⟩:=id hd;refine ⟨.ref s.heap.objs.size,_,I.laid (t':=tk) (o:= .frz o (.dK kvs)) k (yV _) ⟨ho',Kn (by omega) (beq_eq_false_iff_ne.mpr (Ne.symm (yL I.big))) k1 hd⟩,rfl,q _ _ (I.hok.fresh (yV _))⟩
end
end L2
namespace Mi
open PySem L2
variable{H H' H0 Hb Hs Hs' Hs0:Hp}{u v:V}{ks:List j4}{C p:Addr}{ns:List Str}{vs:List V}{o:HO}{σ σ':St}{tb te:TE}{r:R2}{ta:TA}{n:Nat}{K:Fg}{t:TT}{E:XK}{nm:Str}{ts:List Nat}{tg:TG}{lo:Int}{wi:TI}
inductive PV where
 |at (v:V)|tup (xs:List PV)|lst (xs:List PV)|dk (ks:List j4) (xs:List PV)|fk (ks:List j4) (xs:List PV)|ob (C:Addr) (ns:List Str) (xs:List PV)|op (φ:Hp->V->Prop)
variable{xs:List PV}{x y:PV}{m:List PV->Option PV}
mutual
def Rep (H:Hp):PV->V->Prop
 | .at u,v=>v=u
 | .tup xs,v=>∃ a vs,v = .ref a/\H a=some (.tup vs)/\Reps H xs vs
 | .lst xs,v=>∃ a vs,v = .ref a/\H a=some (.lst vs)/\Reps H xs vs
 | .dk ks xs,v=>∃ a kvs,v = .ref a/\H a=some (.dK kvs)/\kvs.map (·.1)=ks/\Reps H xs (kvs.map (·.2))
 | .fk ks xs,v=>∃ a o kvs,v = .ref a/\H a=some (.frz o (.dK kvs))/\kvs.map (·.1)=ks/\Reps H xs (kvs.map (·.2))
 | .ob C ns xs,v=>∃ a dx fs,v = .ref a/\H a=some (.ins C dx fs)/\fs.map (·.1)=ns/\Reps H xs (fs.map (·.2))
 | .op φ,v=>∃ H',Same H' H/\φ H' v
def Reps (H:Hp):List PV->List V->Prop
 |[],vs=>vs=[]
 |x::xs,vs=>∃ v r,vs=v::r/\Rep H x v/\Reps H xs r
end
mutual
theorem Rep.mono {H H':Hp}(g:Same H H'):∀{x:PV}{v:V},Rep H x v->Rep H' x v
 | .at u,v,h=>by unfold Rep at h ⊢;exact h
 | .tup xs,v,h=>by unfold Rep at h ⊢;obtain ⟨a,vs,e,p,r⟩:=h;exact ⟨a,vs,e,g _ _ p,Reps.mono g r⟩
 | .lst xs,v,h=>by unfold Rep at h ⊢;obtain ⟨a,vs,e,p,r⟩:=h;exact ⟨a,vs,e,g _ _ p,Reps.mono g r⟩
 | .dk ks xs,v,h=>by unfold Rep at h ⊢;obtain ⟨a,vs,e,p,q,r⟩:=h;exact ⟨a,vs,e,g _ _ p,q,Reps.mono g r⟩
 | .fk ks xs,v,h=>by unfold Rep at h ⊢;obtain ⟨a,o,vs,e,p,q,r⟩:=h;exact ⟨a,o,vs,e,g _ _ p,q,Reps.mono g r⟩
 | .ob C ns xs,v,h=>by unfold Rep at h ⊢;obtain ⟨a,dx,vs,e,p,q,r⟩:=h;exact ⟨a,dx,vs,e,g _ _ p,q,Reps.mono g r⟩
 | .op φ,v,h=>by unfold Rep at h ⊢;obtain ⟨H1,s,p⟩:=h;exact ⟨H1,s.trans g,p⟩
theorem Reps.mono {H H':Hp}(g:Same H H'):∀{xs:List PV}{vs:List V},Reps H xs vs->Reps H' xs vs
 |[],vs,h=>by unfold Reps at h ⊢;exact h
 |x::xs,vs,h=>by unfold Reps at h ⊢;obtain ⟨v,r,e,p,q⟩:=h;exact ⟨v,r,e,Rep.mono g p,Reps.mono g q⟩
end
theorem rep_at :Rep H (.at u) v↔v=u:=by unfold Rep;exact Iff.rfl
theorem rep_tup :Rep H (.tup xs) v↔∃ a vs,v = .ref a/\H a=some (.tup vs)/\Reps H xs vs:=by unfold Rep;exact Iff.rfl
theorem rep_lst :Rep H (.lst xs) v↔∃ a vs,v = .ref a/\H a=some (.lst vs)/\Reps H xs vs:=by unfold Rep;exact Iff.rfl
theorem rep_dk :Rep H (.dk ks xs) v↔∃ a kvs,v = .ref a/\H a=some (.dK kvs)/\kvs.map (·.1)=ks/\Reps H xs (kvs.map (·.2)):=by unfold Rep;exact Iff.rfl
theorem rep_fk :Rep H (.fk ks xs) v↔∃ a o kvs,v = .ref a/\H a=some (.frz o (.dK kvs))/\kvs.map (·.1)=ks/\Reps H xs (kvs.map (·.2)):=by unfold Rep;exact Iff.rfl
theorem rep_ob :Rep H (.ob C ns xs) v↔∃ a dx fs,v = .ref a/\H a=some (.ins C dx fs)/\fs.map (·.1)=ns/\Reps H xs (fs.map (·.2)):=by unfold Rep;exact Iff.rfl
theorem rep_op {φ:Hp->V->Prop}:Rep H (.op φ) v↔∃ H',Same H' H/\φ H' v:=by unfold Rep;exact Iff.rfl
theorem reps_nil :Reps H [] vs↔vs=[]:=by unfold Reps;exact Iff.rfl
theorem reps_cons :Reps H (x::xs) vs↔∃ v r,vs=v::r/\Rep H x v/\Reps H xs r:=by
 constructor
 ·intro h;unfold Reps at h;exact h
 ·intro h;unfold Reps;exact h
theorem Reps.nil :Reps H [] []:=reps_nil.mpr rfl
theorem Reps.cons {H:Hp}{x:PV}{v:V}{xs:List PV}{vs:List V}(p:Rep H x v)(q:Reps H xs vs):Reps H (x::xs) (v::vs):=reps_cons.mpr ⟨v,vs,rfl,p,q⟩
theorem Reps.length {H:Hp}:∀{xs:List PV}{vs:List V},Reps H xs vs->vs.length=xs.length
 |[],vs,h=>by rw [reps_nil.mp h];rfl
 |x::xs,vs,h=>by obtain ⟨v,r,rfl,_,q⟩:=reps_cons.mp h;rw [yF,yF,Reps.length q]
theorem Reps.append {H:Hp}:∀{xs ys:List PV}{vs ws:List V},Reps H xs vs->Reps H ys ws->Reps H (xs++ys) (vs++ws)
 |[],ys,vs,ws,h,k=>by rw [reps_nil.mp h];exact k
 |x::xs,ys,vs,ws,h,k=>by obtain ⟨v,r,rfl,p,q⟩:=reps_cons.mp h;exact .cons p (Reps.append q k)
theorem Reps.one (p:Rep H x v):Reps H [x] [v]:= .cons p .nil
theorem Reps.get {H:Hp}:∀{xs:List PV}{vs:List V}{i:Nat}{x:PV},Reps H xs vs->xs[i]?=some x->∃ v,vs[i]?=some v/\Rep H x v
 |[],_,i,x,_,e=>by simp at e
 |y::xs,vs,0,x,h,e=>by
  obtain ⟨v,r,rfl,p,q⟩:=reps_cons.mp h;simp at e;subst e;exact ⟨v,rfl,p⟩
 |y::xs,vs,i+1,x,h,e=>by
  obtain ⟨v,r,rfl,p,q⟩:=reps_cons.mp h;obtain ⟨w,e1,e2⟩:=Reps.get (i:=i) (x:=x) q (by simpa using e);exact ⟨w,by simpa using e1,e2⟩
theorem Reps.take {H:Hp}:∀(n:Nat){xs:List PV}{vs:List V},Reps H xs vs->Reps H (xs.take n) (vs.take n)
 |0,_,_,_=>by rw [List.take_zero,List.take_zero];exact .nil
 |n+1,[],vs,h=>by rw [reps_nil.mp h];exact .nil
 |n+1,x::xs,vs,h=>by
  obtain ⟨v,r,rfl,p,q⟩:=reps_cons.mp h;exact .cons p (Reps.take n q)
theorem Reps.drop {H:Hp}:∀(n:Nat){xs:List PV}{vs:List V},Reps H xs vs->Reps H (xs.drop n) (vs.drop n)
 |0,_,_,h=>h
 |n+1,[],vs,h=>by rw [reps_nil.mp h];exact .nil
 |n+1,x::xs,vs,h=>by
  obtain ⟨v,r,rfl,p,q⟩:=reps_cons.mp h;exact Reps.drop n q
theorem Reps.ats {H:Hp}:∀{us vs:List V},Reps H (us.map .at) vs->vs=us
 |[],vs,h=>reps_nil.mp h
 |u::us,vs,h=>by
  obtain ⟨v,r,rfl,p,q⟩:=reps_cons.mp h;rw [rep_at.mp p,Reps.ats q]
theorem Reps.ofAts {H:Hp}:∀(us:List V),Reps H (us.map .at) us
 |[]=> .nil
 |u::us=> .cons (rep_at.mpr rfl) (Reps.ofAts us)
structure Ext (Hs H Hs' H':Hp):Prop where
 s1:Same Hs Hs'
 s2:Same H H'
 s3:Same Hs' H'
 s4:∀ b,H b≠none->Hs b=none->Hs' b=none
theorem PX (g:Same H H'){b:Addr}(h:H b≠none):H' b≠none:=λz=>h (g.free z)
theorem Ext.refl (s:Same Hs H):Ext Hs H Hs H:=⟨.refl _,.refl _,s,λ_ _ z=>z⟩
theorem Ext.trans {A B A1 B1 A2 B2:Hp}(x:Ext A B A1 B1)(y:Ext A1 B1 A2 B2):Ext A B A2 B2:=⟨x.s1.trans y.s1,x.s2.trans y.s2,y.s3,λb h z=>y.s4 b (PX x.s2 h) (x.s4 b h z)⟩
theorem Ext.new (s:Same Hs H)(h:H p=none):Ext Hs H (v9 Hs p o) (v9 H p o):=by
 have hs:Hs p=none:=s.free h;refine ⟨λb u e=>?_,λb u e=>?_,λb u e=>?_,λb e z=>?_⟩
 ·rw [j9 (g8 e hs)];exact e
 ·rw [j9 (g8 e h)];exact e
 ·by_cases hb:b=p
  ·subst hb;rw [g0] at e ⊢;exact e
  ·rw [j9 hb] at e ⊢;exact s _ _ e
 ·have hb:b≠p:=λq=>e (by rw [q];exact h);rw [j9 hb];exact z
theorem Ext.newO (s:Same Hs H)(h:H p=none):Ext Hs H Hs (v9 H p o) :=
 ⟨.refl _,λb u e=>by rw [j9 (g8 e h)];exact e,λb u e=>by rw [j9 (g8 (s _ _ e) h)];exact s _ _ e,λ_ _ z=>z⟩
def Top (Hs H:Hp)(a:Addr):PV->Prop
 | .lst xs=>∃ vs,H a=some (.lst vs)/\Reps Hs xs vs
 | .dk ks xs=>∃ kvs,H a=some (.dK kvs)/\kvs.map (·.1)=ks/\Reps Hs xs (kvs.map (·.2))
 | .ob C ns xs=>∃ dx fs,H a=some (.ins C dx fs)/\fs.map (·.1)=ns/\Reps Hs xs (fs.map (·.2))
 |_=>False
theorem Top.there {a:Addr}:∀{x:PV},Top Hs H a x->H a≠none
 | .lst _,h,z=>by obtain ⟨vs,e,_⟩:=h;rw [e] at z;cases z
 | .dk _ _,h,z=>by obtain ⟨vs,e,_⟩:=h;rw [e] at z;cases z
 | .ob _ _ _,h,z=>by obtain ⟨dx,vs,e,_⟩:=h;rw [e] at z;cases z
theorem Top.mono {a:Addr}(g:Same Hs Hs')(e:∀ o,H a=some o->H' a=some o):∀{x:PV},Top Hs H a x->Top Hs' H' a x
 | .lst _,h=>by obtain ⟨vs,q,r⟩:=h;exact ⟨vs,e _ q,r.mono g⟩
 | .dk _ _,h=>by obtain ⟨vs,q,k,r⟩:=h;exact ⟨vs,e _ q,k,r.mono g⟩
 | .ob _ _ _,h=>by obtain ⟨dx,vs,q,k,r⟩:=h;exact ⟨dx,vs,e _ q,k,r.mono g⟩
theorem Top.rep {a:Addr}:∀{x:PV},Top Hs H a x->Hs a=none->∃ o,H a=some o/\Rep (v9 Hs a o) x (.ref a)
 | .lst _,h,n=>by
  obtain ⟨vs,q,r⟩:=h;exact ⟨_,q,rep_lst.mpr ⟨a,vs,rfl,g0,r.mono λb u e=>by rw [j9 (g8 e n)];exact e⟩⟩
 | .dk _ _,h,n=>by
  obtain ⟨vs,q,k,r⟩:=h;exact ⟨_,q,rep_dk.mpr ⟨a,vs,rfl,g0,k,r.mono λb u e=>by rw [j9 (g8 e n)];exact e⟩⟩
 | .ob _ _ _,h,n=>by
  obtain ⟨dx,vs,q,k,r⟩:=h;exact ⟨_,q,rep_ob.mpr ⟨a,dx,vs,rfl,g0,k,r.mono λb u e=>by rw [j9 (g8 e n)];exact e⟩⟩
theorem Ext.share {a:Addr}(x:Ext Hs H Hs' H')(h:H a=none)(n:Hs' a=none)(e:H' a=some o):Ext Hs H (v9 Hs' a o) H':=by
 refine ⟨λb u q=>?_,x.s2,λb u q=>?_,λb q z=>?_⟩
 ·rw [j9 (g8 (x.s1 _ _ q) n)];exact x.s1 _ _ q
 ·by_cases hb:b=a
  ·subst hb;rw [g0] at q;cases q;exact e
  ·rw [j9 hb] at q;exact x.s3 _ _ q
 ·have hb:b≠a:=λr=>q (by rw [r];exact h);rw [j9 hb];exact x.s4 b q z
def RepB (Hs H:Hp)(x:PV)(v:V):Prop:=Rep Hs x v∨∃ a,v = .ref a/\Hs a=none/\Top Hs H a x
theorem RepB.ext (e:Ext Hs H Hs' H')(h:RepB Hs H x v):RepB Hs' H' x v:=by
 rcases h with h|⟨a,rfl,n,t⟩
 ·exact .inl (h.mono e.s1)
 ·exact .inr ⟨a,rfl,e.s4 a t.there n,t.mono e.s1 λo q=>e.s2 _ _ q⟩
inductive MSlot where
 |no|sh (x:PV)|ow (x:PV)|bo (x:PV)
abbrev ME:=List MSlot
variable{ε:ME}
def Own (H0 Hs H:Hp)(a:Addr)(x:PV):Prop:=H0 a=none/\Hs a=none/\Top Hs H a x
structure RS (Hs0 H0 Hs H:Hp)(σ:St)(ε:ME):Prop where
 ext:Ext Hs0 H0 Hs H
 sh:∀(i:Nat)(x:PV),ε[i]?=some (.sh x)->∃ v,σ[i]?=some (some v)/\Rep Hs x v
 ow:∀(i:Nat)(x:PV),ε[i]?=some (.ow x)->∃ a,σ[i]?=some (some (.ref a))/\Own H0 Hs H a x
 nd:∀(i j:Nat)(x y:PV)(a:Addr),ε[i]?=some (.ow x)->ε[j]?=some (.ow y)->σ[i]?=some (some (.ref a))->σ[j]?=some (some (.ref a))->i=j
 len:σ.length=ε.length
 bo:∀(i:Nat)(x:PV),ε[i]?=some (.bo x)->∃ v,σ[i]?=some (some v)/\(Rep Hs x v∨∃ a,v = .ref a/\H0 a≠none/\Hs a=none/\Top Hs H a x)
section
variable {Hs0 H0 Hs H Hs' H':Hp}{σ:St}{ε:ME}
theorem RS.go (r:RS Hs0 H0 Hs H σ ε)(e:Ext Hs H Hs' H'):RS Hs0 H0 Hs' H' σ ε where
 ext:=r.ext.trans e
 sh:=λi x q=>by obtain ⟨v,a,b⟩:=r.sh i x q;exact ⟨v,a,b.mono e.s1⟩
 ow:=λi x q=>by
  obtain ⟨a,b,n0,n,t⟩:=r.ow i x q;exact ⟨a,b,n0,e.s4 a t.there n,t.mono e.s1 λo z=>e.s2 _ _ z⟩
 nd:=r.nd
 len:=r.len
 bo:=λi x q=>by
  obtain ⟨v,b,h|⟨a,rfl,n0,n,t⟩⟩:=r.bo i x q
  ·exact ⟨v,b,.inl (h.mono e.s1)⟩
  ·exact ⟨_,b,.inr ⟨a,rfl,n0,e.s4 a t.there n,t.mono e.s1 λo z=>e.s2 _ _ z⟩⟩
theorem RS.sub (r:RS Hs0 H0 Hs H σ ε):Same Hs H:=r.ext.s3
theorem RS.rebase (r:RS Hs0 H0 Hs H σ ε):RS Hs H0 Hs H σ ε:=⟨⟨.refl _,r.ext.s2,r.ext.s3,λ_ _ z=>z⟩,r.sh,r.ow,r.nd,r.len,r.bo⟩
theorem Ext.unbase (r:Ext Hs0 H0 Hb H)(e:Ext Hb H0 Hs' H'):Ext Hs0 H0 Hs' H':=⟨r.s1.trans e.s1,e.s2,e.s3,λb h z=>e.s4 b h (r.s4 b h z)⟩
theorem RS.unbase {ε':ME}(r:Ext Hs0 H0 Hb H)(e:RS Hb H0 Hs' H' σ' ε'):RS Hs0 H0 Hs' H' σ' ε':=⟨r.unbase e.ext,e.sh,e.ow,e.nd,e.len,e.bo⟩
theorem RS.put (r:RS Hs0 H0 Hs H σ ε){i:Nat}(h:Rep Hs x v):RS Hs0 H0 Hs H (σ.set i (some v)) (ε.set i (.sh x)) where
 ext:=r.ext
 sh:=λj y q=>by
  rw [yy] at q ⊢;split at q
  ·rename_i hij;split at q
   ·rename_i hl;injection q with q;injection q with q;subst q;rw [if_pos hij,if_pos (by rw [r.len,hij];rw [hij] at hl;exact hl)];exact ⟨v,rfl,h⟩
   ·cases q
  ·rename_i hij;rw [if_neg hij];exact r.sh j y q
 ow:=λj y q=>by
  rw [yy] at q ⊢;split at q
  ·split at q<;>cases q
  ·rename_i hij;rw [if_neg hij];exact r.ow j y q
 nd:=λj k x y a h1 h2 h3 h4=>by
  rw [yy] at h1 h2 h3 h4;split at h1
  ·split at h1<;>cases h1
  ·rename_i hj;rw [if_neg hj] at h3;split at h2
   ·split at h2<;>cases h2
   ·rename_i hk;rw [if_neg hk] at h4;exact r.nd j k x y a h1 h2 h3 h4
 len:=by rw [yg,yg,r.len]
 bo:=λj y q=>by
  rw [yy] at q ⊢;split at q
  ·split at q<;>cases q
  ·rename_i hij;rw [if_neg hij];exact r.bo j y q
theorem RS.putO (r:RS Hs0 H0 Hs H σ ε){i:Nat}{a:Addr}(h:Own H0 Hs H a x)(ne:∀(j:Nat)(y:PV),ε[j]?=some (.ow y)->σ[j]?≠some (some (.ref a))):RS Hs0 H0 Hs H (σ.set i (some (.ref a))) (ε.set i (.ow x)) where
 ext:=r.ext
 sh:=λj y q=>by
  rw [yy] at q ⊢;split at q
  ·split at q<;>cases q
  ·rename_i hij;rw [if_neg hij];exact r.sh j y q
 ow:=λj y q=>by
  rw [yy] at q ⊢;split at q
  ·rename_i hij;split at q
   ·rename_i hl;injection q with q;injection q with q;subst q;rw [if_pos hij,if_pos (by rw [r.len,hij];rw [hij] at hl;exact hl)];exact ⟨a,rfl,h⟩
   ·cases q
  ·rename_i hij;rw [if_neg hij];exact r.ow j y q
 nd:=λj k x' y b h1 h2 h3 h4=>by
  rw [yy] at h1 h2 h3 h4;split at h1
  ·rename_i hj;rw [if_pos hj] at h3;split at h1
   ·rename_i hl;rw [if_pos (by rw [r.len];exact hl)] at h3;injection h3 with h3;injection h3 with h3;injection h3 with h3;subst h3;split at h2
    ·rename_i hk;exact hj.symm.trans hk
    ·rename_i hk;rw [if_neg hk] at h4;exact absurd h4 (ne k y h2)
   ·cases h1
  ·rename_i hj;rw [if_neg hj] at h3;split at h2
   ·rename_i hk;rw [if_pos hk] at h4;split at h2
    ·rename_i hl;rw [if_pos (by rw [r.len];exact hl)] at h4;injection h4 with h4;injection h4 with h4;injection h4 with h4;subst h4;exact absurd h3 (ne j x' h1)
    ·cases h2
   ·rename_i hk;rw [if_neg hk] at h4;exact r.nd j k x' y b h1 h2 h3 h4
 len:=by rw [yg,yg,r.len]
 bo:=λj y q=>by
  rw [yy] at q ⊢;split at q
  ·split at q<;>cases q
  ·rename_i hij;rw [if_neg hij];exact r.bo j y q
theorem RS.change (r:RS Hs0 H0 Hs H σ ε){i:Nat}{a:Addr}(hi:ε[i]?=some (.ow x))(ha:σ[i]?=some (some (.ref a)))(t:Top Hs (v9 H a o) a y):RS Hs0 H0 Hs (v9 H a o) σ (ε.set i (.ow y)):=by
 obtain ⟨b,hb,n0,n,tx⟩:=r.ow i x hi;rw [ha] at hb;injection hb with hb;injection hb with hb;injection hb with hb;subst hb;refine ⟨⟨r.ext.s1,λb u e=>?_,λb u e=>?_,r.ext.s4⟩,λj z q=>?_,λj z q=>?_,λj k z z' c h1 h2 h3 h4=>?_,by rw [yg,r.len],λj z q=>?_⟩
 ·rw [j9 (g8 e n0)];exact r.ext.s2 _ _ e
 ·rw [j9 (g8 e n)];exact r.ext.s3 _ _ e
 ·rw [yy] at q;split at q
  ·split at q<;>cases q
  ·exact r.sh j z q
 ·rw [yy] at q;split at q
  ·rename_i hij;split at q
   ·injection q with q;injection q with q;subst q;exact ⟨a,hij▸ha,n0,n,t⟩
   ·cases q
  ·rename_i hij;obtain ⟨c,hc,m0,m,tc⟩:=r.ow j z q;have hne:c≠a:=λe=>hij (r.nd i j x z a hi q ha (e▸hc));exact ⟨c,hc,m0,m,tc.mono (.refl _) λo' e=>by rw [j9 hne];exact e⟩
 ·have down:∀{m:Nat}{w:PV},(ε.set i (.ow y))[m]?=some (.ow w)->∃ w',ε[m]?=some (.ow w'):=by
   intro m w q;rw [yy] at q;split at q
   ·rename_i him;exact ⟨x,him▸hi⟩
   ·exact ⟨w,q⟩
  obtain ⟨w1,q1⟩:=down h1;obtain ⟨w2,q2⟩:=down h2;exact r.nd j k w1 w2 c q1 q2 h3 h4
 ·rw [yy] at q;split at q
  ·split at q<;>cases q
  ·obtain ⟨v,hv,h|⟨c,rfl,m0,m,tc⟩⟩:=r.bo j z q
   ·exact ⟨v,hv,.inl h⟩
   ·have hne:c≠a:=λe=>m0 (e▸n0);exact ⟨_,hv,.inr ⟨c,rfl,m0,m,tc.mono (.refl _) λo' e=>by rw [j9 hne];exact e⟩⟩
def fz (i:Nat)(ε:ME):ME:=match ε[i]? with
 |some (.ow x)=>ε.set i (.sh x)
 |_=>ε
end
theorem Qr {j:Nat}{s:MSlot}(h:∀(i:Nat)(x:PV),ε[i]?≠some (.bo x))(hs:∀ x,s ≠ .bo x):∀(i:Nat)(x:PV),(ε.set j s)[i]?≠some (.bo x):=λi x q=>by
 rw [yy] at q;split at q
 ·split at q
  ·injection q with q;exact hs x q
  ·cases q
 ·exact h i x q
abbrev M:=ME->Option PV
variable{a b:M}
abbrev MB:=ME->Option Bool
variable{c:MB}
abbrev MA:=ME->Option (List PV)
variable{as f:MA}
class SemE (te:TE)(f:M):Prop where
 h:∀{ε y},f ε=some y->∀{Hs0 H0 Hs H σ},RS Hs0 H0 Hs H σ ε->∀{Q:VK},(∀ v Hs' H',Ext Hs H Hs' H'->Rep Hs' y v->Q v H')->te σ H Q
class f6 (te:TE)(f:M):Prop where
 h:∀{ε y},f ε=some y->∀{Hs0 H0 Hs H σ},RS Hs0 H0 Hs H σ ε->∀{Q:VK},(∀ v Hs' H',Ext Hs H Hs' H'->RepB Hs' H' y v->Q v H')->te σ H Q
class xR (te:TE)(f:M):Prop where
 h:∀{ε y},f ε=some y->∀{Hs0 H0 Hs H σ},RS Hs0 H0 Hs H σ ε->∀{Q:VK},(∀ a Hs' H',Ext Hs H Hs' H'->H a=none->Hs' a=none->Top Hs' H' a y->Q (.ref a) H')->te σ H Q
class xn (tt:TT)(f:MB):Prop where
 h:∀{ε y},f ε=some y->∀{Hs0 H0 Hs H σ},RS Hs0 H0 Hs H σ ε->∀{Q:Bool->Hp->Prop},(∀ Hs' H',Ext Hs H Hs' H'->Q y H')->tt σ H Q
class xa (ta:TA)(f:MA):Prop where
 h:∀{ε ys},f ε=some ys->∀{Hs0 H0 Hs H σ},RS Hs0 H0 Hs H σ ε->∀{Q:List V->Hp->Prop},(∀ vs Hs' H',Ext Hs H Hs' H'->Reps Hs' ys vs->Q vs H')->ta σ H Q
def wK (Hs H:Hp):List PV->List V->Prop
 |[],vs=>vs=[]
 |x::xs,vs=>∃ v r,vs=v::r/\RepB Hs H x v/\wK Hs H xs r
class QL (ta:TA)(f:MA):Prop where
 h:∀{ε ys},f ε=some ys->∀{Hs0 H0 Hs H σ},RS Hs0 H0 Hs H σ ε->∀{Q:List V->Hp->Prop},(∀ vs Hs' H',Ext Hs H Hs' H'->wK Hs' H' ys vs->Q vs H')->ta σ H Q
class xy (r:R2)(g:PV->PV->Option PV):Prop where
 h:∀{x y z},g x y=some z->∀{Hs H:Hp}{v w:V},Same Hs H->RepB Hs H x v->RepB Hs H y w->∀{Q:VK},(∀ u Hs' H',Ext Hs H Hs' H'->Rep Hs' z u->Q u H')->r v w H Q
class Um (r:R2)(g:PV->PV->Option PV):Prop where
 h:∀{x y z},g x y=some z->∀{Hs H:Hp}{v w:V},Same Hs H->RepB Hs H x v->RepB Hs H y w->∀{Q:VK},(∀ a Hs' H',Ext Hs H Hs' H'->H a=none->Hs' a=none->Top Hs' H' a z->Q (.ref a) H')->r v w H Q
instance (priority:=50) semE_O {f:M}[s:xR te f]:SemE te f where
 h:=λe _ _ _ _ _ r _ q=>s.h e r λa Hs' H' x h n t=>by
  obtain ⟨o,ho,hr⟩:=t.rep n;exact q _ _ _ (x.share h n ho) hr
instance (priority:=50) semB_E {f:M}[s:SemE te f]:f6 te f where
 h:=λe _ _ _ _ _ r _ q=>s.h e r λv Hs' H' x h=>q v Hs' H' x (.inl h)
def q8 (i:Nat):M:=λε=>match ε[i]? with
 |some (.sh x)=>some x
 |_=>none
def q9 (i:Nat):M:=λε=>match ε[i]? with
 |some (.sh x)=>some x
 |some (.ow x)=>some x
 |some (.bo x)=>some x
 |_=>none
def dC (v:V):M:=λ_=>some (.at v)
instance {i:Nat}:SemE (qG i) (q8 i) where
 h:=λ{ε y} e {_ _ _ _ _} r {_} q=>by
  unfold q8 at e;split at e
  ·rename_i x hx;cases e;obtain ⟨v,h1,h2⟩:=r.sh i _ hx;exact ⟨v,h1,q v _ _ (.refl r.sub) h2⟩
  ·cases e
instance {i:Nat}:f6 (qG i) (q9 i) where
 h:=λ{ε y} e {_ _ _ _ _} r {_} q=>by
  unfold q9 at e;split at e
  ·rename_i x hx;cases e;obtain ⟨v,h1,h2⟩:=r.sh i _ hx;exact ⟨v,h1,q v _ _ (.refl r.sub) (.inl h2)⟩
  ·rename_i x hx;cases e;obtain ⟨a,h1,_,n,t⟩:=r.ow i _ hx;exact ⟨_,h1,q _ _ _ (.refl r.sub) (.inr ⟨a,rfl,n,t⟩)⟩
  ·rename_i x hx;cases e;obtain ⟨v,h1,h2|⟨a,rfl,_,n,t⟩⟩:=r.bo i _ hx
   ·exact ⟨v,h1,q v _ _ (.refl r.sub) (.inl h2)⟩
   ·exact ⟨_,h1,q _ _ _ (.refl r.sub) (.inr ⟨a,rfl,n,t⟩)⟩
  ·cases e
instance :SemE (tC v) (dC v) where
 h:=λe _ _ _ _ _ r _ q=>by cases e;exact q v _ _ (.refl r.sub) (rep_at.mpr rfl)
def x8 (g:PV->PV->Option PV)(a b:M):M:=λε=>(a ε).bind λx=>(b ε).bind λy=>g x y
theorem bind_some {α β:Type}{o:Option α}{f:α->Option β}{y:β}(h:o.bind f=some y):∃ x,o=some x/\f x=some y:=by
 cases o with
 |none=>cases h
 |some x=>exact ⟨x,rfl,h⟩
instance {g:PV->PV->Option PV}{ta:TE}[sr:xy r g][sa:f6 ta a][sb:f6 tb b]:SemE (tOp r ta tb) (x8 g a b) where
 h:=λe _ _ _ _ _ rs _ q=>by
  obtain ⟨x,ex,e⟩:=bind_some e;obtain ⟨y,ey,e⟩:=bind_some e;exact sa.h ex rs λv Hs1 H1 x1 r1=>sb.h ey (rs.go x1) λw Hs2 H2 x2 r2=>sr.h e x2.s3 (r1.ext x2) r2 λu Hs3 H3 x3 r3=>q u _ _ (x1.trans (x2.trans x3)) r3
instance {g:PV->PV->Option PV}{ta:TE}[sr:Um r g][sa:f6 ta a][sb:f6 tb b]:xR (tOp r ta tb) (x8 g a b) where
 h:=λe _ _ _ _ _ rs _ q=>by
  obtain ⟨x,ex,e⟩:=bind_some e;obtain ⟨y,ey,e⟩:=bind_some e;exact sa.h ex rs λv Hs1 H1 x1 r1=>sb.h ey (rs.go x1) λw Hs2 H2 x2 r2=>sr.h e x2.s3 (r1.ext x2) r2 λu Hs3 H3 x3 n n' r3=>q u _ _ (x1.trans (x2.trans x3)) (x1.s2.free (x2.s2.free n)) n' r3
def x6:MA:=λ_=>some []
def q0 (a:M)(r:MA):MA:=λε=>(a ε).bind λx=>(r ε).bind λxs=>some (x::xs)
instance:xa ql x6 where
 h:=λe _ _ _ _ _ r _ q=>by cases e;exact q [] _ _ (.refl r.sub) .nil
instance [sa:SemE te a][sr:xa ta f]:xa (i4 te ta) (q0 a f) where
 h:=λe _ _ _ _ _ rs _ q=>by
  obtain ⟨x,ex,e⟩:=bind_some e;obtain ⟨xs,ey,e⟩:=bind_some e;cases e;exact sa.h ex rs λv Hs1 H1 x1 r1=>sr.h ey (rs.go x1) λvs Hs2 H2 x2 r2=>q _ _ _ (x1.trans x2) (.cons (r1.mono x2.s1) r2)
instance:QL ql x6 where
 h:=λe _ _ _ _ _ r _ q=>by cases e;exact q [] _ _ (.refl r.sub) rfl
instance [sa:f6 te a][sr:QL ta f]:QL (i4 te ta) (q0 a f) where
 h:=λe _ _ _ _ _ rs _ q=>by
  obtain ⟨x,ex,e⟩:=bind_some e;obtain ⟨xs,ey,e⟩:=bind_some e;cases e;exact sa.h ex rs λv Hs1 H1 x1 r1=>sr.h ey (rs.go x1) λvs Hs2 H2 x2 r2=>q _ _ _ (x1.trans x2) ⟨_,_,rfl,r1.ext x2,r2⟩
def lim:Nat:=1000000
theorem xX (h:n<=lim):n<=sizeLine:=ym h (by rw [sizeLine_eq];decide)
theorem VI (h:n<=lim):n<sizeLine:=Nat.lt_of_le_of_lt h (by rw [sizeLine_eq];decide)
def qj (a:MA):M:=λε=>(a ε).bind λxs=>if xs.length<=lim then some (.tup xs) else none
def qD (a:MA):M:=λε=>(a ε).bind λxs=>if xs.length<=lim then some (.lst xs) else none
instance [sa:xa ta f]:SemE (tTup ta) (qj f) where
 h:=λe _ _ _ _ _ rs _ q=>by
  obtain ⟨xs,ex,e⟩:=bind_some e;split at e
  ·rename_i hl;cases e;exact sa.h ex rs λvs Hs1 H1 x1 r1=>⟨xX (r1.length▸hl),λp hp=>q _ _ _ (x1.trans (.new x1.s3 hp)) (rep_tup.mpr ⟨p,vs,rfl,g0,r1.mono (Ext.new x1.s3 hp).s1⟩)⟩
  ·cases e
instance [sa:xa ta f]:xR (tLst ta) (qD f) where
 h:=λe _ _ _ _ _ rs _ q=>by
  obtain ⟨xs,ex,e⟩:=bind_some e;split at e
  ·rename_i hl;cases e;exact sa.h ex rs λvs Hs1 H1 x1 r1=>⟨xX (r1.length▸hl),λp hp=>q _ _ _ (x1.trans (.newO x1.s3 hp)) (x1.s2.free hp) (x1.s3.free hp) ⟨vs,g0,r1⟩⟩
  ·cases e
theorem b8 (h:RepB Hs H (.at u) v):v=u:=by
 rcases h with h|⟨a,_,_,t⟩
 ·exact rep_at.mp h
 ·exact t.elim
theorem qr (s:Same Hs H)(h:RepB Hs H (.lst xs) v):∃ a vs,v = .ref a/\H a=some (.lst vs)/\Reps Hs xs vs:=by
 rcases h with h|⟨a,rfl,_,vs,e,r⟩
 ·obtain ⟨a,vs,rfl,e,r⟩:=rep_lst.mp h;exact ⟨a,vs,rfl,s _ _ e,r⟩
 ·exact ⟨a,vs,rfl,e,r⟩
theorem xk (s:Same Hs H)(h:RepB Hs H (.tup xs) v):∃ a vs,v = .ref a/\H a=some (.tup vs)/\Reps Hs xs vs:=by
 rcases h with h|⟨a,rfl,_,t⟩
 ·obtain ⟨a,vs,rfl,e,r⟩:=rep_tup.mp h;exact ⟨a,vs,rfl,s _ _ e,r⟩
 ·exact t.elim
theorem XJ (s:Same Hs H)(h:RepB Hs H (.fk ks xs) v):∃ a o kvs,v = .ref a/\H a=some (.frz o (.dK kvs))/\kvs.map (·.1)=ks/\Reps Hs xs (kvs.map (·.2)):=by
 rcases h with h|⟨a,rfl,n,t⟩
 ·obtain ⟨a,o,kvs,rfl,e,k,r⟩:=rep_fk.mp h;exact ⟨a,o,kvs,rfl,s _ _ e,k,r⟩
 ·exact t.elim
theorem vx (s:Same Hs H)(h:RepB Hs H (.dk ks xs) v):∃ a kvs,v = .ref a/\H a=some (.dK kvs)/\kvs.map (·.1)=ks/\Reps Hs xs (kvs.map (·.2)):=by
 rcases h with h|⟨a,rfl,_,kvs,e,k,r⟩
 ·obtain ⟨a,kvs,rfl,e,k,r⟩:=rep_dk.mp h;exact ⟨a,kvs,rfl,s _ _ e,k,r⟩
 ·exact ⟨a,kvs,rfl,e,k,r⟩
theorem Ps (s:Same Hs H)(h:RepB Hs H (.ob C ns xs) v):∃ a dx fs,v = .ref a/\H a=some (.ins C dx fs)/\fs.map (·.1)=ns/\Reps Hs xs (fs.map (·.2)):=by
 rcases h with h|⟨a,rfl,_,dx,fs,e,k,r⟩
 ·obtain ⟨a,dx,fs,rfl,e,k,r⟩:=rep_ob.mp h;exact ⟨a,dx,fs,rfl,s _ _ e,k,r⟩
 ·exact ⟨a,dx,fs,rfl,e,k,r⟩
def pI (g:Int->Int->Option V):PV->PV->Option PV
 | .at (.int i),.at (.int j)=>(g i j).map .at
 |_,_=>none
theorem BF {g:Int->Int->Option V}{z:PV}(h:pI g x y=some z):∃ i j u,x = .at (.int i)/\y = .at (.int j)/\g i j=some u/\z = .at u:=by
 unfold pI at h;split at h
 ·rename_i i j;obtain ⟨u,e,rfl⟩:=yM.mp h;exact ⟨i,j,u,rfl,rfl,e,rfl⟩
 ·cases h
instance {g:Int->Int->V}:xy (rI0 g) (pI λi j=>some (g i j)) where
 h:=λe _ _ _ _ s a b _ q=>by
  obtain ⟨i,j,u,rfl,rfl,e,rfl⟩:=BF e;cases e;exact ⟨i,j,b8 a,b8 b,q _ _ _ (.refl s) (rep_at.mpr rfl)⟩
instance {C:Int->Int->Prop}[d:∀ i j,Decidable (C i j)]{g:Int->Int->V}:xy (rI C g) (pI λi j=>if C i j then some (g i j) else none) where
 h:=λe _ _ _ _ s a b _ q=>by
  obtain ⟨i,j,u,rfl,rfl,e',rfl⟩:=BF e;split at e'
  ·rename_i hc;cases e';exact ⟨i,j,b8 a,b8 b,hc,q _ _ _ (.refl s) (rep_at.mpr rfl)⟩
  ·cases e'
def w4:PV->PV->Option PV
 | .lst xs,.at (.int i)=>atI xs i
 | .tup xs,.at (.int i)=>atI xs i
 | .at (.str z),.at (.int i)=>if z.length<=lim then (L2.atI z.cps.toList i).map λc=> .at (.str ⟨#[c]⟩) else none
 |_,_=>none
theorem Reps.atI {i:Int}(r:Reps H xs vs)(h:atI xs i=some x):∃ v,L2.atI vs i=some v/\Rep H x v:=by unfold L2.atI at h ⊢;rw [r.length];obtain ⟨j,ej,e⟩:=bind_some h;rw [ej];exact r.get e
instance :xy (rIx K) w4 where
 h:=λ{x y z} e {Hs H v w} s a b {Q} q=>by
  unfold w4 at e;split at e
  ·obtain ⟨p,vs,rfl,e1,r1⟩:=qr s a;obtain ⟨u,hu,r⟩:=r1.atI e;exact .inl ⟨p,vs,_,u,rfl,b8 b,SqL.of e1,hu,q _ _ _ (.refl s) r⟩
  ·obtain ⟨p,vs,rfl,e1,r1⟩:=xk s a;obtain ⟨u,hu,r⟩:=r1.atI e;exact .inr (.inl ⟨p,vs,_,u,rfl,b8 b,SqT.of e1,hu,q _ _ _ (.refl s) r⟩)
  ·split at e
   ·rename_i hz;obtain ⟨c,hc,rfl⟩:=yM.mp e;exact .inr (.inr ⟨_,_,c,b8 a,b8 b,xX hz,hc,q _ _ _ (.refl s) (rep_at.mpr rfl)⟩)
   ·cases e
  ·cases e
def ats:List PV->Option (List V)
 |[]=>some []
 | .at u::xs=>(ats xs).map (u::·)
 |_::_=>none
theorem Zj:∀{xs:List PV}{us:List V},ats xs=some us->xs=us.map .at
 |[],_,h=>by cases h;rfl
 | .at u::xs,us,h=>by
  unfold ats at h;obtain ⟨r,e,rfl⟩:=yM.mp h;rw [yO,Zj e]
 | .tup _::_,_,h=>by cases h
 | .lst _::_,_,h=>by cases h
 | .dk _ _::_,_,h=>by cases h
 | .fk _ _::_,_,h=>by cases h
 | .ob _ _ _::_,_,h=>by cases h
 | .op _::_,_,h=>by cases h
def pIn (neg:Bool):PV->PV->Option PV
 | .at u,.lst xs=>(ats xs).bind λus=>if k4 u=true/\us.all k4=true then some (.at (.bl (if neg then !inV u us else inV u us))) else none
 | .at u,.tup xs=>(ats xs).bind λus=>if k4 u=true/\us.all k4=true then some (.at (.bl (if neg then !inV u us else inV u us))) else none
 |_,_=>none
instance {neg:Bool}:xy (rIn K neg) (pIn neg) where
 h:=λ{x y z} e {Hs H v w} s a b {Q} q=>by
  unfold pIn at e;split at e
  ·obtain ⟨us,e1,e⟩:=bind_some e;split at e
   ·rename_i hf;cases e;obtain ⟨p,vs,rfl,e2,r2⟩:=qr s b;rw [Zj e1] at r2;cases r2.ats;cases b8 a;exact ⟨p,_,rfl,.inl (SqL.of e2),hf.1,hf.2,q _ _ _ (.refl s) (rep_at.mpr rfl)⟩
   ·cases e
  ·obtain ⟨us,e1,e⟩:=bind_some e;split at e
   ·rename_i hf;cases e;obtain ⟨p,vs,rfl,e2,r2⟩:=xk s b;rw [Zj e1] at r2;cases r2.ats;cases b8 a;exact ⟨p,_,rfl,.inr (SqT.of e2),hf.1,hf.2,q _ _ _ (.refl s) (rep_at.mpr rfl)⟩
   ·cases e
  ·cases e
class SemU (r:V->Hp->VK->Prop)(g:PV->Option PV):Prop where
 h:∀{x z},g x=some z->∀{Hs H:Hp}{v:V},Same Hs H->RepB Hs H x v->∀{Q:VK},(∀ u Hs' H',Ext Hs H Hs' H'->Rep Hs' z u->Q u H')->r v H Q
def dUn (g:PV->Option PV)(a:M):M:=λε=>(a ε).bind g
instance {r:V->Hp->VK->Prop}{g:PV->Option PV}{ta:TE}[sr:SemU r g][sa:f6 ta a]:SemE (tUn r ta) (dUn g a) where
 h:=λe _ _ _ _ _ rs _ q=>by
  obtain ⟨x,ex,e⟩:=bind_some e;exact sa.h ex rs λv Hs1 H1 x1 r1=>sr.h e x1.s3 r1 λu Hs3 H3 x3 r3=>q u _ _ (x1.trans x3) r3
def pU (g:Int->V):PV->Option PV
 | .at (.int i)=>some (.at (g i))
 |_=>none
instance {g:Int->V}:SemU (rU g) (pU g) where
 h:=λ{x z} e {_ _ _} s a {_} q=>by
  unfold pU at e;split at e
  ·cases e;exact ⟨_,b8 a,q _ _ _ (.refl s) (rep_at.mpr rfl)⟩
  ·cases e
def pB:PV->Option Bool
 | .at (.bl b)=>some b
 |_=>none
theorem Xx {b:Bool}(h:pB x=some b):x = .at (.bl b):=by
 unfold pB at h;split at h
 ·cases h;rfl
 ·cases h
def dT (a:M):MB:=λε=>(a ε).bind pB
instance [sa:f6 te a]:xn (YR te) (dT a) where
 h:=λe _ _ _ _ _ rs _ q=>by
  obtain ⟨x,ex,e⟩:=bind_some e;cases Xx e;exact sa.h ex rs λv Hs1 H1 x1 r1=>⟨_,b8 r1,q _ _ x1⟩
instance [sa:f6 te a]:xn (tB te) (dT a) where
 h:=λe _ _ _ _ _ rs _ q=>by
  obtain ⟨x,ex,e⟩:=bind_some e;cases Xx e;exact sa.h ex rs λv Hs1 H1 x1 r1=>⟨_,b8 r1,q _ _ x1⟩
def tTru (K:Fg)(ta:TE):TT:=λσ H Q=>ta σ H λx H'=>∃ k,TruV K x H' k/\Q k H'
def pTru:PV->Option Bool
 | .at .non=>some false
 | .at (.bl b)=>some b
 | .at (.int i)=>some (i != 0)
 | .at (.str y)=>if y.length<=lim then some ((y.length:Int) != 0) else none
 | .lst xs=>some (!xs.isEmpty)
 | .tup xs=>some (!xs.isEmpty)
 | .dk ks _=>some (!ks.isEmpty)
 |_=>none
def o6 (a:M):MB:=λε=>(a ε).bind pTru
theorem Reps.isEmpty (r:Reps H xs vs):vs.isEmpty=xs.isEmpty:=by have:=r.length;cases xs<;>cases vs<;>first|rfl|(simp at this)
instance [sa:f6 te a]:xn (tTru K te) (o6 a) where
 h:=λe _ _ _ _ _ rs _ q=>by
  obtain ⟨x,ex,e⟩:=bind_some e;refine sa.h ex rs λv Hs1 H1 x1 r1=>?_;unfold pTru at e;split at e
  ·cases e;cases b8 r1;exact ⟨_,rfl,q _ _ x1⟩
  ·cases e;cases b8 r1;exact ⟨_,rfl,q _ _ x1⟩
  ·cases e;cases b8 r1;exact ⟨_,rfl,q _ _ x1⟩
  ·split at e
   ·rename_i hl;cases e;cases b8 r1;exact ⟨_,⟨xX hl,rfl⟩,q _ _ x1⟩
   ·cases e
  ·cases e;obtain ⟨p,vs,rfl,e1,r2⟩:=qr x1.s3 r1;exact ⟨_,.inl ⟨vs,SqL.of e1,by rw [r2.isEmpty]⟩,q _ _ x1⟩
  ·cases e;obtain ⟨p,vs,rfl,e1,r2⟩:=xk x1.s3 r1;exact ⟨_,.inr (.inl ⟨vs,SqT.of e1,by rw [r2.isEmpty]⟩),q _ _ x1⟩
  ·cases e;obtain ⟨p,kvs,rfl,e1,k,r2⟩:=vx x1.s3 r1;refine ⟨_,.inr (.inr ⟨kvs,e1,?_⟩),q _ _ x1⟩;rw [<- k];cases kvs<;>rfl
  ·cases e
def zy (a b:MB):MB:=λε=>(a ε).bind λc=>if c=true then b ε else some false
def dOr (a b:MB):MB:=λε=>(a ε).bind λc=>if c=true then some true else b ε
def qi (a:MB):MB:=λε=>(a ε).bind λc=>some (!c)
instance {u:TT}{a b:MB}[sa:xn t a][sb:xn u b]:xn (tAnd t u) (zy a b) where
 h:=λe _ _ _ _ _ rs _ q=>by
  obtain ⟨c,ex,e⟩:=bind_some e;refine sa.h ex rs λHs1 H1 x1=>?_;cases c with
  |true=>exact zC (sb.h e (rs.go x1) λHs2 H2 x2=>q _ _ (x1.trans x2))
  |false=>cases e;exact zB (q _ _ x1)
instance {u:TT}{a b:MB}[sa:xn t a][sb:xn u b]:xn (tOr t u) (dOr a b) where
 h:=λe _ _ _ _ _ rs _ q=>by
  obtain ⟨c,ex,e⟩:=bind_some e;refine sa.h ex rs λHs1 H1 x1=>?_;cases c with
  |true=>cases e;exact zC (q _ _ x1)
  |false=>exact zB (sb.h e (rs.go x1) λHs2 H2 x2=>q _ _ (x1.trans x2))
instance {a:MB}[sa:xn t a]:xn (tNot t) (qi a) where
 h:=λe _ _ _ _ _ rs _ q=>by
  obtain ⟨c,ex,e⟩:=bind_some e;cases e;exact sa.h ex rs λHs1 H1 x1=>q _ _ x1
def jj (a b:M):M:=λε=>(a ε).bind λx=>(pB x).bind λc=>if c=true then b ε else some (.at (.bl false))
def Zw (a:M):M:=λε=>(a ε).bind λx=>(pB x).bind λc=>some (.at (.bl (!c)))
instance {t u:TE}[sa:SemE t a][sb:SemE u b]:SemE (Ch t u) (jj a b) where
 h:=λe _ _ _ _ _ rs _ q=>by
  obtain ⟨x,ex,e⟩:=bind_some e;obtain ⟨c,ec,e⟩:=bind_some e;cases Xx ec;refine sa.h ex rs λv Hs1 H1 x1 r1=>⟨c,rep_at.mp r1,?_⟩;cases c with
  |true=>exact zC (sb.h e (rs.go x1) λw Hs2 H2 x2 r2=>q _ _ _ (x1.trans x2) r2)
  |false=>cases e;exact zB (q _ _ _ x1 (rep_at.mpr rfl))
instance {t:TE}[sa:f6 t a]:SemE (Co t) (Zw a) where
 h:=λe _ _ _ _ _ rs _ q=>by
  obtain ⟨x,ex,e⟩:=bind_some e;obtain ⟨c,ec,e⟩:=bind_some e;cases Xx ec;cases e;exact sa.h ex rs λv Hs1 H1 x1 r1=>⟨c,b8 r1,q _ _ _ x1 (rep_at.mpr rfl)⟩
def dIf (c:MB)(a b:M):M:=λε=>(c ε).bind λk=>if k=true then a ε else b ε
instance {ta:TE}[sc:xn t c][sa:SemE ta a][sb:SemE tb b]:SemE (tIf t ta tb) (dIf c a b) where
 h:=λe _ _ _ _ _ rs _ q=>by
  obtain ⟨k,ex,e⟩:=bind_some e;refine sc.h ex rs λHs1 H1 x1=>?_;cases k with
  |true=>exact zC (sa.h e (rs.go x1) λw Hs2 H2 x2 r2=>q _ _ _ (x1.trans x2) r2)
  |false=>exact zB (sb.h e (rs.go x1) λw Hs2 H2 x2 r2=>q _ _ _ (x1.trans x2) r2)
def zA (g g':PV->PV->Option PV)(a b c:M):M:=λε=>(a ε).bind λx=>(b ε).bind λy=>(g x y).bind λz=>(pB z).bind λk=>if k=true then (c ε).bind λw=>g' y w else some (.at (.bl false))
instance {r':R2}{g g':PV->PV->Option PV}{ta tc:TE}{c:M}[sr:xy r g][sr':xy r' g'][sa:f6 ta a][sb:f6 tb b][sc:f6 tc c]:SemE (YO r r' ta tb tc) (zA g g' a b c) where
 h:=λe _ _ _ _ _ rs _ q=>by
  obtain ⟨x,ex,e1⟩:=bind_some e;obtain ⟨y,ey,e2⟩:=bind_some e1;obtain ⟨z,ez,e3⟩:=bind_some e2;obtain ⟨k,ek,e4⟩:=bind_some e3;have ez':=Xx ek;subst ez';refine sa.h ex rs λv Hs1 H1 x1 r1=>sb.h ey (rs.go x1) λw Hs2 H2 x2 r2=>sr.h ez x2.s3 (r1.ext x2) r2 λu Hs3 H3 x3 r3=>⟨k,rep_at.mp r3,?_⟩;cases k with
  |true=>obtain ⟨w',ew,e5⟩:=bind_some e4;exact zC (sc.h ew (((rs.go x1).go x2).go x3) λu' Hs4 H4 x4 r4=>sr'.h e5 x4.s3 ((r2.ext x3).ext x4) r4 λu'' Hs5 H5 x5 r5=>q _ _ _ (x1.trans (x2.trans (x3.trans (x4.trans x5)))) r5)
  |false=>cases e4;exact zB (q _ _ _ (x1.trans (x2.trans x3)) (rep_at.mpr rfl))
def j8 (m:List PV->Option PV):Sp:=λvs H Q _=>∃ Hs xs y,Same Hs H/\Reps Hs xs vs/\m xs=some y/\∀ v Hs' H',Ext Hs H Hs' H'->Rep Hs' y v->Q v H'
def p5 (m:List PV->Option PV):Sp:=λvs H Q _=>∃ Hs xs y,Same Hs H/\Reps Hs xs vs/\m xs=some y/\∀ a Hs' H',Ext Hs H Hs' H'->H a=none->Hs' a=none->Top Hs' H' a y->Q (.ref a) H'
def x9 (m:List PV->Option PV)(as:MA):M:=λε=>(as ε).bind m
instance [sa:xa ta as]:SemE (jM (j8 m) [] E ta) (x9 m as) where
 h:=λe _ _ _ _ _ rs _ q=>by
  obtain ⟨xs,ex,e1⟩:=bind_some e;refine sa.h ex rs λvs Hs1 H1 x1 r1=>⟨Hs1,xs,_,x1.s3,by rw [yt];exact r1,e1,λv Hs' H' x r=>q v _ _ (x1.trans x) r⟩
instance [sa:xa ta as]:xR (jM (p5 m) [] E ta) (x9 m as) where
 h:=λe _ _ _ _ _ rs _ q=>by
  obtain ⟨xs,ex,e1⟩:=bind_some e;refine sa.h ex rs λvs Hs1 H1 x1 r1=>⟨Hs1,xs,_,x1.s3,by rw [yt];exact r1,e1,λa Hs' H' x n n' r=>q a _ _ (x1.trans x) (x1.s2.free n) n' r⟩
def Vc (m:List PV->Option PV)(ds:List V)(as:MA):M:=λε=>(as ε).bind λxs=>m (xs++ds.map .at)
def xo (C:Addr)(nm:Str)(m:List PV->Option PV)(a:M)(as:MA):M:=λε=>(a ε).bind λx=>match x with
 | .ob C' ns fs=>if C'=C/\nm∉ns then (as ε).bind λxs=>m (x::xs) else none
 |_=>none
theorem VJ {fs:List (Str×V)}{f:Str}(h:f∉fs.map (·.1)):fs.lookup f=none:=by
 induction fs with
 |nil=>rfl
 |cons p r ih =>
  rw [yO] at h;rw [uO];have h1:(f==p.1)=false:=by rw [beq_eq_false_iff_ne];exact λe=>h (e▸yU)
  rw [h1];exact ih λz=>h (yW _ z)
theorem Kh (h:xo C nm m a as ε=some y):∃ ns fs xs,a ε=some (.ob C ns fs)/\nm∉ns/\as ε=some xs/\m (.ob C ns fs::xs)=some y:=by
 unfold xo at h;obtain ⟨x,ex,h1⟩:=bind_some h;split at h1
 ·rename_i C' ns fs;split at h1
  ·rename_i hc;obtain ⟨xs,e2,h2⟩:=bind_some h1;obtain ⟨rfl,hn⟩:=hc;exact ⟨ns,fs,xs,ex,hn,e2,h2⟩
  ·cases h1
 ·cases h1
instance [so:SemE te a][sa:xa ta as]:SemE (wv C nm (j8 m) [] E te ta) (xo C nm m a as) where
 h:=λe _ _ _ _ _ rs _ q=>by
  obtain ⟨ns,fs,xs,ea,hn,e1,e2⟩:=Kh e;refine so.h ea rs λv Hs1 H1 x1 r1=>?_;obtain ⟨p,dx,gs,rfl,hp,hk,hr⟩:=rep_ob.mp r1;refine ⟨p,dx,gs,rfl,x1.s3 _ _ hp,VJ (by rw [hk];exact hn),sa.h e1 (rs.go x1) λvs Hs2 H2 x2 r2=>?_⟩;exact ⟨Hs2,_,_,x2.s3,by rw [yt];exact .cons (r1.mono x2.s1) r2,e2,λv Hs' H' x r=>q v _ _ (x1.trans (x2.trans x)) r⟩
instance [so:SemE te a][sa:xa ta as]:xR (wv C nm (p5 m) [] E te ta) (xo C nm m a as) where
 h:=λe _ _ _ _ _ rs _ q=>by
  obtain ⟨ns,fs,xs,ea,hn,e1,e2⟩:=Kh e;refine so.h ea rs λv Hs1 H1 x1 r1=>?_;obtain ⟨p,dx,gs,rfl,hp,hk,hr⟩:=rep_ob.mp r1;refine ⟨p,dx,gs,rfl,x1.s3 _ _ hp,VJ (by rw [hk];exact hn),sa.h e1 (rs.go x1) λvs Hs2 H2 x2 r2=>?_⟩;exact ⟨Hs2,_,_,x2.s3,by rw [yt];exact .cons (r1.mono x2.s1) r2,e2,λv Hs' H' x n n' r=>q v _ _ (x1.trans (x2.trans x)) (x1.s2.free (x2.s2.free n)) n' r⟩
class vE (r:List V->Hp->VK->Prop)(g:List PV->Option PV):Prop where
 h:∀{xs z},g xs=some z->∀{Hs H:Hp}{vs:List V},Same Hs H->wK Hs H xs vs->∀{Q:VK},(∀ u Hs' H',Ext Hs H Hs' H'->Rep Hs' z u->Q u H')->r vs H Q
class JH (r:List V->Hp->VK->Prop)(g:List PV->Option PV):Prop where
 h:∀{xs z},g xs=some z->∀{Hs H:Hp}{vs:List V},Same Hs H->wK Hs H xs vs->∀{Q:VK},(∀ a Hs' H',Ext Hs H Hs' H'->H a=none->Hs' a=none->Top Hs' H' a z->Q (.ref a) H')->r vs H Q
instance {r:List V->Hp->VK->Prop}{g:List PV->Option PV}[sr:vE r g][sa:QL ta as]:SemE (tCB r ta) (x9 g as) where
 h:=λe _ _ _ _ _ rs _ q=>by
  obtain ⟨xs,ex,e1⟩:=bind_some e;exact sa.h ex rs λvs Hs1 H1 x1 r1=>sr.h e1 x1.s3 r1 λv Hs' H' x r=>q v _ _ (x1.trans x) r
instance {r:List V->Hp->VK->Prop}{g:List PV->Option PV}[sr:JH r g][sa:QL ta as]:xR (tCB r ta) (x9 g as) where
 h:=λe _ _ _ _ _ rs _ q=>by
  obtain ⟨xs,ex,e1⟩:=bind_some e;exact sa.h ex rs λvs Hs1 H1 x1 r1=>sr.h e1 x1.s3 r1 λv Hs' H' x n n' r=>q v _ _ (x1.trans x) (x1.s2.free n) n' r
theorem xP (h:wK Hs H [x] vs):∃ v,vs=[v]/\RepB Hs H x v:=by obtain ⟨v,r,rfl,a,b⟩:=h;cases (show r=[] from b);exact ⟨v,rfl,a⟩
theorem Tb (h:wK Hs H [x,y] vs):∃ v w,vs=[v,w]/\RepB Hs H x v/\RepB Hs H y w:=by obtain ⟨v,r,rfl,a,b⟩:=h;obtain ⟨w,rfl,c⟩:=xP b;exact ⟨v,w,rfl,a,c⟩
inductive Out where
 |nx (ε:ME)|rt (y:PV)|bk (ε:ME)|ct (ε:ME)
abbrev MS:=ME->Option Out
def OutK (fr:Bool)(Hs0 H0:Hp)(D:xQ):Out->Prop
 | .nx ε=>∀ Hs H σ,RS Hs0 H0 Hs H σ ε->D.nx σ H
 | .bk ε=>∀ Hs H σ,RS Hs0 H0 Hs H σ ε->D.bk σ H
 | .ct ε=>∀ Hs H σ,RS Hs0 H0 Hs H σ ε->D.ct σ H
 | .rt y=>match fr with
  |true=>∀ a Hs H,Ext Hs0 H0 Hs H->H0 a=none->Hs a=none->Top Hs H a y->D.rt (.ref a) H
  |false=>∀ v Hs H,Ext Hs0 H0 Hs H->Rep Hs y v->D.rt v H
class qd (fr:Bool)(ts:TS)(f:MS):Prop where
 h:∀{ε o},f ε=some o->∀{Hs0 H0 Hs H σ},RS Hs0 H0 Hs H σ ε->∀{D:xQ},OutK fr Hs0 H0 D o->ts D σ H
variable {fr:Bool}
def n6:MS:=λε=>some (.nx ε)
instance:qd fr YQ n6 where
 h:=λe _ _ _ _ _ rs _ q=>by cases e;exact q _ _ _ rs
def v3 (a b:MS):MS:=λε=>(a ε).bind λo=>match o with
 | .nx ε'=>b ε'
 |o=>some o
instance {t u:TS}{a b:MS}[sa:qd fr t a][sb:qd fr u b]:qd fr (tSeq t u) (v3 a b) where
 h:=λe _ _ _ _ _ rs D q=>by
  obtain ⟨o,eo,e1⟩:=bind_some e;refine sa.h eo rs ?_;cases o with
  |nx ε'=>exact λHs H σ r=>sb.h e1 r q
  |rt y=>cases e1;exact q
  |bk ε'=>cases e1;exact q
  |ct ε'=>cases e1;exact q
def zT (a:M):MS:=λε=>(a ε).bind λ_=>some (.nx ε)
instance (priority:=100)[sa:f6 te a]:qd fr (wu te) (zT a) where
 h:=λe _ _ _ _ _ rs _ q=>by
  obtain ⟨x,ex,e1⟩:=bind_some e;cases e1;exact sa.h ex rs λv Hs1 H1 x1 r1=>q _ _ _ (rs.go x1)
def y9 (a:M):MS:=λε=>(a ε).bind λx=>some (.rt x)
instance [sa:SemE te a]:qd false (ww te) (y9 a) where
 h:=λe _ _ _ _ _ rs _ q=>by
  obtain ⟨x,ex,e1⟩:=bind_some e;cases e1;exact sa.h ex rs λv Hs1 H1 x1 r1=>q _ _ _ (rs.ext.trans x1) r1
instance [sa:xR te a]:qd true (ww te) (y9 a) where
 h:=λe _ _ _ _ _ rs _ q=>by
  obtain ⟨x,ex,e1⟩:=bind_some e;cases e1;exact sa.h ex rs λv Hs1 H1 x1 n n' r1=>q _ _ _ (rs.ext.trans x1) (rs.ext.s2.free n) n' r1
def Xv (i:Nat):M:=λε=>match ε[i]? with
 |some (.ow x)=>some x
 |_=>none
instance {i:Nat}:qd true (ww (qG i)) (y9 (Xv i)) where
 h:=λe _ _ _ _ _ rs _ q=>by
  obtain ⟨x,ex,e1⟩:=bind_some e;cases e1;unfold Xv at ex;split at ex
  ·rename_i y hy;cases ex;obtain ⟨a,ha,n0,n,t⟩:=rs.ow i _ hy;exact ⟨_,ha,q _ _ _ rs.ext n0 n t⟩
  ·cases ex
def m3 (c:MB)(a b:MS):MS:=λε=>(c ε).bind λk=>if k=true then a ε else b ε
instance {ta tb:TS}{a b:MS}[sc:xn t c][sa:qd fr ta a][sb:qd fr tb b]:qd fr (tIfS t ta tb) (m3 c a b) where
 h:=λe _ _ _ _ _ rs _ q=>by
  obtain ⟨k,ex,e1⟩:=bind_some e;refine sc.h ex rs λHs1 H1 x1=>?_;cases k with
  |true=>exact zC (sa.h e1 (rs.go x1) q)
  |false=>exact zB (sb.h e1 (rs.go x1) q)
def xp:MS:=λ_=>none
instance:qd fr Cm xp where
 h:=λe=>by cases e
abbrev MG:=PV->ME->Option ME
def But (ts:List Nat)(σ σ':St):Prop:=σ'.length=σ.length/\∀ j,j∉ts->σ'[j]?=σ[j]?
theorem But.refl (σ:St):But [] σ σ:=⟨rfl,λ_ _=>rfl⟩
theorem But.trans {a b:List Nat}{σ1 σ2:St}(x:But a σ σ1)(y:But b σ1 σ2):But (a++b) σ σ2 :=
 ⟨y.1.trans x.1,λj hj=>(y.2 j λz=>hj (yc.mpr (.inr z))).trans (x.2 j λz=>hj (yc.mpr (.inl z)))⟩
theorem But.wk (b:But ts σ σ')(h:∀ i∈ts,σ[i]?=some none):Wk σ σ':=by refine ⟨b.1.symm,λi v e=>?_⟩;rw [b.2 i λz=>by rw [h i z] at e;cases e];exact e
class wM (tg:TG)(ts:outParam (List Nat))(g:MG):Prop where
 h:∀{x ε ε'},g x ε=some ε'->∀{Hs0 H0 Hs H σ v},RS Hs0 H0 Hs H σ ε->Rep Hs x v->∀{Q:St->Hp->Prop},(∀ σ',RS Hs0 H0 Hs H σ' ε'->But ts σ σ'->Q σ' H)->tg v σ H Q
class wN (tg:TGs)(ts:outParam (List Nat))(g:List PV->ME->Option ME):Prop where
 h:∀{xs ε ε'},g xs ε=some ε'->∀{Hs0 H0 Hs H σ vs},RS Hs0 H0 Hs H σ ε->Reps Hs xs vs->∀{Q:St->Hp->Prop},(∀ σ',RS Hs0 H0 Hs H σ' ε'->But ts σ σ'->Q σ' H)->tg vs σ H Q
def v7 (i:Nat):MG:=λx ε=>some (ε.set i (.sh x))
instance {i:Nat}:wM (qV i) [i] (v7 i) where
 h:=λe _ _ _ _ _ _ rs r _ q=>by
  cases e;exact q _ (rs.put r) ⟨yg,λj hj=>yq λz=>hj (by rw [<- z];exact yJ.mpr rfl)⟩
def qO:List PV->ME->Option ME:=λxs ε=>match xs with
 |[]=>some ε
 |_=>none
def c6 (g:MG)(r:List PV->ME->Option ME):List PV->ME->Option ME:=λxs ε=>match xs with
 |x::xs=>(g x ε).bind (r xs)
 |_=>none
instance:wN gNil [] qO where
 h:=λ{xs ε ε'} e {_ _ _ _ _ _} rs r {_} q=>by
  unfold qO at e;split at e
  ·cases e;exact ⟨reps_nil.mp r,q _ rs (.refl _)⟩
  ·cases e
instance Sk {t:TG}{u:TGs}{a b:List Nat}{g:MG}{r:List PV->ME->Option ME}[sg:wM t a g][sr:wN u b r]:wN (Vm t u) (a++b) (c6 g r) where
 h:=λ{xs ε ε'} e {_ _ _ _ _ _} rs rr {_} q=>by
  unfold c6 at e;split at e
  ·obtain ⟨ε1,e1,e2⟩:=bind_some e;obtain ⟨v,w,rfl,r1,r2⟩:=reps_cons.mp rr;exact ⟨v,w,rfl,sg.h e1 rs r1 λσ1 rs1 b1=>sr.h e2 rs1 r2 λσ2 rs2 b2=>q _ rs2 (b1.trans b2)⟩
  ·cases e
instance (priority:=2000){i:Nat}{u:TGs}{b:List Nat}{r:List PV->ME->Option ME}[sr:wN u b r]:wN (Vm (qV i) u) (i::b) (c6 (v7 i) r) where
 h:=λe _ _ _ _ _ _ rs rr _ q=>(Sk (t:=qV i) (a:=[i]) (g:=v7 i)).h e rs rr q
def qP (n:Nat)(g:List PV->ME->Option ME):MG:=λx ε=>match x with
 | .tup xs=>if xs.length=n then g xs ε else none
 |_=>none
instance {t:TGs}{g:List PV->ME->Option ME}[sg:wN t ts g]:wM (gTup K n t) ts (qP n g) where
 h:=λ{x ε ε'} e {_ _ _ _ _ _} rs rr {_} q=>by
  unfold qP at e;split at e
  ·split at e
   ·rename_i hl;obtain ⟨a,vs,rfl,h,r⟩:=rep_tup.mp rr;exact ⟨a,vs,rfl,SqT.of (rs.sub _ _ h),by rw [r.length];exact hl,sg.h e rs r λσ' rs' b=>q _ rs' b⟩
   ·cases e
  ·cases e
def u5 (i:Nat)(a:M):MS:=λε=>(a ε).bind λx=>some (.nx (ε.set i (.sh x)))
def vJ (i:Nat)(a:M):MS:=λε=>(a ε).bind λx=>some (.nx (ε.set i (.ow x)))
instance {i:Nat}[sa:SemE te a]:qd fr (je te (qV i)) (u5 i a) where
 h:=λe _ _ _ _ _ rs _ q=>by
  obtain ⟨x,ex,e1⟩:=bind_some e;cases e1;exact sa.h ex rs λv Hs1 H1 x1 r1=>q _ _ _ ((rs.go x1).put r1)
instance {i:Nat}[sa:xR te a]:qd fr (je te (qV i)) (vJ i a) where
 h:=λe _ _ _ _ _ rs _ q=>by
  obtain ⟨x,ex,e1⟩:=bind_some e;cases e1;refine sa.h ex rs λp Hs1 H1 x1 n n' t=>q _ _ _ ((rs.go x1).putO ⟨rs.ext.s2.free n,n',t⟩ λj y hj z=>?_);obtain ⟨b,hb,_,_,tb⟩:=rs.ow j y hj;rw [z] at hb;injection hb with hb;injection hb with hb;injection hb with hb;subst hb;exact tb.there n
def dAsg (g:MG)(a:M):MS:=λε=>(a ε).bind λx=>(g x ε).bind λε'=>some (.nx ε')
instance (priority:=500){g:MG}[sa:SemE te a][sg:wM tg ts g]:qd fr (je te tg) (dAsg g a) where
 h:=λe _ _ _ _ _ rs _ q=>by
  obtain ⟨x,ex,e1⟩:=bind_some e;obtain ⟨ε',e2,e3⟩:=bind_some e1;cases e3;exact sa.h ex rs λv Hs1 H1 x1 r1=>sg.h e2 (rs.go x1) r1 λσ' rs' _=>q _ _ _ rs'
def pIp (g:Int->Int->Int):PV->PV->Option PV
 | .at (.int i),.at (.int j)=>some (.at (.int (g i j)))
 |_,_=>none
def dAug (i:Nat)(g:PV->PV->Option PV)(a:M):MS:=λε=>(q8 i ε).bind λx=>(a ε).bind λy=>(g x y).bind λz=>some (.nx (ε.set i (.sh z)))
def jk (i:Nat)(a:M):MS:=λε=>(a ε).bind λx=>match ε[i]? with
 |some (.ow (.lst xs))=>if xs.length<=lim then some (.nx (ε.set i (.ow (.lst (xs++[x]))))) else none
 |_=>none
instance {i:Nat}[sa:SemE te a]:qd fr (wu (tBM K "list" Wr (qG i) (i4 te ql))) (jk i a) where
 h:=λe _ _ _ _ _ rs _ q=>by
  obtain ⟨x,ex,e1⟩:=bind_some e;split at e1
  ·rename_i xs hi;split at e1
   ·rename_i hl;cases e1;obtain ⟨p,hp,n0,n,vs,hv,rv⟩:=rs.ow i _ hi;refine ⟨_,hp,.inl ⟨rfl,vs,SqL.of hv⟩,sa.h ex rs λv Hs1 H1 x1 r1=>?_⟩;have hv1:=x1.s2 _ _ hv;refine ⟨p,vs,v,rfl,rfl,hv1,VI (by rw [rv.length];exact hl),q _ _ _ ((rs.go x1).change hi hp ⟨_,g0,(rv.mono x1.s1).append (.one r1)⟩)⟩
   ·cases e1
  ·cases e1
def dExtend (i:Nat)(a:M):MS:=λε=>(a ε).bind λx=>match x with
 | .lst ys=>(match ε[i]? with
  |some (.ow (.lst xs))=>if xs.length+ys.length<=lim then some (.nx (ε.set i (.ow (.lst (xs++ys))))) else none
  |_=>none)
 |_=>none
structure jf (J:It)(xs:List PV)(Hs:Hp):Prop where
 go:∀(i:Nat)(x:PV)(Hs1 H1:Hp),xs[i]?=some x->Same Hs Hs1->Same Hs1 H1->J.go i H1/\∀ v H2,J.yld i H1 v H2->∃ Hs2,Ext Hs1 H1 Hs2 H2/\Rep Hs2 x v
 stop:∀(Hs1 H1:Hp),Same Hs Hs1->Same Hs1 H1->J.stop xs.length H1
class zR (ti:TI)(f:MA):Prop where
 h:∀{ε xs},f ε=some xs->∀{Hs0 H0 Hs H σ},RS Hs0 H0 Hs H σ ε->∀{R:It->Hp->Prop},(∀ J Hs' H',Ext Hs H Hs' H'->jf J xs Hs'->R J H')->ti σ H R
def m5 (a:M):MA:=λε=>(a ε).bind λx=>match x with
 | .lst xs=>some xs
 |_=>none
def dItT (a:M):MA:=λε=>(a ε).bind λx=>match x with
 | .tup xs=>some xs
 |_=>none
theorem Lx {a:Addr}(h:Hs a=some (.lst vs))(r:Reps Hs xs vs):jf (Itl K a) xs Hs where
 go:=λi x Hs1 H1 e g1 g2=>by
  obtain ⟨v,ev,rv⟩:=r.get e;refine ⟨⟨vs,v,SqL.of (g2 _ _ (g1 _ _ h)),ev⟩,λw H2 y=>?_⟩;obtain ⟨rfl,y⟩:=y;have z:=y vs (SqL.of (g2 _ _ (g1 _ _ h)));rw [ev] at z;cases z;exact ⟨Hs1,.refl g2,rv.mono g1⟩
 stop:=λHs1 H1 g1 g2=>⟨vs,SqL.of (g2 _ _ (g1 _ _ h)),by rw [r.length];exact yV _⟩
theorem LA {a:Addr}(h:Hs a=some (.tup vs))(r:Reps Hs xs vs):jf (Itt K a) xs Hs where
 go:=λi x Hs1 H1 e g1 g2=>by
  obtain ⟨v,ev,rv⟩:=r.get e;refine ⟨⟨vs,v,SqT.of (g2 _ _ (g1 _ _ h)),ev⟩,λw H2 y=>?_⟩;obtain ⟨rfl,y⟩:=y;have z:=y vs (SqT.of (g2 _ _ (g1 _ _ h)));rw [ev] at z;cases z;exact ⟨Hs1,.refl g2,rv.mono g1⟩
 stop:=λHs1 H1 g1 g2=>⟨vs,SqT.of (g2 _ _ (g1 _ _ h)),by rw [r.length];exact yV _⟩
instance [sa:SemE te a]:zR (Vs K te) (m5 a) where
 h:=λe _ _ _ _ _ rs _ q=>by
  obtain ⟨x,ex,e1⟩:=bind_some e;split at e1
  ·cases e1;refine sa.h ex rs λv Hs1 H1 x1 r1=>?_;obtain ⟨p,vs,rfl,hp,r⟩:=rep_lst.mp r1;exact ⟨p,rfl,⟨vs,SqL.of (x1.s3 _ _ hp)⟩,q _ _ _ x1 (Lx hp r)⟩
  ·cases e1
instance [sa:SemE te a]:zR (iTup K te) (dItT a) where
 h:=λe _ _ _ _ _ rs _ q=>by
  obtain ⟨x,ex,e1⟩:=bind_some e;split at e1
  ·cases e1;refine sa.h ex rs λv Hs1 H1 x1 r1=>?_;obtain ⟨p,vs,rfl,hp,r⟩:=rep_tup.mp r1;exact ⟨p,rfl,⟨vs,SqT.of (x1.s3 _ _ hp)⟩,q _ _ _ x1 (LA hp r)⟩
  ·cases e1
def zn (lo:Int)(n:Nat):List PV:=(List.range n).map λ(i:Nat)=> .at (.int (lo+i))
theorem wg :(zn lo n).length=n:=by unfold zn;rw [yZ,uZ]
theorem Tg {i:Nat}(h:(zn lo n)[i]?=some x):i<n/\x = .at (.int (lo+i)):=by
 have hl:i<n:=by have:=(yB.mp h).1;rw [wg] at this;exact this
 refine ⟨hl,?_⟩;unfold zn at h;rw [yP,List.getElem?_range hl] at h;cases h;rfl
theorem Ly :jf (Itr lo n) (zn lo n) Hs where
 go:=λi x Hs1 H1 e g1 g2=>by
  obtain ⟨hl,rfl⟩:=Tg e;refine ⟨hl,λv H2 y=>?_⟩;obtain ⟨rfl,rfl⟩:=y;exact ⟨Hs1,.refl g2,rep_at.mpr rfl⟩
 stop:=λHs1 H1 g1 g2=>by show n<=_;rw [wg];exact yV _
def xq (a:MA):MA:=λε=>(a ε).bind λxs=>match xs with
 |[.at (.int j)]=>if -(lim:Int)<=j/\j<=lim then some (zn 0 j.toNat) else none
 |_=>none
instance {a:MA}[sa:xa ta a]:zR (Qe ta) (xq a) where
 h:=λe _ _ _ _ _ rs _ q=>by
  obtain ⟨xs,ex,e1⟩:=bind_some e;split at e1
  ·rename_i j;split at e1
   ·rename_i hl;cases e1;refine sa.h ex rs λvs Hs1 H1 x1 r1=>?_;obtain ⟨v,r,rfl,p1,p2⟩:=reps_cons.mp r1;cases reps_nil.mp p2;cases rep_at.mp p1;have hlim:(lim:Int)=1000000:=rfl;exact ⟨j,rfl,by omega,by omega,q _ _ _ x1 Ly⟩
   ·cases e1
  ·cases e1
def r6 (g:MG)(f:MS):List PV->ME->Option Out
 |[],ε=>some (.nx ε)
 |x::xs,ε=>(g x ε).bind λε1=>(f ε1).bind λo=>match o with
  | .nx ε2=>r6 g f xs ε2
  | .ct ε2=>r6 g f xs ε2
  | .bk ε2=>some (.nx ε2)
  | .rt y=>some (.rt y)
def xb (i:MA)(g:MG)(f:MS):MS:=λε=>(i ε).bind λxs=>r6 g f xs ε
theorem OutK.unbase {D:xQ}(x:Ext Hs0 H0 Hb H):∀{o:Out},OutK fr Hs0 H0 D o->OutK fr Hb H0 D o
 | .nx _,h=>λHs H σ r=>h _ _ _ (RS.unbase x r)
 | .bk _,h=>λHs H σ r=>h _ _ _ (RS.unbase x r)
 | .ct _,h=>λHs H σ r=>h _ _ _ (RS.unbase x r)
 | .rt _,h=>by
  cases fr with
  |true=>exact λa Hs H e n n' t=>h a Hs H (x.unbase e) n n' t
  |false=>exact λa Hs H e r=>h a Hs H (x.unbase e) r
instance {tb:TS}{i:MA}{g:MG}{f:MS}[si:zR wi i][sg:wM tg ts g][sf:qd fr tb f]:qd fr (tFor wi tg tb) (xb i g f) where
 h:=λe Hs0 H0 _ _ _ rs D q=>by
  obtain ⟨xs,ex,e1⟩:=bind_some e;refine si.h ex rs λJ Hs1 H1 x1 ok=>?_;have rs1:=rs.go x1;have q1:=OutK.unbase rs1.ext q;refine ⟨λk m σ H=>m=xs.length-k/\k<=xs.length/\∃ Hs ε,RS Hs1 H0 Hs H σ ε/\r6 g f (xs.drop k) ε=some _,⟨xs.length,by simp,uY _,Hs1,_,rs1.rebase,e1⟩,?_⟩;rintro k m σ H ⟨rfl,hk,Hs,ε,r,el⟩;by_cases hlt:k<xs.length
  ·have hd:xs.drop k=xs[k]::xs.drop (k+1):=uD hlt;rw [hd] at el;unfold r6 at el;obtain ⟨ε1,eg,el1⟩:=bind_some el;obtain ⟨o,eo,el2⟩:=bind_some el1;obtain ⟨go,yl⟩:=ok.go k xs[k] Hs H (by simp [hlt]) r.ext.s1 r.ext.s3;refine .inr ⟨go,λσ' H'=>k+1<=xs.length/\∃ Hs ε,RS Hs1 H0 Hs H' σ' ε/\r6 g f (xs.drop (k+1)) ε=some _,λσ' H' p=>⟨xs.length-(k+1),by omega,rfl,p.1,p.2⟩,λv H2 y=>?_⟩;obtain ⟨Hs2,x2,r2⟩:=yl v H2 y;refine sg.h eg (r.go x2) r2 λσ2 rs2 _=>sf.h eo rs2 ?_;cases o with
   |nx ε2=>exact λHs3 H3 σ3 r3=>⟨hlt,Hs3,ε2,r3,el2⟩
   |ct ε2=>exact λHs3 H3 σ3 r3=>⟨hlt,Hs3,ε2,r3,el2⟩
   |bk ε2=>cases el2;exact q1
   |rt y=>cases el2;exact q1
  ·have ek:k=xs.length:=by omega
   subst ek;rw [tR] at el;unfold r6 at el;cases el;exact .inl ⟨ok.stop Hs H r.ext.s1 r.ext.s3,q1 _ _ _ r⟩
def qm (cap:List (Option Nat))(ε:ME):ME:=cap.map λo=>match o with
 |none=> .no
 |some i=>(ε[i]?).getD .no
def xT (g:MG)(c:MB)(f:M)(ε0:ME):List PV->Option (List PV)
 |[]=>some []
 |x::xs=>(g x ε0).bind λε1=>(c ε1).bind λb=>if b=true then (f ε1).bind λy=>(xT g c f ε0 xs).bind λys=>some (y::ys) else xT g c f ε0 xs
def n9:MB:=λ_=>some true
instance:xn tYes n9 where
 h:=λe _ _ _ _ _ rs _ q=>by cases e;exact q _ _ (.refl rs.sub)
def vI (cap:List (Option Nat))(ts:List Nat):Bool:=decide (cap.filterMap id).Nodup&&ts.all λi=>decide (cap[i]?=some none)
def m8 (cap:List (Option Nat))(ts:List Nat)(i:MA)(g:MG)(c:MB)(f:M):M:=λε=>(i ε).bind λxs=>if vI cap ts=true/\xs.length<=lim then (xT g c f (qm cap ε) xs).bind λys=>some (.lst ys) else none
theorem RS.cap {cap:List (Option Nat)}(hc:(cap.filterMap id).Nodup)(r:RS Hs0 H0 Hs H σ ε):RS Hs0 H0 Hs H (i0 cap σ) (qm cap ε):=by
 have inj:∀(i j k:Nat),cap[i]?=some (some k)->cap[j]?=some (some k)->i=j:=by
  clear r
  induction cap with
  |nil=>intro i j k h;simp at h
  |cons o cap ih =>
   intro i j k hi hj;have no:∀(l:Nat),o=some k->cap[l]?=some (some k)->False:=λl ho hl=>by
    subst ho;rw [List.filterMap_cons_some (by rfl)] at hc;exact (yp.mp hc).1 (ud.mpr ⟨some k,yh hl,rfl⟩)
   have hc':(cap.filterMap id).Nodup:=by
    cases o with
    |none=>rwa [List.filterMap_cons_none (by rfl)] at hc
    |some m=>rw [List.filterMap_cons_some (by rfl)] at hc;exact (yp.mp hc).2
   cases i with
   |zero =>
    cases j with
    |zero=>rfl
    |succ j=>exact (no j (by simpa using hi) (by simpa using hj)).elim
   |succ i =>
    cases j with
    |zero=>exact (no i (by simpa using hj) (by simpa using hi)).elim
    |succ j=>rw [ih hc' i j k (by simpa using hi) (by simpa using hj)]
 have at1:∀(i:Nat)(sl:MSlot),(qm cap ε)[i]?=some sl->sl = .no∨∃ k,cap[i]?=some (some k)/\ε[k]?=some sl:=by
  intro i sl h;unfold qm at h;rw [yP] at h;cases ho:cap[i]? with
  |none=>rw [ho] at h;cases h
  |some o =>
   rw [ho] at h;cases o with
   |none=>cases h;exact .inl rfl
   |some k =>
    cases hk:ε[k]? with
    |none=>simp only [uK,hk,tT] at h;cases h;exact .inl rfl
    |some s=>simp only [uK,hk,Option.getD_some] at h;cases h;exact .inr ⟨k,rfl,hk⟩
 have at2:∀(i k:Nat),cap[i]?=some (some k)->∀ v,σ[k]?=some (some v)->(i0 cap σ)[i]?=some (some v):=by intro i k h v e;unfold i0;rw [yP,h];simp [e]
 have at3:∀(i k:Nat)(v:V),cap[i]?=some (some k)->(i0 cap σ)[i]?=some (some v)->σ[k]?=some (some v):=by
  intro i k v h e;unfold i0 at e;rw [yP,h] at e;simp only [uK,yK,Option.some.injEq] at e;cases hs:σ[k]? with
  |none=>rw [hs] at e;cases e
  |some o=>rw [hs] at e;simp at e;rw [e]
 refine ⟨r.ext,λi x h=>?_,λi x h=>?_,λi j x y a h1 h2 h3 h4=>?_,by unfold i0 qm;rw [yZ,yZ],λi x h=>?_⟩
 ·rcases at1 i _ h with z|⟨k,hk,e⟩
  ·cases z
  ·obtain ⟨v,hv,rv⟩:=r.sh k x e;exact ⟨v,at2 i k hk v hv,rv⟩
 ·rcases at1 i _ h with z|⟨k,hk,e⟩
  ·cases z
  ·obtain ⟨v,hv,rv⟩:=r.ow k x e;exact ⟨v,at2 i k hk _ hv,rv⟩
 ·rcases at1 i _ h1 with z|⟨k,hk,e⟩
  ·cases z
  ·rcases at1 j _ h2 with z|⟨l,hl,e'⟩
   ·cases z
   ·have kl:=r.nd k l x y a e e' (at3 i k _ hk h3) (at3 j l _ hl h4);subst kl;exact inj i j k hk hl
 ·rcases at1 i _ h with z|⟨k,hk,e⟩
  ·cases z
  ·obtain ⟨v,hv,rv⟩:=r.bo k x e;exact ⟨v,at2 i k hk _ hv,rv⟩
theorem Reps.snoc (r:Reps H xs vs)(p:Rep H x v):Reps H (xs++[x]) (vs++[v]):=r.append (.one p)
instance {tt:TT}{cap:List (Option Nat)}{i:MA}{g:MG}{f:M}[si:zR wi i][sg:wM tg ts g][sc:xn tt c][sf:SemE te f]:xR (Jy wi tg tt te cap) (m8 cap ts i g c f) where
 h:=λe Hs0 H0 Hs H σ rs Q q=>by
  obtain ⟨xs,ex,e1⟩:=bind_some e;split at e1
  ·rename_i hcl;obtain ⟨hcap,hl⟩:=hcl;unfold vI at hcap;rw [yf] at hcap;obtain ⟨ys,ey,e2⟩:=bind_some e1;cases e2;refine si.h ex rs λJ Hs1 H1 x1 ok=>?_;have rc:=((rs.go x1).cap (uT hcap.1)).rebase;have wk:∀ i∈ts,(i0 cap σ)[i]?=some none:=λi hi=>by
    unfold i0;rw [yP,uT (uE.mp hcap.2 i hi)];rfl
   refine ⟨λk m zs H=>m=xs.length-k/\k<=xs.length/\∃ Hs2 ws,Ext Hs1 H1 Hs2 H/\RS Hs1 H0 Hs2 H (i0 cap σ) (qm cap _)/\Reps Hs2 ws zs/\ws.length<=k/\∃ rest,xT g c f (qm cap _) (xs.drop k)=some rest/\ys=ws++rest,
    ⟨xs.length,by simp,uY _,Hs1,[],.refl x1.s3,rc,.nil,yV _,ys,ey,rfl⟩,?_⟩
   rintro k m zs H2 ⟨rfl,hk,Hs2,ws,x2,r2,rz,hw,rest,er,eys⟩;refine ⟨xX (by rw [rz.length];omega),?_⟩;by_cases hlt:k<xs.length
   ·have hd:xs.drop k=xs[k]::xs.drop (k+1):=uD hlt;rw [hd] at er;unfold xT at er;obtain ⟨ε1,eg,er1⟩:=bind_some er;obtain ⟨b,eb,er2⟩:=bind_some er1;obtain ⟨go,yl⟩:=ok.go k xs[k] Hs2 H2 (by simp [hlt]) x2.s1 x2.s3;refine .inr ⟨go,λv H3 y=>?_⟩;obtain ⟨Hs3,x3,r3⟩:=yl v H3 y;refine sg.h eg (r2.go x3) r3 λσ2 rs2 bt=>⟨bt.wk wk,sc.h eb rs2 λHs4 H4 x4=>?_⟩;cases b with
    |true =>
     rw [if_pos rfl] at er2;obtain ⟨z,ez,er3⟩:=bind_some er2;obtain ⟨rest',er4,er5⟩:=bind_some er3;cases er5;refine zC (sf.h ez (rs2.go x4) λu Hs5 H5 x5 r5=>⟨xs.length-(k+1),by omega,rfl,hlt,Hs5,ws++[z],x2.trans (x3.trans (x4.trans x5)),((r2.go x3).go x4).go x5,?_,?_,rest',er4,?_⟩)
     ·exact (rz.mono (x3.s1.trans (x4.s1.trans x5.s1))).snoc r5
     ·rw [yN];simp;omega
     ·rw [yk];exact eys
    |false=>rw [if_neg yS] at er2;exact zB ⟨xs.length-(k+1),by omega,rfl,hlt,Hs4,ws,x2.trans (x3.trans x4),(r2.go x3).go x4,rz.mono (x3.s1.trans x4.s1),by omega,rest,er2,eys⟩
   ·have ek:k=xs.length:=by omega
    subst ek;rw [tR] at er;unfold xT at er;cases er;refine .inl ⟨ok.stop Hs2 H2 x2.s1 x2.s3,λD hD=>?_⟩;rw [yt] at eys;subst eys;have x12:=x1.trans x2;exact q D Hs2 _ (x12.trans (.newO x2.s3 hD)) (x12.s2.free hD) (x2.s3.free hD) ⟨zs,g0,rz⟩
  ·cases e1
def p6 (n k:Nat)(f:MS):List PV->Option PV:=λxs=>if xs.length=k then (f (xs.map .sh++List.replicate (n-k) .no)).bind λo=>match o with
 | .rt y=>some y
 | .nx _=>some (.at .non)
 |_=>none else none
def qt (n k:Nat)(f:MS):List PV->Option PV:=λxs=>if xs.length=k then (f (xs.map .sh++List.replicate (n-k) .no)).bind λo=>match o with
 | .rt y=>some y
 |_=>none else none
end Mi
namespace Mi
open PySem PySem.Spec PyProof.Rows L2
variable{N ps:List Str}{qual x:Str}{st:Stmt}{f:Addr}{fd:FuncData}{b:MS}{m:List PV->Option PV}
theorem vz {Hs H:Hp}{xs:List PV}{vs:List V}(s:Same Hs H)(r:Reps Hs xs vs):RS Hs H Hs H (L2.start N vs) (xs.map .sh++List.replicate (N.length-xs.length) .no):=by
 have el:=r.length;have at1:∀(i:Nat)(sl:MSlot),(xs.map MSlot.sh++List.replicate (N.length-xs.length) .no)[i]?=some sl->sl = .no∨∃ x,xs[i]?=some x/\sl = .sh x:=by
  intro i sl h;by_cases hi:i<xs.length
  ·rw [yb (by rw [yZ];exact hi),yP] at h;obtain ⟨x,hx,rfl⟩:=yM.mp h;exact .inr ⟨x,hx,rfl⟩
  ·rw [yn (by rw [yZ];omega),uf] at h;split at h
   ·cases h;exact .inl rfl
   ·cases h
 refine ⟨.refl s,λi x h=>?_,λi x h=>?_,λi j x y a h1 _ _ _=>?_,?_,λi x h=>?_⟩
 ·rcases at1 i _ h with z|⟨y,hy,z⟩
  ·cases z
  ·cases z;obtain ⟨v,hv,rv⟩:=r.get hy;refine ⟨v,?_,rv⟩;unfold L2.start;rw [yb (by rw [yZ];exact (yB.mp hv).1),yP,hv];rfl
 ·rcases at1 i _ h with z|⟨y,hy,z⟩<;>cases z
 ·rcases at1 i _ h1 with z|⟨y,hy,z⟩<;>cases z
 ·unfold L2.start;rw [yN,yN,yZ,yZ,tX,tX,el]
 ·rcases at1 i _ h with z|⟨y,hy,z⟩<;>cases z
section
variable {P:Program}{w:World}{K:Fg}{mg:Str->Option Value}{base:Heap}
theorem h8 {k:Nat}(F:Fun K x qual st f fd)(S:y4 N ps (j7 st))(hm:m=p6 N.length ps.length b)(hb:∀(cdv:Value)(A:Around)(outer:List Env)(s:Shared)(H:Hp)(E:XK),Room k (A.deeper (envOfC qual (j7 st) s.heap.objs.size f cdv)) -> ∃ t,PSs (xz v6 P w K mg base N qual (j7 st) f cdv A outer s H E).nox (qo st) t/\qd false t b):FnOk P w K mg base v6 (k+1) f fd ps (j8 m):=by
 subst hm;refine F.ok S (λvs H Q E h=>?_) (λcdv A outer s H vs Q E hr h=>?_)
 ·obtain ⟨Hs,xs,y,_,r,e,_⟩:=h;unfold p6 at e;split at e
  ·rename_i hl;rw [r.length];exact hl
  ·cases e
 ·obtain ⟨Hs,xs,y,sm,r,e,q⟩:=h;obtain ⟨t,ht,sem⟩:=hb cdv A outer s H E hr;refine ⟨t,ht,?_⟩;unfold p6 at e;split at e
  ·rename_i hl;obtain ⟨o,eo,e1⟩:=bind_some e;refine sem.h eo (by rw [<- hl];exact vz sm r) ?_;cases o with
   |rt z=>cases e1;exact λv Hs' H' x rv=>q v Hs' H' x rv
   |nx ε=>cases e1;exact λHs' H' σ rs=>q _ Hs' H' rs.ext (rep_at.mpr rfl)
   |bk ε=>cases e1
   |ct ε=>cases e1
  ·cases e
theorem okO {k:Nat}(F:Fun K x qual st f fd)(S:y4 N ps (j7 st))(hm:m=qt N.length ps.length b)(hb:∀(cdv:Value)(A:Around)(outer:List Env)(s:Shared)(H:Hp)(E:XK),Room k (A.deeper (envOfC qual (j7 st) s.heap.objs.size f cdv)) -> ∃ t,PSs (xz v6 P w K mg base N qual (j7 st) f cdv A outer s H E).nox (qo st) t/\qd true t b):FnOk P w K mg base v6 (k+1) f fd ps (p5 m):=by
 subst hm;refine F.ok S (λvs H Q E h=>?_) (λcdv A outer s H vs Q E hr h=>?_)
 ·obtain ⟨Hs,xs,y,_,r,e,_⟩:=h;unfold qt at e;split at e
  ·rename_i hl;rw [r.length];exact hl
  ·cases e
 ·obtain ⟨Hs,xs,y,sm,r,e,q⟩:=h;obtain ⟨t,ht,sem⟩:=hb cdv A outer s H E hr;refine ⟨t,ht,?_⟩;unfold qt at e;split at e
  ·rename_i hl;obtain ⟨o,eo,e1⟩:=bind_some e;refine sem.h eo (by rw [<- hl];exact vz sm r) ?_;cases o with
   |rt z=>cases e1;exact λa Hs' H' x n n' t=>q a Hs' H' x n n' t
   |nx ε=>cases e1
   |bk ε=>cases e1
   |ct ε=>cases e1
  ·cases e
end
end Mi
namespace Mi
open PySem L2
variable{X:Cx}{K:Fg}{ta:TA}{j:Int}{H H0 Hs Hs0:Hp}{xs ys:List PV}{x y:PV}{v:V}{td te tv ty:TE}{vs ws:List V}{l u:ME->Option (Option Int)}{o:HO}{f nm qual:Str}{tt:TT}{t tb:TS}{S:List Addr}{σ σ':St}{ε ε':ME}{n:Nat}{E:XK}{pre:List PV->Prop}{R:List PV->PV->Prop}{as it:MA}{c:MB}{wi:TI}{tg:TG}{ts:List Nat}{N ns ps:List Str}{st:Stmt}{fd:FuncData}{G:MG}{m:List PV->Option PV}{C:Addr}{e:Expr}{pos:Pos}{pl:Sem Bool}{kvs:List (j4×V)}{α:Type}{sp:Sp}
theorem xg {a:Expr}{ta:TE}(h:X.K=K)(ha:PE X a ta)(he:∀ whole,isTrue a X.env whole=(do let v <- whole;standAt a.pos;holding [v] (truthy v))):PT X a (tTru K ta):=RK h ha he
abbrev vh:PV->PV->Option PV:=pI λi j=>some (.int (i-j))
abbrev pLt:PV->PV->Option PV:=pI λi j=>some (.bl (decide (i<j)))
abbrev pLe:PV->PV->Option PV:=pI λi j=>some (.bl (decide (i<=j)))
abbrev pGt:PV->PV->Option PV:=pI λi j=>some (.bl (decide (j<i)))
abbrev pGe:PV->PV->Option PV:=pI λi j=>some (.bl (decide (j<=i)))
instance {i:Int}:Decidable (zP i j):=by unfold zP;infer_instance
instance {i:Int}:Decidable (jP i j):=by unfold jP;infer_instance
instance {i:Int}:Decidable (jQ i j):=by unfold jQ;infer_instance
abbrev zh:PV->PV->Option PV:=pI λi j=>if zP i j then some (.int (i*j)) else none
abbrev pDiv:PV->PV->Option PV:=pI λi j=>if jP i j then some (.int (i / j)) else none
abbrev pPow:PV->PV->Option PV:=pI λi j=>if jQ i j then some (.int (i ^ j.toNat)) else none
abbrev pNeg:PV->Option PV:=pU λi=> .int (-i)
theorem Reps.nil_of (r:Reps H xs []):xs=[]:=uy.mp r.length.symm
def c7:PV->PV->Option PV
 | .at (.int i),.at (.int j)=>some (.at (.int (i+j)))
 | .at (.str x),.at (.str y)=>if x.length+y.length<=lim then some (.at (.str (x++y))) else none
 | .lst xs,.lst ys=>if xs.length+ys.length<=lim then some (.lst (xs++ys)) else none
 | .tup xs,.tup ys=>if xs≠[]/\xs.length+ys.length<=lim then some (.tup (xs++ys)) else none
 |_,_=>none
instance :xy (BV K) c7 where
 h:=λ{x y z} e {Hs H v w} s a b {Q} q=>by
  unfold c7 at e;split at e
  ·cases e;exact .inl ⟨_,_,b8 a,b8 b,q _ _ _ (.refl s) (rep_at.mpr rfl)⟩
  ·split at e
   ·rename_i hl;cases e;exact .inr (.inl ⟨_,_,b8 a,b8 b,xX hl,q _ _ _ (.refl s) (rep_at.mpr rfl)⟩)
   ·cases e
  ·split at e
   ·rename_i hl;cases e;obtain ⟨p,vs,rfl,e1,r1⟩:=qr s a;obtain ⟨p',ws,rfl,e2,r2⟩:=qr s b;refine .inr (.inr (.inl ⟨p,p',vs,ws,rfl,rfl,SqL.of e1,SqL.of e2,xX (by rw [r1.length,r2.length];exact hl),λl hl=>?_⟩));exact q _ _ _ (.new s hl) (rep_lst.mpr ⟨l,_,rfl,g0,(r1.append r2).mono (Ext.new s hl).s1⟩)
   ·cases e
  ·split at e
   ·rename_i hl;cases e;obtain ⟨p,vs,rfl,e1,r1⟩:=xk s a;obtain ⟨p',ws,rfl,e2,r2⟩:=xk s b;have hn:vs≠[]:=λz=>by
     have h1:=r1.length;rw [z] at h1;exact hl.1 (uy.mp h1.symm)
    refine .inr (.inr (.inr ⟨p,p',vs,ws,rfl,rfl,SqT.of e1,SqT.of e2,hn,xX (by rw [r1.length,r2.length];exact hl.2),λz=>?_,λz l hl=>?_⟩))
    ·subst z;cases r2.nil_of;rw [yt] at q;rcases a with a|⟨_,_,_,t⟩
     ·exact q _ _ _ (.refl s) a
     ·exact t.elim
    ·exact q _ _ _ (.new s hl) (rep_tup.mpr ⟨l,_,rfl,g0,(r1.append r2).mono (Ext.new s hl).s1⟩)
   ·cases e
  ·cases e
def qv:List PV->Option PV
 |[.at (.str x)]=>if x.length<=lim then some (.at (.int x.length)) else none
 |[.lst xs]=>some (.at (.int xs.length))
 |[.tup xs]=>some (.at (.int xs.length))
 |[.dk ks _]=>some (.at (.int ks.length))
 |_=>none
instance :vE (QC K) qv where
 h:=λ{xs z} e {Hs H vs} s r {Q} q=>by
  unfold qv at e;split at e
  ·split at e
   ·rename_i hl;cases e;obtain ⟨v,rfl,a⟩:=xP r;cases b8 a;exact .inl ⟨_,_,rfl,⟨xX hl,rfl⟩,q _ _ _ (.refl s) (rep_at.mpr rfl)⟩
   ·cases e
  ·cases e;obtain ⟨v,rfl,a⟩:=xP r;obtain ⟨p,ws,rfl,e1,r1⟩:=qr s a;exact .inl ⟨_,_,rfl,.inl ⟨ws,SqL.of e1,rfl⟩,q _ _ _ (.refl s) (rep_at.mpr (by rw [r1.length]))⟩
  ·cases e;obtain ⟨v,rfl,a⟩:=xP r;obtain ⟨p,ws,rfl,e1,r1⟩:=xk s a;exact .inl ⟨_,_,rfl,.inr ⟨ws,SqT.of e1,rfl⟩,q _ _ _ (.refl s) (rep_at.mpr (by rw [r1.length]))⟩
  ·cases e;obtain ⟨v,rfl,a⟩:=xP r;obtain ⟨p,kvs,rfl,e1,k,r1⟩:=vx s a;exact .inr ⟨p,kvs,rfl,e1,q _ _ _ (.refl s) (rep_at.mpr (by rw [<- k,yZ]))⟩
  ·cases e
def Qv:List PV->Option PV
 |[.lst xs]=>some (.lst xs)
 |[.tup xs]=>some (.lst xs)
 |_=>none
instance :JH (Pc K) Qv where
 h:=λ{xs z} e {Hs H vs} s r {Q} q=>by
  unfold Qv at e;split at e
  ·cases e;obtain ⟨v,rfl,a⟩:=xP r;obtain ⟨p,ws,rfl,e1,r1⟩:=qr s a;exact ⟨p,ws,rfl,.inl (SqL.of e1),λl hl=>q l _ _ (.newO s hl) hl (s.free hl) ⟨ws,g0,r1⟩⟩
  ·cases e;obtain ⟨v,rfl,a⟩:=xP r;obtain ⟨p,ws,rfl,e1,r1⟩:=xk s a;exact ⟨p,ws,rfl,.inr (SqT.of e1),λl hl=>q l _ _ (.newO s hl) hl (s.free hl) ⟨ws,g0,r1⟩⟩
  ·cases e
def tyP:PV->Option String
 | .at .non=>some "NoneType"
 | .at (.bl _)=>some "bool"
 | .at (.int _)=>some "int"
 | .at (.str _)=>some "str"
 | .lst _=>some "list"
 | .tup _=>some "tuple"
 | .dk _ _=>some "dict"
 |_=>none
theorem SU {T:String}(s:Same Hs H)(r:RepB Hs H x v)(e:tyP x=some T):xF K H v (.type T):=by
 unfold tyP at e;split at e
 ·cases e;cases b8 r;exact .non
 ·cases e;cases b8 r;exact .bl _
 ·cases e;cases b8 r;exact .int _
 ·cases e;cases b8 r;exact .str _
 ·cases e;obtain ⟨p,ws,rfl,e1,r1⟩:=qr s r;exact .lst e1
 ·cases e;obtain ⟨p,ws,rfl,e1,r1⟩:=xk s r;exact .tup e1
 ·cases e;obtain ⟨p,ws,rfl,e1,_⟩:=vx s r;exact .dK e1
 ·cases e
def qQ:List PV->Option PV
 |[x,.at (.ty n)]=>(tyP x).bind λT=>(tyB T n).bind λb=>some (.at (.bl b))
 |_=>none
instance :vE (rIsi K) qQ where
 h:=λ{xs z} e {Hs H vs} s r {Q} q=>by
  unfold qQ at e;split at e
  ·obtain ⟨T,eT,e1⟩:=bind_some e;obtain ⟨b,eb,e2⟩:=bind_some e1;cases e2;obtain ⟨v,w,rfl,a,c⟩:=Tb r;cases b8 c;exact ⟨v,_,T,b,rfl,SU s a eT,eb,q _ _ _ (.refl s) (rep_at.mpr rfl)⟩
  ·cases e
def bls:List PV->Option (List Bool)
 |[]=>some []
 | .at (.bl b)::xs=>(bls xs).map (b::·)
 |_::_=>none
theorem GL:∀{xs:List PV}{bs:List Bool},bls xs=some bs->xs=bs.map λb=> .at (.bl b)
 |[],_,h=>by cases h;rfl
 |x::xs,bs,h=>by
  unfold bls at h;split at h
  ·rename_i heq;cases heq
  ·rename_i b ys heq;injection heq with h1 h2;obtain ⟨r,e,rfl⟩:=yM.mp h;subst h2;rw [h1,yO,GL e]
  ·cases h
def js:List PV->Option (List Int)
 |[]=>some []
 | .at (.int b)::xs=>(js xs).map (b::·)
 |_::_=>none
theorem Vw:∀{xs:List PV}{bs:List Int},js xs=some bs->xs=bs.map λb=> .at (.int b)
 |[],_,h=>by cases h;rfl
 |x::xs,bs,h=>by
  unfold js at h;split at h
  ·rename_i heq;cases heq
  ·rename_i b ys heq;injection heq with h1 h2;obtain ⟨r,e,rfl⟩:=yM.mp h;subst h2;rw [h1,yO,Vw e]
  ·cases h
def jb:List PV->Option PV
 |[.lst xs]=>(bls xs).bind λbs=>some (.at (.bl (bs.all id)))
 |_=>none
instance :vE (BW K) jb where
 h:=λ{xs z} e {Hs H vs} s r {Q} q=>by
  unfold jb at e;split at e
  ·obtain ⟨bs,eb,e1⟩:=bind_some e;cases e1;obtain ⟨v,rfl,a⟩:=xP r;obtain ⟨p,ws,rfl,e1,r1⟩:=qr s a;rw [GL eb,show (bs.map λb=>PV.at (.bl b))=(bs.map V.bl).map .at by rw [yr];rfl] at r1;cases r1.ats;exact ⟨p,bs,rfl,SqL.of e1,q _ _ _ (.refl s) (rep_at.mpr rfl)⟩
  ·cases e
def Xz:List PV->Option PV
 |[.lst xs]=>(js xs).bind λbs=>some (.at (.int bs.sum))
 |_=>none
instance :vE (Pj K) Xz where
 h:=λ{xs z} e {Hs H vs} s r {Q} q=>by
  unfold Xz at e;split at e
  ·obtain ⟨bs,eb,e1⟩:=bind_some e;cases e1;obtain ⟨v,rfl,a⟩:=xP r;obtain ⟨p,ws,rfl,e1,r1⟩:=qr s a;rw [Vw eb,show (bs.map λb=>PV.at (.int b))=(bs.map V.int).map .at by rw [yr];rfl] at r1;cases r1.ats;exact ⟨p,bs,rfl,SqL.of e1,q _ _ _ (.refl s) (rep_at.mpr rfl)⟩
  ·cases e
def vO:PV->Bool
 | .at .non=>true
 |_=>false
def Xa:PV->Bool
 | .op _=>true
 |_=>false
def pIsN:PV->PV->Option PV:=λx y=>if vO y=true/\Xa x=false then some (.at (.bl (vO x))) else none
def wd:PV->PV->Option PV:=λx y=>if vO y=true/\Xa x=false then some (.at (.bl (!vO x))) else none
theorem ZN (s:Same Hs H)(r:RepB Hs H x v)(ho:Xa x=false):decide (v = .non)=vO x:=by
 cases x with
 |«at» u=>cases b8 r;cases v<;>first|rfl|(exact yI (λz=>nomatch z))
 |tup xs=>obtain ⟨p,ws,rfl,_⟩:=xk s r;exact yI (λz=>nomatch z)
 |lst xs=>obtain ⟨p,ws,rfl,_⟩:=qr s r;exact yI (λz=>nomatch z)
 |dk ks xs=>obtain ⟨p,ws,rfl,_⟩:=vx s r;exact yI (λz=>nomatch z)
 |fk ks xs=>obtain ⟨p,o,ws,rfl,_⟩:=XJ s r;exact yI (λz=>nomatch z)
 |ob C ns xs=>obtain ⟨p,dx,ws,rfl,_⟩:=Ps s r;exact yI (λz=>nomatch z)
 |op φ=>cases ho
instance:xy rIsN pIsN where
 h:=λ{x y z} e {Hs H v w} s a b {Q} q=>by
  unfold pIsN at e;split at e
  ·rename_i hy;cases e;have hb:Xa y=false:=by cases y<;>first|rfl|(exact absurd hy.1 (by simp [vO]))
   refine ⟨uT ((ZN s b hb).trans hy.1),?_⟩;rw [ZN s a hy.2];exact q _ _ _ (.refl s) (rep_at.mpr rfl)
  ·cases e
instance:xy Pf wd where
 h:=λ{x y z} e {Hs H v w} s a b {Q} q=>by
  unfold wd at e;split at e
  ·rename_i hy;cases e;have hb:Xa y=false:=by cases y<;>first|rfl|(exact absurd hy.1 (by simp [vO]))
   refine ⟨uT ((ZN s b hb).trans hy.1),?_⟩;rw [ZN s a hy.2];exact q _ _ _ (.refl s) (rep_at.mpr rfl)
  ·cases e
def zI (f:PV->PV->Option Bool):List PV->List PV->Option Bool
 |x::xs,y::ys=>(f x y).bind λa=>(zI f xs ys).bind λb=>some (a&&b)
 |_,_=>some true
def peq0:PV->PV->Option Bool
 | .at u,.at v=>if k4 u=true/\k4 v=true then some (qc u v) else none
 |_,_=>none
def peq1 (f:PV->PV->Option Bool):PV->PV->Option Bool
 | .at u,.at v=>if k4 u=true/\k4 v=true then some (qc u v) else none
 | .lst xs,.lst ys=>if xs.length=ys.length then zI f xs ys else some false
 | .tup xs,.tup ys=>(zI f xs ys).bind λb=>some (b&&xs.length==ys.length)
 | .lst _,.tup _=>some false
 | .tup _,.lst _=>some false
 | .at u,.lst _=>if k4 u=true then some false else none
 | .at u,.tup _=>if k4 u=true then some false else none
 | .lst _,.at u=>if k4 u=true then some false else none
 | .tup _,.at u=>if k4 u=true then some false else none
 |_,_=>none
def peq:Nat->PV->PV->Option Bool
 |0=>peq0
 |n+1=>peq1 (peq n)
theorem Wg {K:Fg}{Hs H:Hp}{n:Nat}(s:Same Hs H)(ih:∀{x y:PV}{v w:V}{b:Bool},peq n x y=some b->Rep Hs x v->Rep Hs y w->EqP K H n v w b):∀{xs ys:List PV}{vs ws:List V}{b:Bool},zI (peq n) xs ys=some b->Reps Hs xs vs->Reps Hs ys ws->∃ e:Nat->Bool,(∀ j (h1:j<vs.length) (h2:j<ws.length),EqP K H n vs[j] ws[j] (e j))/\b=(List.range (min vs.length ws.length)).all e
 |[],ys,vs,ws,b,h,r1,r2=>by
  cases reps_nil.mp r1;unfold zI at h;cases h;exact ⟨λ_=>true,λj h1=>absurd h1 (uB _),by simp⟩
 |x::xs,[],vs,ws,b,h,r1,r2=>by
  cases reps_nil.mp r2;unfold zI at h;cases h;exact ⟨λ_=>true,λj h1 h2=>absurd h2 (uB _),by simp⟩
 |x::xs,y::ys,vs,ws,b,h,r1,r2=>by
  obtain ⟨v,vr,rfl,p1,q1⟩:=reps_cons.mp r1;obtain ⟨w,wr,rfl,p2,q2⟩:=reps_cons.mp r2;unfold zI at h;obtain ⟨a,ea,h1⟩:=bind_some h;obtain ⟨c,ec,h2⟩:=bind_some h1;cases h2;obtain ⟨e,he,hb⟩:=Wg s ih ec q1 q2;refine ⟨λj=>match j with|0=>a|j+1=>e j,λj h1 h2=>?_,?_⟩
  ·cases j with
   |zero=>exact ih ea p1 p2
   |succ j=>exact he j (by simpa using h1) (by simpa using h2)
  ·rw [yF,yF,Nat.succ_min_succ,List.range_succ_eq_map,List.all_cons,List.all_map,hb];rfl
theorem Wf {K:Fg}{Hs H:Hp}(s:Same Hs H):∀(n:Nat){x y:PV}{v w:V}{b:Bool},peq n x y=some b->RepB Hs H x v->RepB Hs H y w->EqP K H n v w b
 |0,x,y,v,w,b,h,r1,r2=>by
  unfold peq peq0 at h;split at h
  ·split at h
   ·rename_i hf;cases h;cases b8 r1;cases b8 r2;exact ⟨hf.1,hf.2,rfl⟩
   ·cases h
  ·cases h
 |n+1,x,y,v,w,b,h,r1,r2=>by
  have ih:∀{x y:PV}{v w:V}{b:Bool},peq n x y=some b->Rep Hs x v->Rep Hs y w->EqP K H n v w b:=λh r1 r2=>Wf s n h (.inl r1) (.inl r2);unfold peq peq1 at h;split at h
  ·split at h
   ·rename_i hf;cases h;cases b8 r1;cases b8 r2;exact .inl ⟨hf.1,hf.2,rfl⟩
   ·cases h
  ·obtain ⟨a,vs,rfl,e1,q1⟩:=qr s r1;obtain ⟨c,ws,rfl,e2,q2⟩:=qr s r2;refine .inr (.inl ⟨a,c,vs,ws,rfl,rfl,SqL.of e1,SqL.of e2,?_⟩);split at h
   ·rename_i hl;obtain ⟨e,he,hb⟩:=Wg s ih h q1 q2;have hl':vs.length=ws.length:=by rw [q1.length,q2.length,hl]
    exact .inr ⟨hl',e,he,by rw [hb,<- hl',Nat.min_self]⟩
   ·rename_i hl;cases h;exact .inl ⟨by rw [q1.length,q2.length];exact hl,rfl⟩
  ·obtain ⟨a,vs,rfl,e1,q1⟩:=xk s r1;obtain ⟨c,ws,rfl,e2,q2⟩:=xk s r2;obtain ⟨d,ed,h1⟩:=bind_some h;cases h1;obtain ⟨e,he,hb⟩:=Wg s ih ed q1 q2;exact .inr (.inr (.inl ⟨a,c,vs,ws,rfl,rfl,SqT.of e1,SqT.of e2,e,he,by rw [hb,q1.length,q2.length]⟩))
  ·cases h;obtain ⟨a,vs,rfl,e1,q1⟩:=qr s r1;obtain ⟨c,ws,rfl,e2,q2⟩:=xk s r2;exact .inr (.inr (.inr (.inl ⟨a,c,vs,ws,rfl,rfl,SqL.of e1,SqT.of e2,rfl⟩)))
  ·cases h;obtain ⟨a,vs,rfl,e1,q1⟩:=xk s r1;obtain ⟨c,ws,rfl,e2,q2⟩:=qr s r2;exact .inr (.inr (.inr (.inr (.inl ⟨a,c,vs,ws,rfl,rfl,SqT.of e1,SqL.of e2,rfl⟩))))
  ·split at h
   ·rename_i hf;cases h;cases b8 r1;obtain ⟨c,ws,rfl,e2,q2⟩:=qr s r2;exact .inr (.inr (.inr (.inr (.inr (.inl ⟨c,ws,hf,rfl,.inl (SqL.of e2),rfl⟩)))))
   ·cases h
  ·split at h
   ·rename_i hf;cases h;cases b8 r1;obtain ⟨c,ws,rfl,e2,q2⟩:=xk s r2;exact .inr (.inr (.inr (.inr (.inr (.inl ⟨c,ws,hf,rfl,.inr (SqT.of e2),rfl⟩)))))
   ·cases h
  ·split at h
   ·rename_i hf;cases h;cases b8 r2;obtain ⟨c,ws,rfl,e2,q2⟩:=qr s r1;exact .inr (.inr (.inr (.inr (.inr (.inr ⟨c,ws,hf,rfl,.inl (SqL.of e2),rfl⟩)))))
   ·cases h
  ·split at h
   ·rename_i hf;cases h;cases b8 r2;obtain ⟨c,ws,rfl,e2,q2⟩:=xk s r1;exact .inr (.inr (.inr (.inr (.inr (.inr ⟨c,ws,hf,rfl,.inr (SqT.of e2),rfl⟩)))))
   ·cases h
  ·cases h
def pEq:PV->PV->Option PV:=λx y=>(peq 6 x y).bind λb=>some (.at (.bl b))
def pNe:PV->PV->Option PV:=λx y=>(peq 6 x y).bind λb=>some (.at (.bl (!b)))
instance :xy (rEqD K 6 false) pEq where
 h:=λ{x y z} e {Hs H v w} s a b {Q} q=>by
  obtain ⟨c,ec,e1⟩:=bind_some e;cases e1;exact ⟨c,Wf s 6 ec a b,q _ _ _ (.refl s) (rep_at.mpr rfl)⟩
instance :xy (rEqD K 6 true) pNe where
 h:=λ{x y z} e {Hs H v w} s a b {Q} q=>by
  obtain ⟨c,ec,e1⟩:=bind_some e;cases e1;exact ⟨c,Wf s 6 ec a b,q _ _ _ (.refl s) (rep_at.mpr rfl)⟩
class wO (to:TO)(f:ME->Option (Option Int)):Prop where
 h:∀{ε y},f ε=some y->∀{Hs0 H0 Hs H σ},RS Hs0 H0 Hs H σ ε->∀{Q:Option Int->Hp->Prop},(∀ Hs' H',Ext Hs H Hs' H'->Q y H')->to σ H Q
def pNo:ME->Option (Option Int):=λ_=>some none
def pInt:PV->Option Int
 | .at (.int i)=>some i
 |_=>none
def pSo (a:M):ME->Option (Option Int):=λε=>(a ε).bind λx=>(pInt x).bind λi=>some (some i)
instance:wO Cn pNo where
 h:=λe _ _ _ _ _ rs _ q=>by cases e;exact q _ _ (.refl rs.sub)
instance {a:M}[sa:f6 te a]:wO (Cp te) (pSo a) where
 h:=λe _ _ _ _ _ rs _ q=>by
  obtain ⟨x,ex,e1⟩:=bind_some e;obtain ⟨i,ei,e2⟩:=bind_some e1;cases e2;unfold pInt at ei;split at ei
  ·cases ei;exact sa.h ex rs λv Hs1 H1 x1 r1=>⟨_,b8 r1,q _ _ x1⟩
  ·cases ei
def zx (xs:List PV)(lo hi:Option Int):List PV:=(xs.drop (HT.sIx xs.length 0 lo)).take (HT.sIx xs.length xs.length hi-HT.sIx xs.length 0 lo)
theorem Reps.cut (r:Reps H xs vs)(lo hi:Option Int):Reps H (zx xs lo hi) (wS vs lo hi):=by unfold zx wS;rw [r.length];exact (r.drop _).take _
def xH (a:M)(l u:ME->Option (Option Int)):M:=λε=>(a ε).bind λx=>(l ε).bind λlo=>(u ε).bind λhi=>match x with
 | .lst xs=>some (.lst (zx xs lo hi))
 |_=>none
instance {tl th:TO}{a:M}[sa:f6 te a][sl:wO tl l][su:wO th u]:xR (tSl (rSlL K) te tl th) (xH a l u) where
 h:=λe _ _ _ _ _ rs _ q=>by
  obtain ⟨x,ex,e1⟩:=bind_some e;obtain ⟨lo,el,e2⟩:=bind_some e1;obtain ⟨hi,eu,e3⟩:=bind_some e2;split at e3
  ·cases e3;refine sa.h ex rs λv Hs1 H1 x1 r1=>sl.h el (rs.go x1) λHs2 H2 x2=>su.h eu ((rs.go x1).go x2) λHs3 H3 x3=>?_;obtain ⟨p,vs,rfl,e1,r⟩:=qr x3.s3 ((r1.ext x2).ext x3);have x13:=x1.trans (x2.trans x3);exact ⟨p,vs,rfl,SqL.of e1,λd hd=>q d _ _ (x13.trans (.newO x3.s3 hd)) (x13.s2.free hd) (x3.s3.free hd) ⟨_,g0,r.cut lo hi⟩⟩
  ·cases e3
def xr (n:Nat):List PV->List PV
 |[]=>[]
 |x::xs=> .tup [.at (.int n),x]::xr (n+1) xs
theorem Kr:∀{xs:List PV}{n i:Nat}{z:PV},(xr n xs)[i]?=some z->∃ x,xs[i]?=some x/\z = .tup [.at (.int ((n+i:Nat):Int)),x]
 |[],n,i,z,h=>by simp [xr] at h
 |x::xs,n,0,z,h=>by simp [xr] at h;exact ⟨x,rfl,h.symm⟩
 |x::xs,n,i+1,z,h=>by
  obtain ⟨y,h1,h2⟩:=Kr (xs:=xs) (n:=n+1) (i:=i) (z:=z) (by simpa [xr] using h);exact ⟨y,by simpa using h1,by rw [h2,show n+1+i=n+(i+1) by omega]⟩
theorem Ks:∀{xs:List PV}{n:Nat},(xr n xs).length=xs.length
 |[],_=>rfl
 |x::xs,n=>by simp [xr,Ks]
theorem Lu {a:Addr}(h:Hs a=some (.lst vs))(r:Reps Hs xs vs):jf (Ite K a) (xr 0 xs) Hs where
 go:=λi x Hs1 H1 e g1 g2=>by
  obtain ⟨y,ey,rfl⟩:=Kr e;obtain ⟨v,ev,rv⟩:=r.get ey;refine ⟨⟨vs,v,SqL.of (g2 _ _ (g1 _ _ h)),ev⟩,λw H2 z=>?_⟩;obtain ⟨p,u,hp,rfl,rfl,hu⟩:=z;have e1:=hu vs (SqL.of (g2 _ _ (g1 _ _ h)));rw [ev] at e1;cases e1;refine ⟨_,.new g2 hp,rep_tup.mpr ⟨p,_,rfl,g0,.cons (rep_at.mpr (by rw [Nat.zero_add])) (.one (rv.mono (g1.trans (Ext.new g2 hp).s1)))⟩⟩
 stop:=λHs1 H1 g1 g2=>⟨vs,SqL.of (g2 _ _ (g1 _ _ h)),by rw [r.length,Ks];exact yV _⟩
def wU (a:MA):MA:=λε=>(a ε).bind λxs=>match xs with
 |[.lst ys]=>some (xr 0 ys)
 |_=>none
instance {a:MA}[sa:xa ta a]:zR (Vr K ta) (wU a) where
 h:=λe _ _ _ _ _ rs _ q=>by
  obtain ⟨xs,ex,e1⟩:=bind_some e;split at e1
  ·cases e1;refine sa.h ex rs λvs Hs1 H1 x1 r1=>?_;obtain ⟨v,r,rfl,p1,p2⟩:=reps_cons.mp r1;cases reps_nil.mp p2;obtain ⟨p,ws,rfl,hp,rw⟩:=rep_lst.mp p1;exact ⟨p,rfl,⟨ws,SqL.of (x1.s3 _ _ hp)⟩,q _ _ _ x1 (Lu hp rw)⟩
  ·cases e1
def xm:List PV->List PV->List PV
 |x::xs,y::ys=> .tup [x,y]::xm xs ys
 |_,_=>[]
theorem CT:∀{xs ys:List PV}{i:Nat}{z:PV},(xm xs ys)[i]?=some z->∃ x y,xs[i]?=some x/\ys[i]?=some y/\z = .tup [x,y]
 |[],_,i,z,h=>by simp [xm] at h
 |_::_,[],i,z,h=>by simp [xm] at h
 |x::xs,y::ys,0,z,h=>by simp [xm] at h;exact ⟨x,y,rfl,rfl,h.symm⟩
 |x::xs,y::ys,i+1,z,h=>by
  obtain ⟨u,v,h1,h2,h3⟩:=CT (xs:=xs) (ys:=ys) (i:=i) (z:=z) (by simpa [xm] using h);exact ⟨u,v,by simpa using h1,by simpa using h2,h3⟩
theorem CU:∀{xs ys:List PV},(xm xs ys).length=min xs.length ys.length
 |[],_=>by simp [xm]
 |_::_,[]=>by simp [xm]
 |x::xs,y::ys=>by simp [xm,CU,Nat.succ_min_succ]
theorem LC {a b:Addr}(h:Hs a=some (.lst vs))(r:Reps Hs xs vs)(h':Hs b=some (.lst ws))(r':Reps Hs ys ws):jf (Itz K a b) (xm xs ys) Hs where
 go:=λi x Hs1 H1 e g1 g2=>by
  obtain ⟨y,z,ey,ez,rfl⟩:=CT e;obtain ⟨v,ev,rv⟩:=r.get ey;obtain ⟨w,ew,rw⟩:=r'.get ez;have q1:SqL K H1 a vs:=SqL.of (g2 _ _ (g1 _ _ h));have q2:SqL K H1 b ws:=SqL.of (g2 _ _ (g1 _ _ h'));refine ⟨⟨vs,ws,v,w,q1,q2,ev,ew⟩,λu H2 z=>?_⟩;obtain ⟨p,v',w',hp,rfl,rfl,hv,hw⟩:=z;have e1:=hv vs q1;have e2:=hw ws q2;rw [ev] at e1;rw [ew] at e2;cases e1;cases e2;have g3:=g1.trans (Ext.new (o:= .tup [v,w]) g2 hp).s1;exact ⟨_,.new g2 hp,rep_tup.mpr ⟨p,_,rfl,g0,.cons (rv.mono g3) (.one (rw.mono g3))⟩⟩
 stop:=λHs1 H1 g1 g2=>⟨vs,ws,SqL.of (g2 _ _ (g1 _ _ h)),SqL.of (g2 _ _ (g1 _ _ h')),by rw [r.length,r'.length,CU];omega⟩
def wW (a:MA):MA:=λε=>(a ε).bind λxs=>match xs with
 |[.lst ys,.lst zs]=>some (xm ys zs)
 |_=>none
instance {a:MA}[sa:xa ta a]:zR (iZip K ta) (wW a) where
 h:=λe _ _ _ _ _ rs _ q=>by
  obtain ⟨xs,ex,e1⟩:=bind_some e;split at e1
  ·cases e1;refine sa.h ex rs λvs Hs1 H1 x1 r1=>?_;obtain ⟨v,r,rfl,p1,p2⟩:=reps_cons.mp r1;obtain ⟨v',r',rfl,p3,p4⟩:=reps_cons.mp p2;cases reps_nil.mp p4;obtain ⟨p,ws,rfl,hp,rw1⟩:=rep_lst.mp p1;obtain ⟨p',ws',rfl,hp',rw2⟩:=rep_lst.mp p3;exact ⟨p,p',rfl,⟨ws,SqL.of (x1.s3 _ _ hp)⟩,⟨ws',SqL.of (x1.s3 _ _ hp')⟩,q _ _ _ x1 (LC hp rw1 hp' rw2)⟩
  ·cases e1
structure RD (S:List Addr)(Hs0 H0 Hs H:Hp)(σ:St)(ε:ME):Prop where
 s1:Same Hs0 Hs
 s2:∀ b o,H0 b=some o->b∉S->H b=some o
 s3:Same Hs H
 s4:∀ b,H0 b≠none->Hs0 b=none->Hs b=none
 sh:∀(i:Nat)(x:PV),ε[i]?=some (.sh x)->∃ v,σ[i]?=some (some v)/\Rep Hs x v
 ow:∀(i:Nat)(x:PV),ε[i]?=some (.ow x)->∃ a,σ[i]?=some (some (.ref a))/\(H0 a=none∨a∈S)/\Hs a=none/\Top Hs H a x
 nd:∀(i j:Nat)(x y:PV)(a:Addr),ε[i]?=some (.ow x)->ε[j]?=some (.ow y)->σ[i]?=some (some (.ref a))->σ[j]?=some (some (.ref a))->i=j
 len:σ.length=ε.length
 pin:∀ a∈S,σ[0]?=some (some (.ref a))
 live:∀ a∈S,H a≠none
 str:∀ a∈S,∃ y,ε[0]?=some (.ow y)
 nb:∀(i:Nat)(x:PV),ε[i]?≠some (.bo x)
section
variable {S:List Addr}{Hs0 H0 Hs H Hs' H':Hp}{σ:St}{ε:ME}
theorem RD.rs (r:RD S Hs0 H0 Hs H σ ε):RS Hs Hs Hs H σ ε where
 ext:=⟨.refl _,r.s3,r.s3,λ_ h z=>absurd z h⟩
 sh:=r.sh
 ow:=λi x h=>by obtain ⟨a,h1,_,h3,h4⟩:=r.ow i x h;exact ⟨a,h1,h3,h3,h4⟩
 nd:=r.nd
 len:=r.len
 bo:=λi x h=>absurd h (r.nb i x)
theorem RD.there (r:RD S Hs0 H0 Hs H σ ε){b:Addr}(h:H0 b≠none):H b≠none:=by
 by_cases hS:b∈S
 ·exact r.live b hS
 ·cases q:H0 b with
  |none=>exact absurd q h
  |some o=>rw [r.s2 b o q hS];exact λz=>nomatch z
theorem RD.go (r:RD S Hs0 H0 Hs H σ ε)(e:Ext Hs H Hs' H'):RD S Hs0 H0 Hs' H' σ ε where
 s1:=r.s1.trans e.s1
 s2:=λb o h n=>e.s2 _ _ (r.s2 b o h n)
 s3:=e.s3
 s4:=λb h z=>e.s4 b (r.there h) (r.s4 b h z)
 sh:=λi x q=>by obtain ⟨v,a,b⟩:=r.sh i x q;exact ⟨v,a,b.mono e.s1⟩
 ow:=λi x q=>by
  obtain ⟨a,b,n0,n,t⟩:=r.ow i x q;exact ⟨a,b,n0,e.s4 a t.there n,t.mono e.s1 λo z=>e.s2 _ _ z⟩
 nd:=r.nd
 len:=r.len
 pin:=r.pin
 live:=λa h=>PX e.s2 (r.live a h)
 str:=r.str
 nb:=r.nb
theorem RD.change (r:RD S Hs0 H0 Hs H σ ε){i:Nat}{a:Addr}(hi:ε[i]?=some (.ow x))(ha:σ[i]?=some (some (.ref a)))(t:Top Hs (v9 H a o) a y):RD S Hs0 H0 Hs (v9 H a o) σ (ε.set i (.ow y)):=by
 obtain ⟨b,hb,n0,n,tx⟩:=r.ow i x hi;rw [ha] at hb;injection hb with hb;injection hb with hb;injection hb with hb;subst hb;have q:=(r.rs).change hi ha t;refine ⟨r.s1,λb u e hS=>?_,λb u e=>?_,r.s4,q.sh,λj z hz=>?_,q.nd,q.len,r.pin,λb hS=>?_,λb hS=>?_,Qr r.nb λ_ z=>nomatch z⟩
 ·have hne:b≠a:=λz=>by
   rcases n0 with n0|n0
   ·rw [z,n0] at e;cases e
   ·exact hS (z▸n0)
  rw [j9 hne];exact r.s2 b u e hS
 ·rw [j9 (g8 e n)];exact r.s3 _ _ e
 ·obtain ⟨c,hc,m1,m2,tc⟩:=q.ow j z hz;refine ⟨c,hc,?_,m2,tc⟩;rw [yy] at hz;split at hz
  ·rename_i hij;rw [<- hij,ha] at hc;injection hc with hc;injection hc with hc;injection hc with hc;rw [<- hc];exact n0
  ·obtain ⟨d,hd,m0,_⟩:=r.ow j z hz;rw [hd] at hc;injection hc with hc;injection hc with hc;injection hc with hc;rw [<- hc];exact m0
 ·by_cases hba:b=a
  ·rw [hba,g0];exact λz=>nomatch z
  ·rw [j9 hba];exact r.live b hS
 ·obtain ⟨y',hy⟩:=r.str b hS;rw [yy];split
  ·rename_i h0;rw [if_pos (by rw [h0];exact (yB.mp hy).1)];exact ⟨y,rfl⟩
  ·exact ⟨y',hy⟩
theorem RD.put (r:RD S Hs0 H0 Hs H σ ε){i:Nat}(h:Rep Hs x v):RD S Hs0 H0 Hs H (σ.set (i+1) (some v)) (ε.set (i+1) (.sh x)):=by
 have q:=(r.rs).put (i:=i+1) h;refine ⟨r.s1,r.s2,r.s3,r.s4,q.sh,λj z hz=>?_,q.nd,q.len,λa hS=>by rw [yq (by omega)];exact r.pin a hS,r.live,λa hS=>by rw [yq (by omega)];exact r.str a hS,Qr r.nb λ_ z=>nomatch z⟩;obtain ⟨c,hc,m1,m2,tc⟩:=q.ow j z hz;refine ⟨c,hc,?_,m2,tc⟩;rw [yy] at hz hc;split at hz
 ·split at hz<;>cases hz
 ·rename_i hij;rw [if_neg hij] at hc;obtain ⟨d,hd,m0,_⟩:=r.ow j z hz;rw [hd] at hc;injection hc with hc;injection hc with hc;injection hc with hc;rw [<- hc];exact m0
theorem RD.putO (r:RD S Hs0 H0 Hs H σ ε){i:Nat}{a:Addr}(h0:H0 a=none∨a∈S)(h1:Hs a=none)(h2:Top Hs H a x)(ne:∀(j:Nat)(y:PV),ε[j]?=some (.ow y)->σ[j]?≠some (some (.ref a))):RD S Hs0 H0 Hs H (σ.set (i+1) (some (.ref a))) (ε.set (i+1) (.ow x)):=by
 have q:=(r.rs).putO (i:=i+1) ⟨h1,h1,h2⟩ ne;refine ⟨r.s1,r.s2,r.s3,r.s4,q.sh,λj z hz=>?_,q.nd,q.len,λa hS=>by rw [yq (by omega)];exact r.pin a hS,r.live,λa hS=>by rw [yq (by omega)];exact r.str a hS,Qr r.nb λ_ z=>nomatch z⟩;obtain ⟨c,hc,m1,m2,tc⟩:=q.ow j z hz;refine ⟨c,hc,?_,m2,tc⟩;rw [yy] at hz hc;split at hz
 ·rename_i hij;rw [if_pos hij] at hc;split at hc
  ·injection hc with hc;injection hc with hc;injection hc with hc;rw [<- hc];exact h0
  ·cases hc
 ·rename_i hij;rw [if_neg hij] at hc;obtain ⟨d,hd,m0,_⟩:=r.ow j z hz;rw [hd] at hc;injection hc with hc;injection hc with hc;injection hc with hc;rw [<- hc];exact m0
theorem RD.free0 (r:RD S Hs0 H0 Hs H σ ε){a:Addr}(h:H a=none):H0 a=none:=by
 cases q:H0 a with
 |none=>rfl
 |some o=>exact absurd h (r.there (by rw [q];exact λz=>nomatch z))
theorem RD.freeze (r:RD S Hs0 H0 Hs H σ ε)(i:Nat):∃ Hs',Same Hs Hs'/\RD S Hs0 H0 Hs' H σ (fz (i+1) ε):=by
 by_cases h:∃ x,ε[i+1]?=some (.ow x)
 ·obtain ⟨x,hi⟩:=h;obtain ⟨a,ha,n0,n,t⟩:=r.ow (i+1) x hi;have hS:a∉S:=λhS=>by
   obtain ⟨y,hy⟩:=r.str a hS;exact absurd (r.nd 0 (i+1) y x a hy hi (r.pin a hS) ha) (by omega)
  obtain ⟨o,ho,hr⟩:=t.rep n;have g:Same Hs (v9 Hs a o):=λb u e=>by rw [j9 (g8 e n)];exact e
  have ef:fz (i+1) ε=ε.set (i+1) (.sh x):=by unfold fz;rw [hi]
  have n0':H0 a=none:=n0.resolve_right hS;rw [ef];have dn:∀(j:Nat)(y:PV),(ε.set (i+1) (.sh x))[j]?=some (.ow y)->i+1≠j/\ε[j]?=some (.ow y):=λj y q=>by
   rw [yy] at q;split at q
   ·split at q<;>cases q
   ·rename_i hij;exact ⟨hij,q⟩
  refine ⟨v9 Hs a o,g,r.s1.trans g,r.s2,λb u e=>?_,λb h z=>?_,λj y q=>?_,λj y q=>?_,λj k z z' c h1 h2 h3 h4=>r.nd j k z z' c (dn j z h1).2 (dn k z' h2).2 h3 h4,by rw [yg,r.len],r.pin,r.live,(λb hb=>by rw [yq (by omega)];exact r.str b hb),Qr r.nb λ_ z=>nomatch z⟩
  ·by_cases hb:b=a
   ·subst hb;rw [g0] at e;cases e;exact ho
   ·rw [j9 hb] at e;exact r.s3 _ _ e
  ·have hb:b≠a:=λe=>h (e▸n0');rw [j9 hb];exact r.s4 b h z
  ·rw [yy] at q;split at q
   ·rename_i hij;split at q
    ·injection q with q;injection q with q;subst q;exact ⟨.ref a,hij▸ha,hr⟩
    ·cases q
   ·obtain ⟨v,e,w⟩:=r.sh j y q;exact ⟨v,e,w.mono g⟩
  ·obtain ⟨hij,hq⟩:=dn j y q;obtain ⟨c,hc,m0,m,tc⟩:=r.ow j y hq;have hne:c≠a:=λe=>hij (r.nd (i+1) j x y a hi hq ha (e▸hc));exact ⟨c,hc,m0,by rw [j9 hne];exact m,tc.mono g λ_ e=>e⟩
 ·refine ⟨Hs,.refl _,?_⟩;unfold fz;split
  ·rename_i x hx;exact absurd ⟨x,hx⟩ h
  ·exact r
end
abbrev W:=ME->(PV->ME->Prop)->Prop
variable{a:W}
abbrev WA:=ME->(List PV->ME->Prop)->Prop
variable{r:WA}
abbrev WT:=ME->(Bool->ME->Prop)->Prop
abbrev WS:=ME->(ME->Prop)->(PV->ME->Prop)->Prop
variable{b:WS}
class SemW (te:TE)(w:W):Prop where
 h:∀{ε Q'},w ε Q'->∀{S Hs0 H0 Hs H σ},RD S Hs0 H0 Hs H σ ε->∀{Q:VK},(∀ y ε' v Hs' H',Q' y ε'->RD S Hs0 H0 Hs' H' σ ε'->Same Hs Hs'->Rep Hs' y v->Q v H')->te σ H Q
class vF (ta:TA)(w:WA):Prop where
 h:∀{ε Q'},w ε Q'->∀{S Hs0 H0 Hs H σ},RD S Hs0 H0 Hs H σ ε->∀{Q:List V->Hp->Prop},(∀ ys ε' vs Hs' H',Q' ys ε'->RD S Hs0 H0 Hs' H' σ ε'->Same Hs Hs'->Reps Hs' ys vs->Q vs H')->ta σ H Q
class Zg (tt:TT)(w:WT):Prop where
 h:∀{ε Q'},w ε Q'->∀{S Hs0 H0 Hs H σ},RD S Hs0 H0 Hs H σ ε->∀{Q:Bool->Hp->Prop},(∀ b ε' Hs' H',Q' b ε'->RD S Hs0 H0 Hs' H' σ ε'->Same Hs Hs'->Q b H')->tt σ H Q
class SemWS (ts:TS)(w:WS):Prop where
 h:∀{ε N R},w ε N R->∀{S Hs0 H0 Hs H σ},RD S Hs0 H0 Hs H σ ε->∀{D:xQ},(∀ ε' σ' Hs' H',N ε'->RD S Hs0 H0 Hs' H' σ' ε'->Same Hs Hs'->D.nx σ' H') ->
  (∀ y ε' σ' v Hs' H',R y ε'->RD S Hs0 H0 Hs' H' σ' ε'->Same Hs Hs'->Rep Hs' y v->D.rt v H')->ts D σ H
def wP (f:M):W:=λε Q=>∃ y,f ε=some y/\Q y ε
def wPT (f:MB):WT:=λε Q=>∃ y,f ε=some y/\Q y ε
instance (priority:=50){f:M}[s:SemE te f]:SemW te (wP f) where
 h:=λ⟨y,e,q⟩ _ _ _ _ _ _ r _ k=>s.h e r.rs λv Hs' H' x rv=>k y _ v Hs' H' q (r.go x) x.s1 rv
instance (priority:=50){f:MB}[s:xn tt f]:Zg tt (wPT f) where
 h:=λ⟨y,e,q⟩ _ _ _ _ _ _ r _ k=>s.h e r.rs λHs' H' x=>k y _ Hs' H' q (r.go x) x.s1
def xE (g:PV->PV->Option PV)(a b:W):W:=λε Q=>a ε λx ε1=>b ε1 λy ε2=>∃ z,g x y=some z/\Q z ε2
instance {r:R2}{g:PV->PV->Option PV}{ta tb:TE}{b:W}[sr:xy r g][sa:SemW ta a][sb:SemW tb b]:SemW (tOp r ta tb) (xE g a b) where
 h:=λh _ _ _ _ _ _ rd _ k=>sa.h h rd λx ε1 v Hs1 H1 h1 rd1 g1 r1=>sb.h h1 rd1 λy ε2 w Hs2 H2 h2 rd2 g2 r2=>by
  obtain ⟨z,ez,h2⟩:=h2;exact sr.h ez rd2.s3 (.inl (r1.mono g2)) (.inl r2) λu Hs3 H3 x3 r3=>k z ε2 u Hs3 H3 h2 (rd2.go x3) (g1.trans (g2.trans x3.s1)) r3
def qS:WA:=λε Q=>Q [] ε
def b9 (a:W)(r:WA):WA:=λε Q=>a ε λx ε1=>r ε1 λxs ε2=>Q (x::xs) ε2
instance:vF ql qS where
 h:=λh _ _ _ _ _ _ rd _ k=>k [] _ [] _ _ h rd (.refl _) .nil
instance [sa:SemW te a][sr:vF ta r]:vF (i4 te ta) (b9 a r) where
 h:=λh _ _ _ _ _ _ rd _ k=>sa.h h rd λx ε1 v Hs1 H1 h1 rd1 g1 r1=>sr.h h1 rd1 λxs ε2 vs Hs2 H2 h2 rd2 g2 r2=>k _ ε2 _ Hs2 H2 h2 rd2 (g1.trans g2) (.cons (r1.mono g2) r2)
def QE (a:WA):W:=λε Q=>a ε λxs ε1=>xs.length<=lim/\Q (.tup xs) ε1
instance {a:WA}[sa:vF ta a]:SemW (tTup ta) (QE a) where
 h:=λh _ _ _ _ _ _ rd _ k=>sa.h h rd λxs ε1 vs Hs1 H1 h1 rd1 g1 r1=>⟨xX (r1.length▸h1.1),λp hp=>k _ ε1 _ _ _ h1.2 (rd1.go (.new rd1.s3 hp)) (g1.trans (Ext.new rd1.s3 hp).s1) (rep_tup.mpr ⟨p,vs,rfl,g0,r1.mono (Ext.new rd1.s3 hp).s1⟩)⟩
def wq:Sp:=λvs H Q _=>∃(a:Addr)(n m:Int),vs=[.ref a,.int m]/\H a=some (.lst [.int n])/\jP n m/\Q (.int (n % m)) (v9 H a (.lst [.int (n / m)]))
def m9 (n:Int):MSlot:= .ow (.lst [.at (.int n)])
def wTake (i:Nat)(a:W):W:=λε Q=>a ε λx ε1=>∃ n k,x = .at (.int k)/\ε1[i]?=some (m9 n)/\jP n k/\Q (.at (.int (n % k))) (ε1.set i (m9 (n / k)))
theorem RD.strm_at {i:Nat}{n:Int}(r:RD S Hs0 H0 Hs H σ ε)(h:ε[i]?=some (m9 n)):∃ a,σ[i]?=some (some (.ref a))/\H a=some (.lst [.int n])/\Hs a=none/\(H0 a=none∨a∈S):=by obtain ⟨a,ha,n0,n1,vs,hv,rv⟩:=r.ow i _ h;obtain ⟨v,w,rfl,p1,p2⟩:=reps_cons.mp rv;cases reps_nil.mp p2;cases rep_at.mp p1;exact ⟨a,ha,hv,n1,n0⟩
def zN (i:Nat):ME->Prop:=λε=>∃ n,ε[i]?=some (m9 n)
def qT (i:Nat)(a:W):W:=λε Q=>zN i ε/\wTake i a ε Q
instance {i:Nat}[sa:SemW te a]:SemW (jM wq [] E (i4 (qG i) (i4 te ql))) (qT i a) where
 h:=λh _ _ _ _ _ _ rd _ k=>by
  obtain ⟨⟨n0,hn0⟩,h⟩:=h;obtain ⟨p,hp,_⟩:=rd.strm_at hn0;refine ⟨_,hp,sa.h h rd λx ε1 v Hs1 H1 h1 rd1 g1 r1=>?_⟩;obtain ⟨n,m,rfl,hn,hc,h2⟩:=h1;obtain ⟨p',hp',hH,hs,_⟩:=rd1.strm_at hn;rw [hp] at hp';injection hp' with hp';injection hp' with hp';injection hp' with hp';subst hp';cases rep_at.mp r1;exact ⟨p,n,m,rfl,hH,hc,k _ _ _ _ _ h2 (rd1.change hn hp ⟨_,g0,.one (rep_at.mpr rfl)⟩) g1 (rep_at.mpr rfl)⟩
structure ExtD (p:Addr)(Hs H Hs' H':Hp):Prop where
 s1:Same Hs Hs'
 s2:∀ b o,H b=some o->b≠p->H' b=some o
 s3:Same Hs' H'
 s4:∀ b,H b≠none->Hs b=none->Hs' b=none
def spD (pre:List PV->Prop)(R:List PV->PV->Prop):Sp:=λvs H Q _=>∃ Hs a n xs ws,vs = .ref a::ws/\Same Hs H/\Hs a=none/\H a=some (.lst [.int n])/\Reps Hs xs ws/\pre xs /\
 ∀ y v n' Hs' H',R xs y->ExtD a Hs H Hs' H'->Hs' a=none->H' a=some (.lst [.int n'])->Rep Hs' y v->Q v H'
section
variable {S:List Addr}{Hs0 H0 Hs H Hs' H':Hp}{σ:St}{ε:ME}
theorem RD.drawn (r:RD S Hs0 H0 Hs H σ ε){i:Nat}{n n':Int}{p:Addr}(hi:ε[i]?=some (m9 n))(hp:σ[i]?=some (some (.ref p)))(x:ExtD p Hs H Hs' H')(np:Hs' p=none)(ep:H' p=some (.lst [.int n'])):RD S Hs0 H0 Hs' H' σ (ε.set i (m9 n')):=by
 obtain ⟨p',hp',hH,hs,h0⟩:=r.strm_at hi;rw [hp] at hp';injection hp' with hp';injection hp' with hp';injection hp' with hp';subst hp';have up:∀(j:Nat)(z:PV),(ε.set i (m9 n'))[j]?=some (.ow z)->(j=i/\z = .lst [.at (.int n')])∨(j≠i/\ε[j]?=some (.ow z)):=λj z q=>by
  rw [yy] at q;split at q
  ·rename_i hij;split at q
   ·injection q with q;unfold m9 at q;injection q with q;exact .inl ⟨hij.symm,q.symm⟩
   ·cases q
  ·rename_i hij;exact .inr ⟨Ne.symm hij,q⟩
 have wasOw:∀(j:Nat)(z:PV),(ε.set i (m9 n'))[j]?=some (.ow z)->∃ z',ε[j]?=some (.ow z'):=λj z q=>by
  rcases up j z q with ⟨rfl,_⟩|⟨_,q⟩
  ·exact ⟨_,hi⟩
  ·exact ⟨z,q⟩
 refine ⟨r.s1.trans x.s1,λb o e hS=>x.s2 b o (r.s2 b o e hS) λz=>?_,x.s3,λb h z=>x.s4 b (r.there h) (r.s4 b h z),λj z q=>?_,λj z q=>?_,λj k z z' c h1 h2 h3 h4=>?_,by rw [yg,r.len],r.pin,λb hS=>?_,λb hS=>?_,Qr r.nb λ_ z=>by unfold m9 at z;cases z⟩
 ·rcases h0 with h0|h0
  ·rw [z,h0] at e;cases e
  ·exact hS (z▸h0)
 ·rw [yy] at q;split at q
  ·split at q
   ·unfold m9 at q;cases q
   ·cases q
  ·obtain ⟨v,h1,h2⟩:=r.sh j z q;exact ⟨v,h1,h2.mono x.s1⟩
 ·rcases up j z q with ⟨rfl,rfl⟩|⟨hij,q⟩
  ·exact ⟨p,hp,h0,np,_,ep,.one (rep_at.mpr rfl)⟩
  ·obtain ⟨c,hc,m0,m1,tc⟩:=r.ow j z q;have hne:c≠p:=λe=>hij (r.nd j i z _ p q hi (e▸hc) hp);exact ⟨c,hc,m0,x.s4 c tc.there m1,tc.mono x.s1 λo e=>x.s2 c o e hne⟩
 ·obtain ⟨w1,q1⟩:=wasOw j z h1;obtain ⟨w2,q2⟩:=wasOw k z' h2;exact r.nd j k w1 w2 c q1 q2 h3 h4
 ·by_cases hb:b=p
  ·rw [hb,ep];exact λz=>nomatch z
  ·have:=r.live b hS;cases q:H b with
   |none=>exact absurd q this
   |some o=>rw [x.s2 b o q hb];exact λz=>nomatch z
 ·obtain ⟨y',hy⟩:=r.str b hS;rw [yy];split
  ·rename_i h0;rw [if_pos (by rw [h0];exact (yB.mp hy).1)];exact ⟨_,rfl⟩
  ·exact ⟨y',hy⟩
end
def zr (i:Nat)(pre:List PV->Prop)(R:List PV->PV->Prop)(as:WA):W:=λε Q=>zN i ε/\as ε λxs ε1=>zN i ε1/\pre xs/\∀ y n',R xs y->Q y (ε1.set i (m9 n'))
instance {i:Nat}{as:WA}[sa:vF ta as]:SemW (jM (spD pre R) [] E (i4 (qG i) ta)) (zr i pre R as) where
 h:=λh _ _ _ _ _ _ rd _ k=>by
  obtain ⟨⟨n0,hn0⟩,h⟩:=h;obtain ⟨p,hp,_⟩:=rd.strm_at hn0;refine ⟨_,hp,sa.h h rd λxs ε1 vs Hs1 H1 h1 rd1 g1 r1=>?_⟩;obtain ⟨⟨n,hn⟩,hpre,h2⟩:=h1;obtain ⟨p',hp',hH,hs,_⟩:=rd1.strm_at hn;rw [hp] at hp';injection hp' with hp';injection hp' with hp';injection hp' with hp';subst hp';refine ⟨Hs1,p,n,xs,vs,by rw [yt],rd1.s3,hs,hH,r1,hpre,λy v n' Hs' H' hR x np ep rv=>?_⟩;exact k y _ v Hs' H' (h2 y n' hR) (rd1.drawn hn hp x np ep) (g1.trans x.s1) rv
def jN:WS:=λε N _=>N ε
def wSeq (a b:WS):WS:=λε N R=>a ε (λε1=>b ε1 N R) R
def qI (i:Nat)(a:W):WS:=λε N _=>a ε λx ε1=>N (ε1.set i (.sh x))
def Zc (i:Nat)(f:M):WS:=λε N _=>∃ x,f ε=some x/\N (ε.set i (.ow x))
def zf (a:W):WS:=λε _ R=>a ε R
def CM (a:W):WS:=λε N _=>a ε λ_ ε1=>N ε1
def zO (c:WT)(a b:WS):WS:=λε N R=>c ε λk ε1=>if k=true then a ε1 N R else b ε1 N R
def wFz (i:Nat)(a:WS):WS:=λε N R=>a (fz i ε) N R
def wz (i:Nat)(a:W):WS:=λε N _=>(∃ xs,ε[i]?=some (.ow (.lst xs)))/\a ε λx ε1=>∃ xs,ε1[i]?=some (.ow (.lst xs))/\xs.length<=lim/\N (ε1.set i (.ow (.lst (xs++[x]))))
instance:SemWS YQ jN where
 h:=λh _ _ _ _ _ _ rd _ k _=>k _ _ _ _ h rd (.refl _)
instance {u:TS}{a:WS}[sa:SemWS t a][sb:SemWS u b]:SemWS (tSeq t u) (wSeq a b) where
 h:=λh _ _ _ _ _ _ rd _ k r=>sa.h h rd (λε1 σ1 Hs1 H1 h1 rd1 g1=>sb.h h1 rd1 (λε2 σ2 Hs2 H2 h2 rd2 g2=>k ε2 σ2 Hs2 H2 h2 rd2 (g1.trans g2)) λy ε2 σ2 v Hs2 H2 h2 rd2 g2 rv=>r y ε2 σ2 v Hs2 H2 h2 rd2 (g1.trans g2) rv) r
instance {i:Nat}[sa:SemW te a]:SemWS (je te (qV (i+1))) (qI (i+1) a) where
 h:=λh _ _ _ _ _ _ rd _ k _=>sa.h h rd λx ε1 v Hs1 H1 h1 rd1 g1 r1=>k _ _ _ _ h1 (rd1.put r1) g1
instance {i:Nat}{f:M}[sa:xR te f]:SemWS (je te (qV (i+1))) (Zc (i+1) f) where
 h:=λ⟨x,e,h⟩ _ _ _ _ _ _ rd _ k _=>sa.h e rd.rs λa Hs1 H1 x1 n n' t=>k _ _ _ _ h ((rd.go x1).putO (.inl (rd.free0 n)) n' t λj y hj z=>by
  obtain ⟨b,hb,_,_,tb⟩:=rd.ow j y hj;rw [z] at hb;injection hb with hb;injection hb with hb;injection hb with hb;subst hb;exact tb.there n) x1.s1
instance [sa:SemW te a]:SemWS (ww te) (zf a) where
 h:=λh _ _ _ _ _ _ rd _ _ r=>sa.h h rd λx ε1 v Hs1 H1 h1 rd1 g1 r1=>r x ε1 _ v Hs1 H1 h1 rd1 g1 r1
instance [sa:SemW te a]:SemWS (wu te) (CM a) where
 h:=λh _ _ _ _ _ _ rd _ k _=>sa.h h rd λx ε1 v Hs1 H1 h1 rd1 g1 r1=>k ε1 _ Hs1 H1 h1 rd1 g1
instance {t:TT}{ta:TS}{c:WT}{a:WS}[sc:Zg t c][sa:SemWS ta a][sb:SemWS tb b]:SemWS (tIfS t ta tb) (zO c a b) where
 h:=λh _ _ _ _ _ _ rd _ k r=>sc.h h rd λc ε1 Hs1 H1 h1 rd1 g1=>by
  cases c with
  |true=>exact zC (sa.h (by simpa using h1) rd1 (λε2 σ2 Hs2 H2 h2 rd2 g2=>k ε2 σ2 Hs2 H2 h2 rd2 (g1.trans g2)) λy ε2 σ2 v Hs2 H2 h2 rd2 g2 rv=>r y ε2 σ2 v Hs2 H2 h2 rd2 (g1.trans g2) rv)
  |false=>exact zB (sb.h (by simpa using h1) rd1 (λε2 σ2 Hs2 H2 h2 rd2 g2=>k ε2 σ2 Hs2 H2 h2 rd2 (g1.trans g2)) λy ε2 σ2 v Hs2 H2 h2 rd2 g2 rv=>r y ε2 σ2 v Hs2 H2 h2 rd2 (g1.trans g2) rv)
instance {i:Nat}{a:WS}[sa:SemWS t a]:SemWS t (wFz (i+1) a) where
 h:=λh _ _ _ _ _ _ rd _ k r=>by
  obtain ⟨Hs',g,rd'⟩:=rd.freeze i;exact sa.h h rd' (λε2 σ2 Hs2 H2 h2 rd2 g2=>k ε2 σ2 Hs2 H2 h2 rd2 (g.trans g2)) λy ε2 σ2 v Hs2 H2 h2 rd2 g2 rv=>r y ε2 σ2 v Hs2 H2 h2 rd2 (g.trans g2) rv
instance {i:Nat}[sa:SemW te a]:SemWS (wu (tBM K "list" Wr (qG i) (i4 te ql))) (wz i a) where
 h:=λh _ _ _ _ _ _ rd _ k _=>by
  obtain ⟨⟨xs0,hx0⟩,h⟩:=h;obtain ⟨p,hp,n0,n,vs,hv,rv⟩:=rd.ow i _ hx0;refine ⟨_,hp,.inl ⟨rfl,vs,SqL.of hv⟩,sa.h h rd λx ε1 v Hs1 H1 h1 rd1 g1 r1=>?_⟩;obtain ⟨xs,hx,hl,h2⟩:=h1;obtain ⟨p',hp',_,n1,ws,hw,rw⟩:=rd1.ow i _ hx;rw [hp] at hp';injection hp' with hp';injection hp' with hp';injection hp' with hp';subst hp';exact ⟨p,ws,v,rfl,rfl,hw,VI (by rw [rw.length];exact hl),k _ _ _ _ h2 (rd1.change hx hp ⟨_,g0,rw.append (.one r1)⟩) g1⟩
def wPop (i:Nat)(a:W):W:=λε Q=>(∃ xs,ε[i]?=some (.ow (.lst xs)))/\a ε λx ε1=>∃ xs k y,ε1[i]?=some (.ow (.lst xs))/\x = .at (.int k)/\0<=k/\k<xs.length/\xs.length<=lim/\xs[k.toNat]?=some y/\Q y (ε1.set i (.ow (.lst (xs.eraseIdx k.toNat))))
theorem Reps.eraseIdx {H:Hp}:∀(i:Nat){xs:List PV}{vs:List V},Reps H xs vs->Reps H (xs.eraseIdx i) (vs.eraseIdx i)
 |i,[],vs,h=>by rw [reps_nil.mp h];exact .nil
 |0,x::xs,vs,h=>by obtain ⟨v,r,rfl,p,q⟩:=reps_cons.mp h;exact q
 |i+1,x::xs,vs,h=>by obtain ⟨v,r,rfl,p,q⟩:=reps_cons.mp h;exact .cons p (Reps.eraseIdx i q)
instance {i:Nat}[sa:SemW te a]:SemW (tBM K "list" Pg (qG i) (i4 te ql)) (wPop i a) where
 h:=λh _ _ _ _ _ _ rd _ k=>by
  obtain ⟨⟨xs0,hx0⟩,h⟩:=h;obtain ⟨p,hp,n0,n,vs,hv,rv⟩:=rd.ow i _ hx0;refine ⟨_,hp,.inl ⟨rfl,vs,SqL.of hv⟩,sa.h h rd λx ε1 v Hs1 H1 h1 rd1 g1 r1=>?_⟩;obtain ⟨xs,j,y,hx,rfl,j0,j1,hl,hy,h2⟩:=h1;obtain ⟨p',hp',_,n1,ws,hw,rw⟩:=rd1.ow i _ hx;rw [hp] at hp';injection hp' with hp';injection hp' with hp';injection hp' with hp';subst hp';cases rep_at.mp r1;obtain ⟨u,hu,ru⟩:=rw.get hy;have hlim:lim=1000000:=rfl;refine ⟨p,ws,j,j.toNat,u,rfl,rfl,hw,by omega,by omega,?_,hu,k _ _ _ _ _ h2 (rd1.change hx hp ⟨_,g0,rw.eraseIdx j.toNat⟩) g1 ru⟩;unfold seqIndex?;have e1:(if j<0 then j+(ws.length:Int) else j)=j:=if_neg (by omega);simp only [e1];rw [if_pos];rw [rw.length];simp only [yf,decide_eq_true_eq];exact ⟨j0,j1⟩
class SemWI (ti:TI)(w:WA):Prop where
 h:∀{ε Q'},w ε Q'->∀{S Hs0 H0 Hs H σ},RD S Hs0 H0 Hs H σ ε->∀{R:It->Hp->Prop},(∀ xs ε' J Hs' H',Q' xs ε'->RD S Hs0 H0 Hs' H' σ ε'->Same Hs Hs'->jf J xs Hs'->R J H')->ti σ H R
def wIp (f:MA):WA:=λε Q=>∃ xs,f ε=some xs/\Q xs ε
instance (priority:=50){ti:TI}{f:MA}[s:zR ti f]:SemWI ti (wIp f) where
 h:=λ⟨xs,e,q⟩ _ _ _ _ _ _ r _ k=>s.h e r.rs λJ Hs' H' x ok=>k xs _ J Hs' H' q (r.go x) x.s1 ok
class SemWG (tg:TG)(g:MG):Prop where
 h:∀{x ε ε'},g x ε=some ε'->∀{S Hs0 H0 Hs H σ v},RD S Hs0 H0 Hs H σ ε->Rep Hs x v->∀{Q:St->Hp->Prop},(∀ σ',RD S Hs0 H0 Hs H σ' ε'->Q σ' H)->tg v σ H Q
instance {i:Nat}:SemWG (qV (i+1)) (v7 (i+1)) where
 h:=λe _ _ _ _ _ _ _ rd r _ q=>by cases e;exact q _ (rd.put r)
def Zb (g:MG)(f:WS):List PV->WS
 |[]=>λε N _=>N ε
 |x::xs=>λε N R=>∃ ε1,g x ε=some ε1/\f ε1 (λε2=>Zb g f xs ε2 N R) R
def wFor (it:WA)(g:MG)(f:WS):WS:=λε N R=>it ε λxs ε1=>Zb g f xs ε1 N R
theorem RD.rebase (r:RD S Hs0 H0 Hs H σ ε):RD S Hs H0 Hs H σ ε :=
 ⟨.refl _,r.s2,r.s3,λ_ _ z=>z,r.sh,r.ow,r.nd,r.len,r.pin,r.live,r.str,r.nb⟩
theorem RD.unbase {Hb Hx:Hp}(b:RD S Hs0 H0 Hb Hx σ ε)(r:RD S Hb H0 Hs H σ' ε'):RD S Hs0 H0 Hs H σ' ε' :=
 ⟨b.s1.trans r.s1,r.s2,r.s3,λc h z=>r.s4 c h (b.s4 c h z),r.sh,r.ow,r.nd,r.len,r.pin,r.live,r.str,r.nb⟩
instance {it:WA}{g:MG}{f:WS}[si:SemWI wi it][sg:SemWG tg g][sf:SemWS tb f]:SemWS (tFor wi tg tb) (wFor it g f) where
 h:=λ{ε N R} h S Hs0 H0 _ _ _ rd D k rt=>si.h h rd λxs ε1 J Hs1 H1 h1 rd1 g1 ok=>by
  refine ⟨λn m σ H=>m=xs.length-n/\n<=xs.length/\∃ Hs ε,RD S Hs1 H0 Hs H σ ε/\Zb g f (xs.drop n) ε N R,⟨xs.length,by simp,uY _,Hs1,ε1,rd1.rebase,h1⟩,?_⟩;rintro n m σ H ⟨rfl,hn,Hs,ε2,r2,h2⟩;by_cases hlt:n<xs.length
  ·have hd:xs.drop n=xs[n]::xs.drop (n+1):=uD hlt;rw [hd] at h2;obtain ⟨ε3,e3,h3⟩:=h2;obtain ⟨go,yl⟩:=ok.go n xs[n] Hs H (by simp [hlt]) r2.s1 r2.s3;refine .inr ⟨go,λσ' H'=>n+1<=xs.length/\∃ Hs ε,RD S Hs1 H0 Hs H' σ' ε/\Zb g f (xs.drop (n+1)) ε N R,λσ' H' p=>⟨xs.length-(n+1),by omega,rfl,p.1,p.2⟩,λv H3 y=>?_⟩;obtain ⟨Hs3,x3,r3⟩:=yl v H3 y;refine sg.h e3 (r2.go x3) r3 λσ4 rd4=>sf.h h3 rd4 (λε5 σ5 Hs5 H5 h5 rd5 g5=>⟨hlt,Hs5,ε5,rd5,h5⟩) λy ε5 σ5 v Hs5 H5 h5 rd5 g5 rv=>rt y ε5 σ5 v Hs5 H5 h5 (rd1.unbase rd5) (g1.trans rd5.s1) rv
  ·have en:n=xs.length:=by omega
   subst en;rw [tR] at h2;exact .inl ⟨ok.stop Hs H r2.s1 r2.s3,k _ _ _ _ h2 (rd1.unbase r2) (g1.trans r2.s1)⟩
def qH:List (Option Nat)->ME->ME->ME
 |some i::cap,s::ε2,ε1=>(qH cap ε2 ε1).set i s
 |none::cap,_::ε2,ε1=>qH cap ε2 ε1
 |_,_,ε1=>ε1
theorem XZ:∀(cap:List (Option Nat))(ε2 ε1:ME),(qH cap ε2 ε1).length=ε1.length
 |some i::cap,s::ε2,ε1=>by unfold qH;rw [yg,XZ]
 |none::cap,_::ε2,ε1=>by unfold qH;exact XZ cap ε2 ε1
 |[],_,_=>rfl
 |some _::_,[],_=>rfl
 |none::_,[],_=>rfl
theorem YT:∀(cap:List (Option Nat))(ε2 ε1:ME)(i:Nat),some i∉cap->(qH cap ε2 ε1)[i]?=ε1[i]?
 |some k::cap,s::ε2,ε1,i,h=>by
  unfold qH;rw [yq (λz=>h (by rw [z];exact yU))];exact YT cap ε2 ε1 i λz=>h (yW _ z)
 |none::cap,_::ε2,ε1,i,h=>by unfold qH;exact YT cap ε2 ε1 i λz=>h (yW _ z)
 |[],_,_,_,_=>rfl
 |some _::_,[],_,_,_=>rfl
 |none::_,[],_,_,_=>rfl
theorem YS:∀(cap:List (Option Nat))(ε2 ε1:ME)(i:Nat),cap.length=ε2.length->some i∈cap->i<ε1.length->(cap.filterMap id).Nodup->∃ j:Nat,cap[j]?=some (some i)/\(qH cap ε2 ε1)[i]?=ε2[j]?
 |some k::cap,s::ε2,ε1,i,hl,h,hi,nd=>by
  rw [List.filterMap_cons_some (by rfl)] at nd;by_cases e:k=i
  ·subst e;refine ⟨0,rfl,?_⟩;unfold qH;rw [uM (by rw [XZ];exact hi)];rfl
  ·obtain ⟨j,h1,h2⟩:=YS cap ε2 ε1 i (by simpa using hl) (by rcases yH.mp h with z|z;exact absurd (Option.some.inj z).symm e;exact z) hi (yp.mp nd).2;refine ⟨j+1,by simpa using h1,?_⟩;unfold qH;rw [yq e];simpa using h2
 |none::cap,s::ε2,ε1,i,hl,h,hi,nd=>by
  rw [List.filterMap_cons_none (by rfl)] at nd;obtain ⟨j,h1,h2⟩:=YS cap ε2 ε1 i (by simpa using hl) (by rcases yH.mp h with z|z;exact nomatch z;exact z) hi nd;exact ⟨j+1,by simpa using h1,by unfold qH;simpa using h2⟩
 |[],_,_,_,_,h,_,_=>nomatch h
 |some _::_,[],_,_,hl,_,_,_=>by simp at hl
 |none::_,[],_,_,hl,_,_,_=>by simp at hl
def rst:List Nat->ME->ME
 |[],ε=>ε
 |t::ts,ε=>(rst ts ε).set t .no
theorem PF:∀(ts:List Nat)(ε:ME),(rst ts ε).length=ε.length
 |[],_=>rfl
 |t::ts,ε=>by unfold rst;rw [yg,PF]
theorem PD:∀(ts:List Nat)(ε:ME)(i:Nat)(s:MSlot),(rst ts ε)[i]?=some s->s = .no∨(i∉ts/\ε[i]?=some s)
 |[],_,_,_,h=> .inr ⟨ye,h⟩
 |t::ts,ε,i,s,h=>by
  unfold rst at h;rw [yy] at h;split at h
  ·split at h
   ·cases h;exact .inl rfl
   ·cases h
  ·rename_i hne;rcases PD ts ε i s h with z|⟨z1,z2⟩
   ·exact .inl z
   ·exact .inr ⟨λm=>by rcases yH.mp m with m|m;exact hne m.symm;exact z1 m,z2⟩
theorem RD.reset (r:RD [] Hs0 H0 Hs H σ' ε)(b:But ts σ σ'):RD [] Hs0 H0 Hs H σ (rst ts ε):=by
 have at1:∀(i:Nat)(s:MSlot),(rst ts ε)[i]?=some s->s = .no∨(σ'[i]?=σ[i]?/\ε[i]?=some s):=λi s h=>by
  rcases PD ts ε i s h with z|⟨z1,z2⟩
  ·exact .inl z
  ·exact .inr ⟨b.2 i z1,z2⟩
 refine ⟨r.s1,r.s2,r.s3,r.s4,λi x h=>?_,λi x h=>?_,λi j x y a h1 h2 h3 h4=>?_,by rw [PF,<- r.len,b.1],(λ_ z=>nomatch z),(λ_ z=>nomatch z),(λ_ z=>nomatch z),λi x h=>by
  rcases at1 i _ h with z|⟨_,z2⟩
  ·cases z
  ·exact r.nb i x z2⟩
 ·rcases at1 i _ h with z|⟨z1,z2⟩
  ·cases z
  ·rw [<- z1];exact r.sh i x z2
 ·rcases at1 i _ h with z|⟨z1,z2⟩
  ·cases z
  ·rw [<- z1];exact r.ow i x z2
 ·rcases at1 i _ h1 with z|⟨z1,z2⟩
  ·cases z
  ·rcases at1 j _ h2 with w|⟨w1,w2⟩
   ·cases w
   ·exact r.nd i j x y a z2 w2 (z1.trans h3) (w1.trans h4)
class Uo (tg:TG)(ts:outParam (List Nat))(g:MG):Prop where
 h:∀{x ε ε'},g x ε=some ε'->∀{Hs0 H0 Hs H σ v},RD [] Hs0 H0 Hs H σ ε->Rep Hs x v->∀{Q:St->Hp->Prop},(∀ σ',RD [] Hs0 H0 Hs H σ' ε'->But ts σ σ'->Q σ' H)->tg v σ H Q
theorem RD.put0 (r:RD [] Hs0 H0 Hs H σ ε){i:Nat}(h:Rep Hs x v):RD [] Hs0 H0 Hs H (σ.set i (some v)) (ε.set i (.sh x)):=by
 have q:=(r.rs).put (i:=i) h;refine ⟨r.s1,r.s2,r.s3,r.s4,q.sh,λj z hz=>?_,q.nd,q.len,(λ_ z=>nomatch z),(λ_ z=>nomatch z),(λ_ z=>nomatch z),Qr r.nb λ_ z=>nomatch z⟩;obtain ⟨c,hc,m1,m2,tc⟩:=q.ow j z hz;refine ⟨c,hc,?_,m2,tc⟩;rw [yy] at hz hc;split at hz
 ·split at hz<;>cases hz
 ·rename_i hij;rw [if_neg hij] at hc;obtain ⟨d,hd,m0,_⟩:=r.ow j z hz;rw [hd] at hc;injection hc with hc;injection hc with hc;injection hc with hc;rw [<- hc];exact m0
instance {i:Nat}:Uo (qV i) [i] (v7 i) where
 h:=λe _ _ _ _ _ _ rd r _ q=>by
  cases e;exact q _ (rd.put0 r) ⟨yg,λj hj=>yq λz=>hj (by rw [<- z];exact yJ.mpr rfl)⟩
def vC (g:MG)(c:WT)(f:W)(ts:List Nat):List PV->List PV->ME->(List PV->ME->Prop)->Prop
 |[],ys,ε,Q=>Q ys ε
 |x::xs,ys,ε,Q=>∃ ε1,g x ε=some ε1/\c ε1 λb ε2=>if b=true then f ε2 λy ε3=>vC g c f ts xs (ys++[y]) (rst ts ε3) Q else vC g c f ts xs ys (rst ts ε2) Q
def jO:WT:=λε Q=>Q true ε
instance:Zg tYes jO where
 h:=λh _ _ _ _ _ _ rd _ k=>k true _ _ _ h rd (.refl _)
def vB (cap:List (Option Nat))(ts:List Nat)(it:WA)(g:MG)(c:WT)(f:W):W:=λε Q=>it ε λxs ε1=>vI cap ts=true/\xs.length<=lim /\
 vC g c f ts xs [] (qm cap ε1) λys ε2=>((∃ y:PV,ε1[0]?=some (MSlot.ow y))->∃ y:PV,(qH cap ε2 ε1)[0]?=some (MSlot.ow y))/\Q (.lst ys) (qH cap ε2 ε1)
noncomputable def less (σ:St)(ε:ME)(H:Hp):Hp:=λb=>open Classical in if ∃(i:Nat)(x:PV),ε[i]?=some (MSlot.ow x)/\σ[i]?=some (some (V.ref b)) then none else H b
theorem VH {b:Addr}(h:less σ ε H b=some o):H b=some o/\∀(i:Nat)(x:PV),ε[i]?=some (MSlot.ow x)->σ[i]?≠some (some (V.ref b)):=by
 unfold less at h;split at h
 ·cases h
 ·rename_i hn;exact ⟨h,λi x h1 h2=>hn ⟨i,x,h1,h2⟩⟩
theorem Bm {b:Addr}(h:less σ ε H b=none):H b=none∨∃(i:Nat)(x:PV),ε[i]?=some (MSlot.ow x)/\σ[i]?=some (some (V.ref b)):=by
 unfold less at h;split at h
 ·rename_i hn;exact .inr hn
 ·exact .inl h
theorem DT {cap:List (Option Nat)}(nb:∀(i:Nat)(x:PV),ε[i]?≠some (.bo x)):∀(i:Nat)(x:PV),(qm cap ε)[i]?≠some (.bo x):=λi x h=>by
 unfold qm at h;rw [yP] at h;cases ho:cap[i]? with
 |none=>rw [ho] at h;cases h
 |some o =>
  rw [ho] at h;cases o with
  |none=>cases h
  |some k =>
   cases hk:ε[k]? with
   |none=>simp only [uK,hk,tT] at h;cases h
   |some s=>simp only [uK,hk,Option.getD_some] at h;cases h;exact nb k x hk
theorem RD.block {cap:List (Option Nat)}(hc:(cap.filterMap id).Nodup)(r:RD S Hs0 H0 Hs H σ ε):RD [] Hs (less (i0 cap σ) (qm cap ε) H) Hs H (i0 cap σ) (qm cap ε):=by have q:=(r.rs).cap hc;refine ⟨.refl _,λb o e _=>(VH e).1,r.s3,λ_ _ z=>z,q.sh,λi x h=>?_,q.nd,q.len,(λ_ z=>nomatch z),(λ_ z=>nomatch z),(λ_ z=>nomatch z),DT r.nb⟩;obtain ⟨a,h1,h2,h3,h4⟩:=q.ow i x h;refine ⟨a,h1,.inl ?_,h3,h4⟩;unfold less;rw [if_pos ⟨i,x,h,h1⟩]
theorem jT {cap:List (Option Nat)}{i k:Nat}(h:cap[i]?=some (some k))(e:(i0 cap σ)[i]?=some (some v)):σ[k]?=some (some v):=by
 unfold i0 at e;rw [yP,h] at e;simp only [uK,yK,Option.some.injEq] at e;cases hs:σ[k]? with
 |none=>rw [hs] at e;cases e
 |some o=>rw [hs] at e;simp at e;rw [e]
theorem GS {cap:List (Option Nat)}{i:Nat}(h:(qm cap ε)[i]?=some (.ow x)):∃ k:Nat,cap[i]?=some (some k)/\ε[k]?=some (.ow x):=by
 unfold qm at h;rw [yP] at h;cases ho:cap[i]? with
 |none=>rw [ho] at h;cases h
 |some o =>
  rw [ho] at h;cases o with
  |none=>cases h
  |some k =>
   cases hk:ε[k]? with
   |none=>simp only [uK,hk,tT] at h;cases h
   |some s=>simp only [uK,hk,Option.getD_some] at h;cases h;exact ⟨k,rfl,hk⟩
theorem RD.unblock {Hs1 H1 Hs2 H2:Hp}{ε1 ε2:ME}{cap:List (Option Nat)}(hc:(cap.filterMap id).Nodup)(r:RD S Hs0 H0 Hs1 H1 σ ε1)(q:RD [] Hs1 (less (i0 cap σ) (qm cap ε1) H1) Hs2 H2 (i0 cap σ) ε2)(st:(∃ y,ε1[0]?=some (.ow y))->∃ y,(qH cap ε2 ε1)[0]?=some (.ow y)):RD S Hs0 H0 Hs2 H2 σ (qH cap ε2 ε1):=by
 have hl:cap.length=ε2.length:=by rw [<- q.len];unfold i0;rw [yZ]
 have at1:∀(i:Nat)(s:MSlot),(qH cap ε2 ε1)[i]?=some s->(some i∉cap/\ε1[i]?=some s)∨∃ j:Nat,cap[j]?=some (some i)/\ε2[j]?=some s:=λi s h=>by
  by_cases hi:some i∈cap
  ·have hlt:i<ε1.length:=by have:=(yB.mp h).1;rwa [XZ] at this
   obtain ⟨j,h1,h2⟩:=YS cap ε2 ε1 i hl hi hlt hc;exact .inr ⟨j,h1,h2▸h⟩
  ·exact .inl ⟨hi,YT cap ε2 ε1 i hi▸h⟩
 have own0:∀ a,less (i0 cap σ) (qm cap ε1) H1 a=none->H0 a=none∨a∈S:=λa h=>by
  rcases Bm h with h|⟨i,x,h1,h2⟩
  ·exact .inl (r.free0 h)
  ·obtain ⟨k,hk,hx⟩:=GS h1;obtain ⟨c,hc',m0,_⟩:=r.ow k x hx;rw [jT hk h2] at hc';injection hc' with hc';injection hc' with hc';injection hc' with hc';rw [hc'];exact m0
 have keep:∀(k:Nat)(x:PV)(a:Addr),some k∉cap->ε1[k]?=some (.ow x)->σ[k]?=some (some (.ref a))->∀ o,H1 a=some o->less (i0 cap σ) (qm cap ε1) H1 a=some o:=λk x a hk hx ha o ho=>by
  cases z:less (i0 cap σ) (qm cap ε1) H1 a with
  |some u=>rw [<- ho,(VH z).1]
  |none =>
   rcases Bm z with z|⟨i,y,h1,h2⟩
   ·rw [z] at ho;cases ho
   ·obtain ⟨m,hm,hy⟩:=GS h1;have:=r.nd k m x y a hx hy ha (jT hm h2);subst this;exact absurd (yh hm) hk
 have ow':∀(i:Nat)(x:PV),(qH cap ε2 ε1)[i]?=some (.ow x)->∃ a,σ[i]?=some (some (.ref a))/\(H0 a=none∨a∈S)/\Hs2 a=none/\Top Hs2 H2 a x:=λi x h=>by
  rcases at1 i _ h with ⟨hi,e⟩|⟨j,hj,e⟩
  ·obtain ⟨a,ha,m0,m1,t⟩:=r.ow i x e;refine ⟨a,ha,m0,?_,t.mono q.s1 λo ho=>q.s2 a o (keep i x a hi e ha o ho) ye⟩;cases z:H1 a with
   |none=>exact absurd z t.there
   |some o=>exact q.s4 a (by rw [keep i x a hi e ha o z];exact λw=>nomatch w) m1
  ·obtain ⟨a,ha,m0,m1,t⟩:=q.ow j x e;exact ⟨a,jT hj ha,own0 a (m0.resolve_right ye),m1,t⟩
 have str':∀ a∈S,∃ y,(qH cap ε2 ε1)[0]?=some (.ow y):=λa hS=>st (r.str a hS);refine ⟨r.s1.trans q.s1,λb o e hS=>?_,q.s3,λb h z=>?_,λi x h=>?_,ow',λi j x y a h1 h2 h3 h4=>?_,by rw [XZ];exact r.len,r.pin,λb hS=>?_,str',λi x h=>by
  rcases at1 i _ h with ⟨_,e⟩|⟨j,_,e⟩
  ·exact r.nb i x e
  ·exact q.nb j x e⟩
 ·have e1:=r.s2 b o e hS;refine q.s2 b o ?_ ye;cases z:less (i0 cap σ) (qm cap ε1) H1 b with
  |some u=>rw [<- e1,(VH z).1]
  |none =>
   rcases own0 b z with w|w
   ·rw [w] at e;cases e
   ·exact absurd w hS
 ·have z1:=r.s4 b h z;by_cases hL:less (i0 cap σ) (qm cap ε1) H1 b=none
  ·rcases own0 b hL with w|w
   ·exact absurd w h
   ·obtain ⟨y,hy⟩:=str' b w;obtain ⟨a,ha,_,m1,_⟩:=ow' 0 y hy;rw [r.pin b w] at ha;injection ha with ha;injection ha with ha;injection ha with ha;rw [ha];exact m1
  ·exact q.s4 b hL z1
 ·rcases at1 i _ h with ⟨hi,e⟩|⟨j,hj,e⟩
  ·obtain ⟨v,hv,rv⟩:=r.sh i x e;exact ⟨v,hv,rv.mono q.s1⟩
  ·obtain ⟨v,hv,rv⟩:=q.sh j x e;exact ⟨v,jT hj hv,rv⟩
 ·rcases at1 i _ h1 with ⟨hi,e⟩|⟨k,hk,e⟩
  ·rcases at1 j _ h2 with ⟨hj,e'⟩|⟨l,hl',e'⟩
   ·exact r.nd i j x y a e e' h3 h4
   ·-- one of the block's own,one that it does not see
    obtain ⟨a',ha',m0,_,_⟩:=q.ow l y e';have ea:=jT hl' ha';rw [h4] at ea;injection ea with ea;injection ea with ea;injection ea with ea;subst ea;obtain ⟨c,hc1,_,_,t⟩:=r.ow i x e;rw [h3] at hc1;injection hc1 with hc1;injection hc1 with hc1;injection hc1 with hc1;subst hc1;cases z:H1 a with
    |none=>exact absurd z t.there
    |some o=>have w:=keep i x a hi e h3 o z;rw [m0.resolve_right ye] at w;cases w
  ·rcases at1 j _ h2 with ⟨hj,e'⟩|⟨l,hl',e'⟩
   ·obtain ⟨a',ha',m0,_,_⟩:=q.ow k x e;have ea:=jT hk ha';rw [h3] at ea;injection ea with ea;injection ea with ea;injection ea with ea;subst ea;obtain ⟨c,hc1,_,_,t⟩:=r.ow j y e';rw [h4] at hc1;injection hc1 with hc1;injection hc1 with hc1;injection hc1 with hc1;subst hc1;cases z:H1 a with
    |none=>exact absurd z t.there
    |some o=>have w:=keep j y a hj e' h4 o z;rw [m0.resolve_right ye] at w;cases w
   ·obtain ⟨a1,ha1,_⟩:=q.ow k x e;obtain ⟨a2,ha2,_⟩:=q.ow l y e';have e1:=jT hk ha1;have e2:=jT hl' ha2;rw [h3] at e1;rw [h4] at e2;injection e1 with e1;injection e1 with e1;injection e1 with e1;injection e2 with e2;injection e2 with e2;injection e2 with e2;subst e1;subst e2;have kl:=q.nd k l x y a e e' ha1 ha2;subst kl;rw [hk] at hl';injection hl' with hl';injection hl' with hl'
 ·obtain ⟨y,hy⟩:=str' b hS;obtain ⟨a,ha,_,_,t⟩:=ow' 0 y hy;rw [r.pin b hS] at ha;injection ha with ha;injection ha with ha;injection ha with ha;rw [ha];exact t.there
instance {cap:List (Option Nat)}{it:WA}{g:MG}{c:WT}{f:W}[si:SemWI wi it][sg:Uo tg ts g][sc:Zg tt c][sf:SemW te f]:SemW (Jy wi tg tt te cap) (vB cap ts it g c f) where
 h:=λ{ε Q'} h S Hs0 H0 Hs H σ rd Q k=>si.h h rd λxs ε1 J Hs1 H1 h1 rd1 g1 ok=>by
  obtain ⟨hcap,hl,h1⟩:=h1;unfold vI at hcap;rw [yf] at hcap;have hnd:=uT hcap.1;have wk:∀ i∈ts,(i0 cap σ)[i]?=some none:=λi hi=>by
   unfold i0;rw [yP,uT (uE.mp hcap.2 i hi)];rfl
  refine ⟨λn m zs H=>m=xs.length-n/\n<=xs.length/\∃ Hs2 ws ε2,RD [] Hs1 (less (i0 cap σ) (qm cap ε1) H1) Hs2 H (i0 cap σ) ε2/\Reps Hs2 ws zs/\ws.length<=n /\
    vC g c f ts (xs.drop n) ws ε2 (λys ε3=>((∃ y:PV,ε1[0]?=some (MSlot.ow y))->∃ y:PV,(qH cap ε3 ε1)[0]?=some (MSlot.ow y))/\Q' (PV.lst ys) (qH cap ε3 ε1)),
   ⟨xs.length,by simp,uY _,Hs1,[],_,rd1.block hnd,.nil,yV _,h1⟩,?_⟩
  rintro n m zs H2 ⟨rfl,hn,Hs2,ws,ε2,r2,rz,hw,h2⟩;refine ⟨xX (by rw [rz.length];omega),?_⟩;by_cases hlt:n<xs.length
  ·have hd:xs.drop n=xs[n]::xs.drop (n+1):=uD hlt;rw [hd] at h2;obtain ⟨ε3,e3,h3⟩:=h2;obtain ⟨go,yl⟩:=ok.go n xs[n] Hs2 H2 (by simp [hlt]) r2.s1 r2.s3;refine .inr ⟨go,λv H3 y=>?_⟩;obtain ⟨Hs3,x3,r3⟩:=yl v H3 y;refine sg.h e3 (r2.go x3) r3 λσ4 rd4 bt=>⟨bt.wk wk,sc.h h3 rd4 λb ε5 Hs5 H5 h5 rd5 g5=>?_⟩;cases b with
   |true=>refine zC (sf.h (by simpa using h5) rd5 λy ε6 u Hs6 H6 h6 rd6 g6 ru=>⟨xs.length-(n+1),by omega,rfl,hlt,Hs6,ws++[y],_,rd6.reset bt,?_,by rw [yN];simp;omega,h6⟩);exact (rz.mono (x3.s1.trans (g5.trans g6))).snoc ru
   |false=>exact zB ⟨xs.length-(n+1),by omega,rfl,hlt,Hs5,ws,_,rd5.reset bt,rz.mono (x3.s1.trans g5),by omega,by simpa using h5⟩
  ·have en:n=xs.length:=by omega
   subst en;rw [tR] at h2;refine .inl ⟨ok.stop Hs2 H2 r2.s1 r2.s3,λD hD=>?_⟩;have rd2:=rd1.unblock hnd r2 h2.1;exact k _ _ _ _ _ h2.2 (rd2.go (.new rd2.s3 hD)) (g1.trans (r2.s1.trans (Ext.new rd2.s3 hD).s1)) (rep_lst.mpr ⟨D,zs,rfl,g0,rz.mono (Ext.new rd2.s3 hD).s1⟩)
section
variable {P:Program}{w:World}{K:Fg}{mg:Str->Option Value}{base:Heap}
theorem wj {i:Nat}:(xs.map MSlot.sh++List.replicate n .no)[i]?≠some (.ow x):=λh=>by
 by_cases hi:i<xs.length
 ·rw [yb (by rw [yZ];exact hi),yP] at h;obtain ⟨y,_,z⟩:=yM.mp h;cases z
 ·rw [yn (by rw [yZ];omega),uf] at h;split at h<;>cases h
theorem Ww {i:Nat}:(xs.map MSlot.sh++List.replicate n .no)[i]?≠some (.bo x):=λh=>by
 by_cases hi:i<xs.length
 ·rw [yb (by rw [yZ];exact hi),yP] at h;obtain ⟨y,_,z⟩:=yM.mp h;cases z
 ·rw [yn (by rw [yZ];omega),uf] at h;split at h<;>cases h
theorem RZ {a:Addr}{n:Int}(s:Same Hs H)(ha:Hs a=none)(hH:H a=some (.lst [.int n]))(r:Reps Hs xs ws):RD [a] Hs H Hs H (L2.start N (.ref a::ws)) (m9 n::xs.map .sh++List.replicate (N.length-(xs.length+1)) .no):=by
 have q:=vz (N:=N) (xs:= .at (.ref a)::xs) s (.cons (rep_at.mpr rfl) r);have tl:∀(i:Nat)(sl:MSlot),(m9 n::xs.map .sh++List.replicate (N.length-(xs.length+1)) .no)[i+1]?=some sl->((PV.at (.ref a)::xs).map MSlot.sh++List.replicate (N.length-(PV.at (.ref a)::xs).length) .no)[i+1]?=some sl:=λi sl h=>h;refine ⟨.refl _,λb o e _=>e,s,λ_ _ z=>z,λi x h=>?_,λi x h=>?_,λi j x y b h1 h2 _ _=>?_,?_,λb hb=>?_,λb hb=>?_,(λb hb=>⟨_,rfl⟩),λi x h=>by
  cases i with
  |zero=>unfold m9 at h;simp at h
  |succ i=>exact Ww (xs:=PV.at (.ref a)::xs) (tl i _ h)⟩
 ·cases i with
  |zero=>unfold m9 at h;simp at h
  |succ i=>exact q.sh (i+1) x (tl i _ h)
 ·cases i with
  |zero=>unfold m9 at h;simp at h;subst h;refine ⟨a,?_,.inr (yJ.mpr rfl),ha,_,hH,.one (rep_at.mpr rfl)⟩;unfold L2.start;rfl
  |succ i =>
   obtain ⟨c,h1,_⟩:=q.ow (i+1) x (tl i _ h);exact absurd (tl i _ h) λz=>by
    have:=wj (i:=i+1) (x:=x) (xs:=PV.at (.ref a)::xs) (n:=N.length-(PV.at (.ref a)::xs).length);exact this z
 ·cases i with
  |zero =>
   cases j with
   |zero=>rfl
   |succ j=>exact absurd (tl j _ h2) (wj (xs:=PV.at (.ref a)::xs))
  |succ i=>exact absurd (tl i _ h1) (wj (xs:=PV.at (.ref a)::xs))
 ·exact q.len
 ·rw [yJ.mp hb];unfold L2.start;rfl
 ·rw [yJ.mp hb,hH];exact λz=>nomatch z
theorem okD {x:Str}{f:Addr}{k:Nat}(F:Fun K x qual st f fd)(S:y4 N ps (j7 st))(hpre:∀ xs,pre xs->xs.length+1=ps.length)(hb:∀(cdv:Value)(A:Around)(outer:List Env)(s:Shared)(H:Hp)(E:XK),Room k (A.deeper (PyProof.Rows.envOfC qual (j7 st) s.heap.objs.size f cdv)) -> ∃ t,PSs (xz v6 P w K mg base N qual (j7 st) f cdv A outer s H E).nox (qo st) t/\SemWS t b)(hw:∀ xs n,pre xs->b (m9 n::xs.map .sh++List.replicate (N.length-(xs.length+1)) .no) (λ_=>False) λy ε=>R xs y/\zN 0 ε):FnOk P w K mg base v6 (k+1) f fd ps (spD pre R):=by
 refine F.ok S (λvs H Q E h=>?_) (λcdv A outer s H vs Q E hr h=>?_)
 ·obtain ⟨Hs,a,n,xs,ws,rfl,_,_,_,r,hp,_⟩:=h;rw [yF,r.length];exact hpre xs hp
 ·obtain ⟨Hs,a,n,xs,ws,rfl,sm,ha,hH,r,hp,q⟩:=h;obtain ⟨t,ht,sem⟩:=hb cdv A outer s H E hr;refine ⟨t,ht,sem.h (hw xs n hp) (RZ sm ha hH r) (λε σ Hs' H' z _ _=>z.elim) λy ε σ v Hs' H' hR rd g rv=>?_⟩;obtain ⟨hR,n',hn'⟩:=hR;obtain ⟨a',ha',hH',hs',_⟩:=rd.strm_at hn';rw [rd.pin a (yJ.mpr rfl)] at ha';injection ha' with ha';injection ha' with ha';injection ha' with ha';subst ha';refine q y v n' Hs' H' hR ⟨g,λb o e hb=>rd.s2 b o e λz=>hb (yJ.mp z),rd.s3,λb h z=>rd.s4 b h z⟩ hs' hH' rv
end
def spN (pre:List PV->Prop)(R:List PV->PV->Prop):Sp:=λvs H Q _=>∃ Hs xs,Same Hs H/\Reps Hs xs vs/\pre xs/\∀ y a Hs' H',R xs y->Ext Hs H Hs' H'->H a=none->Hs' a=none->Top Hs' H' a y->Q (.ref a) H'
def spV (pre:List PV->Prop)(R:List PV->PV->Prop):Sp:=λvs H Q _=>∃ Hs xs,Same Hs H/\Reps Hs xs vs/\pre xs/\∀ y v Hs' H',R xs y->Ext Hs H Hs' H'->Rep Hs' y v->Q v H'
def Ug (i:Nat)(pre:List PV->Prop)(R:List PV->PV->Prop)(as:WA):WS:=λε N _=>as ε λxs ε1=>pre xs/\∀ y,R xs y->N (ε1.set i (.ow y))
instance {i:Nat}{as:WA}[sa:vF ta as]:SemWS (je (jM (spN pre R) [] E ta) (qV (i+1))) (Ug (i+1) pre R as) where
 h:=λh _ _ _ _ _ _ rd _ k _=>sa.h h rd λxs ε1 vs Hs1 H1 h1 rd1 g1 r1=>by
  refine ⟨Hs1,xs,rd1.s3,by rw [yt];exact r1,h1.1,λy a Hs' H' hR x n n' t=>?_⟩;refine k _ _ _ _ (h1.2 y hR) ((rd1.go x).putO (.inl (rd1.free0 n)) n' t λj z hj e=>?_) (g1.trans x.s1);obtain ⟨b,hb,_,_,tb⟩:=rd1.ow j z hj;rw [e] at hb;injection hb with hb;injection hb with hb;injection hb with hb;subst hb;exact tb.there n
def CL (pre:List PV->Prop)(R:List PV->PV->Prop)(as:WA):W:=λε Q=>as ε λxs ε1=>pre xs/\∀ y,R xs y->Q y ε1
instance {as:WA}[sa:vF ta as]:SemW (jM (spV pre R) [] E ta) (CL pre R as) where
 h:=λh _ _ _ _ _ _ rd _ k=>sa.h h rd λxs ε1 vs Hs1 H1 h1 rd1 g1 r1 =>
  ⟨Hs1,xs,rd1.s3,by rw [yt];exact r1,h1.1,λy v Hs' H' hR x rv=>k y ε1 v Hs' H' (h1.2 y hR) (rd1.go x) (g1.trans x.s1) rv⟩
section
variable {P:Program}{w:World}{K:Fg}{mg:Str->Option Value}{base:Heap}
theorem Pn (s:Same Hs H)(r:Reps Hs xs vs):RD [] Hs H Hs H (L2.start N vs) (xs.map .sh++List.replicate (N.length-xs.length) .no):=by have q:=vz (N:=N) s r;exact ⟨.refl _,λb o e _=>e,s,λ_ _ z=>z,q.sh,λi x h=>absurd h wj,q.nd,q.len,(λ_ z=>nomatch z),(λ_ z=>nomatch z),(λ_ z=>nomatch z),λ_ _=>Ww⟩
theorem okV {x:Str}{f:Addr}{k:Nat}(F:Fun K x qual st f fd)(S:y4 N ps (j7 st))(hpre:∀ xs,pre xs->xs.length=ps.length)(hb:∀(cdv:Value)(A:Around)(outer:List Env)(s:Shared)(H:Hp)(E:XK),Room k (A.deeper (PyProof.Rows.envOfC qual (j7 st) s.heap.objs.size f cdv)) -> ∃ t,PSs (xz v6 P w K mg base N qual (j7 st) f cdv A outer s H E).nox (qo st) t/\SemWS t b)(hw:∀ xs,pre xs->b (xs.map .sh++List.replicate (N.length-xs.length) .no) (λ_=>False) λy _=>R xs y):FnOk P w K mg base v6 (k+1) f fd ps (spV pre R):=by
 refine F.ok S (λvs H Q E h=>?_) (λcdv A outer s H vs Q E hr h=>?_)
 ·obtain ⟨Hs,xs,_,r,hp,_⟩:=h;rw [r.length];exact hpre xs hp
 ·obtain ⟨Hs,xs,sm,r,hp,q⟩:=h;obtain ⟨t,ht,sem⟩:=hb cdv A outer s H E hr;refine ⟨t,ht,sem.h (hw xs hp) (Pn sm r) (λε σ Hs' H' z _ _=>z.elim) λy ε σ v Hs' H' hR rd g rv=>?_⟩;exact q y v Hs' H' hR ⟨g,λb o e=>rd.s2 b o e ye,rd.s3,rd.s4⟩ rv
def scr (K:Fg)(ns:List Int):PV:= .op λH v=>∃ a,v = .ref a/\SqL K H a (ns.map V.int)
theorem Si {K:Fg}{ns:List Int}(s:Same Hs H)(r:Rep Hs (scr K ns) v):∃ a,v = .ref a/\SqL K H a (ns.map V.int):=by obtain ⟨H1,s1,a,rfl,q⟩:=rep_op.mp r;exact ⟨a,rfl,(s1.trans s).seq q⟩
def XS (K:Fg):Sp:=λvs H Q _=>∃(a:Addr)(ns:List Int),vs=[.ref a]/\SqL K H a (ns.map V.int)/\ns.length<=63/\∀ H',Q (.bl true) H'
theorem okL {x:Str}{f:Addr}{k:Nat}(F:Fun K x qual st f fd)(S:y4 N ["script"] (j7 st))(hb:∀ (cdv:Value) (A:Around) (outer:List Env) (s:Shared) (H:Hp) (E:XK),Room k (A.deeper (PyProof.Rows.envOfC qual (j7 st) s.heap.objs.size f cdv)) -> ∃ t,PSs (xz v6 P w K mg base N qual (j7 st) f cdv A outer s H E).nox (qo st) t/\SemWS t b)(hw:∀ ns:List Int,ns.length<=63->b (.sh (scr K ns)::List.replicate (N.length-1) .no) (λ_=>False) λy _=>y = .at (.bl true)):FnOk P w K mg base v6 (k+1) f fd ["script"] (XS K):=by
 refine F.ok S (λvs H Q E h=>?_) (λcdv A outer s H vs Q E hr h=>?_)
 ·obtain ⟨a,ns,rfl,_⟩:=h;rfl
 ·obtain ⟨a,ns,rfl,hS,h63,q⟩:=h;obtain ⟨t,ht,sem⟩:=hb cdv A outer s H E hr;have r:Reps H [scr K ns] [.ref a]:= .one (rep_op.mpr ⟨H,.refl _,a,rfl,hS⟩);refine ⟨t,ht,sem.h (hw ns h63) (Pn (N:=N) (.refl H) r) (λε σ Hs' H' z _ _=>z.elim) λy ε σ v Hs' H' hR rd g rv=>?_⟩;subst hR;cases rep_at.mp rv;exact q H'
end
class qZ (w:W):Prop where
 h:∀{ε:ME}{P P':PV->ME->Prop},(∀ y e,P y e->P' y e)->w ε P->w ε P'
class wE (w:WA):Prop where
 h:∀{ε:ME}{P P':List PV->ME->Prop},(∀ y e,P y e->P' y e)->w ε P->w ε P'
class wF (w:WT):Prop where
 h:∀{ε:ME}{P P':Bool->ME->Prop},(∀ y e,P y e->P' y e)->w ε P->w ε P'
class zt (w:WS):Prop where
 h:∀{ε:ME}{N N':ME->Prop}{R R':PV->ME->Prop},(∀ e,N e->N' e)->(∀ y e,R y e->R' y e)->w ε N R->w ε N' R'
instance {f:M}:qZ (wP f) where h:=λk ⟨y,e,q⟩=>⟨y,e,k _ _ q⟩
instance {f:MB}:wF (wPT f) where h:=λk ⟨y,e,q⟩=>⟨y,e,k _ _ q⟩
instance {g:PV->PV->Option PV}{b:W}[A:qZ a][B:qZ b]:qZ (xE g a b) where h:=λk h=>A.h (λ_ _ h1=>B.h (λ_ _ ⟨z,e,q⟩=>⟨z,e,k _ _ q⟩) h1) h
instance:wF jO where h:=λk h=>k _ _ h
theorem Vz {c:Bool}{A B A' B':Prop}(h1:A->A')(h2:B->B')(h:if c=true then A else B):if c=true then A' else B':=by
 cases c with
 |true=>exact zC (h1 (by simpa using h))
 |false=>exact zB (h2 (by simpa using h))
instance:wE qS where h:=λk h=>k _ _ h
instance [A:qZ a][B:wE r]:wE (b9 a r) where h:=λk h=>A.h (λ_ _ h1=>B.h (λ_ _ h2=>k _ _ h2) h1) h
instance {i:Nat}[A:qZ a]:qZ (qT i a) where h:=λk h=>⟨h.1,A.h (λ_ _ ⟨n,m,e1,e2,e3,q⟩=>⟨n,m,e1,e2,e3,k _ _ q⟩) h.2⟩
instance {i:Nat}{a:WA}[A:wE a]:qZ (zr i pre R a) where h:=λk h=>⟨h.1,A.h (λ_ _ ⟨h1,h2,h3⟩=>⟨h1,h2,λy n r=>k _ _ (h3 y n r)⟩) h.2⟩
instance {i:Nat}[A:qZ a]:qZ (wPop i a) where h:=λk h=>⟨h.1,A.h (λ_ _ ⟨xs,j,y,e1,e2,e3,e4,e5,e6,q⟩=>⟨xs,j,y,e1,e2,e3,e4,e5,e6,k _ _ q⟩) h.2⟩
instance {f:MA}:wE (wIp f) where h:=λk ⟨y,e,q⟩=>⟨y,e,k _ _ q⟩
theorem Uf {g:MG}{c:WT}{f:W}{ts:List Nat}[C:wF c][F:qZ f]{Q Q':List PV->ME->Prop}(k:∀ y e,Q y e->Q' y e):∀(xs ys:List PV)(ε:ME),vC g c f ts xs ys ε Q->vC g c f ts xs ys ε Q'
 |[],ys,ε,h=>k _ _ h
 |x::xs,ys,ε,h=>by
  obtain ⟨ε1,e1,h1⟩:=h;exact ⟨ε1,e1,C.h (λb ε2 h2=>Vz (λh3=>F.h (λy ε3 h4=>Uf k xs _ _ h4) h3) (λh3=>Uf k xs _ _ h3) h2) h1⟩
instance {cap:List (Option Nat)}{it:WA}{g:MG}{c:WT}{f:W}[I:wE it][C:wF c][F:qZ f]:qZ (vB cap ts it g c f) where
 h:=λk h=>I.h (λ_ _ ⟨h1,h2,h3⟩=>⟨h1,h2,Uf (λ_ _ ⟨q1,q2⟩=>⟨q1,k _ _ q2⟩) _ _ _ h3⟩) h
instance:zt jN where h:=λk _ h=>k _ h
instance {a:WS}[A:zt a][B:zt b]:zt (wSeq a b) where h:=λk r h=>A.h (λ_ h1=>B.h k r h1) r h
instance {i:Nat}[A:qZ a]:zt (qI i a) where h:=λk _ h=>A.h (λ_ _ h1=>k _ h1) h
instance [A:qZ a]:zt (zf a) where h:=λ_ r h=>A.h r h
instance {c:WT}{a:WS}[C:wF c][A:zt a][B:zt b]:zt (zO c a b) where h:=λk r h=>C.h (λ_ _ h1=>Vz (λh2=>A.h k r h2) (λh2=>B.h k r h2) h1) h
instance {i:Nat}[A:qZ a]:zt (wz i a) where h:=λk _ h=>⟨h.1,A.h (λ_ _ ⟨xs,e1,e2,q⟩=>⟨xs,e1,e2,k _ q⟩) h.2⟩
theorem JY {g:MG}{c:WT}{f:W}{ts:List Nat}{Q:List PV->ME->Prop}[C:wF c][F:qZ f](I:List PV->List PV->ME->Prop)(hd:∀ ys ε,I [] ys ε->Q ys ε)(hs:∀ x xs ys ε,I (x::xs) ys ε->∃ ε1,g x ε=some ε1/\c ε1 λb ε2=>if b=true then f ε2 λy ε3=>I xs (ys++[y]) (rst ts ε3) else I xs ys (rst ts ε2)):∀(xs ys:List PV)(ε:ME),I xs ys ε->vC g c f ts xs ys ε Q
 |[],ys,ε,h=>hd ys ε h
 |x::xs,ys,ε,h=>by
  obtain ⟨ε1,e1,h1⟩:=hs x xs ys ε h;exact ⟨ε1,e1,C.h (λb ε2 h2=>Vz (λh3=>F.h (λy ε3 h4=>JY I hd hs xs _ _ h4) h3) (λh3=>JY I hd hs xs _ _ h3) h2) h1⟩
theorem Zr {g:MG}{f:W}{Q:List PV->ME->Prop}[F:qZ f](I:List PV->List PV->ME->Prop)(hd:∀ ys ε,I [] ys ε->Q ys ε)(hs:∀ x xs ys ε,I (x::xs) ys ε->∃ ε1,g x ε=some ε1/\f ε1 λy ε3=>I xs (ys++[y]) (rst ts ε3))(xs ys:List PV)(ε:ME)(h:I xs ys ε):vC g jO f ts xs ys ε Q :=
 JY I hd (λx xs ys ε h=>by
  obtain ⟨ε1,e,q⟩:=hs x xs ys ε h;refine ⟨ε1,e,?_⟩;show if true=true then (f ε1 λy ε3=>I xs (ys++[y]) (rst ts ε3)) else I xs ys (rst ts ε1)
  rw [if_pos rfl];exact q) xs ys ε h
theorem VM {g:MG}{f:WS}{N:ME->Prop}{R:PV->ME->Prop}[F:zt f](I:List PV->ME->Prop)(hd:∀ ε,I [] ε->N ε)(hs:∀ x xs ε,I (x::xs) ε->∃ ε1,g x ε=some ε1/\f ε1 (λε2=>I xs ε2) R):∀(xs:List PV)(ε:ME),I xs ε->Zb g f xs ε N R
 |[],ε,h=>hd ε h
 |x::xs,ε,h=>by
  obtain ⟨ε1,e1,h1⟩:=hs x xs ε h;exact ⟨ε1,e1,F.h (λε2 h2=>VM I hd hs xs ε2 h2) (λ_ _ z=>z) h1⟩
section
variable {ε ε1:ME}{a b:MS}{f g:M}{x y z:PV}{i:Nat}{o:Option Out}
theorem w9 (h:a ε=some (.nx ε1))(k:b ε1=o):v3 a b ε=o:=by unfold v3;rw [h];exact k
theorem QV (h:a ε=some (.rt y)):v3 a b ε=some (.rt y):=by unfold v3;rw [h];rfl
theorem p7 (h:f ε=some x):u5 i f ε=some (.nx (ε.set i (.sh x))):=by unfold u5;rw [h];rfl
theorem ZF (h:f ε=some x):vJ i f ε=some (.nx (ε.set i (.ow x))):=by unfold vJ;rw [h];rfl
theorem k9 (h:f ε=some x):y9 f ε=some (.rt x):=by unfold y9;rw [h];rfl
theorem w6 {G:PV->PV->Option PV}{r:Option PV}(h1:f ε=some x)(h2:g ε=some y)(h:G x y=r):x8 G f g ε=r:=by unfold x8;rw [h1];show Option.bind (g ε) _=_;rw [h2];exact h
theorem v5 {r:Option PV}(h1:as ε=some xs)(h:m xs=r):x9 m as ε=r:=by unfold x9;rw [h1];exact h
theorem y3 {r:MA}(h1:f ε=some x)(h2:r ε=some xs):q0 f r ε=some (x::xs):=by unfold q0;rw [h1];show Option.bind (r ε) _=_;rw [h2];rfl
theorem Qd (h:c ε=some true)(k:a ε=o):m3 c a b ε=o:=by unfold m3;rw [h];exact k
theorem qx (h:c ε=some false)(k:b ε=o):m3 c a b ε=o:=by unfold m3;rw [h];exact k
theorem xB (h:it ε=some xs)(k:r6 G a xs ε=o):xb it G a ε=o:=by unfold xb;rw [h];exact k
theorem vM {lo hi:Option Int}(h1:f ε=some (.lst xs))(h2:l ε=some lo)(h3:u ε=some hi):xH f l u ε=some (.lst (zx xs lo hi)):=by unfold xH;rw [h1];show Option.bind (l ε) _=_;rw [h2];show Option.bind (u ε) _=_;rw [h3];rfl
theorem zW (h:as ε=some xs)(hl:xs.length<=lim):qD as ε=some (.lst xs):=by unfold qD;rw [h];show (if _ then _ else _)=_;rw [if_pos hl]
theorem xN (h:as ε=some xs)(hl:xs.length<=lim):qj as ε=some (.tup xs):=by unfold qj;rw [h];show (if _ then _ else _)=_;rw [if_pos hl]
theorem Vj {cap:List (Option Nat)}(h:it ε=some xs)(hc:vI cap ts=true)(hl:xs.length<=lim)(k:xT G c f (qm cap ε) xs=some ys):m8 cap ts it G c f ε=some (.lst ys):=by unfold m8;rw [h];show (if _ then _ else _)=_;rw [if_pos ⟨hc,hl⟩,k];rfl
end
theorem vZ (h:xs.length+ys.length<=lim):c7 (.lst xs) (.lst ys)=some (.lst (xs++ys)):=by show (if _ then _ else _)=_;rw [if_pos h]
theorem xJ {k:Nat}{b:MS}(hl:xs.length=k)(h:b (xs.map .sh++List.replicate (n-k) .no)=some (.rt y)):qt n k b xs=some y:=by unfold qt;rw [if_pos hl,h];rfl
theorem r9 {k:Nat}{b:MS}(hl:xs.length=k)(h:b (xs.map .sh++List.replicate (n-k) .no)=some (.rt y)):p6 n k b xs=some y:=by unfold p6;rw [if_pos hl,h];rfl
theorem Wh {f:PV->PV->Option Bool}:∀{xs:List PV},(∀ x∈xs,f x x=some true)->zI f xs xs=some true
 |[],_=>rfl
 |x::xs,h=>by unfold zI;rw [h x yU];show Option.bind (zI f xs xs) _=_;rw [Wh λy hy=>h y (yW _ hy)];rfl
def Qz:Nat->PV->Prop
 |_,.at u=>k4 u=true
 |n+1,.lst xs=>∀ x∈xs,Qz n x
 |n+1,.tup xs=>∀ x∈xs,Qz n x
 |_,_=>False
theorem Jo:∀(n:Nat){x:PV},Qz n x->peq n x x=some true
 |0,x,h=>by
  cases x with
  |«at» u=>show (if _ then _ else _)=_;rw [if_pos ⟨h,h⟩,ZC h]
  |_=>exact h.elim
 |n+1,x,h=>by
  cases x with
  |«at» u=>show (if _ then _ else _)=_;rw [if_pos ⟨(show k4 u=true from h),h⟩,ZC h]
  |lst xs=>show (if _ then _ else _)=_;rw [if_pos rfl];exact Wh λy hy=>Jo n (h y hy)
  |tup xs=>show Option.bind (zI (peq n) xs xs) _=_;rw [Wh λy hy=>Jo n (h y hy)];show some (true&&(xs.length==xs.length))=_;rw [beq_self_eq_true];rfl
  |_=>exact h.elim
theorem HW (h:Qz 6 x):pEq x x=some (.at (.bl true)):=by unfold pEq;rw [Jo 6 h];rfl
theorem BG (h:Qz 6 x):pNe x x=some (.at (.bl false)):=by unfold pNe;rw [Jo 6 h];rfl
class zg (K:Fg)(C:Addr):Prop where
 c:Cls K C
class qK (K:Fg)(C:Addr)(f:Str):Prop where
 n:NoAttr K C f
def Qi (f:Str):List Str->List PV->Option PV
 |n::ns,x::xs=>if f=n then some x else Qi f ns xs
 |_,_=>none
theorem Bn {H:Hp}{f:Str}{y:PV}:∀{fs:List (Str×V)}{xs:List PV},Reps H xs (fs.map (·.2))->Qi f (fs.map (·.1)) xs=some y->∃ v,fs.lookup f=some v/\Rep H y v
 |[],xs,r,h=>by cases xs<;>cases h
 |p::fs,xs,r,h=>by
  cases xs with
  |nil=>cases h
  |cons x xs =>
   obtain ⟨v,w,e,p1,p2⟩:=reps_cons.mp r;rw [yO] at e;injection e with e1 e2;subst e1 e2;rw [yO] at h;unfold Qi at h;rw [uO];split at h
   ·rename_i hf;cases h;rw [hf,beq_self_eq_true];exact ⟨p.2,rfl,p1⟩
   ·rename_i hf;rw [beq_eq_false_iff_ne.mpr hf];exact Bn p2 h
def xM (C:Addr)(f:Str)(a:M):M:=λε=>(a ε).bind λx=>match x with
 | .ob C' ns xs=>if C'=C then Qi f ns xs else none
 |_=>none
theorem Mb {a:M}(h:xM C f a ε=some y):∃ ns xs,a ε=some (.ob C ns xs)/\Qi f ns xs=some y:=by
 unfold xM at h;obtain ⟨x,ex,h1⟩:=bind_some h;split at h1
 ·split at h1
  ·rename_i hc;subst hc;exact ⟨_,_,ex,h1⟩
  ·cases h1
 ·cases h1
instance {a:M}[c:zg K C][n:qK K C f][s:f6 te a]:SemE (tFld K te f) (xM C f a) where
 h:=λe _ _ _ _ _ rs _ q=>by
  obtain ⟨ns,xs,ea,el⟩:=Mb e;refine s.h ea rs λv Hs1 H1 x1 r1=>?_;obtain ⟨p,dx,fs,rfl,hp,hk,hr⟩:=Ps x1.s3 r1;rw [<- hk] at el;obtain ⟨u,hu,ru⟩:=Bn hr el;exact ⟨p,C,dx,fs,u,rfl,hp,c.c,n.n,hu,q u _ _ x1 ru⟩
theorem vm {ta:TE}(hK:X.K=K)(he:PE X e ta)(hb:attributeBase e f X.env (eval e X.env)=eval e X.env:=by rfl):PE X (.Attribute e f pos) (tFld K ta f):=by subst hK;exact Rg he hb
structure Mt (P:Program)(w:World)(K:Fg)(mg:Str->Option Value)(base:Heap)(k:Nat)(C:Addr)(m:Str)(ps:List Str)(sp:Sp):Prop where
 ex:∃ f fd,FnOk P w K mg base v6 k f fd ps sp/\QJ K C m f/\Cls K C/\Binds K fd ps []
section
variable {X:Cx}{k j:Nat}{C:Addr}{m:Str}{ps:List Str}{sp:Sp}{o e:Expr}{es:List Expr}{ta:TE}{t:TA}{apos pos:Pos}
theorem Qy (c:Mt X.prog X.w X.K X.mg X.base k C m ps sp)(hr:Room j X.A)(hj:k<=j)(ho:PE X o ta)(ha:PA X (e::es) t)
  (hst:starEach (e::es) X.env=(false,eval e X.env)::starEach es X.env:=by rfl) (hpl:(backTo pos (starEach es X.env)).any (·.1)=false:=by rfl)
  (ht:eval (.Call (.Attribute o m apos) (e::es) [] pos) X.env=(do
   let ov <- eval o X.env
   standAt apos.atName
   let (f,first) <- holding [ov] (getMethod ov m pl)
   callWith pos f first (backTo pos (starEach (e::es) X.env)) (backToKw pos (keywordEach [] X.env))):=by rfl) :
  PE X (.Call (.Attribute o m apos) (e::es) [] pos) (wv C m sp [] E0 ta t):=by
 obtain ⟨f,fd,F,hm,hc,hb⟩:=c.ex;exact Rm ho hc hm F (hr.mono hj) hb .nil Jk ha hst hpl ht
theorem XA (c:Mt X.prog X.w X.K X.mg X.base k C m ps sp)(hr:Room j X.A)(hj:k<=j)(ho:PE X o ta)
  (ht:eval (.Call (.Attribute o m apos) [] [] pos) X.env=(do
   let ov <- eval o X.env
   standAt apos.atName
   let (f,first) <- holding [ov] (getMethod ov m pl)
   callWith pos f first (backTo pos (starEach [] X.env)) (backToKw pos (keywordEach [] X.env))):=by rfl) :
  PE X (.Call (.Attribute o m apos) [] [] pos) (wv C m sp [] E0 ta ql):=by
 obtain ⟨f,fd,F,hm,hc,hb⟩:=c.ex;exact Rn ho hc hm F (hr.mono hj) hb .nil Jk ht
end
variable {fr:Bool}
def zV (c:MB)(b:MS):Nat->MS
 |0=>λ_=>none
 |n+1=>λε=>(c ε).bind λk=>if k=true then (b ε).bind λo=>match o with
  | .nx ε'=>zV c b n ε'
  | .ct ε'=>zV c b n ε'
  | .bk ε'=>some (.nx ε')
  | .rt y=>some (.rt y) else some (.nx ε)
instance {t:TT}{b:MS}[sc:xn t c][sb:qd fr tb b]:qd fr (Cr t tb) (zV c b n) where
 h:=λ{ε o} e Hs0 H0 Hs H σ rs D q=>by
  refine ⟨λm σ H=>∃ Hs ε,RS Hs0 H0 Hs H σ ε/\zV c b m ε=some o,⟨n,Hs,ε,rs,e⟩,?_⟩;rintro m σ1 H1 ⟨Hs1,ε1,r1,e1⟩;cases m with
  |zero=>cases e1
  |succ m =>
   unfold zV at e1;obtain ⟨k,ek,e2⟩:=bind_some e1;refine sc.h ek r1 λHs2 H2 x2=>?_;cases k with
   |true =>
    rw [if_pos rfl] at e2;obtain ⟨o1,eo,e3⟩:=bind_some e2;refine zC ⟨λσ' H'=>∃ Hs ε,RS Hs0 H0 Hs H' σ' ε/\zV c b m ε=some o,λσ' H' p=>⟨m,uj m,p⟩,sb.h eo (r1.go x2) ?_⟩;cases o1 with
    |nx ε'=>exact λHs3 H3 σ3 r3=>⟨Hs3,ε',r3,e3⟩
    |ct ε'=>exact λHs3 H3 σ3 r3=>⟨Hs3,ε',r3,e3⟩
    |bk ε'=>cases e3;exact q
    |rt y=>cases e3;exact q
   |false=>rw [if_neg yS] at e2;cases e2;exact zB (q _ _ _ (r1.go x2))
def xW:PV->Option j4
 | .at (.int i)=>some (.inl i)
 | .at (.str x)=>some (.inr x)
 |_=>none
theorem jY {k:j4}(r:RepB Hs H x v)(h:xW x=some k):v=kV k:=by
 unfold xW at h;split at h
 ·cases h;cases b8 r;rfl
 ·cases h;cases b8 r;rfl
 ·cases h
def qF (k:j4):List j4->List PV->Option PV
 |n::ns,x::xs=>if n=k then some x else qF k ns xs
 |_,_=>none
theorem ZP {H:Hp}{k:j4}:∀{kvs:List (j4×V)}{xs:List PV},Reps H xs (kvs.map (·.2))->match qF k (kvs.map (·.1)) xs with
  |some y=>∃ v,qY kvs k=some v/\Rep H y v
  |none=>qY kvs k=none
 |[],xs,r=>by
  have hx:xs=[]:=uy.mp r.length.symm;subst hx;rfl
 |p::kvs,xs,r=>by
  cases xs with
  |nil=>have:=r.length;simp at this
  |cons x xs =>
   obtain ⟨v,w,e,p1,p2⟩:=reps_cons.mp r;rw [yO] at e;injection e with e1 e2;subst e1 e2;rw [yO];unfold qF;by_cases hk:p.1=k
   ·rw [if_pos hk];refine ⟨p.2,?_,p1⟩;unfold qY;rw [uC,yG hk];rfl
   ·rw [if_neg hk];have ih:=ZP (k:=k) p2;have ev:qY (p::kvs) k=qY kvs k:=by unfold qY;rw [uC,yI hk]
    rw [ev];exact ih
def f9 (a b:M):M:=λε=>(a ε).bind λx=>(b ε).bind λy=>(xW y).bind λk=>match x with
 | .dk ks xs=>qF k ks xs
 | .fk ks xs=>qF k ks xs
 |_=>none
instance {a b:M}[sa:f6 td a][sb:f6 ty b]:SemE (Ci td ty) (f9 a b) where
 h:=λe _ _ _ _ _ rs _ q=>by
  obtain ⟨x,ex,e1⟩:=bind_some e;obtain ⟨y,ey,e2⟩:=bind_some e1;obtain ⟨k,ek,e3⟩:=bind_some e2;split at e3
  ·refine sa.h ex rs λv Hs1 H1 x1 r1=>sb.h ey (rs.go x1) λw Hs2 H2 x2 r2=>?_;obtain ⟨p,kvs,rfl,hp,hk,hr⟩:=vx x2.s3 (r1.ext x2);have l:=ZP (k:=k) hr;rw [hk,e3] at l;obtain ⟨u,hu,ru⟩:=l;have ew:=jY r2 ek;subst ew;exact ⟨p,u,rfl,by rw [<- hu];exact DGet.k hp,q u _ _ (x1.trans x2) ru⟩
  ·refine sa.h ex rs λv Hs1 H1 x1 r1=>sb.h ey (rs.go x1) λw Hs2 H2 x2 r2=>?_;obtain ⟨p,o,kvs,rfl,hp,hk,hr⟩:=XJ x2.s3 (r1.ext x2);have l:=ZP (k:=k) hr;rw [hk,e3] at l;obtain ⟨u,hu,ru⟩:=l;have ew:=jY r2 ek;subst ew;exact ⟨p,u,rfl,by rw [<- hu];exact .inl ⟨kvs,k,.inr ⟨o,hp⟩,rfl,rfl⟩,q u _ _ (x1.trans x2) ru⟩
  ·cases e3
def dDIn (b a:M):M:=λε=>(b ε).bind λy=>(a ε).bind λx=>(xW y).bind λk=>match x with
 | .dk ks xs=>some (.at (.bl (qF k ks xs).isSome))
 | .fk ks xs=>some (.at (.bl (qF k ks xs).isSome))
 |_=>none
def Zv (b a:M):M:=λε=>(b ε).bind λy=>(a ε).bind λx=>(xW y).bind λk=>match x with
 | .dk ks xs=>some (.at (.bl (!(qF k ks xs).isSome)))
 | .fk ks xs=>some (.at (.bl (!(qF k ks xs).isSome)))
 |_=>none
theorem Xc {k:j4}(r:Reps H xs (kvs.map (·.2))):(qF k (kvs.map (·.1)) xs).isSome=(qY kvs k).isSome:=by
 have l:=ZP (k:=k) r;cases e:qF k (kvs.map (·.1)) xs with
 |none=>rw [e] at l;rw [show qY kvs k=none from l];rfl
 |some y=>rw [e] at l;obtain ⟨v,hv,_⟩:=l;rw [hv];rfl
instance {a b:M}[sa:f6 td a][sb:f6 ty b]:SemE (tDIn ty td) (dDIn b a) where
 h:=λe _ _ _ _ _ rs _ q=>by
  obtain ⟨y,ey,e1⟩:=bind_some e;obtain ⟨x,ex,e2⟩:=bind_some e1;obtain ⟨k,ek,e3⟩:=bind_some e2;split at e3
  ·cases e3;refine sb.h ey rs λw Hs1 H1 x1 r1=>sa.h ex (rs.go x1) λv Hs2 H2 x2 r2=>?_;obtain ⟨p,kvs,rfl,hp,hk,hr⟩:=vx x2.s3 r2;have ew:=jY r1 ek;subst ew;exact ⟨p,_,rfl,DGet.k hp,q _ _ _ (x1.trans x2) (rep_at.mpr (by rw [<- hk,Xc hr]))⟩
  ·cases e3;refine sb.h ey rs λw Hs1 H1 x1 r1=>sa.h ex (rs.go x1) λv Hs2 H2 x2 r2=>?_;obtain ⟨p,o,kvs,rfl,hp,hk,hr⟩:=XJ x2.s3 r2;have ew:=jY r1 ek;subst ew;exact ⟨p,_,rfl,.inl ⟨kvs,_,.inr ⟨o,hp⟩,rfl,rfl⟩,q _ _ _ (x1.trans x2) (rep_at.mpr (by rw [<- hk,Xc hr]))⟩
  ·cases e3
instance {a b:M}[sa:f6 td a][sb:f6 ty b]:SemE (Ck ty td) (Zv b a) where
 h:=λe _ _ _ _ _ rs _ q=>by
  obtain ⟨y,ey,e1⟩:=bind_some e;obtain ⟨x,ex,e2⟩:=bind_some e1;obtain ⟨k,ek,e3⟩:=bind_some e2;split at e3
  ·cases e3;refine sb.h ey rs λw Hs1 H1 x1 r1=>sa.h ex (rs.go x1) λv Hs2 H2 x2 r2=>?_;obtain ⟨p,kvs,rfl,hp,hk,hr⟩:=vx x2.s3 r2;have ew:=jY r1 ek;subst ew;exact ⟨p,_,rfl,DGet.k hp,q _ _ _ (x1.trans x2) (rep_at.mpr (by rw [<- hk,Xc hr]))⟩
  ·cases e3;refine sb.h ey rs λw Hs1 H1 x1 r1=>sa.h ex (rs.go x1) λv Hs2 H2 x2 r2=>?_;obtain ⟨p,o,kvs,rfl,hp,hk,hr⟩:=XJ x2.s3 r2;have ew:=jY r1 ek;subst ew;exact ⟨p,_,rfl,.inl ⟨kvs,_,.inr ⟨o,hp⟩,rfl,rfl⟩,q _ _ _ (x1.trans x2) (rep_at.mpr (by rw [<- hk,Xc hr]))⟩
  ·cases e3
def Ki:M:=λ_=>some (.dk [] [])
instance:xR Cj Ki where
 h:=λe _ _ _ _ _ rs _ q=>by
  cases e;exact λp hp=>q p _ _ (.newO rs.sub hp) hp (rs.sub.free hp) ⟨[],g0,rfl,.nil⟩
def XI (k:j4)(y:PV):List j4->List PV->List PV
 |n::ns,x::xs=>if n=k then y::XI k y ns xs else x::XI k y ns xs
 |_,xs=>xs
def Jr (k:j4)(y:PV)(ks:List j4)(xs:List PV):PV:=if (qF k ks xs).isSome=true then .dk ks (XI k y ks xs) else .dk (ks++[k]) (xs++[y])
theorem BU {H:Hp}{k:j4}{y:PV}{v:V}(ry:Rep H y v):∀{kvs:List (j4×V)}{xs:List PV},Reps H xs (kvs.map (·.2))->Reps H (XI k y (kvs.map (·.1)) xs) ((kvs.map (λkv=>if kv.1=k then (kv.1,v) else kv)).map (·.2))/\(kvs.map (λkv=>if kv.1=k then (kv.1,v) else kv)).map (·.1)=kvs.map (·.1)
 |[],xs,r=>by
  have hx:xs=[]:=uy.mp r.length.symm;subst hx;exact ⟨.nil,rfl⟩
 |p::kvs,xs,r=>by
  cases xs with
  |nil=>have:=r.length;simp at this
  |cons x xs =>
   obtain ⟨u,w,e,p1,p2⟩:=reps_cons.mp r;rw [yO] at e;injection e with e1 e2;subst e1 e2;obtain ⟨h1,h2⟩:=BU (k:=k) ry p2;rw [yO,yO,yO,yO];unfold XI;by_cases hk:p.1=k
   ·rw [if_pos hk,if_pos hk];exact ⟨.cons ry h1,by rw [h2]⟩
   ·rw [if_neg hk,if_neg hk];exact ⟨.cons p1 h1,by rw [h2]⟩
def dPut (i:Nat)(kk vv:M):MS:=λε=>(vv ε).bind λy=>(kk ε).bind λx=>(xW x).bind λk=>match ε[i]? with
 |some (.ow (.dk ks xs))=>if ks.length<=lim then some (.nx (ε.set i (.ow (Jr k y ks xs)))) else none
 |_=>none
instance {i:Nat}{kk vv:M}[sk:SemE ty kk][sv:SemE tv vv]:qd fr (PJ (qG i) ty tv) (dPut i kk vv) where
 h:=λe _ _ _ _ _ rs _ q=>by
  obtain ⟨y,ey,e1⟩:=bind_some e;obtain ⟨x,ex,e2⟩:=bind_some e1;obtain ⟨k,ek,e3⟩:=bind_some e2;split at e3
  ·rename_i ks xs hi;split at e3
   ·rename_i hl;cases e3;refine sv.h ey rs λv Hs1 H1 x1 r1=>?_;obtain ⟨p,hp,n0,n,t⟩:=(rs.go x1).ow i _ hi;refine ⟨_,hp,sk.h ex (rs.go x1) λw Hs2 H2 x2 r2=>?_⟩;obtain ⟨p',hp',_,n2,kvs,hv,hk,hr⟩:=((rs.go x1).go x2).ow i _ hi;rw [hp] at hp';injection hp' with hp';injection hp' with hp';injection hp' with hp';subst hp';have ew:=jY (.inl r2:RepB Hs2 H2 x w) ek;subst ew;have hlen:kvs.length<=lim:=by rw [<- hk,yZ] at hl;exact hl
    refine ⟨p,_,rfl,DPut.k hv (VI hlen),q _ _ _ (((rs.go x1).go x2).change hi hp ?_)⟩;have hs:=Xc (k:=k) hr;unfold Jr zm;rw [YY,<- hs,hk];by_cases hc:(qF k ks xs).isSome=true
    ·rw [if_pos hc,if_pos hc];obtain ⟨q1,q2⟩:=BU (k:=k) (r1.mono x2.s1) hr;exact ⟨_,g0,by rw [q2,hk],by rw [<- hk];exact q1⟩
    ·rw [if_neg hc,if_neg hc];exact ⟨_,g0,by rw [yv,hk];rfl,by rw [yv];exact hr.append (.one (r1.mono x2.s1))⟩
   ·cases e3
  ·cases e3
def rLeS:R2:=λx y H Q=>∃ i j,x = .str i/\y = .str j/\Q (.bl (!decide (j.cps.toList<i.cps.toList))) H
theorem BA :OpR X (compareOp .LtE) rLeS:=HR
def pLeS:PV->PV->Option PV
 | .at (.str i),.at (.str j)=>some (.at (.bl (!decide (j.cps.toList<i.cps.toList))))
 |_,_=>none
instance:xy rLeS pLeS where
 h:=λ{x y z} e {Hs H v w} s a b {Q} q=>by
  unfold pLeS at e;split at e
  ·cases e;cases b8 a;cases b8 b;exact ⟨_,_,rfl,rfl,q _ _ _ (.refl s) (rep_at.mpr rfl)⟩
  ·cases e
def XO (z:Str):List PV:=z.cps.toList.map λc=> .at (.str ⟨#[c]⟩)
def dItS (a:M):MA:=λε=>(a ε).bind λx=>match x with
 | .at (.str z)=>some (XO z)
 |_=>none
theorem Lz {z:Str}:jf (ItS z) (XO z) Hs where
 go:=λi x Hs1 H1 e g1 g2=>by
  unfold XO at e;rw [yP] at e;obtain ⟨c,hc,rfl⟩:=yM.mp e;rw [tW] at hc;have hl:i<z.cps.size:=(Array.getElem?_eq_some_iff.mp hc).1;refine ⟨hl,λv H2 y=>?_⟩;obtain ⟨rfl,c',hc',rfl⟩:=y;rw [hc] at hc';cases hc';exact ⟨Hs1,.refl g2,rep_at.mpr rfl⟩
 stop:=λHs1 H1 g1 g2=>by
  show (XO z).length=z.cps.size;unfold XO;rw [yZ,ug]
instance {a:M}[sa:SemE te a]:zR (iStr te) (dItS a) where
 h:=λe _ _ _ _ _ rs _ q=>by
  obtain ⟨x,ex,e1⟩:=bind_some e;split at e1
  ·cases e1;exact sa.h ex rs λv Hs1 H1 x1 r1=>⟨_,rep_at.mp r1,q _ _ _ x1 Lz⟩
  ·cases e1
theorem BT {f:Str}{v:V}:∀{fs:List (Str×V)},f∉fs.map (·.1)->xh f v fs=fs++[(f,v)]
 |[],_=>rfl
 |(g,x)::r,h=>by
  rw [yO] at h;unfold xh;rw [if_neg (show ¬ g=f from λz=>h (by rw [<- z];exact yU)),BT λz=>h (yW _ z)];rfl
def CN (C:Addr)(f:Str)(a:W):WS:=λε N _=>a ε λy ε1=>∃ ns xs,ε1[0]?=some (.ow (.ob C ns xs))/\f∉ns/\ns.length<1000/\N (ε1.set 0 (.ow (.ob C (ns++[f]) (xs++[y]))))
instance [c:zg K C][n:qK K C f][sa:SemW te a]:SemWS (XN K (qG 0) te f) (CN C f a) where
 h:=λh _ _ _ _ _ _ rd _ k _=>sa.h h rd λy ε1 v Hs1 H1 h1 rd1 g1 r1=>by
  obtain ⟨ns,xs,he,hf,hl,h2⟩:=h1;obtain ⟨p,hp,h0,hs,dx,fs,hH,hk,hr⟩:=rd1.ow 0 _ he;have hf':f∉fs.map (·.1):=by rw [hk];exact hf
  have hl':fs.length<1000:=by rw [<- yZ (f:=(·.1)),hk];exact hl
  refine ⟨_,hp,p,C,dx,fs,rfl,hH,c.c,n.n,hl',?_⟩;rw [BT hf'];exact k _ _ _ _ h2 (rd1.change he hp ⟨dx,_,g0,by rw [yv,hk];rfl,by rw [yv];exact hr.append (.one r1)⟩) g1
def wV (C:Addr)(nm:Str)(m:List PV->Option PV)(i:Nat)(as:MA):M:=λε=>match ε[i]? with
 |some (.ow (.ob C' ns fs))=>if C'=C/\nm∉ns then (as ε).bind λxs=>(m (.ob C ns fs::xs)).bind λy=>match y with
  | .at u=>some (.at u)
  |_=>none else none
 |_=>none
instance {i:Nat}[sa:xa ta as]:SemE (wv C nm (j8 m) [] E (qG i) ta) (wV C nm m i as) where
 h:=λ{ε y} e {Hs0 H0 Hs H σ} rs {Q} q=>by
  unfold wV at e;split at e
  ·rename_i C' ns fs hi;split at e
   ·rename_i hc;obtain ⟨rfl,hn⟩:=hc;obtain ⟨xs,ex,e1⟩:=bind_some e;obtain ⟨z,ez,e2⟩:=bind_some e1;split at e2
    ·rename_i u;cases e2;obtain ⟨p,hp,n0,n,dx,gs,hH,hk,hr⟩:=rs.ow i _ hi;refine ⟨_,hp,p,dx,gs,rfl,hH,VJ (by rw [hk];exact hn),sa.h ex rs λvs Hs1 H1 x1 r1=>?_⟩;have hH1:=x1.s2 _ _ hH;have n1:Hs1 p=none:=x1.s4 p (by rw [hH];exact λz=>nomatch z) n;have g:Same Hs1 (v9 Hs1 p (.ins C' dx gs)):=λb w e=>by rw [j9 (g8 e n1)];exact e
     refine ⟨v9 Hs1 p (.ins C' dx gs),_,_,?_,?_,ez,λv Hs' H' x r=>?_⟩
     ·intro b w e;by_cases hb:b=p
      ·subst hb;rw [g0] at e;cases e;exact hH1
      ·rw [j9 hb] at e;exact x1.s3 _ _ e
     ·rw [yt];exact .cons (rep_ob.mpr ⟨p,dx,gs,rfl,g0,hk,(hr.mono x1.s1).mono g⟩) (r1.mono g)
     ·cases rep_at.mp r;refine q _ (λb=>if b=p then none else Hs' b) H' (x1.trans ⟨λb w e=>?_,x.s2,λb w e=>?_,λb hb w=>?_⟩) (rep_at.mpr rfl)
      ·rw [if_neg (g8 e n1)];exact x.s1 _ _ (g _ _ e)
      ·split at e
       ·cases e
       ·exact x.s3 _ _ e
      ·by_cases hbp:b=p
       ·rw [if_pos hbp]
       ·rw [if_neg hbp];exact x.s4 b hb (by rw [j9 hbp];exact w)
    ·cases e2
   ·cases e
  ·cases e
def spI (C:Addr)(m:List PV->Option PV):Sp:=λvs H Q _=>∃ Hs x dx xs ws y,vs = .ref x::ws/\Same Hs H/\H x=some (.ins C dx [])/\Hs x=none/\Reps Hs xs ws/\m xs=some y /\
 ∀ Hs' H',Same Hs Hs'->(∀ b o,H b=some o->b≠x->H' b=some o)->Same Hs' H'->(∀ b,H b≠none->b≠x->Hs b=none->Hs' b=none)->Rep Hs' y (.ref x)->Q .non H'
instance {ds:List V}[sa:xa ta as]:SemE (XW C (spI C m) ds E ta) (Vc m ds as) where
 h:=λe _ _ _ _ _ rs _ q=>by
  obtain ⟨xs,ex,e1⟩:=bind_some e;refine sa.h ex rs λvs Hs1 H1 x1 r1=>λx dx hx hdx hne=>?_;have s3:Same Hs1 (v9 (v9 H1 dx (.own x)) x (.ins C dx [])):=λb o e=>by
   have e':=x1.s3 _ _ e;rw [j9 (g8 e' hx),j9 (g8 e' hdx)];exact e'
  refine ⟨Hs1,x,dx,_,_,_,rfl,s3,g0,x1.s3.free hx,r1.append (.ofAts ds),e1,λHs' H' g1 g2 g3 g4 r=>⟨rfl,q _ _ _ (x1.trans ⟨g1,λb o e=>?_,g3,λb hb z=>?_⟩) r⟩⟩
  ·refine g2 b o ?_ (g8 e hx);rw [j9 (g8 e hx),j9 (g8 e hdx)];exact e
  ·have hbx:b≠x:=λw=>hb (by rw [w];exact hx);have hbd:b≠dx:=λw=>hb (by rw [w];exact hdx);exact g4 b (by rw [j9 hbx,j9 hbd];exact hb) hbx z
section
variable {P:Program}{w:World}{K:Fg}{mg:Str->Option Value}{base:Heap}
theorem Ta {a:Addr}(s:Same Hs H)(ha:Hs a=none)(t:Top Hs H a y)(r:Reps Hs xs ws):RD [a] Hs H Hs H (L2.start N (.ref a::ws)) (.ow y::xs.map .sh++List.replicate (N.length-(xs.length+1)) .no):=by
 have q:=vz (N:=N) (xs:= .at (.ref a)::xs) s (.cons (rep_at.mpr rfl) r);have tl:∀(i:Nat)(sl:MSlot),(MSlot.ow y::xs.map .sh++List.replicate (N.length-(xs.length+1)) .no)[i+1]?=some sl->((PV.at (.ref a)::xs).map MSlot.sh++List.replicate (N.length-(PV.at (.ref a)::xs).length) .no)[i+1]?=some sl:=λi sl h=>h;refine ⟨.refl _,λb o e _=>e,s,λ_ _ z=>z,λi x h=>?_,λi x h=>?_,λi j x y b h1 h2 _ _=>?_,?_,λb hb=>?_,λb hb=>?_,(λb hb=>⟨_,rfl⟩),λi x h=>by
  cases i with
  |zero=>simp at h
  |succ i=>exact Ww (xs:=PV.at (.ref a)::xs) (tl i _ h)⟩
 ·cases i with
  |zero=>simp at h
  |succ i=>exact q.sh (i+1) x (tl i _ h)
 ·cases i with
  |zero=>simp at h;subst h;exact ⟨a,by unfold L2.start;rfl,.inr (yJ.mpr rfl),ha,t⟩
  |succ i=>exact absurd (tl i _ h) (wj (xs:=PV.at (.ref a)::xs))
 ·cases i with
  |zero =>
   cases j with
   |zero=>rfl
   |succ j=>exact absurd (tl j _ h2) (wj (xs:=PV.at (.ref a)::xs))
  |succ i=>exact absurd (tl i _ h1) (wj (xs:=PV.at (.ref a)::xs))
 ·exact q.len
 ·rw [yJ.mp hb];unfold L2.start;rfl
 ·rw [yJ.mp hb];exact t.there
end
variable {fr:Bool}
section
variable {ε:ME}{c d:MB}{f:M}{a b:WS}{N:ME->Prop}{R:PV->ME->Prop}
theorem QF (h:c ε=some false)(k:b ε N R):zO (wPT c) a b ε N R:=by
 refine ⟨false,h,?_⟩;show if false=true then a ε N R else b ε N R
 rw [if_neg yS];exact k
theorem JD (h:c ε=some true)(k:a ε N R):zO (wPT c) a b ε N R:=by
 refine ⟨true,h,?_⟩;show if true=true then a ε N R else b ε N R
 rw [if_pos rfl];exact k
theorem jW (h1:c ε=some false)(h2:d ε=some false):dOr c d ε=some false:=by unfold dOr;rw [h1];show (if false=true then some true else d ε)=_;rw [if_neg yS];exact h2
theorem Ma (h1:c ε=some false):zy c d ε=some false:=by unfold zy;rw [h1];rfl
theorem Vb {v:Bool}(h1:c ε=some true)(h2:d ε=some v):zy c d ε=some v:=by unfold zy;rw [h1];show (if true=true then d ε else some false)=_;rw [if_pos rfl];exact h2
theorem xA (h:c ε=some true):qi c ε=some false:=by unfold qi;rw [h];rfl
theorem xI {v:Bool}(h:f ε=some (.at (.bl v))):o6 f ε=some v:=by unfold o6;rw [h];rfl
theorem n8 {v:Bool}(h:f ε=some (.at (.bl v))):dT f ε=some v:=by unfold dT;rw [h];rfl
theorem Vy :qQ [.lst xs,.at (.ty "list")]=some (.at (.bl true)):=by unfold qQ tyP;simp only [yK,SY]
end
variable {fr:Bool}
theorem Kd {g:MG}{f:M}{ε0:ME}{α:Type}(F G:α->PV):∀(l:List α),(∀ a∈l,∃ ε1,g (F a) ε0=some ε1/\f ε1=some (G a))->xT g n9 f ε0 (l.map F)=some (l.map G)
 |[],_=>rfl
 |a::l,h=>by
  obtain ⟨ε1,e1,e2⟩:=h a yU;have ih:=Kd F G l λb hb=>h b (yW _ hb);show Option.bind (g (F a) ε0) (λε1=>Option.bind (n9 ε1) λb=>if b=true then (f ε1).bind λy=>(xT g n9 f ε0 (l.map F)).bind λys=>some (y::ys) else xT g n9 f ε0 (l.map F))=_;rw [e1,ih];show (if true=true then (f ε1).bind λy=>some (y::l.map G) else some (l.map G))=_;rw [if_pos rfl,e2];rfl
theorem Kb {g:MG}{c:MB}{f:M}{ε0:ME}{α:Type}(F G:α->PV)(p:α->Bool):∀(l:List α),(∀ a∈l,∃ ε1,g (F a) ε0=some ε1/\c ε1=some (p a)/\(p a=true->f ε1=some (G a)))->xT g c f ε0 (l.map F)=some ((l.filter p).map G)
 |[],_=>rfl
 |a::l,h=>by
  obtain ⟨ε1,e1,e2,e3⟩:=h a yU;have ih:=Kb F G p l λb hb=>h b (yW _ hb);show Option.bind (g (F a) ε0) (λε1=>Option.bind (c ε1) λb=>if b=true then (f ε1).bind λy=>(xT g c f ε0 (l.map F)).bind λys=>some (y::ys) else xT g c f ε0 (l.map F))=_;rw [e1,ih];show Option.bind (c ε1) (λb=>if b=true then (f ε1).bind λy=>some (y::(l.filter p).map G) else some ((l.filter p).map G))=_;rw [e2,yK,List.filter_cons];cases hp:p a with
  |true=>rw [if_pos rfl,if_pos rfl,e3 hp];rfl
  |false=>rw [if_neg yS,if_neg yS]
theorem qM {cap:List (Option Nat)}{g:MG}{f:M}(F G:α->PV)(l:List α)(h:it ε=some (l.map F))(hc:vI cap ts=true)(hl:l.length<=lim)(k:∀ a∈l,∃ ε1,g (F a) (qm cap ε)=some ε1/\f ε1=some (G a)):m8 cap ts it g n9 f ε=some (.lst (l.map G)):=Vj h hc (by rw [yZ];exact hl) (Kd F G l k)
theorem Kx {cap:List (Option Nat)}{g:MG}{f:M}(F G:α->PV)(p:α->Bool)(l:List α)(h:it ε=some (l.map F))(hc:vI cap ts=true)(hl:l.length<=lim)(k:∀ a∈l,∃ ε1,g (F a) (qm cap ε)=some ε1/\c ε1=some (p a)/\(p a=true->f ε1=some (G a))):m8 cap ts it g c f ε=some (.lst ((l.filter p).map G)):=Vj h hc (by rw [yZ];exact hl) (Kb F G p l k)
theorem vT {g:MG}{f:MS}{α:Type}(F:α->PV)(I:List α->ME->Prop)(h:∀ a l ε,I (a::l) ε->∃ ε1 ε2,g (F a) ε=some ε1/\f ε1=some (.nx ε2)/\I l ε2):∀(l:List α)(ε:ME),I l ε->∃ ε',r6 g f (l.map F) ε=some (.nx ε')/\I [] ε'
 |[],ε,i=>⟨ε,rfl,i⟩
 |a::l,ε,i=>by
  obtain ⟨ε1,ε2,e1,e2,i2⟩:=h a l ε i;obtain ⟨ε',e3,i3⟩:=vT F I h l ε2 i2;refine ⟨ε',?_,i3⟩;show Option.bind (g (F a) ε) (λε1=>Option.bind (f ε1) λo=>match o with
   | .nx ε2=>r6 g f (l.map F) ε2
   | .ct ε2=>r6 g f (l.map F) ε2
   | .bk ε2=>some (.nx ε2)
   | .rt y=>some (.rt y))=_
  rw [e1,yK,e2];exact e3
section
variable {ε:ME}{a b:M}{v w:Bool}
theorem Qa (h1:a ε=some (.at (.bl true)))(h2:b ε=some (.at (.bl w))):jj a b ε=some (.at (.bl w)):=by unfold jj;rw [h1];exact h2
theorem Mw (h1:a ε=some (.at (.bl v))):Zw a ε=some (.at (.bl (!v))):=by unfold Zw;rw [h1];rfl
theorem Ky (h:c ε=some true)(k:a ε=some x):dIf c a b ε=some x:=by unfold dIf;rw [h];exact k
theorem Vk (h:c ε=some false)(k:b ε=some x):dIf c a b ε=some x:=by unfold dIf;rw [h];exact k
theorem Vi {g g':PV->PV->Option PV}{c:M}{z:PV}{r:Bool}(h1:a ε=some x)(h2:b ε=some y)(h3:g x y=some (.at (.bl true)))(h4:c ε=some z)(h5:g' y z=some (.at (.bl r))):zA g g' a b c ε=some (.at (.bl r)):=by unfold zA;rw [h1,yK,h2,yK,h3];show Option.bind (c ε) _=_;rw [h4];exact h5
theorem Qc (h:a ε=some x):zT a ε=some (.nx ε):=by unfold zT;rw [h];rfl
theorem Mq (h:a ε=some x)(k:G x ε=some ε'):dAsg G a ε=some (.nx ε'):=by unfold dAsg;rw [h,yK,k];rfl
theorem qE:n6 ε=some (.nx ε):=rfl
theorem vL (h:a ε=some (.lst xs)):m5 a ε=some xs:=by unfold m5;rw [h];rfl
theorem jn (h:a ε=some (.ob C ns xs))(k:Qi f ns xs=some y):xM C f a ε=some y:=by unfold xM;rw [h,yK];show (if C=C then _ else _)=_;rw [if_pos rfl];exact k
theorem jo {fs:List PV}{y:Option PV}(h:a ε=some (.ob C ns fs))(hn:nm∉ns)(k:as ε=some xs)(e:m (.ob C ns fs::xs)=y):xo C nm m a as ε=y:=by unfold xo;rw [h,yK];show (if C=C/\nm∉ns then _ else _)=_;rw [if_pos ⟨rfl,hn⟩,k];exact e
theorem ZE {k:Nat}{bd:MS}(hl:xs.length=k)(h:bd (xs.map .sh++List.replicate (n-k) .no)=some (.nx ε')):p6 n k bd xs=some (.at .non):=by unfold p6;rw [if_pos hl,h];rfl
theorem Lp {n:Int}:qQ [.at (.int n),.at (.ty "int")]=some (.at (.bl true)):=by unfold qQ tyP;simp only [yK,SX]
theorem Lq {n:Int}:qQ [.at (.int n),.at (.ty "bool")]=some (.at (.bl false)):=by unfold qQ tyP;simp only [yK,SW]
theorem KR {n:Str}:qQ [.at (.str n),.at (.ty "str")]=some (.at (.bl true)):=by unfold qQ tyP;simp only [yK,SZ]
theorem Lr {n:List PV}:qQ [.tup n,.at (.ty "tuple")]=some (.at (.bl true)):=by unfold qQ tyP;simp only [yK,Ia]
theorem GM:∀ bs:List Bool,bls (bs.map λb=> .at (.bl b))=some bs
 |[]=>rfl
 |b::bs=>by
  have ih:=GM bs;rw [yO];unfold bls;rw [ih];rfl
theorem Vx:∀ bs:List Int,js (bs.map λb=> .at (.int b))=some bs
 |[]=>rfl
 |b::bs=>by
  have ih:=Vx bs;rw [yO];unfold js;rw [ih];rfl
theorem De (bs:List Bool):jb [.lst (bs.map λb=> .at (.bl b))]=some (.at (.bl (bs.all id))):=by show (bls _).bind _=_;rw [GM];rfl
theorem Cg (bs:List Int):Xz [.lst (bs.map λb=> .at (.int b))]=some (.at (.int bs.sum)):=by show (js _).bind _=_;rw [Vx];rfl
theorem Zi (l:List α):jb [.lst (l.map λ_=> .at (.bl true))]=some (.at (.bl true)):=by
 have e:(l.map λ_=>PV.at (.bl true))=((l.map λ_=>true).map λb=>PV.at (.bl b)):=by rw [yr];rfl
 rw [e,De];have:(l.map λ_=>true).all id=true:=by simp
 rw [this]
end
def jA:List Int->Int
 |[]=>0
 |x::l=>l.foldl (λb y=>if y<b then y else b) x
theorem VU (l:List Int):∀ b:Int,l.foldl (λb y=>if y<b then y else b) b<=b/\(∀ y∈l,l.foldl (λb y=>if y<b then y else b) b<=y)/\(l.foldl (λb y=>if y<b then y else b) b=b∨l.foldl (λb y=>if y<b then y else b) b∈l):=by
 induction l with
 |nil=>intro b;exact ⟨uS _,(λ_ z=>nomatch z),.inl rfl⟩
 |cons x l ih =>
  intro b;rw [List.foldl_cons];obtain ⟨h1,h2,h3⟩:=ih (if x<b then x else b);have hx:(if x<b then x else b)<=b/\(if x<b then x else b)<=x:=by split<;>omega
  refine ⟨by omega,λy hy=>?_,?_⟩
  ·rcases yH.mp hy with rfl|hy
   ·omega
   ·exact h2 y hy
  ·rcases h3 with h3|h3
   ·rw [h3];by_cases hc:x<b
    ·rw [if_pos hc];exact .inr yU
    ·rw [if_neg hc];exact .inl rfl
   ·exact .inr (yW _ h3)
theorem Xs {l:List Int}(h:l≠[]):jA l∈l:=by
 cases l with
 |nil=>exact absurd rfl h
 |cons x l =>
  rcases (VU l x).2.2 with e|e
  ·show l.foldl _ x∈_;rw [e];exact yU
  ·exact yW _ e
theorem Qp {l:List Int}{y:Int}(h:y∈l):jA l<=y:=by
 cases l with
 |nil=>cases h
 |cons x l =>
  rcases yH.mp h with rfl|h
  ·exact (VU l y).1
  ·exact (VU l x).2.1 y h
def Xy:List PV->Option PV
 |[.lst xs]=>(js xs).bind λns=>if ns=[] then none else some (.at (.int (jA ns)))
 |_=>none
instance :vE (Pd K) Xy where
 h:=λ{xs z} e {Hs H vs} s r {Q} q=>by
  unfold Xy at e;split at e
  ·obtain ⟨ns,eb,e1⟩:=bind_some e;split at e1
   ·cases e1
   ·rename_i hne;cases e1;obtain ⟨v,rfl,a⟩:=xP r;obtain ⟨p,ws,rfl,e1,r1⟩:=qr s a;rw [Vw eb,show (ns.map λb=>PV.at (.int b))=(ns.map V.int).map .at by rw [yr];rfl] at r1;cases r1.ats;refine ⟨p,ns,rfl,SqL.of e1,hne,λm m1 m2=>?_⟩;have em:m=jA ns:=Int.le_antisymm (m2 _ (Xs hne)) (Qp m1);subst em;exact q _ _ _ (.refl s) (rep_at.mpr rfl)
  ·cases e
def leS (a b:Str):Bool:=!decide (b.cps.toList<a.cps.toList)
def zL (ss:List Str):List Str:=ss.mergeSort leS
theorem YJ (ss:List Str):(zL ss).Perm ss:=List.mergeSort_perm ss leS
theorem PZ (ss:List Str):Zh (zL ss):=by
 have:=List.pairwise_mergeSort (le:=leS) (λa b c h1 h2=>by
  unfold leS at h1 h2 ⊢;simp only [Bool.not_eq_true',decide_eq_false_iff_not] at h1 h2 ⊢;exact ua.mpr (List.le_trans (ua.mp h1) (ua.mp h2))) (λa b=>by
  unfold leS;by_cases h:b.cps.toList<a.cps.toList
  ·have h2:¬ (a.cps.toList<b.cps.toList):=λk=>List.lt_irrefl _ (List.lt_trans h k);simp [h2]
  ·simp [h]) ss
 exact this.imp λh=>by unfold leS at h;simpa using h
theorem Jw {ss ss':List Str}(p:ss'.Perm ss)(u:Zh ss'):ss'=zL ss :=
 List.Perm.eq_of_pairwise (λa b _ _ h1 h2=>by
  have e:=List.le_antisymm (ua.mp h1) (ua.mp h2);cases a;cases b;simp only [Str.mk.injEq];exact Array.toList_inj.mp e) u (PZ ss) (p.trans (YJ ss).symm)
def jL:List PV->Option (List Str)
 |[]=>some []
 | .at (.str s)::xs=>(jL xs).map (s::·)
 |_::_=>none
theorem YN:∀{xs:List PV}{ss:List Str},jL xs=some ss->xs=ss.map λs=> .at (.str s)
 |[],_,h=>by cases h;rfl
 |x::xs,ss,h=>by
  unfold jL at h;split at h
  ·rename_i e;cases e
  ·rename_i s' xs' e;injection e with e1 e2;subst e1 e2;obtain ⟨r,hr,rfl⟩:=yM.mp h;rw [YN hr];rfl
  ·cases h
def jZ:List j4->Option (List Str)
 |[]=>some []
 | .inr s::xs=>(jZ xs).map (s::·)
 |_::_=>none
theorem VC:∀{xs:List j4}{ss:List Str},jZ xs=some ss->xs=ss.map Sum.inr
 |[],_,h=>by cases h;rfl
 |x::xs,ss,h=>by
  unfold jZ at h;split at h
  ·rename_i e;cases e
  ·rename_i s' xs' e;injection e with e1 e2;subst e1 e2;obtain ⟨r,hr,rfl⟩:=yM.mp h;rw [VC hr];rfl
  ·cases h
def Qw:List PV->Option PV
 |[.lst xs]=>(jL xs).bind λss=>if ss.length<64 then some (.lst ((zL ss).map λs=> .at (.str s))) else none
 |[.dk ks _]=>(jZ ks).bind λss=>if ss.length<64 then some (.lst ((zL ss).map λs=> .at (.str s))) else none
 |[.fk ks _]=>(jZ ks).bind λss=>if ss.length<64 then some (.lst ((zL ss).map λs=> .at (.str s))) else none
 |_=>none
theorem Wt (ss:List Str):Reps H (ss.map λs=> .at (.str s)) (ss.map V.str):=by have:=Reps.ofAts (H:=H) (ss.map V.str);rwa [yr] at this
instance :JH (Pi K) Qw where
 h:=λ{xs z} e {Hs H vs} s r {Q} q=>by
  unfold Qw at e;split at e
  ·obtain ⟨ss,eb,e1⟩:=bind_some e;split at e1
   ·rename_i hl;cases e1;obtain ⟨v,rfl,a⟩:=xP r;obtain ⟨p,ws,rfl,e1,r1⟩:=qr s a;rw [YN eb,show (ss.map λb=>PV.at (.str b))=(ss.map V.str).map .at by rw [yr];rfl] at r1;cases r1.ats;refine ⟨p,ss,rfl,.inl (SqL.of e1),hl,λl ss' hn p1 p2=>?_⟩;rw [Jw p1 p2];exact q l _ _ (.newO s hn) hn (s.free hn) ⟨_,g0,Wt _⟩
   ·cases e1
  ·obtain ⟨ss,eb,e1⟩:=bind_some e;split at e1
   ·rename_i hl;cases e1;obtain ⟨v,rfl,a⟩:=xP r;obtain ⟨p,kvs,rfl,hp,hk,hr⟩:=vx s a;refine ⟨p,ss,rfl,.inr ⟨kvs,.inl hp,by rw [hk,VC eb]⟩,hl,λl ss' hn p1 p2=>?_⟩;rw [Jw p1 p2];exact q l _ _ (.newO s hn) hn (s.free hn) ⟨_,g0,Wt _⟩
   ·cases e1
  ·obtain ⟨ss,eb,e1⟩:=bind_some e;split at e1
   ·rename_i hl;cases e1;obtain ⟨v,rfl,a⟩:=xP r;obtain ⟨p,o,kvs,rfl,hp,hk,hr⟩:=XJ s a;refine ⟨p,ss,rfl,.inr ⟨kvs,.inr ⟨o,hp⟩,by rw [hk,VC eb]⟩,hl,λl ss' hn p1 p2=>?_⟩;rw [Jw p1 p2];exact q l _ _ (.newO s hn) hn (s.free hn) ⟨_,g0,Wt _⟩
   ·cases e1
  ·cases e
def Ph (K:Fg):List V->Hp->VK->Prop:=λxs H Q=>∃(a:Addr)(ss:List Str),xs=[.ref a]/\SqL K H a (ss.map V.str)/\ss.length<=1000 /\
  ∀ l,H l=none->Q (.ref l) (v9 H l (vG (s9 (λi=>(Sum.inr (ss.getD i ⟨#[]⟩):j4)) ss.length).length l))
theorem DO (hc:X.calm=true)(h:X.K=K):CallR X (.type "set") (Ph K):=by subst h;exact DP hc
def VR (ss:List Str):Nat:=(s9 (λi=>(Sum.inr (ss.getD i ⟨#[]⟩):j4)) ss.length).length
def Pb:List V->Hp->VK->Prop:=λxs H Q=>∃(a:Addr)(n:Nat),xs=[.ref a]/\H a=some (vG n a)/\Q (.int n) H
theorem DJ :CallR X (.builtin "len") Pb:=DI
def Kg (a:M):M:=λε=>(a ε).bind λx=>match x with
 | .lst xs=>(jL xs).bind λss=>if ss.length<=1000 then some (.at (.int (VR ss))) else none
 |_=>none
instance {a:M}[sa:f6 te a]:SemE (tCB Pb (i4 (tCB (Ph K) (i4 te ql)) ql)) (Kg a) where
 h:=λe _ _ _ _ _ rs _ q=>by
  obtain ⟨x,ex,e1⟩:=bind_some e;split at e1
  ·obtain ⟨ss,eb,e2⟩:=bind_some e1;split at e2
   ·rename_i hl;cases e2;refine sa.h ex rs λv Hs1 H1 x1 r1=>?_;obtain ⟨p,ws,rfl,ep,r2⟩:=qr x1.s3 r1;rw [YN eb,show (ss.map λb=>PV.at (.str b))=(ss.map V.str).map .at by rw [yr];rfl] at r2;cases r2.ats;refine ⟨p,ss,rfl,SqL.of ep,hl,λl hn=>⟨l,_,rfl,g0,q _ _ _ (x1.trans (.newO x1.s3 hn)) (rep_at.mpr rfl)⟩⟩
   ·cases e2
  ·cases e1
def pIsB:PV->PV->Option PV
 | .at (.bl b),.at (.bl c)=>some (.at (.bl (decide (b=c))))
 |_,_=>none
def Wc:PV->PV->Option PV
 | .at (.bl b),.at (.bl c)=>some (.at (.bl (!decide (b=c))))
 |_,_=>none
instance:xy Pe Wc where
 h:=λ{x y z} e {Hs H v w} s a b {Q} q=>by
  unfold Wc at e;split at e
  ·cases e;exact ⟨_,_,b8 a,b8 b,q _ _ _ (.refl s) (rep_at.mpr rfl)⟩
  ·cases e
structure Mkr (P:Program)(w:World)(K:Fg)(mg:Str->Option Value)(base:Heap)(k:Nat)(C:Addr)(ps:List Str)(sp:Sp):Prop where
 ex:∃ f fd,FnOk P w K mg base v6 k f fd ps sp/\Mk K C f/\Binds K fd ps []
theorem pe_mk {k j:Nat}{x:Str}{p:Pos}{es:List Expr}{t:TA}(c:Mkr X.prog X.w X.K X.mg X.base k C ps sp)(hr:Room j X.A)(hj:k+1<=j)(hg:Gl X x)(hm:X.mg x=some (.ref C))(ha:PA X (e::es) t)(hdb:(x==("__debug__":Str))=false:=by decide)(he:starEach (e::es) X.env=(false,eval e X.env)::starEach es X.env:=by rfl)(hpl:(backTo pos (starEach es X.env)).any (·.1)=false:=by rfl):PE X (.Call (.Name x p) (e::es) [] pos) (XW C sp [] E0 t):=by obtain ⟨f,fd,F,hm',hb⟩:=c.ex;exact Rl hm' F (hr.mono hj) hg hm hb .nil Jk ha hdb he hpl
instance (priority:=1100)[sa:xa ta as]:SemE (XW C (spI C m) [] E ta) (x9 m as) where
 h:=λ{ε y} e=>SemE.h (te:=XW C (spI C m) [] E ta) (f:=Vc m [] as) (by
  unfold Vc;unfold x9 at e;simpa using e)
structure FunD (K:Fg)(x qual:Str)(st:Stmt)(f:Addr)(fd:FuncData):Prop where
 ex:∃(oc:Value)(od:Option Addr)(dV kV doc pm:Value)(an:Option Addr)(cdv ct:Value)(osl:Array (Option Value)),
  fd=PySem.W.fnOf x qual (xU st) (qo st) (j7 st) dV kV doc pm an cdv ct/\K.lookup f=some ⟨oc,od,.func fd,osl⟩/\PySem.W.codeIn K cdv qual=true
 kp:PySem.W.keepIn K (.ref f)=true
section
variable {P:Program}{w:World}{K:Fg}{mg:Str->Option Value}{base:Heap}
theorem FunD.ok {x:Str}{f:Addr}{k:Nat}(F:FunD K x qual st f fd)(S:y4 N ps (j7 st))(len:∀ vs H Q E,sp vs H Q E->vs.length=ps.length)(hbody:∀(cdv:Value)(A:Around)(outer:List Env)(s:Shared)(H:Hp)(vs:List V)(Q:VK)(E:XK),Room k (A.deeper (PyProof.Rows.envOfC qual (j7 st) s.heap.objs.size f cdv))->sp vs H Q E -> ∃ t,PSs (xz v6 P w K mg base N qual (j7 st) f cdv A outer s H E).nox (qo st) t/\t { nx:=λ_ H'=>Q .non H',rt:=Q } (L2.start N vs) H):FnOk P w K mg base v6 (k+1) f fd ps sp:=by obtain ⟨oc,od,dV,kV,doc,pm,an,cdv,ct,osl,rfl,lk,hcd⟩:=F.ex;refine Vl lk hcd S len λA outer s H vs Q E hr hsp=>?_;obtain ⟨t,h,q⟩:=hbody cdv A outer s H vs Q E hr hsp;exact ⟨t,h.nox,q⟩
theorem MJ {x:Str}{f:Addr}{oc:Value}{od an:Option Addr}{osl:Array (Option Value)}{dV kV doc pm cdv ct:Value}(l:K.lookup f=some ⟨oc,od,.func (PySem.W.fnOf x qual (xU st) (qo st) (j7 st) dV kV doc pm an cdv ct),osl⟩)(c:PySem.W.codeIn K cdv qual=true)(k:PySem.W.keepIn K (.ref f)=true):FunD K x qual st f (PySem.W.fnOf x qual (xU st) (qo st) (j7 st) dV kV doc pm an cdv ct):=⟨⟨oc,od,dV,kV,doc,pm,an,cdv,ct,osl,rfl,l,c⟩,k⟩
theorem XH {o value:Expr}{ta:TE}{pos':Pos}(hK:X.K=K)(ha:PE X o ta)(hv:PE X value tv)(hs:swapsWith value (some (.Attribute o f pos')) pos.line X.env=pure false:=by rfl):PS X (.Assign [.Attribute o f pos'] value pos) (XN K ta tv f):=by subst hK;exact RI ha hv hs
theorem okI' {x:Str}{f:Addr}{k:Nat}(F:FunD K x qual st f fd)(S:y4 N ps (j7 st))(hm:∀ xs y,m xs=some y->xs.length+1=ps.length)(hb:∀(cdv:Value)(A:Around)(outer:List Env)(s:Shared)(H:Hp)(E:XK),Room k (A.deeper (PyProof.Rows.envOfC qual (j7 st) s.heap.objs.size f cdv)) -> ∃ t,PSs (xz v6 P w K mg base N qual (j7 st) f cdv A outer s H E).nox (qo st) t/\SemWS t b)(hw:∀ xs y,m xs=some y->b (.ow (.ob C [] [])::xs.map .sh++List.replicate (N.length-(xs.length+1)) .no) (λε=>ε[0]?=some (.ow y)) λ_ _=>False):FnOk P w K mg base v6 (k+1) f fd ps (spI C m):=by
 refine F.ok S (λvs H Q E h=>?_) (λcdv A outer s H vs Q E hr h=>?_)
 ·obtain ⟨Hs,x,dx,xs,ws,y,rfl,_,_,_,r,e,_⟩:=h;rw [yF,r.length];exact hm xs y e
 ·obtain ⟨Hs,x,dx,xs,ws,y,rfl,sm,hx,hs,r,e,q⟩:=h;obtain ⟨t,ht,sem⟩:=hb cdv A outer s H E hr;refine ⟨t,ht,sem.h (hw xs y e) (Ta sm hs ⟨dx,[],hx,rfl,.nil⟩ r) (λε σ Hs' H' z rd g=>?_) λ_ _ _ _ _ _ z _ _ _=>z.elim⟩;obtain ⟨a,ha,_,n,tp⟩:=rd.ow 0 y z;rw [rd.pin x (yJ.mpr rfl)] at ha;injection ha with ha;injection ha with ha;injection ha with ha;subst ha;obtain ⟨o,ho,ro⟩:=tp.rep n;have g2:Same Hs' (v9 Hs' x o):=λb u e=>by rw [j9 (g8 e n)];exact e
  refine q (v9 Hs' x o) H' (g.trans g2) (λb u e hb=>rd.s2 b u e λw=>hb (yJ.mp w)) (λb u e=>?_) (λb hb hbx w=>?_) ro
  ·by_cases hbx:b=x
   ·subst hbx;rw [g0] at e;cases e;exact ho
   ·rw [j9 hbx] at e;exact rd.s3 _ _ e
  ·rw [j9 hbx];exact rd.s4 b hb w
end
def zU (C:Addr)(f:Str)(a:M):MS:=λε=>(a ε).bind λy=>match (ε[0]?:Option MSlot) with
 |some (.ow (.ob C' ns xs))=>if C'=C/\f∉ns/\ns.length<1000 then some (.nx (ε.set 0 (.ow (.ob C (ns++[f]) (xs++[y]))))) else none
 |_=>none
def wPN (f:MS):WS:=λε N _=>∃ ε',f ε=some (.nx ε')/\N ε'
theorem Mc {a:M}{o:Out}(h:zU C f a ε=some o):∃ y ns xs,a ε=some y/\ε[0]?=some (.ow (.ob C ns xs))/\f∉ns/\ns.length<1000/\o = .nx (ε.set 0 (.ow (.ob C (ns++[f]) (xs++[y])))):=by
 unfold zU at h;obtain ⟨y,ey,h1⟩:=bind_some h;split at h1
 ·rename_i C' ns xs he;split at h1
  ·rename_i hc;cases h1;obtain ⟨rfl,h2,h3⟩:=hc;exact ⟨y,ns,xs,ey,he,h2,h3,rfl⟩
  ·cases h1
 ·cases h1
instance {a:M}[c:zg K C][n:qK K C f][sa:SemE te a]:SemWS (XN K (qG 0) te f) (wPN (zU C f a)) where
 h:=λ{ε N R} h=>by
  obtain ⟨ε',e,h1⟩:=h;obtain ⟨y,ns,xs,ey,he,h2,h3,e4⟩:=Mc e;injection e4 with e4;subst e4;exact SemWS.h (ts:=XN K (qG 0) te f) (w:=CN C f (wP a)) ⟨y,ey,ns,xs,he,h2,h3,h1⟩
instance {a:M}[sa:SemE te a]:SemWS (wu te) (wPN (zT a)) where
 h:=λ{ε N R} h=>by
  obtain ⟨ε',e,h1⟩:=h;obtain ⟨y,ey,e2⟩:=bind_some e;cases e2;exact SemWS.h (ts:=wu te) (w:=CM (wP a)) ⟨y,ey,h1⟩
instance Sl {u:TS}{a b:MS}[sa:SemWS t (wPN a)][sb:SemWS u (wPN b)]:SemWS (tSeq t u) (wPN (v3 a b)) where
 h:=λ{ε N R} h S Hs0 H0 Hs H σ rd D k rt=>by
  obtain ⟨ε',e,h1⟩:=h;obtain ⟨o1,e1,e2⟩:=bind_some e;refine SemWS.h (ts:=tSeq t u) (w:=wSeq (wPN a) (wPN b)) (ε:=ε) (N:=N) (R:=R) ?_ rd k rt;cases o1 with
  |nx ε1=>exact ⟨ε1,e1,ε',e2,h1⟩
  |rt y=>cases e2
  |bk ε1=>cases e2
  |ct ε1=>cases e2
def QR (n k:Nat)(C:Addr)(f:MS):List PV->Option PV:=λxs=>if xs.length+1=k then (f (.ow (.ob C [] [])::xs.map .sh++List.replicate (n-k) .no)).bind λo=>match o with
 | .nx ε=>(match (ε[0]?:Option MSlot) with
  |some (.ow y)=>some y
  |_=>none)
 |_=>none else none
theorem okID {P:Program}{w:World}{mg:Str->Option Value}{base:Heap}{x:Str}{f:Addr}{k:Nat}{b:MS}(F:FunD K x qual st f fd)(S:y4 N ps (j7 st))(hm:m=QR N.length ps.length C b)(hb:∀(cdv:Value)(A:Around)(outer:List Env)(s:Shared)(H:Hp)(E:XK),Room k (A.deeper (PyProof.Rows.envOfC qual (j7 st) s.heap.objs.size f cdv)) -> ∃ t,PSs (xz v6 P w K mg base N qual (j7 st) f cdv A outer s H E).nox (qo st) t/\SemWS t (wPN b)):FnOk P w K mg base v6 (k+1) f fd ps (spI C m):=by
 subst hm;refine okI' F S (λxs y e=>?_) hb (λxs y e=>?_)
 ·unfold QR at e;split at e
  ·rename_i hl;exact hl
  ·cases e
 ·unfold QR at e;split at e
  ·rename_i hl;obtain ⟨o,eo,e1⟩:=bind_some e;rw [hl];cases o with
   |nx ε =>
    refine ⟨ε,eo,?_⟩;have e2:(match (ε[0]?:Option MSlot) with
     |some (.ow y)=>some y
     |_=>none)=some y:=e1
    show ε[0]?=some (.ow y);split at e2
    ·rename_i z hz;cases e2;exact hz
    ·cases e2
   |rt z=>cases e1
   |bk z=>cases e1
   |ct z=>cases e1
  ·cases e
def vq:List PV->Option (List (j4×PV))
 |[]=>some []
 | .tup [k,v]::xs=>(xW k).bind λkk=>(vq xs).map ((kk,v)::·)
 |_::_=>none
def wc:List PV->Option PV
 |[.lst xs]=>(vq xs).bind λps=>if (ps.map (·.1)).Nodup/\ps.length<=1000 then some (.fk (ps.map (·.1)) (ps.map (·.2))) else none
 |_=>none
theorem BP {Hs H:Hp}(s:Same Hs H):∀{xs:List PV}{ps:List (j4×PV)}{vs:List V},vq xs=some ps->Reps Hs xs vs->∃(ts:List Addr)(kvs:List (j4×V)),vs=ts.map V.ref/\Paired (λt (kv:j4×V)=>H t=some (.tup [kV kv.1,kv.2])) ts kvs/\kvs.map (·.1)=ps.map (·.1)/\Reps Hs (ps.map (·.2)) (kvs.map (·.2))
 |[],ps,vs,h,r=>by
  cases h;cases reps_nil.mp r;exact ⟨[],[],rfl,.nil,rfl,.nil⟩
 |x::xs,ps,vs,h,r=>by
  unfold vq at h;split at h
  ·rename_i e;cases e
  ·rename_i k v xs' e;injection e with e1 e2;subst e1 e2;obtain ⟨kk,ek,h1⟩:=bind_some h;obtain ⟨ps',hp,rfl⟩:=yM.mp h1;obtain ⟨w,ws,rfl,r1,r2⟩:=reps_cons.mp r;obtain ⟨t,us,rfl,ht,ru⟩:=rep_tup.mp r1;obtain ⟨u1,us1,rfl,p1,p2⟩:=reps_cons.mp ru;obtain ⟨u2,us2,rfl,p3,p4⟩:=reps_cons.mp p2;cases reps_nil.mp p4;have ew:=jY (H:=H) (.inl p1) ek;subst ew;obtain ⟨ts,kvs,rfl,q1,q2,q3⟩:=BP s hp r2;exact ⟨t::ts,(kk,u2)::kvs,rfl,.cons (s _ _ ht) q1,by rw [yO,yO,q2],.cons p3 q3⟩
  ·cases h
instance:vE BZ wc where
 h:=λ{xs z} e {Hs H vs} s r {Q} q=>by
  unfold wc at e;split at e
  ·obtain ⟨ps,eb,e1⟩:=bind_some e;split at e1
   ·rename_i hl;cases e1;obtain ⟨v,rfl,a⟩:=xP r;obtain ⟨p,ws,rfl,ep,r1⟩:=qr s a;obtain ⟨ts,kvs,rfl,q1,q2,q3⟩:=BP s eb r1;have hk:kvs.length=ps.length:=by have:=congrArg List.length q2;rwa [yZ,yZ] at this
    refine ⟨p,ts,kvs,rfl,ep,q1,by rw [q2];exact hl.1,by omega,λl o hn=>?_⟩;exact q _ _ _ (.new s hn) (rep_fk.mpr ⟨l,o,kvs,rfl,g0,q2,q3.mono (Ext.new s hn).s1⟩)
   ·cases e1
  ·cases e
def dItV (a:M):MA:=λε=>(a ε).bind λx=>match x with
 | .fk _ xs=>some xs
 |_=>none
theorem LB {a:Addr}{o:Obj}(h:Hs a=some (.frz o (.dK kvs)))(r:Reps Hs xs (kvs.map (·.2))):jf (Itv a o kvs) xs Hs where
 go:=λi x Hs1 H1 e g1 g2=>by
  obtain ⟨v,ev,rv⟩:=r.get e;have hl:i<kvs.length:=by have:=(yB.mp ev).1;rwa [yZ] at this
  refine ⟨⟨g2 _ _ (g1 _ _ h),hl⟩,λw H2 y=>?_⟩;obtain ⟨rfl,k,y⟩:=y;rw [yP,y] at ev;cases ev;exact ⟨Hs1,.refl g2,rv.mono g1⟩
 stop:=λHs1 H1 g1 g2=>⟨g2 _ _ (g1 _ _ h),by have:=r.length;rw [yZ] at this;omega⟩
instance {a:M}[sa:SemE te a]:zR (KI te) (dItV a) where
 h:=λe _ _ _ _ _ rs _ q=>by
  obtain ⟨x,ex,e1⟩:=bind_some e;split at e1
  ·cases e1;refine sa.h ex rs λv Hs1 H1 x1 r1=>?_;obtain ⟨p,o,kvs,rfl,hp,_,r⟩:=rep_fk.mp r1;exact ⟨p,o,kvs,rfl,x1.s3 _ _ hp,q _ _ _ x1 (LB hp r)⟩
  ·cases e1
end Mi
namespace L2
open PySem PySem.Spec PyProof.Rows
variable{pos:Pos}{l:List Value}
theorem SE:∀{l:List Value}{i j:Int}{t u:Tok}{c:Value},TriplesOk l->TriplesOk (l++[.int i t,.int j u,c]):=by
 intro l i j t u c h
 fun_induction TriplesOk l with
 |case1=>trivial
 |case2 _ _ _ _ _ rest ih=>exact ih h
 |case3=>exact h.elim
theorem Dg {c:Value}{r:List Value}(h:codeAmong pos l=some c):codeAmong pos (l++r)=some c:=by
 fun_induction codeAmong pos l with
 |case1 line t col u d rest e=>show codeAmong pos (.int line t:: .int col u::d::(rest++r))=some c;unfold codeAmong;rw [if_pos e];exact h
 |case2 line t col u d rest e ih=>show codeAmong pos (.int line t:: .int col u::d::(rest++r))=some c;unfold codeAmong;rw [if_neg e];exact ih h
 |case3=>cases h
theorem Df {i j:Int}{t u:Tok}{d:Value}(ok:TriplesOk l)(h:codeAmong pos l=none):codeAmong pos (l++[.int i t,.int j u,d])=if i==pos.line&&j==pos.col then some d else none:=by
 fun_induction TriplesOk l with
 |case1=>show codeAmong pos (.int i t:: .int j u::d::[])=_;unfold codeAmong;rfl
 |case2 a b c e f rest ih =>
  unfold codeAmong at h;split at h
  ·cases h
  ·rename_i ne;show codeAmong pos (.int a b:: .int c e::f::(rest++_))=_;unfold codeAmong;rw [if_neg ne];exact ih ok h
 |case3=>exact ok.elim
section
variable {X:Cx}{pins:List (Addr×Obj)}{σ:St}{H:Hp}{s:Shared}{Pt c:Addr}{ps:Array Value}{wt:List (Pos×Str)}{params:Arguments}{body:Expr}{scope:Scope}{pos:Pos}{clos:List (Str×Addr)}{Q:Value->Shared->Prop}{E:Value->Shared->Prop}
theorem Inv.trackN {h':Heap}{tk:Tok}{o:HO}{ob:Obj}(I':Inv X pins σ H { s with heap:=h',toks:=tk })(nb:H h'.objs.size=none)(J:Inv X pins σ H { s with heap:=h'.push ob,toks:=tk })(new:ObjOk X.prog X.w (v9 H h'.objs.size o) (h'.push ob) h'.objs.size o):Inv X pins σ (v9 H h'.objs.size o) { s with heap:=h'.push ob,toks:=tk }:=by
 refine J.track I'.sz nb (tY I'.lt) (λx c e=>?_) (λq hq=>?_) new
 ·obtain ⟨v,oc,e1,_⟩:=I'.cell x c e;exact yL (yQ e1)
 ·exact yL (yQ (I'.pin q hq).1)
theorem Bg (I:Inv X pins σ H s)(hP:(Pt,ps,wt)∈TABS)(hw:(pos,X.env.qual ++ "<lambda>")∈wt)(hu:∀ p∈wt,(p.1.line==pos.line&&p.1.col==pos.col)=true->p.2=X.env.qual ++ "<lambda>")(hcode:X.env.code = .ref c)(C:PySem.W.CodeHd X.base c Pt)(hcl:closureFor scope X.env=pure clos)(hdef:defaultsOf params X.env=([],[]))(h:∀ (f c':Addr) (oc:Obj) (vs:Array Value) (tq:Tok) (ctv:Value) (H':Hp) (h':Heap) (tk:Tok),Inv X pins σ H' { s with heap:=h',toks:=tk }->(∀ b o,H b=some o->H' b=some o)->(∀ b,H b=none->H' b≠none->s.heap.get? b=none) -> H' f=some (.frz (PySem.W.kla_obj "<lambda>" (X.env.qual ++ "<lambda>") params body scope clos ((X.mg "__name__").getD .none) c' ctv) (.own Pt))->H' c'=some (.frz oc (.own Pt))->oc.data = .fields vs->vs[1]?=some (.str (X.env.qual ++ "<lambda>") tq)->Q (.ref f) { s with heap:=h',toks:=tk }):wpAny (model X.prog X.w) X.A (eval (.Lambda params body scope pos) X.env) Q E s:=by
 have hT:H Pt=some (.tbl ps wt):=I.base.tbls _ _ _ (I.ok.tbs _ hP);obtain ⟨more,eP,tri,wk⟩:=I.hok Pt _ hT;obtain ⟨bm,ob,b1,b2,b3,b4,b5,b6⟩:=I.mod.bmn;have hgs:=(I.mod.glob).keeps I.bk;have hgP:mainGlobals≠Pt:=λz=>by
  obtain ⟨o,_,_,e,_⟩:=I.mod.glob;have:=(I.bs _ _ e).2;rw [z,hT] at this;cases this
 have hbP:bm≠Pt:=λz=>by
  have:=(I.bs _ _ b3).2;rw [z,hT] at this;cases this
 have hbG:bm≠mainGlobals:=λz=>by
  obtain ⟨o,es,ep,e,hd,_⟩:=I.mod.glob;rw [z,e] at b3;cases b3;rw [hd] at b6;cases b6
 have hB:s.heap.BuiltinsAt X.mg Pt:=⟨bm,ob,b1,b2,hbG,hbP,I.bk _ _ b3,b4,b5,b6⟩;refine PySem.W.kla_eval hdef ?_;rcases wk _ hw with hn|⟨cc,o1,vs1,t1,hf,oc,e2,e3⟩
 ·refine PySem.W.kla_makeFunction (mg:=X.mg) hcl I.ok.glob hgs hcode (C.keeps I.bk) eP tri hn hgP hB λc' ctv h' tk hx hge hlt hrec htb=>?_;obtain ⟨c2,oc,vs,tq,z1,z2,z3,z4⟩:=hrec;cases z1;have nc:H c'=none:=I.hok.fresh hge;have un:Un X.fs [] H (v9 H c' (.frz oc (.own Pt))) s.heap h':=by
   refine ⟨λb o e n _ _=>hx b o (λz=>by rw [z,hT] at n;cases n) e,λb o e n _ _=>⟨o.slots,hx b o (λz=>by rw [z,hT] at n;cases n) e⟩,λb o e n _=>?_,λb o e _=>?_,λb xs e=>?_,λb o u e=>?_,λb q r e=>?_⟩
   ·rw [j9 (yL (yE (yQ e) hge))];exact n
   ·by_cases hb:b=Pt
    ·exact ⟨_,hb▸htb⟩
    ·exact ⟨o,hx b o hb e⟩
   ·rw [j9 (g8 e nc)];exact e
   ·rw [j9 (g8 e nc)];exact e
   ·rw [j9 (g8 e nc)];exact e
  have hok:HOk X.prog X.w (v9 H c' (.frz oc (.own Pt))) h':=λb u e=>by
   by_cases hb:b=c'
   ·subst hb;rw [g0] at e;cases e;exact ⟨z2,oc,z2⟩
   ·rw [j9 hb] at e;by_cases hb2:b=Pt
    ·rw [hb2] at e ⊢;rw [hT] at e;cases e;have ea:ps++(more++#[rawInt pos.line,rawInt pos.col,.ref c'])=ps++more++#[rawInt pos.line,rawInt pos.col,.ref c']:=(Array.append_assoc).symm;have el:(ps++more++#[rawInt pos.line,rawInt pos.col,.ref c']).toList=(ps++more).toList++[rawInt pos.line,rawInt pos.col,.ref c']:=Array.toList_append;refine ⟨more++#[rawInt pos.line,rawInt pos.col,.ref c'],by rw [ea];exact htb,by rw [ea,el];exact SE tri,λp hp=>?_⟩;rw [ea,el];rcases wk p hp with z|⟨d,o2,vs2,t2,z,od,z2⟩
     ·have am:=Df (pos:=p.1) (i:=pos.line) (j:=pos.col) (t:=0) (u:=0) (d:= .ref c') tri z;by_cases hm:(((pos.line:Int)==p.1.line&&(pos.col:Int)==p.1.col)=true)
      ·rw [if_pos hm] at am;have hq:p.2=X.env.qual ++ "<lambda>":=hu p hp (by
        simp only [yf,beq_iff_eq] at hm ⊢;omega)
       exact .inr ⟨c',oc,vs,tq,am,g0,z3,by rw [hq];exact z4⟩
      ·rw [if_neg hm] at am;exact .inl am
     ·exact .inr ⟨d,o2,vs2,t2,Dg z,by rw [j9 (g8 od nc)];exact od,z2⟩
    ·refine (I.hok b u e).stay (λd v hd q=>hx d v ?_ q) (λd q=>by rw [j9 (g8 q nc)];exact q) (λd xs q=>by rw [j9 (g8 q nc)];exact q) λd _ xs q=>by rw [j9 (g8 q nc)];exact q
     rcases hd with z|z
     ·rw [z];exact hb2
     ·intro q;rw [q,hT] at z;cases z
  have I':=I.un (t':=tk) un hok;have ncf:c'≠h'.objs.size:=yL hlt;have sz:s.heap.objs.size<=h'.objs.size:=ym hge (uJ hlt);have nf:v9 H c' (.frz oc (.own Pt)) h'.objs.size=none:=by rw [j9 (Ne.symm ncf)];exact I.hok.fresh sz
  have kp:∀ b o,h'.get? b=some o->(h'.push (PySem.W.kla_obj "<lambda>" (X.env.qual ++ "<lambda>") params body scope clos ((X.mg "__name__").getD .none) c' ctv)).get? b=some o:=λb o e=>yT _ e;have J:=I'.un (t':=tk) (Un.kept kp) (I'.hok.kept kp);have f1:=yD (h:=h') (o:=PySem.W.kla_obj "<lambda>" (X.env.qual ++ "<lambda>") params body scope clos ((X.mg "__name__").getD .none) c' ctv) rfl;refine h _ c' oc vs tq ctv _ _ tk (Inv.trackN (o:= .frz (PySem.W.kla_obj "<lambda>" (X.env.qual ++ "<lambda>") params body scope clos ((X.mg "__name__").getD .none) c' ctv) (.own Pt)) I' nf J ⟨f1,_,f1⟩) (λb o e=>?_) (λb n n'=>?_) g0 (by rw [j9 ncf];exact g0) z3 z4
  ·have n1:b≠c':=g8 e nc;have e':v9 H c' (.frz oc (.own Pt)) b=some o:=by rw [j9 n1];exact e
   rw [j9 (g8 e' nf)];exact e'
  ·by_cases hb:b=h'.objs.size
   ·rw [hb];exact ur sz
   ·rw [j9 hb] at n';by_cases hb2:b=c'
    ·rw [hb2];exact ur hge
    ·rw [j9 hb2] at n';exact absurd n n'
 ·refine PySem.W.kla_makeFunctionHit (mg:=X.mg) hcl I.ok.glob hgs hcode (C.keeps I.bk) eP tri hf hB λctv h' tk hk hsz=>?_;have I':=I.un (t':=tk) (Un.kept hk) (I.hok.kept hk);have kp:∀ b o,h'.get? b=some o->(h'.push (PySem.W.kla_obj "<lambda>" (X.env.qual ++ "<lambda>") params body scope clos ((X.mg "__name__").getD .none) cc ctv)).get? b=some o:=λb o e=>yT _ e;have nf:H h'.objs.size=none:=I.hok.fresh hsz;have J:=I'.un (t':=tk) (Un.kept kp) (I'.hok.kept kp);have f1:=yD (h:=h') (o:=PySem.W.kla_obj "<lambda>" (X.env.qual ++ "<lambda>") params body scope clos ((X.mg "__name__").getD .none) cc ctv) rfl;refine h _ cc o1 vs1 t1 ctv _ _ tk (Inv.trackN (o:= .frz (PySem.W.kla_obj "<lambda>" (X.env.qual ++ "<lambda>") params body scope clos ((X.mg "__name__").getD .none) cc ctv) (.own Pt)) I' nf J ⟨f1,_,f1⟩) (λb o e=>by rw [j9 (g8 e nf)];exact e) (λb n n'=>?_) g0 (by rw [j9 (g8 oc nf)];exact oc) e2 e3;by_cases hb:b=h'.objs.size
  ·rw [hb];exact ur hsz
  ·rw [j9 hb] at n';exact absurd n n'
end
def jV (P:Program)(w:World)(K:Fg)(mg:Str->Option Value)(base:Heap)(N:List Str)(qual:Str)(scope:Scope)(f c':Addr)(clos:List (Str×Addr))(A:Around)(outer:List Env)(s:Shared)(H:Hp):Cx where
 prog:=P
 w:=w
 K:=K
 mg:=mg
 base:=base
 A:=A.deeper (PySem.W.envX qual scope s.heap.objs.size f (.ref c') clos)
 N:=N
 s₀:=s
 H₀:=H
 env:=PySem.W.envX qual scope s.heap.objs.size f (.ref c') clos
 outer:=outer
 stack:=PySem.W.envX qual scope s.heap.objs.size f (.ref c') clos::outer
 ex:=[]
 calm:=true
 fn:=λ_=>false
 pn:=[]
 xe:=λ_ _=>False
structure wD (ps fr:List Str)(scope:Scope):Prop where
 co:scope.isCoroutine=false
 gen:scope.isGenerator=false
 kind:scope.kind = .function
 nocell:∀ x∈scope.names,x.2 ≠ .cell
 par:∀ x∈ps,scope.names.lookup x=some .local
 fre:∀ x,scope.names.lookup x=some .free->x∈fr
 nd:ps.Nodup
theorem CZ:∀{ps:List Str}{us:List Value}{i:Nat}{x:Str}{u:Value},ps.Nodup->ps[i]?=some x->us[i]?=some u->(ps.zip us).reverse.lookup x=some u
 |[],_,i,x,u,_,h,_=>by simp at h
 |_::_,[],i,x,u,_,_,h=>by simp at h
 |p::ps,v::us,0,x,u,nd,h1,h2=>by
  simp at h1 h2;subst h1;subst h2;rw [List.zip_cons_cons,List.reverse_cons,List.lookup_append];have n:(ps.zip us).reverse.lookup p=none:=by rw [List.lookup_eq_none_iff];intro q hq;have hq':=List.mem_reverse.mp hq;obtain ⟨a,b⟩:=q;have:=(uc hq').1;simp only [bne_iff_ne,ne_eq,beq_eq_false_iff_ne];intro e;subst e;exact (yp.mp nd).1 this
  rw [n];simp
 |p::ps,v::us,i+1,x,u,nd,h1,h2=>by
  rw [List.zip_cons_cons,List.reverse_cons,List.lookup_append,CZ (i:=i) (yp.mp nd).2 (by simpa using h1) (by simpa using h2)];rfl
section
variable {P:Program}{w:World}{K:Fg}{mg:Str->Option Value}{base:Heap}{A:Around}{outer:List Env}{s:Shared}{H:Hp}{f c':Addr}{pm ctv:Value}{params:Arguments}{body:Expr}{scope:Scope}{qual:Str}{clos:List (Str×Addr)}{ps fr:List Str}
 {us:List Value} {vs cv:List V} {t:TE} {Q:VK} {E:XK}
theorem Bf (S:wD ps fr scope)(hdp:A.depth<recursionLimit)(hhd:A.handled=none)(e0:Env0 P w K mg base A outer s H)(hf:s.heap.get? f=some (PySem.W.kla_obj "<lambda>" qual params body scope clos pm c' ctv))(hcd:s.heap.CodeRec (.ref c') qual)(hbind:bindArgs (PySem.W.kla_fn "<lambda>" qual params body scope clos pm (.ref c') ctv) ⟨us,[]⟩=pure (ps.zip us))(hl:vs.length=ps.length)(r:Vals vs us)(inj:∀ x y c,clos.lookup x=some c->clos.lookup y=some c->x=y)(hc:∀ x c,clos.lookup x=some c->(∃ v,s.heap.IsCell c v)/\H c=none)(hlc:cv.length=fr.length)(hcv:∀ (i:Nat) (x:Str) (v:V),fr[i]?=some x->cv[i]?=some v->scope.names.lookup x=some .free/\∃ c u,clos.lookup x=some c/\s.heap.IsCell c (some u)/\RelV v u)(hb:PE (jV P w K mg base (ps++fr) qual scope f c' clos A outer s H) body t)(hq:t ((vs++cv).map some) H Q):codeAny (model P w) A (.call (.ref f) ⟨us,[]⟩) (CR v6 outer P w H s Q E) s:=by
 have lim:s.heap.NoLimit:=e0.mod.nolimit.keeps λb o e=>(e0.bs b o e).1;refine PySem.W.kla_callFunE hdp hf rfl S.co S.gen rfl hcd ?_;rw [hbind];refine yx (wpAny_newFunctionEnv S.nocell (λy hy=>S.par _ (uc (show (y.1,y.2)∈ps.zip us from hy)).1) (λh₁ hns hsb=>⟨lim.fresh _ hsb,?_⟩) S.kind);show codeAny _ _ (.expr body (PySem.W.envX qual scope s.heap.objs.size f (.ref c') clos)) _ _;have hk₁:∀ b o,s.heap.get? b=some o->h₁.get? b=some o:=λb o e=>hsb.extBut b o (yL (yQ e)) (yT _ e);have noA:∀ b:Addr,b∉(jV P w K mg base (ps++fr) qual scope f c' clos A outer s H).ex:=λb z=>absurd (show b∈([]:List Addr) from z) (by simp);have cellK:∀{c:Addr}{v:Option Value},s.heap.IsCell c v->h₁.IsCell c v:=λ{c v} ⟨o,e,d⟩=>⟨o,hk₁ _ _ e,d⟩;have I:Inv (jV P w K mg base (ps++fr) qual scope f c' clos A outer s H) [] ((vs++cv).map some) H { s with heap:=h₁,toks:=s.toks+(ps.zip us).length }:=by
  refine ⟨⟨e0.mod,S.kind,rfl,rfl,yV _,inj,λx hx=>?_,λx c z=>absurd (show false=true from z) (by decide),λ_=>hhd,Around.frames_deeper e0.frames,.inr ⟨rfl,rfl⟩,λb z=>absurd z (noA b),e0.bs,e0.bsz,λb _ _=>noA b,λb z=>absurd z (noA b),e0.funs,e0.frf,e0.tbs⟩,
   rfl,e0.bare,Un.kept hk₁,⟨_,hns,λi x v h1 h2 h3=>?_⟩,λx c e=>?_,e0.hok.fresh (yV _),λx c e=>(hc x c e).2,λp hp=>absurd (show p∈([]:List (Addr×Obj)) from hp) (by simp),e0.hok.kept hk₁,?_⟩
  ·have hx:scope.names.lookup x=some .cell∨scope.names.lookup x=some .free:=hx;rcases hx with z|z
   ·exact absurd rfl (S.nocell _ (PySem.mem_of_lookup z))
   ·obtain ⟨i,hi,e⟩:=uL (S.fre x z);have hic:i<cv.length:=by omega
    obtain ⟨_,c,u,e1,_⟩:=hcv i x cv[i] (by rw [yY hi,e]) (yY hic);exact ⟨c,e1⟩
  ·have h1':(ps++fr)[i]?=some x:=h1;rw [yP] at h2;obtain ⟨v',e1,e2⟩:=yM.mp h2;cases e2;by_cases hi:i<ps.length
   ·rw [yb hi] at h1';rw [yb (by omega)] at e1;obtain ⟨u,hu,rv⟩:=r.get e1;exact ⟨u,rv,.inl ⟨S.par x (yh h1'),CZ S.nd h1' hu⟩⟩
   ·rw [yn (by omega)] at h1';rw [yn (by omega),hl] at e1;obtain ⟨k,c,u,a1,a2,a3⟩:=hcv _ x _ h1' e1;exact ⟨u,a3,.inr ⟨.inr k,c,a1,cellK a2⟩⟩
  ·obtain ⟨⟨v,z⟩,_⟩:=hc x c e;exact ⟨v,cellK z⟩
  ·show ((vs++cv).map some).length=(ps++fr).length;rw [yZ,yN,yN,hl,hlc]
 refine PySem.W.kla_codeExpr (wpAny_mono (hb [] _ _ H Q I hq) (λu s' z=>?_) λe s' z=>z.elim);obtain ⟨v,H',J,rv,q⟩:=z;exact ⟨v,H',J.os,J.bare,J.base,J.hok,rv,q⟩
end
end L2
namespace Ka
open PySem.W PyProof.Rows
variable{a b j n nrem:Nat}{p:Array Nat}
def ev {α:Type}(ans:Nat->Nat->Bool):KasT α->α
 | .ret a=>a
 | .ask i j k=>ev ans (k (ans i j))
theorem Qb {α β:Type}{ans:Nat->Nat->Bool}{f:α->KasT β}:∀ t:KasT α,ev ans (t.bind f)=ev ans (f (ev ans t))
 | .ret _=>rfl
 | .ask i j k=>Qb (k (ans i j))
structure Ord (lt:Nat->Nat->Bool):Prop where
 irr:∀ a,lt a a=false
 tr:∀ a b c,lt a b=true->lt b c=true->lt a c=true
 neg:∀ a b c,lt a c=true->lt a b=true∨lt b c=true
section
variable {lt:Nat->Nat->Bool}(O:Ord lt)
def le (lt:Nat->Nat->Bool)(a b:Nat):Prop:=lt b a=false
include O in
theorem le_refl (a:Nat):le lt a a:=O.irr a
include O in
theorem le_trans {c:Nat}(h:le lt a b)(k:le lt b c):le lt a c:=by
 unfold le at *
 cases e:lt c a with
 |false=>rfl
 |true =>
  rcases O.neg c b a e with z|z
  ·rw [k] at z;cases z
  ·rw [h] at z;cases z
include O in
theorem le_of_lt (h:lt a b=true):le lt a b:=by
 unfold le;cases e:lt b a with
 |false=>rfl
 |true=>have:=O.tr a b a h e;rw [O.irr] at this;cases this
def g (p:Array Nat)(i:Nat):Nat:=p.getD i 0
theorem QX {q:Array Nat}{i:Nat}(h:p[i]?=q[j]?):g p i=g q j:=by unfold g;rw [Array.getD_eq_getD_getElem?,Array.getD_eq_getD_getElem?,h]
def Up (lt:Nat->Nat->Bool)(p:Array Nat)(k:Nat):Prop:=∀ i j,i<=j->j<k->le lt (g p i) (g p j)
def zQ (lt:Nat->Nat->Bool)(p:Array Nat)(k:Nat):Prop:=∀ i j,i<=j->j<k->le lt (g p j) (g p i)
def Eqs (lt:Nat->Nat->Bool)(p:Array Nat)(a b:Nat):Prop:=∀ i j,a<=i->i<b->a<=j->j<b->le lt (g p i) (g p j)
include O in
theorem Ic (p:Array Nat):Up lt p 1:=λi j h k=>by
 have:i=j:=by omega
 subst this;exact le_refl O _
include O in
theorem Ib (h1:1<=n)(h:Up lt p n)(k:le lt (g p (n-1)) (g p n)):Up lt p (n+1):=λi j hij hj=>by
 by_cases e:j=n
 ·subst e;by_cases e2:i=j
  ·subst e2;exact le_refl O _
  ·exact le_trans O (h i (j-1) (by omega) (by omega)) k
 ·exact h i j hij (by omega)
include O in
theorem Zz (h1:1<=n)(h:zQ lt p n)(k:le lt (g p n) (g p (n-1))):zQ lt p (n+1):=λi j hij hj=>by
 by_cases e:j=n
 ·subst e;by_cases e2:i=j
  ·subst e2;exact le_refl O _
  ·exact le_trans O k (h i (j-1) (by omega) (by omega))
 ·exact h i j hij (by omega)
theorem QY {i:Nat}(hj:j<=p.size)(k:Nat):g (kas_rev p i j) k=if i<=k/\k<j then g p (i+j-1-k) else g p k:=by
 have e:=getElem?_mirror_all (xs:=p) (i:=i) hj k;unfold kas_rev;split
 ·rename_i h;rw [if_pos h] at e;exact QX e
 ·rename_i h;rw [if_neg h] at e;exact QX e
theorem wf {i:Nat}:(kas_rev p i j).size=p.size:=mirror_size _ _ _ _
theorem rev_perm {i:Nat}:(kas_rev p i j).Perm p:=mirror_perm _ _ _ _
include O in
theorem JJ {p:Array Nat}:∀(f n:Nat),1<=n->Up lt p n -> n<=ev lt (kas_asc p f n)/\ev lt (kas_asc p f n)<=n+f/\Up lt p (ev lt (kas_asc p f n))/\(ev lt (kas_asc p f n)=n+f∨lt (g p (ev lt (kas_asc p f n))) (g p (ev lt (kas_asc p f n)-1))=true)
 |0,n,_,h=>⟨yV _,yV _,h,.inl rfl⟩
 |f+1,n,h1,h=>by
  have e:ev lt (kas_asc p (f+1) n)=ev lt (if lt (g p n) (g p (n-1))=true then KasT.ret n else kas_asc p f (n+1)):=rfl;cases c:lt (g p n) (g p (n-1)) with
  |true=>rw [c,if_pos rfl] at e;rw [e];exact ⟨yV _,by show n<=_;omega,h,.inr c⟩
  |false=>rw [c,if_neg (by simp)] at e;rw [e];obtain ⟨a1,a2,a3,a4⟩:=JJ f (n+1) (by omega) (Ib O h1 h c);exact ⟨by omega,by omega,a3,by rcases a4 with z|z;exact .inl (by omega);exact .inr z⟩
include O in
theorem Vd (ha:a<=n)(hn:n<=p.size)(h:zQ lt p n)(q:Eqs lt p a n):zQ lt (kas_rev p a n) n/\∀ i,i<n->le lt (g p (n-1)) (g (kas_rev p a n) i):=by
 have eqv:∀ i,i<n->le lt (g (kas_rev p a n) i) (g p i)/\le lt (g p i) (g (kas_rev p a n) i):=λi hi=>by
  rw [QY hn];split
  ·rename_i z;exact ⟨q _ _ (by omega) (by omega) (by omega) (by omega),q _ _ (by omega) (by omega) (by omega) (by omega)⟩
  ·exact ⟨le_refl O _,le_refl O _⟩
 refine ⟨λi j hij hj=>?_,λi hi=>?_⟩
 ·exact le_trans O (le_trans O (eqv j hj).1 (h i j hij hj)) (eqv i (by omega)).2
 ·exact le_trans O (h i (n-1) (by omega) (by omega)) (eqv i hi).2
include O in
theorem Zy:∀(f:Nat)(p:Array Nat)(n q:Nat),q+1<=n->n+f<=p.size->zQ lt p n->Eqs lt p (n-(q+1)) n -> ∃ p' n' q',ev lt (kas_desc f p n q)=(p',n',q')/\p'.Perm p/\p'.size=p.size/\n<=n'/\n'<=n+f/\zQ lt p' n'/\q'+1<=n'/\Eqs lt p' (n'-(q'+1)) n'
 |0,p,n,q,hq,_,h,e=>⟨p,n,q,rfl,.refl _,rfl,yV _,yV _,h,hq,e⟩
 |f+1,p,n,q,hq,hs,h,he=>by
  have ee:ev lt (kas_desc (f+1) p n q)=ev lt (if lt (g p n) (g p (n-1))=true then (if q > 0 then kas_desc f (kas_rev p (n-(q+1)) n) (n+1) 0 else kas_desc f p (n+1) 0) else KasT.ask (g p (n-1)) (g p n) λd=>if d=true then .ret (p,n,q) else kas_desc f p (n+1) (q+1)):=rfl;cases c:lt (g p n) (g p (n-1)) with
  |true =>
   rw [c,if_pos rfl] at ee;by_cases hq0:q > 0
   ·rw [if_pos hq0] at ee;obtain ⟨d1,d2⟩:=Vd O (a:=n-(q+1)) (by omega) (by omega) h he;have gn:g (kas_rev p (n-(q+1)) n) n=g p n:=by rw [QY (by omega),if_neg (by omega)]
    have dn:zQ lt (kas_rev p (n-(q+1)) n) (n+1):=Zz O (by omega) d1 (by rw [gn];exact le_trans O (le_of_lt O c) (d2 (n-1) (by omega)));obtain ⟨p',n',q',a1,a2,a3,a4,a5,a6⟩:=Zy f (kas_rev p (n-(q+1)) n) (n+1) 0 (by omega) (by rw [wf];omega) dn (λi j i1 i2 j1 j2=>(show i=j by omega)▸le_refl O _);exact ⟨p',n',q',ee.trans a1,a2.trans rev_perm,a3.trans wf,by omega,by omega,a6⟩
   ·rw [if_neg hq0] at ee;obtain ⟨p',n',q',a1,a2,a3,a4,a5,a6⟩:=Zy f p (n+1) 0 (by omega) (by omega) (Zz O (by omega) h (le_of_lt O c)) (λi j i1 i2 j1 j2=>(show i=j by omega)▸le_refl O _);exact ⟨p',n',q',ee.trans a1,a2,a3,by omega,by omega,a6⟩
  |false =>
   rw [c,if_neg (by simp)] at ee;have e2:ev lt (kas_desc (f+1) p n q)=ev lt (if lt (g p (n-1)) (g p n)=true then KasT.ret (p,n,q) else kas_desc f p (n+1) (q+1)):=ee;cases d:lt (g p (n-1)) (g p n) with
   |true=>rw [d,if_pos rfl] at e2;exact ⟨p,n,q,e2,.refl _,rfl,yV _,by omega,h,hq,he⟩
   |false =>
    rw [d,if_neg (by simp)] at e2;have dn:=Zz O (by omega) h (show le lt (g p n) (g p (n-1)) from d);obtain ⟨p',n',q',a1,a2,a3,a4,a5,a6⟩:=Zy f p (n+1) (q+1) (by omega) (by omega) dn (λi j i1 i2 j1 j2=>by
     have lo:∀ k,n-(q+1)<=k->k<n+1->le lt (g p k) (g p (n-1))/\le lt (g p (n-1)) (g p k):=λk k1 k2=>by
      by_cases hk:k=n
      ·subst hk;exact ⟨d,c⟩
      ·exact ⟨he _ _ (by omega) (by omega) (by omega) (by omega),he _ _ (by omega) (by omega) (by omega) (by omega)⟩
     exact le_trans O (lo i (by omega) i2).1 (lo j (by omega) j2).2)
    exact ⟨p',n',q',e2.trans a1,a2,a3,by omega,by omega,a6⟩
include O in
theorem Ct (h1:1<=n)(hn:n<=nrem)(hs:nrem<=p.size)(h:zQ lt p n):∃ m p',ev lt (kas_tail3 n nrem p)=(m,p')/\p'.Perm p/\p'.size=p.size/\1<=m/\m<=nrem/\Up lt p' m:=by
 unfold kas_tail3;rw [Qb];have up:Up lt (kas_rev p 0 n) n:=λi j hij hj=>by
  rw [QY (by omega),QY (by omega),if_pos (by omega),if_pos (by omega)];exact h _ _ (by omega) (by omega)
 obtain ⟨a1,a2,a3,_⟩:=JJ O (nrem-n) n h1 up;exact ⟨_,_,rfl,rev_perm,wf,by omega,by omega,a3⟩
include O in
theorem Kl (hn:n+1<=nrem)(hs:nrem<=p.size)(h:zQ lt p (n+1)):∃ m p',ev lt (kas_descPart n nrem p)=(m,p')/\p'.Perm p/\p'.size=p.size/\1<=m/\m<=nrem/\Up lt p' m:=by
 unfold kas_descPart;rw [Qb];obtain ⟨p',n',q',a1,a2,a3,a4,a5,a6,a7,a8⟩:=Zy O (nrem-(n+1)) p (n+1) 0 (by omega) (by omega) h (λi j i1 i2 j1 j2=>(show i=j by omega)▸le_refl O _);rw [a1]
 dsimp only
 split
 ·obtain ⟨d1,_⟩:=Vd O (a:=n'-(q'+1)) (by omega) (by omega) a6 a8;obtain ⟨m,p2,b1,b2,b3,b4⟩:=Ct O (nrem:=nrem) (by omega) (by omega) (by rw [wf];omega) d1;exact ⟨m,p2,b1,b2.trans (rev_perm.trans a2),by rw [b3,wf,a3],b4⟩
 ·obtain ⟨m,p2,b1,b2,b3,b4⟩:=Ct O (nrem:=nrem) (by omega) (by omega) (by omega) a6;exact ⟨m,p2,b1,b2.trans a2,by rw [b3,a3],b4⟩
include O in
theorem DX (h0:1<=nrem)(hs:nrem<=p.size):∃ m p',ev lt (kas_count nrem p)=(m,p')/\p'.Perm p/\p'.size=p.size/\1<=m/\m<=nrem/\Up lt p' m:=by
 unfold kas_count;rw [Qb];obtain ⟨a1,a2,a3,a4⟩:=JJ O (p:=p) (nrem-1) 1 (yV _) (Ic O p);generalize hm:ev lt (kas_asc p (nrem-1) 1)=m at a1 a2 a3 a4 ⊢;by_cases e1:(m==nrem)=true
 ·rw [if_pos e1];exact ⟨m,p,rfl,.refl _,rfl,a1,by omega,a3⟩
 ·rw [if_neg e1];have ne:m≠nrem:=λz=>e1 (by rw [z];exact beq_self_eq_true _);have c:lt (g p m) (g p (m-1))=true:=by
   rcases a4 with z|z
   ·omega
   ·exact z
  by_cases e2:m > 1
  ·rw [if_pos e2];have ee:ev lt (KasT.ask (p.getD 0 0) (p.getD (m-1) 0) λc=>if c=true then KasT.ret (m,p) else kas_descPart m nrem (kas_rev p 0 m))=ev lt (if lt (g p 0) (g p (m-1))=true then KasT.ret (m,p) else kas_descPart m nrem (kas_rev p 0 m)):=rfl;rw [ee];cases d:lt (g p 0) (g p (m-1)) with
   |true=>rw [if_pos rfl];exact ⟨m,p,rfl,.refl _,rfl,a1,by omega,a3⟩
   |false =>
    rw [if_neg (by simp)];have all:Eqs lt p 0 m:=λi j _ i2 _ j2=>le_trans O (le_trans O (a3 i (m-1) (by omega) (by omega)) (show le lt (g p (m-1)) (g p 0) from d)) (a3 0 j (by omega) j2);obtain ⟨d1,d2⟩:=Vd O (a:=0) (by omega) (by omega) (λi j hij hj=>all _ _ (by omega) (by omega) (by omega) (by omega)) all;have gm:g (kas_rev p 0 m) m=g p m:=by rw [QY (by omega),if_neg (by omega)]
    have dn:zQ lt (kas_rev p 0 m) (m+1):=Zz O (by omega) d1 (by rw [gm];exact le_trans O (le_of_lt O c) (d2 (m-1) (by omega)));obtain ⟨m2,p2,b1,b2,b3,b4⟩:=Kl O (nrem:=nrem) (by omega) (by rw [wf];omega) dn;exact ⟨m2,p2,b1,b2.trans rev_perm,by rw [b3,wf],b4⟩
  ·rw [if_neg e2];have e3:m=1:=by omega
   subst e3;exact Kl O (by omega) hs (λi j hij hj=>by
    by_cases z:i=j
    ·subst z;exact le_refl O _
    ·have z1:i=0:=by omega
     have z2:j=1:=by omega
     subst z1 z2;exact le_of_lt O c)
include O in
theorem Wl {p:Array Nat}{k:Nat}(up:Up lt p k):∀(f l r:Nat),r-l<=f->l<=r->r<=k->(∀ i,i<l->le lt (g p i) (g p k))->(∀ i,r<=i->i<k->le lt (g p k) (g p i)) -> ev lt (kas_place p k f l r)<=k/\(∀ i,i<ev lt (kas_place p k f l r)->le lt (g p i) (g p k))/\∀ i,ev lt (kas_place p k f l r)<=i->i<k->le lt (g p k) (g p i)
 |0,l,r,hf,hl,hr,h1,h2=>by
  have e:l=r:=by omega
  subst e;exact ⟨hr,h1,h2⟩
 |f+1,l,r,hf,hl,hr,h1,h2=>by
  have e:ev lt (kas_place p k (f+1) l r)=ev lt (if l >= r then KasT.ret l else KasT.ask (p.getD k 0) (p.getD ((l+r) / 2) 0) λc=>if c=true then kas_place p k f l ((l+r) / 2) else kas_place p k f ((l+r) / 2+1) r):=rfl;by_cases c:l >= r
  ·rw [if_pos c] at e;have e':l=r:=by omega
   subst e';rw [e];exact ⟨hr,h1,h2⟩
  ·rw [if_neg c] at e;have e2:ev lt (kas_place p k (f+1) l r)=ev lt (if lt (g p k) (g p ((l+r) / 2))=true then kas_place p k f l ((l+r) / 2) else kas_place p k f ((l+r) / 2+1) r):=e;cases d:lt (g p k) (g p ((l+r) / 2)) with
   |true=>rw [d,if_pos rfl] at e2;rw [e2];exact Wl up f l ((l+r) / 2) (by omega) (by omega) (by omega) h1 λi i1 i2=>le_trans O (le_of_lt O d) (up _ _ i1 i2)
   |false=>rw [d,if_neg (by simp)] at e2;rw [e2];exact Wl up f ((l+r) / 2+1) r (by omega) (by omega) hr (λi hi=>le_trans O (up i ((l+r) / 2) (by omega) (by omega)) d) h2
include O in
theorem GE:∀(f:Nat)(p:Array Nat)(k:Nat),k+f<=p.size->Up lt p k->∃ p',ev lt (kas_bin f p k)=p'/\p'.Perm p/\p'.size=p.size/\Up lt p' (k+f)
 |0,p,k,_,h=>⟨p,rfl,.refl _,rfl,h⟩
 |f+1,p,k,hs,h=>by
  have e:ev lt (kas_bin (f+1) p k)=ev lt ((kas_place p k k 0 k).bind λl=>kas_bin f (bubble p k (k-l)) (k+1)):=rfl;rw [Qb] at e;obtain ⟨a1,a2,a3⟩:=Wl O h k 0 k (by omega) (by omega) (yV _) (λi hi=>absurd hi (by omega)) λi i1 i2=>absurd i1 (by omega);generalize ev lt (kas_place p k k 0 k)=l at e a1 a2 a3;have gb:∀ i,g (bubble p k (k-l)) i=if i=l then g p k else if l<i/\i<=k then g p (i-1) else g p i:=λi=>by
   have z:=getElem?_bubble (xs:=p) (src:=k) (by omega) (k-l) (by omega) i;have el:k-(k-l)=l:=by omega
   rw [el] at z;split
   ·rename_i q;rw [if_pos q] at z;exact QX z
   ·rename_i q;rw [if_neg q] at z;split
    ·rename_i q2;rw [if_pos q2] at z;exact QX z
    ·rename_i q2;rw [if_neg q2] at z;exact QX z
  have up:Up lt (bubble p k (k-l)) (k+1):=λi j hij hj=>by
   by_cases e0:i=j
   ·subst e0;exact le_refl O _
   rw [gb,gb];by_cases i1:i=l
   ·rw [if_pos i1,if_neg (by omega),if_pos (by omega)];exact a3 _ (by omega) (by omega)
   ·rw [if_neg i1];by_cases j1:j=l
    ·rw [if_neg (by omega),if_pos j1];exact a2 _ (by omega)
    ·rw [if_neg j1];by_cases i2:l<i/\i<=k
     ·rw [if_pos i2,if_pos (by omega)];exact h _ _ (by omega) (by omega)
     ·rw [if_neg i2];by_cases j2:l<j/\j<=k
      ·rw [if_pos j2];exact h _ _ (by omega) (by omega)
      ·rw [if_neg j2];exact h _ _ (by omega) (by omega)
  obtain ⟨p',b1,b2,b3,b4⟩:=GE f (bubble p k (k-l)) (k+1) (by rw [bubble_size];omega) up;exact ⟨p',e.trans b1,b2.trans (bubble_perm _ _ _),by rw [b3,bubble_size],by rw [show k+1+f=k+(f+1) by omega] at b4;exact b4⟩
include O in
theorem Sx (h:1<=n):∃ p,ev lt (kas_sort n)=p/\p.Perm (List.toArray (List.range n))/\p.size=n/\Up lt p n:=by
 unfold kas_sort;rw [Qb];obtain ⟨m,p,a1,a2,a3,a4,a5,a6⟩:=DX O (p:=List.toArray (List.range n)) (nrem:=n) h (by simp);have hp:p.size=n:=by rw [a3];simp
 rw [a1]
 dsimp only
 split
 ·have mx:max m 1=m:=by omega
  rw [mx];obtain ⟨p',b1,b2,b3,b4⟩:=GE O (n-m) p m (by omega) a6;exact ⟨p',b1,b2.trans a2,by omega,by rw [show m+(n-m)=n by omega] at b4;exact b4⟩
 ·have e:m=n:=by omega
  subst e;exact ⟨p,rfl,a2,hp,a6⟩
end
end Ka
namespace Ka
open PySem PySem.W PyProof.Rows
variable{m n r:Nat}{p:Array Nat}
def Bd {α:Type}(n:Nat):KasT α->Prop
 | .ret _=>True
 | .ask i j k=>i<n/\j<n/\∀ b,Bd n (k b)
def BdP {α:Type}(n:Nat)(R:α->Prop):KasT α->Prop
 | .ret a=>R a
 | .ask i j k=>i<n/\j<n/\∀ b,BdP n R (k b)
theorem wR {α β:Type}{n:Nat}{R:α->Prop}{S:β->Prop}{f:α->KasT β}:∀{t:KasT α},BdP n R t->(∀ a,R a->BdP n S (f a))->BdP n S (t.bind f)
 | .ret a,h,k=>k a h
 | .ask _ _ _,⟨a,b,c⟩,k=>⟨a,b,λx=>wR (c x) k⟩
def Lo (n:Nat)(p:Array Nat):Prop:=1<=n/\∀ x∈p.toList,x<n
theorem Lo.g (h:Lo n p)(i:Nat):p.getD i 0<n:=by
 rw [Array.getD_eq_getD_getElem?];cases e:p[i]? with
 |none=>exact h.1
 |some x=>exact h.2 x (by rw [<- tW] at e;exact yh e)
theorem Lo.perm {q:Array Nat}(h:Lo n p)(k:q.Perm p):Lo n q:=⟨h.1,λx hx=>h.2 x ((Array.perm_iff_toList_perm.mp k).mem_iff.mp hx)⟩
section
variable {n:Nat}
theorem JN {p:Array Nat}(h:Lo n p):∀ f m,BdP n (λ_=>True) (kas_asc p f m)
 |0,_=>trivial
 |f+1,m=>⟨h.g _,h.g _,λb=>by
  cases b with
  |true=>exact trivial
  |false=>exact JN h f (m+1)⟩
theorem Zl:∀(f:Nat){p:Array Nat}(m q:Nat),Lo n p->BdP n (λr=>Lo n r.1) (kas_desc f p m q)
 |0,_,_,_,h=>h
 |f+1,p,m,q,h=>⟨h.g _,h.g _,λb=>by
  cases b with
  |true =>
   show BdP n _ (if q > 0 then kas_desc f (kas_rev p (m-(q+1)) m) (m+1) 0 else kas_desc f p (m+1) 0);split
   ·exact Zl f _ _ (h.perm rev_perm)
   ·exact Zl f _ _ h
  |false=>exact ⟨h.g _,h.g _,λd=>by
    cases d with
    |true=>exact h
    |false=>exact Zl f _ _ h⟩⟩
theorem GD (h:Lo n p):BdP n (λq=>Lo n q.2) (kas_tail3 m r p):=wR (JN (h.perm rev_perm) _ _) λ_ _=>h.perm rev_perm
theorem GC (h:Lo n p):BdP n (λq=>Lo n q.2) (kas_descPart m r p):=wR (Zl _ _ _ h) λa ha=>by
 split
 ·exact GD (ha.perm rev_perm)
 ·exact GD ha
theorem Dm (h:Lo n p):BdP n (λq=>Lo n q.2) (kas_count r p):=wR (JN h _ _) λm _=>by
 split
 ·exact h
 ·split
  ·exact ⟨h.g _,h.g _,λb=>by
    cases b with
    |true=>exact h
    |false=>exact GC (h.perm rev_perm)⟩
  ·exact GC h
theorem JO {p:Array Nat}{k:Nat}(h:Lo n p):∀ f l r,BdP n (λ_=>True) (kas_place p k f l r)
 |0,_,_=>trivial
 |f+1,l,r=>by
  show BdP n _ (if l >= r then _ else _);split
  ·exact trivial
  ·exact ⟨h.g _,h.g _,λb=>by
    cases b with
    |true=>exact JO h f _ _
    |false=>exact JO h f _ _⟩
theorem GB:∀(f:Nat){p:Array Nat}(k:Nat),Lo n p->BdP n (λ_=>True) (kas_bin f p k)
 |0,_,_,_=>trivial
 |f+1,p,k,h=>wR (JO h _ _ _) λ_ _=>GB f _ (h.perm (bubble_perm _ _ _))
theorem Dn (h:1<=n):BdP n (λ_=>True) (kas_sort n):=wR (Dm ⟨h,λx hx=>by simpa using hx⟩) λr hr=>by
 split
 ·exact GB _ _ hr
 ·exact trivial
theorem CQ {α:Type}{cmp:Nat->Nat->(Bool->Shared->Prop)->Shared->Prop}{lt:Nat->Nat->Bool}{s:Shared}{R:α->Prop}{G:α->Shared->Prop}(hc:∀ i j (C:Bool->Shared->Prop),i<n->j<n->C (lt i j) s->cmp i j C s):∀{t:KasT α},BdP n R t->G (ev lt t) s->t.kasWp cmp G s
 | .ret _,_,h=>h
 | .ask i j k,⟨a,b,c⟩,h=>hc i j _ a b (CQ hc (c (lt i j)) h)
end
theorem sort_wp {cmp:Nat->Nat->(Bool->Shared->Prop)->Shared->Prop}{lt:Nat->Nat->Bool}{s:Shared}{G:Array Nat->Shared->Prop}(O:Ord lt)(h:1<=n)(hc:∀ i j (C:Bool->Shared->Prop),i<n->j<n->C (lt i j) s->cmp i j C s)(hG:∀ p:Array Nat,p.Perm (List.toArray (List.range n))->p.size=n->(∀ i j,i<=j->j<n->lt (p.getD j 0) (p.getD i 0)=false)->G p s):(kas_sort n).kasWp cmp G s:=by obtain ⟨p,e,a1,a2,a3⟩:=Sx O h;refine CQ hc (Dn h) ?_;rw [e];exact hG p a1 a2 λi j hij hj=>a3 i j hij hj
end Ka
namespace L2
open PySem PySem.Spec PyProof.Rows
variable{e n:Nat}{H H1:Hp}{kf:Nat->Int×Str}{ks:List Value}{s1:Shared}
def u7 (p q:Int×Str):Bool:=decide (p.1<q.1) || (p.1==q.1&&decide (p.2.cps.toList<q.2.cps.toList))
theorem ltK_iff {p q:Int×Str}:u7 p q=true↔p.1<q.1∨(p.1=q.1/\p.2.cps.toList<q.2.cps.toList):=by unfold u7;simp only [Bool.or_eq_true,yf,decide_eq_true_eq,beq_iff_eq]
theorem Qj (kf:Nat->Int×Str):Ka.Ord λi j=>u7 (kf i) (kf j) where
 irr a:=by
  cases e:u7 (kf a) (kf a) with
  |false=>rfl
  |true =>
   rcases ltK_iff.mp e with z|⟨_,z⟩
   ·omega
   ·exact absurd z (List.lt_irrefl _)
 tr a b c h k:=by
  refine ltK_iff.mpr ?_;rcases ltK_iff.mp h with z|⟨z1,z2⟩<;>rcases ltK_iff.mp k with y|⟨y1,y2⟩
  ·exact .inl (by omega)
  ·exact .inl (by omega)
  ·exact .inl (by omega)
  ·exact .inr ⟨by omega,List.lt_trans z2 y2⟩
 neg a b c h:=by
  rcases ltK_iff.mp h with z|⟨z1,z2⟩
  ·by_cases q:(kf a).1<(kf b).1
   ·exact .inl (ltK_iff.mpr (.inl q))
   ·exact .inr (ltK_iff.mpr (.inl (by omega)))
  ·by_cases q:(kf a).1<(kf b).1
   ·exact .inl (ltK_iff.mpr (.inl q))
   ·by_cases q2:(kf b).1<(kf c).1
    ·exact .inr (ltK_iff.mpr (.inl q2))
    ·by_cases q3:(kf a).2.cps.toList<(kf b).2.cps.toList
     ·exact .inl (ltK_iff.mpr (.inr ⟨by omega,q3⟩))
     ·exact .inr (ltK_iff.mpr (.inr ⟨by omega,List.lt_of_le_of_lt (ua.mp q3) z2⟩))
section
variable {prog:Program}{w:World}{A:Around}{E:Value->Shared->Prop}{s:Shared}
theorem SG {x y:Addr}{ox oy:Obj}{i j:Int}{a b:Str}{t u t' u':Tok}{k:Nat}{Q:Bool->Shared->Prop}(hx:s.heap.get? x=some ox)(dx:ox.data = .seq #[.int i t,.str a u] n)(hy:s.heap.get? y=some oy)(dy:oy.data = .seq #[.int j t',.str b u'] k)(h:Q (u7 (i,a) (j,b)) s):wpAny (model prog w) A (keyLt' (tuples' true) (.ref x) (.ref y)) Q E s:=by
 refine PySem.W.kat_lt hx dx hy dy ?_;show PySem.W.KatLex prog w A true _ Q [(.int i t,.int j t'),(.str a u,.str b u')] 0 s;refine PySem.W.kat_cons (wpAny_eqBool_int ?_);by_cases e:i=j
 ·subst e;rw [beq_self_eq_true];refine PySem.W.kat_yes (PySem.W.kat_cons (wpAny_eqBool_str ?_));by_cases e2:a=b
  ·subst e2;rw [yG rfl];refine PySem.W.kat_yes (PySem.W.kat_nil ?_);have z:u7 (i,a) (i,a)=false:=(Qj λ_=>(i,a)).irr 0;rw [z] at h;exact h
  ·rw [yI e2];refine PySem.W.kat_no (PySem.W.kat_one _ _ (PyProof.Rows.lt_str ?_));have z:u7 (i,a) (i,b)=decide (a.cps.toList<b.cps.toList):=by unfold u7;simp
   rw [z] at h;exact h
 ·have e':(i==j)=false:=by simpa using e
  rw [e'];refine PySem.W.kat_no ?_;show wpAny _ _ (oneLt' true (.int i t) (.int j t')) Q _ s;refine oneLt_int ?_;have z:u7 (i,a) (j,b)=decide (i<j):=by unfold u7;simp [e']
  rw [z] at h;exact h
end
def Grow (H H':Hp):Prop:=∀ b o,H b=some o->H' b=some o
theorem Grow.refl :Grow H H:=λ_ _ e=>e
theorem Grow.trans {H2:Hp}(a:Grow H H1)(b:Grow H1 H2):Grow H H2:=λc o e=>b c o (a c o e)
structure KeysIn (kf:Nat->Int×Str)(H:Hp)(xs:List V)(ks:List Value):Prop where
 len:ks.length=xs.length
 at_:∀(i:Nat)(x:V),xs[i]?=some x->∃ p,ks[i]?=some (.ref p)/\H p=some (.tup [.int (kf i).1,.str (kf i).2])
theorem KeysIn.nil :KeysIn kf H [] []:=⟨rfl,λi x e=>by simp at e⟩
theorem KeysIn.snoc {H':Hp}{xs:List V}{x:V}{p:Addr}(h:KeysIn kf H xs ks)(g:Grow H H')(e:H' p=some (.tup [.int (kf xs.length).1,.str (kf xs.length).2])):KeysIn kf H' (xs++[x]) (ks++[.ref p]):=by
 refine ⟨by rw [yN,yN,h.len];rfl,λi y q=>?_⟩;by_cases hi:i<xs.length
 ·rw [yb hi] at q;obtain ⟨a,e1,e2⟩:=h.at_ i y q;exact ⟨a,by rw [yb (by rw [h.len];exact hi)];exact e1,g _ _ e2⟩
 ·rw [yn (by omega)] at q;have hz:i-xs.length=0:=by
   cases hd:i-xs.length with
   |zero=>rfl
   |succ k=>rw [hd] at q;simp at q
  rw [hz] at q;simp at q;have hi':i=xs.length:=by omega
  refine ⟨p,?_,by rw [hi'];exact e⟩;rw [yn (by rw [h.len];omega),h.len,hz];rfl
structure jg (X:Cx)(pins:List (Addr×Obj))(b:Addr):Prop where
 s0:X.s₀.heap.objs.size<=b
 nL:b≠X.env.locals
 nC:∀ x c,X.env.cells.lookup x=some c->c≠b
 nP:∀ p∈X.pn++pins,p.1≠b
 nS:b∉frs X.stack
section
variable {X:Cx}{pins:List (Addr×Obj)}{σ:St}{H:Hp}{s:Shared}{h':Heap}{b:Addr}
theorem Inv.mine (I:Inv X pins σ H s)(h:s.heap.objs.size<=b):jg X pins b where
 s0:=ym I.sz h
 nL:=tY (yE I.lt h)
 nC:=λx c e=>by
  obtain ⟨v,o,e1,_⟩:=I.cell x c e;exact yL (yE (yQ e1) h)
 nP:=λp hp=>yL (yE (yQ (I.pin p hp).1) h)
 nS:=λz=>by
  rcases yH.mp (I.stkSub b z) with q|q
  ·exact absurd q (tY (yE I.lt h))
  ·exact I.nofs h q
theorem Inv.turn {t':Nat}(I:Inv X pins σ H s)(m:jg X pins b)(hn:H b=none)(k:∀ c o,c≠b->s.heap.get? c=some o->h'.get? c=some o):Inv X pins σ H { s with heap:=h',toks:=t' } :=
 I.turned k hn m.nL (.inr m.s0) m.nC m.nP
theorem QD {h:Heap}{a c:Addr}{g:Array Value->Array Value}{o:Obj}(n:c≠a)(e:h.get? c=some o):(h.update a (Obj.mapSeq g)).get? c=some o:=(Heap.get?_update_ne _ _ _ _ n).trans e
end
section
variable {X:Cx}{pins:List (Addr×Obj)}{σ:St}{H:Hp}{s:Shared}{A2:Around}{D kS f:Addr}{e1:Nat}{xs:List V}{us:List Value}{kf:Nat->Int×Str}{P:PySem.Fin->Shared->Prop}{E:Value->Shared->Prop}
def Uq (X:Cx)(pins:List (Addr×Obj))(σ:St)(H:Hp)(kf:Nat->Int×Str)(D:Addr)(xs:List V)(R:Shared->Prop):Prop:=∀(l:List Nat)(out:List Value)(H':Hp)(s':Shared)(e':Nat),Inv X pins σ H' s'->Grow H H'->H' D=none ->
 s'.heap.get? D=some (seqObj "list" out.toArray e')->l.Perm (List.range xs.length)->Vals (l.map λi=>xs.getD i .non) out->l.Pairwise (λa b=>u7 (kf b) (kf a)=false)->R s'
theorem Cu {st:SortSt}{out:List Value}(I:Inv X pins σ H1 s1)(mD:jg X pins D)(mK:jg X pins kS)(ne:D≠kS)(nD:H1 D=none)(nK:H1 kS=none)(hD:s1.heap.get? D=some (seqObj "list" #[] e1))(hk:s1.heap.get? kS=some (seqObj "list" ks.toArray e))(hout:(arrOf st).map (·.2)=out.toArray)(hz:out.length<64)(hkz:ks.length<64)(hf:failedOf st=none)(h:∀ (h':Heap) (e':Nat),Inv X pins σ H1 { s1 with heap:=h' }->h'.get? D=some (seqObj "list" out.toArray e')->P (.done (.ret .none)) { s1 with heap:=h' }):wpAny (model X.prog X.w) A2 (ksk_tail D false e1 (.ref kS) st) P E s1:=by
 have hD1:(s1.heap.update kS (Obj.mapSeq λ_=>(#[]:Array Value))).get? D=some (seqObj "list" #[] e1):=QD ne hD;obtain ⟨c2,hc2⟩:∃ c2,((s1.heap.update kS (Obj.mapSeq λ_=>(#[]:Array Value))).update D (Obj.mapSeq λ_=>out.toArray)).get? D=some (seqObj "list" out.toArray c2):=⟨_,get?_update_seq hD1 λ_=>out.toArray⟩;have I1:=I.turn (t':=s1.toks) mK nK (h':=s1.heap.update kS (Obj.mapSeq λ_=>(#[]:Array Value))) λc o n q=>QD n q;have I2:=I1.turn (t':=s1.toks) mD nD (h':=(s1.heap.update kS (Obj.mapSeq λ_=>(#[]:Array Value))).update D (Obj.mapSeq λ_=>out.toArray)) λc o n q=>QD n q;unfold ksk_tail
 dsimp only
 rw [hout];refine yR (listUpdate_at hk rfl ?_ (by rw [yX,sizeLine_eq];omega) (uY _));refine yR (wpAny_letGo ?_);refine yR (seqEpoch_at hD1 rfl ?_);refine yR (listUpdate_at hD1 rfl ?_ (uY _) (by show out.toArray.size<=_;rw [yX,sizeLine_eq];omega));rw [hf];simp only [bne_self_eq_false,Bool.false_eq_true,if_false];exact yx (h _ c2 I2 hc2)
end
section
variable {X:Cx}{pins:List (Addr×Obj)}{σ:St}{H:Hp}{s:Shared}{A2:Around}{D kS f:Addr}{e1:Nat}{xs:List V}{us:List Value}{kf:Nat->Int×Str}{P:PySem.Fin->Shared->Prop}{E:Value->Shared->Prop}
theorem Uc:∀{xs:List V}{us:List Value}{i:Nat},Vals xs us->i<xs.length->RelV (xs.getD i .non) (us.getD i Value.none)
 |_,_,i,.nil,h=>by simp at h
 |_,_,0,.cons r _,_=>r
 |_,_,i+1,.cons _ q,h=>by
  have:=Uc (i:=i) q (by simpa using h);simpa using this
theorem CJ {xs:List V}{us:List Value}(rv:Vals xs us):∀{l:List Nat},(∀ i∈l,i<xs.length)->Vals (l.map λi=>xs.getD i .non) (l.map λi=>us.getD i Value.none)
 |[],_=> .nil
 |i::l,h=> .cons (Uc rv (h i yU)) (CJ rv λj hj=>h j (yW _ hj))
theorem VT {α:Type}{d:α}:∀ xs:List α,(List.range xs.length).map (λi=>xs.getD i d)=xs:=λxs=>by
 apply List.ext_getElem?;intro i;rw [yP];by_cases h:i<xs.length
 ·rw [List.getElem?_range h,yY h];simp [h]
 ·rw [uU (by simpa using h),uU (by simpa using h)];rfl
theorem end_K (I:Inv X pins σ H1 s1)(mD:jg X pins D)(mK:jg X pins kS)(ne:D≠kS)(nD:H1 D=none)(nK:H1 kS=none)(hD:s1.heap.get? D=some (seqObj "list" #[] e1))(hk:s1.heap.get? kS=some (seqObj "list" ks.toArray e))(rv:Vals xs us)(hK:KeysIn kf H1 xs ks)(h64:xs.length<64)(h:∀ (l:List Nat) (out:List Value) (h':Heap) (e':Nat),Inv X pins σ H1 { s1 with heap:=h' }->h'.get? D=some (seqObj "list" out.toArray e')->l.Perm (List.range xs.length)->Vals (l.map λi=>xs.getD i .non) out->l.Pairwise (λa b=>u7 (kf b) (kf a)=false)->P (.done (.ret .none)) { s1 with heap:=h' }):wpAny (model X.prog X.w) A2 (ksk_end D false us.toArray e1 (.ref kS) ks.toArray) P E s1:=by
 have hul:us.length=xs.length:=rv.length.symm;have hkl:ks.length=us.length:=by rw [hK.len,hul]
 unfold ksk_end
 dsimp only
 simp only [Bool.false_eq_true,if_false];by_cases h2:us.toArray.size<2
 ·rw [if_pos h2,if_pos h2];refine yR (yx ?_);refine yR (yx ?_);refine Cu (out:=us) (ks:=ks) I mD mK ne nD nK hD hk ?_ (by omega) (by omega) rfl λh' e' I' hd=>h (List.range xs.length) us h' e' I' hd (.refl _) (by rw [VT];exact rv) ?_
  ·show ((ks.toArray.zip us.toArray)).map (·.2)=us.toArray;apply Array.toList_inj.mp;rw [Array.toList_map,ksk_zip];exact List.map_snd_zip (by simp;omega)
  ·have hx:xs.length<2:=by rw [yX] at h2;omega
   have hr:xs.length=0∨xs.length=1:=by omega
   rcases hr with z|z
   ·rw [z];exact List.Pairwise.nil
   ·rw [z];exact List.pairwise_singleton _ _
 ·rw [if_neg h2,if_neg h2];have h2':2<=us.length:=by rw [yX] at h2;omega
  have tup:∀ i,i<xs.length->∃ p ox t u n,ks.getD i Value.none = .ref p/\s1.heap.get? p=some ox/\ox.cls = .type "tuple"/\ox.data = .seq #[.int (kf i).1 t,.str (kf i).2 u] n:=λi hi=>by
   obtain ⟨p,a1,a2⟩:=hK.at_ i (xs.getD i .non) (by rw [yY hi];simp [hi]);obtain ⟨_,its,r,o,e1,e2,n,e3⟩:=I.hok p _ a2;obtain ⟨u1,u2,rfl,z1,z2⟩:=Ub r;obtain ⟨t,rfl⟩:∃ t,u1 = .int (kf i).1 t:=z1;obtain ⟨u,rfl⟩:∃ u,u2 = .str (kf i).2 u:=z2;exact ⟨p,o,t,u,n,by simp [a1],e1,e2,e3⟩
  have kt:∀{l:List Nat},(∀ i∈l,i<xs.length)->∃ fs,PySem.W.KatTups s1.heap (l.map λi=>ks.getD i Value.none) fs/\fs.length=l.length/\∀ v∈fs,∃ i t,v=Value.int i t:=λ{l}=>by
   induction l with
   |nil=>exact λ_=>⟨[],.nil,rfl,λv hv=>by simp at hv⟩
   |cons i l ih =>
    intro hl;obtain ⟨fs,b1,b2,b3⟩:=ih λj hj=>hl j (yW _ hj);obtain ⟨p,ox,t,u,n,c1,c2,c3,c4⟩:=tup i (hl i yU);refine ⟨Value.int (kf i).1 t::fs,?_,by rw [yF,yF,b2],λv hv=>?_⟩
    ·rw [yO,c1];exact .cons c2 c3 c4 rfl b1
    ·rcases yH.mp hv with z|z
     ·exact ⟨_,_,z⟩
     ·exact b3 v z
  obtain ⟨fs,f1,f2,f3⟩:=kt (l:=List.range ks.length) λi hi=>by rw [yu,hK.len] at hi;exact hi
  rw [VT] at f1;rw [uZ] at f2;refine yR (PySem.W.kat_kind (T:= .type "int") f1 (by omega) (λv hv=>?_) rfl ?_)
  ·obtain ⟨i,t,rfl⟩:=f3 v hv;exact .now
  have O:=Qj λi=>kf i;refine yR (wpAny_mono (PySem.W.kat_run (vs:=us) (ks:=ks) (Q:=λst' s'=>s'=s1/\∃ p:Array Nat,p.Perm (List.toArray (List.range us.length))/\p.size=us.length/\(∀ i j,i<=j->j<us.length->u7 (kf (p.getD j 0)) (kf (p.getD i 0))=false)/\arrOf st'=p.map (PySem.W.kas_item (ks.toArray.zip us.toArray))/\failedOf st'=none)
   (G:=λp s'=>s'=s1/\p.Perm (List.toArray (List.range us.length))/\p.size=us.length/\∀ i j,i<=j->j<us.length->u7 (kf (p.getD j 0)) (kf (p.getD i 0))=false) hkl h2' (by omega)
   (λp st' s' z1 z2 z3 z4=>⟨z4.1,p,z4.2.1,z4.2.2.1,z4.2.2.2,z2,z3⟩)
   (Ka.sort_wp O (by omega) (λi j C hi hj hC=>?_) λp z1 z2 z3=>⟨rfl,z1,z2,z3⟩)) (λr s' hr=>?_) λ_ _ z=>z)
  ·obtain ⟨p,ox,t,u,n,c1,c2,c3,c4⟩:=tup i (by omega);obtain ⟨q,oy,t',u',m,d1,d2,d3,d4⟩:=tup j (by omega);show wpAny _ _ (keyLt' _ (ks.getD i Value.none) (ks.getD j Value.none)) C _ _;rw [c1,d1];exact SG c2 c4 d2 d4 hC
  ·obtain ⟨⟨⟩,st⟩:=r;obtain ⟨rfl,p,q1,q2,q3,q4,q5⟩:=hr
   dsimp only
   have pl:p.toList.Perm (List.range us.length):=Array.perm_iff_toList_perm.mp q1;have lo:∀ i∈p.toList,i<xs.length:=λi hi=>by
    have:=pl.mem_iff.mp hi;rw [yu] at this;omega
   refine Cu (out:=p.toList.map λi=>us.getD i Value.none) (ks:=ks) I mD mK ne nD nK hD hk (PySem.W.kat_snds hkl q4) (by rw [yZ,ug,q2];omega) (by omega) q5 λh' e' I' hd=>h p.toList _ h' e' I' hd (by rw [<- hul];exact pl) (CJ rv lo) ?_;rw [uo];intro i j hi hj hij;rw [ug,q2] at hi hj;have:=q3 i j (by omega) hj;have gi:∀ k,(hk:k<p.size)->p.getD k 0=p[k]:=λk hk=>by simp [Array.getD,hk]
   rw [gi i (by omega),gi j (by omega)] at this;simpa using this
end
section
variable {X:Cx}{pins:List (Addr×Obj)}{σ:St}{H:Hp}{s:Shared}{A2:Around}{D kS f:Addr}{e1:Nat}{xs:List V}{us:List Value}{kf:Nat->Int×Str}{P:PySem.Fin->Shared->Prop}{E:Value->Shared->Prop}
def JF (X:Cx)(pins:List (Addr×Obj))(σ:St)(H:Hp)(A2:Around)(f:Addr)(kf:Nat->Int×Str)(xs:List V):Prop:=∀(H':Hp)(s':Shared)(i:Nat)(x:V)(u:Value),xs[i]?=some x->RelV x u->Inv X pins σ H' s'->Grow H H' ->
 wpAny (model X.prog X.w) A2 (call (.ref f) [u]) (λu' s''=>CE X.stack X.prog X.w H' s' (λv H''=>Grow H' H''/\∃ p,v = .ref p/\H'' p=some (.tup [.int (kf i).1,.str (kf i).2])) u' s'') (λ_ _=>False) s'
theorem Tc (I:Inv X pins σ H s)(mD:jg X pins D)(mK:jg X pins kS)(ne:D≠kS)(nD:H D=none)(nK:H kS=none)(hD:s.heap.get? D=some (seqObj "list" #[] e1))(hk:s.heap.get? kS=some (seqObj "list" #[] 0))(rv:Vals xs us)(h64:xs.length<64)(hkey:JF X pins σ H A2 f kf xs)(h:Uq X pins σ H kf D xs λs'=>P (.done (.ret .none)) s'):wpAny (model X.prog X.w) A2 (ksk_rest D (.ref f) false us.toArray e1 (.ref kS)) P E s:=by
 have hul:us.length=xs.length:=rv.length.symm;unfold ksk_rest;refine yR (wpAny_rule ?_)
 first
  |rw [List.forIn_toArray]
  |(rw [<- Array.forIn_toList];simp only [List.toList_toArray])
 refine yR (ksk_fold (λj s'=>∃ (H':Hp) (ks:List Value) (e:Nat),Inv X pins σ H' s'/\Grow H H'/\H' D=none/\H' kS=none/\s'.heap.get? D=some (seqObj "list" #[] e1)/\s'.heap.get? kS=some (seqObj "list" ks.toArray e)/\KeysIn kf H' (xs.take j) ks) us 0 s
  ⟨H,[],0,I,.refl,nD,nK,hD,hk,by rw [List.take_zero];exact .nil⟩ (λj u s' hu hI=>?_) λs' hI=>?_)
 ·rw [Nat.zero_add] at hI ⊢;obtain ⟨H',ks,e,I',g,n1,n2,d1,d2,kk⟩:=hI;have hj:j<us.length:=by
   rcases ui j us.length with z|z
   ·exact z
   ·rw [uU z] at hu;cases hu
  obtain ⟨x,hx,rx⟩:∃ x,xs[j]?=some x/\RelV x u:=by
   have z:=Uc (i:=j) rv (by omega);refine ⟨xs.getD j .non,by rw [yY (by omega)];simp [show j<xs.length by omega],?_⟩;have e2:us.getD j Value.none=u:=by simp [hu]
   rw [e2] at z;exact z
  have lk:ks.length<64:=by rw [kk.len,uW];omega
  refine yR (wpAny_attempt (wpAny_mono (hkey H' s' j x u hx rx I' g) (λu' s'' ce=>?_) λ_ _ z=>z.elim));have ep:=I'.after ce;obtain ⟨v,H'',os,bare,un,hok,r,g2,p,rfl,hp⟩:=ce;obtain rfl:u'=Value.ref p:=r;have I'':Inv X pins σ H'' s'':=by obtain ⟨hh,gg,dd,tt,os'⟩:=s'';obtain rfl:os'=s'.os:=os;exact I'.call (h':=hh) (g':=gg) (d':=dd) (t':=tt) (ch:=[]) un hok bare (λb z=>absurd z (by simp))
  have d1':=un.keep D _ d1 n1 mD.nS (by simp);have d2':=un.keep kS _ d2 n2 mK.nS (by simp);have n1':=un.free D _ d1 n1 (by simp);have n2':=un.free kS _ d2 n2 (by simp);have ea:ks.toArray.push (.ref p)=(ks++[Value.ref p]).toArray:=by simp
  obtain ⟨c2,hc2⟩:∃ c2,(s''.heap.update kS (Obj.mapSeq (·.push (Value.ref p)))).get? kS=some (seqObj "list" (ks++[Value.ref p]).toArray c2):=⟨_,by rw [<- ea];exact get?_update_seq d2' (·.push (Value.ref p))⟩
  dsimp only
  refine yR (listUpdate_at d2' rfl ?_ (by rw [yX,sizeLine_eq];omega) (by show (ks.toArray.push (Value.ref p)).size<=_;rw [Array.size_push,yX,sizeLine_eq];omega));refine yx ⟨rfl,H'',ks++[Value.ref p],c2,I''.turn (t':=s''.toks) mK n2' λc o n q=>QD n q,g.trans g2,n1',n2',QD ne d1',hc2,?_⟩;have et:xs.take (j+1)=xs.take j++[x]:=by rw [List.take_add_one,hx];rfl
  rw [et];exact kk.snoc g2 (by rw [uW,Nat.min_eq_left (by omega)];exact hp)
 ·rw [Nat.zero_add] at hI;obtain ⟨H',ks,e,I',g,n1,n2,d1,d2,kk⟩:=hI;rw [hul,tS] at kk;refine yR (listItems_at d2 rfl ?_);exact end_K I' mD mK ne n1 n2 d1 d2 rv kk h64 λl out h' e' J hd p r q=>h l out H' _ e' J g n1 hd p r q
theorem SD (I:Inv X pins σ H s)(mD:jg X pins D)(nD:H D=none)(hD:s.heap.get? D=some (seqObj "list" us.toArray n))(rv:Vals xs us)(h64:xs.length<64)(hkey:JF X pins σ H A2 f kf xs)(h:Uq X pins σ H kf D xs λs'=>P (.done (.ret .none)) s'):wpAny (model X.prog X.w) A2 (ksk_tree D (.ref f) false) P E s:=by have hul:us.length=xs.length:=rv.length.symm;obtain ⟨e1,hD1⟩:∃ e1,(s.heap.update D (Obj.mapSeq λ_=>(#[]:Array Value))).get? D=some (seqObj "list" #[] e1):=⟨_,get?_update_seq hD λ_=>#[]⟩;have I1:=I.turn (t':=s.toks) mD nD (h':=s.heap.update D (Obj.mapSeq λ_=>(#[]:Array Value))) λc o n q=>QD n q;have k2:∀ b o,(s.heap.update D (Obj.mapSeq λ_=>(#[]:Array Value))).get? b=some o->((s.heap.update D (Obj.mapSeq λ_=>(#[]:Array Value))).push (seqObj "tuple" us.toArray 0)).get? b=some o:=λb o e=>yT _ e;have I2:=I1.kept (t':=s.toks) k2;have k3:∀ b o,((s.heap.update D (Obj.mapSeq λ_=>(#[]:Array Value))).push (seqObj "tuple" us.toArray 0)).get? b=some o->(((s.heap.update D (Obj.mapSeq λ_=>(#[]:Array Value))).push (seqObj "tuple" us.toArray 0)).push (seqObj "list" #[] 0)).get? b=some o:=λb o e=>yT _ e;have I3:=I2.kept (t':=s.toks) k3;have mK:=I2.mine (b:=((s.heap.update D (Obj.mapSeq λ_=>(#[]:Array Value))).push (seqObj "tuple" us.toArray 0)).objs.size) (yV _);have nK:=I2.hok.fresh (a:=((s.heap.update D (Obj.mapSeq λ_=>(#[]:Array Value))).push (seqObj "tuple" us.toArray 0)).objs.size) (yV _);unfold ksk_tree;refine yR (listItems_at hD rfl ?_);refine yR (listUpdate_at hD rfl ?_ (by rw [yX,sizeLine_eq];omega) (uY _));refine yR (seqEpoch_at hD1 rfl ?_);refine yR (wpAny_newTuple ?_ (by show us.length<=_;rw [sizeLine_eq];omega));refine yR (wpAny_newList ?_ (uY _));refine wpAny_holding ?_;exact Tc (s:={ s with heap:=((s.heap.update D (Obj.mapSeq λ_=>(#[]:Array Value))).push (seqObj "tuple" us.toArray 0)).push (seqObj "list" #[] 0) }) I3 mD mK (yL (yQ (k2 _ _ hD1))) nD nK (k3 _ _ (k2 _ _ hD1)) (yD _ rfl) rv h64 hkey h
end
section
variable {X:Cx}{pins:List (Addr×Obj)}{σ:St}{H:Hp}{s:Shared}{a f:Addr}{xs:List V}{kf:Nat->Int×Str}{Q:VK}{E:Value->Shared->Prop}
theorem DR (I:Inv X pins σ H s)(hl:SqL X.K H a xs)(h64:xs.length<64)(hkey:JF X pins σ H X.A.in1.in1 f kf xs)(h:∀ (D:Addr) (l:List Nat) (H':Hp),Grow H H'->H' D=none->l.Perm (List.range xs.length)->l.Pairwise (λa b=>u7 (kf b) (kf a)=false)->Q (.ref D) (v9 H' D (.lst (l.map λi=>xs.getD i .non)))):wpAny (model X.prog X.w) X.A (call (.builtin "sorted") [.ref a] [(Str.ofString "key",.ref f)]) (EP X pins σ Q) E s:=by
 obtain ⟨us,rv,p,hz⟩:=I.list hl;have hul:us.length=xs.length:=rv.length.symm;refine call_function_entry_kw kind_sorted plain_sorted entry_sorted (ksk_s1 _ _) ?_;unfold Builtin.«sorted»;refine yR (m:=checkCount "sorted" 1 1 _) (yx ?_);refine yR (collect_list p.isList ?_ (by rw [sizeLine_eq];omega));refine yR (wpAny_newList ?_ (by rw [sizeLine_eq];omega));have keep:∀ b o,s.heap.get? b=some o->((s.heap.push (seqObj "list" #[] 0)).update s.heap.objs.size (Obj.mapSeq (·++us.toArray))).get? b=some o:=λb o q=>by
  rw [Heap.get?_update_ne _ _ _ _ (yL (yQ q))];exact yT _ q
 have I1:=I.kept (t':=s.toks) keep;have k2:∀ b o,((s.heap.push (seqObj "list" #[] 0)).update s.heap.objs.size (Obj.mapSeq (·++us.toArray))).get? b=some o->(((s.heap.push (seqObj "list" #[] 0)).update s.heap.objs.size (Obj.mapSeq (·++us.toArray))).push (seqObj "list" us.toArray 0)).get? b=some o:=λb o e=>yT _ e;have I2:=I1.kept (t':=s.toks) k2;have mD:=I1.mine (b:=((s.heap.push (seqObj "list" #[] 0)).update s.heap.objs.size (Obj.mapSeq (·++us.toArray))).objs.size) (yV _);have nD:=I1.hok.fresh (a:=((s.heap.push (seqObj "list" #[] 0)).update s.heap.objs.size (Obj.mapSeq (·++us.toArray))).objs.size) (yV _);have hoL:(((s.heap.push (seqObj "list" #[] 0)).update s.heap.objs.size (Obj.mapSeq (·++us.toArray))).push (seqObj "list" us.toArray 0)).get? ((s.heap.push (seqObj "list" #[] 0)).update s.heap.objs.size (Obj.mapSeq (·++us.toArray))).objs.size=some (seqObj "list" us.toArray 0):=yD _ rfl;refine yR (wpAny_holding (wpAny_call_entry_kw slot_list_sort (s:={ s with heap:=((s.heap.push (seqObj "list" #[] 0)).update s.heap.objs.size (Obj.mapSeq (·++us.toArray))).push (seqObj "list" us.toArray 0) }) ⟨_,hoL,rfl⟩ entry_list_sort ?body (ksk_l1 _ _)));show wpAny (model X.prog X.w) X.A.in1.in1 (Builtin.«list.sort» ⟨[.ref _],[(Str.ofString "key",.ref f)]⟩) _ _ _;rw [ksk_t1];refine SD (s:={ s with heap:=((s.heap.push (seqObj "list" #[] 0)).update s.heap.objs.size (Obj.mapSeq (·++us.toArray))).push (seqObj "list" us.toArray 0) }) (kf:=kf) I2 mD nD hoL rv h64 hkey λl out H' s' e' J g n hd pm r pw=>⟨_,rfl,yx ⟨_,rfl,.ref _,_,J.track mD.s0 n mD.nL mD.nC mD.nP (o:= .lst (l.map λi=>xs.getD i .non)) ?_,rfl,h _ l H' g n pm pw⟩⟩;exact ⟨by rw [yZ,pm.length_eq,uZ];exact hz,out,e',r,hd⟩
end
end L2
namespace L2
open PySem PySem.Spec PySem.Calls PyProof.Rows
variable{x:Str}{K:Fg}
section
variable {P:Program}{w:World}{K:Fg}{mg:Str->Option Value}{base:Heap}
theorem Fun.okC {qual:Str}{st:Stmt}{f:Addr}{fd:FuncData}{N ps:List Str}{k:Nat}{sp:Sp}(F:Fun K x qual st f fd)(S:y4 N ps (j7 st))(len:∀ vs H Q E,sp vs H Q E->vs.length=ps.length)(hbody:∀(A:Around)(outer:List Env)(s:Shared)(H:Hp)(vs:List V)(Q:VK)(E:XK),Room k (A.deeper (envOfC qual (j7 st) s.heap.objs.size f fd.code))->sp vs H Q E -> ∃ t,PSs (xz v6 P w K mg base N qual (j7 st) f fd.code A outer s H E).nox (qo st) t/\t { nx:=λ_ H'=>Q .non H',rt:=Q } (start N vs) H):FnOk P w K mg base v6 (k+1) f fd ps sp:=by obtain ⟨oc,od,kV,doc,pm,an,cdv,ct,osl,rfl,lk,hcd⟩:=F.ex;refine Vl lk hcd S len λA outer s H vs Q E hr hsp=>?_;obtain ⟨t,h,q⟩:=hbody A outer s H vs Q E hr hsp;exact ⟨t,h.nox,q⟩
end
theorem SqL.grow {H H':Hp}{a:Addr}{xs:List V}(h:SqL K H a xs)(g:Grow H H'):SqL K H' a xs:=by
 rcases h with (h|⟨o,h⟩)|h
 ·exact .inl (.inl (g _ _ h))
 ·exact .inl (.inr ⟨o,g _ _ h⟩)
 ·exact .inr h
section
variable {X:Cx}
def Cq (K:Fg)(fi:List Nat)(t:TA)(tb:TE):TE:=λσ H Q=>t σ H λvs H1=>∃(a:Addr)(xs:List V)(kf:Nat->Int×Str)(cv:List V),vs=[.ref a]/\(fi.map λi=>σ[i]?)=cv.map (λv=>some (some v))/\SqL K H1 a xs/\xs.length<64 /\
 (∀(i:Nat)(x:V),xs[i]?=some x->∀(H':Hp)(Q':VK),Grow H1 H'->(∀ p H'',Grow H' H''->H'' p=some (.tup [.int (kf i).1,.str (kf i).2])->Q' (.ref p) H'')->tb (([x]++cv).map some) H' Q') /\
 ∀(D:Addr)(l:List Nat)(H':Hp),Grow H1 H'->H' D=none->l.Perm (List.range xs.length)->l.Pairwise (λa b=>u7 (kf b) (kf a)=false)->Q (.ref D) (v9 H' D (.lst (l.map λi=>xs.getD i .non)))
structure Zd (X:Cx)(scope:Scope)(clos:List (Str×Addr))(fr:List Str)(fi:List Nat):Prop where
 len:fi.length=fr.length
 at_:∀(j:Nat)(y:Str)(i:Nat),fr[j]?=some y->fi[j]?=some i->X.N[i]?=some y/\X.env.kindOf y=some .cell/\scope.names.lookup y=some .free/\Vis X.env.scope y
 sub:∀ y c,clos.lookup y=some c->X.env.cells.lookup y=some c
 has:∀ y c,y∈fr->X.env.cells.lookup y=some c->clos.lookup y=some c
theorem Rp {e body:Expr}{t:TA}{tb:TE}{p pos kp lp:Pos}{params:Arguments}{scope:Scope}{c Pt:Addr}{ps:Array Value}{wt:List (Pos×Str)}{k:Nat}{clos:List (Str×Addr)}{fr:List Str}{fi:List Nat}(hK:X.K=K)(hr:Room (k+3) X.A)(hg:Gl X "sorted")(hm:X.mg "sorted"=none)(ha:PA X [e] t)(hP:(Pt,ps,wt)∈TABS)(hw:(lp,X.env.qual ++ "<lambda>")∈wt)(hu:∀ p∈wt,(p.1.line==lp.line&&p.1.col==lp.col)=true->p.2=X.env.qual ++ "<lambda>")(hcode:X.env.code = .ref c)(hC:∀ h:Heap,X.K.In h->PySem.W.CodeHd h c Pt)(S:wD [x] fr scope)(LF:Zd X scope clos fr fi)(hb:∀ (f c':Addr) (s:Shared) (H:Hp),Room k (X.A.in1.in1.deeper (PySem.W.envX (X.env.qual ++ "<lambda>") scope s.heap.objs.size f (.ref c') clos))->PE (jV X.prog X.w X.K X.mg X.base ([x]++fr) (X.env.qual ++ "<lambda>") scope f c' clos X.A.in1.in1 X.stack s H) body tb)(hbd:∀ (qual:Str) (pm cdv ctv u:Value),bindArgs (PySem.W.kla_fn "<lambda>" qual params body scope clos pm cdv ctv) ⟨[u],[]⟩=pure [(x,u)])(hcl:closureFor scope X.env=pure clos:=by rfl)(hdef:defaultsOf params X.env=([],[]):=by rfl)(hs:backTo pos (starEach [e] X.env)=(false,eval e X.env)::backTo pos (starEach [] X.env):=by rfl)(hpl:(backTo pos (starEach [e] X.env)).any (·.1)=false:=by rfl):PE X (.Call (.Name "sorted" p) [e] [⟨some "key",.Lambda params body scope lp,kp⟩] pos) (Cq K fi t tb):=by
 subst hK;intro pins s σ H Q I h;refine wpAny_Call_Name_kw (va I hg hm Zp ?_ (by decide) (by decide));refine PyProof.Rows.callWith_kw (j6 (ha pos pins s σ H _ I h) λus s1 ⟨vs,H1,I1,r1,q1⟩=>?_) hs hpl;obtain ⟨a,xs,kf,cv,rfl,hcv,hq,h64,qk,qe⟩:=q1;obtain ⟨u,rfl,ru⟩:=zq r1;obtain rfl:u=Value.ref a:=ru;refine PyProof.Rows.kws_cons (Bg I1 hP hw hu hcode (hC _ I1.mod.kin) hcl hdef λf c' oc vs tq ctv H' h' tk I2 g _ hf hc hd hv=>PyProof.Rows.kws_nil ?_);show wpAny _ _ (call (.builtin "sorted") [.ref a] [(Str.ofString "key",Value.ref f)]) _ _ _;refine DR I2 (hq.grow g) h64 (kf:=kf) (λH3 s3 i3 x3 u3 hx rx I3 g3=>?_) λD l H3 g3 n pm pw=>qe D l H3 (Grow.trans g g3) n pm pw;obtain ⟨hf3,_⟩:=I3.hok f _ (g3 _ _ hf);obtain ⟨hc3,_⟩:=I3.hok c' _ (g3 _ _ hc);have room:=hr.in1.in1;have lcv:cv.length=fr.length:=by have z:=congrArg List.length hcv;rw [yZ,yZ] at z;rw [<- z,LF.len]
 refine wpAny_call (codeAny_mono (Bf (vs:=[x3]) (cv:=cv) (t:=tb) (E:=λ_ _ _=>False) (Q:=λv H''=>Grow H3 H''/\∃ p,v = .ref p/\H'' p=some (.tup [.int (kf i3).1,.str (kf i3).2])) S room.depth room.hd I3.env0.in1.in1 hf3 ⟨c',oc,vs,tq,rfl,hc3,hd,hv⟩ (hbd _ _ _ _ _) rfl (.cons rx .nil)
  (λy z d e1 e2=>I3.ok.inj y z d (LF.sub y d e1) (LF.sub z d e2)) (λy d e1=>⟨I3.cell y d (LF.sub y d e1),I3.freeC y d (LF.sub y d e1)⟩) lcv
  (λj y v e1 e2=>?_) (hb f c' s3 H3 (room.deeper _)) (qk i3 x3 hx H3 _ (Grow.trans g g3) λp H'' g4 hp=>⟨g4,p,rfl,hp⟩)) λr s' z=>?_)
 ·have hj:j<fi.length:=by
   rw [LF.len];rcases ui j fr.length with q|q
   ·exact q
   ·rw [uU q] at e1;cases e1
  obtain ⟨n1,n2,n3,n4⟩:=LF.at_ j y fi[j] e1 (yY hj);have es:σ[fi[j]]?=some (some v):=by have z:=congrArg (λl=>l[j]?) hcv;simp only [yP,e2,yY hj,uK,Option.some.injEq] at z;exact z
  obtain ⟨m,_,lk⟩:=I3.loc;obtain ⟨u,rv,look⟩:=lk fi[j] y v n1 es n4;refine ⟨n3,?_⟩;rcases look with ⟨q,_⟩|⟨_,d,q1,q2⟩
  ·rw [n2] at q;cases q
  ·exact ⟨d,u,LF.has y d (yh e1) q1,q2,rv⟩
 ·cases r with
  |error e=>exact z.elim
  |ok fl =>
   cases fl with
   |ret u=>exact z
   |next=>exact False.elim z
   |brk=>exact False.elim z
   |cont=>exact False.elim z
end
end L2
namespace Mi
open PySem L2
def VB:PV->Option (Int×Str)
 | .tup [.at (.int i),.at (.str n)]=>some (i,n)
 |_=>none
theorem LH {y:PV}{k:Int×Str}(h:VB y=some k):y = .tup [.at (.int k.1),.at (.str k.2)]:=by
 unfold VB at h;split at h
 ·cases h;rfl
 ·cases h
def vQ (kb:PV->Option PV):List PV->Option (List (Int×Str))
 |[]=>some []
 |x::xs=>((kb x).bind VB).bind λk=>(vQ kb xs).map (k::·)
theorem Ba {kb:PV->Option PV}:∀{xs:List PV}{ks:List (Int×Str)},vQ kb xs=some ks->ks.length=xs.length
 |[],ks,h=>by cases h;rfl
 |x::xs,ks,h=>by
  obtain ⟨k,_,h2⟩:=uR.mp h;obtain ⟨r,h3,rfl⟩:=yM.mp h2;rw [yF,yF,Ba h3]
theorem KZ {kb:PV->Option PV}:∀{xs:List PV}{ks:List (Int×Str)}{i:Nat}{x:PV},vQ kb xs=some ks->xs[i]?=some x->∃ k,ks[i]?=some k/\kb x=some (.tup [.at (.int k.1),.at (.str k.2)])
 |[],_,_,_,_,e=>by simp at e
 |y::xs,ks,0,x,h,e=>by
  obtain ⟨k,h1,h2⟩:=uR.mp h;obtain ⟨r,h3,rfl⟩:=yM.mp h2;obtain ⟨z,h4,h5⟩:=uR.mp h1;simp at e;subst e;exact ⟨k,rfl,by rw [h4,LH h5]⟩
 |y::xs,ks,i+1,x,h,e=>by
  obtain ⟨k,h1,h2⟩:=uR.mp h;obtain ⟨r,h3,rfl⟩:=yM.mp h2;obtain ⟨k',a,b⟩:=KZ (i:=i) h3 (by simpa using e);exact ⟨k',by simpa using a,b⟩
def qN (ks:List (Int×Str))(i:Nat):Int×Str:=ks.getD i (0, "")
def leI (ks:List (Int×Str))(a b:Nat):Bool:=!u7 (qN ks b) (qN ks a)
def vA (ks:List (Int×Str)):List Nat:=(List.range ks.length).mergeSort (leI ks)
theorem XR (ks:List (Int×Str)):(vA ks).Perm (List.range ks.length):=List.mergeSort_perm _ _
theorem PY (ks:List (Int×Str)):(vA ks).Pairwise λa b=>u7 (qN ks b) (qN ks a)=false:=by
 have O:=Qj (qN ks);have:=List.pairwise_mergeSort (le:=leI ks) (λa b c h1 h2=>by
  unfold leI at h1 h2 ⊢;simp only [Bool.not_eq_true'] at h1 h2 ⊢;exact Ka.le_trans (lt:=λi j=>u7 (qN ks i) (qN ks j)) O (a:=a) (b:=b) (c:=c) h1 h2) (λa b=>by
  unfold leI;cases h:u7 (qN ks b) (qN ks a) with
  |false=>rfl
  |true =>
   have h2:u7 (qN ks a) (qN ks b)=false:=Ka.le_of_lt (lt:=λi j=>u7 (qN ks i) (qN ks j)) O (a:=b) (b:=a) h;rw [h2];rfl) (List.range ks.length)
 exact this.imp λh=>by unfold leI at h;simpa using h
theorem VP {p q:Int×Str}(h1:u7 p q=false)(h2:u7 q p=false):p=q:=by
 have n1:¬ (p.1<q.1∨(p.1=q.1/\p.2.cps.toList<q.2.cps.toList)):=λz=>by rw [ltK_iff.mpr z] at h1;cases h1
 have n2:¬ (q.1<p.1∨(q.1=p.1/\q.2.cps.toList<p.2.cps.toList)):=λz=>by rw [ltK_iff.mpr z] at h2;cases h2
 have e1:p.1=q.1:=by omega
 have e2:p.2.cps.toList=q.2.cps.toList:=List.le_antisymm (ua.mp λz=>n2 (.inr ⟨e1.symm,z⟩)) (ua.mp λz=>n1 (.inr ⟨e1,z⟩));obtain ⟨i,⟨s⟩⟩:=p;obtain ⟨j,⟨t⟩⟩:=q;cases e1;cases Array.toList_inj.mp e2;rfl
theorem Sv {ks:List (Int×Str)}(nd:ks.Nodup){l:List Nat}(p:l.Perm (List.range ks.length))(u:l.Pairwise λa b=>u7 (qN ks b) (qN ks a)=false):l=vA ks :=
 List.Perm.eq_of_pairwise (λa b ha hb h1 h2=>by
  have la:a<ks.length:=yu.mp (p.mem_iff.mp ha);have lb:b<ks.length:=yu.mp ((XR ks).mem_iff.mp hb);have e:=VP h2 h1;unfold qN at e;simp only [yC,yY la,yY lb,Option.getD_some] at e;have nd':=uo.mp nd;rcases Nat.lt_trichotomy a b with z|z|z
  ·exact absurd e (nd' a b la lb z)
  ·exact z
  ·exact absurd e.symm (nd' b a lb la z)) u (PY ks) (p.trans (XR ks).symm)
def Wd (kb:PV->Option PV):List PV->Option PV
 |[.lst xs]=>(vQ kb xs).bind λks=>if xs.length<64/\ks.Nodup then some (.lst ((vA ks).map λi=>xs.getD i (.at .non))) else none
 |_=>none
theorem Pw {H:Hp}{xs:List PV}{vs:List V}(r:Reps H xs vs):∀{l:List Nat},(∀ i∈l,i<xs.length)->Reps H (l.map λi=>xs.getD i (.at .non)) (l.map λi=>vs.getD i .non)
 |[],_=> .nil
 |i::l,h=>by
  have hi:=h i yU;obtain ⟨v,e1,e2⟩:=r.get (i:=i) (x:=xs.getD i (.at .non)) (by rw [yY hi];simp [hi]);refine .cons ?_ (Pw r λj hj=>h j (yW _ hj));have:vs.getD i .non=v:=by simp [e1]
  show Rep H (xs.getD i (.at .non)) (vs.getD i .non);rw [this];exact e2
section
variable {K:Fg}{t:TA}{tb:TE}{as:MA}{kb:M}
def shs (ε:ME):List Nat->Option (List PV)
 |[]=>some []
 |i::l=>match ε[i]? with
  |some (.sh x)=>(shs ε l).map (x::·)
  |_=>none
theorem PR {Hs0 H0 Hs H:Hp}{σ:St}{ε:ME}(r:RS Hs0 H0 Hs H σ ε):∀{l:List Nat}{cs:List PV},shs ε l=some cs->∃ cv,(l.map λi=>σ[i]?)=cv.map (λv=>some (some v))/\Reps Hs cs cv
 |[],_,h=>by cases h;exact ⟨[],rfl,.nil⟩
 |i::l,cs,h=>by
  unfold shs at h;split at h
  ·rename_i x hx;obtain ⟨r',h2,rfl⟩:=yM.mp h;obtain ⟨v,e1,e2⟩:=r.sh i x hx;obtain ⟨cv,e3,e4⟩:=PR r h2;exact ⟨v::cv,by rw [yO,yO,e1,e3],.cons e2 e4⟩
  ·cases h
def Kj (fi:List Nat)(as:MA)(kb:M):M:=λε=>(shs ε fi).bind λcs=>(as ε).bind (Wd λx=>kb (.sh x::cs.map .sh))
instance {fi:List Nat}[sa:xa t as][sb:SemE tb kb]:xR (Cq K fi t tb) (Kj fi as kb) where
 h:=λ{ε y} h {Hs0 H0 Hs H σ} rs {Q} q=>by
  obtain ⟨cs,h0,h⟩:=uR.mp h;obtain ⟨ys,h1,h2⟩:=uR.mp h;unfold Wd at h2;split at h2
  ·rename_i xs;obtain ⟨ks,h3,h4⟩:=uR.mp h2;split at h4
   ·rename_i hc;cases h4;obtain ⟨cv,ec,rc⟩:=PR rs h0;refine sa.h h1 rs λvs Hs1 H1 x1 r1=>?_;obtain ⟨v,w,rfl,p1,p2⟩:=reps_cons.mp r1;cases reps_nil.mp p2;obtain ⟨a,xv,rfl,e1,e2⟩:=rep_lst.mp p1;have lx:xv.length=xs.length:=e2.length;have lk:ks.length=xs.length:=Ba h3;refine ⟨a,xv,qN ks,cv,rfl,ec,SqL.of (x1.s3 _ _ e1),by omega,λi x hx H' Q' g hq=>?_,λD l H' g n pm pw=>?_⟩
    ·have hi:i<xs.length:=by
      rcases ui i xv.length with z|z
      ·omega
      ·rw [uU z] at hx;cases hx
     obtain ⟨x',e3,e4⟩:=e2.get (i:=i) (x:=xs[i]) (yY hi);rw [hx] at e3;cases e3;obtain ⟨k,e5,e6⟩:=KZ h3 (yY hi);have ek:qN ks i=k:=by unfold qN;simp [e5]
     have st:=vz (N:=List.replicate (([x]++cv).length) "") (xs:=xs[i]::cs) (vs:=x::cv) (show Same Hs1 H' from λb o e=>g b o (x1.s3 b o e)) (.cons e4 (rc.mono x1.s1));have lc:cv.length=cs.length:=rc.length;refine sb.h e6 (σ:=([x]++cv).map some) (Hs0:=Hs1) (H0:=H') (Hs:=Hs1) ?_ λv Hs2 H2 x2 r2=>?_
     ·simpa [L2.start,lc] using st
     ·obtain ⟨p,us,rfl,e7,e8⟩:=rep_tup.mp r2;have e9:=e8;rw [show [PV.at (.int k.1),PV.at (.str k.2)]=[V.int k.1,V.str k.2].map .at from rfl] at e9;cases Reps.ats e9;exact hq p H2 (λb o e=>x2.s2 b o e) (by rw [ek];exact x2.s3 _ _ e7)
    ·have el:l=vA ks:=Sv hc.2 (by rw [lk,<- lx];exact pm) pw;subst el;have nH1:H1 D=none:=by
      cases z:H1 D with
      |none=>rfl
      |some o=>rw [g D o z] at n;cases n
     have nH:H D=none:=x1.s2.free nH1;have nS:Hs1 D=none:=x1.s3.free nH1;refine q D Hs1 _ (x1.trans ⟨.refl _,λb o e=>?_,λb o e=>?_,λ_ _ z=>z⟩) nH nS ⟨_,g0,Pw e2 λi hi=>?_⟩
     ·rw [j9 (g8 (g b o e) n)];exact g b o e
     ·have e':=g b o (x1.s3 b o e);rw [j9 (g8 e' n)];exact e'
     ·have:=yu.mp ((XR ks).mem_iff.mp hi);omega
   ·cases h4
  ·cases h2
end
end Mi
namespace Mi
open PySem L2 PyProof.Rows
section
variable {P:Program}{w:World}{K:Fg}{mg:Str->Option Value}{base:Heap}
theorem okOC {x qual:Str}{st:Stmt}{f:Addr}{fd:FuncData}{N ps:List Str}{k:Nat}{b:MS}{m:List PV->Option PV}(F:Fun K x qual st f fd)(S:y4 N ps (j7 st))(hm:m=qt N.length ps.length b)(hb:∀(A:Around)(outer:List Env)(s:Shared)(H:Hp)(E:XK),Room k (A.deeper (envOfC qual (j7 st) s.heap.objs.size f fd.code)) -> ∃ t,PSs (xz v6 P w K mg base N qual (j7 st) f fd.code A outer s H E).nox (qo st) t/\qd true t b):FnOk P w K mg base v6 (k+1) f fd ps (p5 m):=by
 subst hm;refine F.okC S (λvs H Q E h=>?_) (λA outer s H vs Q E hr h=>?_)
 ·obtain ⟨Hs,xs,y,_,r,e,_⟩:=h;unfold qt at e;split at e
  ·rename_i hl;rw [r.length];exact hl
  ·cases e
 ·obtain ⟨Hs,xs,y,sm,r,e,q⟩:=h;obtain ⟨t,ht,sem⟩:=hb A outer s H E hr;refine ⟨t,ht,?_⟩;unfold qt at e;split at e
  ·rename_i hl;obtain ⟨o,eo,e1⟩:=bind_some e;refine sem.h eo (by rw [<- hl];exact vz sm r) ?_;cases o with
   |rt z=>cases e1;exact λa Hs' H' x n n' t=>q a Hs' H' x n n' t
   |nx ε=>cases e1
   |bk ε=>cases e1
   |ct ε=>cases e1
  ·cases e
end
end Mi
namespace L2
open PySem PySem.Spec PyProof.Rows
section
variable {X:Cx}
def ipM:TIp:=λx y H Q=>∃ i j,x = .int i/\y = .int j/\zP i j/\Q (.int (i*j)) H
theorem Ll:PIp X .Mult ipM:=by intro pins s σ H x y v u Q I r1 r2 h;obtain ⟨i,j,e1,e2,c,q⟩:=h;subst e1;subst e2;obtain ⟨t,rfl⟩:=r1;obtain ⟨t',rfl⟩:=r2;exact imul_int ⟨.int _,H,I.tok _,⟨_,rfl⟩,q⟩ (IntMulOk.of_bits c.1 c.2)
end
end L2
namespace Mi
open PySem L2
def pIpM:PV->PV->Option PV
 | .at (.int i),.at (.int j)=>if zP i j then some (.at (.int (i*j))) else none
 |_,_=>none
instance {fr:Bool}{i:Nat}{te:TE}{a:M}[sa:SemE te a]:qd fr (tAug i te ipM) (dAug i pIpM a) where
 h:=λe _ _ _ _ _ rs _ q=>by
  obtain ⟨x,ex,e1⟩:=bind_some e;obtain ⟨y,ey,e2⟩:=bind_some e1;obtain ⟨z,ez,e3⟩:=bind_some e2;cases e3;unfold pIpM at ez;split at ez
  ·split at ez
   ·rename_i hc;cases ez;unfold q8 at ex;split at ex
    ·rename_i w hw;cases ex;obtain ⟨v,hv,rv⟩:=rs.sh i _ hw;cases rep_at.mp rv;refine ⟨_,hv,sa.h ey rs λu Hs1 H1 x1 r1=>?_⟩;cases rep_at.mp r1;exact ⟨_,_,rfl,rfl,hc,q _ _ _ ((rs.go x1).put (rep_at.mpr rfl))⟩
    ·cases ex
   ·cases ez
  ·cases ez
end Mi
namespace L2
open PySem PySem.Spec PyProof.Rows
section
variable {X:Cx}{K:Fg}
def Pa (K:Fg):V->List V->Hp->VK->Prop:=λo vs H Q=>∃ p xs x j,o = .ref p/\vs=[x]/\SqL K H p xs/\k4 x=true/\xs.all k4=true/\xs.length<=1000000/\(xs[j]?.map λy=>qc y x)=some true/\(∀(m:Nat)(y:V),m<j->xs[m]?=some y->qc y x=false)/\Q (.int j) H
theorem Vh {x:V}:∀{xs:List V}{us:List Value}{i:Nat}{y:V},Vals xs us->xs.all k4=true->xs[i]?=some y->∃ u,us[i]?=some u/\eqU x u=qc y x
 |_,_,_,_,.nil,_,h=>by simp at h
 |z::xs,u::us,0,y,.cons r t,f,h=>by
  rw [List.all_cons,yf] at f;cases h;exact ⟨u,rfl,Vg r f.1⟩
 |z::xs,u::us,i+1,y,.cons r t,f,h=>by
  rw [List.all_cons,yf] at f;exact Vh (i:=i) t f.2 (by simpa using h)
theorem Bt (hK:X.K=K):MtM X "list.index" (Pa K):=by
 subst hK;intro pins s σ H o vs v us Q I ro rv h;obtain ⟨p,xs,x,j,rfl,rfl,hq,fx,fs,hl,hj,hno,q⟩:=h;cases ro;obtain ⟨u,rfl,ru⟩:=rv.one;obtain ⟨its,r,⟨⟨cls,dd,data,sl⟩,n,ho,hc,hd,hs⟩,hz⟩:=I.list hq;simp only at hc hd hs;subst hc hd hs;obtain ⟨y,hy,hyt⟩:=yM.mp hj;obtain ⟨w,hw,ew⟩:=Vh (x:=x) r fs hy;have hlen:=r.length;have jl:j<its.length:=(yB.mp hw).1;have ej:its.toArray[j]'(by simpa using jl)=w:=by have:=(yB.mp hw).2;simpa using this
 refine call_meets F.slot_list_index ⟨_,ho,rfl⟩ F.entry_list_index (F.args_list_index_2 _ _)
  (SeqAt.list_indexAt p its.toArray n none sl u (eqU x) j (by simpa using jl) (by omega) (by rw [ej,ew];exact hyt) (λm hm hmj=>?_)) ⟨ho,λw hw=>Je ru fx r fs w (by simpa using hw),?_⟩
 ·have ml:m<its.length:=by simpa using hm
  obtain ⟨z,hz⟩:∃ z,xs[m]?=some z:=⟨xs[m]'(by omega),yY _⟩;obtain ⟨w2,hw2,ew2⟩:=Vh (x:=x) r fs hz;have:its.toArray[m]'hm=w2:=by have:=(yB.mp hw2).2;simpa using this
  rw [this,ew2];exact hno m z hmj hz
 ·exact ⟨.int j,H,I.kept (t':=s.toks+1) λb o e=>e,⟨_,rfl⟩,q⟩
theorem SH (l b:Addr)(i j:Int)(x y:Str)(t u t' u':Tok)(n n2:Nat)(dd dd2:Option Addr)(sl sl2:Array (Option Value)):Meets (Builtin.«tuple.__lt__» ⟨[.ref l,.ref b],[]⟩) (λ_ R s=>s.heap.get? l=some { cls:= .type "tuple",dict:=dd,data:= .seq #[.int i t,.str x u] n,slots:=sl }/\s.heap.get? b=some { cls:= .type "tuple",dict:=dd2,data:= .seq #[.int j t',.str y u'] n2,slots:=sl2 } /\ R (.ok (.ret (.bool (u7 (i,x) (j,y))))) s) :=
 .of_wp λprog w A R s h=>by
  obtain ⟨hp,g,d,tk,os⟩:=s;obtain ⟨hl,hb,h⟩:=h;have f2:=AutoSeq1.sub_tuple_tuple
  wp_walk using wpAny_loadPart' hl,wpAny_loadPart' hb
  show wpAny _ _ (eqBool (.int i t) (.int j t')) _ _ _;refine wpAny_eqBool_int ?_;by_cases e:i=j
  ·subst e;rw [beq_self_eq_true]
   wp_walk
   show wpAny _ _ (eqBool (.str x u) (.str y u')) _ _ _;refine wpAny_eqBool_str ?_;by_cases e2:x=y
   ·subst e2;rw [yG rfl]
    wp_walk
    refine ⟨_,rfl,?_⟩;have z:u7 (i,x) (i,x)=false:=(Qj λ_=>(i,x)).irr 0;rw [z] at h;exact h
   ·rw [yI e2];refine yR (wpAny_rule (yR (show wpAny _ _ (richCompare .Lt (.str x u) (.str y u')) _ _ _ from PyProof.Rows.lt_str ?_)))
    wp_walk
    refine ⟨_,rfl,?_⟩;have z:u7 (i,x) (i,y)=decide (x.cps.toList<y.cps.toList):=by unfold u7;simp
    rw [z] at h;exact h
  ·have e':(i==j)=false:=by simpa using e
   rw [e'];refine yR (wpAny_rule (yR (show wpAny _ _ (richCompare .Lt (.int i t) (.int j t')) _ _ _ from PyProof.Rows.lt_int ?_)))
   wp_walk
   refine ⟨_,rfl,?_⟩;have z:u7 (i,x) (j,y)=decide (i<j):=by unfold u7;simp [e']
   rw [z] at h;exact h
end
section
variable {X:Cx}{K:Fg}
def rLtP (K:Fg):R2:=λx y H Q=>∃ p q i a j b,x = .ref p/\y = .ref q/\SqT K H p [.int i,.str a]/\SqT K H q [.int j,.str b]/\Q (.bl (u7 (i,a) (j,b))) H
theorem CI {i:Int}{a:Str}{us:List Value}(r:Vals [.int i,.str a] us):∃ t u,us=[.int i t,.str a u]:=by
 cases r with
 |cons p q =>
  cases q with
  |cons p' q'=>cases q';obtain ⟨t,rfl⟩:=p;obtain ⟨u,rfl⟩:=p';exact ⟨t,u,rfl⟩
theorem BB (hu:X.A.units+1<cLine)(hK:X.K=K):OpR X (compareOp .Lt) (rLtP K):=by
 subst hK;intro pins s σ H x y v u Q I rx ry h;obtain ⟨p,q,i,a,j,b,rfl,rfl,h1,h2,k⟩:=h;cases rx;cases ry;obtain ⟨its,r,hl,_⟩:=I.tuple h1;obtain ⟨its2,r2,hl2,_⟩:=I.tuple h2;obtain ⟨t,u,rfl⟩:=CI r;obtain ⟨t',u',rfl⟩:=CI r2;obtain ⟨⟨cls,dd,data,sl⟩,ho,hc,n,hd⟩:=id hl;obtain ⟨⟨cls2,dd2,data2,sl2⟩,ho2,hc2,n2,hd2⟩:=id hl2;simp only at hc hd hc2 hd2;subst hc hd hc2 hd2;exact richCompare_meets_room (op:= .Lt) ⟨_,ho,rfl⟩ ⟨_,ho2,rfl⟩ F.slot_tuple_lt F.entry_tuple_lt (F.args_tuple_lt_2 _ _) (SH p q i j a b t u t' u' n n2 dd dd2 sl sl2)
  ⟨ho,ho2,show Value.bool (u7 (i,a) (j,b))≠Value.notImplemented/\EP X pins σ Q (.bool (u7 (i,a) (j,b))) s from ⟨(λx=>nomatch x),.bl _,H,I,rfl,k⟩⟩ (by omega)
end
end L2
namespace Mi
open PySem L2
variable{K:Fg}
variable {fr:Bool}
def pLtP:PV->PV->Option PV
 | .tup [.at (.int i),.at (.str x)],.tup [.at (.int j),.at (.str y)]=>some (.at (.bl (u7 (i,x) (j,y))))
 |_,_=>none
theorem Pu {H:Hp}{i:Int}{x:Str}{vs:List V}(r:Reps H [.at (.int i),.at (.str x)] vs):vs=[.int i,.str x]:=Reps.ats (us:=[.int i,.str x]) r
instance :xy (rLtP K) pLtP where
 h:=λ{x y z} e {Hs H v w} s a b {Q} q=>by
  unfold pLtP at e;split at e
  ·cases e;obtain ⟨p,vs,rfl,e1,r1⟩:=xk s a;obtain ⟨p',ws,rfl,e2,r2⟩:=xk s b;rw [Pu r1] at e1;rw [Pu r2] at e2;exact ⟨p,p',_,_,_,_,rfl,rfl,SqT.of e1,SqT.of e2,q _ _ _ (.refl s) (rep_at.mpr rfl)⟩
  ·cases e
def pRep:PV->PV->Option PV
 | .lst xs,.at (.int k)=>if -(lim:Int)<=k/\k<=lim/\xs.length*k.toNat<=lim then some (.lst (List.replicate k.toNat xs).flatten) else none
 |_,_=>none
theorem Reps.rep {H:Hp}{xs:List PV}{vs:List V}(r:Reps H xs vs):∀ k:Nat,Reps H (List.replicate k xs).flatten (List.replicate k vs).flatten
 |0=> .nil
 |k+1=>by
  rw [uG,uG,ut,ut];exact r.append (Reps.rep r k)
instance:Um rRep pRep where
 h:=λ{x y z} e {Hs H v w} s a b {Q} q=>by
  unfold pRep at e;split at e
  ·split at e
   ·rename_i xs k hl;cases e;obtain ⟨p,vs,rfl,e1,r1⟩:=qr s a;cases b8 b;have hlim:(lim:Int)=1000000:=rfl;exact ⟨p,k,vs,rfl,rfl,e1,by omega,by omega,xX (by rw [r1.length];exact hl.2.2),λl hl=>q l _ _ (.newO s hl) hl (s.free hl) ⟨_,g0,r1.rep _⟩⟩
   ·cases e
  ·cases e
def Qf (u:V):List V->Option Nat
 |[]=>none
 |y::ys=>if qc y u=true then some 0 else (Qf u ys).map (·+1)
theorem KJ {u:V}:∀{us:List V}{j:Nat},Qf u us=some j->(us[j]?.map λy=>qc y u)=some true/\∀(m:Nat)(y:V),m<j->us[m]?=some y->qc y u=false
 |[],_,h=>by cases h
 |y::ys,j,h=>by
  unfold Qf at h;split at h
  ·rename_i hy;cases h;exact ⟨by simp [hy],λm y hm=>absurd hm (uB _)⟩
  ·rename_i hy;obtain ⟨k,hk,rfl⟩:=yM.mp h;obtain ⟨h1,h2⟩:=KJ hk;refine ⟨by simpa using h1,λm z hm hz=>?_⟩;cases m with
   |zero=>cases hz;simpa using hy
   |succ m=>exact h2 m z (by omega) (by simpa using hz)
def jm (a b:M):M:=λε=>(a ε).bind λx=>(b ε).bind λy=>match x,y with
 | .lst xs,.at u=>(ats xs).bind λus=>if k4 u=true/\us.all k4=true/\us.length<=lim then (Qf u us).map λ(j:Nat)=>PV.at (.int (j:Int)) else none
 |_,_=>none
instance {to te:TE}{a b:M}[sa:f6 to a][sb:SemE te b]:SemE (tBM K "list" (Pa K) to (i4 te ql)) (jm a b) where
 h:=λe _ _ _ _ _ rs _ q=>by
  obtain ⟨x,ex,e⟩:=bind_some e;obtain ⟨y,ey,e⟩:=bind_some e;split at e
  ·rename_i xs u;obtain ⟨us,eu,e⟩:=bind_some e;split at e
   ·rename_i hf;obtain ⟨j,hj,rfl⟩:=yM.mp e;refine sa.h ex rs λv Hs1 H1 x1 r1=>?_;obtain ⟨p,vs,rfl,e1,r2⟩:=qr x1.s3 r1;rw [Zj eu] at r2;cases r2.ats;refine ⟨.inl ⟨rfl,_,SqL.of e1⟩,sb.h ey (rs.go x1) λw Hs2 H2 x2 r3=>?_⟩;cases rep_at.mp r3;obtain ⟨j1,j2⟩:=KJ hj;exact ⟨p,us,_,j,rfl,rfl,SqL.of (x2.s2 _ _ e1),hf.1,hf.2.1,hf.2.2,j1,j2,q _ _ _ (x1.trans x2) (rep_at.mpr rfl)⟩
   ·cases e
  ·cases e
def fndR (g:MG)(f:MS)(xs:List PV)(ε:ME)(I:ME->Prop):Option PV->Prop
 |some y=>r6 g f xs ε=some (.rt y)
 |none=>∃ ε',r6 g f xs ε=some (.nx ε')/\I ε'
def stpR (f:MS)(ε:ME)(I:ME->Prop):Option PV->Prop
 |some y=>f ε=some (.rt y)
 |none=>∃ ε',f ε=some (.nx ε')/\I ε'
theorem VL {g:MG}{f:MS}{α:Type}(F:α->PV)(I:ME->Prop)(r:α->Option PV):∀(l:List α)(_:∀ a∈l,∀ ε,I ε->∃ ε1,g (F a) ε=some ε1/\stpR f ε1 I (r a))(ε:ME),I ε->fndR g f (l.map F) ε I (l.findSome? r)
 |[],_,ε,i=>⟨ε,rfl,i⟩
 |a::l,h,ε,i=>by
  obtain ⟨ε1,e1,s⟩:=h a yU ε i;have ih:=VL F I r l λb hb=>h b (yW _ hb);rw [List.findSome?_cons];have st:∀ o,f ε1=some o->r6 g f ((a::l).map F) ε=match o with
   | .nx ε2=>r6 g f (l.map F) ε2
   | .ct ε2=>r6 g f (l.map F) ε2
   | .bk ε2=>some (.nx ε2)
   | .rt y=>some (.rt y):=λo eo=>by
   show Option.bind (g (F a) ε) (λε1=>Option.bind (f ε1) λo=>match o with
    | .nx ε2=>r6 g f (l.map F) ε2
    | .ct ε2=>r6 g f (l.map F) ε2
    | .bk ε2=>some (.nx ε2)
    | .rt y=>some (.rt y))=_
   rw [e1,yK,eo];rfl
  cases hr:r a with
  |some y=>rw [hr] at s;exact st _ s
  |none=>rw [hr] at s;obtain ⟨ε2,e2,i2⟩:=s;have:=st _ e2;have q:=ih ε2 i2;unfold fndR at q ⊢;rw [this];exact q
theorem MF {it:MA}{g:MG}{f:MS}{xs:List PV}{ε:ME}{I:ME->Prop}{o:Option PV}(h:it ε=some xs)(k:fndR g f xs ε I o):stpR (xb it g f) ε I o:=by
 cases o with
 |some y=>exact xB h k
 |none=>obtain ⟨ε',e,i⟩:=k;exact ⟨ε',xB h e,i⟩
end Mi
namespace L2
open PySem PySem.Spec PySem.Calls PyProof.Rows
structure FrzFn (H:Hp)(f:Addr):Prop where
 ex:∃(oc:Value)(od:Option Addr)(fd:FuncData)(sl:Array (Option Value))(u:HO),H f=some (.frz ⟨oc,od,.func fd,sl⟩ u)
theorem FrzFn.mono {H H':Hp}{f:Addr}(F:FrzFn H f)(g:∀ b o,H b=some o->H' b=some o):FrzFn H' f:=by obtain ⟨oc,od,fd,sl,u,e⟩:=F.ex;exact ⟨oc,od,fd,sl,u,g _ _ e⟩
section
variable {X:Cx}
def XV (P:Program)(w:World)(K:Fg)(mg:Str->Option Value)(base:Heap)(k i:Nat)(ta:TA):TE:=λσ H Q=>∃ f,σ[i]?=some (some (.ref f))/\FrzFn H f/\ta σ H λvs H1=>(∀ b o,H b=some o->H1 b=some o) /\
 ∀(A:Around)(outer:List Env)(s:Shared)(us:List Value),Room k A->Env0 P w K mg base A outer s H1->Vals vs us->codeAny (model P w) A (.call (.ref f) ⟨us,[]⟩) (CR v6 outer P w H1 s Q E0) s
theorem Rc {i k:Nat}{x:Str}{p pos:Pos}{e:Expr}{es:List Expr}{t:TA}(hN:X.N[i]?=some x)(hr:Room k X.A)(ha:PA X (e::es) t)(hv:Vis X.env.scope x:=by first|exact Or.inl rfl|exact Or.inr (Or.inl rfl)|exact Or.inr (Or.inr rfl))(hd:(x==("__debug__":Str))=false:=by decide)(hcd:(x==("__classdict__":Str))=false:=by decide)(he:starEach (e::es) X.env=(false,eval e X.env)::starEach es X.env:=by rfl)(hpl:(backTo pos (starEach es X.env)).any (·.1)=false:=by rfl):PE X (.Call (.Name x p) (e::es) [] pos) (XV X.prog X.w X.K X.mg X.base k i t):=by
 intro pins s σ H Q I h;obtain ⟨f,hf,F,h⟩:=h;refine wpAny_Call_Name_kw (j6 (BI (pos:=p) hN hv hd hcd pins s σ H (λv H'=>v = .ref f/\H'=H) I ⟨_,hf,rfl,rfl⟩) λu s1 ⟨v,H1,I1,r1,ev,eH⟩=>?_);subst ev eH;obtain rfl:u=Value.ref f:=r1;have fnat:∀{H':Hp}{s':Shared},HOk X.prog X.w H' s'.heap->FrzFn H' f->PySem.W.FnAt f s'.heap:=λhok F'=>by
  obtain ⟨oc,od,fd,sl,u,e⟩:=F'.ex;obtain ⟨hf3,_⟩:=hok f _ e;exact ⟨oc,od,fd,sl,hf3⟩
 refine PySem.W.callWith_F (fnat I1.hok F) (j6 (ha pos pins s1 σ H1 _ I1 h) λus s2 ⟨vs,H2,I2,r2,g,q⟩=>⟨fnat I2.hok (F.mono g),?_⟩) he hpl;refine wpAny_call (codeAny_mono (q X.A X.stack s2 us hr I2.env0 r2) λr s' hq=>?_);cases r with
 |error e=>exact hq.elim
 |ok fl =>
  cases fl with
  |ret u=>exact I2.after hq
  |next=>exact False.elim hq
  |brk=>exact False.elim hq
  |cont=>exact False.elim hq
end
end L2
namespace Mi
open PySem L2
theorem Tj {Hs H:Hp}{xs:List PV}{vs:List V}(s:Same Hs H)(r:Reps Hs xs vs):RS Hs H Hs H (vs.map some) (xs.map .sh):=by
 have q:=vz (N:=[]) s r;have e1:L2.start [] vs=vs.map some:=by unfold L2.start;simp
 have e2:xs.map MSlot.sh++List.replicate (([]:List Str).length-xs.length) .no=xs.map .sh:=by simp
 rw [e1,e2] at q;exact q
mutual
def plB:PV->Bool
 | .at _=>true
 | .tup xs=>jc xs
 | .lst xs=>jc xs
 |_=>false
def jc:List PV->Bool
 |[]=>true
 |x::xs=>plB x&&jc xs
end
mutual
theorem Rep.drop {H H':Hp}(g:∀ b o,H b=some o->(∀ o' u,o ≠ .frz o' u)->H' b=some o):∀{x:PV}{v:V},plB x=true->Rep H x v->Rep H' x v
 | .at u,v,_,r=>rep_at.mpr (rep_at.mp r)
 | .tup xs,v,p,r=>by
  obtain ⟨a,vs,e,h,rs⟩:=rep_tup.mp r;unfold plB at p;exact rep_tup.mpr ⟨a,vs,e,g _ _ h (λ_ _ z=>nomatch z),Reps.drop' g p rs⟩
 | .lst xs,v,p,r=>by
  obtain ⟨a,vs,e,h,rs⟩:=rep_lst.mp r;unfold plB at p;exact rep_lst.mpr ⟨a,vs,e,g _ _ h (λ_ _ z=>nomatch z),Reps.drop' g p rs⟩
 | .dk _ _,_,p,_=>by unfold plB at p;cases p
 | .fk _ _,_,p,_=>by unfold plB at p;cases p
 | .ob _ _ _,_,p,_=>by unfold plB at p;cases p
 | .op _,_,p,_=>by unfold plB at p;cases p
theorem Reps.drop' {H H':Hp}(g:∀ b o,H b=some o->(∀ o' u,o ≠ .frz o' u)->H' b=some o):∀{xs:List PV}{vs:List V},jc xs=true->Reps H xs vs->Reps H' xs vs
 |[],vs,_,r=>reps_nil.mpr (reps_nil.mp r)
 |x::xs,vs,p,r=>by
  unfold jc at p;rw [yf] at p;obtain ⟨v,r',e,r1,r2⟩:=reps_cons.mp r;exact reps_cons.mpr ⟨v,r',e,Rep.drop g p.1 r1,Reps.drop' g p.2 r2⟩
end
structure LQ where
 P:Program
 w:World
 K:Fg
 mg:Str->Option Value
 base:Heap
end Mi
namespace L2
open PySem PySem.Spec PySem.Calls PyProof.Rows Mi
section
variable {X:Cx}{P:Program}{w:World}{K:Fg}{mg:Str->Option Value}{base:Heap}
theorem Re {i k:Nat}{x:Str}{p pos:Pos}{e:Expr}{es:List Expr}{t:TA}(z:LQ.mk X.prog X.w X.K X.mg X.base=LQ.mk P w K mg base)(hN:X.N[i]?=some x)(hr:Room k X.A)(ha:PA X (e::es) t)(hv:Vis X.env.scope x:=by first|exact Or.inl rfl|exact Or.inr (Or.inl rfl)|exact Or.inr (Or.inr rfl))(hd:(x==("__debug__":Str))=false:=by decide)(hcd:(x==("__classdict__":Str))=false:=by decide)(he:starEach (e::es) X.env=(false,eval e X.env)::starEach es X.env:=by rfl)(hpl:(backTo pos (starEach es X.env)).any (·.1)=false:=by rfl):PE X (.Call (.Name x p) (e::es) [] pos) (XV P w K mg base k i t):=by injection z with z1 z2 z3 z4 z5;have q:=Rc (X:=X) (k:=k) (i:=i) (p:=p) (pos:=pos) hN hr ha hv hd hcd he hpl;rw [z1,z2,z3,z4,z5] at q;exact q
end
end L2
namespace L2
open PySem PySem.Spec PySem.Calls PyProof.Rows
def rSlU (K:Fg):V->Option Int->Option Int->Hp->VK->Prop:=λx lo hi H Q=>∃(a:Addr)(xs:List V)(n:Nat),x = .ref a/\SqT K H a xs/\lo=some (n:Int)/\hi=none/\1<=n/\n<=xs.length/\∀ p,H p=none->Q (.ref p) (v9 H p (.tup (xs.drop n)))
theorem Sr {X:Cx}{K:Fg}(h:X.K=K):SlR X (rSlU K):=by subst h;intro pins s σ H x v vl vu lo hi sl Q I rx hs pl pu h;obtain ⟨a,xs,n,rfl,hx,rfl,rfl,h1,h2,q⟩:=h;cases rx;cases pl;cases pu;obtain ⟨its,r,ht,hz⟩:=I.tuple hx;have hlen:=r.length;refine ⟨"tuple",_,slot_tuple_getitem.lookup,ht.typeIs,?_⟩;refine getItem_tuple_from ht hs h1 (by rw [yX];omega) ?_ (by rw [yX];omega);refine ⟨.ref s.heap.objs.size,_,I.laid (t':=s.toks) (o:= .tup (xs.drop n)) (λb ob q=>yT _ q) (yV _) ?_,rfl,q _ (I.hok.fresh (yV _))⟩;exact ⟨by rw [uP];omega,_,r.drop n,⟨_,yD _ rfl,rfl,_,rfl⟩⟩
end L2
namespace Mi
open PySem L2
variable{l u:ME->Option (Option Int)}
def dSlT (a:M)(l u:ME->Option (Option Int)):M:=λε=>(a ε).bind λx=>(l ε).bind λlo=>(u ε).bind λhi=>match x,lo,hi with
 | .tup xs,some i,none=>if 1<=i/\i.toNat<=xs.length then some (.tup (xs.drop i.toNat)) else none
 |_,_,_=>none
theorem Mz {f:M}{ε:ME}{xs:List PV}{i:Int}(h1:f ε=some (.tup xs))(h2:l ε=some (some i))(h3:u ε=some none)(h4:1<=i/\i.toNat<=xs.length):dSlT f l u ε=some (.tup (xs.drop i.toNat)):=by unfold dSlT;rw [h1];show Option.bind (l ε) _=_;rw [h2];show Option.bind (u ε) _=_;rw [h3];exact if_pos h4
instance {K:Fg}{te:TE}{tl th:TO}{a:M}[sa:f6 te a][sl:wO tl l][su:wO th u]:SemE (tSl (rSlU K) te tl th) (dSlT a l u) where
 h:=λe _ _ _ _ _ rs _ q=>by
  obtain ⟨x,ex,e1⟩:=bind_some e;obtain ⟨lo,el,e2⟩:=bind_some e1;obtain ⟨hi,eu,e3⟩:=bind_some e2;split at e3
  ·split at e3
   ·rename_i xs i hl;cases e3;refine sa.h ex rs λv Hs1 H1 x1 r1=>sl.h el (rs.go x1) λHs2 H2 x2=>su.h eu ((rs.go x1).go x2) λHs3 H3 x3=>?_;have x13:=x1.trans (x2.trans x3);obtain ⟨p,vs,rfl,e1,r⟩:=xk x3.s3 ((r1.ext x2).ext x3);have hn:vs.length=xs.length:=r.length;refine ⟨p,vs,i.toNat,rfl,SqT.of e1,by congr 1;omega,rfl,by omega,by omega,λd hd=>q _ _ _ (x13.trans (.new x3.s3 hd)) (rep_tup.mpr ⟨d,_,rfl,g0,(r.mono (Ext.new x3.s3 hd).s1).drop _⟩)⟩
   ·cases e3
  ·cases e3
end Mi
namespace L2
open PySem PySem.Spec PySem.Calls PyProof.Rows
variable{x:Str}{body e:Expr}{tb te:TE}{pos:Pos}{es:List Expr}{t:TA}{b c:Addr}{cs:List Addr}{H:Hp}{K:Fg}{mg:Str->Option Value}{base:Heap}{A:Around}{n:Nat}{params:Arguments}{scope:Scope}{clos:List (Str×Addr)}
section
variable {X:Cx}{K:Fg}
theorem u6 {N P:List Str}{sc:Scope}(h1:sc.kind = .function:=by rfl)(h2:sc.isCoroutine=false:=by rfl)(h3:sc.isGenerator=false:=by rfl)(h4:N.Nodup:=by decide +kernel)(h5:N.take P.length=P:=by rfl)(h6:∀ x∈P,sc.names.lookup x=some .local∨sc.names.lookup x=some .cell:=by decide +kernel)(h7:∀ y∈sc.names,y.2 ≠ .free:=by decide +kernel):y4 N P sc:=⟨h1,h2,h3,h4,h5,h6,h7⟩
theorem sW (i:Nat){pos':Pos}(hN:X.N.Nodup)(he:PE X e te)(hi:X.N[i]?=some x:=by rfl)(hx:Loc X.env.scope x:=by first|exact Or.inl rfl|exact Or.inr rfl)(hs:swapsWith e (some (.Name x pos')) pos.line X.env=pure false:=by rfl)(hf:X.fn x=true∨X.env.scope.names.lookup x=some .local:=by first|exact .inl rfl|exact .inr rfl):PS X (.Assign [.Name x pos'] e pos) (je te (qV i)):=qB hN hi hx he hs hf
theorem aW (ha:PE X e te)(hs:starEach [e] X.env=(false,eval e X.env)::starEach [] X.env:=by rfl):PA X [e] (i4 te ql):=v8 ha u9 hs
theorem aC (ha:PE X e te)(hr:PA X es t)(hs:starEach (e::es) X.env=(false,eval e X.env)::starEach es X.env:=by rfl):PA X (e::es) (i4 te t):=v8 ha hr hs
theorem iW {a b:Expr}{ta:TE}(hK:X.K=K)(ha:PE X a ta)(hb:PE X b tb)(hs:Ul b:=by exact λ_ _=>rfl):PE X (.Subscript a b pos) (tOp (rIx K) ta tb):=Jm (LE hK) ha hb hs
end
def xC (cs:List Addr)(H:Hp):Hp:=λb=>if b∈cs then none else H b
def o7 (cs:List Addr)(g:Addr->Obj)(H:Hp):Hp:=λb=>if b∈cs then some (.frz (g b) (.own b)) else H b
theorem vg (h:b∈cs):xC cs H b=none:=if_pos h
theorem qh (h:b∉cs):xC cs H b=H b:=if_neg h
theorem jB {g:Addr->Obj}(h:b∈cs):o7 cs g H b=some (.frz (g b) (.own b)):=if_pos h
theorem qy {g:Addr->Obj}(h:b∉cs):o7 cs g H b=H b:=if_neg h
section
variable {P:Program}{w:World}{H H' H1:Hp}{h h':Heap}{a:Addr}{o:HO}{cs:List Addr}{g:Addr->Obj}{outer:List Env}{s s':Shared}{Q:VK}{u:Value}
theorem ObjOk.stay2 (x:ObjOk P w H h a o)(ho:∀ b,H b=some (.own a)->H' b=some (.own a))(ht:∀ b xs,H b=some (.tup xs)->H' b=some (.tup xs))(hz:∀ b o,H b=some (.frz o (.own a))->H' b=some (.frz o (.own a))):ObjOk P w H' h a o:=by
 induction o with
 |dT kvs=>obtain ⟨z,y,xs,r,c⟩:=x;exact ⟨z,y,xs,Paired.mapP r λp q z=>⟨z.1,ht _ _ z.2.1,z.2.2⟩,c⟩
 |ins C dx fs=>obtain ⟨d,c⟩:=x;exact ⟨ho _ d,c⟩
 |frz ob u ih=>obtain ⟨e,q⟩:=x;exact ⟨e,ih q⟩
 |tbl ps q =>
  obtain ⟨more,e,t,r⟩:=x;refine ⟨more,e,t,λp hp=>?_⟩;rcases r p hp with z|⟨c,o,vs,t,z,oc,e2⟩
  ·exact .inl z
  ·exact .inr ⟨c,o,vs,t,z,hz c o oc,e2⟩
 |lst xs=>exact x
 |tup xs=>exact x
 |dK kvs=>exact x
 |set S n=>exact x
 |own y=>exact x
 |xd fs=>exact x
 |rng lo hi=>exact x
 |met f y=>exact x
 |ext φ=>exact x
theorem HOk.cOff (x:HOk P w H h)(hc:∀ b∈cs,∃ o,H b=some (.frz o (.own b))):HOk P w (xC cs H) h:=λa o e=>by
 by_cases ha:a∈cs
 ·rw [vg ha] at e;cases e
 ·rw [qh ha] at e;refine (x a o e).stay2 (λb q=>?_) (λb xs q=>?_) λb ob q=>?_
  ·rw [qh (λz=>by obtain ⟨_,y⟩:=hc b z;rw [y] at q;cases q)];exact q
  ·rw [qh (λz=>by obtain ⟨_,y⟩:=hc b z;rw [y] at q;cases q)];exact q
  ·rw [qh (λz=>by
    obtain ⟨_,y⟩:=hc b z;rw [y] at q;cases q;exact ha z)];exact q
theorem HOk.cOn (x:HOk P w H h)(hn:∀ b∈cs,H b=none)(hg:∀ b∈cs,h.get? b=some (g b)):HOk P w (o7 cs g H) h:=λa o e=>by
 have out:∀ b o,H b=some o->o7 cs g H b=some o:=λb o q=>by rw [qy (λz=>by rw [hn b z] at q;cases q)];exact q
 by_cases ha:a∈cs
 ·rw [jB ha] at e;cases e;exact ⟨hg a ha,_,hg a ha⟩
 ·rw [qy ha] at e;exact (x a o e).stay2 (λb q=>out b _ q) (λb xs q=>out b _ q) λb ob q=>out b _ q
theorem CE.off (hn:∀ b∈cs,H b=none)(hg:∀ b∈cs,s.heap.get? b=some (g b))(c:CE outer P w (o7 cs g H) s (λv H'=>(∀ b∈cs,H' b=some (.frz (g b) (.own b)))->Q v (xC cs H')) u s'):CE outer P w H s Q u s':=by
 obtain ⟨v,H1,os,bare,un,hok,r,q⟩:=c;have f1:∀ b∈cs,H1 b=some (.frz (g b) (.own b)):=λb hb=>un.frzs b _ _ (jB hb);have g1:∀ b∈cs,s'.heap.get? b=some (g b):=λb hb=>(hok b _ (f1 b hb)).1;have ne:∀ b o,H b=some o->b∉cs:=λb o e z=>by rw [hn b z] at e;cases e
 refine ⟨v,xC cs H1,os,bare,⟨λb o e n hf hx=>?_,λb o e n hf hx=>?_,λb o e n hx=>?_,un.there,λb xs e=>?_,λb o u e=>?_,λb ps q e=>?_⟩,hok.cOff λb hb=>⟨_,f1 b hb⟩,r,q f1⟩
 ·by_cases hb:b∈cs
  ·rw [hg b hb] at e;cases e;exact g1 b hb
  ·exact un.keep b o e (by rw [qy hb];exact n) hf hx
 ·by_cases hb:b∈cs
  ·rw [hg b hb] at e;cases e;exact ⟨(g b).slots,g1 b hb⟩
  ·exact un.slot b o e (by rw [qy hb];exact n) hf hx
 ·by_cases hb:b∈cs
  ·exact vg hb
  ·rw [qh hb];exact un.free b o e (by rw [qy hb];exact n) hx
 ·rw [qh (ne _ _ e)];exact un.tups b xs (by rw [qy (ne _ _ e)];exact e)
 ·rw [qh (ne _ _ e)];exact un.frzs b o u (by rw [qy (ne _ _ e)];exact e)
 ·rw [qh (ne _ _ e)];exact un.tbls b ps q (by rw [qy (ne _ _ e)];exact e)
theorem CE.on (hc:∀ b∈cs,H b=some (.frz (g b) (.own b)))(hg:∀ b∈cs,s.heap.get? b=some (g b))(hf:∀ b∈cs,b∉frs outer)(c:CE outer P w (xC cs H) s (λv H'=>(∀ b∈cs,H' b=none)->Q v (o7 cs g H')) u s'):CE outer P w H s Q u s':=by
 obtain ⟨v,H1,os,bare,un,hok,r,q⟩:=c;have f1:∀ b∈cs,H1 b=none:=λb hb=>un.free b _ (hg b hb) (vg hb) (by simp);have g1:∀ b∈cs,s'.heap.get? b=some (g b):=λb hb=>un.keep b _ (hg b hb) (vg hb) (hf b hb) (by simp);have nn:∀ b,H b=none->b∉cs:=λb e z=>by rw [hc b z] at e;cases e
 refine ⟨v,o7 cs g H1,os,bare,⟨λb o e n hf hx=>un.keep b o e (by rw [qh (nn b n)];exact n) hf hx,λb o e n hf hx=>un.slot b o e (by rw [qh (nn b n)];exact n) hf hx,λb o e n hx=>?_,un.there,λb xs e=>?_,λb o u e=>?_,λb ps q e=>?_⟩,hok.cOn f1 g1,r,q f1⟩
 ·rw [qy (nn b n)];exact un.free b o e (by rw [qh (nn b n)];exact n) hx
 ·have hb:b∉cs:=λz=>by rw [hc b z] at e;cases e
  rw [qy hb];exact un.tups b xs (by rw [qh hb];exact e)
 ·by_cases hb:b∈cs
  ·rw [hc b hb] at e;cases e;exact jB hb
  ·rw [qy hb];exact un.frzs b o u (by rw [qh hb];exact e)
 ·have hb:b∉cs:=λz=>by rw [hc b z] at e;cases e
  rw [qy hb];exact un.tbls b ps q (by rw [qh hb];exact e)
theorem Env0.on (e:Env0 P w K mg base A outer s H)(hn:∀ b∈cs,H b=none)(hg:∀ b∈cs,s.heap.get? b=some (g b))(hb:∀ b∈cs,base.get? b=none)(hf:∀ b∈cs,b∉frs outer):Env0 P w K mg base A outer s (o7 cs g H) :=
 ⟨e.frames,e.mod,λb o q=>⟨(e.bs b o q).1,by rw [qy (λz=>by rw [hb b z] at q;cases q)];exact (e.bs b o q).2⟩,e.bsz,e.funs,λb q=>by rw [qy (λz=>hf b z q)];exact e.frf b q,e.hok.cOn hn hg,e.bare,λp hp=>by
  rw [qy (λz=>by have:=e.tbs p hp;rw [hn _ z] at this;cases this)];exact e.tbs p hp⟩
theorem Env0.off (e:Env0 P w K mg base A outer s H)(hc:∀ b∈cs,∃ o,H b=some (.frz o (.own b))):Env0 P w K mg base A outer s (xC cs H) :=
 ⟨e.frames,e.mod,λb o q=>⟨(e.bs b o q).1,by
   by_cases hb:b∈cs
   ·exact vg hb
   ·rw [qh hb];exact (e.bs b o q).2⟩,e.bsz,e.funs,λb q=>by
   by_cases hb:b∈cs
   ·exact vg hb
   ·rw [qh hb];exact e.frf b q,e.hok.cOff hc,e.bare,λp hp=>by
  rw [qh (λz=>by obtain ⟨_,y⟩:=hc _ z;have:=e.tbs p hp;rw [y] at this;cases this)];exact e.tbs p hp⟩
end
structure Uh (clos:List (Str×Addr))(scope:Scope)(fr:List Str)(cv:List V)(cs:List Addr)(g:Addr->Obj):Prop where
 inj:∀ x y c,clos.lookup x=some c->clos.lookup y=some c->x=y
 sub:∀ x c,clos.lookup x=some c->c∈cs/\∃ v,(g c).data = .cell v
 len:cv.length=fr.length
 val:∀(i:Nat)(x:Str)(v:V),fr[i]?=some x->cv[i]?=some v->scope.names.lookup x=some .free/\∃ c u,clos.lookup x=some c/\(g c).data = .cell (some u)/\RelV v u
def wC (qual:Str)(params:Arguments)(body:Expr)(scope:Scope)(clos:List (Str×Addr))(pm:Value)(H:Hp)(f c:Addr):Prop :=
 ∃ (oc:Obj) (u1 u2:HO) (vs:Array Value) (tq:Tok) (ctv:Value),H f=some (.frz (PySem.W.kla_obj "<lambda>" qual params body scope clos pm c ctv) u1)/\H c=some (.frz oc u2)/\oc.data = .fields vs/\vs[1]?=some (.str qual tq)
def JG (P:Program)(w:World)(K:Fg)(mg:Str->Option Value)(base:Heap)(k n:Nat)(tb:TE)(cv:List V)(cs:List Addr)(g:Addr->Obj)(H:Hp)(f c:Addr):Prop :=
 FrzFn H f/\(∃(oc:Obj)(u:HO),H c=some (.frz oc u))/\∀(A:Around)(outer:List Env)(s:Shared)(H2:Hp)(us:List Value)(vs:List V)(Q:VK)(E:XK),Room (k+1) A->Env0 P w K mg base A outer s H2->(∀ b o,H b=some o->H2 b=some o)->Vals vs us->vs.length=n ->
  tb ((vs++cv).map some) (xC cs H2) (λv H'=>(∀ b∈cs,H' b=none)->Q v (o7 cs g H'))->codeAny (model P w) A (.call (.ref f) ⟨us,[]⟩) (CR v6 outer P w H2 s Q E) s
theorem LS {P:Program}{w:World}{k:Nat}{cv:List V}{g:Addr->Obj}{f:Addr}{qual:Str}{pm:Value}{ps fr:List Str}(R:wC qual params body scope clos pm H f c)(hcs:∀ b∈cs,H b=some (.frz (g b) (.own b)))(C:Uh clos scope fr cv cs g)(S:wD ps fr scope)(hn:ps.length=n)(hb:∀ (A:Around) (outer:List Env) (s:Shared) (H:Hp),Room k (A.deeper (PySem.W.envX qual scope s.heap.objs.size f (.ref c) clos))->PE (jV P w K mg base (ps++fr) qual scope f c clos A outer s H) body tb)(hbd:∀ (ctv:Value) (us:List Value),us.length=n->bindArgs (PySem.W.kla_fn "<lambda>" qual params body scope clos pm (.ref c) ctv) ⟨us,[]⟩=pure (ps.zip us)):JG P w K mg base k n tb cv cs g H f c:=by
 obtain ⟨oc,u1,u2,vs,tq,ctv,hf,hc,hd,hv⟩:=R;refine ⟨⟨_,_,_,_,_,hf⟩,⟨_,_,hc⟩,λA outer s3 H3 us vs3 Q3 E3 hr3 e3 g3 rv hl ht=>?_⟩;obtain ⟨hf3,_⟩:=e3.hok f _ (g3 _ _ hf);obtain ⟨hc3,_⟩:=e3.hok c _ (g3 _ _ hc);have hk:∀ b∈cs,H3 b=some (.frz (g b) (.own b)):=λb hb=>g3 _ _ (hcs b hb);have hg:∀ b∈cs,s3.heap.get? b=some (g b):=λb hb=>(e3.hok b _ (hk b hb)).1;have lu:us.length=n:=by rw [<- rv.length];exact hl
 have e4:Env0 P w K mg base A outer s3 (xC cs H3):=e3.off λb hb=>⟨_,hk b hb⟩;have hfr:∀ b∈cs,b∉frs outer:=λb hb z=>by
  have:=e3.frf b z;rw [hk b hb] at this;cases this
 refine codeAny_mono (Bf (vs:=vs3) (cv:=cv) (t:=tb) (E:=E3) (Q:=λv H'=>(∀ b∈cs,H' b=none)->Q3 v (o7 cs g H')) S (by have:=hr3.dp;omega) hr3.hd e4 hf3 ⟨c,oc,vs,tq,rfl,hc3,hd,hv⟩ (hbd _ _ lu) (hl.trans hn.symm) rv C.inj (λx c e=>?_) C.len (λi x v e1 e2=>?_) (hb A outer s3 (xC cs H3) (hr3.deeper _)) ht) λr s' z=>?_
 ·obtain ⟨h1,v,h2⟩:=C.sub x c e;exact ⟨⟨v,_,hg c h1,h2⟩,vg h1⟩
 ·obtain ⟨h1,c,u,h2,h3,h4⟩:=C.val i x v e1 e2;exact ⟨h1,c,u,h2,⟨_,hg c (C.sub x c h2).1,h3⟩,h4⟩
 ·cases r with
  |error e=>exact z.elim
  |ok fl =>
   cases fl with
   |ret u=>exact CE.on hk hg hfr z
   |next=>exact False.elim z
   |brk=>exact False.elim z
   |cont=>exact False.elim z
def XY (f c:Addr)(cs:List Addr)(H:Hp):Hp:=λb=>if b=f∨b=c∨b∈cs then H b else none
section
variable {X:Cx}
def Jz (φ:Hp->Addr->Addr->Prop):TE:=λ_ H Q=>∀(f c:Addr)(H':Hp),(∀ b o,H b=some o->H' b=some o)->φ H' f c->Q (.ref f) H'
theorem Rk {lp:Pos}{Pt:Addr}{pt:Array Value}{wt:List (Pos×Str)}(hP:(Pt,pt,wt)∈TABS)(hw:(lp,X.env.qual ++ "<lambda>")∈wt)(hu:∀ p∈wt,(p.1.line==lp.line&&p.1.col==lp.col)=true->p.2=X.env.qual ++ "<lambda>")(hcode:X.env.code = .ref c)(hC:∀ h:Heap,X.K.In h->PySem.W.CodeHd h c Pt)(hcl:closureFor scope X.env=pure clos:=by rfl)(hdef:defaultsOf params X.env=([],[]):=by rfl):PE X (.Lambda params body scope lp) (Jz (wC (X.env.qual ++ "<lambda>") params body scope clos ((X.mg "__name__").getD .none))):=by intro pins s σ H Q I h;exact Bg I hP hw hu hcode (hC _ I.mod.kin) hcl hdef λf c' oc vs tq ctv H' h' tk I2 g _ hf hc hd hv=>⟨.ref f,H',I2,rfl,h f c' H' g ⟨oc,_,_,vs,tq,ctv,hf,hc,hd,hv⟩⟩
def XU (P:Program)(w:World)(K:Fg)(mg:Str->Option Value)(base:Heap)(k n:Nat)(fi:List Nat)(φ:Hp->Addr->Addr->Prop)(tb:TE)(sp:Sp)(t:TA):TE:=λσ H Q=>t σ H λvs H1=>∃ cv:List V,(fi.map λi=>σ[i]?)=cv.map (λv=>some (some v)) /\
 ∀(cs:List Addr)(g:Addr->Obj),(∀ b∈cs,H1 b=none)->(∀ f c,φ H1 f c->JG P w K mg base k n tb cv cs g (XY f c cs (o7 cs g H1)) f c)->sp vs (o7 cs g H1) (λv H'=>(∀ b∈cs,H' b=some (.frz (g b) (.own b)))->Q v (xC cs H')) E0
theorem Rh {p:Pos}{sp:Sp}{pps:List Str}{kk j k:Nat}{lps fr:List Str}{fi:List Nat}(c:Fn X.prog X.w X.K X.mg X.base kk x pps sp)(hr:Room j X.A)(hj:kk<=j)(hg:Gl X x)(ha:PA X (e::es) t)(S:wD lps fr scope)(hn:lps.length=n)(LF:Zd X scope clos fr fi)(hfn:∀ y∈fr,X.fn y=true)(hall:∀ y c,clos.lookup y=some c->y∈fr)(hb:∀ (f c':Addr) (A:Around) (outer:List Env) (s:Shared) (H:Hp),Room k (A.deeper (PySem.W.envX (X.env.qual ++ "<lambda>") scope s.heap.objs.size f (.ref c') clos))->PE (jV X.prog X.w X.K X.mg X.base (lps++fr) (X.env.qual ++ "<lambda>") scope f c' clos A outer s H) body tb)(hbd:∀ (qual:Str) (pm cdv ctv:Value) (us:List Value),us.length=n->bindArgs (PySem.W.kla_fn "<lambda>" qual params body scope clos pm cdv ctv) ⟨us,[]⟩=pure (lps.zip us))(hdb:(x==("__debug__":Str))=false:=by decide)(he:starEach (e::es) X.env=(false,eval e X.env)::starEach es X.env:=by rfl)(hpl:(backTo pos (starEach es X.env)).any (·.1)=false:=by rfl):PE X (.Call (.Name x p) (e::es) [] pos) (XU X.prog X.w X.K X.mg X.base k n fi (wC (X.env.qual ++ "<lambda>") params body scope clos ((X.mg "__name__").getD .none)) tb sp t):=by
 obtain ⟨f,fd,F,hm,hk,hbi⟩:=c.ex;intro pins s σ H Q I h;refine wpAny_Call_Name_kw (ZO I hg hm ?_ hdb);refine PySem.W.callWith_K (h₀:=X.base) I.ok.mod.kin hk (j6 (ha pos pins s σ H _ I h) λus s1 ⟨vs,H1,I1,r,cv,hcv,q⟩=>⟨I1.kIn,?_⟩) he hpl
 let g:Addr->Obj:=λb=>(s1.heap.get? b).getD (PySem.W.instObj 0 0)
 let cs:List Addr:=fr.filterMap λy=>clos.lookup y
 have hcs:∀ b∈cs,∃ y,y∈fr/\clos.lookup y=some b:=λb hb=>by
  obtain ⟨y,h1,h2⟩:=ud.mp hb;exact ⟨y,h1,h2⟩
 have gof:∀{b:Addr}{o:Obj},s1.heap.get? b=some o->g b=o:=λ{b o} e=>by show (s1.heap.get? b).getD _=o;rw [e];rfl
 have gat:∀ b∈cs,s1.heap.get? b=some (g b):=λb hb=>by
  obtain ⟨y,_,h2⟩:=hcs b hb;obtain ⟨v,o,ho,_⟩:=I1.cell y b (LF.sub y b h2);rw [gof ho];exact ho
 have hno:∀ b∈cs,H1 b=none:=λb hb=>by
  obtain ⟨y,_,h2⟩:=hcs b hb;exact I1.freeC y b (LF.sub y b h2)
 have hlow:∀ b∈cs,X.s₀.heap.objs.size<=b:=λb hb=>by
  obtain ⟨y,h1,h2⟩:=hcs b hb;exact I1.ok.cab y b (hfn y h1) (LF.sub y b h2)
 have hbs:∀ b∈cs,X.base.get? b=none:=λb hb=>ur (ym I1.ok.bsz (hlow b hb));have hfr:∀ b∈cs,b∉frs X.stack:=λb hb z=>by
  obtain ⟨y,h1,h2⟩:=hcs b hb;rcases yH.mp (I1.stkSub b z) with e|z
  ·exact I1.cne y b (LF.sub y b h2) e
  ·obtain ⟨_,o,ho,_⟩:=I1.ok.funs.mem z;exact absurd (yE (yQ ho) (hlow b hb)) (uF _)
 have lcv:cv.length=fr.length:=by have z:=congrArg List.length hcv;rw [yZ,yZ] at z;rw [<- z,LF.len]
 have CO:Uh clos scope fr cv cs g:=by
  refine ⟨λy z d e1 e2=>I1.ok.inj y z d (LF.sub y d e1) (LF.sub z d e2),λy d e=>⟨ud.mpr ⟨y,hall y d e,e⟩,?_⟩,lcv,λj y v e1 e2=>?_⟩
  ·obtain ⟨v,o,ho,hd⟩:=I1.cell y d (LF.sub y d e);exact ⟨v,by rw [gof ho];exact hd⟩
  ·have hj:j<fi.length:=by
    rw [LF.len];rcases ui j fr.length with q|q
    ·exact q
    ·rw [uU q] at e1;cases e1
   obtain ⟨n1,n2,n3,n4⟩:=LF.at_ j y fi[j] e1 (yY hj);have es:σ[fi[j]]?=some (some v):=by have z:=congrArg (λl=>l[j]?) hcv;simp only [yP,e2,yY hj,uK,Option.some.injEq] at z;exact z
   obtain ⟨m,_,lk⟩:=I1.loc;obtain ⟨u,rv,look⟩:=lk fi[j] y v n1 es n4;refine ⟨n3,?_⟩;rcases look with ⟨q,_⟩|⟨_,d,q1,o,q2,q3⟩
   ·rw [n2] at q;cases q
   ·exact ⟨d,u,LF.has y d (yh e1) q1,by rw [gof q2];exact q3,rv⟩
 have out:∀ b o,H1 b=some o->o7 cs g H1 b=some o:=λb o e=>by rw [qy (λz=>by rw [hno b z] at e;cases e)];exact e
 have q1:=q cs g hno λf c R=>by
  obtain ⟨oc,u1,u2,ws,tq,ctv,z1,z2,z3,z4⟩:=R;exact LS ⟨oc,u1,u2,ws,tq,ctv,(if_pos (.inl rfl)).trans (out _ _ z1),(if_pos (.inr (.inl rfl))).trans (out _ _ z2),z3,z4⟩ (λb hb=>(if_pos (.inr (.inr hb))).trans (jB hb)) CO S hn (λA outer s H hr=>hb f c A outer s H hr) λctv us hl=>hbd _ _ _ ctv us hl
 have hl:us.length=pps.length:=by rw [<- r.length];exact F.len _ _ _ _ q1
 have hl0:(us++[]).length=pps.length:=by rw [yt];exact hl
 have bt:=hbi s1 us I1.kIn hl0;rw [yt] at bt;refine wpAny_call (codeAny_mono (F.run X.A X.stack s1 (o7 cs g H1) ⟨us,[]⟩ us vs _ E0 (hr.mono hj) (I1.env0.on hno gat hbs hfr) bt r q1) λr s' hq=>?_);cases r with
 |error e=>exact hq.elim
 |ok fl =>
  cases fl with
  |ret u=>exact I1.after (CE.off hno gat hq)
  |next=>exact False.elim hq
  |brk=>exact False.elim hq
  |cont=>exact False.elim hq
end
end L2
namespace Mi
open PySem L2
variable{tb tl:TE}{a b kb:M}{ws xs zs:List PV}{H H0:Hp}{f:Addr}{m:List PV->Option PV}{as:MA}{ε:ME}{r:Option PV}{ta:TA}{fi:List Nat}{x y:PV}{ψ:Hp->Addr->Addr->Prop}{P:Program}{w:World}{K:Fg}{mg:Str->Option Value}{base:Heap}{q:LQ}{n:Nat}
mutual
def xt:PV->Bool
 | .at _=>true
 | .tup xs=>zb xs
 | .lst xs=>zb xs
 | .dk _ xs=>zb xs
 | .fk _ xs=>zb xs
 | .ob _ _ xs=>zb xs
 | .op _=>false
def zb:List PV->Bool
 |[]=>true
 |x::xs=>xt x&&zb xs
end
mutual
theorem Rep.nop {H H':Hp}(g:∀ b o,H b=some o->(∀ o' y,o ≠ .frz o' (.own y))->H' b=some o):∀{x:PV}{v:V},xt x=true->Rep H x v->Rep H' x v
 | .at u,v,_,r=>rep_at.mpr (rep_at.mp r)
 | .tup xs,v,p,r=>by
  obtain ⟨a,vs,e,h,rs⟩:=rep_tup.mp r;unfold xt at p;exact rep_tup.mpr ⟨a,vs,e,g _ _ h (λ_ _ z=>nomatch z),Reps.nop g p rs⟩
 | .lst xs,v,p,r=>by
  obtain ⟨a,vs,e,h,rs⟩:=rep_lst.mp r;unfold xt at p;exact rep_lst.mpr ⟨a,vs,e,g _ _ h (λ_ _ z=>nomatch z),Reps.nop g p rs⟩
 | .dk ks xs,v,p,r=>by
  obtain ⟨a,kvs,e,h,h2,rs⟩:=rep_dk.mp r;unfold xt at p;exact rep_dk.mpr ⟨a,kvs,e,g _ _ h (λ_ _ z=>nomatch z),h2,Reps.nop g p rs⟩
 | .fk ks xs,v,p,r=>by
  obtain ⟨a,o,kvs,e,h,h2,rs⟩:=rep_fk.mp r;unfold xt at p;exact rep_fk.mpr ⟨a,o,kvs,e,g _ _ h (λ_ _ z=>by injection z with _ z;cases z),h2,Reps.nop g p rs⟩
 | .ob C ns xs,v,p,r=>by
  obtain ⟨a,dx,fs,e,h,h2,rs⟩:=rep_ob.mp r;unfold xt at p;exact rep_ob.mpr ⟨a,dx,fs,e,g _ _ h (λ_ _ z=>nomatch z),h2,Reps.nop g p rs⟩
 | .op _,_,p,_=>by unfold xt at p;cases p
theorem Reps.nop {H H':Hp}(g:∀ b o,H b=some o->(∀ o' y,o ≠ .frz o' (.own y))->H' b=some o):∀{xs:List PV}{vs:List V},zb xs=true->Reps H xs vs->Reps H' xs vs
 |[],vs,_,r=>reps_nil.mpr (reps_nil.mp r)
 |x::xs,vs,p,r=>by
  unfold zb at p;rw [yf] at p;obtain ⟨v,r',e,r1,r2⟩:=reps_cons.mp r;exact reps_cons.mpr ⟨v,r',e,Rep.nop g p.1 r1,Reps.nop g p.2 r2⟩
end
def QH (P:Program)(w:World)(K:Fg)(mg:Str->Option Value)(base:Heap)(k:Nat)(m:List PV->Option PV):Hp->V->Prop:=λH v=>∃ f,v = .ref f/\FrzFn H f /\
 ∀(A:Around)(outer:List Env)(s:Shared)(H2 Hs:Hp)(us:List Value)(vs:List V)(xs:List PV)(y:PV)(Q:VK)(E:XK),Room k A->Env0 P w K mg base A outer s H2->Same H Hs->Same Hs H2->Vals vs us->Reps Hs xs vs->m xs=some y ->
  (∀ v Hs' H',Ext Hs H2 Hs' H'->Rep Hs' y v->Q v H')->codeAny (model P w) A (.call (.ref f) ⟨us,[]⟩) (CR v6 outer P w H2 s Q E) s
def ju (n:Nat)(kb:M)(ws:List PV):List PV->Option PV:=λxs=>if xs.length=n/\zb (xs++ws)=true then kb ((xs++ws).map .sh) else none
section
variable {P:Program}{w:World}{K:Fg}{mg:Str->Option Value}{base:Heap}{k n i:Nat}
theorem Reps.app {H:Hp}:∀{xs ys:List PV}{vs ws:List V},Reps H xs vs->Reps H ys ws->Reps H (xs++ys) (vs++ws)
 |[],ys,vs,ws,r,q=>by cases reps_nil.mp r;exact q
 |x::xs,ys,vs,ws,r,q=>by
  obtain ⟨v,r',rfl,r1,r2⟩:=reps_cons.mp r;exact .cons r1 (Reps.app r2 q)
theorem LT [sb:SemE tb kb]{cv:List V}{cs:List Addr}{g:Addr->Obj}{c:Addr}(L:JG P w K mg base k n tb cv cs g H0 f c)(s0:Same H0 H)(hcs:∀ b∈cs,H b=some (.frz (g b) (.own b)))(rw':Reps H ws cv):QH P w K mg base (k+1) (ju n kb ws) H (.ref f):=by
 obtain ⟨F,_,h⟩:=L;refine ⟨f,rfl,F.mono s0,λA outer s H2 Hs us vs xs y Q E hr e0 g1 g2 rv r e q=>?_⟩;unfold ju at e;split at e
 ·rename_i hl;have c1:∀ b∈cs,Hs b=some (.frz (g b) (.own b)):=λb hb=>g1 _ _ (hcs b hb);have c2:∀ b∈cs,H2 b=some (.frz (g b) (.own b)):=λb hb=>g2 _ _ (c1 b hb);have sm:Same (xC cs Hs) (xC cs H2):=λb o z=>by
   by_cases hb:b∈cs
   ·rw [vg hb] at z;cases z
   ·rw [qh hb] at z ⊢;exact g2 _ _ z
  have rr:Reps (xC cs Hs) (xs++ws) (vs++cv):=Reps.nop (λb o z hz=>by
   rw [qh (λhb=>by rw [c1 b hb] at z;cases z;exact hz _ _ rfl)];exact z) hl.2 (Reps.app r (rw'.mono g1))
  refine h A outer s H2 us vs Q E hr e0 (λb o z=>g2 _ _ (g1 _ _ (s0 _ _ z))) rv (r.length.trans hl.1) (sb.h e (Tj sm rr) λv Hs' H' x rv hno=>?_);have sn:∀ b∈cs,Hs' b=none:=λb hb=>by
   cases z:Hs' b with
   |none=>rfl
   |some o=>have:=x.s3 _ _ z;rw [hno b hb] at this;cases this
  refine q v (o7 cs g Hs') (o7 cs g H') ⟨λb o z=>?_,λb o z=>?_,λb o z=>?_,λb z1 z2=>?_⟩ (rv.mono λb o z=>by rw [qy (λhb=>by rw [sn b hb] at z;cases z)];exact z)
  ·by_cases hb:b∈cs
   ·rw [c1 b hb] at z;rw [jB hb];exact z
   ·rw [qy hb];exact x.s1 _ _ (by rw [qh hb];exact z)
  ·by_cases hb:b∈cs
   ·rw [c2 b hb] at z;rw [jB hb];exact z
   ·rw [qy hb];exact x.s2 _ _ (by rw [qh hb];exact z)
  ·by_cases hb:b∈cs
   ·rw [jB hb] at z ⊢;exact z
   ·rw [qy hb] at z ⊢;exact x.s3 _ _ z
  ·have hb:b∉cs:=λhb=>by rw [c1 b hb] at z2;cases z2
   rw [qy hb];exact x.s4 b (by rw [qh hb];exact z1) (by rw [qh hb];exact z2)
 ·cases e
noncomputable def wT (P:Program)(w:World)(K:Fg)(mg:Str->Option Value)(base:Heap)(k:Nat)(m:List PV->Option PV)(i:Nat)(as:MA):M:=λε=>open Classical in if ε[i]?=some (.sh (.op (QH P w K mg base k m))) then (as ε).bind m else none
theorem Mr (hi:ε[i]?=some (.sh (.op (QH P w K mg base k m))))(h1:as ε=some xs)(h:m xs=r):wT P w K mg base k m i as ε=r:=by unfold wT;rw [if_pos hi,h1];exact h
instance semCallW [sa:xa ta as]:SemE (XV P w K mg base k i ta) (wT P w K mg base k m i as) where
 h:=λe Hs0 H0 Hs H σ rs Q q=>by
  unfold wT at e;split at e
  ·rename_i hi;obtain ⟨xs,ex,e1⟩:=bind_some e;obtain ⟨v,hv,rv⟩:=rs.sh i _ hi;obtain ⟨H'',s1,f,rfl,F,h⟩:=rep_op.mp rv;refine ⟨f,hv,F.mono λb o z=>rs.sub b o (s1 b o z),sa.h ex rs λvs Hs1 H1 x1 r1=>⟨x1.s2,λA outer s us hr e0 ru=>?_⟩⟩;exact h A outer s H1 Hs1 us vs xs _ Q E0 hr e0 (λb o z=>x1.s1 b o (s1 b o z)) x1.s3 ru r1 e1 λv Hs' H' x r=>q v _ _ (x1.trans x) r
  ·cases e
def wo (ε:ME):List Nat->Option (List PV)
 |[]=>some []
 |i::l=>match ε[i]? with
  |some (.sh x)=>(wo ε l).bind λxs=>some (x::xs)
  |_=>none
theorem PQ {Hs0 H0 Hs H:Hp}{σ:St}{ε:ME}(rs:RS Hs0 H0 Hs H σ ε):∀{fi:List Nat}{ws:List PV},wo ε fi=some ws->∃ cv:List V,(fi.map λi=>σ[i]?)=cv.map (λv=>some (some v))/\Reps Hs ws cv
 |[],ws,h=>by cases h;exact ⟨[],rfl,.nil⟩
 |i::fi,ws,h=>by
  unfold wo at h;split at h
  ·rename_i x hx;obtain ⟨xs,e,h⟩:=bind_some h;cases h;obtain ⟨cv,e1,r1⟩:=PQ rs e;obtain ⟨v,hv,rv⟩:=rs.sh i _ hx;exact ⟨v::cv,by rw [yO,yO,e1,hv],.cons rv r1⟩
  ·cases h
def Zx (φ:List PV->Hp->V->Prop)(fi:List Nat)(m:List PV->Option PV)(a b:M):MS:=λε=>(a ε).bind λx=>(b ε).bind λy=>(wo ε fi).bind λws=>(m [x,y,.op (φ ws)]).bind λz=>match z with
 | .lst zs=>if jc zs=true then some (.rt (.lst zs)) else none
 |_=>none
theorem Mx {φ:List PV->Hp->V->Prop}(h1:a ε=some x)(h2:b ε=some y)(hw:wo ε fi=some ws)(h3:m [x,y,.op (φ ws)]=some (.lst zs))(h4:jc zs=true):Zx φ fi m a b ε=some (.rt (.lst zs)):=by unfold Zx;rw [h1,yK,h2,yK,hw,yK,h3,yK];exact if_pos h4
theorem Td {sp:Sp}{ta:TE}[sl:SemE tl kb][sa:SemE ta a][sb:SemE tb b](hsp:∀ vs H Q E,p5 m vs H Q E->sp vs H Q E){o:Out}(e:Zx (λws=>QH P w K mg base (k+1) (ju n kb ws)) fi m a b ε=some o){Hs0 Hs:Hp}{σ:St}(rs:RS Hs0 H0 Hs H σ ε){D:xQ}(q:OutK true Hs0 H0 D o):ww (XU P w K mg base k n fi ψ tl sp (i4 ta (i4 tb (i4 (Jz ψ) ql)))) D σ H:=by
 obtain ⟨x,ex,e⟩:=bind_some e;obtain ⟨y,ey,e⟩:=bind_some e;obtain ⟨ws,ew,e⟩:=bind_some e;obtain ⟨z,ez,e⟩:=bind_some e;split at e
 ·rename_i zs;split at e
  ·rename_i hp;cases e;refine sa.h ex rs λv1 Hs1 H1 x1 r1=>sb.h ey (rs.go x1) λv2 Hs2 H2 x2 r2=>λf c H3 g R=>?_;obtain ⟨cv,ecv,rcv⟩:=PQ ((rs.go x1).go x2) ew;refine ⟨cv,ecv,λcs gg hno hL=>?_⟩;have L:=hL f c R;obtain ⟨⟨o1,o2,o3,o4,o5,hf⟩,⟨oc,u,hc⟩,_⟩:=id L;have tf:XY f c cs (o7 cs gg H3) f=o7 cs gg H3 f:=if_pos (.inl rfl);have tc:XY f c cs (o7 cs gg H3) c=o7 cs gg H3 c:=if_pos (.inr (.inl rfl));rw [tf] at hf;rw [tc] at hc
   let Hs3:Hp:=λb=>if b=f∨b=c∨b∈cs then o7 cs gg H3 b else Hs2 b
   have out:∀ b o,H3 b=some o->o7 cs gg H3 b=some o:=λb o e=>by rw [qy (λz=>by rw [hno b z] at e;cases e)];exact e
   have g3:∀ b o,Hs2 b=some o->o7 cs gg H3 b=some o:=λb o h=>out _ _ (g b o (x2.s3 b o h));have s3:Same Hs3 (o7 cs gg H3):=λb o h=>by
    have h:(if b=f∨b=c∨b∈cs then o7 cs gg H3 b else Hs2 b)=some o:=h;split at h
    ·exact h
    ·exact g3 b o h
   have s23:Same Hs2 Hs3:=λb o h=>by
    show (if b=f∨b=c∨b∈cs then o7 cs gg H3 b else Hs2 b)=some o;split
    ·exact g3 b o h
    ·exact h
   have st:Same (XY f c cs (o7 cs gg H3)) Hs3:=λb o h=>by
    unfold XY at h;show (if b=f∨b=c∨b∈cs then o7 cs gg H3 b else Hs2 b)=some o;split at h
    ·rename_i hb;rw [if_pos hb];exact h
    ·cases h
   have f3:Hs3 f=some (.frz ⟨o1,o2,.func o3,o4⟩ o5):=(if_pos (.inl rfl)).trans hf;have c3:Hs3 c=some (.frz oc u):=(if_pos (.inr (.inl rfl))).trans hc;have k3:∀ b∈cs,Hs3 b=some (.frz (gg b) (.own b)):=λb hb=>(if_pos (.inr (.inr hb))).trans (jB hb);refine hsp _ _ _ _ ⟨Hs3,[x,y,.op _],.lst zs,s3,.cons (r1.mono (x2.s1.trans s23)) (.cons (r2.mono s23) (.one (rep_op.mpr ⟨Hs3,λ_ _ h=>h,LT L st k3 (rcv.mono s23)⟩))),ez,λp Hs4 H4 x4 na ns tp hfin=>?_⟩
   let Hs5:Hp:=λb=>if (b=f∨b=c∨b∈cs)/\Hs2 b=none then none else Hs4 b
   have nc:∀ b o,Hs2 b=some o->b∉cs:=λb o h z=>by have:=g b o (x2.s3 b o h);rw [hno b z] at this;cases this
   have x5:Ext Hs2 H2 Hs5 (xC cs H4):=by
    refine ⟨λb o h=>?_,λb o h=>?_,λb o h=>?_,λb h z=>?_⟩
    ·show (if _ then _ else _)=_;rw [if_neg (λy=>by rw [y.2] at h;cases h)];exact x4.s1 b o (s23 b o h)
    ·have h3:=g b o h;rw [qh (λz=>by rw [hno b z] at h3;cases h3)];exact x4.s2 b o (out b o h3)
    ·have h:(if (b=f∨b=c∨b∈cs)/\Hs2 b=none then none else Hs4 b)=some o:=h;split at h
     ·cases h
     ·rename_i hn;rw [qh (λz=>hn ⟨.inr (.inr z),by
       cases hh:Hs2 b with
       |none=>rfl
       |some o=>exact absurd z (nc b o hh)⟩)]
      exact x4.s3 b o h
    ·show (if _ then _ else _)=_;by_cases hb:b=f∨b=c∨b∈cs
     ·rw [if_pos ⟨hb,z⟩]
     ·rw [if_neg (λy=>hb y.1)];refine x4.s4 b (λy=>h ?_) ?_
      ·cases hh:H2 b with
       |none=>rfl
       |some o=>rw [out b o (g b o hh)] at y;cases y
      ·show (if _ then _ else _)=_;rw [if_neg hb];exact z
   have n2:H2 p=none:=by
    cases hh:H2 p with
    |none=>rfl
    |some o=>rw [out p o (g p o hh)] at na;cases na
   have pc:p∉cs:=λz=>by rw [jB z] at na;cases na
   refine q p Hs5 (xC cs H4) (rs.ext.trans (x1.trans (x2.trans x5))) (rs.ext.s2.free (x1.s2.free (x2.s2.free n2))) ?_ ?_
   ·show (if _ then _ else _)=_;split
    ·rfl
    ·exact ns
   ·obtain ⟨vs,hv,rv⟩:=tp;refine ⟨vs,by rw [qh pc];exact hv,Reps.drop' (λb o h hn=>?_) hp rv⟩;show (if _ then _ else _)=_;rw [if_neg]
    ·exact h
    ·rintro ⟨rfl|rfl|hb,_⟩
     ·rw [x4.s1 _ _ f3] at h;cases h;exact hn _ _ rfl
     ·rw [x4.s1 _ _ c3] at h;cases h;exact hn _ _ rfl
     ·rw [x4.s1 _ _ (k3 b hb)] at h;cases h;exact hn _ _ rfl
  ·cases e
 ·cases e
end
def XT (M:(List PV->Option PV)->List PV->Option PV):Sp:=λvs H Q E=>∃ mL,p5 (M mL) vs H Q E
theorem okOE {k:Nat}{fd:FuncData}{ps:List Str}{M:(List PV->Option PV)->List PV->Option PV}(h:∀ mL,FnOk P w K mg base v6 k f fd ps (p5 (M mL))):FnOk P w K mg base v6 k f fd ps (XT M) :=
 ⟨λvs H Q E ⟨mL,z⟩=>(h mL).len vs H Q E z,λA outer s H args us vs Q E hr e0 b r ⟨mL,z⟩=>(h mL).run A outer s H args us vs Q E hr e0 b r z⟩
abbrev QI (q:LQ)(k:Nat)(m:List PV->Option PV):Hp->V->Prop:=QH q.P q.w q.K q.mg q.base k m
noncomputable def Zu (q:LQ)(k:Nat)(m:List PV->Option PV)(i:Nat)(as:MA):M:=wT q.P q.w q.K q.mg q.base k m i as
theorem Ms {k i:Nat}(hi:ε[i]?=some (.sh (.op (QI q k m))))(h1:as ε=some xs)(h:m xs=r):Zu q k m i as ε=r:=Mr hi h1 h
instance Ff {k i:Nat}[sa:xa ta as]:SemE (XV P w K mg base k i ta) (Zu (LQ.mk P w K mg base) k m i as) where
 h:=λe _ _ _ _ _ rs _ q=>SemE.h (te:=XV P w K mg base k i ta) (f:=wT P w K mg base k m i as) e rs q
def QS (q:LQ)(k n:Nat)(kb:M)(fi:List Nat)(M:(List PV->Option PV)->List PV->Option PV)(a b:Mi.M):MS:=λε=>(wo ε fi).bind λws=>Zx (λws=>QI q k (ju n kb ws)) fi (M (ju n kb ws)) a b ε
theorem My {k:Nat}{kb:M}{M:(List PV->Option PV)->List PV->Option PV}{a b:Mi.M}(h1:a ε=some x)(h2:b ε=some y)(hw:wo ε fi=some ws)(h3:M (ju n kb ws) [x,y,.op (QI q k (ju n kb ws))]=some (.lst zs))(h4:jc zs=true):QS q k n kb fi M a b ε=some (.rt (.lst zs)):=by unfold QS;rw [hw,yK];exact Mx h1 h2 hw h3 h4
instance Fh {k:Nat}{ta:TE}{kb a b:M}{M:(List PV->Option PV)->List PV->Option PV}[sl:SemE tl kb][sa:SemE ta a][sb:SemE tb b]:qd true (ww (XU P w K mg base k n fi ψ tl (XT M) (i4 ta (i4 tb (i4 (Jz ψ) ql))))) (QS (LQ.mk P w K mg base) (k+1) n kb fi M a b) where
 h:=λ{ε o} e Hs0 H0 Hs H σ rs D q=>by
  unfold QS at e;obtain ⟨ws,ew,e⟩:=bind_some e;exact Td (λvs H Q E z=>⟨_,z⟩) e rs q
end Mi
namespace L2
open PySem PySem.Spec PySem.Calls PyProof.Rows Mi
variable{X:Cx}{P:Program}{w:World}{K:Fg}{mg:Str->Option Value}{base:Heap}{x:Str}{p pos:Pos}{sp:Sp}{lps pps:List Str}{j kk n:Nat}{body:Expr}{tb:TE}{params:Arguments}{scope:Scope}{clos:List (Str×Addr)}{fi:List Nat}
theorem Ri {e:Expr}{es:List Expr}{t:TA}{k:Nat}{fr:List Str}(z:LQ.mk X.prog X.w X.K X.mg X.base=LQ.mk P w K mg base)(c:Fn X.prog X.w X.K X.mg X.base kk x pps sp)(hr:Room j X.A)(hj:kk<=j)(hg:Gl X x)(ha:PA X (e::es) t)(S:wD lps fr scope)(hn:lps.length=n)(LF:Zd X scope clos fr fi)(hfn:∀ y∈fr,X.fn y=true)(hall:∀ y c,clos.lookup y=some c->y∈fr)(hb:∀ (f c':Addr) (A:Around) (outer:List Env) (s:Shared) (H:Hp),Room k (A.deeper (PySem.W.envX (X.env.qual ++ "<lambda>") scope s.heap.objs.size f (.ref c') clos))->PE (jV X.prog X.w X.K X.mg X.base (lps++fr) (X.env.qual ++ "<lambda>") scope f c' clos A outer s H) body tb)(hbd:∀ (qual:Str) (pm cdv ctv:Value) (us:List Value),us.length=n->bindArgs (PySem.W.kla_fn "<lambda>" qual params body scope clos pm cdv ctv) ⟨us,[]⟩=pure (lps.zip us))(hdb:(x==("__debug__":Str))=false:=by decide)(he:starEach (e::es) X.env=(false,eval e X.env)::starEach es X.env:=by rfl)(hpl:(backTo pos (starEach es X.env)).any (·.1)=false:=by rfl):PE X (.Call (.Name x p) (e::es) [] pos) (XU P w K mg base k n fi (wC (X.env.qual ++ "<lambda>") params body scope clos ((X.mg "__name__").getD .none)) tb sp t):=by injection z with z1 z2 z3 z4 z5;have q:=Rh (X:=X) (p:=p) (pos:=pos) c hr hj hg ha S hn LF hfn hall hb hbd hdb he hpl;rw [z1,z2,z3,z5] at q;rw [z4] at q ⊢;exact q
theorem Rj {lp:Pos}{e1 e2:Expr}{t1 t2:TE}{k:Nat}{fr:List Str}{cc Pt:Addr}{pt:Array Value}{wt:List (Pos×Str)}(z:LQ.mk X.prog X.w X.K X.mg X.base=LQ.mk P w K mg base)(c:Fn X.prog X.w X.K X.mg X.base kk x pps sp)(hr:Room j X.A)(hj:kk<=j)(hg:Gl X x)(h1:PE X e1 t1)(h2:PE X e2 t2)(hP:(Pt,pt,wt)∈TABS)(hw:(lp,X.env.qual ++ "<lambda>")∈wt)(hu:∀ p∈wt,(p.1.line==lp.line&&p.1.col==lp.col)=true->p.2=X.env.qual ++ "<lambda>")(hcode:X.env.code = .ref cc)(hC:∀ h:Heap,X.K.In h->PySem.W.CodeHd h cc Pt)(S:wD lps fr scope)(hn:lps.length=n)(LF:Zd X scope clos fr fi)(hfn:∀ y∈fr,X.fn y=true)(hall:∀ y c,clos.lookup y=some c->y∈fr)(hb:∀ (f c':Addr) (A:Around) (outer:List Env) (s:Shared) (H:Hp),Room k (A.deeper (PySem.W.envX (X.env.qual ++ "<lambda>") scope s.heap.objs.size f (.ref c') clos))->PE (jV X.prog X.w X.K X.mg X.base (lps++fr) (X.env.qual ++ "<lambda>") scope f c' clos A outer s H) body tb)(hbd:∀ (qual:Str) (pm cdv ctv:Value) (us:List Value),us.length=n->bindArgs (PySem.W.kla_fn "<lambda>" qual params body scope clos pm cdv ctv) ⟨us,[]⟩=pure (lps.zip us))(hcl:closureFor scope X.env=pure clos:=by rfl)(hdef:defaultsOf params X.env=([],[]):=by rfl)(hdb:(x==("__debug__":Str))=false:=by decide)(s1:starEach [e1,e2,.Lambda params body scope lp] X.env=(false,eval e1 X.env)::starEach [e2,.Lambda params body scope lp] X.env:=by rfl)(s2:starEach [e2,.Lambda params body scope lp] X.env=(false,eval e2 X.env)::starEach [.Lambda params body scope lp] X.env:=by rfl)(s3:starEach [.Lambda params body scope lp] X.env=(false,eval (.Lambda params body scope lp) X.env)::starEach [] X.env:=by rfl)(hpl:(backTo pos (starEach [e2,.Lambda params body scope lp] X.env)).any (·.1)=false:=by rfl):PE X (.Call (.Name x p) [e1,e2,.Lambda params body scope lp] [] pos) (XU P w K mg base k n fi (wC (X.env.qual ++ "<lambda>") params body scope clos ((X.mg "__name__").getD .none)) tb sp (i4 t1 (i4 t2 (i4 (Jz (wC (X.env.qual ++ "<lambda>") params body scope clos ((X.mg "__name__").getD .none))) ql)))) :=
 Ri z c hr hj hg (v8 h1 (v8 h2 (v8 (Rk hP hw hu hcode hC hcl hdef) u9 s3) s2) s1) S hn LF hfn hall hb hbd hdb s1 hpl
end L2
namespace L2
open PySem PySem.Spec PySem.Calls PyProof.Rows
variable{x:Str}{pos:Pos}
section
variable {X:Cx}{K:Fg}
theorem fW {ps:List Str}{sp:Sp}{k j:Nat}{e:Expr}{es:List Expr}{t:TA}{p:Pos}(c:Fn X.prog X.w X.K X.mg X.base k x ps sp)(hr:Room j X.A)(ha:PA X (e::es) t)(hj:k<=j:=by decide)(hg:Gl X x:=by rfl)(hdb:(x==("__debug__":Str))=false:=by decide)(he:starEach (e::es) X.env=(false,eval e X.env)::starEach es X.env:=by rfl)(hpl:(backTo pos (starEach es X.env)).any (·.1)=false:=by rfl):PE X (.Call (.Name x p) (e::es) [] pos) (jM sp [] E0 t):=qA c hr hj hg ha hdb he hpl
theorem gW (i:Nat)(hN:X.N.Nodup)(hi:X.N[i]?=some x:=by rfl)(hx:Loc X.env.scope x:=by first|exact Or.inl rfl|exact Or.inr rfl)(hf:X.fn x=true∨X.env.scope.names.lookup x=some .local:=by first|exact .inl rfl|exact .inr rfl):PG X (.Name x pos) (qV i):=c9 hN hi hx hf
end
end L2
namespace Lw
open PySem L2 Mi
variable{rss:List (List Int)}{h j t:Nat}{α β:Type}{H:Hp}{m p pr:Nat×Nat}{l n v way:Int}{r:List Int}{vs:List V}{Q:VK}{E:XK}{ε:ME}{as:List Addr}{σ:St}{xs:List PV}{u:V}{N R ps ss:List Str}{A9 B8 D9 N4:Tok}{Aa C P_l c_l:Addr}{p_l:Array Value}{q qual s:Str}{ks:List j4}{z:PV}{rows:Nat->List Str}{ms:List (Nat×Nat)}{st:Stmt}{cd ct dc oc pm:Value}{an od:Option Addr}{sl:Array (Option Value)}
variable {P:Program}{w:World}{K:Fg}{mg:Str->Option Value}{base:Heap}{f:Addr}{fd:FuncData}
theorem l0:0<=lim:=by decide
theorem l1:1<=lim:=by decide
theorem l2:2<=lim:=by decide
theorem l3:3<=lim:=by decide
theorem l4:4<=lim:=by decide
theorem l5:5<=lim:=by decide
theorem l6:6<=lim:=by decide
theorem l7:7<=lim:=by decide
theorem l8:8<=lim:=by decide
theorem l9:9<=lim:=by decide
structure m7 (h:Nat)(rss:List (List Int)):Prop where
 len:rss.length=h+1
 row:∀ r∈rss,r.length=h/\∀ v∈r,0<=v/\v<10 ^ 30
def rin (rss:List (List Int))(f g:Int):Int:=((atI rss f).bind λr=>atI r g).getD 0
def qJ (rss:List (List Int)):Int->List Int->Int
 |_,[]=>0
 |f,h::r=>rin rss f h+qJ rss h r
theorem XL (e:rss.length=h+1)(g:Int):rin rss (-1) g=rin rss (h:Int) g:=by
 unfold rin atI;rw [e];have e1:ixN (h+1) (-1)=some h:=by
  unfold ixN;rw [if_neg (by decide),if_pos (by omega)]
  congr 1
  omega
 have e2:ixN (h+1) (h:Int)=some h:=by
  unfold ixN;rw [if_pos (by omega),if_pos (by omega)]
  congr 1
 rw [e1,e2]
abbrev Wy:=Int×List Int
variable{T:List (List Wy)}{onw ws:List Wy}
def zX (a b:Wy):Wy:=if b.1<a.1 then b else a
def zD (a b:Wy):Wy:=(a.1+b.1,a.2++b.2)
def thr (ws:List Wy)(k:Nat)(onw:List Wy):List Wy:=List.zipWith (λw m=>zX w (zD (ws.getD k (0,[])) m)) ws onw
def xc (T:List (List Wy))(k:Nat):List (List Wy):=T.map λrow=>thr row k (T.getD k [])
def zM (row:List Int):List Wy:=row.mapIdx λi v=>(v,[(i:Int)])
def c5 (rss:List (List Int)):Nat->List (List Wy)
 |0=>rss.map zM
 |k+1=>xc (c5 rss k) k
def y7 (T:List (List Wy))(f g:Nat):Wy:=(T.getD f []).getD g (0,[])
def qf (rss:List (List Int))(h:Nat):List (List Int):=(c5 rss h).map λrow=>row.map (·.1)
structure Shp (h:Nat)(T:List (List Wy)):Prop where
 len:T.length=h+1
 row:∀ r∈T,r.length=h
theorem u8 {l:List α}{i:Nat}{d:α}(h:i<l.length):l.getD i d=l[i]:=by rw [yC,yY h];rfl
theorem Shp.rowAt (S:Shp h T){f:Nat}(hf:f<=h):(T.getD f []).length=h:=by
 have hl:f<T.length:=by have:=S.len;omega
 rw [u8 hl];exact S.row _ (yA hl)
theorem Cv {k:Nat}(h:ws.length=onw.length):(thr ws k onw).length=ws.length:=by unfold thr;rw [List.length_zipWith,h,Nat.min_self]
theorem Shp.step (S:Shp h T){k:Nat}(hk:k<h):Shp h (xc T k):=by refine ⟨by unfold xc;rw [yZ];exact S.len,λr hr=>?_⟩;unfold xc at hr;obtain ⟨row,hm,rfl⟩:=yz.mp hr;have e1:=S.row row hm;rw [Cv (by rw [e1,S.rowAt (by omega)]),e1]
theorem wX (S:Shp h T){k f g:Nat}(hk:k<h)(hf:f<=h)(hg:g<h):y7 (xc T k) f g=zX (y7 T f g) (zD (y7 T f k) (y7 T k g)):=by
 have hl:f<T.length:=by have:=S.len;omega
 have hl2:f<(xc T k).length:=by unfold xc;rw [yZ];exact hl
 have e1:(xc T k).getD f []=thr (T.getD f []) k (T.getD k []):=by unfold xc;rw [u8 (by rw [yZ];exact hl),ya,u8 hl]
 have r1:=S.rowAt hf;have r2:=S.rowAt (f:=k) (by omega);unfold y7;rw [e1,u8 (by rw [Cv (by rw [r1,r2])];omega),u8 (l:=T.getD f []) (i:=g) (by omega),u8 (l:=T.getD k []) (i:=g) (by omega)];unfold thr;rw [List.getElem_zipWith]
theorem Shp.start (G:m7 h rss):Shp h (c5 rss 0):=by refine ⟨by show (rss.map zM).length=_;rw [yZ];exact G.len,λr hr=>?_⟩;obtain ⟨row,hm,rfl⟩:=yz.mp hr;unfold zM;rw [List.length_mapIdx];exact (G.row row hm).1
theorem Shp.all {h:Nat}{rss:List (List Int)}(G:m7 h rss):∀ k,k<=h->Shp h (c5 rss k)
 |0,_=>Shp.start G
 |k+1,hk=>(Shp.all G k (by omega)).step (by omega)
theorem zK (G:m7 h rss){f g:Nat}(hf:f<=h)(hg:g<h):rin rss (f:Int) (g:Int)=(rss.getD f []).getD g 0:=by
 have hl:f<rss.length:=by have:=G.len;omega
 have e1:atI rss (f:Int)=some rss[f]:=xS (yY hl);have hg2:g<rss[f].length:=by rw [(G.row _ (yA hl)).1];exact hg
 have e2:atI rss[f] (g:Int)=some rss[f][g]:=xS (yY hg2);unfold rin;rw [e1];show (atI rss[f] (g:Int)).getD 0=_;rw [e2,u8 hl,u8 hg2];rfl
theorem ZA (G:m7 h rss){f g:Nat}(hf:f<=h)(hg:g<h):y7 (c5 rss 0) f g=(rin rss (f:Int) (g:Int),[(g:Int)]):=by
 have hl:f<rss.length:=by have:=G.len;omega
 have hl2:f<(rss.map zM).length:=by rw [yZ];exact hl
 have hg2:g<rss[f].length:=by rw [(G.row _ (yA hl)).1];exact hg
 rw [zK G hf hg];unfold y7;show ((rss.map zM).getD f []).getD g (0,[])=_;rw [u8 hl2,ya,u8 (by unfold zM;rw [List.length_mapIdx];exact hg2),u8 hl,u8 hg2];unfold zM;rw [List.getElem_mapIdx]
theorem Px (G:m7 h rss){f g:Nat}(hf:f<=h)(hg:g<h):0<=rin rss (f:Int) (g:Int):=by
 have hl:f<rss.length:=by have:=G.len;omega
 have hg2:g<rss[f].length:=by rw [(G.row _ (yA hl)).1];exact hg
 rw [zK G hf hg,u8 hl,u8 hg2];exact ((G.row _ (yA hl)).2 _ (yA hg2)).1
theorem JE {rss:List (List Int)}:∀{xs ys:List Int}{f g:Int},xs.getLast?=some g->qJ rss f (xs++ys)=qJ rss f xs+qJ rss g ys
 |[],_,_,_,e=>by simp at e
 |[x],ys,f,g,e=>by
  have e':x=g:=by simpa using e
  subst e';show rin rss f x+qJ rss x ys=rin rss f x+0+qJ rss x ys;omega
 |x::y::r,ys,f,g,e=>by
  have q:=JE (rss:=rss) (xs:=y::r) (ys:=ys) (f:=x) (g:=g) (by simpa [List.getLast?_cons_cons] using e);show rin rss f x+qJ rss x (y::r++ys)=rin rss f x+qJ rss x (y::r)+qJ rss g ys;rw [q];omega
structure WayOk (rss:List (List Int))(h:Nat)(f g:Nat)(w:Wy):Prop where
 sum:w.1=qJ rss (f:Int) w.2
 last:w.2.getLast?=some (g:Int)
 ok:∀ x∈w.2,0<=x/\x<(h:Int)
structure FW (rss:List (List Int))(h k:Nat)(T:List (List Wy)):Prop where
 way:∀ f g,f<=h->g<h->WayOk rss h f g (y7 T f g)
 pos:∀ f g,f<=h->g<h->0<=(y7 T f g).1
 le:∀ f g,f<=h->g<h->(y7 T f g).1<=rin rss (f:Int) (g:Int)
 tri:∀ j f g,j<k->f<=h->g<h->(y7 T f g).1<=(y7 T f j).1+(y7 T j g).1
 len:∀ f g,f<=h->g<h->(y7 T f g).2.length<=2 ^ k
theorem Qh (a b:Wy):(zX a b=a/\a.1<=b.1)∨(zX a b=b/\b.1<a.1):=by
 unfold zX;by_cases h:b.1<a.1
 ·rw [if_pos h];exact .inr ⟨rfl,h⟩
 ·rw [if_neg h];exact .inl ⟨rfl,by omega⟩
theorem LW (a b:Wy):(zX a b).1<=a.1/\(zX a b).1<=b.1:=by
 rcases Qh a b with ⟨e,q⟩|⟨e,q⟩
 ·rw [e];exact ⟨uS _,q⟩
 ·rw [e];exact ⟨Int.le_of_lt q,uS _⟩
theorem WayOk.join {f k g:Nat}{a b:Wy}(x:WayOk rss h f k a)(y:WayOk rss h k g b):WayOk rss h f g (zD a b):=by
 refine ⟨?_,?_,λz hz=>?_⟩
 ·show a.1+b.1=qJ rss f (a.2++b.2);rw [JE x.last,x.sum,y.sum]
 ·show (a.2++b.2).getLast?=_;rw [List.getLast?_append,y.last];rfl
 ·rcases yc.mp hz with q|q
  ·exact x.ok z q
  ·exact y.ok z q
theorem FW.start (G:m7 h rss):FW rss h 0 (c5 rss 0):=by
 refine ⟨λf g hf hg=>?_,λf g hf hg=>?_,λf g hf hg=>?_,λj f g hj=>absurd hj (by omega),λf g hf hg=>?_⟩
 ·rw [ZA G hf hg];refine ⟨?_,rfl,λx hx=>?_⟩
  ·show rin rss f g=rin rss f g+0;omega
  ·have e:x=(g:Int):=by simpa using hx
   rw [e];omega
 ·rw [ZA G hf hg];exact Px G hf hg
 ·rw [ZA G hf hg];exact uS _
 ·rw [ZA G hf hg];exact yV 1
theorem FW.step {k:Nat}(S:Shp h T)(x:FW rss h k T)(hk:k<h):FW rss h (k+1) (xc T k):=by
 have kl:k<=h:=by omega
 have toK:∀ f,f<=h->(y7 (xc T k) f k).1=(y7 T f k).1:=λf hf=>by
  rw [wX S hk hf hk];rcases Qh (y7 T f k) (zD (y7 T f k) (y7 T k k)) with ⟨e,q⟩|⟨e,q⟩
  ·rw [e]
  ·have p:=x.pos k k kl hk;have q':(y7 T f k).1+(y7 T k k).1<(y7 T f k).1:=q;omega
 have ofK:∀ g,g<h->(y7 (xc T k) k g).1=(y7 T k g).1:=λg hg=>by
  rw [wX S hk kl hg];rcases Qh (y7 T k g) (zD (y7 T k k) (y7 T k g)) with ⟨e,q⟩|⟨e,q⟩
  ·rw [e]
  ·have p:=x.pos k k kl hk;have q':(y7 T k k).1+(y7 T k g).1<(y7 T k g).1:=q;omega
 have bound:∀ f g,f<=h->g<h->(y7 (xc T k) f g).1<=(y7 T f g).1/\(y7 (xc T k) f g).1<=(y7 T f k).1+(y7 T k g).1:=λf g hf hg=>by
  rw [wX S hk hf hg];exact LW _ _
 have alt:∀ f g,f<=h->g<h->(y7 (xc T k) f g).1=(y7 T f g).1∨(y7 (xc T k) f g).1=(y7 T f k).1+(y7 T k g).1:=λf g hf hg=>by
  rw [wX S hk hf hg];rcases Qh (y7 T f g) (zD (y7 T f k) (y7 T k g)) with ⟨e,q⟩|⟨e,q⟩
  ·rw [e];exact .inl rfl
  ·rw [e];exact .inr rfl
 refine ⟨λf g hf hg=>?_,λf g hf hg=>?_,λf g hf hg=>uN (bound f g hf hg).1 (x.le f g hf hg),λj f g hj hf hg=>?_,λf g hf hg=>?_⟩
 ·rw [wX S hk hf hg];rcases Qh (y7 T f g) (zD (y7 T f k) (y7 T k g)) with ⟨e,_⟩|⟨e,_⟩
  ·rw [e];exact x.way f g hf hg
  ·rw [e];exact (x.way f k hf hk).join (x.way k g kl hg)
 ·rcases alt f g hf hg with e|e
  ·rw [e];exact x.pos f g hf hg
  ·rw [e];have p1:=x.pos f k hf hk;have p2:=x.pos k g kl hg;omega
 ·by_cases hjk:j=k
  ·subst hjk;rw [toK f hf,ofK g hg];exact (bound f g hf hg).2
  ·have hj':j<k:=by omega
   have jl:j<=h:=by omega
   have jh:j<h:=by omega
   have b:=bound f g hf hg;have t1:=x.tri j f g hj' hf hg;have t2:=x.tri j f k hj' hf hk;have t3:=x.tri j k g hj' kl hg;have t4:=x.pos k j kl jh;have t5:=x.pos j k jl hk;rcases alt f j hf jh with e1|e1<;>rcases alt j g jl hg with e2|e2<;>rw [e1,e2]<;>omega
 ·rw [wX S hk hf hg];have e:2 ^ (k+1)=2 ^ k+2 ^ k:=by rw [Nat.pow_succ];omega
  rcases Qh (y7 T f g) (zD (y7 T f k) (y7 T k g)) with ⟨q,_⟩|⟨q,_⟩
  ·rw [q];have:=x.len f g hf hg;omega
  ·rw [q];have a1:=x.len f k hf hk;have a2:=x.len k g kl hg;show ((y7 T f k).2++(y7 T k g).2).length<=_;rw [yN];omega
theorem FW.all {h:Nat}{rss:List (List Int)}(G:m7 h rss):∀ k,k<=h->FW rss h k (c5 rss k)
 |0,_=>FW.start G
 |k+1,hk=>FW.step (Shp.all G k (by omega)) (FW.all G k (by omega)) (by omega)
theorem VN (G:m7 h rss){f g:Nat}(hf:f<=h)(hg:g<h):((qf rss h).getD f []).getD g 0=(y7 (c5 rss h) f g).1:=by
 have S:=Shp.all G h (yV _);have hl:f<(c5 rss h).length:=by have:=S.len;omega
 have hl2:f<(qf rss h).length:=by unfold qf;rw [yZ];exact hl
 have r:=S.rowAt hf;rw [u8 hl] at r;unfold y7;rw [u8 hl,u8 (l:=(c5 rss h)[f]) (by omega)];unfold qf;rw [u8 (l:=(c5 rss h).map λrow=>row.map (·.1)) (i:=f) (by rw [yZ];exact hl),ya,u8 (by rw [yZ];omega),ya]
theorem zF (G:m7 h rss):m7 h (qf rss h):=by
 have S:=Shp.all G h (yV _);have F:=FW.all G h (yV _);refine ⟨by unfold qf;rw [yZ];exact S.len,λr hr=>?_⟩;unfold qf at hr;obtain ⟨row,hm,rfl⟩:=yz.mp hr;refine ⟨by rw [yZ];exact S.row row hm,λv hv=>?_⟩;obtain ⟨w,hw,rfl⟩:=yz.mp hv;obtain ⟨f,hf,rfl⟩:=uL hm;obtain ⟨g,hg,rfl⟩:=uL hw;have hf':f<=h:=by have:=S.len;omega
 have hg':g<h:=by rw [<- S.row _ hm];exact hg
 have e:y7 (c5 rss h) f g=(c5 rss h)[f][g]:=by unfold y7;rw [u8 hf,u8 hg]
 have p:=F.pos f g hf' hg';have l:=F.le f g hf' hg';rw [e] at p l;refine ⟨p,Int.lt_of_le_of_lt l ?_⟩;have hl:f<rss.length:=by have:=G.len;omega
 have hg2:g<rss[f].length:=by rw [(G.row _ (yA hl)).1];exact hg'
 rw [zK G hf' hg',u8 hl,u8 hg2];exact ((G.row _ (yA hl)).2 _ (yA hg2)).2
theorem VO (G:m7 h rss){f g:Nat}(hf:f<=h)(hg:g<h):rin (qf rss h) (f:Int) (g:Int)=(y7 (c5 rss h) f g).1:=by rw [zK (zF G) hf hg,VN G hf hg]
theorem CS {rss:List (List Int)}{h:Nat}(G:m7 h rss):∀(hs:List Int)(f:Nat),f<=h->(∀ x∈hs,0<=x/\x<(h:Int))->0<=qJ rss (f:Int) hs
 |[],_,_,_=>uS _
 |x::r,f,hf,ho=>by
  obtain ⟨x0,x1⟩:=ho x yU;obtain ⟨m,rfl⟩:=yo x0;have q:=CS G r m (by omega) λy hy=>ho y (yW _ hy);have p:=Px G hf (g:=m) (by omega);show 0<=rin rss f m+qJ rss m r;omega
theorem PU {rss:List (List Int)}{h:Nat}(G:m7 h rss){g:Nat}(hg:g<h):∀(mids:List Int)(f:Nat),f<=h->(∀ x∈mids,0<=x/\x<(h:Int)) -> ∃ ms:List Int,ms.Nodup/\(∀ x∈ms,x∈mids)/\qJ rss (f:Int) (ms++[(g:Int)])<=qJ rss (f:Int) (mids++[(g:Int)])
 |[],_,_,_=>⟨[],uk,λ_ z=>z,uS _⟩
 |x::r,f,hf,ho=>by
  obtain ⟨x0,x1⟩:=ho x yU;obtain ⟨m,rfl⟩:=yo x0;obtain ⟨ms,hn,hs,hw⟩:=PU G hg r m (by omega) λy hy=>ho y (yW _ hy);by_cases hm:(m:Int)∈ms
  ·obtain ⟨p,s,rfl⟩:=List.append_of_mem hm;have hn2:=tZ.mp hn;refine ⟨(m:Int)::s,hn2.2.1,λy hy=>?_,?_⟩
   ·rcases yH.mp hy with e|hy
    ·rw [e];exact yU
    ·exact yW _ (hs y (yw _ (yW _ hy)))
   ·have e1:p++(m:Int)::s++[(g:Int)]=(p++[(m:Int)])++(s++[(g:Int)]):=by simp
    rw [e1,JE (g:=(m:Int)) (by simp)] at hw;have nn:=CS G (p++[(m:Int)]) m (by omega) (λy hy=>by
     rcases yc.mp hy with hy|hy
     ·exact ho y (yW _ (hs y (uQ _ hy)))
     ·rw [yJ.mp hy];exact ⟨x0,x1⟩)
    show rin rss f m+qJ rss m (s++[(g:Int)])<=rin rss f m+qJ rss m (r++[(g:Int)]);omega
  ·refine ⟨(m:Int)::ms,yp.mpr ⟨hm,hn⟩,λy hy=>?_,?_⟩
   ·rcases yH.mp hy with e|hy
    ·rw [e];exact yU
    ·exact yW _ (hs y hy)
   ·show rin rss f m+qJ rss m (ms++[(g:Int)])<=rin rss f m+qJ rss m (r++[(g:Int)]);omega
def ZJ (h:Nat):List Int:=(List.range h).map λ(i:Nat)=>(i:Int)
theorem mem_huesL {x:Int}:x∈ZJ h↔0<=x/\x<(h:Int):=by
 unfold ZJ;constructor
 ·intro hx;obtain ⟨i,hi,rfl⟩:=yz.mp hx;have:=yu.mp hi;omega
 ·intro hx;exact yz.mpr ⟨x.toNat,yu.mpr (by omega),by omega⟩
theorem VX {α:Type}[DecidableEq α]:∀{ms left:List α},ms.Nodup->(∀ x∈ms,x∈left)->ms.length<=left.length
 |[],_,_,_=>uY _
 |x::r,left,hn,hs=>by
  have hn':=yp.mp hn;have q:=VX (ms:=r) (left:=left.erase x) hn'.2 (λy hy=>(List.mem_erase_of_ne (λe=>hn'.1 (by rw [e] at hy;exact hy))).mpr (hs y (yW _ hy)));have hx:=hs x yU;rw [List.length_erase_of_mem hx] at q;have pos:0<left.length:=List.length_pos_of_mem hx;show r.length+1<=_;omega
def QM (rss:List (List Int))(h:Nat)(row:List Int):List Int:=(List.range h).map λg=>jA (row.getD g 0::(List.range h).map λa=>row.getD a 0+(rss.getD a []).getD g 0)
def bfN (rss:List (List Int))(h:Nat):Nat->List (List Int)
 |0=>rss
 |k+1=>(bfN rss h k).map (QM rss h)
theorem JP {rss:List (List Int)}{h:Nat}(G:m7 h rss):∀ k,(bfN rss h k).length=h+1/\∀ r∈bfN rss h k,r.length=h
 |0=>⟨G.len,λr hr=>(G.row r hr).1⟩
 |k+1=>by
  have ih:=JP G k;refine ⟨by show ((bfN rss h k).map _).length=_;rw [yZ];exact ih.1,λr hr=>?_⟩;obtain ⟨q,_,rfl⟩:=yz.mp hr;unfold QM;rw [yZ,uZ]
def n5 (rss:List (List Int))(h k f g:Nat):Int:=((bfN rss h k).getD f []).getD g 0
theorem Zm (G:m7 h rss){k f g:Nat}(hf:f<=h)(hg:g<h):n5 rss h (k+1) f g=jA (n5 rss h k f g::(List.range h).map λa=>n5 rss h k f a+rin rss (a:Int) (g:Int)):=by
 have L:=JP G k;have hl:f<(bfN rss h k).length:=by omega
 unfold n5;show (((bfN rss h k).map (QM rss h)).getD f []).getD g 0=_;rw [u8 (l:=(bfN rss h k).map (QM rss h)) (i:=f) (by rw [yZ];exact hl),ya,u8 (l:=bfN rss h k) (i:=f) hl];unfold QM;rw [u8 (by rw [yZ,uZ];exact hg),ya,List.getElem_range]
 congr 2
 refine List.map_congr_left λa ha=>?_;rw [zK G (by have:=yu.mp ha;omega) hg]
theorem Zn {rss:List (List Int)}{h:Nat}(G:m7 h rss):∀ k f g,f<=h->g<h->(y7 (c5 rss h) f g).1<=n5 rss h k f g
 |0,f,g,hf,hg=>by
  have q:=(FW.all G h (yV _)).le f g hf hg;rw [zK G hf hg] at q;exact q
 |k+1,f,g,hf,hg=>by
  rw [Zm G hf hg];have m:=Xs (l:=n5 rss h k f g::(List.range h).map λa=>n5 rss h k f a+rin rss (a:Int) (g:Int)) (by simp);rcases yH.mp m with e|e
  ·rw [e];exact Zn G k f g hf hg
  ·obtain ⟨a,ha,e2⟩:=yz.mp e;rw [<- e2];have ha':=yu.mp ha;have F:=FW.all G h (yV _);have i:=Zn G k f a hf ha';have t:=F.tri a f g ha' hf hg;have l:=F.le a g (by omega) hg;omega
theorem JQ {rss:List (List Int)}{h:Nat}(G:m7 h rss):∀(k:Nat)(ms:List Int)(f g:Nat),f<=h->g<h->(∀ x∈ms,0<=x/\x<(h:Int))->ms.length<=k->n5 rss h k f g<=qJ rss (f:Int) (ms++[(g:Int)])
 |0,ms,f,g,hf,hg,_,hl=>by
  have:ms=[]:=uy.mp (by omega);subst this;show _<=rin rss f g+0;rw [zK G hf hg];show (rss.getD f []).getD g 0<=_;omega
 |k+1,ms,f,g,hf,hg,ho,hl=>by
  rw [Zm G hf hg];by_cases hk:ms.length<=k
  ·exact uN (Qp yU) (JQ G k ms f g hf hg ho hk)
  ·have hne:ms≠[]:=λz=>by rw [z] at hk;simp at hk
   have e:=List.dropLast_concat_getLast hne;obtain ⟨x0,x1⟩:=ho (ms.getLast hne) (List.getLast_mem hne);obtain ⟨a,ha⟩:=yo x0;rw [ha] at x1 e;have i:=JQ G k ms.dropLast f a hf (by omega) (λx hx=>ho x ((List.dropLast_sublist ms).subset hx)) (by rw [List.length_dropLast];omega);refine uN (Qp (yW _ (yz.mpr ⟨a,yu.mpr (by omega),rfl⟩))) ?_;rw [<- e,JE (g:=(a:Int)) (by simp)];show _<=qJ rss f (ms.dropLast++[(a:Int)])+(rin rss a g+0);omega
theorem Dq (G:m7 h rss):bfN rss h h=qf rss h:=by
 have L:=JP G h;have G2:=zF G;have F:=FW.all G h (yV _);refine List.ext_getElem (by rw [L.1,G2.len]) λf h1 h2=>?_;have hf:f<=h:=by omega
 refine List.ext_getElem (by rw [L.2 _ (yA h1),(G2.row _ (yA h2)).1]) λg g1 g2=>?_;have hg:g<h:=by rw [L.2 _ (yA h1)] at g1;exact g1
 have a1:n5 rss h h f g=(bfN rss h h)[f][g]:=by unfold n5;rw [u8 h1,u8 g1]
 have a2:=VN G hf hg;rw [u8 h2,u8 g2] at a2;rw [<- a1,a2];refine Int.le_antisymm ?_ (Zn G h f g hf hg);have W:=F.way f g hf hg;obtain ⟨mids,e⟩:∃ mids,(y7 (c5 rss h) f g).2=mids++[(g:Int)]:=by
  have ne:(y7 (c5 rss h) f g).2≠[]:=λz=>by have q:=W.last;rw [z] at q;cases q
  refine ⟨(y7 (c5 rss h) f g).2.dropLast,?_⟩;have q:=List.dropLast_concat_getLast ne;have q2:(y7 (c5 rss h) f g).2.getLast ne=(g:Int):=by have q3:=W.last;rw [List.getLast?_eq_some_getLast ne] at q3;exact Option.some.inj q3
  rw [q2] at q;exact q.symm
 have hmid:∀ x∈mids,0<=x/\x<(h:Int):=λx hx=>W.ok x (by rw [e];exact uQ _ hx);obtain ⟨ms,hn,hs,hw⟩:=PU G hg mids f hf hmid;have sub:∀ x∈ms,x∈ZJ h:=λx hx=>mem_huesL.mpr (hmid x (hs x hx));have lm:ms.length<=h:=by have q:=VX hn sub;unfold ZJ at q;rw [yZ,uZ] at q;exact q
 have b:=JQ G h ms f g hf hg (λx hx=>hmid x (hs x hx)) lm;have s:=W.sum;rw [e] at s;omega
def top (i:Nat):Stmt:=PySem.Challenge.pw_rinsework_k25_whole_steep_orders_are_eno.main.body.getD i (.Pass ⟨0,0,0,0⟩)
abbrev Yo:Stmt:=top 60
abbrev Jt:Stmt:=top 61
abbrev WU:Stmt:=top 62
theorem Jv {p:Addr}(h:H p=none)(o:HO):Same H (v9 H p o):=λb u q=>by rw [j9 (g8 q h)];exact q
theorem sizes {n:Nat}(h:n<=1000):n<=sizeLine:=uJ (XQ h)
def YK:Sp:=λvs H Q _=>∃ c k:Int,vs=[.int c,.int k]/\0<=k/\k<=100/\∀ v:Int,0<=v->v<2147483648->Q (.int v) H
def Cb (K:Fg):Sp:=λvs H Q _=>∃(a:Addr)(ns:List Int)(k:Int),vs=[.ref a,.int k]/\SqL K H a (ns.map V.int)/\ns.length<=63/\0<=k/\k<=12 /\
 ∀(r:Addr)(n:Int)(H':Hp),H r=none->Same H H'->H' r=some (.lst [.int n])->Q (.ref r) H'
section
theorem sc_digit:y4 ["row","many","digit"] ["row","many"] (j7 WU):=u6
theorem NR (F:Fun K "_law_digit" "_law_digit" WU f fd):FnOk P w K mg base v6 1 f fd ["row","many"] wq:=by
 refine F.ok sc_digit (λvs H Q E h=>?_) (λcdv A outer s H vs Q E hr h=>?_)
 ·obtain ⟨a,n,m,rfl,_⟩:=h;rfl
 obtain ⟨a,n,m,rfl,hH,hm,q⟩:=h;refine ⟨_,(j3 (qB (i:=2) sc_digit.nd rfl (Or.inl rfl) (y8 vY (Jm (VA (K:=K) rfl) (pv 0) z0 (λ_ _=>rfl)) (pv 1)))
  (j3 (Wo (y8 VY (Jm (VA (K:=K) rfl) (pv 0) z0 (λ_ _=>rfl)) (pv 1)) (BK (pv 0) z0 PP))
  (j5 (y6 (pv 2))))),?_⟩
 refine ⟨_,rfl,a,_,0,_,rfl,rfl,SqL.of hH,rfl,_,rfl,n,m,rfl,rfl,hm.1,?_⟩;refine ⟨_,rfl,a,_,0,_,rfl,rfl,SqL.of hH,rfl,_,rfl,n,m,rfl,rfl,hm,?_⟩;refine ⟨_,rfl,a,_,0,0,rfl,rfl,hH,rfl,?_⟩;exact ⟨_,rfl,q⟩
theorem sc_mixed:y4 ["cell","k","stir"] ["cell","k"] (j7 Yo):=u6
theorem Hn (F:Fun K "_law_mixed" "_law_mixed" Yo f fd):FnOk P w K mg base v6 1 f fd ["cell","k"] YK:=by
 refine F.ok sc_mixed (λvs H Q E h=>?_) (λcdv A outer s H vs Q E hr h=>?_)
 ·obtain ⟨c,k,rfl,_⟩:=h;rfl
 obtain ⟨c,k,rfl,k0,k1,q⟩:=h;refine ⟨_,(j3 (qB (i:=2) sc_mixed.nd rfl (Or.inl rfl) (y8 vY (y8 Qt (y8 op_add (y8 op_add (y8 vY (pv 0) z0) (y8 Qt z0 (pv 1))) z0) z0) z0))
  (j5 (y6 (y8 vY (y8 Qt (y8 vY (y8 Qt (pv 2) (pv 2)) z0) z0) z0)))),?_⟩
 refine ⟨_,rfl,_,_,rfl,rfl,(by show (0:Int)<1000000007;decide),_,rfl,_,_,rfl,rfl,.inl ⟨by decide,by decide⟩,_,_,rfl,rfl,_,_,rfl,rfl,_,_,rfl,rfl,.inr ⟨by decide,by decide⟩,_,_,rfl,rfl,(by show (0:Int)<2147483647;decide),?_⟩;generalize hone:(c % 1000000007+7919*k+1)*48271 % 2147483647=one;have o0:0<=one:=by rw [<- hone];exact uX _ (by decide)
 have o1:one<2147483647:=by rw [<- hone];exact yi _ (by decide)
 refine ⟨_,rfl,_,rfl,_,_,rfl,rfl,.inl ⟨by omega,by omega⟩,_,_,rfl,rfl,(by show (0:Int)<2147483629;decide),_,_,rfl,rfl,.inr ⟨by decide,by decide⟩,_,_,rfl,rfl,(by show (0:Int)<2147483647;decide),?_⟩;exact q _ (uX _ (by decide)) (Int.lt_trans (yi _ (by decide)) (by decide))
end
def MM:Int:=10 ^ (60:Int).toNat
theorem Ze:0<MM:=by decide +kernel
theorem Kf:jQ 10 60:=⟨by decide,by decide,by decide⟩
theorem Ke:jQ 10 18:=⟨by decide,by decide,by decide⟩
theorem Dv:Builtin.Int.intBits MM<=2 ^ 20:=by decide +kernel
theorem SA {M c r:Int}{i:Nat}(hM:0<M)(h0:0<=c)(h:c<M ^ i)(r0:0<=r)(r1:r<M):0<=c*M+r/\c*M+r<M ^ (i+1):=by
 have e:M ^ (i+1)=M ^ i*M:=Int.pow_succ M i;have h1:(c+1)*M<=M ^ i*M:=uA (by omega) (Int.le_of_lt hM);have h2:(c+1)*M=c*M+M:=by rw [Int.add_mul,Int.one_mul]
 have h3:0<=c*M:=Int.mul_nonneg h0 (Int.le_of_lt hM);rw [e];omega
theorem Db:∀ i:_root_.Fin 14,(MM ^ (i:Nat)).toNat<2 ^ 2700:=by decide +kernel
theorem Dw {c:Int}{i:Nat}(hi:i<=13)(h0:0<=c)(h:c<MM ^ i):Builtin.Int.intBits c<=2 ^ 20:=by
 obtain ⟨n,rfl⟩:=yo h0;have q:=Db ⟨i,by omega⟩;have q2:n<2 ^ 2700:=by have q':(MM ^ i).toNat<2 ^ 2700:=q;omega
 exact ym (PyProof.Rows.intBits_le (by rw [Int.natAbs_natCast];exact q2)) (by decide)
theorem Ti:∀ i:_root_.Fin 13,∀ j:_root_.Fin 64,Builtin.Range.small ((i:Nat):Int) ((j:Nat):Int) 5=true:=by decide +kernel
theorem Wu {i j:Int}:Builtin.Range.rangeSize i j 5=if i<j then (j-i-1) / 5+1 else 0:=rfl
theorem Th {i j:Int}(h0:0<=i)(h1:i<=12)(h2:0<=j)(h3:j<=63):0<=Builtin.Range.rangeSize i j 5/\Builtin.Range.small i j 5=true/\jJ i j 5<=13/\∀ t:Nat,t<jJ i j 5->i+t*5<j:=by
 refine ⟨?_,?_,?_,λt ht=>?_⟩
 ·rw [Wu];split<;>omega
 ·have q:=Ti ⟨i.toNat,by omega⟩ ⟨j.toNat,by omega⟩;have e1:((i.toNat:Nat):Int)=i:=by omega
  have e2:((j.toNat:Nat):Int)=j:=by omega
  have q':Builtin.Range.small ((i.toNat:Nat):Int) ((j.toNat:Nat):Int) 5=true:=q;rw [e1,e2] at q';exact q'
 ·unfold jJ;rw [Wu];split<;>omega
 ·unfold jJ at ht;rw [Wu] at ht;split at ht<;>omega
theorem Di {ns:List Int}{k:Int}(h0:0<=k)(h:k<(ns.length:Int)):∃ v:Int,atI (ns.map V.int) k=some (.int v):=by
 have hk:k.toNat<ns.length:=by omega
 have ek:k=((k.toNat:Nat):Int):=by omega
 have q:atI (ns.map V.int) ((k.toNat:Nat):Int)=some (.int ns[k.toNat]):=xS (by rw [yP,yY hk]<;>rfl);rw [<- ek] at q;exact ⟨_,q⟩
section
theorem sc_stream:y4 ["script","k","cell","j","found"] ["script","k"] (j7 Jt):=u6
theorem HE (F:Fun K "_law_stream" "_law_stream" Jt f fd)(Em:Fn P w K mg base 1 "_law_mixed" ["cell","k"] YK)(Ad:mg "len"=none)(Ac:mg "range"=none)(Ea:mg "sum"=none):FnOk P w K mg base v6 2 f fd ["script","k"] (Cb K):=by
 refine F.ok sc_stream (λvs H Q E h=>?_) (λcdv A outer s H vs Q E hr h=>?_)
 ·obtain ⟨a,ns,k,rfl,_⟩:=h;rfl
 obtain ⟨a,ns,k,rfl,hS,h63,k0,k1,q⟩:=h;refine ⟨_,(j3 (qB (i:=2) sc_stream.nd rfl (Or.inl rfl) z0)
  (j3 (qR PassesOwn.never rfl (Rt rfl Ac (v8 (pv 1) (v8 (c8 (GO (K:=K) rfl) rfl Ad PySem.boot_len (v8 (pv 0) u9)) (v8 z0 u9)))) (gW 3 sc_stream.nd)
   (j5 (qB (i:=2) sc_stream.nd rfl (Or.inl rfl) (y8 op_add (y8 jD (pv 2) (y8 Qu z0 z0)) (y8 vY (Jm (VA (K:=K) rfl) (pv 0) (pv 3) (λ_ _=>rfl)) (y8 Qu z0 z0))))))
  (j3 (i8 (qq Ji (pv 2) (y8 Qu z0 z0) (i5 _)) (j5 (y6 (xD (v8 (pv 2) u9)))) i9)
  (j3 (qB (i:=2) sc_stream.nd rfl (Or.inl rfl) (y8 op_add (pv 2) (c8 (DS (K:=K) rfl rfl) rfl Ea JT (v8 (qz (N':=["one"]) (cap:=[none]) (i6 rfl rfl rfl) rfl (i7 (K:=K) rfl (pv 0)) (λ_ _ _ _ _ _=>(c9 (i:=0) (by show (["one"]:List Str).Nodup;decide +kernel) rfl (Or.inl rfl))) (λ_ _ _ _ _ _=>o9) (λ_ _ _ _ _ _=>(y8 vY (pv 0) (y8 Qu z0 z0)))) u9))))
  (j3 (qB (i:=4) sc_stream.nd rfl (Or.inl rfl) z0)
  (j3 (qR PassesOwn.never rfl (zj rfl Ac (v8 z0 u9)) (gW 3 sc_stream.nd)
   (j5 (qB (i:=4) sc_stream.nd rfl (Or.inl rfl) (y8 op_add (y8 Qt (pv 4) z0) (fW Em hr (v8 (y8 op_add (y8 op_add (pv 2) (y8 Qt z0 (pv 1))) (c8 (GO (K:=K) rfl) rfl Ad PySem.boot_len (v8 (pv 0) u9))) (v8 (pv 3) u9)))))))
  (j5 (y6 (xD (v8 (y8 VY (pv 4) z0) u9)))))))))),?_⟩
 have hl:(((ns.map V.int).length:Nat):Int)=(ns.length:Int):=by rw [yZ]
 obtain ⟨z1,z2,z3,z4⟩:=Th (i:=k) (j:=(((ns.map V.int).length:Nat):Int)) k0 k1 (by omega) (by omega);refine ⟨_,rfl,_,rfl,a,_,rfl,.inl hS,k,_,5,rfl,⟨by decide,by decide⟩,z1,z2,MH (λi σ H2=>∃(c:Int)(j:Option V),σ=[some (.ref a),some (.int k),some (.int c),j,none]/\H2=H/\0<=c/\c<MM ^ i)
  ⟨0,none,rfl,rfl,uS 0,by decide⟩ ?_ ?_⟩
 ·rintro i σ H2 hi ⟨c,j,rfl,rfl,c0,c1⟩;obtain ⟨v,hv⟩:=Di (ns:=ns) (k:=k+i*5) (by omega) (by have:=z4 i hi;omega);refine ⟨_,rfl,_,_,rfl,rfl,Kf,_,_,rfl,rfl,⟨Dw (by omega) c0 c1,Dv⟩,_,rfl,_,rfl,a,_,_,_,rfl,rfl,hS,hv,
   _,_,rfl,rfl,Kf,_,_,rfl,rfl,Ze,_,_,rfl,rfl,?_⟩
  have sb:=SA (i:=i) Ze c0 c1 (uX v (Ne.symm (Int.ne_of_lt Ze))) (yi v Ze);exact ⟨_,_,rfl,rfl,sb.1,sb.2⟩
 ·rintro σ H2 ⟨c,j,rfl,rfl,c0,c1⟩;refine ⟨_,rfl,_,_,rfl,rfl,Ke,_,_,rfl,rfl,_,rfl,ite2 (λ_=>?_) (λ_=>?_)⟩
  ·refine ⟨_,rfl,(by show 1<=sizeLine;decide),λp hp=>?_⟩;exact q p c _ hp (Jv hp _) g0
  ·refine ⟨_,rfl,_,rfl,a,rfl,⟨_,hS⟩,Kc (K:=K) (a:=a) (xs:=ns.map V.int) (λi ys H3=>H3=H2/\∃ ms:List Int,ys=ms.map V.int/\ms.length=i) ⟨rfl,[],rfl,rfl⟩ ?_ ?_ ?_ ?_⟩
   ·rintro i ys H3 hi ⟨_,ms,rfl,rfl⟩;rw [yZ] at hi ⊢;exact sizes (by omega)
   ·rintro i ys H3 hi ⟨rfl,_⟩;exact hS
   ·rintro i x ys H3 R hx ⟨rfl,ms,rfl,rfl⟩ hR;rw [yP] at hx;obtain ⟨v,hv,rfl⟩:=yM.mp hx;refine ⟨Wk.one rfl,⟨_,rfl,_,_,rfl,rfl,Ke,_,_,rfl,rfl,(by show (0:Int)<10 ^ (18:Int).toNat;decide),?_⟩⟩;exact hR _ _ ⟨rfl,ms++[_],by rw [yv];rfl,by rw [yN];rfl⟩
   ·rintro ys H3 ⟨rfl,ms,rfl,_⟩ D hD;refine ⟨D,ms,rfl,SqL.of g0,_,_,rfl,rfl,?_⟩;have g1:Same H3 (v9 H3 D (.lst (ms.map V.int))):=Jv hD _;refine ⟨12,rfl,by decide,by decide,ZH (n:=12) (λi σ H4=>∃(f:Int)(j:Option V),σ=[some (.ref a),some (.int k),some (.int (c+ms.sum)),j,some (.int f)]/\H4=v9 H3 D (.lst (ms.map V.int))) ⟨0,_,rfl,rfl⟩ ?_ ?_⟩
    ·rintro i σ H4 hi ⟨f,j,rfl,rfl⟩;refine ⟨_,rfl,_,_,rfl,rfl,.inr ⟨by decide,by decide⟩,_,rfl,_,rfl,_,_,rfl,rfl,.inl ⟨by decide,by decide⟩,_,_,rfl,rfl,_,rfl,a,_,rfl,.inl (g1.seq hS),_,_,rfl,rfl,_,rfl,_,_,rfl,by omega,by omega,λv v0 v1=>?_⟩;exact ⟨_,_,rfl,rfl,_,_,rfl,rfl⟩
    ·rintro σ H4 ⟨f,j,rfl,rfl⟩;refine ⟨_,rfl,_,_,rfl,rfl,⟨by decide,by decide +kernel⟩,(by show 1<=sizeLine;decide),λp hp=>?_⟩;exact q p (f / 64) _ (g1.free hp) (g1.trans (Jv hp _)) g0
end
def XG (K:Fg):List PV->Prop:=λxs=>∃(ns:List Int)(k:Int),xs=[scr K ns,.at (.int k)]/\ns.length<=63/\0<=k/\k<=12
def QK:List PV->PV->Prop:=λ_ y=>∃ n:Int,y = .lst [.at (.int n)]
theorem SB {K:Fg}(h:spN (XG K) QK vs H Q E):Cb K vs H Q E:=by obtain ⟨Hs,xs,sm,r,⟨ns,k,rfl,h63,k0,k1⟩,q⟩:=h;obtain ⟨v,w,rfl,p1,p2⟩:=reps_cons.mp r;obtain ⟨u,z,rfl,p3,p4⟩:=reps_cons.mp p2;cases reps_nil.mp p4;cases rep_at.mp p3;obtain ⟨a,rfl,hS⟩:=Si sm p1;exact ⟨a,ns,k,rfl,hS,h63,k0,k1,λb n H' nb g e=>q _ b Hs H' ⟨n,rfl⟩ ⟨.refl _,g,sm.trans g,λ_ _ z=>z⟩ nb (sm.free nb) ⟨_,e,.one (rep_at.mpr rfl)⟩⟩
section
theorem HD (F:Fun K "_law_stream" "_law_stream" Jt f fd)(Em:Fn P w K mg base 1 "_law_mixed" ["cell","k"] YK)(Ad:mg "len"=none)(Ac:mg "range"=none)(Ea:mg "sum"=none):FnOk P w K mg base v6 2 f fd ["script","k"] (spN (XG K) QK):=(HE F Em Ad Ac Ea).imp λ_ _ _ _ h=>SB h
end
def k7:Int:=10 ^ 30
theorem QG:0<k7:=by decide +kernel
theorem LZ {k:Int}(h0:0<=k)(h1:k<=2*k7):k.natAbs.log2<9000:=by
 have hb:(2*k7).toNat<2 ^ 9000:=yE (show (2*k7).toNat<2 ^ 110 by decide +kernel) (um (by decide) (by decide));have:k.natAbs<2 ^ 9000:=by omega
 by_cases hz:k.natAbs=0
 ·rw [hz];decide
 ·exact (Nat.log2_lt hz).mpr this
theorem QP {k:Int}(h0:0<k)(h1:k<=2*k7):jP n k:=⟨h0,LZ (by omega) h1⟩
theorem wA:(1000:Int)<=k7:=by decide +kernel
def p9 (rss:List (List Int)):PV:= .lst (rss.map λr=> .lst (r.map λn=> .at (.int n)))
theorem vy {a:MA}{k:Nat}(h:a ε=some [.at (.int (k:Int))])(hk:k<=lim):xq a ε=some (zn 0 k):=by have hlim:(lim:Int)=1000000:=rfl;have hl:lim=1000000:=rfl;unfold xq;rw [h];show (if -(lim:Int)<=(k:Int)/\(k:Int)<=(lim:Int) then some (zn 0 (k:Int).toNat) else none)=_;rw [if_pos ⟨by omega,by omega⟩,Int.toNat_natCast]
def w5 (ss:List Str):List PV:=ss.map λs=> .at (.str s)
theorem ze (ss:List Str):(w5 ss).length=ss.length:=yZ _
def Low (x:Str):Prop:=∀ c∈x.cps.toList,97<=c/\c<=122
structure wG (x:Str):Prop where
 low:Low x
 one:1<=x.length
 eight:x.length<=8
theorem JM:∀ ss:List Str,ats (w5 ss)=some (ss.map V.str)
 |[]=>rfl
 |s::ss=>by
  show (ats (w5 ss)).map (V.str s::·)=_;rw [JM ss];rfl
theorem KL (x:Str):∀ ss:List Str,inV (.str x) (ss.map V.str)=decide (x∈ss)
 |[]=>by simp [inV]
 |s::ss=>by
  have ih:=KL x ss;unfold inV at ih ⊢;rw [yO,List.any_cons,ih];have e:qc (.str s) (.str x)=decide (s=x):=rfl;rw [e];by_cases h:s=x
  ·subst h;simp
  ·simp [h,Ne.symm h]
theorem KD (ss:List Str):(ss.map V.str).all k4=true:=by rw [uE];intro v hv;obtain ⟨s,_,rfl⟩:=yz.mp hv;rfl
theorem KN (neg:Bool)(x:Str)(ss:List Str):pIn neg (.at (.str x)) (.lst (w5 ss))=some (.at (.bl (if neg then !decide (x∈ss) else decide (x∈ss)))):=by show (ats (w5 ss)).bind _=_;rw [JM,yK,if_pos ⟨rfl,KD ss⟩,KL]
structure Cl where
 name:Str
 hue:Nat
 len:Int
 due:Int
 wt:Int
variable{a b c x y:Cl}{A B cs ns os:List Cl}{key:Cl->Int×Str}
def Cl.pv (c:Cl):PV:= .tup [.at (.str c.name),.at (.int c.hue),.at (.int c.len),.at (.int c.due),.at (.int c.wt)]
structure Cl.Ok (h:Nat)(c:Cl):Prop where
 nm:wG c.name
 hu:c.hue<h
 l1:1<=c.len
 l2:c.len<=k7
 d1:-k7<=c.due
 d2:c.due<=k7
 w1:1<=c.wt
 w2:c.wt<=k7
theorem VS {α β:Type}{f:α->β}(hf:∀ x y,f x=f y->x=y):∀{a b:List α},a.map f=b.map f->a=b
 |[],[],_=>rfl
 |[],_::_,h=>by cases h
 |_::_,[],h=>by cases h
 |x::a,y::b,h=>by
  rw [yO,yO] at h;injection h with h1 h2;rw [hf x y h1,VS hf h2]
theorem Kv {α β:Type}(f:α->β):∀(l:List α)(i:Nat),(l.map f).eraseIdx i=(l.eraseIdx i).map f
 |[],_=>rfl
 |_::_,0=>rfl
 |x::l,i+1=>by simp [Kv f l i]
theorem BJ {α:Type}:∀{ss:List α}{j:Nat}(h:j<ss.length),(ss[j]::ss.eraseIdx j).Perm ss
 |x::ss,0,_=>List.Perm.refl _
 |x::ss,j+1,h=>by
  have hj:j<ss.length:=by simpa using h
  have ih:=BJ hj;show (ss[j]::x::ss.eraseIdx j).Perm (x::ss);exact (List.Perm.swap _ _ _).trans (ih.cons x)
structure Dr where
 h:Nat
 rss:List (List Int)
 cls:List Cl
 last:Int
 time:Int
variable{d:Dr}
def Dr.pv (d:Dr):PV:= .tup [p9 d.rss,.lst (d.cls.map Cl.pv),.at (.int d.last),.at (.int d.time)]
structure Dr.Ok (d:Dr):Prop where
 h1:1<=d.h
 h4:d.h<=4
 rin:m7 d.h d.rss
 ten:d.cls.length<=10
 cl:∀ c∈d.cls,c.Ok d.h
 nd:(d.cls.map Cl.name).Nodup
 l1:-1<=d.last
 l2:d.last<d.h
 t1:0<=d.time
 t2:d.time<60*k7
def T26:Int:=10 ^ 26
def T27:Int:=10 ^ 27
theorem Ts:T27=10*T26/\k7=1000*T27/\1000<T26:=by decide +kernel
theorem pow26:pPow (.at (.int 10)) (.at (.int 26))=some (.at (.int T26)):=by show (if jQ 10 26 then some (V.int (10 ^ (26:Int).toNat)) else none).map PV.at=_;rw [if_pos ⟨by decide,by decide,by decide⟩];rfl
theorem pow27:pPow (.at (.int 10)) (.at (.int 27))=some (.at (.int T27)):=by show (if jQ 10 27 then some (V.int (10 ^ (27:Int).toNat)) else none).map PV.at=_;rw [if_pos ⟨by decide,by decide,by decide⟩];rfl
theorem GJ (h0:-k7<=n)(h1:n<=k7):Builtin.Int.intBits n<=2 ^ 20:=by
 have hb:k7<2 ^ 120:=by decide +kernel
 exact ym (PyProof.Rows.intBits_le (k:=120) (by omega)) (by decide)
theorem Xt {a b:Int}(a0:-k7<=a)(a1:a<=k7)(b0:-k7<=b)(b1:b<=k7):zh (.at (.int a)) (.at (.int b))=some (.at (.int (a*b))):=by show (if zP a b then some (V.int (a*b)) else none).map PV.at=_;rw [if_pos ⟨GJ a0 a1,GJ b0 b1⟩];rfl
def zk:List PV->Prop:=λxs=>∃ b:Bool,xs=[.at (.bl b)]
def zu:List PV->PV->Prop:=λ_ y=>∃ n:Int,y = .at (.int n)/\0<=n/\n<10*T27
abbrev Yu:Stmt:=top 63
abbrev Gk (K:Fg):WS:=(wSeq (qI 2 (qT 0 (wP (dC (.int 10)))))
  (wSeq (zO (wPT (o6 (q9 1))) (qI 2 (xE c7 (wP (x8 zh (q9 2) (x8 pPow (dC (.int 10)) (dC (.int 27))))) (qT 0 (wP (dC (.int 3)))))) jN)
  (zf (wP (q8 2)))))
theorem sc_number:y4 ["row","great","number"] ["row","great"] (j7 Yu):=u6
theorem MW:∀ xs,zk xs->xs.length+1=(["row","great"]:List Str).length:=by rintro xs ⟨b,rfl⟩;rfl
theorem Lc {K:Fg}:∀ xs n,zk xs->Gk K (m9 n::xs.map .sh++List.replicate ((["row","great","number"]:List Str).length-(xs.length+1)) .no) (λ_=>False) λy ε=>zu xs y/\zN 0 ε:=by
 rintro xs n ⟨b,rfl⟩;have hB:=wA;obtain ⟨t1,t2,t3⟩:=Ts;refine ⟨⟨n,rfl⟩,_,rfl,n,10,rfl,rfl,⟨by decide,by decide⟩,?_⟩;have a0:0<=n % 10:=uX _ (by decide);have a1:n % 10<10:=yi _ (by decide);cases b with
 |false=>exact QF rfl ⟨_,rfl,⟨_,rfl,a0,by omega⟩,_,rfl⟩
 |true =>
  have b0:0<=n / 10 % 3:=uX _ (by decide);have b1:n / 10 % 3<3:=yi _ (by decide);refine JD rfl ⟨_,w6 rfl (w6 rfl rfl pow27) (Xt (a:=n % 10) (b:=T27) (by omega) (by omega) (by omega) (by omega)),⟨_,rfl⟩,_,rfl,n / 10,3,rfl,rfl,⟨by decide,by decide⟩,_,rfl,_,rfl,⟨_,rfl,?_,?_⟩,_,rfl⟩
  ·generalize n % 10=p at a0 a1 ⊢;have:=Int.mul_nonneg a0 (show 0<=T27 by omega);omega
  ·generalize n % 10=p at a0 a1 ⊢;have:p*T27<=9*T27:=uA (by omega) (by omega);omega
theorem Hv (F:Fun K "_law_number" "_law_number" Yu f fd)(Ae:Fn P w K mg base 1 "_law_digit" ["row","many"] wq):FnOk P w K mg base v6 2 f fd ["row","great"] (spD zk zu) :=
 okD (k:=1) (b:=Gk K) F sc_number MW (λcdv A outer s H E hr=>⟨_,(@j3 _ _ _ _ _ (@qB _ _ 2 _ _ _ _ sc_number.nd rfl (Or.inl rfl) (qA Ae hr (by decide) rfl (@v8 _ _ _ _ _ (pv 0) (@v8 _ _ _ _ _ z0 u9 (by rfl)) (by rfl))) (by rfl) (.inl rfl))
  (@j3 _ _ _ _ _ (i8 (xg (K:=K) rfl (pv 1) (λ_=>rfl)) (@j5 _ _ _ (@qB _ _ 2 _ _ _ _ sc_number.nd rfl (Or.inl rfl) (y8 (qu (K:=K) rfl) (y8 (jD) (pv 2) (y8 (Qu) z0 z0)) (qA Ae hr (by decide) rfl (@v8 _ _ _ _ _ (pv 0) (@v8 _ _ _ _ _ z0 u9 (by rfl)) (by rfl)))) (by rfl) (.inl rfl))) i9)
  (@j5 _ _ _ (y6 (pv 2))))),
  (by repeat' first|infer_instance|(refine @Mi.instSemWSTSeqWSeq _ _ _ _ ?_ ?_)|(apply @Mi.instSemWSTForWForOfSemWIOfSemWG))⟩) Lc
def jd (r:List Int):PV:= .lst (r.map λn=> .at (.int n))
def XF:List PV->Prop:=λxs=>∃(h:Nat)(b:Bool),xs=[.at (.int h),.at (.bl b)]/\1<=h/\h<=4
def wJ:List PV->PV->Prop:=λxs y=>∃(h:Nat)(b:Bool)(rss:List (List Int)),xs=[.at (.int h),.at (.bl b)]/\y=p9 rss/\m7 h rss
abbrev Yx:Stmt:=top 64
abbrev Gp (K:Fg):WS:=(wSeq (qI 3 (qT 0 (wP (dC (.int 4)))))
  (wSeq (Zc 4 (qD x6))
  (wSeq (wFor (wIp (xq (q0 (x8 c7 (q9 1) (dC (.int 1))) x6))) (v7 5) (wSeq (qI 6 (vB [none,some 0,some 2] [0] (wIp (xq (q0 (q8 1) x6))) (v7 0) jO (zr 1 zk zu (b9 (wP (q8 2)) qS))))
  (wSeq (zO (wPT (dT (x8 pEq (q9 3) (dC (.int 0))))) (qI 6 (wP (x8 pRep (qD (q0 (dC (.int 0)) x6)) (q9 1)))) jN)
  (wSeq (zO (wPT (dT (x8 pEq (q9 3) (dC (.int 1))))) (qI 6 (vB [none,some 0] [0] (wIp (m5 (q8 6))) (v7 0) jO (xE zh (wP (q8 0)) (qT 1 (wP (dC (.int 2))))))) jN)
  (wz 4 (wP (q8 6)))))))
  (wFz 4 (zf (wP (q8 4)))))))
theorem sc_rinses:y4 ["row","hues","great","way","found","first","numbers"] ["row","hues","great"] (j7 Yx):=u6
theorem MY:∀ xs,XF xs->xs.length+1=(["row","hues","great"]:List Str).length:=by rintro xs ⟨h,b,rfl,_⟩;rfl
structure wL (h:Nat)(r:List Int):Prop where
 len:r.length=h
 lo:∀ v∈r,0<=v/\v<10 ^ 30
theorem Le {K:Fg}:∀ xs n,XF xs->Gp K (m9 n::xs.map .sh++List.replicate ((["row","hues","great","way","found","first","numbers"]:List Str).length-(xs.length+1)) .no) (λ_=>False) λy ε=>wJ xs y/\zN 0 ε:=by
 rintro xs n ⟨h,b,rfl,h1,h4⟩;have hl:lim=1000000:=rfl;obtain ⟨t1,t2,t3⟩:=Ts;have eB:k7=10 ^ 30:=rfl;refine ⟨⟨n,rfl⟩,_,rfl,n,4,rfl,rfl,⟨by decide,by decide⟩,_,rfl,?_⟩;generalize n % 4=way;generalize n / 4=n1;refine ⟨zn 0 (h+1),vy rfl (by omega),?_⟩;refine VM (λrest ε=>∃(m:Int)(rss:List (List Int))(s5 s6:MSlot),rss.length+rest.length=h+1/\(∀ r∈rss,wL h r)/\ε=[m9 m,.sh (.at (.int (h:Int))),.sh (.at (.bl b)),.sh (.at (.int way)),.ow (.lst (rss.map jd)),s5,s6]) ?_ ?_ _ _ ⟨n1,[],_,_,by rw [wg];simp,(λ_ z=>nomatch z),rfl⟩
 ·rintro ε ⟨m,rss,s5,s6,e1,e2,rfl⟩;exact ⟨_,rfl,⟨h,b,rss,rfl,rfl,by simpa using e1,λr hr=>⟨(e2 r hr).len,(e2 r hr).lo⟩⟩,m,rfl⟩
 ·rintro x rest ε ⟨m,rss,s5,s6,e1,e2,rfl⟩;simp only [yF] at e1;refine ⟨_,rfl,zn 0 h,vy rfl (by omega),rfl,by rw [wg];omega,?_⟩;have app:∀(m:Int)(r:List Int),wL h r->wz 4 (wP (q8 6)) [m9 m,.sh (.at (.int (h:Int))),.sh (.at (.bl b)),.sh (.at (.int way)),.ow (.lst (rss.map jd)),.sh x,.sh (jd r)] (λε=>∃(m:Int)(rss:List (List Int))(s5 s6:MSlot),rss.length+rest.length=h+1/\(∀ r∈rss,wL h r)/\ε=[m9 m,.sh (.at (.int (h:Int))),.sh (.at (.bl b)),.sh (.at (.int way)),.ow (.lst (rss.map jd)),s5,s6]) (λy ε=>wJ [.at (.int h),.at (.bl b)] y/\zN 0 ε):=by
   intro m r hr;refine ⟨⟨_,rfl⟩,_,rfl,_,rfl,by rw [yZ];omega,m,rss++[r],.sh x,.sh (jd r),by rw [yN];simp;omega,?_,by rw [yv];rfl⟩;intro q hq;rcases yc.mp hq with hq|hq
   ·exact e2 q hq
   ·rw [yJ.mp hq];exact hr
  have if1:∀(m:Int)(r:List Int),wL h r->(wSeq (zO (wPT (dT (x8 pEq (q9 3) (dC (.int 1))))) (qI 6 (vB [none,some 0] [0] (wIp (m5 (q8 6))) (v7 0) jO (xE zh (wP (q8 0)) (qT 1 (wP (dC (.int 2))))))) jN) (wz 4 (wP (q8 6)))) [m9 m,.sh (.at (.int (h:Int))),.sh (.at (.bl b)),.sh (.at (.int way)),.ow (.lst (rss.map jd)),.sh x,.sh (jd r)] (λε=>∃(m:Int)(rss:List (List Int))(s5 s6:MSlot),rss.length+rest.length=h+1/\(∀ r∈rss,wL h r)/\ε=[m9 m,.sh (.at (.int (h:Int))),.sh (.at (.bl b)),.sh (.at (.int way)),.ow (.lst (rss.map jd)),s5,s6]) (λy ε=>wJ [.at (.int h),.at (.bl b)] y/\zN 0 ε):=by
   intro m r hr;by_cases hw:way=1
   ·subst hw;refine JD (n8 (v:=true) rfl) ⟨_,rfl,rfl,by rw [yZ,hr.len];omega,?_⟩;refine Zr (λtodo zs ε=>∃(m:Int)(done left:List Int),ε=[.no,m9 m]/\todo=left.map (λn=>PV.at (.int n))/\zs=done.map (λn=>PV.at (.int n))/\done.length+left.length=h/\(∀ v∈left,0<=v/\v<10 ^ 30)/\∀ v∈done,0<=v/\v<10 ^ 30) ?_ ?_ _ [] _ ⟨m,[],r,rfl,rfl,rfl,by rw [hr.len];simp,hr.lo,(λ_ z=>nomatch z)⟩
    ·rintro zs ε ⟨m2,done,left,rfl,z,rfl,g1,g2,g3⟩;have e:left=[]:=by cases left with|nil=>rfl|cons _ _=>cases z
     subst e;exact ⟨λ_=>⟨_,rfl⟩,app _ done ⟨by simpa using g1,g3⟩⟩
    ·rintro x2 rest2 zs ε ⟨m2,done,left,rfl,z,rfl,g1,g2,g3⟩;cases left with
     |nil=>cases z
     |cons v left =>
      rw [yO] at z;injection z with z1 z2;subst z1;simp only [yF] at g1;have v0:=g2 v yU;rw [<- eB] at v0;have c0:0<=m2 % 2:=uX _ (by decide);have c1:m2 % 2<2:=yi _ (by decide);refine ⟨_,rfl,_,rfl,⟨_,rfl⟩,_,rfl,m2,2,rfl,rfl,⟨by decide,by decide⟩,_,Xt (a:=v) (b:=m2 % 2) (by omega) (by omega) (by omega) (by omega),m2 / 2,done++[v*(m2 % 2)],left,rfl,z2,by rw [yv];rfl,by rw [yN];simp;omega,λw hw=>g2 w (yW _ hw),λw hw=>?_⟩;rcases yc.mp hw with hw|hw
      ·exact g3 w hw
      ·rw [yJ.mp hw,<- eB];have:m2 % 2=0∨m2 % 2=1:=by omega
       rcases this with e|e<;>rw [e]<;>omega
   ·refine QF (n8 (v:=false) ?_) (app m r hr);show some (PV.at (.bl (decide (way=1))))=_;rw [yI hw]
  refine Zr (λrest2 zs ε=>∃(m:Int)(r:List Int),ε=[.no,m9 m,.sh (.at (.bl b))]/\zs=r.map (λn=>PV.at (.int n))/\r.length+rest2.length=h/\(∀ v∈r,0<=v/\v<10 ^ 30)) ?_ ?_ _ [] _ ⟨m,[],rfl,rfl,by rw [wg];simp,(λ_ z=>nomatch z)⟩
  ·rintro zs ε ⟨m2,r,rfl,rfl,g1,g2⟩;have hr:wL h r:=⟨by simpa using g1,g2⟩;refine ⟨λ_=>⟨_,rfl⟩,?_⟩;by_cases hw:way=0
   ·subst hw;refine JD (n8 (v:=true) rfl) ⟨jd (List.replicate h 0),?_,if1 m2 _ ⟨tX,λv hv=>?_⟩⟩
    ·refine w6 (zW (xs:=[.at (.int 0)]) rfl l1) rfl ?_;show (if -(lim:Int)<=(h:Int)/\(h:Int)<=lim/\[PV.at (.int 0)].length*(h:Int).toNat<=lim then some (PV.lst (List.replicate (h:Int).toNat [PV.at (.int 0)]).flatten) else none)=_;rw [if_pos ⟨by omega,by omega,by simp;omega⟩];unfold jd;simp
    ·rw [List.eq_of_mem_replicate hv];decide
   ·refine QF (n8 (v:=false) ?_) (if1 m2 r hr);show some (PV.at (.bl (decide (way=0))))=_;rw [yI hw]
  ·rintro x2 rest2 zs ε ⟨m2,r,rfl,rfl,g1,g2⟩;simp only [yF] at g1;refine ⟨_,rfl,⟨_,rfl⟩,_,rfl,⟨_,rfl⟩,⟨b,rfl⟩,?_⟩;rintro y n' ⟨v,rfl,v0,v1⟩;refine ⟨n',r++[v],rfl,by rw [yv];rfl,by rw [yN];simp;omega,λq hq=>?_⟩;rcases yc.mp hq with hq|hq
   ·exact g2 q hq
   ·rw [yJ.mp hq,<- eB];exact ⟨v0,by omega⟩
theorem Hz (F:Fun K "_law_rinses" "_law_rinses" Yx f fd)(Ae:Fn P w K mg base 1 "_law_digit" ["row","many"] wq)(Av:Fn P w K mg base 2 "_law_number" ["row","great"] (spD zk zu))(Ac:mg "range"=none):FnOk P w K mg base v6 3 f fd ["row","hues","great"] (spD XF wJ) :=
 okD (k:=2) (b:=Gp K) F sc_rinses MY (λcdv A outer s H E hr=>⟨_,(@j3 _ _ _ _ _ (@qB _ _ 3 _ _ _ _ sc_rinses.nd rfl (Or.inl rfl) (qA Ae hr (by decide) rfl (@v8 _ _ _ _ _ (pv 0) (@v8 _ _ _ _ _ z0 u9 (by rfl)) (by rfl))) (by rfl) (.inl rfl))
  (@j3 _ _ _ _ _ (@qB _ _ 4 _ _ _ _ sc_rinses.nd rfl (Or.inl rfl) (@xD _ _ _ _ u9) (by rfl) (.inl rfl))
  (@j3 _ _ _ _ _ (qR PassesOwn.never rfl (zj rfl Ac (@v8 _ _ _ _ _ (y8 (qu (K:=K) rfl) (pv 1) z0) u9 (by rfl))) (c9 (i:=5) sc_rinses.nd rfl (Or.inl rfl))
   (@j3 _ _ _ _ _ (vt (i:=6) (N':=["hue","row","great"]) (cap:=[none,some 0,some 2]) (i6 rfl rfl rfl) rfl sc_rinses.nd rfl rfl (zj rfl Ac (@v8 _ _ _ _ _ (pv 1) u9 (by rfl))) (λ_ _ _ _ _ _=>(c9 (i:=0) (by show (["hue","row","great"]:List Str).Nodup;decide +kernel) rfl (Or.inl rfl))) (λ_ _ _ _ _ _=>o9) (λ_ _ _ _ _ _=>(qA Av hr (by decide) rfl (@v8 _ _ _ _ _ (pv 1) (@v8 _ _ _ _ _ (pv 2) u9 (by rfl)) (by rfl)))))
  (@j3 _ _ _ _ _ (i8 (qq (jC (K:=K) (hu6 hr) rfl) (pv 3) z0 (i5 _)) (@j5 _ _ _ (@qB _ _ 6 _ _ _ _ sc_rinses.nd rfl (Or.inl rfl) (y8 (HV) (@xD _ _ _ _ (@v8 _ _ _ _ _ z0 u9 (by rfl))) (pv 1)) (by rfl) (.inl rfl))) i9)
  (@j3 _ _ _ _ _ (i8 (qq (jC (K:=K) (hu6 hr) rfl) (pv 3) z0 (i5 _)) (@j5 _ _ _ (vt (i:=6) (N':=["number","row"]) (cap:=[none,some 0]) (i6 rfl rfl rfl) rfl sc_rinses.nd rfl rfl (@i7 _ K _ _ _ rfl (pv 6)) (λ_ _ _ _ _ _=>(c9 (i:=0) (by show (["number","row"]:List Str).Nodup;decide +kernel) rfl (Or.inl rfl))) (λ_ _ _ _ _ _=>o9) (λ_ _ _ _ _ _=>(y8 (jD) (pv 0) (qA Ae hr (by decide) rfl (@v8 _ _ _ _ _ (pv 1) (@v8 _ _ _ _ _ z0 u9 (by rfl)) (by rfl))))))) i9)
  (@j5 _ _ _ (zl (jF (K:=K) rfl PySem.F.plainAttrs_list PySem.F.slot_list_append PySem.F.type_list_append Qq (pv 4) (v8 (pv 6) u9))))))))
  (@j5 _ _ _ (y6 (pv 4)))))),
  (by repeat' first|infer_instance|(refine @Mi.instSemWSTSeqWSeq _ _ _ _ ?_ ?_)|(apply @Mi.instSemWSTForWForOfSemWIOfSemWG))⟩) Le
def twelve:List Str:=["b","ab","a","abc","ba","aa","z","abcdefgh","abcdefgi","zz","abcd","bb"]
theorem SR:twelve.Nodup:=by decide +kernel
theorem SS:∀ s∈twelve,wG s:=by
 have:∀ s∈twelve,(∀ c∈s.cps.toList,97<=c/\c<=122)/\1<=s.length/\s.length<=8:=by decide +kernel
 exact λs hs=>⟨(this s hs).1,(this s hs).2.1,(this s hs).2.2⟩
def XD:List PV->Prop:=λxs=>∃ k:Nat,xs=[.at (.int k)]/\k<=12
def Zf:List PV->PV->Prop:=λxs y=>∃ ss:List Str,y = .lst (w5 ss)/\xs=[.at (.int ss.length)]/\ss.Nodup/\∀ s∈ss,wG s
abbrev Ys:Stmt:=top 65
abbrev Gi (K:Fg):WS:=(wSeq (Zc 2 (qD (q0 (dC (.str "b")) (q0 (dC (.str "ab")) (q0 (dC (.str "a")) (q0 (dC (.str "abc")) (q0 (dC (.str "ba")) (q0 (dC (.str "aa")) (q0 (dC (.str "z")) (q0 (dC (.str "abcdefgh")) (q0 (dC (.str "abcdefgi")) (q0 (dC (.str "zz")) (q0 (dC (.str "abcd")) (q0 (dC (.str "bb")) x6))))))))))))))
  (zf (vB [none,some 2,some 0] [0] (wIp (xq (q0 (q8 1) x6))) (v7 0) jO (wPop 1 (qT 2 (wP (x9 qv (q0 (q9 1) x6))))))))
theorem sc_names:y4 ["row","many","free"] ["row","many"] (j7 Ys):=u6
theorem MV:∀ xs,XD xs->xs.length+1=(["row","many"]:List Str).length:=by rintro xs ⟨k,rfl,_⟩;rfl
theorem RE {free got all:List Str}(h:j<free.length)(p:(got++free).Perm all):((got++[free[j]])++free.eraseIdx j).Perm all:=by rw [yk];exact ((BJ h).append_left got).trans p
theorem Lb {K:Fg}:∀ xs n,XD xs->Gi K (m9 n::xs.map .sh++List.replicate ((["row","many","free"]:List Str).length-(xs.length+1)) .no) (λ_=>False) λy ε=>Zf xs y/\zN 0 ε:=by
 rintro xs n ⟨k,rfl,hk⟩;have hl:lim=1000000:=rfl;have hB:=wA;refine ⟨_,rfl,?_⟩;refine ⟨zn 0 k,vy rfl (by omega),rfl,by rw [wg];omega,?_⟩;refine Zr (λrest ys ε=>∃(m:Int)(free got:List Str),ε=[.no,.ow (.lst (w5 free)),m9 m]/\ys=w5 got/\got.length+rest.length=k/\(got++free).Perm twelve) ?_ ?_ (zn 0 k) [] _ ⟨n,twelve,[],rfl,rfl,by rw [wg];simp,.refl _⟩
 ·rintro ys ε ⟨m,free,got,rfl,rfl,h1,h2⟩;have nd:(got++free).Nodup:=h2.nodup_iff.mpr SR;refine ⟨λ_=>⟨_,rfl⟩,⟨got,rfl,?_,(tZ.mp nd).1,λs hs=>SS s (h2.mem_iff.mp (uQ _ hs))⟩,m,rfl⟩;simp at h1;rw [h1]
 ·rintro x rest ys ε ⟨m,free,got,rfl,rfl,h1,h2⟩;simp only [yF] at h1;have hlen:=h2.length_eq;rw [yN,show twelve.length=12 from rfl] at hlen;refine ⟨_,rfl,?_⟩;have hf:0<free.length:=by omega
  have c0:0<=m % (((w5 free).length:Nat):Int):=uX _ (by rw [ze];omega);have c1:m % (((w5 free).length:Nat):Int)<(((w5 free).length:Nat):Int):=yi _ (by rw [ze];omega);refine ⟨⟨_,rfl⟩,⟨m,rfl⟩,_,rfl,m,(((w5 free).length:Nat):Int),rfl,rfl,QP (by rw [ze];omega) (by rw [ze];omega),?_⟩;generalize hj:m % (((w5 free).length:Nat):Int)=j at c0 c1;rw [ze] at c1;have hjl:j.toNat<free.length:=by omega
  refine ⟨w5 free,j,.at (.str free[j.toNat]),rfl,rfl,c0,by rw [ze];exact c1,by rw [ze];omega,?_,?_⟩
  ·unfold w5;rw [yP,yY hjl];rfl
  ·refine ⟨m / (((w5 free).length:Nat):Int),free.eraseIdx j.toNat,got++[free[j.toNat]],?_,?_,?_,RE hjl h2⟩
   ·show [MSlot.no,MSlot.ow (.lst ((w5 free).eraseIdx j.toNat)),m9 _]=_;unfold w5;rw [Kv]
   ·unfold w5;rw [yv];rfl
   ·rw [yN];simp only [yF,List.length_nil];omega
theorem Ht (F:Fun K "_law_names" "_law_names" Ys f fd)(Ae:Fn P w K mg base 1 "_law_digit" ["row","many"] wq)(Ad:mg "len"=none)(Ac:mg "range"=none):FnOk P w K mg base v6 2 f fd ["row","many"] (spD XD Zf) :=
 okD (k:=1) (b:=Gi K) F sc_names MV (λcdv A outer s H E hr=>⟨_,(@j3 _ _ _ _ _ (@qB _ _ 2 _ _ _ _ sc_names.nd rfl (Or.inr rfl) (@xD _ _ _ _ (@v8 _ _ _ _ _ xO (@v8 _ _ _ _ _ xO (@v8 _ _ _ _ _ xO (@v8 _ _ _ _ _ xO (@v8 _ _ _ _ _ xO (@v8 _ _ _ _ _ xO (@v8 _ _ _ _ _ xO (@v8 _ _ _ _ _ xO (@v8 _ _ _ _ _ xO (@v8 _ _ _ _ _ xO (@v8 _ _ _ _ _ xO (@v8 _ _ _ _ _ xO u9 (by rfl)) (by rfl)) (by rfl)) (by rfl)) (by rfl)) (by rfl)) (by rfl)) (by rfl)) (by rfl)) (by rfl)) (by rfl)) (by rfl))) (by rfl) (.inl rfl))
  (@j5 _ _ _ (y6 (qz (N':=["k","free","row"]) (cap:=[none,some 2,some 0]) (i6 rfl rfl rfl) rfl (zj rfl Ac (@v8 _ _ _ _ _ (pv 1) u9 (by rfl))) (λ_ _ _ _ _ _=>(c9 (i:=0) (by show (["k","free","row"]:List Str).Nodup;decide +kernel) rfl (Or.inl rfl))) (λ_ _ _ _ _ _=>o9) (λ_ _ _ _ _ _=>(jF (K:=K) rfl PySem.F.plainAttrs_list PySem.F.slot_list_pop PySem.F.type_list_pop Nn (pv 1) (v8 (qA Ae hr (by decide) rfl (@v8 _ _ _ _ _ (pv 2) (@v8 _ _ _ _ _ (c8 (xG (K:=K) rfl) rfl Ad PySem.boot_len (@v8 _ _ _ _ _ (pv 1) u9 (by rfl))) u9 (by rfl)) (by rfl))) u9))))))),
  (by repeat' first|infer_instance|(refine @Mi.instSemWSTSeqWSeq _ _ _ _ ?_ ?_)|(apply @Mi.instSemWSTForWForOfSemWIOfSemWG))⟩) Lb
def QA:List PV->Prop:=λxs=>∃(s:Str)(h:Nat)(b:Bool),xs=[.at (.str s),.at (.int h),.at (.bl b)]/\wG s/\1<=h/\h<=4
def wH:List PV->PV->Prop:=λxs y=>∃(s:Str)(h:Nat)(b:Bool)(c:Cl),xs=[.at (.str s),.at (.int h),.at (.bl b)]/\y=c.pv/\c.name=s/\c.Ok h
abbrev WP:Stmt:=top 66
abbrev UJ (K:Fg):WS:=(wSeq (qI 4 (xE vh (qT 0 (wP (dC (.int 40)))) (wP (dC (.int 6)))))
  (wSeq (zO (wPT (o6 (q9 3))) (qI 4 (xE c7 (wP (x8 zh (q9 4) (x8 pPow (dC (.int 10)) (dC (.int 26))))) (qT 0 (wP (dC (.int 3)))))) jN)
  (zf (QE (b9 (wP (q8 1)) (b9 (qT 0 (wP (q8 2))) (b9 (xE c7 (wP (dC (.int 1))) (zr 0 zk zu (b9 (wP (q8 3)) qS))) (b9 (wP (q8 4)) (b9 (xE c7 (wP (dC (.int 1))) (qT 0 (wP (dC (.int 9))))) qS)))))))))
theorem sc_cloth:y4 ["row","name","hues","great","due"] ["row","name","hues","great"] (j7 WP):=u6
theorem MU:∀ xs,QA xs->xs.length+1=(["row","name","hues","great"]:List Str).length:=by rintro xs ⟨s,h,b,rfl,_⟩;rfl
theorem MZ {K:Fg}:∀ xs n,QA xs->UJ K (m9 n::xs.map .sh++List.replicate ((["row","name","hues","great","due"]:List Str).length-(xs.length+1)) .no) (λ_=>False) λy ε=>wH xs y/\zN 0 ε:=by
 rintro xs n ⟨s,h,b,rfl,hs,h1,h4⟩;have hB:=wA;obtain ⟨t1,t2,t3⟩:=Ts;have rest:∀(n due:Int),-k7<=due->due<=k7->((zf (QE (b9 (wP (q8 1)) (b9 (qT 0 (wP (q8 2))) (b9 (xE c7 (wP (dC (.int 1))) (zr 0 zk zu (b9 (wP (q8 3)) qS))) (b9 (wP (q8 4)) (b9 (xE c7 (wP (dC (.int 1))) (qT 0 (wP (dC (.int 9))))) qS))))))):WS) [m9 n,.sh (.at (.str s)),.sh (.at (.int (h:Int))),.sh (.at (.bl b)),.sh (.at (.int due))] (λ_=>False) λy ε=>wH [.at (.str s),.at (.int h),.at (.bl b)] y/\zN 0 ε:=by intro n due d1 d2;refine ⟨_,rfl,⟨_,rfl⟩,_,rfl,n,(h:Int),rfl,rfl,QP (by omega) (by omega),_,rfl,⟨_,rfl⟩,_,rfl,⟨_,rfl⟩,⟨b,rfl⟩,?_⟩;rintro y n' ⟨v,rfl,v0,v1⟩;have u0:0<=n % (h:Int):=uX _ (by omega);have u1:n % (h:Int)<h:=yi _ (by omega);obtain ⟨u,hu⟩:=yo u0;rw [hu] at u1 ⊢;have w0:0<=n' % 9:=uX _ (by decide);have w1:n' % 9<9:=yi _ (by decide);exact ⟨_,rfl,_,rfl,_,rfl,⟨_,rfl⟩,_,rfl,n',9,rfl,rfl,⟨by decide,by decide⟩,_,rfl,l5,⟨s,h,b,⟨s,u,1+v,due,1+n' % 9⟩,rfl,rfl,rfl,⟨hs,(show u<h by omega),(show (1:Int)<=1+v by omega),(show 1+v<=k7 by omega),d1,d2,(show (1:Int)<=1+n' % 9 by omega),(show 1+n' % 9<=k7 by omega)⟩⟩,_,rfl⟩
 refine ⟨⟨n,rfl⟩,_,rfl,n,40,rfl,rfl,⟨by decide,by decide⟩,_,rfl,_,rfl,?_⟩;have a0:0<=n % 40:=uX _ (by decide);have a1:n % 40<40:=yi _ (by decide);generalize n % 40=p at a0 a1 ⊢;generalize n / 40=n1;cases b with
 |false=>exact QF rfl (rest _ _ (by omega) (by omega))
 |true=>have b0:0<=n1 % 3:=uX _ (by decide);have b1:n1 % 3<3:=yi _ (by decide);have m1:(p-6)*T26<=34*T26:=uA (by omega) (by omega);have m2:-6*T26<=(p-6)*T26:=uA (by omega) (by omega);exact JD rfl ⟨_,w6 rfl (w6 rfl rfl pow26) (Xt (a:=p-6) (b:=T26) (by omega) (by omega) (by omega) (by omega)),⟨_,rfl⟩,_,rfl,n1,3,rfl,rfl,⟨by decide,by decide⟩,_,rfl,rest _ _ (by omega) (by omega)⟩
theorem NO (F:Fun K "_law_cloth" "_law_cloth" WP f fd)(Ae:Fn P w K mg base 1 "_law_digit" ["row","many"] wq)(Av:Fn P w K mg base 2 "_law_number" ["row","great"] (spD zk zu)):FnOk P w K mg base v6 3 f fd ["row","name","hues","great"] (spD QA wH) :=
 okD (k:=2) (b:=UJ K) F sc_cloth MU (λcdv A outer s H E hr=>⟨_,(@j3 _ _ _ _ _ (@qB _ _ 4 _ _ _ _ sc_cloth.nd rfl (Or.inl rfl) (y8 (Xw) (qA Ae hr (by decide) rfl (@v8 _ _ _ _ _ (pv 0) (@v8 _ _ _ _ _ z0 u9 (by rfl)) (by rfl))) z0) (by rfl) (.inl rfl))
  (@j3 _ _ _ _ _ (i8 (xg (K:=K) rfl (pv 3) (λ_=>rfl)) (@j5 _ _ _ (@qB _ _ 4 _ _ _ _ sc_cloth.nd rfl (Or.inl rfl) (y8 (qu (K:=K) rfl) (y8 (jD) (pv 4) (y8 (Qu) z0 z0)) (qA Ae hr (by decide) rfl (@v8 _ _ _ _ _ (pv 0) (@v8 _ _ _ _ _ z0 u9 (by rfl)) (by rfl)))) (by rfl) (.inl rfl))) i9)
  (@j5 _ _ _ (y6 (@xf _ _ _ _ _ (@v8 _ _ _ _ _ (pv 1) (@v8 _ _ _ _ _ (qA Ae hr (by decide) rfl (@v8 _ _ _ _ _ (pv 0) (@v8 _ _ _ _ _ (pv 2) u9 (by rfl)) (by rfl))) (@v8 _ _ _ _ _ (y8 (qu (K:=K) rfl) z0 (qA Av hr (by decide) rfl (@v8 _ _ _ _ _ (pv 0) (@v8 _ _ _ _ _ (pv 3) u9 (by rfl)) (by rfl)))) (@v8 _ _ _ _ _ (pv 4) (@v8 _ _ _ _ _ (y8 (qu (K:=K) rfl) z0 (qA Ae hr (by decide) rfl (@v8 _ _ _ _ _ (pv 0) (@v8 _ _ _ _ _ z0 u9 (by rfl)) (by rfl)))) u9 (by rfl)) (by rfl)) (by rfl)) (by rfl)) (by rfl))))))),
  (by repeat' first|infer_instance|(refine @Mi.instSemWSTSeqWSeq _ _ _ _ ?_ ?_)|(apply @Mi.instSemWSTForWForOfSemWIOfSemWG))⟩) MZ
def XE (K:Fg):List PV->Prop:=λxs=>∃(ns:List Int)(m:Nat),xs=[scr K ns,.at (.int m)]/\ns.length<=63/\m<=10
def wI:List PV->PV->Prop:=λxs y=>∃(d:Dr)(z:PV)(m:Nat),xs=[z,.at (.int m)]/\y=d.pv/\d.Ok/\d.cls.length<=m
abbrev Yw:Stmt:=top 67
abbrev Go (K:Fg):WS:=(wSeq (Ug 2 (XG K) QK (b9 (wP (q8 0)) (b9 (wP (dC (.int 0))) qS)))
  (wSeq (qI 3 (xE pEq (qT 2 (wP (dC (.int 6)))) (wP (dC (.int 5)))))
  (wSeq (qI 4 (xE c7 (wP (dC (.int 1))) (qT 2 (wP (dC (.int 4))))))
  (wSeq (qI 5 (zr 2 XF wJ (b9 (wP (q8 4)) (b9 (wP (q8 3)) qS))))
  (wSeq (Ug 6 (XG K) QK (b9 (wP (q8 0)) (b9 (wP (dC (.int 1))) qS)))
  (wSeq (qI 7 (zr 6 XD Zf (b9 (qT 6 (wP (x8 c7 (q9 1) (dC (.int 1))))) qS)))
  (wSeq (qI 8 (vB [none,some 6,some 4,some 3] [0] (wIp (m5 (q8 7))) (v7 0) jO (zr 1 QA wH (b9 (wP (q8 0)) (b9 (wP (q8 2)) (b9 (wP (q8 3)) qS))))))
  (zf (QE (b9 (wP (q8 5)) (b9 (wP (q8 8)) (b9 (xE vh (qT 2 (wP (x8 c7 (q9 4) (dC (.int 1))))) (wP (dC (.int 1)))) (b9 (zr 2 zk zu (b9 (wP (q8 3)) qS)) qS)))))))))))))
theorem sc_parts:y4 ["script","most","row","great","hues","rinses","more","names","cloths"] ["script","most"] (j7 Yw):=u6
theorem MX {K:Fg}:∀ xs,XE K xs->xs.length=(["script","most"]:List Str).length:=by rintro xs ⟨ns,m,rfl,_⟩;rfl
theorem Ld {K:Fg}:∀ xs,XE K xs->Go K (xs.map .sh++List.replicate ((["script","most","row","great","hues","rinses","more","names","cloths"]:List Str).length-xs.length) .no) (λ_=>False) λy _=>wI xs y:=by
 rintro xs ⟨ns,mo,rfl,h63,hmo⟩;have hB:=wA;obtain ⟨t1,t2,t3⟩:=Ts;have hlim:lim=1000000:=rfl;refine ⟨_,rfl,_,rfl,⟨ns,0,rfl,h63,by decide,by decide⟩,?_⟩;rintro y ⟨n,rfl⟩
 -- great,hues
 refine ⟨⟨n,rfl⟩,_,rfl,n,6,rfl,rfl,⟨by decide,by decide⟩,_,rfl,_,rfl,?_⟩;generalize qc (.int (n % 6)) (.int 5)=great;generalize n / 6=n1;refine ⟨_,rfl,⟨_,rfl⟩,_,rfl,n1,4,rfl,rfl,⟨by decide,by decide⟩,_,rfl,?_⟩;have a0:0<=n1 % 4:=uX _ (by decide);have a1:n1 % 4<4:=yi _ (by decide);obtain ⟨h,hh⟩:=yo (show 0<=1+n1 % 4 by omega);generalize n1 / 4=n2;have hh1:1<=h:=by omega
 have hh4:h<=4:=by omega
 rw [hh];clear a0 a1 hh
 -- rinses
 refine ⟨⟨_,rfl⟩,_,rfl,_,rfl,⟨_,rfl⟩,⟨h,great,rfl,hh1,hh4⟩,?_⟩;rintro y n3 ⟨h',b',rss,e,rfl,hr⟩;have e':h'=h:=by injection e with e _;injection e with e;injection e with e;omega
 subst e';have fin:∀(n3 m:Int)(z:MSlot)(cs:List Cl),cs.length<=10->cs.length<=mo->(∀ c∈cs,c.Ok h')->(cs.map Cl.name).Nodup->((zf (QE (b9 (wP (q8 5)) (b9 (wP (q8 8)) (b9 (xE vh (qT 2 (wP (x8 c7 (q9 4) (dC (.int 1))))) (wP (dC (.int 1)))) (b9 (zr 2 zk zu (b9 (wP (q8 3)) qS)) qS)))))):WS) [.sh (scr K ns),.sh (.at (.int (mo:Int))),m9 n3,.sh (.at (.bl great)),.sh (.at (.int (h':Int))),.sh (p9 rss),m9 m,z,.sh (.lst (cs.map Cl.pv))] (λ_=>False) λy _=>wI [scr K ns,.at (.int (mo:Int))] y:=by intro n3 m z cs l10 lmo g1 nd;have d0:0<=n3 % ((h':Int)+1):=uX _ (by omega);have d1:n3 % ((h':Int)+1)<(h':Int)+1:=yi _ (by omega);refine ⟨_,rfl,_,rfl,⟨n3,rfl⟩,_,rfl,n3,(h':Int)+1,rfl,rfl,QP (by omega) (by omega),_,rfl,_,rfl,⟨_,rfl⟩,_,rfl,⟨_,rfl⟩,⟨great,rfl⟩,?_⟩;rintro y n4 ⟨ti,rfl,ti0,ti1⟩;exact ⟨by show 4<=lim;decide,⟨h',rss,cs,n3 % ((h':Int)+1)-1,ti⟩,scr K ns,mo,rfl,rfl,⟨hh1,hh4,hr,l10,g1,nd,(by show -1<=n3 % ((h':Int)+1)-1;omega),(by show n3 % ((h':Int)+1)-1<(h':Int);omega),ti0,(by show ti<60*k7;omega)⟩,lmo⟩
 -- cloths
 have cloths:∀(n3 q2:Int)(ss:List Str)(k:Nat),ss.length=k->k<=mo->ss.Nodup->(∀ s∈ss,wG s)->((wSeq (qI 8 (vB [none,some 6,some 4,some 3] [0] (wIp (m5 (q8 7))) (v7 0) jO (zr 1 QA wH (b9 (wP (q8 0)) (b9 (wP (q8 2)) (b9 (wP (q8 3)) qS))))))
  (zf (QE (b9 (wP (q8 5)) (b9 (wP (q8 8)) (b9 (xE vh (qT 2 (wP (x8 c7 (q9 4) (dC (.int 1))))) (wP (dC (.int 1)))) (b9 (zr 2 zk zu (b9 (wP (q8 3)) qS)) qS))))))):WS) [.sh (scr K ns),.sh (.at (.int (mo:Int))),m9 n3,.sh (.at (.bl great)),.sh (.at (.int (h':Int))),.sh (p9 rss),m9 q2,.sh (.lst (w5 ss)),.no] (λ_=>False) λy _=>wI [scr K ns,.at (.int (mo:Int))] y:=by
  intro n3 q2 ss k el hkm nd nok;refine ⟨_,rfl,rfl,by rw [ze];omega,?_⟩;refine Zr (λrest ys ε=>∃(m:Int)(todo:List Str)(cs:List Cl),rest=w5 todo/\ε=[.no,m9 m,.sh (.at (.int (h':Int))),.sh (.at (.bl great))]/\ys=cs.map Cl.pv/\cs.map Cl.name++todo=ss/\(∀ c∈cs,c.Ok h')) ?_ ?_ _ [] _ ⟨q2,ss,[],rfl,rfl,rfl,rfl,(λ_ z=>nomatch z)⟩
  ·rintro ys ε ⟨m,todo,cs,e2,rfl,rfl,e3,g1⟩;have:todo=[]:=by
    cases todo with
    |nil=>rfl
    |cons _ _=>cases e2
   subst this;rw [yt] at e3;have cl:cs.length=k:=by rw [<- el,<- e3,yZ]
   refine ⟨(λ⟨y,e⟩=>nomatch (show some (MSlot.sh (scr K ns))=some (MSlot.ow y) from e)),?_⟩;exact fin n3 m _ cs (by omega) (by omega) g1 (by rw [e3];exact nd)
  ·rintro x rest ys ε ⟨m,todo,cs,e2,rfl,rfl,e3,g1⟩;cases todo with
   |nil=>cases e2
   |cons s todo =>
    have e2':x = .at (.str s)/\rest=w5 todo:=by injection e2 with e4 e5;exact ⟨e4,e5⟩
    obtain ⟨rfl,rfl⟩:=e2';have hs:s∈ss:=by rw [<- e3];exact yw _ yU
    refine ⟨_,rfl,⟨_,rfl⟩,_,rfl,_,rfl,_,rfl,⟨_,rfl⟩,⟨s,h',great,rfl,nok s hs,hh1,hh4⟩,?_⟩;rintro y m2 ⟨s2,h2,b2,c,e4,rfl,en,ok⟩;injection e4 with e4 e5;injection e4 with e4;injection e4 with e4;injection e5 with e5 _;injection e5 with e5;injection e5 with e5;have e6:h'=h2:=by omega
    subst e4 e6;refine ⟨m2,todo,cs++[c],rfl,rfl,by rw [yv];rfl,by rw [yv,yk,<- e3];show _++(c.name::todo)=_;rw [en],λx hx=>?_⟩;rcases yc.mp hx with hx|hx
    ·exact g1 x hx
    ·rw [yJ.mp hx];exact ok
 -- names
 refine ⟨_,rfl,_,rfl,⟨ns,1,rfl,h63,by decide,by decide⟩,?_⟩;rintro y ⟨q,rfl⟩;have c0:0<=q % ((mo:Int)+1):=uX _ (by omega);have c1:q % ((mo:Int)+1)<(mo:Int)+1:=yi _ (by omega);obtain ⟨k,hk⟩:=yo c0;refine ⟨⟨_,rfl⟩,⟨_,rfl⟩,_,rfl,q,(mo:Int)+1,rfl,rfl,QP (by omega) (by omega),⟨_,rfl⟩,⟨k,by rw [hk],by omega⟩,?_⟩;rintro y q2 ⟨ss,rfl,e1,nd,nok⟩;have el:ss.length=k:=by injection e1 with e1 _;injection e1 with e1;injection e1 with e1;rw [hk] at e1;omega
 exact cloths n3 q2 ss k el (by omega) nd nok
theorem Hy (F:Fun K "_law_parts" "_law_parts" Yw f fd)(J2:Fn P w K mg base 3 "_law_cloth" ["row","name","hues","great"] (spD QA wH))(Ae:Fn P w K mg base 1 "_law_digit" ["row","many"] wq)(J0:Fn P w K mg base 2 "_law_names" ["row","many"] (spD XD Zf))(Av:Fn P w K mg base 2 "_law_number" ["row","great"] (spD zk zu))(Es:Fn P w K mg base 3 "_law_rinses" ["row","hues","great"] (spD XF wJ))(El:Fn P w K mg base 2 "_law_stream" ["script","k"] (spN (XG K) QK)):FnOk P w K mg base v6 4 f fd ["script","most"] (spV (XE K) wI) :=
 okV (k:=3) (b:=Go K) F sc_parts MX (λcdv A outer s H E hr=>⟨_,(@j3 _ _ _ _ _ (@qB _ _ 2 _ _ _ _ sc_parts.nd rfl (Or.inl rfl) (qA El hr (by decide) rfl (@v8 _ _ _ _ _ (pv 0) (@v8 _ _ _ _ _ z0 u9 (by rfl)) (by rfl))) (by rfl) (.inl rfl))
  (@j3 _ _ _ _ _ (@qB _ _ 3 _ _ _ _ sc_parts.nd rfl (Or.inr rfl) (jG (jC (K:=K) (hu6 hr) rfl) (qA Ae hr (by decide) rfl (@v8 _ _ _ _ _ (pv 2) (@v8 _ _ _ _ _ z0 u9 (by rfl)) (by rfl))) z0 (i5 _)) (by rfl) (.inl rfl))
  (@j3 _ _ _ _ _ (@qB _ _ 4 _ _ _ _ sc_parts.nd rfl (Or.inr rfl) (y8 (qu (K:=K) rfl) z0 (qA Ae hr (by decide) rfl (@v8 _ _ _ _ _ (pv 2) (@v8 _ _ _ _ _ z0 u9 (by rfl)) (by rfl)))) (by rfl) (.inl rfl))
  (@j3 _ _ _ _ _ (@qB _ _ 5 _ _ _ _ sc_parts.nd rfl (Or.inl rfl) (qA Es hr (by decide) rfl (@v8 _ _ _ _ _ (pv 2) (@v8 _ _ _ _ _ (pv 4) (@v8 _ _ _ _ _ (pv 3) u9 (by rfl)) (by rfl)) (by rfl))) (by rfl) (.inl rfl))
  (@j3 _ _ _ _ _ (@qB _ _ 6 _ _ _ _ sc_parts.nd rfl (Or.inr rfl) (qA El hr (by decide) rfl (@v8 _ _ _ _ _ (pv 0) (@v8 _ _ _ _ _ z0 u9 (by rfl)) (by rfl))) (by rfl) (.inl rfl))
  (@j3 _ _ _ _ _ (@qB _ _ 7 _ _ _ _ sc_parts.nd rfl (Or.inl rfl) (qA J0 hr (by decide) rfl (@v8 _ _ _ _ _ (pv 6) (@v8 _ _ _ _ _ (qA Ae hr (by decide) rfl (@v8 _ _ _ _ _ (pv 6) (@v8 _ _ _ _ _ (y8 (qu (K:=K) rfl) (pv 1) z0) u9 (by rfl)) (by rfl))) u9 (by rfl)) (by rfl))) (by rfl) (.inl rfl))
  (@j3 _ _ _ _ _ (vt (i:=8) (N':=["name","more","hues","great"]) (cap:=[none,some 6,some 4,some 3]) (i6 rfl rfl rfl) rfl sc_parts.nd rfl rfl (@i7 _ K _ _ _ rfl (pv 7)) (λ_ _ _ _ _ _=>(c9 (i:=0) (by show (["name","more","hues","great"]:List Str).Nodup;decide +kernel) rfl (Or.inl rfl))) (λ_ _ _ _ _ _=>o9) (λ_ _ _ _ _ _=>(qA J2 hr (by decide) rfl (@v8 _ _ _ _ _ (pv 1) (@v8 _ _ _ _ _ (pv 0) (@v8 _ _ _ _ _ (pv 2) (@v8 _ _ _ _ _ (pv 3) u9 (by rfl)) (by rfl)) (by rfl)) (by rfl)))))
  (@j5 _ _ _ (y6 (@xf _ _ _ _ _ (@v8 _ _ _ _ _ (pv 5) (@v8 _ _ _ _ _ (pv 8) (@v8 _ _ _ _ _ (y8 (Xw) (qA Ae hr (by decide) rfl (@v8 _ _ _ _ _ (pv 2) (@v8 _ _ _ _ _ (y8 (qu (K:=K) rfl) (pv 4) z0) u9 (by rfl)) (by rfl))) z0) (@v8 _ _ _ _ _ (qA Av hr (by decide) rfl (@v8 _ _ _ _ _ (pv 2) (@v8 _ _ _ _ _ (pv 3) u9 (by rfl)) (by rfl))) u9 (by rfl)) (by rfl)) (by rfl)) (by rfl)))))))))))),
  (by repeat' first|infer_instance|(refine @Mi.instSemWSTSeqWSeq _ _ _ _ ?_ ?_)|(apply @Mi.instSemWSTForWForOfSemWIOfSemWG))⟩) Ld
structure Mat (H:Hp)(F:Addr)(as:List Addr)(M:List (List Int)):Prop where
 top:H F=some (.lst (as.map V.ref))
 len:as.length=M.length
 row:∀(i:Nat)(a:Addr)(r:List Int),as[i]?=some a->M[i]?=some r->H a=some (.lst (r.map V.int))
 nd:(F::as).Nodup
def me (M:List (List Int))(f g:Nat):Int:=(M.getD f []).getD g 0
def za (M:List (List Int))(i l:Nat)(v:Int):List (List Int):=M.set i ((M.getD i []).set l v)
theorem Nl {M:List (List Int)}{i l f g:Nat}(hi:i<M.length)(hl:l<(M.getD i []).length)(v:Int):me (za M i l v) f g=if f=i/\g=l then v else me M f g:=by
 unfold me za;by_cases hf:f=i
 ·subst hf;have e:(M.set f ((M.getD f []).set l v)).getD f []=(M.getD f []).set l v:=by rw [yC,uM hi];rfl
  rw [e];by_cases hg:g=l
  ·subst hg;rw [if_pos ⟨rfl,rfl⟩,yC,uM hl];rfl
  ·rw [if_neg (λz=>hg z.2),yC,yq (Ne.symm hg),<- yC]
 ·have e:(M.set i ((M.getD i []).set l v)).getD f []=M.getD f []:=by rw [yC,yq (Ne.symm hf),<- yC]
  rw [if_neg (λz=>hf z.1),e]
theorem Mat.set {F:Addr}{M:List (List Int)}(m:Mat H F as M){i:Nat}{a:Addr}(ha:as[i]?=some a)(l:Nat)(v:Int):Mat (v9 H a (.lst (((M.getD i []).set l v).map V.int))) F as (za M i l v):=by
 have nd:=yp.mp m.nd;have am:a∈as:=yh ha;have fa:F≠a:=λz=>nd.1 (z▸am);have hi:i<M.length:=by rw [<- m.len];exact (yB.mp ha).1
 refine ⟨by rw [j9 fa];exact m.top,by unfold za;rw [yg];exact m.len,λj b r hb hr=>?_,m.nd⟩;unfold za at hr;by_cases hj:j=i
 ·subst hj;rw [ha] at hb;cases hb;rw [uM hi] at hr;cases hr;exact g0
 ·rw [yq (Ne.symm hj)] at hr;have:b≠a:=λz=>by
   subst z;obtain ⟨h1,e1⟩:=yB.mp ha;obtain ⟨h2,e2⟩:=yB.mp hb;exact hj ((tU (h₀:=h2) (h₁:=h1) nd.2).mp (e2.trans e1.symm))
  rw [j9 this];exact m.row j b r hb hr
structure ShM (h:Nat)(M:List (List Int)):Prop where
 len:M.length=h+1
 row:∀ i,i<=h->(M.getD i []).length=h
theorem ShM.set {M:List (List Int)}(s:ShM h M){i l:Nat}(v:Int):ShM h (za M i l v):=by
 refine ⟨by unfold za;rw [yg];exact s.len,λj hj=>?_⟩;unfold za;by_cases e:j=i
 ·subst e;rw [yC,uM (by rw [s.len];omega)];show ((M.getD j []).set l v).length=h;rw [yg];exact s.row j hj
 ·rw [yC,yq (Ne.symm e),<- yC];exact s.row j hj
theorem ShM.ofGood {M:List (List Int)}(G:m7 h M):ShM h M:=⟨G.len,λi hi=>by
 have hl:i<M.length:=by rw [G.len];omega
 rw [u8 hl];exact (G.row _ (yA hl)).1⟩
structure Rlx (rss:List (List Int))(h t:Nat)(M:List (List Int)):Prop where
 sh:ShM h M
 ge:∀ f g,f<=h->g<h->(y7 (c5 rss h) f g).1<=me M f g
 z:∀ f g,f<=h->g<h->me M f g<=n5 rss h 0 f g
 t:∀ f g,f<=h->g<h->me M f g<=n5 rss h t f g
theorem Rlx.step {M:List (List Int)}(G:m7 h rss)(R:Rlx rss h t M){i a l:Nat}(hi:i<=h)(ha:a<h)(hl:l<h)(hv:v=me M i l∨v=me M i a+me M a l)(v1:v<=me M i l)(v2:v<=me M i a+me M a l):Rlx rss h t (za M i l v)/\(∀ f g,me (za M i l v) f g<=me M f g)/\me (za M i l v) i l<=n5 rss h t i a+n5 rss h 0 a l:=by
 have hil:i<M.length:=by rw [R.sh.len];omega
 have hll:l<(M.getD i []).length:=by rw [R.sh.row i hi];exact hl
 have ee:=λf g=>Nl (M:=M) (i:=i) (l:=l) (f:=f) (g:=g) hil hll v;have dn:∀ f g,me (za M i l v) f g<=me M f g:=λf g=>by
  rw [ee];split
  ·rename_i e;rw [e.1,e.2];exact v1
  ·exact uS _
 refine ⟨⟨R.sh.set v,λf g hf hg=>?_,λf g hf hg=>uN (dn f g) (R.z f g hf hg),λf g hf hg=>uN (dn f g) (R.t f g hf hg)⟩,dn,?_⟩
 ·rw [ee];split
  ·rename_i e;rw [e.1,e.2];rcases hv with hv|hv
   ·rw [hv];exact R.ge i l hi hl
   ·have t1:=(FW.all G h (yV _)).tri a i l ha hi hl;have t2:=R.ge i a hi ha;have t3:=R.ge a l (by omega) hl;omega
  ·exact R.ge f g hf hg
 ·rw [ee,if_pos ⟨rfl,rfl⟩];have t2:=R.t i a hi ha;have t3:=R.z a l (by omega) hl;omega
theorem Dt (G:m7 h rss){f g:Nat}(hf:f<=h)(hg:g<h):n5 rss h 0 f g=rin rss (f:Int) (g:Int):=(zK G hf hg).symm
theorem Ds (G:m7 h rss){f g:Nat}(hf:f<=h)(hg:g<h)(h0:v<=n5 rss h t f g)(h1:∀ a,a<h->v<=n5 rss h t f a+n5 rss h 0 a g):v<=n5 rss h (t+1) f g:=by
 rw [Zm G hf hg];rcases yH.mp (Xs (l:=n5 rss h t f g::(List.range h).map λa=>n5 rss h t f a+rin rss (a:Int) (g:Int)) (by simp)) with e|e
 ·rw [e];exact h0
 ·obtain ⟨a,ha,e⟩:=yz.mp e;have ha:=yu.mp ha;rw [<- e,<- Dt G (by omega) hg];exact h1 a ha
theorem Nf {M:List (List Int)}(G:m7 h rss)(ht:h<=t)(R:Rlx rss h t M):M=qf rss h:=by
 have G2:=zF G;have dec:∀ k f g,f<=h->g<h->n5 rss h (k+1) f g<=n5 rss h k f g:=λk f g hf hg=>by
  rw [Zm G hf hg];exact Qp yU
 have dec2:∀ k f g,f<=h->g<h->n5 rss h (h+k) f g<=n5 rss h h f g:=λk f g hf hg=>by
  induction k with
  |zero=>exact uS _
  |succ k ih=>exact uN (dec (h+k) f g hf hg) ih
 have lowE:∀ f g,f<=h->g<h->((qf rss h).getD f []).getD g 0=(y7 (c5 rss h) f g).1:=λf g hf hg=>VN G hf hg;have bl:∀ f g,f<=h->g<h->n5 rss h h f g=(y7 (c5 rss h) f g).1:=λf g hf hg=>by
  unfold n5;rw [Dq G];exact lowE f g hf hg
 refine List.ext_getElem (by rw [R.sh.len,G2.len]) λi h1 h2=>?_;have hi:i<=h:=by rw [R.sh.len] at h1;omega
 have r1:=R.sh.row i hi;rw [u8 h1] at r1;have r2:=(G2.row _ (yA h2)).1;refine List.ext_getElem (by rw [r1,r2]) λj j1 j2=>?_;have hj:j<h:=by rw [r1] at j1;exact j1
 have e1:M[i][j]=me M i j:=by unfold me;rw [u8 h1,u8 j1]
 have e2:(qf rss h)[i][j]=(y7 (c5 rss h) i j).1:=by rw [<- lowE i j hi hj,u8 h2,u8 j2]
 rw [e1,e2];have a:=R.ge i j hi hj;have b:=R.t i j hi hj;have c:=dec2 (t-h) i j hi hj;rw [show h+(t-h)=t by omega,bl i j hi hj] at c;omega
theorem Ws {K:Fg}{i:Nat}{p:Addr}{xs:List V}{k:Int}(hi:σ[i]?=some (some (.ref p)))(hj:σ[j]?=some (some (.int k)))(hp:H p=some (.lst xs))(hk:atI xs k=some u)(q:Q u H):tOp (rIx K) (qG i) (qG j) σ H Q :=
 ⟨_,hi,_,hj,.inl ⟨p,xs,k,u,rfl,rfl,SqL.of hp,hk,q⟩⟩
theorem JL {k:Nat}(h:k<r.length):atI (r.map V.int) ((0:Int)+(k:Int))=some (.int (r.getD k 0)):=by rw [uw];exact xS (by rw [yP,yY h,u8 h];rfl)
theorem VG {K:Fg}{R:It->Hp->Prop}{i:Nat}{p:Addr}{xs:List V}(hi:σ[i]?=some (some (.ref p)))(hp:SqL K H p xs)(hl:xs.length<=1000)(q:R (Itr 0 xs.length) H):Qe (i4 (tCB (QC K) (i4 (qG i) ql)) ql) σ H R :=
 ⟨_,hi,.inl ⟨_,_,rfl,.inl ⟨xs,hp,rfl⟩,(xs.length:Int),rfl,by omega,by omega,by rw [Int.toNat_natCast];exact q⟩⟩
noncomputable def vd:List PV->Option PV:=λxs=>open Classical in if h:∃(n:Nat)(rss:List (List Int)),xs=[p9 rss]/\m7 n rss/\1<=n/\n<=4 then some (p9 (qf h.choose_spec.choose h.choose)) else none
theorem Te {a b:List (List Int)}(h:p9 a=p9 b):a=b:=by unfold p9 at h;injection h with h;exact VS (λx y e=>by injection e with e;exact VS (λ_ _ e=>by injection e with e;injection e) e) h
theorem IB (G:m7 h rss)(h1:1<=h)(h4:h<=4):vd [p9 rss]=some (p9 (qf rss h)):=by
 have ex:∃(n:Nat)(rs:List (List Int)),[p9 rss]=[p9 rs]/\m7 n rs/\1<=n/\n<=4:=⟨h,rss,rfl,G,h1,h4⟩;unfold vd;rw [dif_pos ex];have q:=ex.choose_spec.choose_spec;generalize ex.choose_spec.choose=rs at q;generalize ex.choose=n at q;obtain ⟨e,G',_⟩:=q;injection e with e _;have e:=Te e;subst e;have:n=h:=by have:=G.len;have:=G'.len;omega
 subst this;rfl
theorem Bh {y:PV}(h:vd xs=some y):∃(n:Nat)(rss:List (List Int)),xs=[p9 rss]/\m7 n rss/\1<=n/\n<=4/\y=p9 (qf rss n):=by
 unfold vd at h;split at h
 ·rename_i ex;obtain ⟨e,G,h1,h4⟩:=ex.choose_spec.choose_spec;exact ⟨_,_,e,G,h1,h4,(Option.some.inj h).symm⟩
 ·cases h
theorem MT (h:j8 vd vs H Q E):vs.length=(["rinses"]:List Str).length:=by obtain ⟨Hs,xs,y,_,r,e,_⟩:=h;obtain ⟨n,rss,rfl,_⟩:=Bh e;rw [r.length];rfl
structure Copied (H0 H:Hp)(as:List Addr)(M:List (List Int)):Prop where
 len:as.length=M.length
 row:∀(i:Nat)(a:Addr)(r:List Int),as[i]?=some a->M[i]?=some r->H a=some (.lst (r.map V.int))
 new:∀ a∈as,H0 a=none
 nd:as.Nodup
 keep:Same H0 H
theorem Copied.snoc {H0:Hp}{M:List (List Int)}(c:Copied H0 H as M){a:Addr}(ha:H a=none):Copied H0 (v9 H a (.lst (r.map V.int))) (as++[a]) (M++[r]):=by
 have na:∀ b∈as,b≠a:=λb hb z=>by
  obtain ⟨i,hi,e⟩:=uV.mp hb;have hm:i<M.length:=by rw [<- c.len];exact hi
  have:=c.row i b M[i] (by rw [yY hi,e]) (yY hm);rw [z,ha] at this;cases this
 refine ⟨by rw [yN,yN,c.len];rfl,λi b q hb hq=>?_,λb hb=>?_,?_,λb o h=>?_⟩
 ·rw [List.getElem?_append] at hb hq;split at hb
  ·rename_i hi;rw [if_pos (by rw [<- c.len];exact hi)] at hq;rw [j9 (na b (yh hb))];exact c.row i b q hb hq
  ·rename_i hi;rw [if_neg (by rw [<- c.len];exact hi)] at hq;rw [c.len] at hb;cases hk:i-M.length with
   |zero=>rw [hk] at hb hq;cases hb;cases hq;exact g0
   |succ k=>rw [hk] at hb;simp at hb
 ·rcases yc.mp hb with hb|hb
  ·exact c.new b hb
  ·rw [yJ.mp hb];cases h:H0 a with
   |none=>rfl
   |some o=>rw [c.keep _ _ h] at ha;cases ha
 ·refine tZ.mpr ⟨c.nd,yp.mpr ⟨by simp,uk⟩,λx hx y hy=>?_⟩;rw [yJ.mp hy];exact na x hx
 ·rw [j9 (λz=>by rw [z,] at h;rw [c.keep _ _ h] at ha;cases ha)];exact c.keep b o h
abbrev Yj:Stmt:=top 68
theorem sc_least:y4 ["rinses","found","turn","row","amid","last"] ["rinses"] (j7 Yj):=u6
theorem Hi (F:Fun K "_law_least" "_law_least" Yj f fd)(Ad:mg "len"=none)(Al:mg "list"=none)(Ew:mg "min"=none)(Ac:mg "range"=none):FnOk P w K mg base v6 1 f fd ["rinses"] (j8 vd):=by
 refine F.ok (k:=0) sc_least (λvs H Q E h=>MT h) (λcdv A outer s H vs Q E hr h=>⟨_,(j3 (vt (i:=1) (N':=["row"]) (cap:=[none]) (i6 rfl rfl rfl) rfl sc_least.nd rfl rfl (@i7 _ K _ _ _ rfl (pv 0)) (λ_ _ _ _ _ _=>(c9 (i:=0) (by show (["row"]:List Str).Nodup;decide +kernel) rfl (Or.inl rfl))) (λ_ _ _ _ _ _=>o9) (λ_ _ _ _ _ _=>(vj (Zq (K:=K) rfl) rfl Al vH (aW (pv 0)))))
  (j3 (qR PassesOwn.never rfl (zj rfl Ac (aW (c8 (xG (K:=K) rfl) rfl Ad PySem.boot_len (aW (pv 0))))) (gW 2 sc_least.nd)
   (j5 (qR PassesOwn.never rfl (@i7 _ K _ _ _ rfl (pv 1)) (gW 3 sc_least.nd)
   (j5 (qR PassesOwn.never rfl (zj rfl Ac (aW (c8 (xG (K:=K) rfl) rfl Ad PySem.boot_len (aW (pv 3))))) (gW 4 sc_least.nd)
   (j5 (qR PassesOwn.never rfl (zj rfl Ac (aW (c8 (xG (K:=K) rfl) rfl Ad PySem.boot_len (aW (pv 3))))) (gW 5 sc_least.nd)
   (j5 (Wo (c8 (DN rfl) rfl Ew JS (aC (iW (K:=K) rfl (pv 3) (pv 5)) (aW (y8 (qu (K:=K) rfl) (iW (K:=K) rfl (pv 3) (pv 4)) (iW (K:=K) rfl (iW (K:=K) rfl (pv 1) (pv 4)) (pv 5)))))) (BK (pv 3) (pv 5) PP))))))))))
  (j5 (y6 (pv 1))))),?_⟩)
 obtain ⟨Hs,xs,y,sm,r,e,q⟩:=h;obtain ⟨h,rss,rfl,G,h1,h4,rfl⟩:=Bh e;obtain ⟨v0,rr,rfl,p1,p2⟩:=reps_cons.mp r;cases reps_nil.mp p2;obtain ⟨A0,ws,rfl,hA,rA⟩:=rep_lst.mp p1;have hlim:lim=1000000:=rfl;have glen:=G.len;have wl:ws.length=h+1:=by rw [rA.length,yZ];exact glen
 -- copies
 refine ⟨_,rfl,A0,rfl,⟨ws,SqL.of (sm _ _ hA)⟩,Kc (xs:=ws) (λi ys H'=>∃ as:List Addr,ys=as.map V.ref/\Copied H H' as (rss.take i)) ⟨[],rfl,rfl,(λ_ _ _ z=>by simp at z),(λ_ z=>nomatch z),uk,.refl _⟩ (λi ys H' hi ⟨as,e,c⟩=>xX (by rw [e,yZ,c.len,uW];omega)) (λi ys H' hi ⟨as,e,c⟩=>SqL.of (c.keep _ _ (sm _ _ hA))) ?_ ?_⟩
 ·rintro i x ys H' R hx ⟨as,rfl,c⟩ hR;have hi:i<rss.length:=by have:=(yB.mp hx).1;omega
  obtain ⟨w,hw,rw'⟩:=rA.get (i:=i) (x:= .lst (rss[i].map λn=> .at (.int n))) (by rw [yP,yY hi];rfl);rw [hx] at hw;cases hw;obtain ⟨b,us,rfl,hb,rb⟩:=rep_lst.mp rw';have eu:us=rss[i].map V.int:=by have:=Reps.ats (us:=rss[i].map V.int) (by rw [yr];exact rb);exact this
  subst eu;refine ⟨Wk.one rfl,_,rfl,b,_,rfl,.inl (SqL.of (c.keep _ _ (sm _ _ hb))),λl hl=>hR _ _ ⟨as++[l],by rw [yv];rfl,?_⟩⟩;rw [List.take_add_one,yY hi];exact c.snoc hl
 ·rintro ys H1 ⟨as,rfl,c⟩ F hF;rw [wl,<- glen,tS] at c;have m0:Mat (v9 H1 F (.lst (as.map V.ref))) F as rss:=by
   have fa:∀ a∈as,a≠F:=λa ha z=>by
    obtain ⟨i,hi,e⟩:=uV.mp ha;have hm:i<rss.length:=by rw [<- c.len];exact hi
    have:=c.row i a rss[i] (by rw [yY hi,e]) (yY hm);rw [z,hF] at this;cases this
   exact ⟨g0,c.len,λi a r ha hr=>by rw [j9 (fa a (yh ha))];exact c.row i a r ha hr,yp.mpr ⟨λz=>fa F z rfl,c.nd⟩⟩
  have k0:Same H (v9 H1 F (.lst (as.map V.ref))):=c.keep.trans (Jv hF _);have nF:H F=none:=by
   cases z:H F with
   |none=>rfl
   |some o=>rw [c.keep _ _ z] at hF;cases hF
  have al:as.length=h+1:=c.len.trans glen;have kp:∀{H2:Hp}{a:Addr}{o:HO},Same H H2->a∈as->Same H (v9 H2 a o):=λ{H2 a o} k ha b u z=>by
   rw [j9 (λe=>by rw [e,c.new a ha] at z;cases z)];exact k b u z
  have R0:Rlx rss h 0 rss:=⟨ShM.ofGood G,λf g hf hg=>by
   have:=Zn G 0 f g hf hg;exact this,λf g _ _=>uS _,λf g _ _=>uS _⟩
  show tFor (Qe (i4 (tCB (QC K) (i4 (qG 0) ql)) ql)) (qV 2) _ _ [some (.ref A0),some (.ref F),none,none,none,none] _;refine VG (K:=K) (i:=0) (p:=A0) (xs:=ws) (σ:=[some (.ref A0),some (.ref F),none,none,none,none]) rfl (SqL.of (k0 _ _ (sm _ _ hA))) (by omega) ?_;refine ZH (λt σ H2=>∃(M:List (List Int))(s2 s3 s4 s5:Option V),σ=[some (.ref A0),some (.ref F),s2,s3,s4,s5]/\Mat H2 F as M/\Same H H2/\Rlx rss h t M) ⟨rss,_,_,_,_,rfl,m0,k0,R0⟩ ?_ ?_
  ·rintro t σ H2 ht ⟨M,s2,s3,s4,s5,rfl,m,k,R⟩;refine ⟨_,rfl,F,rfl,⟨_,SqL.of m.top⟩,MI (xs:=as.map V.ref) (λi σ H2=>∃(M:List (List Int))(s3 s4 s5:Option V),σ=[some (.ref A0),some (.ref F),some (.int (0+t)),s3,s4,s5]/\Mat H2 F as M/\Same H H2/\Rlx rss h t M/\∀ f g,f<i->f<=h->g<h->me M f g<=n5 rss h (t+1) f g) ⟨M,s3,s4,s5,rfl,m,k,R,λf g hf=>absurd hf (uB _)⟩ (λi σ H2 _ ⟨M,_,_,_,_,m,_⟩=>SqL.of m.top) ?_ ?_⟩
   ·rintro i x σ H2 hx ⟨M,s3,s4,s5,rfl,m,k,R,C⟩;rw [yP] at hx;obtain ⟨a,ha,rfl⟩:=yM.mp hx;have hi:i<=h:=by have:=(yB.mp ha).1;omega
    have hiM:∀{M:List (List Int)},ShM h M->M[i]?=some (M.getD i []):=λ{M} s=>by
     have:i<M.length:=by rw [s.len];omega
     rw [u8 this,yY this]
    have am:a∈as:=yh ha;show tFor (Qe (i4 (tCB (QC K) (i4 (qG 3) ql)) ql)) (qV 4) _ _ [some (.ref A0),some (.ref F),some (.int (0+t)),some (.ref a),s4,s5] _;refine VG (K:=K) (i:=3) (p:=a) (xs:=(M.getD i []).map V.int) (σ:=[some (.ref A0),some (.ref F),some (.int (0+t)),some (.ref a),s4,s5]) rfl (SqL.of (m.row i a _ ha (hiM R.sh))) (by rw [yZ,R.sh.row i hi];omega) ?_;rw [yZ,R.sh.row i hi];refine ZH (λb σ H2=>∃(M:List (List Int))(s4 s5:Option V),σ=[some (.ref A0),some (.ref F),some (.int (0+t)),some (.ref a),s4,s5]/\Mat H2 F as M/\Same H H2/\Rlx rss h t M/\(∀ f g,f<i->f<=h->g<h->me M f g<=n5 rss h (t+1) f g)/\∀ c g,c<b->c<h->g<h->me M i g<=n5 rss h t i c+n5 rss h 0 c g) ⟨M,s4,s5,rfl,m,k,R,C,λc g hc=>absurd hc (uB _)⟩ ?_ ?_
    ·rintro b σ H2 hb ⟨M,s4,s5,rfl,m,k,R,C,D⟩;show tFor (Qe (i4 (tCB (QC K) (i4 (qG 3) ql)) ql)) (qV 5) _ _ [some (.ref A0),some (.ref F),some (.int (0+t)),some (.ref a),some (.int (0+b)),s5] _;refine VG (K:=K) (i:=3) (p:=a) (xs:=(M.getD i []).map V.int) (σ:=[some (.ref A0),some (.ref F),some (.int (0+t)),some (.ref a),some (.int (0+b)),s5]) rfl (SqL.of (m.row i a _ ha (hiM R.sh))) (by rw [yZ,R.sh.row i hi];omega) ?_;rw [yZ,R.sh.row i hi];refine ZH (λl σ H2=>∃(M:List (List Int))(s5:Option V),σ=[some (.ref A0),some (.ref F),some (.int (0+t)),some (.ref a),some (.int (0+b)),s5]/\Mat H2 F as M/\Same H H2/\Rlx rss h t M/\(∀ f g,f<i->f<=h->g<h->me M f g<=n5 rss h (t+1) f g)/\(∀ c g,c<b->c<h->g<h->me M i g<=n5 rss h t i c+n5 rss h 0 c g)/\∀ g,g<l->g<h->me M i g<=n5 rss h t i b+n5 rss h 0 b g) ⟨M,s5,rfl,m,k,R,C,D,λg hg=>absurd hg (uB _)⟩ ?_ ?_
     ·rintro l σ H2 hl ⟨M,s5,rfl,m,k,R,C,D,L⟩;have ri:H2 a=some (.lst ((M.getD i []).map V.int)):=m.row i a _ ha (hiM R.sh);have bl:b<as.length:=by omega
      have rbM:M[b]?=some (M.getD b []):=by
       have:b<M.length:=by rw [R.sh.len];omega
       rw [u8 this,yY this]
      have rb:H2 as[b]=some (.lst ((M.getD b []).map V.int)):=m.row b _ _ (yY bl) rbM;have li:l<(M.getD i []).length:=by rw [R.sh.row i hi];exact hl
      have bi:b<(M.getD i []).length:=by rw [R.sh.row i hi];exact hb
      have lb:l<(M.getD b []).length:=by rw [R.sh.row b (by omega)];exact hl
      refine Ws (k:=0+(l:Int)) rfl rfl ri (JL li) ?_;refine Ws (k:=0+(b:Int)) rfl rfl ri (JL bi) ?_;refine Ws (i:=1) (k:=0+(b:Int)) (u:= .ref as[b]) rfl rfl m.top (by rw [uw];exact xS (by rw [yP,yY bl];rfl)) ?_;refine ⟨_,rfl,.inl ⟨_,_,_,_,rfl,rfl,SqL.of rb,JL lb,.inl ⟨_,_,rfl,rfl,_,_,rfl,?_⟩⟩⟩;generalize hv:(if (M.getD i []).getD b 0+(M.getD b []).getD l 0<(M.getD i []).getD l 0 then (M.getD i []).getD b 0+(M.getD b []).getD l 0 else (M.getD i []).getD l 0)=v;have hv':(v=me M i l∨v=me M i b+me M b l)/\v<=me M i l/\v<=me M i b+me M b l:=by unfold me;rw [<- hv];split<;>omega
      obtain ⟨R',dn,ne⟩:=R.step G hi hb hl hv'.1 hv'.2.1 hv'.2.2;refine ⟨_,rfl,_,rfl,a,_,_,l,rfl,rfl,ri,?_,?_⟩
      ·rw [yZ,R.sh.row i hi,uw];unfold ixN;rw [if_pos (by omega),if_pos (by omega)]
       congr 1
      ·have es:((M.getD i []).map V.int).set l (.int v)=(((M.getD i []).set l v).map V.int):=by rw [List.map_set]
       rw [es];refine ⟨za M i l v,_,rfl,m.set ha l v,kp k am,R',λf g hf hf' hg=>uN (dn f g) (C f g hf hf' hg),λc g hc hc' hg=>uN (dn i g) (D c g hc hc' hg),λg hg hg'=>?_⟩;rcases ui g l with z|z
       ·exact uN (dn i g) (L g z hg')
       ·have:g=l:=by omega
        subst this;exact ne
     ·rintro σ H2 ⟨M,s5,rfl,m,k,R,C,D,L⟩;refine ⟨M,_,_,rfl,m,k,R,C,λc g hc hc' hg=>?_⟩;rcases ui c b with z|z
      ·exact D c g z hc' hg
      ·have:c=b:=by omega
       subst this;exact L g hg hg
    ·rintro σ H2 ⟨M,s4,s5,rfl,m,k,R,C,D⟩;refine ⟨M,_,_,_,rfl,m,k,R,λf g hf hf' hg=>?_⟩;rcases ui f i with z|z
     ·exact C f g z hf' hg
     ·have:f=i:=by omega
      subst this;exact Ds G hf' hg (R.t f g hf' hg) λc hc=>D c g hc hc hg
   ·rintro σ H2 ⟨M,s3,s4,s5,rfl,m,k,R,C⟩;rw [yZ,al] at C;exact ⟨M,_,_,_,_,rfl,m,k,R.sh,R.ge,R.z,λf g hf hg=>C f g (by omega) hf hg⟩
  ·rintro σ H2 ⟨M,s2,s3,s4,s5,rfl,m,k,R⟩;rw [wl] at R;have eM:=Nf G (ul h) R;subst eM
   -- all of it becomes shared
   let Hs':Hp:=λb=>if b=F∨b∈as then H2 b else Hs b
   have nn:∀ b,b=F∨b∈as->H b=none:=λb hb=>by
    rcases hb with rfl|hb
    ·exact nF
    ·exact c.new b hb
   have s1:Same Hs Hs':=λb o z=>by
    show (if _ then _ else _)=_;rw [if_neg (λy=>by have:=sm _ _ z;rw [nn b y] at this;cases this)];exact z
   have s3:Same Hs' H2:=λb o z=>by
    have z:(if b=F∨b∈as then H2 b else Hs b)=some o:=z;split at z
    ·exact z
    ·exact k _ _ (sm _ _ z)
   refine ⟨_,rfl,q (.ref F) Hs' H2 ⟨s1,k,s3,λb hb z=>?_⟩ (rep_lst.mpr ⟨F,as.map V.ref,rfl,?_,?_⟩)⟩
   ·show (if _ then _ else _)=_;rw [if_neg (λy=>hb (nn b y))];exact z
   ·show (if _ then _ else _)=_;rw [if_pos (.inl rfl)];exact m.top
   ·have lens:=m.len;have rows:=m.row;have inAs:∀ a∈as,Hs' a=H2 a:=λa ha=>by show (if _ then _ else _)=_;rw [if_pos (.inr ha)]
    clear_value Hs'
    clear m R q s1 s3;generalize qf rss h=M at lens rows;have go:∀(as:List Addr)(M:List (List Int)),as.length=M.length->(∀(i:Nat)(a:Addr)(r:List Int),as[i]?=some a->M[i]?=some r->Hs' a=some (.lst (r.map V.int)))->Reps Hs' (M.map λr=>PV.lst (r.map λn=> .at (.int n))) (as.map V.ref):=by
     intro as
     induction as with
     |nil =>
      intro M hl _;cases M with
      |nil=>exact .nil
      |cons _ _=>cases hl
     |cons a as ih =>
      intro M hl hr;cases M with
      |nil=>cases hl
      |cons r M=>refine .cons (rep_lst.mpr ⟨a,r.map V.int,rfl,hr 0 a r rfl rfl,?_⟩) (ih M (by simpa using hl) λi b q hb hq=>hr (i+1) b q hb hq);have:=Reps.ofAts (H:=Hs') (r.map V.int);rw [yr] at this;exact this
    exact go as M lens λi a r ha hr=>by rw [inAs a (yh ha)];exact rows i a r ha hr
abbrev Yh:Stmt:=top 14
abbrev UY:MS:=(y9 (jj (x9 qQ (q0 (q9 0) (q0 (dC (.ty "int")) x6))) (Zw (x9 qQ (q0 (q9 0) (q0 (dC (.ty "bool")) x6))))))
def vc:List PV->Option PV:=p6 1 1 UY
theorem TQ:y4 ["thing"] ["thing"] (j7 Yh):=u6
theorem Hf (F:Fun K "is_whole" "is_whole" Yh f fd)(N7:mg "bool"=none)(N9:mg "int"=none)(Ab:mg "isinstance"=none):FnOk P w K mg base v6 1 f fd ["thing"] (j8 vc) :=
 h8 (k:=0) (b:=UY) F TQ rfl λcdv A outer s H E hr=>⟨_,(j5 (y6 (Qx (c8 (jS (K:=K) rfl) rfl Ab jR (aC (pv 0) (aW (vi (v:= .ty "int") rfl N9 Dz rfl)))) (XB (Ro (c8 (jS (K:=K) rfl) rfl Ab jR (aC (pv 0) (aW (vi (v:= .ty "bool") rfl N7 Dx rfl))))))))),
  inferInstance⟩
abbrev Yr:Stmt:=top 17
abbrev Gh:MS:=(y9 (x8 w4 (q9 0) (dC (.int 0))))
def xY:List PV->Option PV:=p6 1 1 Gh
theorem TX:y4 ["cloth"] ["cloth"] (j7 Yr):=u6
theorem Hr (F:Fun K "name_of" "name_of" Yr f fd):FnOk P w K mg base v6 1 f fd ["cloth"] (j8 xY) :=
 h8 (k:=0) (b:=Gh) F TX rfl λcdv A outer s H E hr=>⟨_,(j5 (y6 (iW (K:=K) rfl (pv 0) z0))),
  inferInstance⟩
abbrev WZ:Stmt:=top 18
abbrev UQ:MS:=(y9 (x8 w4 (q9 0) (dC (.int 1))))
def zG:List PV->Option PV:=p6 1 1 UQ
theorem TD:y4 ["cloth"] ["cloth"] (j7 WZ):=u6
theorem NW (F:Fun K "hue_of" "hue_of" WZ f fd):FnOk P w K mg base v6 1 f fd ["cloth"] (j8 zG) :=
 h8 (k:=0) (b:=UQ) F TD rfl λcdv A outer s H E hr=>⟨_,(j5 (y6 (iW (K:=K) rfl (pv 0) z0))),
  inferInstance⟩
abbrev Ym:Stmt:=top 19
abbrev Gd:MS:=(y9 (x8 w4 (q9 0) (dC (.int 2))))
def ve:List PV->Option PV:=p6 1 1 Gd
theorem TV:y4 ["cloth"] ["cloth"] (j7 Ym):=u6
theorem Hl (F:Fun K "length_of" "length_of" Ym f fd):FnOk P w K mg base v6 1 f fd ["cloth"] (j8 ve) :=
 h8 (k:=0) (b:=Gd) F TV rfl λcdv A outer s H E hr=>⟨_,(j5 (y6 (iW (K:=K) rfl (pv 0) z0))),
  inferInstance⟩
abbrev WW:Stmt:=top 20
abbrev UN:MS:=(y9 (x8 w4 (q9 0) (dC (.int 3))))
def VQ:List PV->Option PV:=p6 1 1 UN
theorem TB:y4 ["cloth"] ["cloth"] (j7 WW):=u6
theorem NT (F:Fun K "due_of" "due_of" WW f fd):FnOk P w K mg base v6 1 f fd ["cloth"] (j8 VQ) :=
 h8 (k:=0) (b:=UN) F TB rfl λcdv A outer s H E hr=>⟨_,(j5 (y6 (iW (K:=K) rfl (pv 0) z0))),
  inferInstance⟩
abbrev YG:Stmt:=top 21
abbrev GA:MS:=(y9 (x8 w4 (q9 0) (dC (.int 4))))
def jz:List PV->Option PV:=p6 1 1 GA
theorem Sf:y4 ["cloth"] ["cloth"] (j7 YG):=u6
theorem HL (F:Fun K "weight_of" "weight_of" YG f fd):FnOk P w K mg base v6 1 f fd ["cloth"] (j8 jz) :=
 h8 (k:=0) (b:=GA) F Sf rfl λcdv A outer s H E hr=>⟨_,(j5 (y6 (iW (K:=K) rfl (pv 0) z0))),
  inferInstance⟩
abbrev Yd:Stmt:=top 22
abbrev UU:MS:=(y9 (jj (x9 vc (q0 (q8 0) x6)) (x8 pGe (q9 0) (q9 1))))
def zY:List PV->Option PV:=p6 2 2 UU
theorem TJ:y4 ["thing","least"] ["thing","least"] (j7 Yd):=u6
theorem Ha (F:Fun K "is_from" "is_from" Yd f fd)(An:Fn P w K mg base 1 "is_whole" ["thing"] (j8 vc)):FnOk P w K mg base v6 2 f fd ["thing","least"] (j8 zY) :=
 h8 (k:=1) (b:=UU) F TJ rfl λcdv A outer s H E hr=>⟨_,(j5 (y6 (Qx (fW An hr (aW (pv 0))) (XB (jG (Ji) (pv 0) (pv 1) (i5 _)))))),
  inferInstance⟩
abbrev Yf:Stmt:=top 13
abbrev UW:MS:=(v3 (m3 (dOr (qi (o6 (x9 qQ (q0 (q9 0) (q0 (dC (.ty "str")) x6))))) (qi (dT (zA pLe pLe (dC (.int 1)) (x9 qv (q0 (q9 0) x6)) (dC (.int 8)))))) (y9 (dC (.bl false))) n6)
  (y9 (x9 jb (q0 (m8 [none] [0] (dItS (q8 0)) (v7 0) n9 (zA pLeS pLeS (dC (.str "a")) (q9 0) (dC (.str "z")))) x6))))
def ZX:List PV->Option PV:=p6 1 1 UW
theorem TM:y4 ["thing"] ["thing"] (j7 Yf):=u6
theorem Hd (F:Fun K "is_name" "is_name" Yf f fd)(Az:mg "all"=none)(Ab:mg "isinstance"=none)(Ad:mg "len"=none)(E9:mg "str"=none)(A4:mg "LONGEST_NAME"=some (.int 8 A9)):FnOk P w K mg base v6 1 f fd ["thing"] (j8 ZX) :=
 h8 (k:=0) (b:=UW) F TM rfl λcdv A outer s H E hr=>⟨_,(j3 (i8 (PW.pt (vw (xw (xg (K:=K) rfl (c8 (jS (K:=K) rfl) rfl Ab jR (aC (pv 0) (aW (vi (v:= .ty "str") rfl E9 GN rfl)))) (λ_=>rfl))) (QB (xw (BQ (Qs) (Qs) z0 (c8 (xG (K:=K) rfl) rfl Ad PySem.boot_len (aW (pv 0))) (Jl (v:= .int 8) rfl A4 ⟨_,rfl⟩)))))) (j5 (y6 zH)) i9)
  (j5 (y6 (c8 (QO (K:=K) rfl rfl) rfl Az QN (aW (qz (N':=["sign"]) (cap:=[none]) (i6 rfl rfl rfl) rfl (Ru (pv 0)) (λ_ _ _ _ _ _=>(c9 (i:=0) (by show (["sign"]:List Str).Nodup;decide +kernel) rfl (Or.inl rfl))) (λ_ _ _ _ _ _=>o9) (λ_ _ _ _ _ _=>(BH (BA) (BA) xO (pv 0) xO)))))))),
  inferInstance⟩
abbrev Yc:Stmt:=top 23
abbrev UT:MS:=(v3 (m3 (dOr (qi (o6 (x9 qQ (q0 (q9 0) (q0 (dC (.ty "tuple")) x6))))) (dT (x8 pNe (x9 qv (q0 (q9 0) x6)) (dC (.int 5))))) (y9 (dC (.bl false))) n6)
  (v3 (m3 (dOr (qi (o6 (x9 ZX (q0 (x9 xY (q0 (q8 0) x6)) x6)))) (dOr (qi (o6 (x9 zY (q0 (x9 zG (q0 (q8 0) x6)) (q0 (dC (.int 0)) x6))))) (dT (x8 pGe (x9 zG (q0 (q8 0) x6)) (q9 1))))) (y9 (dC (.bl false))) n6)
  (y9 (jj (x9 zY (q0 (x9 ve (q0 (q8 0) x6)) (q0 (dC (.int 1)) x6))) (jj (x9 vc (q0 (x9 VQ (q0 (q8 0) x6)) x6)) (x9 zY (q0 (x9 jz (q0 (q8 0) x6)) (q0 (dC (.int 1)) x6))))))))
def ZW:List PV->Option PV:=p6 2 2 UT
theorem TH:y4 ["thing","hues"] ["thing","hues"] (j7 Yc):=u6
theorem NZ (F:Fun K "is_cloth" "is_cloth" Yc f fd)(Eu:Fn P w K mg base 1 "due_of" ["cloth"] (j8 VQ))(Ap:Fn P w K mg base 1 "hue_of" ["cloth"] (j8 zG))(Aq:Fn P w K mg base 2 "is_from" ["thing","least"] (j8 zY))(En:Fn P w K mg base 1 "is_name" ["thing"] (j8 ZX))(An:Fn P w K mg base 1 "is_whole" ["thing"] (j8 vc))(Aj:Fn P w K mg base 1 "length_of" ["cloth"] (j8 ve))(Af:Fn P w K mg base 1 "name_of" ["cloth"] (j8 xY))(Ah:Fn P w K mg base 1 "weight_of" ["cloth"] (j8 jz))(Ab:mg "isinstance"=none)(Ad:mg "len"=none)(N3:mg "tuple"=none)(N1:mg "PARTS"=some (.int 5 N4)):FnOk P w K mg base v6 3 f fd ["thing","hues"] (j8 ZW) :=
 h8 (k:=2) (b:=UT) F TH rfl λcdv A outer s H E hr=>⟨_,(j3 (i8 (PW.pt (vw (xw (xg (K:=K) rfl (c8 (jS (K:=K) rfl) rfl Ab jR (aC (pv 0) (aW (vi (v:= .ty "tuple") rfl N3 DB rfl)))) (λ_=>rfl))) (QB (qq (Jj (K:=K) (hu6 hr) rfl) (c8 (xG (K:=K) rfl) rfl Ad PySem.boot_len (aW (pv 0))) (Jl (v:= .int 5) rfl N1 ⟨_,rfl⟩) (i5 _))))) (j5 (y6 zH)) i9)
  (j3 (i8 (PW.pt (vw (xw (xg (K:=K) rfl (fW En hr (aW (fW Af hr (aW (pv 0))))) (λ_=>rfl))) (vw (xw (xg (K:=K) rfl (fW Aq hr (aC (fW Ap hr (aW (pv 0))) (aW z0))) (λ_=>rfl))) (QB (qq (Ji) (fW Ap hr (aW (pv 0))) (pv 1) (i5 _)))))) (j5 (y6 zH)) i9)
  (j5 (y6 (Qx (fW Aq hr (aC (fW Aj hr (aW (pv 0))) (aW z0))) (Qx (fW An hr (aW (fW Eu hr (aW (pv 0))))) (XB (fW Aq hr (aC (fW Ah hr (aW (pv 0))) (aW z0)))))))))),
  inferInstance⟩
abbrev Yg:Stmt:=top 45
abbrev UX:MS:=(v3 (m3 (dOr (qi (o6 (x9 qQ (q0 (q9 0) (q0 (dC (.ty "list")) x6))))) (dT (x8 pNe (x9 qv (q0 (q9 0) x6)) (q9 1)))) (y9 (dC (.bl false))) n6)
  (y9 (x9 jb (q0 (m8 [none] [0] (m5 (q8 0)) (v7 0) n9 (jj (x9 vc (q0 (q8 0) x6)) (x8 pGe (q9 0) (dC (.int 0))))) x6))))
def Xl:List PV->Option PV:=p6 2 2 UX
theorem TN:y4 ["row","hues"] ["row","hues"] (j7 Yg):=u6
theorem He (F:Fun K "is_rinse_row" "is_rinse_row" Yg f fd)(An:Fn P w K mg base 1 "is_whole" ["thing"] (j8 vc))(Az:mg "all"=none)(Ab:mg "isinstance"=none)(Ad:mg "len"=none)(Al:mg "list"=none):FnOk P w K mg base v6 2 f fd ["row","hues"] (j8 Xl) :=
 h8 (k:=1) (b:=UX) F TN rfl λcdv A outer s H E hr=>⟨_,(j3 (i8 (PW.pt (vw (xw (xg (K:=K) rfl (c8 (jS (K:=K) rfl) rfl Ab jR (aC (pv 0) (aW (vi (v:= .ty "list") rfl Al vH rfl)))) (λ_=>rfl))) (QB (qq (Jj (K:=K) (hu6 hr) rfl) (c8 (xG (K:=K) rfl) rfl Ad PySem.boot_len (aW (pv 0))) (pv 1) (i5 _))))) (j5 (y6 zH)) i9)
  (j5 (y6 (c8 (QO (K:=K) rfl rfl) rfl Az QN (aW (qz (N':=["number"]) (cap:=[none]) (i6 rfl rfl rfl) rfl (@i7 _ K _ _ _ rfl (pv 0)) (λ_ _ _ _ _ _=>(c9 (i:=0) (by show (["number"]:List Str).Nodup;decide +kernel) rfl (Or.inl rfl))) (λ_ _ _ _ _ _=>o9) (λ_ _ _ _ _ _=>(Qx (fW An hr (aW (pv 0))) (XB (jG (Ji) (pv 0) z0 (i5 _))))))))))),
  inferInstance⟩
abbrev WN:Stmt:=top 46
abbrev UH:MS:=(v3 (m3 (qi (o6 (x9 qQ (q0 (q9 0) (q0 (dC (.ty "list")) x6))))) xp n6)
  (v3 (u5 1 (x8 vh (x9 qv (q0 (q9 0) x6)) (dC (.int 1))))
  (v3 (m3 (qi (dT (zA pLe pLe (dC (.int 1)) (q9 1) (dC (.int 4))))) xp n6)
  (m3 (qi (o6 (x9 jb (q0 (m8 [none,some 1] [0] (m5 (q8 0)) (v7 0) n9 (x9 Xl (q0 (q8 0) (q0 (q8 1) x6)))) x6)))) xp n6))))
def ZS:List PV->Option PV:=p6 2 1 UH
theorem sc_check_rinses:y4 ["rinses","hues"] ["rinses"] (j7 WN):=u6
theorem NM (F:Fun K "check_rinses" "check_rinses" WN f fd)(A7:Fn P w K mg base 2 "is_rinse_row" ["row","hues"] (j8 Xl))(Az:mg "all"=none)(Ab:mg "isinstance"=none)(Ad:mg "len"=none)(Al:mg "list"=none)(D8:mg "MOST_HUES"=some (.int 4 D9)):FnOk P w K mg base v6 3 f fd ["rinses"] (j8 ZS) :=
 h8 (k:=2) (b:=UH) F sc_check_rinses rfl λcdv A outer s H E hr=>⟨_,(j3 (i8 (xw (xg (K:=K) rfl (c8 (jS (K:=K) rfl) rfl Ab jR (aC (pv 0) (aW (vi (v:= .ty "list") rfl Al vH rfl)))) (λ_=>rfl))) (j5 zJ) i9)
  (j3 (sW 1 sc_check_rinses.nd (y8 (Xw) (c8 (xG (K:=K) rfl) rfl Ad PySem.boot_len (aW (pv 0))) z0))
  (j3 (i8 (xw (BQ (Qs) (Qs) z0 (pv 1) (Jl (v:= .int 4) rfl D8 ⟨_,rfl⟩))) (j5 zJ) i9)
  (j5 (i8 (xw (xg (K:=K) rfl (c8 (QO (K:=K) rfl rfl) rfl Az QN (aW (qz (N':=["row","hues"]) (cap:=[none,some 1]) (i6 rfl rfl rfl) rfl (@i7 _ K _ _ _ rfl (pv 0)) (λ_ _ _ _ _ _=>(c9 (i:=0) (by show (["row","hues"]:List Str).Nodup;decide +kernel) rfl (Or.inl rfl))) (λ_ _ _ _ _ _=>o9) (λ_ _ _ _ _ _=>(fW A7 hr (aC (pv 0) (aW (pv 1)))))))) (λ_=>rfl))) (j5 zJ) i9))))),
  inferInstance⟩
abbrev YA:Stmt:=top 47
abbrev Gs:MS:=(y9 (m8 [none,none] [0,1] (wU (q0 (q8 0) x6)) (qP 2 (c6 (v7 0) (c6 (v7 1) qO))) n9 (qj (q0 (q8 1) (q0 (qD (q0 (q8 0) x6)) x6)))))
def Xp:List PV->Option PV:=qt 1 1 Gs
theorem Sb:y4 ["row"] ["row"] (j7 YA):=u6
theorem HC (F:Fun K "straight_ways" "straight_ways" YA f fd)(Ai:mg "enumerate"=none):FnOk P w K mg base v6 1 f fd ["row"] (p5 Xp) :=
 okO (k:=0) (b:=Gs) F Sb rfl λcdv A outer s H E hr=>⟨_,(j5 (y6 (qz (N':=["hue","number"]) (cap:=[none,none]) (i6 rfl rfl rfl) rfl (Wi (K:=K) rfl rfl Ai (aW (pv 0))) (λ_ _ _ _ _ _=>(jH (K:=K) (n:=2) rfl rfl (qW (c9 (i:=0) (by show (["hue","number"]:List Str).Nodup;decide +kernel) rfl (Or.inl rfl)) (qW (c9 (i:=1) (by show (["hue","number"]:List Str).Nodup;decide +kernel) rfl (Or.inl rfl)) jI)))) (λ_ _ _ _ _ _=>o9) (λ_ _ _ _ _ _=>(@xf _ _ _ _ _ (aC (pv 1) (aW (@xD _ _ _ _ (aW (pv 0)))))))))),
  inferInstance⟩
abbrev Yi:Stmt:=top 48
abbrev UZ:MS:=(y9 (qj (q0 (x8 c7 (x8 w4 (q9 0) (dC (.int 0))) (x8 w4 (q9 1) (dC (.int 0)))) (q0 (x8 c7 (x8 w4 (q9 0) (dC (.int 1))) (x8 w4 (q9 1) (dC (.int 1)))) x6))))
def Xm:List PV->Option PV:=p6 2 2 UZ
theorem TR:y4 ["way","onward"] ["way","onward"] (j7 Yi):=u6
theorem Hg (F:Fun K "joined" "joined" Yi f fd):FnOk P w K mg base v6 1 f fd ["way","onward"] (j8 Xm) :=
 h8 (k:=0) (b:=UZ) F TR rfl λcdv A outer s H E hr=>⟨_,(j5 (y6 (@xf _ _ _ _ _ (aC (y8 (qu (K:=K) rfl) (iW (K:=K) rfl (pv 0) z0) (iW (K:=K) rfl (pv 1) z0)) (aW (y8 (qu (K:=K) rfl) (iW (K:=K) rfl (pv 0) z0) (iW (K:=K) rfl (pv 1) z0))))))),
  inferInstance⟩
abbrev Yn:Stmt:=top 49
abbrev Ge:MS:=(y9 (dIf (dT (x8 pLt (x8 w4 (q9 1) (dC (.int 0))) (x8 w4 (q9 0) (dC (.int 0))))) (q8 1) (q8 0)))
def Xn:List PV->Option PV:=p6 2 2 Ge
theorem TW:y4 ["way","other"] ["way","other"] (j7 Yn):=u6
theorem Hm (F:Fun K "lesser" "lesser" Yn f fd):FnOk P w K mg base v6 1 f fd ["way","other"] (j8 Xn) :=
 h8 (k:=0) (b:=Ge) F TW rfl λcdv A outer s H E hr=>⟨_,(j5 (y6 (We (qq (Wa) (iW (K:=K) rfl (pv 1) z0) (iW (K:=K) rfl (pv 0) z0) (i5 _)) (pv 1) (pv 0)))),
  inferInstance⟩
abbrev YF:Stmt:=top 50
abbrev Gz:MS:=(y9 (m8 [none,none,some 0,some 1] [0,1] (wW (q0 (q8 0) (q0 (q8 2) x6))) (qP 2 (c6 (v7 0) (c6 (v7 1) qO))) n9 (x9 Xn (q0 (q8 0) (q0 (x9 Xm (q0 (x8 w4 (q9 2) (q9 3)) (q0 (q8 1) x6))) x6)))))
def Qo:List PV->Option PV:=qt 3 3 Gz
theorem Se:y4 ["ways","hue","onward"] ["ways","hue","onward"] (j7 YF):=u6
theorem HK (F:Fun K "ways_through" "ways_through" YF f fd)(Ex:Fn P w K mg base 1 "joined" ["way","onward"] (j8 Xm))(Ez:Fn P w K mg base 1 "lesser" ["way","other"] (j8 Xn))(Id:mg "zip"=none):FnOk P w K mg base v6 2 f fd ["ways","hue","onward"] (p5 Qo) :=
 okO (k:=1) (b:=Gz) F Se rfl λcdv A outer s H E hr=>⟨_,(j5 (y6 (qz (N':=["way","more","ways","hue"]) (cap:=[none,none,some 0,some 1]) (i6 rfl rfl rfl) rfl (BL (K:=K) rfl rfl Id (aC (pv 0) (aW (pv 2)))) (λ_ _ _ _ _ _=>(jH (K:=K) (n:=2) rfl rfl (qW (c9 (i:=0) (by show (["way","more","ways","hue"]:List Str).Nodup;decide +kernel) rfl (Or.inl rfl)) (qW (c9 (i:=1) (by show (["way","more","ways","hue"]:List Str).Nodup;decide +kernel) rfl (Or.inl rfl)) jI)))) (λ_ _ _ _ _ _=>o9) (λ_ _ _ _ _ _=>(fW Ez hr (aC (pv 0) (aW (fW Ex hr (aC (iW (K:=K) rfl (pv 2) (pv 3)) (aW (pv 1))))))))))),
  inferInstance⟩
abbrev Yl:Stmt:=top 51
abbrev Gc:MS:=(v3 (u5 1 (m8 [none] [0] (m5 (q8 0)) (v7 0) n9 (x9 Xp (q0 (q8 0) x6))))
  (v3 (xb (xq (q0 (x8 vh (x9 qv (q0 (q9 0) x6)) (dC (.int 1))) x6)) (v7 2) (v3 (u5 3 (x8 w4 (q9 1) (q9 2)))
  (u5 1 (m8 [none,some 2,some 3] [0] (m5 (q8 1)) (v7 0) n9 (x9 Qo (q0 (q8 0) (q0 (q8 1) (q0 (q8 2) x6))))))))
  (y9 (q8 1))))
def ZZ:List PV->Option PV:=p6 4 1 Gc
theorem sc_least_ways:y4 ["rinses","table","hue","onward"] ["rinses"] (j7 Yl):=u6
theorem Hk (F:Fun K "least_ways" "least_ways" Yl f fd)(Ax:Fn P w K mg base 1 "straight_ways" ["row"] (p5 Xp))(A6:Fn P w K mg base 2 "ways_through" ["ways","hue","onward"] (p5 Qo))(Ad:mg "len"=none)(Ac:mg "range"=none):FnOk P w K mg base v6 3 f fd ["rinses"] (j8 ZZ) :=
 h8 (k:=2) (b:=Gc) F sc_least_ways rfl λcdv A outer s H E hr=>⟨_,(j3 (vt (i:=1) (N':=["row"]) (cap:=[none]) (i6 rfl rfl rfl) rfl sc_least_ways.nd rfl rfl (@i7 _ K _ _ _ rfl (pv 0)) (λ_ _ _ _ _ _=>(c9 (i:=0) (by show (["row"]:List Str).Nodup;decide +kernel) rfl (Or.inl rfl))) (λ_ _ _ _ _ _=>o9) (λ_ _ _ _ _ _=>(fW Ax hr (aW (pv 0)))))
  (j3 (qR PassesOwn.never rfl (zj rfl Ac (aW (y8 (Xw) (c8 (xG (K:=K) rfl) rfl Ad PySem.boot_len (aW (pv 0))) z0))) (gW 2 sc_least_ways.nd)
   (j3 (sW 3 sc_least_ways.nd (iW (K:=K) rfl (pv 1) (pv 2)))
  (j5 (vt (i:=1) (N':=["ways","hue","onward"]) (cap:=[none,some 2,some 3]) (i6 rfl rfl rfl) rfl sc_least_ways.nd rfl rfl (@i7 _ K _ _ _ rfl (pv 1)) (λ_ _ _ _ _ _=>(c9 (i:=0) (by show (["ways","hue","onward"]:List Str).Nodup;decide +kernel) rfl (Or.inl rfl))) (λ_ _ _ _ _ _=>o9) (λ_ _ _ _ _ _=>(fW A6 hr (aC (pv 0) (aC (pv 1) (aW (pv 2))))))))))
  (j5 (y6 (pv 1))))),
  inferInstance⟩
abbrev YB:Stmt:=top 52
abbrev Gu:MS:=(y9 (m8 [none] [0] (m5 (q8 0)) (v7 0) n9 (x8 w4 (q9 0) (dC (.int 0)))))
def Jc:List PV->Option PV:=qt 1 1 Gu
theorem Sc:y4 ["ways"] ["ways"] (j7 YB):=u6
theorem HF (F:Fun K "sums_of" "sums_of" YB f fd):FnOk P w K mg base v6 1 f fd ["ways"] (p5 Jc) :=
 okO (k:=0) (b:=Gu) F Sc rfl λcdv A outer s H E hr=>⟨_,(j5 (y6 (qz (N':=["way"]) (cap:=[none]) (i6 rfl rfl rfl) rfl (@i7 _ K _ _ _ rfl (pv 0)) (λ_ _ _ _ _ _=>(c9 (i:=0) (by show (["way"]:List Str).Nodup;decide +kernel) rfl (Or.inl rfl))) (λ_ _ _ _ _ _=>o9) (λ_ _ _ _ _ _=>(iW (K:=K) rfl (pv 0) z0))))),
  inferInstance⟩
abbrev Yk:Stmt:=top 53
abbrev Gb:MS:=(v3 (zT (x9 ZS (q0 (q8 0) x6)))
  (y9 (m8 [none] [0] (m5 (x9 ZZ (q0 (q8 0) x6))) (v7 0) n9 (x9 Jc (q0 (q8 0) x6)))))
def ZY:List PV->Option PV:=qt 1 1 Gb
theorem TU:y4 ["rinses"] ["rinses"] (j7 Yk):=u6
theorem Hj (F:Fun K "least_rinses" "least_rinses" Yk f fd)(A8:Fn P w K mg base 3 "check_rinses" ["rinses"] (j8 ZS))(D5:Fn P w K mg base 3 "least_ways" ["rinses"] (j8 ZZ))(Er:Fn P w K mg base 1 "sums_of" ["ways"] (p5 Jc)):FnOk P w K mg base v6 4 f fd ["rinses"] (p5 ZY) :=
 okO (k:=3) (b:=Gb) F TU rfl λcdv A outer s H E hr=>⟨_,(j3 (zl (fW A8 hr (aW (pv 0))))
  (j5 (y6 (qz (N':=["ways"]) (cap:=[none]) (i6 rfl rfl rfl) rfl (@i7 _ K _ _ _ rfl (fW D5 hr (aW (pv 0)))) (λ_ _ _ _ _ _=>(c9 (i:=0) (by show (["ways"]:List Str).Nodup;decide +kernel) rfl (Or.inl rfl))) (λ_ _ _ _ _ _=>o9) (λ_ _ _ _ _ _=>(fW Er hr (aW (pv 0)))))))),
  inferInstance⟩
abbrev WO:Stmt:=top 56
abbrev UI:MS:=(v3 (m3 (zy (dT (x8 wd (q9 0) (dC .non))) (qi (zy (o6 (x9 zY (q0 (q8 0) (q0 (dUn pNeg (dC (.int 1))) x6)))) (dT (x8 pLt (q9 0) (q9 2)))))) xp n6)
  (m3 (qi (o6 (x9 zY (q0 (q8 1) (q0 (dC (.int 0)) x6))))) xp n6))
def ZT:List PV->Option PV:=p6 3 3 UI
theorem Tx:y4 ["last","time","hues"] ["last","time","hues"] (j7 WO):=u6
theorem NN (F:Fun K "check_start" "check_start" WO f fd)(Aq:Fn P w K mg base 2 "is_from" ["thing","least"] (j8 zY)):FnOk P w K mg base v6 3 f fd ["last","time","hues"] (j8 ZT) :=
 h8 (k:=2) (b:=UI) F Tx rfl λcdv A outer s H E hr=>⟨_,(j3 (i8 (PW.pt (Wp (qq (Wb) (pv 0) we (i5 _)) (Wq (xw (PW.pt (Wp (xg (K:=K) rfl (fW Aq hr (aC (pv 0) (aW (Jn JB z0)))) (λ_=>rfl)) (Wq (qq (Wa) (pv 0) (pv 2) (i5 _))))))))) (j5 zJ) i9)
  (j5 (i8 (xw (xg (K:=K) rfl (fW Aq hr (aC (pv 1) (aW z0))) (λ_=>rfl))) (j5 zJ) i9))),
  inferInstance⟩
abbrev WK:Stmt:=top 57
abbrev UF:MS:=(v3 (m3 (dT (x8 pGt (x9 qv (q0 (q9 0) x6)) (dC (.int 10)))) xp n6)
  (v3 (vJ 2 Ki)
  (xb (m5 (q8 0)) (v7 3) (v3 (m3 (qi (o6 (x9 ZW (q0 (q8 3) (q0 (q8 1) x6))))) xp n6)
  (v3 (m3 (dT (dDIn (x9 xY (q0 (q8 3) x6)) (q9 2))) xp n6)
  (dPut 2 (x9 xY (q0 (q8 3) x6)) (dC (.bl true))))))))
def ZR:List PV->Option PV:=p6 4 2 UF
theorem sc_check_cloths:y4 ["cloths","hues","seen","cloth"] ["cloths","hues"] (j7 WK):=u6
theorem NK (F:Fun K "check_cloths" "check_cloths" WK f fd)(Ef:Fn P w K mg base 3 "is_cloth" ["thing","hues"] (j8 ZW))(Af:Fn P w K mg base 1 "name_of" ["cloth"] (j8 xY))(Ad:mg "len"=none)(B9:mg "MOST_CLOTHS"=some (.int 10 B8)):FnOk P w K mg base v6 4 f fd ["cloths","hues"] (j8 ZR) :=
 h8 (k:=3) (b:=UF) F sc_check_cloths rfl λcdv A outer s H E hr=>⟨_,(j3 (i8 (qq (VZ) (c8 (xG (K:=K) rfl) rfl Ad PySem.boot_len (aW (pv 0))) (Jl (v:= .int 10) rfl B9 ⟨_,rfl⟩) (i5 _)) (j5 zJ) i9)
  (j3 (sW 2 sc_check_cloths.nd Rf)
  (j5 (qR PassesOwn.never rfl (@i7 _ K _ _ _ rfl (pv 0)) (gW 3 sc_check_cloths.nd)
   (j3 (i8 (xw (xg (K:=K) rfl (fW Ef hr (aC (pv 3) (aW (pv 1)))) (λ_=>rfl))) (j5 zJ) i9)
  (j3 (i8 (BR (HZ (xV hr) (fW Af hr (aW (pv 3))) (pv 2))) (j5 zJ) i9)
  (j5 (RH (xV hr) (pv 2) (fW Af hr (aW (pv 3))) zH rfl)))))))),
  inferInstance⟩
abbrev WC:Stmt:=jq (top 58) 1
abbrev Uw (Aa:Addr):MS:=(y9 (x8 vh (x9 qv (q0 (xM Aa "least" (q8 0)) x6)) (dC (.int 1))))
def jv (Aa:Addr):List PV->Option PV:=p6 1 1 (Uw Aa)
theorem Tn:y4 ["self"] ["self"] (j7 WC):=u6
theorem NA (F:Fun K "hues" "Works.hues" WC f fd)(Ad:mg "len"=none)[zg K Aa][qK K Aa "least"]:FnOk P w K mg base v6 1 f fd ["self"] (j8 (jv Aa)) :=
 h8 (k:=0) (b:=(Uw Aa)) F Tn rfl λcdv A outer s H E hr=>⟨_,(j5 (y6 (y8 (Xw) (c8 (xG (K:=K) rfl) rfl Ad PySem.boot_len (aW (vm (K:=K) rfl (pv 0) rfl))) z0))),
  inferInstance⟩
abbrev WH:Stmt:=jq (top 58) 4
abbrev UB (Aa:Addr):MS:=(y9 (x8 w4 (x8 w4 (xM Aa "least" (q8 0)) (q9 1)) (q9 2)))
def Xh (Aa:Addr):List PV->Option PV:=p6 3 3 (UB Aa)
theorem Tu:y4 ["self","first","then"] ["self","first","then"] (j7 WH):=u6
theorem NG (F:Fun K "tray_rinse" "Works.tray_rinse" WH f fd)[zg K Aa][qK K Aa "least"]:FnOk P w K mg base v6 1 f fd ["self","first","then"] (j8 (Xh Aa)) :=
 h8 (k:=0) (b:=(UB Aa)) F Tu rfl λcdv A outer s H E hr=>⟨_,(j5 (y6 (iW (K:=K) rfl (iW (K:=K) rfl (vm (K:=K) rfl (pv 0) rfl) (pv 1)) (pv 2)))),
  inferInstance⟩
abbrev WE:Stmt:=jq (top 58) 3
abbrev Uy (Aa:Addr):MS:=(y9 (dIf (dT (x8 pEq (q9 1) (q9 2))) (dC (.int 0)) (xo Aa "tray_rinse" (Xh Aa) (q8 0) (q0 (q8 1) (q0 (q8 2) x6)))))
def Ql (Aa:Addr):List PV->Option PV:=p6 3 3 (Uy Aa)
theorem Tq:y4 ["self","first","then"] ["self","first","then"] (j7 WE):=u6
theorem ND (F:Fun K "rinse" "Works.rinse" WE f fd)(At:Mt P w K mg base 1 Aa "tray_rinse" ["self","first","then"] (j8 (Xh Aa))):FnOk P w K mg base v6 2 f fd ["self","first","then"] (j8 (Ql Aa)) :=
 h8 (k:=1) (b:=(Uy Aa)) F Tq rfl λcdv A outer s H E hr=>⟨_,(j5 (y6 (We (qq (jC (K:=K) (hu6 hr) rfl) (pv 1) (pv 2) (i5 _)) z0 (Qy At hr (by decide) (pv 0) (aC (pv 1) (aW (pv 2))))))),
  inferInstance⟩
abbrev WF:Stmt:=jq (top 58) 5
abbrev Uz (Aa:Addr):MS:=(y9 (qj (q0 (xM Aa "last" (q8 0)) (q0 (xM Aa "time" (q8 0)) x6))))
def Xg (Aa:Addr):List PV->Option PV:=p6 1 1 (Uz Aa)
theorem Tr:y4 ["self"] ["self"] (j7 WF):=u6
theorem NE (F:Fun K "start" "Works.start" WF f fd)[zg K Aa][qK K Aa "last"][qK K Aa "time"]:FnOk P w K mg base v6 1 f fd ["self"] (j8 (Xg Aa)) :=
 h8 (k:=0) (b:=(Uz Aa)) F Tr rfl λcdv A outer s H E hr=>⟨_,(j5 (y6 (@xf _ _ _ _ _ (aC (vm (K:=K) rfl (pv 0) rfl) (aW (vm (K:=K) rfl (pv 0) rfl)))))),
  inferInstance⟩
abbrev WD:Stmt:=jq (top 58) 6
abbrev Ux (Aa:Addr):MS:=(y9 (x9 Qw (q0 (xM Aa "held" (q8 0)) x6)))
def Xf (Aa:Addr):List PV->Option PV:=qt 1 1 (Ux Aa)
theorem Tp:y4 ["self"] ["self"] (j7 WD):=u6
theorem NC (F:Fun K "names" "Works.names" WD f fd)(As:mg "sorted"=none)[zg K Aa][qK K Aa "held"]:FnOk P w K mg base v6 1 f fd ["self"] (p5 (Xf Aa)) :=
 okO (k:=0) (b:=(Ux Aa)) F Tp rfl λcdv A outer s H E hr=>⟨_,(j5 (y6 (c8 (JV (K:=K) rfl rfl) rfl As Zp (aW (vm (K:=K) rfl (pv 0) rfl))))),
  inferInstance⟩
abbrev Wz:Stmt:=jq (top 58) 7
abbrev Uu (Aa:Addr):MS:=(v3 (m3 (dOr (qi (o6 (x9 qQ (q0 (q9 1) (q0 (dC (.ty "str")) x6))))) (dT (Zv (q9 1) (xM Aa "held" (q8 0))))) xp n6)
  (y9 (f9 (xM Aa "held" (q8 0)) (q9 1))))
def vb (Aa:Addr):List PV->Option PV:=p6 2 2 (Uu Aa)
theorem Tl:y4 ["self","name"] ["self","name"] (j7 Wz):=u6
theorem Ny (F:Fun K "cloth" "Works.cloth" Wz f fd)(Ab:mg "isinstance"=none)(E9:mg "str"=none)[zg K Aa][qK K Aa "held"]:FnOk P w K mg base v6 1 f fd ["self","name"] (j8 (vb Aa)) :=
 h8 (k:=0) (b:=(Uu Aa)) F Tl rfl λcdv A outer s H E hr=>⟨_,(j3 (i8 (PW.pt (vw (xw (xg (K:=K) rfl (c8 (jS (K:=K) rfl) rfl Ab jR (aC (pv 1) (aW (vi (v:= .ty "str") rfl E9 GN rfl)))) (λ_=>rfl))) (QB (BR (Ra (xV hr) (pv 1) (vm (K:=K) rfl (pv 0) rfl)))))) (j5 zJ) i9)
  (j5 (y6 (vk (xV hr) (vm (K:=K) rfl (pv 0) rfl) (pv 1) (λ_ _=>rfl))))),
  inferInstance⟩
abbrev Yt:Stmt:=top 24
abbrev Gj:MS:=(y9 (m8 [none] [0] (m5 (q8 0)) (v7 0) n9 (x9 xY (q0 (q8 0) x6))))
def Ja:List PV->Option PV:=qt 1 1 Gj
theorem TY:y4 ["cloths"] ["cloths"] (j7 Yt):=u6
theorem Hu (F:Fun K "names_of" "names_of" Yt f fd)(Af:Fn P w K mg base 1 "name_of" ["cloth"] (j8 xY)):FnOk P w K mg base v6 2 f fd ["cloths"] (p5 Ja) :=
 okO (k:=1) (b:=Gj) F TY rfl λcdv A outer s H E hr=>⟨_,(j5 (y6 (qz (N':=["cloth"]) (cap:=[none]) (i6 rfl rfl rfl) rfl (@i7 _ K _ _ _ rfl (pv 0)) (λ_ _ _ _ _ _=>(c9 (i:=0) (by show (["cloth"]:List Str).Nodup;decide +kernel) rfl (Or.inl rfl))) (λ_ _ _ _ _ _=>o9) (λ_ _ _ _ _ _=>(fW Af hr (aW (pv 0))))))),
  inferInstance⟩
abbrev Js:Stmt:=top 25
abbrev UE:MS:=(v3 (u5 1 (dC (.int 1)))
  (v3 (xb (m5 (q8 0)) (v7 2) (dAug 1 pIpM (x9 jz (q0 (q8 2) x6))))
  (y9 (Kj [1] (q0 (q8 0) x6) (qj (q0 (x8 zh (x9 ve (q0 (q8 0) x6)) (x8 pDiv (q9 1) (x9 jz (q0 (q8 0) x6)))) (q0 (x9 xY (q0 (q8 0) x6)) x6)))))))
def ZQ:List PV->Option PV:=qt 3 1 UE
theorem sc_by_steepness:y4 ["cloths","common","cloth"] ["cloths"] (j7 Js):=u6
theorem NJ (F:Fun K "by_steepness" "by_steepness" Js f fd)(Aj:Fn P w K mg base 1 "length_of" ["cloth"] (j8 ve))(Af:Fn P w K mg base 1 "name_of" ["cloth"] (j8 xY))(Ah:Fn P w K mg base 1 "weight_of" ["cloth"] (j8 jz))(As:mg "sorted"=none)(l_f:fd.code = .ref c_l)(l_C:∀ h:Heap,K.In h->PySem.W.CodeHd h c_l P_l)(l_P:(P_l,p_l,[((⟨61,30,61,109⟩:Pos),("by_steepness.<locals>.<lambda>":Str))])∈TABS):FnOk P w K mg base v6 6 f fd ["cloths"] (p5 ZQ) :=
 okOC (k:=5) (b:=UE) F sc_by_steepness rfl λA outer s H E hr=>⟨_,(j3 (sW 1 sc_by_steepness.nd z0)
  (j3 (qR PassesOwn.never rfl (@i7 _ K _ _ _ rfl (pv 0)) (gW 2 sc_by_steepness.nd)
   (j5 (RG (i:=1) sc_by_steepness.nd rfl (Or.inr rfl) (fW Ah hr (aW (pv 2))) Ll)))
  (j5 (y6 (Rp (K:=K) (k:=2) (x:="cloth") (fr:=["common"]) (fi:=[1]) (clos:=[("common",s.heap.objs.size+1)]) rfl (hr.mono (by decide)) rfl As (aW (pv 0)) l_P
  (by exact yJ.mpr rfl) (λp hp _=>by rw [yJ.mp hp];rfl) l_f l_C ⟨rfl,rfl,rfl,by decide +kernel,by decide +kernel,(λx h=>by
   by_cases e:x = "common"
   ·rw [e];exact yJ.mpr rfl
   ·exfalso
    revert h
    show ¬ (List.lookup x _=_);simp only [List.lookup]
    repeat' split
    all_goals simp_all),by decide +kernel⟩ ⟨rfl,(λj y i e1 e2=>by
    match j,e1,e2 with
    |0,e1,e2=>cases e1;cases e2;exact ⟨rfl,rfl,rfl,.inr (.inl rfl)⟩
    |j+1,e1,_=>simp at e1),(λy c e=>e),(λy c _ e=>e)⟩
  (λf c' s H hr2=>(@xf _ _ _ _ _ (aC (y8 (jD) (fW Aj hr2 (aW (pv 0))) (y8 (VY) (pv 1) (fW Ah hr2 (aW (pv 0))))) (aW (fW Af hr2 (aW (pv 0)))))))
  (λ_ _ _ _ _=>rfl)))))),
  inferInstance⟩
abbrev WB:Stmt:=jq (top 58) 8
abbrev Uv (Aa:Addr):MS:=(y9 (m8 [none,some 1] [0] (dItV (xM Aa "held" (q8 0))) (v7 0) (dT (x8 pEq (x9 zG (q0 (q8 0) x6)) (q9 1))) (q8 0)))
def Xe (Aa:Addr):List PV->Option PV:=qt 2 2 (Uv Aa)
theorem Tm:y4 ["self","hue"] ["self","hue"] (j7 WB):=u6
theorem Nz (F:Fun K "cloths_in" "Works.cloths_in" WB f fd)(Ap:Fn P w K mg base 1 "hue_of" ["cloth"] (j8 zG))[zg K Aa][qK K Aa "held"]:FnOk P w K mg base v6 2 f fd ["self","hue"] (p5 (Xe Aa)) :=
 okO (k:=1) (b:=(Uv Aa)) F Tm rfl λcdv A outer s H E hr=>⟨_,(j5 (y6 (qz (N':=["cloth","hue"]) (cap:=[none,some 1]) (i6 rfl rfl rfl) rfl (Rx (vm (K:=K) rfl (pv 0) rfl)) (λ_ _ _ _ _ _=>(c9 (i:=0) (by show (["cloth","hue"]:List Str).Nodup;decide +kernel) rfl (Or.inl rfl))) (λ_ _ _ _ _ _=>(BS (qq (jC (K:=K) (hu6 hr) rfl) (fW Ap hr (aW (pv 0))) (pv 1) (i5 _)))) (λ_ _ _ _ _ _=>(pv 0))))),
  inferInstance⟩
abbrev WG:Stmt:=jq (top 58) 10
abbrev UA (Aa:Addr):MS:=(y9 (x9 Ja (q0 (x9 ZQ (q0 (xo Aa "cloths_in" (Xe Aa) (q8 0) (q0 (q8 1) x6)) x6)) x6)))
def Qm (Aa:Addr):List PV->Option PV:=qt 2 2 (UA Aa)
theorem Tt:y4 ["self","hue"] ["self","hue"] (j7 WG):=u6
theorem NF (F:Fun K "steep_row" "Works.steep_row" WG f fd)(B3:Fn P w K mg base 6 "by_steepness" ["cloths"] (p5 ZQ))(Ek:Fn P w K mg base 2 "names_of" ["cloths"] (p5 Ja))(Au:Mt P w K mg base 2 Aa "cloths_in" ["self","hue"] (p5 (Xe Aa))):FnOk P w K mg base v6 7 f fd ["self","hue"] (p5 (Qm Aa)) :=
 okO (k:=6) (b:=(UA Aa)) F Tt rfl λcdv A outer s H E hr=>⟨_,(j5 (y6 (fW Ek hr (aW (fW B3 hr (aW (Qy Au hr (by decide) (pv 0) (aW (pv 1))))))))),
  inferInstance⟩
abbrev WJ:Stmt:=top 27
abbrev UD (Aa:Addr):MS:=(v3 (m3 (qi (o6 (x9 qQ (q0 (q9 1) (q0 (dC (.ty "list")) x6))))) (y9 (dC (.bl false))) n6)
  (v3 (u5 2 (xo Aa "names" (Xf Aa) (q8 0) x6))
  (y9 (jj (x9 jb (q0 (m8 [none,some 2] [0] (m5 (q8 1)) (v7 0) n9 (x8 (pIn false) (q9 0) (q9 1))) x6)) (x8 pEq (Kg (q9 1)) (x9 qv (q0 (q9 1) x6)))))))
def vV (Aa:Addr):List PV->Option PV:=p6 3 2 (UD Aa)
theorem sc_are_names:y4 ["works","names","known"] ["works","names"] (j7 WJ):=u6
theorem NI (F:Fun K "are_names" "are_names" WJ f fd)(Az:mg "all"=none)(Ab:mg "isinstance"=none)(Ad:mg "len"=none)(Al:mg "list"=none)(Q5:mg "set"=none)(B6:Mt P w K mg base 1 Aa "names" ["self"] (p5 (Xf Aa))):FnOk P w K mg base v6 2 f fd ["works","names"] (j8 (vV Aa)) :=
 h8 (k:=1) (b:=(UD Aa)) F sc_are_names rfl λcdv A outer s H E hr=>⟨_,(j3 (i8 (xw (xg (K:=K) rfl (c8 (jS (K:=K) rfl) rfl Ab jR (aC (pv 1) (aW (vi (v:= .ty "list") rfl Al vH rfl)))) (λ_=>rfl))) (j5 (y6 zH)) i9)
  (j3 (sW 2 sc_are_names.nd (XA B6 hr (by decide) (pv 0)))
  (j5 (y6 (Qx (c8 (QO (K:=K) rfl rfl) rfl Az QN (aW (qz (N':=["thing","known"]) (cap:=[none,some 2]) (i6 rfl rfl rfl) rfl (@i7 _ K _ _ _ rfl (pv 1)) (λ_ _ _ _ _ _=>(c9 (i:=0) (by show (["thing","known"]:List Str).Nodup;decide +kernel) rfl (Or.inl rfl))) (λ_ _ _ _ _ _=>o9) (λ_ _ _ _ _ _=>(jG (By (K:=K) rfl) (pv 0) (pv 1) (by with_unfolding_all rfl)))))) (XB (jG (jC (K:=K) (hu6 hr) rfl) (c8 DJ rfl Ad PySem.boot_len (aW (vj (DO (K:=K) rfl rfl) rfl Q5 DA (aW (pv 1))))) (c8 (xG (K:=K) rfl) rfl Ad PySem.boot_len (aW (pv 1))) (i5 _)))))))),
  inferInstance⟩
abbrev WL:Stmt:=top 28
abbrev UG (Aa:Addr):MS:=(m3 (qi (o6 (x9 (vV Aa) (q0 (q8 0) (q0 (q8 1) x6))))) xp n6)
def jw (Aa:Addr):List PV->Option PV:=p6 2 2 (UG Aa)
theorem Tw:y4 ["works","names"] ["works","names"] (j7 WL):=u6
theorem NL (F:Fun K "check_names" "check_names" WL f fd)(Ec:Fn P w K mg base 2 "are_names" ["works","names"] (j8 (vV Aa))):FnOk P w K mg base v6 3 f fd ["works","names"] (j8 (jw Aa)) :=
 h8 (k:=2) (b:=(UG Aa)) F Tw rfl λcdv A outer s H E hr=>⟨_,(j5 (i8 (xw (xg (K:=K) rfl (fW Ec hr (aC (pv 0) (aW (pv 1)))) (λ_=>rfl))) (j5 zJ) i9)),
  inferInstance⟩
abbrev Yz:Stmt:=top 36
abbrev Gr (Aa:Addr):MS:=(y9 (m8 [none,some 0] [0] (xq (q0 (xo Aa "hues" (jv Aa) (q8 0) x6) x6)) (v7 0) n9 (xo Aa "steep_row" (Qm Aa) (q8 1) (q0 (q8 0) x6))))
def vW (Aa:Addr):List PV->Option PV:=qt 1 1 (Gr Aa)
theorem Sa:y4 ["works"] ["works"] (j7 Yz):=u6
theorem HB (F:Fun K "steep_rows" "steep_rows" Yz f fd)(Ac:mg "range"=none)(Am:Mt P w K mg base 1 Aa "hues" ["self"] (j8 (jv Aa)))(Aw:Mt P w K mg base 7 Aa "steep_row" ["self","hue"] (p5 (Qm Aa))):FnOk P w K mg base v6 8 f fd ["works"] (p5 (vW Aa)) :=
 okO (k:=7) (b:=(Gr Aa)) F Sa rfl λcdv A outer s H E hr=>⟨_,(j5 (y6 (qz (N':=["hue","works"]) (cap:=[none,some 0]) (i6 rfl rfl rfl) rfl (zj rfl Ac (aW (XA Am hr (by decide) (pv 0)))) (λ_ _ _ _ _ _=>(c9 (i:=0) (by show (["hue","works"]:List Str).Nodup;decide +kernel) rfl (Or.inl rfl))) (λ_ _ _ _ _ _=>o9) (λ_ _ _ _ _ _=>(Qy Aw hr (by decide) (pv 1) (aW (pv 0))))))),
  inferInstance⟩
abbrev YC:Stmt:=top 37
abbrev Gw:MS:=(v3 (u5 2 (m8 [none,none,some 0] [0,1] (wU (q0 (q8 1) x6)) (qP 2 (c6 (v7 0) (c6 (v7 1) qO))) (dT (x8 (pIn false) (q9 1) (q9 2))) (q8 0)))
  (v3 (xb (wW (q0 (q8 2) (q0 (xH (q9 2) (pSo (dC (.int 1))) pNo) x6))) (qP 2 (c6 (v7 3) (c6 (v7 4) qO))) (m3 (dT (x8 pGt (jm (q9 0) (x8 w4 (q9 1) (q9 3))) (jm (q9 0) (x8 w4 (q9 1) (q9 4))))) (y9 (qj (q0 (q8 3) (q0 (q8 4) x6)))) n6))
  (y9 (dC .non))))
def Xr:List PV->Option PV:=p6 5 2 Gw
theorem sc_turned_in:y4 ["row","names","places","ahead","behind"] ["row","names"] (j7 YC):=u6
theorem HH (F:Fun K "turned_in" "turned_in" YC f fd)(Ai:mg "enumerate"=none)(Id:mg "zip"=none):FnOk P w K mg base v6 1 f fd ["row","names"] (j8 Xr) :=
 h8 (k:=0) (b:=Gw) F sc_turned_in rfl λcdv A outer s H E hr=>⟨_,(j3 (vt (i:=2) (N':=["place","name","row"]) (cap:=[none,none,some 0]) (i6 rfl rfl rfl) rfl sc_turned_in.nd rfl rfl (Wi (K:=K) rfl rfl Ai (aW (pv 1))) (λ_ _ _ _ _ _=>(jH (K:=K) (n:=2) rfl rfl (qW (c9 (i:=0) (by show (["place","name","row"]:List Str).Nodup;decide +kernel) rfl (Or.inl rfl)) (qW (c9 (i:=1) (by show (["place","name","row"]:List Str).Nodup;decide +kernel) rfl (Or.inl rfl)) jI)))) (λ_ _ _ _ _ _=>(BS (qq (By (K:=K) rfl) (pv 1) (pv 2) (by with_unfolding_all rfl)))) (λ_ _ _ _ _ _=>(pv 0)))
  (j3 (qR PassesOwn.never rfl (BL (K:=K) rfl rfl Id (aC (pv 2) (aW (vn (wp (K:=K) rfl) (pv 2) (vp z0) vo)))) (jH (K:=K) (n:=2) rfl rfl (qW (gW 3 sc_turned_in.nd) (qW (gW 4 sc_turned_in.nd) jI)))
   (j5 (i8 (qq (VZ) (jF (K:=K) rfl PySem.F.plainAttrs_list PySem.F.slot_list_index PySem.F.type_list_index (Bt (K:=K) rfl) (pv 0) (v8 (iW (K:=K) rfl (pv 1) (pv 3)) u9)) (jF (K:=K) rfl PySem.F.plainAttrs_list PySem.F.slot_list_index PySem.F.type_list_index (Bt (K:=K) rfl) (pv 0) (v8 (iW (K:=K) rfl (pv 1) (pv 4)) u9)) (i5 _)) (j5 (y6 (@xf _ _ _ _ _ (aC (pv 3) (aW (pv 4)))))) i9)))
  (j5 (y6 we)))),
  inferInstance⟩
abbrev YD:Stmt:=top 38
abbrev Gx:MS:=(v3 (xb (m5 (q8 0)) (v7 2) (v3 (u5 3 (x9 Xr (q0 (q8 2) (q0 (q8 1) x6))))
  (m3 (dT (x8 wd (q9 3) (dC .non))) (y9 (q8 3)) n6)))
  (y9 (dC .non)))
def zZ:List PV->Option PV:=p6 4 2 Gx
theorem sc_turned_pair:y4 ["rows","names","row","pair"] ["rows","names"] (j7 YD):=u6
theorem HI (F:Fun K "turned_pair" "turned_pair" YD f fd)(Ed:Fn P w K mg base 1 "turned_in" ["row","names"] (j8 Xr)):FnOk P w K mg base v6 2 f fd ["rows","names"] (j8 zZ) :=
 h8 (k:=1) (b:=Gx) F sc_turned_pair rfl λcdv A outer s H E hr=>⟨_,(j3 (qR PassesOwn.never rfl (@i7 _ K _ _ _ rfl (pv 0)) (gW 2 sc_turned_pair.nd)
   (j3 (sW 3 sc_turned_pair.nd (fW Ed hr (aC (pv 2) (aW (pv 1)))))
  (j5 (i8 (qq (Wb) (pv 3) we (i5 _)) (j5 (y6 (pv 3))) i9))))
  (j5 (y6 we))),
  inferInstance⟩
abbrev WV:Stmt:=top 29
abbrev UM (Aa:Addr):MS:=(v3 (zT (x9 (jw Aa) (q0 (q8 0) (q0 (q8 1) x6))))
  (v3 (u5 2 (xo Aa "start" (Xg Aa) (q8 0) x6))
  (v3 (u5 3 (x8 w4 (q9 2) (dC (.int 0))))
  (v3 (u5 4 (x8 w4 (q9 2) (dC (.int 1))))
  (v3 (vJ 5 (qD x6))
  (v3 (xb (m5 (q8 1)) (v7 6) (v3 (u5 7 (xo Aa "cloth" (vb Aa) (q8 0) (q0 (q8 6) x6)))
  (v3 (u5 8 (x8 c7 (q9 4) (xo Aa "rinse" (Ql Aa) (q8 0) (q0 (q8 3) (q0 (x9 zG (q0 (q8 7) x6)) x6)))))
  (v3 (u5 4 (x8 c7 (q9 8) (x9 ve (q0 (q8 7) x6))))
  (v3 (u5 3 (x9 zG (q0 (q8 7) x6)))
  (jk 5 (qj (q0 (q8 6) (q0 (q8 8) (q0 (q8 4) x6))))))))))
  (y9 (Xv 5))))))))
def Qn (Aa:Addr):List PV->Option PV:=qt 9 2 (UM Aa)
theorem sc_done_rows:y4 ["works","names","start","last","time","rows","name","cloth","begin"] ["works","names"] (j7 WV):=u6
theorem NS (F:Fun K "done_rows" "done_rows" WV f fd)(Ag:Fn P w K mg base 3 "check_names" ["works","names"] (j8 (jw Aa)))(Ap:Fn P w K mg base 1 "hue_of" ["cloth"] (j8 zG))(Aj:Fn P w K mg base 1 "length_of" ["cloth"] (j8 ve))(Ao:Mt P w K mg base 1 Aa "cloth" ["self","name"] (j8 (vb Aa)))(B7:Mt P w K mg base 2 Aa "rinse" ["self","first","then"] (j8 (Ql Aa)))(D4:Mt P w K mg base 1 Aa "start" ["self"] (j8 (Xg Aa))):FnOk P w K mg base v6 4 f fd ["works","names"] (p5 (Qn Aa)) :=
 okO (k:=3) (b:=(UM Aa)) F sc_done_rows rfl λcdv A outer s H E hr=>⟨_,(j3 (zl (fW Ag hr (aC (pv 0) (aW (pv 1)))))
  (j3 (sW 2 sc_done_rows.nd (XA D4 hr (by decide) (pv 0)))
  (j3 (sW 3 sc_done_rows.nd (iW (K:=K) rfl (pv 2) z0))
  (j3 (sW 4 sc_done_rows.nd (iW (K:=K) rfl (pv 2) z0))
  (j3 (sW 5 sc_done_rows.nd (@xD _ _ _ _ u9))
  (j3 (qR PassesOwn.never rfl (@i7 _ K _ _ _ rfl (pv 1)) (gW 6 sc_done_rows.nd)
   (j3 (sW 7 sc_done_rows.nd (Qy Ao hr (by decide) (pv 0) (aW (pv 6))))
  (j3 (sW 8 sc_done_rows.nd (y8 (qu (K:=K) rfl) (pv 4) (Qy B7 hr (by decide) (pv 0) (aC (pv 3) (aW (fW Ap hr (aW (pv 7))))))))
  (j3 (sW 4 sc_done_rows.nd (y8 (qu (K:=K) rfl) (pv 8) (fW Aj hr (aW (pv 7)))))
  (j3 (sW 3 sc_done_rows.nd (fW Ap hr (aW (pv 7))))
  (j5 (zl (jF (K:=K) rfl PySem.F.plainAttrs_list PySem.F.slot_list_append PySem.F.type_list_append Qq (pv 5) (v8 (@xf _ _ _ _ _ (aC (pv 6) (aC (pv 8) (aW (pv 4))))) u9)))))))))
  (j5 (y6 (pv 5))))))))),
  inferInstance⟩
abbrev WX:Stmt:=top 30
abbrev UO (Aa:Addr):MS:=(y9 (m8 [none,none,none,some 0] [0,1,2] (m5 (x9 (Qn Aa) (q0 (q8 0) (q0 (q8 1) x6)))) (qP 3 (c6 (v7 0) (c6 (v7 1) (c6 (v7 2) qO)))) n9 (qj (q0 (xo Aa "cloth" (vb Aa) (q8 3) (q0 (q8 0) x6)) (q0 (q8 2) x6)))))
def Xj (Aa:Addr):List PV->Option PV:=qt 2 2 (UO Aa)
theorem TC:y4 ["works","names"] ["works","names"] (j7 WX):=u6
theorem NU (F:Fun K "ended_cloths" "ended_cloths" WX f fd)(Eb:Fn P w K mg base 4 "done_rows" ["works","names"] (p5 (Qn Aa)))(Ao:Mt P w K mg base 1 Aa "cloth" ["self","name"] (j8 (vb Aa))):FnOk P w K mg base v6 5 f fd ["works","names"] (p5 (Xj Aa)) :=
 okO (k:=4) (b:=(UO Aa)) F TC rfl λcdv A outer s H E hr=>⟨_,(j5 (y6 (qz (N':=["name","begin","end","works"]) (cap:=[none,none,none,some 0]) (i6 rfl rfl rfl) rfl (@i7 _ K _ _ _ rfl (fW Eb hr (aC (pv 0) (aW (pv 1))))) (λ_ _ _ _ _ _=>(jH (K:=K) (n:=3) rfl rfl (qW (c9 (i:=0) (by show (["name","begin","end","works"]:List Str).Nodup;decide +kernel) rfl (Or.inl rfl)) (qW (c9 (i:=1) (by show (["name","begin","end","works"]:List Str).Nodup;decide +kernel) rfl (Or.inl rfl)) (qW (c9 (i:=2) (by show (["name","begin","end","works"]:List Str).Nodup;decide +kernel) rfl (Or.inl rfl)) jI))))) (λ_ _ _ _ _ _=>o9) (λ_ _ _ _ _ _=>(@xf _ _ _ _ _ (aC (Qy Ao hr (by decide) (pv 3) (aW (pv 0))) (aW (pv 2)))))))),
  inferInstance⟩
abbrev WR:Stmt:=top 31
abbrev UL (Aa:Addr):MS:=(y9 (x9 Xz (q0 (m8 [none,none] [0,1] (m5 (x9 (Xj Aa) (q0 (q8 0) (q0 (q8 1) x6)))) (qP 2 (c6 (v7 0) (c6 (v7 1) qO))) n9 (x8 zh (x9 jz (q0 (q8 0) x6)) (q9 1))) x6)))
def jx (Aa:Addr):List PV->Option PV:=p6 2 2 (UL Aa)
theorem Tz:y4 ["works","names"] ["works","names"] (j7 WR):=u6
theorem NQ (F:Fun K "cost_of" "cost_of" WR f fd)(A3:Fn P w K mg base 5 "ended_cloths" ["works","names"] (p5 (Xj Aa)))(Ah:Fn P w K mg base 1 "weight_of" ["cloth"] (j8 jz))(Ea:mg "sum"=none):FnOk P w K mg base v6 6 f fd ["works","names"] (j8 (jx Aa)) :=
 h8 (k:=5) (b:=(UL Aa)) F Tz rfl λcdv A outer s H E hr=>⟨_,(j5 (y6 (c8 (GR (K:=K) rfl rfl) rfl Ea JT (aW (qz (N':=["cloth","end"]) (cap:=[none,none]) (i6 rfl rfl rfl) rfl (@i7 _ K _ _ _ rfl (fW A3 hr (aC (pv 0) (aW (pv 1))))) (λ_ _ _ _ _ _=>(jH (K:=K) (n:=2) rfl rfl (qW (c9 (i:=0) (by show (["cloth","end"]:List Str).Nodup;decide +kernel) rfl (Or.inl rfl)) (qW (c9 (i:=1) (by show (["cloth","end"]:List Str).Nodup;decide +kernel) rfl (Or.inl rfl)) jI)))) (λ_ _ _ _ _ _=>o9) (λ_ _ _ _ _ _=>(y8 (jD) (fW Ah hr (aW (pv 0))) (pv 1)))))))),
  inferInstance⟩
abbrev Yp:Stmt:=top 33
abbrev Gf:MS:=(v3 (u5 2 (x8 w4 (q9 1) (dC (.int 0))))
  (v3 (u5 3 (x8 w4 (q9 1) (dC (.int 1))))
  (v3 (u5 4 (x8 c7 (xH (q9 0) pNo (pSo (q8 2))) (xH (q9 0) (pSo (x8 c7 (q9 2) (dC (.int 1)))) pNo)))
  (y9 (x8 c7 (x8 c7 (xH (q9 4) pNo (pSo (q8 3))) (qD (q0 (x8 w4 (q9 0) (q9 2)) x6))) (xH (q9 4) (pSo (q8 3)) pNo))))))
def xK:List PV->Option PV:=p6 5 2 Gf
theorem sc_moved:y4 ["names","move","at","to","others"] ["names","move"] (j7 Yp):=u6
theorem Ho (F:Fun K "moved" "moved" Yp f fd):FnOk P w K mg base v6 1 f fd ["names","move"] (j8 xK) :=
 h8 (k:=0) (b:=Gf) F sc_moved rfl λcdv A outer s H E hr=>⟨_,(j3 (sW 2 sc_moved.nd (iW (K:=K) rfl (pv 1) z0))
  (j3 (sW 3 sc_moved.nd (iW (K:=K) rfl (pv 1) z0))
  (j3 (sW 4 sc_moved.nd (y8 (qu (K:=K) rfl) (vn (wp (K:=K) rfl) (pv 0) vo (vp (pv 2))) (vn (wp (K:=K) rfl) (pv 0) (vp (y8 (qu (K:=K) rfl) (pv 2) z0)) vo)))
  (j5 (y6 (y8 (qu (K:=K) rfl) (y8 (qu (K:=K) rfl) (vn (wp (K:=K) rfl) (pv 4) vo (vp (pv 3))) (@xD _ _ _ _ (aW (iW (K:=K) rfl (pv 0) (pv 2))))) (vn (wp (K:=K) rfl) (pv 4) (vp (pv 3)) vo))))))),
  inferInstance⟩
abbrev Ye:Stmt:=top 34
abbrev UV:MS:=(y9 (x9 jb (q0 (m8 [none,some 1] [0] (dItT (q8 0)) (v7 0) n9 (zA pLe pLt (dC (.int 0)) (q9 0) (q9 1))) x6)))
def jy:List PV->Option PV:=p6 2 2 UV
theorem TL:y4 ["move","many"] ["move","many"] (j7 Ye):=u6
theorem Hc (F:Fun K "is_move" "is_move" Ye f fd)(Az:mg "all"=none):FnOk P w K mg base v6 1 f fd ["move","many"] (j8 jy) :=
 h8 (k:=0) (b:=UV) F TL rfl λcdv A outer s H E hr=>⟨_,(j5 (y6 (c8 (QO (K:=K) rfl rfl) rfl Az QN (aW (qz (N':=["place","many"]) (cap:=[none,some 1]) (i6 rfl rfl rfl) rfl (Rw (K:=K) rfl (pv 0)) (λ_ _ _ _ _ _=>(c9 (i:=0) (by show (["place","many"]:List Str).Nodup;decide +kernel) rfl (Or.inl rfl))) (λ_ _ _ _ _ _=>o9) (λ_ _ _ _ _ _=>(BH (Qs) (Wa) z0 (pv 0) (pv 1)))))))),
  inferInstance⟩
abbrev YE:Stmt:=top 35
abbrev Gy:MS:=(v3 (u5 2 (x9 Qv (q0 (q9 0) x6)))
  (v3 (xb (wU (q0 (q8 1) x6)) (qP 2 (c6 (v7 3) (c6 (v7 4) qO))) (v3 (m3 (qi (o6 (x9 jy (q0 (q8 4) (q0 (x9 qv (q0 (q9 2) x6)) x6))))) xp n6)
  (u5 2 (x9 xK (q0 (q8 2) (q0 (q8 4) x6))))))
  (y9 (q8 2))))
def Jd:List PV->Option PV:=p6 5 2 Gy
theorem sc_walked:y4 ["names","moves","found","number","move"] ["names","moves"] (j7 YE):=u6
theorem HJ (F:Fun K "walked" "walked" YE f fd)(Ep:Fn P w K mg base 1 "is_move" ["move","many"] (j8 jy))(Ay:Fn P w K mg base 1 "moved" ["names","move"] (j8 xK))(Ai:mg "enumerate"=none)(Ad:mg "len"=none)(Al:mg "list"=none):FnOk P w K mg base v6 2 f fd ["names","moves"] (j8 Jd) :=
 h8 (k:=1) (b:=Gy) F sc_walked rfl λcdv A outer s H E hr=>⟨_,(j3 (sW 2 sc_walked.nd (vj (Zq (K:=K) rfl) rfl Al vH (aW (pv 0))))
  (j3 (qR PassesOwn.never rfl (Wi (K:=K) rfl rfl Ai (aW (pv 1))) (jH (K:=K) (n:=2) rfl rfl (qW (gW 3 sc_walked.nd) (qW (gW 4 sc_walked.nd) jI)))
   (j3 (i8 (xw (xg (K:=K) rfl (fW Ep hr (aC (pv 4) (aW (c8 (xG (K:=K) rfl) rfl Ad PySem.boot_len (aW (pv 2)))))) (λ_=>rfl))) (j5 zJ) i9)
  (j5 (sW 2 sc_walked.nd (fW Ay hr (aC (pv 2) (aW (pv 4))))))))
  (j5 (y6 (pv 2))))),
  inferInstance⟩
abbrev Yy:Stmt:=top 41
abbrev Gq (Aa:Addr):MS:=(v3 (m3 (dT (x8 pLe (x9 (jx Aa) (q0 (q8 0) (q0 (x9 xK (q0 (q8 1) (q0 (q8 2) x6))) x6))) (x9 (jx Aa) (q0 (q8 0) (q0 (q8 1) x6))))) (y9 (q8 2)) n6)
  (y9 (qj (q0 (x8 w4 (q9 2) (dC (.int 1))) (q0 (x8 w4 (q9 2) (dC (.int 0))) x6)))))
def vf (Aa:Addr):List PV->Option PV:=p6 3 3 (Gq Aa)
theorem TZ:y4 ["works","names","pair"] ["works","names","pair"] (j7 Yy):=u6
theorem HA (F:Fun K "steep_move" "steep_move" Yy f fd)(Ee:Fn P w K mg base 6 "cost_of" ["works","names"] (j8 (jx Aa)))(Ay:Fn P w K mg base 1 "moved" ["names","move"] (j8 xK)):FnOk P w K mg base v6 7 f fd ["works","names","pair"] (j8 (vf Aa)) :=
 h8 (k:=6) (b:=(Gq Aa)) F TZ rfl λcdv A outer s H E hr=>⟨_,(j3 (i8 (qq (Qs) (fW Ee hr (aC (pv 0) (aW (fW Ay hr (aC (pv 1) (aW (pv 2))))))) (fW Ee hr (aC (pv 0) (aW (pv 1)))) (i5 _)) (j5 (y6 (pv 2))) i9)
  (j5 (y6 (@xf _ _ _ _ _ (aC (iW (K:=K) rfl (pv 2) z0) (aW (iW (K:=K) rfl (pv 2) z0))))))),
  inferInstance⟩
abbrev Yq:Stmt:=top 40
noncomputable abbrev Gg (Eo:LQ)(mL:List PV->Option PV):MS:=(v3 (vJ 3 (qD x6))
  (v3 (u5 4 (x9 Qv (q0 (q9 1) x6)))
  (v3 (u5 5 (x9 zZ (q0 (q8 0) (q0 (q8 4) x6))))
  (v3 (zV (dT (x8 wd (q9 5) (dC .non))) (v3 (u5 6 (Zu Eo 8 mL 2 (q0 (q8 4) (q0 (q8 5) x6))))
  (v3 (jk 3 (q8 6))
  (v3 (u5 4 (x9 xK (q0 (q8 4) (q0 (q8 6) x6))))
  (u5 5 (x9 zZ (q0 (q8 0) (q0 (q8 4) x6))))))) 101)
  (y9 (Xv 3))))))
noncomputable def Xo (Eo:LQ)(mL:List PV->Option PV):List PV->Option PV:=qt 7 3 (Gg Eo mL)
theorem sc_moves_to:y4 ["rows","names","move_for","moves","found","pair","move"] ["rows","names","move_for"] (j7 Yq):=u6
theorem Hq (F:Fun K "moves_to" "moves_to" Yq f fd)(Ay:Fn P w K mg base 1 "moved" ["names","move"] (j8 xK))(Ak:Fn P w K mg base 2 "turned_pair" ["rows","names"] (j8 zZ))(Al:mg "list"=none):FnOk P w K mg base v6 9 f fd ["rows","names","move_for"] (XT (Xo (LQ.mk P w K mg base))) :=
 okOE λmL=>okO (k:=8) (b:=(Gg (LQ.mk P w K mg base) mL)) F sc_moves_to rfl λcdv A outer s H E hr=>⟨_,(j3 (sW 3 sc_moves_to.nd (@xD _ _ _ _ u9))
  (j3 (sW 4 sc_moves_to.nd (vj (Zq (K:=K) rfl) rfl Al vH (aW (pv 1))))
  (j3 (sW 5 sc_moves_to.nd (fW Ak hr (aC (pv 0) (aW (pv 4)))))
  (j3 (RJ PassesOwn.never (qq (Wb) (pv 5) we (i5 _))
   (j3 (sW 6 sc_moves_to.nd (Re (P:=P) (w:=w) (K:=K) (mg:=mg) (base:=base) (i:=2) (k:=8) rfl rfl (hr.mono (by decide)) (aC (pv 4) (aW (pv 5)))))
  (j3 (zl (jF (K:=K) rfl PySem.F.plainAttrs_list PySem.F.slot_list_append PySem.F.type_list_append Qq (pv 3) (v8 (pv 6) u9)))
  (j3 (sW 4 sc_moves_to.nd (fW Ay hr (aC (pv 4) (aW (pv 6)))))
  (j5 (sW 5 sc_moves_to.nd (fW Ak hr (aC (pv 0) (aW (pv 4))))))))))
  (j5 (y6 (pv 3))))))),
  inferInstance⟩
abbrev Ju:Stmt:=top 42
noncomputable abbrev Gv (Eo:LQ)(Aa:Addr):MS:=(v3 (zT (x9 (jw Aa) (q0 (q8 0) (q0 (q8 1) x6))))
  (QS Eo 8 2 (x9 (vf Aa) (q0 (q8 2) (q0 (q8 0) (q0 (q8 1) x6)))) [0] (Xo Eo) (x9 (vW Aa) (q0 (q8 0) x6)) (q8 1)))
noncomputable def Xq (Eo:LQ)(Aa:Addr):List PV->Option PV:=qt 2 2 (Gv Eo Aa)
theorem Sd:y4 ["works","names"] ["works","names"] (j7 Ju):=u6
theorem HG (F:Fun K "to_steep" "to_steep" Ju f fd)(Ag:Fn P w K mg base 3 "check_names" ["works","names"] (j8 (jw Aa)))(Ej:Fn P w K mg base 9 "moves_to" ["rows","names","move_for"] (XT (Xo (LQ.mk P w K mg base))))(D7:Fn P w K mg base 7 "steep_move" ["works","names","pair"] (j8 (vf Aa)))(Ar:Fn P w K mg base 8 "steep_rows" ["works"] (p5 (vW Aa)))(l_f:fd.code = .ref c_l)(l_C:∀ h:Heap,K.In h->PySem.W.CodeHd h c_l P_l)(l_P:(P_l,p_l,[((⟨136,46,136,96⟩:Pos),("to_steep.<locals>.<lambda>":Str))])∈TABS):FnOk P w K mg base v6 10 f fd ["works","names"] (p5 (Xq (LQ.mk P w K mg base) Aa)) :=
 okOC (k:=9) (b:=(Gv (LQ.mk P w K mg base) Aa)) F Sd rfl λA outer s H E hr=>⟨_,(j3 (zl (fW Ag hr (aC (pv 0) (aW (pv 1)))))
  (j5 (y6 (Rj (P:=P) (w:=w) (K:=K) (mg:=mg) (base:=base) (k:=7) (n:=2) (lps:=["found","pair"]) (fr:=["works"]) (fi:=[0]) (clos:=[("works",s.heap.objs.size+1)]) rfl Ej hr (by decide) rfl (fW Ar hr (aW (pv 0))) (pv 1) l_P (by exact yJ.mpr rfl) (λp hp _=>by rw [yJ.mp hp];rfl) l_f l_C ⟨rfl,rfl,rfl,by decide +kernel,by decide +kernel,(λx h=>by
   by_cases e:x = "works"
   ·rw [e];exact yJ.mpr rfl
   ·exfalso
    revert h
    show ¬ (List.lookup x _=_);simp only [List.lookup]
    repeat' split
    all_goals simp_all),by decide +kernel⟩ rfl ⟨rfl,(λj y i e1 e2=>by
    match j,e1,e2 with
    |0,e1,e2=>cases e1;cases e2;exact ⟨rfl,rfl,rfl,.inr (.inl rfl)⟩
    |j+1,e1,_=>simp at e1),(λy c e=>e),(λy c _ e=>e)⟩ (λy hy=>by rw [yJ.mp hy];rfl) (λy c e=>by
   by_cases h:y = "works"
   ·rw [h];exact yJ.mpr rfl
   ·have h2:(y==("works":Str))=false:=by simpa using h
    simp [List.lookup,h2] at e) (λf c' A outer s H hr2=>(fW D7 hr2 (aC (pv 2) (aC (pv 0) (aW (pv 1)))))) (λ_ _ _ _ us hl=>match us,hl with|[_,_],_=>rfl))))),
  inferInstance⟩
abbrev Yb:Stmt:=top 39
abbrev US (Aa:Addr):MS:=(v3 (zT (x9 (jw Aa) (q0 (q8 0) (q0 (q8 1) x6))))
  (y9 (x8 pIsN (x9 zZ (q0 (x9 (vW Aa) (q0 (q8 0) x6)) (q0 (q8 1) x6))) (dC .non))))
def Xk (Aa:Addr):List PV->Option PV:=p6 2 2 (US Aa)
theorem TF:y4 ["works","names"] ["works","names"] (j7 Yb):=u6
theorem NY (F:Fun K "in_steep" "in_steep" Yb f fd)(Ag:Fn P w K mg base 3 "check_names" ["works","names"] (j8 (jw Aa)))(Ar:Fn P w K mg base 8 "steep_rows" ["works"] (p5 (vW Aa)))(Ak:Fn P w K mg base 2 "turned_pair" ["rows","names"] (j8 zZ)):FnOk P w K mg base v6 9 f fd ["works","names"] (j8 (Xk Aa)) :=
 h8 (k:=8) (b:=(US Aa)) F TF rfl λcdv A outer s H E hr=>⟨_,(j3 (zl (fW Ag hr (aC (pv 0) (aW (pv 1)))))
  (j5 (y6 (jG (Bz) (fW Ak hr (aC (fW Ar hr (aW (pv 0))) (aW (pv 1)))) we (i5 _))))),
  inferInstance⟩
abbrev wm:Stmt:=jq (top 58) 0
abbrev Zk (Aa:Addr):MS:=(v3 (zU Aa "least" (x9 ZY (q0 (q8 1) x6)))
  (v3 (zT (x9 ZT (q0 (q8 3) (q0 (q8 4) (q0 (wV Aa "hues" (jv Aa) 0 x6) x6)))))
  (v3 (zT (x9 ZR (q0 (q8 2) (q0 (wV Aa "hues" (jv Aa) 0 x6) x6))))
  (v3 (zU Aa "given" (m8 [none] [0] (m5 (q8 1)) (v7 0) n9 (x9 Qv (q0 (q9 0) x6))))
  (v3 (zU Aa "held" (x9 wc (q0 (m8 [none] [0] (m5 (q8 2)) (v7 0) n9 (qj (q0 (x9 xY (q0 (q8 0) x6)) (q0 (q8 0) x6)))) x6)))
  (v3 (zU Aa "last" (dIf (dT (x8 pIsN (q9 3) (dC .non))) (dUn pNeg (dC (.int 1))) (q8 3)))
  (zU Aa "time" (q8 4))))))))
def Qk (Aa:Addr):List PV->Option PV:=QR 5 5 Aa (Zk Aa)
theorem To:y4 ["self","rinses","cloths","last","time"] ["self","rinses","cloths","last","time"] (j7 wm):=u6
theorem NB (F:FunD K "__init__" "Works.__init__" wm f fd)(B0:Fn P w K mg base 4 "check_cloths" ["cloths","hues"] (j8 ZR))(B5:Fn P w K mg base 3 "check_start" ["last","time","hues"] (j8 ZT))(A5:Fn P w K mg base 4 "least_rinses" ["rinses"] (p5 ZY))(Af:Fn P w K mg base 1 "name_of" ["cloth"] (j8 xY))(D6:mg "dict"=none)(Al:mg "list"=none)[zg K Aa][qK K Aa "given"][qK K Aa "held"][qK K Aa "last"][qK K Aa "least"][qK K Aa "time"](Am:Mt P w K mg base 1 Aa "hues" ["self"] (j8 (jv Aa))):FnOk P w K mg base v6 5 f fd ["self","rinses","cloths","last","time"] (spI Aa (Qk Aa)) :=
 okID (k:=4) (b:=Zk Aa) F To rfl (λcdv A outer s H E hr=>⟨_,(j3 (XH (K:=K) rfl (pv 0) (fW A5 hr (aW (pv 1))))
  (j3 (zl (fW B5 hr (aC (pv 3) (aC (pv 4) (aW (XA Am hr (by decide) (pv 0)))))))
  (j3 (zl (fW B0 hr (aC (pv 2) (aW (XA Am hr (by decide) (pv 0))))))
  (j3 (XH (K:=K) rfl (pv 0) (qz (N':=["row"]) (cap:=[none]) (i6 rfl rfl rfl) rfl (@i7 _ K _ _ _ rfl (pv 1)) (λ_ _ _ _ _ _=>(c9 (i:=0) (by show (["row"]:List Str).Nodup;decide +kernel) rfl (Or.inl rfl))) (λ_ _ _ _ _ _=>o9) (λ_ _ _ _ _ _=>(vj (Zq (K:=K) rfl) rfl Al vH (aW (pv 0))))))
  (j3 (XH (K:=K) rfl (pv 0) (vj (JU (K:=K) rfl rfl) rfl D6 JR (aW (qz (N':=["cloth"]) (cap:=[none]) (i6 rfl rfl rfl) rfl (@i7 _ K _ _ _ rfl (pv 2)) (λ_ _ _ _ _ _=>(c9 (i:=0) (by show (["cloth"]:List Str).Nodup;decide +kernel) rfl (Or.inl rfl))) (λ_ _ _ _ _ _=>o9) (λ_ _ _ _ _ _=>(@xf _ _ _ _ _ (aC (fW Af hr (aW (pv 0))) (aW (pv 0)))))))))
  (j3 (XH (K:=K) rfl (pv 0) (We (qq (Bz) (pv 3) we (i5 _)) (Jn JB z0) (pv 3)))
  (j5 (XH (K:=K) rfl (pv 0) (pv 4))))))))),
  (by repeat' first|infer_instance|(refine @Mi.Sl _ _ _ _ ?_ ?_))⟩)
abbrev WY:Stmt:=top 69
noncomputable abbrev UP:MS:=(v3 (u5 2 (x9 vd (q0 (x8 w4 (q9 0) (dC (.int 0))) x6)))
  (v3 (u5 3 (x9 wc (q0 (m8 [none] [0] (m5 (x8 w4 (q9 0) (dC (.int 1)))) (v7 0) n9 (qj (q0 (x8 w4 (q9 0) (dC (.int 0))) (q0 (q8 0) x6)))) x6)))
  (v3 (dAsg (qP 2 (c6 (v7 4) (c6 (v7 5) qO))) (dSlT (q9 0) (pSo (dC (.int 2))) pNo))
  (v3 (vJ 6 (qD x6))
  (v3 (xb (m5 (q8 1)) (v7 7) (v3 (m3 (dT (x8 pNe (x8 w4 (f9 (q9 3) (q9 7)) (dC (.int 1))) (q9 4))) (u5 5 (x8 c7 (q9 5) (x8 w4 (x8 w4 (q9 2) (q9 4)) (x8 w4 (f9 (q9 3) (q9 7)) (dC (.int 1)))))) n6)
  (v3 (u5 5 (x8 c7 (q9 5) (x8 w4 (f9 (q9 3) (q9 7)) (dC (.int 2)))))
  (v3 (u5 4 (x8 w4 (f9 (q9 3) (q9 7)) (dC (.int 1))))
  (jk 6 (qj (q0 (f9 (q9 3) (q9 7)) (q0 (q8 5) x6))))))))
  (y9 (Xv 6)))))))
noncomputable def ZU:List PV->Option PV:=qt 8 2 UP
theorem sc_ends:y4 ["parts","names","least","cloths","last","time","found","name"] ["parts","names"] (j7 WY):=u6
theorem NV (F:Fun K "_law_ends" "_law_ends" WY f fd)(N0:Fn P w K mg base 1 "_law_least" ["rinses"] (j8 vd))(D6:mg "dict"=none):FnOk P w K mg base v6 2 f fd ["parts","names"] (p5 ZU) :=
 okO (k:=1) (b:=UP) F sc_ends rfl λcdv A outer s H E hr=>⟨_,(j3 (sW 2 sc_ends.nd (fW N0 hr (aW (iW (K:=K) rfl (pv 0) z0))))
  (j3 (sW 3 sc_ends.nd (vj (JU (K:=K) rfl rfl) rfl D6 JR (aW (qz (N':=["cloth"]) (cap:=[none]) (i6 rfl rfl rfl) rfl (@i7 _ K _ _ _ rfl (iW (K:=K) rfl (pv 0) z0)) (λ_ _ _ _ _ _=>(c9 (i:=0) (by show (["cloth"]:List Str).Nodup;decide +kernel) rfl (Or.inl rfl))) (λ_ _ _ _ _ _=>o9) (λ_ _ _ _ _ _=>(@xf _ _ _ _ _ (aC (iW (K:=K) rfl (pv 0) z0) (aW (pv 0)))))))))
  (j3 (Wo (vn (Sr (K:=K) rfl) (pv 0) (vp z0) vo) (jH (K:=K) (n:=2) rfl rfl (qW (gW 4 sc_ends.nd) (qW (gW 5 sc_ends.nd) jI))))
  (j3 (sW 6 sc_ends.nd (@xD _ _ _ _ u9))
  (j3 (qR PassesOwn.never rfl (@i7 _ K _ _ _ rfl (pv 1)) (gW 7 sc_ends.nd)
   (j3 (i8 (qq (Jj (K:=K) (hu6 hr) rfl) (iW (K:=K) rfl (vk (xV hr) (pv 3) (pv 7) (λ_ _=>rfl)) z0) (pv 4) (i5 _)) (j5 (sW 5 sc_ends.nd (y8 (qu (K:=K) rfl) (pv 5) (iW (K:=K) rfl (iW (K:=K) rfl (pv 2) (pv 4)) (iW (K:=K) rfl (vk (xV hr) (pv 3) (pv 7) (λ_ _=>rfl)) z0))))) i9)
  (j3 (sW 5 sc_ends.nd (y8 (qu (K:=K) rfl) (pv 5) (iW (K:=K) rfl (vk (xV hr) (pv 3) (pv 7) (λ_ _=>rfl)) z0)))
  (j3 (sW 4 sc_ends.nd (iW (K:=K) rfl (vk (xV hr) (pv 3) (pv 7) (λ_ _=>rfl)) z0))
  (j5 (zl (jF (K:=K) rfl PySem.F.plainAttrs_list PySem.F.slot_list_append PySem.F.type_list_append Qq (pv 6) (v8 (@xf _ _ _ _ _ (aC (vk (xV hr) (pv 3) (pv 7) (λ_ _=>rfl)) (aW (pv 5)))) u9))))))))
  (j5 (y6 (pv 6)))))))),
  inferInstance⟩
abbrev WQ:Stmt:=top 70
noncomputable abbrev UK:MS:=(y9 (x9 Xz (q0 (m8 [none,none] [0,1] (m5 (x9 ZU (q0 (q8 0) (q0 (q8 1) x6)))) (qP 2 (c6 (v7 0) (c6 (v7 1) qO))) n9 (x8 zh (x8 w4 (q9 0) (dC (.int 4))) (q9 1))) x6)))
noncomputable def Xi:List PV->Option PV:=p6 2 2 UK
theorem Ty:y4 ["parts","names"] ["parts","names"] (j7 WQ):=u6
theorem NP (F:Fun K "_law_cost" "_law_cost" WQ f fd)(N8:Fn P w K mg base 2 "_law_ends" ["parts","names"] (p5 ZU))(Ea:mg "sum"=none):FnOk P w K mg base v6 3 f fd ["parts","names"] (j8 Xi) :=
 h8 (k:=2) (b:=UK) F Ty rfl λcdv A outer s H E hr=>⟨_,(j5 (y6 (c8 (GR (K:=K) rfl rfl) rfl Ea JT (aW (qz (N':=["cloth","end"]) (cap:=[none,none]) (i6 rfl rfl rfl) rfl (@i7 _ K _ _ _ rfl (fW N8 hr (aC (pv 0) (aW (pv 1))))) (λ_ _ _ _ _ _=>(jH (K:=K) (n:=2) rfl rfl (qW (c9 (i:=0) (by show (["cloth","end"]:List Str).Nodup;decide +kernel) rfl (Or.inl rfl)) (qW (c9 (i:=1) (by show (["cloth","end"]:List Str).Nodup;decide +kernel) rfl (Or.inl rfl)) jI)))) (λ_ _ _ _ _ _=>o9) (λ_ _ _ _ _ _=>(y8 (jD) (iW (K:=K) rfl (pv 0) z0) (pv 1)))))))),
  inferInstance⟩
abbrev WI:Stmt:=top 71
abbrev UC:MS:=(v3 (m3 (dT (x8 pEq (q9 2) (dC (.int 0)))) (y9 (x8 pLtP (qj (q0 (x8 w4 (q9 0) (dC (.int 3))) (q0 (x8 w4 (q9 0) (dC (.int 0))) x6))) (qj (q0 (x8 w4 (q9 1) (dC (.int 3))) (q0 (x8 w4 (q9 1) (dC (.int 0))) x6))))) n6)
  (y9 (x8 pLtP (qj (q0 (x8 zh (x8 w4 (q9 0) (dC (.int 2))) (x8 w4 (q9 1) (dC (.int 4)))) (q0 (x8 w4 (q9 0) (dC (.int 0))) x6))) (qj (q0 (x8 zh (x8 w4 (q9 1) (dC (.int 2))) (x8 w4 (q9 0) (dC (.int 4)))) (q0 (x8 w4 (q9 1) (dC (.int 0))) x6))))))
def vU:List PV->Option PV:=p6 3 3 UC
theorem Tv:y4 ["one","other","way"] ["one","other","way"] (j7 WI):=u6
theorem NH (F:Fun K "_law_ahead" "_law_ahead" WI f fd):FnOk P w K mg base v6 1 f fd ["one","other","way"] (j8 vU) :=
 h8 (k:=0) (b:=UC) F Tv rfl λcdv A outer s H E hr=>⟨_,(j3 (i8 (qq (jC (K:=K) (hu6 hr) rfl) (pv 2) z0 (i5 _)) (j5 (y6 (jG (BB (xV hr) (K:=K) rfl) (@xf _ _ _ _ _ (aC (iW (K:=K) rfl (pv 0) z0) (aW (iW (K:=K) rfl (pv 0) z0)))) (@xf _ _ _ _ _ (aC (iW (K:=K) rfl (pv 1) z0) (aW (iW (K:=K) rfl (pv 1) z0)))) (i5 _)))) i9)
  (j5 (y6 (jG (BB (xV hr) (K:=K) rfl) (@xf _ _ _ _ _ (aC (y8 (jD) (iW (K:=K) rfl (pv 0) z0) (iW (K:=K) rfl (pv 1) z0)) (aW (iW (K:=K) rfl (pv 0) z0)))) (@xf _ _ _ _ _ (aC (y8 (jD) (iW (K:=K) rfl (pv 1) z0) (iW (K:=K) rfl (pv 0) z0)) (aW (iW (K:=K) rfl (pv 1) z0)))) (i5 _))))),
  inferInstance⟩
abbrev Ya:Stmt:=top 72
abbrev UR:MS:=(v3 (u5 3 (x9 wc (q0 (m8 [none] [0] (m5 (x8 w4 (q9 0) (dC (.int 1)))) (v7 0) n9 (qj (q0 (x8 w4 (q9 0) (dC (.int 0))) (q0 (q8 0) x6)))) x6)))
  (v3 (xb (xq (q0 (x9 qv (q0 (q9 1) x6)) x6)) (v7 4) (xb (xq (q0 (q8 4) x6)) (v7 5) (v3 (u5 6 (f9 (q9 3) (x8 w4 (q9 1) (q9 5))))
  (v3 (u5 7 (f9 (q9 3) (x8 w4 (q9 1) (q9 4))))
  (m3 (zy (dT (x8 pEq (x8 w4 (q9 6) (dC (.int 1))) (x8 w4 (q9 7) (dC (.int 1))))) (o6 (x9 vU (q0 (q8 7) (q0 (q8 6) (q0 (q8 2) x6)))))) (y9 (dC (.bl false))) n6)))))
  (y9 (dC (.bl true)))))
def ZV:List PV->Option PV:=p6 8 3 UR
theorem sc_in_order:y4 ["parts","names","way","cloths","k","j","one","other"] ["parts","names","way"] (j7 Ya):=u6
theorem NX (F:Fun K "_law_in_order" "_law_in_order" Ya f fd)(J8:Fn P w K mg base 1 "_law_ahead" ["one","other","way"] (j8 vU))(D6:mg "dict"=none)(Ad:mg "len"=none)(Ac:mg "range"=none):FnOk P w K mg base v6 2 f fd ["parts","names","way"] (j8 ZV) :=
 h8 (k:=1) (b:=UR) F sc_in_order rfl λcdv A outer s H E hr=>⟨_,(j3 (sW 3 sc_in_order.nd (vj (JU (K:=K) rfl rfl) rfl D6 JR (aW (qz (N':=["cloth"]) (cap:=[none]) (i6 rfl rfl rfl) rfl (@i7 _ K _ _ _ rfl (iW (K:=K) rfl (pv 0) z0)) (λ_ _ _ _ _ _=>(c9 (i:=0) (by show (["cloth"]:List Str).Nodup;decide +kernel) rfl (Or.inl rfl))) (λ_ _ _ _ _ _=>o9) (λ_ _ _ _ _ _=>(@xf _ _ _ _ _ (aC (iW (K:=K) rfl (pv 0) z0) (aW (pv 0)))))))))
  (j3 (qR PassesOwn.never rfl (zj rfl Ac (aW (c8 (xG (K:=K) rfl) rfl Ad PySem.boot_len (aW (pv 1))))) (gW 4 sc_in_order.nd)
   (j5 (qR PassesOwn.never rfl (zj rfl Ac (aW (pv 4))) (gW 5 sc_in_order.nd)
   (j3 (sW 6 sc_in_order.nd (vk (xV hr) (pv 3) (iW (K:=K) rfl (pv 1) (pv 5)) (λ_ _=>rfl)))
  (j3 (sW 7 sc_in_order.nd (vk (xV hr) (pv 3) (iW (K:=K) rfl (pv 1) (pv 4)) (λ_ _=>rfl)))
  (j5 (i8 (PW.pt (Wp (qq (jC (K:=K) (hu6 hr) rfl) (iW (K:=K) rfl (pv 6) z0) (iW (K:=K) rfl (pv 7) z0) (i5 _)) (Wq (xg (K:=K) rfl (fW J8 hr (aC (pv 7) (aC (pv 6) (aW (pv 2))))) (λ_=>rfl))))) (j5 (y6 zH)) i9)))))))
  (j5 (y6 zH)))),
  inferInstance⟩
abbrev Yv:Stmt:=top 73
abbrev Gm:MS:=(v3 (u5 1 (qD (q0 (qD x6) x6)))
  (v3 (xb (m5 (q8 0)) (v7 2) (v3 (u5 3 (qD x6))
  (v3 (xb (m5 (q8 1)) (v7 4) (u5 3 (x8 c7 (q9 3) (m8 [none,some 4,some 2] [0] (xq (q0 (x8 c7 (x9 qv (q0 (q9 4) x6)) (dC (.int 1))) x6)) (v7 0) n9 (x8 c7 (x8 c7 (xH (q9 1) pNo (pSo (q8 0))) (qD (q0 (q8 2) x6))) (xH (q9 1) (pSo (q8 0)) pNo))))))
  (u5 1 (q8 3)))))
  (y9 (q8 1))))
def Jb:List PV->Option PV:=p6 5 1 Gm
theorem sc_orders:y4 ["names","found","name","longer","some"] ["names"] (j7 Yv):=u6
theorem Hw (F:Fun K "_law_orders" "_law_orders" Yv f fd)(Ad:mg "len"=none)(Ac:mg "range"=none):FnOk P w K mg base v6 1 f fd ["names"] (j8 Jb) :=
 h8 (k:=0) (b:=Gm) F sc_orders rfl λcdv A outer s H E hr=>⟨_,(j3 (sW 1 sc_orders.nd (@xD _ _ _ _ (aW (@xD _ _ _ _ u9))))
  (j3 (qR PassesOwn.never rfl (@i7 _ K _ _ _ rfl (pv 0)) (gW 2 sc_orders.nd)
   (j3 (sW 3 sc_orders.nd (@xD _ _ _ _ u9))
  (j3 (qR PassesOwn.never rfl (@i7 _ K _ _ _ rfl (pv 1)) (gW 4 sc_orders.nd)
   (j5 (sW 3 sc_orders.nd (y8 (qu (K:=K) rfl) (pv 3) (qz (N':=["k","some","name"]) (cap:=[none,some 4,some 2]) (i6 rfl rfl rfl) rfl (zj rfl Ac (aW (y8 (qu (K:=K) rfl) (c8 (xG (K:=K) rfl) rfl Ad PySem.boot_len (aW (pv 4))) z0))) (λ_ _ _ _ _ _=>(c9 (i:=0) (by show (["k","some","name"]:List Str).Nodup;decide +kernel) rfl (Or.inl rfl))) (λ_ _ _ _ _ _=>o9) (λ_ _ _ _ _ _=>(y8 (qu (K:=K) rfl) (y8 (qu (K:=K) rfl) (vn (wp (K:=K) rfl) (pv 1) vo (vp (pv 0))) (@xD _ _ _ _ (aW (pv 2)))) (vn (wp (K:=K) rfl) (pv 1) (vp (pv 0)) vo))))))))
  (j5 (sW 1 sc_orders.nd (pv 3))))))
  (j5 (y6 (pv 1))))),
  inferInstance⟩
theorem YX (n:Int):vc [.at (.int n)]=some (.at (.bl true)):=r9 rfl (k9 (Qa (v5 rfl Lp) (Mw (v:=false) (v5 rfl Lq))))
theorem Ir (n k:Int):zY [.at (.int n),.at (.int k)]=some (.at (.bl (decide (k<=n)))):=r9 rfl (k9 (Qa (v5 rfl (YX n)) rfl))
theorem Za {k:Int}(h:k<=n):zY [.at (.int n),.at (.int k)]=some (.at (.bl true)):=(Ir n k).trans (by rw [yG h])
theorem Iz (h:wG s):ZX [.at (.str s)]=some (.at (.bl true)):=by
 have hl:lim=1000000:=rfl;have l1:=h.one;have l8:=h.eight;have ln:qv [.at (.str s)]=some (.at (.int s.length)):=if_pos (by omega);refine r9 rfl (w9 (qx (jW (xA (xI (v5 rfl KR))) (xA (n8 (Vi (r:=true) rfl (v5 rfl ln) ?_ rfl ?_)))) qE) (k9 (v5 (y3 (qM (λc:Nat=>PV.at (.str ⟨#[c]⟩)) (λ_=>PV.at (.bl true)) s.cps.toList rfl rfl ?_ ?_) rfl) (Zi _))))
 ·show some (PV.at (.bl (decide ((1:Int)<=(s.length:Int)))))=_;rw [yG (by omega)]
 ·show some (PV.at (.bl (decide ((s.length:Int)<=8))))=_;rw [yG (by omega)]
 ·have:s.cps.toList.length=s.length:=by simp [Str.length]
  omega
 ·intro c hc;obtain ⟨c1,c2⟩:=h.low c hc;refine ⟨_,rfl,Vi rfl rfl ?_ rfl ?_⟩
  ·show some (PV.at (.bl (!decide ([c]<("a":Str).cps.toList))))=_;have e:¬ ([c]<[97]):=by rw [List.cons_lt_cons_iff];simp;omega
   rw [show ("a":Str).cps.toList=[97] by decide +kernel,yI e];rfl
  ·show some (PV.at (.bl (!decide (("z":Str).cps.toList<[c]))))=_;have e:¬ ([122]<[c]):=by rw [List.cons_lt_cons_iff];simp;omega
   rw [show ("z":Str).cps.toList=[122] by decide +kernel,yI e];rfl
theorem Iy (ok:c.Ok h):ZW [c.pv,.at (.int h)]=some (.at (.bl true)):=by refine r9 rfl (w9 (qx (jW (xA (xI (v5 rfl Lr))) (n8 (v:=false) rfl)) qE) (w9 (qx (jW (xA (xI (v5 (y3 (v5 rfl rfl) rfl) (Iz ok.nm)))) (jW (xA (xI (v5 (y3 (v5 rfl rfl) rfl) (Za (n:=(c.hue:Int)) (k:=0) (by omega))))) (n8 (v:=false) (w6 (v5 rfl rfl) rfl ?_)))) qE) (k9 (Qa (v5 (y3 (v5 rfl rfl) rfl) (Za ok.l1)) (Qa (v5 (y3 (v5 rfl rfl) rfl) (YX _)) (v5 (y3 (v5 rfl rfl) rfl) (Za ok.w1)))))));show some (PV.at (.bl (decide ((h:Int)<=(c.hue:Int)))))=_;have:=ok.hu;rw [yI (by omega)]
theorem Ij {t:Int}(h1:-1<=l)(h2:l<(h:Int))(h3:0<=t):ZT [.at (.int l),.at (.int t),.at (.int h)]=some (.at .non):=by refine ZE rfl (w9 (qx (Vb (v:=false) (n8 (v:=true) rfl) (xA (Vb (v:=true) (xI (v5 rfl (Za h1))) (n8 (v:=true) ?_)))) qE) (qx (xA (xI (v5 rfl (Za h3)))) qE));show some (PV.at (.bl (decide (l<(h:Int)))))=_;rw [yG h2]
def keysOf (cs:List Cl):List j4:=cs.map λc=>Sum.inr c.name
theorem Bo {x:Str}{α:Type}(f:Cl->PV):∀{cs:List Cl},x∉cs.map Cl.name->qF (.inr x) (keysOf cs) (cs.map f)=none
 |[],_=>rfl
 |c::cs,h=>by
  rw [yO] at h;show (if (Sum.inr c.name:j4) = .inr x then _ else qF (.inr x) (keysOf cs) (cs.map f))=_;rw [if_neg (λe=>h (by injection e with e;rw [e];exact yU)),Bo (α:=α) f λz=>h (yW _ z)]
theorem Xd (f:Cl->PV):∀{cs:List Cl},(cs.map Cl.name).Nodup->∀ c∈cs,qF (.inr c.name) (keysOf cs) (cs.map f)=some (f c)
 |[],_,_,h=>nomatch h
 |d::cs,nd,c,h=>by
  rw [yO] at nd;have nd':=yp.mp nd;show (if (Sum.inr d.name:j4) = .inr c.name then some (f d) else qF (.inr c.name) (keysOf cs) (cs.map f))=_;rcases yH.mp h with rfl|h
  ·rw [if_pos rfl]
  ·rw [if_neg (λe=>nd'.1 (by injection e with e;rw [e];exact yz.mpr ⟨c,h,rfl⟩)),Xd f nd'.2 c h]
theorem Ih {cls:List Cl}(hok:∀ c∈cls,c.Ok h)(nd:(cls.map Cl.name).Nodup)(ten:cls.length<=10):ZR [.lst (cls.map Cl.pv),.at (.int h)]=some (.at .non):=by
 have hl:lim=1000000:=rfl;refine ZE rfl (w9 (qx (n8 (v:=false) (w6 (v5 rfl rfl) rfl ?_)) qE) (w9 (ZF rfl) (xB rfl (vT Cl.pv (λl ε=>∃(done:List Cl)(s3:MSlot),done++l=cls/\ε=[.sh (.lst (cls.map Cl.pv)),.sh (.at (.int h)),.ow (.dk (keysOf done) (done.map λ_=>PV.at (.bl true))),s3]) ?_ cls _ ⟨[],.no,rfl,rfl⟩).choose_spec.1)))
 ·show some (PV.at (.bl (decide ((10:Int)<((cls.map Cl.pv).length:Int)))))=_;rw [yZ,yI (by omega)]
 ·rintro c l ε ⟨done,s3,e,rfl⟩;have hc:c∈cls:=by rw [<- e];exact yw _ yU
  have hn:c.name∉done.map Cl.name:=λz=>by
   rw [<- e,yv,yO] at nd;exact (tZ.mp nd).2.2 _ z _ yU rfl
  have ln:=Bo (α:=Unit) (λ_=>PV.at (.bl true)) hn;have hd:done.length<=10:=by rw [<- e] at ten;rw [yN] at ten;omega
  refine ⟨_,_,rfl,w9 (qx (xA (xI (v5 rfl (Iy (hok c hc))))) qE) (w9 (qx (n8 (v:=false) ?_) qE) ?_),done++[c],.sh c.pv,by rw [<- e,yk];rfl,rfl⟩
  ·show some (PV.at (.bl (qF (.inr c.name) (keysOf done) (done.map λ_=>PV.at (.bl true))).isSome))=_;rw [ln];rfl
  ·show (if (keysOf done).length<=lim then some (Out.nx [_,_,.ow (Jr (.inr c.name) (.at (.bl true)) (keysOf done) (done.map λ_=>PV.at (.bl true))),_]) else none)=_;unfold Jr;rw [if_pos (by unfold keysOf;rw [yZ];omega),ln];simp only [Option.isSome_none,Bool.false_eq_true,if_false];unfold keysOf;rw [yv,yv];rfl
def jr (n:Int):PV:= .at (.int n)
def qC (r:List Int):PV:= .lst (r.map jr)
def wyP (w:Wy):PV:= .tup [.at (.int w.1),.lst (w.2.map jr)]
def qU (ws:List Wy):PV:= .lst (ws.map wyP)
theorem IL (hl:r.length=h)(h4:h<=4)(hv:∀ v∈r,0<=v):Xl [qC r,.at (.int h)]=some (.at (.bl true)):=by
 have hlim:lim=1000000:=rfl;refine r9 rfl (w9 (qx (jW (xA (xI (v5 rfl Vy))) (n8 (v:=false) (w6 (v5 rfl rfl) rfl ?_))) qE) (k9 (v5 (y3 (qM jr (λ_=>PV.at (.bl true)) r rfl rfl (by omega) λv hvm=>?_) rfl) (Zi _))))
 ·show (peq 6 (.at (.int ((r.map jr).length:Int))) (.at (.int (h:Int)))).bind _=_;rw [yZ,hl];exact BG (x:= .at (.int (h:Int))) rfl
 ·refine ⟨_,rfl,Qa (v5 rfl (YX v)) ?_⟩;show some (PV.at (.bl (decide ((0:Int)<=v))))=_;rw [yG (hv v hvm)]
theorem Ii (G:m7 h rss)(h1:1<=h)(h4:h<=4):ZS [p9 rss]=some (.at .non):=by
 have hlim:lim=1000000:=rfl;have hlen:=G.len;have eh:((rss.map qC).length:Int)-1=(h:Int):=by rw [yZ,hlen];omega
 have step:∀(k:Int),k=(h:Int)->v3 (m3 (qi (dT (zA pLe pLe (dC (.int 1)) (q9 1) (dC (.int 4))))) xp n6)
  (m3 (qi (o6 (x9 jb (q0 (m8 [none,some 1] [0] (m5 (q8 0)) (v7 0) n9 (x9 Xl (q0 (q8 0) (q0 (q8 1) x6)))) x6)))) xp n6) [.sh (p9 rss),.sh (.at (.int k))]=some (.nx [.sh (p9 rss),.sh (.at (.int k))]):=by
  rintro k rfl;refine w9 (qx (xA (n8 (Vi (r:=true) rfl rfl ?_ rfl ?_))) qE) (qx (xA (xI (v5 (y3 (qM qC (λ_=>PV.at (.bl true)) rss rfl rfl (by omega) λr hr=>⟨_,rfl,v5 rfl (IL (G.row r hr).1 h4 λv hv=>((G.row r hr).2 v hv).1)⟩) rfl) (Zi _)))) qE)
  ·show some (PV.at (.bl (decide ((1:Int)<=(h:Int)))))=_;rw [yG (by omega)]
  ·show some (PV.at (.bl (decide ((h:Int)<=4))))=_;rw [yG (by omega)]
 exact ZE rfl (w9 (qx (xA (xI (v5 rfl Vy))) qE) (w9 (p7 rfl) (step _ eh)))
theorem Kt {α:Type}(f:α->PV):∀(l:List α)(n:Nat),xr n (l.map f)=(l.zipIdx n).map λp=>PV.tup [.at (.int ((p.2:Nat):Int)),f p.1]
 |[],_=>rfl
 |x::l,n=>by
  rw [yO,List.zipIdx_cons,yO];show PV.tup [.at (.int n),f x]::xr (n+1) (l.map f)=_;rw [Kt f l (n+1)]
theorem IR (h:r.length<=4):Xp [qC r]=some (qU (zM r)):=by
 have hlim:lim=1000000:=rfl;refine xJ rfl (k9 ?_);have e:=qM (cap:=[none,none]) (ts:=[0,1]) (it:=wU (q0 (q8 0) x6)) (g:=qP 2 (c6 (v7 0) (c6 (v7 1) qO))) (f:=qj (q0 (q8 1) (q0 (qD (q0 (q8 0) x6)) x6))) (ε:=[.sh (qC r)])
  (λp:Int×Nat=>PV.tup [.at (.int ((p.2:Nat):Int)),jr p.1]) (λp:Int×Nat=>wyP (p.1,[(p.2:Int)])) (r.zipIdx 0) (by show some (xr 0 (r.map jr))=_;rw [Kt]) rfl (by rw [List.length_zipIdx];omega) λp _=>⟨_,rfl,rfl⟩
 refine e.trans ?_;unfold qU zM;rw [List.mapIdx_eq_zipIdx_map,yr];rfl
theorem IA {a b:Wy}(h:a.2.length+b.2.length<=1000):Xm [wyP a,wyP b]=some (wyP (zD a b)):=by have hlim:lim=1000000:=rfl;refine r9 rfl (k9 (xN (y3 (w6 rfl rfl rfl) (y3 (w6 rfl rfl (vZ (by rw [yZ,yZ];omega))) rfl)) (by first|decide|(show 1<=lim;decide)|(show 2<=lim;decide)|(show 3<=lim;decide))) |>.trans ?_);unfold wyP zD;rw [yv]
theorem IE (a b:Wy):Xn [wyP a,wyP b]=some (wyP (zX a b)):=by
 unfold zX;by_cases h:b.1<a.1
 ·rw [if_pos h];exact r9 rfl (k9 (Ky (n8 (v:=true) (w6 rfl rfl (show some (PV.at (.bl (decide (b.1<a.1))))=_ by rw [yG h]))) rfl))
 ·rw [if_neg h];exact r9 rfl (k9 (Vk (n8 (v:=false) (w6 rfl rfl (show some (PV.at (.bl (decide (b.1<a.1))))=_ by rw [yI h]))) rfl))
theorem CV {α β:Type}(f:α->PV)(g:β->PV):∀(l:List α)(m:List β),xm (l.map f) (m.map g)=(l.zip m).map λp=>PV.tup [f p.1,g p.2]
 |[],_=>by cases ‹List β›<;>rfl
 |_::_,[]=>rfl
 |x::l,y::m=>by
  show PV.tup [f x,g y]::xm (l.map f) (m.map g)=_;rw [CV f g l m];rfl
theorem CW {α β γ:Type}(f:α->β->γ):∀(l:List α)(m:List β),List.zipWith f l m=(l.zip m).map λp=>f p.1 p.2
 |[],_=>by simp
 |_::_,[]=>rfl
 |x::l,y::m=>by
  show f x y::List.zipWith f l m=_;rw [CW f l m];rfl
theorem IT {k:Nat}(hk:k<ws.length)(h4:ws.length<=4)(l1:∀ w∈ws,w.2.length<=100)(l2:∀ w∈onw,w.2.length<=100):Qo [qU ws,.at (.int (k:Int)),qU onw]=some (qU (thr ws k onw)):=by
 have hlim:lim=1000000:=rfl;have hg:ws.getD k (0,[])=ws[k]:=u8 hk;have hw:=yA hk;refine xJ rfl (k9 ?_);have e:=qM (cap:=[none,none,some 0,some 1]) (ts:=[0,1]) (it:=wW (q0 (q8 0) (q0 (q8 2) x6))) (g:=qP 2 (c6 (v7 0) (c6 (v7 1) qO))) (f:=x9 Xn (q0 (q8 0) (q0 (x9 Xm (q0 (x8 w4 (q9 2) (q9 3)) (q0 (q8 1) x6))) x6))) (ε:=[.sh (qU ws),.sh (.at (.int (k:Int))),.sh (qU onw)])
  (λp:Wy×Wy=>PV.tup [wyP p.1,wyP p.2]) (λp:Wy×Wy=>wyP (zX p.1 (zD ws[k] p.2))) (ws.zip onw) (by show some (xm (ws.map wyP) (onw.map wyP))=_;rw [CV]) rfl (by rw [List.length_zip];omega) λp hp=>⟨_,rfl,v5 (y3 rfl (y3 (v5 (y3 (w6 rfl rfl (xS (v:=wyP ws[k]) (by rw [yP,yY hk];rfl))) (y3 rfl rfl)) (IA (by
   have q1:=l1 _ hw;have q2:=l2 p.2 (uc hp).2;omega))) rfl)) (IE _ _)⟩
 refine e.trans ?_;unfold qU thr;rw [hg,CW,yr];rfl
theorem Fb {k:Nat}(G:m7 h rss)(hk:k<=h)(h4:h<=4):∀ r∈c5 rss k,∀ w∈r,w.2.length<=100:=by
 intro r hr w hw;have S:=Shp.all G k hk;have F:=FW.all G k hk;obtain ⟨f,hf,rfl⟩:=uL hr;obtain ⟨g,hg,rfl⟩:=uL hw;have hf':f<=h:=by have:=S.len;omega
 have hg':g<h:=by rw [<- S.row _ hr];exact hg
 have e:y7 (c5 rss k) f g=(c5 rss k)[f][g]:=by unfold y7;rw [u8 hf,u8 hg]
 have q:=F.len f g hf' hg';rw [e] at q;have:2 ^ k<=2 ^ 4:=um (by decide) (by omega);omega
def XX (T:List (List Wy)):PV:= .lst (T.map qU)
theorem ID (G:m7 h rss)(h1:1<=h)(h4:h<=4):ZZ [p9 rss]=some (XX (c5 rss h)):=by
 have hlim:lim=1000000:=rfl;have hlimI:(lim:Int)=1000000:=rfl;have hlen:=G.len;have st:m8 [none] [0] (m5 (q8 0)) (v7 0) n9 (x9 Xp (q0 (q8 0) x6)) [.sh (p9 rss),.no,.no,.no]=some (XX (c5 rss 0)):=by refine (qM qC (λr=>qU (zM r)) rss rfl rfl (by omega) λr hr=>⟨_,rfl,v5 rfl (IR (by rw [(G.row r hr).1];exact h4))⟩).trans ?_;show _=some (PV.lst ((rss.map zM).map qU));rw [yr];rfl
 have rg:xq (q0 (x8 vh (x9 qv (q0 (q9 0) x6)) (dC (.int 1))) x6) [.sh (p9 rss),.sh (XX (c5 rss 0)),.no,.no]=some ((List.range h).map λ(i:Nat)=>PV.at (.int ((0:Int)+i))):=by refine vy (k:=h) (y3 (w6 (v5 rfl rfl) rfl ?_) rfl) (by omega);show some (PV.at (.int (((rss.map qC).length:Int)-1)))=_;rw [yZ,hlen,show ((h+1:Nat):Int)-1=(h:Int) by omega]
 have lp:=vT (g:=v7 2) (f:=v3 (u5 3 (x8 w4 (q9 1) (q9 2))) (u5 1 (m8 [none,some 2,some 3] [0] (m5 (q8 1)) (v7 0) n9 (x9 Qo (q0 (q8 0) (q0 (q8 1) (q0 (q8 2) x6)))))))
  (λ(i:Nat)=>PV.at (.int ((0:Int)+i))) (λl ε=>∃(k:Nat)(s2 s3:MSlot),l=(List.range h).drop k/\k<=h/\ε=[.sh (p9 rss),.sh (XX (c5 rss k)),s2,s3]) (by
   rintro i l ε ⟨k,s2,s3,el,hk,rfl⟩;have hkl:k<h:=by
    have e5:(i::l).length=((List.range h).drop k).length:=by rw [<- el]
    rw [uP,uZ,yF] at e5;omega
   have ei:i=k:=by
    have:((List.range h).drop k)[0]?=some i:=by rw [<- el];rfl
    rw [List.getElem?_drop,List.getElem?_range (by omega)] at this;simpa using this.symm
   have er:l=(List.range h).drop (k+1):=by
    have:((List.range h).drop k).tail=l:=by rw [<- el];rfl
    rw [<- this,List.tail_drop]
   subst ei;have S:=Shp.all G i hk;have hT:i<(c5 rss i).length:=by rw [S.len];omega
   have gD:(c5 rss i).getD i []=(c5 rss i)[i]:=u8 hT;have wl:=Fb G hk h4;refine ⟨_,_,rfl,w9 (p7 (x:=qU (c5 rss i)[i]) (w6 rfl rfl ?_)) (p7 (x:=XX (c5 rss (i+1))) ?_),i+1,_,_,er,hkl,rfl⟩
   ·show atI ((c5 rss i).map qU) (0+(i:Int))=_;rw [uw];exact xS (by rw [yP,yY hT];rfl)
   ·refine (qM qU (λrow=>qU (thr row i (c5 rss i)[i])) (c5 rss i) rfl rfl (by rw [S.len];omega) λrow hr=>⟨_,rfl,v5 rfl ?_⟩).trans ?_
    ·show Qo [qU row,.at (.int (0+(i:Int))),qU (c5 rss i)[i]]=_;rw [uw];exact IT (by rw [S.row row hr];exact hkl) (by rw [S.row row hr];exact h4) (wl row hr) (wl _ (yA hT))
    ·show _=some (PV.lst ((xc (c5 rss i) i).map qU));unfold xc;rw [yr,gD];rfl) (List.range h) _ ⟨0,.no,.no,rfl,uY _,rfl⟩
 obtain ⟨ε',e',k,s2,s3,el,hk,rfl⟩:=lp;have ek:k=h:=by have:=congrArg List.length el;rw [uP,uZ] at this;simp at this;omega
 subst ek;exact r9 rfl (w9 (p7 st) (w9 (xB rg e') (k9 rfl)))
theorem IS (h4:ws.length<=4):Jc [qU ws]=some (qC (ws.map (·.1))):=by have hlim:lim=1000000:=rfl;refine xJ rfl (k9 ((qM wyP (λw=>jr w.1) ws rfl rfl (by omega) λw _=>⟨_,rfl,rfl⟩).trans ?_));unfold qC;rw [yr];rfl
theorem IC (G:m7 h rss)(h1:1<=h)(h4:h<=4):ZY [p9 rss]=some (p9 (qf rss h)):=by have hlim:lim=1000000:=rfl;have S:=Shp.all G h (yV _);refine xJ rfl (w9 (Qc (v5 rfl (Ii G h1 h4))) (k9 ((qM qU (λws=>qC (ws.map (·.1))) (c5 rss h) (vL (v5 rfl (ID G h1 h4))) rfl (by rw [S.len];omega) λws hw=>⟨_,rfl,v5 rfl (IS (by rw [S.row ws hw];exact h4))⟩).trans ?_)));show _=some (PV.lst ((qf rss h).map qC));unfold qf;rw [yr];rfl
def Dr.low (d:Dr):List (List Int):=qf d.rss d.h
def MC:List Str:=["least","given","held","last","time"]
def Dr.ob (C:Addr)(d:Dr):PV:= .ob C MC [p9 d.low,p9 d.rss,.fk (keysOf d.cls) (d.cls.map Cl.pv),.at (.int d.last),.at (.int d.time)]
def Dr.names (d:Dr):List Str:=d.cls.map Cl.name
section
variable {C:Addr}{d:Dr}
theorem Iu (ok:d.Ok):jv C [d.ob C]=some (.at (.int d.h)):=by have G:=zF ok.rin;refine r9 rfl (k9 (w6 (v5 (y3 (jn rfl rfl) rfl) rfl) rfl ?_));show some (PV.at (.int (((d.low.map qC).length:Int)-1)))=_;rw [yZ,show d.low.length=d.h+1 from G.len,show ((d.h+1:Nat):Int)-1=(d.h:Int) by omega]
theorem IN:Xg C [d.ob C]=some (.tup [.at (.int d.last),.at (.int d.time)]):=r9 rfl (k9 (xN (y3 (jn rfl rfl) (y3 (jn rfl rfl) rfl)) (by first|decide|(show 1<=lim;decide)|(show 2<=lim;decide)|(show 3<=lim;decide))))
theorem Kw {a:M}{i:Nat}{x:PV}(h1:a ε=some x)(h2:ε[i]?=some (.ow (.lst xs)))(h3:xs.length<=lim):jk i a ε=some (.nx (ε.set i (.ow (.lst (xs++[x]))))):=by unfold jk;rw [h1];show (match ε[i]? with|some (.ow (.lst xs))=>if xs.length<=lim then some (Out.nx (ε.set i (.ow (.lst (xs++[x]))))) else none|_=>none)=_;rw [h2];exact if_pos h3
theorem Mu {a b:M}{y:PV}{k:j4}(h1:a ε=some (.fk ks xs))(h2:b ε=some y)(h3:xW y=some k)(h4:qF k ks xs=some z):f9 a b ε=some z:=by unfold f9;rw [h1,h2];show (xW y).bind _=_;rw [h3];exact h4
theorem Mv {a b:M}{y:PV}{k:j4}{o:Option PV}(h1:a ε=some (.fk ks xs))(h2:b ε=some y)(h3:xW y=some k)(h4:qF k ks xs=o):Zv b a ε=some (.at (.bl (!o.isSome))):=by unfold Zv;rw [h1,h2];show (xW y).bind _=_;rw [h3,<- h4];rfl
theorem Cy (ok:d.Ok)(hc:c∈d.cls):vb C [d.ob C,.at (.str c.name)]=some c.pv:=by
 have lk:=Xd Cl.pv ok.nd c hc;refine r9 rfl (w9 (qx (jW (xA (xI (v5 rfl KR))) (n8 (v:=false) ?_)) qE) (k9 ?_))
 ·exact Mv (jn rfl rfl) rfl rfl lk
 ·exact Mu (jn rfl rfl) rfl rfl lk
theorem Py (G:m7 h rss){f:Int}{g:Nat}(f0:-1<=f)(f1:f<(h:Int))(hg:g<h):∃ r:List Int,atI (rss.map qC) f=some (qC r)/\atI (r.map jr) (g:Int)=some (.at (.int (rin rss f (g:Int)))):=by
 have main:∀ n:Nat,n<=h->∃ r:List Int,(rss.map qC)[n]?=some (qC r)/\rss[n]?=some r/\atI (r.map jr) (g:Int)=some (.at (.int (rin rss (n:Int) (g:Int)))):=by
  intro n hn;have hl:n<rss.length:=by have:=G.len;omega
  have hgl:g<rss[n].length:=by rw [(G.row _ (yA hl)).1];exact hg
  refine ⟨rss[n],by rw [yP,yY hl];rfl,yY hl,?_⟩;rw [zK G hn hg,u8 hl,u8 hgl];exact xS (by rw [yP,yY hgl];rfl)
 by_cases hf:f=-1
 ·subst hf;obtain ⟨r,e1,e2,e3⟩:=main h (yV _);refine ⟨r,?_,?_⟩
  ·have hlen:(rss.map qC).length=h+1:=by rw [yZ];exact G.len
   have e:atI (rss.map qC) (h:Int)=some (qC r):=xS e1;rw [<- e];unfold atI;rw [hlen];have i1:ixN (h+1) (-1)=some h:=by
    unfold ixN;rw [if_neg (by decide),if_pos (by omega)]
    congr 1
    omega
   have i2:ixN (h+1) (h:Int)=some h:=by
    unfold ixN;rw [if_pos (by omega),if_pos (by omega)]
    congr 1
   rw [i1,i2]
  ·rw [XL G.len];exact e3
 ·obtain ⟨n,rfl⟩:=yo (show 0<=f by omega);obtain ⟨r,e1,e2,e3⟩:=main n (by omega);exact ⟨r,xS e1,e3⟩
def Dr.rz (d:Dr)(f:Int)(g:Nat):Int:=if f=(g:Int) then 0 else rin d.low f (g:Int)
theorem IV (ok:d.Ok){f:Int}{g:Nat}(f0:-1<=f)(f1:f<(d.h:Int))(hg:g<d.h):Xh C [d.ob C,.at (.int f),.at (.int (g:Int))]=some (.at (.int (rin d.low f (g:Int)))):=by obtain ⟨r,e1,e2⟩:=Py (zF ok.rin) f0 f1 hg;exact r9 rfl (k9 (w6 (w6 (jn rfl rfl) rfl e1) rfl e2))
theorem wZ (a b:Int):pEq (.at (.int a)) (.at (.int b))=some (.at (.bl (decide (a=b)))):=by show some (PV.at (.bl (qc (.int a) (.int b))))=_;have:qc (.int a) (.int b)=decide (a=b):=rfl;rw [this]
theorem Bv (a b:Int):pNe (.at (.int a)) (.at (.int b))=some (.at (.bl (!decide (a=b)))):=by show some (PV.at (.bl (!qc (.int a) (.int b))))=_;have:qc (.int a) (.int b)=decide (a=b):=rfl;rw [this]
theorem IK (ok:d.Ok){f:Int}{g:Nat}(f0:-1<=f)(f1:f<(d.h:Int))(hg:g<d.h):Ql C [d.ob C,.at (.int f),.at (.int (g:Int))]=some (.at (.int (d.rz f g))):=by
 unfold Dr.rz;by_cases h:f=(g:Int)
 ·rw [if_pos h];exact r9 rfl (k9 (Ky (n8 (v:=true) (w6 rfl rfl ((wZ _ _).trans (by rw [yG h])))) rfl))
 ·rw [if_neg h];exact r9 rfl (k9 (Vk (n8 (v:=false) (w6 rfl rfl ((wZ _ _).trans (by rw [yI h])))) (jo rfl (by decide) rfl (IV ok f0 f1 hg))))
structure Lst (d:Dr)(ns:List Cl):Prop where
 sub:∀ c∈ns,c∈d.cls
 nd:(ns.map Cl.name).Nodup
def y0 (cs:List Cl):PV:= .lst (w5 (cs.map Cl.name))
theorem Lst.len (ok:d.Ok)(L:Lst d ns):ns.length<=10:=by
 have:=VX L.nd (left:=d.cls.map Cl.name) λx hx=>by
  obtain ⟨c,hc,rfl⟩:=yz.mp hx;exact yz.mpr ⟨c,L.sub c hc,rfl⟩
 rw [yZ,yZ] at this;have:=ok.ten;omega
theorem YV (ok:d.Ok)(L:Lst d ns)(hN:vV C [d.ob C,y0 ns]=some (.at (.bl true))):jw C [d.ob C,y0 ns]=some (.at .non):=ZE rfl (qx (xA (xI (v5 rfl hN))) qE)
def Dr.go (d:Dr):Int->Int->List Cl->List (Cl×Int×Int)
 |_,_,[]=>[]
 |l,t,c::cs=>(c,t+d.rz l c.hue,t+d.rz l c.hue+c.len)::d.go c.hue (t+d.rz l c.hue+c.len) cs
def rwP (r:Cl×Int×Int):PV:= .tup [.at (.str r.1.name),.at (.int r.2.1),.at (.int r.2.2)]
theorem Im (ok:d.Ok)(L:Lst d ns)(hN:vV C [d.ob C,y0 ns]=some (.at (.bl true))):Qn C [d.ob C,y0 ns]=some (.lst ((d.go d.last d.time ns).map rwP)):=by
 have hlim:lim=1000000:=rfl;have l10:=L.len ok;have en:w5 (ns.map Cl.name)=ns.map λc=>PV.at (.str c.name):=by unfold w5;rw [yr];rfl
 refine xJ rfl (w9 (Qc (v5 rfl (YV ok L hN))) (w9 (p7 (jo rfl (by decide) rfl IN)) (w9 (p7 (x:= .at (.int d.last)) rfl) (w9 (p7 (x:= .at (.int d.time)) rfl) (w9 (ZF rfl) ?_)))));obtain ⟨ε',e',rest⟩:=vT (g:=v7 6) (f:=v3 (u5 7 (xo C "cloth" (vb C) (q8 0) (q0 (q8 6) x6)))
  (v3 (u5 8 (x8 c7 (q9 4) (xo C "rinse" (Ql C) (q8 0) (q0 (q8 3) (q0 (x9 zG (q0 (q8 7) x6)) x6)))))
  (v3 (u5 4 (x8 c7 (q9 8) (x9 ve (q0 (q8 7) x6))))
  (v3 (u5 3 (x9 zG (q0 (q8 7) x6)))
  (jk 5 (qj (q0 (q8 6) (q0 (q8 8) (q0 (q8 4) x6)))))))))
  (λc:Cl=>PV.at (.str c.name)) (λl ε=>∃(la ti:Int)(done:List (Cl×Int×Int))(s6 s7 s8:MSlot),done++d.go la ti l=d.go d.last d.time ns/\(∀ c∈l,c∈ns)/\done.length+l.length=ns.length/\-1<=la/\la<(d.h:Int) /\
   ε=[.sh (d.ob C),.sh (y0 ns),.sh (.tup [.at (.int d.last),.at (.int d.time)]),.sh (.at (.int la)),.sh (.at (.int ti)),.ow (.lst (done.map rwP)),s6,s7,s8]) (by
   rintro c l ε ⟨la,ti,done,s6,s7,s8,e1,e2,e3,g1,g2,rfl⟩;have hc:=e2 c yU;have hk:=ok.cl c (L.sub c hc);simp only [yF] at e3;refine ⟨_,[.sh (d.ob C),.sh (y0 ns),.sh (.tup [.at (.int d.last),.at (.int d.time)]),.sh (.at (.int (c.hue:Int))),.sh (.at (.int (ti+d.rz la c.hue+c.len))),.ow (.lst ((done++[(c,ti+d.rz la c.hue,ti+d.rz la c.hue+c.len)]).map rwP)),.sh (.at (.str c.name)),.sh c.pv,.sh (.at (.int (ti+d.rz la c.hue)))],rfl,w9 (p7 (jo rfl (by decide) rfl (Cy ok (L.sub c hc)))) (w9 (p7 (w6 rfl (jo rfl (by decide) (y3 rfl (y3 (v5 rfl rfl) rfl)) (IK ok g1 g2 hk.hu)) rfl)) (w9 (p7 (w6 rfl (v5 rfl rfl) rfl)) (w9 (p7 (x:= .at (.int (c.hue:Int))) (v5 rfl rfl)) ?_))),?_⟩
   rotate_left
   ·refine ⟨(c.hue:Int),ti+d.rz la c.hue+c.len,done++[(c,ti+d.rz la c.hue,ti+d.rz la c.hue+c.len)],_,_,_,by rw [yk];exact e1,λx hx=>e2 x (yW _ hx),by rw [yN];simp;omega,by omega,by have:=hk.hu;omega,rfl⟩
   ·rw [yv];exact Kw (xN rfl l3) rfl (by rw [yZ];omega)) ns _ ⟨d.last,d.time,[],.no,.no,.no,rfl,λc h=>h,by simp,ok.l1,ok.l2,rfl⟩
 obtain ⟨la,ti,done,s6,s7,s8,e1,_,_,_,_,rfl⟩:=rest;have e2:done=d.go d.last d.time ns:=by have:done++[]=d.go d.last d.time ns:=e1;rwa [yt] at this
 subst e2;exact w9 (xB (by show some (w5 (ns.map Cl.name))=_;rw [en]) e') rfl
end
section
variable {C:Addr}{d:Dr}
theorem QW {f:Str}{a:M}{y:PV}{ns:List Str}(h1:a ε=some y)(h0:ε[0]?=some (.ow (.ob C ns xs)))(hf:f∉ns)(hl:ns.length<1000):zU C f a ε=some (.nx (ε.set 0 (.ow (.ob C (ns++[f]) (xs++[y]))))):=by unfold zU;rw [h1,yK,h0];exact if_pos ⟨rfl,hf,hl⟩
theorem KA {nm:Str}{m:List PV->Option PV}{i:Nat}{as:MA}{ns:List Str}{fs:List PV}(h0:ε[i]?=some (.ow (.ob C ns fs)))(hn:nm∉ns)(k:as ε=some xs)(e:m (.ob C ns fs::xs)=some (.at u)):wV C nm m i as ε=some (.at u):=by unfold wV;rw [h0];show (if C=C/\nm∉ns then _ else _)=_;rw [if_pos ⟨rfl,hn⟩,k,yK,e];rfl
theorem CB (ok:d.Ok):jv C [.ob C ["least"] [p9 d.low]]=some (.at (.int d.h)):=by have G:=zF ok.rin;refine r9 rfl (k9 (w6 (v5 (y3 (jn rfl rfl) rfl) rfl) rfl ?_));show some (PV.at (.int (((d.low.map qC).length:Int)-1)))=_;rw [yZ,show d.low.length=d.h+1 from G.len,show ((d.h+1:Nat):Int)-1=(d.h:Int) by omega]
theorem Wn:∀ cs:List Cl,vq (cs.map λc=>PV.tup [.at (.str c.name),c.pv])=some (cs.map λc=>((.inr c.name:j4),c.pv))
 |[]=>rfl
 |c::cs=>by
  show Option.bind (some (Sum.inr c.name)) (λkk=>(vq (cs.map λc=>PV.tup [.at (.str c.name),c.pv])).map ((kk,c.pv)::·))=_;rw [yK,Wn cs];rfl
theorem Bc (h:(cs.map Cl.name).Nodup):(keysOf cs).Nodup:=by
 induction cs with
 |nil=>exact uk
 |cons c cs ih=>rw [yO] at h;have h':=yp.mp h;refine yp.mpr ⟨λz=>?_,ih h'.2⟩;obtain ⟨y,hy,e⟩:=yz.mp z;injection e with e;exact h'.1 (yz.mpr ⟨y,hy,e⟩)
theorem Ix (ok:d.Ok):Qk C [p9 d.rss,.lst (d.cls.map Cl.pv),.at (.int d.last),.at (.int d.time)]=some (d.ob C):=by
 have hlim:lim=1000000:=rfl;have ten:=ok.ten;have glen:=ok.rin.len;have h4:=ok.h4;have cp:∀(s0 s2 s3 s4:MSlot),m8 [none] [0] (m5 (q8 1)) (v7 0) n9 (x9 Qv (q0 (q9 0) x6)) [s0,.sh (p9 d.rss),s2,s3,s4]=some (p9 d.rss):=λs0 s2 s3 s4 =>
  qM qC qC d.rss rfl rfl (by omega) λr _=>⟨_,rfl,rfl⟩
 have dk:∀(s0 s1 s3 s4:MSlot),x9 wc (q0 (m8 [none] [0] (m5 (q8 2)) (v7 0) n9 (qj (q0 (x9 xY (q0 (q8 0) x6)) (q0 (q8 0) x6)))) x6) [s0,s1,.sh (.lst (d.cls.map Cl.pv)),s3,s4]=some (.fk (keysOf d.cls) (d.cls.map Cl.pv)):=λs0 s1 s3 s4=>by
  refine v5 (y3 (qM Cl.pv (λc=>PV.tup [.at (.str c.name),c.pv]) d.cls rfl rfl (by omega) λc _=>⟨_,rfl,xN (y3 (v5 rfl rfl) (y3 rfl rfl)) l2⟩) rfl) ?_;show (vq (d.cls.map λc=>PV.tup [.at (.str c.name),c.pv])).bind _=_;have k1:(d.cls.map λc=>((.inr c.name:j4),c.pv)).map (·.1)=keysOf d.cls:=by rw [yr];rfl
  have k2:(d.cls.map λc=>((.inr c.name:j4),c.pv)).map (·.2)=d.cls.map Cl.pv:=by rw [yr];rfl
  rw [Wn,yK,k1,k2];exact if_pos ⟨Bc ok.nd,by rw [yZ];omega⟩
 have run:Zk C [.ow (.ob C [] []),.sh (p9 d.rss),.sh (.lst (d.cls.map Cl.pv)),.sh (.at (.int d.last)),.sh (.at (.int d.time))]=some (.nx [.ow (d.ob C),.sh (p9 d.rss),.sh (.lst (d.cls.map Cl.pv)),.sh (.at (.int d.last)),.sh (.at (.int d.time))]) :=
  w9 (QW (v5 rfl (IC ok.rin ok.h1 ok.h4)) rfl (by decide) (by decide)) (w9 (Qc (v5 (y3 rfl (y3 rfl (y3 (KA rfl (by decide) rfl (CB ok)) rfl))) (Ij ok.l1 ok.l2 ok.t1)))
   (w9 (Qc (v5 (y3 rfl (y3 (KA rfl (by decide) rfl (CB ok)) rfl)) (Ih ok.cl ok.nd ok.ten)))
   (w9 (QW (cp _ _ _ _) rfl (by decide) (by decide)) (w9 (QW (dk _ _ _ _) rfl (by decide) (by decide)) (w9 (QW (y:= .at (.int d.last)) (f:="last") (ns:=["least","given","held"]) (Vk (n8 (v:=false) (w6 rfl rfl rfl)) rfl) rfl (by decide) (by decide)) (QW (y:= .at (.int d.time)) (f:="time") (ns:=["least","given","held","last"]) (xs:=[p9 d.low,p9 d.rss,.fk (keysOf d.cls) (d.cls.map Cl.pv),.at (.int d.last)]) rfl rfl (by decide) (by decide)))))))
 unfold Qk QR;refine (if_pos rfl).trans ?_;show (Zk C [.ow (.ob C [] []),.sh (p9 d.rss),.sh (.lst (d.cls.map Cl.pv)),.sh (.at (.int d.last)),.sh (.at (.int d.time))]).bind _=_;rw [run];rfl
end
section
variable {C:Addr}{d:Dr}
theorem LO (cs:List Cl):jZ (keysOf cs)=some (cs.map Cl.name):=by
 induction cs with
 |nil=>rfl
 |cons c cs ih=>show (jZ (keysOf cs)).map (c.name::·)=_;rw [ih];rfl
theorem Cd (ss:List Str):jL (w5 ss)=some ss:=by
 induction ss with
 |nil=>rfl
 |cons s ss ih=>show (jL (w5 ss)).map (s::·)=_;rw [ih];rfl
theorem IH (ok:d.Ok):Xf C [d.ob C]=some (.lst (w5 (zL d.names))):=by refine xJ rfl (k9 (v5 (y3 (jn rfl rfl) rfl) ?_));show (jZ (keysOf d.cls)).bind _=_;rw [LO,yK,if_pos (by rw [yZ];have:=ok.ten;omega)];rfl
theorem PM {ss:List Str}(h:ss.Nodup):∀ i,i<=ss.length->s9 (λi=>(Sum.inr (ss.getD i ⟨#[]⟩):j4)) i=(ss.take i).map Sum.inr
 |0,_=>rfl
 |i+1,hi=>by
  have ih:=PM h i (by omega);have hl:i<ss.length:=by omega
  have eg:ss.getD i ⟨#[]⟩=ss[i]:=u8 hl;have hn:ss[i]∉ss.take i:=λz=>by
   have e:ss=ss.take i++ss[i]::ss.drop (i+1):=by rw [<- uD hl,List.take_append_drop]
   rw [e] at h;exact (tZ.mp h).2.2 _ z _ yU rfl
  unfold s9;rw [ih,eg,if_neg (λz=>hn (by
   obtain ⟨y,hy,e⟩:=yz.mp z;injection e with e;rw [<- e];exact hy)),List.take_add_one,yY hl,yv]
  rfl
theorem Nj (h:ss.Nodup):VR ss=ss.length:=by unfold VR;rw [PM h _ (yV _),yZ,tS]
theorem YU (ok:d.Ok)(L:Lst d ns):vV C [d.ob C,y0 ns]=some (.at (.bl true)):=by
 have hlim:lim=1000000:=rfl;have l10:=L.len ok;have en:w5 (ns.map Cl.name)=(ns.map Cl.name).map λs=>PV.at (.str s):=rfl;refine r9 rfl (w9 (qx (xA (xI (v5 rfl Vy))) qE) (w9 (p7 (jo rfl (by decide) rfl (IH ok))) (k9 (Qa (v5 (y3 (qM (λs:Str=>PV.at (.str s)) (λ_=>PV.at (.bl true)) (ns.map Cl.name) rfl rfl (by rw [yZ];omega) λs hs=>⟨_,rfl,w6 rfl rfl ((KN false s _).trans ?_)⟩) rfl) (Zi _)) (w6 (y:= .at (.int (ns.length:Int))) (x:= .at (.int (ns.length:Int))) ?_ ?_ (HW rfl))))))
 ·obtain ⟨c,hc,rfl⟩:=yz.mp hs;have:c.name∈zL d.names:=(YJ d.names).mem_iff.mpr (yz.mpr ⟨c,L.sub c hc,rfl⟩);simp [this]
 ·show (jL (w5 (ns.map Cl.name))).bind _=_;rw [Cd,yK,if_pos (by rw [yZ];omega),Nj L.nd,yZ]
 ·refine v5 rfl ?_;show some (PV.at (.int ((w5 (ns.map Cl.name)).length:Int)))=_;rw [ze,yZ]
end
section
variable {α:Type}
def xu (d0:α)(ks:List (Int×Str))(xs:List α):List α:=(vA ks).map λi=>xs.getD i d0
theorem YI {ks:List (Int×Str)}{i:Nat}(h:i∈vA ks):i<ks.length:=yu.mp ((XR ks).mem_iff.mp h)
theorem Wj (d0:α){ks:List (Int×Str)}{xs:List α}(h:ks.length=xs.length):(xu d0 ks xs).Perm xs:=by have:=(XR ks).map λi=>xs.getD i d0;rw [h,VT] at this;exact this
theorem Vn (f:α->β)(d0:α)(e0:β){xs:List α}{i:Nat}(h:i<xs.length):(xs.map f).getD i e0=f (xs.getD i d0):=by rw [yC,yC,yP,yY h];rfl
theorem Rz (f:α->β)(d0:α)(e0:β){ks:List (Int×Str)}{xs:List α}(h:ks.length=xs.length):(vA ks).map (λi=>(xs.map f).getD i e0)=(xu d0 ks xs).map f:=by unfold xu;rw [yr];exact List.map_congr_left λi hi=>Vn f d0 e0 (h▸YI hi)
theorem RA (d0:α)(key:α->Int×Str)(xs:List α):(xu d0 (xs.map key) xs).Pairwise λa b=>u7 (key b) (key a)=false:=by unfold xu;rw [List.pairwise_map];refine (PY (xs.map key)).imp_of_mem λ{a b} ha hb h=>?_;have la:=YI ha;have lb:=YI hb;rw [yZ] at la lb;unfold qN at h;rw [Vn key d0 _ la,Vn key d0 _ lb] at h;exact h
theorem Bb {kb:PV->Option PV}(f:α->PV)(key:α->Int×Str):∀{xs:List α},(∀ x∈xs,kb (f x)=some (.tup [.at (.int (key x).1),.at (.str (key x).2)]))->vQ kb (xs.map f)=some (xs.map key)
 |[],_=>rfl
 |x::xs,h=>by
  rw [yO];unfold vQ;rw [h x yU,Bb f key λy hy=>h y (yW _ hy)];rfl
theorem IM (d0:α){kb:PV->Option PV}(f:α->PV)(key:α->Int×Str){xs:List α}(h:∀ x∈xs,kb (f x)=some (.tup [.at (.int (key x).1),.at (.str (key x).2)]))(l:xs.length<64)(nd:(xs.map key).Nodup):Wd kb [.lst (xs.map f)]=some (.lst ((xu d0 (xs.map key) xs).map f)):=by show (vQ kb (xs.map f)).bind _=_;rw [Bb f key h,yK,if_pos ⟨by rw [yZ];exact l,nd⟩,Rz f d0 _ (yZ _)]
end
theorem Nq (f:α->β){l:List α}(h:(l.map f).Nodup):l.Nodup:=List.Pairwise.of_map f (λ_ _ h e=>h (congrArg f e)) h
theorem Np {xs:List Cl}{g:Cl->Int}(nd:(xs.map Cl.name).Nodup):(xs.map λc=>(g c,c.name)).Nodup:=by refine Nq Prod.snd ?_;rw [yr];exact nd
def c0:Cl:=⟨"",0,0,0,0⟩
def g9:List Cl->Int
 |[]=>1
 |c::cs=>c.wt*g9 cs
theorem Wm:∀{xs:List Cl}{c:Cl},c∈xs->c.wt ∣ g9 xs
 |[],_,h=>nomatch h
 |x::xs,c,h=>by
  rcases yH.mp h with rfl|h
  ·exact ⟨g9 xs,rfl⟩
  ·obtain ⟨q,e⟩:=Wm h;exact ⟨x.wt*q,by show x.wt*g9 xs=_;rw [e,<- Int.mul_assoc,<- Int.mul_assoc,Int.mul_comm x.wt c.wt]⟩
theorem Jq {xs:List Cl}:(∀ c∈xs,1<=c.wt)->1<=g9 xs:=by
 induction xs with
 |nil=>intro _;exact uS _
 |cons x xs ih=>intro h;have h1:=h x yU;have h2:=ih λc hc=>h c (yW _ hc);exact Int.mul_pos (show 0<x.wt by omega) (show 0<g9 xs by omega)
theorem BO {xs:List Cl}:(∀ c∈xs,1<=c.wt)->(∀ c∈xs,c.wt<=k7)->g9 xs<=(2:Int) ^ (100*xs.length):=by
 have hb:k7<=2 ^ 100:=by decide +kernel
 induction xs with
 |nil=>intro _ _;exact uS _
 |cons x xs ih=>intro h g;have h1:=h x yU;have g1:=g x yU;have h2:=Jq λc hc=>h c (yW _ hc);have g2:=ih (λc hc=>h c (yW _ hc)) λc hc=>g c (yW _ hc);show x.wt*g9 xs<=_;rw [yF,Nat.mul_add,Nat.mul_one,Int.pow_add,Int.mul_comm];exact Int.mul_le_mul g2 (by omega) (by omega) (by omega)
theorem Zo (h0:0<=n)(h1:n<=2 ^ 1000):Builtin.Int.intBits n<=2 ^ 20:=by
 obtain ⟨m,rfl⟩:=yo h0;have h2:m<2 ^ 1001:=by
  have e:((2 ^ 1000:Nat):Int)=2 ^ 1000:=by rw [Int.natCast_pow];rfl
  rw [<- e] at h1;have h3:m<=2 ^ 1000:=by exact Int.ofNat_le.mp h1
  exact Nat.lt_of_le_of_lt h3 (Nat.pow_lt_pow_right (by decide) (by decide))
 exact ym (PyProof.Rows.intBits_le (k:=1001) (by rw [Int.natAbs_natCast];exact h2)) (by decide)
theorem BN {n:Nat}(h:n<=10):(2:Int) ^ (100*n)<=2 ^ 1000:=by have:(2:Nat) ^ (100*n)<=2 ^ 1000:=um (by decide) (by omega);have:=Int.ofNat_le.mpr this;rw [Int.natCast_pow,Int.natCast_pow] at this;exact this
def qX (w:Int)(c:Cl):Int×Str:=(c.len*(w / c.wt),c.name)
theorem Ig {xs:List Cl}(nd:(xs.map Cl.name).Nodup)(l:xs.length<=10)(g1:∀ c∈xs,1<=c.len)(g2:∀ c∈xs,c.len<=k7)(w1:∀ c∈xs,1<=c.wt)(w2:∀ c∈xs,c.wt<=k7):ZQ [.lst (xs.map Cl.pv)]=some (.lst ((xu c0 (xs.map (qX (g9 xs))) xs).map Cl.pv)):=by
 have hB:=wA;have hb:k7<=2 ^ 1000:=by decide +kernel
 have lp:=vT (g:=v7 2) (f:=dAug 1 pIpM (x9 jz (q0 (q8 2) x6))) Cl.pv (λtodo ε=>∃(done:List Cl)(s2:MSlot),done.reverse++todo=xs/\ε=[.sh (.lst (xs.map Cl.pv)),.sh (.at (.int (g9 done))),s2]) (by
  rintro c todo ε ⟨done,s2,e,rfl⟩;have hc:∀ x∈done,x∈xs:=λx hx=>by rw [<- e];exact uQ _ (List.mem_reverse.mpr hx)
  have hc':c∈xs:=by rw [<- e];exact yw _ yU
  have dl:done.length<=10:=by have:=congrArg List.length e;rw [yN,List.length_reverse] at this;omega
  have p1:=Jq λx hx=>w1 x (hc x hx);have p2:=uN (BO (λx hx=>w1 x (hc x hx)) λx hx=>w2 x (hc x hx)) (BN dl);have q1:=w1 c hc';have q2:=w2 c hc';refine ⟨_,[.sh (.lst (xs.map Cl.pv)),.sh (.at (.int (g9 (c::done)))),.sh c.pv],rfl,?_,c::done,.sh c.pv,by rw [List.reverse_cons,yk];exact e,rfl⟩;show (if zP (g9 done) c.wt then some (PV.at (.int (g9 done*c.wt))) else none).bind _=_;rw [if_pos ⟨Zo (by omega) p2,Zo (by omega) (by omega)⟩,Int.mul_comm];rfl) xs _ ⟨[],.no,rfl,rfl⟩
 obtain ⟨ε',e',done,s2,e,rfl⟩:=lp;have pe:g9 done=g9 xs:=by
  rw [yt] at e;rw [<- e];have ap:∀ a b:List Cl,g9 (a++b)=g9 a*g9 b:=by
   intro a b
   induction a with
   |nil=>show g9 b=1*g9 b;rw [Int.one_mul]
   |cons x a ih=>show x.wt*g9 (a++b)=x.wt*g9 a*g9 b;rw [ih,Int.mul_assoc]
  clear e e'
  induction done with
  |nil=>rfl
  |cons x a ih=>rw [List.reverse_cons,ap,<- ih];show x.wt*g9 a=g9 a*(x.wt*1);rw [Int.mul_one,Int.mul_comm]
 rw [pe] at e';have p1:=Jq w1;have p2:=uN (BO w1 w2) (BN l);refine xJ rfl (w9 (p7 rfl) (w9 (xB rfl e') (k9 (IM c0 Cl.pv (qX (g9 xs)) (λc hc=>?_) (by omega) (Np nd)))));have q1:=w1 c hc;have q2:=w2 c hc;have d1:pDiv (.at (.int (g9 xs))) (.at (.int c.wt))=some (.at (.int (g9 xs / c.wt))):=by show (if jP (g9 xs) c.wt then some (V.int (g9 xs / c.wt)) else none).map PV.at=_;rw [if_pos (QP (by omega) (by omega))];rfl
 have d2:zh (.at (.int c.len)) (.at (.int (g9 xs / c.wt)))=some (.at (.int (c.len*(g9 xs / c.wt)))):=by have n1:0<=g9 xs / c.wt:=Int.ediv_nonneg (by omega) (by omega);have n2:g9 xs / c.wt<=g9 xs:=Int.ediv_le_self _ (by omega);have:=g1 c hc;have:=g2 c hc;show (if zP c.len (g9 xs / c.wt) then some (V.int (c.len*(g9 xs / c.wt))) else none).map PV.at=_;rw [if_pos ⟨Zo (by omega) (by omega),Zo n1 (by omega)⟩];rfl
 exact xN (y3 (w6 (v5 rfl rfl) (w6 rfl (v5 rfl rfl) d1) d2) (y3 (v5 rfl rfl) rfl)) l2
theorem II {xs:List Cl}(l:xs.length<=10):Ja [.lst (xs.map Cl.pv)]=some (.lst (w5 (xs.map Cl.name))):=by have hlim:lim=1000000:=rfl;refine xJ rfl (k9 ((qM Cl.pv (λc=>PV.at (.str c.name)) xs rfl rfl (by omega) λc _=>⟨_,rfl,v5 rfl rfl⟩).trans ?_));unfold w5;rw [yr];rfl
section
variable {C:Addr}{d:Dr}
def Dr.inH (d:Dr)(h:Nat):List Cl:=d.cls.filter λc=>decide (c.hue=h)
theorem Vt (ok:d.Ok):(d.inH h).length<=10:=ym (List.length_filter_le _ _) ok.ten
theorem jX (hc:c∈d.inH h):c∈d.cls:=(yj.mp hc).1
theorem ZK (ok:d.Ok):((d.inH h).map Cl.name).Nodup:=ok.nd.sublist (List.filter_sublist.map _)
theorem Ik (ok:d.Ok)(h:Nat):Xe C [d.ob C,.at (.int h)]=some (.lst ((d.inH h).map Cl.pv)):=by
 have hlim:lim=1000000:=rfl;have:=ok.ten;refine xJ rfl (k9 (Kx Cl.pv Cl.pv (λc=>decide (c.hue=h)) d.cls ?_ rfl (by omega) λc _=>⟨_,rfl,n8 (w6 (v5 rfl rfl) rfl ((wZ _ _).trans ?_)),λ_=>rfl⟩))
 ·show (xM C "held" (q8 0) _).bind _=_;rw [jn rfl rfl];rfl
 ·rw [show decide ((c.hue:Int)=(h:Int))=decide (c.hue=h) by rw [decide_eq_decide];omega]
def Dr.steepR (d:Dr)(h:Nat):List Cl:=xu c0 ((d.inH h).map (qX (g9 (d.inH h)))) (d.inH h)
theorem Jx (h:Nat):(d.steepR h).Perm (d.inH h):=Wj c0 (yZ _)
theorem IQ (ok:d.Ok)(h:Nat):Qm C [d.ob C,.at (.int h)]=some (.lst (w5 ((d.steepR h).map Cl.name))) :=
 xJ rfl (k9 (v5 (y3 (v5 (y3 (jo rfl (by decide) rfl (Ik ok h)) rfl) (Ig (ZK ok) (Vt ok) (λc hc=>(ok.cl c (jX hc)).l1) (λc hc=>(ok.cl c (jX hc)).l2) (λc hc=>(ok.cl c (jX hc)).w1) (λc hc=>(ok.cl c (jX hc)).w2))) rfl) (II (by have:=(Jx (d:=d) h).length_eq;have:=Vt ok (h:=h);show (d.steepR h).length<=10;omega))))
end
section
variable {C:Addr}{d:Dr}
def k5 (R:List Str):PV:= .lst (w5 R)
theorem RN {a:MA}{k:Nat}(h:a ε=some [.at (.int (k:Int))])(hk:k<=1000):xq a ε=some ((List.range k).map λ(i:Nat)=>PV.at (.int ((0:Int)+i))):=vy h (by have:lim=1000000:=rfl;omega)
def Dr.steepN (d:Dr)(g:Nat):List Str:=(d.steepR g).map Cl.name
theorem CF (ok:d.Ok):vW C [d.ob C]=some (.lst (((List.range d.h).map d.steepN).map k5)):=by
 have hlim:lim=1000000:=rfl;have h4:=ok.h4;refine xJ rfl (k9 ((qM (λ(i:Nat)=>PV.at (.int ((0:Int)+i))) (λi=>k5 (d.steepN i)) (List.range d.h) (RN (y3 (jo rfl (by decide) rfl (Iu ok)) rfl) (by omega)) rfl (by rw [uZ];omega) λi _=>⟨_,rfl,jo rfl (by decide) rfl ?_⟩).trans ?_))
 ·show Qm C [d.ob C,.at (.int ((0:Int)+i))]=_;rw [uw];exact IQ ok i
 ·rw [yr];rfl
end
theorem KK (s:Str):∀{R:List Str},s∈R->Qf (.str s) (R.map V.str)=some (R.idxOf s)
 |[],h=>nomatch h
 |r::R,h=>by
  show (if decide (r=s)=true then some 0 else (Qf (.str s) (R.map V.str)).map (·+1))=_;rw [List.idxOf_cons];by_cases e:r=s
  ·subst e;simp
  ·rcases yH.mp h with z|z
   ·exact absurd z.symm e
   ·rw [if_neg (by simpa using e),KK s z];have:(r==s)=false:=by simpa using e
    rw [this];rfl
theorem Kz {a b:M}(h1:a ε=some (k5 R))(h2:b ε=some (.at (.str s)))(hs:s∈R)(hl:R.length<=1000):jm a b ε=some (.at (.int (R.idxOf s:Nat))):=by have hlim:lim=1000000:=rfl;unfold jm;rw [h1,yK,h2,yK];show (ats (w5 R)).bind _=_;rw [JM,yK,if_pos ⟨rfl,KD R,by rw [yZ];omega⟩,KK s hs];rfl
def qw (R:List Str):List (Str×Nat)->Option (Nat×Nat)
 |x::y::l=>if R.idxOf y.1<R.idxOf x.1 then some (x.2,y.2) else qw R (y::l)
 |_=>none
def o8 (R N:List Str):List (Str×Nat):=N.zipIdx.filter λp=>decide (p.1∈R)
def ja:Option (Nat×Nat)->PV
 |none=> .at .non
 |some p=> .tup [.at (.int p.1),.at (.int p.2)]
def enF (p:Str×Nat):PV:= .tup [.at (.int p.2),.at (.str p.1)]
theorem Ku:∀(N:List Str)(n:Nat),xr n (w5 N)=(N.zipIdx n).map enF
 |[],_=>rfl
 |s::N,n=>by
  show PV.tup [.at (.int n),.at (.str s)]::xr (n+1) (w5 N)=_;rw [Ku N (n+1),List.zipIdx_cons];rfl
def p8 (p:Str×Nat):PV:= .at (.int (p.2:Int))
theorem CY:∀ l:List (Str×Nat),xm (l.map p8) ((l.map p8).drop 1)=(l.zip (l.drop 1)).map λq=>PV.tup [p8 q.1,p8 q.2]
 |[]=>rfl
 |[x]=>rfl
 |x::y::l=>by
  show PV.tup [p8 x,p8 y]::xm ((y::l).map p8) (((y::l).map p8).drop 1)=_;rw [CY (y::l)];rfl
theorem Bq {R N:List Str}{f:MS}{s2:MSlot}(hl:∀(x y:Str×Nat)(s3 s4:MSlot),x∈o8 R N->y∈o8 R N->f [.sh (k5 R),.sh (k5 N),s2,.sh (p8 x),.sh (p8 y)]=if R.idxOf y.1<R.idxOf x.1 then some (.rt (.tup [p8 x,p8 y])) else some (.nx [.sh (k5 R),.sh (k5 N),s2,.sh (p8 x),.sh (p8 y)])):∀(l:List (Str×Nat)),(∀ x∈l,x∈o8 R N)->∀(s3 s4:MSlot),(∃ p,qw R l=some p/\r6 (qP 2 (c6 (v7 3) (c6 (v7 4) qO))) f ((l.zip (l.drop 1)).map λq=>PV.tup [p8 q.1,p8 q.2]) [.sh (k5 R),.sh (k5 N),s2,s3,s4]=some (.rt (ja (some p))))∨(qw R l=none/\∃ s3' s4':MSlot,r6 (qP 2 (c6 (v7 3) (c6 (v7 4) qO))) f ((l.zip (l.drop 1)).map λq=>PV.tup [p8 q.1,p8 q.2]) [.sh (k5 R),.sh (k5 N),s2,s3,s4]=some (.nx [.sh (k5 R),.sh (k5 N),s2,s3',s4']))
 |[],_,s3,s4=> .inr ⟨rfl,s3,s4,rfl⟩
 |[x],_,s3,s4=> .inr ⟨rfl,s3,s4,rfl⟩
 |x::y::l,h,s3,s4=>by
  have hf:=hl x y s3 s4 (h x yU) (h y (yW _ yU));have st:r6 (qP 2 (c6 (v7 3) (c6 (v7 4) qO))) f (((x::y::l).zip ((x::y::l).drop 1)).map λq=>PV.tup [p8 q.1,p8 q.2]) [.sh (k5 R),.sh (k5 N),s2,s3,s4]=(f [.sh (k5 R),.sh (k5 N),s2,.sh (p8 x),.sh (p8 y)]).bind λo=>match o with
   | .nx ε2=>r6 (qP 2 (c6 (v7 3) (c6 (v7 4) qO))) f (((y::l).zip ((y::l).drop 1)).map λq=>PV.tup [p8 q.1,p8 q.2]) ε2
   | .ct ε2=>r6 (qP 2 (c6 (v7 3) (c6 (v7 4) qO))) f (((y::l).zip ((y::l).drop 1)).map λq=>PV.tup [p8 q.1,p8 q.2]) ε2
   | .bk ε2=>some (.nx ε2)
   | .rt y=>some (.rt y):=rfl
  by_cases e:R.idxOf y.1<R.idxOf x.1
  ·rw [if_pos e] at hf;refine .inl ⟨(x.2,y.2),by unfold qw;rw [if_pos e],?_⟩;rw [st,hf];rfl
  ·rw [if_neg e] at hf;have ea:qw R (x::y::l)=qw R (y::l):=by show (if R.idxOf y.1<R.idxOf x.1 then some (x.2,y.2) else qw R (y::l))=_;rw [if_neg e]
   rcases Bq hl (y::l) (λz hz=>h z (yW _ hz)) (.sh (p8 x)) (.sh (p8 y)) with ⟨p,e1,e2⟩|⟨e1,s3',s4',e2⟩
   ·refine .inl ⟨p,ea.trans e1,?_⟩;rw [st,hf];exact e2
   ·refine .inr ⟨ea.trans e1,s3',s4',?_⟩;rw [st,hf];exact e2
theorem BM {x:Str×Nat}(h:x∈o8 R N):x.1∈R/\N[x.2]?=some x.1:=by obtain ⟨h1,h2⟩:=yj.mp h;exact ⟨uT h2,List.mem_zipIdx_iff_getElem?.mp h1⟩
theorem IW (hR:R.length<=1000)(hN:N.length<=1000):Xr [k5 R,k5 N]=some (ja (qw R (o8 R N))):=by
 have hlim:lim=1000000:=rfl;have cp:m8 [none,none,some 0] [0,1] (wU (q0 (q8 1) x6)) (qP 2 (c6 (v7 0) (c6 (v7 1) qO))) (dT (x8 (pIn false) (q9 1) (q9 2))) (q8 0) [.sh (k5 R),.sh (k5 N),.no,.no,.no]=some (.lst ((o8 R N).map p8)):=by refine Kx enF p8 (λp=>decide (p.1∈R)) N.zipIdx ?_ rfl (by rw [List.length_zipIdx];omega) λp _=>⟨_,rfl,n8 (w6 rfl rfl ((KN false p.1 R).trans rfl)),λ_=>rfl⟩;show some (xr 0 (w5 N))=_;rw [Ku]
 have zp:wW (q0 (q8 2) (q0 (xH (q9 2) (pSo (dC (.int 1))) pNo) x6)) [.sh (k5 R),.sh (k5 N),.sh (.lst ((o8 R N).map p8)),.no,.no]=some (((o8 R N).zip ((o8 R N).drop 1)).map λq=>PV.tup [p8 q.1,p8 q.2]):=by
  unfold wW;rw [y3 rfl (y3 (vM rfl rfl rfl) rfl),yK];show some (xm ((o8 R N).map p8) (zx ((o8 R N).map p8) (some 1) none))=_;have ec:zx ((o8 R N).map p8) (some 1) none=((o8 R N).map p8).drop 1:=by
   unfold zx;cases hp:(o8 R N).map p8 with
   |nil=>rfl
   |cons x l =>
    have e1:HT.sIx (x::l).length 0 (some 1)=1:=by unfold HT.sIx;simp
    have e2:HT.sIx (x::l).length (x::l).length none=(x::l).length:=rfl;rw [e1,e2,ub (by simp)]
  rw [ec,CY]
 have bd:=Bq (R:=R) (N:=N) (s2:= .sh (.lst ((o8 R N).map p8))) (f:=m3 (dT (x8 pGt (jm (q9 0) (x8 w4 (q9 1) (q9 3))) (jm (q9 0) (x8 w4 (q9 1) (q9 4))))) (y9 (qj (q0 (q8 3) (q0 (q8 4) x6)))) n6) (by
  intro x y s3 s4 hx hy;obtain ⟨x1,x2⟩:=BM hx;obtain ⟨y1,y2⟩:=BM hy;have ix:∀{z:Str×Nat},N[z.2]?=some z.1->w4 (k5 N) (.at (.int (z.2:Int)))=some (.at (.str z.1)):=λ{z} hz=>by
   show atI (w5 N) (z.2:Int)=_;refine xS ?_;unfold w5;rw [yP,hz];rfl
  have c:dT (x8 pGt (jm (q9 0) (x8 w4 (q9 1) (q9 3))) (jm (q9 0) (x8 w4 (q9 1) (q9 4)))) [.sh (k5 R),.sh (k5 N),.sh (.lst ((o8 R N).map p8)),.sh (p8 x),.sh (p8 y)]=some (decide (R.idxOf y.1<R.idxOf x.1)):=by refine n8 (w6 (Kz rfl (w6 rfl rfl (ix x2)) x1 hR) (Kz rfl (w6 rfl rfl (ix y2)) y1 hR) ?_);show some (PV.at (.bl (decide ((R.idxOf y.1:Int)<(R.idxOf x.1:Int)))))=_;rw [show decide ((R.idxOf y.1:Int)<(R.idxOf x.1:Int))=decide (R.idxOf y.1<R.idxOf x.1) by rw [decide_eq_decide];omega]
  by_cases e:R.idxOf y.1<R.idxOf x.1
  ·rw [if_pos e];rw [yG e] at c;exact Qd c (k9 (xN rfl l2))
  ·rw [if_neg e];rw [yI e] at c;exact qx c qE) (o8 R N) (λ_ h=>h) .no .no
 rcases bd with ⟨p,e1,e2⟩|⟨e1,s3',s4',e2⟩
 ·rw [e1];exact r9 rfl (w9 (p7 cp) (QV (xB zp e2)))
 ·rw [e1];exact r9 rfl (w9 (p7 cp) (w9 (xB zp e2) (k9 rfl)))
abbrev fTp:MS:=v3 (u5 3 (x9 Xr (q0 (q8 2) (q0 (q8 1) x6)))) (m3 (dT (x8 wd (q9 3) (dC .non))) (y9 (q8 3)) n6)
theorem IX (hN:N.length<=1000):∀(rows:List (List Str)),(∀ R∈rows,R.length<=1000)->zZ [.lst (rows.map k5),k5 N]=some (ja (rows.findSome? λR=>qw R (o8 R N))):=by
 intro rows hr;have lp:∀(l:List (List Str))(s2 s3:MSlot),(∀ R∈l,R.length<=1000)->(∃ p,(l.findSome? λR=>qw R (o8 R N))=some p/\r6 (v7 2) fTp (l.map k5) [.sh (.lst (rows.map k5)),.sh (k5 N),s2,s3]=some (.rt (ja (some p)))) ∨
   ((l.findSome? λR=>qw R (o8 R N))=none/\∃ s2' s3':MSlot,r6 (v7 2) fTp (l.map k5) [.sh (.lst (rows.map k5)),.sh (k5 N),s2,s3]=some (.nx [.sh (.lst (rows.map k5)),.sh (k5 N),s2',s3'])):=by
  intro l
  induction l with
  |nil=>exact λs2 s3 _=> .inr ⟨rfl,s2,s3,rfl⟩
  |cons R l ih =>
   intro s2 s3 h;have st:∀ o,fTp [.sh (.lst (rows.map k5)),.sh (k5 N),.sh (k5 R),s3]=some o->r6 (v7 2) fTp ((R::l).map k5) [.sh (.lst (rows.map k5)),.sh (k5 N),s2,s3]=match o with
    | .nx ε2=>r6 (v7 2) fTp (l.map k5) ε2
    | .ct ε2=>r6 (v7 2) fTp (l.map k5) ε2
    | .bk ε2=>some (.nx ε2)
    | .rt y=>some (.rt y):=λo e=>by
    show Option.bind (fTp [.sh (.lst (rows.map k5)),.sh (k5 N),.sh (k5 R),s3]) _=_;rw [e];rfl
   have ht:=IW (h R yU) hN;cases ea:qw R (o8 R N) with
   |some p=>rw [ea] at ht;refine .inl ⟨p,by rw [List.findSome?_cons,ea],?_⟩;rw [st _ (w9 (p7 (v5 rfl ht)) (Qd (n8 (v:=true) rfl) (k9 rfl)))]
   |none =>
    rw [ea] at ht;have:=st _ (w9 (p7 (v5 rfl ht)) (qx (n8 (v:=false) rfl) qE));rw [List.findSome?_cons,ea];rcases ih (.sh (k5 R)) (.sh (.at .non)) λQ hQ=>h Q (yW _ hQ) with ⟨p,e1,e2⟩|⟨e1,s2',s3',e2⟩
    ·exact .inl ⟨p,e1,this.trans e2⟩
    ·exact .inr ⟨e1,s2',s3',this.trans e2⟩
 rcases lp rows .no .no hr with ⟨p,e1,e2⟩|⟨e1,s2,s3,e2⟩
 ·rw [e1];exact r9 rfl (QV (xB rfl e2))
 ·rw [e1];exact r9 rfl (w9 (xB rfl e2) (k9 rfl))
theorem Us {R:List Str}:∀{l:List (Str×Nat)},qw R l=none↔(l.map (·.1)).Pairwise λa b=>R.idxOf a<=R.idxOf b
 |[]=>by simp [qw]
 |[x]=>by simp [qw]
 |x::y::l=>by
  have ih:=Us (R:=R) (l:=y::l);rw [yO,uI];unfold qw;constructor
  ·intro h;split at h
   ·cases h
   ·rename_i hn;have hp:=ih.mp h;refine ⟨λz hz=>?_,hp⟩;rw [yO] at hz hp;rcases yH.mp hz with rfl|hz
    ·omega
    ·have:=(uI.mp hp).1 z hz;omega
  ·rintro ⟨h1,h2⟩;rw [if_neg (by have:=h1 y.1 (by rw [yO];exact yU);omega)];exact ih.mpr h2
theorem RC (R N:List Str):(o8 R N).map (·.1)=N.filter λs=>decide (s∈R):=by
 unfold o8;have:∀(N:List Str)(n:Nat),((N.zipIdx n).filter λp=>decide (p.1∈R)).map (·.1)=N.filter λs=>decide (s∈R):=by
  intro N
  induction N with
  |nil=>intro n;rfl
  |cons s N ih =>
   intro n;rw [List.zipIdx_cons,List.filter_cons,List.filter_cons];by_cases h:s∈R
   ·rw [if_pos (by simpa using h),if_pos (by simpa using h),yO,ih]
   ·rw [if_neg (by simpa using h),if_neg (by simpa using h),ih]
 exact this N 0
theorem Wv {xs:List Cl}(hk:∀ c,(key c).2=c.name)(nd:(xs.map Cl.name).Nodup)(ha:a∈xs)(hb:b∈xs):((xu c0 (xs.map key) xs).map Cl.name).idxOf b.name<((xu c0 (xs.map key) xs).map Cl.name).idxOf a.name↔u7 (key b) (key a)=true:=by
 have pm:=Wj c0 (ks:=xs.map key) (xs:=xs) (yZ _);have up:=RA c0 key xs;generalize xu c0 (xs.map key) xs=row at pm up;have ndr:(row.map Cl.name).Nodup:=(pm.map Cl.name).nodup_iff.mpr nd;have ia:=(uV.mp (pm.mem_iff.mpr ha));have ib:=(uV.mp (pm.mem_iff.mpr hb));obtain ⟨i,hi,ei⟩:=ia;obtain ⟨j,hj,ej⟩:=ib;have xi:(row.map Cl.name).idxOf a.name=i:=by
  have:(row.map Cl.name)[i]'(by rw [yZ];exact hi)=a.name:=by rw [ya,ei]
  rw [<- this];exact ndr.idxOf_getElem i _
 have xj:(row.map Cl.name).idxOf b.name=j:=by
  have:(row.map Cl.name)[j]'(by rw [yZ];exact hj)=b.name:=by rw [ya,ej]
  rw [<- this];exact ndr.idxOf_getElem j _
 rw [xi,xj];have pg:=uo.mp up;constructor
 ·intro h;have q:=pg j i hj hi h;rw [ei,ej] at q;cases e:u7 (key b) (key a) with
  |true=>rfl
  |false =>
   have:=congrArg Prod.snd (VP e q);rw [hk,hk] at this;have z:row.map Cl.name=row.map Cl.name:=rfl;exfalso;have:j=i:=by rw [<- xi,<- xj,this]
   omega
 ·intro h;rcases Nat.lt_trichotomy j i with q|q|q
  ·exact q
  ·subst q;have e:a=b:=by rw [<- ei,<- ej]
   subst e;have:=(Qj λ_=>key a).irr 0;rw [h] at this;cases this
  ·have z:=pg i j hi hj q;rw [ei,ej,h] at z;cases z
theorem Pz (ok:d.Ok)(L:Lst d ns){g:Nat}(hk:∀ c,(key c).2=c.name):qw ((xu c0 ((d.inH g).map key) (d.inH g)).map Cl.name) (o8 ((xu c0 ((d.inH g).map key) (d.inH g)).map Cl.name) (ns.map Cl.name))=none↔ns.Pairwise λa b=>a.hue=g->b.hue=g->u7 (key b) (key a)=false:=by
 have pm:=Wj c0 (ks:=(d.inH g).map key) (xs:=d.inH g) (yZ _);have mem:∀ c∈ns,c.name∈(xu c0 ((d.inH g).map key) (d.inH g)).map Cl.name↔c.hue=g:=by
  intro c hc;rw [(pm.map Cl.name).mem_iff];constructor
  ·intro h;obtain ⟨x,hx,e⟩:=yz.mp h;obtain ⟨x1,x2⟩:=yj.mp hx;have:x=c:=by have nd:=ok.nd;obtain ⟨i,hi,ei⟩:=uV.mp x1;obtain ⟨j,hj,ej⟩:=uV.mp (L.sub c hc);have:=(tU (xs:=d.cls.map Cl.name) (h₀:=by rw [yZ];exact hi) (h₁:=by rw [yZ];exact hj) nd).mp (by rw [ya,ya,ei,ej,e]);subst this;rw [<- ei,<- ej]
   subst this;exact uT x2
  ·intro h;exact yz.mpr ⟨c,yj.mpr ⟨L.sub c hc,by rw [h];exact yG rfl⟩,rfl⟩
 rw [Us,RC,List.filter_map,List.pairwise_map,List.pairwise_filter];constructor
 ·intro h;refine h.imp_of_mem λ{a b} ha hb q h1 h2=>?_;have q:=q (by simpa using (mem a ha).mpr h1) (by simpa using (mem b hb).mpr h2);cases e:u7 (key b) (key a) with
  |false=>rfl
  |true=>have:=(Wv hk (ZK ok (h:=g)) (a:=a) (b:=b) (yj.mpr ⟨L.sub a ha,by rw [h1];exact yG rfl⟩) (yj.mpr ⟨L.sub b hb,by rw [h2];exact yG rfl⟩)).mpr e;omega
 ·intro h;refine h.imp_of_mem λ{a b} ha hb q h1 h2=>?_;have h1:a.hue=g:=(mem a ha).mp (by simpa using h1);have h2:b.hue=g:=(mem b hb).mp (by simpa using h2);have q:=q h1 h2;rcases ui (((xu c0 ((d.inH g).map key) (d.inH g)).map Cl.name).idxOf b.name) (((xu c0 ((d.inH g).map key) (d.inH g)).map Cl.name).idxOf a.name) with z|z
  ·rw [(Wv hk (ZK ok (h:=g)) (a:=a) (b:=b) (yj.mpr ⟨L.sub a ha,by rw [h1];exact yG rfl⟩) (yj.mpr ⟨L.sub b hb,by rw [h2];exact yG rfl⟩)).mp z] at q;cases q
  ·exact z
theorem MD {f:α->Option β}{l:List α}:l.findSome? f=none↔∀ x∈l,f x=none:=uu
theorem pw_all {α:Type}{h:Nat}{P:Nat->α->α->Prop}:∀{l:List α},(∀ g,g<h->l.Pairwise (P g))↔l.Pairwise λa b=>∀ g,g<h->P g a b
 |[]=>⟨λ_=> .nil,λ_ _ _=> .nil⟩
 |x::l=>by
  rw [uI];constructor
  ·intro q;exact ⟨λy hy g hg=>(uI.mp (q g hg)).1 y hy,pw_all.mp λg hg=>(uI.mp (q g hg)).2⟩
  ·intro q g hg;exact uI.mpr ⟨λy hy=>q.1 y hy g hg,pw_all.mpr q.2 g hg⟩
theorem Dc {P:Int}(hP:1<=P)(wa:1<=a.wt)(wb:1<=b.wt)(da:a.wt ∣ P)(db:b.wt ∣ P)(h:u7 (qX P a) (qX P b)=true):a.len*b.wt<b.len*a.wt∨(a.len*b.wt=b.len*a.wt/\a.name.cps.toList<b.name.cps.toList):=by
 obtain ⟨qa,ea⟩:=da;obtain ⟨qb,eb⟩:=db;have da:P / a.wt=qa:=by rw [ea];exact Int.mul_ediv_cancel_left _ (by omega)
 have db:P / b.wt=qb:=by rw [eb];exact Int.mul_ediv_cancel_left _ (by omega)
 have e1:P*(a.len*b.wt)=(a.wt*b.wt)*(a.len*qa):=by rw [ea];ac_rfl
 have e2:P*(b.len*a.wt)=(a.wt*b.wt)*(b.len*qb):=by rw [eb];ac_rfl
 have pw:0<a.wt*b.wt:=Int.mul_pos (by omega) (by omega);rcases ltK_iff.mp h with z|⟨z1,z2⟩
 ·refine .inl ?_;have z:a.len*(P / a.wt)<b.len*(P / b.wt):=z;rw [da,db] at z;have:=Int.mul_lt_mul_of_pos_left z pw;rw [<- e1,<- e2] at this;exact Int.lt_of_mul_lt_mul_left this (by omega)
 ·refine .inr ⟨?_,z2⟩;have z1:a.len*(P / a.wt)=b.len*(P / b.wt):=z1;rw [da,db] at z1;have:P*(a.len*b.wt)=P*(b.len*a.wt):=by rw [e1,e2,z1]
  exact Int.eq_of_mul_eq_mul_left (by omega) this
def zw (way:Int)(a b:Cl):Bool:=if way=0 then u7 (a.due,a.name) (b.due,b.name) else u7 (a.len*b.wt,a.name) (b.len*a.wt,b.name)
theorem Ie (oa:a.Ok h)(ob:b.Ok h):vU [a.pv,b.pv,.at (.int way)]=some (.at (.bl (zw way a b))):=by
 have hB:=wA;have g1:=oa.l1;have g2:=oa.l2;have w1:=oa.w1;have w2:=oa.w2;have k1:=ob.l1;have k2:=ob.l2;have v1:=ob.w1;have v2:=ob.w2;unfold zw;by_cases hw:way=0
 ·subst hw;rw [if_pos rfl];exact r9 rfl (QV (Qd (n8 (v:=true) rfl) (k9 (w6 (xN rfl l2) (xN rfl l2) rfl))))
 ·rw [if_neg hw];refine r9 rfl (w9 (qx (n8 (v:=false) (w6 rfl rfl ((wZ _ _).trans (by rw [yI hw])))) qE) (k9 (w6 (xN (y3 (w6 rfl rfl (Xt (a:=a.len) (b:=b.wt) (by omega) g2 (by omega) v2)) (y3 rfl rfl)) l2) (xN (y3 (w6 rfl rfl (Xt (a:=b.len) (b:=a.wt) (by omega) k2 (by omega) w2)) (y3 rfl rfl)) l2) rfl)))
theorem ZD {a b:M}{y:PV}{k:j4}(h1:a ε=some (.fk ks xs))(h2:b ε=some y)(h3:xW y=some k)(h4:qF k ks xs=some z):f9 a b ε=some z:=by unfold f9;rw [h1,h2];show (xW y).bind _=_;rw [h3];exact h4
theorem Km (ok:d.Ok)(h0:ε[0]?=some (.sh d.pv)):x9 wc (q0 (m8 [none] [0] (m5 (x8 w4 (q9 0) (dC (.int 1)))) (v7 0) n9 (qj (q0 (x8 w4 (q9 0) (dC (.int 0))) (q0 (q8 0) x6)))) x6) ε=some (.fk (keysOf d.cls) (d.cls.map Cl.pv)):=by
 have hlim:lim=1000000:=rfl;have ten:=ok.ten;have b0:q9 0 ε=some d.pv:=by unfold q9;rw [h0]
 refine v5 (y3 (qM Cl.pv (λc=>PV.tup [.at (.str c.name),c.pv]) d.cls (vL (w6 b0 rfl rfl)) rfl (by omega) λc _=>⟨_,rfl,xN (y3 (w6 rfl rfl rfl) (y3 rfl rfl)) l2⟩) rfl) ?_;show (vq (d.cls.map λc=>PV.tup [.at (.str c.name),c.pv])).bind _=_;have k1:(d.cls.map λc=>((.inr c.name:j4),c.pv)).map (·.1)=keysOf d.cls:=by rw [yr];rfl
 have k2:(d.cls.map λc=>((.inr c.name:j4),c.pv)).map (·.2)=d.cls.map Cl.pv:=by rw [yr];rfl
 rw [Wn,yK,k1,k2];exact if_pos ⟨Bc ok.nd,by rw [yZ];omega⟩
theorem KW {i:Nat}(h:i<ns.length):w4 (y0 ns) (.at (.int ((0:Int)+(i:Int))))=some (.at (.str ns[i].name)):=by show atI (w5 (ns.map Cl.name)) ((0:Int)+(i:Int))=_;rw [uw];refine xS ?_;unfold w5;rw [yP,yP,yY h];rfl
def xL (way:Int)(a b:Cl):Prop:=a.hue=b.hue/\zw way b a=true
instance :Decidable (xL way a b):=by unfold xL;infer_instance
theorem Dl (ok:d.Ok)(ha:a∈d.cls)(hb:b∈d.cls){i k:Nat}(h6:ε[i]?=some (.sh a.pv))(h7:ε[j]?=some (.sh b.pv))(h2:ε[k]?=some (.sh (.at (.int way)))):zy (dT (x8 pEq (x8 w4 (q9 i) (dC (.int 1))) (x8 w4 (q9 j) (dC (.int 1))))) (o6 (x9 vU (q0 (q8 j) (q0 (q8 i) (q0 (q8 k) x6))))) ε=some (decide (xL way a b)):=by
 have b6:q9 i ε=some a.pv:=by unfold q9;rw [h6]
 have b7:q9 j ε=some b.pv:=by unfold q9;rw [h7]
 have d6:q8 i ε=some a.pv:=by unfold q8;rw [h6]
 have d7:q8 j ε=some b.pv:=by unfold q8;rw [h7]
 have d2:q8 k ε=some (.at (.int way)):=by unfold q8;rw [h2]
 have eq:dT (x8 pEq (x8 w4 (q9 i) (dC (.int 1))) (x8 w4 (q9 j) (dC (.int 1)))) ε=some (decide (a.hue=b.hue)):=by refine n8 (w6 (w6 b6 rfl rfl) (w6 b7 rfl rfl) ((wZ _ _).trans ?_));rw [show decide ((a.hue:Int)=(b.hue:Int))=decide (a.hue=b.hue) by rw [decide_eq_decide];omega]
 unfold xL;by_cases e:a.hue=b.hue
 ·rw [yG e] at eq;rw [Vb eq (xI (v5 (y3 d7 (y3 d6 (y3 d2 rfl))) (Ie (ok.cl b hb) (ok.cl a ha))))];simp [e]
 ·rw [yI e] at eq;rw [Ma eq];simp [e]
def jE (way:Int)(ns:List Cl)(k j:Nat):Option PV:=if xL way (ns.getD j c0) (ns.getD k c0) then some (.at (.bl false)) else none
theorem KB {f:α->Option β}{y:β}(h:∀ x z,f x=some z->z=y){l:List α}{z:β}(e:l.findSome? f=some z):z=y:=by obtain ⟨x,_,hx⟩:=List.exists_of_findSome?_eq_some e;exact h x z hx
theorem ord_none :((List.range ns.length).findSome? λk=>(List.range k).findSome? (jE way ns k))=none↔ns.Pairwise λa b=>¬ xL way a b:=by
 rw [uu,uo];constructor
 ·intro h i j hi hj hij z;have:=uu.mp (h j (yu.mpr hj)) i (yu.mpr hij);unfold jE at this;rw [u8 hi,u8 hj,if_pos z] at this;cases this
 ·intro h k hk;have hk:=yu.mp hk;refine uu.mpr λj hj=>?_;have hj:=yu.mp hj;unfold jE;rw [u8 hk,u8 (show j<ns.length by omega),if_neg (h j k (by omega) hk hj)]
theorem Iv (ok:d.Ok)(L:Lst d ns)(way:Int):ZV [d.pv,y0 ns,.at (.int way)]=some (.at (.bl (decide (ns.Pairwise λa b=>¬ xL way a b)))):=by
 have hlim:lim=1000000:=rfl;have l10:=L.len ok;have dc:=Km ok (ε:=[.sh d.pv,.sh (y0 ns),.sh (.at (.int way)),.no,.no,.no,.no,.no]) rfl;have it:xq (q0 (x9 qv (q0 (q9 1) x6)) x6) [.sh d.pv,.sh (y0 ns),.sh (.at (.int way)),.sh (.fk (keysOf d.cls) (d.cls.map Cl.pv)),.no,.no,.no,.no]=some ((List.range ns.length).map λ(i:Nat)=>PV.at (.int ((0:Int)+i))):=vy (y3 (v5 rfl (by show some (PV.at (.int ((w5 (ns.map Cl.name)).length:Int)))=_;rw [ze,yZ])) rfl) (by omega);have o:=VL (g:=v7 4) (f:=xb (xq (q0 (q8 4) x6)) (v7 5) (v3 (u5 6 (f9 (q9 3) (x8 w4 (q9 1) (q9 5)))) (v3 (u5 7 (f9 (q9 3) (x8 w4 (q9 1) (q9 4)))) (m3 (zy (dT (x8 pEq (x8 w4 (q9 6) (dC (.int 1))) (x8 w4 (q9 7) (dC (.int 1))))) (o6 (x9 vU (q0 (q8 7) (q0 (q8 6) (q0 (q8 2) x6)))))) (y9 (dC (.bl false))) n6))))
  (λ(i:Nat)=>PV.at (.int ((0:Int)+i))) (λε=>∃ s4 s5 s6 s7:MSlot,ε=[.sh d.pv,.sh (y0 ns),.sh (.at (.int way)),.sh (.fk (keysOf d.cls) (d.cls.map Cl.pv)),s4,s5,s6,s7]) (λk=>(List.range k).findSome? (jE way ns k)) (List.range ns.length) (by
   rintro k hk ε ⟨s4,s5,s6,s7,rfl⟩;have hk:=yu.mp hk;have mk:=L.sub _ (yA hk);have inn:=VL (g:=v7 5) (f:=v3 (u5 6 (f9 (q9 3) (x8 w4 (q9 1) (q9 5)))) (v3 (u5 7 (f9 (q9 3) (x8 w4 (q9 1) (q9 4)))) (m3 (zy (dT (x8 pEq (x8 w4 (q9 6) (dC (.int 1))) (x8 w4 (q9 7) (dC (.int 1))))) (o6 (x9 vU (q0 (q8 7) (q0 (q8 6) (q0 (q8 2) x6)))))) (y9 (dC (.bl false))) n6)))
    (λ(i:Nat)=>PV.at (.int ((0:Int)+i))) (λε=>∃ s5 s6 s7:MSlot,ε=[.sh d.pv,.sh (y0 ns),.sh (.at (.int way)),.sh (.fk (keysOf d.cls) (d.cls.map Cl.pv)),.sh (.at (.int ((0:Int)+k))),s5,s6,s7]) (jE way ns k) (List.range k) (by
     rintro j hj ε ⟨s5,s6,s7,rfl⟩;have hj:=yu.mp hj;have hjn:j<ns.length:=by omega
     have mj:=L.sub _ (yA hjn);have t:=Dl ok mj mk (way:=way) (ε:=[.sh d.pv,.sh (y0 ns),.sh (.at (.int way)),.sh (.fk (keysOf d.cls) (d.cls.map Cl.pv)),.sh (.at (.int ((0:Int)+k))),.sh (.at (.int ((0:Int)+j))),.sh ns[j].pv,.sh ns[k].pv]) (i:=6) (j:=7) (k:=2) rfl rfl rfl;have g1:f9 (q9 3) (x8 w4 (q9 1) (q9 5)) [.sh d.pv,.sh (y0 ns),.sh (.at (.int way)),.sh (.fk (keysOf d.cls) (d.cls.map Cl.pv)),.sh (.at (.int ((0:Int)+k))),.sh (.at (.int ((0:Int)+j))),s6,s7]=some ns[j].pv:=ZD rfl (w6 rfl rfl (KW hjn)) rfl (Xd Cl.pv ok.nd _ mj);have g2:f9 (q9 3) (x8 w4 (q9 1) (q9 4)) [.sh d.pv,.sh (y0 ns),.sh (.at (.int way)),.sh (.fk (keysOf d.cls) (d.cls.map Cl.pv)),.sh (.at (.int ((0:Int)+k))),.sh (.at (.int ((0:Int)+j))),.sh ns[j].pv,s7]=some ns[k].pv:=ZD rfl (w6 rfl rfl (KW hk)) rfl (Xd Cl.pv ok.nd _ mk);refine ⟨_,rfl,?_⟩;unfold jE;rw [u8 hjn,u8 hk];by_cases hb:xL way ns[j] ns[k]
     ·rw [yG hb] at t;rw [if_pos hb];exact w9 (p7 g1) (w9 (p7 g2) (Qd t (k9 rfl)))
     ·rw [yI hb] at t;rw [if_neg hb];exact ⟨_,w9 (p7 g1) (w9 (p7 g2) (qx t qE)),_,_,_,rfl⟩) [.sh d.pv,.sh (y0 ns),.sh (.at (.int way)),.sh (.fk (keysOf d.cls) (d.cls.map Cl.pv)),.sh (.at (.int ((0:Int)+k))),s5,s6,s7] ⟨s5,s6,s7,rfl⟩
   refine ⟨_,rfl,?_⟩;have ff:=MF (it:=xq (q0 (q8 4) x6)) (vy (k:=k) (by rw [y3 (x:= .at (.int (k:Int))) (by show some (PV.at (.int ((0:Int)+k)))=_;rw [uw]) rfl]) (by omega)) inn;cases e:(List.range k).findSome? (jE way ns k) with
   |some y=>rw [e] at ff;exact ff
   |none =>
    rw [e] at ff;obtain ⟨ε',e1,s5',s6',s7',rfl⟩:=ff;exact ⟨_,e1,_,_,_,_,rfl⟩) _ ⟨.no,.no,.no,.no,rfl⟩
 by_cases q:ns.Pairwise λa b=>¬ xL way a b
 ·rw [ord_none.mpr q] at o;obtain ⟨ε',e,_⟩:=o;rw [yG q];exact r9 rfl (w9 (p7 dc) (w9 (xB it e) (k9 rfl)))
 ·rw [yI q];cases e:((List.range ns.length).findSome? λk=>(List.range k).findSome? (jE way ns k)) with
  |none=>exact absurd (ord_none.mp e) q
  |some y=>rw [e] at o;have:y = .at (.bl false):=KB (λk z hz=>KB (λj w hw=>by unfold jE at hw;split at hw;exact (Option.some.inj hw).symm;cases hw) hz) e;subst this;exact r9 rfl (w9 (p7 dc) (QV (xB it o)))
theorem Lst.perm (L:Lst d ns)(p:os.Perm ns):Lst d os:=⟨λc h=>L.sub c (p.mem_iff.mp h),(p.map Cl.name).nodup_iff.mpr L.nd⟩
section
variable {C:Addr}{d:Dr}
theorem Sz (ok:d.Ok)(g:Nat):(d.steepN g).length<=10:=by unfold Dr.steepN;rw [yZ];have:=(Jx (d:=d) g).length_eq;have:=Vt ok (h:=g);omega
theorem in_of (ok:d.Ok)(L:Lst d ns)(hr:∀ g,(rows g).length<=10):zZ [.lst (((List.range d.h).map rows).map k5),y0 ns]=some (ja (((List.range d.h).map rows).findSome? λR=>qw R (o8 R (ns.map Cl.name)))):=by have l10:=L.len ok;refine IX (by rw [yZ];omega) _ λR hR=>?_;obtain ⟨g,_,rfl⟩:=yz.mp hR;have:=hr g;omega
theorem Nr {key:Nat->Cl->Int×Str}(ok:d.Ok)(L:Lst d ns)(hrow:∀ g,rows g=(xu c0 ((d.inH g).map (key g)) (d.inH g)).map Cl.name)(hk:∀ g c,(key g c).2=c.name):(((List.range d.h).map rows).findSome? λR=>qw R (o8 R (ns.map Cl.name)))=none↔ns.Pairwise λa b=>a.hue=b.hue->u7 (key a.hue b) (key a.hue a)=false:=by
 rw [MD];constructor
 ·intro h;have q:∀ g,g<d.h->ns.Pairwise λa b=>a.hue=g->b.hue=g->u7 (key g b) (key g a)=false:=λg hg=>by
   have:=h (rows g) (yz.mpr ⟨g,yu.mpr hg,rfl⟩);rw [hrow] at this;exact (Pz ok L (hk g)).mp this
  refine (pw_all.mp q).imp_of_mem λ{a b} ha hb z e=>?_;exact z a.hue (ok.cl a (L.sub a ha)).hu rfl e.symm
 ·intro h R hR;obtain ⟨g,hg,rfl⟩:=yz.mp hR;rw [hrow];refine (Pz ok L (hk g)).mpr (h.imp λ{a b} z e1 e2=>?_);have:=z (e1.trans e2.symm);rw [e1] at this;exact this
theorem YL (ok:d.Ok)(ha:a∈d.inH a.hue)(hb:b∈d.inH a.hue):u7 (qX (g9 (d.inH a.hue)) b) (qX (g9 (d.inH a.hue)) a)=zw 1 b a:=by
 have w:∀ c∈d.inH a.hue,1<=c.wt:=λc hc=>(ok.cl c (jX hc)).w1;have one:∀{x y:Cl},x∈d.inH a.hue->y∈d.inH a.hue->u7 (qX (g9 (d.inH a.hue)) x) (qX (g9 (d.inH a.hue)) y)=true->zw 1 x y=true:=by intro x y hx hy h;have q:=Dc (Jq w) (w x hx) (w y hy) (Wm hx) (Wm hy) h;exact ltK_iff.mpr q
 cases e:u7 (qX (g9 (d.inH a.hue)) b) (qX (g9 (d.inH a.hue)) a) with
 |true=>rw [one hb ha e]
 |false =>
  cases e2:zw 1 b a with
  |false=>rfl
  |true =>
   exfalso;have h2:u7 (b.len*a.wt,b.name) (a.len*b.wt,a.name)=true:=e2;cases e3:u7 (qX (g9 (d.inH a.hue)) a) (qX (g9 (d.inH a.hue)) b) with
   |true =>
    have h3:u7 (a.len*b.wt,a.name) (b.len*a.wt,b.name)=true:=one ha hb e3;rcases ltK_iff.mp h2 with z|⟨z1,z2⟩<;>rcases ltK_iff.mp h3 with y|⟨y1,y2⟩
    ·simp only at z y;omega
    ·simp only at z y1;omega
    ·simp only at z1 y;omega
    ·exact List.lt_asymm z2 y2
   |false =>
    have nm:b.name=a.name:=congrArg Prod.snd (VP e e3);have eq:a=b:=by have nd:=ok.nd;obtain ⟨i,hi,ei⟩:=uV.mp (jX ha);obtain ⟨j,hj,ej⟩:=uV.mp (jX hb);have:=(tU (xs:=d.cls.map Cl.name) (h₀:=by rw [yZ];exact hi) (h₁:=by rw [yZ];exact hj) nd).mp (by rw [ya,ya,ei,ej,nm]);subst this;rw [<- ei,<- ej]
    subst eq;have:=(Qj λ_=>(a.len*a.wt,a.name)).irr 0;rw [h2] at this;cases this
def zi (d:Dr)(ns:List Cl):Option (Nat×Nat):=((List.range d.h).map d.steepN).findSome? λR=>qw R (o8 R (ns.map Cl.name))
theorem HX (ok:d.Ok)(L:Lst d ns):zi d ns=none↔ns.Pairwise λa b=>¬ xL 1 a b:=by
 have iff:=Nr (rows:=d.steepN) (key:=λg=>qX (g9 (d.inH g))) ok L (λ_=>rfl) (λ_ _=>rfl);have pe:(ns.Pairwise λa b=>a.hue=b.hue->u7 (qX (g9 (d.inH a.hue)) b) (qX (g9 (d.inH a.hue)) a)=false)↔ns.Pairwise λa b=>¬ xL 1 a b:=by
  have hq:∀ a b:Cl,a∈ns->b∈ns->((a.hue=b.hue->u7 (qX (g9 (d.inH a.hue)) b) (qX (g9 (d.inH a.hue)) a)=false)↔¬ xL 1 a b):=λa b ha hb=>by
   unfold xL;constructor
   ·rintro h ⟨e,z⟩;rw [<- YL ok (yj.mpr ⟨L.sub a ha,yG rfl⟩) (yj.mpr ⟨L.sub b hb,yG e.symm⟩),h e] at z;cases z
   ·intro h e;rw [YL ok (yj.mpr ⟨L.sub a ha,yG rfl⟩) (yj.mpr ⟨L.sub b hb,yG e.symm⟩)];cases z:zw 1 b a with
    |false=>rfl
    |true=>exact absurd ⟨e,z⟩ h
  exact ⟨λh=>h.imp_of_mem λ{a b} ha hb z=>(hq a b ha hb).mp z,λh=>h.imp_of_mem λ{a b} ha hb z=>(hq a b ha hb).mpr z⟩
 exact iff.trans pe
theorem YW (ok:d.Ok)(L:Lst d ns):zZ [.lst (((List.range d.h).map d.steepN).map k5),y0 ns]=some (ja (zi d ns)):=in_of ok L (Sz ok)
end
theorem QQ (xs:List PV)(a:Nat):zx xs none (some (a:Int))=xs.take a:=by
 unfold zx;rw [HT.sIx_nat,HT.sIx_none,List.drop_zero,Nat.sub_zero];by_cases h:a<=xs.length
 ·rw [Nat.min_eq_left h]
 ·rw [Nat.min_eq_right (by omega),tS,ub (by omega)]
theorem Va (xs:List PV)(a:Nat):zx xs (some (a:Int)) none=xs.drop a:=by
 unfold zx;rw [HT.sIx_nat,HT.sIx_none];by_cases h:a<=xs.length
 ·rw [Nat.min_eq_left h,ub (by rw [uP];omega)]
 ·rw [Nat.min_eq_right (by omega),tR,List.take_nil,List.drop_of_length_le (by omega)]
theorem Dh {a:Nat}{x:PV}(h:xs[a]?=some x):atI xs (a:Int)=some x:=xS h
def mvL (xs:List PV)(a t:Nat):List PV:=match xs[a]? with
 |some x=>(xs.eraseIdx a).take t++x::(xs.eraseIdx a).drop t
 |none=>xs
theorem Jg {a:Nat}{x:PV}(h:xs[a]?=some x):mvL xs a t=(xs.eraseIdx a).take t++x::(xs.eraseIdx a).drop t:=by unfold mvL;rw [h]
theorem No {a:Nat}(h:a<xs.length):(mvL xs a t).length=xs.length:=by rw [Jg (yY h),yN,yF,uW,uP,List.length_eraseIdx_of_lt h];omega
theorem Mp {a:Nat}:xs.eraseIdx a=xs.take a++xs.drop (a+1):=List.eraseIdx_eq_take_drop_succ xs a
def qg (m:Nat×Nat):PV:= .tup [.at (.int m.1),.at (.int m.2)]
theorem VW (h1:m.1<xs.length)(hl:xs.length<=12):xK [.lst xs,qg m]=some (.lst (mvL xs m.1 m.2)):=by
 have hlim:lim=1000000:=rfl;have hx:=yY h1;obtain ⟨a,t⟩:=m;simp only at h1 hx ⊢;rw [Jg hx,Mp];have ol:(xs.take a++xs.drop (a+1)).length<=12:=by rw [yN,uW,uP];omega
 generalize ho:xs.take a++xs.drop (a+1)=o at ol;refine r9 rfl (w9 (p7 (x:= .at (.int a)) rfl) (w9 (p7 (x:= .at (.int t)) rfl) (w9 (p7 (x:= .lst o) (w6 (vM rfl rfl rfl) (vM (hi:=none) rfl (lo:=some (a+1)) rfl rfl) ?_)) (k9 (w6 (w6 (vM (xs:=o) rfl rfl rfl) (zW (y3 (w6 rfl rfl (Dh hx)) rfl) (by simp;omega)) (vZ ?_)) (vM (xs:=o) rfl rfl rfl) ?_)))))
 ·rw [QQ,show ((a:Int)+1)=((a+1:Nat):Int) by omega,Va,vZ (by rw [uW,uP];omega),ho]
 ·rw [QQ,uW];simp;omega
 ·rw [QQ,Va,vZ (by rw [yN,uW,uP];simp;omega)];simp
theorem Ln {n:Nat}(h1:m.1<n)(h2:m.2<n):jy [qg m,.at (.int n)]=some (.at (.bl true)):=by
 have e:∀ k:Nat,k<n->∀ s:MSlot,zA pLe pLt (dC (.int 0)) (q9 0) (q9 1) [.sh (.at (.int k)),.sh (.at (.int n))]=some (.at (.bl true)):=λk hk _=>by
  show Option.bind (some (decide ((0:Int)<=(k:Int)))) (λc=>if c=true then some (PV.at (.bl (decide ((k:Int)<(n:Int))))) else some (.at (.bl false)))=_;rw [yG (show (0:Int)<=(k:Int) by omega),yG (show (k:Int)<(n:Int) by omega)];rfl
 refine r9 rfl (k9 (v5 (y3 (Vj (xs:=[.at (.int m.1),.at (.int m.2)]) (ys:=[.at (.bl true),.at (.bl true)]) rfl rfl l2 ?_) rfl) rfl));show Option.bind (zA pLe pLt (dC (.int 0)) (q9 0) (q9 1) [.sh (.at (.int m.1)),.sh (.at (.int n))]) (λy=>Option.bind (Option.bind (zA pLe pLt (dC (.int 0)) (q9 0) (q9 1) [.sh (.at (.int m.2)),.sh (.at (.int n))]) λy=>Option.bind (some []) λys=>some (y::ys)) λys=>some (y::ys))=_;rw [e _ h1 .no,e _ h2 .no];rfl
def JC (xs:List PV)(ms:List (Nat×Nat)):List PV:=ms.foldl (λl m=>mvL l m.1 m.2) xs
def xZ (ms:List (Nat×Nat)):List PV:=ms.map qg
theorem CP {xs0 mv:PV}:∀{ms:List (Nat×Nat)}{xs:List PV}{k:Nat}{u v:MSlot},(∀ m∈ms,m.1<xs.length/\m.2<xs.length)->xs.length<=12 -> ∃ u' v',r6 (qP 2 (c6 (v7 3) (c6 (v7 4) qO))) (v3 (m3 (qi (o6 (x9 jy (q0 (q8 4) (q0 (x9 qv (q0 (q9 2) x6)) x6))))) xp n6) (u5 2 (x9 xK (q0 (q8 2) (q0 (q8 4) x6))))) (xr k (xZ ms)) [.sh xs0,.sh mv,.sh (.lst xs),u,v]=some (.nx [.sh xs0,.sh mv,.sh (.lst (JC xs ms)),u',v'])
 |[],xs,k,u,v,_,_=>⟨u,v,rfl⟩
 |m::ms,xs,k,u,v,h,hl=>by
  have hm:=h m yU;have el:=No (t:=m.2) hm.1;obtain ⟨u',v',e⟩:=CP (xs0:=xs0) (mv:=mv) (ms:=ms) (xs:=mvL xs m.1 m.2) (k:=k+1) (u:= .sh (.at (.int k))) (v:= .sh (qg m)) (λq hq=>by rw [el];exact h q (yW _ hq)) (by rw [el];exact hl);refine ⟨u',v',?_⟩;have b1:(v3 (m3 (qi (o6 (x9 jy (q0 (q8 4) (q0 (x9 qv (q0 (q9 2) x6)) x6))))) xp n6) (u5 2 (x9 xK (q0 (q8 2) (q0 (q8 4) x6))))) [.sh xs0,.sh mv,.sh (.lst xs),.sh (.at (.int k)),.sh (qg m)]=some (.nx [.sh xs0,.sh mv,.sh (.lst (mvL xs m.1 m.2)),.sh (.at (.int k)),.sh (qg m)]):=by
   refine w9 (ε1:=[.sh xs0,.sh mv,.sh (.lst xs),.sh (.at (.int k)),.sh (qg m)]) (qx ?_ rfl) ?_
   ·have e1:x9 jy (q0 (q8 4) (q0 (x9 qv (q0 (q9 2) x6)) x6)) [.sh xs0,.sh mv,.sh (.lst xs),.sh (.at (.int k)),.sh (qg m)]=some (.at (.bl true)):=v5 (y3 rfl (y3 rfl rfl)) (Ln hm.1 hm.2);show Option.bind (Option.bind (x9 jy (q0 (q8 4) (q0 (x9 qv (q0 (q9 2) x6)) x6)) [.sh xs0,.sh mv,.sh (.lst xs),.sh (.at (.int k)),.sh (qg m)]) pTru) _=_;rw [e1];rfl
   ·exact p7 (v5 (y3 rfl (y3 rfl rfl)) (VW hm.1 hl))
  show Option.bind ((v3 (m3 (qi (o6 (x9 jy (q0 (q8 4) (q0 (x9 qv (q0 (q9 2) x6)) x6))))) xp n6) (u5 2 (x9 xK (q0 (q8 2) (q0 (q8 4) x6))))) [.sh xs0,.sh mv,.sh (.lst xs),.sh (.at (.int k)),.sh (qg m)]) _=_;rw [b1];exact e
theorem Fa (h:∀ m∈ms,m.1<xs.length/\m.2<xs.length)(hl:xs.length<=12):Jd [.lst xs,.lst (xZ ms)]=some (.lst (JC xs ms)):=by obtain ⟨u,v,e⟩:=CP (xs0:= .lst xs) (mv:= .lst (xZ ms)) (k:=0) (u:= .no) (v:= .no) h hl;exact r9 rfl (w9 (p7 (x:= .lst xs) rfl) (w9 (xB (xs:=xr 0 (xZ ms)) rfl e) rfl))
structure Turn (ns os:List Cl)(p:Nat×Nat)(A:List Cl)(x:Cl)(M:List Cl)(y:Cl)(B:List Cl):Prop where
 old:ns=A++x::(M++y::B)
 new:os=A++(M++y::x::B)
 at1:p.1=A.length
 at2:p.2=A.length+1+M.length
 hue:x.hue=y.hue
 amid:∀ m∈M,m.hue≠x.hue
 bad:zw 1 y x=true
theorem Ur {R:List Str}{p:Nat×Nat}:∀{l:List (Str×Nat)},qw R l=some p->∃ l1 x y l2,l=l1++x::y::l2/\R.idxOf y.1<R.idxOf x.1/\p=(x.2,y.2)
 |[],h=>by cases h
 |[_],h=>by cases h
 |x::y::l,h=>by
  unfold qw at h;split at h
  ·rename_i hn;exact ⟨[],x,y,l,rfl,hn,(Option.some.inj h).symm⟩
  ·obtain ⟨l1,u,v,l2,e,h1,h2⟩:=Ur h;exact ⟨x::l1,u,v,l2,by rw [e];rfl,h1,h2⟩
theorem Da {Z1 Z2:List (Str×Nat)}{x:Str×Nat}(h:N.zipIdx=Z1++x::Z2):x.2=Z1.length:=by
 have:N.zipIdx[Z1.length]?=some x:=by rw [h,yn (yV _),Nat.sub_self];rfl
 rw [List.getElem?_zipIdx] at this;obtain ⟨s,_,e⟩:=yM.mp this;rw [<- e];simp
theorem Fd (N:List Str):N.zipIdx.map (·.1)=N:=by
 have:∀(N:List Str)(n:Nat),(N.zipIdx n).map (·.1)=N:=by
  intro N
  induction N with
  |nil=>intro n;rfl
  |cons s N ih=>intro n;rw [List.zipIdx_cons,yO,ih]
 exact this N 0
section
variable {d:Dr}
theorem DU (ok:d.Ok)(ha:a∈d.cls)(hb:b∈d.cls)(nm:a.name=b.name):a=b:=by have nd:=ok.nd;obtain ⟨i,hi,ei⟩:=uV.mp ha;obtain ⟨j,hj,ej⟩:=uV.mp hb;have:=(tU (xs:=d.cls.map Cl.name) (h₀:=by rw [yZ];exact hi) (h₁:=by rw [yZ];exact hj) nd).mp (by rw [ya,ya,ei,ej,nm]);subst this;rw [<- ei,<- ej]
theorem Vu (ok:d.Ok)(hc:c∈d.cls){g:Nat}:c.name∈d.steepN g↔c.hue=g:=by
 unfold Dr.steepN;constructor
 ·intro h;obtain ⟨e,he,en⟩:=yz.mp h;have he:=(Jx (d:=d) g).mem_iff.mp he;rw [<- DU ok (jX he) hc en];exact uT (yj.mp he).2
 ·intro h;exact yz.mpr ⟨c,(Jx (d:=d) g).mem_iff.mpr (yj.mpr ⟨hc,yG h⟩),rfl⟩
theorem SK (ok:d.Ok)(L:Lst d ns)(h:zi d ns=some p):∃ os A x M y B,Turn ns os p A x M y B:=by
 unfold zi at h;obtain ⟨R,hR,e⟩:=List.exists_of_findSome?_eq_some h;obtain ⟨g,hg,rfl⟩:=yz.mp hR;obtain ⟨l1,x,y,l2,e1,e2,rfl⟩:=Ur e;unfold o8 at e1;obtain ⟨Z1,Z2,z1,z2,z3⟩:=List.filter_eq_append_iff.mp e1;obtain ⟨Z3,Z4,z4,z5,z6,z7⟩:=List.filter_eq_cons_iff.mp z3;obtain ⟨Z5,Z6,z8,z9,z10,z11⟩:=List.filter_eq_cons_iff.mp z7;have ex:(ns.map Cl.name).zipIdx=(Z1++Z3)++x::(Z5++y::Z6):=by rw [z1,z4,z8,yk]
 have ey:(ns.map Cl.name).zipIdx=(Z1++Z3++x::Z5)++y::Z6:=by rw [ex];simp
 have px:=Da ex;have py:=Da ey;have en:=Fd (ns.map Cl.name);have en:(Z1++Z3).map (·.1)++x.1::(Z5.map (·.1)++y.1::Z6.map (·.1))=ns.map Cl.name:=by rw [<- en,ex];simp
 obtain ⟨A,T,t1,t2,t3⟩:=List.map_eq_append_iff.mp en.symm;obtain ⟨cx,T2,t4,t5,t6⟩:=List.map_eq_cons_iff.mp t3;obtain ⟨M,T3,t7,t8,t9⟩:=List.map_eq_append_iff.mp t6;obtain ⟨cy,B,t10,t11,t12⟩:=List.map_eq_cons_iff.mp t9;subst t10 t7 t4 t1;have la:A.length=(Z1++Z3).length:=by have:=congrArg List.length t2;rwa [yZ,yZ] at this
 have lm:M.length=Z5.length:=by have:=congrArg List.length t8;rwa [yZ,yZ] at this
 have mx:cx∈d.cls:=L.sub cx (by simp);have my:cy∈d.cls:=L.sub cy (by simp);have hx:cx.hue=g:=(Vu ok mx).mp (by rw [t5];exact uT z6);have hy:cy.hue=g:=(Vu ok my).mp (by rw [t11];exact uT z10);refine ⟨A++(M++cy::cx::B),A,cx,M,cy,B,rfl,rfl,?_,?_,hx.trans hy.symm,λm hm e=>?_,?_⟩
 ·rw [la];exact px
 ·show y.2=_;rw [py,la,lm];simp;omega
 ·have mm:m∈d.cls:=L.sub m (by simp [hm]);have:m.name∈d.steepN g:=(Vu ok mm).mpr (e.trans hx);have hm2:m.name∈Z5.map (·.1):=by rw [<- t8];exact yz.mpr ⟨m,hm,rfl⟩
  obtain ⟨z,hz,ez⟩:=yz.mp hm2;exact z9 z hz (yG (by rw [ez];exact this))
 ·have xin:cx∈d.inH g:=yj.mpr ⟨mx,yG hx⟩;have yin:cy∈d.inH g:=yj.mpr ⟨my,yG hy⟩;have:=(Wv (key:=qX (g9 (d.inH g))) (λ_=>rfl) (ZK ok (h:=g)) xin yin).mp;rw [<- t5,<- t11] at e2;have z:=this e2;subst hx;rw [YL ok xin yin] at z;exact z
def k8 (c e:Cl):Bool:=decide (c.hue=e.hue)&&zw 1 e c
def m6:List Cl->Nat
 |[]=>0
 |c::cs=>cs.countP (k8 c)+m6 cs
theorem Br {a b:Int×Str}(h:u7 a b=true):u7 b a=false:=by
 cases e:u7 b a with
 |false=>rfl
 |true =>
  rcases ltK_iff.mp h with z|⟨z1,z2⟩<;>rcases ltK_iff.mp e with y|⟨y1,y2⟩
  ·omega
  ·omega
  ·omega
  ·exact absurd y2 (List.lt_asymm z2)
theorem KO {x y:Cl}{B:List Cl}(hy:k8 y x=false):∀{M:List Cl},(∀ m∈M,m.hue≠x.hue)->m6 (M++y::x::B)=m6 (M++y::B)+B.countP (k8 x)
 |[],_=>by
  show (x::B).countP (k8 y)+((B.countP (k8 x))+m6 B)=B.countP (k8 y)+m6 B+B.countP (k8 x);rw [ue (by rw [hy];exact yS)];omega
 |m::M,h=>by
  have ih:=KO (B:=B) hy (M:=M) λz hz=>h z (yW _ hz);show (M++y::x::B).countP (k8 m)+m6 (M++y::x::B)=(M++y::B).countP (k8 m)+m6 (M++y::B)+_;have mx:k8 m x=false:=by unfold k8;rw [yI (h m yU)];rfl
  have e1:(x::B).countP (k8 m)=B.countP (k8 m):=ue (by rw [mx];exact yS);have e2:(y::x::B).countP (k8 m)=(y::B).countP (k8 m):=by rw [List.countP_cons (a:=y),e1,List.countP_cons (a:=y)]
  rw [ih,uH,uH,e2];omega
theorem Turn.perm {M:List Cl}(T:Turn ns os p A x M y B):os.Perm ns:=by
 rw [T.old,T.new];refine tV A ?_;have e1:(M++y::x::B).Perm (x::(M++y::B)):=by
  have:M++y::x::B=(M++[y])++x::B:=by simp
  rw [this];refine uh.trans ?_;simp
 exact e1
theorem Turn.less {M:List Cl}(T:Turn ns os p A x M y B):m6 os<m6 ns:=by
 have pm:(M++y::x::B).Perm (x::(M++y::B)):=by
  have:M++y::x::B=(M++[y])++x::B:=by simp
  rw [this];refine uh.trans ?_;simp
 have base:m6 (M++y::x::B)<m6 (x::(M++y::B)):=by
  have hyx:k8 y x=false:=by unfold k8;rw [show zw 1 x y=false from Br T.bad,Bool.and_false]
  have hxy:k8 x y=true:=by unfold k8;rw [T.bad,yG T.hue];rfl
  rw [KO hyx T.amid];show _<(M++y::B).countP (k8 x)+m6 (M++y::B);rw [uH,List.countP_cons_of_pos hxy];omega
 rw [T.old,T.new];have:∀ A:List Cl,m6 (A++(M++y::x::B))<m6 (A++x::(M++y::B)):=by
  intro A
  induction A with
  |nil=>exact base
  |cons c A ih=>show (A++(M++y::x::B)).countP (k8 c)+m6 (A++(M++y::x::B))<(A++x::(M++y::B)).countP (k8 c)+m6 (A++x::(M++y::B));have:=(tV A pm).countP_eq (k8 c);omega
 exact this A
theorem Lj:∀{ns:List Cl},ns.length<=10->m6 ns<=90:=by
 intro ns h;have:∀ ns:List Cl,ns.length<=10->m6 ns<=9*ns.length:=by
  intro ns
  induction ns with
  |nil=>intro _;exact uY _
  |cons c cs ih=>intro h;have:=ih (by simp at h;omega);have q:cs.countP (k8 c)<=cs.length:=List.countP_le_length;show cs.countP (k8 c)+m6 cs<=9*(cs.length+1);simp at h;omega
 have:=this ns h;omega
theorem Turn.lt {M:List Cl}(T:Turn ns os p A x M y B):p.1<ns.length/\p.2<ns.length:=by rw [T.at1,T.at2,T.old];simp;omega
end
section
variable {d:Dr}
theorem Nd (G:m7 h rss){f:Int}{g:Nat}(f0:-1<=f)(f1:f<(h:Int))(hg:g<h):0<=rin rss f (g:Int):=by
 have main:∀ n:Nat,n<=h->0<=rin rss (n:Int) (g:Int):=by
  intro n hn;have hl:n<rss.length:=by have:=G.len;omega
  have hgl:g<rss[n].length:=by rw [(G.row _ (yA hl)).1];exact hg
  rw [zK G hn hg,u8 hl,u8 hgl];exact ((G.row _ (yA hl)).2 _ (yA hgl)).1
 by_cases hf:f=-1
 ·subst hf;rw [XL G.len];exact main h (yV _)
 ·obtain ⟨n,rfl⟩:=yo (show 0<=f by omega);exact main n (by omega)
theorem XM (ok:d.Ok){f:Int}{g:Nat}(f0:-1<=f)(f1:f<(d.h:Int))(hg:g<d.h):0<=d.rz f g:=by
 unfold Dr.rz;split
 ·exact uS _
 ·exact Nd (zF ok.rin) f0 f1 hg
theorem Tf (G:m7 h rss){f:Int}{k g:Nat}(f0:-1<=f)(f1:f<(h:Int))(hk:k<h)(hg:g<h):rin (qf rss h) f (g:Int)<=rin (qf rss h) f (k:Int)+rin (qf rss h) (k:Int) (g:Int):=by
 have main:∀ n:Nat,n<=h->rin (qf rss h) (n:Int) (g:Int)<=rin (qf rss h) (n:Int) (k:Int)+rin (qf rss h) (k:Int) (g:Int):=λn hn=>by
  rw [VO G hn hg,VO G hn hk,VO G (by omega) hg];exact (FW.all G h (yV _)).tri k n g hk hn hg
 by_cases hf:f=-1
 ·rw [hf,XL (zF G).len,XL (zF G).len];exact main h (yV _)
 ·obtain ⟨n,rfl⟩:=yo (show 0<=f by omega);exact main n (by omega)
theorem PH (ok:d.Ok){f:Int}{k g:Nat}(f0:-1<=f)(f1:f<(d.h:Int))(hk:k<d.h)(hg:g<d.h):d.rz f g<=d.rz f k+d.rz (k:Int) g:=by
 have z1:=XM ok f0 f1 hk;have z2:=XM ok (f:=(k:Int)) (by omega) (by omega) hg;by_cases h1:f=(g:Int)
 ·unfold Dr.rz at z1 z2 ⊢;rw [if_pos h1];omega
 by_cases h2:f=(k:Int)
 ·rw [<- h2];have e:d.rz f k=0:=by unfold Dr.rz;rw [if_pos h2]
  omega
 by_cases h3:(k:Int)=(g:Int)
 ·have e:k=g:=by omega
  subst e;omega
 have t:=Tf ok.rin f0 f1 hk hg;unfold Dr.rz;rw [if_neg h1,if_neg h2,if_neg h3];exact t
def Dr.sch (d:Dr):Int->Int->List Cl->List (Cl×Int)
 |_,_,[]=>[]
 |l,t,c::cs=>(c,t+d.rz l c.hue+c.len)::d.sch c.hue (t+d.rz l c.hue+c.len) cs
def Dr.endT (d:Dr):Int->Int->List Cl->Int
 |_,t,[]=>t
 |l,t,c::cs=>d.endT c.hue (t+d.rz l c.hue+c.len) cs
def zE:Int->List Cl->Int
 |l,[]=>l
 |_,c::cs=>zE c.hue cs
theorem jK:∀{P Q:List Cl}{l t:Int},d.sch l t (P++Q)=d.sch l t P++d.sch (zE l P) (d.endT l t P) Q
 |[],_,_,_=>rfl
 |c::P,Q,l,t=>by
  show _::d.sch _ _ (P++Q)=_::(d.sch _ _ P++_);rw [jK (P:=P)];rfl
theorem Ve:∀{P Q:List Cl}{l t:Int},d.endT l t (P++Q)=d.endT (zE l P) (d.endT l t P) Q
 |[],_,_,_=>rfl
 |c::P,Q,l,t=>by
  show d.endT _ _ (P++Q)=_;rw [Ve (P:=P)];rfl
theorem VF:∀{P:List Cl}{c:Cl}{l:Int},zE l (P++[c])=c.hue
 |[],_,_=>rfl
 |_::P,_,_=>VF (P:=P)
theorem VE (ok:d.Ok):∀{P:List Cl}{l:Int},(∀ c∈P,c∈d.cls)->-1<=l->l<(d.h:Int)->-1<=zE l P/\zE l P<(d.h:Int)
 |[],_,_,h1,h2=>⟨h1,h2⟩
 |c::P,l,h,_,_=>by
  have hk:=(ok.cl c (h c yU)).hu;exact VE ok (P:=P) (λx hx=>h x (yW _ hx)) (by omega) (by omega)
structure Dom (d:Dr)(k l' t' l t:Int):Prop where
 all:∀ g:Nat,g<d.h->t'+k+d.rz l' g<=t+d.rz l g
 one:t'+k<=t
def k6 (rs:List (Cl×Int)):Int:=(rs.map λr=>r.1.wt*r.2).sum
def wts (P:List Cl):Int:=(P.map Cl.wt).sum
theorem jU (a b:List (Cl×Int)):k6 (a++b)=k6 a+k6 b:=by unfold k6;rw [yv,List.sum_append]
theorem Zs (r:Cl×Int)(b:List (Cl×Int)):k6 (r::b)=r.1.wt*r.2+k6 b:=rfl
theorem Fc (a b:List Cl):wts (a++b)=wts a+wts b:=by unfold wts;rw [yv,List.sum_append]
theorem QT (ok:d.Ok):∀{P:List Cl},(∀ c∈P,c∈d.cls)->∀{k l' t' l t:Int},Dom d k l' t' l t -> k6 (d.sch l' t' P)+k*wts P<=k6 (d.sch l t P)/\d.endT l' t' P+k<=d.endT l t P
 |[],_,k,_,_,_,_,D=>⟨by show (0:Int)+k*0<=0;omega,D.one⟩
 |c::P,hc,k,l',t',l,t,D=>by
  have hk:=ok.cl c (hc c yU);have a:=D.all c.hue hk.hu;obtain ⟨q1,q2⟩:=QT ok (P:=P) (λx hx=>hc x (yW _ hx)) (k:=k) (l':=(c.hue:Int)) (t':=t'+d.rz l' c.hue+c.len) (l:=(c.hue:Int)) (t:=t+d.rz l c.hue+c.len) ⟨λg _=>by omega,by omega⟩;refine ⟨?_,q2⟩;have w:c.wt*(t'+d.rz l' c.hue+c.len+k)<=c.wt*(t+d.rz l c.hue+c.len):=uz (by omega) (by have:=hk.w1;omega);rw [Int.mul_add] at w;show c.wt*(t'+d.rz l' c.hue+c.len)+k6 (d.sch c.hue (t'+d.rz l' c.hue+c.len) P)+k*(c.wt+wts P)<=c.wt*(t+d.rz l c.hue+c.len)+k6 (d.sch c.hue (t+d.rz l c.hue+c.len) P);rw [show k*(c.wt+wts P)=c.wt*k+k*wts P by rw [Int.mul_add,Int.mul_comm k c.wt]];omega
theorem Ko (ok:d.Ok):∀{P:List Cl},(∀ c∈P,c∈d.cls)->∀{l t:Int},-1<=l->l<(d.h:Int)->t<=d.endT l t P
 |[],_,_,_,_,_=>uS _
 |c::P,hc,l,t,l1,l2=>by
  have hk:=ok.cl c (hc c yU);have z:=XM ok l1 l2 hk.hu;have n1:=hk.l1;have:=Ko ok (P:=P) (λx hx=>hc x (yW _ hx)) (l:=(c.hue:Int)) (t:=t+d.rz l c.hue+c.len) (by omega) (by have:=hk.hu;omega);show t<=d.endT c.hue (t+d.rz l c.hue+c.len) P;omega
theorem HM {px py wx wy WM G D1 D2:Int}(hp:0<px)(hq:0<py)(hG:0<=G)(st:py*wx<=px*wy)(h1:D1<=wx*G-px*(WM+wy))(h2:D2<=wy*(py-px-G)+wx*py+py*WM)(hD:0<D1):D2<=0:=by
 have e1:0<py*(wx*G-px*(WM+wy)):=Int.mul_pos hq (by omega);have e2:(px+G)*(py*wx)<=(px+G)*(px*wy):=uz st (by omega);have e3:px*(wy*(py-px-G)+wx*py+py*WM)+py*(wx*G-px*(WM+wy))=(px+G)*(py*wx)-(px+G)*(px*wy):=by grind
 have e4:px*(wy*(py-px-G)+wx*py+py*WM)<0:=by omega
 rcases Int.lt_or_le 0 D2 with z|z
 ·have:=Int.mul_pos hp (show 0<wy*(py-px-G)+wx*py+py*WM by omega);omega
 ·exact z
theorem Turn.cost (ok:d.Ok){M:List Cl}(T:Turn ns os p A x M y B)(hs:∀ c∈ns,c∈d.cls){t:Int}(l1:-1<=l)(l2:l<(d.h:Int))(h:¬ k6 (d.sch l t os)<=k6 (d.sch l t ns)):k6 (d.sch l t (A++y::x::(M++B)))<=k6 (d.sch l t ns):=by
 have sA:∀ c∈A,c∈d.cls:=λc h=>hs c (by rw [T.old];simp [h]);have sx:x∈d.cls:=hs x (by rw [T.old];simp);have sy:y∈d.cls:=hs y (by rw [T.old];simp);have sM:∀ c∈M,c∈d.cls:=λc h=>hs c (by rw [T.old];simp [h]);have sMy:∀ c∈M++[y],c∈d.cls:=λc h=>hs c (by rw [T.old];simp at h ⊢;rcases h with h|h<;>simp [h]);have sB:∀ c∈B,c∈d.cls:=λc h=>hs c (by rw [T.old];simp [h]);have eo:os=A++((M++[y])++x::B):=by rw [T.new];simp
 have en:ns=A++x::((M++[y])++B):=by rw [T.old];simp
 obtain ⟨g1,g2⟩:=VE ok sA l1 l2;rw [eo,en,jK (P:=A) (Q:=(M++[y])++x::B),jK (P:=A) (Q:=x::((M++[y])++B)),jU,jU] at h;rw [en,jK (P:=A) (Q:=y::x::(M++B)),jK (P:=A) (Q:=x::((M++[y])++B)),jU,jU];generalize zE l A=l0 at g1 g2 h;generalize d.endT l t A=t0 at h;have kx:=ok.cl x sx;have ky:=ok.cl y sy;have xl:=kx.l1;have yl:=ky.l1;have hx:=kx.hu;have hy:=ky.hu;have rx:=XM ok g1 g2 hx;have hz:d.rz (y.hue:Int) x.hue=0:=by unfold Dr.rz;rw [if_pos (by rw [T.hue])]
 have ey:d.rz l0 y.hue=d.rz l0 x.hue:=by rw [T.hue]
 have wx:=kx.w1;have wy:=ky.w1;have lM:=VE ok (P:=M) (l:=(x.hue:Int)) sM (by omega) (by omega);have E1:k6 (d.sch l0 t0 ((M++[y])++x::B))=k6 (d.sch l0 t0 (M++[y]))+(x.wt*(d.endT l0 t0 (M++[y])+x.len)+k6 (d.sch x.hue (d.endT l0 t0 (M++[y])+x.len) B)):=by rw [jK (P:=M++[y]) (Q:=x::B),VF,jU];show _+k6 ((x,d.endT l0 t0 (M++[y])+d.rz (y.hue:Int) x.hue+x.len)::d.sch x.hue (d.endT l0 t0 (M++[y])+d.rz (y.hue:Int) x.hue+x.len) B)=_;rw [hz,Int.add_zero,Zs]
 have E3:k6 (d.sch l0 t0 (x::((M++[y])++B)))=x.wt*(t0+d.rz l0 x.hue+x.len)+(k6 (d.sch x.hue (t0+d.rz l0 x.hue+x.len) (M++[y]))+k6 (d.sch y.hue (d.endT x.hue (t0+d.rz l0 x.hue+x.len) (M++[y])) B)):=by show k6 ((x,_)::d.sch x.hue (t0+d.rz l0 x.hue+x.len) ((M++[y])++B))=_;rw [Zs,jK (P:=M++[y]) (Q:=B),VF,jU]
 have E4:k6 (d.sch x.hue (t0+d.rz l0 x.hue+x.len) (M++[y]))=k6 (d.sch x.hue (t0+d.rz l0 x.hue+x.len) M)+y.wt*d.endT x.hue (t0+d.rz l0 x.hue+x.len) (M++[y]):=by rw [jK (P:=M) (Q:=[y]),jU,Ve (P:=M) (Q:=[y])];show _+(y.wt*_+0)=_+y.wt*_;rw [Int.add_zero];rfl
 have E6:d.endT x.hue (t0+d.rz l0 x.hue+x.len) (M++[y])=d.endT x.hue (t0+d.rz l0 x.hue+x.len) M+d.rz (zE x.hue M) y.hue+y.len:=by rw [Ve (P:=M) (Q:=[y])];rfl
 have E5:k6 (d.sch l0 t0 (y::x::(M++B)))=y.wt*(t0+d.rz l0 x.hue+y.len)+(x.wt*(t0+d.rz l0 x.hue+y.len+x.len)+(k6 (d.sch x.hue (t0+d.rz l0 x.hue+y.len+x.len) M)+k6 (d.sch (zE x.hue M) (d.endT x.hue (t0+d.rz l0 x.hue+y.len+x.len) M) B))):=by show k6 ((y,t0+d.rz l0 y.hue+y.len)::(x,t0+d.rz l0 y.hue+y.len+d.rz (y.hue:Int) x.hue+x.len)::d.sch x.hue (t0+d.rz l0 y.hue+y.len+d.rz (y.hue:Int) x.hue+x.len) (M++B))=_;rw [ey,hz,Int.add_zero,Zs,Zs,jK (P:=M) (Q:=B),jU]
 have Gn:=Ko ok sMy (l:=(x.hue:Int)) (t:=t0+d.rz l0 x.hue+x.len) (by omega) (by omega);have D0:Dom d x.len l0 t0 (x.hue:Int) (t0+d.rz l0 x.hue+x.len):=⟨λg hg=>by
  have:=PH ok g1 g2 hx hg;omega,by omega⟩
 obtain ⟨q1,q2⟩:=QT ok sMy D0;have D1:Dom d 0 (x.hue:Int) (d.endT l0 t0 (M++[y])+x.len) (y.hue:Int) (d.endT x.hue (t0+d.rz l0 x.hue+x.len) (M++[y])):=⟨λg _=>by
  have e:d.rz (x.hue:Int) g=d.rz (y.hue:Int) g:=by rw [T.hue]
  omega,by omega⟩
 obtain ⟨p1,_⟩:=QT ok sB D1;have D2:Dom d (-y.len) (x.hue:Int) (t0+d.rz l0 x.hue+y.len+x.len) (x.hue:Int) (t0+d.rz l0 x.hue+x.len):=⟨λg _=>by omega,by omega⟩;obtain ⟨m1,m2⟩:=QT ok sM D2;have D3:Dom d 0 (zE x.hue M) (d.endT x.hue (t0+d.rz l0 x.hue+y.len+x.len) M) (y.hue:Int) (d.endT x.hue (t0+d.rz l0 x.hue+x.len) (M++[y])):=by have z:=XM ok lM.1 lM.2 hy;refine ⟨λg hg=>?_,by rw [E6];omega⟩;have:=PH ok lM.1 lM.2 hy hg;rw [E6];omega
 obtain ⟨b1,_⟩:=QT ok sB D3;rw [Fc,show wts [y]=y.wt from Int.add_zero _] at q1;rw [Int.zero_mul,Int.add_zero] at p1 b1;rw [E1,E3] at h;rw [E3,E5];rw [E4] at h q1 ⊢;rw [Int.neg_mul] at m1;have st:y.len*x.wt<=x.len*y.wt:=by
  rcases ltK_iff.mp (show u7 (y.len*x.wt,y.name) (x.len*y.wt,x.name)=true from T.bad) with z|⟨z,_⟩
  ·have z:y.len*x.wt<x.len*y.wt:=z;omega
  ·have z:y.len*x.wt=x.len*y.wt:=z;omega
 generalize d.endT x.hue (t0+d.rz l0 x.hue+x.len) (M++[y])=E at *
 generalize d.rz l0 x.hue=r0 at *
 have u1:x.wt*(d.endT l0 t0 (M++[y])+x.len)<=x.wt*E:=uz q2 (by omega);have u2:x.wt*E=x.wt*(t0+r0+x.len)+x.wt*(E-(t0+r0+x.len)):=by rw [<- Int.mul_add];congr 1;omega
 have u3:y.wt*(t0+r0+y.len)=y.wt*E+y.wt*(y.len-x.len-(E-(t0+r0+x.len))):=by rw [<- Int.mul_add];congr 1;omega
 have u4:x.wt*(t0+r0+y.len+x.len)=x.wt*(t0+r0+x.len)+x.wt*y.len:=by rw [<- Int.mul_add];congr 1;omega
 have:=HM (px:=x.len) (py:=y.len) (wx:=x.wt) (wy:=y.wt) (WM:=wts M) (G:=E-(t0+r0+x.len)) (by omega) (by omega) (by omega) st
  (D1:=k6 (d.sch l0 t0 (M++[y]))+(x.wt*(d.endT l0 t0 (M++[y])+x.len)+k6 (d.sch x.hue (d.endT l0 t0 (M++[y])+x.len) B))-(x.wt*(t0+r0+x.len)+(k6 (d.sch x.hue (t0+r0+x.len) M)+y.wt*E+k6 (d.sch y.hue E B))))
  (D2:=y.wt*(t0+r0+y.len)+(x.wt*(t0+r0+y.len+x.len)+(k6 (d.sch x.hue (t0+r0+y.len+x.len) M)+k6 (d.sch (zE x.hue M) (d.endT x.hue (t0+r0+y.len+x.len) M) B)))-(x.wt*(t0+r0+x.len)+(k6 (d.sch x.hue (t0+r0+x.len) M)+y.wt*E+k6 (d.sch y.hue E B))))
  (by omega) (by omega) (by omega)
 omega
end
section
variable {C:Addr}{d:Dr}
theorem Vp :∀{l t:Int},∀ r∈d.go l t ns,r.1∈ns:=by
 induction ns with
 |nil=>intro l t r h;cases h
 |cons c cs ih =>
  intro l t r h;rcases yH.mp h with rfl|h
  ·exact yU
  ·exact yW _ (ih r h)
theorem KH :∀{l t:Int},(d.go l t ns).length=ns.length:=by
 induction ns with
 |nil=>intro l t;rfl
 |cons c cs ih=>intro l t;show (d.go _ _ cs).length+1=_;rw [ih];rfl
theorem Io (ok:d.Ok)(L:Lst d ns):Qn C [d.ob C,y0 ns]=some (.lst ((d.go d.last d.time ns).map rwP)):=Im ok L (YU ok L)
def edP (r:Cl×Int×Int):PV:= .tup [r.1.pv,.at (.int r.2.2)]
theorem Ip (ok:d.Ok)(L:Lst d ns):Xj C [d.ob C,y0 ns]=some (.lst ((d.go d.last d.time ns).map edP)):=by have hlim:lim=1000000:=rfl;have l10:=L.len ok;exact xJ rfl (k9 (qM rwP edP (d.go d.last d.time ns) (vL (v5 rfl (Io ok L))) rfl (by rw [KH];omega) λr hr=>⟨_,rfl,xN (y3 (jo rfl (by decide) rfl (Cy ok (L.sub _ (Vp r hr)))) (y3 rfl rfl)) (by first|decide|(show 1<=lim;decide)|(show 2<=lim;decide)|(show 3<=lim;decide))⟩))
theorem rz_le (ok:d.Ok){f:Int}{g:Nat}(f0:-1<=f)(f1:f<(d.h:Int))(hg:g<d.h):0<=d.rz f g/\d.rz f g<=k7:=by
 unfold Dr.rz;split
 ·exact ⟨uS _,Int.le_of_lt QG⟩
 ·have G:m7 d.h d.low:=zF ok.rin;have main:∀ n:Nat,n<=d.h->0<=rin d.low (n:Int) (g:Int)/\rin d.low (n:Int) (g:Int)<=k7:=by
   intro n hn;have hl:n<d.low.length:=by rw [show d.low.length=d.h+1 from G.len];omega
   have hgl:g<d.low[n].length:=by rw [(G.row _ (yA hl)).1];exact hg
   rw [zK G hn hg,u8 hl,u8 hgl];have:=(G.row _ (yA hl)).2 _ (yA hgl);have hB:k7=10 ^ 30:=rfl;omega
  by_cases hf:f=-1
  ·rw [hf,XL G.len];exact main d.h (yV _)
  ·obtain ⟨n,rfl⟩:=yo (show 0<=f by omega);exact main n (by omega)
theorem KG (ok:d.Ok):∀{ns:List Cl}{l t:Int},(∀ c∈ns,c∈d.cls)->-1<=l->l<(d.h:Int)->0<=t->∀ r∈d.go l t ns,0<=r.2.2/\r.2.2<=t+2*k7*ns.length
 |[],_,_,_,_,_,_,_,h=>nomatch h
 |c::cs,l,t,hs,l1,l2,t0,r,h=>by
  have hk:=ok.cl c (hs c yU);have z:=rz_le ok l1 l2 hk.hu;have a1:=hk.l1;have a2:=hk.l2;have hB:=QG;have e:2*k7*((c::cs).length:Int)=2*k7*(cs.length:Int)+2*k7:=by rw [yF];push_cast;rw [Int.mul_add,Int.mul_one]
  have nn:0<=2*k7*(cs.length:Int):=Int.mul_nonneg (by omega) (by omega);rcases yH.mp h with rfl|h
  ·show 0<=t+d.rz l c.hue+c.len/\t+d.rz l c.hue+c.len<=_;rw [e];omega
  ·have ih:=KG ok (ns:=cs) (l:=(c.hue:Int)) (t:=t+d.rz l c.hue+c.len) (λx hx=>hs x (yW _ hx)) (by omega) (by have:=hk.hu;omega) (by omega) r h;rw [e];omega
theorem GK (h0:0<=n)(h1:n<=100*k7):Builtin.Int.intBits n<=2 ^ 20:=by
 obtain ⟨m,rfl⟩:=yo h0;have q:(100*k7).toNat<2 ^ 120:=by decide +kernel
 exact ym (PyProof.Rows.intBits_le (k:=120) (by rw [Int.natAbs_natCast];omega)) (by decide)
theorem Bu {a b:Int}(a0:0<=a)(a1:a<=100*k7)(b0:0<=b)(b1:b<=100*k7):zh (.at (.int a)) (.at (.int b))=some (.at (.int (a*b))):=by show (if zP a b then some (V.int (a*b)) else none).map PV.at=_;rw [if_pos ⟨GK a0 a1,GK b0 b1⟩];rfl
def JZ (rs:List (Cl×Int×Int)):Int:=(rs.map λr=>r.1.wt*r.2.2).sum
theorem Kp (ok:d.Ok)(L:Lst d ns){r:Cl×Int×Int}(hr:r∈d.go d.last d.time ns):0<=r.2.2/\r.2.2<=100*k7:=by have q:=KG ok L.sub ok.l1 ok.l2 ok.t1 r hr;have l10:=L.len ok;have t2:=ok.t2;have:2*k7*(ns.length:Int)<=2*k7*10:=uz (by omega) (by have:=QG;omega);omega
theorem Il (ok:d.Ok)(L:Lst d ns):jx C [d.ob C,y0 ns]=some (.at (.int (JZ (d.go d.last d.time ns)))):=by
 have hlim:lim=1000000:=rfl;have l10:=L.len ok;refine r9 rfl (k9 (v5 (y3 (qM edP (λr=>PV.at (.int (r.1.wt*r.2.2))) (d.go d.last d.time ns) (vL (v5 rfl (Ip ok L))) rfl (by rw [KH];omega) λr hr=>⟨_,rfl,w6 (v5 rfl rfl) rfl ?_⟩) rfl) ?_))
 ·have hk:=ok.cl r.1 (L.sub _ (Vp r hr));have q:=Kp ok L hr;have w1:=hk.w1;have w2:=hk.w2;have:=QG;exact Bu (by omega) (by omega) q.1 q.2
 ·have e:((d.go d.last d.time ns).map λr=>PV.at (.int (r.1.wt*r.2.2)))=((d.go d.last d.time ns).map λr=>r.1.wt*r.2.2).map λb=>PV.at (.int b):=by rw [yr];rfl
  rw [e,Cg];rfl
theorem Vq:∀{ns:List Cl}{l t:Int},(d.go l t ns).map (λr=>(r.1,r.2.2))=d.sch l t ns
 |[],_,_=>rfl
 |c::ns,l,t=>by
  show (c,t+d.rz l c.hue+c.len)::(d.go _ _ ns).map _=(c,t+d.rz l c.hue+c.len)::_;rw [Vq (ns:=ns)]
theorem DW {t:Int}:JZ (d.go l t ns)=k6 (d.sch l t ns):=by rw [<- Vq];unfold JZ k6;rw [yr];rfl
end
section
variable {C:Addr}{d:Dr}
theorem KP {y:Cl}{B:List Cl}:∀{M:List Cl},(∀ m∈M,m.hue≠y.hue)->m6 (M++y::B)=m6 (M++B)+B.countP (k8 y)
 |[],_=>by
  show B.countP (k8 y)+m6 B=m6 B+_;omega
 |m::M,h=>by
  have ih:=KP (B:=B) (M:=M) λz hz=>h z (yW _ hz);have my:k8 m y=false:=by unfold k8;rw [yI (h m yU)];rfl
  have e1:(y::B).countP (k8 m)=B.countP (k8 m):=ue (by rw [my];exact yS);show (M++y::B).countP (k8 m)+m6 (M++y::B)=(M++B).countP (k8 m)+m6 (M++B)+_;rw [ih,uH,uH,e1];omega
theorem GY {M:List Cl}(h:∀ m∈M,m.hue≠x.hue):M.countP (k8 x)=0:=List.countP_eq_zero.mpr λm hm=>by
 unfold k8;rw [yI (Ne.symm (h m hm))];exact yS
theorem Turn.perm2 {M:List Cl}(T:Turn ns os p A x M y B):(A++y::x::(M++B)).Perm ns:=by rw [T.old];refine tV A ?_;exact (List.Perm.swap x y _).trans (List.Perm.cons x uh.symm)
theorem Turn.less2 {M:List Cl}(T:Turn ns os p A x M y B):m6 (A++y::x::(M++B))<m6 ns:=by
 have pm:(y::x::(M++B)).Perm (x::(M++y::B)):=(List.Perm.swap x y _).trans (List.Perm.cons x uh.symm);have hM:∀ m∈M,m.hue≠y.hue:=λm hm=>by rw [<- T.hue];exact T.amid m hm
 have base:m6 (y::x::(M++B))<m6 (x::(M++y::B)):=by
  have hyx:k8 y x=false:=by unfold k8;rw [show zw 1 x y=false from Br T.bad,Bool.and_false]
  have hxy:k8 x y=true:=by unfold k8;rw [T.bad,yG T.hue];rfl
  show (x::(M++B)).countP (k8 y)+((M++B).countP (k8 x)+m6 (M++B))<(M++y::B).countP (k8 x)+m6 (M++y::B);rw [KP hM,ue (by rw [hyx];exact yS),uH,uH,uH,List.countP_cons_of_pos hxy,GY T.amid,GY hM];omega
 rw [T.old];have:∀ A:List Cl,m6 (A++y::x::(M++B))<m6 (A++x::(M++y::B)):=by
  intro A
  induction A with
  |nil=>exact base
  |cons c A ih=>show (A++y::x::(M++B)).countP (k8 c)+m6 (A++y::x::(M++B))<(A++x::(M++y::B)).countP (k8 c)+m6 (A++x::(M++y::B));have:=(tV A pm).countP_eq (k8 c);omega
 exact this A
theorem vX :(w5 (ns.map Cl.name)).length=ns.length:=by rw [ze,yZ]
theorem Ce {M:List Cl}:mvL (w5 ((A++x::(M++y::B)).map Cl.name)) A.length (A.length+1+M.length)=w5 ((A++(M++y::x::B)).map Cl.name) /\ mvL (w5 ((A++x::(M++y::B)).map Cl.name)) (A.length+1+M.length) A.length=w5 ((A++y::x::(M++B)).map Cl.name):=by
 have e:w5 ((A++x::(M++y::B)).map Cl.name)=w5 (A.map Cl.name)++ .at (.str x.name)::(w5 (M.map Cl.name)++ .at (.str y.name)::w5 (B.map Cl.name)):=by unfold w5;simp
 have e2:w5 ((A++(M++y::x::B)).map Cl.name)=w5 (A.map Cl.name)++(w5 (M.map Cl.name)++ .at (.str y.name):: .at (.str x.name)::w5 (B.map Cl.name)):=by unfold w5;simp
 have e3:w5 ((A++y::x::(M++B)).map Cl.name)=w5 (A.map Cl.name)++ .at (.str y.name):: .at (.str x.name)::(w5 (M.map Cl.name)++w5 (B.map Cl.name)):=by unfold w5;simp
 rw [e,e2,e3];have la:A.length=(w5 (A.map Cl.name)).length:=by rw [ze,yZ]
 have lm:M.length=(w5 (M.map Cl.name)).length:=by rw [ze,yZ]
 rw [la,lm];generalize w5 (A.map Cl.name)=a;generalize w5 (M.map Cl.name)=m;generalize w5 (B.map Cl.name)=b;constructor
 ·rw [Jg (x:= .at (.str x.name)) (by rw [yn (yV _),Nat.sub_self];rfl)];have er:(a++PV.at (.str x.name)::(m++ .at (.str y.name)::b)).eraseIdx a.length=(a++m++[.at (.str y.name)])++b:=by rw [List.eraseIdx_append_of_length_le (yV _),Nat.sub_self];simp
  rw [er];have ll:a.length+1+m.length=(a++m++[PV.at (.str y.name)]).length:=by simp;omega
  rw [ll,List.take_left,List.drop_left];simp
 ·have ea:a++PV.at (.str x.name)::(m++ .at (.str y.name)::b)=(a++ .at (.str x.name)::m)++ .at (.str y.name)::b:=by simp
  have ll:a.length+1+m.length=(a++PV.at (.str x.name)::m).length:=by simp;omega
  rw [ea,ll,Jg (x:= .at (.str y.name)) (by rw [yn (yV _),Nat.sub_self];rfl)];have er:((a++PV.at (.str x.name)::m)++ .at (.str y.name)::b).eraseIdx (a++PV.at (.str x.name)::m).length=a++(.at (.str x.name)::m++b):=by rw [List.eraseIdx_append_of_length_le (yV _),Nat.sub_self];simp
  rw [er,List.take_left,List.drop_left];simp
structure Stp (d:Dr)(ns os:List Cl)(p:Nat×Nat):Prop where
 perm:os.Perm ns
 less:m6 os<m6 ns
 mv:mvL (w5 (ns.map Cl.name)) p.1 p.2=w5 (os.map Cl.name)
 lt:p.1<ns.length/\p.2<ns.length
 cost:k6 (d.sch d.last d.time os)<=k6 (d.sch d.last d.time ns)
theorem CA (ok:d.Ok)(L:Lst d ns):jx C [d.ob C,y0 ns]=some (.at (.int (k6 (d.sch d.last d.time ns)))):=by rw [<- DW];exact Il ok L
theorem IP (ok:d.Ok)(L:Lst d ns)(h:zi d ns=some pr):∃ os p,Stp d ns os p/\vf C [d.ob C,y0 ns,qg pr]=some (qg p):=by
 obtain ⟨os,A,x,M,y,B,T⟩:=SK ok L h;have l10:=L.len ok;have Lo:=L.perm T.perm;have em:mvL (w5 (ns.map Cl.name)) pr.1 pr.2=w5 (os.map Cl.name):=by rw [T.old,T.new,T.at1,T.at2];exact Ce.1
 have mo:xK [y0 ns,qg pr]=some (y0 os):=by have:=VW (xs:=w5 (ns.map Cl.name)) (m:=pr) (by rw [vX];exact T.lt.1) (by rw [vX];omega);rw [em] at this;exact this
 have c:dT (x8 pLe (x9 (jx C) (q0 (q8 0) (q0 (x9 xK (q0 (q8 1) (q0 (q8 2) x6))) x6))) (x9 (jx C) (q0 (q8 0) (q0 (q8 1) x6)))) [.sh (d.ob C),.sh (y0 ns),.sh (qg pr)]=some (decide (k6 (d.sch d.last d.time os)<=k6 (d.sch d.last d.time ns))) :=
  n8 (w6 (v5 (y3 rfl (y3 (v5 rfl mo) rfl)) (CA ok Lo)) (v5 rfl (CA ok L)) rfl)
 by_cases q:k6 (d.sch d.last d.time os)<=k6 (d.sch d.last d.time ns)
 ·rw [yG q] at c;exact ⟨os,pr,⟨T.perm,T.less,em,T.lt,q⟩,r9 rfl (QV (Qd c (k9 rfl)))⟩
 ·rw [yI q] at c;refine ⟨A++y::x::(M++B),(pr.2,pr.1),⟨T.perm2,T.less2,?_,⟨T.lt.2,T.lt.1⟩,T.cost ok L.sub ok.l1 ok.l2 q⟩,r9 rfl (w9 (qx c qE) (k9 (xN (y3 (w6 rfl rfl rfl) (y3 (w6 rfl rfl rfl) rfl)) l2)))⟩;show mvL _ pr.2 pr.1=_;rw [T.old,T.at1,T.at2];exact Ce.2
end
section
variable {C:Addr}{d:Dr}
inductive Led (C:Addr)(d:Dr):List Cl->List (Nat×Nat)->List Cl->Prop
 |done {ns:List Cl} (h:zi d ns=none):Led C d ns [] ns
 |turn {ns os fs:List Cl} {pr p:Nat×Nat} {ms:List (Nat×Nat)} (h:zi d ns=some pr) (S:Stp d ns os p) (v:vf C [d.ob C,y0 ns,qg pr]=some (qg p)) (r:Led C d os ms fs):Led C d ns (p::ms) fs
theorem Bi (C:Addr)(ok:d.Ok):∀(n:Nat){ns:List Cl},Lst d ns->m6 ns<=n->∃ ms fs,Led C d ns ms fs/\ms.length<=n
 |n,ns,L,hn=>by
  cases h:zi d ns with
  |none=>exact ⟨[],ns,.done h,uY _⟩
  |some pr =>
   obtain ⟨os,p,S,v⟩:=IP (C:=C) ok L h;have:=S.less;cases n with
   |zero=>omega
   |succ n=>obtain ⟨ms,fs,r,l⟩:=Bi C ok n (L.perm S.perm) (by omega);exact ⟨p::ms,fs,.turn h S v r,by simp;omega⟩
theorem Led.perm {fs:List Cl}(r:Led C d ns ms fs):fs.Perm ns:=by
 induction r with
 |done _=>exact .refl _
 |turn _ S _ _ ih=>exact ih.trans S.perm
theorem Led.last {fs:List Cl}(r:Led C d ns ms fs):zi d fs=none:=by
 induction r with
 |done h=>exact h
 |turn _ _ _ _ ih=>exact ih
theorem Led.lt {fs:List Cl}(r:Led C d ns ms fs):∀ m∈ms,m.1<ns.length/\m.2<ns.length:=by
 induction r with
 |done h=>exact λ_ z=>nomatch z
 |turn _ S _ _ ih =>
  intro m hm;rcases yH.mp hm with rfl|hm
  ·exact S.lt
  ·have:=ih m hm;rwa [S.perm.length_eq] at this
theorem Led.walk {fs:List Cl}(r:Led C d ns ms fs):JC (w5 (ns.map Cl.name)) ms=w5 (fs.map Cl.name):=by
 induction r with
 |done _=>rfl
 |turn _ S _ _ ih=>show JC (mvL _ _ _) _=_;rw [S.mv];exact ih
theorem v_stp (ok:d.Ok)(L:Lst d ns)(S:Stp d ns os p):xK [y0 ns,qg p]=some (y0 os):=by have l10:=L.len ok;have:=VW (xs:=w5 (ns.map Cl.name)) (m:=p) (by rw [vX];exact S.lt.1) (by rw [vX];omega);rw [S.mv] at this;exact this
theorem Xu {α:Type}{f:α->PV}:∀{l:List α},(∀ a∈l,xt (f a)=true)->zb (l.map f)=true
 |[],_=>rfl
 |a::l,h=>by
  show (xt (f a)&&zb (l.map f))=true;rw [h a yU,Xu λb hb=>h b (yW _ hb)];rfl
theorem Bx (rss:List (List Int)):xt (p9 rss)=true:=Xu λr _=>Xu λ_ _=>rfl
theorem Nu:xt (d.ob C)=true:=by have h:zb (d.cls.map Cl.pv)=true:=Xu λ_ _=>rfl;show (xt (p9 d.low)&&(xt (p9 d.rss)&&(zb (d.cls.map Cl.pv)&&(true&&(true&&true)))))=true;rw [Bx,Bx,h];rfl
theorem Nt (ns:List Cl):xt (y0 ns)=true:=Xu λ_ _=>rfl
abbrev vR (C:Addr)(d:Dr):List PV->Option PV:=ju 2 (x9 (vf C) (q0 (q8 2) (q0 (q8 0) (q0 (q8 1) x6)))) [d.ob C]
theorem v_lam (v:vf C [d.ob C,y0 ns,qg pr]=some (qg p)):vR C d [y0 ns,qg pr]=some (qg p):=by
 unfold vR ju;rw [if_pos ⟨rfl,by
  show (xt (y0 ns)&&(true&&(xt (d.ob C)&&true)))=true;rw [Nt,Nu];rfl⟩]
 exact v5 rfl v
def PB (d:Dr):PV:= .lst (((List.range d.h).map d.steepN).map k5)
noncomputable abbrev fMv (q:LQ)(m:List PV->Option PV):MS:=v3 (u5 6 (Zu q 8 m 2 (q0 (q8 4) (q0 (q8 5) x6)))) (v3 (jk 3 (q8 6)) (v3 (u5 4 (x9 xK (q0 (q8 4) (q0 (q8 6) x6)))) (u5 5 (x9 zZ (q0 (q8 0) (q0 (q8 4) x6))))))
abbrev eMv (C:Addr)(d:Dr)(q:LQ)(N:PV)(l:List (Nat×Nat))(a b:PV)(s:MSlot):ME:=[.sh (PB d),.sh N,.sh (.op (QI q 8 (vR C d))),.ow (.lst (xZ l)),.sh a,.sh b,s]
theorem Nb (q:LQ)(ok:d.Ok){N:PV}{fs:List Cl}(r:Led C d ns ms fs):∀(L:Lst d ns)(done:List (Nat×Nat))(s6:MSlot)(f:Nat),ms.length<f->done.length+ms.length<=1000 -> ∃ s6':MSlot,zV (dT (x8 wd (q9 5) (dC .non))) (fMv q (vR C d)) f (eMv C d q N done (y0 ns) (ja (zi d ns)) s6)=some (.nx (eMv C d q N (done++ms) (y0 fs) (.at .non) s6')):=by
 have hlim:lim=1000000:=rfl
 induction r with
 |@done ns h =>
  intro L done s6 f hf _;cases f with
  |zero=>exact absurd hf (uB _)
  |succ f=>refine ⟨s6,?_⟩;rw [h,yt];unfold zV;rw [n8 (v:=false) (w6 rfl rfl rfl)];rfl
 |@turn ns os fs pr p ms h S v r ih =>
  intro L done s6 f hf hd;cases f with
  |zero=>exact absurd hf (uB _)
  |succ f =>
   simp only [yF] at hf hd;obtain ⟨s6',e⟩:=ih (L.perm S.perm) (done++[p]) (.sh (qg p)) f (by omega) (by simp;omega);refine ⟨s6',?_⟩;rw [yk] at e;rw [h];unfold zV;rw [n8 (v:=true) (w6 rfl rfl rfl),yK,if_pos rfl];have b:fMv q (vR C d) (eMv C d q N done (y0 ns) (ja (some pr)) s6)
     = some (.nx (eMv C d q N (done++[p]) (y0 os) (ja (zi d os)) (.sh (qg p)))):=by
    refine w9 (p7 (x:=qg p) (Ms rfl rfl (v_lam v))) (w9 (ε1:=eMv C d q N (done++[p]) (y0 ns) (ja (some pr)) (.sh (qg p))) ?_ (w9 (p7 (v5 rfl (v_stp ok L S))) (p7 (v5 rfl (YW ok (L.perm S.perm))))));show (if (xZ done).length<=lim then _ else none)=_;rw [if_pos (by unfold xZ;rw [yZ];omega)];unfold eMv xZ;rw [yv];rfl
   rw [b];exact e
theorem IG (q:LQ)(ok:d.Ok){fs:List Cl}(L:Lst d ns)(r:Led C d ns ms fs)(h:ms.length<=100):Xo q (vR C d) [PB d,y0 ns,.op (QI q 8 (vR C d))]=some (.lst (xZ ms)):=by obtain ⟨s6,e⟩:=Nb q ok (N:=y0 ns) r L [] .no 101 (by omega) (by simp;omega);exact xJ rfl (w9 (ZF (x:= .lst (xZ [])) (zW rfl l0)) (w9 (p7 (x:=y0 ns) (v5 rfl rfl)) (w9 (p7 (v5 rfl (YW ok L))) (w9 e (k9 rfl)))))
theorem Bs:∀ ms:List (Nat×Nat),jc (xZ ms)=true
 |[]=>rfl
 |m::ms=>by
  show (plB (qg m)&&jc (xZ ms))=true;rw [Bs ms];rfl
theorem IU (q:LQ)(ok:d.Ok){fs:List Cl}(L:Lst d ns)(r:Led C d ns ms fs)(h:ms.length<=100):Xq q C [d.ob C,y0 ns]=some (.lst (xZ ms)) :=
 xJ rfl (w9 (Qc (v5 rfl (YV ok L (YU ok L)))) (My (ws:=[d.ob C]) (v5 rfl (CF ok)) rfl rfl (IG q ok L r h) (Bs ms)))
end
section
variable {C:Addr}{d:Dr}
def epP (r:Cl×Int):PV:= .tup [r.1.pv,.at (.int r.2)]
theorem PK:∀{ns:List Cl}{l t:Int},(d.sch l t ns).length=ns.length
 |[],_,_=>rfl
 |_::ns,_,_=>congrArg (·+1) (PK (ns:=ns))
abbrev eEn (d:Dr)(ns:List Cl)(a b:Int)(z:List PV)(s:MSlot):ME:=[.sh d.pv,.sh (y0 ns),.sh (p9 d.low),.sh (.fk (keysOf d.cls) (d.cls.map Cl.pv)),.sh (.at (.int a)),.sh (.at (.int b)),.ow (.lst z),s]
theorem Iq (ok:d.Ok)(L:Lst d ns):ZU [d.pv,y0 ns]=some (.lst ((d.sch d.last d.time ns).map epP)):=by
 have hlim:lim=1000000:=rfl;have l10:=L.len ok;have en:w5 (ns.map Cl.name)=ns.map λc=>PV.at (.str c.name):=by unfold w5;rw [yr];rfl
 have dc:=Km ok (ε:=[.sh d.pv,.sh (y0 ns),.sh (p9 d.low),.no,.no,.no,.no,.no]) rfl;obtain ⟨ε',e',rest⟩:=vT (g:=v7 7) (f:=v3 (m3 (dT (x8 pNe (x8 w4 (f9 (q9 3) (q9 7)) (dC (.int 1))) (q9 4))) (u5 5 (x8 c7 (q9 5) (x8 w4 (x8 w4 (q9 2) (q9 4)) (x8 w4 (f9 (q9 3) (q9 7)) (dC (.int 1)))))) n6)
  (v3 (u5 5 (x8 c7 (q9 5) (x8 w4 (f9 (q9 3) (q9 7)) (dC (.int 2)))))
  (v3 (u5 4 (x8 w4 (f9 (q9 3) (q9 7)) (dC (.int 1))))
  (jk 6 (qj (q0 (f9 (q9 3) (q9 7)) (q0 (q8 5) x6)))))))
  (λc:Cl=>PV.at (.str c.name)) (λl ε=>∃(la ti:Int)(done:List (Cl×Int))(s7:MSlot),done++d.sch la ti l=d.sch d.last d.time ns/\(∀ c∈l,c∈ns)/\done.length+l.length=ns.length/\-1<=la/\la<(d.h:Int) /\
   ε=(eEn d ns la ti (done.map epP) s7)) (by
   rintro c l ε ⟨la,ti,done,s7,e1,e2,e3,g1,g2,rfl⟩;have hc:=e2 c yU;have hk:=ok.cl c (L.sub c hc);have lk:=Xd Cl.pv ok.nd c (L.sub c hc);simp only [yF] at e3;have gd:∀(t:Int),f9 (q9 3) (q9 7) (eEn d ns la t (done.map epP) (.sh (.at (.str c.name))))=some c.pv:=λt=>ZD rfl rfl rfl lk;have gd2:∀(t:Int),f9 (q9 3) (q9 7) (eEn d ns (c.hue:Int) t (done.map epP) (.sh (.at (.str c.name))))=some c.pv:=λt=>ZD rfl rfl rfl lk;have s1:m3 (dT (x8 pNe (x8 w4 (f9 (q9 3) (q9 7)) (dC (.int 1))) (q9 4))) (u5 5 (x8 c7 (q9 5) (x8 w4 (x8 w4 (q9 2) (q9 4)) (x8 w4 (f9 (q9 3) (q9 7)) (dC (.int 1)))))) n6 (eEn d ns la ti (done.map epP) (.sh (.at (.str c.name))))=some (.nx (eEn d ns la (ti+d.rz la c.hue) (done.map epP) (.sh (.at (.str c.name))))):=by
    unfold Dr.rz;by_cases h:la=(c.hue:Int)
    ·rw [if_pos h,Int.add_zero];exact qx (n8 (v:=false) (w6 (w6 (gd ti) rfl rfl) rfl ((Bv _ _).trans (by rw [yG h.symm];rfl)))) qE
    ·rw [if_neg h];obtain ⟨r,r1,r2⟩:=Py (zF ok.rin) g1 g2 hk.hu;exact Qd (n8 (v:=true) (w6 (w6 (gd ti) rfl rfl) rfl ((Bv _ _).trans (by rw [yI (Ne.symm h)];rfl)))) (p7 (w6 rfl (w6 (w6 rfl rfl r1) (w6 (gd ti) rfl rfl) r2) rfl))
   refine ⟨_,(eEn d ns (c.hue:Int) (ti+d.rz la c.hue+c.len) ((done++[(c,ti+d.rz la c.hue+c.len)]).map epP) (.sh (.at (.str c.name)))),rfl,w9 s1 (w9 (p7 (x:= .at (.int (ti+d.rz la c.hue+c.len))) (w6 rfl (w6 (gd _) rfl rfl) rfl)) (w9 (p7 (x:= .at (.int (c.hue:Int))) (w6 (gd _) rfl rfl)) ?_)),?_⟩
   rotate_left
   ·refine ⟨(c.hue:Int),ti+d.rz la c.hue+c.len,done++[(c,ti+d.rz la c.hue+c.len)],_,by rw [yk];exact e1,λx hx=>e2 x (yW _ hx),by rw [yN];simp;omega,by omega,by have:=hk.hu;omega,rfl⟩
   ·rw [yv];exact Kw (xN (y3 (gd2 _) (y3 rfl rfl)) l2) rfl (by rw [yZ];omega)) ns (eEn d ns d.last d.time [] .no) ⟨d.last,d.time,[],.no,rfl,λc h=>h,by simp,ok.l1,ok.l2,rfl⟩
 obtain ⟨la,ti,done,s7,e1,_,_,_,_,rfl⟩:=rest;have e2:done=d.sch d.last d.time ns:=by have:done++[]=d.sch d.last d.time ns:=e1;rwa [yt] at this
 subst e2;refine xJ rfl (w9 (p7 (x:=p9 d.low) (v5 (y3 (w6 rfl rfl rfl) rfl) (IB ok.rin ok.h1 ok.h4))) (w9 (p7 dc) (w9 (Mq (x:= .tup [.at (.int d.last),.at (.int d.time)]) (Mz (i:=2) (xs:=[p9 d.rss,.lst (d.cls.map Cl.pv),.at (.int d.last),.at (.int d.time)]) rfl rfl rfl ⟨by decide,by show 2<=4;decide⟩) rfl) (w9 (ZF (zW rfl l0)) (w9 (xB (by show some (w5 (ns.map Cl.name))=_;rw [en]) e') rfl)))))
theorem Sh (ok:d.Ok)(L:Lst d ns):(d.sch d.last d.time ns).length<=lim:=by have hlim:lim=1000000:=rfl;have l10:=L.len ok;rw [PK];omega
theorem Sg {t:Int}{r:Cl×Int}(h:r∈d.sch l t ns):∃ q∈d.go l t ns,q.1=r.1/\q.2.2=r.2:=by rw [<- Vq] at h;obtain ⟨q,hq,e⟩:=yz.mp h;exact ⟨q,hq,by rw [<- e],by rw [<- e]⟩
theorem Cz (ok:d.Ok)(L:Lst d ns):Xi [d.pv,y0 ns]=some (.at (.int (k6 (d.sch d.last d.time ns)))):=by
 refine r9 rfl (k9 (v5 (y3 (qM epP (λr=>PV.at (.int (r.1.wt*r.2))) (d.sch d.last d.time ns) (vL (v5 rfl (Iq ok L))) rfl (Sh ok L) λr hr=>⟨_,rfl,w6 (w6 rfl rfl rfl) rfl ?_⟩) rfl) ?_))
 ·obtain ⟨g,hg,e1,e2⟩:=Sg hr;have hk:=ok.cl g.1 (L.sub _ (Vp g hg));have q:=Kp ok L hg;rw [e2] at q;rw [e1] at hk;have w1:=hk.w1;have w2:=hk.w2;have:=QG;exact Bu (by omega) (by omega) q.1 q.2
 ·have e:((d.sch d.last d.time ns).map λr=>PV.at (.int (r.1.wt*r.2)))=((d.sch d.last d.time ns).map λr=>r.1.wt*r.2).map λb=>PV.at (.int b):=by rw [yr];rfl
  rw [e,Cg];rfl
end
abbrev wn:Stmt:=top 74
noncomputable abbrev Ga (K:Fg)(Eo:LQ)(Aa:Addr):WS:=(wSeq (qI 1 (CL (XE K) wI (b9 (wP (q8 0)) (b9 (wP (dC (.int 4))) qS))))
  (wSeq (qI 2 (wP (x9 (Qk Aa) (q0 (x8 w4 (q9 1) (dC (.int 0))) (q0 (x8 w4 (q9 1) (dC (.int 1))) (q0 (x8 w4 (q9 1) (dC (.int 2))) (q0 (x8 w4 (q9 1) (dC (.int 3))) x6)))))))
  (wSeq (qI 3 (wP (m8 [none] [0] (m5 (x8 w4 (q9 1) (dC (.int 1)))) (v7 0) n9 (x8 w4 (q9 0) (dC (.int 0))))))
  (wSeq (Zc 4 (qD x6))
  (wSeq (Zc 5 (qD x6))
  (wSeq (wFor (wIp (m5 (x9 Jb (q0 (q8 3) x6)))) (v7 6) (wSeq (qI 7 (wP (x9 Jd (q0 (q8 6) (q0 (x9 (Xq Eo Aa) (q0 (q8 2) (q0 (q8 6) x6))) x6)))))
  (wSeq (zO (wPT (dOr (dT (x8 pNe (x9 Qw (q0 (q9 7) x6)) (x9 Qw (q0 (q9 3) x6)))) (dOr (qi (o6 (x9 ZV (q0 (q8 1) (q0 (q8 7) (q0 (dC (.int 1)) x6)))))) (dT (x8 Wc (x9 (Xk Aa) (q0 (q8 2) (q0 (q8 7) x6))) (dC (.bl true))))))) (zf (wP (dC (.bl false)))) jN)
  (wSeq (wz 4 (wP (x9 Xi (q0 (q8 1) (q0 (q8 6) x6)))))
  (wSeq (wz 5 (wP (x9 Xi (q0 (q8 1) (q0 (q8 7) x6)))))
  (zO (wPT (dT (x8 pGt (x8 w4 (q9 5) (dUn pNeg (dC (.int 1)))) (x8 w4 (q9 4) (dUn pNeg (dC (.int 1))))))) (zf (wP (dC (.bl false)))) jN))))))
  (zf (wP (x8 pEq (x9 Xy (q0 (q9 4) x6)) (x9 Xy (q0 (q9 5) x6)))))))))))
theorem sc_law:y4 ["script","parts","works","names","costs","ordered","plan","led"] ["script"] (j7 wn):=u6
theorem Ut {xs:List α}{x:α}(h:xs.getLast?=some x):atI xs (-1)=some x:=by
 have hl:xs≠[]:=λz=>by rw [z] at h;cases h
 have hp:0<xs.length:=List.length_pos_iff.mpr hl;rw [List.getLast?_eq_getElem?] at h;unfold atI ixN;rw [if_neg (by decide),if_pos (by omega)];show xs[((-1:Int)+(xs.length:Int)).toNat]?=_;rw [show ((-1:Int)+(xs.length:Int)).toNat=xs.length-1 by omega];exact h
theorem CD (h:ss.length<64):Qw [.lst (w5 ss)]=some (.lst (w5 (zL ss))):=by show (jL (w5 ss)).bind _=_;rw [Cd,yK,if_pos h];rfl
theorem Sw {a b:List Str}(p:a.Perm b):zL a=zL b:=Jw ((YJ a).trans p) (PZ a)
theorem RB (ss:List Str):Qz 6 (.lst (w5 ss)):=λx hx=>by
 obtain ⟨s,_,rfl⟩:=yz.mp hx;exact rfl
def ins {α:Type}(x:α)(l:List α):List (List α):=(List.range (l.length+1)).map λk=>l.take k++[x]++l.drop k
def zc {α:Type}:List (List α)->List α->List (List α)
 |f,[]=>f
 |f,x::xs=>zc (f.flatMap (ins x)) xs
section
variable {α:Type}{x:α}{l os ys:List α}{f:List (List α)}
theorem Vv (h:os∈ins x l):os.Perm (x::l):=by
 obtain ⟨k,_,rfl⟩:=yz.mp h;have e:(l.take k++[x]++l.drop k).Perm (x::(l.take k++l.drop k)):=by rw [yk];exact uh
 rwa [List.take_append_drop] at e
theorem BE:∀{xs ys:List α}{f:List (List α)},(∀ l∈f,l.Perm ys)->∀ l∈zc f xs,l.Perm (ys++xs)
 |[],ys,f,h,l,hl=>by rw [yt];exact h l hl
 |x::xs,ys,f,h,l,hl=>by
  have:=BE (xs:=xs) (ys:=ys++[x]) (f:=f.flatMap (ins x)) (λo ho=>by
   obtain ⟨a,ha,hi⟩:=List.mem_flatMap.mp ho;exact (Vv hi).trans (((h a ha).cons x).trans (List.perm_append_singleton x ys).symm)) l hl
  rwa [yk] at this
theorem BC:∀{xs ys:List α}{f:List (List α)},(∀ l:List α,l.Perm ys->l∈f)->∀ l:List α,l.Perm (ys++xs)->l∈zc f xs
 |[],ys,f,h,l,hl=>h l (by rwa [yt] at hl)
 |x::xs,ys,f,h,l,hl=>by
  refine BC (xs:=xs) (ys:=ys++[x]) (f:=f.flatMap (ins x)) (λo ho=>?_) l (by rwa [yk]);obtain ⟨A,B,rfl⟩:=List.append_of_mem (ho.mem_iff.mpr (yw ys yU));have p:(A++B).Perm ys:=(List.perm_cons x).mp (uh.symm.trans (ho.trans (List.perm_append_singleton x ys)));refine List.mem_flatMap.mpr ⟨A++B,h _ p,yz.mpr ⟨A.length,yu.mpr (by rw [yN];omega),?_⟩⟩;rw [List.take_left,List.drop_left,yk];rfl
end
theorem nm_F (l:List Cl):w5 (l.map Cl.name)=l.map λc=>PV.at (.str c.name):=by unfold w5;rw [yr];rfl
theorem el_ok (o:List Cl)(c:Cl)(k:Nat)(ho:o.length<=9):x8 c7 (x8 c7 (xH (q9 1) pNo (pSo (q8 0))) (qD (q0 (q8 2) x6))) (xH (q9 1) (pSo (q8 0)) pNo) [.sh (.at (.int (0+(k:Int)))),.sh (y0 o),.sh (.at (.str c.name))]=some (y0 (o.take k++[c]++o.drop k)):=by
 have hlim:lim=1000000:=rfl;have el:=nm_F o;have ll:(w5 (o.map Cl.name)).length=o.length:=by rw [el,yZ]
 rw [uw];refine w6 (w6 (vM (xs:=w5 (o.map Cl.name)) rfl rfl rfl) (zW rfl l1) (vZ ?_)) (vM (xs:=w5 (o.map Cl.name)) rfl rfl rfl) ?_
 ·rw [QQ,uW];simp;omega
 ·rw [QQ,Va,vZ (by rw [yN,uW,uP];simp;omega)];unfold y0 w5;simp [List.map_take,List.map_drop]
noncomputable abbrev fIn:MS:=u5 3 (x8 c7 (q9 3) (m8 [none,some 4,some 2] [0] (xq (q0 (x8 c7 (x9 qv (q0 (q9 4) x6)) (dC (.int 1))) x6)) (v7 0) n9 (x8 c7 (x8 c7 (xH (q9 1) pNo (pSo (q8 0))) (qD (q0 (q8 2) x6))) (xH (q9 1) (pSo (q8 0)) pNo))))
theorem KC {f:List (List Cl)}:(∀ o∈f,o.length=j)->(f.flatMap (ins c)).length=f.length*(j+1):=by
 induction f with
 |nil=>intro _;simp
 |cons o f ih =>
  intro h;rw [List.flatMap_cons,yN,ih λa ha=>h a (yW _ ha),yF,Nat.succ_mul];have:(ins c o).length=j+1:=by unfold ins;rw [yZ,uZ,h o yU]
  omega
theorem Nc {g:MG}{f:MS}{x:PV}{ε1 ε2:ME}{o:Option Out}(h1:g x ε=some ε1)(h2:f ε1=some (.nx ε2))(h3:r6 g f xs ε2=o):r6 g f (x::xs) ε=o:=by
 show Option.bind (g x ε) (λε1=>Option.bind (f ε1) λo=>match o with
  | .nx ε2=>r6 g f xs ε2
  | .ct ε2=>r6 g f xs ε2
  | .bk ε2=>some (.nx ε2)
  | .rt y=>some (.rt y))=_
 rw [h1,yK,h2];exact h3
theorem KM {N F:PV}{c:Cl}{j:Nat}(hj:j<=9):∀{f done:List (List Cl)}{s4:MSlot},(∀ o∈f,o.length=j)->done.length+f.length*(j+1)<=lim -> ∃ s4',r6 (v7 4) fIn (f.map y0) [.sh N,.sh F,.sh (.at (.str c.name)),.sh (.lst (done.map y0)),s4]=some (.nx [.sh N,.sh F,.sh (.at (.str c.name)),.sh (.lst ((done++f.flatMap (ins c)).map y0)),s4'])
 |[],done,s4,_,_=>⟨s4,by rw [List.flatMap_nil,yt];rfl⟩
 |o::f,done,s4,h,hd=>by
  have hlim:lim=1000000:=rfl;have ho:=h o yU;have hl:(ins c o).length=j+1:=by unfold ins;rw [yZ,uZ,ho]
  rw [yF,Nat.succ_mul] at hd;obtain ⟨s4',e⟩:=KM hj (N:=N) (F:=F) (c:=c) (f:=f) (done:=done++ins c o) (s4:= .sh (y0 o)) (λa ha=>h a (yW _ ha)) (by rw [yN,hl];omega);refine ⟨s4',?_⟩;rw [List.flatMap_cons,<- yk];have b:fIn [.sh N,.sh F,.sh (.at (.str c.name)),.sh (.lst (done.map y0)),.sh (y0 o)]=some (.nx [.sh N,.sh F,.sh (.at (.str c.name)),.sh (.lst ((done++ins c o).map y0)),.sh (y0 o)]):=by
   refine p7 (x:= .lst ((done++ins c o).map y0)) (w6 (y:= .lst ((List.range (o.length+1)).map λk=>y0 (o.take k++[c]++o.drop k))) rfl (qM (λk:Nat=>PV.at (.int (0+(k:Int)))) (λk=>y0 (o.take k++[c]++o.drop k)) (List.range (o.length+1)) (vy (k:=o.length+1) (y3 (w6 (x:= .at (.int (o.length:Int))) (v5 rfl ?_) rfl rfl) rfl) (by omega)) rfl (by rw [uZ];omega) λk _=>⟨_,rfl,el_ok o c k (by omega)⟩) ?_)
   ·show some (PV.at (.int ((w5 (o.map Cl.name)).length:Int)))=_;rw [vX]
   ·rw [vZ (by rw [yZ,yZ,uZ];omega),yv];unfold ins;rw [yr];rfl
  exact Nc rfl b e
theorem BD:∀{xs:List Cl}{f:List (List Cl)}{j:Nat},(∀ o∈f,o.length=j)->j+xs.length<=4->f.length<=10 ^ j->(zc f xs).length<=10 ^ 4
 |[],f,j,_,hj,hf=>ym hf (um (by decide) (by simpa using hj))
 |x::xs,f,j,h,hj,hf=>by
  rw [yF] at hj;refine BD (xs:=xs) (f:=f.flatMap (ins x)) (j:=j+1) (λo ho=>?_) (by omega) ?_
  ·obtain ⟨a,ha,hi⟩:=List.mem_flatMap.mp ho;rw [(Vv hi).length_eq,yF,h a ha]
  ·rw [KC h,Nat.pow_succ];exact Nat.mul_le_mul hf (by omega)
theorem IJ (h4:cs.length<=4):Jb [y0 cs]=some (.lst ((zc [[]] cs).map y0)):=by
 have hlim:lim=1000000:=rfl;obtain ⟨ε',e',rest⟩:=vT (g:=v7 2) (f:=v3 (u5 3 (qD x6)) (v3 (xb (m5 (q8 1)) (v7 4) fIn) (u5 1 (q8 3)))) (λc:Cl=>PV.at (.str c.name)) (λl ε=>∃(f:List (List Cl))(j:Nat)(s2 s3 s4:MSlot),zc f l=zc [[]] cs/\(∀ o∈f,o.length=j)/\f.length<=10 ^ j/\j+l.length<=4/\ε=[.sh (y0 cs),.sh (.lst (f.map y0)),s2,s3,s4]) (by
   rintro c l ε ⟨f,j,s2,s3,s4,e1,e2,e3,e4,rfl⟩;simp only [yF] at e4;have hp:10 ^ j<=10 ^ 3:=um (by decide) (by omega);have hm:f.length*(j+1)<=10 ^ j*5:=Nat.mul_le_mul e3 (by omega);obtain ⟨s4',e⟩:=KM (N:=y0 cs) (F:= .lst (f.map y0)) (c:=c) (j:=j) (by omega) (f:=f) (done:=[]) (s4:=s4) e2 (by simp;omega);refine ⟨_,_,rfl,w9 (p7 (x:= .lst []) (zW rfl l0)) (w9 (xB rfl e) (p7 rfl)),f.flatMap (ins c),j+1,_,_,_,e1,λo ho=>?_,?_,by omega,rfl⟩
   ·obtain ⟨a,ha,hi⟩:=List.mem_flatMap.mp ho;rw [(Vv hi).length_eq,yF,e2 a ha]
   ·rw [KC e2,Nat.pow_succ];have:10 ^ j*5<=10 ^ j*10:=Nat.mul_le_mul_left _ (by decide);omega) cs [.sh (y0 cs),.sh (.lst [y0 []]),.no,.no,.no] ⟨[[]],0,_,_,_,rfl,by simp,by simp,by omega,rfl⟩
 obtain ⟨f,j,s2,s3,s4,e1,_,_,_,rfl⟩:=rest;have e1:f=zc [[]] cs:=e1;subst e1;exact r9 rfl (w9 (p7 (x:= .lst [y0 []]) (zW (y3 (zW rfl l0) rfl) l1)) (w9 (xB (by show some (w5 (cs.map Cl.name))=_;rw [nm_F]) e') (k9 rfl)))
theorem Iw (ok:d.Ok)(L:Lst d ns)(h:zi d ns=none):Xk C [d.ob C,y0 ns]=some (.at (.bl true)):=by have v:=YW ok L;rw [h] at v;exact r9 rfl (w9 (Qc (v5 rfl (YV ok L (YU ok L)))) (k9 (w6 (v5 (y3 (v5 rfl (CF ok)) rfl) v) rfl rfl)))
theorem Led.cost {fs:List Cl}(r:Led C d ns ms fs):k6 (d.sch d.last d.time fs)<=k6 (d.sch d.last d.time ns):=by
 induction r with
 |done _=>exact uS _
 |turn _ S _ _ ih=>exact uN ih S.cost
def co (d:Dr)(o:List Cl):Int:=k6 (d.sch d.last d.time o)
abbrev ZM (l:List Int):PV:= .lst (l.map λb=>PV.at (.int b))
theorem CC {l:List Int}(h:l≠[]):Xy [ZM l]=some (.at (.int (jA l))):=by show (js (l.map λb=>PV.at (.int b))).bind _=_;rw [Vx,yK,if_neg h]
theorem La {K:Fg}{Eo:LQ}:∀ ns:List Int,ns.length<=63->Ga K Eo Aa (.sh (scr K ns)::List.replicate ((["script","parts","works","names","costs","ordered","plan","led"]:List Str).length-1) .no) (λ_=>False) λy _=>y = .at (.bl true):=by
 intro ns h63;have hlim:lim=1000000:=rfl;refine ⟨_,rfl,_,rfl,⟨ns,4,rfl,h63,by decide⟩,?_⟩;rintro _ ⟨d,z,m,em,rfl,ok,hm⟩;have m4:d.cls.length<=4:=by injection em with _ em;injection em with em _;injection em with em;injection em with em;omega
 refine ⟨d.ob Aa,v5 (y3 (w6 rfl rfl rfl) (y3 (w6 rfl rfl rfl) (y3 (w6 rfl rfl rfl) (y3 (w6 rfl rfl rfl) rfl)))) (Ix ok),?_⟩;refine ⟨y0 d.cls,(qM Cl.pv (λc=>PV.at (.str c.name)) d.cls (vL (w6 rfl rfl rfl)) rfl (by omega) λc _=>⟨_,rfl,w6 rfl rfl rfl⟩).trans (by unfold y0;rw [nm_F]),?_⟩;refine ⟨_,zW rfl l0,_,zW rfl l0,?_⟩;have L0:Lst d d.cls:=⟨λ_ h=>h,ok.nd⟩;have pa:∀ o∈zc [[]] d.cls,o.Perm d.cls:=BE (ys:=[]) (by simp);have al:∀ o:List Cl,o.Perm d.cls->o∈zc [[]] d.cls:=BC (ys:=[]) λl h=>by rw [List.perm_nil.mp h];exact yU
 refine ⟨_,vL (v5 rfl (IJ m4)),?_⟩;refine VM (λrest ε=>∃(rs done:List (List Cl))(ls:List Int)(s6 s7:MSlot),rest=rs.map y0/\done++rs=zc [[]] d.cls/\(∀ y∈ls,∃ o∈zc [[]] d.cls,y=co d o)/\(∀ o∈done,∃ y∈ls,y<=co d o)/\done.length=ls.length /\
  ε=[.sh (scr K ns),.sh d.pv,.sh (d.ob Aa),.sh (y0 d.cls),.ow (ZM (done.map (co d))),.ow (ZM ls),s6,s7]) ?_ ?_ _ _ ⟨_,[],[],_,_,rfl,rfl,(λ_ z=>nomatch z),(λ_ z=>nomatch z),rfl,rfl⟩
 ·rintro ε ⟨rs,done,ls,s6,s7,e1,e2,e3,e4,e5,rfl⟩;have:rs=[]:=by
   cases rs with
   |nil=>rfl
   |cons _ _=>cases e1
  subst this;rw [yt] at e2;have hd:d.cls∈done:=by rw [e2];exact al _ (.refl _)
  have n1:done.map (co d)≠[]:=λz=>by rw [List.map_eq_nil_iff] at z;rw [z] at hd;cases hd
  have n2:ls≠[]:=λz=>by
   obtain ⟨y,hy,_⟩:=e4 _ hd;rw [z] at hy;cases hy
  have q:jA (done.map (co d))=jA ls:=by
   refine Int.le_antisymm ?_ ?_
   ·obtain ⟨o,ho,e⟩:=e3 _ (Xs n2);rw [e];exact Qp (yz.mpr ⟨o,by rw [e2];exact ho,rfl⟩)
   ·obtain ⟨o,ho,e⟩:=yz.mp (Xs n1);obtain ⟨y,hy,le⟩:=e4 o ho;rw [<- e];exact uN (Qp hy) le
  refine ⟨.at (.bl true),w6 (v5 rfl (CC n1)) (v5 rfl (CC n2)) ?_,rfl⟩;rw [q];exact (wZ _ _).trans (by rw [yG rfl])
 ·rintro x rest ε ⟨rs,done,ls,s6,s7,e1,e2,e3,e4,e5,rfl⟩;cases rs with
  |nil=>cases e1
  |cons o rs =>
   injection e1 with e1 e1';subst e1 e1';have hl:done.length<=10 ^ 4:=by have a:=BD (xs:=d.cls) (f:=[[]]) (j:=0) (by simp) (by omega) (by simp);rw [<- e2,yN] at a;omega
   have ho:o∈zc [[]] d.cls:=by rw [<- e2];exact yw _ yU
   have L:=L0.perm (pa o ho);have l10:=L.len ok;obtain ⟨ms,fs,r,hm⟩:=Bi Aa ok 90 L (Lj l10);have pm:=r.perm;have Lf:=L.perm pm;have p0:fs.Pairwise λa b=>¬ xL 1 a b:=(HX ok Lf).mp r.last;have f10:=Lf.len ok;have v4:=IU (C:=Aa) Eo ok L r (by omega);have w:=Fa (xs:=w5 (o.map Cl.name)) (ms:=ms) (by rw [vX];exact r.lt) (by rw [vX];omega);rw [r.walk] at w;have v2:=Iv ok Lf 1;rw [yG p0] at v2;have w1:=CD (ss:=fs.map Cl.name) (by rw [yZ];omega);have w2:=CD (ss:=d.cls.map Cl.name) (by rw [yZ];omega);rw [Sw ((pm.trans (pa o ho)).map Cl.name)] at w1;refine ⟨_,rfl,y0 fs,v5 (y3 rfl (y3 (v5 rfl v4) rfl)) w,?_⟩;refine QF (jW (n8 (v:=false) (w6 (v5 rfl w1) (v5 rfl w2) (BG (RB _)))) (jW (xA (xI (v5 rfl v2))) (n8 (v:=false) (w6 (v5 rfl (Iw ok Lf r.last)) rfl rfl)))) ?_;refine ⟨⟨_,rfl⟩,_,v5 rfl (Cz ok L),_,rfl,(by rw [yZ,yZ];omega),?_⟩;refine ⟨⟨_,rfl⟩,_,v5 rfl (Cz ok Lf),_,rfl,(by rw [yZ];omega),?_⟩;refine QF (n8 (v:=false) (w6 (w6 rfl rfl (Ut (x:= .at (.int (co d fs))) (by simp;rfl))) (w6 rfl rfl (Ut (x:= .at (.int (co d o))) (by simp;rfl))) ?_)) ?_
   ·have:=r.cost;show some (PV.at (.bl (decide (co d o<co d fs))))=_;rw [yI (by unfold co;omega)]
   ·refine ⟨rs,done++[o],ls++[co d fs],.sh (y0 o),.sh (y0 fs),rfl,by rw [yk];exact e2,λy hy=>?_,λa ha=>?_,by simp [e5],?_⟩
    ·rcases yc.mp hy with hy|hy
     ·exact e3 y hy
     ·exact ⟨fs,al fs (pm.trans (pa o ho)),yJ.mp hy⟩
    ·rcases yc.mp ha with ha|ha
     ·obtain ⟨y,hy,le⟩:=e4 a ha;exact ⟨y,uQ _ hy,le⟩
     ·rw [yJ.mp ha];exact ⟨co d fs,yw _ yU,r.cost⟩
    ·unfold ZM;rw [yv,yv,yv];rfl
theorem Hh (F:Fun K "law" "law" wn f fd)(J6:Fn P w K mg base 3 "_law_cost" ["parts","names"] (j8 Xi))(Eh:Fn P w K mg base 2 "_law_in_order" ["parts","names","way"] (j8 ZV))(Ei:Fn P w K mg base 9 "in_steep" ["works","names"] (j8 (Xk Aa)))(Ey:Fn P w K mg base 1 "_law_orders" ["names"] (j8 Jb))(J9:Fn P w K mg base 4 "_law_parts" ["script","most"] (spV (XE K) wI))(Eg:Fn P w K mg base 10 "to_steep" ["works","names"] (p5 (Xq (LQ.mk P w K mg base) Aa)))(Et:Fn P w K mg base 2 "walked" ["names","moves"] (j8 Jd))(Ew:mg "min"=none)(As:mg "sorted"=none)(N2:mg "Works"=some (.ref Aa))(J7:Mkr P w K mg base 5 Aa ["self","rinses","cloths","last","time"] (spI Aa (Qk Aa))):FnOk P w K mg base v6 11 f fd ["script"] (XS K) :=
 okL (k:=10) (b:=Ga K (LQ.mk P w K mg base) Aa) F sc_law (λcdv A outer s H E hr=>⟨_,(j3 (sW 1 sc_law.nd (fW J9 hr (aC (pv 0) (aW z0))))
  (j3 (sW 2 sc_law.nd (pe_mk J7 hr (by decide) rfl N2 (aC (iW (K:=K) rfl (pv 1) z0) (aC (iW (K:=K) rfl (pv 1) z0) (aC (iW (K:=K) rfl (pv 1) z0) (aW (iW (K:=K) rfl (pv 1) z0)))))))
  (j3 (vt (i:=3) (N':=["cloth"]) (cap:=[none]) (i6 rfl rfl rfl) rfl sc_law.nd rfl rfl (@i7 _ K _ _ _ rfl (iW (K:=K) rfl (pv 1) z0)) (λ_ _ _ _ _ _=>(c9 (i:=0) (by show (["cloth"]:List Str).Nodup;decide +kernel) rfl (Or.inl rfl))) (λ_ _ _ _ _ _=>o9) (λ_ _ _ _ _ _=>(iW (K:=K) rfl (pv 0) z0)))
  (j3 (sW 4 sc_law.nd (@xD _ _ _ _ u9))
  (j3 (sW 5 sc_law.nd (@xD _ _ _ _ u9))
  (j3 (qR PassesOwn.never rfl (@i7 _ K _ _ _ rfl (fW Ey hr (aW (pv 3)))) (gW 6 sc_law.nd)
   (j3 (sW 7 sc_law.nd (fW Et hr (aC (pv 6) (aW (fW Eg hr (aC (pv 2) (aW (pv 6))))))))
  (j3 (i8 (PW.pt (vw (qq (Jj (K:=K) (hu6 hr) rfl) (c8 (JV (K:=K) rfl rfl) rfl As Zp (aW (pv 7))) (c8 (JV (K:=K) rfl rfl) rfl As Zp (aW (pv 3))) (i5 _)) (vw (xw (xg (K:=K) rfl (fW Eh hr (aC (pv 1) (aC (pv 7) (aW z0)))) (λ_=>rfl))) (QB (qq (HS) (fW Ei hr (aC (pv 2) (aW (pv 7)))) zH (i5 _)))))) (j5 (y6 zH)) i9)
  (j3 (zl (jF (K:=K) rfl PySem.F.plainAttrs_list PySem.F.slot_list_append PySem.F.type_list_append Qq (pv 4) (v8 (fW J6 hr (aC (pv 1) (aW (pv 6)))) u9)))
  (j3 (zl (jF (K:=K) rfl PySem.F.plainAttrs_list PySem.F.slot_list_append PySem.F.type_list_append Qq (pv 5) (v8 (fW J6 hr (aC (pv 1) (aW (pv 7)))) u9)))
  (j5 (i8 (qq (VZ) (iW (K:=K) rfl (pv 5) (Jn JB z0)) (iW (K:=K) rfl (pv 4) (Jn JB z0)) (i5 _)) (j5 (y6 zH)) i9)))))))
  (j5 (y6 (jG (jC (K:=K) (hu6 hr) rfl) (c8 (GP (K:=K) rfl rfl) rfl Ew JS (aW (pv 4))) (c8 (GP (K:=K) rfl rfl) rfl Ew JS (aW (pv 5))) (i5 _)))))))))),
  (by repeat' first|infer_instance|(refine @Mi.instSemWSTSeqWSeq _ _ _ _ ?_ ?_)|(apply @Mi.instSemWSTForWForOfSemWIOfSemWG))⟩) La
theorem Du {K:Fg}{fd:FuncData}{T:Addr}{ob:Obj}{items:Array Value}{n:Nat}(hd:fd.defaults = .ref T)(q:K.lookup T=some ob)(hs:ob.data = .seq items n)(h:∀ us:List Value,us.length=ps.length->∃ k:Option (Array Value)->Sem (List (Str×Value)),bindArgs fd ⟨us,[]⟩=seqItems? fd.defaults >>= k/\k (some items)=pure (ps.zip us)):Binds K fd ps []:=λs us X hl=>by
 rw [yt] at hl ⊢;obtain ⟨k,e1,e2⟩:=h us hl;exact BindsTo.of_defaults hd (X _ _ q) hs e1 e2
abbrev so (f:Addr):Option (Option Value):=some (some (.ref f))
abbrev fO (oc:Value)(od:Option Addr)(x q:Str)(st:Stmt)(dV kV dc pm:Value)(an:Option Addr)(cd ct:Value)(sl:Array (Option Value)):Option Obj:=some ⟨oc,od,.func (PySem.W.fnOf x q (xU st) (qo st) (j7 st) dV kV dc pm an cd ct),sl⟩
theorem fnM (P:Program)(w:World)(base:Heap){K:Fg}{mg:Str->Option Value}{k:Nat}{f:Addr}{fd:FuncData}{sp:Sp}{x:Str}(h:FnOk P w K mg base v6 k f fd ps sp)(a:mg x=some (.ref f))(kp:PySem.W.keepIn K (.ref f)=true)(b:Binds K fd ps []):Fn P w K mg base k x ps sp:=⟨f,fd,h,a,kp,b⟩
theorem bi1 {K:Fg}{x:Str}{f:Addr}{fd:FuncData}{p:Str}(F:Fun K x qual st f fd)(h:∀(kV doc pm:Value)(an:Option Addr)(cdv ct u:Value),bindArgs (PySem.W.fnOf x qual (xU st) (qo st) (j7 st) .none kV doc pm an cdv ct) ⟨[u],[]⟩=pure [(p,u)]):Binds K fd [p] []:=F.binds λa b c d e g us hl=>match us,hl with|[_],_=>h a b c d e g _
theorem bi2 {K:Fg}{x:Str}{f:Addr}{fd:FuncData}{p:Str}(F:Fun K x qual st f fd)(h:∀(kV doc pm:Value)(an:Option Addr)(cdv ct u v:Value),bindArgs (PySem.W.fnOf x qual (xU st) (qo st) (j7 st) .none kV doc pm an cdv ct) ⟨[u,v],[]⟩=pure [(p,u),(q,v)]):Binds K fd [p,q] []:=F.binds λa b c d e g us hl=>match us,hl with|[_,_],_=>h a b c d e g _ _
structure Zt (P:Program)(w:World)(K:Fg)(mg:Str->Option Value)(base h:Heap):Prop where
 X:K.In h
 G:h.Ns mainGlobals mg
def FG (K:Fg)(x:Str)(st:Stmt):Prop:=∃ f oc od kV dc pm an cd ct sl,PySem.W.nsIn K mainGlobals x=so f/\K.lookup f=fO oc od x x st .none kV dc pm an cd ct sl/\PySem.W.codeIn K cd x=true/\PySem.W.keepIn K (.ref f)=true
theorem FG.i {K:Fg}{x:Str}{f:Addr}{kV:Value}(a:PySem.W.nsIn K mainGlobals x=so f)(l:K.lookup f=fO oc od x x st .none kV dc pm an cd ct sl)(c:PySem.W.codeIn K cd x=true)(k:PySem.W.keepIn K (.ref f)=true):FG K x st:=⟨_,_,_,_,_,_,_,_,_,_,a,l,c,k⟩
def FM (K:Fg)(C:Addr)(x q:Str)(st:Stmt):Prop:=∃ f oc od kV dc pm an cd ct sl,PySem.W.findIn K (.ref C) x=so f/\PySem.W.isFn K (.ref f)=true/\K.lookup f=fO oc od x q st .none kV dc pm an cd ct sl/\PySem.W.codeIn K cd q=true/\PySem.W.keepIn K (.ref f)=true
theorem FM.i {K:Fg}{x:Str}{f:Addr}{kV:Value}(a:PySem.W.findIn K (.ref C) x=so f)(i:PySem.W.isFn K (.ref f)=true)(l:K.lookup f=fO oc od x q st .none kV dc pm an cd ct sl)(c:PySem.W.codeIn K cd q=true)(k:PySem.W.keepIn K (.ref f)=true):FM K C x q st:=⟨_,_,_,_,_,_,_,_,_,_,a,i,l,c,k⟩
abbrev BdA (x q:Str)(st:Stmt)(ps:List Str):Prop:=∀(kV doc pm:Value)(an:Option Addr)(cdv ct:Value)(us:List Value),us.length=ps.length->bindArgs (PySem.W.fnOf x q (xU st) (qo st) (j7 st) .none kV doc pm an cdv ct) ⟨us,[]⟩=pure (ps.zip us)
section
variable {P:Program}{w:World}{K:Fg}{mg:Str->Option Value}{base h:Heap}{k:Nat}{ps:List Str}{sp:Sp}{x q:Str}{st:Stmt}{C:Addr}
theorem fG (Z:Zt P w K mg base h)(a:FG K x st)(H:∀{f fd},Fun K x x st f fd->FnOk P w K mg base v6 k f fd ps sp)(b:BdA x x st ps:=by intro _ _ _ _ _ _ us hl;first|exact (match us,hl with|[_],_=>rfl)|exact (match us,hl with|[_,_],_=>rfl)|exact (match us,hl with|[_,_,_],_=>rfl)|exact (match us,hl with|[_,_,_,_],_=>rfl)|exact (match us,hl with|[_,_,_,_,_],_=>rfl)):Fn P w K mg base k x ps sp:=by obtain ⟨f,oc,od,kV,dc,pm,an,cd,ct,sl,a,l,c,kp⟩:=a;exact ⟨f,_,H (vN l c kp),PySem.W.mg_of Z.X Z.G a,kp,(vN l c kp).binds b⟩
theorem fM (Z:Zt P w K mg base h)(kc:zg K C)(a:FM K C x q st)(H:∀{f fd},Fun K x q st f fd->FnOk P w K mg base v6 k f fd ps sp)(b:BdA x q st ps:=by intro _ _ _ _ _ _ us hl;first|exact (match us,hl with|[_],_=>rfl)|exact (match us,hl with|[_,_],_=>rfl)|exact (match us,hl with|[_,_,_],_=>rfl)|exact (match us,hl with|[_,_,_,_],_=>rfl)|exact (match us,hl with|[_,_,_,_,_],_=>rfl)):Mt P w K mg base k C x ps sp:=by obtain ⟨f,oc,od,kV,dc,pm,an,cd,ct,sl,a,i,l,c,kp⟩:=a;exact ⟨f,_,H (vN l c kp),⟨a,i,kp⟩,kc.c,(vN l c kp).binds b⟩
end
theorem all_mk {l:PySem.W.OpenLaw}{w:World}{K:Fg}{h:Heap}{mg:Str->Option Value}{fa f36 f52 f54 f60:Addr}{od36 od52 od54 od60 an36 an52 an54 an60:Option Addr}{sl36 sl52 sl54 sl60:Array (Option Value)}{oc36 oc52 oc54 oc60 kV36 kV52 kV54 kV60 dc36 dc52 dc54 dc60 pm36 pm52 pm54 pm60 ct36 ct52 ct54 ct60 cd54 cd60:Value}{cc36 cc52:Addr}{T54:Addr}{qc54 qv54_0 qv54_1:Value}{qd54:Option Addr}{qn54:Nat}{qs54:Array (Option Value)}(X:K.In h)(TT:∀ P∈[212,305],h.get? P=some (PySem.W.tabObj #[]))(hTB:TABS=[(212,#[],[((⟨61,30,61,109⟩:Pos),("by_steepness.<locals>.<lambda>":Str))]),(305,#[],[((⟨136,46,136,96⟩:Pos),("to_steep.<locals>.<lambda>":Str))])])(G:h.Ns mainGlobals mg)(hfa:mg "law"=some (.ref fa))(R9:W.nsIn K mainGlobals "Works"=some (some (.ref Aa)))(Q7:PySem.W.plainGet K Aa Str.empty=true)(Q8:PySem.W.hasDictIn K Aa=true)(R1:PySem.W.plainOver K Aa=true)(Q6:W.findIn K (.ref Aa) "__setattr__"=some (some (.builtin "object.__setattr__")))(Q4:PySem.W.makesIn K Aa=true)(Q9:W.keepIn K (.ref Aa)=true)(E8:W.findIn K (.ref Aa) "given"=some none)(J1:W.findIn K (.ref Aa) "held"=some none)(J4:W.findIn K (.ref Aa) "last"=some none)(E2:W.findIn K (.ref Aa) "least"=some none)(J3:W.findIn K (.ref Aa) "time"=some none)(a0:FG K "_law_mixed" Yo)(a1:FG K "_law_digit" WU)(a2:FG K "_law_stream" Jt)(a3:FG K "_law_number" Yu)(a4:FG K "_law_rinses" Yx)(a5:FG K "_law_names" Ys)(a6:FG K "_law_cloth" WP)(a7:FG K "_law_parts" Yw)(a8:FG K "_law_least" Yj)(a9:FG K "is_whole" Yh)(a10:FG K "name_of" Yr)(a11:FG K "hue_of" WZ)(a12:FG K "length_of" Ym)(a13:FG K "due_of" WW)(a14:FG K "weight_of" YG)(a15:FG K "is_from" Yd)(a16:FG K "is_name" Yf)(a17:FG K "is_cloth" Yc)(a18:FG K "is_rinse_row" Yg)(a19:FG K "check_rinses" WN)(a20:FG K "straight_ways" YA)(a21:FG K "joined" Yi)(a22:FG K "lesser" Yn)(a23:FG K "ways_through" YF)(a24:FG K "least_ways" Yl)(a25:FG K "sums_of" YB)(a26:FG K "least_rinses" Yk)(a27:FG K "check_start" WO)(a28:FG K "check_cloths" WK)(a29:FM K Aa "hues" "Works.hues" WC)(a30:FM K Aa "tray_rinse" "Works.tray_rinse" WH)(a31:FM K Aa "rinse" "Works.rinse" WE)(a32:FM K Aa "start" "Works.start" WF)(a33:FM K Aa "names" "Works.names" WD)(a34:FM K Aa "cloth" "Works.cloth" Wz)(a35:FG K "names_of" Yt)(a36:W.nsIn K mainGlobals "by_steepness"=so f36)(l36:K.lookup f36=fO oc36 od36 "by_steepness" "by_steepness" Js .none kV36 dc36 pm36 an36 (.ref cc36) ct36 sl36)(c36:W.codeIn K (.ref cc36) "by_steepness"=true)(k36:W.keepIn K (.ref f36)=true)(a37:FM K Aa "cloths_in" "Works.cloths_in" WB)(a38:FM K Aa "steep_row" "Works.steep_row" WG)(a39:FG K "are_names" WJ)(a40:FG K "check_names" WL)(a41:FG K "steep_rows" Yz)(a42:FG K "turned_in" YC)(a43:FG K "turned_pair" YD)(a44:FG K "done_rows" WV)(a45:FG K "ended_cloths" WX)(a46:FG K "cost_of" WR)(a47:FG K "moved" Yp)(a48:FG K "is_move" Ye)(a49:FG K "walked" YE)(a50:FG K "steep_move" Yy)(a51:FG K "moves_to" Yq)(a52:W.nsIn K mainGlobals "to_steep"=so f52)(l52:K.lookup f52=fO oc52 od52 "to_steep" "to_steep" Ju .none kV52 dc52 pm52 an52 (.ref cc52) ct52 sl52)(c52:W.codeIn K (.ref cc52) "to_steep"=true)(k52:W.keepIn K (.ref f52)=true)(a53:FG K "in_steep" Yb)(a54:W.findIn K (.ref Aa) "__init__"=so f54)(i54:W.isFn K (.ref f54)=true)(l54:K.lookup f54=fO oc54 od54 "__init__" "Works.__init__" wm (.ref T54) kV54 dc54 pm54 an54 cd54 ct54 sl54)(c54:W.codeIn K cd54 "Works.__init__"=true)(k54:W.keepIn K (.ref f54)=true)(q54:K.lookup T54=some ⟨qc54,qd54,.seq #[qv54_0,qv54_1] qn54,qs54⟩)(a55:FG K "_law_ends" WY)(a56:FG K "_law_cost" WQ)(a57:FG K "_law_ahead" WI)(a58:FG K "_law_in_order" Ya)(a59:FG K "_law_orders" Yv)(a60:W.nsIn K mainGlobals "law"=so f60)(l60:K.lookup f60=fO oc60 od60 "law" "law" wn .none kV60 dc60 pm60 an60 cd60 ct60 sl60)(c60:W.codeIn K cd60 "law"=true)(k60:W.keepIn K (.ref f60)=true)(S6:W.nsIn K mainGlobals "all"=some none)(S2:W.nsIn K mainGlobals "bool"=some none)(S1:W.nsIn K mainGlobals "dict"=some none)(N6:W.nsIn K mainGlobals "enumerate"=some none)(S9:W.nsIn K mainGlobals "int"=some none)(J5:W.nsIn K mainGlobals "isinstance"=some none)(S5:W.nsIn K mainGlobals "len"=some none)(S0:W.nsIn K mainGlobals "list"=some none)(T0:W.nsIn K mainGlobals "min"=some none)(R7:W.nsIn K mainGlobals "range"=some none)(S4:W.nsIn K mainGlobals "set"=some none)(Q2:W.nsIn K mainGlobals "sorted"=some none)(S7:W.nsIn K mainGlobals "str"=some none)(S8:W.nsIn K mainGlobals "sum"=some none)(R6:W.nsIn K mainGlobals "tuple"=some none)(S3:W.nsIn K mainGlobals "zip"=some none)(Ev:W.nsIn K mainGlobals "LONGEST_NAME"=some (some (.int 8 A9)))(E7:W.nsIn K mainGlobals "MOST_CLOTHS"=some (some (.int 10 B8)))(N5:W.nsIn K mainGlobals "MOST_HUES"=some (some (.int 4 D9)))(R8:W.nsIn K mainGlobals "PARTS"=some (some (.int 5 N4)))(hC36:PySem.W.codeHdIn K cc36 212=true)(o36:K.lookup 212=none)(hC52:PySem.W.codeHdIn K cc52 305=true)(o52:K.lookup 305=none):∃ fd:FuncData,(∀ (s:Shared) (v:Value),BindsTo s fd ⟨[v],[]⟩ [("script",v)])/\wQ K h/\∀ base:Heap,K.In base->base.Ns mainGlobals mg->FnOk l.prog w K mg base v6 11 fa fd ["script"] (XS K):=by
 have e:=hfa.symm.trans (W.mg_of X G a60);cases e;have Az:=W.mg_none_of X G S6;have N7:=W.mg_none_of X G S2;have D6:=W.mg_none_of X G S1;have Ai:=W.mg_none_of X G N6;have N9:=W.mg_none_of X G S9;have Ab:=W.mg_none_of X G J5;have Ad:=W.mg_none_of X G S5;have Al:=W.mg_none_of X G S0;have Ew:=W.mg_none_of X G T0;have Ac:=W.mg_none_of X G R7;have Q5:=W.mg_none_of X G S4;have As:=W.mg_none_of X G Q2;have E9:=W.mg_none_of X G S7;have Ea:=W.mg_none_of X G S8;have N3:=W.mg_none_of X G R6;have Id:=W.mg_none_of X G S3;have A4:=W.mg_of X G Ev;have B9:=W.mg_of X G E7;have D8:=W.mg_of X G N5;have N1:=W.mg_of X G R8;have N2:=W.mg_of X G R9;have B4:zg K Aa:=⟨⟨Q7,Q8,R1,Q6⟩⟩;have Q1:qK K Aa "given":=⟨E8⟩;have R5:qK K Aa "held":=⟨J1⟩;have R3:qK K Aa "last":=⟨J4⟩;have Q0:qK K Aa "least":=⟨E2⟩;have R4:qK K Aa "time":=⟨J3⟩;have F36:=vN (st:=Js) l36 c36 k36;have F52:=vN (st:=Ju) l52 c52 k52;have F54:=MJ (st:=wm) l54 c54 k54;have F60:=vN (st:=wn) l60 c60 k60;have b36:=bi1 (p:="cloths") F36 λ_ _ _ _ _ _ _=>rfl;have b52:=bi2 (p:="works") (q:="names") F52 λ_ _ _ _ _ _ _ _=>rfl;have b54:Binds K (W.fnOf "__init__" "Works.__init__" (xU wm) (qo wm) (j7 wm) (.ref T54) kV54 dc54 pm54 an54 cd54 ct54) ["self","rinses","cloths","last","time"] []:=Du (T:=T54) rfl q54 rfl λus hl=>match us,hl with|[_,_,_,_,_],_=>⟨_,rfl,rfl⟩
 have tB36:(212,#[],[((⟨61,30,61,109⟩:Pos),("by_steepness.<locals>.<lambda>":Str))])∈TABS:=by rw [hTB];simp
 have tB52:(305,#[],[((⟨136,46,136,96⟩:Pos),("to_steep.<locals>.<lambda>":Str))])∈TABS:=by rw [hTB];simp
 have TK:wQ K h:=by
  have hd36:=PySem.W.codeHd_of_K X hC36;have hd52:=PySem.W.codeHd_of_K X hC52;refine ⟨λp hp=>?_,λp hp=>?_,λp hp q hq=>?_,λp hp=>?_,λp hp q hq e=>?_,λp hp=>?_⟩<;>rw [hTB] at hp<;>(try rw [hTB] at hq)<;>simp only [yH,ye,or_false] at hp
  ·rcases hp with rfl|rfl
   ·exact TT 212 (by simp)
   ·exact TT 305 (by simp)
  ·rcases hp with rfl|rfl
   ·exact trivial
   ·exact trivial
  ·rcases hp with rfl|rfl
   ·rfl
   ·rfl
  ·rcases hp with rfl|rfl
   ·exact (hd36.tab (TT 212 (by simp))).isCodeTable
   ·exact (hd52.tab (TT 305 (by simp))).isCodeTable
  ·simp only [yH,ye,or_false] at hq;rcases hp with rfl|rfl<;>rcases hq with rfl|rfl<;>first|rfl|exact absurd e (by decide)
  ·rcases hp with rfl|rfl
   ·exact o36
   ·exact o52
 refine ⟨W.fnOf "law" "law" (xU wn) (qo wn) (j7 wn) .none kV60 dc60 pm60 an60 cd60 ct60,λs v=> .of_eq rfl,TK,λbase _ _=>?_⟩;have Z:Zt l.prog w K mg base h:=⟨X,G⟩;have Em:=fG Z a0 λF=>Hn F;have Ae:=fG Z a1 λF=>NR F;have El:=fG Z a2 λF=>HD F Em Ad Ac Ea;have Av:=fG Z a3 λF=>Hv F Ae;have Es:=fG Z a4 λF=>Hz F Ae Av Ac;have J0:=fG Z a5 λF=>Ht F Ae Ad Ac;have J2:=fG Z a6 λF=>NO F Ae Av;have J9:=fG Z a7 λF=>Hy F J2 Ae J0 Av Es El;have N0:=fG Z a8 λF=>Hi F Ad Al Ew Ac;have An:=fG Z a9 λF=>Hf F N7 N9 Ab;have Af:=fG Z a10 λF=>Hr F;have Ap:=fG Z a11 λF=>NW F;have Aj:=fG Z a12 λF=>Hl F;have Eu:=fG Z a13 λF=>NT F;have Ah:=fG Z a14 λF=>HL F;have Aq:=fG Z a15 λF=>Ha F An;have En:=fG Z a16 λF=>Hd F Az Ab Ad E9 A4;have Ef:=fG Z a17 λF=>NZ F Eu Ap Aq En An Aj Af Ah Ab Ad N3 N1;have A7:=fG Z a18 λF=>He F An Az Ab Ad Al;have A8:=fG Z a19 λF=>NM F A7 Az Ab Ad Al D8;have Ax:=fG Z a20 λF=>HC F Ai;have Ex:=fG Z a21 λF=>Hg F;have Ez:=fG Z a22 λF=>Hm F;have A6:=fG Z a23 λF=>HK F Ex Ez Id;have D5:=fG Z a24 λF=>Hk F Ax A6 Ad Ac;have Er:=fG Z a25 λF=>HF F;have A5:=fG Z a26 λF=>Hj F A8 D5 Er;have B5:=fG Z a27 λF=>NN F Aq;have B0:=fG Z a28 λF=>NK F Ef Af Ad B9;have Am:=fM (sp:=(j8 (jv Aa))) Z B4 a29 λF=>NA F Ad;have At:=fM (sp:=(j8 (Xh Aa))) Z B4 a30 λF=>NG F;have B7:=fM (sp:=(j8 (Ql Aa))) Z B4 a31 λF=>ND F At;have D4:=fM (sp:=(j8 (Xg Aa))) Z B4 a32 λF=>NE F;have B6:=fM (sp:=(p5 (Xf Aa))) Z B4 a33 λF=>NC F As;have Ao:=fM (sp:=(j8 (vb Aa))) Z B4 a34 λF=>Ny F Ab E9;have Ek:=fG Z a35 λF=>Hu F Af;have B3:=fnM l.prog w base (NJ F36 Aj Af Ah As rfl (λ_ X2=>PySem.W.codeHd_of_K X2 hC36) tB36) (W.mg_of X G a36) k36 b36;have Au:=fM (sp:=(p5 (Xe Aa))) Z B4 a37 λF=>Nz F Ap;have Aw:=fM (sp:=(p5 (Qm Aa))) Z B4 a38 λF=>NF F B3 Ek Au;have Ec:=fG (sp:=(j8 (vV Aa))) Z a39 λF=>NI F Az Ab Ad Al Q5 B6;have Ag:=fG (sp:=(j8 (jw Aa))) Z a40 λF=>NL F Ec;have Ar:=fG (sp:=(p5 (vW Aa))) Z a41 λF=>HB F Ac Am Aw;have Ed:=fG Z a42 λF=>HH F Ai Id;have Ak:=fG Z a43 λF=>HI F Ed;have Eb:=fG (sp:=(p5 (Qn Aa))) Z a44 λF=>NS F Ag Ap Aj Ao B7 D4;have A3:=fG (sp:=(p5 (Xj Aa))) Z a45 λF=>NU F Eb Ao;have Ee:=fG (sp:=(j8 (jx Aa))) Z a46 λF=>NQ F A3 Ah Ea;have Ay:=fG Z a47 λF=>Ho F;have Ep:=fG Z a48 λF=>Hc F Az;have Et:=fG Z a49 λF=>HJ F Ep Ay Ai Ad Al;have D7:=fG (sp:=(j8 (vf Aa))) Z a50 λF=>HA F Ee Ay;have Ej:=fG (sp:=(XT (Xo (LQ.mk l.prog w K mg base)))) Z a51 λF=>Hq F Ay Ak Al;have Eg:Fn l.prog w K mg base _ _ _ (p5 (Xq (LQ.mk l.prog w K mg base) Aa)):=⟨_,_,HG F52 Ag Ej D7 Ar rfl (λ_ X2=>PySem.W.codeHd_of_K X2 hC52) tB52,W.mg_of X G a52,k52,b52⟩;have Ei:=fG (sp:=(j8 (Xk Aa))) Z a53 λF=>NY F Ag Ar Ak;have J7:Mkr l.prog w K mg base _ Aa _ (spI Aa (Qk Aa)):=⟨_,_,NB F54 B0 B5 A5 Af D6 Al Am,⟨Q4,a54,i54,Q9⟩,b54⟩;have N8:=fG Z a55 λF=>NV F N0 D6;have J6:=fG Z a56 λF=>NP F N8 Ea;have J8:=fG Z a57 λF=>NH F;have Eh:=fG Z a58 λF=>NX F J8 D6 Ad Ac;have Ey:=fG Z a59 λF=>Hw F Ad Ac;exact Hh F60 J6 Eh Ei Ey J9 Eg Et Ew As N2 J7
theorem walk {l:PySem.W.OpenLaw}{q:Program}{loose:List Str}{XP:(Str->Option Value)->Heap->Prop}{YP:World->Heap->Prop}{d:DefRec}{K:Params->Fg}(hn:l.most=some 63)(hdf:d.params.defaults=[])(hY:∀ (w:World) (h:Heap),YP w h->(K w.params).In h)(F:∀ (w:World) (mg:Str->Option Value) (fa:Addr) (h:Heap),YP w h->(K w.params).In h->h.Ns mainGlobals mg->mg d.name=some (.ref fa) -> ∃ fd:FuncData,(∀ (s:Shared) (u:Value),BindsTo s fd ⟨[u],[]⟩ [("script",u)])/\wQ (K w.params) h/\∀ base:Heap,(K w.params).In base->base.Ns mainGlobals mg->FnOk l.prog w (K w.params) mg base v6 11 fa fd ["script"] (XS (K w.params))):PySem.W.WalkO q loose XP YP l.row.toRowW d [] (λf vs=>PySem.call f vs) :=
 L2.IZ (n:=63) (k:=11) (x:="script") (CX:=λ_=>v6) (sp:=λw=>XS (K w.params)) hn (by decide) hdf ⟨rfl,by decide,by decide⟩ hY F (λ_ _ a ns hl _ hS=>⟨a,ns,rfl,hS,hl,λ_=>rfl⟩) λ_ _ _ _ _ z=>z
end Lw
open PySem PySem.W PyProof.Rows
set_option maxRecDepth 100000 in
set_option maxHeartbeats 0 in
theorem PySem.Challenge.cw_rinsework_k25_whole_steep_orders_are_eno_holds : PySem.Challenge.rw_rinsework_k25_whole_steep_orders_are_eno.Holds := by
  w_on; o_law; k_head; (case hw => w_witness2)
  k_fill
  refine Lw.walk (l := PySem.Challenge.rw_rinsework_k25_whole_steep_orders_are_eno) rfl rfl (λw h Y => PySem.W.km_in_of Y) ?F
  case F =>
    intro w mg fa h Y KX G hmg
    apply Lw.all_mk KX (PySem.W.km_tabs_of Y) rfl G hmg
    iterate 12 k_is
    iterate 29 (apply Lw.FG.i;iterate 4 k_is)
    iterate 6 (apply Lw.FM.i;iterate 5 k_is)
    iterate 1 (apply Lw.FG.i;iterate 4 k_is)
    iterate 4 k_is
    iterate 2 (apply Lw.FM.i;iterate 5 k_is)
    iterate 13 (apply Lw.FG.i;iterate 4 k_is)
    iterate 4 k_is
    iterate 1 (apply Lw.FG.i;iterate 4 k_is)
    iterate 6 k_is
    iterate 5 (apply Lw.FG.i;iterate 4 k_is)
    iterate 24 k_is
    iterate 4 kernel_rfl
