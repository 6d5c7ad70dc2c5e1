import PyProof.Rows.All
import Wide.All
import OpenK.AllK
import Wide.FinOn
import Lean
import PyProof.EqAt
import PyProof.EqKinds
import PyProof.NeKinds
import PyProof.TupleCall
import PySem.Challenge.RW_rinsework_k23_whole_moves_to_steep_order
set_option Elab.async false
set_option linter.all false
set_option maxRecDepth 100000
namespace PySem.W.Fast
theorem tw9596550194735401153:True:=trivial
theorem tw17001227372738779364:True:=trivial
theorem tw6737369966899712612:True:=trivial
theorem tw1246194557856363877:True:=trivial
theorem tw11687336437091116230:True:=trivial
theorem tw14944786699652934733:True:=trivial
theorem tw4064324887052641390:True:=trivial
theorem tw11610350673177333168:True:=trivial
theorem tw15381315142960313362:True:=trivial
theorem tw3019055591926117588:True:=trivial
theorem tw3362461803863529108:True:=trivial
theorem tw15321672741756956118:True:=trivial
theorem tw15752866313113981433:True:=trivial
theorem tw1099477478457489211:True:=trivial
theorem tw2415417660997438076:True:=trivial
theorem tw6858296827826478813:True:=trivial
theorem tw8219508644974845757:True:=trivial
theorem tw9386824128075008254:True:=trivial
theorem tw9269827006527523326:True:=trivial
theorem tw2623227272893815743:True:=trivial
theorem tw7843513038746214985:True:=trivial
theorem tw3861700651728082841:True:=trivial
theorem tw17645019280280671762:True:=trivial
theorem tw11143615437770310639:True:=trivial
theorem tw13546672328813659307:True:=trivial
theorem tw1339477311245625702:True:=trivial
theorem tw9060143508859650427:True:=trivial
theorem tw5576524193287933953:True:=trivial
theorem tw1190770517263361632:True:=trivial
theorem tw17274535818375468022:True:=trivial
theorem tw11006673406457851519:True:=trivial
theorem tw5450056818929391123:True:=trivial
theorem tw1153629872640877015:True:=trivial
theorem tw12845464945299969066:True:=trivial
theorem tw6547024913401206682:True:=trivial
theorem tw16465343954452392934:True:=trivial
theorem tw15143629078790407289:True:=trivial
theorem tw14208047453297101339:True:=trivial
theorem tw11001180138307277159:True:=trivial
theorem tw11427453885144535232:True:=trivial
theorem tw2755370059066924477:True:=trivial
theorem tw18099495048056239603:True:=trivial
theorem tw4202934047135385432:True:=trivial
theorem tw5976680442667122342:True:=trivial
theorem tw18029229056530605763:True:=trivial
theorem tw7418904683144358161:True:=trivial
theorem tw17907090334981642973:True:=trivial
theorem tw1371574699995125812:True:=trivial
theorem tw631997506919857796:True:=trivial
theorem tw4241173966722872490:True:=trivial
theorem tw17855731783063547853:True:=trivial
theorem tw6061822942122635227:True:=trivial
theorem tw3454612826270148931:True:=trivial
theorem tw972608989388133419:True:=trivial
theorem tw8549350204777167438:True:=trivial
theorem tw8982447119482173685:True:=trivial
theorem tw1629782939521415637:True:=trivial
theorem tw1590695013120831544:True:=trivial
theorem tw17619983727608558475:True:=trivial
theorem tw9610653957018980167:True:=trivial
theorem tw5711444736580430201:True:=trivial
theorem tw958118428222626173:True:=trivial
theorem tw2940256750142663958:True:=trivial
theorem tw12115163495321779918:True:=trivial
theorem tw14292462829802484708:True:=trivial
theorem tw3235591976671719930:True:=trivial
theorem tw9580662232128633807:True:=trivial
theorem tw1729759965599504029:True:=trivial
theorem tw16737343851139434587:True:=trivial
theorem tw17423240650625390609:True:=trivial
theorem tw10426910906819829706:True:=trivial
theorem tw4390521346727464982:True:=trivial
theorem tw3586917178943006195:True:=trivial
theorem tw7486918410700591166:True:=trivial
theorem tw14330660506165533824:True:=trivial
theorem tw16739508777520258821:True:=trivial
theorem tw18300855985708379221:True:=trivial
theorem tw12862408562908240100:True:=trivial
theorem tw15244085192000249533:True:=trivial
theorem tw6695464280183439807:True:=trivial
end PySem.W.Fast
abbrev yZ:=@List.length_map
abbrev yY:=@List.getElem?_eq_getElem
abbrev yX:=@List.size_toArray
abbrev yW:=@Nat.le_refl
abbrev yV:=@List.mem_cons_of_mem
abbrev yU:=@PySem.Heap.get?_push_of_some
abbrev yT:=@List.mem_cons_self
abbrev yS:=@Bool.false_ne_true
abbrev yR:=@PySem.wpAny_bind
abbrev yQ:=@PySem.Heap.lt_size
abbrev yP:=@List.getElem?_map
abbrev yO:=@List.map_cons
abbrev yN:=@Option.map_eq_some_iff
abbrev yM:=@List.length_append
abbrev yL:=@Nat.ne_of_lt
abbrev yK:=@decide_eq_false
abbrev yJ:=@List.mem_cons
abbrev yI:=@List.mem_singleton
abbrev yH:=@decide_eq_true
abbrev yG:=@Option.bind_some
abbrev yF:=@Nat.lt_of_lt_of_le
abbrev yE:=@List.length_cons
abbrev yD:=@PySem.Heap.get?_push_size
abbrev yC:=@List.getElem?_eq_some_iff
abbrev yB:=@List.getD_eq_getElem?_getD
abbrev yA:=@List.getElem_mem
abbrev yz:=@List.getElem?_set
abbrev yy:=@List.mem_map
abbrev yx:=@PySem.wpAny_pure
abbrev yw:=@List.mem_range
abbrev yv:=@List.map_append
abbrev yu:=@List.mem_append_right
abbrev yt:=@List.map_map
abbrev yr:=@Int.eq_ofNat_of_zero_le
abbrev yq:=@List.getElem?_set_ne
abbrev yp:=@List.append_nil
abbrev yo:=@List.nodup_cons
abbrev yn:=@Int.emod_lt_of_pos
abbrev ym:=@List.getElem?_append_right
abbrev yk:=@List.mem_filter
abbrev yj:=@Nat.le_trans
abbrev yi:=@Bool.and_eq_true
abbrev yh:=@List.mem_of_getElem?
abbrev yg:=@List.length_set
abbrev yf:=@List.not_mem_nil
abbrev ye:=@List.getElem_toArray
abbrev yd:=@Int.emod_nonneg
abbrev yc:=@List.getElem?_append_left
abbrev yb:=@List.getElem_map
abbrev ya:=@Nat.zero_le
abbrev uZ:=@List.mem_iff_getElem
abbrev uY:=@List.mem_append
abbrev uX:=@List.length_take
abbrev uW:=@List.getElem?_eq_none
abbrev uV:=@of_decide_eq_true
abbrev uU:=@List.length_drop
abbrev uT:=@Int.le_refl
abbrev uS:=@List.append_assoc
abbrev uR:=@Option.bind_eq_some_iff
abbrev uQ:=@List.mem_append_left
abbrev uP:=@List.lookup_cons
abbrev uO:=@List.getElem?_set_self
abbrev uN:=@List.length_range
abbrev uM:=@Option.map_some
abbrev uL:=@Nat.le_of_lt
abbrev uK:=@List.pairwise_cons
abbrev uJ:=@List.countP_append
abbrev uI:=@List.replicate_succ
abbrev uH:=@List.getElem_of_mem
abbrev uG:=@Int.le_trans
abbrev uF:=@Nat.lt_irrefl
abbrev uE:=@List.all_eq_true
abbrev uD:=@List.drop_eq_getElem_cons
abbrev uC:=@List.find?_cons
abbrev uB:=@Nat.not_lt_zero
abbrev uA:=@Int.mul_le_mul_of_nonneg_right
abbrev uz:=@Int.mul_le_mul_of_nonneg_left
abbrev uy:=@List.length_eq_zero_iff
abbrev ux:=@PySem.Heap.size_push
abbrev uw:=@List.nodup_nil
abbrev uu:=@List.take_of_length_le
abbrev ut:=@List.findSome?_eq_none_iff
abbrev ur:=@List.flatten_cons
abbrev uq:=@List.nodup_append
abbrev uo:=@PySem.Heap.get?_none_of_le
abbrev um:=@List.pairwise_iff_getElem
abbrev ul:=@Nat.le_succ
abbrev uk:=@Nat.lt_succ_self
abbrev uj:=@Nat.lt_or_ge
abbrev ui:=@Int.zero_add
abbrev uh:=@Array.length_toList
abbrev ug:=@List.getElem?_replicate
abbrev uf:=@List.countP_cons_of_neg
abbrev ue:=@List.mem_filterMap
abbrev ud:=@List.of_mem_zip
abbrev uc:=@List.not_lt
abbrev ub:=@Int.toNat_natCast
abbrev ua:=@Nat.ne_of_gt
abbrev tZ:=@List.length_replicate
abbrev tY:=@Array.getElem?_toList
abbrev tX:=@List.Perm.append_left
abbrev tW:=@List.getElem_inj
abbrev tV:=@Option.getD_none
abbrev tU:=@List.take_length
abbrev tT:=@List.drop_length
namespace L2
abbrev Fg:=PySem.W.Frag
end L2
namespace L2
open PySem PySem.Spec PyProof.Rows
variable{us:List Value}{C a b dx it:Addr}{u:Value}{P:Program}{w:World}{base h:Heap}{g':Array GenState}{j n t':Nat}{d':Drawn}{ch fp:List Addr}{m qual x:Str}{c e l tg:Expr}{N ps:List Str}{A:Around}{E Q:Value->Shared->Prop}{s s':Shared}{α:Type}{pins:List (Addr×Obj)}{pos:Pos}{op op':CmpOp}{K:Fg}{f:Value->Value->Sem Value}{es:List Expr}{body:List Stmt}{lo:Int}{pl:Sem Bool}{mA mg:Str->Option Value}{kw:List (Str×Value)}{fd:FuncData}{outer:List Env}{scope:Scope}
abbrev j6:=Sum Int Str
def wf:j6->Value->Bool
 | .inl k,v=>Value.isInt k v
 | .inr x,v=>Value.isStrOf x v
def keyH (w:World):j6->Int
 | .inl k=>hashInt k
 | .inr x=>hashStr w x
theorem jO:∀{k:j6}{v:Value},wf k v=true->(∃ i t,k=Sum.inl i/\v=Value.int i t)∨(∃ x t,k=Sum.inr x/\v=Value.str x t)
 | .inl i,v,h=>by
  obtain ⟨t,e⟩:=Value.isInt_shape (k:=i) (v:=v) h;exact .inl ⟨i,t,rfl,e⟩
 | .inr x,v,h=>by
  obtain ⟨t,e⟩:=Value.isStrOf_shape (x:=x) (v:=v) h;exact .inr ⟨x,t,rfl,e⟩
theorem Nc (i:Int)(t:Tok):wf (.inl i) (.int i t)=true:=by simp [wf,Value.isInt]
theorem Bp (x:Str)(t:Tok):wf (.inr x) (.str x t)=true:=by simp [wf,Value.isStrOf]
theorem Nd (a b:Int):decide ((Sum.inl a:j6)=Sum.inl b)=(a==b):=by
 by_cases e:a=b
 ·subst e;simp
 ·have h:¬ (Sum.inl a:j6)=Sum.inl b:=λq=>e (Sum.inl.inj q);rw [yK h];exact (beq_eq_false_iff_ne.mpr e).symm
theorem Nh (a b:Str):decide ((Sum.inr a:j6)=Sum.inr b)=decide (a=b):=by
 by_cases e:a=b
 ·subst e;simp
 ·have h:¬ (Sum.inr a:j6)=Sum.inr b:=λq=>e (Sum.inr.inj q);rw [yK h,yK e]
theorem Nf (a:Int)(b:Str):decide ((Sum.inl a:j6)=Sum.inr b)=false:=yK (λq=>nomatch q)
theorem Ng (a:Str)(b:Int):decide ((Sum.inr a:j6)=Sum.inl b)=false:=yK (λq=>nomatch q)
def qA (prog:Program)(w:World):PySem.KeyKind prog w j6 where
 is:=wf
 hash:=keyH w
 inj:=λv a b ha hb=>by
  rcases jO ha with ⟨i,t,rfl,rfl⟩|⟨x,t,rfl,rfl⟩
  ·rcases jO hb with ⟨j,u,rfl,e⟩|⟨y,u,rfl,e⟩
   ·injection e with e1 _;rw [e1]
   ·exact nomatch e
  ·rcases jO hb with ⟨j,u,rfl,e⟩|⟨y,u,rfl,e⟩
   ·exact nomatch e
   ·injection e with e1 _;rw [e1]
 byValue:=λk v h=>by
  rcases jO h with ⟨i,t,rfl,rfl⟩|⟨x,t,rfl,rfl⟩<;>rfl
 pyHash:=λhv h=>by
  rcases jO hv with ⟨i,t,rfl,rfl⟩|⟨x,t,rfl,rfl⟩
  ·exact wpAny_pyHash_int h
  ·exact wpAny_pyHash_str h
 eqBool:=λhu hv h=>by
  rcases jO hu with ⟨i,t,rfl,rfl⟩|⟨x,t,rfl,rfl⟩
  ·rcases jO hv with ⟨j,u,rfl,rfl⟩|⟨y,u,rfl,rfl⟩
   ·rw [Nd] at h;exact wpAny_eqBool_int h
   ·rw [Nf] at h;exact SeqAt.EqAt.int_str i t y u _ _ _ _ h
  ·rcases jO hv with ⟨j,u,rfl,rfl⟩|⟨y,u,rfl,rfl⟩
   ·rw [Ng] at h;exact SeqAt.EqAt.str_int x t j u _ _ _ _ h
   ·rw [Nh] at h;exact wpAny_eqBool_str h
 «strs»:=λk x t v h=>by
  rcases jO h with ⟨i,u,rfl,e⟩|⟨y,u,rfl,e⟩
  ·exact nomatch e
  ·injection e with e1 _;subst e1;cases v<;>rfl
theorem NI (prog:Program)(w:World)(i:Int)(t:Tok):(qA prog w).is (.inl i) (.int i t)=true:=Nc i t
theorem Wg (prog:Program)(w:World)(x:Str)(t:Tok):(qA prog w).is (.inr x) (.str x t)=true:=Bp x t
inductive V where
 |non|bl (b:Bool)|int (i:Int)|str (x:Str)|byt (b:Array UInt8)|flt (b:UInt64)|ref (a:Addr)|ty (n:String)
 deriving DecidableEq
variable{vs xs:List V}{v y:V}
def RelV:V->Value->Prop
 | .non,u=>u=Value.none
 | .bl b,u=>u=Value.bool b
 | .int i,u=>∃ t,u=Value.int i t
 | .str x,u=>∃ t,u=Value.str x t
 | .byt b,u=>∃ t,u=Value.bytes b t
 | .flt b,u=>∃ t,u=Value.float b t
 | .ref a,u=>u=Value.ref a
 | .ty n,u=>u=Value.type n
abbrev Vals:List V->List Value->Prop:=Paired RelV
theorem Vals.length (r:Vals xs us):xs.length=us.length:=Paired.length r
theorem Vals.get:∀{xs:List V}{us:List Value}{i:Nat}{x:V},Vals xs us->xs[i]?=some x->∃ u,us[i]?=some u/\RelV x u
 |_,_,_,_,.nil,e=>by simp at e
 |_,_,0,_,.cons r _,e=>by simp at e;subst e;exact ⟨_,rfl,r⟩
 |_,_,i+1,x,.cons _ t,e=>by
  obtain ⟨u,h1,h2⟩:=Vals.get (i:=i) (x:=x) t (by simpa using e);exact ⟨u,by simpa using h1,h2⟩
theorem Vals.set {x:V}{u:Value}(r:RelV x u):∀{xs:List V}{us:List Value}(i:Nat),Vals xs us->Vals (xs.set i x) (us.set i u)
 |_,_,_,.nil=> .nil
 |_,_,0,.cons _ t=> .cons r t
 |_,_,i+1,.cons q t=> .cons q (Vals.set r i t)
theorem Vals.append:∀{xs ys:List V}{us ws:List Value},Vals xs us->Vals ys ws->Vals (xs++ys) (us++ws)
 |_,_,_,_,.nil,s=>s
 |_,_,_,_,.cons r t,s=> .cons r (Vals.append t s)
theorem Vals.take:∀{xs:List V}{us:List Value}(n:Nat),Vals xs us->Vals (xs.take n) (us.take n)
 |_,_,0,_=> .nil
 |_,_,_+1,.nil=> .nil
 |_,_,n+1,.cons r t=> .cons r (Vals.take n t)
theorem Vals.drop:∀{xs:List V}{us:List Value}(n:Nat),Vals xs us->Vals (xs.drop n) (us.drop n)
 |_,_,0,r=>r
 |_,_,_+1,.nil=> .nil
 |_,_,n+1,.cons _ t=>Vals.drop n t
def RelO:Option V->Option Value->Prop
 |some v,some u=>RelV v u
 |none,none=>True
 |_,_=>False
def KV {κ:Type}:List (κ×V)->List (κ×Value)->Prop:=Paired λ(p:κ×V) (q:κ×Value)=>p.1=q.1/\RelV p.2 q.2
def kV:j6->V
 | .inl i=> .int i
 | .inr x=> .str x
def TABS:List (Addr×Array Value×List (Pos×Str)):=[(212,#[],[((⟨61,30,61,109⟩:Pos),("by_steepness.<locals>.<lambda>":Str))]),(298,#[],[((⟨133,46,133,96⟩:Pos),("to_steep.<locals>.<lambda>":Str))])]
inductive HO where
 /-- a list -/
 |lst (xs:List V)
 /-- a tuple (never changes) -/
 |tup (xs:List V)
 /-- a dict whose keys are ints and texts;one whose keys are tuples of ints and texts (the empty one is both) -/
 |dK (kvs:List (j6×V))|dT (kvs:List (List j6×V))
 /-- a set of ints: its members,its size -/
 |set (S:Int->Bool) (n:Nat)
 /-- an instance of the class at C,its dict at dx,its attributes -/
 |ins (C dx:Addr) (fs:List (Str×V))
 /-- the dict of the instance at x -/
 |own (x:Addr)
 /-- the dict of an exception -/
 |xd (fs:List (Str×V))
 /-- a bound method,f of x -/
 |met (f x:Addr)
 /-- a range object lo,lo+1,.. below hi -/
 |rng (lo hi:Int)
 /-- a thing that is known to the object (the script;a dict while a loop walks it): read,never written while it is so -/
 |frz (o:Obj) (u:HO)
 /-- a code object's table -/
 |tbl (ps:Array Value) (q:List (Pos×Str))
 /-- any other thing,by what is true of its one object (a def of one's own: vV a S n:=HO.ext λh=> ..) -/
 |ext (φ:Heap->Prop)
variable{o:HO}
abbrev Hp:=Addr->Option HO
variable{H:Hp}{R:V->V->Hp->Prop}
def w6 (H:Hp)(a:Addr)(o:HO):Hp:=λb=>if b=a then some o else H b
theorem g8 :w6 H a o a=some o:=by unfold w6;rw [if_pos rfl]
theorem w4 (h:b≠a):w6 H a o b=H b:=by unfold w6;rw [if_neg h]
theorem ne_of {u:HO}(h:H a=some o)(h':H b=some u)(d:o≠u):a≠b:=by intro e;subst e;rw [h] at h';exact d (Option.some.inj h')
theorem k4 (h:H a=some o)(h':H b=none):a≠b:=by intro e;subst e;rw [h] at h';cases h'
section
variable (P:Program)(w:World)
def ObjOk (H:Hp)(h:Heap)(a:Addr):HO->Prop
 | .lst xs=>xs.length<=sizeLine/\∃ (its:List Value) (n:Nat),Vals xs its/\h.get? a=some { cls:= .type "list",data:= .seq its.toArray n }
 | .tup xs=>xs.length<=sizeLine/\∃ its:List Value,Vals xs its/\IsTup h a its.toArray
 | .dK kvs=>kvs.length<=sizeLine/\(a==sysModules)=false/\∃ vs,KV kvs vs/\h.DictOf (qA P w) a vs
 | .dT kvs=>kvs.length<=sizeLine/\(a==sysModules)=false/\∃ xs:List (List j6×Addr×Value),
   Paired (λ(p:List j6×V) (q:List j6×Addr×Value)=>p.1=q.1/\H q.2.1=some (.tup (p.1.map kV))/\RelV p.2 q.2.2) kvs xs /\
   ∃ o es ep,h.get? a=some o/\o.ExactDict/\o.data = .dict es ep/\es.toList=xs.map (entryOfKey (tupleKind (qA P w)))/\(xs.map (·.1)).Nodup
 | .set S n=>h.SetOf (intKind P w) a S n
 | .ins C dx fs=>H dx=some (.own a)/\fs.length<=1000/\dx≠a/\h.get? a=some (PySem.W.instObj C dx) /\
   ∃ mA,h.Ns1 dx mA/\(∀ f,RelO (fs.lookup f) (mA f))/\PySem.Within mA (fs.map (·.1))
 | .own _=>∃ o,h.get? a=some o
 | .xd fs=>∃ mA,h.Ns1 a mA/\∀ f,RelO (fs.lookup f) (mA f)
 | .rng lo hi=>∃ t u v,h.get? a=some { cls:= .type "range",data:= .fields #[.int lo t,.int hi u,.int 1 v] }
 | .frz o u=>h.get? a=some o/\ObjOk H h a u
 | .tbl ps q=>∃ more:Array Value,h.get? a=some { cls:= .none,data:= .fields (ps++more) }/\TriplesOk (ps++more).toList /\
   ∀ p∈q,codeAmong p.1 (ps++more).toList=none∨∃ c o vs t,codeAmong p.1 (ps++more).toList=some (.ref c)/\H c=some (.frz o (.own a))/\o.data = .fields vs/\vs[1]?=some (.str p.2 t)
 | .met f x=>h.get? a=some (PySem.W.methodObj (.ref f) (.ref x))
 | .ext φ=>φ h/\(∃ o,h.get? a=some o)/\∀ h1 h2:Heap,φ h1->(∀ o,h1.get? a=some o->h2.get? a=some o)->φ h2
def HOk (H:Hp)(h:Heap):Prop:=∀ a o,H a=some o->ObjOk P w H h a o
end
section
variable {P:Program}{w:World}{H H':Hp}{h h':Heap}{a:Addr}{o:HO}
theorem ObjOk.lt (x:ObjOk P w H h a o):a<h.objs.size:=by
 cases o with
 |lst xs=>obtain ⟨_,_,_,_,e⟩:=x;exact yQ e
 |tup xs=>obtain ⟨_,_,_,p⟩:=x;exact p.lt
 |dK kvs=>obtain ⟨_,_,_,_,o,_,_,e,_⟩:=x;exact yQ e
 |dT kvs=>obtain ⟨_,_,_,_,o,_,_,e,_⟩:=x;exact yQ e
 |set S n=>obtain ⟨o,_,_,_,e,_⟩:=x;exact yQ e
 |ins C dx fs=>obtain ⟨_,_,_,e,_⟩:=x;exact yQ e
 |own y=>obtain ⟨_,e⟩:=x;exact yQ e
 |xd fs=>obtain ⟨_,⟨_,_,_,e,_⟩,_⟩:=x;exact yQ e
 |rng lo hi=>obtain ⟨_,_,_,e⟩:=x;exact yQ e
 |frz ob u=>obtain ⟨e,_⟩:=x;exact yQ e
 |tbl ps q=>obtain ⟨_,e,_⟩:=x;exact yQ e
 |met f y=>exact yQ (show h.get? a=some _ from x)
 |ext φ=>obtain ⟨_,⟨_,e⟩,_⟩:=x;exact yQ e
theorem Paired.mapP {α β:Type}{F G:α->β->Prop}:∀{l₁:List α}{l₂:List β},Paired F l₁ l₂->(∀ a b,F a b->G a b)->Paired G l₁ l₂
 |_,_,.nil,_=> .nil
 |_,_,.cons r t,f=> .cons (f _ _ r) (Paired.mapP t f)
theorem ObjOk.stay (x:ObjOk P w H h a o)(k:∀ b u,(b=a∨H b=some (.own a))->h.get? b=some u->h'.get? b=some u)(ho:∀ b,H b=some (.own a)->H' b=some (.own a))(ht:∀ b xs,H b=some (.tup xs)->H' b=some (.tup xs))(hz:∀ b o u,H b=some (.frz o u)->H' b=some (.frz o u)):ObjOk P w H' h' a o:=by
 induction o with
 |lst xs=>obtain ⟨z,its,n,r,e⟩:=x;exact ⟨z,its,n,r,k _ _ (.inl rfl) e⟩
 |tup xs=>obtain ⟨z,its,r,ob,e,c⟩:=x;exact ⟨z,its,r,ob,k _ _ (.inl rfl) e,c⟩
 |dK kvs=>obtain ⟨z,y,vs,r,ob,es,ep,e,c⟩:=x;exact ⟨z,y,vs,r,ob,es,ep,k _ _ (.inl rfl) e,c⟩
 |dT kvs=>obtain ⟨z,y,xs,r,ob,es,ep,e,c⟩:=x;exact ⟨z,y,xs,Paired.mapP r λp q z=>⟨z.1,ht _ _ z.2.1,z.2.2⟩,ob,es,ep,k _ _ (.inl rfl) e,c⟩
 |set S n=>obtain ⟨ob,es,ep,t,e,c⟩:=x;exact ⟨ob,es,ep,t,k _ _ (.inl rfl) e,c⟩
 |ins C dx fs=>obtain ⟨d,z,ne,e,mA,⟨od,es,ep,e2,c⟩,r⟩:=x;exact ⟨ho _ d,z,ne,k _ _ (.inl rfl) e,mA,⟨od,es,ep,k _ _ (.inr d) e2,c⟩,r⟩
 |own y=>obtain ⟨ob,e⟩:=x;exact ⟨ob,k _ _ (.inl rfl) e⟩
 |xd fs=>obtain ⟨mA,⟨od,es,ep,e,c⟩,r⟩:=x;exact ⟨mA,⟨od,es,ep,k _ _ (.inl rfl) e,c⟩,r⟩
 |rng lo hi=>obtain ⟨t,u,v,e⟩:=x;exact ⟨t,u,v,k _ _ (.inl rfl) e⟩
 |frz ob u ih=>obtain ⟨e,q⟩:=x;exact ⟨k _ _ (.inl rfl) e,ih q⟩
 |tbl ps q =>
  obtain ⟨more,e,t,r⟩:=x;refine ⟨more,k a _ (.inl rfl) e,t,λp hp=>?_⟩;rcases r p hp with z|⟨c,o,vs,t,z,oc,e2⟩
  ·exact .inl z
  ·exact .inr ⟨c,o,vs,t,z,hz c o _ oc,e2⟩
 |met f y=>have e:h.get? a=some (PySem.W.methodObj (.ref f) (.ref y)):=x;show h'.get? a=some (PySem.W.methodObj (.ref f) (.ref y));exact k a _ (.inl rfl) e
 |ext φ=>obtain ⟨p,⟨o,e⟩,st⟩:=x;exact ⟨st _ _ p λo q=>k _ _ (.inl rfl) q,⟨o,k _ _ (.inl rfl) e⟩,st⟩
theorem HOk.lt (x:HOk P w H h)(e:H a=some o):a<h.objs.size:=(x a o e).lt
theorem HOk.fresh (x:HOk P w H h)(e:h.objs.size<=a):H a=none:=by
 cases q:H a with
 |none=>rfl
 |some u=>exact absurd (yF (x.lt q) e) (uF _)
theorem HOk.kept (x:HOk P w H h)(k:∀ b u,h.get? b=some u->h'.get? b=some u):HOk P w H h':=λa o e =>
 (x a o e).stay (λb u _ q=>k b u q) (λ_ q=>q) (λ_ _ q=>q) λ_ _ _ q=>q
theorem HOk.laid (x:HOk P w H h)(k:∀ b u,h.get? b=some u->h'.get? b=some u)(hp:h.objs.size<=a)(new:ObjOk P w (w6 H a o) h' a o):HOk P w (w6 H a o) h':=λb u e=>by
 have hn:=x.fresh hp;by_cases hb:b=a
 ·subst hb;rw [g8] at e;cases e;exact new
 ·rw [w4 hb] at e;exact (x b u e).stay (λc v _ q=>k c v q) (λc q=>by rw [w4 (k4 q hn)];exact q) (λc xs q=>by rw [w4 (k4 q hn)];exact q) λc _ _ q=>by rw [w4 (k4 q hn)];exact q
end
def Rd (H:Hp)(a:Addr)(u:HO):Prop:=H a=some u∨∃ o,H a=some (.frz o u)
theorem Rd.ok {u:HO}(r:Rd H a u)(x:HOk P w H h):ObjOk P w H h a u:=by
 rcases r with r|⟨o,r⟩
 ·exact x a u r
 ·obtain ⟨_,q⟩:=x a _ r;exact q
def Mut:Option HO->Prop
 |some (.lst _)=>True
 |some (.dK _)=>True
 |some (.dT _)=>True
 |some (.set _ _)=>True
 |some (.ins _ _ _)=>True
 |some (.ext _)=>True
 |_=>False
section
variable {P:Program}{w:World}{H:Hp}{h h':Heap}{x e:Addr}{o':HO}
theorem HOk.write (ok:HOk P w H h)(mu:Mut (H x))(he:e=x∨H e=some (.own x))(k:∀ b u,b≠e->h.get? b=some u->h'.get? b=some u)(heo:∃ u,h'.get? e=some u)(new:ObjOk P w (w6 H x o') h' x o'):HOk P w (w6 H x o') h':=λb u q=>by
 have nown:∀ c y,H c=some (.own y)->c≠x:=λc y r z=>by subst z;rw [r] at mu;exact mu
 have ntup:∀ c xs,H c=some (.tup xs)->c≠x:=λc xs r z=>by subst z;rw [r] at mu;exact mu
 have nfrz:∀ c ob xs,H c=some (.frz ob xs)->c≠x:=λc ob xs r z=>by subst z;rw [r] at mu;exact mu
 by_cases hb:b=x
 ·subst hb;rw [g8] at q;cases q;exact new
 ·rw [w4 hb] at q;by_cases hbe:b=e
  ·have q':H b=some (.own x):=by
    rcases he with z|z
    ·exact absurd (hbe.trans z) hb
    ·rw [hbe];exact z
   rw [q] at q';cases q';obtain ⟨v,hv⟩:=heo;exact ⟨v,by rw [hbe];exact hv⟩
  ·refine (ok b u q).stay (λc v hc r=>k c v ?_ r) (λc r=>by rw [w4 (nown c b r)];exact r) (λc xs r=>by rw [w4 (ntup c xs r)];exact r) λc ob xs r=>by rw [w4 (nfrz c ob xs r)];exact r
   rcases hc with rfl|hc
   ·exact hbe
   ·rintro rfl;rcases he with z|z
    ·exact nown c b hc z
    ·rw [hc] at z;cases z;exact hb rfl
end
structure Un (fs ex:List Addr)(H H':Hp)(h h':Heap):Prop where
 keep:∀ b o,h.get? b=some o->H b=none->b∉fs->b∉ex->h'.get? b=some o
 slot:∀ b o,h.get? b=some o->H b=none->b∈fs->b∉ex->∃ sl,h'.get? b=some { o with slots:=sl }
 free:∀ b o,h.get? b=some o->H b=none->b∉ex->H' b=none
 there:∀ b o,h.get? b=some o->b∉ex->∃ o',h'.get? b=some o'
 tups:∀ b xs,H b=some (.tup xs)->H' b=some (.tup xs)
 frzs:∀ b o u,H b=some (.frz o u)->H' b=some (.frz o u)
 tbls:∀ b ps q,H b=some (.tbl ps q)->H' b=some (.tbl ps q)
section
variable {fs fs' ex ex':List Addr}{H H1 H2:Hp}{h h1 h2 h':Heap}{a x e:Addr}{o:HO}
theorem Un.any (u:Un fs ex H H1 h h1){ob:Obj}(q:h.get? b=some ob)(n:H b=none)(hx:b∉ex):∃ sl,h1.get? b=some { ob with slots:=sl }:=by
 by_cases hb:b∈fs
 ·exact u.slot b ob q n hb hx
 ·exact ⟨ob.slots,u.keep b ob q n hb hx⟩
theorem Un.kept (k:∀ b u,h.get? b=some u->h'.get? b=some u):Un fs ex H H h h' :=
 ⟨λb ob q _ _ _=>k b ob q,λb ob q _ _ _=>⟨ob.slots,k b ob q⟩,λ_ _ _ n _=>n,λb ob q _=>⟨ob,k b ob q⟩,λ_ _ q=>q,λ_ _ _ q=>q,λ_ _ _ q=>q⟩
theorem Un.refl:Un fs ex H H h h:=Un.kept λ_ _ q=>q
theorem Un.laid (k:∀ b u,h.get? b=some u->h'.get? b=some u)(hp:h.objs.size<=a)(hn:H a=none):Un fs ex H (w6 H a o) h h' where
 keep:=λb u q _ _ _=>k b u q
 slot:=λb u q _ _ _=>⟨u.slots,k b u q⟩
 free:=λb u q n _=>by rw [w4 (yL (yF (yQ q) hp))];exact n
 there:=λb u q _=>⟨u,k b u q⟩
 tups:=λb xs q=>by rw [w4 (k4 q hn)];exact q
 frzs:=λb u xs q=>by rw [w4 (k4 q hn)];exact q
 tbls:=λb ps z q=>by rw [w4 (k4 q hn)];exact q
theorem Un.write (mu:Mut (H x))(he:e=x∨H e=some (.own x))(k:∀ b u,b≠e->h.get? b=some u->h'.get? b=some u)(heo:∃ u,h'.get? e=some u):Un fs ex H (w6 H x o) h h':=by
 have hx:∀ b,H b=none->b≠x:=λb n z=>by subst z;rw [n] at mu;exact mu
 have hb:∀ b,H b=none->b≠e:=λb n z=>by
  subst z;rcases he with r|r
  ·exact hx b n r
  ·rw [n] at r;cases r
 have hm:∀ b u,H b=some u->¬ Mut (some u)->b≠x:=λb u q nm z=>by subst z;rw [q] at mu;exact nm mu
 refine ⟨λb u q n _ _=>k b u (hb b n) q,λb u q n _ _=>⟨u.slots,k b u (hb b n) q⟩,λb u q n _=>by rw [w4 (hx b n)];exact n,λb u q _=>?_,
  λb xs q=>by rw [w4 (hm b _ q λz=>z)];exact q,λb u xs q=>by rw [w4 (hm b _ q λz=>z)];exact q,λb ps r q=>by rw [w4 (hm b _ q λz=>z)];exact q⟩
 by_cases hbe:b=e
 ·subst hbe;exact heo
 ·exact ⟨u,k b u hbe q⟩
end
def trk (h:Heap)(H:Hp):List Addr:=(List.range h.objs.size).filter λa=>(H a).isSome
def jL (h:Heap)(H:Hp):Heap:=PySem.W.hideAll h (trk h H)
theorem Lk (h:Heap)(H:Hp):(jL h H).objs.size=h.objs.size:=PySem.W.hideAll_size _ _
theorem Lj {o:Obj}(e:h.get? b=some o)(n:H b=none):(jL h H).get? b=some o :=
 PySem.W.hideAll_get _ e λhm=>by
  have q:(H b).isSome=true:=(yk.mp hm).2;rw [n] at q;simp at q
theorem NR {o:Obj}(e:(jL h H).get? b=some o):h.get? b=some o/\H b=none:=by
 have e':h.get? b=some o:=PySem.W.of_hideAll (trk h H) e;refine ⟨e',?_⟩;cases q:H b with
 |none=>rfl
 |some x=>have hm:b∈trk h H:=yk.mpr ⟨yw.mpr (yQ e'),by simp [q]⟩;have z:(jL h H).get? b=none:=PySem.W.hideAll_none (trk h H) hm;rw [z] at e;cases e
structure Mod (K:Fg)(mg:Str->Option Value)(base:Heap):Prop where
 kin:K.In base
 glob:base.Ns mainGlobals mg
 blt:∃ mb,base.Ns builtinsNs mb/\∀ x:Str,x ≠ "__name__"->mb x=bootBuiltins x
 nolimit:base.NoLimit
 bmn:∃ bm ob,mg "__builtins__"=some (.ref bm)/\bm≠builtinsNs/\base.get? bm=some ob/\ob.cls = .type "module"/\ob.dict=some builtinsNs/\ob.data = .plain
structure Cx where
 prog:Program
 w:World
 K:Fg
 mg:Str->Option Value
 base:Heap
 A:Around
 N:List Str
 s₀:Shared
 H₀:Hp
 env:Env
 outer:List Env
 stack:List Env
 ex:List Addr
 fn:Str->Bool
 calm:Bool
 pn:List (Addr×Obj)
 xe:Value->Shared->Prop
variable{X:Cx}
def frs (l:List Env):List Addr:=l.filterMap (·.frame)
abbrev Cx.fs (X:Cx):List Addr:=frs X.outer
def Vis (sc:Scope)(x:Str):Prop:=sc.names.lookup x=some .local∨sc.names.lookup x=some .cell∨sc.names.lookup x=some .free
def Loc (sc:Scope)(x:Str):Prop:=sc.names.lookup x=some .local∨sc.names.lookup x=some .cell
def Look (env:Env)(h:Heap)(m:Str->Option Value)(x:Str)(u:Value):Prop :=
 (env.kindOf x=some .local/\m x=some u)∨((env.kindOf x=some .cell∨env.kindOf x=some .free)/\∃ c,env.cells.lookup x=some c/\h.IsCell c (some u))
structure Cx.Ok (X:Cx):Prop where
 mod:Mod X.K X.mg X.base
 kind:X.env.scope.kind = .function
 glob:X.env.globals=mainGlobals
 blt:X.env.builtins=builtinsNs
 above:X.s₀.heap.objs.size<=X.env.locals
 inj:∀ x y c,X.env.cells.lookup x=some c->X.env.cells.lookup y=some c->x=y
 has:∀ x,(X.env.kindOf x=some .cell∨X.env.kindOf x=some .free)->∃ c,X.env.cells.lookup x=some c
 cab:∀ x c,X.fn x=true->X.env.cells.lookup x=some c->X.s₀.heap.objs.size<=c
 hd:X.calm=true->X.A.handled=none
 frames:X.A.frames=some X.stack
 stk:X.stack=X.outer∨(X.stack=X.env::X.outer/\X.env.frame=some X.env.locals)
 exf:∀ b∈X.ex,b≠X.env.locals/\∀ x c,X.env.cells.lookup x=some c->c≠b
 bs:∀ b o,X.base.get? b=some o->X.s₀.heap.get? b=some o/\X.H₀ b=none
 bsz:X.base.objs.size<=X.s₀.heap.objs.size
 noex:∀ b o,X.base.get? b=some o->b∉X.ex
 exfs:∀ b∈X.ex,b∉X.fs
 funs:X.s₀.heap.FunFrames X.base X.outer
 frf:∀ b∈X.fs,X.H₀ b=none
 tbs:∀ p∈TABS,X.H₀ p.1=some (.tbl p.2.1 p.2.2)
structure Inv (X:Cx)(pins:List (Addr×Obj))(σ:List (Option V))(H:Hp)(s:Shared):Prop where
 ok:X.Ok
 os:s.os=X.s₀.os
 bare:AllBare s.gens
 base:Un X.fs X.ex X.H₀ H X.s₀.heap s.heap
 loc:∃ m,s.heap.Ns X.env.locals m/\∀(i:Nat)(x:Str)(v:V),X.N[i]?=some x->σ[i]?=some (some v)->Vis X.env.scope x->∃ u,RelV v u/\Look X.env s.heap m x u
 cell:∀ x c,X.env.cells.lookup x=some c->∃ v,s.heap.IsCell c v
 free:H X.env.locals=none
 freeC:∀ x c,X.env.cells.lookup x=some c->H c=none
 pin:∀ p∈X.pn++pins,s.heap.get? p.1=some p.2/\H p.1=none/\p.1≠X.env.locals/\p.1∉X.fs/\∀ v,p.2.data ≠ .cell v
 hok:HOk X.prog X.w H s.heap
 len:σ.length=X.N.length
section
variable {X:Cx}{pins:List (Addr×Obj)}{σ:List (Option V)}{H H':Hp}{s:Shared}{h':Heap}
theorem Cx.Ok.nofr (ok:X.Ok){o:Obj}(e:X.base.get? b=some o):b∉X.fs:=λhb=>by
 have:=(ok.funs.mem hb).1;rw [e] at this;cases this
theorem Inv.bs (I:Inv X pins σ H s):∀ b o,X.base.get? b=some o->s.heap.get? b=some o/\H b=none:=λb o e =>
 ⟨I.base.keep b o (I.ok.bs b o e).1 (I.ok.bs b o e).2 (I.ok.nofr e) (I.ok.noex b o e),I.base.free b o (I.ok.bs b o e).1 (I.ok.bs b o e).2 (I.ok.noex b o e)⟩
theorem Inv.bk (I:Inv X pins σ H s):∀ b o,X.base.get? b=some o->s.heap.get? b=some o:=λb o e=>(I.bs b o e).1
theorem Inv.mod (I:Inv X pins σ H s):Mod X.K X.mg X.base:=I.ok.mod
theorem Inv.kIn (I:Inv X pins σ H s):X.K.In s.heap:=I.ok.mod.kin.keeps I.bk
theorem Inv.fr (I:Inv X pins σ H s):∃ m,Fr X.base X.env.locals s.heap m :=
 let ⟨m,hn,_⟩:=I.loc
 ⟨m,hn,I.bk,yj I.ok.bsz I.ok.above⟩
theorem Inv.lt (I:Inv X pins σ H s):X.env.locals<s.heap.objs.size:=let ⟨_,hn,_⟩:=I.loc;hn.lt
theorem Inv.sz (I:Inv X pins σ H s):X.s₀.heap.objs.size<=s.heap.objs.size:=yj I.ok.above (uL I.lt)
theorem Inv.nofs (I:Inv X pins σ H s)(h:s.heap.objs.size<=a):a∉X.fs:=λhb=>by
 obtain ⟨_,o,ho,_⟩:=I.ok.funs.mem hb;exact absurd (yF (yQ ho) (yj I.sz h)) (uF _)
theorem Inv.cne (I:Inv X pins σ H s):∀ x c,X.env.cells.lookup x=some c->c≠X.env.locals:=λx c e z=>by
 obtain ⟨v,o,ho,hd⟩:=I.cell x c e;obtain ⟨m,⟨o',es,ep,ho',hd',_⟩,_⟩:=I.loc;rw [z,ho'] at ho;cases ho;rw [hd'] at hd;cases hd
theorem Inv.funs (I:Inv X pins σ H s):s.heap.FunFrames X.base X.outer:=by
 have all:∀(l:List Env),(∀ b∈frs l,b∈X.fs)->X.s₀.heap.FunFrames X.base l->s.heap.FunFrames X.base l:=by
  intro l
  induction l with
  |nil=>intro _ _;trivial
  |cons env r ih=>intro hs hl;obtain ⟨hk,⟨L,o,hf,hn,ho,hd⟩,hr⟩:=hl;have hL:L∈X.fs:=hs L (by unfold frs;rw [List.filterMap_cons,hf];exact yT);obtain ⟨sl,e⟩:=I.base.slot L o ho (I.ok.frf L hL) hL λz=>I.ok.exfs L z hL;exact ⟨hk,⟨L,_,hf,hn,e,hd⟩,ih (λb hb=>hs b (by unfold frs;rw [List.filterMap_cons,hf];exact yV _ hb)) hr⟩
 exact all X.outer (λ_ hb=>hb) I.ok.funs
theorem Inv.stack (I:Inv X pins σ H s):s.heap.FunFrames X.base X.stack:=by
 rcases I.ok.stk with e|⟨e,hf⟩
 ·rw [e];exact I.funs
 ·rw [e];obtain ⟨m,hn,_⟩:=I.loc;refine .cons (by rw [I.ok.kind];decide) hf hn ?_ I.funs;exact uo (yj I.ok.bsz I.ok.above)
theorem Inv.stkSub (I:Inv X pins σ H s):∀ b∈frs X.stack,b∈X.env.locals::X.fs:=λb hb=>by
 rcases I.ok.stk with e|⟨e,hf⟩
 ·rw [e] at hb;exact yV _ hb
 ·rw [e] at hb;unfold frs at hb;rw [List.filterMap_cons,hf] at hb;exact hb
theorem Inv.stkFree (I:Inv X pins σ H s):∀ b∈frs X.stack,H b=none:=λb hb=>by
 rcases yJ.mp (I.stkSub b hb) with e|hb
 ·rw [e];exact I.free
 ·obtain ⟨_,o,ho,_⟩:=I.ok.funs.mem hb;exact I.base.free b o ho (I.ok.frf b hb) λz=>I.ok.exfs b z hb
theorem Inv.step (I:Inv X pins σ H s)(hch:∀ b∈ch,(b∈X.ex∨X.s₀.heap.objs.size<=b)/\b≠X.env.locals/\(∀ x c,X.env.cells.lookup x=some c->c≠b)/\∀ p∈X.pn++pins,p.1≠b)(keep:∀ b o,b≠X.env.locals->b∉X.fs->b∉ch->s.heap.get? b=some o->H b=none->h'.get? b=some o)(slot:∀ b o,b≠X.env.locals->b∈X.fs->b∉ch->s.heap.get? b=some o->H b=none->∃ sl,h'.get? b=some { o with slots:=sl })(free:∀ b o,b∉ch->s.heap.get? b=some o->H b=none->H' b=none)(there:∀ b o,b∉ch->s.heap.get? b=some o->∃ o',h'.get? b=some o')(tups:∀ b xs,H b=some (.tup xs)->H' b=some (.tup xs))(frzs:∀ b o u,H b=some (.frz o u)->H' b=some (.frz o u))(tbls:∀ b ps q,H b=some (.tbl ps q)->H' b=some (.tbl ps q))(ns:∀ m,s.heap.Ns X.env.locals m->h'.Ns X.env.locals m)(hok:HOk X.prog X.w H' h')(hg:AllBare g'):Inv X pins σ H' { s with heap:=h',gens:=g',drawn:=d',toks:=t' }:=by
 have neL:∀ b o,X.s₀.heap.get? b=some o->b≠X.env.locals:=λb o e=>yL (yF (yQ e) I.ok.above);have neC:∀ b o,X.s₀.heap.get? b=some o->b∉X.ex->b∉ch:=λb o e hx hb=>by
  rcases (hch b hb).1 with z|z
  ·exact hx z
  ·exact absurd (yF (yQ e) z) (uF _)
 have cellK:∀ x c,X.env.cells.lookup x=some c->∀ v,s.heap.IsCell c v->h'.IsCell c v:=λx c e v ⟨o,ho,hd⟩=>by
  have nch:c∉ch:=λz=>(hch c z).2.2.1 x c e rfl;by_cases hc:c∈X.fs
  ·obtain ⟨sl,q⟩:=slot c o (I.cne x c e) hc nch ho (I.freeC x c e);exact ⟨_,q,hd⟩
  ·exact ⟨o,keep c o (I.cne x c e) hc nch ho (I.freeC x c e),hd⟩
 refine ⟨I.ok,I.os,hg,⟨λb o e n hb hx=>?_,λb o e n hb hx=>?_,λb o e n hx=>?_,λb o e hx=>?_,λb xs e=>tups b xs (I.base.tups b xs e),λb o xs e=>frzs b o xs (I.base.frzs b o xs e),λb ps q e=>tbls b ps q (I.base.tbls b ps q e)⟩,?_,λx c e=>?_,?_,λx c e=>?_,λp hp=>?_,hok,I.len⟩
 ·exact keep b o (neL b o e) hb (neC b o e hx) (I.base.keep b o e n hb hx) (I.base.free b o e n hx)
 ·obtain ⟨sl,e1⟩:=I.base.slot b o e n hb hx;obtain ⟨sl',e2⟩:=slot b _ (neL b o e) hb (neC b o e hx) e1 (I.base.free b o e n hx);exact ⟨sl',e2⟩
 ·obtain ⟨o',e1⟩:=I.base.there b o e hx;exact free b o' (neC b o e hx) e1 (I.base.free b o e n hx)
 ·obtain ⟨o',e1⟩:=I.base.there b o e hx;exact there b o' (neC b o e hx) e1
 ·obtain ⟨m,hn,hl⟩:=I.loc;refine ⟨m,ns m hn,λi x v e1 e2 e3=>?_⟩;obtain ⟨u,r,l⟩:=hl i x v e1 e2 e3;refine ⟨u,r,?_⟩;rcases l with l|⟨k,c,e,z⟩
  ·exact .inl l
  ·exact .inr ⟨k,c,e,cellK x c e _ z⟩
 ·obtain ⟨v,z⟩:=I.cell x c e;exact ⟨v,cellK x c e v z⟩
 ·obtain ⟨m,⟨o,_,_,ho,_⟩,_⟩:=I.loc;exact free _ o (λz=>(hch _ z).2.1 rfl) ho I.free
 ·obtain ⟨v,o,ho,hd⟩:=I.cell x c e;exact free c o (λz=>(hch c z).2.2.1 x c e rfl) ho (I.freeC x c e)
 ·obtain ⟨e,n,ne,nf,d⟩:=I.pin p hp;have nch:p.1∉ch:=λz=>(hch p.1 z).2.2.2 p hp rfl;exact ⟨keep p.1 p.2 ne nf nch e n,free p.1 p.2 nch e n,ne,nf,d⟩
theorem Inv.un (I:Inv X pins σ H s)(u:Un X.fs [] H H' s.heap h')(hok:HOk X.prog X.w H' h'):Inv X pins σ H' { s with heap:=h',toks:=t' }:=by
 obtain ⟨m,⟨o,es,ep,ho,r⟩,_⟩:=id I.loc;obtain ⟨sl,hL⟩:=u.any ho I.free (by simp);exact I.step (g':=s.gens) (d':=s.drawn) (ch:=[]) (λ_ z=>nomatch z) (λb o _ hb _ e n=>u.keep b o e n hb (by simp)) (λb o _ hb _ e n=>u.slot b o e n hb (by simp)) (λb o _ e n=>u.free b o e n (by simp)) (λb o _ e=>u.there b o e (by simp)) u.tups u.frzs u.tbls (λm' hm=>by
  obtain ⟨o',es',ep',ho',r'⟩:=hm;rw [ho] at ho';cases ho';exact ⟨_,es',ep',hL,r'⟩) hok I.bare
theorem Inv.call (I:Inv X pins σ H s)(u:Un (frs X.stack) ch H H' s.heap h')(hok:HOk X.prog X.w H' h')(hg:AllBare g')(hch:∀ b∈ch,(b∈X.ex∨X.s₀.heap.objs.size<=b)/\b≠X.env.locals/\(∀ x c,X.env.cells.lookup x=some c->c≠b)/\∀ p∈X.pn++pins,p.1≠b):Inv X pins σ H' { s with heap:=h',gens:=g',drawn:=d',toks:=t' }:=by
 obtain ⟨m,⟨o,es,ep,ho,r⟩,_⟩:=id I.loc;obtain ⟨sl,hL⟩:=u.any ho I.free λz=>(hch _ z).2.1 rfl;exact I.step (ch:=ch) hch (λb o hL hb hc e n=>u.keep b o e n (λz=>(yJ.mp (I.stkSub b z)).elim hL hb) hc) (λb o _ _ hc e n=>u.any e n hc) (λb o hc e n=>u.free b o e n hc) (λb o hc e=>u.there b o e hc) u.tups u.frzs u.tbls (λm' hm=>by
  obtain ⟨o',es',ep',ho',r'⟩:=hm;rw [ho] at ho';cases ho';exact ⟨_,es',ep',hL,r'⟩) hok hg
theorem Inv.turned (I:Inv X pins σ H s)(k:∀ b o,b≠it->s.heap.get? b=some o->h'.get? b=some o)(hn:H it=none)(hL:it≠X.env.locals)(h1:it∈X.ex∨X.s₀.heap.objs.size<=it)(h2:∀ x c,X.env.cells.lookup x=some c->c≠it)(h3:∀ p∈X.pn++pins,p.1≠it):Inv X pins σ H { s with heap:=h',toks:=t' }:=by
 have nit:∀ b u,H b=some u->b≠it:=λb u e z=>by rw [z,hn] at e;cases e
 refine I.step (g':=s.gens) (d':=s.drawn) (ch:=[it]) (λb hb=>?_) (λb o _ _ hc e _=>k b o (λz=>hc (by simp [z])) e) (λb o _ _ hc e _=>⟨o.slots,k b o (λz=>hc (by simp [z])) e⟩) (λ_ _ _ _ n=>n)
  (λb o hc e=>⟨o,k b o (λz=>hc (by simp [z])) e⟩) (λ_ _ e=>e) (λ_ _ _ e=>e) (λ_ _ _ e=>e) (λm hm=>?_) (λb u e=>?_) I.bare
 ·have e:b=it:=by simpa using hb
  subst e;exact ⟨h1,hL,h2,h3⟩
 ·obtain ⟨o,es,ep,ho,r⟩:=hm;exact ⟨o,es,ep,k _ o (Ne.symm hL) ho,r⟩
 ·refine (I.hok b u e).stay (λc v hc q=>k c v ?_ q) (λ_ q=>q) (λ_ _ q=>q) λ_ _ _ q=>q;rcases hc with z|z
  ·rw [z];exact nit b u e
  ·exact nit c _ z
theorem Inv.tok (I:Inv X pins σ H s)(t:Nat):Inv X pins σ H { s with toks:=t }:=I.un (h':=s.heap) (t':=t) Un.refl I.hok
theorem Inv.kept (I:Inv X pins σ H s)(k:∀ b u,s.heap.get? b=some u->h'.get? b=some u):Inv X pins σ H { s with heap:=h',toks:=t' }:=I.un (Un.kept k) (I.hok.kept k)
theorem Inv.laid (I:Inv X pins σ H s)(k:∀ b u,s.heap.get? b=some u->h'.get? b=some u)(hp:s.heap.objs.size<=a)(new:ObjOk X.prog X.w (w6 H a o) h' a o):Inv X pins σ (w6 H a o) { s with heap:=h',toks:=t' }:=I.un (Un.laid k hp (I.hok.fresh hp)) (I.hok.laid k hp new)
theorem Inv.write {x e:Addr}(I:Inv X pins σ H s)(mu:Mut (H x))(he:e=x∨H e=some (.own x))(k:∀ b u,b≠e->s.heap.get? b=some u->h'.get? b=some u)(heo:∃ u,h'.get? e=some u)(new:ObjOk X.prog X.w (w6 H x o) h' x o):Inv X pins σ (w6 H x o) { s with heap:=h',toks:=t' }:=I.un (Un.write mu he k heo) (I.hok.write mu he k heo new)
theorem Inv.weak {σ':List (Option V)}(I:Inv X pins σ H s)(hl:σ'.length=σ.length)(w:∀(i:Nat) v,σ'[i]?=some (some v)->σ[i]?=some (some v)):Inv X pins σ' H s :=
 ⟨I.ok,I.os,I.bare,I.base,let ⟨m,hn,hl'⟩:=I.loc;⟨m,hn,λi x v e1 e2 e3=>hl' i x v e1 (w i v e2) e3⟩,I.cell,I.free,I.freeC,I.pin,I.hok,hl.trans I.len⟩
theorem Inv.pins_of {pins':List (Addr×Obj)}(I:Inv X pins σ H s)(h:∀ p∈pins',s.heap.get? p.1=some p.2/\H p.1=none/\p.1≠X.env.locals/\p.1∉X.fs/\∀ v,p.2.data ≠ .cell v):Inv X pins' σ H s :=
 ⟨I.ok,I.os,I.bare,I.base,I.loc,I.cell,I.free,I.freeC,λp hp=>(uY.mp hp).elim (λz=>I.pin p (uQ _ z)) (h p),I.hok,I.len⟩
theorem BO (hN:N.Nodup){i:Nat}(a:N[i]?=some x)(b:N[j]?=some x):i=j:=by obtain ⟨h1,e1⟩:=yC.mp a;obtain ⟨h2,e2⟩:=yC.mp b;exact (tW hN).mp (e1.trans e2.symm)
theorem Cs {M:Model}{i:Nat}{Q:Unit->Shared->Prop}(I:Inv X pins σ H s)(hN:X.N.Nodup)(hi:X.N[i]?=some x)(hx:Loc X.env.scope x)(r:RelV v u)(h:∀ s',Inv X pins (σ.set i (some v)) H s'->(∃ a,Heap.SameBut a s.heap s'.heap/\(a=X.env.locals∨X.env.cells.lookup x=some a))->Q () s')(hf:X.fn x=true∨X.env.scope.names.lookup x=some .local:=by first|exact .inl rfl|exact .inr rfl|assumption):wpAny M A (storeName X.env x u) Q E s:=by
 obtain ⟨m,hn,hl⟩:=id I.loc;have hcls:(X.env.scope.kind == .class || (X.env.scope.kind == .module&&X.env.locals != X.env.globals))=false:=by rw [I.ok.kind];rfl
 have hiσ:i<σ.length:=by rw [I.len];exact (yC.mp hi).1
 have cne:=I.cne;have tracked:∀{a:Addr}{h':Heap},(∃ o,s.heap.get? a=some o/\H a=none)->Heap.SameBut a s.heap h'->HOk X.prog X.w H h':=λ{a h'} ha hs b ob e=>by
  obtain ⟨_,_,hfree⟩:=ha;refine (I.hok b ob e).stay (λc w' hc q=>(hs.2 c ?_).trans q) (λ_ q=>q) (λ_ _ q=>q) λ_ _ _ q=>q;rintro rfl;rcases hc with rfl|hc
  ·rw [hfree] at e;cases e
  ·rw [hfree] at hc;cases hc
 rcases hx with hk|hk
 ·refine wpAny_storeName_local hk hn (λh' hn' hs=>?_) hcls;obtain ⟨oL,_,_,hoL,_⟩:=id hn;refine h _ ⟨I.ok,I.os,I.bare,⟨λb o e n hb hx=>?_,λb o e n hb hx=>?_,I.base.free,λb o e hx=>?_,I.base.tups,I.base.frzs,I.base.tbls⟩,⟨_,hn',λj y v' e1 e2 e3=>?_⟩,λy c e=>?_,I.free,I.freeC,λp hp=>?_,tracked ⟨oL,hoL,I.free⟩ hs,by simpa using I.len⟩ ⟨_,hs,.inl rfl⟩
  ·exact (hs.2 b (yL (yF (yQ e) I.ok.above))).trans (I.base.keep b o e n hb hx)
  ·obtain ⟨sl,e1⟩:=I.base.slot b o e n hb hx;exact ⟨sl,(hs.2 b (yL (yF (yQ e) I.ok.above))).trans e1⟩
  ·obtain ⟨o',e1⟩:=I.base.there b o e hx;exact ⟨o',(hs.2 b (yL (yF (yQ e) I.ok.above))).trans e1⟩
  ·by_cases hj:j=i
   ·subst hj;rw [hi] at e1;cases e1;rw [uO hiσ] at e2;cases e2;exact ⟨u,r,.inl ⟨hk,by simp⟩⟩
   ·rw [yq (Ne.symm hj)] at e2;obtain ⟨u',r',q⟩:=hl j y v' e1 e2 e3;refine ⟨u',r',?_⟩;rcases q with ⟨k,e⟩|⟨k,c,e,z⟩
    ·refine .inl ⟨k,?_⟩;have:y≠x:=λe=>hj (BO hN e1 (e▸hi));simp [this,e]
    ·exact .inr ⟨k,c,e,z.sameBut hs (cne y c e)⟩
  ·obtain ⟨w',z⟩:=I.cell y c e;exact ⟨w',z.sameBut hs (cne y c e)⟩
  ·obtain ⟨e,n,ne,nf,d⟩:=I.pin p hp;exact ⟨(hs.2 p.1 ne).trans e,n,ne,nf,d⟩
 ·have hfn:X.fn x=true:=by
   rcases hf with z|z
   ·exact z
   ·rw [z] at hk;cases hk
  obtain ⟨c,hc⟩:=I.ok.has x (.inl hk);obtain ⟨w',z⟩:=I.cell x c hc;refine wpAny_storeName_cell I.ok.kind hk hc z (λh' hc' hs=>?_);obtain ⟨oc,hoc,hocd⟩:=id z;refine h { s with heap:=h' } ⟨I.ok,I.os,I.bare,⟨λb o e n hb hx=>?_,λb o e n hb hx=>?_,I.base.free,λb o e hx=>?_,I.base.tups,I.base.frzs,I.base.tbls⟩,⟨m,hn.sameBut hs (Ne.symm (cne x c hc)),λj y v' e1 e2 e3=>?_⟩,λy c' e=>?_,I.free,I.freeC,λp hp=>?_,tracked ⟨oc,hoc,I.freeC x c hc⟩ hs,by simpa using I.len⟩ ⟨c,hs,.inr hc⟩
  ·exact (hs.2 b (yL (yF (yQ e) (I.ok.cab x c hfn hc)))).trans (I.base.keep b o e n hb hx)
  ·obtain ⟨sl,e1⟩:=I.base.slot b o e n hb hx;exact ⟨sl,(hs.2 b (yL (yF (yQ e) (I.ok.cab x c hfn hc)))).trans e1⟩
  ·obtain ⟨o',e1⟩:=I.base.there b o e hx;exact ⟨o',(hs.2 b (yL (yF (yQ e) (I.ok.cab x c hfn hc)))).trans e1⟩
  ·by_cases hj:j=i
   ·subst hj;rw [hi] at e1;cases e1;rw [uO hiσ] at e2;cases e2;exact ⟨u,r,.inr ⟨.inl hk,c,hc,hc'⟩⟩
   ·rw [yq (Ne.symm hj)] at e2;obtain ⟨u',r',q⟩:=hl j y v' e1 e2 e3;refine ⟨u',r',?_⟩;rcases q with q|⟨k,c',e,z'⟩
    ·exact .inl q
    ·refine .inr ⟨k,c',e,z'.sameBut hs ?_⟩;rintro rfl;exact hj (BO hN e1 (I.ok.inj _ _ _ e hc▸hi))
  ·by_cases hcc:c'=c
   ·subst hcc;exact ⟨_,hc'⟩
   ·obtain ⟨w2,z2⟩:=I.cell y c' e;exact ⟨w2,z2.sameBut hs hcc⟩
  ·obtain ⟨e,n,ne,nf,d⟩:=I.pin p hp;refine ⟨(hs.2 p.1 ?_).trans e,n,ne,nf,d⟩;intro q;rw [q,hoc] at e;have q':oc=p.2:=Option.some.inj e;exact d w' (by rw [<- q'];exact hocd)
theorem Ud {M:Model}{i:Nat}{Q:Unit->Shared->Prop}(I:Inv X pins σ H s)(hN:X.N.Nodup)(hi:X.N[i]?=some x)(hx:Loc X.env.scope x)(r:RelV v u)(h:∀ s',Inv X pins (σ.set i (some v)) H s'->Q () s')(hf:X.fn x=true∨X.env.scope.names.lookup x=some .local:=by first|exact .inl rfl|exact .inr rfl|assumption):wpAny M A (storeName X.env x u) Q E s :=
 Cs I hN hi hx r (λs' I' _=>h s' I') hf
theorem Inv.call' (I:Inv X pins σ H s)(ho:s'.os=s.os)(u:Un (frs X.stack) ch H H' s.heap s'.heap)(hok:HOk X.prog X.w H' s'.heap)(hg:AllBare s'.gens)(hch:∀ b∈ch,(b∈X.ex∨X.s₀.heap.objs.size<=b)/\b≠X.env.locals/\(∀ x c,X.env.cells.lookup x=some c->c≠b)/\∀ p∈X.pn++pins,p.1≠b):Inv X pins σ H' s':=by obtain ⟨h',g',d',t',o'⟩:=s';have e:o'=s.os:=ho;subst e;exact I.call (g':=g') (t':=t') (d':=d') u hok hg hch
end
abbrev XK:=Value->Option Addr->Hp->Prop
abbrev St:=List (Option V)
variable{σ:St}
abbrev VK:=V->Hp->Prop
abbrev TE:=St->Hp->VK->Prop
variable{t te tl:TE}
abbrev TT:=St->Hp->(Bool->Hp->Prop)->Prop
variable{tc:TT}
abbrev TA:=St->Hp->(List V->Hp->Prop)->Prop
structure ze where
 nx:St->Hp->Prop
 rt:VK
 bk:St->Hp->Prop:=λ_ _=>False
 ct:St->Hp->Prop:=λ_ _=>False
variable{D:ze}
abbrev TS:=ze->St->Hp->Prop
variable{tb:TS}
def EP (X:Cx)(pins:List (Addr×Obj))(σ:St)(Q:VK)(u:Value)(s':Shared):Prop:=∃ v H',Inv X pins σ H' s'/\RelV v u/\Q v H'
def TP (X:Cx)(pins:List (Addr×Obj))(σ:St)(Q:Bool->Hp->Prop)(b:Bool)(s':Shared):Prop:=∃ H',Inv X pins σ H' s'/\Q b H'
def AP (X:Cx)(pins:List (Addr×Obj))(σ:St)(Q:List V->Hp->Prop)(us:List Value)(s':Shared):Prop:=∃ vs H',Inv X pins σ H' s'/\Vals vs us/\Q vs H'
def SP (X:Cx)(pins:List (Addr×Obj))(D:ze)(f:Flow)(s':Shared):Prop :=
 match f with
 | .next=>∃ σ' H',Inv X pins σ' H' s'/\D.nx σ' H'
 | .brk=>∃ σ' H',Inv X pins σ' H' s'/\D.bk σ' H'
 | .cont=>∃ σ' H',Inv X pins σ' H' s'/\D.ct σ' H'
 | .ret u=>∃ v σ' H',Inv X pins σ' H' s'/\RelV v u/\D.rt v H'
def PE (X:Cx)(e:Expr)(t:TE):Prop :=
 ∀(pins:List (Addr×Obj))(s:Shared)(σ:St)(H:Hp)(Q:VK),Inv X pins σ H s->t σ H Q->wpAny (model X.prog X.w) X.A (eval e X.env) (EP X pins σ Q) X.xe s
def PT (X:Cx)(e:Expr)(t:TT):Prop :=
 ∀(pins:List (Addr×Obj))(s:Shared)(σ:St)(H:Hp)(Q:Bool->Hp->Prop),Inv X pins σ H s->t σ H Q->wpAny (model X.prog X.w) X.A (isTrue e X.env (eval e X.env)) (TP X pins σ Q) X.xe s
def PW (X:Cx)(e:Expr)(t:TT):Prop :=
 ∀(whole:Sem Value)(pins:List (Addr×Obj))(s:Shared)(σ:St)(H:Hp)(Q:Bool->Hp->Prop),Inv X pins σ H s->t σ H Q->wpAny (model X.prog X.w) X.A (isTrue e X.env whole) (TP X pins σ Q) X.xe s
theorem PW.pt {t:TT}(h:PW X e t):PT X e t:=h _
def PA (X:Cx)(es:List Expr)(t:TA):Prop :=
 ∀(pos:Pos)(pins:List (Addr×Obj))(s:Shared)(σ:St)(H:Hp)(Q:List V->Hp->Prop),Inv X pins σ H s->t σ H Q->wpAny (model X.prog X.w) X.A (spliced (backTo pos (starEach es X.env))) (AP X pins σ Q) X.xe s
def PS (X:Cx)(st:Stmt)(t:TS):Prop :=
 ∀(pins:List (Addr×Obj))(s:Shared)(σ:St)(H:Hp)(D:ze),Inv X pins σ H s->t D σ H->wpAny (model X.prog X.w) X.A (exec st X.env) (SP X pins D) X.xe s
def PSs (X:Cx)(st:List Stmt)(t:TS):Prop :=
 ∀(pins:List (Addr×Obj))(s:Shared)(σ:St)(H:Hp)(D:ze),Inv X pins σ H s->t D σ H->wpAny (model X.prog X.w) X.A (execs st X.env) (SP X pins D) X.xe s
theorem v6 {t:Sem α}{Q Q':α->Shared->Prop}{M:Model}(h:wpAny M A t Q E s)(hQ:∀ a s,Q a s->Q' a s):wpAny M A t Q' E s:=wpAny_mono h hQ λ_ _ x=>x
section
variable {X:Cx}
theorem bin {a b:Expr}{ta tb:TE}(ha:PE X a ta)(hb:PE X b tb)(I:Inv X pins σ H s)(h:ta σ H λx H1=>tb σ H1 λy H2=>R x y H2){Q:α->Shared->Prop}{f:Value->Value->Sem α}(hf:∀ v u s2 x y H2,Inv X pins σ H2 s2->RelV x v->RelV y u->R x y H2->wpAny (model X.prog X.w) X.A (f v u) Q X.xe s2):wpAny (model X.prog X.w) X.A (eval a X.env) (λv s₁=>wpAny (model X.prog X.w) X.A (eval b X.env) (λu s₂=>wpAny (model X.prog X.w) X.A (f v u) Q X.xe s₂) X.xe s₁) X.xe s:=by refine v6 (ha pins s σ H _ I h) λv s1 ⟨x,H1,I1,r1,q1⟩=>?_;refine v6 (hb pins s1 σ H1 _ I1 q1) λu s2 ⟨y,H2,I2,r2,q2⟩=>?_;exact hf v u s2 x y H2 I2 r1 r2 q2
def qF (i:Nat):TE:=λσ H Q=>∃ v,σ[i]?=some (some v)/\Q v H
def tC (v:V):TE:=λ_ H Q=>Q v H
theorem BX {i:Nat}(hN:X.N[i]?=some x)(hv:Vis X.env.scope x)(hd:(x==("__debug__":Str))=false:=by decide)(hcd:(x==("__classdict__":Str))=false:=by decide):PE X (.Name x pos) (qF i):=by
 intro pins s σ H Q I h;obtain ⟨v,e,h⟩:=h;obtain ⟨m,hn,hl⟩:=I.loc;obtain ⟨u,r,l⟩:=hl i x v hN e hv;have fin:EP X pins σ Q u s:=⟨v,H,I,r,h⟩;rcases l with ⟨hk,hm⟩|⟨hk,c,hc,hcell⟩
 ·exact wpAny_Name (wpAny_loadName_local I.ok.kind hk hn hm fin) hd
 ·rcases hk with hk|hk
  ·exact wpAny_Name (wpAny_loadName_cell I.ok.kind hk hc hcell fin) hd
  ·exact wpAny_Name (wpAny_loadName_free I.ok.kind hk hc hcell fin hcd) hd
theorem z0 {i j pos}:PE X (.Constant (.int i) j pos) (tC (.int i)):=λ_ _ _ H _ I h=>wpAny_Constant_int ⟨.int i,H,I.tok _,⟨_,rfl⟩,h⟩
theorem xR {b j pos}:PE X (.Constant (.bool b) j pos) (tC (.bl b)):=λ_ _ _ H _ I h=>Constant_bool ⟨.bl b,H,I,rfl,h⟩
theorem jw {j pos}:PE X (.Constant .none j pos) (tC .non):=λ_ _ _ H _ I h=>Constant_none ⟨.non,H,I,rfl,h⟩
theorem zc {x j pos}:PE X (.Constant (.str x) j pos) (tC (.str x)):=λ_ _ _ H _ I h=>Calls.Constant_str ⟨.str x,H,I.tok _,⟨_,rfl⟩,h⟩
def Gl (X:Cx)(x:Str):Prop:=X.env.kindOf x=some .globalImplicit
theorem ZZ (I:Inv X pins σ H s)(hg:Gl X x)(hm:X.mg x=some u)(h:Q u s)(hd:(x==("__debug__":Str))=false:=by decide):wpAny (model X.prog X.w) X.A (eval (.Name x pos) X.env) Q E s :=
 Calls.Name_function_global I.ok.kind hg (Calls.loadGlobal_global (by rw [I.ok.glob];exact I.mod.glob.keeps I.bk) hm h) hd
theorem vw (I:Inv X pins σ H s)(hg:Gl X x)(hm:X.mg x=none)(hv:bootBuiltins x=some u)(h:Q u s)(hn:x ≠ "__name__":=by decide)(hd:(x==("__debug__":Str))=false:=by decide):wpAny (model X.prog X.w) X.A (eval (.Name x pos) X.env) Q E s:=by obtain ⟨mb,h1,h2⟩:=I.mod.blt;exact Calls.Name_function_global I.ok.kind hg (Calls.loadGlobal_builtin (by rw [I.ok.glob];exact I.mod.glob.keeps I.bk) hm (by rw [I.ok.blt];exact h1.keeps I.bk) ((h2 x hn).trans hv) h) hd
theorem Jx (hg:Gl X x)(hm:X.mg x=some u)(r:RelV v u)(hd:(x==("__debug__":Str))=false:=by decide):PE X (.Name x pos) (tC v) :=
 λ_ _ _ H _ I h=>ZZ I hg hm ⟨v,H,I,r,h⟩ hd
theorem zH (hg:Gl X x)(hm:X.mg x=none)(hv:bootBuiltins x=some u)(r:RelV v u)(hn:x ≠ "__name__":=by decide)(hd:(x==("__debug__":Str))=false:=by decide):PE X (.Name x pos) (tC v) :=
 λ_ _ _ H _ I h=>vw I hg hm hv ⟨v,H,I,r,h⟩ hn hd
variable {a b:Expr}{ta tb:TE}{pos:Pos}
def PC (X:Cx)(op:CmpOp)(a b:Expr)(t:TE):Prop :=
 ∀(pins:List (Addr×Obj))(s:Shared)(σ:St)(H:Hp)(Q:VK),Inv X pins σ H s->t σ H Q ->
  wpAny (model X.prog X.w) X.A (eval a X.env) (λv s₁=>wpAny (model X.prog X.w) X.A (eval b X.env) (λu s₂=>wpAny (model X.prog X.w) X.A (compareOp op v u) (EP X pins σ Q) X.xe s₂) X.xe s₁) X.xe s
def tB (t:TE):TT:=λσ H Q=>t σ H λx H1=>∃ c,x = .bl c/\Q c H1
theorem Pi (h:PC X op a b t)(h1:behindInMarks op b=false:=by first|exact nobehind _ (by decide) (by decide)|rfl):PT X (.Compare a [op] [b] pos) (tB t):=by intro pins s σ H Q I hw;refine wpAny_isTrue_Compare1 (v6 (h pins s σ H _ I hw) λv s1 h1=>v6 h1 λu s2 h2=>v6 h2 λc s3 ⟨x,H1,I1,r1,q1⟩=>?_) h1;obtain ⟨d,rfl,q⟩:=q1;cases r1;exact wpAny_truthy_bool ⟨H1,I1,q⟩
variable {tA tB':TT}{rest:List Expr}
def tAnd (t u:TT):TT:=λσ H Q=>t σ H λc H1=>if c=true then u σ H1 Q else Q false H1
def tOr (t u:TT):TT:=λσ H Q=>t σ H λc H1=>if c=true then Q true H1 else u σ H1 Q
def tNot (t:TT):TT:=λσ H Q=>t σ H λc H1=>Q (!c) H1
theorem WE (ha:PT X a tA):PW X (.BoolOp .And [a] pos) tA:=by
 intro wh pins s σ H Q I h;refine isTrue_and (v6 (ha pins s σ H Q I h) λc s1 e=>?_);cases c with
 |true=>exact isTrue_and_nil e
 |false=>exact e
theorem jY (ha:PT X a tA):PW X (.BoolOp .Or [a] pos) tA:=by
 intro wh pins s σ H Q I h;refine isTrue_or (v6 (ha pins s σ H Q I h) λc s1 e=>?_);cases c with
 |false=>exact isTrue_or_nil e
 |true=>exact e
theorem WD (ha:PT X a tA)(hb:PW X (.BoolOp .And (b::rest) pos) tB'):PW X (.BoolOp .And (a::b::rest) pos) (tAnd tA tB'):=by
 intro wh pins s σ H Q I h;refine isTrue_and (v6 (ha pins s σ H _ I h) λc s1 ⟨H1,I1,q1⟩=>?_);cases c with
 |true=>exact hb wh pins s1 σ H1 Q I1 q1
 |false=>exact ⟨H1,I1,q1⟩
theorem zL (ha:PT X a tA)(hb:PW X (.BoolOp .Or (b::rest) pos) tB'):PW X (.BoolOp .Or (a::b::rest) pos) (tOr tA tB'):=by
 intro wh pins s σ H Q I h;refine isTrue_or (v6 (ha pins s σ H _ I h) λc s1 ⟨H1,I1,q1⟩=>?_);cases c with
 |true=>exact ⟨H1,I1,q1⟩
 |false=>exact hb wh pins s1 σ H1 Q I1 q1
theorem qO (ha:PT X a tA):PT X (.UnaryOp .Not a pos) (tNot tA):=by intro pins s σ H Q I h;exact isTrue_not (ha pins s σ H (λc H1=>Q (!c) H1) I h)
def Cy (ta tb:TE):TE:=λσ H Q=>ta σ H λx H1=>∃ c,x = .bl c/\if c=true then tb σ H1 Q else Q (.bl false) H1
def CF (ta:TE):TE:=λσ H Q=>ta σ H λx H1=>∃ c,x = .bl c/\Q (.bl (!c)) H1
theorem QO {op}(h:PE X a t):PE X (.BoolOp op [a] pos) t:=λpins s σ H Q I hw=>BoolOp_one (h pins s σ H Q I hw)
theorem wC (ha:PE X a ta)(hb:PE X (.BoolOp .And (b::rest) pos) tb):PE X (.BoolOp .And (a::b::rest) pos) (Cy ta tb):=by
 intro pins s σ H Q I h;refine BoolOp_and (v6 (ha pins s σ H _ I h) λv s1 ⟨x,H1,I1,r1,q1⟩=>?_);obtain ⟨c,rfl,q1⟩:=q1;cases r1;refine wpAny_truthy_bool ?_;cases c with
 |true=>exact hb pins s1 σ H1 Q I1 q1
 |false=>exact ⟨.bl false,H1,I1,rfl,q1⟩
theorem BV (ha:PE X a ta):PE X (.UnaryOp .Not a pos) (CF ta):=by intro pins s σ H Q I h;refine UnaryOp_ (v6 (ha pins s σ H _ I h) λv s1 ⟨x,H1,I1,r1,q1⟩=>?_);obtain ⟨c,rfl,q1⟩:=q1;cases r1;exact not_of (wpAny_truthy_bool ⟨.bl (!c),H1,I1,rfl,q1⟩)
def tIf (t:TT)(ta tb:TE):TE:=λσ H Q=>t σ H λc H1=>if c=true then ta σ H1 Q else tb σ H1 Q
theorem Wq (hc:PT X c tA)(ha:PE X a ta)(hb:PE X b tb):PE X (.IfExp c a b pos) (tIf tA ta tb):=by
 intro pins s σ H Q I h;refine wpAny_IfExp (v6 (hc pins s σ H _ I h) λd s1 ⟨H1,I1,q1⟩=>?_);cases d with
 |true=>exact ha pins s1 σ H1 Q I1 q1
 |false=>exact hb pins s1 σ H1 Q I1 q1
end
def SqL (K:Fg)(H:Hp)(a:Addr)(xs:List V):Prop :=
 Rd H a (.lst xs) ∨
  ∃ (o:Obj) (its:Array Value) (n:Nat),K.lookup a=some o/\o.cls = .type "list"/\o.dict=none/\o.data = .seq its n/\its.size<=sizeLine/\Vals xs its.toList
def SqT (K:Fg)(H:Hp)(a:Addr)(xs:List V):Prop :=
 Rd H a (.tup xs) ∨
  ∃ (o:Obj) (its:Array Value) (n:Nat),K.lookup a=some o/\o.cls = .type "tuple"/\o.data = .seq its n/\its.size<=sizeLine/\Vals xs its.toList
def absV:Value->Option V
 | .none=>some .non
 | .bool b=>some (.bl b)
 | .int i _=>some (.int i)
 | .str x _=>some (.str x)
 | .bytes b _=>some (.byt b)
 | .float b _=>some (.flt b)
 | .ref a=>some (.ref a)
 | .type n=>some (.ty n)
 |_=>none
theorem RelV.abs {x:V}(r:RelV x u):absV u=some x:=by
 cases x with
 |non=>cases r;rfl
 |bl _=>cases r;rfl
 |int _=>obtain ⟨t,rfl⟩:=r;rfl
 |str _=>obtain ⟨t,rfl⟩:=r;rfl
 |byt _=>obtain ⟨t,rfl⟩:=r;rfl
 |flt _=>obtain ⟨t,rfl⟩:=r;rfl
 |ref _=>cases r;rfl
 |ty _=>cases r;rfl
theorem RelV.inj {x:V}(r:RelV x u)(q:RelV y u):x=y:=Option.some.inj (r.abs.symm.trans q.abs)
theorem Vals.inj:∀{xs ys:List V}{us:List Value},Vals xs us->Vals ys us->xs=ys
 |_,_,_,.nil,.nil=>rfl
 |_,_,_,.cons r t,.cons r' t'=>by rw [r.inj r',Vals.inj t t']
section
variable {X:Cx}{pins:List (Addr×Obj)}{σ:St}{H:Hp}{s:Shared}{a:Addr}{xs ys:List V}
theorem SqL.of (h:H a=some (.lst xs)):SqL K H a xs:= .inl (.inl h)
theorem SqT.of (h:H a=some (.tup xs)):SqT K H a xs:= .inl (.inl h)
theorem Inv.list (I:Inv X pins σ H s)(h:SqL X.K H a xs):∃ its:List Value,Vals xs its/\PlainL s.heap a its.toArray/\xs.length<=sizeLine:=by
 rcases h with h|⟨o,its,n,hk,hc,hd,hs,hz,r⟩
 ·obtain ⟨z,its,n,r,e⟩:=h.ok I.hok;exact ⟨its,r,⟨_,n,e,rfl,rfl,rfl⟩,z⟩
 ·refine ⟨its.toList,r,⟨o,n,I.kIn a o hk,hc,hd,by simpa using hs⟩,?_⟩;have e:=r.length;simp only [uh] at e;omega
theorem Inv.tuple (I:Inv X pins σ H s)(h:SqT X.K H a xs):∃ its:List Value,Vals xs its/\IsTup s.heap a its.toArray/\xs.length<=sizeLine:=by
 rcases h with h|⟨o,its,n,hk,hc,hs,hz,r⟩
 ·obtain ⟨z,its,r,p⟩:=h.ok I.hok;exact ⟨its,r,p,z⟩
 ·refine ⟨its.toList,r,⟨o,I.kIn a o hk,hc,n,by simpa using hs⟩,?_⟩;have e:=r.length;simp only [uh] at e;omega
theorem Inv.list_inj (I:Inv X pins σ H s)(h:SqL X.K H a xs)(h':SqL X.K H a ys):xs=ys:=by
 obtain ⟨its,r,⟨o,n,e,_,_,d⟩,_⟩:=I.list h;obtain ⟨its',r',⟨o',n',e',_,_,d'⟩,_⟩:=I.list h';rw [e] at e';cases e';rw [d] at d';injection d' with d1 _;have:its=its':=by simpa using congrArg Array.toList d1
 subst this;exact r.inj r'
theorem Inv.tuple_inj (I:Inv X pins σ H s)(h:SqT X.K H a xs)(h':SqT X.K H a ys):xs=ys:=by
 obtain ⟨its,r,⟨o,e,_,n,d⟩,_⟩:=I.tuple h;obtain ⟨its',r',⟨o',e',_,n',d'⟩,_⟩:=I.tuple h';rw [e] at e';cases e';rw [d] at d';injection d' with d1 _;have:its=its':=by simpa using congrArg Array.toList d1
 subst this;exact r.inj r'
end
abbrev Cx.wish (X:Cx)(E:Value->Shared->Prop):Cx:={ X with xe:=E }
abbrev Cx.nox (X:Cx):Cx:=X.wish λ_ _=>False
theorem Cx.Ok.wish (ok:X.Ok)(E:Value->Shared->Prop):(X.wish E).Ok :=
 ⟨ok.mod,ok.kind,ok.glob,ok.blt,ok.above,ok.inj,ok.has,ok.cab,ok.hd,ok.frames,ok.stk,ok.exf,ok.bs,ok.bsz,ok.noex,ok.exfs,ok.funs,ok.frf,ok.tbs⟩
theorem Cx.Ok.unwish (ok:(X.wish E).Ok):X.Ok :=
 ⟨ok.mod,ok.kind,ok.glob,ok.blt,ok.above,ok.inj,ok.has,ok.cab,ok.hd,ok.frames,ok.stk,ok.exf,ok.bs,ok.bsz,ok.noex,ok.exfs,ok.funs,ok.frf,ok.tbs⟩
section
variable {X:Cx}{pins:List (Addr×Obj)}{σ:St}{H:Hp}{s:Shared}{E:Value->Shared->Prop}
theorem Inv.wish (I:Inv X pins σ H s)(E:Value->Shared->Prop):Inv (X.wish E) pins σ H s:=⟨I.ok.wish E,I.os,I.bare,I.base,I.loc,I.cell,I.free,I.freeC,I.pin,I.hok,I.len⟩
theorem Inv.unwish (I:Inv (X.wish E) pins σ H s):Inv X pins σ H s:=⟨I.ok.unwish,I.os,I.bare,I.base,I.loc,I.cell,I.free,I.freeC,I.pin,I.hok,I.len⟩
theorem SP.unwish {f:Flow}(h:SP (X.wish E) pins D f s'):SP X pins D f s':=by
 cases f with
 |next=>obtain ⟨σ',H',I,q⟩:=h;exact ⟨σ',H',I.unwish,q⟩
 |brk=>obtain ⟨σ',H',I,q⟩:=h;exact ⟨σ',H',I.unwish,q⟩
 |cont=>obtain ⟨σ',H',I,q⟩:=h;exact ⟨σ',H',I.unwish,q⟩
 |ret u=>obtain ⟨v,σ',H',I,r,q⟩:=h;exact ⟨v,σ',H',I.unwish,r,q⟩
theorem PSs.nox {st:List Stmt}{t:TS}(h:PSs X.nox st t):PSs X st t:=λpins s σ H D I hw =>
 wpAny_mono (h pins s σ H D (I.wish _) hw) (λ_ _ q=>q.unwish) λ_ _ z=>False.elim z
end
section
variable {X:Cx}{st:Stmt}{rest:List Stmt}{t u:TS}{e:Expr}{te:TE}{pos:Pos}
def Ug:TS:=λD σ H=>D.nx σ H
def tSeq (t u:TS):TS:=λD σ H=>t { D with nx:=u D } σ H
theorem n9:PSs X [] Ug:=λ_ _ σ H _ I h=>wpAny_execs_nil ⟨σ,H,I,h⟩
theorem j3 (h1:PS X st t)(h2:PSs X rest u):PSs X (st::rest) (tSeq t u):=by
 intro pins s σ H D I h;refine wpAny_execs_cons (v6 (h1 pins s σ H { D with nx:=u D } I h) λf s1 q=>?_);cases f with
 |next=>obtain ⟨σ',H',I',q⟩:=q;exact h2 pins s1 σ' H' D I' q
 |ret v=>exact q
 |brk=>exact q
 |cont=>exact q
theorem j4 (h1:PS X st t):PSs X [st] t:=by
 intro pins s σ H D I h;refine wpAny_execs_cons (v6 (h1 pins s σ H D I h) λf s1 q=>?_);cases f with
 |next=>exact wpAny_execs_nil q
 |ret v=>exact q
 |brk=>exact q
 |cont=>exact q
theorem Inv.quiet (I:Inv X pins σ H s):interactive X.env=false:=by simp [interactive,I.ok.kind]
def vO (te:TE):TS:=λD σ H=>te σ H λ_ H1=>D.nx σ H1
theorem jc (he:PE X e te)(hs:swapsWith e none pos.line X.env=pure false:=by rfl):PS X (.Expr e pos) (vO te):=by intro pins s σ H D I h;exact wpAny_Expr_any (v6 (he pins s σ H _ I h) λv s1 ⟨x,H1,I1,r1,q1⟩=>⟨σ,H1,I1,q1⟩) I.quiet hs
def wL (te:TE):TS:=λD σ H=>te σ H D.rt
theorem y4 (he:PE X e te):PS X (.Return (some e) pos) (wL te):=by intro pins s σ H D I h;exact wpAny_Return_some (v6 (he pins s σ H _ I h) λv s1 ⟨x,H1,I1,r1,q1⟩=>⟨x,σ,H1,I1,r1,q1⟩)
def tIfS (c:TT)(t u:TS):TS:=λD σ H=>c σ H λb H1=>if b=true then t D σ H1 else u D σ H1
theorem n8 {a b:List Stmt}(hc:PT X c tc)(ha:PSs X a t)(hb:PSs X b u):PS X (.If c a b pos) (tIfS tc t u):=by
 intro pins s σ H D I h;refine wpAny_If (v6 (hc pins s σ H _ I h) λd s1 ⟨H1,I1,q1⟩=>?_);cases d with
 |true=>exact ha pins s1 σ H1 D I1 q1
 |false=>exact hb pins s1 σ H1 D I1 q1
def CC:TS:=λ_ _ _=>False
theorem jd:PS X st CC:=λ_ _ _ _ _ _ h=>h.elim
end
abbrev TG:=V->St->Hp->(St->Hp->Prop)->Prop
abbrev TGs:=List V->St->Hp->(St->Hp->Prop)->Prop
def PG (X:Cx)(target:Expr)(t:TG):Prop :=
 ∀(pins:List (Addr×Obj))(s:Shared)(σ:St)(H:Hp)(v:V)(u:Value)(Q:St->Hp->Prop),Inv X pins σ H s->RelV v u->t v σ H Q ->
  wpAny (model X.prog X.w) X.A (assign target X.env u) (λ_ s'=>∃ σ' H',Inv X pins σ' H' s'/\Q σ' H') X.xe s
def PGs (X:Cx)(ts:List Expr)(t:TGs):Prop :=
 ∀(pins:List (Addr×Obj))(s:Shared)(σ:St)(H:Hp)(vs:List V)(us:List Value)(Q:St->Hp->Prop),Inv X pins σ H s->Vals vs us->t vs σ H Q ->
  wpAny (model X.prog X.w) X.A (assignInOrder ((assignEach ts X.env).map (·.2)) us) (λ_ s'=>∃ σ' H',Inv X pins σ' H' s'/\Q σ' H') X.xe s
abbrev TSet:=V->V->V->Hp->(Hp->Prop)->Prop
def PSet (X:Cx)(t:TSet):Prop :=
 ∀(pins:List (Addr×Obj))(s:Shared)(σ:St)(H:Hp)(o i v:V)(ov iv u:Value)(Q:Hp->Prop),Inv X pins σ H s->RelV o ov->RelV i iv->RelV v u->t o i v H Q ->
  wpAny (model X.prog X.w) X.A (setItem ov iv u) (λ_ s'=>∃ H',Inv X pins σ H' s'/\Q H') X.xe s
abbrev TIp:=V->V->Hp->VK->Prop
def PIp (X:Cx)(op:Operator)(t:TIp):Prop :=
 ∀(pins:List (Addr×Obj))(s:Shared)(σ:St)(H:Hp)(x y:V)(v u:Value)(Q:VK),Inv X pins σ H s->RelV x v->RelV y u->t x y H Q ->
  wpAny (model X.prog X.w) X.A (inplaceOp op v u) (EP X pins σ Q) X.xe s
section
variable {X:Cx}{pos:Pos}
def xh (i:Nat):TG:=λv σ H Q=>Q (σ.set i (some v)) H
theorem m7 {i:Nat}(hN:X.N.Nodup)(hi:X.N[i]?=some x)(hx:Loc X.env.scope x)(hf:X.fn x=true∨X.env.scope.names.lookup x=some .local:=by first|exact .inl rfl|exact .inr rfl|assumption):PG X (.Name x pos) (xh i):=by intro pins s σ H v u Q I r h;exact wpAny_assign_Name (Ud I hN hi hx r (λs' I'=>⟨_,H,I',h⟩) hf)
def gNil:TGs:=λvs σ H Q=>vs=[]/\Q σ H
def VB (t:TG)(u:TGs):TGs:=λvs σ H Q=>∃ v r,vs=v::r/\t v σ H λσ' H'=>u r σ' H' Q
theorem jy:PGs X [] gNil:=by intro pins s σ H vs us Q I r h;obtain ⟨e,h⟩:=h;subst e;cases r;exact assignInOrder_nil ⟨σ,H,I,h⟩
theorem qV {t:TG}{u:TGs}(h1:PG X e t)(h2:PGs X es u)(hs:(assignEach (e::es) X.env).map (·.2)=assign e X.env::(assignEach es X.env).map (·.2):=by rfl):PGs X (e::es) (VB t u):=by
 intro pins s σ H vs us Q I r h;obtain ⟨v,vr,e1,h⟩:=h;subst e1;cases r with
 |cons r rr=>rw [hs];refine assignInOrder_cons (v6 (h1 pins s σ H _ _ _ I r h) λ_ s1 ⟨σ1,H1,I1,q1⟩=>?_);exact h2 pins s1 σ1 H1 _ _ Q I1 rr q1
def gTup (K:Fg)(n:Nat)(t:TGs):TG:=λv σ H Q=>∃ a xs,v = .ref a/\SqT K H a xs/\xs.length=n/\t xs σ H Q
theorem RM {k:Nat}{t:TGs}(hc:X.calm=true)(h:PGs X es t)(hn:(assignEach es X.env).length=n:=by rfl)(hst:(assignEach es X.env).findIdx? (·.1)=none:=by rfl):PG X (.Tuple es k pos) (gTup X.K n t):=by intro pins s σ H v u Q I r hw;obtain ⟨a,xs,e1,hq,hl,hw⟩:=hw;subst e1;cases r;obtain ⟨its,rv,ht,hz⟩:=I.tuple hq;refine assign_Tuple_tuple (I.ok.hd hc) ht (by simp [hn,<- hl,rv.length]) hst λh' hx=>?_;have I1:Inv X pins σ H { s with heap:=h' }:=I.kept (t':=s.toks) λb o e=>hx b o (yL (yQ e)) e;exact h pins _ σ H xs _ Q I1 (by simpa using rv) hw
def gSub (to ti:TE)(t:TSet):TG:=λv σ H Q=>to σ H λo H1=>ti σ H1 λi H2=>t o i v H2 λH3=>Q σ H3
theorem BZ {o i:Expr}{to ti:TE}{t:TSet}(ho:PE X o to)(hi:PE X i ti)(hs:PSet X t)
  (ha:∀ v,assign (.Subscript o i pos) X.env v=(do
   let ov <- holding [v] (eval o X.env)
   let iv <- holding [v,ov] (eval i X.env)
   standAt pos
   holding [v,ov,iv] (setItem ov iv v)
   release [v,ov,iv] []):=by intro _;rfl):PG X (.Subscript o i pos) (gSub to ti t):=by
 intro pins s σ H v u Q I r h;rw [ha];refine yR (wpAny_holding (v6 (ho pins s σ H _ I h) λov s1 ⟨x,H1,I1,r1,q1⟩=>?_));refine yR (wpAny_holding (v6 (hi pins s1 σ H1 _ I1 q1) λiv s2 ⟨y,H2,I2,r2,q2⟩=>?_));refine yR (wpAny_standAt (yR (wpAny_holding (v6 (hs pins s2 σ H2 x y v ov iv u _ I2 r1 r2 r q2) λ_ s3 ⟨H3,I3,q3⟩=>?_))));exact wpAny_release ⟨σ,H3,I3,q3⟩
def jg (te:TE)(g:TG):TS:=λD σ H=>te σ H λx H1=>g x σ H1 D.nx
theorem WC {g:TG}(he:PE X e te)(hg:PG X tg g)(hs:swapsWithSole [tg] e pos.line X.env=pure false:=by rfl)(hw:swappedStores [tg] e X.env=pure none:=by rfl)(h1:(assignEach [tg] X.env).map (·.2)=[assign tg X.env]:=by rfl):PS X (.Assign [tg] e pos) (jg te g):=by intro pins s σ H D I h;refine wpAny_Assign_stores (v6 (he pins s σ H _ I h) λv s1 ⟨x,H1,I1,r1,q1⟩=>?_) hs hw;rw [h1];exact v6 (hg pins s1 σ H1 x v _ I1 r1 q1) λ_ s2 q=>q
theorem qN {i:Nat}{x:Str}{e:Expr}{te:TE}{pos':Pos}(hN:X.N.Nodup)(hi:X.N[i]?=some x)(hx:Loc X.env.scope x)(he:PE X e te)(hs:swapsWith e (some (.Name x pos')) pos.line X.env=pure false:=by rfl)(hf:X.fn x=true∨X.env.scope.names.lookup x=some .local:=by first|exact .inl rfl|exact .inr rfl|assumption):PS X (.Assign [.Name x pos'] e pos) (jg te (xh i)):=by intro pins s σ H D I h;refine wpAny_Assign_Name (v6 (he pins s σ H _ I h) λv s1 ⟨y,H1,I1,r1,q1⟩=>?_) hs;exact Ud I1 hN hi hx r1 (λs2 I2=>⟨_,H1,I2,q1⟩) hf
def tAug (i:Nat)(te:TE)(ti:TIp):TS:=λD σ H=>∃ x,σ[i]?=some (some x)/\te σ H λy H1=>ti x y H1 λz H2=>D.nx (σ.set i (some z)) H2
theorem Tc {i:Nat}{op:Operator}{ti:TIp}{pos':Pos}(hN:X.N.Nodup)(hi:X.N[i]?=some x)(hx:Loc X.env.scope x)(he:PE X e te)(ho:PIp X op ti)(hf:X.fn x=true∨X.env.scope.names.lookup x=some .local:=by first|exact .inl rfl|exact .inr rfl|assumption):PS X (.AugAssign (.Name x pos') op e pos) (tAug i te ti):=by
 intro pins s σ H D I h;obtain ⟨v,e1,h⟩:=h;obtain ⟨m,hn,hl⟩:=I.loc;have vis:Vis X.env.scope x:=by rcases hx with k|k;exact .inl k;exact .inr (.inl k)
 obtain ⟨u,r,l⟩:=hl i x v hi e1 vis;refine wpAny_AugAssign_Name ?_;have go:wpAny (model X.prog X.w) X.A (eval e X.env) (λw s₂=>wpAny (model X.prog X.w) X.A (inplaceOp op u w) (λr s₃=>wpAny (model X.prog X.w) X.A (storeName X.env x r) (λ_=>SP X pins D .next) X.xe s₃) X.xe s₂) X.xe s:=by refine v6 (he pins s σ H _ I h) λw s1 ⟨y,H1,I1,r1,q1⟩=>?_;refine v6 (ho pins s1 σ H1 v y u w _ I1 r r1 q1) λz s2 ⟨zv,H2,I2,r2,q2⟩=>?_;exact Ud I2 hN hi hx r2 (λs3 I3=>⟨_,H2,I3,q2⟩) hf
 rcases l with ⟨hk,hm⟩|⟨hk,c,hc,hcell⟩
 ·exact wpAny_loadName_local I.ok.kind hk hn hm go
 ·rcases hk with hk|hk
  ·exact wpAny_loadName_cell I.ok.kind hk hc hcell go
  ·rcases hx with k|k
   ·have:X.env.scope.names.lookup x=some .free:=hk;rw [k] at this;cases this
   ·have:X.env.scope.names.lookup x=some .free:=hk;rw [k] at this;cases this
end
section
variable {X:Cx}{pos:Pos}
def CI (c:TT)(tb:TS):TS:=λD σ H=>∃ W:Nat->St->Hp->Prop,(∃ m,W m σ H)/\∀ m σ H,W m σ H ->
 c σ H λb H1=>if b=true then ∃ N:St->Hp->Prop,(∀ σ' H',N σ' H'->∃ m',m'<m/\W m' σ' H')/\tb { D with nx:=N,ct:=N,bk:=D.nx } σ H1 else D.nx σ H1
theorem Tf (hp:PassesOwn (model X.prog X.w) X.A X.env X.xe)(hc:PT X c tc)(hb:PSs X body tb):PS X (.While c body [] pos) (CI tc tb):=by
 intro pins s σ H D I h;obtain ⟨W,⟨m0,w0⟩,turn⟩:=h;refine wpAny_While (codeAny_whileLoop (λn s'=>∃ σ' H',Inv X pins σ' H' s'/\W n σ' H') ?_ m0 ⟨σ,H,I,w0⟩);rintro n s1 ⟨σ1,H1,I1,w1⟩;refine wpAny_passesOwn hp (v6 (hc pins s1 σ1 H1 _ I1 (turn n σ1 H1 w1)) λb s2 ⟨H2,I2,q2⟩=>?_);cases b with
 |true =>
  obtain ⟨N,hN,q2⟩:=q2;rw [if_pos rfl];refine wpAny_passesOwn hp (v6 (hb pins s2 σ1 H2 _ I2 q2) λf s3 q3=>?_);cases f with
  |next=>obtain ⟨σ3,H3,I3,n3⟩:=q3;obtain ⟨m',hm,w3⟩:=hN σ3 H3 n3;exact ⟨m',hm,σ3,H3,I3,w3⟩
  |cont=>obtain ⟨σ3,H3,I3,n3⟩:=q3;obtain ⟨m',hm,w3⟩:=hN σ3 H3 n3;exact ⟨m',hm,σ3,H3,I3,w3⟩
  |brk=>exact q3
  |ret v=>exact q3
 |false=>rw [if_neg yS];exact wpAny_execs_nil ⟨σ1,H2,I2,q2⟩
end
structure It where
 go:Nat->Hp->Prop
 yld:Nat->Hp->V->Hp->Prop
 stop:Nat->Hp->Prop
def xL (X:Cx)(pins:List (Addr×Obj))(H:Hp)(b:Addr):Prop :=
 H b=none/\b≠X.env.locals/\b∉X.fs/\(b∈X.ex∨X.s₀.heap.objs.size<=b)/\(∀ x c,X.env.cells.lookup x=some c->c≠b)/\∀ p∈X.pn++pins,p.1≠b
theorem Inv.fpOk {H':Hp}(I:Inv X pins σ H s)(hb:s.heap.objs.size<=b)(hn:H' b=none):xL X pins H' b:=by
 refine ⟨hn,ua (yF I.lt hb),I.nofs hb,.inr (yj I.sz hb),λx c e z=>?_,λp hp z=>?_⟩
 ·obtain ⟨v,q⟩:=I.cell x c e;exact absurd (yF q.lt (by rw [z];exact hb)) (uF _)
 ·exact absurd (yF (yQ (I.pin p hp).1) (by rw [z];exact hb)) (uF _)
structure Turn (P:Program)(w:World)(K:Fg)(tg:Expr)(J:It)(fp:List Addr)(it:Addr)(tn:Nat->Heap->Prop):Prop where
 mem:it∈fp
 obj:∀ i h,tn i h->∀ b∈fp,∃ o,h.get? b=some o/\∀ v,o.data ≠ .cell v
 keep:∀ i h h',tn i h->(∀ b∈fp,∀ o,h.get? b=some o->h'.get? b=some o)->tn i h'
 item:∀(X:Cx),X.prog=P->X.w=w->X.K=K->X.calm=true->∀(i:Nat)(pins:List (Addr×Obj))(s:Shared)(σ:St)(H:Hp)(E:Value->Shared->Prop),Inv X pins σ H s->(∀ b∈fp,xL X pins H b)->tn i s.heap->J.go i H ->
  wpAny (model P w) X.A (pyNext (.ref it)) (λr s1=>∃ u,r=some u /\
   wpAny (model P w) X.A (letOwnedTupleGo tg (.ref it) u) (λ_ s2=>∃ x H',Inv X pins σ H' s2/\RelV x u/\J.yld i H x H'/\tn (i+1) s2.heap/\∀ b∈fp,H' b=none) E s1) E s
 done:∀(X:Cx),X.prog=P->X.w=w->X.K=K->X.calm=true->∀(i:Nat)(pins:List (Addr×Obj))(s:Shared)(σ:St)(H:Hp)(E:Value->Shared->Prop),Inv X pins σ H s->(∀ b∈fp,xL X pins H b)->tn i s.heap->J.stop i H ->
  wpAny (model P w) X.A (pyNext (.ref it)) (λr s1=>r=none/\Inv X pins σ H s1) E s
 self:∀(A:Around)(i:Nat)(s:Shared)(Q:Value->Shared->Prop)(E:Value->Shared->Prop),tn i s.heap->Q (.ref it) s->wpAny (model P w) A (pyIter (.ref it)) Q E s
abbrev TI:=St->Hp->(It->Hp->Prop)->Prop
def PIE (X:Cx)(pins:List (Addr×Obj))(σ:St)(tg:Expr)(R:It->Hp->Prop)(itv:Value)(s2:Shared):Prop :=
 ∃(it:Addr)(fp:List Addr)(tn:Nat->Heap->Prop)(J:It)(H':Hp),itv = .ref it/\Inv X pins σ H' s2/\Turn X.prog X.w X.K tg J fp it tn/\tn 0 s2.heap/\(∀ b∈fp,xL X pins H' b)/\R J H'
def PI (X:Cx)(tg iter:Expr)(wi:TI):Prop :=
 ∀(pins:List (Addr×Obj))(s:Shared)(σ:St)(H:Hp)(R:It->Hp->Prop),Inv X pins σ H s->wi σ H R ->
  wpAny (model X.prog X.w) X.A (eval iter X.env) (λv s1=>wpAny (model X.prog X.w) X.A (pyIter v) (PIE X pins σ tg R) X.xe s1) X.xe s
theorem Xt {M:Model}{o:Obj}{n:String}{vs:Array Value}{Q:Unit->Shared->Prop}(ho:s.heap.get? it=some o)(hc:o.cls = .type n)(hd:o.data = .fields vs)(hn:["enumerate","zip","dict_itemiterator","dict_reverseitemiterator","odict_iterator","itertools.zip_longest","itertools.pairwise"].contains n=false)(hQ:Q () s):wpAny M A (letOwnedTupleGo tg (.ref it) u) Q E s:=by
  unfold letOwnedTupleGo;cases tg<;>first
    |exact yx hQ
    | (cases u <;> first
        |exact yx hQ
        | (refine yR (wpAny_load ho ?_)
           rw [hc,hd];show wpAny M A (if (["enumerate","zip","dict_itemiterator","dict_reverseitemiterator","odict_iterator","itertools.zip_longest","itertools.pairwise"].contains n&&vs[0]?==some (rawInt _))=true then _ else _) Q E s;rw [if_neg (by intro h;rw [hn,Bool.false_and] at h;cases h)];exact yx hQ))
def Itl (K:Fg)(a:Addr):It :=
 ⟨λi H=>∃ xs x,SqL K H a xs/\xs[i]?=some x,λi H x H'=>H'=H/\∀ xs,SqL K H a xs->xs[i]?=some x,λi H=>∃ xs,SqL K H a xs/\xs.length<=i⟩
def Itt (K:Fg)(a:Addr):It :=
 ⟨λi H=>∃ xs x,SqT K H a xs/\xs[i]?=some x,λi H x H'=>H'=H/\∀ xs,SqT K H a xs->xs[i]?=some x,λi H=>∃ xs,SqT K H a xs/\xs.length<=i⟩
def Itr (lo:Int)(n:Nat):It:=⟨λi _=>i<n,λi H x H'=>H'=H/\x = .int (lo+i),λi _=>n<=i⟩
theorem Ij (a it:Addr):Turn P w K tg (Itl K a) [it] it (λi h=>h.IsListIter it a i) where
 mem:=by simp
 obj:=λi h st b hb=>by
  have e:b=it:=by simpa using hb
  subst e;obtain ⟨o,e,c,d⟩:=st;exact ⟨o,e,λv z=>by rw [d] at z;cases z⟩
 keep:=λi h h' st k=>st.at λo e=>k it (by simp) o e
 item:=by intro X hP hw hK hc i pins s σ H E I hf st hg;subst hP hw hK;obtain ⟨xs,x,hq,hx⟩:=hg;obtain ⟨its,rv,p,hz⟩:=I.list hq;obtain ⟨u,hu,ru⟩:=rv.get hx;obtain ⟨f0,f1,f2,f3,f4,f5⟩:=hf it (by simp);refine wpAny_pyNext_list_item st p.isList (x:=u) (by simpa using hu) λh' st' sb=>?_;have I1:Inv X pins σ H { s with heap:=h' }:=I.turned (t':=s.toks) (λb o hb e=>(sb.2 b hb).trans e) f0 f1 f3 f4 f5;obtain ⟨o,e,c,d⟩:=id st';exact ⟨u,rfl,Xt (s:={ s with heap:=h' }) e c d (by decide) ⟨x,H,I1,ru,⟨rfl,λys hy=>by rw [I.list_inj hy hq];exact hx⟩,st',λb hb=>(hf b hb).1⟩⟩
 done:=by intro X hP hw hK hc i pins s σ H E I hf st hg;subst hP hw hK;obtain ⟨xs,hq,hx⟩:=hg;obtain ⟨its,rv,p,hz⟩:=I.list hq;obtain ⟨f0,f1,f2,f3,f4,f5⟩:=hf it (by simp);have hl:=rv.length;exact wpAny_pyNext_list_end (I.ok.hd hc) st p.isList (by simp;omega) λh' eb=>⟨rfl,I.turned (t':=s.toks) (λb o hb e=>eb b o hb e) f0 f1 f3 f4 f5⟩
 self:=λ_ _ _ _ _ st h=>wpAny_pyIter_listiter st h
theorem Io (a it:Addr):Turn P w K tg (Itt K a) [it] it (λi h=>h.IsTupleIter it a i) where
 mem:=by simp
 obj:=λi h st b hb=>by
  have e:b=it:=by simpa using hb
  subst e;obtain ⟨o,e,c,d⟩:=st;exact ⟨o,e,λv z=>by rw [d] at z;cases z⟩
 keep:=λi h h' st k=>st.at λo e=>k it (by simp) o e
 item:=by intro X hP hw hK hc i pins s σ H E I hf st hg;subst hP hw hK;obtain ⟨xs,x,hq,hx⟩:=hg;obtain ⟨its,rv,p,hz⟩:=I.tuple hq;obtain ⟨u,hu,ru⟩:=rv.get hx;obtain ⟨f0,f1,f2,f3,f4,f5⟩:=hf it (by simp);refine wpAny_pyNext_tuple_item st (show s.heap.IsTuple a its.toArray from p) (x:=u) (by simpa using hu) λh' st' sb=>?_;have I1:Inv X pins σ H { s with heap:=h' }:=I.turned (t':=s.toks) (λb o hb e=>(sb.2 b hb).trans e) f0 f1 f3 f4 f5;obtain ⟨o,e,c,d⟩:=id st';exact ⟨u,rfl,Xt (s:={ s with heap:=h' }) e c d (by decide) ⟨x,H,I1,ru,⟨rfl,λys hy=>by rw [I.tuple_inj hy hq];exact hx⟩,st',λb hb=>(hf b hb).1⟩⟩
 done:=by intro X hP hw hK hc i pins s σ H E I hf st hg;subst hP hw hK;obtain ⟨xs,hq,hx⟩:=hg;obtain ⟨its,rv,p,hz⟩:=I.tuple hq;obtain ⟨f0,f1,f2,f3,f4,f5⟩:=hf it (by simp);have hl:=rv.length;exact wpAny_pyNext_tuple_end (I.ok.hd hc) st (show s.heap.IsTuple a its.toArray from p) (by simp;omega) λh' eb=>⟨rfl,I.turned (t':=s.toks) (λb o hb e=>eb b o hb e) f0 f1 f3 f4 f5⟩
 self:=λ_ _ _ _ _ st h=>wpAny_pyIter_tupleiter st h
theorem Il (it:Addr)(lo:Int)(n:Nat):Turn P w K tg (Itr lo n) [it] it (λi h=>IsRangeIter h it (lo+(i:Nat)*1) ((n:Int)-(i:Nat)) 1) where
 mem:=by simp
 obj:=λi h st b hb=>by
  have e:b=it:=by simpa using hb
  subst e;exact ⟨_,st,λv z=>by
   have z':Data.fields _=Data.cell v:=z;cases z'⟩
 keep:=λi h h' st k=>k it (by simp) _ st
 item:=by intro X hP hw hK hc i pins s σ H E I hf st hg;subst hP hw hK;obtain ⟨f0,f1,f2,f3,f4,f5⟩:=hf it (by simp);have W:=Walks.range (prog:=X.prog) (w:=X.w) (I.ok.hd hc) it lo 1 n;refine W.item i s _ _ hg st λv h' tk hv st' kk=>?_;obtain ⟨t,rfl⟩:=hv;have I1:Inv X pins σ H { s with heap:=h',toks:=tk }:=I.turned (λb o hb e=>kk b o (by simpa using hb) e) f0 f1 f3 f4 f5;refine ⟨_,rfl,Xt (s:={ s with heap:=h',toks:=tk }) (n:="range_iterator") st' rfl rfl (by decide) ⟨.int (lo+i),H,I1,⟨t,?_⟩,⟨rfl,rfl⟩,st',λb hb=>(hf b hb).1⟩⟩;rw [Int.mul_one]
 done:=by intro X hP hw hK hc i pins s σ H E I hf st hg;subst hP hw hK;obtain ⟨f0,f1,f2,f3,f4,f5⟩:=hf it (by simp);exact wpAny_pyNext_range_end (I.ok.hd hc) st (by have:n<=i:=hg;omega) λh' eb=>⟨rfl,I.turned (t':=s.toks) (λb o hb e=>eb b o hb e) f0 f1 f3 f4 f5⟩
 self:=λ_ _ _ _ _ st h=>wpAny_pyIter_rangeiter st h
section
variable {X:Cx}{tg:Expr}
def VH (K:Fg)(tl:TE):TI:=λσ H R=>tl σ H λx H1=>∃ a,x = .ref a/\(∃ xs,SqL K H1 a xs)/\R (Itl K a) H1
def iTup (K:Fg)(tl:TE):TI:=λσ H R=>tl σ H λx H1=>∃ a,x = .ref a/\(∃ xs,SqT K H1 a xs)/\R (Itt K a) H1
theorem RO (hl:PE X l tl):PI X tg l (VH X.K tl):=by
 intro pins s σ H R I h;refine v6 (hl pins s σ H _ I h) λv s1 ⟨x,H1,I1,r1,q1⟩=>?_;obtain ⟨a,e,⟨xs,hq⟩,q⟩:=q1;subst e;cases r1;obtain ⟨its,rv,p,hz⟩:=I1.list hq;refine wpAny_pyIter_list p.isList ?_;refine ⟨s1.heap.objs.size,[s1.heap.objs.size],_,_,H1,rfl,I1.kept (t':=s1.toks) λb o e=>yU _ e,Ij a _,⟨_,yD _ rfl,rfl,rfl⟩,λb hb=>?_,q⟩;have e:b=s1.heap.objs.size:=by simpa using hb
 subst e;exact I1.fpOk (yW _) (I1.hok.fresh (yW _))
theorem RT (hl:PE X l tl):PI X tg l (iTup X.K tl):=by
 intro pins s σ H R I h;refine v6 (hl pins s σ H _ I h) λv s1 ⟨x,H1,I1,r1,q1⟩=>?_;obtain ⟨a,e,⟨xs,hq⟩,q⟩:=q1;subst e;cases r1;obtain ⟨its,rv,p,hz⟩:=I1.tuple hq;refine wpAny_pyIter_tuple (show s1.heap.IsTuple a its.toArray from p) ?_;refine ⟨s1.heap.objs.size,[s1.heap.objs.size],_,_,H1,rfl,I1.kept (t':=s1.toks) λb o e=>yU _ e,Io a _,⟨_,yD _ rfl,rfl,rfl⟩,λb hb=>?_,q⟩;have e:b=s1.heap.objs.size:=by simpa using hb
 subst e;exact I1.fpOk (yW _) (I1.hok.fresh (yW _))
theorem Tj {R:It->Hp->Prop}{hi:Int}{t u v:Tok}{tk:Nat}(I:Inv X pins σ H s)(h1:-(2 ^ 62)<=lo)(h2:lo<2 ^ 62)(h3:-(2 ^ 62)<=hi)(h4:hi<2 ^ 62)(q:R (Itr lo (hi-lo).toNat) H):wpAny (model X.prog X.w) X.A (pyIter (.ref s.heap.objs.size)) (PIE X pins σ tg R) E { s with heap:=s.heap.push { cls:= .type "range",data:= .fields #[.int lo t,.int hi u,.int 1 v] },toks:=tk }:=by
 refine wpAny_pyIter_range (IsRange.new ..) (small_one h1 h2 h3 h4) ?_;have I1:Inv X pins σ H { s with heap:=s.heap.push { cls:= .type "range",data:= .fields #[.int lo t,.int hi u,.int 1 v] },toks:=tk }:=I.kept λb o e=>yU _ e;refine ⟨(s.heap.push { cls:= .type "range",data:= .fields #[.int lo t,.int hi u,.int 1 v] }).objs.size,[(s.heap.push { cls:= .type "range",data:= .fields #[.int lo t,.int hi u,.int 1 v] }).objs.size],_,_,H,rfl,
  I1.kept (t':=tk) λb o e=>yU _ e,Il _ lo (hi-lo).toNat,?_,λb hb=>?_,q⟩
 ·have e1:lo+((0:Nat):Int)*1=lo:=by simp
  have e2:(((hi-lo).toNat:Nat):Int)-((0:Nat):Int)=Builtin.Range.rangeSize lo hi 1:=by rw [rangeSize_one];split<;>omega
  show IsRangeIter _ _ (lo+((0:Nat):Int)*1) ((((hi-lo).toNat:Nat):Int)-((0:Nat):Int)) 1;rw [e1,e2];exact yD _ rfl
 ·have e:b=(s.heap.push { cls:= .type "range",data:= .fields #[.int lo t,.int hi u,.int 1 v] }).objs.size:=by simpa using hb
  subst e;exact I1.fpOk (yW _) (I1.hok.fresh (yW _))
def Qu (ta:TA):TI:=λσ H R=>ta σ H λvs H1=>∃ j:Int,vs=[.int j]/\-(2 ^ 62)<=j/\j<2 ^ 62/\R (Itr 0 j.toNat) H1
theorem zr {a:Expr}{ta:TA}{p:Pos}(hg:Gl X "range")(hm:X.mg "range"=none)(ha:PA X [a] ta)(hs:starEach [a] X.env=[(false,eval a X.env)]:=by rfl):PI X tg (.Call (.Name "range" p) [a] [] pos) (Qu ta):=by
 intro pins s σ H R I h;refine Call_ (vw I hg hm boot_range (PyProof.Rows.callWith_type1 (v6 (ha pos pins s σ H _ I h) λus s1 ⟨vs,H1,I1,r1,q1⟩=>?_) hs rfl));obtain ⟨j,e,q1,q2,q⟩:=q1;subst e;cases r1 with
 |cons r rr=>cases rr;obtain ⟨t,rfl⟩:=r;exact call_range_1 (Tj I1 (by omega) (by omega) q1 q2 (by simpa using q))
def tFor (wi:TI)(g:TG)(tb:TS):TS:=λD σ H=>wi σ H λJ H1=>∃ W:Nat->Nat->St->Hp->Prop,(∃ m,W 0 m σ H1)/\∀ i m σ H,W i m σ H ->
 (J.stop i H/\D.nx σ H)∨(J.go i H/\∃ N:St->Hp->Prop,(∀ σ' H',N σ' H'->∃ m',m'<m/\W (i+1) m' σ' H')/\∀ x H',J.yld i H x H'->g x σ H' λσ2 H2=>tb { D with nx:=N,ct:=N,bk:=D.nx } σ2 H2)
def XW (fp:List Addr)(h:Heap):List (Addr×Obj):=fp.filterMap λb=>(h.get? b).map λo=>(b,o)
theorem Jq {o:Obj}(hb:b∈fp)(e:h.get? b=some o):(b,o)∈XW fp h:=ue.mpr ⟨b,hb,by rw [e];rfl⟩
theorem NS {p:Addr×Obj}(hp:p∈XW fp h):p.1∈fp/\h.get? p.1=some p.2:=by
 obtain ⟨b,hb,e⟩:=ue.mp hp;cases q:h.get? b with
 |none=>rw [q] at e;cases e
 |some o=>rw [q] at e;have e':(b,o)=p:=Option.some.inj e;subst e';exact ⟨hb,q⟩
theorem Inv.pinned (I:Inv X pins σ H s)(hf:∀ b∈fp,xL X pins H b)(ho:∀ b∈fp,∃ o,s.heap.get? b=some o/\∀ v,o.data ≠ .cell v):Inv X (pins++XW fp s.heap) σ H s :=
 I.pins_of λp hp=>(uY.mp hp).elim (λz=>I.pin p (yu _ z)) λz=>by
  obtain ⟨hb,e⟩:=NS z;obtain ⟨f0,f1,f2,_⟩:=hf p.1 hb;obtain ⟨o,e',d⟩:=ho p.1 hb;rw [e] at e';cases e';exact ⟨e,f0,f1,f2,d⟩
theorem Inv.unpinned {pl:List (Addr×Obj)}(I:Inv X (pins++pl) σ H s):Inv X pins σ H s:=I.pins_of λp hp=>I.pin p (yu _ (uQ _ hp))
theorem xn {iter:Expr}{wi:TI}{g:TG}(hp:PassesOwn (model X.prog X.w) X.A X.env X.xe)(hc:X.calm=true)(hi:PI X tg iter wi)(hg:PG X tg g)(hb:PSs X body tb)(hs:∀ x,foldedSetIterable iter X.env x=pure x:=by intro _;rfl):PS X (.For tg iter body [] pos) (tFor wi g tb):=by
 intro pins s σ H D I h;refine wpAny_For (v6 (hi pins s σ H _ I h) λv s1 h1=>v6 h1 λitv s2 h2=>?_) hs;obtain ⟨it,fp,tn,J,H2,e,I2,T,st2,f2,W,⟨m0,w0⟩,turn⟩:=h2;subst e
 -- what stays true of the iterator's objects through the loop
 have stat:∀{H':Hp},(∀ b∈fp,H' b=none)->∀ b∈fp,xL X pins H' b:=λhn b hb=>⟨hn b hb,(f2 b hb).2⟩;refine codeAny_forLoop_any (λn s'=>∃ i σ' H',Inv X pins σ' H' s'/\tn i s'.heap/\(∀ b∈fp,H' b=none)/\W i n σ' H') ?_ m0 ⟨0,σ,H2,I2,st2,λb hb=>(f2 b hb).1,w0⟩;rintro n s3 ⟨i,σ3,H3,I3,st3,fr3,w3⟩;rcases turn i n σ3 H3 w3 with ⟨stop,qn⟩|⟨go,N,hN,step⟩
 ·refine wpAny_passesOwn hp (v6 (T.done X rfl rfl rfl hc i pins s3 σ3 H3 X.xe I3 (stat fr3) st3 stop) λr s4 ⟨hr,I4⟩=>?_);subst hr;exact wpAny_execs_nil ⟨σ3,H3,I4,qn⟩
 ·refine wpAny_passesOwn hp (v6 (T.item X rfl rfl rfl hc i pins s3 σ3 H3 X.xe I3 (stat fr3) st3 go) λr s4 ⟨u,hr,h4⟩=>?_);subst hr;refine wpAny_passesOwn hp (v6 h4 λ_ s5 ⟨x,H5,I5,r5,y5,st5,fr5⟩=>?_);have I5':=I5.pinned (stat fr5) (T.obj _ _ st5);refine wpAny_passesOwn hp (v6 (hg _ s5 σ3 H5 x u _ I5' r5 (step x H5 y5)) λ_ s6 ⟨σ6,H6,I6,q6⟩=>?_);refine wpAny_passesOwn hp (v6 (hb _ s6 σ6 H6 _ I6 q6) λf s7 q7=>?_);have again:∀{σ7:St}{H7:Hp},Inv X (pins++XW fp s5.heap) σ7 H7 s7->N σ7 H7->∃ m,m<n/\∃ i σ' H',Inv X pins σ' H' s7/\tn i s7.heap/\(∀ b∈fp,H' b=none)/\W i m σ' H':=λ{σ7 H7} I7 n7=>by
   obtain ⟨m',hm,w7⟩:=hN σ7 H7 n7;refine ⟨m',hm,i+1,σ7,H7,I7.unpinned,T.keep _ _ _ st5 λb hb o e=>(I7.pin (b,o) (yu _ (yu _ (Jq hb e)))).1,λb hb=>?_,w7⟩;obtain ⟨o,e,d⟩:=T.obj _ _ st5 b hb;exact (I7.pin (b,o) (yu _ (yu _ (Jq hb e)))).2.1
  cases f with
  |next=>obtain ⟨σ7,H7,I7,n7⟩:=q7;exact again I7 n7
  |cont=>obtain ⟨σ7,H7,I7,n7⟩:=q7;exact again I7 n7
  |brk=>obtain ⟨σ7,H7,I7,q7⟩:=q7;exact ⟨σ7,H7,I7.unpinned,q7⟩
  |ret v=>obtain ⟨x7,σ7,H7,I7,r7,q7⟩:=q7;exact ⟨x7,σ7,H7,I7.unpinned,r7,q7⟩
end
theorem Lb {g:TG}(Pv:Nat->St->Hp->Prop)(h0:Pv 0 σ H)(hl:∀ i σ H,i<=xs.length->Pv i σ H->SqL K H a xs)(hs:∀ i x σ H,xs[i]?=some x->Pv i σ H->g x σ H λσ2 H2=>tb { D with nx:=Pv (i+1),ct:=Pv (i+1),bk:=D.nx } σ2 H2)(hd:∀ σ H,Pv xs.length σ H->D.nx σ H):∃ W:Nat->Nat->St->Hp->Prop,(∃ m,W 0 m σ H)/\∀ i m σ H,W i m σ H -> ((Itl K a).stop i H/\D.nx σ H)∨((Itl K a).go i H/\∃ N:St->Hp->Prop,(∀ σ' H',N σ' H'->∃ m',m'<m/\W (i+1) m' σ' H')/\∀ x H',(Itl K a).yld i H x H'->g x σ H' λσ2 H2=>tb { D with nx:=N,ct:=N,bk:=D.nx } σ2 H2):=by
 refine ⟨λi m σ H=>m=xs.length-i/\i<=xs.length/\Pv i σ H,⟨xs.length,by simp,ya _,h0⟩,?_⟩;rintro i m σ H ⟨rfl,hi,p⟩;have q:=hl i σ H hi p;by_cases hlt:i<xs.length
 ·refine .inr ⟨⟨xs,xs[i],q,by simp [hlt]⟩,Pv (i+1),λσ' H' p'=>⟨xs.length-(i+1),by omega,rfl,hlt,p'⟩,λx H' y=>?_⟩;obtain ⟨e,y⟩:=y;subst e;exact hs i x σ _ (y xs q) p
 ·have e:i=xs.length:=by omega
  subst e;exact .inl ⟨⟨xs,q,yW _⟩,hd σ H p⟩
theorem ZS {g:TG}(Pv:Nat->St->Hp->Prop)(h0:Pv 0 σ H)(hs:∀ i σ H,i<n->Pv i σ H->g (.int (lo+i)) σ H λσ2 H2=>tb { D with nx:=Pv (i+1),ct:=Pv (i+1),bk:=D.nx } σ2 H2)(hd:∀ σ H,Pv n σ H->D.nx σ H):∃ W:Nat->Nat->St->Hp->Prop,(∃ m,W 0 m σ H)/\∀ i m σ H,W i m σ H -> ((Itr lo n).stop i H/\D.nx σ H)∨((Itr lo n).go i H/\∃ N:St->Hp->Prop,(∀ σ' H',N σ' H'->∃ m',m'<m/\W (i+1) m' σ' H')/\∀ x H',(Itr lo n).yld i H x H'->g x σ H' λσ2 H2=>tb { D with nx:=N,ct:=N,bk:=D.nx } σ2 H2):=by
 refine ⟨λi m σ H=>m=n-i/\i<=n/\Pv i σ H,⟨n,by simp,ya _,h0⟩,?_⟩;rintro i m σ H ⟨rfl,hi,p⟩;by_cases hlt:i<n
 ·refine .inr ⟨hlt,Pv (i+1),λσ' H' p'=>⟨n-(i+1),by omega,rfl,hlt,p'⟩,λx H' y=>?_⟩;obtain ⟨e,y⟩:=y;subst e y;exact hs i σ _ hlt p
 ·have e:i=n:=by omega
  subst e;exact .inl ⟨yW _,hd σ H p⟩
abbrev R2:=V->V->Hp->VK->Prop
variable{r r':R2}
def OpR (X:Cx)(f:Value->Value->Sem Value)(r:R2):Prop :=
 ∀(pins:List (Addr×Obj))(s:Shared)(σ:St)(H:Hp)(x y:V)(v u:Value)(Q:VK),Inv X pins σ H s->RelV x v->RelV y u->r x y H Q ->
  wpAny (model X.prog X.w) X.A (f v u) (EP X pins σ Q) X.xe s
def UnR (X:Cx)(f:Value->Sem Value)(r:V->Hp->VK->Prop):Prop :=
 ∀(pins:List (Addr×Obj))(s:Shared)(σ:St)(H:Hp)(x:V)(v:Value)(Q:VK),Inv X pins σ H s->RelV x v->r x H Q ->
  wpAny (model X.prog X.w) X.A (f v) (EP X pins σ Q) X.xe s
def CallR (X:Cx)(f:Value)(r:List V->Hp->VK->Prop):Prop :=
 ∀(pins:List (Addr×Obj))(s:Shared)(σ:St)(H:Hp)(xs:List V)(us:List Value)(Q:VK),Inv X pins σ H s->Vals xs us->r xs H Q ->
  wpAny (model X.prog X.w) X.A (call f us) (EP X pins σ Q) X.xe s
def TruR (X:Cx)(r:V->Hp->(Bool->Hp->Prop)->Prop):Prop :=
 ∀(pins:List (Addr×Obj))(s:Shared)(σ:St)(H:Hp)(x:V)(v:Value)(Q:Bool->Hp->Prop),Inv X pins σ H s->RelV x v->r x H Q ->
  wpAny (model X.prog X.w) X.A (truthy v) (TP X pins σ Q) X.xe s
def tOp (r:R2)(ta tb:TE):TE:=λσ H Q=>ta σ H λx H1=>tb σ H1 λy H2=>r x y H2 Q
def tUn (r:V->Hp->VK->Prop)(ta:TE):TE:=λσ H Q=>ta σ H λx H1=>r x H1 Q
def rI (C:Int->Int->Prop)(g:Int->Int->V):R2:=λx y H Q=>∃ i j,x = .int i/\y = .int j/\C i j/\Q (g i j) H
def rI0 (g:Int->Int->V):R2:=λx y H Q=>∃ i j,x = .int i/\y = .int j/\Q (g i j) H
def rU (g:Int->V):V->Hp->VK->Prop:=λx H Q=>∃ i,x = .int i/\Q (g i) H
section
variable {X:Cx}{a b c:Expr}{ta tb tc:TE}{pos:Pos}
theorem binT (ha:PE X a ta)(hb:PE X b tb)(I:Inv X pins σ H s)(h:ta σ H λx H1=>tb σ H1 λy H2=>R x y H2)(hf:∀ v u s2 x y H2,Inv X pins σ H2 s2->RelV x v->RelV y u->R x y H2->wpAny (model X.prog X.w) X.A (f v u) Q X.xe s2):wpAny (model X.prog X.w) X.A (eval a X.env) (λv s₁=>wpAny (model X.prog X.w) X.A (eval b X.env) (λu s₂=>wpAny (model X.prog X.w) X.A (f v u) Q X.xe s₂) X.xe s₁) X.xe s:=by refine v6 (ha pins s σ H _ I h) λv s1 ⟨x,H1,I1,r1,q1⟩=>?_;refine v6 (hb pins s1 σ H1 _ I1 q1) λu s2 ⟨y,H2,I2,r2,q2⟩=>?_;exact hf v u s2 x y H2 I2 r1 r2 q2
theorem u6 {op:Operator}(ho:OpR X (binaryOp op) r)(ha:PE X a ta)(hb:PE X b tb):PE X (.BinOp a op b pos) (tOp r ta tb):=by intro pins s σ H Q I h;exact wpAny_BinOp (binT ha hb I h λv u s2 x y H2 I2 rx ry q=>ho pins s2 σ H2 x y v u Q I2 rx ry q)
theorem BW {op:UnaryOp}{r:V->Hp->VK->Prop}(ho:UnR X (unaryOp op) r)(ha:PE X a ta):PE X (.UnaryOp op a pos) (tUn r ta):=by intro pins s σ H Q I h;exact UnaryOp_ (v6 (ha pins s σ H _ I h) λv s1 ⟨x,H1,I1,r1,q1⟩=>ho pins s1 σ H1 x v Q I1 r1 q1)
theorem opI {C:Int->Int->Prop}{g:Int->Int->Int}(rule:∀(i j:Int)(t u:Tok)(s:Shared)(Q:Value->Shared->Prop)(E:Value->Shared->Prop),C i j->Q (.int (g i j) s.toks) { s with toks:=s.toks+1 }->wpAny (model X.prog X.w) X.A (f (.int i t) (.int j u)) Q E s):OpR X f (rI C λi j=> .int (g i j)):=by intro pins s σ H x y v u Q I rx ry h;obtain ⟨i,j,rfl,rfl,hc,q⟩:=h;obtain ⟨t,rfl⟩:=rx;obtain ⟨t',rfl⟩:=ry;exact rule i j t t' s _ _ hc ⟨.int (g i j),H,I.tok _,⟨_,rfl⟩,q⟩
theorem opI0 {g:Int->Int->Int}(rule:∀(i j:Int)(t u:Tok)(s:Shared)(Q:Value->Shared->Prop)(E:Value->Shared->Prop),Q (.int (g i j) s.toks) { s with toks:=s.toks+1 }->wpAny (model X.prog X.w) X.A (f (.int i t) (.int j u)) Q E s):OpR X f (rI0 λi j=> .int (g i j)):=by intro pins s σ H x y v u Q I rx ry h;obtain ⟨i,j,rfl,rfl,q⟩:=h;obtain ⟨t,rfl⟩:=rx;obtain ⟨t',rfl⟩:=ry;exact rule i j t t' s _ _ ⟨.int (g i j),H,I.tok _,⟨_,rfl⟩,q⟩
theorem opB0 {g:Int->Int->Bool}(rule:∀(i j:Int)(t u:Tok)(s:Shared)(Q:Value->Shared->Prop)(E:Value->Shared->Prop),Q (.bool (g i j)) s->wpAny (model X.prog X.w) X.A (f (.int i t) (.int j u)) Q E s):OpR X f (rI0 λi j=> .bl (g i j)):=by intro pins s σ H x y v u Q I rx ry h;obtain ⟨i,j,rfl,rfl,q⟩:=h;obtain ⟨t,rfl⟩:=rx;obtain ⟨t',rfl⟩:=ry;exact rule i j t t' s _ _ ⟨.bl (g i j),H,I,rfl,q⟩
def vg (i j:Int):Prop:=0<=j/\j<=1000000/\i.natAbs<2 ^ 64
def CMul (i j:Int):Prop:=(-(2 ^ 64)<i/\i<2 ^ 64)∨(-(2 ^ 64)<j/\j<2 ^ 64)
theorem CMul.ok {i j:Int}(h:CMul i j):IntMulOk i j:=by
 rcases h with ⟨h1,h2⟩|⟨h1,h2⟩
 ·exact .of_left (intBits_le_64 h1 h2)
 ·exact .of_right (intBits_le_64 h1 h2)
theorem op_add:OpR X (binaryOp .Add) (rI0 λi j=> .int (i+j)):=opI0 λ_ _ _ _ _ _ _ q=>add_int q
theorem XS:OpR X (binaryOp .Sub) (rI0 λi j=> .int (i-j)):=opI0 λ_ _ _ _ _ _ _ q=>sub_int q
theorem QJ:OpR X (binaryOp .Mult) (rI CMul λi j=> .int (i*j)):=opI λ_ _ _ _ _ _ _ hc q=>mul_int q hc.ok
theorem wz:OpR X (binaryOp .Mod) (rI (λ_ j=>0<j) λi j=> .int (i % j)):=opI λi j _ _ _ _ _ hc q=>by
 have h1:(0:Int)<j:=hc;exact mod_int' (by omega) (by rw [Int.fmod_eq_emod_of_nonneg i (by omega)];exact q)
theorem QK:OpR X (binaryOp .Pow) (rI vg λi j=> .int (i ^ j.toNat)):=opI λ_ _ _ _ _ _ _ hc q=>pow_int_small hc.1 hc.2.1 hc.2.2 q
theorem unI {f:Value->Sem Value}{g:Int->Int}(rule:∀(i:Int)(t:Tok)(s:Shared)(Q:Value->Shared->Prop)(E:Value->Shared->Prop),Q (.int (g i) s.toks) { s with toks:=s.toks+1 }->wpAny (model X.prog X.w) X.A (f (.int i t)) Q E s):UnR X f (rU λi=> .int (g i)):=by intro pins s σ H x v Q I rx h;obtain ⟨i,rfl,q⟩:=h;obtain ⟨t,rfl⟩:=rx;exact rule i t s _ _ ⟨.int (g i),H,I.tok _,⟨_,rfl⟩,q⟩
theorem CP:UnR X (unaryOp .USub) (rU λi=> .int (-i)):=unI λ_ _ _ _ _ q=>neg_int q
end
section
variable {X:Cx}{a b c:Expr}{ta tb tc:TE}{pos:Pos}
theorem Vz {Q:VK}{k k':Bool}(I:Inv X pins σ H s)(q:Q (.bl k) H)(e:k=k'):EP X pins σ Q (.bool k') s:=by subst e;exact ⟨.bl k,H,I,rfl,q⟩
theorem Ju:OpR X (compareOp .Lt) (rI0 λi j=> .bl (decide (i<j))):=opB0 λ_ _ _ _ _ _ _ q=>lt_int q
theorem ww:OpR X (compareOp .LtE) (rI0 λi j=> .bl (decide (i<=j))):=opB0 λ_ _ _ _ _ _ _ q=>le_int q
theorem Jt:OpR X (compareOp .Gt) (rI0 λi j=> .bl (decide (j<i))):=opB0 λ_ _ _ _ _ _ _ q=>gt_int q
theorem Js:OpR X (compareOp .GtE) (rI0 λi j=> .bl (decide (j<=i))):=opB0 λ_ _ _ _ _ _ _ q=>ge_int q
theorem Rq:OpR X (compareOp .Is) (λx y H Q=>y = .non/\Q (.bl (decide (x = .non))) H):=by
 intro pins s σ H x y v u Q I rx ry h;obtain ⟨rfl,q⟩:=h;cases ry;refine is_none_gen (Vz I q ?_);cases x<;>first
  |(cases rx;rfl)
  |(obtain ⟨t,rfl⟩:=rx;rfl)
theorem Rs:OpR X (compareOp .IsNot) (λx y H Q=>y = .non/\Q (.bl (!decide (x = .non))) H):=by
 intro pins s σ H x y v u Q I rx ry h;obtain ⟨rfl,q⟩:=h;cases ry;refine isnot_none_gen (Vz I q ?_);cases x<;>first
  |(cases rx;rfl)
  |(obtain ⟨t,rfl⟩:=rx;rfl)
theorem OpR.or (h:OpR X f r)(h':OpR X f r'):OpR X f (λx y H Q=>r x y H Q∨r' x y H Q):=by
 intro pins s σ H x y v u Q I rx ry q;rcases q with q|q
 ·exact h pins s σ H x y v u Q I rx ry q
 ·exact h' pins s σ H x y v u Q I rx ry q
theorem m9 (b:Expr)(h:op ≠ .In:=by decide)(h2:op ≠ .NotIn:=by decide):behindInMarks op b=false:=by
 have e1:(op==CmpOp.In)=false:=by cases op<;>first|rfl|exact absurd rfl h
 have e2:(op==CmpOp.NotIn)=false:=by cases op<;>first|rfl|exact absurd rfl h2
 cases b<;>simp [behindInMarks,e1,e2]
theorem jX (ho:OpR X (compareOp op) r)(ha:PE X a ta)(hb:PE X b tb)(hm:behindInMarks op b=false):PE X (.Compare a [op] [b] pos) (tOp r ta tb):=by intro pins s σ H Q I h;exact wpAny_Compare1 (binT ha hb I h λv u s2 x y H2 I2 rx ry q=>ho pins s2 σ H2 x y v u Q I2 rx ry q) hm
def JL (t:TE):TT:=λσ H Q=>t σ H λx H'=>∃ k,x = .bl k/\Q k H'
theorem f9 (ho:OpR X (compareOp op) r)(ha:PE X a ta)(hb:PE X b tb)(hm:behindInMarks op b=false):PT X (.Compare a [op] [b] pos) (JL (tOp r ta tb)):=by
 intro pins s σ H Q I h;refine wpAny_isTrue_Compare1 (v6 (ha pins s σ H _ I h) λv s1 ⟨x,H1,I1,r1,q1⟩=>v6 (hb pins s1 σ H1 _ I1 q1) λu s2 ⟨y,H2,I2,r2,q2⟩ =>
  v6 (ho pins s2 σ H2 x y v u _ I2 r1 r2 q2) λc s3 ⟨z,H3,I3,r3,k,e,q3⟩=>?_) hm
 subst e;cases r3;exact wpAny_truthy_bool ⟨H3,I3,q3⟩
def Uf (r r':R2)(ta tb tc:TE):TE:=λσ H Q=>ta σ H λx H1=>tb σ H1 λy H2=>r x y H2 λz H3=>∃ k,z = .bl k /\
 (if k=true then tc σ H3 λw' H4=>r' y w' H4 Q else Q (.bl false) H3)
theorem Wp (ho:OpR X (compareOp op) r)(ho':OpR X (compareOp op') r')(ha:PE X a ta)(hb:PE X b tb)(hc:PE X c tc)(hm:lastMarks [op,op'] [b,c]=false:=by with_unfolding_all rfl):PE X (.Compare a [op,op'] [b,c] pos) (Uf r r' ta tb tc):=by
 intro pins s σ H Q I h;refine Compare_chain (v6 (ha pins s σ H _ I h) λv s1 ⟨x,H1,I1,r1,q1⟩=>chain_link (v6 (hb pins s1 σ H1 _ I1 q1) λu s2 ⟨y,H2,I2,r2,q2⟩ =>
  v6 (ho pins s2 σ H2 x y v u _ I2 r1 r2 q2) λd s3 ⟨z,H3,I3,r3,k,e,q3⟩=>?_)) hm
 subst e;cases r3;refine wpAny_truthy_bool ?_;cases k with
 |false=>exact ite_ff ⟨.bl false,H3,I3,rfl,q3⟩
 |true=>exact ite_tt (chain_last (v6 (hc pins s3 σ H3 _ I3 q3) λw' s4 ⟨z',H4,I4,r4,q4⟩=>ho' pins s4 σ H4 y z' u w' Q I4 r2 r4 q4))
theorem Ph (ho:OpR X (compareOp op) r)(ho':OpR X (compareOp op') r')(ha:PE X a ta)(hb:PE X b tb)(hc:PE X c tc)(hm:lastMarks [op,op'] [b,c]=false:=by with_unfolding_all rfl):PT X (.Compare a [op,op'] [b,c] pos) (JL (Uf r r' ta tb tc)):=by
 intro pins s σ H Q I h;refine isTrue_chain (v6 (ha pins s σ H _ I h) λv s1 ⟨x,H1,I1,r1,q1⟩=>test_link (v6 (hb pins s1 σ H1 _ I1 q1) λu s2 ⟨y,H2,I2,r2,q2⟩ =>
  v6 (ho pins s2 σ H2 x y v u _ I2 r1 r2 q2) λd s3 ⟨z,H3,I3,r3,k,e,q3⟩=>?_)) hm
 subst e;cases r3;refine wpAny_truthy_bool ?_;cases k with
 |false=>obtain ⟨k',e',q'⟩:=q3;cases e';exact ite_ff ⟨H3,I3,q'⟩
 |true=>refine ite_tt (test_last (v6 (hc pins s3 σ H3 _ I3 q3) λw' s4 ⟨z',H4,I4,r4,q4⟩=>v6 (ho' pins s4 σ H4 y z' u w' _ I4 r2 r4 q4) λd' s5 ⟨z2,H5,I5,r5,k2,e2,q5⟩=>?_));subst e2;cases r5;exact wpAny_truthy_bool ⟨H5,I5,q5⟩
def TruV (K:Fg)(x:V)(H:Hp)(k:Bool):Prop :=
 match x with
 | .non=>k=false
 | .bl b=>k=b
 | .int i=>k=(i != 0)
 | .str y=>y.length<=sizeLine/\k=((y.length:Int) != 0)
 | .byt y=>y.size<=sizeLine/\k=((y.size:Int) != 0)
 | .ref p=>(∃ xs,SqL K H p xs/\k=!xs.isEmpty)∨(∃ xs,SqT K H p xs/\k=!xs.isEmpty)∨∃ kvs,H p=some (.dK kvs)/\k=!kvs.isEmpty
 |_=>False
theorem LJ {κ:Type}{kvs:List (κ×V)}{vs:List (κ×Value)}(r:KV kvs vs):(!vs.isEmpty)=!kvs.isEmpty:=by cases r<;>rfl
theorem Bk {its:List Value}(r:Vals xs its):(!its.toArray.isEmpty)=!xs.isEmpty:=by cases r<;>simp
theorem wm:(sizeLine:Nat)<2 ^ 63:=by rw [sizeLine_eq];decide
theorem Ie:TruR X (λx H Q=>∃ k,TruV X.K x H k/\Q k H):=by
 intro pins s σ H x v Q I rx h;obtain ⟨k,e,q⟩:=h;have hl:=wm;have hs:sizeLine=16777216:=sizeLine_eq;cases x with
 |non=>cases rx;have e':k=false:=e;subst e';exact truthy_none ⟨H,I,q⟩
 |bl b=>cases rx;have e':k=b:=e;subst e';exact wpAny_truthy_bool ⟨H,I,q⟩
 |int i=>obtain ⟨t,rfl⟩:=rx;have e':k=(i != 0):=e;subst e';exact PySem.P.truthy_int ⟨H,I,q⟩
 |str y=>obtain ⟨t,rfl⟩:=rx;obtain ⟨hy,e'⟩:y.length<=sizeLine/\k=((y.length:Int) != 0):=e;subst e';exact PySem.P.truthy_str (by omega) ⟨H,I.tok _,q⟩
 |byt y=>obtain ⟨t,rfl⟩:=rx;obtain ⟨hy,e'⟩:y.size<=sizeLine/\k=((y.size:Int) != 0):=e;subst e';exact PySem.W.truthy_bytes (by omega) ⟨H,I.tok _,q⟩
 |ref p =>
  cases rx;have e':(∃ xs,SqL X.K H p xs/\k=!xs.isEmpty)∨(∃ xs,SqT X.K H p xs/\k=!xs.isEmpty)∨∃ kvs,H p=some (.dK kvs)/\k=!kvs.isEmpty:=e;rcases e' with ⟨xs,hx,e'⟩|⟨xs,hx,e'⟩|⟨kvs,hx,e'⟩
  ·subst e';obtain ⟨its,r,pl,hz⟩:=I.list hx;have hlen:=r.length;exact wpAny_truthy_list pl.isList (by simp only [yX];omega) ⟨H,I.tok _,by rw [Bk r];exact q⟩
  ·subst e';obtain ⟨its,r,pl,hz⟩:=I.tuple hx;have hlen:=r.length;exact truthy_tuple pl (by simp only [yX];omega) ⟨H,I.tok _,by rw [Bk r];exact q⟩
  ·subst e';obtain ⟨hz,hS,vs,r,m⟩:kvs.length<=sizeLine/\(p==sysModules)=false/\∃ vs,KV kvs vs/\s.heap.DictOf (qA X.prog X.w) p vs:=I.hok p _ hx;have hlen:kvs.length=vs.length:=Paired.length r;exact wpAny_truthy_dict hS m (by omega) ⟨H,I.tok _,by rw [LJ r];exact q⟩
 |_=>exact (show False from e).elim
theorem Th (ha:PE X a ta)(he:∀ whole,isTrue a X.env whole=(do let v <- whole;standAt a.pos;holding [v] (truthy v))):
  PT X a (λσ H Q=>ta σ H λx H'=>∃ k,TruV X.K x H' k/\Q k H'):=by
 intro pins s σ H Q I h;exact isTrue_plain (v6 (ha pins s σ H _ I h) λv s1 ⟨x,H1,I1,r1,q1⟩=>Ie pins s1 σ H1 x v Q I1 r1 q1) (he _)
theorem op_add_str:OpR X (binaryOp .Add) (λx y H Q=>∃ i j,x = .str i/\y = .str j/\i.length+j.length<=sizeLine/\Q (.str (i++j)) H):=by intro pins s σ H x y v u Q I rx ry h;obtain ⟨i,j,rfl,rfl,hz,q⟩:=h;obtain ⟨t,rfl⟩:=rx;obtain ⟨t',rfl⟩:=ry;exact add_str (λt' tk=>⟨.str (i++j),H,I.tok _,⟨_,rfl⟩,q⟩) hz
theorem ji {x:V}(r:Vals [x] us):∃ u,us=[u]/\RelV x u:=by
 cases r with
 |cons r1 r2=>cases r2;exact ⟨_,rfl,r1⟩
theorem Uo {x:V}(r:Vals [x,y] us):∃ u w',us=[u,w']/\RelV x u/\RelV y w':=by
 cases r with
 |cons r1 r2 =>
  cases r2 with
  |cons r3 r4=>cases r4;exact ⟨_,_,rfl,r1,r3⟩
theorem Mb (hc:X.calm=true):CallR X (.builtin "min") (λxs H Q=>∃ i j,xs=[.int i,.int j]/\Q (.int (if j<i then j else i)) H):=by
 intro pins s σ H xs us Q I r h;obtain ⟨i,j,rfl,q⟩:=h;obtain ⟨u,w',rfl,⟨t,rfl⟩,⟨t',rfl⟩⟩:=Uo r;refine min_two_ints (I.ok.hd hc) λh' tk k=>⟨_,H,I.kept k,?_,q⟩;by_cases hj:j<i
 ·rw [if_pos hj,if_pos hj];exact ⟨_,rfl⟩
 ·rw [if_neg hj,if_neg hj];exact ⟨_,rfl⟩
def LenV (K:Fg)(x:V)(H:Hp)(n:Nat):Prop :=
 match x with
 | .str y=>y.length<=sizeLine/\n=y.length
 | .byt y=>y.size<=sizeLine/\n=y.size
 | .ref p=>(∃ xs,SqL K H p xs/\n=xs.length)∨∃ xs,SqT K H p xs/\n=xs.length
 |_=>False
theorem DV:CallR X (.builtin "len") (λxs H Q=>∃ x n,xs=[x]/\LenV X.K x H n/\Q (.int n) H):=by
 intro pins s σ H xs us Q I r h;obtain ⟨x,n,rfl,e,q⟩:=h;obtain ⟨u,rfl,rx⟩:=ji r;have hl:=wm;have hs:sizeLine=16777216:=sizeLine_eq;cases x with
 |str y=>obtain ⟨t,rfl⟩:=rx;obtain ⟨hy,e'⟩:y.length<=sizeLine/\n=y.length:=e;subst e';exact len_str (by omega) ⟨.int _,H,I.tok _,⟨_,rfl⟩,q⟩
 |byt y=>obtain ⟨t,rfl⟩:=rx;obtain ⟨hy,e'⟩:y.size<=sizeLine/\n=y.size:=e;subst e';exact PySem.W.len_bytes (by omega) ⟨.int _,H,I.tok _,⟨_,rfl⟩,q⟩
 |ref p =>
  cases rx;have e':(∃ xs,SqL X.K H p xs/\n=xs.length)∨∃ xs,SqT X.K H p xs/\n=xs.length:=e;rcases e' with ⟨xs,hx,e'⟩|⟨xs,hx,e'⟩
  ·subst e';obtain ⟨its,r',pl,hz⟩:=I.list hx;have hlen:=r'.length;exact Calls.call_len_list pl.isList (by simp only [yX];omega) ⟨.int xs.length,H,I.tok _,⟨_,by simp only [yX];rw [hlen]⟩,q⟩
  ·subst e';obtain ⟨its,r',pl,hz⟩:=I.tuple hx;have hlen:=r'.length;exact len_tuple pl (by simp only [yX];omega) ⟨.int xs.length,H,I.tok _,⟨_,by simp only [yX];rw [hlen]⟩,q⟩
 |_=>exact (show False from e).elim
end
structure ObjM (h:Heap)(x dx C:Addr)(mA:Str->Option Value):Prop where
 obj:h.get? x=some (PySem.W.instObj C dx)
 ns:h.Ns1 dx mA
 ne:dx≠x
theorem Ny (n:h.Ns1 dx mA):∃ od,h.get? dx=some od/\∀ name,PySem.W.lookIn name od=some (mA name):=by
 obtain ⟨o,es,ep,ho,hd,hk,_,hm⟩:=n;refine ⟨o,ho,λname=>?_⟩;have e:=hm name;unfold nsFind findBy at e;rw [<- Array.find?_toList] at e;unfold PySem.W.lookIn;rw [hd]
 dsimp only
 split
 ·rename_i y q;rw [q] at e;exact congrArg some e
 ·rename_i q;rw [q] at e;have a:es.toList.any (·.refKey)=false:=by rw [List.any_eq_false];intro y hy;obtain ⟨z,t,hkey⟩:=hk y (Array.mem_toList_iff.mp hy);simp [DictEntry.refKey,hkey]
  have a':¬ es.toList.any (·.refKey)=true:=by rw [a];exact yS
  rw [if_neg a'];exact congrArg some e
theorem ObjM.look {x:Addr}(I:ObjM h x dx C mA):∃ od,PySem.W.InstAt h x (PySem.W.instObj C dx) C (some od)/\∀ name,PySem.W.lookIn name od=some (mA name) :=
 let ⟨od,ho,hl⟩:=Ny I.ns
 ⟨od,⟨I.obj,rfl,rfl,ho⟩,hl⟩
section
variable {prog:Program}{w:World}{A:Around}{E:Value->Shared->Prop}{s:Shared}{K:Fg}{x dx C f:Addr}{mA:Str->Option Value}{name:Str}{v:Value}
theorem Le {expr:Bool}(X:K.In s.heap)(I:ObjM s.heap x dx C mA)(hg:PySem.W.plainGet K C name=true)(hh:PySem.W.hasDictIn K C=true)(ha:PySem.W.findIn K (.ref C) name=some none)(hv:mA name=some v)(hv':PySem.W.handedIn v=true)(h:Q v { s with toks:=s.toks+1 }):wpAny (model prog w) A (getAttr (.ref x) name expr) Q E s:=by obtain ⟨od,J,hl⟩:=I.look;exact PySem.W.get_value X J (PySem.W.plainGet_of hg).1 (PySem.W.findObj_own hh ha rfl (by rw [hl,hv])) hv' h
theorem Lg {Q:Value×List Value->Shared->Prop}(X:K.In s.heap)(I:ObjM s.heap x dx C mA)(hg:PySem.W.plainGet K C name=true)(hf:PySem.W.findIn K (.ref C) name=some (some (.ref f)))(ht:PySem.W.isFn K (.ref f)=true)(hv:mA name=none)(h:Q (.ref f,[.ref x]) s):wpAny (model prog w) A (getMethod (.ref x) name pl) Q E s:=by obtain ⟨od,J,hl⟩:=I.look;exact PySem.W.method_fn X J (PySem.W.plainGet_of hg).1 (PySem.W.plainGet_of hg).2 hf (beq_iff_eq.mp ht) (by show (PySem.W.lookIn name od).map (·.isSome)=some false;rw [hl,hv];rfl) h
theorem SJ {ns:List Str}{Q:Unit->Shared->Prop}(X:K.In s.heap)(I:ObjM s.heap x dx C mA)(hs:PySem.W.findIn K (.ref C) "__setattr__"=some (some (.builtin "object.__setattr__")))(hp:PySem.W.plainOver K C=true)(ht:PySem.W.takerIn K C name=some none)(hh:PySem.W.hasDictIn K C=true)(hw:PySem.Within mA ns)(hsz:ns.length<=sizeLine)(h:∀ h',ObjM h' x dx C (λy=>if y=name then some v else mA y)->Heap.SameBut dx s.heap h'->Q () { s with heap:=h',toks:=s.toks+2 }):wpAny (model prog w) A (setAttr (.ref x) name v) Q E s:=by obtain ⟨od,J,hl⟩:=I.look;refine PySem.W.set_plain X J hs (PySem.W.osa_open (s:={ s with toks:=s.toks+1 }) (r:=none) X J hp ht λb=>?_);obtain ⟨cd,hc,hd'⟩:=PySem.W.any_some hh;have hx:s.heap.get? x=some ⟨.ref C,some dx,.plain,#[]⟩:=I.obj;refine yR (yx (yR (yR (wpAny_loadPart hx (yR (PySem.W.Looks.here (s:={ s with toks:=s.toks+1 }) (PySem.W.looks_clsIn X hc) ?_))))));rw [hd'];refine yx (a:=some dx) (yR (yx (yR ?_)));refine wpAny_nsSet1 (s:={ s with toks:=s.toks+1 }) I.ns λh' hn2 hs2=>?_;obtain ⟨oD,esD,epD,hoD,hdD,hcD⟩:=hn2.count (PySem.Within.cons name v hw);refine yR (wpAny_lookBehind hoD (by rw [hdD];exact pastItsLine_dict (yj hcD (by rw [yE];omega))) ?_);exact yx (h _ ⟨(hs2.2 _ (Ne.symm I.ne)).trans I.obj,hn2,I.ne⟩ hs2)
theorem ND {R:Result->Shared->Prop}{vs:List Value}(X:K.In s.heap)(hm:PySem.W.makesIn K C=true)(hi:PySem.W.findIn K (.ref C) "__init__"=some (some (.ref f)))(hf:PySem.W.typeIn K (.ref f)=some (.type "function"))(h:codeAny (model prog w) (A.under (.builtin "type.__call__" ⟨.ref C::vs,kw⟩)) (.call (.ref f) ⟨.ref (s.heap.objs.size+1)::vs,kw⟩) (PySem.W.InitBack (s.heap.objs.size+1) R) { s with heap:=(s.heap.push PySem.W.emptyDict).push (PySem.W.instObj C s.heap.objs.size) }):codeAny (model prog w) A (.call (.ref C) ⟨vs,kw⟩) R s:=by obtain ⟨hh,g,d,t,os⟩:=s;exact PySem.W.make_core (PySem.W.makes_of X hm) (PySem.W.looks_findIn X hi) (λself=>PySem.W.bind_fn X self hf) (.inl rfl) h
end
def xz (f:Str)(v:V):List (Str×V)->List (Str×V)
 |[]=>[(f,v)]
 |(g,x)::r=>if g=f then (g,v)::r else (g,x)::xz f v r
theorem BF (f g:Str)(v:V):∀ fs:List (Str×V),(xz f v fs).lookup g=if g=f then some v else fs.lookup g
 |[]=>by
  show List.lookup g [(f,v)]=_;by_cases h:g=f
  ·have hb:(g==f)=true:=beq_iff_eq.mpr h;simp only [List.lookup,hb,if_pos h]
  ·have hb:(g==f)=false:=beq_eq_false_iff_ne.mpr h;simp only [List.lookup,hb,if_neg h]
 |(k,x)::r=>by
  have ih:=BF f g v r;rw [show xz f v ((k,x)::r)=(if k=f then (k,v)::r else (k,x)::xz f v r) from rfl];by_cases hk:k=f
  ·rw [if_pos hk];by_cases h:g=k
   ·have hb:(g==k)=true:=beq_iff_eq.mpr h;simp only [List.lookup,hb,if_pos (h.trans hk)]
   ·have hb:(g==k)=false:=beq_eq_false_iff_ne.mpr h;simp only [List.lookup,hb,if_neg (λe:g=f=>h (e.trans hk.symm))]
  ·rw [if_neg hk];by_cases h:g=k
   ·have hb:(g==k)=true:=beq_iff_eq.mpr h;simp only [List.lookup,hb,if_neg (λe:g=f=>hk (h.symm.trans e))]
   ·have hb:(g==k)=false:=beq_eq_false_iff_ne.mpr h;simp only [List.lookup,hb];exact ih
theorem VP (f:Str)(v:V):∀ fs:List (Str×V),f∈(xz f v fs).map (·.1)/\∀ g,g∈fs.map (·.1)->g∈(xz f v fs).map (·.1)
 |[]=>⟨by simp [xz],λg h=>by simp at h⟩
 |(k,x)::r=>by
  obtain ⟨i1,i2⟩:=VP f v r;rw [show xz f v ((k,x)::r)=(if k=f then (k,v)::r else (k,x)::xz f v r) from rfl];by_cases hk:k=f
  ·rw [if_pos hk];subst hk;exact ⟨by simp,λg h=>by simpa using h⟩
  ·rw [if_neg hk];refine ⟨?_,λg h=>?_⟩
   ·rw [yO];exact yV _ i1
   ·rw [yO] at h ⊢;rcases yJ.mp h with e|e
    ·exact yJ.mpr (.inl e)
    ·exact yV _ (i2 g e)
theorem BA (f:Str)(v:V):∀ fs:List (Str×V),(xz f v fs).length<=fs.length+1
 |[]=>by simp [xz]
 |(k,x)::r=>by
  have ih:=BA f v r;rw [show xz f v ((k,x)::r)=(if k=f then (k,v)::r else (k,x)::xz f v r) from rfl];by_cases hk:k=f
  ·rw [if_pos hk,yE,yE];omega
  ·rw [if_neg hk,yE,yE];omega
theorem RelO.some_of {o:Option Value}(r:RelO (some v) o):∃ u,o=some u/\RelV v u:=by
 cases o with
 |none=>exact (show False from r).elim
 |some u=>exact ⟨u,rfl,r⟩
theorem RelO.none_of {o:Option Value}(r:RelO none o):o=none:=by
 cases o with
 |none=>rfl
 |some u=>exact (show False from r).elim
theorem Li (r:RelV v u):PySem.W.handedIn u=true:=by
 cases v with
 |non=>cases (show u=Value.none from r);rfl
 |bl b=>cases (show u=Value.bool b from r);rfl
 |int i=>obtain ⟨t,e⟩:=(show ∃ t,u=Value.int i t from r);cases e;rfl
 |str x=>obtain ⟨t,e⟩:=(show ∃ t,u=Value.str x t from r);cases e;rfl
 |byt b=>obtain ⟨t,e⟩:=(show ∃ t,u=Value.bytes b t from r);cases e;rfl
 |flt b=>obtain ⟨t,e⟩:=(show ∃ t,u=Value.float b t from r);cases e;rfl
 |ref a=>cases (show u=Value.ref a from r);rfl
 |ty n=>cases (show u=Value.type n from r);rfl
section
variable {P:Program}{w:World}{H H':Hp}{h h':Heap}{a C dx:Addr}{fs fs':List (Str×V)}
theorem ZW (hok:HOk P w H h)(e:H a=some (.ins C dx fs)):∃ mA,ObjM h a dx C mA/\(∀ f,RelO (fs.lookup f) (mA f))/\PySem.Within mA (fs.map (·.1))/\fs.length<=1000/\H dx=some (.own a):=by obtain ⟨d,z,ne,ob,mA,n,r,q⟩:=(show ObjOk P w H h a (.ins C dx fs) from hok a _ e);exact ⟨mA,⟨ob,n,ne⟩,r,q,z,d⟩
end
structure Cls (K:Fg)(C:Addr):Prop where
 pg:PySem.W.plainGet K C Str.empty=true
 hd:PySem.W.hasDictIn K C=true
 po:PySem.W.plainOver K C=true
 sa:PySem.W.findIn K (.ref C) "__setattr__"=some (some (.builtin "object.__setattr__"))
theorem Cls.get (c:Cls K C)(f:Str):PySem.W.plainGet K C f=true:=c.pg
def NoAttr (K:Fg)(C:Addr)(f:Str):Prop:=PySem.W.findIn K (.ref C) f=some none
theorem NoAttr.taker {f:Str}(n:NoAttr K C f):PySem.W.takerIn K C f=some none:=by unfold PySem.W.takerIn;rw [show PySem.W.findIn K (.ref C) f=some none from n];rfl
structure Xa (K:Fg)(C:Addr)(m:Str)(f:Addr):Prop where
 at_:PySem.W.findIn K (.ref C) m=some (some (.ref f))
 fn:PySem.W.isFn K (.ref f)=true
 kp:PySem.W.keepIn K (.ref f)=true
section
variable {X:Cx}{pins:List (Addr×Obj)}{σ:St}{H:Hp}{s:Shared}{a C dx:Addr}{fs:List (Str×V)}{f:Str}{v:V}{A:Around}{E:Value->Shared->Prop}
theorem Lh {b:Bool}(I:Inv X pins σ H s)(e:H a=some (.ins C dx fs))(c:Cls X.K C)(n:NoAttr X.K C f)(l:fs.lookup f=some v)(h:∀ u s',Inv X pins σ H s'->RelV v u->Q u s'):wpAny (model X.prog X.w) A (getAttr (.ref a) f b) Q E s:=by obtain ⟨mA,O,r,_,_,_⟩:=ZW I.hok e;obtain ⟨u,hu,ru⟩:=RelO.some_of (v:=v) (o:=mA f) (by rw [<- l];exact r f);exact Le I.kIn O (c.get f) c.hd n hu (Li ru) (h u _ (I.tok _) ru)
theorem VD {g:Addr}{Q:Value×List Value->Shared->Prop}(I:Inv X pins σ H s)(e:H a=some (.ins C dx fs))(c:Cls X.K C)(k:Xa X.K C m g)(l:fs.lookup m=none)(h:Q (.ref g,[.ref a]) s):wpAny (model X.prog X.w) A (getMethod (.ref a) m pl) Q E s:=by obtain ⟨mA,O,r,_,_,_⟩:=ZW I.hok e;have hn:mA m=none:=RelO.none_of (by rw [<- l];exact r m);exact Lg I.kIn O (c.get m) k.at_ k.fn hn h
theorem SL {Q:Unit->Shared->Prop}(I:Inv X pins σ H s)(e:H a=some (.ins C dx fs))(c:Cls X.K C)(n:NoAttr X.K C f)(hl:fs.length<1000)(ry:RelV y u)(h:∀ s',Inv X pins σ (w6 H a (.ins C dx (xz f y fs))) s'->Q () s'):wpAny (model X.prog X.w) A (setAttr (.ref a) f u) Q E s:=by
 obtain ⟨mA,O,r,wi,_,ho⟩:=ZW I.hok e;have hz:(fs.map (·.1)).length<=sizeLine:=by rw [yZ,sizeLine_eq];omega
 refine SJ I.kIn O c.sa c.po n.taker c.hd wi hz λh' O' sb=>h _ ?_;have hd:∃ o,h'.get? dx=some o:=let ⟨o,_,_,e',_⟩:=O'.ns;⟨o,e'⟩
 refine I.write (x:=a) (e:=dx) (by rw [e];exact True.intro) (.inr ho) (λb q hb z=>(sb.2 b hb).trans z) hd ?_;refine ⟨by rw [w4 O.ne];exact ho,?_,O.ne,O'.obj,_,O'.ns,λg=>?_,λg hg=>?_⟩
 ·have:=BA f y fs;omega
 ·show RelO ((xz f y fs).lookup g) (if g=f then some u else mA g);rw [BF];by_cases q:g=f
  ·rw [if_pos q,if_pos q];exact ry
  ·rw [if_neg q,if_neg q];exact r g
 ·by_cases q:g=f
  ·rw [q];exact (VP f y fs).1
  ·refine (VP f y fs).2 g (wi g λz=>hg ?_);show (if g=f then some u else mA g)=none;rw [if_neg q];exact z
theorem Inv.made (I:Inv X pins σ H s):Inv X pins σ (w6 (w6 H s.heap.objs.size (.own (s.heap.objs.size+1))) (s.heap.objs.size+1) (.ins C s.heap.objs.size [])) { s with heap:=(s.heap.push PySem.W.emptyDict).push (PySem.W.instObj C s.heap.objs.size) }:=by
 have e1:(s.heap.push PySem.W.emptyDict).get? s.heap.objs.size=some PySem.W.emptyDict:=yD s.heap rfl;have e2:((s.heap.push PySem.W.emptyDict).push (PySem.W.instObj C s.heap.objs.size)).get? (s.heap.objs.size+1)=some (PySem.W.instObj C s.heap.objs.size):=by have:=yD (s.heap.push PySem.W.emptyDict) (o:=PySem.W.instObj C s.heap.objs.size) rfl;rwa [ux] at this
 have e3:(s.heap.push PySem.W.emptyDict).Ns s.heap.objs.size (λ_=>none):=⟨PySem.W.emptyDict,#[],_,e1,rfl,(λe he=>absurd he (by simp)),λ_=>rfl⟩;have I1:=I.laid (a:=s.heap.objs.size) (o:= .own (s.heap.objs.size+1)) (h':=s.heap.push PySem.W.emptyDict) (t':=s.toks) (λb u q=>yU _ q) (yW _) ⟨_,e1⟩;refine I1.laid (a:=s.heap.objs.size+1) (o:= .ins C s.heap.objs.size []) (t':=s.toks) (λb u q=>yU _ q) (Nat.le_of_eq (ux _ _)) ?_;have ne:s.heap.objs.size≠s.heap.objs.size+1:=yL (uk _);refine ⟨by rw [w4 ne,g8],ya _,ne,e2,λ_=>none,(Heap.Ns1.of_empty e3).at λo q=>yU _ q,λ_=>True.intro,λy hy=>absurd rfl hy⟩
theorem DE {prog:Program}{env:Env}{f:Str}{s:Shared}(hb:attributeBase e f env (eval e env)=eval e env)(h:wpAny (model prog w) A (eval e env) (λo s₁=>wpAny (model prog w) A (getAttr o f true) Q E s₁) E s):wpAny (model prog w) A (eval (.Attribute e f pos) env) Q E s :=
 Attribute_any_ h (by rw [arm_eval_Attribute,hb])
end
def tFld (K:Fg)(ta:TE)(f:Str):TE:=λσ H Q=>ta σ H λx H1=>∃ a C dx fs v,x = .ref a/\H1 a=some (.ins C dx fs)/\Cls K C/\NoAttr K C f/\fs.lookup f=some v/\Q v H1
def Zg (K:Fg)(ta tv:TE)(f:Str):TS:=λD σ H=>tv σ H λy H1=>ta σ H1 λx H2=>∃ a C dx fs,x = .ref a/\H2 a=some (.ins C dx fs)/\Cls K C/\NoAttr K C f/\fs.length<1000 /\
 D.nx σ (w6 H2 a (.ins C dx (xz f y fs)))
section
variable {X:Cx}{o e value:Expr}{f:Str}{pos pos' tpos:Pos}{ta tv:TE}
theorem RC (he:PE X e ta)(hb:attributeBase e f X.env (eval e X.env)=eval e X.env):PE X (.Attribute e f pos) (tFld X.K ta f):=by intro pins s σ H Q I h;refine DE hb (v6 (he pins s σ H _ I h) λu s1 ⟨x,H1,I1,rx,a,C,dx,fs,v,ex,ea,c,n,l,q⟩=>?_);subst ex;obtain rfl:u=Value.ref a:=rx;exact Lh I1 ea c n l λu' s2 I2 ru=>⟨v,H1,I2,ru,q⟩
theorem Te (ha:PE X o ta)(hv:PE X value tv)(hs:swapsWith value (some (.Attribute o f pos')) pos.line X.env=pure false):PS X (.Assign [.Attribute o f pos'] value pos) (Zg X.K ta tv f):=by intro pins s σ H D I h;refine plainObj_wpAny_Assign_Attribute (v6 (hv pins s σ H _ I h) λu s1 ⟨y,H1,I1,ry,q⟩=>v6 (ha pins s1 σ H1 _ I1 q) λov s2 ⟨x,H2,I2,rx,a,C,dx,fs,ex,ea,c,n,l,q2⟩=>?_) hs;subst ex;obtain rfl:ov=Value.ref a:=rx;exact SL I2 ea c n l ry λs3 I3=>⟨σ,_,I3,q2⟩
theorem FC {apos:Pos}{args:List Expr}(he:PE X e te)(I:Inv X pins σ H s)
  (h:te σ H λx H1=>∃ a C dx fs g,x = .ref a/\H1 a=some (.ins C dx fs)/\Cls X.K C/\Xa X.K C m g/\fs.lookup m=none /\
   ∀ s1,Inv X pins σ H1 s1->wpAny (model X.prog X.w) X.A (callWith pos (.ref g) [.ref a] (backTo pos (starEach args X.env)) (backToKw pos (keywordEach [] X.env))) Q X.xe s1)
  (ht:eval (.Call (.Attribute e m apos) args [] pos) X.env=(do
   let ov <- eval e X.env
   standAt apos.atName
   let (f,first) <- holding [ov] (getMethod ov m pl)
   callWith pos f first (backTo pos (starEach args X.env)) (backToKw pos (keywordEach [] X.env)))) :
  wpAny (model X.prog X.w) X.A (eval (.Call (.Attribute e m apos) args [] pos) X.env) Q X.xe s:=by
 refine PySem.W.methodCall_KW (pl:=pl) (v6 (he pins s σ H _ I h) λu s1 ⟨x,H1,I1,rx,a,C,dx,fs,g,ex,ea,c,k,l,q⟩=>?_) ht;subst ex;obtain rfl:u=Value.ref a:=rx;exact VD I1 ea c k l (q s1 I1)
end
section
variable {X:Cx}{pins:List (Addr×Obj)}{σ:St}{H:Hp}{s:Shared}{A:Around}{E:Value->Shared->Prop}{Q:Value->Shared->Prop}{c:Value}{b:Bool}
inductive xU (K:Fg)(H:Hp):V->Value->Prop where
 |non:xU K H .non (.type "NoneType")
 |bl (x:Bool):xU K H (.bl x) (.type "bool")
 |int (i:Int):xU K H (.int i) (.type "int")
 |str (x:Str):xU K H (.str x) (.type "str")
 |flt (x:UInt64):xU K H (.flt x) (.type "float")
 |lst {a:Addr} {xs:List V} (e:H a=some (.lst xs)):xU K H (.ref a) (.type "list")
 |frz {a:Addr} {o:Obj} {xs:List V} (e:H a=some (.frz o (.lst xs))):xU K H (.ref a) (.type "list")
 |tup {a:Addr} {xs:List V} (e:H a=some (.tup xs)):xU K H (.ref a) (.type "tuple")
 |dK {a:Addr} {kvs:List (j6×V)} (e:H a=some (.dK kvs)):xU K H (.ref a) (.type "dict")
 |dT {a:Addr} {kvs:List (List j6×V)} (e:H a=some (.dT kvs)):xU K H (.ref a) (.type "dict")
 |ins {a C dx:Addr} {fs:List (Str×V)} (e:H a=some (.ins C dx fs)) (cl:Cls K C) (ha:PySem.W.findIn K (.ref C) "__class__"=some (some (.builtin "object.__class__")))
   (hn:PySem.W.specialIn K (.builtin "object.__class__") "__get__"=some (some (.builtin "getset_descriptor.__get__"))) (htk:PySem.W.takesIn K (.builtin "object.__class__")=some true)
   (hm:PySem.W.mroIn K C (.type "object")=some true):xU K H (.ref a) (.ref C)
theorem LO {x:V}{t:Value}(I:Inv X pins σ H s)(rx:RelV x u)(ty:xU X.K H x t)(e:PySem.W.kitOne X.K t c=some b)(h:∀ tk,Q (.bool b) { s with toks:=tk }):wpAny (model X.prog X.w) A (call (.builtin "isinstance") [u,c]) Q E s:=by
 cases ty with
 |non=>cases (show u=Value.none from rx);exact PySem.W.kia_one PySem.W.kitx_none I.kIn True.intro e (λz=>nomatch z) h
 |bl y=>cases (show u=Value.bool y from rx);exact PySem.W.kia_one PySem.W.kitx_bool I.kIn True.intro e (λz=>nomatch z) h
 |int i=>obtain ⟨t,q⟩:=(show ∃ t,u=Value.int i t from rx);cases q;exact PySem.W.kia_one PySem.W.kitx_int I.kIn True.intro e (λz=>nomatch z) h
 |str y=>obtain ⟨t,q⟩:=(show ∃ t,u=Value.str y t from rx);cases q;exact PySem.W.kia_one PySem.W.kitx_str I.kIn True.intro e (λz=>nomatch z) h
 |flt y=>obtain ⟨t,q⟩:=(show ∃ t,u=Value.float y t from rx);cases q;exact PySem.W.kia_one PySem.W.kitx_float I.kIn True.intro e (λz=>nomatch z) h
 |@lst a xs ea=>cases (show u=Value.ref a from rx);obtain ⟨_,_,n,_,h1⟩:=(show ObjOk X.prog X.w H s.heap a (.lst xs) from I.hok a _ ea);exact PySem.W.kia_one PySem.W.kitx_list I.kIn ⟨_,h1,rfl⟩ e (λz=>nomatch z) h
 |@frz a ob xs ea=>cases (show u=Value.ref a from rx);obtain ⟨_,_,_,n,_,h1⟩:=(show ObjOk X.prog X.w H s.heap a (.frz ob (.lst xs)) from I.hok a _ ea);exact PySem.W.kia_one PySem.W.kitx_list I.kIn ⟨_,h1,rfl⟩ e (λz=>nomatch z) h
 |@tup a xs ea=>cases (show u=Value.ref a from rx);obtain ⟨_,_,_,p⟩:=(show ObjOk X.prog X.w H s.heap a (.tup xs) from I.hok a _ ea);obtain ⟨o,h1,h2,_⟩:=p;exact PySem.W.kia_one PySem.W.kitx_tuple I.kIn ⟨o,h1,h2⟩ e (λz=>nomatch z) h
 |@dK a kvs ea=>cases (show u=Value.ref a from rx);obtain ⟨_,_,vs,_,p⟩:=(show ObjOk X.prog X.w H s.heap a (.dK kvs) from I.hok a _ ea);obtain ⟨o,es,ep,h1,h2,_⟩:=p;exact PySem.W.kia_one PySem.W.kitx_dict I.kIn ⟨o,h1,h2.1⟩ e (λz=>nomatch z) h
 |@dT a kvs ea=>cases (show u=Value.ref a from rx);obtain ⟨_,_,xs,_,o,es,ep,h1,h2,_⟩:=(show ObjOk X.prog X.w H s.heap a (.dT kvs) from I.hok a _ ea);exact PySem.W.kia_one PySem.W.kitx_dict I.kIn ⟨o,h1,h2.1⟩ e (λz=>nomatch z) h
 |@ins a C dx fs ea cl ha hn htk hm=>cases (show u=Value.ref a from rx);obtain ⟨mA,O,_⟩:=ZW I.hok ea;obtain ⟨od,J,_⟩:=O.look;exact PySem.W.kia_one (PySem.W.kitx_own (cl.get _) cl.hd ha hn htk hm) I.kIn J e (λz=>nomatch z) h
end
structure Room (k:Nat)(A:Around):Prop where
 hd:A.handled=none
 dp:A.depth+3*k+5<recursionLimit
 un:A.units+16*k+200<cLine
theorem Room.mono {k:Nat}(r:Room k A)(h:j<=k):Room j A:=⟨r.hd,by have:=r.dp;omega,by have:=r.un;omega⟩
theorem Room.deeper {k:Nat}(r:Room (k+1) A)(env:Env):Room k (A.deeper env) :=
 ⟨r.hd,by have:=r.dp;show A.depth+1+3*k+5<_;omega,by have:=r.un;show A.units+3+16*k+200<_;omega⟩
theorem Room.in1 {k:Nat}(r:Room (k+1) A):Room k A.in1 :=
 ⟨r.hd,by have:=r.dp;show A.depth+3*k+5<_;omega,by have:=r.un;show A.units+1+16*k+200<_;omega⟩
theorem NC :(A.under (.builtin "type.__call__" ⟨.ref C::us,kw⟩)).depth=A.depth+1:=by first|rfl|simp [Around.under,Code.weight,Code.isCreation,Code.isGuard,Code.isCaller,Code.frames,Code.isFrame,guardIds]
theorem NE :(A.under (.builtin "type.__call__" ⟨.ref C::us,kw⟩)).units=A.units+1:=by first|rfl|simp [Around.under,Code.cUnits,Code.frames,Code.isFrame]
theorem Room.make {k:Nat}(r:Room (k+1) A)(C:Addr)(us:List Value)(kw:List (Str×Value)):Room k (A.under (.builtin "type.__call__" ⟨.ref C::us,kw⟩)) :=
 ⟨r.hd,by have:=r.dp;rw [NC];omega,by have:=r.un;rw [NE];omega⟩
theorem Room.depth {k:Nat}(r:Room k A):A.depth<recursionLimit:=by have:=r.dp;omega
theorem Room.units {k:Nat}(r:Room k A):A.units+64<cLine:=by have:=r.un;omega
def qt:TA:=λ_ H Q=>Q [] H
def i5 (ta:TE)(tr:TA):TA:=λσ H Q=>ta σ H λx H1=>tr σ H1 λxs H2=>Q (x::xs) H2
section
variable {X:Cx}{e:Expr}{es:List Expr}{te:TE}{t:TA}{pos:Pos}
theorem u9:PA X [] qt:=λ_ _ _ _ H Q I h=>Calls.spliced_nil ⟨[],H,I,.nil,h⟩
theorem w5 (ha:PE X e te)(hr:PA X es t)(hs:starEach (e::es) X.env=(false,eval e X.env)::starEach es X.env:=by rfl):PA X (e::es) (i5 te t):=by intro pos pins s σ H Q I h;rw [hs];show wpAny _ _ (spliced ((false,eval e X.env)::backTo pos (starEach es X.env))) _ _ s;refine Calls.spliced_cons (v6 (ha pins s σ H _ I h) λu s1 ⟨x,H1,I1,r1,q1⟩=>?_);exact v6 (hr pos pins s1 σ H1 _ I1 q1) λus s2 ⟨xs,H2,I2,r2,q2⟩=>⟨x::xs,H2,I2,.cons r1 r2,q2⟩
def tTup (t:TA):TE:=λσ H Q=>t σ H λxs H1=>xs.length<=sizeLine/\∀ p,H1 p=none->Q (.ref p) (w6 H1 p (.tup xs))
def tLst (t:TA):TE:=λσ H Q=>t σ H λxs H1=>xs.length<=sizeLine/\∀ p,H1 p=none->Q (.ref p) (w6 H1 p (.lst xs))
theorem xp {x1}(h:PA X es t):PE X (.Tuple es x1 pos) (tTup t):=by intro pins s σ H Q I hq;refine wpAny_Tuple_spliced (v6 (h pos pins s σ H _ I hq) λus s1 ⟨xs,H1,I1,r,z,q⟩=>⟨by rw [<- r.length];exact z,?_⟩);have hf:H1 s1.heap.objs.size=none:=I1.hok.fresh (yW _);refine ⟨.ref s1.heap.objs.size,w6 H1 s1.heap.objs.size (.tup xs),I1.laid (t':=s1.toks) (λb u e=>yU _ e) (yW _) ?_,rfl,q _ hf⟩;exact ⟨z,us,r,⟨_,yD _ rfl,rfl,_,rfl⟩⟩
theorem zb (h:PA X es t):PE X (.List es pos) (tLst t):=by intro pins s σ H Q I hq;refine wpAny_List_spliced (v6 (h pos pins s σ H _ I hq) λus s1 ⟨xs,H1,I1,r,z,q⟩=>⟨by rw [<- r.length];exact z,?_⟩);have hf:H1 s1.heap.objs.size=none:=I1.hok.fresh (yW _);refine ⟨.ref s1.heap.objs.size,w6 H1 s1.heap.objs.size (.lst xs),I1.laid (t':=s1.toks) (λb u e=>yU _ e) (yW _) ?_,rfl,q _ hf⟩;exact ⟨z,us,0,r,yD _ rfl⟩
end
abbrev Sp:=List V->Hp->VK->XK->Prop
variable{sp:Sp}
abbrev CXT:=List Env->Hp->Shared->XK->Value->Shared->Prop
variable{CX:CXT}
structure Env0 (P:Program)(w:World)(K:Fg)(mg:Str->Option Value)(base:Heap)(A:Around)(outer:List Env)(s:Shared)(H:Hp):Prop where
 frames:A.frames=some outer
 mod:Mod K mg base
 bs:∀ b o,base.get? b=some o->s.heap.get? b=some o/\H b=none
 bsz:base.objs.size<=s.heap.objs.size
 funs:s.heap.FunFrames base outer
 frf:∀ b∈frs outer,H b=none
 hok:HOk P w H s.heap
 bare:AllBare s.gens
 tbs:∀ p∈TABS,H p.1=some (.tbl p.2.1 p.2.2)
def CE (outer:List Env)(P:Program)(w:World)(H:Hp)(s:Shared)(Q:VK)(u:Value)(s':Shared):Prop :=
 ∃ v H',s'.os=s.os/\AllBare s'.gens/\Un (frs outer) [] H H' s.heap s'.heap/\HOk P w H' s'.heap/\RelV v u/\Q v H'
def CR (CX:CXT)(outer:List Env)(P:Program)(w:World)(H:Hp)(s:Shared)(Q:VK)(E:XK)(r:Result)(s':Shared):Prop :=
 match r with
 | .ok (.ret u)=>CE outer P w H s Q u s'
 | .ok _=>False
 | .error e=>CX outer H s E e s'
structure FnOk (P:Program)(w:World)(K:Fg)(mg:Str->Option Value)(base:Heap)(CX:CXT)(k:Nat)(f:Addr)(fd:FuncData)(ps:List Str)(sp:Sp):Prop where
 len:∀ vs H Q E,sp vs H Q E->vs.length=ps.length
 run:∀(A:Around)(outer:List Env)(s:Shared)(H:Hp)(args:Args)(us:List Value)(vs:List V)(Q:VK)(E:XK),Room k A->Env0 P w K mg base A outer s H->BindsTo s fd args (ps.zip us)->Vals vs us->sp vs H Q E ->
  codeAny (model P w) A (.call (.ref f) args) (CR CX outer P w H s Q E) s
theorem FnOk.imp {k:Nat}{f:Addr}{sp':Sp}(F:FnOk P w K mg base CX k f fd ps sp)(h:∀ vs H Q E,sp' vs H Q E->sp vs H Q E):FnOk P w K mg base CX k f fd ps sp' :=
 ⟨λvs H Q E q=>F.len vs H Q E (h _ _ _ _ q),λA outer s H args us vs Q E hr he hb hv hs=>F.run A outer s H args us vs Q E hr he hb hv (h _ _ _ _ hs)⟩
theorem Env0.make (e:Env0 P w K mg base A outer s H)(C:Addr)(us:List Value)(kw:List (Str×Value)):Env0 P w K mg base (A.under (.builtin "type.__call__" ⟨.ref C::us,kw⟩)) outer s H:=⟨by first|exact e.frames|(simpa [Around.under,Code.envs,Code.isFrame,pushEnvs] using e.frames),e.mod,e.bs,e.bsz,e.funs,e.frf,e.hok,e.bare,e.tbs⟩
theorem Env0.in1 (e:Env0 P w K mg base A outer s H):Env0 P w K mg base A.in1 outer s H:=⟨e.frames,e.mod,e.bs,e.bsz,e.funs,e.frf,e.hok,e.bare,e.tbs⟩
section
variable {X:Cx}{pins:List (Addr×Obj)}{σ:St}{H:Hp}{s s':Shared}
theorem Inv.env0 (I:Inv X pins σ H s):Env0 X.prog X.w X.K X.mg X.base X.A X.stack s H :=
 ⟨I.ok.frames,I.ok.mod,I.bs,yj I.ok.bsz I.sz,I.stack,I.stkFree,I.hok,I.bare,λp hp=>I.base.tbls _ _ _ (I.ok.tbs p hp)⟩
theorem Inv.after {Q:VK}(I:Inv X pins σ H s)(h:CE X.stack X.prog X.w H s Q u s'):EP X pins σ Q u s':=by obtain ⟨v,H',os,bare,un,hok,r,q⟩:=h;obtain ⟨hh,g,d,t,os'⟩:=s';obtain rfl:os'=s.os:=os;exact ⟨v,H',I.call (h':=hh) (g':=g) (d':=d) (t':=t) (ch:=[]) un hok bare (λb z=>absurd z (by simp)),r,q⟩
end
def ve (sp:Sp)(dvs:List V)(E:XK)(t:TA):TE:=λσ H Q=>t σ H λvs H1=>sp (vs++dvs) H1 Q E
def wK (C:Addr)(m:Str)(sp:Sp)(dvs:List V)(E:XK)(ta:TE)(t:TA):TE:=λσ H Q=>ta σ H λx H1=>∃ a dx fs,x = .ref a/\H1 a=some (.ins C dx fs)/\fs.lookup m=none /\
 t σ H1 λvs H2=>sp (x::(vs++dvs)) H2 Q E
def Zo (C:Addr)(sp:Sp)(dvs:List V)(E:XK)(t:TA):TE:=λσ H Q=>t σ H λvs H1=>∀ x dx,H1 x=none->H1 dx=none->dx≠x ->
 sp (.ref x::(vs++dvs)) (w6 (w6 H1 dx (.own x)) x (.ins C dx [])) (λv H2=>v = .non/\Q (.ref x) H2) E
def Binds (K:Fg)(fd:FuncData)(ps:List Str)(ds:List Value):Prop :=
 ∀(s:Shared)(us:List Value),K.In s.heap->(us++ds).length=ps.length->BindsTo s fd ⟨us,[]⟩ (ps.zip (us++ds))
theorem Binds.all (h:∀ us:List Value,us.length=ps.length->bindArgs fd ⟨us,[]⟩=pure (ps.zip us)):Binds K fd ps []:=λs us _ hl=>by
 rw [yp] at hl ⊢;exact .of_eq (h us hl)
def vS (CX:CXT)(X:Cx)(E:XK):Prop:=∀(pins:List (Addr×Obj))(σ:St)(H:Hp)(s:Shared)(e:Value)(s':Shared),Inv X pins σ H s->CX X.stack H s E e s'->X.xe e s'
section
variable {X:Cx}{CX:CXT}{k:Nat}{f C:Addr}{fd:FuncData}{ps:List Str}{sp:Sp}{dvs:List V}{ds:List Value}{E:XK}{x m:Str}{p pos apos:Pos}{e o:Expr}{es:List Expr}{ta:TE}{t:TA}
theorem WN {Q:VK}(F:FnOk X.prog X.w X.K X.mg X.base CX k f fd ps sp)(hr:Room k X.A)(hb:Binds X.K fd ps ds)(hd:Vals dvs ds)(hx:vS CX X E)(I:Inv X pins σ H s)(r:Vals vs us)(h:sp (vs++dvs) H Q E):wpAny (model X.prog X.w) X.A (call (.ref f) us) (EP X pins σ Q) X.xe s:=by
 have r2:Vals (vs++dvs) (us++ds):=r.append hd;have hl:(us++ds).length=ps.length:=by rw [<- r2.length];exact F.len _ _ _ _ h
 refine wpAny_call (codeAny_mono (F.run X.A X.stack s H ⟨us,[]⟩ (us++ds) (vs++dvs) Q E hr I.env0 (hb s us I.kIn hl) r2 h) λr s' hq=>?_);cases r with
 |error e=>exact hx pins σ H s e s' I hq
 |ok fl =>
  cases fl with
  |ret u=>exact I.after hq
  |next=>exact False.elim hq
  |brk=>exact False.elim hq
  |cont=>exact False.elim hq
theorem Ry (F:FnOk X.prog X.w X.K X.mg X.base CX k f fd ps sp)(hr:Room k X.A)(hg:Gl X x)(hm:X.mg x=some (.ref f))(hk:PySem.W.keepIn X.K (.ref f)=true)(hb:Binds X.K fd ps ds)(hd:Vals dvs ds)(hx:vS CX X E)(ha:PA X (e::es) t)(hdb:(x==("__debug__":Str))=false:=by decide)(he:starEach (e::es) X.env=(false,eval e X.env)::starEach es X.env:=by rfl)(hpl:(backTo pos (starEach es X.env)).any (·.1)=false:=by rfl):PE X (.Call (.Name x p) (e::es) [] pos) (ve sp dvs E t):=by intro pins s σ H Q I h;refine wpAny_Call_Name_kw (ZZ I hg hm ?_ hdb);refine PySem.W.callWith_K (h₀:=X.base) I.ok.mod.kin hk (v6 (ha pos pins s σ H _ I h) λus s1 ⟨vs,H1,I1,r,q⟩=>⟨I1.kIn,?_⟩) he hpl;exact WN F hr hb hd hx I1 r q
theorem RJ (he:PE X o ta)(c:Cls X.K C)(hm:Xa X.K C m f)(F:FnOk X.prog X.w X.K X.mg X.base CX k f fd ps sp)(hr:Room k X.A)(hb:Binds X.K fd ps ds)(hd:Vals dvs ds)(hx:vS CX X E)(ha:PA X (e::es) t)
  (hst:starEach (e::es) X.env=(false,eval e X.env)::starEach es X.env:=by rfl) (hpl:(backTo pos (starEach es X.env)).any (·.1)=false:=by rfl)
  (ht:eval (.Call (.Attribute o m apos) (e::es) [] pos) X.env=(do
   let ov <- eval o X.env
   standAt apos.atName
   let (f,first) <- holding [ov] (getMethod ov m pl)
   callWith pos f first (backTo pos (starEach (e::es) X.env)) (backToKw pos (keywordEach [] X.env))):=by rfl) :
  PE X (.Call (.Attribute o m apos) (e::es) [] pos) (wK C m sp dvs E ta t):=by
 intro pins s σ H Q I h;refine PySem.W.methodCall_KW (pl:=pl) (v6 (he pins s σ H _ I h) λu s1 ⟨x,H1,I1,rx,a,dx,fs,ex,ea,l,q⟩=>?_) ht;subst ex;obtain rfl:u=Value.ref a:=rx;refine VD I1 ea c hm l ?_;refine PySem.W.callWith_K (first:=[.ref a]) (h₀:=X.base) I.ok.mod.kin hm.kp (v6 (ha pos pins s1 σ H1 _ I1 q) λus s2 ⟨vs,H2,I2,r,q2⟩=>⟨I2.kIn,?_⟩) hst hpl;exact WN (us:= .ref a::us) (vs:= .ref a::vs) F hr hb hd hx I2 (.cons rfl r) q2
theorem RK (he:PE X o ta)(c:Cls X.K C)(hm:Xa X.K C m f)(F:FnOk X.prog X.w X.K X.mg X.base CX k f fd ps sp)(hr:Room k X.A)(hb:Binds X.K fd ps ds)(hd:Vals dvs ds)(hx:vS CX X E)
  (ht:eval (.Call (.Attribute o m apos) [] [] pos) X.env=(do
   let ov <- eval o X.env
   standAt apos.atName
   let (f,first) <- holding [ov] (getMethod ov m pl)
   callWith pos f first (backTo pos (starEach [] X.env)) (backToKw pos (keywordEach [] X.env))):=by rfl) :
  PE X (.Call (.Attribute o m apos) [] [] pos) (wK C m sp dvs E ta qt):=by
 intro pins s σ H Q I h;refine PySem.W.methodCall_KW (pl:=pl) (v6 (he pins s σ H _ I h) λu s1 ⟨x,H1,I1,rx,a,dx,fs,ex,ea,l,q⟩=>?_) ht;subst ex;obtain rfl:u=Value.ref a:=rx;refine VD I1 ea c hm l ?_;exact PySem.W.callWith_K0 (first:=[.ref a]) I1.kIn hm.kp (WN (us:=[.ref a]) (vs:=[.ref a]) F hr hb hd hx I1 (.cons rfl .nil) q)
structure Mk (K:Fg)(C f:Addr):Prop where
 makes:PySem.W.makesIn K C=true
 init:PySem.W.findIn K (.ref C) "__init__"=some (some (.ref f))
 fn:PySem.W.isFn K (.ref f)=true
 kp:PySem.W.keepIn K (.ref C)=true
theorem TL {Q:VK}(M:Mk X.K C f)(F:FnOk X.prog X.w X.K X.mg X.base CX k f fd ps sp)(hr:Room (k+1) X.A)(hb:Binds X.K fd ps ds)(hd:Vals dvs ds)(hx:vS CX X E)(I:Inv X pins σ H s)(r:Vals vs us)(h:∀ x dx,H x=none->H dx=none->dx≠x->sp (.ref x::(vs++dvs)) (w6 (w6 H dx (.own x)) x (.ins C dx [])) (λv H2=>v = .non/\Q (.ref x) H2) E):wpAny (model X.prog X.w) X.A (call (.ref C) us) (EP X pins σ Q) X.xe s:=by
 have hq:=h (s.heap.objs.size+1) s.heap.objs.size (I.hok.fresh (ul _)) (I.hok.fresh (yW _)) (yL (uk _));have I2:=Inv.made (C:=C) I;have r2:Vals (V.ref (s.heap.objs.size+1)::(vs++dvs)) (Value.ref (s.heap.objs.size+1)::(us++ds)):= .cons rfl (r.append hd);have hl:(Value.ref (s.heap.objs.size+1)::us++ds).length=ps.length:=by have e:=r2.length;rw [F.len _ _ _ _ hq] at e;exact e.symm
 refine wpAny_call (ND (f:=f) I.kIn M.makes M.init (beq_iff_eq.mp M.fn) (codeAny_mono (F.run _ X.stack _ _ ⟨Value.ref (s.heap.objs.size+1)::us,[]⟩ (Value.ref (s.heap.objs.size+1)::(us++ds)) _ _ E (hr.make C us [])
  (I2.env0.make C us []) (hb _ (Value.ref (s.heap.objs.size+1)::us) I2.kIn hl) r2 hq) λr s' hq'=>?_))
 cases r with
 |error e=>exact hx pins σ _ _ e s' I2 hq'
 |ok fl =>
  cases fl with
  |ret u=>obtain ⟨v,H',I3,rv,ev,q3⟩:=I2.after hq';subst ev;exact ⟨rv,⟨V.ref (s.heap.objs.size+1),H',I3,rfl,q3⟩⟩
  |next=>exact False.elim hq'
  |brk=>exact False.elim hq'
  |cont=>exact False.elim hq'
theorem RI (M:Mk X.K C f)(F:FnOk X.prog X.w X.K X.mg X.base CX k f fd ps sp)(hr:Room (k+1) X.A)(hg:Gl X x)(hm:X.mg x=some (.ref C))(hb:Binds X.K fd ps ds)(hd:Vals dvs ds)(hx:vS CX X E)(ha:PA X (e::es) t)(hdb:(x==("__debug__":Str))=false:=by decide)(he:starEach (e::es) X.env=(false,eval e X.env)::starEach es X.env:=by rfl)(hpl:(backTo pos (starEach es X.env)).any (·.1)=false:=by rfl):PE X (.Call (.Name x p) (e::es) [] pos) (Zo C sp dvs E t):=by intro pins s σ H Q I h;refine wpAny_Call_Name_kw (ZZ I hg hm ?_ hdb);refine PySem.W.callWith_K (h₀:=X.base) I.ok.mod.kin M.kp (v6 (ha pos pins s σ H _ I h) λus s1 ⟨vs,H1,I1,r,q⟩=>⟨I1.kIn,?_⟩) he hpl;exact TL M F hr hb hd hx I1 r q
end
structure y6 (N P:List Str)(sc:Scope):Prop where
 kind:sc.kind = .function
 co:sc.isCoroutine=false
 gen:sc.isGenerator=false
 nd:N.Nodup
 pre:N.take P.length=P
 par:∀ x∈P,sc.names.lookup x=some .local∨sc.names.lookup x=some .cell
 nofree:∀ y∈sc.names,y.2 ≠ .free
theorem GT {kindOf:Str->Option NameKind}{x:Str}:∀{binds:List (Str×Value)}{m:Str->Option Value},(∀ v,(x,v)∉binds)->bindL kindOf binds m x=m x
 |[],_,_=>rfl
 |(n,v)::r,m,h=>by
  unfold bindL;rw [GT λw hw=>h w (yV _ hw)];split
  ·have:x≠n:=by rintro rfl;exact h v yT
   simp [this]
  ·rfl
theorem GR {kindOf:Str->Option NameKind}{x:Str}:∀{binds:List (Str×Value)}{m:Str->Option Value},(∀ v,(x,v)∉binds)->bindC kindOf binds m x=m x
 |[],_,_=>rfl
 |(n,v)::r,m,h=>by
  unfold bindC;rw [GR λw hw=>h w (yV _ hw)];split
  ·rfl
  ·have:x≠n:=by rintro rfl;exact h v yT
   simp [this]
theorem GS {kindOf:Str->Option NameKind}{x:Str}{v:Value}:∀{P:List Str}{vs:List Value}{i:Nat}{m:Str->Option Value},P.Nodup->P[i]?=some x->vs[i]?=some v->kindOf x=some .local -> bindL kindOf (P.zip vs) m x=some v
 |[],_,_,_,_,h,_,_=>by simp at h
 |_::_,[],_,_,_,_,h,_=>by simp at h
 |p::P,w::vs,0,m,nd,h1,h2,hk=>by
  simp at h1 h2;subst h1;subst h2;show bindL kindOf ((p,w)::P.zip vs) m p=_;unfold bindL;rw [GT λv hv=>(yo.mp nd).1 (ud hv).1,if_pos hk];simp
 |p::P,w::vs,i+1,m,nd,h1,h2,hk=>by
  show bindL kindOf ((p,w)::P.zip vs) m x=_;unfold bindL;exact GS (i:=i) (yo.mp nd).2 (by simpa using h1) (by simpa using h2) hk
theorem GQ {kindOf:Str->Option NameKind}{x:Str}{v:Value}:∀{P:List Str}{vs:List Value}{i:Nat}{m:Str->Option Value},P.Nodup->P[i]?=some x->vs[i]?=some v->kindOf x≠some .local -> bindC kindOf (P.zip vs) m x=some v
 |[],_,_,_,_,h,_,_=>by simp at h
 |_::_,[],_,_,_,_,h,_=>by simp at h
 |p::P,w::vs,0,m,nd,h1,h2,hk=>by
  simp at h1 h2;subst h1;subst h2;show bindC kindOf ((p,w)::P.zip vs) m p=_;unfold bindC;rw [GR λv hv=>(yo.mp nd).1 (ud hv).1,if_neg hk];simp
 |p::P,w::vs,i+1,m,nd,h1,h2,hk=>by
  show bindC kindOf ((p,w)::P.zip vs) m x=_;unfold bindC;exact GQ (i:=i) (yo.mp nd).2 (by simpa using h1) (by simpa using h2) hk
def start (N:List Str)(vs:List V):St:=vs.map some++List.replicate (N.length-vs.length) none
def xN (CX:CXT)(P:Program)(w:World)(K:Fg)(mg:Str->Option Value)(base:Heap)(N:List Str)(qual:Str)(scope:Scope)(f:Addr)(cd:Value)(A:Around)(outer:List Env)(s:Shared)(H:Hp)(E:XK):Cx where
 prog:=P
 w:=w
 K:=K
 mg:=mg
 base:=base
 A:=A.deeper (envOfC qual scope s.heap.objs.size f cd)
 N:=N
 s₀:=s
 H₀:=H
 env:=envOfC qual scope s.heap.objs.size f cd
 outer:=outer
 stack:=envOfC qual scope s.heap.objs.size f cd::outer
 ex:=[]
 calm:=true
 fn:=λ_=>true
 pn:=[]
 xe:=λe s'=>wpAny (model P w) (A.deeper (envOfC qual scope s.heap.objs.size f cd)) (leaving (envOfC qual scope s.heap.objs.size f cd) e) (λ_ s''=>CX outer H s E e s'') (λe' s''=>CX outer H s E e' s'') s'
theorem Kh {sc:Scope}(h:sc.names.lookup x=some .cell):∃ c,(cellsFrom n sc.names []).lookup x=some c:=by have q:=PySem.W.cellsFrom_some sc.names n [] (.inl h);exact Option.isSome_iff_exists.mp q
theorem LH {f:Addr}{cd:Value}{s1:Shared}{E:XK}(S:y6 N ps scope)(hd:A.handled=none)(e0:Env0 P w K mg base A outer s H)(hl:vs.length=ps.length)(r:Vals vs us)(x:InCallC s s.heap.objs.size (bindL (envOfC qual scope s.heap.objs.size f cd).kindOf (ps.zip us) λ_=>none) (cellsFrom (s.heap.objs.size+1) scope.names []) (bindC (envOfC qual scope s.heap.objs.size f cd).kindOf (ps.zip us) λ_=>none) s1):Inv (xN CX P w K mg base N qual scope f cd A outer s H E) [] (start N vs) H s1:=by
 have hpl:ps.length<=N.length:=by have:=congrArg List.length S.pre;rw [uX] at this;omega
 obtain ⟨h1,tk,rfl,hk⟩:=x.done;have noA:∀ b:Addr,b∉(xN CX P w K mg base N qual scope f cd A outer s H E).ex:=λb z=>absurd (show b∈([]:List Addr) from z) (by simp);refine ⟨⟨e0.mod,S.kind,rfl,rfl,yW _,λy z c h1 h2=>?_,λy hy=>?_,λy c _ h=>?_,λ_=>hd,Around.frames_deeper e0.frames,.inr ⟨rfl,rfl⟩,λb z=>absurd z (noA b),e0.bs,e0.bsz,λb _ _=>noA b,λb z=>absurd z (noA b),e0.funs,e0.frf,e0.tbs⟩,
  rfl,e0.bare,Un.kept hk,⟨_,x.toInCall.ns,λi y v h1 h2 h3=>?_⟩,λy c h=>⟨_,x.cell y c h⟩,e0.hok.fresh (yW _),λy c h=>?_,λp hp=>absurd (show p∈([]:List (Addr×Obj)) from hp) (by simp),e0.hok.kept hk,?_⟩
 ·exact name_of_addr x.apart (PySem.mem_of_lookup h1) (PySem.mem_of_lookup h2)
 ·have hy:scope.names.lookup y=some .cell∨scope.names.lookup y=some .free:=hy;rcases hy with hy|hy
  ·exact Kh hy
  ·exact absurd rfl (S.nofree _ (PySem.mem_of_lookup hy))
 ·exact uL (x.above y c (PySem.mem_of_lookup h))
 ·have hi:i<vs.length:=by
   unfold start at h2;by_cases hi:i<vs.length
   ·exact hi
   ·rw [ym (by simpa using hi)] at h2;rw [ug] at h2;split at h2<;>cases h2
  have ha:vs[i]?=some v:=by
   unfold start at h2;rw [yc (by simpa using hi),yP] at h2;cases e:vs[i]? with
   |none=>rw [e] at h2;cases h2
   |some a=>rw [e] at h2;cases h2;rfl
  obtain ⟨u,hu,rv⟩:=r.get ha;have hp:ps[i]?=some y:=by rw [<- S.pre,List.getElem?_take_of_lt (by omega)];exact h1
  have ndP:ps.Nodup:=by rw [<- S.pre];exact S.nd.sublist (List.take_sublist _ _)
  refine ⟨u,rv,?_⟩;rcases S.par y (yh hp) with k|k
  ·exact .inl ⟨k,GS ndP hp hu k⟩
  ·obtain ⟨c,e⟩:=Kh (n:=s.heap.objs.size+1) k;refine .inr ⟨.inl k,c,e,?_⟩;have q:=x.cell y c e;rw [GQ ndP hp hu (by show scope.names.lookup y≠_;rw [k];decide)] at q;exact q
 ·exact e0.hok.fresh (uL (x.above y c (PySem.mem_of_lookup h)))
 ·unfold start;show _=N.length;rw [yM,yZ,tZ];omega
theorem VA {k:Nat}{f:Addr}{name:Str}{params:Arguments}{dV kV doc pm cdv ct oc:Value}{an od:Option Addr}{osl:Array (Option Value)}(lk:K.lookup f=some ⟨oc,od,.func (PySem.W.fnOf name qual params body scope dV kV doc pm an cdv ct),osl⟩)(hcd:PySem.W.codeIn K cdv qual=true)(S:y6 N ps scope)(len:∀ vs H Q E,sp vs H Q E->vs.length=ps.length)(hbody:∀(A:Around)(outer:List Env)(s:Shared)(H:Hp)(vs:List V)(Q:VK)(E:XK),Room k (A.deeper (envOfC qual scope s.heap.objs.size f cdv))->sp vs H Q E -> ∃ t,PSs (xN CX P w K mg base N qual scope f cdv A outer s H E) body t/\t { nx:=λ_ H'=>Q .non H',rt:=Q } (start N vs) H):FnOk P w K mg base CX (k+1) f (PySem.W.fnOf name qual params body scope dV kV doc pm an cdv ct) ps sp:=by
 refine ⟨len,λA outer s H args us vs Q E hr e0 hb r hsp=>?_⟩;have hl:=len _ _ _ _ hsp;have KX:K.In s.heap:=e0.mod.kin.keeps λb o e=>(e0.bs b o e).1;have lim:s.heap.NoLimit:=e0.mod.nolimit.keeps λb o e=>(e0.bs b o e).1;have hkind:∀ y∈ps.zip us,scope.names.lookup y.1=some .local∨(scope.names.lookup y.1=some .cell/\((cellsFrom (s.heap.objs.size+1) scope.names []).lookup y.1).isSome=true):=λ⟨n,v⟩ hy=>by
  rcases S.par n (ud hy).1 with q|q
  ·exact .inl q
  ·exact .inr ⟨q,PySem.W.cellsFrom_some _ _ _ (.inl q)⟩
 refine codeAny_call_function hr.depth (KX _ _ lk) rfl S.co S.gen rfl (PySem.W.codeRec_of KX hcd) (hb _ _ _ _ ?_);refine wpAny_newFunctionEnv_cells S.kind hkind λenv he s1 x=>?_;subst he;refine ⟨lim.keeps x.toInCall.keep,codeAny_func ?_⟩;obtain ⟨t,ht,hq⟩:=hbody A outer s H vs Q E (hr.deeper _) hsp;have I:Inv (xN CX P w K mg base N qual scope f cdv A outer s H E) [] (start N vs) H s1:=LH S hr.hd e0 hl r x;refine wpAny_mono (ht [] s1 (start N vs) H _ I hq) (λfl s' hs=>?_) λe s' hs=>hs;have fin:∀{σ':St}{H':Hp}{v:V}{u:Value},Inv (xN CX P w K mg base N qual scope f cdv A outer s H E) [] σ' H' s'->RelV v u->Q v H'->CE outer P w H s Q u s' :=
  λ{σ' H' v u} J rv q=>⟨v,H',J.os,J.bare,J.base,J.hok,rv,q⟩
 cases fl with
 |ret u=>obtain ⟨v,σ',H',J,rv,q⟩:=hs;exact fin J rv q
 |next=>obtain ⟨σ',H',J,q⟩:=hs;exact fin (v:=V.non) (u:=Value.none) J rfl q
 |brk=>obtain ⟨_,_,_,q⟩:=hs;exact False.elim q
 |cont=>obtain ⟨_,_,_,q⟩:=hs;exact False.elim q
section
variable {X:Cx}{x:Str}{p pos:Pos}{e:Expr}{es:List Expr}{t:TA}{id T:String}{r:List V->Hp->VK->Prop}
def tCB (r:List V->Hp->VK->Prop)(t:TA):TE:=λσ H Q=>t σ H λvs H1=>r vs H1 Q
theorem k9 (hc:CallR X (.builtin id) r)(hg:Gl X x)(hm:X.mg x=none)(hv:bootBuiltins x=some (.builtin id))(ha:PA X (e::es) t)(hn:x ≠ "__name__":=by decide)(hdb:(x==("__debug__":Str))=false:=by decide)(he:starEach (e::es) X.env=(false,eval e X.env)::starEach es X.env:=by rfl)(hpl:(backTo pos (starEach es X.env)).any (·.1)=false:=by rfl):PE X (.Call (.Name x p) (e::es) [] pos) (tCB r t):=by intro pins s σ H Q I h;refine wpAny_Call_Name_kw (vw I hg hm hv ?_ hn hdb);exact PyProof.Rows.callWith_builtin1 (v6 (ha pos pins s σ H _ I h) λus s1 ⟨vs,H1,I1,r1,q1⟩=>hc pins s1 σ H1 vs us Q I1 r1 q1) he hpl
theorem zI (hc:CallR X (.type T) r)(hg:Gl X x)(hm:X.mg x=none)(hv:bootBuiltins x=some (.type T))(ha:PA X (e::es) t)(hn:x ≠ "__name__":=by decide)(hdb:(x==("__debug__":Str))=false:=by decide)(he:starEach (e::es) X.env=(false,eval e X.env)::starEach es X.env:=by rfl)(hpl:(backTo pos (starEach es X.env)).any (·.1)=false:=by rfl):PE X (.Call (.Name x p) (e::es) [] pos) (tCB r t):=by intro pins s σ H Q I h;refine wpAny_Call_Name_kw (vw I hg hm hv ?_ hn hdb);exact PyProof.Rows.callWith_type1 (v6 (ha pos pins s σ H _ I h) λus s1 ⟨vs,H1,I1,r1,q1⟩=>hc pins s1 σ H1 vs us Q I1 r1 q1) he hpl
end
end L2
namespace HT
open PySem PyProof.Rows
section
variable {prog:Program}{w:World}{A:Around}{E:Value->Shared->Prop}{s:Shared}
theorem cat_tup {t b:Addr}{vs ws:List Value}{Q:Value->Shared->Prop}(ht:IsTup s.heap t vs.toArray)(hb:IsTup s.heap b ws.toArray)(hv:vs≠[])(h1:ws=[]->Q (.ref t) s)(h2:ws≠[]->Q (.ref s.heap.objs.size) { s with heap:=s.heap.push { cls:= .type "tuple",data:= .seq (vs++ws).toArray } })(hsz:vs.length+ws.length<=sizeLine):wpAny (model prog w) A (binaryOp .Add (.ref t) (.ref b)) Q E s:=by
 obtain ⟨⟨cls,dd,data,sl⟩,ho,hc,n,hd⟩:=id ht;obtain ⟨⟨cls2,dd2,data2,sl2⟩,ho2,hc2,n2,hd2⟩:=id hb;simp only at hc hd hc2 hd2;subst hc hd hc2 hd2;have e:vs.toArray++ws.toArray=(vs++ws).toArray:=by simp
 by_cases hw:ws=[]
 ·exact concat_meets ⟨_,ho,rfl⟩ ⟨_,ho2,rfl⟩ noFill_tuple_add seq_tuple_add PySem.F.slot_tuple_add PySem.F.entry_tuple_add (PySem.F.args_tuple_add_2 _ _)
   (tuple_addW1 t b vs.toArray ws.toArray n n2 dd dd2 sl sl2 (by simpa using hv) (by simp [hw])) ⟨ho,ho2,h1 hw⟩
 ·refine concat_meets ⟨_,ho,rfl⟩ ⟨_,ho2,rfl⟩ noFill_tuple_add seq_tuple_add PySem.F.slot_tuple_add PySem.F.entry_tuple_add (PySem.F.args_tuple_add_2 _ _)
   (tuple_addW2 t b vs.toArray ws.toArray n n2 dd dd2 sl sl2 (by simpa using hv) (by simpa using hw) (by rw [yX,yX];exact hsz)) ⟨ho,ho2,?_⟩
  rw [e];exact h2 hw
def sIx (n d:Nat):Option Int->Nat
 |none=>d
 |some v=>if v<0 then (v+(n:Int)).toNat else min v.toNat n
theorem sIx_none (n d:Nat):sIx n d none=d:=rfl
theorem sIx_nat (n d k:Nat):sIx n d (some (k:Int))=min k n:=by show (if (k:Int)<0 then ((k:Int)+(n:Int)).toNat else min (k:Int).toNat n)=min k n;rw [if_neg (by omega),ub]
end
end HT
namespace L2
open PySem PySem.Spec PyProof.Rows
variable{r:R2}{xs:List (List j6×Addr×Value)}{j n t':Nat}{α:Type}{pins:List (Addr×Obj)}{σ:St}{H H':Hp}{s:Shared}{its its':List Value}{A:Around}{x y:V}{u v:Value}{T:String}{o:Option V}{P:Program}{w:World}{kvs:List (List j6×V)}{a:Addr}{Q:Value->Shared->Prop}{h':Heap}
abbrev TO:=St->Hp->(Option Int->Hp->Prop)->Prop
def PO (X:Cx)(e:Option Expr)(t:TO):Prop :=
 ∀(pins:List (Addr×Obj))(s:Shared)(σ:St)(H:Hp)(Q:Option Int->Hp->Prop),Inv X pins σ H s->t σ H Q ->
  wpAny (model X.prog X.w) X.A (evalPart e X.env) (λu s'=>∃ o H',Inv X pins σ H' s'/\IsPart u o/\Q o H') X.xe s
def CD:TO:=λ_ H Q=>Q none H
def CG (t:TE):TO:=λσ H Q=>t σ H λx H1=>∃ i,x = .int i/\Q (some i) H1
section
variable {X:Cx}{e:Expr}{te:TE}{lo hi:Option Expr}{tl th:TO}{pos p2:Pos}
theorem QQ:PO X none CD:=by intro pins s σ H Q I h;rw [evalPart_none];exact yx ⟨none,H,I,.none,h⟩
theorem QR (h:PE X e te):PO X (some e) (CG te):=by intro pins s σ H Q I hw;rw [evalPart_some];refine v6 (h pins s σ H _ I hw) λu s1 ⟨x,H1,I1,r1,q1⟩=>?_;obtain ⟨i,rfl,q⟩:=q1;obtain ⟨t,rfl⟩:=r1;exact ⟨some i,H1,I1,.int i t,q⟩
def SlR (X:Cx)(r:V->Option Int->Option Int->Hp->VK->Prop):Prop :=
 ∀(pins:List (Addr×Obj))(s:Shared)(σ:St)(H:Hp)(x:V)(v vl vu:Value)(lo hi:Option Int)(sl:Addr)(Q:VK),Inv X pins σ H s->RelV x v->s.heap.IsSliceOf sl vl vu .none->IsPart vl lo->IsPart vu hi->r x lo hi H Q ->
  ∃ T id,typeLookup (.type T) "__getitem__"=pure (some (.builtin id))/\s.TypeIs v T/\wpAny (model X.prog X.w) X.A (getItem v (.ref sl)) (EP X pins σ Q) X.xe s
def tSl (r:V->Option Int->Option Int->Hp->VK->Prop)(te:TE)(tl th:TO):TE:=λσ H Q=>te σ H λx H1=>tl σ H1 λl H2=>th σ H2 λu H3=>r x l u H3 Q
theorem QP {r:V->Option Int->Option Int->Hp->VK->Prop}(hr:SlR X r)(he:PE X e te)(hl:PO X lo tl)(hu:PO X hi th):PE X (.Subscript e (.Slice lo hi none p2) pos) (tSl r te tl th):=by intro pins s σ H Q I h;refine Subscript_ (v6 (he pins s σ H _ I h) λv s1 ⟨x,H1,I1,r1,q1⟩=>?_);refine wpAny_Slice (v6 (hl pins s1 σ H1 _ I1 q1) λvl s2 ⟨l,H2,I2,pl,q2⟩=>v6 (hu pins s2 σ H2 _ I2 q2) λvu s3 ⟨u,H3,I3,pu,q3⟩=>?_);rw [evalPart_none];refine yx ?_;have I4:Inv X pins σ H3 { s3 with heap:=s3.heap.push { cls:= .type "slice",data:= .fields #[vl,vu,.none] } }:=I3.kept (t':=s3.toks) λb ob q=>yU _ q;obtain ⟨T,id,hT,ht,hg⟩:=hr pins { s3 with heap:=s3.heap.push { cls:= .type "slice",data:= .fields #[vl,vu,.none] } } σ H3 x v vl vu l u s3.heap.objs.size Q I4 r1 (Heap.IsSliceOf.new ..) pl pu q3;show wpAny (model X.prog X.w) X.A (subscriptTail e (.Slice lo hi none p2) v (.ref s3.heap.objs.size)) (EP X pins σ Q) X.xe { s3 with heap:=s3.heap.push { cls:= .type "slice",data:= .fields #[vl,vu,.none] } };exact tail_any (ops:=[.ref s3.heap.objs.size,v]) ht hT hg (by with_unfolding_all rfl)
def Qi (xs:List V)(lo hi:Option Int):List V:=(xs.drop (HT.sIx xs.length 0 lo)).take (HT.sIx xs.length xs.length hi-HT.sIx xs.length 0 lo)
theorem Mp (xs:List V)(lo hi:Option Int):(Qi xs lo hi).length<=xs.length:=by unfold Qi;rw [uX,uU];omega
def Pq (K:Fg):R2:=λx y H Q=>∃ a b xs ys,x = .ref a/\y = .ref b/\SqT K H a xs/\SqT K H b ys/\xs≠[]/\xs.length+ys.length<=sizeLine /\
 (ys=[]->Q (.ref a) H)/\(ys≠[]->∀ p,H p=none->Q (.ref p) (w6 H p (.tup (xs++ys))))
theorem Vals.nil_iff {xs:List V}{us:List Value}(r:Vals xs us):us=[]↔xs=[]:=by
 cases r with
 |nil=>simp
 |cons _ _=>simp
theorem Ro:OpR X (binaryOp .Add) (Pq X.K):=by intro pins s σ H x y v u Q I rx ry h;obtain ⟨a,b,xs,ys,rfl,rfl,ha,hb,hx,hz,q1,q2⟩:=h;cases rx;cases ry;obtain ⟨its,r1,p1,_⟩:=I.tuple ha;obtain ⟨its2,r2,p2,_⟩:=I.tuple hb;refine HT.cat_tup p1 p2 (λz=>hx (r1.nil_iff.mp z)) (λz=>⟨.ref a,H,I,rfl,q1 (r2.nil_iff.mp z)⟩) (λz=>?_) (by rw [<- r1.length,<- r2.length];exact hz);refine ⟨.ref s.heap.objs.size,_,I.laid (t':=s.toks) (o:= .tup (xs++ys)) (λb ob q=>yU _ q) (yW _) ?_,rfl,q2 (λw=>z (r2.nil_iff.mpr w)) _ (I.hok.fresh (yW _))⟩;exact ⟨by rw [yM];exact hz,_,r1.append r2,IsTup.new _ _⟩
end
def ixN (n:Nat)(i:Int):Option Nat:=if 0<=i then (if i<n then some i.toNat else none) else if -(n:Int)<=i then some (i+n).toNat else none
def atI {α:Type}(xs:List α)(i:Int):Option α:=(ixN xs.length i).bind λj=>xs[j]?
theorem Bn {i:Int}(h:ixN n i=some j):seqIndex? i n=some j/\j<n/\-(n:Int)<=i/\i<n:=by
 unfold ixN at h;by_cases h0:0<=i
 ·rw [if_pos h0] at h;by_cases h1:i<n
  ·rw [if_pos h1] at h;have e:i.toNat=j:=Option.some.inj h;exact ⟨by rw [seqIndex_of h0 h1,e],by omega,by omega,h1⟩
  ·rw [if_neg h1] at h;cases h
 ·rw [if_neg h0] at h;by_cases h1:-(n:Int)<=i
  ·rw [if_pos h1] at h;have e:(i+n).toNat=j:=Option.some.inj h;exact ⟨by rw [seqIndex_neg (by omega) h1,e],by omega,h1,by omega⟩
  ·rw [if_neg h1] at h;cases h
theorem JX {xs:List α}{i:Int}{v:α}(h:atI xs i=some v):∃ j,seqIndex? i xs.length=some j/\xs[j]?=some v/\j<xs.length/\-(xs.length:Int)<=i/\i<xs.length:=by
 unfold atI at h;cases e:ixN xs.length i with
 |none=>rw [e] at h;cases h
 |some j=>rw [e] at h;obtain ⟨h1,h2,h3,h4⟩:=Bn e;exact ⟨j,h1,h,h2,h3,h4⟩
theorem zg {xs:List α}{v:α}(h:xs[j]?=some v):atI xs (j:Int)=some v:=by
 have hj:j<xs.length:=(yC.mp h).1;have e:ixN xs.length (j:Int)=some j:=by unfold ixN;rw [if_pos (by omega),if_pos (by omega)];simp
 unfold atI;rw [e];exact h
def Ux (b:Expr):Prop:=∀ o i,subscripted b false o i=operate [o,i] (getItem o i)
def IxR (X:Cx)(r:R2):Prop :=
 ∀(value slice:Expr)(pins:List (Addr×Obj))(s:Shared)(σ:St)(H:Hp)(x y:V)(v u:Value)(Q:VK),Inv X pins σ H s->RelV x v->RelV y u->r x y H Q ->
  subscripted slice false v u=operate [v,u] (getItem v u)->wpAny (model X.prog X.w) X.A (subscriptTail value slice v u) (EP X pins σ Q) X.xe s
def MtR (X:Cx)(id:String)(r:V->List V->Hp->VK->Prop):Prop :=
 ∀(pins:List (Addr×Obj))(s:Shared)(σ:St)(H:Hp)(x:V)(xs:List V)(v:Value)(us:List Value)(Q:VK),Inv X pins σ H s->RelV x v->Vals xs us->r x xs H Q ->
  wpAny (model X.prog X.w) X.A (call (.builtin id) (v::us)) (EP X pins σ Q) X.xe s
section
variable {X:Cx}{a b:Expr}{ta tb:TE}{pos:Pos}
theorem IxR.or {r':R2}(h:IxR X r)(h':IxR X r'):IxR X (λx y H Q=>r x y H Q∨r' x y H Q):=by
 intro value slice pins s σ H x y v u Q I rx ry q hs;rcases q with q|q
 ·exact h value slice pins s σ H x y v u Q I rx ry q hs
 ·exact h' value slice pins s σ H x y v u Q I rx ry q hs
theorem Jy (hr:IxR X r)(ha:PE X a ta)(hb:PE X b tb)(hs:Ux b):PE X (.Subscript a b pos) (tOp r ta tb):=by intro pins s σ H Q I h;exact Subscript_ (binT ha hb I h λv u s2 x y H2 I2 rx ry q=>hr a b pins s2 σ H2 x y v u Q I2 rx ry q (hs _ _))
def rIxL (K:Fg):R2:=λx y H Q=>∃ p xs i v,x = .ref p/\y = .int i/\SqL K H p xs/\atI xs i=some v/\Q v H
def rIxT (K:Fg):R2:=λx y H Q=>∃ p xs i v,x = .ref p/\y = .int i/\SqT K H p xs/\atI xs i=some v/\Q v H
def rIxS:R2:=λx y H Q=>∃ z i c,x = .str z/\y = .int i/\z.length<=sizeLine/\atI z.cps.toList i=some c/\Q (.str ⟨#[c]⟩) H
theorem ix_list:IxR X (rIxL X.K):=by
 intro value slice pins s σ H x y v u Q I rx ry h hs;obtain ⟨p,xs,i,z,rfl,rfl,hq,he,q⟩:=h;cases rx;obtain ⟨t,rfl⟩:=ry;obtain ⟨its,r,pl,hz⟩:=I.list hq;obtain ⟨j,h1,h2,h3,h4,h5⟩:=JX he;obtain ⟨w,ew,rw'⟩:=r.get h2;have hl:=r.length;have hn:=wm;have fin:EP X pins σ Q w s:=⟨z,H,I,rw',q⟩;by_cases h0:0<=i
 ·have hj:i.toNat=j:=by rw [seqIndex_of h0 h5] at h1;exact Option.some.inj h1
  exact item_listR pl.isList h0 (by omega) (by rw [hj];simpa using ew) fin hs
 ·have hj:(i+(its.toArray.size:Int)).toNat=j:=by rw [seqIndex_neg (by omega) h4] at h1;rw [yX,<- hl];exact Option.some.inj h1
  exact subscriptTail_builtinR (x:=w) pl.isList.typeIs slot_list_getitem.lookup
   (wpAny_getItem_list_neg (Q:=λr s'=>r=w/\EP X pins σ Q r s') pl.isList (by omega) (by rw [yX]<;>omega) (by omega) (by rw [hj];simpa using ew) ⟨rfl,fin⟩) hs
theorem ix_tup:IxR X (rIxT X.K):=by
 intro value slice pins s σ H x y v u Q I rx ry h hs;obtain ⟨p,xs,i,z,rfl,rfl,hq,he,q⟩:=h;cases rx;obtain ⟨t,rfl⟩:=ry;obtain ⟨its,r,pl,hz⟩:=I.tuple hq;obtain ⟨j,h1,h2,h3,h4,h5⟩:=JX he;obtain ⟨w,ew,rw'⟩:=r.get h2;have hl:=r.length;have hn:=wm;have fin:EP X pins σ Q w s:=⟨z,H,I,rw',q⟩;exact subscriptTail_builtinR (x:=w) pl.typeIs slot_tuple_getitem.lookup
  (getItem_tuple (j:=j) (Q:=λr s'=>r=w/\EP X pins σ Q r s') pl (by omega) (by omega) (by rw [yX,<- hl];exact h1) (by simpa using ew) ⟨rfl,fin⟩) hs
theorem Na:IxR X rIxS:=by
 intro value slice pins s σ H x y v u Q I rx ry h hs;obtain ⟨z,i,c,rfl,rfl,hz,he,q⟩:=h;obtain ⟨t,rfl⟩:=rx;obtain ⟨t',rfl⟩:=ry;obtain ⟨j,h1,h2,h3,h4,h5⟩:=JX he;have hl:z.cps.toList.length=z.length:=by simp [Str.length]
 rw [hl] at h1 h4 h5;have hn:=wm;exact tail_any (typeIs_str s z t) slot_str_getitem.lookup (getItem_str (c:=c) (by
  have e1:decide (i < -(2 ^ 63:Int))=false:=yK (by omega);have e2:decide (i >= 2 ^ 63)=false:=yK (by omega);rw [e1,e2,Bool.or_false]) (by rw [h1];simpa using h2) ⟨.str ⟨#[c]⟩,H,I.tok _,⟨_,rfl⟩,q⟩) hs
def rIx (K:Fg):R2:=λx y H Q=>rIxL K x y H Q∨rIxT K x y H Q∨rIxS x y H Q
theorem LY:IxR X (rIx X.K):=ix_list.or (ix_tup.or Na)
theorem NG (its:List Value)(n j:Nat)(u:Value):Obj.mapSeq (·.setIfInBounds j u) { cls:= .type "list",data:= .seq its.toArray n }={ cls:= .type "list",data:= .seq (its.set j u).toArray n }:=by simp [Obj.mapSeq]
theorem Inv.lst {pins:List (Addr×Obj)}{σ:St}{H:Hp}{s:Shared}{p:Addr}{xs:List V}(I:Inv X pins σ H s)(h:H p=some (.lst xs)):∃ (its:List Value) (n:Nat),Vals xs its/\s.heap.get? p=some { cls:= .type "list",data:= .seq its.toArray n }/\xs.length<=sizeLine:=by obtain ⟨z,its,n,r,e⟩:=I.hok p _ h;exact ⟨its,n,r,e,z⟩
theorem Inv.lstUpd {p:Addr}{xs ys:List V}{n':Nat}{f:Obj->Obj}(I:Inv X pins σ H s)(h:H p=some (.lst xs))(ho:s.heap.get? p=some { cls:= .type "list",data:= .seq its.toArray n })(hf:f { cls:= .type "list",data:= .seq its.toArray n }={ cls:= .type "list",data:= .seq its'.toArray n' })(r:Vals ys its')(hz:ys.length<=sizeLine)(t:Nat):Inv X pins σ (w6 H p (.lst ys)) { s with heap:=s.heap.update p f,toks:=t }:=by
 have e:(s.heap.update p f).get? p=some { cls:= .type "list",data:= .seq its'.toArray n' }:=by rw [Heap.get?_update_self f ho (by rw [hf]<;>rfl),hf]
 refine I.write (x:=p) (e:=p) (by rw [h];trivial) (.inl rfl) (λb u hb q=>(Heap.get?_update_other _ _ (Ne.symm hb)).trans q) ⟨_,e⟩ ?_;exact ⟨hz,its',n',r,e⟩
def rSetL:V->V->V->Hp->(Hp->Prop)->Prop:=λo i v H Q=>∃ p xs k j,o = .ref p/\i = .int k/\H p=some (.lst xs)/\ixN xs.length k=some j/\Q (w6 H p (.lst (xs.set j v)))
theorem Ci:PSet X rSetL:=by
 intro pins s σ H o i v ov iv u Q I ro ri rv h;obtain ⟨p,xs,k,j,rfl,rfl,hp,hj,q⟩:=h;cases ro;obtain ⟨t,rfl⟩:=ri;obtain ⟨its,n,r,ho,hz⟩:=I.lst hp;obtain ⟨h1,h2,h3,h4⟩:=Bn hj;have hl:=r.length;have hn:=wm;have I':Inv X pins σ (w6 H p (.lst (xs.set j v))) { s with heap:=s.heap.update p (Obj.mapSeq (·.setIfInBounds j u)) } :=
  I.lstUpd hp ho (NG its n j u) (r.set rv j) (by rw [yg];exact hz) s.toks
 by_cases h0:0<=k
 ·have hk:k.toNat=j:=by rw [seqIndex_of h0 h4] at h1;exact Option.some.inj h1
  exact PySem.W.ki_setAt ho h0 (by omega) (by rw [yX,<- hl];exact h4) (by rw [hk];exact ⟨_,I',q⟩)
 ·have hk:(k+(its.toArray.size:Int)).toNat=j:=by rw [seqIndex_neg (by omega) h3] at h1;rw [yX,<- hl];exact Option.some.inj h1
  exact PySem.W.ki_setBack ho (by omega) (by rw [yX,<- hl];exact h3) (by omega) (by rw [hk];exact ⟨_,I',q⟩)
theorem SQ (lo hi:Option Int)(n:Nat):(sliceBounds lo hi none n).1=((HT.sIx n 0 lo:Nat):Int)/\(sliceBounds lo hi none n).2.1=((HT.sIx n n hi:Nat):Int)/\(sliceBounds lo hi none n).2.2=1:=by
 refine ⟨?_,?_,rfl⟩
 ·cases lo with
  |none=>simp [sliceBounds,HT.sIx]
  |some i =>
   simp only [sliceBounds,HT.sIx,tV,show (1:Int) > 0 by decide,if_true];by_cases h:i<0
   ·simp only [h,if_true]<;>omega
   ·simp only [h,if_false]<;>omega
 ·cases hi with
  |none=>simp [sliceBounds,HT.sIx]
  |some i =>
   simp only [sliceBounds,HT.sIx,tV,show (1:Int) > 0 by decide,if_true];by_cases h:i<0
   ·simp only [h,if_true]<;>omega
   ·simp only [h,if_false]<;>omega
theorem SO (its:List Value)(lo hi:Option Int):slicePick its.toArray lo hi none=((its.drop (HT.sIx its.length 0 lo)).take (HT.sIx its.length its.length hi-HT.sIx its.length 0 lo)).toArray:=by obtain ⟨h1,h2,h3⟩:=SQ lo hi its.toArray.size;unfold slicePick;rw [h1,h2,h3];simp only [sliceRange_one,pick_run,yX]<;>rfl
def rSlL (K:Fg):V->Option Int->Option Int->Hp->VK->Prop:=λx lo hi H Q=>∃ a xs,x = .ref a/\SqL K H a xs/\∀ p,H p=none->Q (.ref p) (w6 H p (.lst (Qi xs lo hi)))
theorem SM:SlR X (rSlL X.K):=by intro pins s σ H x v vl vu lo hi sl Q I rx hs pl pu h;obtain ⟨a,xs,rfl,hx,q⟩:=h;cases rx;obtain ⟨its,r,ht,hz⟩:=I.list hx;have hlen:=r.length;refine ⟨"list",_,slot_list_getitem.lookup,ht.isList.typeIs,?_⟩;refine wpAny_getItem_list_slice ht.isList hs pl pu .none (by simp) ?_ (by rw [yX]<;>omega);rw [SO,<- hlen];refine ⟨.ref s.heap.objs.size,_,I.laid (t':=s.toks) (o:= .lst (Qi xs lo hi)) (λb ob q=>yU _ q) (yW _) ?_,rfl,q _ (I.hok.fresh (yW _))⟩;exact ⟨yj (Mp xs lo hi) hz,_,0,(r.drop (HT.sIx xs.length 0 lo)).take (HT.sIx xs.length xs.length hi-HT.sIx xs.length 0 lo),yD _ rfl⟩
def k6:V->Bool
 | .non=>true
 | .bl _=>true
 | .int _=>true
 | .str _=>true
 |_=>false
def qo:V->V->Bool
 | .non,.non=>true
 | .bl a,.bl b=>a==b
 | .bl a,.int b=>(if a then 1 else 0)==b
 | .int a,.bl b=>a==(if b then 1 else 0)
 | .int a,.int b=>a==b
 | .str a,.str b=>a==b
 |_,_=>false
theorem Vs (ry:RelV y u)(rx:RelV x v)(fy:k6 y=true)(fx:k6 x=true):SeqAt.EqAt A s u v (qo y x):=by
 cases y with
 |non =>
  cases ry;cases x with
  |non=>cases rx;exact SeqAt.EqAt.same _
  |bl b=>cases rx;exact SeqAt.EqAt.none_bool b
  |int b=>obtain ⟨t,rfl⟩:=rx;exact SeqAt.EqAt.none_int b t
  |str b=>obtain ⟨t,rfl⟩:=rx;exact SeqAt.EqAt.none_str b t
  |_=>exact absurd (show false=true from fx) yS
 |bl a =>
  cases ry;cases x with
  |non=>cases rx;exact SeqAt.EqAt.bool_none a
  |bl b=>cases rx;exact SeqAt.EqAt.bool_bool a b
  |int b=>obtain ⟨t,rfl⟩:=rx;exact SeqAt.EqAt.bool_int a b t
  |str b=>obtain ⟨t,rfl⟩:=rx;exact SeqAt.EqAt.bool_str a b t
  |_=>exact absurd (show false=true from fx) yS
 |int a =>
  obtain ⟨t',rfl⟩:=ry;cases x with
  |non=>cases rx;exact SeqAt.EqAt.int_none a t'
  |bl b=>cases rx;exact SeqAt.EqAt.int_bool a t' b
  |int b=>obtain ⟨t,rfl⟩:=rx;exact SeqAt.EqAt.int_int a t' b t
  |str b=>obtain ⟨t,rfl⟩:=rx;exact SeqAt.EqAt.int_str a t' b t
  |_=>exact absurd (show false=true from fx) yS
 |str a =>
  obtain ⟨t',rfl⟩:=ry;cases x with
  |non=>cases rx;exact SeqAt.EqAt.str_none a t'
  |bl b=>cases rx;exact SeqAt.EqAt.str_bool a t' b
  |int b=>obtain ⟨t,rfl⟩:=rx;exact SeqAt.EqAt.str_int a t' b t
  |str b=>obtain ⟨t,rfl⟩:=rx;exact SeqAt.EqAt.str_str a t' b t
  |_=>exact absurd (show false=true from fx) yS
 |_=>exact absurd (show false=true from fy) yS
def eqU (x:V)(u:Value):Bool:=match u with
 | .none=>qo .non x
 | .bool b=>qo (.bl b) x
 | .int i _=>qo (.int i) x
 | .str z _=>qo (.str z) x
 |_=>false
theorem Vt (r:RelV y u)(f:k6 y=true):eqU x u=qo y x:=by
 cases y with
 |non=>cases r;rfl
 |bl b=>cases r;rfl
 |int i=>obtain ⟨t,rfl⟩:=r;rfl
 |str z=>obtain ⟨t,rfl⟩:=r;rfl
 |_=>exact absurd (show false=true from f) yS
theorem JV {x:V}:∀{xs:List V}{us:List Value},Vals xs us->xs.all k6=true->us.any (eqU x)=xs.any λy=>qo y x
 |_,_,.nil,_=>rfl
 |y::xs,u::us,.cons r t,f=>by
  rw [List.all_cons,yi] at f;rw [List.any_cons,List.any_cons,Vt r f.1,JV t f.2]
theorem Jp {A:Around}{s:Shared}{x:V}{v:Value}(rx:RelV x v)(fx:k6 x=true):∀{xs:List V}{us:List Value},Vals xs us->xs.all k6=true->∀ u∈us,SeqAt.EqAt A s u v (eqU x u)
 |_,_,.nil,_=>λu hu=>by cases hu
 |y::xs,u::us,.cons r t,f=>λu' hu=>by
  rw [List.all_cons,yi] at f;rcases yJ.mp hu with rfl|hu
  ·rw [Vt r f.1];exact Vs r rx f.1 fx
  ·exact Jp rx fx t f.2 u' hu
def inV (x:V)(xs:List V):Bool:=xs.any λy=>qo y x
def rIn (K:Fg)(neg:Bool):R2:=λx y H Q=>∃ p xs,y = .ref p/\(SqL K H p xs∨SqT K H p xs)/\k6 x=true/\xs.all k6=true/\Q (.bl (if neg then !inV x xs else inV x xs)) H
theorem Rp:OpR X (compareOp .In) (rIn X.K false):=by
 intro pins s σ H x y v u Q I rx ry h;obtain ⟨p,xs,rfl,hq,fx,fs,q⟩:=h;cases ry;rcases hq with hq|hq
 ·obtain ⟨its,r,pl,hz⟩:=I.list hq;refine SeqAt.in_listAt (eqU x) pl.isList (λw hw=>Jp rx fx r fs w (by simpa using hw)) ⟨.bl _,H,I,rfl,?_⟩;rw [show its.toArray.any (eqU x)=its.any (eqU x) by simp,JV r fs];exact q
 ·obtain ⟨its,r,pl,hz⟩:=I.tuple hq;refine SeqAt.in_tupleAt (eqU x) pl (λw hw=>Jp rx fx r fs w (by simpa using hw)) ⟨.bl _,H,I,rfl,?_⟩;rw [show its.toArray.any (eqU x)=its.any (eqU x) by simp,JV r fs];exact q
theorem DZ:CallR X (.builtin "len") (λxs H Q=>∃ p ys,xs=[.ref p]/\(SqL X.K H p ys∨SqT X.K H p ys)/\Q (.int ys.length) H):=by
 intro pins s σ H xs us Q I r h;obtain ⟨p,ys,rfl,hq,q⟩:=h;obtain ⟨u,rfl,rx⟩:=ji r;cases rx;have hn:=wm;rcases hq with hq|hq
 ·obtain ⟨its,r',pl,hz⟩:=I.list hq;have hlen:=r'.length;exact Calls.call_len_list pl.isList (by simp only [yX]<;>omega) ⟨.int ys.length,H,I.tok _,⟨s.toks+1,by rw [yX,hlen]⟩,q⟩
 ·obtain ⟨its,r',pl,hz⟩:=I.tuple hq;have hlen:=r'.length;exact len_tuple pl (by simp only [yX]<;>omega) ⟨.int ys.length,H,I.tok _,⟨s.toks+1,by rw [yX,hlen]⟩,q⟩
theorem CallR.or {f:Value}{r r':List V->Hp->VK->Prop}(h:CallR X f r)(h':CallR X f r'):CallR X f (λxs H Q=>r xs H Q∨r' xs H Q):=by
 intro pins s σ H xs us Q I rs q;rcases q with q|q
 ·exact h pins s σ H xs us Q I rs q
 ·exact h' pins s σ H xs us Q I rs q
theorem Ma:CallR X (.type "list") (λxs H Q=>∃ p ys,xs=[.ref p]/\(SqL X.K H p ys∨SqT X.K H p ys)/\∀ l,H l=none->Q (.ref l) (w6 H l (.lst ys))):=by
 intro pins s σ H xs us Q I r h;obtain ⟨p,ys,rfl,hq,q⟩:=h;obtain ⟨u,rfl,rx⟩:=ji r;cases rx;have fin:∀(its:List Value),Vals ys its->ys.length<=sizeLine->∀(h':Heap)(c':Nat),(∀ b o',s.heap.get? b=some o'->h'.get? b=some o') ->
   h'.get? s.heap.objs.size=some { cls:= .type "list",dict:=none,data:= .seq its.toArray c',slots:=#[] }->EP X pins σ Q (.ref s.heap.objs.size) { s with heap:=h' }:=λits r' hz h' c' kp e =>
  ⟨.ref s.heap.objs.size,_,I.laid (t':=s.toks) kp (yW _) (show ObjOk X.prog X.w _ h' _ (.lst ys) from ⟨hz,its,c',r',e⟩),rfl,q _ (I.hok.fresh (yW _))⟩
 rcases hq with hq|hq
 ·obtain ⟨its,r',pl,hz⟩:=I.list hq;have hlen:=r'.length;obtain ⟨o,ho,hc,n,hd⟩:=pl.isList;exact call_list_seq p (.inl rfl) ho hc hd (λh' c' kp e=>fin its r' hz h' c' kp e) (by simp only [yX]<;>omega)
 ·obtain ⟨its,r',pl,hz⟩:=I.tuple hq;have hlen:=r'.length;obtain ⟨o,ho,hc,n,hd⟩:=pl;exact call_list_seq p (.inr rfl) ho hc hd (λh' c' kp e=>fin its r' hz h' c' kp e) (by simp only [yX]<;>omega)
def tyV (K:Fg)(T:String)(x:V)(H:Hp):Prop:=match x with
 | .str _=>T = "str"
 | .int _=>T = "int"
 | .ref p=>(T = "list"/\∃ xs,SqL K H p xs)∨(T = "tuple"/\∃ o,K.lookup p=some o/\o.cls = .type "tuple"/\o.dict=none) ∨
   (T = "dict"/\((∃ kvs,H p=some (.dK kvs))∨∃ kvs,H p=some (.dT kvs)))∨(T = "set"/\∃ S n,H p=some (.set S n))
 |_=>False
theorem Iw (I:Inv X pins σ H s)(r:RelV x v)(ty:tyV X.K T x H):s.TypeIs v T/\∀ a,v = .ref a->∃ ob,s.heap.get? a=some ob/\ob.dict=none:=by
 cases x with
 |str z=>obtain ⟨t,rfl⟩:=r;cases (show T = "str" from ty);exact ⟨typeIs_str s z t,λ_ e=>nomatch e⟩
 |int i=>obtain ⟨t,rfl⟩:=r;cases (show T = "int" from ty);exact ⟨typeIs_int s i t,λ_ e=>nomatch e⟩
 |ref p =>
  cases r;rcases ty with ⟨rfl,xs,hq⟩|⟨rfl,o,hk,hc,hd⟩|⟨rfl,hk⟩|⟨rfl,S,n,hk⟩
  ·obtain ⟨its,_,pl,_⟩:=I.list hq;refine ⟨pl.isList.typeIs,λa e=>?_⟩;cases e;obtain ⟨o,n,e,c,hd,_⟩:=pl;exact ⟨o,e,hd⟩
  ·refine ⟨⟨o,I.kIn p o hk,hc⟩,λa e=>?_⟩;cases e;exact ⟨o,I.kIn _ o hk,hd⟩
  ·have z:∃ o,s.heap.get? p=some o/\o.ExactDict:=by
    rcases hk with ⟨kvs,hk⟩|⟨kvs,hk⟩
    ·obtain ⟨_,_,_,_,o,_,_,e,ex,_⟩:=I.hok p _ hk;exact ⟨o,e,ex⟩
    ·obtain ⟨_,_,_,_,o,_,_,e,ex,_⟩:=I.hok p _ hk;exact ⟨o,e,ex⟩
   obtain ⟨o,e,ex⟩:=z;refine ⟨⟨o,e,ex.1⟩,λa e2=>?_⟩;cases e2;exact ⟨o,e,ex.2.1⟩
  ·obtain ⟨o,_,_,_,e,ex,_⟩:=I.hok p _ hk;refine ⟨⟨o,e,ex.1⟩,λa e2=>?_⟩;cases e2;exact ⟨o,e,ex.2.1⟩
 |_=>exact False.elim ty
def tBM (K:Fg)(T:String)(r:V->List V->Hp->VK->Prop)(to:TE)(t:TA):TE:=λσ H Q=>to σ H λx H1=>tyV K T x H1/\t σ H1 λxs H2=>r x xs H2 Q
variable {o e:Expr}{es:List Expr}{to:TE}{t:TA}{name:Str}{apos cpos:Pos}{T id:String}{r:V->List V->Hp->VK->Prop}
theorem pe_bm (pa:PlainAttrs T)(slot:Slot T name id)(hty:typeOf (.builtin id)=pure (.type "method_descriptor"))(hm:MtR X id r)(ho:PE X o to)(ha:PA X (e::es) t)(hbase:attributeBase o name X.env (eval o X.env)=eval o X.env:=by rfl)(hfew:((backTo cpos (starEach (e::es) X.env)).all (λx=>!x.1)&&(backToKw cpos (keywordEach [] X.env)).all (λx=>x.1.isSome)&&decide ((e::es).length+([]:List Keyword).length+(if ([]:List Keyword).isEmpty then 0 else 1)<30))=true:=by rfl)(hline:(apos.endLine==cpos.line)=true:=by rfl)(hs:starEach (e::es) X.env=(false,eval e X.env)::starEach es X.env:=by rfl)(hplain:(backTo cpos (starEach es X.env)).any (·.1)=false:=by rfl):PE X (.Call (.Attribute o name apos) (e::es) [] cpos) (tBM X.K T r to t):=by intro pins s σ H Q I h;refine wpAny_Call_method_late hbase hfew hline rfl (v6 (ho pins s σ H _ I h) λv s1 ⟨x,H1,I1,r1,ty,q1⟩=>?_);obtain ⟨h1,h2⟩:=Iw I1 r1 ty;refine ⟨T,id,pa,slot,hty,h1,h2,?_⟩;have hA:=ha cpos pins s1 σ H1 _ I1 q1;rw [hs] at hA ⊢;refine Calls.callWith_builtin (by show (false || (backTo cpos (starEach es X.env)).any (·.1))=false;rw [hplain]<;>rfl) (Calls.evalArgs_plain ?_);exact v6 hA λus s2 ⟨vs,H2,I2,r2,q2⟩=>hm pins s2 σ H2 x vs v us Q I2 r1 r2 q2
end
def MtM (X:Cx)(id:String)(r:V->List V->Hp->VK->Prop):Prop :=
 ∀(pins:List (Addr×Obj))(s:Shared)(σ:St)(H:Hp)(x:V)(xs:List V)(v:Value)(us:List Value)(Q:VK),Inv X pins σ H s->RelV x v->Vals xs us->r x xs H Q ->
  wpAny (model X.prog X.w) X.A (call (.builtin id) (v::us)) (EP X pins σ Q) X.xe s
theorem Vals.one:∀{x:V}{us:List Value},Vals [x] us->∃ u,us=[u]/\RelV x u
 |_,_,.cons r .nil=>⟨_,rfl,r⟩
theorem Vals.two:∀{x y:V}{us:List Value},Vals [x,y] us->∃ u v,us=[u,v]/\RelV x u/\RelV y v
 |_,_,_,.cons r (.cons q .nil)=>⟨_,_,rfl,r,q⟩
theorem Vals.eraseIdx:∀{xs:List V}{us:List Value}(i:Nat),Vals xs us->Vals (xs.eraseIdx i) (us.eraseIdx i)
 |_,_,_,.nil=> .nil
 |_,_,0,.cons _ t=>t
 |_,_,i+1,.cons r t=> .cons r (Vals.eraseIdx i t)
theorem Vals.rep {xs:List V}{us:List Value}(h:Vals xs us):∀ k:Nat,Vals (List.replicate k xs).flatten (List.replicate k us).flatten
 |0=> .nil
 |k+1=>by
  rw [uI,uI,ur,ur];exact Vals.append h (Vals.rep h k)
theorem Bz {α:Type}:∀(l:List α)(i:Nat),(l.eraseIdx i).length<=l.length
 |[],_=>yW _
 |_::_,0=>ul _
 |_::r,i+1=>Nat.succ_le_succ (Bz r i)
theorem KU (its:List Value):∀(k:Nat)(acc:List Value), List.foldl (λx1 x2=>x1++x2) acc.toArray (List.replicate k its.toArray)=(acc++(List.replicate k its).flatten).toArray
 |0,acc=>by simp
 |k+1,acc=>by
  have e:acc.toArray++its.toArray=(acc++its).toArray:=by simp
  have e2:(acc++its)++(List.replicate k its).flatten=acc++(List.replicate (k+1) its).flatten:=by rw [uI,ur,uS]
  rw [<- e2,<- KU its k (acc++its),<- e,uI,List.foldl_cons]
section
variable {X:Cx}{pins:List (Addr×Obj)}{σ:St}{H:Hp}{s:Shared}{l b:Addr}{xs ys zs:List V}
theorem Inv.lset {f:Array Value->Array Value}(I:Inv X pins σ H s)(hH:H l=some (.lst xs))(e:s.heap.get? l=some { cls:= .type "list",data:= .seq its.toArray n })(hf:f its.toArray=its'.toArray)(hv:Vals ys its')(hz:ys.length<=sizeLine):Inv X pins σ (w6 H l (.lst ys)) { s with heap:=s.heap.update l (Obj.mapSeq f),toks:=t' }:=by have q:=PySem.IsL.update e f;rw [hf] at q;refine I.write (x:=l) (e:=l) (by rw [hH];exact trivial) (.inl rfl) (λb' u hb hu=>(Heap.get?_update_other s.heap (Obj.mapSeq f) (Ne.symm hb)).trans hu) ⟨_,q⟩ ?_;exact ⟨hz,its',_,hv,q⟩
theorem Inv.lnew (I:Inv X pins σ H s)(hv:Vals ys its)(hz:ys.length<=sizeLine):Inv X pins σ (w6 H s.heap.objs.size (.lst ys)) { s with heap:=s.heap.push { cls:= .type "list",data:= .seq its.toArray },toks:=t' } :=
 I.laid (λ_ _ q=>yU _ q) (yW _) ⟨hz,its,0,hv,yD _ rfl⟩
theorem Inv.fresh (I:Inv X pins σ H s):H s.heap.objs.size=none:=I.hok.fresh (yW _)
theorem Inv.lstM (I:Inv X pins σ H s)(hH:H l=some (.lst xs)):xs.length<=sizeLine/\∃ (its:List Value) (n:Nat),Vals xs its/\xs.length=its.length/\s.heap.get? l=some { cls:= .type "list",data:= .seq its.toArray n }:=by obtain ⟨z,its,n,r,e⟩:=I.hok l _ hH;exact ⟨z,its,n,r,r.length,e⟩
theorem NQ (h:n<=sizeLine):Builtin.List.listTooLong n=false:=by unfold Builtin.List.listTooLong;exact yK (by omega)
end
section
variable {X:Cx}
def WF:V->List V->Hp->VK->Prop:=λx vs H Q=>∃ l xs y,x = .ref l/\vs=[y]/\H l=some (.lst xs)/\xs.length<sizeLine/\Q .non (w6 H l (.lst (xs++[y])))
theorem XN:MtM X "list.append" WF:=by intro pins s σ H x vs v us Q I rx rv h;obtain ⟨l,xs,y,rfl,rfl,hH,hz,q⟩:=h;cases rx;obtain ⟨u,rfl,ru⟩:=rv.one;obtain ⟨z,its,n,r,hl,e⟩:=I.lstM hH;refine call_meets F.slot_list_append ⟨_,e,rfl⟩ F.entry_list_append (F.args_list_append_2 _ _) (PySem.list_append l its.toArray n u (by rw [yX];omega)) ⟨e,?_⟩;refine ⟨.non,_,I.lset (its':=its++[u]) hH e (by simp) (r.append (.cons ru .nil)) ?_,rfl,q⟩;rw [yM,List.length_singleton];omega
def WG:V->List V->Hp->VK->Prop:=λx vs H Q=>∃ l xs i k y,x = .ref l/\vs=[.int i]/\H l=some (.lst xs)/\-(2 ^ 63)<=i/\i<2 ^ 63/\seqIndex? i xs.length=some k/\xs[k]?=some y/\Q y (w6 H l (.lst (xs.eraseIdx k)))
theorem Wi:MtM X "list.pop" WG:=by
 intro pins s σ H x vs v us Q I rx rv h;obtain ⟨l,xs,i,k,y,rfl,rfl,hH,h1,h2,hk,hy,q⟩:=h;cases rx;obtain ⟨u,rfl,ru⟩:=rv.one;obtain ⟨t,rfl⟩:=ru;obtain ⟨z,its,n,r,hl,e⟩:=I.lstM hH;obtain ⟨w,hw,rw'⟩:=r.get hy;refine call_meets F.slot_list_pop ⟨_,e,rfl⟩ F.entry_list_pop (F.args_list_pop_2 _ _)
  (MeetsSeq.list_pop_at l its.toArray n i t k w (fitsIndex_both h1 h2) (by rw [yX,<- hl];exact hk) (by rw [<- tY];exact hw) (by rw [yX];omega)) ⟨e,?_⟩
 refine ⟨y,_,I.lset (its':=its.eraseIdx k) hH e ?_ (r.eraseIdx k) ?_,rw',q⟩
 ·show its.toArray.eraseIdxIfInBounds k=(its.eraseIdx k).toArray;rw [List.eraseIdxIfInBounds_toArray]
 ·have:=Bz xs k;omega
def rRep:R2:=λx y H Q=>∃ l k xs,x = .ref l/\y = .int k/\H l=some (.lst xs)/\-(2 ^ 63)<=k/\k<2 ^ 63/\xs.length*k.toNat<=sizeLine /\
 ∀ p,H p=none->Q (.ref p) (w6 H p (.lst (List.replicate k.toNat xs).flatten))
theorem Nt (xs:List α)(k:Nat):(List.replicate k xs).flatten.length=k*xs.length:=by
 induction k with
 |zero=>simp
 |succ k ih=>rw [uI,ur,yM,ih,Nat.succ_mul,Nat.add_comm]
theorem Rt:OpR X (binaryOp .Mult) rRep:=by
 intro pins s σ H x y v u Q I rx ry h;obtain ⟨l,k,xs,rfl,rfl,hH,h1,h2,hz,q⟩:=h;cases rx;obtain ⟨t,rfl⟩:=ry;obtain ⟨z,its,n,r,hl,e⟩:=I.lstM hH;have hlen:its.toArray.size*k.toNat<=sizeLine:=by rw [yX,<- hl];exact hz
 have hcap:¬ its.toArray.size*k.toNat > (2 ^ 63-1) / 8:=by
  have:(sizeLine:Nat)<=(2 ^ 63-1) / 8:=by decide
  omega
 have hfit:¬ (!Builtin.List.listFitsIndex k)=true:=by rw [fitsIndex_both h1 h2];exact yS
 have hlong:¬ Builtin.List.listTooLong (its.toArray.size*k.toNat)=true:=by rw [NQ hlen];exact yS
 have hnew:List.foldl (λx1 x2=>x1++x2) #[] (List.replicate (if its.toArray.isEmpty=true then 0 else k.toNat) its.toArray)=(List.replicate k.toNat its).flatten.toArray:=by
  have f0:∀ m:Nat,List.foldl (λx1 x2=>x1++x2) #[] (List.replicate m its.toArray)=(List.replicate m its).flatten.toArray:=λm=>by
   have:=KU its m [];rw [List.nil_append] at this;exact this
  rw [f0];cases its with
  |nil=>simp
  |cons a r'=>rw [if_neg (by simp)]
 refine wpAny_binaryOp_repeat_ref (T:="list") (U:="int") (by decide) ⟨_,e,rfl⟩ (λs'=>typeIs_int s' k t) noFill_list_mul F.fills_int_mul F.slot_int_rmul repeat_list F.slot_int_index.lookup
  (call_meets F.slot_int_rmul (typeIs_int s k t) F.entry_int_rmul (F.args_int_rmul_2 _ _) (int___rmul___int_list k t l its.toArray n)
   ⟨e,rfl,⟨_,e,rfl⟩,call_meets F.slot_list_mul ⟨_,e,rfl⟩ F.entry_list_mul (F.args_list_mul_2 _ _) (AutoListH.list___mul___list_int_3 l its.toArray n k t hfit hcap hlong) ⟨e,?_⟩⟩)
 rw [hnew];exact ⟨.ref _,_,I.lnew (t':=s.toks) (r.rep k.toNat) (by rw [Nt,Nat.mul_comm];exact hz),rfl,q _ I.fresh⟩
end
section
variable {κ:Type}[DecidableEq κ]
def xr (kvs:List (κ×V))(k:κ):Option V:=(kvs.find? λkv=>decide (kv.1=k)).map (·.2)
def zK (kvs:List (κ×V))(k:κ)(v:V):List (κ×V) :=
 if (kvs.any λkv=>decide (kv.1=k))=true then kvs.map (λkv=>if kv.1=k then (kv.1,v) else kv) else kvs++[(k,v)]
theorem Um {p:κ×V}{r:List (κ×V)}{k:κ}(e:p.1=k):xr (p::r) k=some p.2:=by simp [xr,uC,e]
theorem Ul {p:κ×V}{r:List (κ×V)}{k:κ}(e:¬ p.1=k):xr (p::r) k=xr r k:=by simp [xr,uC,e]
theorem Uk (k:κ):∀ kvs:List (κ×V),(kvs.any λkv=>decide (kv.1=k))=(xr kvs k).isSome
 |[]=>rfl
 |p::r=>by
  rw [List.any_cons];by_cases e:p.1=k
  ·simp only [Um e,yH e,Bool.true_or,Option.isSome_some]
  ·rw [Ul e,yK e,Bool.false_or];exact Uk k r
theorem BB (kvs:List (κ×V))(k:κ)(v:V):(zK kvs k v).length<=kvs.length+1:=by
 unfold zK;split
 ·rw [yZ];omega
 ·rw [yM,yE,List.length_nil];omega
theorem RelO.isSome_eq {u:Option Value}(r:RelO o u):o.isSome=u.isSome:=by
 cases o with
 |none=>cases u with
  |none=>rfl
  |some _=>exact (show False from r).elim
 |some _=>cases u with
  |none=>exact (show False from r).elim
  |some _=>rfl
theorem KV.val {kvs:List (κ×V)}{vs:List (κ×Value)}(r:KV kvs vs)(k:κ):RelO (xr kvs k) (valueAt vs k):=by
 unfold KV at r
 induction r with
 |nil=>exact True.intro
 |@cons p q ps qs h t ih =>
  obtain ⟨h1,h2⟩:=h;by_cases e:p.1=k
  ·have e':q.1=k:=h1.symm.trans e;have b:valueAt (q::qs) k=some q.2:=by simp [valueAt,uC,e']
   rw [Um e,b];exact h2
  ·have e':¬ q.1=k:=λz=>e (h1.trans z);have b:valueAt (q::qs) k=valueAt qs k:=by simp [valueAt,uC,e']
   rw [Ul e,b];exact ih
theorem KV.any {kvs:List (κ×V)}{vs:List (κ×Value)}(r:KV kvs vs)(k:κ):(kvs.any λkv=>decide (kv.1=k))=vs.any λkv=>decide (kv.1=k):=by
 unfold KV at r
 induction r with
 |nil=>rfl
 |cons h t ih=>rw [List.any_cons,List.any_cons,ih,h.1]
theorem KV.repl {kvs:List (κ×V)}{vs:List (κ×Value)}(r:KV kvs vs)(k:κ)(ry:RelV y u):KV (kvs.map λkv=>if kv.1=k then (kv.1,y) else kv) (vs.map λkv=>if kv.1=k then (kv.1,u) else kv):=by
 unfold KV at r ⊢
 induction r with
 |nil=>exact .nil
 |@cons p q ps qs h t ih =>
  rw [yO,yO];refine .cons ?_ ih;obtain ⟨h1,h2⟩:=h;by_cases e:p.1=k
  ·rw [if_pos e,if_pos (h1.symm.trans e)];exact ⟨h1,ry⟩
  ·rw [if_neg e,if_neg (λz=>e (h1.trans z))];exact ⟨h1,h2⟩
theorem KV.put {kvs:List (κ×V)}{vs:List (κ×Value)}(r:KV kvs vs)(k:κ)(ry:RelV y u):KV (zK kvs k y) (stored vs k u):=by
 unfold zK stored;rw [r.any k];by_cases e:(vs.any λkv=>decide (kv.1=k))=true
 ·rw [if_pos e,if_pos e];exact r.repl k ry
 ·rw [if_neg e,if_neg e];exact Paired.snoc r ⟨rfl,ry⟩
theorem KV.length {kvs:List (κ×V)}{vs:List (κ×Value)}(r:KV kvs vs):kvs.length=vs.length:=Paired.length r
end
theorem Qw {k:j6}(r:RelV (kV k) u):(qA P w).is k u=true:=by
 cases k with
 |inl i=>obtain ⟨t,e⟩:=(show ∃ t,u=Value.int i t from r);subst e;exact NI P w i t
 |inr x=>obtain ⟨t,e⟩:=(show ∃ t,u=Value.str x t from r);subst e;exact Wg P w x t
theorem Bm {P:Program}{w:World}:∀{ks:List j6}{us:List Value},Vals (ks.map kV) us->ItemsAre (qA P w) ks us
 |[],_,r=>by rw [List.map_nil] at r;cases r;exact .nil
 |k::ks,_,r=>by
  rw [yO] at r;cases r with
  |cons h t=>exact .cons (Qw h) (Bm t)
abbrev KT (H:Hp):List (List j6×V)->List (List j6×Addr×Value)->Prop:=Paired λp q=>p.1=q.1/\H q.2.1=some (.tup (p.1.map kV))/\RelV p.2 q.2.2
theorem KT.val (r:KT H kvs xs)(k:List j6):RelO (xr kvs k) ((atKey xs k).map (·.2)):=by
 induction r with
 |nil=>exact True.intro
 |@cons p q ps qs h t ih =>
  obtain ⟨h1,_,h2⟩:=h;by_cases e:p.1=k
  ·have e':q.1=k:=h1.symm.trans e;have b:atKey (q::qs) k=some q.2:=by simp [atKey,uC,e']
   rw [Um e,b];exact h2
  ·have e':¬ q.1=k:=λz=>e (h1.trans z);have b:atKey (q::qs) k=atKey qs k:=by simp [atKey,uC,e']
   rw [Ul e,b];exact ih
theorem KT.repl (r:KT H kvs xs)(k:List j6)(ry:RelV y u):KT H (kvs.map λkv=>if kv.1=k then (kv.1,y) else kv) (xs.map (putAt k u)):=by
 induction r with
 |nil=>exact .nil
 |@cons p q ps qs h t ih =>
  rw [yO,yO];refine .cons ?_ ih;obtain ⟨h1,h2,h3⟩:=h;unfold putAt;by_cases e:p.1=k
  ·rw [if_pos e,if_pos (h1.symm.trans e)];exact ⟨h1,h2,ry⟩
  ·rw [if_neg e,if_neg (λz=>e (h1.trans z))];exact ⟨h1,h2,h3⟩
theorem KT.put (r:KT H kvs xs)(k:List j6){b:Addr}(hb:H b=some (.tup (k.map kV)))(ry:RelV y u):KT H (zK kvs k y) (storedH xs k b u):=by
 have e:(kvs.any λkv=>decide (kv.1=k))=(atKey xs k).isSome:=by rw [Uk,(r.val k).isSome_eq,Option.isSome_map]
 unfold zK storedH;rw [e];by_cases q:(atKey xs k).isSome=true
 ·rw [if_pos q,if_pos q];exact r.repl k ry
 ·rw [if_neg q,if_neg q];exact Paired.snoc r ⟨rfl,hb,ry⟩
theorem KT.keeps (r:KT H kvs xs)(ht:∀ b ys,H b=some (.tup ys)->H' b=some (.tup ys)):KT H' kvs xs :=
 Paired.mapP r λ_ _ z=>⟨z.1,ht _ _ z.2.1,z.2.2⟩
section
variable {P:Program}{w:World}{H:Hp}{h:Heap}{a:Addr}
theorem PJ {u:HO}(ok:HOk P w H h)(e:Rd H a u):ObjOk P w H h a u:=e.ok ok
theorem wc {kvs:List (j6×V)}(ok:HOk P w H h)(e:Rd H a (.dK kvs)):kvs.length<=sizeLine/\(a==sysModules)=false/\∃ vs,KV kvs vs/\h.DictOf (qA P w) a vs :=
 show ObjOk P w H h a (.dK kvs) from PJ ok e
theorem dk_of {kvs:List (j6×V)}(ok:HOk P w H h)(e:H a=some (.dK kvs)):kvs.length<=sizeLine/\(a==sysModules)=false/\∃ vs,KV kvs vs/\h.DictOf (qA P w) a vs:=wc ok (.inl e)
theorem Xv {ks:List j6}(ok:HOk P w H h)(e:H a=some (.tup (ks.map kV))):(tupleKind (qA P w)).is h ks a:=by obtain ⟨_,its,r,o,h1,h2,n,h3⟩:=(show ObjOk P w H h a (.tup (ks.map kV)) from ok a _ e);exact ⟨o,its.toArray,n,h1,h2,h3,by simpa using Bm r⟩
theorem Xj (ok:HOk P w H h)(e:Rd H a (.dT kvs)):kvs.length<=sizeLine/\(a==sysModules)=false /\ ∃ xs,KT H kvs xs/\h.DictOfH (tupleKind (qA P w)) a xs:=by
 obtain ⟨z,y,xs,r,o,es,ep,h1,h2,h3,h4,h5⟩:=(show ObjOk P w H h a (.dT kvs) from PJ ok e);refine ⟨z,y,xs,r,o,es,ep,h1,h2,h3,h4,λx hx=>?_,h5⟩;have all:∀{l:List (List j6×V)}{m:List (List j6×Addr×Value)},KT H l m->∀ x∈m,(tupleKind (qA P w)).is h x.1 x.2.1:=by
  intro l m q
  induction q with
  |nil=>intro x hx;exact nomatch hx
  |@cons p q ps qs hq t ih =>
   intro x hx;rcases yJ.mp hx with e|hx
   ·subst e;exact Xv ok (by rw [<- hq.1];exact hq.2.1)
   ·exact ih x hx
 exact all r x hx
theorem dt_of (ok:HOk P w H h)(e:H a=some (.dT kvs)):kvs.length<=sizeLine/\(a==sysModules)=false /\ ∃ xs,KT H kvs xs/\h.DictOfH (tupleKind (qA P w)) a xs:=Xj ok (.inl e)
end
def DGet (H:Hp)(a:Addr)(y:V)(r:Option V):Prop :=
 (∃ kvs k,Rd H a (.dK kvs)/\y=kV k/\r=xr kvs k)∨∃ kvs k b,Rd H a (.dT kvs)/\y = .ref b/\H b=some (.tup (k.map kV))/\r=xr kvs k
def DPut (H:Hp)(a:Addr)(y v:V)(H':Hp):Prop :=
 (∃ kvs k,H a=some (.dK kvs)/\y=kV k/\kvs.length<sizeLine/\H'=w6 H a (.dK (zK kvs k v))) ∨
 ∃ kvs k b,H a=some (.dT kvs)/\y = .ref b/\H b=some (.tup (k.map kV))/\kvs.length<sizeLine/\H'=w6 H a (.dT (zK kvs k v))
theorem DGet.k {kvs:List (j6×V)}{k:j6}(e:H a=some (.dK kvs)):DGet H a (kV k) (xr kvs k):= .inl ⟨kvs,k,.inl e,rfl,rfl⟩
theorem DPut.k {kvs:List (j6×V)}{k:j6}{v:V}(e:H a=some (.dK kvs))(hl:kvs.length<sizeLine):DPut H a (kV k) v (w6 H a (.dK (zK kvs k v))):= .inl ⟨kvs,k,e,rfl,hl,rfl⟩
section
variable {X:Cx}{pins:List (Addr×Obj)}{σ:St}{H:Hp}{s:Shared}{a:Addr}{y v:V}{u r:Value}{o:Option V}{A:Around}{E:Value->Shared->Prop}
theorem Inv.big (I:Inv X pins σ H s):sysModules<s.heap.objs.size:=by have h:mainGlobals<s.heap.objs.size:=(I.mod.glob.keeps I.bk).lt;exact Nat.lt_trans (by decide) h
theorem Mv (hu:A.units+1<cLine)(I:Inv X pins σ H s)(g:DGet H a y (some v))(ry:RelV y u)(h:∀ w' s',Inv X pins σ H s'->RelV v w'->Q w' s'):wpAny (model X.prog X.w) A (getItem (.ref a) u) Q E s:=by
 rcases g with ⟨kvs,k,e,ey,l⟩|⟨kvs,k,b,e,ey,eb,l⟩
 ·subst ey;obtain ⟨z,hd,vs,rel,dd⟩:=wc I.hok e;obtain ⟨w',hw,rw'⟩:=RelO.some_of (v:=v) (o:=valueAt vs k) (by rw [l];exact rel.val k);exact wpAny_getItem_of (Qw ry) dd.mapOf hw (h w' _ (I.tok _) rw')
 ·subst ey;cases (show u=Value.ref b from ry);obtain ⟨z,hd,xs,rel,dd⟩:=Xj I.hok e;obtain ⟨w',hw,rw'⟩:=RelO.some_of (v:=v) (o:=(atKey xs k).map (·.2)) (by rw [l];exact rel.val k);obtain ⟨p,hp,hp2⟩:=yN.mp hw;refine wpAny_getItem_heap (tupleKind_room_in1 hu) (Xv I.hok eb) dd hp ?_;rw [hp2];exact h w' _ (I.tok _) rw'
theorem d_in (hu:A.units+1<cLine)(I:Inv X pins σ H s)(g:DGet H a y o)(ry:RelV y u)(h:∀ s',Inv X pins σ H s'->Q (.bool o.isSome) s'):wpAny (model X.prog X.w) A (compareOp .In u (.ref a)) Q E s:=by
 rcases g with ⟨kvs,k,e,ey,l⟩|⟨kvs,k,b,e,ey,eb,l⟩
 ·subst ey;obtain ⟨z,hd,vs,rel,dd⟩:=wc I.hok e;refine wpAny_in_of (Qw ry) hd dd.mapOf ?_;rw [<- (rel.val k).isSome_eq,<- l];exact h _ (I.tok _)
 ·subst ey;cases (show u=Value.ref b from ry);obtain ⟨z,hd,xs,rel,dd⟩:=Xj I.hok e;refine wpAny_in_heap (tupleKind_room_in1 hu) (Xv I.hok eb) hd dd ?_;have q:=(rel.val k).isSome_eq;rw [Option.isSome_map] at q;rw [<- q,<- l];exact h _ (I.tok _)
theorem Mw (hu:A.units+1<cLine)(I:Inv X pins σ H s)(g:DGet H a y o)(ry:RelV y u)(h:∀ s',Inv X pins σ H s'->Q (.bool (!o.isSome)) s'):wpAny (model X.prog X.w) A (compareOp .NotIn u (.ref a)) Q E s:=by
 rcases g with ⟨kvs,k,e,ey,l⟩|⟨kvs,k,b,e,ey,eb,l⟩
 ·subst ey;obtain ⟨z,hd,vs,rel,dd⟩:=wc I.hok e;refine wpAny_notIn_of (Qw ry) hd dd.mapOf ?_;rw [<- (rel.val k).isSome_eq,<- l];exact h _ (I.tok _)
 ·subst ey;cases (show u=Value.ref b from ry);obtain ⟨z,hd,xs,rel,dd⟩:=Xj I.hok e;refine wpAny_notIn_heap (tupleKind_room_in1 hu) (Xv I.hok eb) hd dd ?_;have q:=(rel.val k).isSome_eq;rw [Option.isSome_map] at q;rw [<- q,<- l];exact h _ (I.tok _)
theorem KB {ob:HO}(I:Inv X pins σ H s)(mu:Mut (H a))(hs:Heap.SameBut a s.heap h')(he:∃ q,h'.get? a=some q)(new:ObjOk X.prog X.w (w6 H a ob) h' a ob):Inv X pins σ (w6 H a ob) { s with heap:=h',toks:=t' } :=
 I.write (x:=a) (e:=a) mu (.inl rfl) (λb q hb z=>(hs.2 b hb).trans z) he new
theorem KE {kvs:List (j6×V)}{vs:List (j6×Value)}(z:kvs.length<=sizeLine)(hd:(a==sysModules)=false)(rel:KV kvs vs)(dd:h'.DictOf (qA P w) a vs):ObjOk P w H' h' a (.dK kvs):=⟨z,hd,vs,rel,dd⟩
theorem Mx {Q:Unit->Shared->Prop}(hu:A.units+1<cLine)(I:Inv X pins σ H s)(g:DPut H a y v H')(ry:RelV y u)(rv:RelV v r)(h:∀ s',Inv X pins σ H' s'->Q () s'):wpAny (model X.prog X.w) A (setItem (.ref a) u r) Q E s:=by
 rcases g with ⟨kvs,k,e,ey,l,eH⟩|⟨kvs,k,b,e,ey,eb,l,eH⟩
 ·subst ey eH;obtain ⟨z,hd,vs,rel,dd⟩:=dk_of I.hok e;have hz:vs.length<=sizeLine:=by rw [<- rel.length];exact z
  have hl:(zK kvs k v).length<=sizeLine:=by have:=BB kvs k v;omega
  refine wpAny_setItem_pairs (hsz:=hz) (Qw ry) dd λh' dd' hs=>h _ ?_;have he:∃ q,h'.get? a=some q:=let ⟨q,_,_,hq,_⟩:=dd';⟨q,hq⟩
  exact KB I (by rw [e];exact True.intro) hs he (KE hl hd (rel.put k rv) dd')
 ·subst ey eH;cases (show u=Value.ref b from ry);obtain ⟨z,hd,xs,rel,dd⟩:=dt_of I.hok e;have hz:xs.length<=sizeLine:=by rw [<- Paired.length rel];exact z
  have hl:(zK kvs k v).length<=sizeLine:=by have:=BB kvs k v;omega
  refine wpAny_setItem_heap (hsz:=hz) (tupleKind_room_in1 hu) (Xv I.hok eb) dd λh' dd' hs=>h _ ?_;obtain ⟨q,es,ep,hq,h2,h3,h4,_,h5⟩:=dd';refine KB I (by rw [e];exact True.intro) hs ⟨q,hq⟩ ⟨hl,hd,_,(rel.put k eb rv).keeps λc ys ec=>?_,q,es,ep,hq,h2,h3,h4,h5⟩;rw [w4 (ne_of ec e (λz=>nomatch z))];exact ec
end
section
variable {X:Cx}{pins:List (Addr×Obj)}{σ:St}{H:Hp}{s:Shared}{a:Addr}{kvs:List (j6×V)}{k:j6}{u:Value}{A:Around}{E:Value->Shared->Prop}
theorem d_len (I:Inv X pins σ H s)(e:Rd H a (.dK kvs))(h:∀ t s',Inv X pins σ H s'->Q (.int kvs.length t) s'):wpAny (model X.prog X.w) A (call (.builtin "len") [.ref a]) Q E s:=by obtain ⟨z,hd,vs,rel,dd⟩:=wc I.hok e;refine call_len_dict hd dd (by rw [<- rel.length];rw [sizeLine_eq] at z;omega) ?_;rw [<- rel.length];exact h _ _ (I.tok _)
end
def NoSl (i:Expr):Prop:=∀ ov iv,subscripted i false ov iv=operate [ov,iv] (getItem ov iv)
theorem Ia {prog:Program}{E:Value->Shared->Prop}{env:Env}{value slice:Expr}{pos:Pos}{id:String}(hl:typeLookup (.type T) "__getitem__"=pure (some (.builtin id)))(hs:NoSl slice)(h:wpAny (model prog w) A (eval value env) (λo s₁=>wpAny (model prog w) A (eval slice env) (λi s₂=>s₂.TypeIs o T/\wpAny (model prog w) A (getItem o i) Q E s₂) E s₁) E s):wpAny (model prog w) A (eval (.Subscript value slice pos) env) Q E s:=by
 refine Subscript_ (wpAny_mono h (λo s₁ h₁=>wpAny_mono h₁ (λi s₂ h₂=>?_) λ_ _ x=>x) λ_ _ x=>x);obtain ⟨hT,h₂⟩:=h₂;unfold subscriptTail;refine yR ?_;rw [getitemInPython_of_ne hT.not_modules];refine yR (wpAny_specialOf hT hl ?_);have fin:wpAny (model prog w) A (subscripted slice false o i) (λr s₃=>wpAny (model prog w) A (letTemporaryGo value o r >>= λ_=>pure r) Q E s₃) E s₂:=by rw [hs o i];exact wpAny_operating (wpAny_mono h₂ (λr s₃ h₃=>yR (wpAny_letTemporaryGo (yx h₃))) λ_ _ x=>x)
 first
  |exact yx (yR fin)
  |exact yR (yx (yR fin))
  |exact yR fin
theorem My {X:Cx}(I:Inv X pins σ H s)(g:DGet H a y o):s.TypeIs (.ref a) "dict":=by
 rcases g with ⟨kvs,k,e,_,_⟩|⟨kvs,k,b,e,_,_,_⟩
 ·obtain ⟨_,_,vs,_,dd⟩:=wc I.hok e;exact dd.typeIs
 ·obtain ⟨_,_,xs,_,dd⟩:=Xj I.hok e;exact dd.typeIs
def Cz (td ty:TE):TE:=λσ H Q=>td σ H λx H1=>ty σ H1 λy H2=>∃ a v,x = .ref a/\DGet H2 a y (some v)/\Q v H2
def tDIn (ty td:TE):TE:=λσ H Q=>ty σ H λy H1=>td σ H1 λx H2=>∃ a o,x = .ref a/\DGet H2 a y o/\Q (.bl o.isSome) H2
def CB (ty td:TE):TE:=λσ H Q=>ty σ H λy H1=>td σ H1 λx H2=>∃ a o,x = .ref a/\DGet H2 a y o/\Q (.bl (!o.isSome)) H2
def Cd (td ty tv:TE):TS:=λD σ H=>tv σ H λv H1=>td σ H1 λx H2=>ty σ H2 λy H3=>∃ a H4,x = .ref a/\DPut H3 a y v H4/\D.nx σ H4
section
variable {X:Cx}{o i e value:Expr}{pos pos' tpos:Pos}{td ty tv:TE}
theorem vG (hu:X.A.units+1<cLine)(ho:PE X o td)(hi:PE X i ty)(hs:NoSl i):PE X (.Subscript o i pos) (Cz td ty):=by intro pins s σ H Q I h;refine Ia PySem.F.slot_dict_getitem.lookup hs (v6 (ho pins s σ H _ I h) λu s1 ⟨x,H1,I1,rx,q1⟩=>v6 (hi pins s1 σ H1 _ I1 q1) λiv s2 ⟨y,H2,I2,ry,a,v,ex,g,q2⟩=>?_);subst ex;obtain rfl:u=Value.ref a:=rx;exact ⟨My I2 g,Mv hu I2 g ry λw' s3 I3 rw'=>⟨v,H2,I3,rw',q2⟩⟩
theorem Rw (hu:X.A.units+1<cLine)(hi:PE X i ty)(ho:PE X o td):PC X .In i o (tDIn ty td):=by intro pins s σ H Q I h;refine v6 (hi pins s σ H _ I h) λiv s1 ⟨y,H1,I1,ry,q1⟩=>v6 (ho pins s1 σ H1 _ I1 q1) λu s2 ⟨x,H2,I2,rx,a,ov,ex,g,q2⟩=>?_;subst ex;obtain rfl:u=Value.ref a:=rx;exact d_in hu I2 g ry λs3 I3=>⟨.bl ov.isSome,H2,I3,rfl,q2⟩
theorem Rx (hu:X.A.units+1<cLine)(hi:PE X i ty)(ho:PE X o td):PC X .NotIn i o (CB ty td):=by intro pins s σ H Q I h;refine v6 (hi pins s σ H _ I h) λiv s1 ⟨y,H1,I1,ry,q1⟩=>v6 (ho pins s1 σ H1 _ I1 q1) λu s2 ⟨x,H2,I2,rx,a,ov,ex,g,q2⟩=>?_;subst ex;obtain rfl:u=Value.ref a:=rx;exact Mw hu I2 g ry λs3 I3=>⟨.bl (!ov.isSome),H2,I3,rfl,q2⟩
theorem Td (hu:X.A.units+1<cLine)(ho:PE X o td)(hi:PE X i ty)(hv:PE X value tv)(hs:swapsWith value (some (.Subscript o i pos')) pos.line X.env=pure false):PS X (.Assign [.Subscript o i pos'] value pos) (Cd td ty tv):=by intro pins s σ H D I h;refine wpAny_Assign_Subscript (v6 (hv pins s σ H _ I h) λr s1 ⟨v,H1,I1,rv,q1⟩=>v6 (ho pins s1 σ H1 _ I1 q1) λu s2 ⟨x,H2,I2,rx,q2⟩=>v6 (hi pins s2 σ H2 _ I2 q2) λiv s3 ⟨y,H3,I3,ry,a,H4,ex,g,q3⟩=>?_) hs;subst ex;obtain rfl:u=Value.ref a:=rx;exact Mx hu I3 g ry rv λs4 I4=>⟨σ,H4,I4,q3⟩
end
theorem MC (h:Heap)(hb:sysModules<h.objs.size):ObjOk P w H (h.push { cls:= .type "dict",data:= .dict #[] }) h.objs.size (.dK []) :=
 ⟨ya _,beq_eq_false_iff_ne.mpr (Ne.symm (yL hb)),[],.nil,Heap.DictOf.new h⟩
def CA:TE:=λ_ H Q=>∀ p,H p=none->Q (.ref p) (w6 H p (.dK []))
section
variable {X:Cx}{pos:Pos}
theorem RB:PE X (.Dict [] [] pos) CA:=λpins s σ H Q I h =>
 wpAny_Dict_empty ⟨.ref s.heap.objs.size,_,I.laid (a:=s.heap.objs.size) (o:= .dK []) (t':=s.toks) (λ_ _ q=>yU _ q) (yW _) (MC s.heap I.big),rfl,h _ (I.hok.fresh (yW _))⟩
end
end L2
namespace Att
open PySem PySem.W PySem.Calls PyProof.Rows
variable{P:Params}{h:Heap}{l:OpenLaw}{n:Nat}
theorem LD :∀(ns:List Int)(vs:List Value),WellAll P h vs (ns.map WData.int)->IntsAre vs ns:=by
 intro ns
 induction ns with
 |nil=>intro vs w;rw [List.map_nil] at w;cases w;exact .nil
 |cons n ns ih =>
  intro vs w;rw [yO] at w;cases w with
  |cons a b=>cases a;exact .cons _ _ (ih _ b)
theorem SG (hn:l.most=some n){args:List WData}{vals:List Value}(hpre:l.row.toRowW.claim.pre args=true)(hwl:WellAll P h vals args):∃ a vs ns,vals=[Value.ref a]/\args=[WData.list (ns.map WData.int)]/\h.get? a=some { cls:= .type "list",data:= .seq vs.toArray }/\IntsAre vs ns/\ns.length<=n:=by
 have hsh:WShape.hasAll [] args [.list .int]=true:=(pre_splitW hpre).1;have hc:l.pre.holds [] { args:=args }=true:=(pre_splitW hpre).2;obtain ⟨d,r,rfl,h1,h2⟩:=hasAllW_cons hsh;obtain rfl:=hasAllW_nil h2;obtain ⟨xs,rfl,h3⟩:=hasW_list h1;obtain ⟨ns,rfl⟩:=items_int h3;have hlen:ns.length<=n:=by
  unfold OpenLaw.pre at hc;have h4:(WTm.not (.lt (.lit (.int (n:Int))) (.len (.arg 0)))).holds [] { args:=[.list (ns.map .int)] }=true:=by have h4:=(holds_andW hc).1;rw [hn] at h4;exact h4
  have h5:=condW_of h4 (w_not (w_lt w_lit (w_len_list (w_arg rfl))));rw [yZ] at h5;refine Nat.le_of_not_lt λq=>?_;have q':(n:Int)<((ns.length:Nat):Int):=by omega
  first
   |(rw [yH q'] at h5;exact absurd h5 (by decide))
   |(simp at h5;omega)
 cases hwl with
 |cons w1 w2 =>
  cases w2;cases w1 with
  |list ho hall=>exact ⟨_,_,ns,rfl,rfl,ho,LD ns _ hall,hlen⟩
theorem Tb (l:OpenLaw)(args:List WData):l.row.toRowW.claim.post args (.bool true) args=true :=
 postW_of (r:=l.row.toRowW) (X:=(true==true))
  (show WShape.has [] (.bool true) .bool=true by first|rfl|decide|simp [WShape.has,WShape.arms,WShape.armsAll])
  (show (WTm.eq .res (.lit (.bool true))).value [] { args:=args,res:=some (.bool true),after:=args }=some (.bool (true==true)) from w_eq_bool (w_res rfl) w_lit) rfl
theorem attach_call {q:Program}{loose:List Str}{XP:(Str->Option Value)->Heap->Prop}{YP:World->Heap->Prop}{d:DefRec}(hn:l.most=some n)(hdf:d.params.defaults=[])(call:∀ (w:World) (s₀ s₁:Shared) (mg mb:Str->Option Value) (fa:Addr) (o:Obj) (pm cd doc:Value) (a:Addr) (vs:List Value) (ns:List Int), Ground q loose [] XP w s₀ mg mb s₁.heap->YP w s₁.heap -> s₁.heap.get? fa=some o->o.data = .func (docDef d.name d.params d.body d.scope pm cd doc)->s₁.heap.CodeRec cd d.name->mg d.name=some (.ref fa) -> s₁.heap.get? a=some { cls:= .type "list",data:= .seq vs.toArray }->IntsAre vs ns->ns.length<=n->s₁.gens=#[] -> codeAny (model l.prog w) callerA (.call (.ref fa) ⟨[.ref a],[]⟩) (λr s'=>r = .ok (.ret (.bool true))/\OldK s₁.heap s'.heap/\s'.os=s₁.os/\AllBare s'.gens) s₁):WalkO q loose XP YP l.row.toRowW d [] (λf vs=>PySem.call f vs):=by intro w s₀ s₁ mg mb G Y fa o pm cd doc dV kV ho hd hcd hD hmg hg args vals as hpre hlay hrd hwl hlo;obtain rfl:dV = .none:=Dflts.none hD hdf;obtain rfl:kV = .none:=Dflts.noKw hD;obtain ⟨a,vs,ns,rfl,rfl,hobj,hints,hlen⟩:=SG hn hpre hwl;refine enter_call (codeAny_mono (call w s₀ s₁ mg mb fa o pm cd doc a vs ns G Y ho (fd_plain hd) hcd hmg hobj hints hlen hg) λr s' hq=>?_);obtain ⟨rfl,h2,h3,h4⟩:=hq;exact ⟨.inl ⟨.bool true,.bool true,[],rfl,λ_=>rfl,.bool true,Tb l _,λ_=>⟨List.Pairwise.nil,λ_ hm=>(nomatch hm)⟩⟩,h2,h3,h4⟩
end Att
namespace L2
open PySem PySem.Spec PyProof.Rows
variable{K:Fg}{a f:Addr}{fd:FuncData}{qual x:Str}{sp:Sp}{n:Nat}{st:Stmt}{ps:List Str}{A B:Prop}{H H':Hp}
theorem Dc:∀{vs:List Value}{ns:List Int},IntsAre vs ns->Vals (ns.map V.int) vs
 |_,_,.nil=> .nil
 |_,_,.cons n t h=> .cons ⟨t,rfl⟩ (Dc h)
def Only (H:Hp):Prop:=∀ b,H b=none∨(∃ o xs,H b=some (.frz o (.lst xs)))∨∃ p∈TABS,p.1=b/\H b=some (.tbl p.2.1 p.2.2)
structure Qf (K:Fg)(h:Heap):Prop where
 at_:∀ p∈TABS,h.get? p.1=some { cls:= .none,data:= .fields p.2.1 }
 tri:∀ p∈TABS,TriplesOk p.2.1.toList
 non:∀ p∈TABS,∀ q∈p.2.2,codeAmong q.1 p.2.1.toList=none
 tab:∀ p∈TABS,isCodeTable h p.1
 one:∀ p∈TABS,∀ q∈TABS,p.1=q.1->p=q
 out:∀ p∈TABS,K.lookup p.1=none
def zM:Hp:=λb=>(TABS.find? λp=>p.1==b).map λp=> .tbl p.2.1 p.2.2
theorem JM {b:Addr}{u:HO}(h:zM b=some u):∃ p∈TABS,p.1=b/\u = .tbl p.2.1 p.2.2:=by unfold zM at h;obtain ⟨p,e,r⟩:=yN.mp h;exact ⟨p,List.mem_of_find?_eq_some e,by have:=List.find?_some e;simpa using this,r.symm⟩
theorem CJ {h:Heap}(T:Qf K h){p:Addr×Array Value×List (Pos×Str)}(hp:p∈TABS):zM p.1=some (.tbl p.2.1 p.2.2):=by
 unfold zM;cases e:TABS.find? λq=>q.1==p.1 with
 |none=>exact absurd (List.find?_eq_none.mp e p hp) (by simp)
 |some q =>
  have e1:q.1=p.1:=by have:=List.find?_some e;simpa using this
  rw [T.one q (List.mem_of_find?_eq_some e) p hp e1];rfl
theorem Np {P:Program}{w:World}{mg mb:Str->Option Value}{CX:CXT}{k:Nat}{fa:Addr}{s₁:Shared}{vs:List Value}{ns:List Int}(KX:K.In s₁.heap)(T:Qf K s₁.heap)(hns:s₁.heap.Ns mainGlobals mg)(hb:s₁.heap.Ns builtinsNs mb)(hbb:∀ x:Str,x ≠ "__name__"->mb x=bootBuiltins x)(hlim:s₁.heap.NoLimit)(hbm:∃ bm ob,mg "__builtins__"=some (.ref bm)/\bm≠builtinsNs/\s₁.heap.get? bm=some ob/\ob.cls = .type "module"/\ob.dict=some builtinsNs/\ob.data = .plain)(hg:s₁.gens=#[])(ha:s₁.heap.get? a=some { cls:= .type "list",data:= .seq vs.toArray })(hi:IntsAre vs ns)(hl:ns.length<=sizeLine)(hr:Room k callerA)(F:∀ base:Heap,K.In base->base.Ns mainGlobals mg->FnOk P w K mg base CX k fa fd [x] sp)(hbind:∀ (s:Shared) (u:Value),BindsTo s fd ⟨[u],[]⟩ [(x,u)])(hsp:∀ H:Hp,Only H->SqL K H a (ns.map V.int)->sp [.ref a] H (λv _=>v = .bl true) λ_ _ _=>False)(hCX:∀ H e s',CX [] H s₁ (λ_ _ _=>False) e s'->False):codeAny (model P w) callerA (.call (.ref fa) ⟨[.ref a],[]⟩) (λr s'=>r = .ok (.ret (.bool true))/\OldK s₁.heap s'.heap/\s'.os=s₁.os/\AllBare s'.gens) s₁:=by
 have rv:=Dc hi;have lenV:=hi.length;have naT:∀ p∈TABS,p.1≠a:=λp hp z=>by
  have e:=T.at_ p hp;rw [z,ha] at e;cases e
 have core:∀ H:Hp,Only H->SqL K H a (ns.map V.int)->HOk P w H s₁.heap->(∀ b,H b≠none->b=a∨∃ p∈TABS,p.1=b)->(∀ b,H b≠none->K.lookup b=none)->(∀ p∈TABS,H p.1=some (.tbl p.2.1 p.2.2)) ->
   codeAny (model P w) callerA (.call (.ref fa) ⟨[.ref a],[]⟩) (λr s'=>r = .ok (.ret (.bool true))/\OldK s₁.heap s'.heap/\s'.os=s₁.os/\AllBare s'.gens) s₁:=by
  intro H hO hS hok hA hK hT;have base_of:∀{b:Addr}{o:Obj},s₁.heap.get? b=some o->H b=none->(jL s₁.heap H).get? b=some o:=λe n=>Lj e n;have noA:∀{b:Addr}{o:Obj}{es:Array DictEntry}{ep:Nat},s₁.heap.get? b=some o->o.data = .dict es ep->H b=none:=λ{b o es ep} e d=>by
   cases q:H b with
   |none=>rfl
   |some u =>
    rcases hA b (by rw [q];simp) with e'|⟨p,hp,e'⟩
    ·subst e';rw [ha] at e;cases e;have d':Data.seq vs.toArray _=Data.dict es ep:=d;cases d'
    ·subst e';rw [T.at_ p hp] at e;cases e;have d':Data.fields p.2.1=Data.dict es ep:=d;cases d'
  have nsK:∀{b:Addr}{m:Str->Option Value},s₁.heap.Ns b m->(jL s₁.heap H).Ns b m:=λ{b m} ⟨o,es,ep,e,d,r⟩=>⟨o,es,ep,base_of e (noA e d),d,r⟩;have hKb:K.In (jL s₁.heap H):=λb o e=>base_of (KX b o e) (by
   cases q:H b with
   |none=>rfl
   |some u=>rw [hK b (by rw [q];simp)] at e;cases e)
  have noP:∀{b:Addr}{o:Obj},s₁.heap.get? b=some o->o.data = .plain->H b=none:=λ{b o} e d=>by
   cases q:H b with
   |none=>rfl
   |some u =>
    rcases hA b (by rw [q];simp) with e'|⟨p,hp,e'⟩
    ·subst e';rw [ha] at e;cases e;have d':Data.seq vs.toArray _=Data.plain:=d;cases d'
    ·subst e';rw [T.at_ p hp] at e;cases e;have d':Data.fields p.2.1=Data.plain:=d;cases d'
  have hM:Mod K mg (jL s₁.heap H):=⟨hKb,nsK hns,⟨mb,nsK hb,hbb⟩,let ⟨mc,h1,h2⟩:=hlim;⟨mc,nsK h1,h2⟩,let ⟨bm,ob,b1,b2,b3,b4,b5,b6⟩:=hbm;⟨bm,ob,b1,b2,base_of b3 (noP b3 b6),b4,b5,b6⟩⟩;have e0:Env0 P w K mg (jL s₁.heap H) callerA [] s₁ H:=⟨rfl,hM,λb o e=>NR e,Nat.le_of_eq (Lk _ _),trivial,λb hb=>absurd (show b∈([]:List Addr) from hb) (by simp),hok,.of_eq hg,hT⟩;refine codeAny_mono ((F _ hKb (nsK hns)).run callerA [] s₁ H ⟨[.ref a],[]⟩ [.ref a] [.ref a] _ _ hr e0 (hbind s₁ (.ref a)) (.cons rfl .nil) (hsp H hO hS)) λr s' h=>?_;cases r with
  |error e=>exact (hCX H e s' h).elim
  |ok fl =>
   cases fl with
   |next=>exact False.elim h
   |brk=>exact False.elim h
   |cont=>exact False.elim h
   |ret u =>
    obtain ⟨v,H',os,bare,un,hok',r',q⟩:=h;have q':v = .bl true:=q;subst q';obtain rfl:u=Value.bool true:=r';refine ⟨rfl,⟨λb o e=>?_,λb o e=>un.there b o e (by simp)⟩,os,bare⟩;rcases hO b with z|⟨ob,xs,z⟩|⟨p,hp,rfl,z⟩
    ·exact .inl (un.keep b o e z (by intro z;exact absurd (show b∈([]:List Addr) from z) (by simp)) (by simp))
    ·have z2:=un.frzs b ob _ z;obtain ⟨e1,_⟩:=hok b _ z;obtain ⟨e2,_⟩:=hok' b _ z2;rw [e] at e1;cases e1;exact .inl e2
    ·have z2:=un.tbls p.1 _ _ z;obtain ⟨more,e2,_⟩:=hok' p.1 _ z2;rw [T.at_ p hp] at e;cases e;exact .inr (.inl ⟨T.tab p hp,rfl,p.2.1,more,rfl,e2⟩)
 have tok:∀{H:Hp}{p:Addr×Array Value×List (Pos×Str)},p∈TABS->ObjOk P w H s₁.heap p.1 (.tbl p.2.1 p.2.2):=λ{H p} hp =>
  ⟨#[],by rw [Array.append_empty];exact T.at_ p hp,by rw [Array.append_empty];exact T.tri p hp,λq hq=> .inl (by rw [Array.append_empty];exact T.non p hp q hq)⟩
 have only:∀ b,zM b=none∨(∃ o xs,zM b=some (.frz o (.lst xs)))∨∃ p∈TABS,p.1=b/\zM b=some (.tbl p.2.1 p.2.2):=λb=>by
  cases q:zM b with
  |none=>exact .inl rfl
  |some u=>obtain ⟨p,hp,e1,rfl⟩:=JM q;exact .inr (.inr ⟨p,hp,e1,rfl⟩)
 have mine:∀ b,zM b≠none->∃ p∈TABS,p.1=b:=λb z=>by
  cases q:zM b with
  |none=>exact absurd q z
  |some u=>obtain ⟨p,hp,e1,_⟩:=JM q;exact ⟨p,hp,e1⟩
 cases hk:K.lookup a with
 |some o =>
  have e:=KX a o hk;rw [ha] at e;cases e;refine core zM only (.inr ⟨_,vs.toArray,_,hk,rfl,rfl,rfl,by rw [yX,lenV];exact hl,by simpa using rv⟩) (λb u z=>?_) (λb z=> .inr (mine b z)) (λb z=>?_) λp hp=>CJ T hp
  ·obtain ⟨p,hp,rfl,rfl⟩:=JM z;exact tok hp
  ·obtain ⟨p,hp,rfl⟩:=mine b z;exact T.out p hp
 |none =>
  refine core (λb=>if b=a then some (.frz { cls:= .type "list",data:= .seq vs.toArray } (.lst (ns.map V.int))) else zM b) (λb=>?_) (.inl (.inr ⟨{ cls:= .type "list",data:= .seq vs.toArray },if_pos rfl⟩)) (λb u z=>?_) (λb z=>?_) (λb z=>?_) λp hp=>?_
  ·by_cases hb:b=a
   ·exact .inr (.inl ⟨_,_,if_pos hb⟩)
   ·rcases only b with z|⟨o,xs,z⟩|⟨p,hp,e1,z⟩
    ·exact .inl ((if_neg hb).trans z)
    ·exact .inr (.inl ⟨o,xs,(if_neg hb).trans z⟩)
    ·exact .inr (.inr ⟨p,hp,e1,(if_neg hb).trans z⟩)
  ·by_cases hb:b=a
   ·have z':=(if_pos hb).symm.trans z;cases z';subst hb;exact ⟨ha,by rw [yZ];exact hl,vs,_,rv,ha⟩
   ·have z':=(if_neg hb).symm.trans z;obtain ⟨p,hp,rfl,rfl⟩:=JM z';exact tok hp
  ·by_cases hb:b=a
   ·exact .inl hb
   ·exact .inr (mine b λq=>z ((if_neg hb).trans q))
  ·by_cases hb:b=a
   ·rw [hb];exact hk
   ·obtain ⟨p,hp,rfl⟩:=mine b λq=>z ((if_neg hb).trans q);exact T.out p hp
  ·exact (if_neg (naT p hp)).trans (CJ T hp)
theorem Fx {l:PySem.W.OpenLaw}{k:Nat}{q:Program}{loose:List Str}{XP:(Str->Option Value)->Heap->Prop}{YP:World->Heap->Prop}{d:DefRec}{K:Params->Fg}{CX:World->CXT}{sp:World->Sp}(hn:l.most=some n)(hn2:n<=sizeLine)(hdf:d.params.defaults=[])(hr:Room k callerA)(hY:∀(w:World)(h:Heap),YP w h->(K w.params).In h)(F:∀(w:World)(mg:Str->Option Value)(fa:Addr)(h:Heap),YP w h->(K w.params).In h->h.Ns mainGlobals mg->mg d.name=some (.ref fa) -> ∃ fd:FuncData,(∀(s:Shared)(u:Value),BindsTo s fd ⟨[u],[]⟩ [(x,u)])/\Qf (K w.params) h /\ ∀ base:Heap,(K w.params).In base->base.Ns mainGlobals mg->FnOk l.prog w (K w.params) mg base (CX w) k fa fd [x] (sp w))(hsp:∀(w:World)(H:Hp)(a:Addr)(ns:List Int),ns.length<=n->Only H->SqL (K w.params) H a (ns.map V.int)->sp w [.ref a] H (λv _=>v = .bl true) λ_ _ _=>False)(hCX:∀(w:World)(H:Hp)(s:Shared)(e:Value)(s':Shared),CX w [] H s (λ_ _ _=>False) e s'->False):PySem.W.WalkO q loose XP YP l.row.toRowW d [] (λf vs=>PySem.call f vs):=by refine Att.attach_call hn hdf λw s₀ s₁ mg mb fa o pm cd doc a vs ns G Y ho hd hcd hmg hobj hints hlen hg=>?_;have KX:=hY w _ Y;obtain ⟨fd,hb,hT,hF⟩:=F w mg fa _ Y KX G.T.g hmg;exact Np KX hT G.T.g G.T.b G.T.builtins G.T.nolimit G.T.bmain hg hobj hints (yj hlen hn2) hr hF hb (λH hO hS=>hsp w H a ns hlen hO hS) λH e s'=>hCX w H s₁ e s'
def jM (s:Stmt)(j:Nat):Stmt:=match s with
 | .ClassDef _ _ _ body _ _ _ _ _ _ _=>body.getD j (.Pass ⟨0,0,0,0⟩)
 |_=> .Pass ⟨0,0,0,0⟩
def zi (s:Stmt):Arguments:=match s with
 | .FunctionDef _ a _ _ _ _ _ _ _ _=>a
 |_=>{ posonlyargs:=[],args:=[],vararg:=none,kwonlyargs:=[],kw_defaults:=[],kwarg:=none,defaults:=[] }
def qz (s:Stmt):List Stmt:=match s with
 | .FunctionDef _ _ b _ _ _ _ _ _ _=>b
 |_=>[]
def j9 (s:Stmt):Scope:=match s with
 | .FunctionDef _ _ _ _ _ _ sc _ _ _=>sc
 |_=>{ kind:= .function,names:=[],isGenerator:=false,isCoroutine:=false }
abbrev v9:CXT:=λ_ _ _ _ _ _=>False
abbrev E0:XK:=λ_ _ _=>False
theorem Jw {X:Cx}:vS v9 X E0:=λ_ _ _ _ _ _ _ h=>h.elim
structure Fun (K:Fg)(x qual:Str)(st:Stmt)(f:Addr)(fd:FuncData):Prop where
 ex:∃(oc:Value)(od:Option Addr)(kV doc pm:Value)(an:Option Addr)(cdv ct:Value)(osl:Array (Option Value)),
  fd=PySem.W.fnOf x qual (zi st) (qz st) (j9 st) .none kV doc pm an cdv ct/\K.lookup f=some ⟨oc,od,.func fd,osl⟩/\PySem.W.codeIn K cdv qual=true
 kp:PySem.W.keepIn K (.ref f)=true
section
variable {P:Program}{w:World}{K:Fg}{mg:Str->Option Value}{base:Heap}
theorem Fun.ok {N:List Str}{k:Nat}(F:Fun K x qual st f fd)(S:y6 N ps (j9 st))(len:∀ vs H Q E,sp vs H Q E->vs.length=ps.length)(hbody:∀(cdv:Value)(A:Around)(outer:List Env)(s:Shared)(H:Hp)(vs:List V)(Q:VK)(E:XK),Room k (A.deeper (envOfC qual (j9 st) s.heap.objs.size f cdv))->sp vs H Q E -> ∃ t,PSs (xN v9 P w K mg base N qual (j9 st) f cdv A outer s H E).nox (qz st) t/\t { nx:=λ_ H'=>Q .non H',rt:=Q } (start N vs) H):FnOk P w K mg base v9 (k+1) f fd ps sp:=by obtain ⟨oc,od,kV,doc,pm,an,cdv,ct,osl,rfl,lk,hcd⟩:=F.ex;refine VA lk hcd S len λA outer s H vs Q E hr hsp=>?_;obtain ⟨t,h,q⟩:=hbody cdv A outer s H vs Q E hr hsp;exact ⟨t,h.nox,q⟩
theorem Fun.binds (F:Fun K x qual st f fd)(h:∀(kV doc pm:Value)(an:Option Addr)(cdv ct:Value)(us:List Value),us.length=ps.length->bindArgs (PySem.W.fnOf x qual (zi st) (qz st) (j9 st) .none kV doc pm an cdv ct) ⟨us,[]⟩=pure (ps.zip us)):Binds K fd ps []:=by obtain ⟨oc,od,kV,doc,pm,an,cdv,ct,osl,rfl,lk,hcd⟩:=F.ex;exact .all (h kV doc pm an cdv ct)
theorem wd {oc:Value}{od an:Option Addr}{osl:Array (Option Value)}{kV doc pm cdv ct:Value}(l:K.lookup f=some ⟨oc,od,.func (PySem.W.fnOf x qual (zi st) (qz st) (j9 st) .none kV doc pm an cdv ct),osl⟩)(c:PySem.W.codeIn K cdv qual=true)(k:PySem.W.keepIn K (.ref f)=true):Fun K x qual st f (PySem.W.fnOf x qual (zi st) (qz st) (j9 st) .none kV doc pm an cdv ct):=⟨⟨oc,od,kV,doc,pm,an,cdv,ct,osl,rfl,l,c⟩,k⟩
end
theorem zj {A:Around}{k:Nat}(hr:Room k A):A.units+1<cLine:=Nat.lt_of_le_of_lt (Nat.add_le_add_left (by decide:1<=64) _) hr.units
theorem QU (h:n<=1000):n<sizeLine:=Nat.lt_of_le_of_lt h (by decide)
section
variable {X:Cx}
theorem pv (i:Nat){pos:Pos}(hN:X.N[i]?=some x:=by rfl)(hv:Vis X.env.scope x:=by first|exact Or.inl rfl|exact Or.inr (Or.inl rfl)|exact Or.inr (Or.inr rfl))(hd:(x==("__debug__":Str))=false:=by decide)(hcd:(x==("__classdict__":Str))=false:=by decide):PE X (.Name x pos) (qF i):=BX hN hv hd hcd
theorem DW:CallR X (.builtin "len") (λxs H Q=>∃ a kvs,xs=[V.ref a]/\H a=some (.dK kvs)/\Q (.int kvs.length) H):=by intro pins s σ H xs us Q I r h;obtain ⟨a,kvs,rfl,ha,q⟩:=h;obtain ⟨u,rfl,ru⟩:=ji r;cases ru;exact d_len I (.inl ha) λt s' I'=>⟨.int kvs.length,H,I',⟨t,rfl⟩,q⟩
end
theorem zS (h:B):if false=true then A else B:=by rw [if_neg yS];exact h
theorem zT (h:A):if true=true then A else B:=by rw [if_pos rfl];exact h
theorem ite2 {c:Prop}[Decidable c](h1:c->A)(h2:¬ c->B):if c then A else B:=by
 by_cases h:c
 ·rw [if_pos h];exact h1 h
 ·rw [if_neg h];exact h2 h
def Same (H H':Hp):Prop:=∀ b o,H b=some o->H' b=some o
theorem Same.refl (H:Hp):Same H H:=λ_ _ h=>h
theorem Same.trans {H1 H2:Hp}(a:Same H H1)(b:Same H1 H2):Same H H2:=λc o h=>b c o (a c o h)
theorem Same.free (e:Same H H'){l:Addr}(h:H' l=Option.none):H l=Option.none:=by
 cases q:H l with
 |none=>rfl
 |some o=>rw [e l o q] at h;cases h
theorem Same.seq {xs:List V}(e:Same H H')(h:SqL K H a xs):SqL K H' a xs:=by
 rcases h with (h|⟨o,h⟩)|h
 ·exact .inl (.inl (e _ _ h))
 ·exact .inl (.inr ⟨o,e _ _ h⟩)
 ·exact .inr h
end L2
set_option maxHeartbeats 4000000
set_option synthInstance.maxHeartbeats 4000000
set_option synthInstance.maxSize 4096
namespace L2
open PySem PySem.Spec PyProof.Rows
variable{c elt iter tg:Expr}{ifs:List Expr}{scope:Scope}{pos:Pos}{env:Env}{X:Cx}{o:Option V}{σ:St}{tt:TT}{te:TE}{wi:TI}{K:Fg}
section
variable {prog:Program}{w:World}{A:Around}{R:Result->Shared->Prop}{s:Shared}
theorem Mm {target:Expr}{it acc:Value}(I:Nat->Shared->Prop)
  (turn:∀ n s,I n s->wpAny (model prog w) A (pyNext it) (λr s₁=>match r with
   |none=>R (.ok .next) s₁
   |some v=>wpAny (model prog w) A (letOwnedTupleGo target it v) (λ_ s₀=>wpAny (model prog w) A (assign target env v) (λ_ s₂ =>
     wpAny (model prog w) A (forIn ifs true λc r=>if r=true then do let ok <- isTrue c env (eval c env);pure (ForInStep.yield ok) else pure (ForInStep.yield r)) (λok s₃ =>
      if ok=true then wpAny (model prog w) A (eval elt env) (λx s₄ =>
       wpAny (model prog w) A (call (.builtin "list.append") [acc,x]) (λ_ s₅=>∃ m,m<n/\I m s₅) (λ_ _=>False) s₄) (λ_ _=>False) s₃
      else ∃ m,m<n/\I m s₃) (λ_ _=>False) s₂) (λ_ _=>False) s₀) (λ_ _=>False) s₁) (λ_ _=>False) s)
  (n:Nat) (h:I n s) :
  codeAny (model prog w) A (.compLoop (.ListComp elt [⟨target,iter,ifs,0⟩] scope pos) 0 it acc env) R s:=by
 refine codeAny_loop rfl I (λn s hI=>?_) n h;show wpAny _ A ((compTurn (.ListComp elt [⟨target,iter,ifs,0⟩] scope pos) 0 it acc env).onRaise (λx=>do noteFrame x env;theTreesLotGoes x)) _ _ s;refine wpAny_noted (wpAny_noRaise ?_);rw [compTurn_list];refine yR (wpAny_standAt (yR (v6 (turn n s hI) λr s₁ h₁=>?_)));cases r with
 |none=>exact yx h₁
 |some v =>
  refine yR (v6 h₁ λ_ s₀ h₀=>?_);refine yR (v6 h₀ λ_ s₂ h₂=>yR (v6 h₂ λok s₃ h₃=>?_));cases ok with
  |false=>exact yx ⟨rfl,h₃⟩
  |true=>exact yR (yR (v6 h₃ λx s₄ h₄=>yR (v6 h₄ λ_ s₅ h₅=>yx (yx ⟨rfl,h₅⟩))))
end
theorem KW {α β:Type}{f:α->β->Sem (ForInStep β)}(g:α->β->β):∀(l:List α)(b:β),(∀ a∈l,∀ b,f a b=pure (.yield (g a b)))->forIn l b f=(pure (l.foldl (λb a=>g a b) b):Sem β)
 |[],_,_=>rfl
 |x::l,b,h=>by
  rw [List.forIn_cons,h x yT,pure_bind];exact KW g l (g x b) λy hy=>h y (yV _ hy)
def jE (env:Env)(y:Str×NameKind)(cs:List (Str×Addr)):List (Str×Addr):=if y.2 == .free then (y.1,(env.cells.lookup y.1).getD 0)::cs else cs
theorem Kj (env:Env):∀(l:List (Str×NameKind))(cs:List (Str×Addr)),(∀ y∈l,y.2 = .free->∃ c,env.cells.lookup y.1=some c)->(∀ x c,cs.lookup x=some c->env.cells.lookup x=some c) -> (∀ x c,(l.foldl (λb a=>jE env a b) cs).lookup x=some c->env.cells.lookup x=some c)
 |[],_,_,h=>h
 |(n,k)::l,cs,hl,h=>by
  refine Kj env l _ (λy hy=>hl y (yV _ hy)) λx c e=>?_;unfold jE at e
  dsimp only at e
  cases hk:(k==NameKind.free) with
  |false=>rw [hk,if_neg yS] at e;exact h x c e
  |true =>
   rw [hk,if_pos rfl] at e;obtain ⟨c0,e0⟩:=hl (n,k) yT (by simpa using hk);cases hx:x==n with
   |true =>
    rw [uP,hx] at e;have hx':x=n:=by simpa using hx
    subst hx';have e':(List.lookup x env.cells).getD 0=c:=Option.some.inj e;have e0':List.lookup x env.cells=some c0:=e0;rw [e0'] at e';rw [e0',<- e'];rfl
   |false=>rw [uP,hx] at e;exact h x c e
theorem Kk (env:Env)(x:Str):∀(l:List (Str×NameKind))(cs:List (Str×Addr)),(∃ c,cs.lookup x=some c)->∃ c,(l.foldl (λb a=>jE env a b) cs).lookup x=some c
 |[],_,h=>h
 |(n,k)::l,cs,h=>by
  refine Kk env x l _ ?_;unfold jE
  dsimp only
  split
  ·rw [uP];cases hx:x==n with
   |true=>exact ⟨_,rfl⟩
   |false=>exact h
  ·exact h
theorem Ki (env:Env):∀(l:List (Str×NameKind))(cs:List (Str×Addr)),∀ y∈l,y.2 = .free->∃ c,(l.foldl (λb a=>jE env a b) cs).lookup y.1=some c
 |[],_,_,h,_=>nomatch h
 |z::l,cs,y,h,hf=>by
  rcases yJ.mp h with e|h
  ·subst e;refine Kk env y.1 l _ ?_;unfold jE
   dsimp only
   rw [hf,if_pos (by rfl),uP,beq_self_eq_true];exact ⟨_,rfl⟩
  ·exact Ki env l _ y h hf
theorem Kl (h:∀ y∈scope.names,y.2 = .free->∃ c,env.cells.lookup y.1=some c):∃ cl,closureFor scope env=pure cl/\(∀ x c,cl.lookup x=some c->env.cells.lookup x=some c)/\∀ y∈scope.names,y.2 = .free->∃ c,cl.lookup y.1=some c:=by
 refine ⟨scope.names.foldl (λb a=>jE env a b) [],?_,Kj env _ _ h (λx c e=>by cases e),Ki env _ _⟩;simp only [closureFor];rw [KW (jE env) scope.names [] (λy hy b=>?_)]
 ·rfl
 ·obtain ⟨n,k⟩:=y;unfold jE;cases hk:(k==NameKind.free) with
  |false=>simp only [hk,Bool.false_eq_true,if_false]<;>rfl
  |true=>obtain ⟨c,e⟩:=h (n,k) hy (by simpa using hk);have e':List.lookup n env.cells=some c:=e;simp only [hk,if_true,cellOf,e'];rfl
theorem PL (env:Env)(n:Str)(k:NameKind)(r:List (Str×NameKind))(x:Str):((List.map (λ(n,k)=>if (k==NameKind.free&&env.scope.kind == .function&&env.kindOf n==some .cell) then (n,NameKind.cell) else (n,k)) ((n,k)::r)).lookup x) = (if x==n then some (if (k==NameKind.free&&env.scope.kind == .function&&env.kindOf n==some .cell) then NameKind.cell else k) else (List.map (λ(n,k)=>if (k==NameKind.free&&env.scope.kind == .function&&env.kindOf n==some .cell) then (n,NameKind.cell) else (n,k)) r).lookup x):=by
 rw [yO];show List.lookup x ((if (k==NameKind.free&&env.scope.kind == .function&&env.kindOf n==some .cell)=true then (n,NameKind.cell) else (n,k))::_)=_;by_cases hc:(k==NameKind.free&&env.scope.kind == .function&&env.kindOf n==some .cell)=true
 ·rw [if_pos hc,if_pos hc,uP];cases x==n<;>rfl
 ·rw [if_neg hc,if_neg hc,uP];cases x==n<;>rfl
theorem PN {env:Env}{x:Str}{k:NameKind}:∀{names:List (Str×NameKind)}, (names.map λ(n,k)=>if (k==NameKind.free&&env.scope.kind == .function&&env.kindOf n==some .cell) then (n,NameKind.cell) else (n,k)).lookup x=some k -> ∃ k',names.lookup x=some k'/\(k'=k∨(k' = .free/\k = .cell))
 |[],h=>by simp at h
 |(n,q)::r,h=>by
  rw [PL] at h;rw [uP];cases hx:x==n with
  |true =>
   rw [hx,if_pos rfl] at h;have h':=Option.some.inj h;refine ⟨q,rfl,?_⟩;by_cases hc:(q==NameKind.free&&env.scope.kind == .function&&env.kindOf n==some .cell)=true
   ·rw [if_pos hc] at h';have hq:(q==NameKind.free)=true:=by
     cases z:(q==NameKind.free) with
     |true=>rfl
     |false=>rw [z] at hc;simp at hc
    exact .inr ⟨by simpa using hq,h'.symm⟩
   ·rw [if_neg hc] at h';exact .inl h'
  |false=>rw [hx,if_neg yS] at h;exact PN h
theorem PM {env:Env}{x:Str}:∀{names:List (Str×NameKind)},names.lookup x=some .free -> (names.map λ(n,k)=>if (k==NameKind.free&&env.scope.kind == .function&&env.kindOf n==some .cell) then (n,NameKind.cell) else (n,k)).lookup x=some .cell∨(names.map λ(n,k)=>if (k==NameKind.free&&env.scope.kind == .function&&env.kindOf n==some .cell) then (n,NameKind.cell) else (n,k)).lookup x=some .free
 |[],h=>by simp at h
 |(n,q)::r,h=>by
  rw [PL];rw [uP] at h;cases hx:x==n with
  |true =>
   rw [hx] at h;have h':q = .free:=Option.some.inj h;rw [if_pos rfl];by_cases hc:(q==NameKind.free&&env.scope.kind == .function&&env.kindOf n==some .cell)=true
   ·rw [if_pos hc];exact .inl rfl
   ·rw [if_neg hc,h'];exact .inr rfl
  |false=>rw [hx] at h;rw [if_neg yS];exact PM h
def i9 (cap:List (Option Nat))(σ:St):St:=cap.map λo=>o.bind λi=>(σ[i]?).join
structure wO (X:Cx)(N':List Str)(cap:List (Option Nat))(sc:Scope):Prop where
 kind:sc.kind = .function
 nocell:∀ y∈sc.names,y.2 ≠ .cell
 names:∀ y∈sc.names,y.2 = .local->sc.names.lookup y.1=some .local
 free:∀ y∈sc.names,y.2 = .free->X.env.kindOf y.1=some .cell∨X.env.kindOf y.1=some .free
 len:cap.length=N'.length
 cap:∀(j i:Nat),cap[j]?=some (some i)->∃ x,N'[j]?=some x/\X.N[i]?=some x/\sc.names.lookup x=some .free
def Bu:Option NameKind->Bool
 |some .cell=>true
 |some .free=>true
 |_=>false
theorem Nk {k:Option NameKind}(h:Bu k=true):k=some .cell∨k=some .free:=by
 cases k with
 |none=>cases h
 |some k=>cases k<;>first|exact .inl rfl|exact .inr rfl|cases h
def Jr (names:List (Str×NameKind))(kd:Str->Option NameKind)(y:Str×NameKind):Bool :=
 match y.2 with
 | .cell=>false
 | .local=>names.lookup y.1==some .local
 | .free=>Bu (kd y.1)
 |_=>true
def jo (N:List Str)(sc:Scope):List Str->List (Option Nat)->Bool
 |[],[]=>true
 |_::r,none::c=>jo N sc r c
 |x::r,some i::c=>N[i]?==some x&&(sc.names.lookup x==some .free&&jo N sc r c)
 |_,_=>false
theorem Vk {N:List Str}{sc:Scope}:∀{xs:List Str}{c:List (Option Nat)},jo N sc xs c=true->c.length=xs.length
 |[],[],_=>rfl
 |_::r,none::c,h=>by
  have h':jo N sc r c=true:=h;simp [Vk h']
 |x::r,some i::c,h=>by
  have h':(N[i]?==some x&&(sc.names.lookup x==some .free&&jo N sc r c))=true:=h;simp only [yi] at h';simp [Vk h'.2.2]
 |[],_::_,h=>by cases h
 |_::_,[],h=>by cases h
theorem Vj {N:List Str}{sc:Scope}:∀{xs:List Str}{c:List (Option Nat)},jo N sc xs c=true->∀(j i:Nat),c[j]?=some (some i)->∃ x,xs[j]?=some x/\N[i]?=some x/\sc.names.lookup x=some .free
 |[],[],_,j,i,e=>by simp at e
 |_::r,none::c,h,0,i,e=>by simp at e
 |_::r,none::c,h,j+1,i,e=>by
  have h':jo N sc r c=true:=h;obtain ⟨x,h1,h2⟩:=Vj h' j i (by simpa using e);exact ⟨x,by simpa using h1,h2⟩
 |x::r,some k::c,h,0,i,e=>by
  have h':(N[k]?==some x&&(sc.names.lookup x==some .free&&jo N sc r c))=true:=h;simp only [yi] at h';have e':k=i:=by simpa using e
  subst e';exact ⟨x,rfl,by simpa using h'.1,by simpa using h'.2.1⟩
 |x::r,some k::c,h,j+1,i,e=>by
  have h':(N[k]?==some x&&(sc.names.lookup x==some .free&&jo N sc r c))=true:=h;simp only [yi] at h';obtain ⟨x',h1,h2⟩:=Vj h'.2.2 j i (by simpa using e);exact ⟨x',by simpa using h1,h2⟩
 |[],_::_,h,_,_,_=>by cases h
 |_::_,[],h,_,_,_=>by cases h
theorem f6 {N':List Str}{cap:List (Option Nat)}{sc:Scope}(h1:sc.kind = .function)(h2:(sc.names.all λy=>Jr sc.names X.env.kindOf y)=true)(h3:jo X.N sc N' cap=true):wO X N' cap sc:=by
 have h2':=uE.mp h2;refine ⟨h1,λy hy e=>?_,λy hy e=>?_,λy hy e=>?_,Vk h3,Vj h3⟩
 ·have q:=h2' y hy;unfold Jr at q;rw [e] at q;cases q
 ·have q:=h2' y hy;unfold Jr at q;rw [e] at q;simpa using q
 ·have q:=h2' y hy;unfold Jr at q;rw [e] at q;exact Nk q
def xc (X:Cx)(N':List Str)(sc:Scope)(cl:List (Str×Addr))(C:Addr)(s:Shared)(H:Hp)(fp:List Addr)(pn:List (Addr×Obj)):Cx where
 prog:=X.prog
 w:=X.w
 K:=X.K
 mg:=X.mg
 base:=X.base
 A:=X.A
 N:=N'
 s₀:=s
 H₀:=H
 env:=compEnvC sc cl C X.env
 outer:=X.stack
 stack:=X.stack
 ex:=fp
 fn:=λ_=>false
 calm:=X.calm
 pn:=pn
 xe:=λ_ _=>False
section
variable {X:Cx}{pins:List (Addr×Obj)}{σ:St}{H:Hp}{s:Shared}{h1:Heap}{N':List Str}{cap:List (Option Nat)}{sc:Scope}{cl:List (Str×Addr)}{fp:List Addr}{C D:Addr}
theorem Mq (I:Inv X pins σ H s)(S:wO X N' cap sc)(hc1:∀ x c,cl.lookup x=some c->X.env.cells.lookup x=some c)(hc2:∀ y∈sc.names,y.2 = .free->∃ c,cl.lookup y.1=some c)(hf:∀ b∈fp,xL X pins H b)(ho:∀ b∈fp,b<s.heap.objs.size)(hC:s.heap.objs.size<=C):(xc X N' sc cl C s H fp (X.pn++pins)).Ok where
 mod:=I.ok.mod
 kind:=S.kind
 glob:=I.ok.glob
 blt:=I.ok.blt
 above:=hC
 inj:=λx y c e1 e2=>I.ok.inj x y c (hc1 x c e1) (hc1 y c e2)
 has:=λx hx=>by
  have key:∀ k,(relabel sc X.env).names.lookup x=some k->(k = .cell∨k = .free)->∃ c,cl.lookup x=some c:=λk e hk=>by
   obtain ⟨k',e',q⟩:=PN e;have hm:=PySem.mem_of_lookup e';have hfree:k' = .free:=by
    rcases q with q|q
    ·rcases hk with z|z
     ·exact absurd (q.trans z) (S.nocell _ hm)
     ·exact q.trans z
    ·exact q.1
   exact hc2 (x,k') hm hfree
  rcases hx with e|e
  ·exact key _ e (.inl rfl)
  ·exact key _ e (.inr rfl)
 cab:=λx c hx _=>by cases hx
 hd:=I.ok.hd
 frames:=I.ok.frames
 stk:= .inl rfl
 exf:=λb hb=>⟨yL (yF (ho b hb) hC),λx c e=>(hf b hb).2.2.2.2.1 x c (hc1 x c e)⟩
 bs:=I.bs
 bsz:=yj I.ok.bsz I.sz
 noex:=λb o e hb=>by
  rcases (hf b hb).2.2.2.1 with z|z
  ·exact I.ok.noex b o e z
  ·exact absurd (yF (yQ e) (yj I.ok.bsz z)) (uF _)
 exfs:=λb hb hz=>by
  rcases yJ.mp (I.stkSub b hz) with e|e
  ·exact (hf b hb).2.1 e
  ·exact (hf b hb).2.2.1 e
 funs:=I.stack
 frf:=I.stkFree
 tbs:=λp hp=>I.base.tbls _ _ _ (I.ok.tbs p hp)
theorem LE {m0:Str->Option Value}{o:Obj}(I:Inv X pins σ H s)(S:wO X N' cap sc)(hc1:∀ x c,cl.lookup x=some c->X.env.cells.lookup x=some c)(hc2:∀ y∈sc.names,y.2 = .free->∃ c,cl.lookup y.1=some c)(hf:∀ b∈fp,xL X pins H b)(ho:∀ b∈fp,b<s.heap.objs.size)(hD:s.heap.objs.size<=D)(hC:D<C)(hDo:h1.get? D=some o)(hoc:∀ v,o.data ≠ .cell v)(hns:h1.Ns C m0)(hk:∀ b o,s.heap.get? b=some o->h1.get? b=some o)(t:Nat):Inv (xc X N' sc cl C s H fp (X.pn++pins)) [(D,o)] (i9 cap σ) H { s with heap:=h1,toks:=t }:=by
 have hCs:s.heap.objs.size<=C:=yj hD (uL hC);have lt_s:∀ b o,s.heap.get? b=some o->b≠C:=λb o e=>yL (yF (yQ e) hCs);refine ⟨Mq I S hc1 hc2 hf ho hCs,rfl,I.bare,Un.kept hk,⟨m0,hns,λj x v e1 e2 e3=>?_⟩,λx c e=>?_,I.hok.fresh hCs,λx c e=>I.freeC x c (hc1 x c e),λp hp=>?_,I.hok.kept hk,?_⟩
 ·obtain ⟨i,hi,hσ⟩:∃ i,cap[j]?=some (some i)/\σ[i]?=some (some v):=by
   unfold i9 at e2;rw [yP] at e2;cases hc:cap[j]? with
   |none=>rw [hc] at e2;cases e2
   |some o' =>
    rw [hc] at e2;have e2':(o'.bind λi=>(σ[i]?).join)=some v:=Option.some.inj e2;cases o' with
    |none=>cases e2'
    |some i =>
     refine ⟨i,rfl,?_⟩;have e3':(σ[i]?).join=some v:=e2';cases hs:σ[i]? with
     |none=>rw [hs] at e3';cases e3'
     |some q=>rw [hs] at e3';exact congrArg some e3'
  obtain ⟨x',n1,n2,n3⟩:=S.cap j i hi;have e1':N'[j]?=some x:=e1;rw [n1] at e1';obtain rfl:x'=x:=Option.some.inj e1';have hkd:=S.free (x',.free) (PySem.mem_of_lookup n3) rfl;obtain ⟨m,_,hl⟩:=I.loc;obtain ⟨u,r,l⟩:=hl i x' v n2 hσ (by
   rcases hkd with z|z
   ·exact .inr (.inl z)
   ·exact .inr (.inr z))
  refine ⟨u,r,?_⟩;rcases l with ⟨l1,_⟩|⟨_,c,ec,hcell⟩
  ·rcases hkd with z|z
   ·exact absurd (l1.symm.trans z) (by simp)
   ·exact absurd (l1.symm.trans z) (by simp)
  ·obtain ⟨c',ec'⟩:=hc2 (x',.free) (PySem.mem_of_lookup n3) rfl;have q:=hc1 x' c' ec';rw [ec] at q;obtain rfl:c=c':=Option.some.inj q;refine .inr ⟨PM n3,c,ec',?_⟩;obtain ⟨oc,hoc',hd⟩:=hcell;exact ⟨oc,hk _ _ hoc',hd⟩
 ·obtain ⟨v,oc,hoc',hd⟩:=I.cell x c (hc1 x c e);exact ⟨v,oc,hk _ _ hoc',hd⟩
 ·rcases uY.mp hp with hp|hp
  ·obtain ⟨e,n,ne,nf,d⟩:=I.pin p hp;refine ⟨hk _ _ e,n,lt_s _ _ e,λhz=>?_,d⟩;rcases yJ.mp (I.stkSub _ hz) with e'|e'
   ·exact ne e'
   ·exact nf e'
  ·have e:p=(D,o):=by simpa using hp
   subst e;refine ⟨hDo,I.hok.fresh hD,yL hC,λhz=>?_,hoc⟩;rcases yJ.mp (I.stkSub _ hz) with e'|e'
   ·exact absurd (yF I.lt hD) (by rw [show X.env.locals=D from e'.symm];exact uF _)
   ·exact I.nofs hD e'
 ·unfold i9;rw [yZ];exact S.len
end
structure Wk (σ σ':St):Prop where
 len:σ.length=σ'.length
 at':∀(i:Nat) v,σ[i]?=some (some v)->σ'[i]?=some (some v)
theorem Wk.refl (σ:St):Wk σ σ:=⟨rfl,λ_ _ h=>h⟩
theorem Wk.set {σ':St}{i:Nat}(w:Wk σ σ')(h:σ[i]?=some none):Wk σ (σ'.set i o):=by
 refine ⟨by rw [yg];exact w.len,λj v e=>?_⟩;have ne:i≠j:=λz=>by rw [<- z,h] at e;cases e
 rw [yq ne];exact w.at' j v e
theorem Wk.one {i:Nat}(h:σ[i]?=some none):Wk σ (σ.set i o):=(Wk.refl σ).set h
def PTs (X:Cx)(ifs:List Expr)(t:TT):Prop :=
 ∀(pins:List (Addr×Obj))(s:Shared)(σ:St)(H:Hp)(Q:Bool->Hp->Prop),Inv X pins σ H s->t σ H Q ->
  wpAny (model X.prog X.w) X.A (forIn ifs true λc r=>if r=true then do let ok <- isTrue c X.env (eval c X.env);pure (ForInStep.yield ok) else pure (ForInStep.yield r)) (TP X pins σ Q) X.xe s
def tYes:TT:=λ_ H Q=>Q true H
theorem o8 :PTs X [] tYes:=λ_ _ _ H _ I h=>wpAny_tests_nil ⟨H,I,h⟩
theorem Pj {t:TT}(h:PT X c t):PTs X [c] t:=λpins s σ H Q I q=>wpAny_tests_one (h pins s σ H Q I q)
def Uu (J:It)(g:TG)(tt:TT)(te:TE)(Q:VK)(σ0:St)(H1:Hp):Prop:=∃ W:Nat->Nat->List V->Hp->Prop,(∃ m,W 0 m [] H1)/\∀ i m ys H,W i m ys H->ys.length<=sizeLine /\
  ((J.stop i H/\∀ D,H D=none->Q (.ref D) (w6 H D (.lst ys))) ∨
   (J.go i H/\∀ x H',J.yld i H x H'->g x σ0 H' λσ2 H2=>Wk σ0 σ2/\tt σ2 H2 λb H3 =>
      if b=true then te σ2 H3 λv H4=>∃ m',m'<m/\W (i+1) m' (ys++[v]) H4 else ∃ m',m'<m/\W (i+1) m' ys H3))
def JJ (wi:TI)(g:TG)(tt:TT)(te:TE)(cap:List (Option Nat)):TE:=λσ H Q=>wi σ H λJ H1=>Uu J g tt te Q (i9 cap σ) H1
section
variable {X:Cx}{pins:List (Addr×Obj)}{σ:St}{s₂:Shared}{N':List Str}{cap:List (Option Nat)}{sc:Scope}{cl:List (Str×Addr)}{fp:List Addr}
theorem Ko {g:TG}{Q:VK}{H2:Hp}{it:Addr}{tn:Nat->Heap->Prop}{J:It}{E:Value->Shared->Prop}{RR:Value->Addr->Result->Shared->Prop}(S:wO X N' cap sc)(hc:X.calm=true)(hc1:∀ x c,cl.lookup x=some c->X.env.cells.lookup x=some c)(hc2:∀ y∈sc.names,y.2 = .free->∃ c,cl.lookup y.1=some c)(hg:∀ C pn,PG (xc X N' sc cl C s₂ H2 fp pn) tg g)(ht:∀ C pn,PTs (xc X N' sc cl C s₂ H2 fp pn) ifs tt)(he:∀ C pn,PE (xc X N' sc cl C s₂ H2 fp pn) elt te)(I2:Inv X pins σ H2 s₂)(T:Turn X.prog X.w X.K tg J fp it tn)(st2:tn 0 s₂.heap)(f2:∀ b∈fp,xL X pins H2 b)(W:Nat->Nat->List V->Hp->Prop)(w0:∃ m,W 0 m [] H2)(turn:∀ i m ys H,W i m ys H->ys.length<=sizeLine /\ ((J.stop i H/\∀ D,H D=none->Q (.ref D) (w6 H D (.lst ys)))∨(J.go i H/\∀ x H',J.yld i H x H'->g x (i9 cap σ) H' λσ2 H2=>Wk (i9 cap σ) σ2/\tt σ2 H2 λb H3 => if b=true then te σ2 H3 λv H4=>∃ m',m'<m/\W (i+1) m' (ys++[v]) H4 else ∃ m',m'<m/\W (i+1) m' ys H3)))(hRR:∀ D C H' s' m,Inv X pins σ H' s'->s'.heap.Ns C m->xL X pins H' C->Q (.ref D) H'->RR (.ref D) C (.ok .next) s'):wpAny (model X.prog X.w) X.A (newList []) (λacc s₃=>wpAny (model X.prog X.w) X.A (newFunctionEnv sc X.env.globals cl [] X.env.qual none .none (some X.env)) (λcenv s₄ => codeAny (model X.prog X.w) X.A (.compStart (.ListComp elt [⟨tg,iter,ifs,0⟩] sc pos) 0 (.ref it) acc { cenv with scope:=relabel sc X.env }) (RR acc cenv.locals) s₄) E s₃) E s₂:=by
  refine wpAny_newObj_type (wpAny_newFunctionEnv S.nocell (by intro y hy;simp at hy) (λh₁ hns₁ hsb₁=>?_) S.kind)
  dsimp only at hns₁ hsb₁ ⊢
  generalize hG:s₂.heap.push { cls:= .type "list",dict:=none,data:= .seq ([]:List Value).toArray }=G at hns₁ hsb₁ ⊢;have hC:G.objs.size=s₂.heap.objs.size+1:=by rw [<- hG,ux]
  have hDC:s₂.heap.objs.size<G.objs.size:=by rw [hC];exact uk _
  have old:∀ b o,s₂.heap.get? b=some o->h₁.get? b=some o:=λb o e =>
    hsb₁.extBut b o (yL (Nat.lt_trans (yQ e) hDC)) (yU _ (hG▸yU _ e))
  have hacc:h₁.get? s₂.heap.objs.size=some (LCg.lst []):=hsb₁.extBut _ _ (yL hDC) (yU _ (hG▸yD _ rfl));have fl:∀ b∈fp,b<s₂.heap.objs.size:=λb hb=>by obtain ⟨o,e,_⟩:=T.obj _ _ st2 b hb;exact yQ e
  have seqd:∀(us:List Value) v,(LCg.lst us).data ≠ .cell v:=λus v z=>by cases z
  have cellt:∀ x c,cl.lookup x=some c->c<s₂.heap.objs.size:=λx c e=>by obtain ⟨v,oc,ho,_⟩:=I2.cell x c (hc1 x c e);exact yQ ho
  have pint:∀ p∈X.pn++pins,p.1<s₂.heap.objs.size:=λp hp=>yQ (I2.pin p hp).1;have I0:Inv (xc X N' sc cl G.objs.size s₂ H2 fp (X.pn++pins)) [(s₂.heap.objs.size,LCg.lst [])] (i9 cap σ) H2 { s₂ with heap:=h₁,toks:=s₂.toks+([]:List (Str×Value)).length } :=
    LE I2 S hc1 hc2 f2 fl (yW _) hDC hacc (seqd []) hns₁ old _
  have stat:∀{H':Hp}{us:List Value},(∀ b∈fp,H' b=none)->∀ b∈fp,xL (xc X N' sc cl G.objs.size s₂ H2 fp (X.pn++pins)) [(s₂.heap.objs.size,LCg.lst us)] H' b:=λ{H' us} hn b hb=>by
    obtain ⟨f0,f1,f2',f3,f4,f5⟩:=f2 b hb;refine ⟨hn b hb,yL (Nat.lt_trans (fl b hb) hDC),λhz=>?_,.inl hb,λx c e=>f4 x c (hc1 x c e),λp hp=>?_⟩
    · rcases yJ.mp (I2.stkSub b hz) with e|e
      · exact f1 e
      · exact f2' e
    · rcases uY.mp hp with hp|hp
      · exact f5 p hp
      · have e:p=(s₂.heap.objs.size,LCg.lst us):=by simpa using hp
        rw [e];exact Ne.symm (yL (fl b hb))
  have loop:∀ s₃:Shared,s₃={ s₂ with heap:=h₁,toks:=s₂.toks+([]:List (Str×Value)).length } ->
      codeAny (model X.prog X.w) X.A (.compLoop (.ListComp elt [⟨tg,iter,ifs,0⟩] sc pos) 0 (.ref it) (.ref s₂.heap.objs.size) (compEnvC sc cl G.objs.size X.env)) (RR (.ref s₂.heap.objs.size) G.objs.size) s₃:=by
    rintro s₃ rfl;obtain ⟨m0,w0⟩:=w0;refine Mm
      (λn s'=>∃ i ys us H',Inv (xc X N' sc cl G.objs.size s₂ H2 fp (X.pn++pins)) [(s₂.heap.objs.size,LCg.lst us)] (i9 cap σ) H' s'/\Vals ys us/\tn i s'.heap/\(∀ b∈fp,H' b=none)/\W i n ys H') ?_ m0
      ⟨0,[],[],H2,I0,.nil,T.keep _ _ _ st2 λb _ o e=>old b o e,λb hb=>(f2 b hb).1,w0⟩
    rintro n s3 ⟨i,ys,us,H3,I3,rv,st3,fr3,w3⟩;obtain ⟨hz,alt⟩:=turn i n ys H3 w3;rcases alt with ⟨stop,fin⟩|⟨go,step⟩
    · refine v6 (T.done (xc X N' sc cl G.objs.size s₂ H2 fp (X.pn++pins)) rfl rfl rfl hc i _ s3 _ H3 _ I3 (stat fr3) st3 stop) λr s4 ⟨hr,I4⟩=>?_
      subst hr;obtain ⟨gD,nD,_,_,_⟩:=I4.pin (s₂.heap.objs.size,LCg.lst us) (yu _ (yI.mpr rfl));have nD':H3 s₂.heap.objs.size=none:=nD;have gD':s4.heap.get? s₂.heap.objs.size=some (LCg.lst us):=gD;have b4:Un (frs X.stack) fp H2 H3 s₂.heap s4.heap:=I4.base;have n2:H2 s₂.heap.objs.size=none:=I2.hok.fresh (yW _);have un:Un (frs X.stack) fp H2 (w6 H3 s₂.heap.objs.size (.lst ys)) s₂.heap s4.heap :=
        ⟨b4.keep,b4.slot,λb o e n hx=>by rw [w4 (yL (yQ e))];exact b4.free b o e n hx,b4.there,
          λb xs e=>by rw [w4 (k4 e n2)];exact b4.tups b xs e,λb o u e=>by rw [w4 (k4 e n2)];exact b4.frzs b o u e,
          λb ps q e=>by rw [w4 (k4 e n2)];exact b4.tbls b ps q e⟩
      have hok:HOk X.prog X.w (w6 H3 s₂.heap.objs.size (.lst ys)) s4.heap:=λb u e=>by
        by_cases hb:b=s₂.heap.objs.size
        · subst hb
          rw [g8] at e;cases e;exact ⟨hz,us,us.length,rv,gD'⟩
        · rw [w4 hb] at e
          exact (I4.hok b u e).stay (λc v _ q=>q) (λc q=>by rw [w4 (k4 q nD')];exact q) (λc xs q=>by rw [w4 (k4 q nD')];exact q) λc _ _ q=>by rw [w4 (k4 q nD')];exact q
      have IF:Inv X pins σ (w6 H3 s₂.heap.objs.size (.lst ys)) s4:=I2.call' (ch:=fp) I4.os un hok I4.bare λb hb=>by
        obtain ⟨f0,f1,f2',f3,f4,f5⟩:=f2 b hb;exact ⟨f3,f1,f4,f5⟩
      obtain ⟨mF,hnF,_⟩:=I4.loc;refine hRR _ _ _ _ mF IF hnF (I2.fpOk (uL hDC) ?_) (fin _ nD');rw [w4 (Ne.symm (yL hDC))];exact I4.free
    · refine v6 (T.item (xc X N' sc cl G.objs.size s₂ H2 fp (X.pn++pins)) rfl rfl rfl hc i _ s3 _ H3 _ I3 (stat fr3) st3 go) λr s4 ⟨u,hr,h4⟩=>?_
      subst hr;refine v6 h4 λ_ s5 ⟨x,H5,I5,r5,y5,st5,fr5⟩=>?_;have I5':=I5.pinned (stat fr5) (T.obj _ _ st5);refine v6 (hg G.objs.size (X.pn++pins) _ s5 _ H5 x u _ I5' r5 (step x H5 y5)) λ_ s6 ⟨σ6,H6,I6,wk,q6⟩=>?_;refine v6 (ht G.objs.size (X.pn++pins) _ s6 σ6 H6 _ I6 q6) λok s7 ⟨H7,I7,q7⟩=>?_;have back:∀{σ8:St}{H8:Hp}{s8:Shared}{us8:List Value},Inv (xc X N' sc cl G.objs.size s₂ H2 fp (X.pn++pins)) ([(s₂.heap.objs.size,LCg.lst us8)]++XW fp s5.heap) σ8 H8 s8 ->
          tn (i+1) s8.heap/\∀ b∈fp,H8 b=none:=λ{σ8 H8 s8 us8} I8=>by
        refine ⟨T.keep _ _ _ st5 λb hb o e=>(I8.pin (b,o) (yu _ (yu _ (Jq hb e)))).1,λb hb=>?_⟩;obtain ⟨o,e,d⟩:=T.obj _ _ st5 b hb;exact (I8.pin (b,o) (yu _ (yu _ (Jq hb e)))).2.1
      cases ok with
      |false=>obtain ⟨m',hm,w7⟩:=q7;obtain ⟨t7,f7⟩:=back I7;exact ⟨m',hm,i+1,ys,us,H7,I7.unpinned.weak wk.len wk.at',rv,t7,f7,w7⟩
      |true =>
        refine v6 (he G.objs.size (X.pn++pins) _ s7 σ6 H7 _ I7 q7) λuv s8 ⟨v,H8,I8,r8,m',hm,w8⟩=>?_;obtain ⟨t8,f8⟩:=back I8;obtain ⟨gD,nD,lD,fD,_⟩:=I8.pin (s₂.heap.objs.size,LCg.lst us) (yu _ (uQ _ (yI.mpr rfl)));have gD':s8.heap.get? s₂.heap.objs.size=some { cls:= .type "list",data:= .seq us.toArray us.length }:=gD;refine append_at (hsz:=by rw [yX,<- rv.length];exact hz) gD' λh9 hs9 hD9=>?_;have I8a:Inv (xc X N' sc cl G.objs.size s₂ H2 fp (X.pn++pins)) [] σ6 H8 s8:=I8.pins_of λp hp=>nomatch hp;have I9:Inv (xc X N' sc cl G.objs.size s₂ H2 fp (X.pn++pins)) [] σ6 H8 { s8 with heap:=h9,toks:=s8.toks } :=
          I8a.turned (it:=s₂.heap.objs.size) (λb o hb e=>hs9.extBut b o hb e) nD lD (.inr (yW _)) (λx c e=>yL (cellt x c e)) λp hp=>by
            rw [yp] at hp;exact yL (pint p hp)
        have I10:Inv (xc X N' sc cl G.objs.size s₂ H2 fp (X.pn++pins)) [(s₂.heap.objs.size,LCg.lst (us++[uv]))] σ6 H8 { s8 with heap:=h9,toks:=s8.toks }:=I9.pins_of λp hp=>by
          have e:p=(s₂.heap.objs.size,LCg.lst (us++[uv])):=by simpa using hp
          subst e;exact ⟨hD9.trans (congrArg some (LCg.lst_snoc us uv)),nD,lD,fD,seqd _⟩
        refine ⟨m',hm,i+1,ys++[v],us++[uv],H8,I10.weak wk.len wk.at',rv.append (.cons r8 .nil),T.keep _ _ _ t8 λb hb o e=>hs9.extBut b o (yL (fl b hb)) e,f8,w8⟩
  have st1:tn 0 h₁:=T.keep _ _ _ st2 λb _ o e=>old b o e;exact codeAny_compStart_list (loop _ rfl) (T.self _ 0 _ _ _ st1 (loop _ rfl))
theorem qw {g:TG}(S:wO X N' cap sc)(hc:X.calm=true)(hi:PI X tg iter wi)(hg:∀ cl C s H fp pn,PG (xc X N' sc cl C s H fp pn) tg g)(ht:∀ cl C s H fp pn,PTs (xc X N' sc cl C s H fp pn) ifs tt)(he:∀ cl C s H fp pn,PE (xc X N' sc cl C s H fp pn) elt te)(hs:∀ x,foldedSetIterable iter X.env x=pure x:=by intro _;rfl):PE X (.ListComp elt [⟨tg,iter,ifs,0⟩] sc pos) (JJ wi g tt te cap):=by intro pins s σ H Q I h;rw [eval_ListComp];obtain ⟨cl,hcl,hc1,hc2⟩:=Kl (scope:=sc) (env:=X.env) λy hy e=>I.ok.has y.1 (S.free y hy e);refine wpAny_comprehension_free (use:=none) rfl hs hcl S.kind S.names (v6 (hi pins s σ H _ I h) λv s1 h1=>v6 h1 λitv s2 h2=>?_);obtain ⟨it,fp,tn,J,H2,e,I2,T,st2,f2,W,w0,turn⟩:=h2;subst e;refine Ko (RR:=λacc C=>compPost (model X.prog X.w) X.A X.xe none (EP X pins σ Q) acc C) S hc hc1 hc2 (λC pn=>hg cl C s2 H2 fp pn) (λC pn=>ht cl C s2 H2 fp pn) (λC pn=>he cl C s2 H2 fp pn) I2 T st2 f2 W w0 turn ?_;intro D C H' s' m I' hn F q;obtain ⟨f0,f1,f2',f3,f4,f5⟩:=F;exact ⟨m,hn,λh' hs'=>⟨.ref D,H',I'.turned (t':=s'.toks) (λb o hb e=>hs'.extBut b o hb e) f0 f1 f3 f4 f5,rfl,q⟩⟩
theorem wE {i:Nat}{x:Str}{spos pos':Pos}{g:TG}(S:wO X N' cap sc)(hc:X.calm=true)(hN:X.N.Nodup)(hx:X.N[i]?=some x)(hk:X.env.scope.names.lookup x=some .local)(hi:PI X tg iter wi)
  (hg:∀ cl C s H fp pn,PG (xc X N' sc cl C s H fp pn) tg g) (ht:∀ cl C s H fp pn,PTs (xc X N' sc cl C s H fp pn) ifs tt) (he:∀ cl C s H fp pn,PE (xc X N' sc cl C s H fp pn) elt te)
  (hsw:swapsWith (.ListComp elt [⟨tg,iter,ifs,0⟩] sc pos) (some (.Name x pos')) spos.line X.env=pure true:=by rfl)
  (hs:∀ x,foldedSetIterable iter X.env x=pure x:=by intro _;rfl):PS X (.Assign [.Name x pos'] (.ListComp elt [⟨tg,iter,ifs,0⟩] sc pos) spos) (jg (JJ wi g tt te cap) (xh i)):=by
 intro pins s σ H D I h;rw [exec_Assign_Name_used _ _ _ _ hsw];refine yR (wpAny_standAt (yR ?_));show wpAny _ X.A (do let _ <- comprehension (.ListComp elt [⟨tg,iter,ifs,0⟩] sc pos) sc X.env _ (newList []) false (eval iter X.env) (some (assign (.Name x pos') X.env))) _ _ s;obtain ⟨cl,hcl,hc1,hc2⟩:=Kl (scope:=sc) (env:=X.env) λy hy e=>I.ok.has y.1 (S.free y hy e);refine yR (v6 (wpAny_comprehension_free (use:=some (assign (.Name x pos') X.env)) (Q:=λ_ s'=>SP X pins D .next s') rfl hs hcl S.kind S.names
  (v6 (hi pins s σ H _ I h) λv s1 h1=>v6 h1 λitv s2 h2=>?_)) λ_ s' hq=>yx (yx hq))
 obtain ⟨it,fp,tn,J,H2,e,I2,T,st2,f2,W,w0,turn⟩:=h2;subst e;refine Ko (Q:=λv H1=>xh i v σ H1 D.nx) (RR:=λacc C=>compPost (model X.prog X.w) X.A X.xe (some (assign (.Name x pos') X.env)) (λ_ s'=>SP X pins D .next s') acc C) S hc hc1 hc2 (λC pn=>hg cl C s2 H2 fp pn) (λC pn=>ht cl C s2 H2 fp pn) (λC pn=>he cl C s2 H2 fp pn) I2 T st2 f2 W w0 turn ?_;intro E C H' s' m I' hn F q;obtain ⟨f0,f1,f2',f3,f4,f5⟩:=F;show wpAny _ X.A (assign (.Name x pos') X.env (.ref E)) _ _ _;refine wpAny_assign_Name (Cs I' hN hx (.inl hk) (v:= .ref E) rfl (λs'' I'' ch=>?_) (.inr hk));obtain ⟨a,sb,ha⟩:=ch;have nC:C≠a:=by
  rcases ha with z|z
  ·rw [z];exact f1
  ·exact Ne.symm (f4 x a z)
 exact ⟨m,hn.sameBut sb nC,λh' hs'=>⟨_,H',I''.turned (t':=s''.toks) (λb o hb e=>hs'.extBut b o hb e) f0 f1 f3 f4 f5,q⟩⟩
end
section
variable {g:TG}{tt:TT}{te:TE}{Q:VK}{H:Hp}{σ0:St}
theorem Kq {a:Addr}{xs:List V}(Pv:Nat->List V->Hp->Prop)(h0:Pv 0 [] H)(hz:∀ i ys H,i<=xs.length->Pv i ys H->ys.length<=sizeLine)(hl:∀ i ys H,i<=xs.length->Pv i ys H->SqL K H a xs)(hs:∀ i x ys H (R:List V->Hp->Prop),xs[i]?=some x->Pv i ys H->(∀ ys' H',Pv (i+1) ys' H'->R ys' H')->g x σ0 H λσ2 H2=>Wk σ0 σ2/\tt σ2 H2 λb H3=>if b=true then te σ2 H3 λv H4=>R (ys++[v]) H4 else R ys H3)(hd:∀ ys H,Pv xs.length ys H->∀ D,H D=none->Q (.ref D) (w6 H D (.lst ys))):Uu (Itl K a) g tt te Q σ0 H:=by
 refine ⟨λi m ys H=>m=xs.length-i/\i<=xs.length/\Pv i ys H,⟨xs.length,by simp,ya _,h0⟩,?_⟩;rintro i m ys H ⟨rfl,hi,p⟩;have q:=hl i ys H hi p;refine ⟨hz i ys H hi p,?_⟩;by_cases hlt:i<xs.length
 ·refine .inr ⟨⟨xs,xs[i],q,by simp [hlt]⟩,λx H' y=>?_⟩;obtain ⟨e,y⟩:=y;subst e;exact hs i x ys _ (λys' H'=>∃ m',m'<xs.length-i/\m'=xs.length-(i+1)/\i+1<=xs.length/\Pv (i+1) ys' H') (y xs q) p λys' H' p'=>⟨xs.length-(i+1),by omega,rfl,hlt,p'⟩
 ·have e:i=xs.length:=by omega
  subst e;exact .inl ⟨⟨xs,q,yW _⟩,hd ys H p⟩
end
def tyB (T c:String):Option Bool:=if (Value.type T==Value.type c)=true then some true else if PySem.W.kitMeta c=true then (fastBuiltinMro T).map (·.contains (Value.type c)) else none
theorem Nl {T c:String}{b:Bool}(h:tyB T c=some b):PySem.W.kitOne K (.type T) (.type c)=some b:=h
theorem Iy:tyB "int" "int"=some true:=by decide +kernel
theorem Ix:tyB "int" "bool"=some false:=by decide +kernel
theorem Iz:tyB "list" "list"=some true:=by decide +kernel
theorem IA:tyB "str" "str"=some true:=by decide +kernel
theorem zB:bootBuiltins "isinstance"=some (.builtin "isinstance"):=by decide +kernel
theorem zC:bootBuiltins "list"=some (.type "list"):=by decide +kernel
theorem GZ:bootBuiltins "int"=some (.type "int"):=by decide +kernel
theorem GY:bootBuiltins "bool"=some (.type "bool"):=by decide +kernel
theorem Kb:bootBuiltins "str"=some (.type "str"):=by decide +kernel
theorem vW:bootBuiltins "all"=some (.builtin "all"):=by decide +kernel
theorem Vg:bootBuiltins "sum"=some (.builtin "sum"):=by decide +kernel
theorem DP:bootBuiltins "min"=some (.builtin "min"):=by decide +kernel
theorem DO:bootBuiltins "enumerate"=some (.type "enumerate"):=by decide +kernel
theorem DR:bootBuiltins "zip"=some (.type "zip"):=by decide +kernel
section
variable {X:Cx}
theorem DU:CallR X (.builtin "isinstance") (λxs H Q=>∃ x n T b,xs=[x,.ty n]/\xU X.K H x (.type T)/\tyB T n=some b/\Q (.bl b) H):=by intro pins s σ H xs us Q I r h;obtain ⟨x,n,T,b,rfl,ty,e,q⟩:=h;obtain ⟨u,w',rfl,rx,rw'⟩:=Uo r;obtain rfl:w'=Value.type n:=rw';exact LO I rx ty (Nl e) λtk=>⟨.bl b,H,I.tok _,rfl,q⟩
theorem Db:∀{bs:List Bool}{us:List Value}{i:Nat}{u:Value},Vals (bs.map V.bl) us->us[i]?=some u->u = .bool (bs.getD i false)
 |[],_,_,_,.nil,e=>by simp at e
 |b::_,_,0,_,.cons r _,e=>by
  have e':=Option.some.inj e;subst e';exact r
 |_::bs,_,i+1,u,.cons _ t,e=>by
  have q:=Db (i:=i) (u:=u) t (by simpa using e);simpa using q
theorem Dx:∀(bs:List Bool),(List.range bs.length).all (λi=>bs.getD i false)=bs.all id:=by
 intro bs;rw [Bool.eq_iff_iff,uE,uE];constructor
 ·intro h b hb;obtain ⟨i,hi,e⟩:=uH hb;have q:=h i (yw.mpr hi);rw [yB,yY hi] at q;rw [<- e];exact q
 ·intro h i hi;have hi':=yw.mp hi;rw [yB,yY hi'];exact h _ (yA hi')
theorem DS (hc:X.calm=true):CallR X (.builtin "all") (λxs H Q=>∃ (a:Addr) (bs:List Bool),xs=[.ref a]/\SqL X.K H a (bs.map V.bl)/\Q (.bl (bs.all id)) H):=by
 intro pins s σ H xs us Q I r h;obtain ⟨a,bs,rfl,hq,q⟩:=h;obtain ⟨u,rfl,ru⟩:=ji r;obtain rfl:u=Value.ref a:=ru;obtain ⟨its,rv,p,hz⟩:=I.list hq;have hlt:a<s.heap.objs.size:=by obtain ⟨_,_,e,_⟩:=p;exact yQ e
 have hl:s.heap.IsList a its.toArray:=p.isList;refine call_all_walk (wpAny_pyIter_list hl ?_);refine ⟨s.heap.objs.size,_,_,_,_,_,λi=>bs.getD i false,rfl,Walks.list (A:=X.A.in1) (I.ok.hd hc) s.heap.objs.size a (yL hlt) its.toArray,⟨⟨_,yD _ rfl,rfl,rfl⟩,hl.push _⟩,?_,λh' tk k=>?_⟩
 ·intro i v s' Q' E' hP hQ;have e:=Db rv (by simpa using hP);subst e;exact wpAny_truthy_bool hQ
 ·have hn:its.toArray.size=bs.length:=by have e:=rv.length;rw [yZ] at e;rw [yX];exact e.symm
  rw [hn,Dx];refine ⟨.bl (bs.all id),H,I.kept (t':=tk) (λb o e=>k b o (λhm=>?_) (yU _ e)),rfl,q⟩;have e':b=s.heap.objs.size:=by simpa using hm
  exact absurd (yQ e) (by rw [e'];exact uF _)
theorem Dd:∀{ns:List Int}{us:List Value},Vals (ns.map V.int) us->IntsAre us ns
 |[],_,.nil=> .nil
 |n::_,_,.cons ⟨t,e⟩ r=>by
  subst e;exact .cons n t (Dd r)
theorem Ke (hc:X.calm=true):CallR X (.builtin "sum") (λxs H Q=>∃ (a:Addr) (ns:List Int),xs=[.ref a]/\SqL X.K H a (ns.map V.int)/\Q (.int ns.sum) H):=by
 intro pins s σ H xs us Q I r h;obtain ⟨a,ns,rfl,hq,q⟩:=h;obtain ⟨u,rfl,ru⟩:=ji r;obtain rfl:u=Value.ref a:=ru;obtain ⟨its,rv,p,hz⟩:=I.list hq;have hi:=Dd rv;have hl:s.heap.IsList a its.toArray:=p.isList;obtain ⟨xs,ex⟩:=hi.allInts.items;have e2:(numsOf its.toArray.toList).sum=ns.sum:=by rw [show its.toArray.toList=its from rfl,hi.numsOf]
 rw [ex] at hl e2;rw [nums_intItems] at e2;refine sum_intListG (I.ok.hd hc) hl λh' tk t' k=>⟨.int ns.sum,H,I.kept (t':=tk) k,?_,q⟩;rw [preSum_eq,uu (by simp),e2];exact ⟨_,rfl⟩
def vf (_i j:Int):Prop:=0<j/\j.natAbs.log2<9000
theorem Wl:OpR X (binaryOp .FloorDiv) (rI vf λi j=> .int (i / j)):=opI λi j _ _ _ _ _ hc q=>by
 have e:i.fdiv j=i / j:=Int.fdiv_eq_ediv_of_nonneg i (Int.le_of_lt hc.1);exact floordiv_int (Ne.symm (Int.ne_of_lt hc.1)) (by rw [e];exact q) (.inl (PyProof.noPylong_of_log2 hc.2))
def jk (i j:Int):Prop:=Builtin.Int.intBits i<=2 ^ 20/\Builtin.Int.intBits j<=2 ^ 20
theorem jV:OpR X (binaryOp .Mult) (rI jk λi j=> .int (i*j)):=opI λ_ _ _ _ _ _ _ hc q=>mul_int q (IntMulOk.of_bits hc.1 hc.2)
def Its (lo c:Int)(n:Nat):It:=⟨λi _=>i<n,λi H x H'=>H'=H/\x = .int (lo+i*c),λi _=>n<=i⟩
theorem Im {P:Program}{w:World}(it:Addr)(lo c:Int)(n:Nat):Turn P w K tg (Its lo c n) [it] it (λi h=>IsRangeIter h it (lo+(i:Nat)*c) ((n:Int)-(i:Nat)) c) where
 mem:=by simp
 obj:=λi h st b hb=>by
  have e:b=it:=by simpa using hb
  subst e;exact ⟨_,st,λv z=>by
   have z':Data.fields _=Data.cell v:=z;cases z'⟩
 keep:=λi h h' st k=>k it (by simp) _ st
 item:=by intro X hP hw hK hc i pins s σ H E I hf st hg;subst hP hw hK;obtain ⟨f0,f1,f2,f3,f4,f5⟩:=hf it (by simp);have W:=Walks.range (prog:=X.prog) (w:=X.w) (I.ok.hd hc) it lo c n;refine W.item i s _ _ hg st λv h' tk hv st' kk=>?_;obtain ⟨t,rfl⟩:=hv;have I1:Inv X pins σ H { s with heap:=h',toks:=tk }:=I.turned (λb o hb e=>kk b o (by simpa using hb) e) f0 f1 f3 f4 f5;exact ⟨_,rfl,Xt (s:={ s with heap:=h',toks:=tk }) (n:="range_iterator") st' rfl rfl (by decide) ⟨.int (lo+i*c),H,I1,⟨t,rfl⟩,⟨rfl,rfl⟩,st',λb hb=>(hf b hb).1⟩⟩
 done:=by intro X hP hw hK hc i pins s σ H E I hf st hg;subst hP hw hK;obtain ⟨f0,f1,f2,f3,f4,f5⟩:=hf it (by simp);exact wpAny_pyNext_range_end (I.ok.hd hc) st (by have:n<=i:=hg;omega) λh' eb=>⟨rfl,I.turned (t':=s.toks) (λb o hb e=>eb b o hb e) f0 f1 f3 f4 f5⟩
 self:=λ_ _ _ _ _ st h=>wpAny_pyIter_rangeiter st h
def va (i j c:Int):Nat:=(Builtin.Range.rangeSize i j c).toNat
def iRng3 (ta:TA):TI:=λσ H R=>ta σ H λvs H1=>∃ i j c:Int,vs=[.int i,.int j,.int c]/\(0<c/\c<1073741824)/\0<=Builtin.Range.rangeSize i j c/\Builtin.Range.small i j c=true/\R (Its i c (va i j c)) H1
variable {tg:Expr}
theorem RP {a b:Expr}{ta:TA}{p:Pos}(hg:Gl X "range")(hm:X.mg "range"=none)(ha:PA X [a,b,c] ta)(hs:starEach [a,b,c] X.env=[(false,eval a X.env),(false,eval b X.env),(false,eval c X.env)]:=by rfl)(hs2:starEach [b,c] X.env=[(false,eval b X.env),(false,eval c X.env)]:=by rfl):PI X tg (.Call (.Name "range" p) [a,b,c] [] pos) (iRng3 ta):=by
 intro pins s σ H R I h;refine Call_ (vw I hg hm boot_range (PyProof.Rows.callWith_type1 (v6 (ha pos pins s σ H _ I h) λus s1 ⟨vs,H1,I1,r1,q1⟩=>?_) (by rw [hs,hs2]) (by rw [hs2];rfl)));obtain ⟨i,j,c,e,⟨q1,q2⟩,q3,q4,q⟩:=q1;subst e;cases r1 with
 |cons r rr =>
  cases rr with
  |cons r' rr =>
   cases rr with
   |cons r'' rr =>
    cases rr;obtain ⟨t,rfl⟩:=r;obtain ⟨t',rfl⟩:=r';obtain ⟨t'',rfl⟩:=r'';refine call_range_3 (Ne.symm (Int.ne_of_lt q1)) ?_ (.inl (PyProof.noPylong_small (by omega)));refine wpAny_pyIter_range (IsRange.new ..) q4 ?_;have I2:Inv X pins σ H1 { s1 with heap:=s1.heap.push { cls:= .type "range",data:= .fields #[.int i t,.int j t',.int c t''] },toks:=s1.toks }:=I1.kept λb o e=>yU _ e;refine ⟨(s1.heap.push { cls:= .type "range",data:= .fields #[.int i t,.int j t',.int c t''] }).objs.size,[(s1.heap.push { cls:= .type "range",data:= .fields #[.int i t,.int j t',.int c t''] }).objs.size],_,_,H1,rfl,
     I2.kept (t':=s1.toks) λb o e=>yU _ e,Im _ i c (va i j c),?_,λb hb=>?_,q⟩
    ·have e1:i+((0:Nat):Int)*c=i:=by simp
     have e2:((va i j c:Nat):Int)-((0:Nat):Int)=Builtin.Range.rangeSize i j c:=by unfold va;omega
     show IsRangeIter _ _ (i+((0:Nat):Int)*c) (((va i j c:Nat):Int)-((0:Nat):Int)) c;rw [e1,e2];exact yD _ rfl
    ·have e:b=(s1.heap.push { cls:= .type "range",data:= .fields #[.int i t,.int j t',.int c t''] }).objs.size:=by simpa using hb
     subst e;exact I2.fpOk (yW _) (I2.hok.fresh (yW _))
end
theorem La {lo c:Int}{n:Nat}{g:TG}{tb:TS}{D:ze}{H:Hp}(Pv:Nat->St->Hp->Prop)(h0:Pv 0 σ H)(hs:∀ i σ H,i<n->Pv i σ H->g (.int (lo+i*c)) σ H λσ2 H2=>tb { D with nx:=Pv (i+1),ct:=Pv (i+1),bk:=D.nx } σ2 H2)(hd:∀ σ H,Pv n σ H->D.nx σ H):∃ W:Nat->Nat->St->Hp->Prop,(∃ m,W 0 m σ H)/\∀ i m σ H,W i m σ H -> ((Its lo c n).stop i H/\D.nx σ H)∨((Its lo c n).go i H/\∃ N:St->Hp->Prop,(∀ σ' H',N σ' H'->∃ m',m'<m/\W (i+1) m' σ' H')/\∀ x H',(Its lo c n).yld i H x H'->g x σ H' λσ2 H2=>tb { D with nx:=N,ct:=N,bk:=D.nx } σ2 H2):=by
 refine ⟨λi m σ H=>m=n-i/\i<=n/\Pv i σ H,⟨n,by simp,ya _,h0⟩,?_⟩;rintro i m σ H ⟨rfl,hi,p⟩;by_cases hlt:i<n
 ·refine .inr ⟨hlt,Pv (i+1),λσ' H' p'=>⟨n-(i+1),by omega,rfl,hlt,p'⟩,λx H' y=>?_⟩;obtain ⟨e,y⟩:=y;subst e y;exact hs i σ _ hlt p
 ·have e:i=n:=by omega
  subst e;exact .inl ⟨yW _,hd σ H p⟩
section
open PySem.SeqAt
theorem zq {α β:Type}{F:α->β->Prop}:∀{l₁:List α}{l₂:List β},Paired F l₁ l₂->∀(j:Nat)(h1:j<l₁.length)(h2:j<l₂.length),F l₁[j] l₂[j]
 |_,_,.cons r _,0,_,_=>r
 |_,_,.cons _ t,j+1,h1,h2=>zq t j (by simpa using h1) (by simpa using h2)
variable {X:Cx}
end
structure Fn (P:Program)(w:World)(K:Fg)(mg:Str->Option Value)(base:Heap)(k:Nat)(x:Str)(ps:List Str)(sp:Sp):Prop where
 ex:∃ f fd,FnOk P w K mg base v9 k f fd ps sp/\mg x=some (.ref f)/\PySem.W.keepIn K (.ref f)=true/\Binds K fd ps []
section
variable {X:Cx}{k j:Nat}{x:Str}{ps:List Str}{sp:Sp}{e:Expr}{es:List Expr}{t:TA}{p pos:Pos}
theorem qM (c:Fn X.prog X.w X.K X.mg X.base k x ps sp)(hr:Room j X.A)(hj:k<=j)(hg:Gl X x)(ha:PA X (e::es) t)(hdb:(x==("__debug__":Str))=false:=by decide)(he:starEach (e::es) X.env=(false,eval e X.env)::starEach es X.env:=by rfl)(hpl:(backTo pos (starEach es X.env)).any (·.1)=false:=by rfl):PE X (.Call (.Name x p) (e::es) [] pos) (ve sp [] E0 t):=by obtain ⟨f,fd,F,hm,hk,hb⟩:=c.ex;exact Ry F (hr.mono hj) hg hm hk hb .nil Jw ha hdb he hpl
end
end L2
namespace L2
open PySem PySem.Spec PyProof.Rows
variable{p pos px tp:Pos}{a b:Expr}{P:Program}{w:World}{K:Fg}{elts:List Expr}{x1:Nat}{ta:TA}{x:Str}
section
variable {X:Cx}{pins:List (Addr×Obj)}{σ:St}{H:Hp}{s:Shared}{h':Heap}
theorem Inv.turnedL {t':Nat}{ch:List Addr}(I:Inv X pins σ H s)(k:∀ b o,b∉ch->s.heap.get? b=some o->h'.get? b=some o)(hf:∀ b∈ch,xL X pins H b):Inv X pins σ H { s with heap:=h',toks:=t' }:=by
 have nit:∀ b u,H b=some u->b∉ch:=λb u e z=>by rw [(hf b z).1] at e;cases e
 have nL:X.env.locals∉ch:=λz=>(hf _ z).2.1 rfl;refine I.step (g':=s.gens) (d':=s.drawn) (ch:=ch) (λb hb=>?_) (λb o _ _ hc e _=>k b o hc e) (λb o _ _ hc e _=>⟨o.slots,k b o hc e⟩) (λ_ _ _ _ n=>n)
  (λb o hc e=>⟨o,k b o hc e⟩) (λ_ _ e=>e) (λ_ _ _ e=>e) (λ_ _ _ e=>e) (λm hm=>?_) (λb u e=>?_) I.bare
 ·obtain ⟨f0,f1,f2,f3,f4,f5⟩:=hf b hb;exact ⟨f3,f1,f4,f5⟩
 ·obtain ⟨o,es,ep,ho,r⟩:=hm;exact ⟨o,es,ep,k _ o nL ho,r⟩
 ·refine (I.hok b u e).stay (λc v hc q=>k c v ?_ q) (λ_ q=>q) (λ_ _ q=>q) λ_ _ _ q=>q;rcases hc with z|z
  ·rw [z];exact nit b u e
  ·exact nit c _ z
theorem Inv.track {p:Addr}{o:HO}(I:Inv X pins σ H s)(hp:X.s₀.heap.objs.size<=p)(hn:H p=none)(nL:p≠X.env.locals)(nC:∀ x c,X.env.cells.lookup x=some c->c≠p)(nP:∀ q∈X.pn++pins,q.1≠p)(new:ObjOk X.prog X.w (w6 H p o) s.heap p o):Inv X pins σ (w6 H p o) s:=by
 refine ⟨I.ok,I.os,I.bare,⟨I.base.keep,I.base.slot,λb ob e n hx=>?_,I.base.there,λb xs e=>?_,λb ob u e=>?_,λb ps q e=>?_⟩,I.loc,I.cell,?_,λx c e=>?_,λq hq=>?_,λb u e=>?_,I.len⟩
 ·rw [w4 (yL (yF (yQ e) hp))];exact I.base.free b ob e n hx
 ·have z:=I.base.tups b xs e;rw [w4 (k4 z hn)];exact z
 ·have z:=I.base.frzs b ob u e;rw [w4 (k4 z hn)];exact z
 ·have z:=I.base.tbls b ps q e;rw [w4 (k4 z hn)];exact z
 ·rw [w4 (Ne.symm nL)];exact I.free
 ·rw [w4 (nC x c e)];exact I.freeC x c e
 ·obtain ⟨a1,a2,a3⟩:=I.pin q hq;exact ⟨a1,by rw [w4 (nP q hq)];exact a2,a3⟩
 ·by_cases hb:b=p
  ·subst hb;rw [g8] at e;cases e;exact new
  ·rw [w4 hb] at e;exact (I.hok b u e).stay (λc v _ q=>q) (λc q=>by rw [w4 (k4 q hn)];exact q) (λc xs q=>by rw [w4 (k4 q hn)];exact q) λc _ _ q=>by rw [w4 (k4 q hn)];exact q
theorem Inv.seq_ne {a b:Addr}{xs:List V}(I:Inv X pins σ H s)(hq:SqL X.K H a xs)(hf:xL X pins H b):a≠b:=by
 rintro rfl;rcases hq with (h|⟨o,h⟩)|⟨o,its,n,hk,_⟩
 ·rw [hf.1] at h;cases h
 ·rw [hf.1] at h;cases h
 ·have e:=I.ok.mod.kin a o hk;rcases hf.2.2.2.1 with z|z
  ·exact I.ok.noex a o e z
  ·exact absurd (yF (yQ e) (yj I.ok.bsz z)) (uF _)
end
def Ite (K:Fg)(a:Addr):It :=
 ⟨λi H=>∃ xs x,SqL K H a xs/\xs[i]?=some x,λi H x H'=>∃ p y,H p=none/\x = .ref p/\H'=w6 H p (.tup [.int i,y])/\∀ xs,SqL K H a xs->xs[i]?=some y,λi H=>∃ xs,SqL K H a xs/\xs.length<=i⟩
theorem Ii (a e it:Addr)(hne:e≠it):Turn P w K (.Tuple elts x1 tp) (Ite K a) [e,it] e (λi h=>(∃ old,IsEnum h e it ((i:Nat):Int) old)/\h.IsListIter it a i) where
 mem:=by simp
 obj:=λi h st b hb=>by
  obtain ⟨⟨old,he⟩,hit⟩:=st;rcases yJ.mp hb with rfl|hb
  ·exact ⟨_,he,λv z=>by
    have z':Data.fields _=Data.cell v:=z;cases z'⟩
  ·have eb:b=it:=by simpa using hb
   subst eb;obtain ⟨o,e1,c,d⟩:=hit;exact ⟨o,e1,λv z=>by rw [d] at z;cases z⟩
 keep:=λi h h' st k=>by
  obtain ⟨⟨old,he⟩,hit⟩:=st;exact ⟨⟨old,k e (by simp) _ he⟩,hit.at λo q=>k it (by simp) o q⟩
 item:=by
  intro X hP hw hK hc i pins s σ H E I hf st hg;subst hP hw hK;obtain ⟨⟨old,he⟩,hit⟩:=st;obtain ⟨xs,x,hq,hx⟩:=hg;obtain ⟨its,rv,p,hz⟩:=I.list hq;obtain ⟨u,hu,ru⟩:=rv.get hx;have fz:xL X pins H s.heap.objs.size:=I.fpOk (yW _) (I.hok.fresh (yW _));have lte:e<s.heap.objs.size:=yQ he;have lti:it<s.heap.objs.size:=by obtain ⟨o,q,_⟩:=hit;exact yQ q
  refine wpAny_pyNext_enum_item he hit p.isList (x:=u) (by simpa using hu) hne λh1 heo hit1 ht1 hz1 hk1=>⟨_,rfl,?_⟩;refine wpAny_letOwnedTupleGo_enum heo λh2 he2 hs2=>?_;have hs2':Heap.SameBut e h1 h2:=hs2;have I2:Inv X pins σ H { s with heap:=h2,toks:=s.toks+1 }:=I.turnedL (ch:=[e,it]) (λb o hb q=>by
   have n1:b≠e:=λz=>hb (by rw [z];simp);have n2:b≠it:=λz=>hb (by rw [z];simp);exact hs2'.extBut b o n1 (hk1 b o n1 n2 q)) hf
  obtain ⟨f0,f1,f2,f3,f4,f5⟩:=fz;have tup:h2.get? s.heap.objs.size=some { cls:= .type "tuple",data:= .seq #[.int i s.toks,u] }:=hs2'.extBut _ _ (Ne.symm (yL lte)) ht1;refine ⟨.ref s.heap.objs.size,w6 H s.heap.objs.size (.tup [.int i,x]),I2.track I.sz f0 f1 f4 f5 ?_,rfl,⟨s.heap.objs.size,x,f0,rfl,rfl,λys hy=>by rw [I.list_inj hy hq];exact hx⟩,⟨⟨u,?_⟩,?_⟩,λb hb=>?_⟩
  ·exact ⟨by show 2<=sizeLine;decide,[.int i s.toks,u],.cons ⟨_,rfl⟩ (.cons ru .nil),⟨_,tup,rfl,_,rfl⟩⟩
  ·have ei:(((i+1:Nat):Int))=(i:Int)+1:=by omega
   rw [ei];exact he2
  ·exact hit1.at λo q=>hs2'.extBut it o (Ne.symm hne) q
  ·have nb:b≠s.heap.objs.size:=by
    rcases yJ.mp hb with rfl|hb
    ·exact yL lte
    ·have eb:b=it:=by simpa using hb
     rw [eb];exact yL lti
   rw [w4 nb];exact (hf b hb).1
 done:=by intro X hP hw hK hc i pins s σ H E I hf st hg;subst hP hw hK;obtain ⟨⟨old,he⟩,hit⟩:=st;obtain ⟨xs,hq,hx⟩:=hg;obtain ⟨its,rv,p,hz⟩:=I.list hq;have hl:=rv.length;exact wpAny_pyNext_enum_end (I.ok.hd hc) he hit p.isList (by simp;omega) λh1 eb=>⟨rfl,I.turnedL (t':=s.toks) (ch:=[e,it]) (λb o hb q=>eb b o (λz=>hb (by rw [z];simp)) q) hf⟩
 self:=λ_ _ _ _ _ st h=>by
  obtain ⟨⟨old,he⟩,hit⟩:=st;exact wpAny_pyIter_enum he h
section
variable {X:Cx}{elts:List Expr}{x1:Nat}{tp:Pos}
def VG (K:Fg)(ta:TA):TI:=λσ H R=>ta σ H λvs H1=>∃ a,vs=[.ref a]/\(∃ xs,SqL K H1 a xs)/\R (Ite K a) H1
theorem RN (hg:Gl X "enumerate")(hm:X.mg "enumerate"=none)(ha:PA X [a] ta)(hs:starEach [a] X.env=[(false,eval a X.env)]:=by rfl):PI X (.Tuple elts x1 tp) (.Call (.Name "enumerate" p) [a] [] pos) (VG X.K ta):=by
 intro pins s σ H R I h;refine Call_ (vw I hg hm DO (PyProof.Rows.callWith_type1 (v6 (ha pos pins s σ H _ I h) λus s1 ⟨vs,H1,I1,r1,q1⟩=>?_) hs rfl));obtain ⟨a,e,⟨xs,hq⟩,q⟩:=q1;subst e;cases r1 with
 |cons r rr =>
  cases rr;cases r;obtain ⟨its,rv,p,hz⟩:=I1.list hq;refine call_enumerate_list p.isList λh' he hit hsz hk=>?_;refine wpAny_pyIter_enum he ?_;refine ⟨s1.heap.objs.size+1,[s1.heap.objs.size+1,s1.heap.objs.size],_,_,H1,rfl,I1.kept (t':=s1.toks) hk,Ii a (s1.heap.objs.size+1) s1.heap.objs.size (ua (uk _)),⟨⟨_,he⟩,hit⟩,λb hb=>?_,q⟩;rcases yJ.mp hb with rfl|hb
  ·exact I1.fpOk (ul _) (I1.hok.fresh (ul _))
  ·have eb:b=s1.heap.objs.size:=by simpa using hb
   subst eb;exact I1.fpOk (yW _) (I1.hok.fresh (yW _))
end
def Itz (K:Fg)(a b:Addr):It :=
  ⟨λi H=>∃ xs ys x y,SqL K H a xs/\SqL K H b ys/\xs[i]?=some x/\ys[i]?=some y,
   λi H z H'=>∃ p x y,H p=none/\z = .ref p/\H'=w6 H p (.tup [x,y])/\(∀ xs,SqL K H a xs->xs[i]?=some x)/\∀ ys,SqL K H b ys->ys[i]?=some y,
   λi H=>∃ xs ys,SqL K H a xs/\SqL K H b ys/\(xs.length<=i∨ys.length<=i)⟩
theorem Iq (a b z TI TO i1 i2:Addr)(d:[z,TI,TO,i1,i2].Nodup):Turn P w K (.Tuple elts x1 tp) (Itz K a b) [z,TI,TO,i1,i2] z (λi h=>IsZip h z TI TO .none/\IsPair h TI (.ref i1) (.ref i2)/\(∃ u v,IsPair h TO u v)/\h.IsListIter i1 a i/\h.IsListIter i2 b i) where
 mem:=by simp
 obj:=λi h st c hc=>by
  obtain ⟨hz,hTI,⟨u,v,hTO⟩,h1,h2⟩:=st;have hc':c=z∨c=TI∨c=TO∨c=i1∨c=i2:=by simpa using hc
  rcases hc' with rfl|rfl|rfl|rfl|rfl
  ·exact ⟨_,hz,λv q=>by
    have q':Data.fields _=Data.cell v:=q;cases q'⟩
  ·exact ⟨_,hTI,λv q=>by
    have q':Data.seq _ _=Data.cell v:=q;cases q'⟩
  ·exact ⟨_,hTO,λv q=>by
    have q':Data.seq _ _=Data.cell v:=q;cases q'⟩
  ·obtain ⟨o,e1,cc,dd⟩:=h1;exact ⟨o,e1,λv q=>by rw [dd] at q;cases q⟩
  ·obtain ⟨o,e1,cc,dd⟩:=h2;exact ⟨o,e1,λv q=>by rw [dd] at q;cases q⟩
 keep:=λi h h' st k=>by
  obtain ⟨hz,hTI,⟨u,v,hTO⟩,h1,h2⟩:=st;exact ⟨k z (by simp) _ hz,k TI (by simp) _ hTI,⟨u,v,k TO (by simp) _ hTO⟩,h1.at λo e=>k i1 (by simp) o e,h2.at λo e=>k i2 (by simp) o e⟩
 item:=by
  intro X hP hw hK hc i pins s σ H E I hf st hg;subst hP hw hK;obtain ⟨hz,hTI,⟨u0,v0,hTO⟩,h1,h2⟩:=st;obtain ⟨xs,ys,x,y,hqa,hqb,hx,hy⟩:=hg;obtain ⟨its,rv,p,_⟩:=I.list hqa;obtain ⟨jts,rw',p',_⟩:=I.list hqb;obtain ⟨u,hu,ru⟩:=rv.get hx;obtain ⟨v,hv,rv'⟩:=rw'.get hy;simp only [yo,yJ,not_or,yf,not_false_eq_true,uw,and_true] at d;obtain ⟨⟨d1,d2,d3,d4⟩,⟨d5,d6,d7⟩,⟨d8,d9⟩,d10⟩:=d;have ap:ZipApart z TI TO i1 i2 a b:=⟨Ne.symm d1,Ne.symm d2,Ne.symm d3,Ne.symm d4,d5,d6,d7,d8,d9,d10,
   I.seq_ne hqa (hf z (by simp)),I.seq_ne hqa (hf TO (by simp)),I.seq_ne hqa (hf i1 (by simp)),I.seq_ne hqa (hf i2 (by simp)),
   I.seq_ne hqb (hf z (by simp)),I.seq_ne hqb (hf TO (by simp)),I.seq_ne hqb (hf i1 (by simp)),I.seq_ne hqb (hf i2 (by simp))⟩
  have fz:xL X pins H s.heap.objs.size:=I.fpOk (yW _) (I.hok.fresh (yW _));have lt:∀ c∈[z,TI,TO,i1,i2],c<s.heap.objs.size:=λc hc=>by
   have hc':c=z∨c=TI∨c=TO∨c=i1∨c=i2:=by simpa using hc
   rcases hc' with rfl|rfl|rfl|rfl|rfl
   ·exact yQ hz
   ·exact yQ hTI
   ·exact yQ hTO
   ·obtain ⟨o,q,_⟩:=h1;exact yQ q
   ·obtain ⟨o,q,_⟩:=h2;exact yQ q
  refine wpAny_pyNext_zip_item ap hz hTI hTO h1 h2 p.isList p'.isList (x:=u) (y:=v) (by simpa using hu) (by simpa using hv) λh3 hz3 hTO3 h13 h23 hp3 hs3 hk3=>⟨_,rfl,?_⟩;refine wpAny_letOwnedTupleGo_zip hz3 λh4 hz4 hs4=>?_;have hs4':Heap.SameBut z h3 h4:=hs4;have I4:Inv X pins σ H { s with heap:=h4,toks:=s.toks }:=I.turnedL (ch:=[z,TI,TO,i1,i2]) (λc o hc q=>by
   have n1:c≠z:=λe=>hc (by rw [e];simp);have n2:c≠TO:=λe=>hc (by rw [e];simp);have n3:c≠i1:=λe=>hc (by rw [e];simp);have n4:c≠i2:=λe=>hc (by rw [e];simp);exact hs4'.extBut c o n1 (hk3 c o n1 n2 n3 n4 q)) hf
  obtain ⟨f0,f1,f2,f3,f4,f5⟩:=fz;have tup:h4.get? s.heap.objs.size=some { cls:= .type "tuple",data:= .seq #[u,v] }:=hs4'.extBut _ _ (Ne.symm (yL (lt z (by simp)))) hp3;refine ⟨.ref s.heap.objs.size,w6 H s.heap.objs.size (.tup [x,y]),I4.track I.sz f0 f1 f4 f5 ?_,rfl,⟨s.heap.objs.size,x,y,f0,rfl,rfl,(λzs hy'=>by rw [I.list_inj hy' hqa];exact hx),λzs hy'=>by rw [I.list_inj hy' hqb];exact hy⟩,⟨hz4,?_,⟨u,v,?_⟩,?_,?_⟩,λc hc=>?_⟩
  ·exact ⟨by show 2<=sizeLine;decide,[u,v],.cons ru (.cons rv' .nil),⟨_,tup,rfl,_,rfl⟩⟩
  ·exact hs4'.extBut _ _ (Ne.symm d1) (hk3 _ _ (Ne.symm d1) d5 d6 d7 hTI)
  ·exact hs4'.extBut _ _ (Ne.symm d2) hTO3
  ·exact h13.at λo q=>hs4'.extBut i1 o (Ne.symm d3) q
  ·exact h23.at λo q=>hs4'.extBut i2 o (Ne.symm d4) q
  ·rw [w4 (yL (lt c hc))];exact (hf c hc).1
 done:=by
  intro X hP hw hK hc i pins s σ H E I hf st hg;subst hP hw hK;obtain ⟨hz,hTI,⟨u0,v0,hTO⟩,h1,h2⟩:=st;obtain ⟨xs,ys,hqa,hqb,hend⟩:=hg;obtain ⟨its,rv,p,_⟩:=I.list hqa;obtain ⟨jts,rw',p',_⟩:=I.list hqb;have l1:=rv.length;have l2:=rw'.length;simp only [yo,yJ,not_or,yf,not_false_eq_true,uw,and_true] at d;obtain ⟨⟨d1,d2,d3,d4⟩,⟨d5,d6,d7⟩,⟨d8,d9⟩,d10⟩:=d;have ap:ZipApart z TI TO i1 i2 a b:=⟨Ne.symm d1,Ne.symm d2,Ne.symm d3,Ne.symm d4,d5,d6,d7,d8,d9,d10,
   I.seq_ne hqa (hf z (by simp)),I.seq_ne hqa (hf TO (by simp)),I.seq_ne hqa (hf i1 (by simp)),I.seq_ne hqa (hf i2 (by simp)),
   I.seq_ne hqb (hf z (by simp)),I.seq_ne hqb (hf TO (by simp)),I.seq_ne hqb (hf i1 (by simp)),I.seq_ne hqb (hf i2 (by simp))⟩
  refine wpAny_pyNext_zip_end (I.ok.hd hc) ap hz hTI hTO h1 h2 p.isList p'.isList (hend.elim (λq=> .inl (by simp;omega)) (λq=> .inr (by simp;omega))) λh3 hk3=>⟨rfl,I.turnedL (t':=s.toks) (ch:=[z,TI,TO,i1,i2]) (λc o hc q=>?_) hf⟩;exact hk3 c o (λe=>hc (by rw [e];simp)) (λe=>hc (by rw [e];simp)) (λe=>hc (by rw [e];simp)) (λe=>hc (by rw [e];simp)) q
 self:=λ_ _ _ _ _ st h=>wpAny_pyIter_zip st.1 h
section
variable {X:Cx}{elts:List Expr}{x1:Nat}{tp:Pos}
def iZip (K:Fg)(ta:TA):TI:=λσ H R=>ta σ H λvs H1=>∃ a b,vs=[.ref a,.ref b]/\(∃ xs,SqL K H1 a xs)/\(∃ ys,SqL K H1 b ys)/\R (Itz K a b) H1
theorem RV (hg:Gl X "zip")(hm:X.mg "zip"=none)(ha:PA X [a,b] ta)(hs:starEach [a,b] X.env=[(false,eval a X.env),(false,eval b X.env)]:=by rfl)(hs2:starEach [b] X.env=[(false,eval b X.env)]:=by rfl):PI X (.Tuple elts x1 tp) (.Call (.Name "zip" p) [a,b] [] pos) (iZip X.K ta):=by
 intro pins s σ H R I h;refine Call_ (vw I hg hm DR (PyProof.Rows.callWith_type1 (v6 (ha pos pins s σ H _ I h) λus s1 ⟨vs,H1,I1,r1,q1⟩=>?_) (by rw [hs,hs2]) (by rw [hs2];rfl)));obtain ⟨a,b,e,⟨xs,hq⟩,⟨ys,hq'⟩,q⟩:=q1;subst e;cases r1 with
 |cons r rr =>
  cases rr with
  |cons r' rr =>
   cases rr;cases r;cases r';obtain ⟨its,rv,p,hz⟩:=I1.list hq;obtain ⟨jts,rw',p',_⟩:=I1.list hq';refine call_zip_2 p.isList p'.isList λh' g1 g2 g3 g4 g5 hsz hk=>?_;refine wpAny_pyIter_zip g1 ?_;refine ⟨s1.heap.objs.size+4,[s1.heap.objs.size+4,s1.heap.objs.size+2,s1.heap.objs.size+3,s1.heap.objs.size,s1.heap.objs.size+1],_,_,H1,rfl,I1.kept (t':=s1.toks) hk,Iq a b _ _ _ _ _ ?_,⟨g1,g2,⟨_,_,g3⟩,g4,g5⟩,λc hc=>?_,q⟩
   ·simp only [yo,yJ,not_or,yf,not_false_eq_true,uw,and_true];refine ⟨⟨?_,?_,?_,?_⟩,⟨?_,?_,?_⟩,⟨?_,?_⟩,?_⟩<;>(show ¬ (_:Nat)=_;omega)
   ·have hc':s1.heap.objs.size<=c:=by
     have hc2:c=s1.heap.objs.size+4∨c=s1.heap.objs.size+2∨c=s1.heap.objs.size+3∨c=s1.heap.objs.size∨c=s1.heap.objs.size+1:=by simpa using hc
     rcases hc2 with e|e|e|e|e<;>(rw [e];first|exact yW _|exact Nat.le_add_right _ _)
    exact I1.fpOk hc' (I1.hok.fresh hc')
end
section
variable {X:Cx}{K:Fg}
theorem VM (h:X.K=K):IxR X (rIxL K):=by subst h;exact ix_list
theorem Zi (h:X.K=K):SlR X (rSlL K):=by subst h;exact SM
theorem Kd (h:X.K=K):CallR X (.builtin "len") (λxs H Q=>∃ p ys,xs=[.ref p]/\(SqL K H p ys∨SqT K H p ys)/\Q (.int ys.length) H):=by subst h;exact DZ
theorem Mh (hc:X.calm=true)(h:X.K=K):CallR X (.builtin "sum") (λxs H Q=>∃ (a:Addr) (ns:List Int),xs=[.ref a]/\SqL K H a (ns.map V.int)/\Q (.int ns.sum) H):=by subst h;exact Ke hc
theorem jx {es:List Expr}{k:Nat}{t:TGs}{n:Nat}(hc:X.calm=true)(hK:X.K=K)(h:PGs X es t)(hn:(assignEach es X.env).length=n:=by rfl)(hst:(assignEach es X.env).findIdx? (·.1)=none:=by rfl):PG X (.Tuple es k pos) (gTup K n t):=by subst hK;exact RM hc h hn hst
theorem qi {tg l:Expr}{tl:TE}(hK:X.K=K)(hl:PE X l tl):PI X tg l (VH K tl):=by subst hK;exact RO hl
theorem Wu (hK:X.K=K)(hg:Gl X "enumerate")(hm:X.mg "enumerate"=none)(ha:PA X [a] ta)(hs:starEach [a] X.env=[(false,eval a X.env)]:=by rfl):PI X (.Tuple elts x1 tp) (.Call (.Name "enumerate" p) [a] [] pos) (VG K ta):=by subst hK;exact RN hg hm ha hs
theorem Pa (hK:X.K=K)(hg:Gl X "zip")(hm:X.mg "zip"=none)(ha:PA X [a,b] ta)(hs:starEach [a,b] X.env=[(false,eval a X.env),(false,eval b X.env)]:=by rfl)(hs2:starEach [b] X.env=[(false,eval b X.env)]:=by rfl):PI X (.Tuple elts x1 tp) (.Call (.Name "zip" p) [a,b] [] pos) (iZip K ta):=by subst hK;exact RV hg hm ha hs hs2
end
section
variable {X:Cx}
theorem Rr:OpR X (compareOp .LtE) (λx y H Q=>∃ i j,x = .str i/\y = .str j/\Q (.bl (!decide (j.cps.toList<i.cps.toList))) H):=by intro pins s σ H x y v u Q I rx ry h;obtain ⟨i,j,rfl,rfl,q⟩:=h;obtain ⟨t,rfl⟩:=rx;obtain ⟨t',rfl⟩:=ry;exact PySem.P.le_str (Vz I q rfl)
def ItS (z:Str):It:=⟨λi _=>i<z.cps.size,λi H x H'=>H'=H/\∃ c,z.cps[i]?=some c/\x = .str ⟨#[c]⟩,λi _=>i=z.cps.size⟩
theorem CN (it:Addr)(ty:String)(z:Str)(t:Tok)(W:∀ A':Around,A'.handled=none->Walks P w A' it [it] [it] z.cps.size (SignAt z) (λi h=>h.IsStrIter it ty z t i))(sf:∀(A:Around)(i:Nat)(s:Shared)(Q:Value->Shared->Prop)(E:Value->Shared->Prop),s.heap.IsStrIter it ty z t i->Q (.ref it) s->wpAny (model P w) A (pyIter (.ref it)) Q E s):Turn P w K (.Name x px) (ItS z) [it] it (λi h=>h.IsStrIter it ty z t i) where
 mem:=by simp
 obj:=λi h st b hb=>by
  have e:b=it:=by simpa using hb
  subst e;obtain ⟨o,e,c,d⟩:=st;exact ⟨o,e,λv q=>by rw [d] at q;cases q⟩
 keep:=λi h h' st k=>by
  obtain ⟨o,e,r⟩:=st;exact ⟨o,k it (by simp) o e,r⟩
 item:=by intro X hP hw hK hc i pins s σ H E I hf st hg;subst hP hw hK;obtain ⟨f0,f1,f2,f3,f4,f5⟩:=hf it (by simp);refine (W X.A (I.ok.hd hc)).item i s _ _ hg st λv h' tk hv st' kk=>?_;obtain ⟨c,u,e1,rfl⟩:=hv;have I1:Inv X pins σ H { s with heap:=h',toks:=tk }:=I.turned (λb o hb e=>kk b o (by simpa using hb) e) f0 f1 f3 f4 f5;refine ⟨_,rfl,?_⟩;show wpAny _ _ (pure ()) _ _ _;exact yx ⟨.str ⟨#[c]⟩,H,I1,⟨u,rfl⟩,⟨rfl,c,e1,rfl⟩,st',λb hb=>(hf b hb).1⟩
 done:=by intro X hP hw hK hc i pins s σ H E I hf st hg;subst hP hw hK;obtain ⟨f0,f1,f2,f3,f4,f5⟩:=hf it (by simp);have hg':i=z.cps.size:=hg;subst hg';exact (W X.A (I.ok.hd hc)).done s _ _ st λh' tk kk=>⟨rfl,I.turned (λb o hb e=>kk b o (by simpa using hb) e) f0 f1 f3 f4 f5⟩
 self:=sf
def iStr (tl:TE):TI:=λσ H R=>tl σ H λx H1=>∃ z,x = .str z/\R (ItS z) H1
theorem RQ {l:Expr}{tl:TE}(hl:PE X l tl):PI X (.Name x px) l (iStr tl):=by
 intro pins s σ H R I h;refine v6 (hl pins s σ H _ I h) λv s1 ⟨x,H1,I1,r1,q1⟩=>?_;obtain ⟨z,e,q⟩:=q1;subst e;obtain ⟨t,rfl⟩:=r1;have fp:∀ b∈[s1.heap.objs.size],xL X pins H1 b:=λb hb=>by
  have e:b=s1.heap.objs.size:=by simpa using hb
  subst e;exact I1.fpOk (yW _) (I1.hok.fresh (yW _))
 cases ha:z.cps.all (·<128)
 ·refine wpAny_pyIter_wide ha ?_;exact ⟨s1.heap.objs.size,[s1.heap.objs.size],_,_,H1,rfl,I1.kept (t':=s1.toks) λb o e=>yU _ e,CN _ "str_iterator" z t (λA' hA=>Walks.strWide hA _ z t) (λ_ _ _ _ _ st h=>wpAny_pyIter_striter_wide st h),⟨_,yD _ rfl,rfl,rfl⟩,fp,q⟩
 ·refine wpAny_pyIter_ascii ha ?_;exact ⟨s1.heap.objs.size,[s1.heap.objs.size],_,_,H1,rfl,I1.kept (t':=s1.toks) λb o e=>yU _ e,CN _ "str_ascii_iterator" z t (λA' hA=>Walks.strAscii hA _ z t) (λ_ _ _ _ _ st h=>wpAny_pyIter_striter_ascii st h),⟨_,yD _ rfl,rfl,rfl⟩,fp,q⟩
end
section
variable {X:Cx}{K:Fg}
def Po (K:Fg):R2:=λx y H Q=>∃ l b xs zs,x = .ref l/\y = .ref b/\SqL K H l xs/\SqL K H b zs/\xs.length+zs.length<=sizeLine/\∀ p,H p=none->Q (.ref p) (w6 H p (.lst (xs++zs)))
theorem op_catL:OpR X (binaryOp .Add) (Po X.K):=by
 intro pins s σ H x y v u Q I rx ry h;obtain ⟨l,b,xs,zs,rfl,rfl,hH,hB,hz,q⟩:=h;cases rx;cases ry;obtain ⟨its,r,⟨⟨cls,dd,data,sl⟩,n,e,h1,h2,h3⟩,_⟩:=I.list hH;obtain ⟨its2,r2,⟨⟨cls2,dd2,data2,sl2⟩,n2,e2,k1,k2,k3⟩,_⟩:=I.list hB
 dsimp only at h1 h2 h3 k1 k2 k3
 subst h1 h2 h3 k1 k2 k3;have hl:=r.length;have hl2:=r2.length;have hsz:its.toArray.size+its2.toArray.size<=sizeLine:=by rw [yX,yX];omega
 refine concat_meets ⟨_,e,rfl⟩ ⟨_,e2,rfl⟩ noFill_list_add seq_list_add PySem.F.slot_list_add PySem.F.entry_list_add (PySem.F.args_list_add_2 _ _) (list_addW l b its.toArray its2.toArray n n2 none none sl sl2 hsz) ⟨e,e2,?_⟩;have ea:its.toArray++its2.toArray=(its++its2).toArray:=by simp
 rw [ea];exact ⟨.ref _,_,I.lnew (t':=s.toks) (r.append r2) (by rw [yM];omega),rfl,q _ I.fresh⟩
end
section
variable {X:Cx}
def Pu:V->List V->Hp->VK->Prop:=λx vs H Q=>∃(l:Addr)(xs:List V)(i:Int)(y:V),x = .ref l/\vs=[.int i,y]/\H l=some (.lst xs)/\0<=i/\i<=(xs.length:Int)/\xs.length<1000/\Q .non (w6 H l (.lst (xs.take i.toNat++y::xs.drop i.toNat)))
theorem NJ:MtM X "list.insert" Pu:=by
 intro pins s σ H x vs v us Q I rx rv h;obtain ⟨l,xs,i,y,rfl,rfl,hH,h0,hi,hz,q⟩:=h;cases rx;obtain ⟨u,w',rfl,⟨t,rfl⟩,rw'⟩:=rv.two;obtain ⟨z,its,n,r,hl,e⟩:=I.lstM hH;have hfit:¬ (!Builtin.List.listFitsIndex i)=true:=by rw [fitsIndex_both (k:=i) (by omega) (by omega)];decide
 have hsz:its.toArray.size<=sizeLine:=by rw [yX,<- hl];exact z
 refine call_meets F.slot_list_insert ⟨_,e,rfl⟩ F.entry_list_insert (F.args_list_insert_3 _ _ _) (AutoSeq1.list_insert_list_int_val_1 l its.toArray n i t w' hfit hsz) ⟨e,?_⟩;refine ⟨.non,_,I.lset (its':=its.take i.toNat++w'::its.drop i.toNat) hH e ?_ ((r.take i.toNat).append (.cons rw' (r.drop i.toNat))) ?_,rfl,q⟩
 ·have e1:¬ (i<0):=by omega
  have e2:min i.toNat its.toArray.size=i.toNat:=by rw [yX];omega
  show (its.toArray.extract 0 (if i<0 then (i+(its.toArray.size:Int)).toNat else min i.toNat its.toArray.size)).push w'++its.toArray.extract (if i<0 then (i+(its.toArray.size:Int)).toNat else min i.toNat its.toArray.size)=_;rw [if_neg e1,e2];apply Array.toList_inj.mp;simp [List.extract_eq_take_drop]
  try exact uu (by rw [uU];exact yW _)
 ·rw [yM,yE,uX,uU];have:=QU (n:=1000) (yW _);omega
end
end L2
namespace L2
open PySem PySem.Spec PyProof.Rows PySem.SeqAt
variable{x y:V}{A:Around}{s:Shared}{u v:Value}{l:Addr}{items:Array Value}{n:Nat}{b:Bool}{K:Fg}
def EqP (K:Fg)(H:Hp):Nat->V->V->Bool->Prop
 |0,x,y,b=>k6 x=true/\k6 y=true/\b=qo x y
 |n+1,x,y,b=>(k6 x=true/\k6 y=true/\b=qo x y) ∨
  (∃(a c:Addr)(xs ys:List V),x = .ref a/\y = .ref c/\SqL K H a xs/\SqL K H c ys/\((xs.length≠ys.length/\b=false)∨(xs.length=ys.length/\∃ e:Nat->Bool,(∀ j (h1:j<xs.length) (h2:j<ys.length),EqP K H n xs[j] ys[j] (e j))/\b=(List.range xs.length).all e))) ∨
  (∃(a c:Addr)(xs ys:List V),x = .ref a/\y = .ref c/\SqT K H a xs/\SqT K H c ys/\∃ e:Nat->Bool,(∀ j (h1:j<xs.length) (h2:j<ys.length),EqP K H n xs[j] ys[j] (e j))/\b=((List.range (min xs.length ys.length)).all e&&xs.length==ys.length)) ∨
  (∃(a c:Addr)(xs ys:List V),x = .ref a/\y = .ref c/\SqL K H a xs/\SqT K H c ys/\b=false) ∨
  (∃(a c:Addr)(xs ys:List V),x = .ref a/\y = .ref c/\SqT K H a xs/\SqL K H c ys/\b=false) ∨
  (∃(c:Addr)(ys:List V),k6 x=true/\y = .ref c/\(SqL K H c ys∨SqT K H c ys)/\b=false) ∨
  (∃(a:Addr)(xs:List V),k6 y=true/\x = .ref a/\(SqL K H a xs∨SqT K H a xs)/\b=false)
theorem ZP (h:k6 x=true):qo x x=true:=by cases x<;>first|rfl|exact beq_self_eq_true _|cases h
theorem PF (ry:RelV y u)(rx:RelV x v)(fy:k6 y=true)(fx:k6 x=true):RcAt A s u v (qo y x):=by
 cases y with
 |non =>
  cases ry;cases x with
  |non=>cases rx;exact RcAt.none_none
  |bl b=>cases rx;exact RcAt.none_bool b
  |int b=>obtain ⟨t2,rfl⟩:=rx;exact RcAt.none_int b t2
  |str b=>obtain ⟨t2,rfl⟩:=rx;exact RcAt.none_str b t2
  |_=>exact absurd (show false=true from fx) yS
 |bl a =>
  cases ry;cases x with
  |non=>cases rx;exact RcAt.bool_none a
  |bl b=>cases rx;exact RcAt.bool_bool a b
  |int b=>obtain ⟨t2,rfl⟩:=rx;exact RcAt.bool_int a b t2
  |str b=>obtain ⟨t2,rfl⟩:=rx;exact RcAt.bool_str a b t2
  |_=>exact absurd (show false=true from fx) yS
 |int a =>
  obtain ⟨t1,rfl⟩:=ry;cases x with
  |non=>cases rx;exact RcAt.int_none a t1
  |bl b=>cases rx;exact RcAt.int_bool a t1 b
  |int b=>obtain ⟨t2,rfl⟩:=rx;exact RcAt.int_int a t1 b t2
  |str b=>obtain ⟨t2,rfl⟩:=rx;exact RcAt.int_str a t1 b t2
  |_=>exact absurd (show false=true from fx) yS
 |str a =>
  obtain ⟨t1,rfl⟩:=ry;cases x with
  |non=>cases rx;exact RcAt.str_none a t1
  |bl b=>cases rx;exact RcAt.str_bool a t1 b
  |int b=>obtain ⟨t2,rfl⟩:=rx;exact RcAt.str_int a t1 b t2
  |str b=>obtain ⟨t2,rfl⟩:=rx;exact RcAt.str_str a t1 b t2
  |_=>exact absurd (show false=true from fx) yS
 |_=>exact absurd (show false=true from fy) yS
theorem PH (ry:RelV y u)(rx:RelV x v)(fy:k6 y=true)(fx:k6 x=true):RcNeAt A s u v (!qo y x):=by
 cases y with
 |non =>
  cases ry;cases x with
  |non=>cases rx;exact RcNeAt.none_none
  |bl b=>cases rx;exact RcNeAt.none_bool b
  |int b=>obtain ⟨t2,rfl⟩:=rx;exact RcNeAt.none_int b t2
  |str b=>obtain ⟨t2,rfl⟩:=rx;exact RcNeAt.none_str b t2
  |_=>exact absurd (show false=true from fx) yS
 |bl a =>
  cases ry;cases x with
  |non=>cases rx;exact RcNeAt.bool_none a
  |bl b=>cases rx;exact RcNeAt.bool_bool a b
  |int b=>obtain ⟨t2,rfl⟩:=rx;exact RcNeAt.bool_int a b t2
  |str b=>obtain ⟨t2,rfl⟩:=rx;exact RcNeAt.bool_str a b t2
  |_=>exact absurd (show false=true from fx) yS
 |int a =>
  obtain ⟨t1,rfl⟩:=ry;cases x with
  |non=>cases rx;exact RcNeAt.int_none a t1
  |bl b=>cases rx;exact RcNeAt.int_bool a t1 b
  |int b=>obtain ⟨t2,rfl⟩:=rx;exact RcNeAt.int_int a t1 b t2
  |str b=>obtain ⟨t2,rfl⟩:=rx;exact RcNeAt.int_str a t1 b t2
  |_=>exact absurd (show false=true from fx) yS
 |str a =>
  obtain ⟨t1,rfl⟩:=ry;cases x with
  |non=>cases rx;exact RcNeAt.str_none a t1
  |bl b=>cases rx;exact RcNeAt.str_bool a t1 b
  |int b=>obtain ⟨t2,rfl⟩:=rx;exact RcNeAt.str_int a t1 b t2
  |str b=>obtain ⟨t2,rfl⟩:=rx;exact RcNeAt.str_str a t1 b t2
  |_=>exact absurd (show false=true from fx) yS
 |_=>exact absurd (show false=true from fy) yS
theorem MF (hl:s.heap.IsList l items)(hu:A.units<cLine)(ry:RelV y u)(fy:k6 y=true):EqAt A s u (.ref l) false:=by
 cases y with
 |non=>cases ry;exact EqAt.none_list hl hu
 |bl a=>cases ry;exact EqAt.bool_list a hl hu
 |int a=>obtain ⟨t1,rfl⟩:=ry;exact EqAt.int_list a t1 hl hu
 |str a=>obtain ⟨t1,rfl⟩:=ry;exact EqAt.str_list a t1 hl hu
 |_=>exact absurd (show false=true from fy) yS
theorem MI (hl:s.heap.IsList l items)(hu:A.units<cLine)(ry:RelV y u)(fy:k6 y=true):EqAt A s (.ref l) u false:=by
 cases y with
 |non=>cases ry;exact EqAt.list_none hl hu
 |bl a=>cases ry;exact EqAt.list_bool a hl hu
 |int a=>obtain ⟨t1,rfl⟩:=ry;exact EqAt.list_int a t1 hl hu
 |str a=>obtain ⟨t1,rfl⟩:=ry;exact EqAt.list_str a t1 hl hu
 |_=>exact absurd (show false=true from fy) yS
theorem MH (hl:s.heap.IsTuple l items)(hu:A.units<cLine)(ry:RelV y u)(fy:k6 y=true):EqAt A s u (.ref l) false:=by
 cases y with
 |non=>cases ry;exact EqAt.none_tuple hl hu
 |bl a=>cases ry;exact EqAt.bool_tuple a hl hu
 |int a=>obtain ⟨t1,rfl⟩:=ry;exact EqAt.int_tuple a t1 hl hu
 |str a=>obtain ⟨t1,rfl⟩:=ry;exact EqAt.str_tuple a t1 hl hu
 |_=>exact absurd (show false=true from fy) yS
theorem MJ (hl:s.heap.IsTuple l items)(hu:A.units<cLine)(ry:RelV y u)(fy:k6 y=true):EqAt A s (.ref l) u false:=by
 cases y with
 |non=>cases ry;exact EqAt.tuple_none hl hu
 |bl a=>cases ry;exact EqAt.tuple_bool a hl hu
 |int a=>obtain ⟨t1,rfl⟩:=ry;exact EqAt.tuple_int a t1 hl hu
 |str a=>obtain ⟨t1,rfl⟩:=ry;exact EqAt.tuple_str a t1 hl hu
 |_=>exact absurd (show false=true from fy) yS
theorem Tl (hl:s.heap.IsList l items)(hu:A.units<cLine)(ry:RelV y u)(fy:k6 y=true):RcAt A s u (.ref l) false:=by
 cases y with
 |non=>cases ry;exact RcAt.none_list hl hu
 |bl a=>cases ry;exact RcAt.bool_list a hl hu
 |int a=>obtain ⟨t1,rfl⟩:=ry;exact RcAt.int_list a t1 hl hu
 |str a=>obtain ⟨t1,rfl⟩:=ry;exact RcAt.str_list a t1 hl hu
 |_=>exact absurd (show false=true from fy) yS
theorem Tn (hl:s.heap.IsList l items)(hu:A.units<cLine)(ry:RelV y u)(fy:k6 y=true):RcAt A s (.ref l) u false:=by
 cases y with
 |non=>cases ry;exact RcAt.list_none hl hu
 |bl a=>cases ry;exact RcAt.list_bool a hl hu
 |int a=>obtain ⟨t1,rfl⟩:=ry;exact RcAt.list_int a t1 hl hu
 |str a=>obtain ⟨t1,rfl⟩:=ry;exact RcAt.list_str a t1 hl hu
 |_=>exact absurd (show false=true from fy) yS
theorem Tm (hl:s.heap.IsTuple l items)(hu:A.units<cLine)(ry:RelV y u)(fy:k6 y=true):RcAt A s u (.ref l) false:=by
 cases y with
 |non=>cases ry;exact RcAt.none_tuple hl hu
 |bl a=>cases ry;exact RcAt.bool_tuple a hl hu
 |int a=>obtain ⟨t1,rfl⟩:=ry;exact RcAt.int_tuple a t1 hl hu
 |str a=>obtain ⟨t1,rfl⟩:=ry;exact RcAt.str_tuple a t1 hl hu
 |_=>exact absurd (show false=true from fy) yS
theorem To (hl:s.heap.IsTuple l items)(hu:A.units<cLine)(ry:RelV y u)(fy:k6 y=true):RcAt A s (.ref l) u false:=by
 cases y with
 |non=>cases ry;exact RcAt.tuple_none hl hu
 |bl a=>cases ry;exact RcAt.tuple_bool a hl hu
 |int a=>obtain ⟨t1,rfl⟩:=ry;exact RcAt.tuple_int a t1 hl hu
 |str a=>obtain ⟨t1,rfl⟩:=ry;exact RcAt.tuple_str a t1 hl hu
 |_=>exact absurd (show false=true from fy) yS
theorem Tp (hl:s.heap.IsList l items)(hu:A.units<cLine)(ry:RelV y u)(fy:k6 y=true):RcNeAt A s u (.ref l) true:=by
 cases y with
 |non=>cases ry;exact RcNeAt.none_list hl hu
 |bl a=>cases ry;exact RcNeAt.bool_list a hl hu
 |int a=>obtain ⟨t1,rfl⟩:=ry;exact RcNeAt.int_list a t1 hl hu
 |str a=>obtain ⟨t1,rfl⟩:=ry;exact RcNeAt.str_list a t1 hl hu
 |_=>exact absurd (show false=true from fy) yS
theorem Tr (hl:s.heap.IsList l items)(hu:A.units<cLine)(ry:RelV y u)(fy:k6 y=true):RcNeAt A s (.ref l) u true:=by
 cases y with
 |non=>cases ry;exact RcNeAt.list_none hl hu
 |bl a=>cases ry;exact RcNeAt.list_bool a hl hu
 |int a=>obtain ⟨t1,rfl⟩:=ry;exact RcNeAt.list_int a t1 hl hu
 |str a=>obtain ⟨t1,rfl⟩:=ry;exact RcNeAt.list_str a t1 hl hu
 |_=>exact absurd (show false=true from fy) yS
theorem Tq (hl:s.heap.IsTuple l items)(hu:A.units<cLine)(ry:RelV y u)(fy:k6 y=true):RcNeAt A s u (.ref l) true:=by
 cases y with
 |non=>cases ry;exact RcNeAt.none_tuple hl hu
 |bl a=>cases ry;exact RcNeAt.bool_tuple a hl hu
 |int a=>obtain ⟨t1,rfl⟩:=ry;exact RcNeAt.int_tuple a t1 hl hu
 |str a=>obtain ⟨t1,rfl⟩:=ry;exact RcNeAt.str_tuple a t1 hl hu
 |_=>exact absurd (show false=true from fy) yS
theorem Tt (hl:s.heap.IsTuple l items)(hu:A.units<cLine)(ry:RelV y u)(fy:k6 y=true):RcNeAt A s (.ref l) u true:=by
 cases y with
 |non=>cases ry;exact RcNeAt.tuple_none hl hu
 |bl a=>cases ry;exact RcNeAt.tuple_bool a hl hu
 |int a=>obtain ⟨t1,rfl⟩:=ry;exact RcNeAt.tuple_int a t1 hl hu
 |str a=>obtain ⟨t1,rfl⟩:=ry;exact RcNeAt.tuple_str a t1 hl hu
 |_=>exact absurd (show false=true from fy) yS
section
variable {X:Cx}{pins:List (Addr×Obj)}{σ:St}{H:Hp}{s:Shared}
theorem ZO (I:Inv X pins σ H s):∀(n:Nat){x:V}{b:Bool},EqP X.K H n x x b->b=true
 |0,x,b,h=>by obtain ⟨h1,_,rfl⟩:=h;exact ZP h1
 |n+1,x,b,h=>by
  rcases h with ⟨h1,_,rfl⟩|⟨a,c,xs,ys,rfl,e2,p1,p2,h⟩|⟨a,c,xs,ys,rfl,e2,p1,p2,e,he,rfl⟩|⟨a,c,xs,ys,rfl,e2,p1,p2,_⟩|⟨a,c,xs,ys,rfl,e2,p1,p2,_⟩|⟨c,ys,f,rfl,_⟩|⟨c,ys,f,rfl,_⟩
  ·exact ZP h1
  ·cases e2;cases I.list_inj p1 p2;rcases h with ⟨h,_⟩|⟨_,e,he,rfl⟩
   ·exact absurd rfl h
   ·rw [uE];exact λj hj=>ZO I n (he j (yw.mp hj) (yw.mp hj))
  ·cases e2;cases I.tuple_inj p1 p2;rw [Nat.min_self,beq_self_eq_true,Bool.and_true,uE];exact λj hj=>ZO I n (he j (yw.mp hj) (yw.mp hj))
  ·cases e2;obtain ⟨_,_,⟨o1,_,q1,c1,_⟩,_⟩:=I.list p1;obtain ⟨_,_,⟨o2,q2,c2,_⟩,_⟩:=I.tuple p2;rw [q1] at q2;cases q2;rw [c1] at c2;exact absurd c2 (by decide)
  ·cases e2;obtain ⟨_,_,⟨o2,q2,c2,_⟩,_⟩:=I.tuple p1;obtain ⟨_,_,⟨o1,_,q1,c1,_⟩,_⟩:=I.list p2;rw [q1] at q2;cases q2;rw [c1] at c2;exact absurd c2 (by decide)
  ·cases f
  ·cases f
theorem Qq (I:Inv X pins σ H s):∀(n:Nat)(A:Around){x y:V}{u v:Value}{b:Bool},A.units+n<cLine->EqP X.K H n x y b->RelV x u->RelV y v->EqAt A s u v b
 |0,A,x,y,u,v,b,hu,h,r1,r2=>by obtain ⟨h1,h2,rfl⟩:=h;exact Vs r1 r2 h1 h2
 |n+1,A,x,y,u,v,b,hu,h,r1,r2=>by
  have h':=h;rcases h with ⟨h1,h2,rfl⟩|⟨a,c,xs,ys,rfl,rfl,p1,p2,h⟩|⟨a,c,xs,ys,rfl,rfl,p1,p2,e,he,rfl⟩|⟨a,c,xs,ys,rfl,rfl,p1,p2,rfl⟩|⟨a,c,xs,ys,rfl,rfl,p1,p2,rfl⟩|⟨c,ys,f,rfl,p,rfl⟩|⟨c,ys,f,rfl,p,rfl⟩
  ·exact Vs r1 r2 h1 h2
  ·cases r1;cases r2;by_cases hac:a=c
   ·subst hac;have hb:=ZO I (n+1) h';rw [hb];exact EqAt.same _
   obtain ⟨us,v1,q1,_⟩:=I.list p1;obtain ⟨ws,v2,q2,_⟩:=I.list p2;have l1:=v1.length;have l2:=v2.length;refine EqAt.of_refs hac ?_;rcases h with ⟨h,rfl⟩|⟨hl,e,he,rfl⟩
   ·exact RcAt.lists_lengths q1.isList q2.isList (by rw [yX,yX];simp;omega) (by omega)
   ·have q:=RcAt.lists (A:=A) (s:=s) q1.isList q2.isList (by rw [yX,yX];omega) (by omega) (e:=e) (λj j1 j2=>?_)
    ·rw [yX,<- l1] at q;exact q
    ·have j1':j<us.length:=by simpa using j1
     have j2':j<ws.length:=by simpa using j2
     rw [ye,ye];exact Qq I n A.in1 (by show A.units+1+n<cLine;omega) (he j (by omega) (by omega)) (zq v1 j (by omega) j1') (zq v2 j (by omega) j2')
  ·cases r1;cases r2;by_cases hac:a=c
   ·subst hac;have hb:=ZO I (n+1) h';rw [hb];exact EqAt.same _
   obtain ⟨us,v1,q1,_⟩:=I.tuple p1;obtain ⟨ws,v2,q2,_⟩:=I.tuple p2;have l1:=v1.length;have l2:=v2.length;refine EqAt.of_refs hac ?_;have q:=RcAt.tuples (A:=A) (s:=s) q1 q2 (by omega) (e:=e) (λj j1 j2=>?_)
   ·rw [yX,yX,<- l1,<- l2] at q;exact q
   ·have j1':j<us.length:=by simpa using j1
    have j2':j<ws.length:=by simpa using j2
    rw [ye,ye];exact Qq I n A.in1 (by show A.units+1+n<cLine;omega) (he j (by omega) (by omega)) (zq v1 j (by omega) j1') (zq v2 j (by omega) j2')
  ·cases r1;cases r2;obtain ⟨us,v1,q1,_⟩:=I.list p1;obtain ⟨ws,v2,q2,_⟩:=I.tuple p2;exact EqAt.list_tuple q1.isList q2 (by omega)
  ·cases r1;cases r2;obtain ⟨us,v1,q1,_⟩:=I.tuple p1;obtain ⟨ws,v2,q2,_⟩:=I.list p2;exact EqAt.tuple_list q1 q2.isList (by omega)
  ·cases r2;rcases p with p|p
   ·obtain ⟨us,v1,q1,_⟩:=I.list p;exact MF q1.isList (by omega) r1 f
   ·obtain ⟨us,v1,q1,_⟩:=I.tuple p;exact MH q1 (by omega) r1 f
  ·cases r1;rcases p with p|p
   ·obtain ⟨us,v1,q1,_⟩:=I.list p;exact MI q1.isList (by omega) r2 f
   ·obtain ⟨us,v1,q1,_⟩:=I.tuple p;exact MJ q1 (by omega) r2 f
theorem rc_at (I:Inv X pins σ H s)(hu:A.units+n<cLine)(h:EqP X.K H n x y b)(r1:RelV x u)(r2:RelV y v):RcAt A s u v b:=by
 cases n with
 |zero=>obtain ⟨h1,h2,rfl⟩:=h;exact PF r1 r2 h1 h2
 |succ n =>
  rcases h with ⟨h1,h2,rfl⟩|⟨a,c,xs,ys,rfl,rfl,p1,p2,h⟩|⟨a,c,xs,ys,rfl,rfl,p1,p2,e,he,rfl⟩|⟨a,c,xs,ys,rfl,rfl,p1,p2,rfl⟩|⟨a,c,xs,ys,rfl,rfl,p1,p2,rfl⟩|⟨c,ys,f,rfl,p,rfl⟩|⟨c,ys,f,rfl,p,rfl⟩
  ·exact PF r1 r2 h1 h2
  ·cases r1;cases r2;obtain ⟨us,v1,q1,_⟩:=I.list p1;obtain ⟨ws,v2,q2,_⟩:=I.list p2;have l1:=v1.length;have l2:=v2.length;rcases h with ⟨h,rfl⟩|⟨hl,e,he,rfl⟩
   ·exact RcAt.lists_lengths q1.isList q2.isList (by rw [yX,yX];simp;omega) (by omega)
   ·have q:=RcAt.lists (A:=A) (s:=s) q1.isList q2.isList (by rw [yX,yX];omega) (by omega) (e:=e) (λj j1 j2=>?_)
    ·rw [yX,<- l1] at q;exact q
    ·have j1':j<us.length:=by simpa using j1
     have j2':j<ws.length:=by simpa using j2
     rw [ye,ye];exact Qq I n A.in1 (by show A.units+1+n<cLine;omega) (he j (by omega) (by omega)) (zq v1 j (by omega) j1') (zq v2 j (by omega) j2')
  ·cases r1;cases r2;obtain ⟨us,v1,q1,_⟩:=I.tuple p1;obtain ⟨ws,v2,q2,_⟩:=I.tuple p2;have l1:=v1.length;have l2:=v2.length;have q:=RcAt.tuples (A:=A) (s:=s) q1 q2 (by omega) (e:=e) (λj j1 j2=>?_)
   ·rw [yX,yX,<- l1,<- l2] at q;exact q
   ·have j1':j<us.length:=by simpa using j1
    have j2':j<ws.length:=by simpa using j2
    rw [ye,ye];exact Qq I n A.in1 (by show A.units+1+n<cLine;omega) (he j (by omega) (by omega)) (zq v1 j (by omega) j1') (zq v2 j (by omega) j2')
  ·cases r1;cases r2;obtain ⟨us,v1,q1,_⟩:=I.list p1;obtain ⟨ws,v2,q2,_⟩:=I.tuple p2;exact RcAt.list_tuple q1.isList q2 (by omega)
  ·cases r1;cases r2;obtain ⟨us,v1,q1,_⟩:=I.tuple p1;obtain ⟨ws,v2,q2,_⟩:=I.list p2;exact RcAt.tuple_list q1 q2.isList (by omega)
  ·cases r2;rcases p with p|p
   ·obtain ⟨us,v1,q1,_⟩:=I.list p;exact Tl q1.isList (by omega) r1 f
   ·obtain ⟨us,v1,q1,_⟩:=I.tuple p;exact Tm q1 (by omega) r1 f
  ·cases r1;rcases p with p|p
   ·obtain ⟨us,v1,q1,_⟩:=I.list p;exact Tn q1.isList (by omega) r2 f
   ·obtain ⟨us,v1,q1,_⟩:=I.tuple p;exact To q1 (by omega) r2 f
theorem Tu (I:Inv X pins σ H s)(hu:A.units+n<cLine)(h:EqP X.K H n x y b)(r1:RelV x u)(r2:RelV y v):RcNeAt A s u v (!b):=by
 cases n with
 |zero=>obtain ⟨h1,h2,rfl⟩:=h;exact PH r1 r2 h1 h2
 |succ n =>
  rcases h with ⟨h1,h2,rfl⟩|⟨a,c,xs,ys,rfl,rfl,p1,p2,h⟩|⟨a,c,xs,ys,rfl,rfl,p1,p2,e,he,rfl⟩|⟨a,c,xs,ys,rfl,rfl,p1,p2,rfl⟩|⟨a,c,xs,ys,rfl,rfl,p1,p2,rfl⟩|⟨c,ys,f,rfl,p,rfl⟩|⟨c,ys,f,rfl,p,rfl⟩
  ·exact PH r1 r2 h1 h2
  ·cases r1;cases r2;obtain ⟨us,v1,q1,_⟩:=I.list p1;obtain ⟨ws,v2,q2,_⟩:=I.list p2;have l1:=v1.length;have l2:=v2.length;rcases h with ⟨h,rfl⟩|⟨hl,e,he,rfl⟩
   ·exact RcNeAt.lists_lengths q1.isList q2.isList (by rw [yX,yX];simp;omega) (by omega)
   ·have q:=RcNeAt.lists (A:=A) (s:=s) q1.isList q2.isList (by rw [yX,yX];omega) (by omega) (e:=e) (λj j1 j2=>?_)
    ·rw [yX,<- l1] at q;exact q
    ·have j1':j<us.length:=by simpa using j1
     have j2':j<ws.length:=by simpa using j2
     rw [ye,ye];exact Qq I n A.in1 (by show A.units+1+n<cLine;omega) (he j (by omega) (by omega)) (zq v1 j (by omega) j1') (zq v2 j (by omega) j2')
  ·cases r1;cases r2;obtain ⟨us,v1,q1,_⟩:=I.tuple p1;obtain ⟨ws,v2,q2,_⟩:=I.tuple p2;have l1:=v1.length;have l2:=v2.length;have q:=RcNeAt.tuples (A:=A) (s:=s) q1 q2 (by omega) (e:=e) (λj j1 j2=>?_)
   ·rw [yX,yX,<- l1,<- l2] at q;exact q
   ·have j1':j<us.length:=by simpa using j1
    have j2':j<ws.length:=by simpa using j2
    rw [ye,ye];exact Qq I n A.in1 (by show A.units+1+n<cLine;omega) (he j (by omega) (by omega)) (zq v1 j (by omega) j1') (zq v2 j (by omega) j2')
  ·cases r1;cases r2;obtain ⟨us,v1,q1,_⟩:=I.list p1;obtain ⟨ws,v2,q2,_⟩:=I.tuple p2;exact RcNeAt.list_tuple q1.isList q2 (by omega)
  ·cases r1;cases r2;obtain ⟨us,v1,q1,_⟩:=I.tuple p1;obtain ⟨ws,v2,q2,_⟩:=I.list p2;exact RcNeAt.tuple_list q1 q2.isList (by omega)
  ·cases r2;rcases p with p|p
   ·obtain ⟨us,v1,q1,_⟩:=I.list p;exact Tp q1.isList (by omega) r1 f
   ·obtain ⟨us,v1,q1,_⟩:=I.tuple p;exact Tq q1 (by omega) r1 f
  ·cases r1;rcases p with p|p
   ·obtain ⟨us,v1,q1,_⟩:=I.list p;exact Tr q1.isList (by omega) r2 f
   ·obtain ⟨us,v1,q1,_⟩:=I.tuple p;exact Tt q1 (by omega) r2 f
def rEqD (K:Fg)(n:Nat)(neg:Bool):R2:=λx y H Q=>∃ b,EqP K H n x y b/\Q (.bl (if neg then !b else b)) H
theorem zY (hu:X.A.units+n<cLine)(hK:X.K=K):OpR X (compareOp .Eq) (rEqD K n false):=by subst hK;intro pins s σ H x y v u Q I rx ry h;obtain ⟨b,h,q⟩:=h;exact rc_at I hu h rx ry X.prog X.w X.xe _ ⟨.bl b,H,I,rfl,q⟩
theorem ju (hu:X.A.units+n<cLine)(hK:X.K=K):OpR X (compareOp .NotEq) (rEqD K n true):=by subst hK;intro pins s σ H x y v u Q I rx ry h;obtain ⟨b,h,q⟩:=h;exact Tu I hu h rx ry X.prog X.w X.xe _ ⟨.bl (!b),H,I,rfl,q⟩
theorem qT {k:Nat}(hr:Room k A):A.units+6<cLine:=by have:=hr.units;omega
end
end L2
namespace L2
open PySem PySem.Spec PyProof.Rows
section
variable {X:Cx}{K:Fg}
def rAddS:R2:=λx y H Q=>∃ i j,x = .str i/\y = .str j/\i.length+j.length<=sizeLine/\Q (.str (i++j)) H
def Pm (K:Fg):R2:=λx y H Q=>(rI0 λi j=> .int (i+j)) x y H Q∨rAddS x y H Q∨Po K x y H Q∨Pq K x y H Q
theorem xm (h:X.K=K):OpR X (binaryOp .Add) (Pm K):=by subst h;exact op_add.or (op_add_str.or (op_catL.or Ro))
theorem LZ (h:X.K=K):IxR X (rIx K):=by subst h;exact LY
def QT (K:Fg):List V->Hp->VK->Prop:=λxs H Q=>(∃ x n,xs=[x]/\LenV K x H n/\Q (.int n) H)∨∃ a kvs,xs=[V.ref a]/\H a=some (.dK kvs)/\Q (.int kvs.length) H
theorem xb (h:X.K=K):CallR X (.builtin "len") (QT K):=by subst h;exact CallR.or (f:= .builtin "len") DV DW
theorem Tg {a:Expr}{ta:TE}(h:X.K=K)(ha:PE X a ta)(he:∀ whole,isTrue a X.env whole=(do let v <- whole;standAt a.pos;holding [v] (truthy v))):PT X a (λσ H Q=>ta σ H λx H'=>∃ k,TruV K x H' k/\Q k H'):=by subst h;exact Th ha he
theorem BQ (h:X.K=K):OpR X (compareOp .In) (rIn K false):=by subst h;exact Rp
theorem Wv {tg l:Expr}{tl:TE}(hK:X.K=K)(hl:PE X l tl):PI X tg l (iTup K tl):=by subst hK;exact RT hl
def Px (K:Fg):List V->Hp->VK->Prop:=λxs H Q=>∃ p ys,xs=[.ref p]/\(SqL K H p ys∨SqT K H p ys)/\∀ l,H l=none->Q (.ref l) (w6 H l (.lst ys))
theorem vh (h:X.K=K):CallR X (.type "list") (Px K):=by subst h;exact Ma
def rIsi (K:Fg):List V->Hp->VK->Prop:=λxs H Q=>∃ x n T b,xs=[x,.ty n]/\xU K H x (.type T)/\tyB T n=some b/\Q (.bl b) H
theorem zD (h:X.K=K):CallR X (.builtin "isinstance") (rIsi K):=by subst h;exact DU
def Pn (K:Fg):List V->Hp->VK->Prop:=λxs H Q=>∃(a:Addr)(bs:List Bool),xs=[.ref a]/\SqL K H a (bs.map V.bl)/\Q (.bl (bs.all id)) H
theorem vX (hc:X.calm=true)(h:X.K=K):CallR X (.builtin "all") (Pn K):=by subst h;exact DS hc
def PD (K:Fg):List V->Hp->VK->Prop:=λxs H Q=>∃(a:Addr)(ns:List Int),xs=[.ref a]/\SqL K H a (ns.map V.int)/\Q (.int ns.sum) H
theorem Kf (hc:X.calm=true)(h:X.K=K):CallR X (.builtin "sum") (PD K):=by subst h;exact Ke hc
def rMin2:List V->Hp->VK->Prop:=λxs H Q=>∃ i j,xs=[.int i,.int j]/\Q (.int (if j<i then j else i)) H
theorem Mc (hc:X.calm=true):CallR X (.builtin "min") rMin2:=Mb hc
def rIsN:R2:=λx y H Q=>y = .non/\Q (.bl (decide (x = .non))) H
def Py:R2:=λx y H Q=>y = .non/\Q (.bl (!decide (x = .non))) H
theorem BR:OpR X (compareOp .Is) rIsN:=Rq
theorem Wm:OpR X (compareOp .IsNot) Py:=Rs
theorem Kc:bootBuiltins "tuple"=some (.type "tuple"):=by decide +kernel
theorem ZG:bootBuiltins "sorted"=some (.builtin "sorted"):=by decide +kernel
theorem Vf:bootBuiltins "dict"=some (.type "dict"):=by decide +kernel
theorem IB:tyB "tuple" "tuple"=some true:=by decide +kernel
end
section
variable {X:Cx}{K:Fg}{o e:Expr}{es:List Expr}{to:TE}{t:TA}{name:Str}{apos cpos:Pos}{T id:String}{r:V->List V->Hp->VK->Prop}
theorem ja (hK:X.K=K)(pa:PlainAttrs T)(slot:Slot T name id)(hty:typeOf (.builtin id)=pure (.type "method_descriptor"))(hm:MtR X id r)(ho:PE X o to)(ha:PA X (e::es) t)(hbase:attributeBase o name X.env (eval o X.env)=eval o X.env:=by rfl)(hfew:((backTo cpos (starEach (e::es) X.env)).all (λx=>!x.1)&&(backToKw cpos (keywordEach [] X.env)).all (λx=>x.1.isSome)&&decide ((e::es).length+([]:List Keyword).length+(if ([]:List Keyword).isEmpty then 0 else 1)<30))=true:=by rfl)(hline:(apos.endLine==cpos.line)=true:=by rfl)(hs:starEach (e::es) X.env=(false,eval e X.env)::starEach es X.env:=by rfl)(hplain:(backTo cpos (starEach es X.env)).any (·.1)=false:=by rfl):PE X (.Call (.Attribute o name apos) (e::es) [] cpos) (tBM K T r to t):=by subst hK;exact pe_bm pa slot hty hm ho ha hbase hfew hline hs hplain
end
end L2
namespace L2
open PySem PySem.Spec PySem.Calls
variable{h:Heap}{a:Addr}{n:Nat}{A:Around}
section
variable {P:Program}{w:World}{κ:Type}[DecidableEq κ]{knd:PySem.KeyKind P w κ}
def i8 (val:Nat->κ):Nat->List κ
 |0=>[]
 |i+1=>if val i∈i8 val i then i8 val i else i8 val i++[val i]
theorem Cf (val:Nat->κ):∀ i,(i8 val i).length<=i
 |0=>yW _
 |i+1=>by
  have ih:=Cf val i;unfold i8;split
  ·omega
  ·rw [yM,List.length_singleton];omega
theorem Ch {S S':κ->Bool}{n':Nat}(x:h.SetOf knd a S n)(e:∀ k,S k=S' k)(en:n=n'):h.SetOf knd a S' n':=by cases (funext e:S=S');cases en;exact x
theorem YY {h':Heap}{S:κ->Bool}(x:h.SetOf knd a S n)(e:∀ o,h.get? a=some o->h'.get? a=some o):h'.SetOf knd a S n:=by obtain ⟨o,es,ep,t,ho,r⟩:=x;exact ⟨o,es,ep,t,e _ ho,r⟩
theorem SK {R:Result->Shared->Prop}{I:Addr}{fp wr:List Addr}{G:Array GenState->Array GenState->Prop}{Pp:Nat->Value->Prop}{St:Nat->Shared->Prop}(W:WalksS P w A.in1 I fp wr G n Pp St)(a:Addr)(ha:a∉fp)(val:Nat->κ)(hv:∀ i v,Pp i v->knd.is (val i) v=true/\v.scannable=true)(hb:n+1<scanBound):∀ (m i:Nat) (s:Shared),n-i=m->i<=n->St i s->s.heap.SetOf knd a (λx=>decide (x∈i8 val i)) (i8 val i).length -> (∀ s',Moved (a::wr) G s s'->s'.heap.SetOf knd a (λx=>decide (x∈i8 val n)) (i8 val n).length->R (.ok (.ret .none)) s') -> codeAny (model P w) A (.builtin "set.update.loop" ⟨[.ref a,.ref I],[]⟩) R s:=by
 have haw:a∉wr:=λz=>ha (W.sub _ z);have up:∀ b∈wr,b∈a::wr:=λb z=>yV _ z;intro m
 induction m with
 |zero =>
  intro i s hm hi st hS hR;obtain rfl:i=n:=by omega
  refine codeAny_builtin PyProof.Rows.F.entry_set_update_loop ?_;rw [Around.under_plainId PyProof.Rows.F.plain_set_update_loop _];show wpAny _ A.in1 (pyNext (.ref I) >>= _) _ _ s;refine yR (W.done s _ _ st λs' mv=>?_);show wpAny _ A.in1 (ret Value.none) _ _ s';exact yx (hR s' (mv.mono up) (YY hS λo e=>mv.heap a o haw e))
 |succ m ih =>
  intro i s hm hi st hS hR;have hlt:i<n:=by omega
  refine codeAny_builtin PyProof.Rows.F.entry_set_update_loop ?_;rw [Around.under_plainId PyProof.Rows.F.plain_set_update_loop _];show wpAny _ A.in1 (pyNext (.ref I) >>= _) _ _ s;refine yR (W.item i s _ _ hlt st λv s' hP st' mv=>?_);obtain ⟨hk,hsc⟩:=hv i v hP;have hS':s'.heap.SetOf knd a (λx=>decide (x∈i8 val i)) (i8 val i).length:=YY hS λo e=>mv.heap a o haw e;show wpAny _ A.in1 (holding [v] (setAdd a v) >>= _) _ _ s';refine yR (wpAny_holding ?_);unfold setAdd;refine wpAny_holding (yR (knd.pyHash (k:=val i) hk ?_));have room:(i8 val i).length+1<scanBound:=by have:=Cf val i;omega
  refine wpAny_setAddHashed_of (knd:=knd) (s:={ s' with toks:=s'.toks+1 }) hk hsc hS' room λh' sb hS2=>?_;have hSi:h'.SetOf knd a (λx=>decide (x∈i8 val (i+1))) (i8 val (i+1)).length:=by
   refine Ch hS2 (λx=>?_) ?_
   ·by_cases hc:val i∈i8 val i
    ·rw [show i8 val (i+1)=i8 val i from if_pos hc];by_cases hx:x=val i
     ·subst hx;simp [hc]
     ·simp [hx]
    ·rw [show i8 val (i+1)=i8 val i++[val i] from if_neg hc];simp
   ·by_cases hc:val i∈i8 val i
    ·rw [show i8 val (i+1)=i8 val i from if_pos hc];simp [hc]
    ·rw [show i8 val (i+1)=i8 val i++[val i] from if_neg hc];simp [hc]
  refine yx ⟨plainId_quiet PyProof.Rows.F.plain_set_update_loop _,ih (i+1) _ (by omega) hlt (W.frame _ s' _ _ st' (ul _) λb z o e=>?_) hSi λs2 mv2 hS3=>?_⟩
  ·rw [sb.2 b (λq:b=a=>ha (by rw [<- q];exact z))];exact e
  ·refine hR s2 (Moved.trans W.gtrans ((mv.mono up).then_heap (ul _) λb o z e=>?_) mv2) hS3;rw [sb.2 b (λq:b=a=>z (by rw [q];exact yT))];exact e
theorem Mf {E:Value->Shared->Prop}{s:Shared}{l:Addr}{its:Array Value}{val:Nat->κ}{Q:Value->Shared->Prop}(hh:A.handled=none)(hl:s.heap.IsList l its)(hv:∀ (i:Nat) (v:Value),its[i]?=some v->knd.is (val i) v=true/\v.scannable=true)(hb:its.size+1<scanBound)(h:∀ (h':Heap) (tk:Nat),h'.SetOf knd s.heap.objs.size (λx=>decide (x∈i8 val its.size)) (i8 val its.size).length -> (∀ b o,s.heap.get? b=some o->h'.get? b=some o)->Q (.ref s.heap.objs.size) { s with heap:=h',toks:=tk }):wpAny (model P w) A (call (.type "set") [.ref l]) Q E s:=by
 obtain ⟨c,tl,hmro⟩:=PySem.F.called_set.mro;have hmade:=PySem.F.called_set.made;have hsub:=PySem.F.called_set.sub;refine wpAny_call (codeAny_of_tree ?_);show wpAny _ _ (callAny (.type "set") _) _ _ _;refine yx ⟨Code.quiet_builtin _ (by decide +kernel),codeAny_builtin PySem.F.entry_type_call ?_⟩;rw [Around.under_plain (weight_type_call_type "set" [.ref l] []) rfl];have q1:=PySem.F.called_set.notType;have q2:=PySem.F.called_set.canCreate;have q3:=PySem.F.typeCall_set_1 (.ref l)
 (repeat (any_goals (first|assumption|wp_step)))
 refine codeAny_mono (code_set_new_1 (.ref l) (E:=E) (Q₁:=λob s1=>∃ led:Bool,ob = .ref s.heap.objs.size/\s1={ s with heap:=s.heap.push { cls:= .type "set",dict:=none,data:= .set #[] 0 (.fresh 0 0 led) } }) λled=>⟨led,rfl,rfl⟩) λr s1 hr=>?_;cases r with
 |error e=>exact hr
 |ok fl =>
  cases fl with
  |ret ob =>
   obtain ⟨led,rfl,rfl⟩:=hr;have hS:(s.heap.push { cls:= .type "set",dict:=none,data:= .set #[] 0 (.fresh 0 0 led) }).get? s.heap.objs.size=some { cls:= .type "set",dict:=none,data:= .set #[] 0 (.fresh 0 0 led) }:=yD _ rfl;have hT:Shared.TypeIs { s with heap:=s.heap.push { cls:= .type "set",dict:=none,data:= .set #[] 0 (.fresh 0 0 led) } } (.ref s.heap.objs.size) "set":=⟨_,hS,rfl⟩;have hli:=PySem.F.called_set.init.lookup;have hbi:=PySem.F.called_set.init.bind (.ref s.heap.objs.size)
   (repeat (any_goals (first|assumption|wp_step)))
   refine codeAny_mono (codeAny_call_builtin (R:=wants (λr s2=>r = .none/\∃ h' tk,s2={ s with heap:=h',toks:=tk }/\h'.SetOf knd s.heap.objs.size (λx=>decide (x∈i8 val its.size)) (i8 val its.size).length /\
     (∀ b o,s.heap.get? b=some o->h'.get? b=some o)) E) PySem.F.called_set.init.plain PySem.F.entry_set_init (check_set_init_1 hT ?_)) λr2 s2 hr2=>?_
   ·obtain ⟨ol,hol,hcl,nl,hdl⟩:=hl;obtain ⟨ocls,odict,odata,oslots⟩:=ol;simp only at hcl hdl;subst hcl;subst hdl;have hol':(s.heap.push { cls:= .type "set",dict:=none,data:= .set #[] 0 (.fresh 0 0 led) }).get? l=some { cls:= .type "list",dict:=odict,data:= .seq its nl,slots:=oslots }:=yU _ hol;have z1:=PySem.F.sub_list_set;have z2:=PySem.F.sub_list_frozenset;have z3:(Value.type "list" == Value.type "dict")=false:=by decide
    have hl1:(s.heap.push { cls:= .type "set",dict:=none,data:= .set #[] 0 (.fresh 0 0 led) }).IsList l its:=⟨_,hol',rfl,nl,rfl⟩;unfold Builtin.«set.__init__» noKeywords Builtin.Frozenset.updateFrom;generalize hPI:pyIter=PI
    wp_walk
    subst hPI;refine wpAny_pyIter_list hl1 ?_;refine yR (wpAny_runValue ?_);have hlS:l<s.heap.objs.size:=yQ hol;have h3:A.in1.in1.in1.handled=none:=by simp [hh]
    have ne1:l≠(s.heap.push { cls:= .type "set",dict:=none,data:= .set #[] 0 (.fresh 0 0 led) }).objs.size:=by rw [ux];exact yL (Nat.lt_succ_of_lt hlS)
    have ne2:s.heap.objs.size∉[(s.heap.push { cls:= .type "set",dict:=none,data:= .set #[] 0 (.fresh 0 0 led) }).objs.size,l]:=by rw [ux];simp only [yJ,yf,or_false,not_or];exact ⟨yL (uk _),ua hlS⟩
    refine SK (knd:=knd) ((Walks.list h3 _ l ne1 its).toS) s.heap.objs.size ne2 val hv hb (its.size-0) 0 _ (by omega) (ya _) ⟨⟨_,yD _ rfl,rfl,rfl⟩,(hl1.push _)⟩ ?_ ?_
    ·have hg:((s.heap.push { cls:= .type "set",dict:=none,data:= .set #[] 0 (.fresh 0 0 led) }).push { cls:= .type "list_iterator",data:= .fields #[.ref l,.int 0 0] }).get? s.heap.objs.size=some { cls:= .type "set",dict:=none,data:= .set #[] 0 (.fresh 0 0 led) }:=yU _ hS;exact Ch ((PyProof.Rows.setObjOf_fresh (knd:=knd) led).setOf hg (by unfold scanBound;omega)) (λx=>by simp [i8]) rfl
    ·rintro ⟨h',g',d',tk',os'⟩ mv hS';have eg:g'=s.gens:=mv.gens;have ed:d'=s.drawn:=mv.drawn;have eo:os'=s.os:=mv.os;subst eg ed eo;show wpAny _ _ _ _ _ _;refine yx ?_;show wpAny _ _ (ret Value.none) _ _ _;refine yx ⟨rfl,h',tk',rfl,hS',λb o e=>?_⟩;have hb0:=yQ e;refine mv.heap b o ?_ (yU _ (yU _ e));rw [ux];simp only [yJ,yf,or_false,not_or];exact ⟨yL hb0,yL (Nat.lt_succ_of_lt hb0)⟩
   ·cases r2 with
    |error e=>exact hr2
    |ok fl2 =>
     cases fl2 with
     |ret r =>
      obtain ⟨rfl,h',tk,rfl,hS',hk'⟩:=hr2
      (repeat (any_goals (first|assumption|wp_step)))
      exact h _ _ hS' hk'
     |_=>exact False.elim hr2
  |_=>exact False.elim hr
end
def vV (n:Nat)(a:Addr):HO:= .ext λh=>∃(P:Program)(w:World)(S:j6->Bool),h.SetOf (qA P w) a S n
section
variable {X:Cx}
theorem Fw {ss:List Str}{us:List Value}(r:Vals (ss.map V.str) us):∀(i:Nat)(v:Value),us[i]?=some v->∃ x t,ss[i]?=some x/\v = .str x t:=by
 have key:∀(ss:List Str)(us:List Value),Vals (ss.map V.str) us->∀(i:Nat)(v:Value),us[i]?=some v->∃ x t,ss[i]?=some x/\v = .str x t:=by
  intro ss
  induction ss with
  |nil=>intro us r i v e;cases r;simp at e
  |cons s ss ih =>
   intro us r i v e;cases r with
   |cons p q =>
    cases i with
    |zero=>obtain ⟨t,rfl⟩:=p;simp at e;exact ⟨s,t,rfl,e.symm⟩
    |succ i=>exact ih _ q i v (by simpa using e)
 intro i v e;exact key ss us r i v e
theorem Me (hc:X.calm=true):CallR X (.type "set") (λxs H Q=>∃ (a:Addr) (ss:List Str),xs=[.ref a]/\SqL X.K H a (ss.map V.str)/\ss.length<=1000 /\ ∀ l,H l=none->Q (.ref l) (w6 H l (vV (i8 (λi=>(Sum.inr (ss.getD i ⟨#[]⟩):j6)) ss.length).length l))):=by
 intro pins s σ H xs us Q I r h;obtain ⟨a,ss,rfl,hq,hl,q⟩:=h;obtain ⟨u,rfl,ru⟩:=ji r;obtain rfl:u=Value.ref a:=ru;obtain ⟨its,rv,p,hz⟩:=I.list hq;have hn:its.length=ss.length:=by have e:=rv.length;rw [yZ] at e;exact e.symm
 refine Mf (knd:=qA X.prog X.w) (its:=its.toArray) (val:=λi=>(Sum.inr (ss.getD i ⟨#[]⟩):j6)) (I.ok.hd hc) p.isList (λi v e=>?_) (by rw [yX,hn];unfold scanBound;omega) λh' tk hS k=>?_
 ·obtain ⟨x,t,hx,rfl⟩:=Fw rv i v (by simpa using e);rw [yB,hx];exact ⟨Wg _ _ _ _,rfl⟩
 ·have e8:its.toArray.size=ss.length:=by rw [yX];exact hn
  rw [e8] at hS;refine ⟨.ref s.heap.objs.size,_,I.laid (t':=tk) k (yW _) (show ObjOk X.prog X.w _ h' _ (vV _ _) from ⟨⟨_,_,_,hS⟩,?_,?_⟩),rfl,q _ (I.hok.fresh (yW _))⟩
  ·obtain ⟨o,_,_,_,ho,_⟩:=hS;exact ⟨o,ho⟩
  ·rintro h1 h2 ⟨P,w,S,x⟩ e;exact ⟨P,w,S,YY x e⟩
theorem DX:CallR X (.builtin "len") (λxs H Q=>∃ (a:Addr) (n:Nat),xs=[.ref a]/\H a=some (vV n a)/\Q (.int n) H):=by
 intro pins s σ H xs us Q I r h;obtain ⟨a,n,rfl,hq,q⟩:=h;obtain ⟨u,rfl,ru⟩:=ji r;obtain rfl:u=Value.ref a:=ru;obtain ⟨⟨P,w,S,o,es,ep,t,ho,hex,hd,_,_,hb,hf,hn⟩,_⟩:=(show ObjOk X.prog X.w H s.heap a (vV n a) from I.hok a _ hq);subst hn;have h63:((es.size:Nat):Int)<2 ^ 63:=by unfold scanBound at hb;omega
 exact call_len_set ho hex hd hf h63 ⟨.int es.size,H,I.tok _,⟨_,rfl⟩,q⟩
end
end L2
namespace L2
open PySem PySem.Spec PySem.Calls PyProof.Rows
variable{ss:List Str}{P:Program}{w:World}{vs:List Value}{A:Around}{E Q:Value->Shared->Prop}{s:Shared}
section
variable {X:Cx}
def Zz (ss:List Str):Prop:=ss.Pairwise λx y=>¬ (y.cps.toList<x.cps.toList)
theorem Cq (h:sortedS ss=true):Zz ss:=by
 cases ss with
 |nil=>exact List.Pairwise.nil
 |cons x r =>
  have key:∀(l:List Str)(p:Str),risingS p l=true->(p::l).Pairwise λx y=>¬ (y.cps.toList<x.cps.toList):=by
   intro l
   induction l with
   |nil=>intro p _;exact List.pairwise_singleton _ _
   |cons y l ih =>
    intro p hp;have hp':(!ltCps y.cps.toList p.cps.toList&&risingS y l)=true:=hp;rw [yi] at hp';have i2:=ih y hp'.2;have hyp:¬ (y.cps.toList<p.cps.toList):=by have e:=hp'.1;rw [ltCps_eq] at e;simpa using e
    refine uK.mpr ⟨λz hz=>?_,i2⟩;rcases yJ.mp hz with rfl|hz
    ·exact hyp
    ·have hzy:=(uK.mp i2).1 z hz;intro hlt;exact hyp (Std.lt_of_le_of_lt (Std.not_lt.mp hzy) hlt)
  exact key r x h
def PB (K:Fg):List V->Hp->VK->Prop:=λxs H Q=>∃(a:Addr)(ss:List Str),xs=[.ref a]/\(SqL K H a (ss.map V.str)∨∃ kvs,Rd H a (.dK kvs)/\kvs.map (·.1)=ss.map Sum.inr)/\ss.length<64 /\
 ∀ l ss',H l=none->ss'.Perm ss->Zz ss'->Q (.ref l) (w6 H l (.lst (ss'.map V.str)))
theorem Cv:∀{ss:List Str}{us:List Value},Vals (ss.map V.str) us->StrsAre us ss
 |[],_,.nil=> .nil
 |x::_,_,.cons ⟨t,e⟩ r=>by subst e;exact .cons x t (Cv r)
theorem Ur:∀{us:List Value}{ss:List Str},StrsAre us ss->Vals (ss.map V.str) us
 |_,_,.nil=> .nil
 |_,_,.cons x t r=> .cons ⟨t,rfl⟩ (Ur r)
theorem Ni:∀{kvs:List (j6×V)}{vs:List (j6×Value)}{ss:List Str},KV kvs vs->kvs.map (·.1)=ss.map Sum.inr->vs.map (·.1)=ss.map Sum.inr:=by
 intro kvs vs ss r e;rw [<- e];clear e
 induction r with
 |nil=>rfl
 |cons p _ ih=>rw [yO,yO,ih,p.1]
theorem LR {vs:List (j6×Value)}{acc:Array Value}(e:vs.map (·.1)=ss.map Sum.inr)(h:ItemsOf (λi v=>∃ k x,vs[i]?=some (k,x)/\(qA P w).is k v=true) acc vs.length):StrsAre acc.toList ss:=by
 have hl:vs.length=ss.length:=by have:=congrArg List.length e;rwa [yZ,yZ] at this
 have h0:∀ v∈acc.toList,∃ x t,v = .str x t:=by
  intro v hv;obtain ⟨i,hi,rfl⟩:=uH hv;obtain ⟨k,x,hk,his⟩:=h.2 i acc.toList[i] (by simp at hi ⊢);have hk2:(vs.map (·.1))[i]?=some k:=by rw [yP,hk];rfl
  rw [e,yP] at hk2;obtain ⟨z,_,rfl⟩:=yN.mp hk2;cases hv2:acc.toList[i] with
  |str y t=>exact ⟨y,t,rfl⟩
  |_=>rw [hv2] at his;cases his
 have h1:=strsAre_map acc.toList h0;have e2:acc.toList.map strOf=ss:=by
  apply List.ext_getElem?;intro i;rw [yP];by_cases hi:i<acc.size
  ·obtain ⟨k,x,hk,his⟩:=h.2 i acc[i] (Array.getElem?_eq_getElem hi);have hk2:(vs.map (·.1))[i]?=some k:=by rw [yP,hk];rfl
   rw [e,yP] at hk2;obtain ⟨z,hz,rfl⟩:=yN.mp hk2;obtain ⟨y,t,hy⟩:=h0 acc[i] (by simp);rw [hy] at his;have:y=z:=by have q:wf (Sum.inr z) (.str y t)=true:=his;have q2:=Bp y t;have q3:=(qA P w).inj (.str y t) (Sum.inr z) (Sum.inr y) his (Wg P w y t);injection q3 with q3;exact q3.symm
   rw [hz,tY,Array.getElem?_eq_getElem hi,hy,<- this];rfl
  ·have h1:=h.1;rw [uW (by simp;omega),uW (by omega)];rfl
 rw [e2] at h1;exact h1
theorem FF (hS:StrsAre vs ss)(h64:vs.length<64)(h:∀ (h':Heap) (out:List Value) (ss':List Str) (e:Nat),(∀ b o,s.heap.get? b=some o->h'.get? b=some o)->h'.get? s.heap.objs.size=some (seqObj "list" out.toArray e)->StrsAre out ss'->ss'.Perm ss->sortedS ss'=true->Q (.ref s.heap.objs.size) { s with heap:=h' }):wpAny (model P w) A (newList vs >>= λl=>holding [l] (call (.builtin "list.sort") [l]) >>= λ_=>pure l) Q E s:=by
 refine yR (wpAny_newList ?_);have ho:(s.heap.push (seqObj "list" vs.toArray 0)).get? s.heap.objs.size=some (seqObj "list" vs.toArray 0):=yD _ rfl;refine yR (wpAny_holding (wpAny_call_entry slot_list_sort (s:={ s with heap:=s.heap.push (seqObj "list" vs.toArray 0) }) ⟨_,ho,rfl⟩ entry_list_sort
  (list_sort_treeK strKind_oneLt (s:={ s with heap:=s.heap.push (seqObj "list" vs.toArray 0) }) ho hS.keysOf (λv1 v2 rest e=>keyKind_strs (by rw [<- e];exact hS)) h64 λst p1 p2=>⟨_,rfl,?_⟩) (args_list_sort _)))
 obtain ⟨ss',a1,a2,a3⟩:=sorted_out_str hS p1 p2;obtain ⟨e,he⟩:=sortedHeap_at (out:=(arrOf st).map (·.2)) ho;refine yx (h _ _ ss' e (λb o hb=>?_) (by rw [Array.toArray_toList];exact he) a1 a2 a3);have hlt:=yQ hb;rw [sortedHeap_old (yL hlt) (by rw [ux];exact Nat.lt_succ_of_lt hlt)];exact yU _ hb
theorem SW (hS:StrsAre vs ss)(h64:vs.length<64)(h:∀ (h':Heap) (out:List Value) (ss':List Str) (e:Nat),(∀ b o,s.heap.get? b=some o->h'.get? b=some o)->h'.get? s.heap.objs.size=some (seqObj "list" out.toArray e)->StrsAre out ss'->ss'.Perm ss->sortedS ss'=true->Q (.ref s.heap.objs.size) { s with heap:=h' }):wpAny (model P w) A (newList vs >>= λl=>holding [l] (call (.builtin "list.sort") [l] []) >>= λ_=>ret l) (λfin s'=>∃ v,fin=PySem.Fin.done (.ret v)/\Q v s') E s:=by
 refine yR (wpAny_newList ?_);have ho:(s.heap.push (seqObj "list" vs.toArray 0)).get? s.heap.objs.size=some (seqObj "list" vs.toArray 0):=yD _ rfl;refine yR (wpAny_holding (wpAny_call_entry slot_list_sort (s:={ s with heap:=s.heap.push (seqObj "list" vs.toArray 0) }) ⟨_,ho,rfl⟩ entry_list_sort
  (list_sort_treeK strKind_oneLt (s:={ s with heap:=s.heap.push (seqObj "list" vs.toArray 0) }) ho hS.keysOf (λv1 v2 rest e=>keyKind_strs (by rw [<- e];exact hS)) h64 λst p1 p2=>⟨_,rfl,?_⟩) (args_list_sort _)))
 obtain ⟨ss',a1,a2,a3⟩:=sorted_out_str hS p1 p2;obtain ⟨e,he⟩:=sortedHeap_at (out:=(arrOf st).map (·.2)) ho;refine yx ⟨_,rfl,h _ _ ss' e (λb o hb=>?_) (by rw [Array.toArray_toList];exact he) a1 a2 a3⟩;have hlt:=yQ hb;rw [sortedHeap_old (yL hlt) (by rw [ux];exact Nat.lt_succ_of_lt hlt)];exact yU _ hb
theorem Vi {K:Fg}(hc:X.calm=true)(hK:X.K=K):CallR X (.builtin "sorted") (PB K):=by
 subst hK;intro pins s σ H xs us Q I r h;obtain ⟨a,ss,rfl,hq,h64,q⟩:=h;obtain ⟨u,rfl,ru⟩:=ji r;obtain rfl:u=Value.ref a:=ru;rcases hq with hq|⟨kvs,hq,hk⟩
 ·obtain ⟨its,rv,p,hz⟩:=I.list hq;have hS:=Cv rv;have hl:its.length=ss.length:=by have e:=rv.length;rw [yZ] at e;exact e.symm
  refine sorted_strs p.isList hS (by omega) λout ss' a1 a2 a3=>?_;obtain ⟨e,he⟩:=sortedAll_at s.heap its out;refine ⟨.ref _,_,I.laid (t':=s.toks) (o:= .lst (ss'.map V.str)) (λb o hb=>sortedAll_old hb) (ul _) ?_,rfl,q _ ss' (I.hok.fresh (ul _)) a2 (Cq a3)⟩;exact ⟨by rw [yZ,a2.length_eq];exact uL (QU (by omega)),out.toList,e,Ur a1,by simpa [seqObj] using he⟩
 ·obtain ⟨z,hd,vs,rel,dd⟩:=wc I.hok hq;obtain ⟨ep,hat⟩:=dd.dictAt;have ek:=Ni rel hk;have hvl:vs.length=ss.length:=by have:=congrArg List.length ek;rwa [yZ,yZ] at this
  refine Calls.call_function_entry (id:="sorted") kind_sorted plain_sorted entry_sorted (args_sorted1 _) ?_;unfold Builtin.«sorted»;refine yR (m:=checkCount "sorted" 1 1 _) (yx ?_);refine yR (PySem.W.kdu_collect (PySem.W.kdl_dict (knd:=qA X.prog X.w) (kvs:=vs) (ep:=ep) hd) (by simpa using I.ok.hd hc) hat (uL (QU (by omega))) λh1 tk acc k1 hacc=>?_);have hS:=LR ek hacc;have hal:acc.toList.length=ss.length:=by have:=hacc.1;simp;omega
  refine SW (s:={ s with heap:=h1,toks:=tk }) hS (by omega) λh' out ss' e k2 he a1 a2 a3=>?_;have I1:Inv X pins σ H { s with heap:=h1,toks:=tk }:=I.kept (t':=tk) k1;refine ⟨.ref _,_,I1.laid (t':=tk) (o:= .lst (ss'.map V.str)) k2 (yW _) ?_,rfl,q _ ss' (I1.hok.fresh (yW _)) a2 (Cq a3)⟩;exact ⟨by rw [yZ,a2.length_eq];exact uL (QU (by omega)),out,e,Ur a1,he⟩
end
end L2
namespace L2
open PySem PySem.Spec PySem.Calls
variable{a:Addr}{its:Array Value}{n:Nat}
section
variable {P:Program}{w:World}{A:Around}{E:Value->Shared->Prop}
theorem Nw:typeLookup (.type "list") "keys"=pure none:=am_miss_of_fast (by kernel_rfl)
theorem Nv:typeLookup (.type "list") "__getattr__"=pure none:=am_miss_of_fast (by kernel_rfl)
theorem Ld {hp:Heap}{g:Array GenState}{d:Drawn}{tk:Nat}{os:_}{u:Tok}{Q:PySem.Fin->Shared->Prop}(ho:hp.get? a=some { cls:= .type "list",data:= .seq its n })(hh:A.handled=none)(h:∀ h' tk' e,Heap.NewAttrErr hp h' e (.ref a) "keys"->E (.ref e) ⟨h',g,d,tk',os⟩):wpAny (model P w) A (Builtin.«object.__getattribute__» ⟨[.ref a,.str "keys" u],[]⟩) Q E ⟨hp,g,d,tk,os⟩:=by
 have hT:(⟨hp,g,d,tk,os⟩:Shared).TypeIs (.ref a) "list":=⟨_,ho,rfl⟩;have f0:=Nw;unfold Builtin.«object.__getattribute__»
 (repeat (any_goals (first|assumption|wp_step)))
 exact wpAny_raiseAttrError (s:=⟨hp,g,d,tk,os⟩) hh h (attrMsg_fits (by decide +kernel) (by decide +kernel))
theorem DD {s:Shared}{Q:Option Value->Shared->Prop}(ho:s.heap.get? a=some { cls:= .type "list",data:= .seq its n })(hh:A.handled=none)(h:∀ h' tk,(∀ b o,s.heap.get? b=some o->h'.get? b=some o)->Q none { s with heap:=h',toks:=tk }):wpAny (model P w) A (getAttr? (.ref a) "keys") Q E s:=by
 obtain ⟨hp,g,d,tk,os⟩:=s;have hT:∀ t',(⟨hp,g,d,t',os⟩:Shared).TypeIs (.ref a) "list":=λ_=>⟨_,ho,rfl⟩;have f1:=sub_AttributeError;have f2:=PySem.F.slot_list_getattribute.lookup;have f3:=PySem.F.slot_list_getattribute.bind (.ref a);have f5:=Nv;unfold getAttr? getAttrBy? getAttrBy
 (repeat (any_goals (first|assumption|exact hT _|wp_step)))
 refine codeAny_call_builtin PySem.F.slot_list_getattribute.plain PySem.F.entry_list_ga (PySem.F.slot_list_getattribute.check _ _ _ _ _ _ _ _ (hT _) (PySem.F.args_list_getattribute_2 _ _) (Ld ho (by simpa using hh) λh' tk' e hx=>?_));obtain ⟨t',u',he⟩:=hx.there;have hk:=hx.keeps;show wpAny _ _ (getattributeRaised _ _ _ _ _ _ _) _ _ _;unfold getattributeRaised
 (repeat (any_goals (first|assumption|wp_step)))
 exact h _ _ hk
end
end L2
namespace L2
open PySem PySem.Spec PySem.Calls PyProof.Rows
variable{A:Around}{s:Shared}{H:Hp}{kvs:List (j6×V)}{P:Program}{w:World}{o:Obj}{es:Array DictEntry}{ep:Nat}{K:Fg}
theorem DQ:bootBuiltins "set"=some (.type "set"):=by decide +kernel
section
variable {P:Program}{w:World}{κ:Type}[DecidableEq κ]{knd:PySem.KeyKind P w κ}
theorem KH:entryFor table "dict.update.loop"=some Builtin.«dict.update.loop»:=entryFor_of_tree (by kernel_rfl)
theorem JA:plainId "dict.update.loop"=true:=by decide +kernel
theorem Mz {R:Result->Shared->Prop}{I:Addr}{fp wr:List Addr}{Pp:Nat->Value->Prop}{St:Nat->Heap->Prop}{more:List (κ×Value)}{lo:Addr}(W:Walks P w A.in1 I fp wr more.length Pp St)(d:Addr)(hdf:d∉fp)(hlo:lo<=d)(hwr:∀ b∈wr,lo<=b)(hsz:more.length<=sizeLine):∀ (m i:Nat) (z:Int) (tk:Tok) (s:Shared),more.length-i=m->i<=more.length->St i s.heap->s.heap.DictOf knd d (merged [] (more.take i)) -> (∀ j v kv,Pp j v->more[j]?=some kv->∃ t k,t<lo/\v = .ref t/\knd.is kv.1 k=true/\IsTup s.heap t #[k,kv.2]) -> (∀ h' tk',(∀ b o,b<lo->s.heap.get? b=some o->h'.get? b=some o)->h'.DictOf knd d (merged [] more)->R (.ok (.ret .none)) { s with heap:=h',toks:=tk' }) -> codeAny (model P w) A (.builtin "dict.update.loop" ⟨[.ref d,.ref I,.int z tk,.none],[]⟩) R s:=by
 have hdw:d∉wr:=λq=>hdf (W.sub _ q);intro m
 induction m with
 |zero =>
  intro i z tk s hm hi st hd hp hR;have hin:i=more.length:=by omega
  subst hin;refine codeAny_builtin KH ?_;rw [Around.under_plainId JA _];show wpAny _ A.in1 (pyNext (.ref I) >>= _) _ _ s;refine yR (W.done s _ _ st λh' tk' k=>?_);show wpAny _ A.in1 (Builtin.Dict.addKeywords d [] >>= _) _ _ _;refine yR (yx ?_);refine yx (hR h' tk' (λb o hb e=>k b o (λq=>absurd (hwr b q) (Nat.not_le.mpr hb)) e) ?_);rw [tU] at hd;obtain ⟨o,es,ep,ho,r⟩:=hd;exact ⟨o,es,ep,k d o hdw ho,r⟩
 |succ m ih =>
  intro i z tk s hm hi st hd hp hR;have hlt:i<more.length:=by omega
  refine codeAny_builtin KH ?_;rw [Around.under_plainId JA _];show wpAny _ A.in1 (pyNext (.ref I) >>= _) _ _ s;refine yR (W.item i s _ _ hlt st λv h' tk' hPv st' k=>?_);obtain ⟨t,kk,ht,rfl,hk,o,ho,hc,n,hdt⟩:=hp i v more[i] hPv (yY hlt);have ho':h'.get? t=some o:=k t o (λq=>absurd (hwr t q) (Nat.not_le.mpr ht)) ho;have hd':h'.DictOf knd d (merged [] (more.take i)):=by obtain ⟨o,es,ep,ho,r⟩:=hd;exact ⟨o,es,ep,k d o hdw ho,r⟩
  have hT:Shared.TypeIs { s with heap:=h',toks:=tk' } (.ref t) "tuple":=⟨o,ho',hc⟩;show wpAny _ A.in1 (holding [.ref t] _ >>= _) _ _ _;refine yR (wpAny_holding (yR (wpAny_tryCatch ?_)));unfold Builtin.Dict.pairItems;refine yR (wpAny_typeOf hT ?_);rw [if_pos (by decide)];refine yR (wpAny_seqItems ho' hdt (yx ?_));show wpAny _ A.in1 (holding [kk,more[i].2] (dictSet d kk more[i].2)) _ _ _;refine wpAny_holding (wpAny_dictSet_pairs (knd:=knd) hk hd' (λh2 hd2 sb=>?_) ?_)
  ·rw [<- merged_take_succ [] more i more[i] (yY hlt)] at hd2;have keep2:∀ b o,b<lo->s.heap.get? b=some o->h2.get? b=some o:=λb o hb e=>by
    rw [sb.2 b (yL (yF hb hlo))];exact k b o (λq=>absurd (hwr b q) (Nat.not_le.mpr hb)) e
   refine yx ⟨plainId_quiet JA _,ih (i+1) _ _ _ (by omega) hlt (W.frame _ _ _ st' λb hb o e=>?_) hd2 (λj v kv hv hj=>?_) λh3 tk3 k3 hd3=>?_⟩
   ·rw [sb.2 b (λq=>hdf (by rw [<- q];exact hb))];exact e
   ·obtain ⟨t,kk,ht,rfl,hk,o,ho,r⟩:=hp j v kv hv hj;exact ⟨t,kk,ht,rfl,hk,o,keep2 t o ht ho,r⟩
   ·exact hR h3 tk3 (λb o hb e=>k3 b o hb (keep2 b o hb e)) hd3
  ·have:=merged_length_le [] (more.take i);rw [uX,List.length_nil] at this;omega
theorem DT {E:Value->Shared->Prop}{l:Addr}{its:Array Value}{n:Nat}{more:List (κ×Value)}{Q:Value->Shared->Prop}(hh:A.handled=none)(ho:s.heap.get? l=some { cls:= .type "list",data:= .seq its n })(hlen:its.size=more.length)(hsz:more.length<=sizeLine)(hp:∀ (j:Nat) (v:Value) (kv:κ×Value),its[j]?=some v->more[j]?=some kv->∃ t k,v = .ref t/\knd.is kv.1 k=true/\IsTup s.heap t #[k,kv.2])(h:∀ h' tk',(∀ b o,s.heap.get? b=some o->h'.get? b=some o)->h'.DictOf knd s.heap.objs.size (merged [] more)->Q (.ref s.heap.objs.size) { s with heap:=h',toks:=tk' }):wpAny (model P w) A (call (.type "dict") [.ref l]) Q E s:=by
 refine callType_codes (Q₁:=λob s1=>ob = .ref s.heap.objs.size/\s1={ s with heap:=s.heap.push { cls:= .type "dict",data:= .dict #[] } }) PySem.F.kt_called_dict (PySem.F.kt_typeCall_dict_1 _) PySem.F.entry_dict_init (kt_code_dict_new _ ⟨rfl,rfl⟩) ?_;rintro ob s1 ⟨rfl,rfl⟩;have hnew:(s.heap.push { cls:= .type "dict",data:= .dict #[] }).DictOf knd s.heap.objs.size []:=Heap.DictOf.new s.heap;have ho':(s.heap.push { cls:= .type "dict",data:= .dict #[] }).get? l=some { cls:= .type "list",data:= .seq its n }:=yU _ ho;have hTl:Shared.TypeIs { s with heap:=s.heap.push { cls:= .type "dict",data:= .dict #[] } } (.ref l) "list":=⟨_,ho',rfl⟩;have hlt:l<s.heap.objs.size:=yQ ho;refine ⟨hnew.typeIs,PySem.F.args_dict_init_2 _ _,?_⟩;unfold Builtin.«dict.__init__»;refine yR ?_;unfold Builtin.Dict.selfAndRest;refine yR (wpAny_notOrdered_dict hnew.typeIs ?_);show wpAny _ _ (pure (s.heap.objs.size,[Value.ref l])) _ _ _;refine yx ?_;show wpAny _ _ (Builtin.Dict.updateFrom "dict.__init__" s.heap.objs.size (.ref l) [] .none) _ _ _;unfold Builtin.Dict.updateFrom;refine yR (wpAny_typeOf hTl ?_);rw [if_pos (by decide)];refine yR (DD ho' (by simpa using hh) λh1 tk1 k1=>?_);rw [if_pos (show (none:Option Value).isNone=true from rfl)];refine yR (wpAny_rule ?_);have ho1:=k1 _ _ ho';have hl1:h1.IsList l its:=⟨_,ho1,rfl,n,rfl⟩;refine yR (wpAny_pyIter_list (s:={ s with heap:=h1,toks:=tk1 }) hl1 ?_);have hd1:h1.DictOf knd s.heap.objs.size []:=by obtain ⟨o,es,ep,hq,r⟩:=hnew;exact ⟨o,es,ep,k1 _ _ hq,r⟩
 have hdlt:s.heap.objs.size<h1.objs.size:=by obtain ⟨o,es,ep,hq,r⟩:=hd1;exact yQ hq
 have hll:l<h1.objs.size:=yQ ho1;refine yx ⟨plainId_quiet JA _,?_⟩;have W:=Walks.list (prog:=P) (w:=w) (A:=A.in1.in1) (by simpa using hh) h1.objs.size l (yL hll) its;rw [hlen] at W;refine Mz (knd:=knd) (lo:=s.heap.objs.size) W s.heap.objs.size ?_ (yW _) (λb hb=>?_) hsz more.length 0 _ _ { s with heap:=h1.push { cls:= .type "list_iterator",data:= .fields #[.ref l,.int 0 0] },toks:=tk1 } (by omega) (ya _) ⟨⟨_,yD _ rfl,rfl,rfl⟩,hl1.push _⟩ ?_ (λj v kv hv hj=>?_) λh' tk' kp hd=>?_
 ·simp only [yJ,yf,or_false,not_or];exact ⟨yL hdlt,ua hlt⟩
 ·rw [yI.mp hb];exact uL hdlt
 ·obtain ⟨o,es,ep,hq,r⟩:=hd1;exact ⟨o,es,ep,yU _ hq,r⟩
 ·obtain ⟨t,k,rfl,hk,o,hto,r⟩:=hp j v kv hv hj;exact ⟨t,k,yQ hto,rfl,hk,o,yU _ (k1 _ _ (yU _ hto)),r⟩
 ·exact ⟨rfl,h h' tk' (λb o e=>kp b o (yQ e) (yU _ (k1 _ _ (yU _ e)))) hd⟩
end
section
variable {X:Cx}
theorem Rv {pins:List (Addr×Obj)}{σ:St}(I:Inv X pins σ H s){ts:List Addr}(r:Paired (λt (kv:j6×V)=>H t=some (.tup [kV kv.1,kv.2])) ts kvs):∃ more:List (j6×Value),KV kvs more/\∀(j:Nat)(t:Addr)(m:j6×Value),ts[j]?=some t->more[j]?=some m->∃ k,(qA X.prog X.w).is m.1 k=true/\IsTup s.heap t #[k,m.2]:=by
 induction r with
 |nil=>exact ⟨[],.nil,λj t m h=>by simp at h⟩
 |@cons t kv ts kvs p _ ih =>
  obtain ⟨more,k1,k2⟩:=ih;obtain ⟨_,its,rv,ht⟩:=(show ObjOk X.prog X.w H s.heap t (.tup [kV kv.1,kv.2]) from I.hok t _ p);cases rv with
  |cons p1 r1 =>
   cases r1 with
   |cons p2 r2 =>
    cases r2;rename_i u1 u2;refine ⟨(kv.1,u2)::more,.cons ⟨rfl,p2⟩ k1,λj t' m h1 h2=>?_⟩;cases j with
    |zero=>simp at h1 h2;subst h1 h2;exact ⟨u1,Qw p1,ht⟩
    |succ j=>exact k2 j t' m (by simpa using h1) (by simpa using h2)
theorem Dg:∀{ts:List Addr}{us:List Value},Vals (ts.map V.ref) us->us=ts.map Value.ref
 |[],_,.nil=>rfl
 |t::ts,_,.cons p r=>by
  obtain rfl:=(show _=Value.ref t from p);rw [Dg r];rfl
theorem Uw:∀{kvs:List (j6×V)}{vs:List (j6×Value)},KV kvs vs->vs.map (·.1)=kvs.map (·.1)
 |[],_,.nil=>rfl
 |_::_,_,.cons p r=>by rw [yO,yO,Uw r,p.1]
end
theorem Uv:∀{kvs:List (j6×V)}{vs:List (j6×Value)}{i:Nat}{k:j6}{x:V},KV kvs vs->kvs[i]?=some (k,x)->∃ u,vs[i]?=some (k,u)/\RelV x u
 |[],_,i,_,_,_,e=>by simp at e
 |_::_,_,0,k,x,.cons (b:=q) p _,e=>by
  simp at e;subst e;refine ⟨q.2,?_,p.2⟩;have e1:k=q.1:=p.1;rw [e1];rfl
 |_::_,_,i+1,k,x,.cons _ r,e=>by
  obtain ⟨u,h1,h2⟩:=Uv (i:=i) (k:=k) (x:=x) r (by simpa using e);exact ⟨u,by simpa using h1,h2⟩
def Itv (a:Addr)(o:Obj)(kvs:List (j6×V)):It :=
 ⟨λi H=>H a=some (.frz o (.dK kvs))/\i<kvs.length,λi H x H'=>H'=H/\∃ k,kvs[i]?=some (k,x),λi H=>H a=some (.frz o (.dK kvs))/\kvs.length<=i⟩
theorem ZT {h:Heap}{a:Addr}(ok:HOk P w H h)(e:H a=some (.frz o (.dK kvs)))(hd:o.data = .dict es ep):(a==sysModules)=false/\∃ vs,KV kvs vs/\h.DictAt (qA P w) a vs ep:=by obtain ⟨h1,h2,h3,vs,r,o',es',ep',h4,h5,h6,h7⟩:=(show ObjOk P w H h a (.frz o (.dK kvs)) from ok a _ e);rw [h1] at h4;cases h4;rw [hd] at h6;cases h6;exact ⟨h3,vs,r,o,es,h1,h5,hd,h7⟩
theorem Ip {tg:Expr}(a it:Addr)(kvs:List (j6×V))(hd:o.data = .dict es ep):Turn P w K tg (Itv a o kvs) [it] it (λi h=>h.IsValIter it a i kvs.length ep) where
 mem:=by simp
 obj:=λi h st b hb=>by
  have e:b=it:=by simpa using hb
  subst e;obtain ⟨o,e,c,d⟩:=st;exact ⟨o,e,λv z=>by rw [d] at z;cases z⟩
 keep:=λi h h' st k=>by
  obtain ⟨o,e,c,d⟩:=st;exact ⟨o,k it (by simp) o e,c,d⟩
 item:=by
  intro X hP hw hK hc i pins s σ H E I hf st hg;subst hP hw hK;obtain ⟨hq,hl⟩:=hg;obtain ⟨_,vs,r,hm⟩:=ZT I.hok hq hd;have lv:vs.length=kvs.length:=(KV.length r).symm;obtain ⟨u,hu,ru⟩:=Uv (i:=i) (k:=kvs[i].1) (x:=kvs[i].2) r (yY hl);obtain ⟨f0,f1,f2,f3,f4,f5⟩:=hf it (by simp);have st1:s.heap.IsValIter it a i vs.length ep:=by rw [lv];exact st
  refine wpAny_pyNext_values_item st1 hm hu λh' st' sb=>?_;have I1:Inv X pins σ H { s with heap:=h' }:=I.turned (t':=s.toks) (λb o hb e=>(sb.2 b hb).trans e) f0 f1 f3 f4 f5;rw [lv] at st';obtain ⟨o1,e1,c1,d1⟩:=id st';exact ⟨u,rfl,Xt (s:={ s with heap:=h' }) e1 c1 d1 (by decide) ⟨kvs[i].2,H,I1,ru,⟨rfl,kvs[i].1,yY hl⟩,st',λb hb=>(hf b hb).1⟩⟩
 done:=by
  intro X hP hw hK hc i pins s σ H E I hf st hg;subst hP hw hK;obtain ⟨hq,hl⟩:=hg;obtain ⟨_,vs,r,hm⟩:=ZT I.hok hq hd;have lv:vs.length=kvs.length:=(KV.length r).symm;obtain ⟨f0,f1,f2,f3,f4,f5⟩:=hf it (by simp);have st1:s.heap.IsValIter it a i vs.length ep:=by rw [lv];exact st
  exact wpAny_pyNext_values_end (I.ok.hd hc) st1 hm (uW (by omega)) λh' eb=>⟨rfl,I.turned (t':=s.toks) (λb o hb e=>eb b o hb e) f0 f1 f3 f4 f5⟩
 self:=λ_ _ _ _ _ st h=>wpAny_pyIter_valiter st h
section
variable {X:Cx}{tg:Expr}
def Ba (td:TE):TI:=λσ H R=>td σ H λx H1=>∃ a o kvs,x = .ref a/\H1 a=some (.frz o (.dK kvs))/\R (Itv a o kvs) H1
theorem RU {d:Expr}{td:TE}{apos cpos:Pos}(ho:PE X d td)(hbase:attributeBase d "values" X.env (eval d X.env)=eval d X.env:=by rfl)(hline:(apos.endLine==cpos.line)=true:=by rfl):PI X tg (.Call (.Attribute d "values" apos) [] [] cpos) (Ba td):=by
 intro pins s σ H R I h;refine wpAny_Call_method0_late hbase hline (v6 (ho pins s σ H _ I h) λv s1 ⟨x,H1,I1,r1,q1⟩=>?_);obtain ⟨a,o,kvs,e,hq,q⟩:=q1;subst e;cases r1;obtain ⟨g1,g2,g3,ws,rw',o',es,ep,g4,g5,g6,g7⟩:=(show ObjOk X.prog X.w H1 s1.heap a (.frz o (.dK kvs)) from I1.hok a _ hq);rw [g1] at g4;cases g4;obtain ⟨hs,vs,r,hm⟩:=ZT I1.hok hq g6;have lv:vs.length=kvs.length:=(KV.length r).symm;refine ⟨"dict","dict.values",PySem.F.plainAttrs_dict,PySem.F.slot_dict_values,PySem.F.type_dict_values,hm.dictOf.typeIs,λb e=>?_,Calls.callWith_builtin rfl (PySem.evalArgs_none ?_)⟩
 ·cases e;exact ⟨o,g1,g5.2.1⟩
 refine call_meetsIn PySem.F.slot_dict_values hm.dictOf.typeIs PySem.F.entry_dict_values (PySem.F.args_dict_values_1 _) (meets_dict_values (qA X.prog X.w) a hs) ⟨⟨vs,hm.dictOf⟩,?_⟩;have I2:Inv X pins σ H1 { s1 with heap:=s1.heap.push { cls:= .type "dict_values",data:= .fields #[.ref a] } }:=I1.kept (t':=s1.toks) λb o e=>yU _ e;obtain ⟨_,vs2,r2,hm2⟩:=ZT I2.hok hq g6;have lv2:vs2.length=kvs.length:=(KV.length r2).symm;refine wpAny_pyIter_values (knd:=qA X.prog X.w) (kvs:=vs2) ⟨_,yD _ rfl,rfl,rfl⟩ hm2 ?_;refine ⟨_,[_],_,Itv a o kvs,H1,rfl,I2.kept (t':=s1.toks) λb o e=>yU _ e,Ip a _ kvs g6,⟨_,yD _ rfl,rfl,?_⟩,λb hb=>?_,q⟩
 ·rw [lv2];rfl
 have e:b=(s1.heap.push { cls:= .type "dict_values",data:= .fields #[.ref a] }).objs.size:=by simpa using hb
 subst e;exact I2.fpOk (yW _) (I2.hok.fresh (yW _))
def Pr:List V->Hp->VK->Prop:=λxs H Q=>∃(a:Addr)(ts:List Addr)(kvs:List (j6×V)),xs=[.ref a]/\H a=some (.lst (ts.map V.ref))/\Paired (λt (kv:j6×V)=>H t=some (.tup [kV kv.1,kv.2])) ts kvs/\(kvs.map (·.1)).Nodup/\kvs.length<=1000 /\
  ∀ l o,H l=none->Q (.ref l) (w6 H l (.frz o (.dK kvs)))
theorem Vh (hc:X.calm=true)(_:X.K=K):CallR X (.type "dict") Pr:=by
 intro pins s σ H xs us Q I r h;obtain ⟨a,ts,kvs,rfl,hq,hp,hn,h1000,q⟩:=h;obtain ⟨u,rfl,ru⟩:=ji r;obtain rfl:u=Value.ref a:=ru;obtain ⟨hz,its,n,rv,ho⟩:=(show ObjOk X.prog X.w H s.heap a (.lst (ts.map V.ref)) from I.hok a _ hq);have ei:=Dg rv;obtain ⟨more,k1,k2⟩:=Rv I hp;have lk:more.length=kvs.length:=k1.length.symm;have lt:=hp.length;have hsl:more.length<=sizeLine:=uL (QU (by omega));refine DT (knd:=qA X.prog X.w) (more:=more) (I.ok.hd hc) ho (by rw [yX,ei,yZ];omega) hsl (λj v m hv hm=>?_) λh' tk k hd=>?_
 ·have hv':its[j]?=some v:=by simpa using hv
  rw [ei,yP] at hv';obtain ⟨t,ht,rfl⟩:=yN.mp hv';obtain ⟨kk,x1,x2⟩:=k2 j t m ht hm;exact ⟨t,kk,rfl,x1,x2⟩
 ·rw [merged_nil_of_nodup more (by rw [Uw k1];exact hn)] at hd;obtain ⟨o,es,ep,ho',_⟩:=id hd;refine ⟨.ref s.heap.objs.size,_,I.laid (t':=tk) (o:= .frz o (.dK kvs)) k (yW _) ⟨ho',KE (by omega) (beq_eq_false_iff_ne.mpr (Ne.symm (yL I.big))) k1 hd⟩,rfl,q _ _ (I.hok.fresh (yW _))⟩
end
end L2
namespace Mi
open PySem L2
variable{H H' H0 Hb Hs Hs' Hs0:Hp}{u v:V}{ks:List j6}{C p:Addr}{ns:List Str}{vs:List V}{o:HO}{σ σ':St}{tb te:TE}{r:R2}{ta:TA}{n:Nat}{K:Fg}{t:TT}{E:XK}{nm:Str}{ts:List Nat}{tg:TG}{lo:Int}{wi:TI}
inductive PV where
 |at (v:V)|tup (xs:List PV)|lst (xs:List PV)|dk (ks:List j6) (xs:List PV)|fk (ks:List j6) (xs:List PV)|ob (C:Addr) (ns:List Str) (xs:List PV)|op (φ:Hp->V->Prop)
variable{xs:List PV}{x y:PV}{m:List PV->Option PV}
mutual
def Rep (H:Hp):PV->V->Prop
 | .at u,v=>v=u
 | .tup xs,v=>∃ a vs,v = .ref a/\H a=some (.tup vs)/\Reps H xs vs
 | .lst xs,v=>∃ a vs,v = .ref a/\H a=some (.lst vs)/\Reps H xs vs
 | .dk ks xs,v=>∃ a kvs,v = .ref a/\H a=some (.dK kvs)/\kvs.map (·.1)=ks/\Reps H xs (kvs.map (·.2))
 | .fk ks xs,v=>∃ a o kvs,v = .ref a/\H a=some (.frz o (.dK kvs))/\kvs.map (·.1)=ks/\Reps H xs (kvs.map (·.2))
 | .ob C ns xs,v=>∃ a dx fs,v = .ref a/\H a=some (.ins C dx fs)/\fs.map (·.1)=ns/\Reps H xs (fs.map (·.2))
 | .op φ,v=>∃ H',Same H' H/\φ H' v
def Reps (H:Hp):List PV->List V->Prop
 |[],vs=>vs=[]
 |x::xs,vs=>∃ v r,vs=v::r/\Rep H x v/\Reps H xs r
end
mutual
theorem Rep.mono {H H':Hp}(g:Same H H'):∀{x:PV}{v:V},Rep H x v->Rep H' x v
 | .at u,v,h=>by unfold Rep at h ⊢;exact h
 | .tup xs,v,h=>by unfold Rep at h ⊢;obtain ⟨a,vs,e,p,r⟩:=h;exact ⟨a,vs,e,g _ _ p,Reps.mono g r⟩
 | .lst xs,v,h=>by unfold Rep at h ⊢;obtain ⟨a,vs,e,p,r⟩:=h;exact ⟨a,vs,e,g _ _ p,Reps.mono g r⟩
 | .dk ks xs,v,h=>by unfold Rep at h ⊢;obtain ⟨a,vs,e,p,q,r⟩:=h;exact ⟨a,vs,e,g _ _ p,q,Reps.mono g r⟩
 | .fk ks xs,v,h=>by unfold Rep at h ⊢;obtain ⟨a,o,vs,e,p,q,r⟩:=h;exact ⟨a,o,vs,e,g _ _ p,q,Reps.mono g r⟩
 | .ob C ns xs,v,h=>by unfold Rep at h ⊢;obtain ⟨a,dx,vs,e,p,q,r⟩:=h;exact ⟨a,dx,vs,e,g _ _ p,q,Reps.mono g r⟩
 | .op φ,v,h=>by unfold Rep at h ⊢;obtain ⟨H1,s,p⟩:=h;exact ⟨H1,s.trans g,p⟩
theorem Reps.mono {H H':Hp}(g:Same H H'):∀{xs:List PV}{vs:List V},Reps H xs vs->Reps H' xs vs
 |[],vs,h=>by unfold Reps at h ⊢;exact h
 |x::xs,vs,h=>by unfold Reps at h ⊢;obtain ⟨v,r,e,p,q⟩:=h;exact ⟨v,r,e,Rep.mono g p,Reps.mono g q⟩
end
theorem rep_at :Rep H (.at u) v↔v=u:=by unfold Rep;exact Iff.rfl
theorem rep_tup :Rep H (.tup xs) v↔∃ a vs,v = .ref a/\H a=some (.tup vs)/\Reps H xs vs:=by unfold Rep;exact Iff.rfl
theorem rep_lst :Rep H (.lst xs) v↔∃ a vs,v = .ref a/\H a=some (.lst vs)/\Reps H xs vs:=by unfold Rep;exact Iff.rfl
theorem rep_dk :Rep H (.dk ks xs) v↔∃ a kvs,v = .ref a/\H a=some (.dK kvs)/\kvs.map (·.1)=ks/\Reps H xs (kvs.map (·.2)):=by unfold Rep;exact Iff.rfl
theorem rep_fk :Rep H (.fk ks xs) v↔∃ a o kvs,v = .ref a/\H a=some (.frz o (.dK kvs))/\kvs.map (·.1)=ks/\Reps H xs (kvs.map (·.2)):=by unfold Rep;exact Iff.rfl
theorem rep_ob :Rep H (.ob C ns xs) v↔∃ a dx fs,v = .ref a/\H a=some (.ins C dx fs)/\fs.map (·.1)=ns/\Reps H xs (fs.map (·.2)):=by unfold Rep;exact Iff.rfl
theorem rep_op {φ:Hp->V->Prop}:Rep H (.op φ) v↔∃ H',Same H' H/\φ H' v:=by unfold Rep;exact Iff.rfl
theorem reps_nil :Reps H [] vs↔vs=[]:=by unfold Reps;exact Iff.rfl
theorem reps_cons :Reps H (x::xs) vs↔∃ v r,vs=v::r/\Rep H x v/\Reps H xs r:=by
 constructor
 ·intro h;unfold Reps at h;exact h
 ·intro h;unfold Reps;exact h
theorem Reps.nil :Reps H [] []:=reps_nil.mpr rfl
theorem Reps.cons {H:Hp}{x:PV}{v:V}{xs:List PV}{vs:List V}(p:Rep H x v)(q:Reps H xs vs):Reps H (x::xs) (v::vs):=reps_cons.mpr ⟨v,vs,rfl,p,q⟩
theorem Reps.length {H:Hp}:∀{xs:List PV}{vs:List V},Reps H xs vs->vs.length=xs.length
 |[],vs,h=>by rw [reps_nil.mp h];rfl
 |x::xs,vs,h=>by obtain ⟨v,r,rfl,_,q⟩:=reps_cons.mp h;rw [yE,yE,Reps.length q]
theorem Reps.append {H:Hp}:∀{xs ys:List PV}{vs ws:List V},Reps H xs vs->Reps H ys ws->Reps H (xs++ys) (vs++ws)
 |[],ys,vs,ws,h,k=>by rw [reps_nil.mp h];exact k
 |x::xs,ys,vs,ws,h,k=>by obtain ⟨v,r,rfl,p,q⟩:=reps_cons.mp h;exact .cons p (Reps.append q k)
theorem Reps.one (p:Rep H x v):Reps H [x] [v]:= .cons p .nil
theorem Reps.get {H:Hp}:∀{xs:List PV}{vs:List V}{i:Nat}{x:PV},Reps H xs vs->xs[i]?=some x->∃ v,vs[i]?=some v/\Rep H x v
 |[],_,i,x,_,e=>by simp at e
 |y::xs,vs,0,x,h,e=>by
  obtain ⟨v,r,rfl,p,q⟩:=reps_cons.mp h;simp at e;subst e;exact ⟨v,rfl,p⟩
 |y::xs,vs,i+1,x,h,e=>by
  obtain ⟨v,r,rfl,p,q⟩:=reps_cons.mp h;obtain ⟨w,e1,e2⟩:=Reps.get (i:=i) (x:=x) q (by simpa using e);exact ⟨w,by simpa using e1,e2⟩
theorem Reps.take {H:Hp}:∀(n:Nat){xs:List PV}{vs:List V},Reps H xs vs->Reps H (xs.take n) (vs.take n)
 |0,_,_,_=>by rw [List.take_zero,List.take_zero];exact .nil
 |n+1,[],vs,h=>by rw [reps_nil.mp h];exact .nil
 |n+1,x::xs,vs,h=>by
  obtain ⟨v,r,rfl,p,q⟩:=reps_cons.mp h;exact .cons p (Reps.take n q)
theorem Reps.drop {H:Hp}:∀(n:Nat){xs:List PV}{vs:List V},Reps H xs vs->Reps H (xs.drop n) (vs.drop n)
 |0,_,_,h=>h
 |n+1,[],vs,h=>by rw [reps_nil.mp h];exact .nil
 |n+1,x::xs,vs,h=>by
  obtain ⟨v,r,rfl,p,q⟩:=reps_cons.mp h;exact Reps.drop n q
theorem Reps.ats {H:Hp}:∀{us vs:List V},Reps H (us.map .at) vs->vs=us
 |[],vs,h=>reps_nil.mp h
 |u::us,vs,h=>by
  obtain ⟨v,r,rfl,p,q⟩:=reps_cons.mp h;rw [rep_at.mp p,Reps.ats q]
theorem Reps.ofAts {H:Hp}:∀(us:List V),Reps H (us.map .at) us
 |[]=> .nil
 |u::us=> .cons (rep_at.mpr rfl) (Reps.ofAts us)
structure Ext (Hs H Hs' H':Hp):Prop where
 s1:Same Hs Hs'
 s2:Same H H'
 s3:Same Hs' H'
 s4:∀ b,H b≠none->Hs b=none->Hs' b=none
theorem Cn (g:Same H H'){b:Addr}(h:H b≠none):H' b≠none:=λz=>h (g.free z)
theorem Ext.refl (s:Same Hs H):Ext Hs H Hs H:=⟨.refl _,.refl _,s,λ_ _ z=>z⟩
theorem Ext.trans {A B A1 B1 A2 B2:Hp}(x:Ext A B A1 B1)(y:Ext A1 B1 A2 B2):Ext A B A2 B2:=⟨x.s1.trans y.s1,x.s2.trans y.s2,y.s3,λb h z=>y.s4 b (Cn x.s2 h) (x.s4 b h z)⟩
theorem Ext.new (s:Same Hs H)(h:H p=none):Ext Hs H (w6 Hs p o) (w6 H p o):=by
 have hs:Hs p=none:=s.free h;refine ⟨λb u e=>?_,λb u e=>?_,λb u e=>?_,λb e z=>?_⟩
 ·rw [w4 (k4 e hs)];exact e
 ·rw [w4 (k4 e h)];exact e
 ·by_cases hb:b=p
  ·subst hb;rw [g8] at e ⊢;exact e
  ·rw [w4 hb] at e ⊢;exact s _ _ e
 ·have hb:b≠p:=λq=>e (by rw [q];exact h);rw [w4 hb];exact z
theorem Ext.newO (s:Same Hs H)(h:H p=none):Ext Hs H Hs (w6 H p o) :=
 ⟨.refl _,λb u e=>by rw [w4 (k4 e h)];exact e,λb u e=>by rw [w4 (k4 (s _ _ e) h)];exact s _ _ e,λ_ _ z=>z⟩
def Top (Hs H:Hp)(a:Addr):PV->Prop
 | .lst xs=>∃ vs,H a=some (.lst vs)/\Reps Hs xs vs
 | .dk ks xs=>∃ kvs,H a=some (.dK kvs)/\kvs.map (·.1)=ks/\Reps Hs xs (kvs.map (·.2))
 | .ob C ns xs=>∃ dx fs,H a=some (.ins C dx fs)/\fs.map (·.1)=ns/\Reps Hs xs (fs.map (·.2))
 |_=>False
theorem Top.there {a:Addr}:∀{x:PV},Top Hs H a x->H a≠none
 | .lst _,h,z=>by obtain ⟨vs,e,_⟩:=h;rw [e] at z;cases z
 | .dk _ _,h,z=>by obtain ⟨vs,e,_⟩:=h;rw [e] at z;cases z
 | .ob _ _ _,h,z=>by obtain ⟨dx,vs,e,_⟩:=h;rw [e] at z;cases z
theorem Top.mono {a:Addr}(g:Same Hs Hs')(e:∀ o,H a=some o->H' a=some o):∀{x:PV},Top Hs H a x->Top Hs' H' a x
 | .lst _,h=>by obtain ⟨vs,q,r⟩:=h;exact ⟨vs,e _ q,r.mono g⟩
 | .dk _ _,h=>by obtain ⟨vs,q,k,r⟩:=h;exact ⟨vs,e _ q,k,r.mono g⟩
 | .ob _ _ _,h=>by obtain ⟨dx,vs,q,k,r⟩:=h;exact ⟨dx,vs,e _ q,k,r.mono g⟩
theorem Top.rep {a:Addr}:∀{x:PV},Top Hs H a x->Hs a=none->∃ o,H a=some o/\Rep (w6 Hs a o) x (.ref a)
 | .lst _,h,n=>by
  obtain ⟨vs,q,r⟩:=h;exact ⟨_,q,rep_lst.mpr ⟨a,vs,rfl,g8,r.mono λb u e=>by rw [w4 (k4 e n)];exact e⟩⟩
 | .dk _ _,h,n=>by
  obtain ⟨vs,q,k,r⟩:=h;exact ⟨_,q,rep_dk.mpr ⟨a,vs,rfl,g8,k,r.mono λb u e=>by rw [w4 (k4 e n)];exact e⟩⟩
 | .ob _ _ _,h,n=>by
  obtain ⟨dx,vs,q,k,r⟩:=h;exact ⟨_,q,rep_ob.mpr ⟨a,dx,vs,rfl,g8,k,r.mono λb u e=>by rw [w4 (k4 e n)];exact e⟩⟩
theorem Ext.share {a:Addr}(x:Ext Hs H Hs' H')(h:H a=none)(n:Hs' a=none)(e:H' a=some o):Ext Hs H (w6 Hs' a o) H':=by
 refine ⟨λb u q=>?_,x.s2,λb u q=>?_,λb q z=>?_⟩
 ·rw [w4 (k4 (x.s1 _ _ q) n)];exact x.s1 _ _ q
 ·by_cases hb:b=a
  ·subst hb;rw [g8] at q;cases q;exact e
  ·rw [w4 hb] at q;exact x.s3 _ _ q
 ·have hb:b≠a:=λr=>q (by rw [r];exact h);rw [w4 hb];exact x.s4 b q z
def RepB (Hs H:Hp)(x:PV)(v:V):Prop:=Rep Hs x v∨∃ a,v = .ref a/\Hs a=none/\Top Hs H a x
theorem RepB.ext (e:Ext Hs H Hs' H')(h:RepB Hs H x v):RepB Hs' H' x v:=by
 rcases h with h|⟨a,rfl,n,t⟩
 ·exact .inl (h.mono e.s1)
 ·exact .inr ⟨a,rfl,e.s4 a t.there n,t.mono e.s1 λo q=>e.s2 _ _ q⟩
inductive MSlot where
 |no|sh (x:PV)|ow (x:PV)|bo (x:PV)
abbrev ME:=List MSlot
variable{ε:ME}
def Own (H0 Hs H:Hp)(a:Addr)(x:PV):Prop:=H0 a=none/\Hs a=none/\Top Hs H a x
structure RS (Hs0 H0 Hs H:Hp)(σ:St)(ε:ME):Prop where
 ext:Ext Hs0 H0 Hs H
 sh:∀(i:Nat)(x:PV),ε[i]?=some (.sh x)->∃ v,σ[i]?=some (some v)/\Rep Hs x v
 ow:∀(i:Nat)(x:PV),ε[i]?=some (.ow x)->∃ a,σ[i]?=some (some (.ref a))/\Own H0 Hs H a x
 nd:∀(i j:Nat)(x y:PV)(a:Addr),ε[i]?=some (.ow x)->ε[j]?=some (.ow y)->σ[i]?=some (some (.ref a))->σ[j]?=some (some (.ref a))->i=j
 len:σ.length=ε.length
 bo:∀(i:Nat)(x:PV),ε[i]?=some (.bo x)->∃ v,σ[i]?=some (some v)/\(Rep Hs x v∨∃ a,v = .ref a/\H0 a≠none/\Hs a=none/\Top Hs H a x)
section
variable {Hs0 H0 Hs H Hs' H':Hp}{σ:St}{ε:ME}
theorem RS.go (r:RS Hs0 H0 Hs H σ ε)(e:Ext Hs H Hs' H'):RS Hs0 H0 Hs' H' σ ε where
 ext:=r.ext.trans e
 sh:=λi x q=>by obtain ⟨v,a,b⟩:=r.sh i x q;exact ⟨v,a,b.mono e.s1⟩
 ow:=λi x q=>by
  obtain ⟨a,b,n0,n,t⟩:=r.ow i x q;exact ⟨a,b,n0,e.s4 a t.there n,t.mono e.s1 λo z=>e.s2 _ _ z⟩
 nd:=r.nd
 len:=r.len
 bo:=λi x q=>by
  obtain ⟨v,b,h|⟨a,rfl,n0,n,t⟩⟩:=r.bo i x q
  ·exact ⟨v,b,.inl (h.mono e.s1)⟩
  ·exact ⟨_,b,.inr ⟨a,rfl,n0,e.s4 a t.there n,t.mono e.s1 λo z=>e.s2 _ _ z⟩⟩
theorem RS.sub (r:RS Hs0 H0 Hs H σ ε):Same Hs H:=r.ext.s3
theorem RS.rebase (r:RS Hs0 H0 Hs H σ ε):RS Hs H0 Hs H σ ε:=⟨⟨.refl _,r.ext.s2,r.ext.s3,λ_ _ z=>z⟩,r.sh,r.ow,r.nd,r.len,r.bo⟩
theorem Ext.unbase (r:Ext Hs0 H0 Hb H)(e:Ext Hb H0 Hs' H'):Ext Hs0 H0 Hs' H':=⟨r.s1.trans e.s1,e.s2,e.s3,λb h z=>e.s4 b h (r.s4 b h z)⟩
theorem RS.unbase {ε':ME}(r:Ext Hs0 H0 Hb H)(e:RS Hb H0 Hs' H' σ' ε'):RS Hs0 H0 Hs' H' σ' ε':=⟨r.unbase e.ext,e.sh,e.ow,e.nd,e.len,e.bo⟩
theorem RS.put (r:RS Hs0 H0 Hs H σ ε){i:Nat}(h:Rep Hs x v):RS Hs0 H0 Hs H (σ.set i (some v)) (ε.set i (.sh x)) where
 ext:=r.ext
 sh:=λj y q=>by
  rw [yz] at q ⊢;split at q
  ·rename_i hij;split at q
   ·rename_i hl;injection q with q;injection q with q;subst q;rw [if_pos hij,if_pos (by rw [r.len,hij];rw [hij] at hl;exact hl)];exact ⟨v,rfl,h⟩
   ·cases q
  ·rename_i hij;rw [if_neg hij];exact r.sh j y q
 ow:=λj y q=>by
  rw [yz] at q ⊢;split at q
  ·split at q<;>cases q
  ·rename_i hij;rw [if_neg hij];exact r.ow j y q
 nd:=λj k x y a h1 h2 h3 h4=>by
  rw [yz] at h1 h2 h3 h4;split at h1
  ·split at h1<;>cases h1
  ·rename_i hj;rw [if_neg hj] at h3;split at h2
   ·split at h2<;>cases h2
   ·rename_i hk;rw [if_neg hk] at h4;exact r.nd j k x y a h1 h2 h3 h4
 len:=by rw [yg,yg,r.len]
 bo:=λj y q=>by
  rw [yz] at q ⊢;split at q
  ·split at q<;>cases q
  ·rename_i hij;rw [if_neg hij];exact r.bo j y q
theorem RS.putO (r:RS Hs0 H0 Hs H σ ε){i:Nat}{a:Addr}(h:Own H0 Hs H a x)(ne:∀(j:Nat)(y:PV),ε[j]?=some (.ow y)->σ[j]?≠some (some (.ref a))):RS Hs0 H0 Hs H (σ.set i (some (.ref a))) (ε.set i (.ow x)) where
 ext:=r.ext
 sh:=λj y q=>by
  rw [yz] at q ⊢;split at q
  ·split at q<;>cases q
  ·rename_i hij;rw [if_neg hij];exact r.sh j y q
 ow:=λj y q=>by
  rw [yz] at q ⊢;split at q
  ·rename_i hij;split at q
   ·rename_i hl;injection q with q;injection q with q;subst q;rw [if_pos hij,if_pos (by rw [r.len,hij];rw [hij] at hl;exact hl)];exact ⟨a,rfl,h⟩
   ·cases q
  ·rename_i hij;rw [if_neg hij];exact r.ow j y q
 nd:=λj k x' y b h1 h2 h3 h4=>by
  rw [yz] at h1 h2 h3 h4;split at h1
  ·rename_i hj;rw [if_pos hj] at h3;split at h1
   ·rename_i hl;rw [if_pos (by rw [r.len];exact hl)] at h3;injection h3 with h3;injection h3 with h3;injection h3 with h3;subst h3;split at h2
    ·rename_i hk;exact hj.symm.trans hk
    ·rename_i hk;rw [if_neg hk] at h4;exact absurd h4 (ne k y h2)
   ·cases h1
  ·rename_i hj;rw [if_neg hj] at h3;split at h2
   ·rename_i hk;rw [if_pos hk] at h4;split at h2
    ·rename_i hl;rw [if_pos (by rw [r.len];exact hl)] at h4;injection h4 with h4;injection h4 with h4;injection h4 with h4;subst h4;exact absurd h3 (ne j x' h1)
    ·cases h2
   ·rename_i hk;rw [if_neg hk] at h4;exact r.nd j k x' y b h1 h2 h3 h4
 len:=by rw [yg,yg,r.len]
 bo:=λj y q=>by
  rw [yz] at q ⊢;split at q
  ·split at q<;>cases q
  ·rename_i hij;rw [if_neg hij];exact r.bo j y q
theorem RS.change (r:RS Hs0 H0 Hs H σ ε){i:Nat}{a:Addr}(hi:ε[i]?=some (.ow x))(ha:σ[i]?=some (some (.ref a)))(t:Top Hs (w6 H a o) a y):RS Hs0 H0 Hs (w6 H a o) σ (ε.set i (.ow y)):=by
 obtain ⟨b,hb,n0,n,tx⟩:=r.ow i x hi;rw [ha] at hb;injection hb with hb;injection hb with hb;injection hb with hb;subst hb;refine ⟨⟨r.ext.s1,λb u e=>?_,λb u e=>?_,r.ext.s4⟩,λj z q=>?_,λj z q=>?_,λj k z z' c h1 h2 h3 h4=>?_,by rw [yg,r.len],λj z q=>?_⟩
 ·rw [w4 (k4 e n0)];exact r.ext.s2 _ _ e
 ·rw [w4 (k4 e n)];exact r.ext.s3 _ _ e
 ·rw [yz] at q;split at q
  ·split at q<;>cases q
  ·exact r.sh j z q
 ·rw [yz] at q;split at q
  ·rename_i hij;split at q
   ·injection q with q;injection q with q;subst q;exact ⟨a,hij▸ha,n0,n,t⟩
   ·cases q
  ·rename_i hij;obtain ⟨c,hc,m0,m,tc⟩:=r.ow j z q;have hne:c≠a:=λe=>hij (r.nd i j x z a hi q ha (e▸hc));exact ⟨c,hc,m0,m,tc.mono (.refl _) λo' e=>by rw [w4 hne];exact e⟩
 ·have down:∀{m:Nat}{w:PV},(ε.set i (.ow y))[m]?=some (.ow w)->∃ w',ε[m]?=some (.ow w'):=by
   intro m w q;rw [yz] at q;split at q
   ·rename_i him;exact ⟨x,him▸hi⟩
   ·exact ⟨w,q⟩
  obtain ⟨w1,q1⟩:=down h1;obtain ⟨w2,q2⟩:=down h2;exact r.nd j k w1 w2 c q1 q2 h3 h4
 ·rw [yz] at q;split at q
  ·split at q<;>cases q
  ·obtain ⟨v,hv,h|⟨c,rfl,m0,m,tc⟩⟩:=r.bo j z q
   ·exact ⟨v,hv,.inl h⟩
   ·have hne:c≠a:=λe=>m0 (e▸n0);exact ⟨_,hv,.inr ⟨c,rfl,m0,m,tc.mono (.refl _) λo' e=>by rw [w4 hne];exact e⟩⟩
def fz (i:Nat)(ε:ME):ME:=match ε[i]? with
 |some (.ow x)=>ε.set i (.sh x)
 |_=>ε
end
theorem QH {j:Nat}{s:MSlot}(h:∀(i:Nat)(x:PV),ε[i]?≠some (.bo x))(hs:∀ x,s ≠ .bo x):∀(i:Nat)(x:PV),(ε.set j s)[i]?≠some (.bo x):=λi x q=>by
 rw [yz] at q;split at q
 ·split at q
  ·injection q with q;exact hs x q
  ·cases q
 ·exact h i x q
abbrev M:=ME->Option PV
variable{a b:M}
abbrev MB:=ME->Option Bool
variable{c:MB}
abbrev MA:=ME->Option (List PV)
variable{as f:MA}
class SemE (te:TE)(f:M):Prop where
 h:∀{ε y},f ε=some y->∀{Hs0 H0 Hs H σ},RS Hs0 H0 Hs H σ ε->∀{Q:VK},(∀ v Hs' H',Ext Hs H Hs' H'->Rep Hs' y v->Q v H')->te σ H Q
class qc (te:TE)(f:M):Prop where
 h:∀{ε y},f ε=some y->∀{Hs0 H0 Hs H σ},RS Hs0 H0 Hs H σ ε->∀{Q:VK},(∀ v Hs' H',Ext Hs H Hs' H'->RepB Hs' H' y v->Q v H')->te σ H Q
class zf (te:TE)(f:M):Prop where
 h:∀{ε y},f ε=some y->∀{Hs0 H0 Hs H σ},RS Hs0 H0 Hs H σ ε->∀{Q:VK},(∀ a Hs' H',Ext Hs H Hs' H'->H a=none->Hs' a=none->Top Hs' H' a y->Q (.ref a) H')->te σ H Q
class xD (tt:TT)(f:MB):Prop where
 h:∀{ε y},f ε=some y->∀{Hs0 H0 Hs H σ},RS Hs0 H0 Hs H σ ε->∀{Q:Bool->Hp->Prop},(∀ Hs' H',Ext Hs H Hs' H'->Q y H')->tt σ H Q
class xu (ta:TA)(f:MA):Prop where
 h:∀{ε ys},f ε=some ys->∀{Hs0 H0 Hs H σ},RS Hs0 H0 Hs H σ ε->∀{Q:List V->Hp->Prop},(∀ vs Hs' H',Ext Hs H Hs' H'->Reps Hs' ys vs->Q vs H')->ta σ H Q
def wZ (Hs H:Hp):List PV->List V->Prop
 |[],vs=>vs=[]
 |x::xs,vs=>∃ v r,vs=v::r/\RepB Hs H x v/\wZ Hs H xs r
class Xc (ta:TA)(f:MA):Prop where
 h:∀{ε ys},f ε=some ys->∀{Hs0 H0 Hs H σ},RS Hs0 H0 Hs H σ ε->∀{Q:List V->Hp->Prop},(∀ vs Hs' H',Ext Hs H Hs' H'->wZ Hs' H' ys vs->Q vs H')->ta σ H Q
class xT (r:R2)(g:PV->PV->Option PV):Prop where
 h:∀{x y z},g x y=some z->∀{Hs H:Hp}{v w:V},Same Hs H->RepB Hs H x v->RepB Hs H y w->∀{Q:VK},(∀ u Hs' H',Ext Hs H Hs' H'->Rep Hs' z u->Q u H')->r v w H Q
class Uy (r:R2)(g:PV->PV->Option PV):Prop where
 h:∀{x y z},g x y=some z->∀{Hs H:Hp}{v w:V},Same Hs H->RepB Hs H x v->RepB Hs H y w->∀{Q:VK},(∀ a Hs' H',Ext Hs H Hs' H'->H a=none->Hs' a=none->Top Hs' H' a z->Q (.ref a) H')->r v w H Q
instance (priority:=50) semE_O {f:M}[s:zf te f]:SemE te f where
 h:=λe _ _ _ _ _ r _ q=>s.h e r λa Hs' H' x h n t=>by
  obtain ⟨o,ho,hr⟩:=t.rep n;exact q _ _ _ (x.share h n ho) hr
instance (priority:=50) semB_E {f:M}[s:SemE te f]:qc te f where
 h:=λe _ _ _ _ _ r _ q=>s.h e r λv Hs' H' x h=>q v Hs' H' x (.inl h)
def q8 (i:Nat):M:=λε=>match ε[i]? with
 |some (.sh x)=>some x
 |_=>none
def q9 (i:Nat):M:=λε=>match ε[i]? with
 |some (.sh x)=>some x
 |some (.ow x)=>some x
 |some (.bo x)=>some x
 |_=>none
def dC (v:V):M:=λ_=>some (.at v)
instance {i:Nat}:SemE (qF i) (q8 i) where
 h:=λ{ε y} e {_ _ _ _ _} r {_} q=>by
  unfold q8 at e;split at e
  ·rename_i x hx;cases e;obtain ⟨v,h1,h2⟩:=r.sh i _ hx;exact ⟨v,h1,q v _ _ (.refl r.sub) h2⟩
  ·cases e
instance {i:Nat}:qc (qF i) (q9 i) where
 h:=λ{ε y} e {_ _ _ _ _} r {_} q=>by
  unfold q9 at e;split at e
  ·rename_i x hx;cases e;obtain ⟨v,h1,h2⟩:=r.sh i _ hx;exact ⟨v,h1,q v _ _ (.refl r.sub) (.inl h2)⟩
  ·rename_i x hx;cases e;obtain ⟨a,h1,_,n,t⟩:=r.ow i _ hx;exact ⟨_,h1,q _ _ _ (.refl r.sub) (.inr ⟨a,rfl,n,t⟩)⟩
  ·rename_i x hx;cases e;obtain ⟨v,h1,h2|⟨a,rfl,_,n,t⟩⟩:=r.bo i _ hx
   ·exact ⟨v,h1,q v _ _ (.refl r.sub) (.inl h2)⟩
   ·exact ⟨_,h1,q _ _ _ (.refl r.sub) (.inr ⟨a,rfl,n,t⟩)⟩
  ·cases e
instance :SemE (tC v) (dC v) where
 h:=λe _ _ _ _ _ r _ q=>by cases e;exact q v _ _ (.refl r.sub) (rep_at.mpr rfl)
def x9 (g:PV->PV->Option PV)(a b:M):M:=λε=>(a ε).bind λx=>(b ε).bind λy=>g x y
theorem bind_some {α β:Type}{o:Option α}{f:α->Option β}{y:β}(h:o.bind f=some y):∃ x,o=some x/\f x=some y:=by
 cases o with
 |none=>cases h
 |some x=>exact ⟨x,rfl,h⟩
instance {g:PV->PV->Option PV}{ta:TE}[sr:xT r g][sa:qc ta a][sb:qc tb b]:SemE (tOp r ta tb) (x9 g a b) where
 h:=λe _ _ _ _ _ rs _ q=>by
  obtain ⟨x,ex,e⟩:=bind_some e;obtain ⟨y,ey,e⟩:=bind_some e;exact sa.h ex rs λv Hs1 H1 x1 r1=>sb.h ey (rs.go x1) λw Hs2 H2 x2 r2=>sr.h e x2.s3 (r1.ext x2) r2 λu Hs3 H3 x3 r3=>q u _ _ (x1.trans (x2.trans x3)) r3
instance {g:PV->PV->Option PV}{ta:TE}[sr:Uy r g][sa:qc ta a][sb:qc tb b]:zf (tOp r ta tb) (x9 g a b) where
 h:=λe _ _ _ _ _ rs _ q=>by
  obtain ⟨x,ex,e⟩:=bind_some e;obtain ⟨y,ey,e⟩:=bind_some e;exact sa.h ex rs λv Hs1 H1 x1 r1=>sb.h ey (rs.go x1) λw Hs2 H2 x2 r2=>sr.h e x2.s3 (r1.ext x2) r2 λu Hs3 H3 x3 n n' r3=>q u _ _ (x1.trans (x2.trans x3)) (x1.s2.free (x2.s2.free n)) n' r3
def x6:MA:=λ_=>some []
def q0 (a:M)(r:MA):MA:=λε=>(a ε).bind λx=>(r ε).bind λxs=>some (x::xs)
instance:xu qt x6 where
 h:=λe _ _ _ _ _ r _ q=>by cases e;exact q [] _ _ (.refl r.sub) .nil
instance [sa:SemE te a][sr:xu ta f]:xu (i5 te ta) (q0 a f) where
 h:=λe _ _ _ _ _ rs _ q=>by
  obtain ⟨x,ex,e⟩:=bind_some e;obtain ⟨xs,ey,e⟩:=bind_some e;cases e;exact sa.h ex rs λv Hs1 H1 x1 r1=>sr.h ey (rs.go x1) λvs Hs2 H2 x2 r2=>q _ _ _ (x1.trans x2) (.cons (r1.mono x2.s1) r2)
instance:Xc qt x6 where
 h:=λe _ _ _ _ _ r _ q=>by cases e;exact q [] _ _ (.refl r.sub) rfl
instance [sa:qc te a][sr:Xc ta f]:Xc (i5 te ta) (q0 a f) where
 h:=λe _ _ _ _ _ rs _ q=>by
  obtain ⟨x,ex,e⟩:=bind_some e;obtain ⟨xs,ey,e⟩:=bind_some e;cases e;exact sa.h ex rs λv Hs1 H1 x1 r1=>sr.h ey (rs.go x1) λvs Hs2 H2 x2 r2=>q _ _ _ (x1.trans x2) ⟨_,_,rfl,r1.ext x2,r2⟩
def lim:Nat:=1000000
theorem zl (h:n<=lim):n<=sizeLine:=yj h (by rw [sizeLine_eq];decide)
theorem VU (h:n<=lim):n<sizeLine:=Nat.lt_of_le_of_lt h (by rw [sizeLine_eq];decide)
def qm (a:MA):M:=λε=>(a ε).bind λxs=>if xs.length<=lim then some (.tup xs) else none
def xw (a:MA):M:=λε=>(a ε).bind λxs=>if xs.length<=lim then some (.lst xs) else none
instance [sa:xu ta f]:SemE (tTup ta) (qm f) where
 h:=λe _ _ _ _ _ rs _ q=>by
  obtain ⟨xs,ex,e⟩:=bind_some e;split at e
  ·rename_i hl;cases e;exact sa.h ex rs λvs Hs1 H1 x1 r1=>⟨zl (r1.length▸hl),λp hp=>q _ _ _ (x1.trans (.new x1.s3 hp)) (rep_tup.mpr ⟨p,vs,rfl,g8,r1.mono (Ext.new x1.s3 hp).s1⟩)⟩
  ·cases e
instance [sa:xu ta f]:zf (tLst ta) (xw f) where
 h:=λe _ _ _ _ _ rs _ q=>by
  obtain ⟨xs,ex,e⟩:=bind_some e;split at e
  ·rename_i hl;cases e;exact sa.h ex rs λvs Hs1 H1 x1 r1=>⟨zl (r1.length▸hl),λp hp=>q _ _ _ (x1.trans (.newO x1.s3 hp)) (x1.s2.free hp) (x1.s3.free hp) ⟨vs,g8,r1⟩⟩
  ·cases e
theorem c8 (h:RepB Hs H (.at u) v):v=u:=by
 rcases h with h|⟨a,_,_,t⟩
 ·exact rep_at.mp h
 ·exact t.elim
theorem qE (s:Same Hs H)(h:RepB Hs H (.lst xs) v):∃ a vs,v = .ref a/\H a=some (.lst vs)/\Reps Hs xs vs:=by
 rcases h with h|⟨a,rfl,_,vs,e,r⟩
 ·obtain ⟨a,vs,rfl,e,r⟩:=rep_lst.mp h;exact ⟨a,vs,rfl,s _ _ e,r⟩
 ·exact ⟨a,vs,rfl,e,r⟩
theorem xA (s:Same Hs H)(h:RepB Hs H (.tup xs) v):∃ a vs,v = .ref a/\H a=some (.tup vs)/\Reps Hs xs vs:=by
 rcases h with h|⟨a,rfl,_,t⟩
 ·obtain ⟨a,vs,rfl,e,r⟩:=rep_tup.mp h;exact ⟨a,vs,rfl,s _ _ e,r⟩
 ·exact t.elim
theorem Zd (s:Same Hs H)(h:RepB Hs H (.fk ks xs) v):∃ a o kvs,v = .ref a/\H a=some (.frz o (.dK kvs))/\kvs.map (·.1)=ks/\Reps Hs xs (kvs.map (·.2)):=by
 rcases h with h|⟨a,rfl,n,t⟩
 ·obtain ⟨a,o,kvs,rfl,e,k,r⟩:=rep_fk.mp h;exact ⟨a,o,kvs,rfl,s _ _ e,k,r⟩
 ·exact t.elim
theorem vK (s:Same Hs H)(h:RepB Hs H (.dk ks xs) v):∃ a kvs,v = .ref a/\H a=some (.dK kvs)/\kvs.map (·.1)=ks/\Reps Hs xs (kvs.map (·.2)):=by
 rcases h with h|⟨a,rfl,_,kvs,e,k,r⟩
 ·obtain ⟨a,kvs,rfl,e,k,r⟩:=rep_dk.mp h;exact ⟨a,kvs,rfl,s _ _ e,k,r⟩
 ·exact ⟨a,kvs,rfl,e,k,r⟩
theorem PP (s:Same Hs H)(h:RepB Hs H (.ob C ns xs) v):∃ a dx fs,v = .ref a/\H a=some (.ins C dx fs)/\fs.map (·.1)=ns/\Reps Hs xs (fs.map (·.2)):=by
 rcases h with h|⟨a,rfl,_,dx,fs,e,k,r⟩
 ·obtain ⟨a,dx,fs,rfl,e,k,r⟩:=rep_ob.mp h;exact ⟨a,dx,fs,rfl,s _ _ e,k,r⟩
 ·exact ⟨a,dx,fs,rfl,e,k,r⟩
def pI (g:Int->Int->Option V):PV->PV->Option PV
 | .at (.int i),.at (.int j)=>(g i j).map .at
 |_,_=>none
theorem BU {g:Int->Int->Option V}{z:PV}(h:pI g x y=some z):∃ i j u,x = .at (.int i)/\y = .at (.int j)/\g i j=some u/\z = .at u:=by
 unfold pI at h;split at h
 ·rename_i i j;obtain ⟨u,e,rfl⟩:=yN.mp h;exact ⟨i,j,u,rfl,rfl,e,rfl⟩
 ·cases h
instance {g:Int->Int->V}:xT (rI0 g) (pI λi j=>some (g i j)) where
 h:=λe _ _ _ _ s a b _ q=>by
  obtain ⟨i,j,u,rfl,rfl,e,rfl⟩:=BU e;cases e;exact ⟨i,j,c8 a,c8 b,q _ _ _ (.refl s) (rep_at.mpr rfl)⟩
instance {C:Int->Int->Prop}[d:∀ i j,Decidable (C i j)]{g:Int->Int->V}:xT (rI C g) (pI λi j=>if C i j then some (g i j) else none) where
 h:=λe _ _ _ _ s a b _ q=>by
  obtain ⟨i,j,u,rfl,rfl,e',rfl⟩:=BU e;split at e'
  ·rename_i hc;cases e';exact ⟨i,j,c8 a,c8 b,hc,q _ _ _ (.refl s) (rep_at.mpr rfl)⟩
  ·cases e'
def w9:PV->PV->Option PV
 | .lst xs,.at (.int i)=>atI xs i
 | .tup xs,.at (.int i)=>atI xs i
 | .at (.str z),.at (.int i)=>if z.length<=lim then (L2.atI z.cps.toList i).map λc=> .at (.str ⟨#[c]⟩) else none
 |_,_=>none
theorem Reps.atI {i:Int}(r:Reps H xs vs)(h:atI xs i=some x):∃ v,L2.atI vs i=some v/\Rep H x v:=by unfold L2.atI at h ⊢;rw [r.length];obtain ⟨j,ej,e⟩:=bind_some h;rw [ej];exact r.get e
instance :xT (rIx K) w9 where
 h:=λ{x y z} e {Hs H v w} s a b {Q} q=>by
  unfold w9 at e;split at e
  ·obtain ⟨p,vs,rfl,e1,r1⟩:=qE s a;obtain ⟨u,hu,r⟩:=r1.atI e;exact .inl ⟨p,vs,_,u,rfl,c8 b,SqL.of e1,hu,q _ _ _ (.refl s) r⟩
  ·obtain ⟨p,vs,rfl,e1,r1⟩:=xA s a;obtain ⟨u,hu,r⟩:=r1.atI e;exact .inr (.inl ⟨p,vs,_,u,rfl,c8 b,SqT.of e1,hu,q _ _ _ (.refl s) r⟩)
  ·split at e
   ·rename_i hz;obtain ⟨c,hc,rfl⟩:=yN.mp e;exact .inr (.inr ⟨_,_,c,c8 a,c8 b,zl hz,hc,q _ _ _ (.refl s) (rep_at.mpr rfl)⟩)
   ·cases e
  ·cases e
def ats:List PV->Option (List V)
 |[]=>some []
 | .at u::xs=>(ats xs).map (u::·)
 |_::_=>none
theorem ZA:∀{xs:List PV}{us:List V},ats xs=some us->xs=us.map .at
 |[],_,h=>by cases h;rfl
 | .at u::xs,us,h=>by
  unfold ats at h;obtain ⟨r,e,rfl⟩:=yN.mp h;rw [yO,ZA e]
 | .tup _::_,_,h=>by cases h
 | .lst _::_,_,h=>by cases h
 | .dk _ _::_,_,h=>by cases h
 | .fk _ _::_,_,h=>by cases h
 | .ob _ _ _::_,_,h=>by cases h
 | .op _::_,_,h=>by cases h
def pIn (neg:Bool):PV->PV->Option PV
 | .at u,.lst xs=>(ats xs).bind λus=>if k6 u=true/\us.all k6=true then some (.at (.bl (if neg then !inV u us else inV u us))) else none
 | .at u,.tup xs=>(ats xs).bind λus=>if k6 u=true/\us.all k6=true then some (.at (.bl (if neg then !inV u us else inV u us))) else none
 |_,_=>none
instance {neg:Bool}:xT (rIn K neg) (pIn neg) where
 h:=λ{x y z} e {Hs H v w} s a b {Q} q=>by
  unfold pIn at e;split at e
  ·obtain ⟨us,e1,e⟩:=bind_some e;split at e
   ·rename_i hf;cases e;obtain ⟨p,vs,rfl,e2,r2⟩:=qE s b;rw [ZA e1] at r2;cases r2.ats;cases c8 a;exact ⟨p,_,rfl,.inl (SqL.of e2),hf.1,hf.2,q _ _ _ (.refl s) (rep_at.mpr rfl)⟩
   ·cases e
  ·obtain ⟨us,e1,e⟩:=bind_some e;split at e
   ·rename_i hf;cases e;obtain ⟨p,vs,rfl,e2,r2⟩:=xA s b;rw [ZA e1] at r2;cases r2.ats;cases c8 a;exact ⟨p,_,rfl,.inr (SqT.of e2),hf.1,hf.2,q _ _ _ (.refl s) (rep_at.mpr rfl)⟩
   ·cases e
  ·cases e
class SemU (r:V->Hp->VK->Prop)(g:PV->Option PV):Prop where
 h:∀{x z},g x=some z->∀{Hs H:Hp}{v:V},Same Hs H->RepB Hs H x v->∀{Q:VK},(∀ u Hs' H',Ext Hs H Hs' H'->Rep Hs' z u->Q u H')->r v H Q
def dUn (g:PV->Option PV)(a:M):M:=λε=>(a ε).bind g
instance {r:V->Hp->VK->Prop}{g:PV->Option PV}{ta:TE}[sr:SemU r g][sa:qc ta a]:SemE (tUn r ta) (dUn g a) where
 h:=λe _ _ _ _ _ rs _ q=>by
  obtain ⟨x,ex,e⟩:=bind_some e;exact sa.h ex rs λv Hs1 H1 x1 r1=>sr.h e x1.s3 r1 λu Hs3 H3 x3 r3=>q u _ _ (x1.trans x3) r3
def pU (g:Int->V):PV->Option PV
 | .at (.int i)=>some (.at (g i))
 |_=>none
instance {g:Int->V}:SemU (rU g) (pU g) where
 h:=λ{x z} e {_ _ _} s a {_} q=>by
  unfold pU at e;split at e
  ·cases e;exact ⟨_,c8 a,q _ _ _ (.refl s) (rep_at.mpr rfl)⟩
  ·cases e
def pB:PV->Option Bool
 | .at (.bl b)=>some b
 |_=>none
theorem QL {b:Bool}(h:pB x=some b):x = .at (.bl b):=by
 unfold pB at h;split at h
 ·cases h;rfl
 ·cases h
def dT (a:M):MB:=λε=>(a ε).bind pB
instance [sa:qc te a]:xD (JL te) (dT a) where
 h:=λe _ _ _ _ _ rs _ q=>by
  obtain ⟨x,ex,e⟩:=bind_some e;cases QL e;exact sa.h ex rs λv Hs1 H1 x1 r1=>⟨_,c8 r1,q _ _ x1⟩
instance [sa:qc te a]:xD (tB te) (dT a) where
 h:=λe _ _ _ _ _ rs _ q=>by
  obtain ⟨x,ex,e⟩:=bind_some e;cases QL e;exact sa.h ex rs λv Hs1 H1 x1 r1=>⟨_,c8 r1,q _ _ x1⟩
def tTru (K:Fg)(ta:TE):TT:=λσ H Q=>ta σ H λx H'=>∃ k,TruV K x H' k/\Q k H'
def pTru:PV->Option Bool
 | .at .non=>some false
 | .at (.bl b)=>some b
 | .at (.int i)=>some (i != 0)
 | .at (.str y)=>if y.length<=lim then some ((y.length:Int) != 0) else none
 | .lst xs=>some (!xs.isEmpty)
 | .tup xs=>some (!xs.isEmpty)
 | .dk ks _=>some (!ks.isEmpty)
 |_=>none
def r9 (a:M):MB:=λε=>(a ε).bind pTru
theorem Reps.isEmpty (r:Reps H xs vs):vs.isEmpty=xs.isEmpty:=by have:=r.length;cases xs<;>cases vs<;>first|rfl|(simp at this)
instance [sa:qc te a]:xD (tTru K te) (r9 a) where
 h:=λe _ _ _ _ _ rs _ q=>by
  obtain ⟨x,ex,e⟩:=bind_some e;refine sa.h ex rs λv Hs1 H1 x1 r1=>?_;unfold pTru at e;split at e
  ·cases e;cases c8 r1;exact ⟨_,rfl,q _ _ x1⟩
  ·cases e;cases c8 r1;exact ⟨_,rfl,q _ _ x1⟩
  ·cases e;cases c8 r1;exact ⟨_,rfl,q _ _ x1⟩
  ·split at e
   ·rename_i hl;cases e;cases c8 r1;exact ⟨_,⟨zl hl,rfl⟩,q _ _ x1⟩
   ·cases e
  ·cases e;obtain ⟨p,vs,rfl,e1,r2⟩:=qE x1.s3 r1;exact ⟨_,.inl ⟨vs,SqL.of e1,by rw [r2.isEmpty]⟩,q _ _ x1⟩
  ·cases e;obtain ⟨p,vs,rfl,e1,r2⟩:=xA x1.s3 r1;exact ⟨_,.inr (.inl ⟨vs,SqT.of e1,by rw [r2.isEmpty]⟩),q _ _ x1⟩
  ·cases e;obtain ⟨p,kvs,rfl,e1,k,r2⟩:=vK x1.s3 r1;refine ⟨_,.inr (.inr ⟨kvs,e1,?_⟩),q _ _ x1⟩;rw [<- k];cases kvs<;>rfl
  ·cases e
def zQ (a b:MB):MB:=λε=>(a ε).bind λc=>if c=true then b ε else some false
def xf (a b:MB):MB:=λε=>(a ε).bind λc=>if c=true then some true else b ε
def i6 (a:MB):MB:=λε=>(a ε).bind λc=>some (!c)
instance {u:TT}{a b:MB}[sa:xD t a][sb:xD u b]:xD (tAnd t u) (zQ a b) where
 h:=λe _ _ _ _ _ rs _ q=>by
  obtain ⟨c,ex,e⟩:=bind_some e;refine sa.h ex rs λHs1 H1 x1=>?_;cases c with
  |true=>exact zT (sb.h e (rs.go x1) λHs2 H2 x2=>q _ _ (x1.trans x2))
  |false=>cases e;exact zS (q _ _ x1)
instance {u:TT}{a b:MB}[sa:xD t a][sb:xD u b]:xD (tOr t u) (xf a b) where
 h:=λe _ _ _ _ _ rs _ q=>by
  obtain ⟨c,ex,e⟩:=bind_some e;refine sa.h ex rs λHs1 H1 x1=>?_;cases c with
  |true=>cases e;exact zT (q _ _ x1)
  |false=>exact zS (sb.h e (rs.go x1) λHs2 H2 x2=>q _ _ (x1.trans x2))
instance {a:MB}[sa:xD t a]:xD (tNot t) (i6 a) where
 h:=λe _ _ _ _ _ rs _ q=>by
  obtain ⟨c,ex,e⟩:=bind_some e;cases e;exact sa.h ex rs λHs1 H1 x1=>q _ _ x1
def zR (a b:M):M:=λε=>(a ε).bind λx=>(pB x).bind λc=>if c=true then b ε else some (.at (.bl false))
def Qn (a:M):M:=λε=>(a ε).bind λx=>(pB x).bind λc=>some (.at (.bl (!c)))
instance {t u:TE}[sa:SemE t a][sb:SemE u b]:SemE (Cy t u) (zR a b) where
 h:=λe _ _ _ _ _ rs _ q=>by
  obtain ⟨x,ex,e⟩:=bind_some e;obtain ⟨c,ec,e⟩:=bind_some e;cases QL ec;refine sa.h ex rs λv Hs1 H1 x1 r1=>⟨c,rep_at.mp r1,?_⟩;cases c with
  |true=>exact zT (sb.h e (rs.go x1) λw Hs2 H2 x2 r2=>q _ _ _ (x1.trans x2) r2)
  |false=>cases e;exact zS (q _ _ _ x1 (rep_at.mpr rfl))
instance {t:TE}[sa:qc t a]:SemE (CF t) (Qn a) where
 h:=λe _ _ _ _ _ rs _ q=>by
  obtain ⟨x,ex,e⟩:=bind_some e;obtain ⟨c,ec,e⟩:=bind_some e;cases QL ec;cases e;exact sa.h ex rs λv Hs1 H1 x1 r1=>⟨c,c8 r1,q _ _ _ x1 (rep_at.mpr rfl)⟩
def dIf (c:MB)(a b:M):M:=λε=>(c ε).bind λk=>if k=true then a ε else b ε
instance {ta:TE}[sc:xD t c][sa:SemE ta a][sb:SemE tb b]:SemE (tIf t ta tb) (dIf c a b) where
 h:=λe _ _ _ _ _ rs _ q=>by
  obtain ⟨k,ex,e⟩:=bind_some e;refine sc.h ex rs λHs1 H1 x1=>?_;cases k with
  |true=>exact zT (sa.h e (rs.go x1) λw Hs2 H2 x2 r2=>q _ _ _ (x1.trans x2) r2)
  |false=>exact zS (sb.h e (rs.go x1) λw Hs2 H2 x2 r2=>q _ _ _ (x1.trans x2) r2)
def xY (g g':PV->PV->Option PV)(a b c:M):M:=λε=>(a ε).bind λx=>(b ε).bind λy=>(g x y).bind λz=>(pB z).bind λk=>if k=true then (c ε).bind λw=>g' y w else some (.at (.bl false))
instance {r':R2}{g g':PV->PV->Option PV}{ta tc:TE}{c:M}[sr:xT r g][sr':xT r' g'][sa:qc ta a][sb:qc tb b][sc:qc tc c]:SemE (Uf r r' ta tb tc) (xY g g' a b c) where
 h:=λe _ _ _ _ _ rs _ q=>by
  obtain ⟨x,ex,e1⟩:=bind_some e;obtain ⟨y,ey,e2⟩:=bind_some e1;obtain ⟨z,ez,e3⟩:=bind_some e2;obtain ⟨k,ek,e4⟩:=bind_some e3;have ez':=QL ek;subst ez';refine sa.h ex rs λv Hs1 H1 x1 r1=>sb.h ey (rs.go x1) λw Hs2 H2 x2 r2=>sr.h ez x2.s3 (r1.ext x2) r2 λu Hs3 H3 x3 r3=>⟨k,rep_at.mp r3,?_⟩;cases k with
  |true=>obtain ⟨w',ew,e5⟩:=bind_some e4;exact zT (sc.h ew (((rs.go x1).go x2).go x3) λu' Hs4 H4 x4 r4=>sr'.h e5 x4.s3 ((r2.ext x3).ext x4) r4 λu'' Hs5 H5 x5 r5=>q _ _ _ (x1.trans (x2.trans (x3.trans (x4.trans x5)))) r5)
  |false=>cases e4;exact zS (q _ _ _ (x1.trans (x2.trans x3)) (rep_at.mpr rfl))
def v7 (m:List PV->Option PV):Sp:=λvs H Q _=>∃ Hs xs y,Same Hs H/\Reps Hs xs vs/\m xs=some y/\∀ v Hs' H',Ext Hs H Hs' H'->Rep Hs' y v->Q v H'
def p8 (m:List PV->Option PV):Sp:=λvs H Q _=>∃ Hs xs y,Same Hs H/\Reps Hs xs vs/\m xs=some y/\∀ a Hs' H',Ext Hs H Hs' H'->H a=none->Hs' a=none->Top Hs' H' a y->Q (.ref a) H'
def x8 (m:List PV->Option PV)(as:MA):M:=λε=>(as ε).bind m
instance [sa:xu ta as]:SemE (ve (v7 m) [] E ta) (x8 m as) where
 h:=λe _ _ _ _ _ rs _ q=>by
  obtain ⟨xs,ex,e1⟩:=bind_some e;refine sa.h ex rs λvs Hs1 H1 x1 r1=>⟨Hs1,xs,_,x1.s3,by rw [yp];exact r1,e1,λv Hs' H' x r=>q v _ _ (x1.trans x) r⟩
instance [sa:xu ta as]:zf (ve (p8 m) [] E ta) (x8 m as) where
 h:=λe _ _ _ _ _ rs _ q=>by
  obtain ⟨xs,ex,e1⟩:=bind_some e;refine sa.h ex rs λvs Hs1 H1 x1 r1=>⟨Hs1,xs,_,x1.s3,by rw [yp];exact r1,e1,λa Hs' H' x n n' r=>q a _ _ (x1.trans x) (x1.s2.free n) n' r⟩
def Vp (m:List PV->Option PV)(ds:List V)(as:MA):M:=λε=>(as ε).bind λxs=>m (xs++ds.map .at)
def xF (C:Addr)(nm:Str)(m:List PV->Option PV)(a:M)(as:MA):M:=λε=>(a ε).bind λx=>match x with
 | .ob C' ns fs=>if C'=C/\nm∉ns then (as ε).bind λxs=>m (x::xs) else none
 |_=>none
theorem VV {fs:List (Str×V)}{f:Str}(h:f∉fs.map (·.1)):fs.lookup f=none:=by
 induction fs with
 |nil=>rfl
 |cons p r ih =>
  rw [yO] at h;rw [uP];have h1:(f==p.1)=false:=by rw [beq_eq_false_iff_ne];exact λe=>h (e▸yT)
  rw [h1];exact ih λz=>h (yV _ z)
theorem Kx (h:xF C nm m a as ε=some y):∃ ns fs xs,a ε=some (.ob C ns fs)/\nm∉ns/\as ε=some xs/\m (.ob C ns fs::xs)=some y:=by
 unfold xF at h;obtain ⟨x,ex,h1⟩:=bind_some h;split at h1
 ·rename_i C' ns fs;split at h1
  ·rename_i hc;obtain ⟨xs,e2,h2⟩:=bind_some h1;obtain ⟨rfl,hn⟩:=hc;exact ⟨ns,fs,xs,ex,hn,e2,h2⟩
  ·cases h1
 ·cases h1
instance [so:SemE te a][sa:xu ta as]:SemE (wK C nm (v7 m) [] E te ta) (xF C nm m a as) where
 h:=λe _ _ _ _ _ rs _ q=>by
  obtain ⟨ns,fs,xs,ea,hn,e1,e2⟩:=Kx e;refine so.h ea rs λv Hs1 H1 x1 r1=>?_;obtain ⟨p,dx,gs,rfl,hp,hk,hr⟩:=rep_ob.mp r1;refine ⟨p,dx,gs,rfl,x1.s3 _ _ hp,VV (by rw [hk];exact hn),sa.h e1 (rs.go x1) λvs Hs2 H2 x2 r2=>?_⟩;exact ⟨Hs2,_,_,x2.s3,by rw [yp];exact .cons (r1.mono x2.s1) r2,e2,λv Hs' H' x r=>q v _ _ (x1.trans (x2.trans x)) r⟩
instance [so:SemE te a][sa:xu ta as]:zf (wK C nm (p8 m) [] E te ta) (xF C nm m a as) where
 h:=λe _ _ _ _ _ rs _ q=>by
  obtain ⟨ns,fs,xs,ea,hn,e1,e2⟩:=Kx e;refine so.h ea rs λv Hs1 H1 x1 r1=>?_;obtain ⟨p,dx,gs,rfl,hp,hk,hr⟩:=rep_ob.mp r1;refine ⟨p,dx,gs,rfl,x1.s3 _ _ hp,VV (by rw [hk];exact hn),sa.h e1 (rs.go x1) λvs Hs2 H2 x2 r2=>?_⟩;exact ⟨Hs2,_,_,x2.s3,by rw [yp];exact .cons (r1.mono x2.s1) r2,e2,λv Hs' H' x n n' r=>q v _ _ (x1.trans (x2.trans x)) (x1.s2.free (x2.s2.free n)) n' r⟩
class Qb (r:List V->Hp->VK->Prop)(g:List PV->Option PV):Prop where
 h:∀{xs z},g xs=some z->∀{Hs H:Hp}{vs:List V},Same Hs H->wZ Hs H xs vs->∀{Q:VK},(∀ u Hs' H',Ext Hs H Hs' H'->Rep Hs' z u->Q u H')->r vs H Q
class JU (r:List V->Hp->VK->Prop)(g:List PV->Option PV):Prop where
 h:∀{xs z},g xs=some z->∀{Hs H:Hp}{vs:List V},Same Hs H->wZ Hs H xs vs->∀{Q:VK},(∀ a Hs' H',Ext Hs H Hs' H'->H a=none->Hs' a=none->Top Hs' H' a z->Q (.ref a) H')->r vs H Q
instance {r:List V->Hp->VK->Prop}{g:List PV->Option PV}[sr:Qb r g][sa:Xc ta as]:SemE (tCB r ta) (x8 g as) where
 h:=λe _ _ _ _ _ rs _ q=>by
  obtain ⟨xs,ex,e1⟩:=bind_some e;exact sa.h ex rs λvs Hs1 H1 x1 r1=>sr.h e1 x1.s3 r1 λv Hs' H' x r=>q v _ _ (x1.trans x) r
instance {r:List V->Hp->VK->Prop}{g:List PV->Option PV}[sr:JU r g][sa:Xc ta as]:zf (tCB r ta) (x8 g as) where
 h:=λe _ _ _ _ _ rs _ q=>by
  obtain ⟨xs,ex,e1⟩:=bind_some e;exact sa.h ex rs λvs Hs1 H1 x1 r1=>sr.h e1 x1.s3 r1 λv Hs' H' x n n' r=>q v _ _ (x1.trans x) (x1.s2.free n) n' r
theorem zt (h:wZ Hs H [x] vs):∃ v,vs=[v]/\RepB Hs H x v:=by obtain ⟨v,r,rfl,a,b⟩:=h;cases (show r=[] from b);exact ⟨v,rfl,a⟩
theorem Tx (h:wZ Hs H [x,y] vs):∃ v w,vs=[v,w]/\RepB Hs H x v/\RepB Hs H y w:=by obtain ⟨v,r,rfl,a,b⟩:=h;obtain ⟨w,rfl,c⟩:=zt b;exact ⟨v,w,rfl,a,c⟩
inductive Out where
 |nx (ε:ME)|rt (y:PV)|bk (ε:ME)|ct (ε:ME)
abbrev MS:=ME->Option Out
def OutK (fr:Bool)(Hs0 H0:Hp)(D:ze):Out->Prop
 | .nx ε=>∀ Hs H σ,RS Hs0 H0 Hs H σ ε->D.nx σ H
 | .bk ε=>∀ Hs H σ,RS Hs0 H0 Hs H σ ε->D.bk σ H
 | .ct ε=>∀ Hs H σ,RS Hs0 H0 Hs H σ ε->D.ct σ H
 | .rt y=>match fr with
  |true=>∀ a Hs H,Ext Hs0 H0 Hs H->H0 a=none->Hs a=none->Top Hs H a y->D.rt (.ref a) H
  |false=>∀ v Hs H,Ext Hs0 H0 Hs H->Rep Hs y v->D.rt v H
class qd (fr:Bool)(ts:TS)(f:MS):Prop where
 h:∀{ε o},f ε=some o->∀{Hs0 H0 Hs H σ},RS Hs0 H0 Hs H σ ε->∀{D:ze},OutK fr Hs0 H0 D o->ts D σ H
variable {fr:Bool}
def c6:MS:=λε=>some (.nx ε)
instance:qd fr Ug c6 where
 h:=λe _ _ _ _ _ rs _ q=>by cases e;exact q _ _ _ rs
def j7 (a b:MS):MS:=λε=>(a ε).bind λo=>match o with
 | .nx ε'=>b ε'
 |o=>some o
instance {t u:TS}{a b:MS}[sa:qd fr t a][sb:qd fr u b]:qd fr (tSeq t u) (j7 a b) where
 h:=λe _ _ _ _ _ rs D q=>by
  obtain ⟨o,eo,e1⟩:=bind_some e;refine sa.h eo rs ?_;cases o with
  |nx ε'=>exact λHs H σ r=>sb.h e1 r q
  |rt y=>cases e1;exact q
  |bk ε'=>cases e1;exact q
  |ct ε'=>cases e1;exact q
def jG (a:M):MS:=λε=>(a ε).bind λ_=>some (.nx ε)
instance (priority:=100)[sa:qc te a]:qd fr (vO te) (jG a) where
 h:=λe _ _ _ _ _ rs _ q=>by
  obtain ⟨x,ex,e1⟩:=bind_some e;cases e1;exact sa.h ex rs λv Hs1 H1 x1 r1=>q _ _ _ (rs.go x1)
def y8 (a:M):MS:=λε=>(a ε).bind λx=>some (.rt x)
instance [sa:SemE te a]:qd false (wL te) (y8 a) where
 h:=λe _ _ _ _ _ rs _ q=>by
  obtain ⟨x,ex,e1⟩:=bind_some e;cases e1;exact sa.h ex rs λv Hs1 H1 x1 r1=>q _ _ _ (rs.ext.trans x1) r1
instance [sa:zf te a]:qd true (wL te) (y8 a) where
 h:=λe _ _ _ _ _ rs _ q=>by
  obtain ⟨x,ex,e1⟩:=bind_some e;cases e1;exact sa.h ex rs λv Hs1 H1 x1 n n' r1=>q _ _ _ (rs.ext.trans x1) (rs.ext.s2.free n) n' r1
def QI (i:Nat):M:=λε=>match ε[i]? with
 |some (.ow x)=>some x
 |_=>none
instance {i:Nat}:qd true (wL (qF i)) (y8 (QI i)) where
 h:=λe _ _ _ _ _ rs _ q=>by
  obtain ⟨x,ex,e1⟩:=bind_some e;cases e1;unfold QI at ex;split at ex
  ·rename_i y hy;cases ex;obtain ⟨a,ha,n0,n,t⟩:=rs.ow i _ hy;exact ⟨_,ha,q _ _ _ rs.ext n0 n t⟩
  ·cases ex
def b9 (c:MB)(a b:MS):MS:=λε=>(c ε).bind λk=>if k=true then a ε else b ε
instance {ta tb:TS}{a b:MS}[sc:xD t c][sa:qd fr ta a][sb:qd fr tb b]:qd fr (tIfS t ta tb) (b9 c a b) where
 h:=λe _ _ _ _ _ rs _ q=>by
  obtain ⟨k,ex,e1⟩:=bind_some e;refine sc.h ex rs λHs1 H1 x1=>?_;cases k with
  |true=>exact zT (sa.h e1 (rs.go x1) q)
  |false=>exact zS (sb.h e1 (rs.go x1) q)
def xG:MS:=λ_=>none
instance:qd fr CC xG where
 h:=λe=>by cases e
abbrev MG:=PV->ME->Option ME
def But (ts:List Nat)(σ σ':St):Prop:=σ'.length=σ.length/\∀ j,j∉ts->σ'[j]?=σ[j]?
theorem But.refl (σ:St):But [] σ σ:=⟨rfl,λ_ _=>rfl⟩
theorem But.trans {a b:List Nat}{σ1 σ2:St}(x:But a σ σ1)(y:But b σ1 σ2):But (a++b) σ σ2 :=
 ⟨y.1.trans x.1,λj hj=>(y.2 j λz=>hj (uY.mpr (.inr z))).trans (x.2 j λz=>hj (uY.mpr (.inl z)))⟩
theorem But.wk (b:But ts σ σ')(h:∀ i∈ts,σ[i]?=some none):Wk σ σ':=by refine ⟨b.1.symm,λi v e=>?_⟩;rw [b.2 i λz=>by rw [h i z] at e;cases e];exact e
class Qc (tg:TG)(ts:outParam (List Nat))(g:MG):Prop where
 h:∀{x ε ε'},g x ε=some ε'->∀{Hs0 H0 Hs H σ v},RS Hs0 H0 Hs H σ ε->Rep Hs x v->∀{Q:St->Hp->Prop},(∀ σ',RS Hs0 H0 Hs H σ' ε'->But ts σ σ'->Q σ' H)->tg v σ H Q
class Qd (tg:TGs)(ts:outParam (List Nat))(g:List PV->ME->Option ME):Prop where
 h:∀{xs ε ε'},g xs ε=some ε'->∀{Hs0 H0 Hs H σ vs},RS Hs0 H0 Hs H σ ε->Reps Hs xs vs->∀{Q:St->Hp->Prop},(∀ σ',RS Hs0 H0 Hs H σ' ε'->But ts σ σ'->Q σ' H)->tg vs σ H Q
def v8 (i:Nat):MG:=λx ε=>some (ε.set i (.sh x))
instance {i:Nat}:Qc (xh i) [i] (v8 i) where
 h:=λe _ _ _ _ _ _ rs r _ q=>by
  cases e;exact q _ (rs.put r) ⟨yg,λj hj=>yq λz=>hj (by rw [<- z];exact yI.mpr rfl)⟩
def qH:List PV->ME->Option ME:=λxs ε=>match xs with
 |[]=>some ε
 |_=>none
def c7 (g:MG)(r:List PV->ME->Option ME):List PV->ME->Option ME:=λxs ε=>match xs with
 |x::xs=>(g x ε).bind (r xs)
 |_=>none
instance:Qd gNil [] qH where
 h:=λ{xs ε ε'} e {_ _ _ _ _ _} rs r {_} q=>by
  unfold qH at e;split at e
  ·cases e;exact ⟨reps_nil.mp r,q _ rs (.refl _)⟩
  ·cases e
instance SH {t:TG}{u:TGs}{a b:List Nat}{g:MG}{r:List PV->ME->Option ME}[sg:Qc t a g][sr:Qd u b r]:Qd (VB t u) (a++b) (c7 g r) where
 h:=λ{xs ε ε'} e {_ _ _ _ _ _} rs rr {_} q=>by
  unfold c7 at e;split at e
  ·obtain ⟨ε1,e1,e2⟩:=bind_some e;obtain ⟨v,w,rfl,r1,r2⟩:=reps_cons.mp rr;exact ⟨v,w,rfl,sg.h e1 rs r1 λσ1 rs1 b1=>sr.h e2 rs1 r2 λσ2 rs2 b2=>q _ rs2 (b1.trans b2)⟩
  ·cases e
instance (priority:=2000){i:Nat}{u:TGs}{b:List Nat}{r:List PV->ME->Option ME}[sr:Qd u b r]:Qd (VB (xh i) u) (i::b) (c7 (v8 i) r) where
 h:=λe _ _ _ _ _ _ rs rr _ q=>(SH (t:=xh i) (a:=[i]) (g:=v8 i)).h e rs rr q
def qI (n:Nat)(g:List PV->ME->Option ME):MG:=λx ε=>match x with
 | .tup xs=>if xs.length=n then g xs ε else none
 |_=>none
instance {t:TGs}{g:List PV->ME->Option ME}[sg:Qd t ts g]:Qc (gTup K n t) ts (qI n g) where
 h:=λ{x ε ε'} e {_ _ _ _ _ _} rs rr {_} q=>by
  unfold qI at e;split at e
  ·split at e
   ·rename_i hl;obtain ⟨a,vs,rfl,h,r⟩:=rep_tup.mp rr;exact ⟨a,vs,rfl,SqT.of (rs.sub _ _ h),by rw [r.length];exact hl,sg.h e rs r λσ' rs' b=>q _ rs' b⟩
   ·cases e
  ·cases e
def u8 (i:Nat)(a:M):MS:=λε=>(a ε).bind λx=>some (.nx (ε.set i (.sh x)))
def vm (i:Nat)(a:M):MS:=λε=>(a ε).bind λx=>some (.nx (ε.set i (.ow x)))
instance {i:Nat}[sa:SemE te a]:qd fr (jg te (xh i)) (u8 i a) where
 h:=λe _ _ _ _ _ rs _ q=>by
  obtain ⟨x,ex,e1⟩:=bind_some e;cases e1;exact sa.h ex rs λv Hs1 H1 x1 r1=>q _ _ _ ((rs.go x1).put r1)
instance {i:Nat}[sa:zf te a]:qd fr (jg te (xh i)) (vm i a) where
 h:=λe _ _ _ _ _ rs _ q=>by
  obtain ⟨x,ex,e1⟩:=bind_some e;cases e1;refine sa.h ex rs λp Hs1 H1 x1 n n' t=>q _ _ _ ((rs.go x1).putO ⟨rs.ext.s2.free n,n',t⟩ λj y hj z=>?_);obtain ⟨b,hb,_,_,tb⟩:=rs.ow j y hj;rw [z] at hb;injection hb with hb;injection hb with hb;injection hb with hb;subst hb;exact tb.there n
def dAsg (g:MG)(a:M):MS:=λε=>(a ε).bind λx=>(g x ε).bind λε'=>some (.nx ε')
instance (priority:=500){g:MG}[sa:SemE te a][sg:Qc tg ts g]:qd fr (jg te tg) (dAsg g a) where
 h:=λe _ _ _ _ _ rs _ q=>by
  obtain ⟨x,ex,e1⟩:=bind_some e;obtain ⟨ε',e2,e3⟩:=bind_some e1;cases e3;exact sa.h ex rs λv Hs1 H1 x1 r1=>sg.h e2 (rs.go x1) r1 λσ' rs' _=>q _ _ _ rs'
def pIp (g:Int->Int->Int):PV->PV->Option PV
 | .at (.int i),.at (.int j)=>some (.at (.int (g i j)))
 |_,_=>none
def dAug (i:Nat)(g:PV->PV->Option PV)(a:M):MS:=λε=>(q8 i ε).bind λx=>(a ε).bind λy=>(g x y).bind λz=>some (.nx (ε.set i (.sh z)))
def jF (i:Nat)(a:M):MS:=λε=>(a ε).bind λx=>match ε[i]? with
 |some (.ow (.lst xs))=>if xs.length<=lim then some (.nx (ε.set i (.ow (.lst (xs++[x]))))) else none
 |_=>none
instance {i:Nat}[sa:SemE te a]:qd fr (vO (tBM K "list" WF (qF i) (i5 te qt))) (jF i a) where
 h:=λe _ _ _ _ _ rs _ q=>by
  obtain ⟨x,ex,e1⟩:=bind_some e;split at e1
  ·rename_i xs hi;split at e1
   ·rename_i hl;cases e1;obtain ⟨p,hp,n0,n,vs,hv,rv⟩:=rs.ow i _ hi;refine ⟨_,hp,.inl ⟨rfl,vs,SqL.of hv⟩,sa.h ex rs λv Hs1 H1 x1 r1=>?_⟩;have hv1:=x1.s2 _ _ hv;refine ⟨p,vs,v,rfl,rfl,hv1,VU (by rw [rv.length];exact hl),q _ _ _ ((rs.go x1).change hi hp ⟨_,g8,(rv.mono x1.s1).append (.one r1)⟩)⟩
   ·cases e1
  ·cases e1
def dExtend (i:Nat)(a:M):MS:=λε=>(a ε).bind λx=>match x with
 | .lst ys=>(match ε[i]? with
  |some (.ow (.lst xs))=>if xs.length+ys.length<=lim then some (.nx (ε.set i (.ow (.lst (xs++ys))))) else none
  |_=>none)
 |_=>none
structure jC (J:It)(xs:List PV)(Hs:Hp):Prop where
 go:∀(i:Nat)(x:PV)(Hs1 H1:Hp),xs[i]?=some x->Same Hs Hs1->Same Hs1 H1->J.go i H1/\∀ v H2,J.yld i H1 v H2->∃ Hs2,Ext Hs1 H1 Hs2 H2/\Rep Hs2 x v
 stop:∀(Hs1 H1:Hp),Same Hs Hs1->Same Hs1 H1->J.stop xs.length H1
class jn (ti:TI)(f:MA):Prop where
 h:∀{ε xs},f ε=some xs->∀{Hs0 H0 Hs H σ},RS Hs0 H0 Hs H σ ε->∀{R:It->Hp->Prop},(∀ J Hs' H',Ext Hs H Hs' H'->jC J xs Hs'->R J H')->ti σ H R
def r6 (a:M):MA:=λε=>(a ε).bind λx=>match x with
 | .lst xs=>some xs
 |_=>none
def Ql (a:M):MA:=λε=>(a ε).bind λx=>match x with
 | .tup xs=>some xs
 |_=>none
theorem LS {a:Addr}(h:Hs a=some (.lst vs))(r:Reps Hs xs vs):jC (Itl K a) xs Hs where
 go:=λi x Hs1 H1 e g1 g2=>by
  obtain ⟨v,ev,rv⟩:=r.get e;refine ⟨⟨vs,v,SqL.of (g2 _ _ (g1 _ _ h)),ev⟩,λw H2 y=>?_⟩;obtain ⟨rfl,y⟩:=y;have z:=y vs (SqL.of (g2 _ _ (g1 _ _ h)));rw [ev] at z;cases z;exact ⟨Hs1,.refl g2,rv.mono g1⟩
 stop:=λHs1 H1 g1 g2=>⟨vs,SqL.of (g2 _ _ (g1 _ _ h)),by rw [r.length];exact yW _⟩
theorem LV {a:Addr}(h:Hs a=some (.tup vs))(r:Reps Hs xs vs):jC (Itt K a) xs Hs where
 go:=λi x Hs1 H1 e g1 g2=>by
  obtain ⟨v,ev,rv⟩:=r.get e;refine ⟨⟨vs,v,SqT.of (g2 _ _ (g1 _ _ h)),ev⟩,λw H2 y=>?_⟩;obtain ⟨rfl,y⟩:=y;have z:=y vs (SqT.of (g2 _ _ (g1 _ _ h)));rw [ev] at z;cases z;exact ⟨Hs1,.refl g2,rv.mono g1⟩
 stop:=λHs1 H1 g1 g2=>⟨vs,SqT.of (g2 _ _ (g1 _ _ h)),by rw [r.length];exact yW _⟩
instance [sa:SemE te a]:jn (VH K te) (r6 a) where
 h:=λe _ _ _ _ _ rs _ q=>by
  obtain ⟨x,ex,e1⟩:=bind_some e;split at e1
  ·cases e1;refine sa.h ex rs λv Hs1 H1 x1 r1=>?_;obtain ⟨p,vs,rfl,hp,r⟩:=rep_lst.mp r1;exact ⟨p,rfl,⟨vs,SqL.of (x1.s3 _ _ hp)⟩,q _ _ _ x1 (LS hp r)⟩
  ·cases e1
instance [sa:SemE te a]:jn (iTup K te) (Ql a) where
 h:=λe _ _ _ _ _ rs _ q=>by
  obtain ⟨x,ex,e1⟩:=bind_some e;split at e1
  ·cases e1;refine sa.h ex rs λv Hs1 H1 x1 r1=>?_;obtain ⟨p,vs,rfl,hp,r⟩:=rep_tup.mp r1;exact ⟨p,rfl,⟨vs,SqT.of (x1.s3 _ _ hp)⟩,q _ _ _ x1 (LV hp r)⟩
  ·cases e1
def zd (lo:Int)(n:Nat):List PV:=(List.range n).map λ(i:Nat)=> .at (.int (lo+i))
theorem vb :(zd lo n).length=n:=by unfold zd;rw [yZ,uN]
theorem TD {i:Nat}(h:(zd lo n)[i]?=some x):i<n/\x = .at (.int (lo+i)):=by
 have hl:i<n:=by have:=(yC.mp h).1;rw [vb] at this;exact this
 refine ⟨hl,?_⟩;unfold zd at h;rw [yP,List.getElem?_range hl] at h;cases h;rfl
theorem LT :jC (Itr lo n) (zd lo n) Hs where
 go:=λi x Hs1 H1 e g1 g2=>by
  obtain ⟨hl,rfl⟩:=TD e;refine ⟨hl,λv H2 y=>?_⟩;obtain ⟨rfl,rfl⟩:=y;exact ⟨Hs1,.refl g2,rep_at.mpr rfl⟩
 stop:=λHs1 H1 g1 g2=>by show n<=_;rw [vb];exact yW _
def xx (a:MA):MA:=λε=>(a ε).bind λxs=>match xs with
 |[.at (.int j)]=>if -(lim:Int)<=j/\j<=lim then some (zd 0 j.toNat) else none
 |_=>none
instance {a:MA}[sa:xu ta a]:jn (Qu ta) (xx a) where
 h:=λe _ _ _ _ _ rs _ q=>by
  obtain ⟨xs,ex,e1⟩:=bind_some e;split at e1
  ·rename_i j;split at e1
   ·rename_i hl;cases e1;refine sa.h ex rs λvs Hs1 H1 x1 r1=>?_;obtain ⟨v,r,rfl,p1,p2⟩:=reps_cons.mp r1;cases reps_nil.mp p2;cases rep_at.mp p1;have hlim:(lim:Int)=1000000:=rfl;exact ⟨j,rfl,by omega,by omega,q _ _ _ x1 LT⟩
   ·cases e1
  ·cases e1
def o7 (g:MG)(f:MS):List PV->ME->Option Out
 |[],ε=>some (.nx ε)
 |x::xs,ε=>(g x ε).bind λε1=>(f ε1).bind λo=>match o with
  | .nx ε2=>o7 g f xs ε2
  | .ct ε2=>o7 g f xs ε2
  | .bk ε2=>some (.nx ε2)
  | .rt y=>some (.rt y)
def xE (i:MA)(g:MG)(f:MS):MS:=λε=>(i ε).bind λxs=>o7 g f xs ε
theorem OutK.unbase {D:ze}(x:Ext Hs0 H0 Hb H):∀{o:Out},OutK fr Hs0 H0 D o->OutK fr Hb H0 D o
 | .nx _,h=>λHs H σ r=>h _ _ _ (RS.unbase x r)
 | .bk _,h=>λHs H σ r=>h _ _ _ (RS.unbase x r)
 | .ct _,h=>λHs H σ r=>h _ _ _ (RS.unbase x r)
 | .rt _,h=>by
  cases fr with
  |true=>exact λa Hs H e n n' t=>h a Hs H (x.unbase e) n n' t
  |false=>exact λa Hs H e r=>h a Hs H (x.unbase e) r
instance {tb:TS}{i:MA}{g:MG}{f:MS}[si:jn wi i][sg:Qc tg ts g][sf:qd fr tb f]:qd fr (tFor wi tg tb) (xE i g f) where
 h:=λe Hs0 H0 _ _ _ rs D q=>by
  obtain ⟨xs,ex,e1⟩:=bind_some e;refine si.h ex rs λJ Hs1 H1 x1 ok=>?_;have rs1:=rs.go x1;have q1:=OutK.unbase rs1.ext q;refine ⟨λk m σ H=>m=xs.length-k/\k<=xs.length/\∃ Hs ε,RS Hs1 H0 Hs H σ ε/\o7 g f (xs.drop k) ε=some _,⟨xs.length,by simp,ya _,Hs1,_,rs1.rebase,e1⟩,?_⟩;rintro k m σ H ⟨rfl,hk,Hs,ε,r,el⟩;by_cases hlt:k<xs.length
  ·have hd:xs.drop k=xs[k]::xs.drop (k+1):=uD hlt;rw [hd] at el;unfold o7 at el;obtain ⟨ε1,eg,el1⟩:=bind_some el;obtain ⟨o,eo,el2⟩:=bind_some el1;obtain ⟨go,yl⟩:=ok.go k xs[k] Hs H (by simp [hlt]) r.ext.s1 r.ext.s3;refine .inr ⟨go,λσ' H'=>k+1<=xs.length/\∃ Hs ε,RS Hs1 H0 Hs H' σ' ε/\o7 g f (xs.drop (k+1)) ε=some _,λσ' H' p=>⟨xs.length-(k+1),by omega,rfl,p.1,p.2⟩,λv H2 y=>?_⟩;obtain ⟨Hs2,x2,r2⟩:=yl v H2 y;refine sg.h eg (r.go x2) r2 λσ2 rs2 _=>sf.h eo rs2 ?_;cases o with
   |nx ε2=>exact λHs3 H3 σ3 r3=>⟨hlt,Hs3,ε2,r3,el2⟩
   |ct ε2=>exact λHs3 H3 σ3 r3=>⟨hlt,Hs3,ε2,r3,el2⟩
   |bk ε2=>cases el2;exact q1
   |rt y=>cases el2;exact q1
  ·have ek:k=xs.length:=by omega
   subst ek;rw [tT] at el;unfold o7 at el;cases el;exact .inl ⟨ok.stop Hs H r.ext.s1 r.ext.s3,q1 _ _ _ r⟩
def qx (cap:List (Option Nat))(ε:ME):ME:=cap.map λo=>match o with
 |none=> .no
 |some i=>(ε[i]?).getD .no
def zh (g:MG)(c:MB)(f:M)(ε0:ME):List PV->Option (List PV)
 |[]=>some []
 |x::xs=>(g x ε0).bind λε1=>(c ε1).bind λb=>if b=true then (f ε1).bind λy=>(zh g c f ε0 xs).bind λys=>some (y::ys) else zh g c f ε0 xs
def n5:MB:=λ_=>some true
instance:xD tYes n5 where
 h:=λe _ _ _ _ _ rs _ q=>by cases e;exact q _ _ (.refl rs.sub)
def vY (cap:List (Option Nat))(ts:List Nat):Bool:=decide (cap.filterMap id).Nodup&&ts.all λi=>decide (cap[i]?=some none)
def m8 (cap:List (Option Nat))(ts:List Nat)(i:MA)(g:MG)(c:MB)(f:M):M:=λε=>(i ε).bind λxs=>if vY cap ts=true/\xs.length<=lim then (zh g c f (qx cap ε) xs).bind λys=>some (.lst ys) else none
theorem RS.cap {cap:List (Option Nat)}(hc:(cap.filterMap id).Nodup)(r:RS Hs0 H0 Hs H σ ε):RS Hs0 H0 Hs H (i9 cap σ) (qx cap ε):=by
 have inj:∀(i j k:Nat),cap[i]?=some (some k)->cap[j]?=some (some k)->i=j:=by
  clear r
  induction cap with
  |nil=>intro i j k h;simp at h
  |cons o cap ih =>
   intro i j k hi hj;have no:∀(l:Nat),o=some k->cap[l]?=some (some k)->False:=λl ho hl=>by
    subst ho;rw [List.filterMap_cons_some (by rfl)] at hc;exact (yo.mp hc).1 (ue.mpr ⟨some k,yh hl,rfl⟩)
   have hc':(cap.filterMap id).Nodup:=by
    cases o with
    |none=>rwa [List.filterMap_cons_none (by rfl)] at hc
    |some m=>rw [List.filterMap_cons_some (by rfl)] at hc;exact (yo.mp hc).2
   cases i with
   |zero =>
    cases j with
    |zero=>rfl
    |succ j=>exact (no j (by simpa using hi) (by simpa using hj)).elim
   |succ i =>
    cases j with
    |zero=>exact (no i (by simpa using hj) (by simpa using hi)).elim
    |succ j=>rw [ih hc' i j k (by simpa using hi) (by simpa using hj)]
 have at1:∀(i:Nat)(sl:MSlot),(qx cap ε)[i]?=some sl->sl = .no∨∃ k,cap[i]?=some (some k)/\ε[k]?=some sl:=by
  intro i sl h;unfold qx at h;rw [yP] at h;cases ho:cap[i]? with
  |none=>rw [ho] at h;cases h
  |some o =>
   rw [ho] at h;cases o with
   |none=>cases h;exact .inl rfl
   |some k =>
    cases hk:ε[k]? with
    |none=>simp only [uM,hk,tV] at h;cases h;exact .inl rfl
    |some s=>simp only [uM,hk,Option.getD_some] at h;cases h;exact .inr ⟨k,rfl,hk⟩
 have at2:∀(i k:Nat),cap[i]?=some (some k)->∀ v,σ[k]?=some (some v)->(i9 cap σ)[i]?=some (some v):=by intro i k h v e;unfold i9;rw [yP,h];simp [e]
 have at3:∀(i k:Nat)(v:V),cap[i]?=some (some k)->(i9 cap σ)[i]?=some (some v)->σ[k]?=some (some v):=by
  intro i k v h e;unfold i9 at e;rw [yP,h] at e;simp only [uM,yG,Option.some.injEq] at e;cases hs:σ[k]? with
  |none=>rw [hs] at e;cases e
  |some o=>rw [hs] at e;simp at e;rw [e]
 refine ⟨r.ext,λi x h=>?_,λi x h=>?_,λi j x y a h1 h2 h3 h4=>?_,by unfold i9 qx;rw [yZ,yZ],λi x h=>?_⟩
 ·rcases at1 i _ h with z|⟨k,hk,e⟩
  ·cases z
  ·obtain ⟨v,hv,rv⟩:=r.sh k x e;exact ⟨v,at2 i k hk v hv,rv⟩
 ·rcases at1 i _ h with z|⟨k,hk,e⟩
  ·cases z
  ·obtain ⟨v,hv,rv⟩:=r.ow k x e;exact ⟨v,at2 i k hk _ hv,rv⟩
 ·rcases at1 i _ h1 with z|⟨k,hk,e⟩
  ·cases z
  ·rcases at1 j _ h2 with z|⟨l,hl,e'⟩
   ·cases z
   ·have kl:=r.nd k l x y a e e' (at3 i k _ hk h3) (at3 j l _ hl h4);subst kl;exact inj i j k hk hl
 ·rcases at1 i _ h with z|⟨k,hk,e⟩
  ·cases z
  ·obtain ⟨v,hv,rv⟩:=r.bo k x e;exact ⟨v,at2 i k hk _ hv,rv⟩
theorem Reps.snoc (r:Reps H xs vs)(p:Rep H x v):Reps H (xs++[x]) (vs++[v]):=r.append (.one p)
instance {tt:TT}{cap:List (Option Nat)}{i:MA}{g:MG}{f:M}[si:jn wi i][sg:Qc tg ts g][sc:xD tt c][sf:SemE te f]:zf (JJ wi tg tt te cap) (m8 cap ts i g c f) where
 h:=λe Hs0 H0 Hs H σ rs Q q=>by
  obtain ⟨xs,ex,e1⟩:=bind_some e;split at e1
  ·rename_i hcl;obtain ⟨hcap,hl⟩:=hcl;unfold vY at hcap;rw [yi] at hcap;obtain ⟨ys,ey,e2⟩:=bind_some e1;cases e2;refine si.h ex rs λJ Hs1 H1 x1 ok=>?_;have rc:=((rs.go x1).cap (uV hcap.1)).rebase;have wk:∀ i∈ts,(i9 cap σ)[i]?=some none:=λi hi=>by
    unfold i9;rw [yP,uV (uE.mp hcap.2 i hi)];rfl
   refine ⟨λk m zs H=>m=xs.length-k/\k<=xs.length/\∃ Hs2 ws,Ext Hs1 H1 Hs2 H/\RS Hs1 H0 Hs2 H (i9 cap σ) (qx cap _)/\Reps Hs2 ws zs/\ws.length<=k/\∃ rest,zh g c f (qx cap _) (xs.drop k)=some rest/\ys=ws++rest,
    ⟨xs.length,by simp,ya _,Hs1,[],.refl x1.s3,rc,.nil,yW _,ys,ey,rfl⟩,?_⟩
   rintro k m zs H2 ⟨rfl,hk,Hs2,ws,x2,r2,rz,hw,rest,er,eys⟩;refine ⟨zl (by rw [rz.length];omega),?_⟩;by_cases hlt:k<xs.length
   ·have hd:xs.drop k=xs[k]::xs.drop (k+1):=uD hlt;rw [hd] at er;unfold zh at er;obtain ⟨ε1,eg,er1⟩:=bind_some er;obtain ⟨b,eb,er2⟩:=bind_some er1;obtain ⟨go,yl⟩:=ok.go k xs[k] Hs2 H2 (by simp [hlt]) x2.s1 x2.s3;refine .inr ⟨go,λv H3 y=>?_⟩;obtain ⟨Hs3,x3,r3⟩:=yl v H3 y;refine sg.h eg (r2.go x3) r3 λσ2 rs2 bt=>⟨bt.wk wk,sc.h eb rs2 λHs4 H4 x4=>?_⟩;cases b with
    |true =>
     rw [if_pos rfl] at er2;obtain ⟨z,ez,er3⟩:=bind_some er2;obtain ⟨rest',er4,er5⟩:=bind_some er3;cases er5;refine zT (sf.h ez (rs2.go x4) λu Hs5 H5 x5 r5=>⟨xs.length-(k+1),by omega,rfl,hlt,Hs5,ws++[z],x2.trans (x3.trans (x4.trans x5)),((r2.go x3).go x4).go x5,?_,?_,rest',er4,?_⟩)
     ·exact (rz.mono (x3.s1.trans (x4.s1.trans x5.s1))).snoc r5
     ·rw [yM];simp;omega
     ·rw [uS];exact eys
    |false=>rw [if_neg yS] at er2;exact zS ⟨xs.length-(k+1),by omega,rfl,hlt,Hs4,ws,x2.trans (x3.trans x4),(r2.go x3).go x4,rz.mono (x3.s1.trans x4.s1),by omega,rest,er2,eys⟩
   ·have ek:k=xs.length:=by omega
    subst ek;rw [tT] at er;unfold zh at er;cases er;refine .inl ⟨ok.stop Hs2 H2 x2.s1 x2.s3,λD hD=>?_⟩;rw [yp] at eys;subst eys;have x12:=x1.trans x2;exact q D Hs2 _ (x12.trans (.newO x2.s3 hD)) (x12.s2.free hD) (x2.s3.free hD) ⟨zs,g8,rz⟩
  ·cases e1
def c5 (n k:Nat)(f:MS):List PV->Option PV:=λxs=>if xs.length=k then (f (xs.map .sh++List.replicate (n-k) .no)).bind λo=>match o with
 | .rt y=>some y
 | .nx _=>some (.at .non)
 |_=>none else none
def qy (n k:Nat)(f:MS):List PV->Option PV:=λxs=>if xs.length=k then (f (xs.map .sh++List.replicate (n-k) .no)).bind λo=>match o with
 | .rt y=>some y
 |_=>none else none
end Mi
namespace Mi
open PySem PySem.Spec PyProof.Rows L2
variable{N ps:List Str}{qual x:Str}{st:Stmt}{f:Addr}{fd:FuncData}{b:MS}{m:List PV->Option PV}
theorem vL {Hs H:Hp}{xs:List PV}{vs:List V}(s:Same Hs H)(r:Reps Hs xs vs):RS Hs H Hs H (L2.start N vs) (xs.map .sh++List.replicate (N.length-xs.length) .no):=by
 have el:=r.length;have at1:∀(i:Nat)(sl:MSlot),(xs.map MSlot.sh++List.replicate (N.length-xs.length) .no)[i]?=some sl->sl = .no∨∃ x,xs[i]?=some x/\sl = .sh x:=by
  intro i sl h;by_cases hi:i<xs.length
  ·rw [yc (by rw [yZ];exact hi),yP] at h;obtain ⟨x,hx,rfl⟩:=yN.mp h;exact .inr ⟨x,hx,rfl⟩
  ·rw [ym (by rw [yZ];omega),ug] at h;split at h
   ·cases h;exact .inl rfl
   ·cases h
 refine ⟨.refl s,λi x h=>?_,λi x h=>?_,λi j x y a h1 _ _ _=>?_,?_,λi x h=>?_⟩
 ·rcases at1 i _ h with z|⟨y,hy,z⟩
  ·cases z
  ·cases z;obtain ⟨v,hv,rv⟩:=r.get hy;refine ⟨v,?_,rv⟩;unfold L2.start;rw [yc (by rw [yZ];exact (yC.mp hv).1),yP,hv];rfl
 ·rcases at1 i _ h with z|⟨y,hy,z⟩<;>cases z
 ·rcases at1 i _ h1 with z|⟨y,hy,z⟩<;>cases z
 ·unfold L2.start;rw [yM,yM,yZ,yZ,tZ,tZ,el]
 ·rcases at1 i _ h with z|⟨y,hy,z⟩<;>cases z
section
variable {P:Program}{w:World}{K:Fg}{mg:Str->Option Value}{base:Heap}
theorem i4 {k:Nat}(F:Fun K x qual st f fd)(S:y6 N ps (j9 st))(hm:m=c5 N.length ps.length b)(hb:∀(cdv:Value)(A:Around)(outer:List Env)(s:Shared)(H:Hp)(E:XK),Room k (A.deeper (envOfC qual (j9 st) s.heap.objs.size f cdv)) -> ∃ t,PSs (xN v9 P w K mg base N qual (j9 st) f cdv A outer s H E).nox (qz st) t/\qd false t b):FnOk P w K mg base v9 (k+1) f fd ps (v7 m):=by
 subst hm;refine F.ok S (λvs H Q E h=>?_) (λcdv A outer s H vs Q E hr h=>?_)
 ·obtain ⟨Hs,xs,y,_,r,e,_⟩:=h;unfold c5 at e;split at e
  ·rename_i hl;rw [r.length];exact hl
  ·cases e
 ·obtain ⟨Hs,xs,y,sm,r,e,q⟩:=h;obtain ⟨t,ht,sem⟩:=hb cdv A outer s H E hr;refine ⟨t,ht,?_⟩;unfold c5 at e;split at e
  ·rename_i hl;obtain ⟨o,eo,e1⟩:=bind_some e;refine sem.h eo (by rw [<- hl];exact vL sm r) ?_;cases o with
   |rt z=>cases e1;exact λv Hs' H' x rv=>q v Hs' H' x rv
   |nx ε=>cases e1;exact λHs' H' σ rs=>q _ Hs' H' rs.ext (rep_at.mpr rfl)
   |bk ε=>cases e1
   |ct ε=>cases e1
  ·cases e
theorem okO {k:Nat}(F:Fun K x qual st f fd)(S:y6 N ps (j9 st))(hm:m=qy N.length ps.length b)(hb:∀(cdv:Value)(A:Around)(outer:List Env)(s:Shared)(H:Hp)(E:XK),Room k (A.deeper (envOfC qual (j9 st) s.heap.objs.size f cdv)) -> ∃ t,PSs (xN v9 P w K mg base N qual (j9 st) f cdv A outer s H E).nox (qz st) t/\qd true t b):FnOk P w K mg base v9 (k+1) f fd ps (p8 m):=by
 subst hm;refine F.ok S (λvs H Q E h=>?_) (λcdv A outer s H vs Q E hr h=>?_)
 ·obtain ⟨Hs,xs,y,_,r,e,_⟩:=h;unfold qy at e;split at e
  ·rename_i hl;rw [r.length];exact hl
  ·cases e
 ·obtain ⟨Hs,xs,y,sm,r,e,q⟩:=h;obtain ⟨t,ht,sem⟩:=hb cdv A outer s H E hr;refine ⟨t,ht,?_⟩;unfold qy at e;split at e
  ·rename_i hl;obtain ⟨o,eo,e1⟩:=bind_some e;refine sem.h eo (by rw [<- hl];exact vL sm r) ?_;cases o with
   |rt z=>cases e1;exact λa Hs' H' x n n' t=>q a Hs' H' x n n' t
   |nx ε=>cases e1
   |bk ε=>cases e1
   |ct ε=>cases e1
  ·cases e
end
end Mi
namespace Mi
open PySem L2
variable{X:Cx}{K:Fg}{ta:TA}{j:Int}{H H0 Hs Hs0:Hp}{xs ys:List PV}{x y:PV}{v:V}{td te tv ty:TE}{vs ws:List V}{l u:ME->Option (Option Int)}{o:HO}{f nm qual:Str}{tt:TT}{t tb:TS}{S:List Addr}{σ σ':St}{ε ε':ME}{n:Nat}{E:XK}{pre:List PV->Prop}{R:List PV->PV->Prop}{as it:MA}{c:MB}{wi:TI}{tg:TG}{ts:List Nat}{N ns ps:List Str}{st:Stmt}{fd:FuncData}{G:MG}{m:List PV->Option PV}{C:Addr}{e:Expr}{pos:Pos}{pl:Sem Bool}{kvs:List (j6×V)}{α:Type}{sp:Sp}
theorem qD {a:Expr}{ta:TE}(h:X.K=K)(ha:PE X a ta)(he:∀ whole,isTrue a X.env whole=(do let v <- whole;standAt a.pos;holding [v] (truthy v))):PT X a (tTru K ta):=Tg h ha he
abbrev vF:PV->PV->Option PV:=pI λi j=>some (.int (i-j))
abbrev pLt:PV->PV->Option PV:=pI λi j=>some (.bl (decide (i<j)))
abbrev pLe:PV->PV->Option PV:=pI λi j=>some (.bl (decide (i<=j)))
abbrev pGt:PV->PV->Option PV:=pI λi j=>some (.bl (decide (j<i)))
abbrev pGe:PV->PV->Option PV:=pI λi j=>some (.bl (decide (j<=i)))
instance {i:Int}:Decidable (jk i j):=by unfold jk;infer_instance
instance {i:Int}:Decidable (vf i j):=by unfold vf;infer_instance
instance {i:Int}:Decidable (vg i j):=by unfold vg;infer_instance
abbrev zG:PV->PV->Option PV:=pI λi j=>if jk i j then some (.int (i*j)) else none
abbrev pDiv:PV->PV->Option PV:=pI λi j=>if vf i j then some (.int (i / j)) else none
abbrev pPow:PV->PV->Option PV:=pI λi j=>if vg i j then some (.int (i ^ j.toNat)) else none
abbrev pNeg:PV->Option PV:=pU λi=> .int (-i)
theorem Reps.nil_of (r:Reps H xs []):xs=[]:=uy.mp r.length.symm
def o6:PV->PV->Option PV
 | .at (.int i),.at (.int j)=>some (.at (.int (i+j)))
 | .at (.str x),.at (.str y)=>if x.length+y.length<=lim then some (.at (.str (x++y))) else none
 | .lst xs,.lst ys=>if xs.length+ys.length<=lim then some (.lst (xs++ys)) else none
 | .tup xs,.tup ys=>if xs≠[]/\xs.length+ys.length<=lim then some (.tup (xs++ys)) else none
 |_,_=>none
instance :xT (Pm K) o6 where
 h:=λ{x y z} e {Hs H v w} s a b {Q} q=>by
  unfold o6 at e;split at e
  ·cases e;exact .inl ⟨_,_,c8 a,c8 b,q _ _ _ (.refl s) (rep_at.mpr rfl)⟩
  ·split at e
   ·rename_i hl;cases e;exact .inr (.inl ⟨_,_,c8 a,c8 b,zl hl,q _ _ _ (.refl s) (rep_at.mpr rfl)⟩)
   ·cases e
  ·split at e
   ·rename_i hl;cases e;obtain ⟨p,vs,rfl,e1,r1⟩:=qE s a;obtain ⟨p',ws,rfl,e2,r2⟩:=qE s b;refine .inr (.inr (.inl ⟨p,p',vs,ws,rfl,rfl,SqL.of e1,SqL.of e2,zl (by rw [r1.length,r2.length];exact hl),λl hl=>?_⟩));exact q _ _ _ (.new s hl) (rep_lst.mpr ⟨l,_,rfl,g8,(r1.append r2).mono (Ext.new s hl).s1⟩)
   ·cases e
  ·split at e
   ·rename_i hl;cases e;obtain ⟨p,vs,rfl,e1,r1⟩:=xA s a;obtain ⟨p',ws,rfl,e2,r2⟩:=xA s b;have hn:vs≠[]:=λz=>by
     have h1:=r1.length;rw [z] at h1;exact hl.1 (uy.mp h1.symm)
    refine .inr (.inr (.inr ⟨p,p',vs,ws,rfl,rfl,SqT.of e1,SqT.of e2,hn,zl (by rw [r1.length,r2.length];exact hl.2),λz=>?_,λz l hl=>?_⟩))
    ·subst z;cases r2.nil_of;rw [yp] at q;rcases a with a|⟨_,_,_,t⟩
     ·exact q _ _ _ (.refl s) a
     ·exact t.elim
    ·exact q _ _ _ (.new s hl) (rep_tup.mpr ⟨l,_,rfl,g8,(r1.append r2).mono (Ext.new s hl).s1⟩)
   ·cases e
  ·cases e
def o9:List PV->Option PV
 |[.at (.str x)]=>if x.length<=lim then some (.at (.int x.length)) else none
 |[.lst xs]=>some (.at (.int xs.length))
 |[.tup xs]=>some (.at (.int xs.length))
 |[.dk ks _]=>some (.at (.int ks.length))
 |_=>none
instance :Qb (QT K) o9 where
 h:=λ{xs z} e {Hs H vs} s r {Q} q=>by
  unfold o9 at e;split at e
  ·split at e
   ·rename_i hl;cases e;obtain ⟨v,rfl,a⟩:=zt r;cases c8 a;exact .inl ⟨_,_,rfl,⟨zl hl,rfl⟩,q _ _ _ (.refl s) (rep_at.mpr rfl)⟩
   ·cases e
  ·cases e;obtain ⟨v,rfl,a⟩:=zt r;obtain ⟨p,ws,rfl,e1,r1⟩:=qE s a;exact .inl ⟨_,_,rfl,.inl ⟨ws,SqL.of e1,rfl⟩,q _ _ _ (.refl s) (rep_at.mpr (by rw [r1.length]))⟩
  ·cases e;obtain ⟨v,rfl,a⟩:=zt r;obtain ⟨p,ws,rfl,e1,r1⟩:=xA s a;exact .inl ⟨_,_,rfl,.inr ⟨ws,SqT.of e1,rfl⟩,q _ _ _ (.refl s) (rep_at.mpr (by rw [r1.length]))⟩
  ·cases e;obtain ⟨v,rfl,a⟩:=zt r;obtain ⟨p,kvs,rfl,e1,k,r1⟩:=vK s a;exact .inr ⟨p,kvs,rfl,e1,q _ _ _ (.refl s) (rep_at.mpr (by rw [<- k,yZ]))⟩
  ·cases e
def zF:List PV->Option PV
 |[.lst xs]=>some (.lst xs)
 |[.tup xs]=>some (.lst xs)
 |_=>none
instance :JU (Px K) zF where
 h:=λ{xs z} e {Hs H vs} s r {Q} q=>by
  unfold zF at e;split at e
  ·cases e;obtain ⟨v,rfl,a⟩:=zt r;obtain ⟨p,ws,rfl,e1,r1⟩:=qE s a;exact ⟨p,ws,rfl,.inl (SqL.of e1),λl hl=>q l _ _ (.newO s hl) hl (s.free hl) ⟨ws,g8,r1⟩⟩
  ·cases e;obtain ⟨v,rfl,a⟩:=zt r;obtain ⟨p,ws,rfl,e1,r1⟩:=xA s a;exact ⟨p,ws,rfl,.inr (SqT.of e1),λl hl=>q l _ _ (.newO s hl) hl (s.free hl) ⟨ws,g8,r1⟩⟩
  ·cases e
def tyP:PV->Option String
 | .at .non=>some "NoneType"
 | .at (.bl _)=>some "bool"
 | .at (.int _)=>some "int"
 | .at (.str _)=>some "str"
 | .lst _=>some "list"
 | .tup _=>some "tuple"
 | .dk _ _=>some "dict"
 |_=>none
theorem Iv {T:String}(s:Same Hs H)(r:RepB Hs H x v)(e:tyP x=some T):xU K H v (.type T):=by
 unfold tyP at e;split at e
 ·cases e;cases c8 r;exact .non
 ·cases e;cases c8 r;exact .bl _
 ·cases e;cases c8 r;exact .int _
 ·cases e;cases c8 r;exact .str _
 ·cases e;obtain ⟨p,ws,rfl,e1,r1⟩:=qE s r;exact .lst e1
 ·cases e;obtain ⟨p,ws,rfl,e1,r1⟩:=xA s r;exact .tup e1
 ·cases e;obtain ⟨p,ws,rfl,e1,_⟩:=vK s r;exact .dK e1
 ·cases e
def qr:List PV->Option PV
 |[x,.at (.ty n)]=>(tyP x).bind λT=>(tyB T n).bind λb=>some (.at (.bl b))
 |_=>none
instance :Qb (rIsi K) qr where
 h:=λ{xs z} e {Hs H vs} s r {Q} q=>by
  unfold qr at e;split at e
  ·obtain ⟨T,eT,e1⟩:=bind_some e;obtain ⟨b,eb,e2⟩:=bind_some e1;cases e2;obtain ⟨v,w,rfl,a,c⟩:=Tx r;cases c8 c;exact ⟨v,_,T,b,rfl,Iv s a eT,eb,q _ _ _ (.refl s) (rep_at.mpr rfl)⟩
  ·cases e
def bls:List PV->Option (List Bool)
 |[]=>some []
 | .at (.bl b)::xs=>(bls xs).map (b::·)
 |_::_=>none
theorem GW:∀{xs:List PV}{bs:List Bool},bls xs=some bs->xs=bs.map λb=> .at (.bl b)
 |[],_,h=>by cases h;rfl
 |x::xs,bs,h=>by
  unfold bls at h;split at h
  ·rename_i heq;cases heq
  ·rename_i b ys heq;injection heq with h1 h2;obtain ⟨r,e,rfl⟩:=yN.mp h;subst h2;rw [h1,yO,GW e]
  ·cases h
def vp:List PV->Option (List Int)
 |[]=>some []
 | .at (.int b)::xs=>(vp xs).map (b::·)
 |_::_=>none
theorem Bg:∀{xs:List PV}{bs:List Int},vp xs=some bs->xs=bs.map λb=> .at (.int b)
 |[],_,h=>by cases h;rfl
 |x::xs,bs,h=>by
  unfold vp at h;split at h
  ·rename_i heq;cases heq
  ·rename_i b ys heq;injection heq with h1 h2;obtain ⟨r,e,rfl⟩:=yN.mp h;subst h2;rw [h1,yO,Bg e]
  ·cases h
def za:List PV->Option PV
 |[.lst xs]=>(bls xs).bind λbs=>some (.at (.bl (bs.all id)))
 |_=>none
instance :Qb (Pn K) za where
 h:=λ{xs z} e {Hs H vs} s r {Q} q=>by
  unfold za at e;split at e
  ·obtain ⟨bs,eb,e1⟩:=bind_some e;cases e1;obtain ⟨v,rfl,a⟩:=zt r;obtain ⟨p,ws,rfl,e1,r1⟩:=qE s a;rw [GW eb,show (bs.map λb=>PV.at (.bl b))=(bs.map V.bl).map .at by rw [yt];rfl] at r1;cases r1.ats;exact ⟨p,bs,rfl,SqL.of e1,q _ _ _ (.refl s) (rep_at.mpr rfl)⟩
  ·cases e
def XU:List PV->Option PV
 |[.lst xs]=>(vp xs).bind λbs=>some (.at (.int bs.sum))
 |_=>none
instance :Qb (PD K) XU where
 h:=λ{xs z} e {Hs H vs} s r {Q} q=>by
  unfold XU at e;split at e
  ·obtain ⟨bs,eb,e1⟩:=bind_some e;cases e1;obtain ⟨v,rfl,a⟩:=zt r;obtain ⟨p,ws,rfl,e1,r1⟩:=qE s a;rw [Bg eb,show (bs.map λb=>PV.at (.int b))=(bs.map V.int).map .at by rw [yt];rfl] at r1;cases r1.ats;exact ⟨p,bs,rfl,SqL.of e1,q _ _ _ (.refl s) (rep_at.mpr rfl)⟩
  ·cases e
def we:PV->Bool
 | .at .non=>true
 |_=>false
def Xu:PV->Bool
 | .op _=>true
 |_=>false
def XT:PV->PV->Option PV:=λx y=>if we y=true/\Xu x=false then some (.at (.bl (we x))) else none
def wB:PV->PV->Option PV:=λx y=>if we y=true/\Xu x=false then some (.at (.bl (!we x))) else none
theorem ZX (s:Same Hs H)(r:RepB Hs H x v)(ho:Xu x=false):decide (v = .non)=we x:=by
 cases x with
 |«at» u=>cases c8 r;cases v<;>first|rfl|(exact yK (λz=>nomatch z))
 |tup xs=>obtain ⟨p,ws,rfl,_⟩:=xA s r;exact yK (λz=>nomatch z)
 |lst xs=>obtain ⟨p,ws,rfl,_⟩:=qE s r;exact yK (λz=>nomatch z)
 |dk ks xs=>obtain ⟨p,ws,rfl,_⟩:=vK s r;exact yK (λz=>nomatch z)
 |fk ks xs=>obtain ⟨p,o,ws,rfl,_⟩:=Zd s r;exact yK (λz=>nomatch z)
 |ob C ns xs=>obtain ⟨p,dx,ws,rfl,_⟩:=PP s r;exact yK (λz=>nomatch z)
 |op φ=>cases ho
instance:xT rIsN XT where
 h:=λ{x y z} e {Hs H v w} s a b {Q} q=>by
  unfold XT at e;split at e
  ·rename_i hy;cases e;have hb:Xu y=false:=by cases y<;>first|rfl|(exact absurd hy.1 (by simp [we]))
   refine ⟨uV ((ZX s b hb).trans hy.1),?_⟩;rw [ZX s a hy.2];exact q _ _ _ (.refl s) (rep_at.mpr rfl)
  ·cases e
instance:xT Py wB where
 h:=λ{x y z} e {Hs H v w} s a b {Q} q=>by
  unfold wB at e;split at e
  ·rename_i hy;cases e;have hb:Xu y=false:=by cases y<;>first|rfl|(exact absurd hy.1 (by simp [we]))
   refine ⟨uV ((ZX s b hb).trans hy.1),?_⟩;rw [ZX s a hy.2];exact q _ _ _ (.refl s) (rep_at.mpr rfl)
  ·cases e
def jb (f:PV->PV->Option Bool):List PV->List PV->Option Bool
 |x::xs,y::ys=>(f x y).bind λa=>(jb f xs ys).bind λb=>some (a&&b)
 |_,_=>some true
def peq0:PV->PV->Option Bool
 | .at u,.at v=>if k6 u=true/\k6 v=true then some (qo u v) else none
 |_,_=>none
def peq1 (f:PV->PV->Option Bool):PV->PV->Option Bool
 | .at u,.at v=>if k6 u=true/\k6 v=true then some (qo u v) else none
 | .lst xs,.lst ys=>if xs.length=ys.length then jb f xs ys else some false
 | .tup xs,.tup ys=>(jb f xs ys).bind λb=>some (b&&xs.length==ys.length)
 | .lst _,.tup _=>some false
 | .tup _,.lst _=>some false
 | .at u,.lst _=>if k6 u=true then some false else none
 | .at u,.tup _=>if k6 u=true then some false else none
 | .lst _,.at u=>if k6 u=true then some false else none
 | .tup _,.at u=>if k6 u=true then some false else none
 |_,_=>none
def peq:Nat->PV->PV->Option Bool
 |0=>peq0
 |n+1=>peq1 (peq n)
theorem Ws {K:Fg}{Hs H:Hp}{n:Nat}(s:Same Hs H)(ih:∀{x y:PV}{v w:V}{b:Bool},peq n x y=some b->Rep Hs x v->Rep Hs y w->EqP K H n v w b):∀{xs ys:List PV}{vs ws:List V}{b:Bool},jb (peq n) xs ys=some b->Reps Hs xs vs->Reps Hs ys ws->∃ e:Nat->Bool,(∀ j (h1:j<vs.length) (h2:j<ws.length),EqP K H n vs[j] ws[j] (e j))/\b=(List.range (min vs.length ws.length)).all e
 |[],ys,vs,ws,b,h,r1,r2=>by
  cases reps_nil.mp r1;unfold jb at h;cases h;exact ⟨λ_=>true,λj h1=>absurd h1 (uB _),by simp⟩
 |x::xs,[],vs,ws,b,h,r1,r2=>by
  cases reps_nil.mp r2;unfold jb at h;cases h;exact ⟨λ_=>true,λj h1 h2=>absurd h2 (uB _),by simp⟩
 |x::xs,y::ys,vs,ws,b,h,r1,r2=>by
  obtain ⟨v,vr,rfl,p1,q1⟩:=reps_cons.mp r1;obtain ⟨w,wr,rfl,p2,q2⟩:=reps_cons.mp r2;unfold jb at h;obtain ⟨a,ea,h1⟩:=bind_some h;obtain ⟨c,ec,h2⟩:=bind_some h1;cases h2;obtain ⟨e,he,hb⟩:=Ws s ih ec q1 q2;refine ⟨λj=>match j with|0=>a|j+1=>e j,λj h1 h2=>?_,?_⟩
  ·cases j with
   |zero=>exact ih ea p1 p2
   |succ j=>exact he j (by simpa using h1) (by simpa using h2)
  ·rw [yE,yE,Nat.succ_min_succ,List.range_succ_eq_map,List.all_cons,List.all_map,hb];rfl
theorem Wr {K:Fg}{Hs H:Hp}(s:Same Hs H):∀(n:Nat){x y:PV}{v w:V}{b:Bool},peq n x y=some b->RepB Hs H x v->RepB Hs H y w->EqP K H n v w b
 |0,x,y,v,w,b,h,r1,r2=>by
  unfold peq peq0 at h;split at h
  ·split at h
   ·rename_i hf;cases h;cases c8 r1;cases c8 r2;exact ⟨hf.1,hf.2,rfl⟩
   ·cases h
  ·cases h
 |n+1,x,y,v,w,b,h,r1,r2=>by
  have ih:∀{x y:PV}{v w:V}{b:Bool},peq n x y=some b->Rep Hs x v->Rep Hs y w->EqP K H n v w b:=λh r1 r2=>Wr s n h (.inl r1) (.inl r2);unfold peq peq1 at h;split at h
  ·split at h
   ·rename_i hf;cases h;cases c8 r1;cases c8 r2;exact .inl ⟨hf.1,hf.2,rfl⟩
   ·cases h
  ·obtain ⟨a,vs,rfl,e1,q1⟩:=qE s r1;obtain ⟨c,ws,rfl,e2,q2⟩:=qE s r2;refine .inr (.inl ⟨a,c,vs,ws,rfl,rfl,SqL.of e1,SqL.of e2,?_⟩);split at h
   ·rename_i hl;obtain ⟨e,he,hb⟩:=Ws s ih h q1 q2;have hl':vs.length=ws.length:=by rw [q1.length,q2.length,hl]
    exact .inr ⟨hl',e,he,by rw [hb,<- hl',Nat.min_self]⟩
   ·rename_i hl;cases h;exact .inl ⟨by rw [q1.length,q2.length];exact hl,rfl⟩
  ·obtain ⟨a,vs,rfl,e1,q1⟩:=xA s r1;obtain ⟨c,ws,rfl,e2,q2⟩:=xA s r2;obtain ⟨d,ed,h1⟩:=bind_some h;cases h1;obtain ⟨e,he,hb⟩:=Ws s ih ed q1 q2;exact .inr (.inr (.inl ⟨a,c,vs,ws,rfl,rfl,SqT.of e1,SqT.of e2,e,he,by rw [hb,q1.length,q2.length]⟩))
  ·cases h;obtain ⟨a,vs,rfl,e1,q1⟩:=qE s r1;obtain ⟨c,ws,rfl,e2,q2⟩:=xA s r2;exact .inr (.inr (.inr (.inl ⟨a,c,vs,ws,rfl,rfl,SqL.of e1,SqT.of e2,rfl⟩)))
  ·cases h;obtain ⟨a,vs,rfl,e1,q1⟩:=xA s r1;obtain ⟨c,ws,rfl,e2,q2⟩:=qE s r2;exact .inr (.inr (.inr (.inr (.inl ⟨a,c,vs,ws,rfl,rfl,SqT.of e1,SqL.of e2,rfl⟩))))
  ·split at h
   ·rename_i hf;cases h;cases c8 r1;obtain ⟨c,ws,rfl,e2,q2⟩:=qE s r2;exact .inr (.inr (.inr (.inr (.inr (.inl ⟨c,ws,hf,rfl,.inl (SqL.of e2),rfl⟩)))))
   ·cases h
  ·split at h
   ·rename_i hf;cases h;cases c8 r1;obtain ⟨c,ws,rfl,e2,q2⟩:=xA s r2;exact .inr (.inr (.inr (.inr (.inr (.inl ⟨c,ws,hf,rfl,.inr (SqT.of e2),rfl⟩)))))
   ·cases h
  ·split at h
   ·rename_i hf;cases h;cases c8 r2;obtain ⟨c,ws,rfl,e2,q2⟩:=qE s r1;exact .inr (.inr (.inr (.inr (.inr (.inr ⟨c,ws,hf,rfl,.inl (SqL.of e2),rfl⟩)))))
   ·cases h
  ·split at h
   ·rename_i hf;cases h;cases c8 r2;obtain ⟨c,ws,rfl,e2,q2⟩:=xA s r1;exact .inr (.inr (.inr (.inr (.inr (.inr ⟨c,ws,hf,rfl,.inr (SqT.of e2),rfl⟩)))))
   ·cases h
  ·cases h
def qK:PV->PV->Option PV:=λx y=>(peq 6 x y).bind λb=>some (.at (.bl b))
def qL:PV->PV->Option PV:=λx y=>(peq 6 x y).bind λb=>some (.at (.bl (!b)))
instance :xT (rEqD K 6 false) qK where
 h:=λ{x y z} e {Hs H v w} s a b {Q} q=>by
  obtain ⟨c,ec,e1⟩:=bind_some e;cases e1;exact ⟨c,Wr s 6 ec a b,q _ _ _ (.refl s) (rep_at.mpr rfl)⟩
instance :xT (rEqD K 6 true) qL where
 h:=λ{x y z} e {Hs H v w} s a b {Q} q=>by
  obtain ⟨c,ec,e1⟩:=bind_some e;cases e1;exact ⟨c,Wr s 6 ec a b,q _ _ _ (.refl s) (rep_at.mpr rfl)⟩
class Qe (to:TO)(f:ME->Option (Option Int)):Prop where
 h:∀{ε y},f ε=some y->∀{Hs0 H0 Hs H σ},RS Hs0 H0 Hs H σ ε->∀{Q:Option Int->Hp->Prop},(∀ Hs' H',Ext Hs H Hs' H'->Q y H')->to σ H Q
def pNo:ME->Option (Option Int):=λ_=>some none
def pInt:PV->Option Int
 | .at (.int i)=>some i
 |_=>none
def pSo (a:M):ME->Option (Option Int):=λε=>(a ε).bind λx=>(pInt x).bind λi=>some (some i)
instance:Qe CD pNo where
 h:=λe _ _ _ _ _ rs _ q=>by cases e;exact q _ _ (.refl rs.sub)
instance {a:M}[sa:qc te a]:Qe (CG te) (pSo a) where
 h:=λe _ _ _ _ _ rs _ q=>by
  obtain ⟨x,ex,e1⟩:=bind_some e;obtain ⟨i,ei,e2⟩:=bind_some e1;cases e2;unfold pInt at ei;split at ei
  ·cases ei;exact sa.h ex rs λv Hs1 H1 x1 r1=>⟨_,c8 r1,q _ _ x1⟩
  ·cases ei
def zP (xs:List PV)(lo hi:Option Int):List PV:=(xs.drop (HT.sIx xs.length 0 lo)).take (HT.sIx xs.length xs.length hi-HT.sIx xs.length 0 lo)
theorem Reps.cut (r:Reps H xs vs)(lo hi:Option Int):Reps H (zP xs lo hi) (Qi vs lo hi):=by unfold zP Qi;rw [r.length];exact (r.drop _).take _
def jI (a:M)(l u:ME->Option (Option Int)):M:=λε=>(a ε).bind λx=>(l ε).bind λlo=>(u ε).bind λhi=>match x with
 | .lst xs=>some (.lst (zP xs lo hi))
 |_=>none
instance {tl th:TO}{a:M}[sa:qc te a][sl:Qe tl l][su:Qe th u]:zf (tSl (rSlL K) te tl th) (jI a l u) where
 h:=λe _ _ _ _ _ rs _ q=>by
  obtain ⟨x,ex,e1⟩:=bind_some e;obtain ⟨lo,el,e2⟩:=bind_some e1;obtain ⟨hi,eu,e3⟩:=bind_some e2;split at e3
  ·cases e3;refine sa.h ex rs λv Hs1 H1 x1 r1=>sl.h el (rs.go x1) λHs2 H2 x2=>su.h eu ((rs.go x1).go x2) λHs3 H3 x3=>?_;obtain ⟨p,vs,rfl,e1,r⟩:=qE x3.s3 ((r1.ext x2).ext x3);have x13:=x1.trans (x2.trans x3);exact ⟨p,vs,rfl,SqL.of e1,λd hd=>q d _ _ (x13.trans (.newO x3.s3 hd)) (x13.s2.free hd) (x3.s3.free hd) ⟨_,g8,r.cut lo hi⟩⟩
  ·cases e3
def xH (n:Nat):List PV->List PV
 |[]=>[]
 |x::xs=> .tup [.at (.int n),x]::xH (n+1) xs
theorem KI:∀{xs:List PV}{n i:Nat}{z:PV},(xH n xs)[i]?=some z->∃ x,xs[i]?=some x/\z = .tup [.at (.int ((n+i:Nat):Int)),x]
 |[],n,i,z,h=>by simp [xH] at h
 |x::xs,n,0,z,h=>by simp [xH] at h;exact ⟨x,rfl,h.symm⟩
 |x::xs,n,i+1,z,h=>by
  obtain ⟨y,h1,h2⟩:=KI (xs:=xs) (n:=n+1) (i:=i) (z:=z) (by simpa [xH] using h);exact ⟨y,by simpa using h1,by rw [h2,show n+1+i=n+(i+1) by omega]⟩
theorem KJ:∀{xs:List PV}{n:Nat},(xH n xs).length=xs.length
 |[],_=>rfl
 |x::xs,n=>by simp [xH,KJ]
theorem LP {a:Addr}(h:Hs a=some (.lst vs))(r:Reps Hs xs vs):jC (Ite K a) (xH 0 xs) Hs where
 go:=λi x Hs1 H1 e g1 g2=>by
  obtain ⟨y,ey,rfl⟩:=KI e;obtain ⟨v,ev,rv⟩:=r.get ey;refine ⟨⟨vs,v,SqL.of (g2 _ _ (g1 _ _ h)),ev⟩,λw H2 z=>?_⟩;obtain ⟨p,u,hp,rfl,rfl,hu⟩:=z;have e1:=hu vs (SqL.of (g2 _ _ (g1 _ _ h)));rw [ev] at e1;cases e1;refine ⟨_,.new g2 hp,rep_tup.mpr ⟨p,_,rfl,g8,.cons (rep_at.mpr (by rw [Nat.zero_add])) (.one (rv.mono (g1.trans (Ext.new g2 hp).s1)))⟩⟩
 stop:=λHs1 H1 g1 g2=>⟨vs,SqL.of (g2 _ _ (g1 _ _ h)),by rw [r.length,KJ];exact yW _⟩
def Qk (a:MA):MA:=λε=>(a ε).bind λxs=>match xs with
 |[.lst ys]=>some (xH 0 ys)
 |_=>none
instance {a:MA}[sa:xu ta a]:jn (VG K ta) (Qk a) where
 h:=λe _ _ _ _ _ rs _ q=>by
  obtain ⟨xs,ex,e1⟩:=bind_some e;split at e1
  ·cases e1;refine sa.h ex rs λvs Hs1 H1 x1 r1=>?_;obtain ⟨v,r,rfl,p1,p2⟩:=reps_cons.mp r1;cases reps_nil.mp p2;obtain ⟨p,ws,rfl,hp,rw⟩:=rep_lst.mp p1;exact ⟨p,rfl,⟨ws,SqL.of (x1.s3 _ _ hp)⟩,q _ _ _ x1 (LP hp rw)⟩
  ·cases e1
def xC:List PV->List PV->List PV
 |x::xs,y::ys=> .tup [x,y]::xC xs ys
 |_,_=>[]
theorem Dn:∀{xs ys:List PV}{i:Nat}{z:PV},(xC xs ys)[i]?=some z->∃ x y,xs[i]?=some x/\ys[i]?=some y/\z = .tup [x,y]
 |[],_,i,z,h=>by simp [xC] at h
 |_::_,[],i,z,h=>by simp [xC] at h
 |x::xs,y::ys,0,z,h=>by simp [xC] at h;exact ⟨x,y,rfl,rfl,h.symm⟩
 |x::xs,y::ys,i+1,z,h=>by
  obtain ⟨u,v,h1,h2,h3⟩:=Dn (xs:=xs) (ys:=ys) (i:=i) (z:=z) (by simpa [xC] using h);exact ⟨u,v,by simpa using h1,by simpa using h2,h3⟩
theorem Do:∀{xs ys:List PV},(xC xs ys).length=min xs.length ys.length
 |[],_=>by simp [xC]
 |_::_,[]=>by simp [xC]
 |x::xs,y::ys=>by simp [xC,Do,Nat.succ_min_succ]
theorem LX {a b:Addr}(h:Hs a=some (.lst vs))(r:Reps Hs xs vs)(h':Hs b=some (.lst ws))(r':Reps Hs ys ws):jC (Itz K a b) (xC xs ys) Hs where
 go:=λi x Hs1 H1 e g1 g2=>by
  obtain ⟨y,z,ey,ez,rfl⟩:=Dn e;obtain ⟨v,ev,rv⟩:=r.get ey;obtain ⟨w,ew,rw⟩:=r'.get ez;have q1:SqL K H1 a vs:=SqL.of (g2 _ _ (g1 _ _ h));have q2:SqL K H1 b ws:=SqL.of (g2 _ _ (g1 _ _ h'));refine ⟨⟨vs,ws,v,w,q1,q2,ev,ew⟩,λu H2 z=>?_⟩;obtain ⟨p,v',w',hp,rfl,rfl,hv,hw⟩:=z;have e1:=hv vs q1;have e2:=hw ws q2;rw [ev] at e1;rw [ew] at e2;cases e1;cases e2;have g3:=g1.trans (Ext.new (o:= .tup [v,w]) g2 hp).s1;exact ⟨_,.new g2 hp,rep_tup.mpr ⟨p,_,rfl,g8,.cons (rv.mono g3) (.one (rw.mono g3))⟩⟩
 stop:=λHs1 H1 g1 g2=>⟨vs,ws,SqL.of (g2 _ _ (g1 _ _ h)),SqL.of (g2 _ _ (g1 _ _ h')),by rw [r.length,r'.length,Do];omega⟩
def Qo (a:MA):MA:=λε=>(a ε).bind λxs=>match xs with
 |[.lst ys,.lst zs]=>some (xC ys zs)
 |_=>none
instance {a:MA}[sa:xu ta a]:jn (iZip K ta) (Qo a) where
 h:=λe _ _ _ _ _ rs _ q=>by
  obtain ⟨xs,ex,e1⟩:=bind_some e;split at e1
  ·cases e1;refine sa.h ex rs λvs Hs1 H1 x1 r1=>?_;obtain ⟨v,r,rfl,p1,p2⟩:=reps_cons.mp r1;obtain ⟨v',r',rfl,p3,p4⟩:=reps_cons.mp p2;cases reps_nil.mp p4;obtain ⟨p,ws,rfl,hp,rw1⟩:=rep_lst.mp p1;obtain ⟨p',ws',rfl,hp',rw2⟩:=rep_lst.mp p3;exact ⟨p,p',rfl,⟨ws,SqL.of (x1.s3 _ _ hp)⟩,⟨ws',SqL.of (x1.s3 _ _ hp')⟩,q _ _ _ x1 (LX hp rw1 hp' rw2)⟩
  ·cases e1
structure RD (S:List Addr)(Hs0 H0 Hs H:Hp)(σ:St)(ε:ME):Prop where
 s1:Same Hs0 Hs
 s2:∀ b o,H0 b=some o->b∉S->H b=some o
 s3:Same Hs H
 s4:∀ b,H0 b≠none->Hs0 b=none->Hs b=none
 sh:∀(i:Nat)(x:PV),ε[i]?=some (.sh x)->∃ v,σ[i]?=some (some v)/\Rep Hs x v
 ow:∀(i:Nat)(x:PV),ε[i]?=some (.ow x)->∃ a,σ[i]?=some (some (.ref a))/\(H0 a=none∨a∈S)/\Hs a=none/\Top Hs H a x
 nd:∀(i j:Nat)(x y:PV)(a:Addr),ε[i]?=some (.ow x)->ε[j]?=some (.ow y)->σ[i]?=some (some (.ref a))->σ[j]?=some (some (.ref a))->i=j
 len:σ.length=ε.length
 pin:∀ a∈S,σ[0]?=some (some (.ref a))
 live:∀ a∈S,H a≠none
 str:∀ a∈S,∃ y,ε[0]?=some (.ow y)
 nb:∀(i:Nat)(x:PV),ε[i]?≠some (.bo x)
section
variable {S:List Addr}{Hs0 H0 Hs H Hs' H':Hp}{σ:St}{ε:ME}
theorem RD.rs (r:RD S Hs0 H0 Hs H σ ε):RS Hs Hs Hs H σ ε where
 ext:=⟨.refl _,r.s3,r.s3,λ_ h z=>absurd z h⟩
 sh:=r.sh
 ow:=λi x h=>by obtain ⟨a,h1,_,h3,h4⟩:=r.ow i x h;exact ⟨a,h1,h3,h3,h4⟩
 nd:=r.nd
 len:=r.len
 bo:=λi x h=>absurd h (r.nb i x)
theorem RD.there (r:RD S Hs0 H0 Hs H σ ε){b:Addr}(h:H0 b≠none):H b≠none:=by
 by_cases hS:b∈S
 ·exact r.live b hS
 ·cases q:H0 b with
  |none=>exact absurd q h
  |some o=>rw [r.s2 b o q hS];exact λz=>nomatch z
theorem RD.go (r:RD S Hs0 H0 Hs H σ ε)(e:Ext Hs H Hs' H'):RD S Hs0 H0 Hs' H' σ ε where
 s1:=r.s1.trans e.s1
 s2:=λb o h n=>e.s2 _ _ (r.s2 b o h n)
 s3:=e.s3
 s4:=λb h z=>e.s4 b (r.there h) (r.s4 b h z)
 sh:=λi x q=>by obtain ⟨v,a,b⟩:=r.sh i x q;exact ⟨v,a,b.mono e.s1⟩
 ow:=λi x q=>by
  obtain ⟨a,b,n0,n,t⟩:=r.ow i x q;exact ⟨a,b,n0,e.s4 a t.there n,t.mono e.s1 λo z=>e.s2 _ _ z⟩
 nd:=r.nd
 len:=r.len
 pin:=r.pin
 live:=λa h=>Cn e.s2 (r.live a h)
 str:=r.str
 nb:=r.nb
theorem RD.change (r:RD S Hs0 H0 Hs H σ ε){i:Nat}{a:Addr}(hi:ε[i]?=some (.ow x))(ha:σ[i]?=some (some (.ref a)))(t:Top Hs (w6 H a o) a y):RD S Hs0 H0 Hs (w6 H a o) σ (ε.set i (.ow y)):=by
 obtain ⟨b,hb,n0,n,tx⟩:=r.ow i x hi;rw [ha] at hb;injection hb with hb;injection hb with hb;injection hb with hb;subst hb;have q:=(r.rs).change hi ha t;refine ⟨r.s1,λb u e hS=>?_,λb u e=>?_,r.s4,q.sh,λj z hz=>?_,q.nd,q.len,r.pin,λb hS=>?_,λb hS=>?_,QH r.nb λ_ z=>nomatch z⟩
 ·have hne:b≠a:=λz=>by
   rcases n0 with n0|n0
   ·rw [z,n0] at e;cases e
   ·exact hS (z▸n0)
  rw [w4 hne];exact r.s2 b u e hS
 ·rw [w4 (k4 e n)];exact r.s3 _ _ e
 ·obtain ⟨c,hc,m1,m2,tc⟩:=q.ow j z hz;refine ⟨c,hc,?_,m2,tc⟩;rw [yz] at hz;split at hz
  ·rename_i hij;rw [<- hij,ha] at hc;injection hc with hc;injection hc with hc;injection hc with hc;rw [<- hc];exact n0
  ·obtain ⟨d,hd,m0,_⟩:=r.ow j z hz;rw [hd] at hc;injection hc with hc;injection hc with hc;injection hc with hc;rw [<- hc];exact m0
 ·by_cases hba:b=a
  ·rw [hba,g8];exact λz=>nomatch z
  ·rw [w4 hba];exact r.live b hS
 ·obtain ⟨y',hy⟩:=r.str b hS;rw [yz];split
  ·rename_i h0;rw [if_pos (by rw [h0];exact (yC.mp hy).1)];exact ⟨y,rfl⟩
  ·exact ⟨y',hy⟩
theorem RD.put (r:RD S Hs0 H0 Hs H σ ε){i:Nat}(h:Rep Hs x v):RD S Hs0 H0 Hs H (σ.set (i+1) (some v)) (ε.set (i+1) (.sh x)):=by
 have q:=(r.rs).put (i:=i+1) h;refine ⟨r.s1,r.s2,r.s3,r.s4,q.sh,λj z hz=>?_,q.nd,q.len,λa hS=>by rw [yq (by omega)];exact r.pin a hS,r.live,λa hS=>by rw [yq (by omega)];exact r.str a hS,QH r.nb λ_ z=>nomatch z⟩;obtain ⟨c,hc,m1,m2,tc⟩:=q.ow j z hz;refine ⟨c,hc,?_,m2,tc⟩;rw [yz] at hz hc;split at hz
 ·split at hz<;>cases hz
 ·rename_i hij;rw [if_neg hij] at hc;obtain ⟨d,hd,m0,_⟩:=r.ow j z hz;rw [hd] at hc;injection hc with hc;injection hc with hc;injection hc with hc;rw [<- hc];exact m0
theorem RD.putO (r:RD S Hs0 H0 Hs H σ ε){i:Nat}{a:Addr}(h0:H0 a=none∨a∈S)(h1:Hs a=none)(h2:Top Hs H a x)(ne:∀(j:Nat)(y:PV),ε[j]?=some (.ow y)->σ[j]?≠some (some (.ref a))):RD S Hs0 H0 Hs H (σ.set (i+1) (some (.ref a))) (ε.set (i+1) (.ow x)):=by
 have q:=(r.rs).putO (i:=i+1) ⟨h1,h1,h2⟩ ne;refine ⟨r.s1,r.s2,r.s3,r.s4,q.sh,λj z hz=>?_,q.nd,q.len,λa hS=>by rw [yq (by omega)];exact r.pin a hS,r.live,λa hS=>by rw [yq (by omega)];exact r.str a hS,QH r.nb λ_ z=>nomatch z⟩;obtain ⟨c,hc,m1,m2,tc⟩:=q.ow j z hz;refine ⟨c,hc,?_,m2,tc⟩;rw [yz] at hz hc;split at hz
 ·rename_i hij;rw [if_pos hij] at hc;split at hc
  ·injection hc with hc;injection hc with hc;injection hc with hc;rw [<- hc];exact h0
  ·cases hc
 ·rename_i hij;rw [if_neg hij] at hc;obtain ⟨d,hd,m0,_⟩:=r.ow j z hz;rw [hd] at hc;injection hc with hc;injection hc with hc;injection hc with hc;rw [<- hc];exact m0
theorem RD.free0 (r:RD S Hs0 H0 Hs H σ ε){a:Addr}(h:H a=none):H0 a=none:=by
 cases q:H0 a with
 |none=>rfl
 |some o=>exact absurd h (r.there (by rw [q];exact λz=>nomatch z))
theorem RD.freeze (r:RD S Hs0 H0 Hs H σ ε)(i:Nat):∃ Hs',Same Hs Hs'/\RD S Hs0 H0 Hs' H σ (fz (i+1) ε):=by
 by_cases h:∃ x,ε[i+1]?=some (.ow x)
 ·obtain ⟨x,hi⟩:=h;obtain ⟨a,ha,n0,n,t⟩:=r.ow (i+1) x hi;have hS:a∉S:=λhS=>by
   obtain ⟨y,hy⟩:=r.str a hS;exact absurd (r.nd 0 (i+1) y x a hy hi (r.pin a hS) ha) (by omega)
  obtain ⟨o,ho,hr⟩:=t.rep n;have g:Same Hs (w6 Hs a o):=λb u e=>by rw [w4 (k4 e n)];exact e
  have ef:fz (i+1) ε=ε.set (i+1) (.sh x):=by unfold fz;rw [hi]
  have n0':H0 a=none:=n0.resolve_right hS;rw [ef];have dn:∀(j:Nat)(y:PV),(ε.set (i+1) (.sh x))[j]?=some (.ow y)->i+1≠j/\ε[j]?=some (.ow y):=λj y q=>by
   rw [yz] at q;split at q
   ·split at q<;>cases q
   ·rename_i hij;exact ⟨hij,q⟩
  refine ⟨w6 Hs a o,g,r.s1.trans g,r.s2,λb u e=>?_,λb h z=>?_,λj y q=>?_,λj y q=>?_,λj k z z' c h1 h2 h3 h4=>r.nd j k z z' c (dn j z h1).2 (dn k z' h2).2 h3 h4,by rw [yg,r.len],r.pin,r.live,(λb hb=>by rw [yq (by omega)];exact r.str b hb),QH r.nb λ_ z=>nomatch z⟩
  ·by_cases hb:b=a
   ·subst hb;rw [g8] at e;cases e;exact ho
   ·rw [w4 hb] at e;exact r.s3 _ _ e
  ·have hb:b≠a:=λe=>h (e▸n0');rw [w4 hb];exact r.s4 b h z
  ·rw [yz] at q;split at q
   ·rename_i hij;split at q
    ·injection q with q;injection q with q;subst q;exact ⟨.ref a,hij▸ha,hr⟩
    ·cases q
   ·obtain ⟨v,e,w⟩:=r.sh j y q;exact ⟨v,e,w.mono g⟩
  ·obtain ⟨hij,hq⟩:=dn j y q;obtain ⟨c,hc,m0,m,tc⟩:=r.ow j y hq;have hne:c≠a:=λe=>hij (r.nd (i+1) j x y a hi hq ha (e▸hc));exact ⟨c,hc,m0,by rw [w4 hne];exact m,tc.mono g λ_ e=>e⟩
 ·refine ⟨Hs,.refl _,?_⟩;unfold fz;split
  ·rename_i x hx;exact absurd ⟨x,hx⟩ h
  ·exact r
end
abbrev W:=ME->(PV->ME->Prop)->Prop
variable{a:W}
abbrev WA:=ME->(List PV->ME->Prop)->Prop
variable{r:WA}
abbrev WT:=ME->(Bool->ME->Prop)->Prop
abbrev WS:=ME->(ME->Prop)->(PV->ME->Prop)->Prop
variable{b:WS}
class SemW (te:TE)(w:W):Prop where
 h:∀{ε Q'},w ε Q'->∀{S Hs0 H0 Hs H σ},RD S Hs0 H0 Hs H σ ε->∀{Q:VK},(∀ y ε' v Hs' H',Q' y ε'->RD S Hs0 H0 Hs' H' σ ε'->Same Hs Hs'->Rep Hs' y v->Q v H')->te σ H Q
class vU (ta:TA)(w:WA):Prop where
 h:∀{ε Q'},w ε Q'->∀{S Hs0 H0 Hs H σ},RD S Hs0 H0 Hs H σ ε->∀{Q:List V->Hp->Prop},(∀ ys ε' vs Hs' H',Q' ys ε'->RD S Hs0 H0 Hs' H' σ ε'->Same Hs Hs'->Reps Hs' ys vs->Q vs H')->ta σ H Q
class Xd (tt:TT)(w:WT):Prop where
 h:∀{ε Q'},w ε Q'->∀{S Hs0 H0 Hs H σ},RD S Hs0 H0 Hs H σ ε->∀{Q:Bool->Hp->Prop},(∀ b ε' Hs' H',Q' b ε'->RD S Hs0 H0 Hs' H' σ ε'->Same Hs Hs'->Q b H')->tt σ H Q
class SemWS (ts:TS)(w:WS):Prop where
 h:∀{ε N R},w ε N R->∀{S Hs0 H0 Hs H σ},RD S Hs0 H0 Hs H σ ε->∀{D:ze},(∀ ε' σ' Hs' H',N ε'->RD S Hs0 H0 Hs' H' σ' ε'->Same Hs Hs'->D.nx σ' H') ->
  (∀ y ε' σ' v Hs' H',R y ε'->RD S Hs0 H0 Hs' H' σ' ε'->Same Hs Hs'->Rep Hs' y v->D.rt v H')->ts D σ H
def wP (f:M):W:=λε Q=>∃ y,f ε=some y/\Q y ε
def wPT (f:MB):WT:=λε Q=>∃ y,f ε=some y/\Q y ε
instance (priority:=50){f:M}[s:SemE te f]:SemW te (wP f) where
 h:=λ⟨y,e,q⟩ _ _ _ _ _ _ r _ k=>s.h e r.rs λv Hs' H' x rv=>k y _ v Hs' H' q (r.go x) x.s1 rv
instance (priority:=50){f:MB}[s:xD tt f]:Xd tt (wPT f) where
 h:=λ⟨y,e,q⟩ _ _ _ _ _ _ r _ k=>s.h e r.rs λHs' H' x=>k y _ Hs' H' q (r.go x) x.s1
def xK (g:PV->PV->Option PV)(a b:W):W:=λε Q=>a ε λx ε1=>b ε1 λy ε2=>∃ z,g x y=some z/\Q z ε2
instance {r:R2}{g:PV->PV->Option PV}{ta tb:TE}{b:W}[sr:xT r g][sa:SemW ta a][sb:SemW tb b]:SemW (tOp r ta tb) (xK g a b) where
 h:=λh _ _ _ _ _ _ rd _ k=>sa.h h rd λx ε1 v Hs1 H1 h1 rd1 g1 r1=>sb.h h1 rd1 λy ε2 w Hs2 H2 h2 rd2 g2 r2=>by
  obtain ⟨z,ez,h2⟩:=h2;exact sr.h ez rd2.s3 (.inl (r1.mono g2)) (.inl r2) λu Hs3 H3 x3 r3=>k z ε2 u Hs3 H3 h2 (rd2.go x3) (g1.trans (g2.trans x3.s1)) r3
def wT (a:W):WT:=λε Q=>a ε λx ε1=>∃ b,pB x=some b/\Q b ε1
instance [sa:SemW te a]:Xd (JL te) (wT a) where
 h:=λh _ _ _ _ _ _ rd _ k=>sa.h h rd λx ε1 v Hs1 H1 h1 rd1 g1 r1=>by
  obtain ⟨b,eb,h2⟩:=h1;cases QL eb;exact ⟨b,rep_at.mp r1,k b ε1 Hs1 H1 h2 rd1 g1⟩
def qQ:WA:=λε Q=>Q [] ε
def b8 (a:W)(r:WA):WA:=λε Q=>a ε λx ε1=>r ε1 λxs ε2=>Q (x::xs) ε2
instance:vU qt qQ where
 h:=λh _ _ _ _ _ _ rd _ k=>k [] _ [] _ _ h rd (.refl _) .nil
instance [sa:SemW te a][sr:vU ta r]:vU (i5 te ta) (b8 a r) where
 h:=λh _ _ _ _ _ _ rd _ k=>sa.h h rd λx ε1 v Hs1 H1 h1 rd1 g1 r1=>sr.h h1 rd1 λxs ε2 vs Hs2 H2 h2 rd2 g2 r2=>k _ ε2 _ Hs2 H2 h2 rd2 (g1.trans g2) (.cons (r1.mono g2) r2)
def QW (a:WA):W:=λε Q=>a ε λxs ε1=>xs.length<=lim/\Q (.tup xs) ε1
instance {a:WA}[sa:vU ta a]:SemW (tTup ta) (QW a) where
 h:=λh _ _ _ _ _ _ rd _ k=>sa.h h rd λxs ε1 vs Hs1 H1 h1 rd1 g1 r1=>⟨zl (r1.length▸h1.1),λp hp=>k _ ε1 _ _ _ h1.2 (rd1.go (.new rd1.s3 hp)) (g1.trans (Ext.new rd1.s3 hp).s1) (rep_tup.mpr ⟨p,vs,rfl,g8,r1.mono (Ext.new rd1.s3 hp).s1⟩)⟩
def vN:Sp:=λvs H Q _=>∃(a:Addr)(n m:Int),vs=[.ref a,.int m]/\H a=some (.lst [.int n])/\vf n m/\Q (.int (n % m)) (w6 H a (.lst [.int (n / m)]))
def p9 (n:Int):MSlot:= .ow (.lst [.at (.int n)])
def wTake (i:Nat)(a:W):W:=λε Q=>a ε λx ε1=>∃ n k,x = .at (.int k)/\ε1[i]?=some (p9 n)/\vf n k/\Q (.at (.int (n % k))) (ε1.set i (p9 (n / k)))
theorem RD.strm_at {i:Nat}{n:Int}(r:RD S Hs0 H0 Hs H σ ε)(h:ε[i]?=some (p9 n)):∃ a,σ[i]?=some (some (.ref a))/\H a=some (.lst [.int n])/\Hs a=none/\(H0 a=none∨a∈S):=by obtain ⟨a,ha,n0,n1,vs,hv,rv⟩:=r.ow i _ h;obtain ⟨v,w,rfl,p1,p2⟩:=reps_cons.mp rv;cases reps_nil.mp p2;cases rep_at.mp p1;exact ⟨a,ha,hv,n1,n0⟩
def zx (i:Nat):ME->Prop:=λε=>∃ n,ε[i]?=some (p9 n)
def qB (i:Nat)(a:W):W:=λε Q=>zx i ε/\wTake i a ε Q
instance {i:Nat}[sa:SemW te a]:SemW (ve vN [] E (i5 (qF i) (i5 te qt))) (qB i a) where
 h:=λh _ _ _ _ _ _ rd _ k=>by
  obtain ⟨⟨n0,hn0⟩,h⟩:=h;obtain ⟨p,hp,_⟩:=rd.strm_at hn0;refine ⟨_,hp,sa.h h rd λx ε1 v Hs1 H1 h1 rd1 g1 r1=>?_⟩;obtain ⟨n,m,rfl,hn,hc,h2⟩:=h1;obtain ⟨p',hp',hH,hs,_⟩:=rd1.strm_at hn;rw [hp] at hp';injection hp' with hp';injection hp' with hp';injection hp' with hp';subst hp';cases rep_at.mp r1;exact ⟨p,n,m,rfl,hH,hc,k _ _ _ _ _ h2 (rd1.change hn hp ⟨_,g8,.one (rep_at.mpr rfl)⟩) g1 (rep_at.mpr rfl)⟩
structure ExtD (p:Addr)(Hs H Hs' H':Hp):Prop where
 s1:Same Hs Hs'
 s2:∀ b o,H b=some o->b≠p->H' b=some o
 s3:Same Hs' H'
 s4:∀ b,H b≠none->Hs b=none->Hs' b=none
def spD (pre:List PV->Prop)(R:List PV->PV->Prop):Sp:=λvs H Q _=>∃ Hs a n xs ws,vs = .ref a::ws/\Same Hs H/\Hs a=none/\H a=some (.lst [.int n])/\Reps Hs xs ws/\pre xs /\
 ∀ y v n' Hs' H',R xs y->ExtD a Hs H Hs' H'->Hs' a=none->H' a=some (.lst [.int n'])->Rep Hs' y v->Q v H'
section
variable {S:List Addr}{Hs0 H0 Hs H Hs' H':Hp}{σ:St}{ε:ME}
theorem RD.drawn (r:RD S Hs0 H0 Hs H σ ε){i:Nat}{n n':Int}{p:Addr}(hi:ε[i]?=some (p9 n))(hp:σ[i]?=some (some (.ref p)))(x:ExtD p Hs H Hs' H')(np:Hs' p=none)(ep:H' p=some (.lst [.int n'])):RD S Hs0 H0 Hs' H' σ (ε.set i (p9 n')):=by
 obtain ⟨p',hp',hH,hs,h0⟩:=r.strm_at hi;rw [hp] at hp';injection hp' with hp';injection hp' with hp';injection hp' with hp';subst hp';have up:∀(j:Nat)(z:PV),(ε.set i (p9 n'))[j]?=some (.ow z)->(j=i/\z = .lst [.at (.int n')])∨(j≠i/\ε[j]?=some (.ow z)):=λj z q=>by
  rw [yz] at q;split at q
  ·rename_i hij;split at q
   ·injection q with q;unfold p9 at q;injection q with q;exact .inl ⟨hij.symm,q.symm⟩
   ·cases q
  ·rename_i hij;exact .inr ⟨Ne.symm hij,q⟩
 have wasOw:∀(j:Nat)(z:PV),(ε.set i (p9 n'))[j]?=some (.ow z)->∃ z',ε[j]?=some (.ow z'):=λj z q=>by
  rcases up j z q with ⟨rfl,_⟩|⟨_,q⟩
  ·exact ⟨_,hi⟩
  ·exact ⟨z,q⟩
 refine ⟨r.s1.trans x.s1,λb o e hS=>x.s2 b o (r.s2 b o e hS) λz=>?_,x.s3,λb h z=>x.s4 b (r.there h) (r.s4 b h z),λj z q=>?_,λj z q=>?_,λj k z z' c h1 h2 h3 h4=>?_,by rw [yg,r.len],r.pin,λb hS=>?_,λb hS=>?_,QH r.nb λ_ z=>by unfold p9 at z;cases z⟩
 ·rcases h0 with h0|h0
  ·rw [z,h0] at e;cases e
  ·exact hS (z▸h0)
 ·rw [yz] at q;split at q
  ·split at q
   ·unfold p9 at q;cases q
   ·cases q
  ·obtain ⟨v,h1,h2⟩:=r.sh j z q;exact ⟨v,h1,h2.mono x.s1⟩
 ·rcases up j z q with ⟨rfl,rfl⟩|⟨hij,q⟩
  ·exact ⟨p,hp,h0,np,_,ep,.one (rep_at.mpr rfl)⟩
  ·obtain ⟨c,hc,m0,m1,tc⟩:=r.ow j z q;have hne:c≠p:=λe=>hij (r.nd j i z _ p q hi (e▸hc) hp);exact ⟨c,hc,m0,x.s4 c tc.there m1,tc.mono x.s1 λo e=>x.s2 c o e hne⟩
 ·obtain ⟨w1,q1⟩:=wasOw j z h1;obtain ⟨w2,q2⟩:=wasOw k z' h2;exact r.nd j k w1 w2 c q1 q2 h3 h4
 ·by_cases hb:b=p
  ·rw [hb,ep];exact λz=>nomatch z
  ·have:=r.live b hS;cases q:H b with
   |none=>exact absurd q this
   |some o=>rw [x.s2 b o q hb];exact λz=>nomatch z
 ·obtain ⟨y',hy⟩:=r.str b hS;rw [yz];split
  ·rename_i h0;rw [if_pos (by rw [h0];exact (yC.mp hy).1)];exact ⟨_,rfl⟩
  ·exact ⟨y',hy⟩
end
def zw (i:Nat)(pre:List PV->Prop)(R:List PV->PV->Prop)(as:WA):W:=λε Q=>zx i ε/\as ε λxs ε1=>zx i ε1/\pre xs/\∀ y n',R xs y->Q y (ε1.set i (p9 n'))
instance {i:Nat}{as:WA}[sa:vU ta as]:SemW (ve (spD pre R) [] E (i5 (qF i) ta)) (zw i pre R as) where
 h:=λh _ _ _ _ _ _ rd _ k=>by
  obtain ⟨⟨n0,hn0⟩,h⟩:=h;obtain ⟨p,hp,_⟩:=rd.strm_at hn0;refine ⟨_,hp,sa.h h rd λxs ε1 vs Hs1 H1 h1 rd1 g1 r1=>?_⟩;obtain ⟨⟨n,hn⟩,hpre,h2⟩:=h1;obtain ⟨p',hp',hH,hs,_⟩:=rd1.strm_at hn;rw [hp] at hp';injection hp' with hp';injection hp' with hp';injection hp' with hp';subst hp';refine ⟨Hs1,p,n,xs,vs,by rw [yp],rd1.s3,hs,hH,r1,hpre,λy v n' Hs' H' hR x np ep rv=>?_⟩;exact k y _ v Hs' H' (h2 y n' hR) (rd1.drawn hn hp x np ep) (g1.trans x.s1) rv
def xS:WS:=λε N _=>N ε
def wSeq (a b:WS):WS:=λε N R=>a ε (λε1=>b ε1 N R) R
def ql (i:Nat)(a:W):WS:=λε N _=>a ε λx ε1=>N (ε1.set i (.sh x))
def wN (i:Nat)(f:M):WS:=λε N _=>∃ x,f ε=some x/\N (ε.set i (.ow x))
def qY (a:W):WS:=λε _ R=>a ε R
def Di (a:W):WS:=λε N _=>a ε λ_ ε1=>N ε1
def xB (c:WT)(a b:WS):WS:=λε N R=>c ε λk ε1=>if k=true then a ε1 N R else b ε1 N R
def wFz (i:Nat)(a:WS):WS:=λε N R=>a (fz i ε) N R
def wM (i:Nat)(a:W):WS:=λε N _=>(∃ xs,ε[i]?=some (.ow (.lst xs)))/\a ε λx ε1=>∃ xs,ε1[i]?=some (.ow (.lst xs))/\xs.length<=lim/\N (ε1.set i (.ow (.lst (xs++[x]))))
instance:SemWS Ug xS where
 h:=λh _ _ _ _ _ _ rd _ k _=>k _ _ _ _ h rd (.refl _)
instance {u:TS}{a:WS}[sa:SemWS t a][sb:SemWS u b]:SemWS (tSeq t u) (wSeq a b) where
 h:=λh _ _ _ _ _ _ rd _ k r=>sa.h h rd (λε1 σ1 Hs1 H1 h1 rd1 g1=>sb.h h1 rd1 (λε2 σ2 Hs2 H2 h2 rd2 g2=>k ε2 σ2 Hs2 H2 h2 rd2 (g1.trans g2)) λy ε2 σ2 v Hs2 H2 h2 rd2 g2 rv=>r y ε2 σ2 v Hs2 H2 h2 rd2 (g1.trans g2) rv) r
instance {i:Nat}[sa:SemW te a]:SemWS (jg te (xh (i+1))) (ql (i+1) a) where
 h:=λh _ _ _ _ _ _ rd _ k _=>sa.h h rd λx ε1 v Hs1 H1 h1 rd1 g1 r1=>k _ _ _ _ h1 (rd1.put r1) g1
instance {i:Nat}{f:M}[sa:zf te f]:SemWS (jg te (xh (i+1))) (wN (i+1) f) where
 h:=λ⟨x,e,h⟩ _ _ _ _ _ _ rd _ k _=>sa.h e rd.rs λa Hs1 H1 x1 n n' t=>k _ _ _ _ h ((rd.go x1).putO (.inl (rd.free0 n)) n' t λj y hj z=>by
  obtain ⟨b,hb,_,_,tb⟩:=rd.ow j y hj;rw [z] at hb;injection hb with hb;injection hb with hb;injection hb with hb;subst hb;exact tb.there n) x1.s1
instance [sa:SemW te a]:SemWS (wL te) (qY a) where
 h:=λh _ _ _ _ _ _ rd _ _ r=>sa.h h rd λx ε1 v Hs1 H1 h1 rd1 g1 r1=>r x ε1 _ v Hs1 H1 h1 rd1 g1 r1
instance [sa:SemW te a]:SemWS (vO te) (Di a) where
 h:=λh _ _ _ _ _ _ rd _ k _=>sa.h h rd λx ε1 v Hs1 H1 h1 rd1 g1 r1=>k ε1 _ Hs1 H1 h1 rd1 g1
instance {t:TT}{ta:TS}{c:WT}{a:WS}[sc:Xd t c][sa:SemWS ta a][sb:SemWS tb b]:SemWS (tIfS t ta tb) (xB c a b) where
 h:=λh _ _ _ _ _ _ rd _ k r=>sc.h h rd λc ε1 Hs1 H1 h1 rd1 g1=>by
  cases c with
  |true=>exact zT (sa.h (by simpa using h1) rd1 (λε2 σ2 Hs2 H2 h2 rd2 g2=>k ε2 σ2 Hs2 H2 h2 rd2 (g1.trans g2)) λy ε2 σ2 v Hs2 H2 h2 rd2 g2 rv=>r y ε2 σ2 v Hs2 H2 h2 rd2 (g1.trans g2) rv)
  |false=>exact zS (sb.h (by simpa using h1) rd1 (λε2 σ2 Hs2 H2 h2 rd2 g2=>k ε2 σ2 Hs2 H2 h2 rd2 (g1.trans g2)) λy ε2 σ2 v Hs2 H2 h2 rd2 g2 rv=>r y ε2 σ2 v Hs2 H2 h2 rd2 (g1.trans g2) rv)
instance {i:Nat}{a:WS}[sa:SemWS t a]:SemWS t (wFz (i+1) a) where
 h:=λh _ _ _ _ _ _ rd _ k r=>by
  obtain ⟨Hs',g,rd'⟩:=rd.freeze i;exact sa.h h rd' (λε2 σ2 Hs2 H2 h2 rd2 g2=>k ε2 σ2 Hs2 H2 h2 rd2 (g.trans g2)) λy ε2 σ2 v Hs2 H2 h2 rd2 g2 rv=>r y ε2 σ2 v Hs2 H2 h2 rd2 (g.trans g2) rv
instance {i:Nat}[sa:SemW te a]:SemWS (vO (tBM K "list" WF (qF i) (i5 te qt))) (wM i a) where
 h:=λh _ _ _ _ _ _ rd _ k _=>by
  obtain ⟨⟨xs0,hx0⟩,h⟩:=h;obtain ⟨p,hp,n0,n,vs,hv,rv⟩:=rd.ow i _ hx0;refine ⟨_,hp,.inl ⟨rfl,vs,SqL.of hv⟩,sa.h h rd λx ε1 v Hs1 H1 h1 rd1 g1 r1=>?_⟩;obtain ⟨xs,hx,hl,h2⟩:=h1;obtain ⟨p',hp',_,n1,ws,hw,rw⟩:=rd1.ow i _ hx;rw [hp] at hp';injection hp' with hp';injection hp' with hp';injection hp' with hp';subst hp';exact ⟨p,ws,v,rfl,rfl,hw,VU (by rw [rw.length];exact hl),k _ _ _ _ h2 (rd1.change hx hp ⟨_,g8,rw.append (.one r1)⟩) g1⟩
def Zv (i:Nat)(a:W):W:=λε Q=>(∃ xs,ε[i]?=some (.ow (.lst xs)))/\a ε λx ε1=>∃ xs k y,ε1[i]?=some (.ow (.lst xs))/\x = .at (.int k)/\0<=k/\k<xs.length/\xs.length<=lim/\xs[k.toNat]?=some y/\Q y (ε1.set i (.ow (.lst (xs.eraseIdx k.toNat))))
theorem Reps.eraseIdx {H:Hp}:∀(i:Nat){xs:List PV}{vs:List V},Reps H xs vs->Reps H (xs.eraseIdx i) (vs.eraseIdx i)
 |i,[],vs,h=>by rw [reps_nil.mp h];exact .nil
 |0,x::xs,vs,h=>by obtain ⟨v,r,rfl,p,q⟩:=reps_cons.mp h;exact q
 |i+1,x::xs,vs,h=>by obtain ⟨v,r,rfl,p,q⟩:=reps_cons.mp h;exact .cons p (Reps.eraseIdx i q)
instance {i:Nat}[sa:SemW te a]:SemW (tBM K "list" WG (qF i) (i5 te qt)) (Zv i a) where
 h:=λh _ _ _ _ _ _ rd _ k=>by
  obtain ⟨⟨xs0,hx0⟩,h⟩:=h;obtain ⟨p,hp,n0,n,vs,hv,rv⟩:=rd.ow i _ hx0;refine ⟨_,hp,.inl ⟨rfl,vs,SqL.of hv⟩,sa.h h rd λx ε1 v Hs1 H1 h1 rd1 g1 r1=>?_⟩;obtain ⟨xs,j,y,hx,rfl,j0,j1,hl,hy,h2⟩:=h1;obtain ⟨p',hp',_,n1,ws,hw,rw⟩:=rd1.ow i _ hx;rw [hp] at hp';injection hp' with hp';injection hp' with hp';injection hp' with hp';subst hp';cases rep_at.mp r1;obtain ⟨u,hu,ru⟩:=rw.get hy;have hlim:lim=1000000:=rfl;refine ⟨p,ws,j,j.toNat,u,rfl,rfl,hw,by omega,by omega,?_,hu,k _ _ _ _ _ h2 (rd1.change hx hp ⟨_,g8,rw.eraseIdx j.toNat⟩) g1 ru⟩;unfold seqIndex?;have e1:(if j<0 then j+(ws.length:Int) else j)=j:=if_neg (by omega);simp only [e1];rw [if_pos];rw [rw.length];simp only [yi,decide_eq_true_eq];exact ⟨j0,j1⟩
class SemWI (ti:TI)(w:WA):Prop where
 h:∀{ε Q'},w ε Q'->∀{S Hs0 H0 Hs H σ},RD S Hs0 H0 Hs H σ ε->∀{R:It->Hp->Prop},(∀ xs ε' J Hs' H',Q' xs ε'->RD S Hs0 H0 Hs' H' σ ε'->Same Hs Hs'->jC J xs Hs'->R J H')->ti σ H R
def wIp (f:MA):WA:=λε Q=>∃ xs,f ε=some xs/\Q xs ε
instance (priority:=50){ti:TI}{f:MA}[s:jn ti f]:SemWI ti (wIp f) where
 h:=λ⟨xs,e,q⟩ _ _ _ _ _ _ r _ k=>s.h e r.rs λJ Hs' H' x ok=>k xs _ J Hs' H' q (r.go x) x.s1 ok
class SemWG (tg:TG)(g:MG):Prop where
 h:∀{x ε ε'},g x ε=some ε'->∀{S Hs0 H0 Hs H σ v},RD S Hs0 H0 Hs H σ ε->Rep Hs x v->∀{Q:St->Hp->Prop},(∀ σ',RD S Hs0 H0 Hs H σ' ε'->Q σ' H)->tg v σ H Q
instance {i:Nat}:SemWG (xh (i+1)) (v8 (i+1)) where
 h:=λe _ _ _ _ _ _ _ rd r _ q=>by cases e;exact q _ (rd.put r)
def Zu (g:MG)(f:WS):List PV->WS
 |[]=>λε N _=>N ε
 |x::xs=>λε N R=>∃ ε1,g x ε=some ε1/\f ε1 (λε2=>Zu g f xs ε2 N R) R
def wFor (it:WA)(g:MG)(f:WS):WS:=λε N R=>it ε λxs ε1=>Zu g f xs ε1 N R
theorem RD.rebase (r:RD S Hs0 H0 Hs H σ ε):RD S Hs H0 Hs H σ ε :=
 ⟨.refl _,r.s2,r.s3,λ_ _ z=>z,r.sh,r.ow,r.nd,r.len,r.pin,r.live,r.str,r.nb⟩
theorem RD.unbase {Hb Hx:Hp}(b:RD S Hs0 H0 Hb Hx σ ε)(r:RD S Hb H0 Hs H σ' ε'):RD S Hs0 H0 Hs H σ' ε' :=
 ⟨b.s1.trans r.s1,r.s2,r.s3,λc h z=>r.s4 c h (b.s4 c h z),r.sh,r.ow,r.nd,r.len,r.pin,r.live,r.str,r.nb⟩
instance {it:WA}{g:MG}{f:WS}[si:SemWI wi it][sg:SemWG tg g][sf:SemWS tb f]:SemWS (tFor wi tg tb) (wFor it g f) where
 h:=λ{ε N R} h S Hs0 H0 _ _ _ rd D k rt=>si.h h rd λxs ε1 J Hs1 H1 h1 rd1 g1 ok=>by
  refine ⟨λn m σ H=>m=xs.length-n/\n<=xs.length/\∃ Hs ε,RD S Hs1 H0 Hs H σ ε/\Zu g f (xs.drop n) ε N R,⟨xs.length,by simp,ya _,Hs1,ε1,rd1.rebase,h1⟩,?_⟩;rintro n m σ H ⟨rfl,hn,Hs,ε2,r2,h2⟩;by_cases hlt:n<xs.length
  ·have hd:xs.drop n=xs[n]::xs.drop (n+1):=uD hlt;rw [hd] at h2;obtain ⟨ε3,e3,h3⟩:=h2;obtain ⟨go,yl⟩:=ok.go n xs[n] Hs H (by simp [hlt]) r2.s1 r2.s3;refine .inr ⟨go,λσ' H'=>n+1<=xs.length/\∃ Hs ε,RD S Hs1 H0 Hs H' σ' ε/\Zu g f (xs.drop (n+1)) ε N R,λσ' H' p=>⟨xs.length-(n+1),by omega,rfl,p.1,p.2⟩,λv H3 y=>?_⟩;obtain ⟨Hs3,x3,r3⟩:=yl v H3 y;refine sg.h e3 (r2.go x3) r3 λσ4 rd4=>sf.h h3 rd4 (λε5 σ5 Hs5 H5 h5 rd5 g5=>⟨hlt,Hs5,ε5,rd5,h5⟩) λy ε5 σ5 v Hs5 H5 h5 rd5 g5 rv=>rt y ε5 σ5 v Hs5 H5 h5 (rd1.unbase rd5) (g1.trans rd5.s1) rv
  ·have en:n=xs.length:=by omega
   subst en;rw [tT] at h2;exact .inl ⟨ok.stop Hs H r2.s1 r2.s3,k _ _ _ _ h2 (rd1.unbase r2) (g1.trans r2.s1)⟩
def qX:List (Option Nat)->ME->ME->ME
 |some i::cap,s::ε2,ε1=>(qX cap ε2 ε1).set i s
 |none::cap,_::ε2,ε1=>qX cap ε2 ε1
 |_,_,ε1=>ε1
theorem Zr:∀(cap:List (Option Nat))(ε2 ε1:ME),(qX cap ε2 ε1).length=ε1.length
 |some i::cap,s::ε2,ε1=>by unfold qX;rw [yg,Zr]
 |none::cap,_::ε2,ε1=>by unfold qX;exact Zr cap ε2 ε1
 |[],_,_=>rfl
 |some _::_,[],_=>rfl
 |none::_,[],_=>rfl
theorem Ui:∀(cap:List (Option Nat))(ε2 ε1:ME)(i:Nat),some i∉cap->(qX cap ε2 ε1)[i]?=ε1[i]?
 |some k::cap,s::ε2,ε1,i,h=>by
  unfold qX;rw [yq (λz=>h (by rw [z];exact yT))];exact Ui cap ε2 ε1 i λz=>h (yV _ z)
 |none::cap,_::ε2,ε1,i,h=>by unfold qX;exact Ui cap ε2 ε1 i λz=>h (yV _ z)
 |[],_,_,_,_=>rfl
 |some _::_,[],_,_,_=>rfl
 |none::_,[],_,_,_=>rfl
theorem Uh:∀(cap:List (Option Nat))(ε2 ε1:ME)(i:Nat),cap.length=ε2.length->some i∈cap->i<ε1.length->(cap.filterMap id).Nodup->∃ j:Nat,cap[j]?=some (some i)/\(qX cap ε2 ε1)[i]?=ε2[j]?
 |some k::cap,s::ε2,ε1,i,hl,h,hi,nd=>by
  rw [List.filterMap_cons_some (by rfl)] at nd;by_cases e:k=i
  ·subst e;refine ⟨0,rfl,?_⟩;unfold qX;rw [uO (by rw [Zr];exact hi)];rfl
  ·obtain ⟨j,h1,h2⟩:=Uh cap ε2 ε1 i (by simpa using hl) (by rcases yJ.mp h with z|z;exact absurd (Option.some.inj z).symm e;exact z) hi (yo.mp nd).2;refine ⟨j+1,by simpa using h1,?_⟩;unfold qX;rw [yq e];simpa using h2
 |none::cap,s::ε2,ε1,i,hl,h,hi,nd=>by
  rw [List.filterMap_cons_none (by rfl)] at nd;obtain ⟨j,h1,h2⟩:=Uh cap ε2 ε1 i (by simpa using hl) (by rcases yJ.mp h with z|z;exact nomatch z;exact z) hi nd;exact ⟨j+1,by simpa using h1,by unfold qX;simpa using h2⟩
 |[],_,_,_,_,h,_,_=>nomatch h
 |some _::_,[],_,_,hl,_,_,_=>by simp at hl
 |none::_,[],_,_,hl,_,_,_=>by simp at hl
def rst:List Nat->ME->ME
 |[],ε=>ε
 |t::ts,ε=>(rst ts ε).set t .no
theorem Cb:∀(ts:List Nat)(ε:ME),(rst ts ε).length=ε.length
 |[],_=>rfl
 |t::ts,ε=>by unfold rst;rw [yg,Cb]
theorem Ca:∀(ts:List Nat)(ε:ME)(i:Nat)(s:MSlot),(rst ts ε)[i]?=some s->s = .no∨(i∉ts/\ε[i]?=some s)
 |[],_,_,_,h=> .inr ⟨yf,h⟩
 |t::ts,ε,i,s,h=>by
  unfold rst at h;rw [yz] at h;split at h
  ·split at h
   ·cases h;exact .inl rfl
   ·cases h
  ·rename_i hne;rcases Ca ts ε i s h with z|⟨z1,z2⟩
   ·exact .inl z
   ·exact .inr ⟨λm=>by rcases yJ.mp m with m|m;exact hne m.symm;exact z1 m,z2⟩
theorem RD.reset (r:RD [] Hs0 H0 Hs H σ' ε)(b:But ts σ σ'):RD [] Hs0 H0 Hs H σ (rst ts ε):=by
 have at1:∀(i:Nat)(s:MSlot),(rst ts ε)[i]?=some s->s = .no∨(σ'[i]?=σ[i]?/\ε[i]?=some s):=λi s h=>by
  rcases Ca ts ε i s h with z|⟨z1,z2⟩
  ·exact .inl z
  ·exact .inr ⟨b.2 i z1,z2⟩
 refine ⟨r.s1,r.s2,r.s3,r.s4,λi x h=>?_,λi x h=>?_,λi j x y a h1 h2 h3 h4=>?_,by rw [Cb,<- r.len,b.1],(λ_ z=>nomatch z),(λ_ z=>nomatch z),(λ_ z=>nomatch z),λi x h=>by
  rcases at1 i _ h with z|⟨_,z2⟩
  ·cases z
  ·exact r.nb i x z2⟩
 ·rcases at1 i _ h with z|⟨z1,z2⟩
  ·cases z
  ·rw [<- z1];exact r.sh i x z2
 ·rcases at1 i _ h with z|⟨z1,z2⟩
  ·cases z
  ·rw [<- z1];exact r.ow i x z2
 ·rcases at1 i _ h1 with z|⟨z1,z2⟩
  ·cases z
  ·rcases at1 j _ h2 with w|⟨w1,w2⟩
   ·cases w
   ·exact r.nd i j x y a z2 w2 (z1.trans h3) (w1.trans h4)
class Uz (tg:TG)(ts:outParam (List Nat))(g:MG):Prop where
 h:∀{x ε ε'},g x ε=some ε'->∀{Hs0 H0 Hs H σ v},RD [] Hs0 H0 Hs H σ ε->Rep Hs x v->∀{Q:St->Hp->Prop},(∀ σ',RD [] Hs0 H0 Hs H σ' ε'->But ts σ σ'->Q σ' H)->tg v σ H Q
theorem RD.put0 (r:RD [] Hs0 H0 Hs H σ ε){i:Nat}(h:Rep Hs x v):RD [] Hs0 H0 Hs H (σ.set i (some v)) (ε.set i (.sh x)):=by
 have q:=(r.rs).put (i:=i) h;refine ⟨r.s1,r.s2,r.s3,r.s4,q.sh,λj z hz=>?_,q.nd,q.len,(λ_ z=>nomatch z),(λ_ z=>nomatch z),(λ_ z=>nomatch z),QH r.nb λ_ z=>nomatch z⟩;obtain ⟨c,hc,m1,m2,tc⟩:=q.ow j z hz;refine ⟨c,hc,?_,m2,tc⟩;rw [yz] at hz hc;split at hz
 ·split at hz<;>cases hz
 ·rename_i hij;rw [if_neg hij] at hc;obtain ⟨d,hd,m0,_⟩:=r.ow j z hz;rw [hd] at hc;injection hc with hc;injection hc with hc;injection hc with hc;rw [<- hc];exact m0
instance {i:Nat}:Uz (xh i) [i] (v8 i) where
 h:=λe _ _ _ _ _ _ rd r _ q=>by
  cases e;exact q _ (rd.put0 r) ⟨yg,λj hj=>yq λz=>hj (by rw [<- z];exact yI.mpr rfl)⟩
def vP (g:MG)(c:WT)(f:W)(ts:List Nat):List PV->List PV->ME->(List PV->ME->Prop)->Prop
 |[],ys,ε,Q=>Q ys ε
 |x::xs,ys,ε,Q=>∃ ε1,g x ε=some ε1/\c ε1 λb ε2=>if b=true then f ε2 λy ε3=>vP g c f ts xs (ys++[y]) (rst ts ε3) Q else vP g c f ts xs ys (rst ts ε2) Q
def jj:WT:=λε Q=>Q true ε
instance:Xd tYes jj where
 h:=λh _ _ _ _ _ _ rd _ k=>k true _ _ _ h rd (.refl _)
def jB (cap:List (Option Nat))(ts:List Nat)(it:WA)(g:MG)(c:WT)(f:W):W:=λε Q=>it ε λxs ε1=>vY cap ts=true/\xs.length<=lim /\
 vP g c f ts xs [] (qx cap ε1) λys ε2=>((∃ y:PV,ε1[0]?=some (MSlot.ow y))->∃ y:PV,(qX cap ε2 ε1)[0]?=some (MSlot.ow y))/\Q (.lst ys) (qX cap ε2 ε1)
noncomputable def less (σ:St)(ε:ME)(H:Hp):Hp:=λb=>open Classical in if ∃(i:Nat)(x:PV),ε[i]?=some (MSlot.ow x)/\σ[i]?=some (some (V.ref b)) then none else H b
theorem VT {b:Addr}(h:less σ ε H b=some o):H b=some o/\∀(i:Nat)(x:PV),ε[i]?=some (MSlot.ow x)->σ[i]?≠some (some (V.ref b)):=by
 unfold less at h;split at h
 ·cases h
 ·rename_i hn;exact ⟨h,λi x h1 h2=>hn ⟨i,x,h1,h2⟩⟩
theorem BC {b:Addr}(h:less σ ε H b=none):H b=none∨∃(i:Nat)(x:PV),ε[i]?=some (MSlot.ow x)/\σ[i]?=some (some (V.ref b)):=by
 unfold less at h;split at h
 ·rename_i hn;exact .inr hn
 ·exact .inl h
theorem Mj {cap:List (Option Nat)}(nb:∀(i:Nat)(x:PV),ε[i]?≠some (.bo x)):∀(i:Nat)(x:PV),(qx cap ε)[i]?≠some (.bo x):=λi x h=>by
 unfold qx at h;rw [yP] at h;cases ho:cap[i]? with
 |none=>rw [ho] at h;cases h
 |some o =>
  rw [ho] at h;cases o with
  |none=>cases h
  |some k =>
   cases hk:ε[k]? with
   |none=>simp only [uM,hk,tV] at h;cases h
   |some s=>simp only [uM,hk,Option.getD_some] at h;cases h;exact nb k x hk
theorem RD.block {cap:List (Option Nat)}(hc:(cap.filterMap id).Nodup)(r:RD S Hs0 H0 Hs H σ ε):RD [] Hs (less (i9 cap σ) (qx cap ε) H) Hs H (i9 cap σ) (qx cap ε):=by have q:=(r.rs).cap hc;refine ⟨.refl _,λb o e _=>(VT e).1,r.s3,λ_ _ z=>z,q.sh,λi x h=>?_,q.nd,q.len,(λ_ z=>nomatch z),(λ_ z=>nomatch z),(λ_ z=>nomatch z),Mj r.nb⟩;obtain ⟨a,h1,h2,h3,h4⟩:=q.ow i x h;refine ⟨a,h1,.inl ?_,h3,h4⟩;unfold less;rw [if_pos ⟨i,x,h,h1⟩]
theorem vi {cap:List (Option Nat)}{i k:Nat}(h:cap[i]?=some (some k))(e:(i9 cap σ)[i]?=some (some v)):σ[k]?=some (some v):=by
 unfold i9 at e;rw [yP,h] at e;simp only [uM,yG,Option.some.injEq] at e;cases hs:σ[k]? with
 |none=>rw [hs] at e;cases e
 |some o=>rw [hs] at e;simp at e;rw [e]
theorem Kg {cap:List (Option Nat)}{i:Nat}(h:(qx cap ε)[i]?=some (.ow x)):∃ k:Nat,cap[i]?=some (some k)/\ε[k]?=some (.ow x):=by
 unfold qx at h;rw [yP] at h;cases ho:cap[i]? with
 |none=>rw [ho] at h;cases h
 |some o =>
  rw [ho] at h;cases o with
  |none=>cases h
  |some k =>
   cases hk:ε[k]? with
   |none=>simp only [uM,hk,tV] at h;cases h
   |some s=>simp only [uM,hk,Option.getD_some] at h;cases h;exact ⟨k,rfl,hk⟩
theorem RD.unblock {Hs1 H1 Hs2 H2:Hp}{ε1 ε2:ME}{cap:List (Option Nat)}(hc:(cap.filterMap id).Nodup)(r:RD S Hs0 H0 Hs1 H1 σ ε1)(q:RD [] Hs1 (less (i9 cap σ) (qx cap ε1) H1) Hs2 H2 (i9 cap σ) ε2)(st:(∃ y,ε1[0]?=some (.ow y))->∃ y,(qX cap ε2 ε1)[0]?=some (.ow y)):RD S Hs0 H0 Hs2 H2 σ (qX cap ε2 ε1):=by
 have hl:cap.length=ε2.length:=by rw [<- q.len];unfold i9;rw [yZ]
 have at1:∀(i:Nat)(s:MSlot),(qX cap ε2 ε1)[i]?=some s->(some i∉cap/\ε1[i]?=some s)∨∃ j:Nat,cap[j]?=some (some i)/\ε2[j]?=some s:=λi s h=>by
  by_cases hi:some i∈cap
  ·have hlt:i<ε1.length:=by have:=(yC.mp h).1;rwa [Zr] at this
   obtain ⟨j,h1,h2⟩:=Uh cap ε2 ε1 i hl hi hlt hc;exact .inr ⟨j,h1,h2▸h⟩
  ·exact .inl ⟨hi,Ui cap ε2 ε1 i hi▸h⟩
 have own0:∀ a,less (i9 cap σ) (qx cap ε1) H1 a=none->H0 a=none∨a∈S:=λa h=>by
  rcases BC h with h|⟨i,x,h1,h2⟩
  ·exact .inl (r.free0 h)
  ·obtain ⟨k,hk,hx⟩:=Kg h1;obtain ⟨c,hc',m0,_⟩:=r.ow k x hx;rw [vi hk h2] at hc';injection hc' with hc';injection hc' with hc';injection hc' with hc';rw [hc'];exact m0
 have keep:∀(k:Nat)(x:PV)(a:Addr),some k∉cap->ε1[k]?=some (.ow x)->σ[k]?=some (some (.ref a))->∀ o,H1 a=some o->less (i9 cap σ) (qx cap ε1) H1 a=some o:=λk x a hk hx ha o ho=>by
  cases z:less (i9 cap σ) (qx cap ε1) H1 a with
  |some u=>rw [<- ho,(VT z).1]
  |none =>
   rcases BC z with z|⟨i,y,h1,h2⟩
   ·rw [z] at ho;cases ho
   ·obtain ⟨m,hm,hy⟩:=Kg h1;have:=r.nd k m x y a hx hy ha (vi hm h2);subst this;exact absurd (yh hm) hk
 have ow':∀(i:Nat)(x:PV),(qX cap ε2 ε1)[i]?=some (.ow x)->∃ a,σ[i]?=some (some (.ref a))/\(H0 a=none∨a∈S)/\Hs2 a=none/\Top Hs2 H2 a x:=λi x h=>by
  rcases at1 i _ h with ⟨hi,e⟩|⟨j,hj,e⟩
  ·obtain ⟨a,ha,m0,m1,t⟩:=r.ow i x e;refine ⟨a,ha,m0,?_,t.mono q.s1 λo ho=>q.s2 a o (keep i x a hi e ha o ho) yf⟩;cases z:H1 a with
   |none=>exact absurd z t.there
   |some o=>exact q.s4 a (by rw [keep i x a hi e ha o z];exact λw=>nomatch w) m1
  ·obtain ⟨a,ha,m0,m1,t⟩:=q.ow j x e;exact ⟨a,vi hj ha,own0 a (m0.resolve_right yf),m1,t⟩
 have str':∀ a∈S,∃ y,(qX cap ε2 ε1)[0]?=some (.ow y):=λa hS=>st (r.str a hS);refine ⟨r.s1.trans q.s1,λb o e hS=>?_,q.s3,λb h z=>?_,λi x h=>?_,ow',λi j x y a h1 h2 h3 h4=>?_,by rw [Zr];exact r.len,r.pin,λb hS=>?_,str',λi x h=>by
  rcases at1 i _ h with ⟨_,e⟩|⟨j,_,e⟩
  ·exact r.nb i x e
  ·exact q.nb j x e⟩
 ·have e1:=r.s2 b o e hS;refine q.s2 b o ?_ yf;cases z:less (i9 cap σ) (qx cap ε1) H1 b with
  |some u=>rw [<- e1,(VT z).1]
  |none =>
   rcases own0 b z with w|w
   ·rw [w] at e;cases e
   ·exact absurd w hS
 ·have z1:=r.s4 b h z;by_cases hL:less (i9 cap σ) (qx cap ε1) H1 b=none
  ·rcases own0 b hL with w|w
   ·exact absurd w h
   ·obtain ⟨y,hy⟩:=str' b w;obtain ⟨a,ha,_,m1,_⟩:=ow' 0 y hy;rw [r.pin b w] at ha;injection ha with ha;injection ha with ha;injection ha with ha;rw [ha];exact m1
  ·exact q.s4 b hL z1
 ·rcases at1 i _ h with ⟨hi,e⟩|⟨j,hj,e⟩
  ·obtain ⟨v,hv,rv⟩:=r.sh i x e;exact ⟨v,hv,rv.mono q.s1⟩
  ·obtain ⟨v,hv,rv⟩:=q.sh j x e;exact ⟨v,vi hj hv,rv⟩
 ·rcases at1 i _ h1 with ⟨hi,e⟩|⟨k,hk,e⟩
  ·rcases at1 j _ h2 with ⟨hj,e'⟩|⟨l,hl',e'⟩
   ·exact r.nd i j x y a e e' h3 h4
   ·-- one of the block's own,one that it does not see
    obtain ⟨a',ha',m0,_,_⟩:=q.ow l y e';have ea:=vi hl' ha';rw [h4] at ea;injection ea with ea;injection ea with ea;injection ea with ea;subst ea;obtain ⟨c,hc1,_,_,t⟩:=r.ow i x e;rw [h3] at hc1;injection hc1 with hc1;injection hc1 with hc1;injection hc1 with hc1;subst hc1;cases z:H1 a with
    |none=>exact absurd z t.there
    |some o=>have w:=keep i x a hi e h3 o z;rw [m0.resolve_right yf] at w;cases w
  ·rcases at1 j _ h2 with ⟨hj,e'⟩|⟨l,hl',e'⟩
   ·obtain ⟨a',ha',m0,_,_⟩:=q.ow k x e;have ea:=vi hk ha';rw [h3] at ea;injection ea with ea;injection ea with ea;injection ea with ea;subst ea;obtain ⟨c,hc1,_,_,t⟩:=r.ow j y e';rw [h4] at hc1;injection hc1 with hc1;injection hc1 with hc1;injection hc1 with hc1;subst hc1;cases z:H1 a with
    |none=>exact absurd z t.there
    |some o=>have w:=keep j y a hj e' h4 o z;rw [m0.resolve_right yf] at w;cases w
   ·obtain ⟨a1,ha1,_⟩:=q.ow k x e;obtain ⟨a2,ha2,_⟩:=q.ow l y e';have e1:=vi hk ha1;have e2:=vi hl' ha2;rw [h3] at e1;rw [h4] at e2;injection e1 with e1;injection e1 with e1;injection e1 with e1;injection e2 with e2;injection e2 with e2;injection e2 with e2;subst e1;subst e2;have kl:=q.nd k l x y a e e' ha1 ha2;subst kl;rw [hk] at hl';injection hl' with hl';injection hl' with hl'
 ·obtain ⟨y,hy⟩:=str' b hS;obtain ⟨a,ha,_,_,t⟩:=ow' 0 y hy;rw [r.pin b hS] at ha;injection ha with ha;injection ha with ha;injection ha with ha;rw [ha];exact t.there
instance {cap:List (Option Nat)}{it:WA}{g:MG}{c:WT}{f:W}[si:SemWI wi it][sg:Uz tg ts g][sc:Xd tt c][sf:SemW te f]:SemW (JJ wi tg tt te cap) (jB cap ts it g c f) where
 h:=λ{ε Q'} h S Hs0 H0 Hs H σ rd Q k=>si.h h rd λxs ε1 J Hs1 H1 h1 rd1 g1 ok=>by
  obtain ⟨hcap,hl,h1⟩:=h1;unfold vY at hcap;rw [yi] at hcap;have hnd:=uV hcap.1;have wk:∀ i∈ts,(i9 cap σ)[i]?=some none:=λi hi=>by
   unfold i9;rw [yP,uV (uE.mp hcap.2 i hi)];rfl
  refine ⟨λn m zs H=>m=xs.length-n/\n<=xs.length/\∃ Hs2 ws ε2,RD [] Hs1 (less (i9 cap σ) (qx cap ε1) H1) Hs2 H (i9 cap σ) ε2/\Reps Hs2 ws zs/\ws.length<=n /\
    vP g c f ts (xs.drop n) ws ε2 (λys ε3=>((∃ y:PV,ε1[0]?=some (MSlot.ow y))->∃ y:PV,(qX cap ε3 ε1)[0]?=some (MSlot.ow y))/\Q' (PV.lst ys) (qX cap ε3 ε1)),
   ⟨xs.length,by simp,ya _,Hs1,[],_,rd1.block hnd,.nil,yW _,h1⟩,?_⟩
  rintro n m zs H2 ⟨rfl,hn,Hs2,ws,ε2,r2,rz,hw,h2⟩;refine ⟨zl (by rw [rz.length];omega),?_⟩;by_cases hlt:n<xs.length
  ·have hd:xs.drop n=xs[n]::xs.drop (n+1):=uD hlt;rw [hd] at h2;obtain ⟨ε3,e3,h3⟩:=h2;obtain ⟨go,yl⟩:=ok.go n xs[n] Hs2 H2 (by simp [hlt]) r2.s1 r2.s3;refine .inr ⟨go,λv H3 y=>?_⟩;obtain ⟨Hs3,x3,r3⟩:=yl v H3 y;refine sg.h e3 (r2.go x3) r3 λσ4 rd4 bt=>⟨bt.wk wk,sc.h h3 rd4 λb ε5 Hs5 H5 h5 rd5 g5=>?_⟩;cases b with
   |true=>refine zT (sf.h (by simpa using h5) rd5 λy ε6 u Hs6 H6 h6 rd6 g6 ru=>⟨xs.length-(n+1),by omega,rfl,hlt,Hs6,ws++[y],_,rd6.reset bt,?_,by rw [yM];simp;omega,h6⟩);exact (rz.mono (x3.s1.trans (g5.trans g6))).snoc ru
   |false=>exact zS ⟨xs.length-(n+1),by omega,rfl,hlt,Hs5,ws,_,rd5.reset bt,rz.mono (x3.s1.trans g5),by omega,by simpa using h5⟩
  ·have en:n=xs.length:=by omega
   subst en;rw [tT] at h2;refine .inl ⟨ok.stop Hs2 H2 r2.s1 r2.s3,λD hD=>?_⟩;have rd2:=rd1.unblock hnd r2 h2.1;exact k _ _ _ _ _ h2.2 (rd2.go (.new rd2.s3 hD)) (g1.trans (r2.s1.trans (Ext.new rd2.s3 hD).s1)) (rep_lst.mpr ⟨D,zs,rfl,g8,rz.mono (Ext.new rd2.s3 hD).s1⟩)
section
variable {P:Program}{w:World}{K:Fg}{mg:Str->Option Value}{base:Heap}
theorem wG {i:Nat}:(xs.map MSlot.sh++List.replicate n .no)[i]?≠some (.ow x):=λh=>by
 by_cases hi:i<xs.length
 ·rw [yc (by rw [yZ];exact hi),yP] at h;obtain ⟨y,_,z⟩:=yN.mp h;cases z
 ·rw [ym (by rw [yZ];omega),ug] at h;split at h<;>cases h
theorem WL {i:Nat}:(xs.map MSlot.sh++List.replicate n .no)[i]?≠some (.bo x):=λh=>by
 by_cases hi:i<xs.length
 ·rw [yc (by rw [yZ];exact hi),yP] at h;obtain ⟨y,_,z⟩:=yN.mp h;cases z
 ·rw [ym (by rw [yZ];omega),ug] at h;split at h<;>cases h
theorem Tv {a:Addr}{n:Int}(s:Same Hs H)(ha:Hs a=none)(hH:H a=some (.lst [.int n]))(r:Reps Hs xs ws):RD [a] Hs H Hs H (L2.start N (.ref a::ws)) (p9 n::xs.map .sh++List.replicate (N.length-(xs.length+1)) .no):=by
 have q:=vL (N:=N) (xs:= .at (.ref a)::xs) s (.cons (rep_at.mpr rfl) r);have tl:∀(i:Nat)(sl:MSlot),(p9 n::xs.map .sh++List.replicate (N.length-(xs.length+1)) .no)[i+1]?=some sl->((PV.at (.ref a)::xs).map MSlot.sh++List.replicate (N.length-(PV.at (.ref a)::xs).length) .no)[i+1]?=some sl:=λi sl h=>h;refine ⟨.refl _,λb o e _=>e,s,λ_ _ z=>z,λi x h=>?_,λi x h=>?_,λi j x y b h1 h2 _ _=>?_,?_,λb hb=>?_,λb hb=>?_,(λb hb=>⟨_,rfl⟩),λi x h=>by
  cases i with
  |zero=>unfold p9 at h;simp at h
  |succ i=>exact WL (xs:=PV.at (.ref a)::xs) (tl i _ h)⟩
 ·cases i with
  |zero=>unfold p9 at h;simp at h
  |succ i=>exact q.sh (i+1) x (tl i _ h)
 ·cases i with
  |zero=>unfold p9 at h;simp at h;subst h;refine ⟨a,?_,.inr (yI.mpr rfl),ha,_,hH,.one (rep_at.mpr rfl)⟩;unfold L2.start;rfl
  |succ i =>
   obtain ⟨c,h1,_⟩:=q.ow (i+1) x (tl i _ h);exact absurd (tl i _ h) λz=>by
    have:=wG (i:=i+1) (x:=x) (xs:=PV.at (.ref a)::xs) (n:=N.length-(PV.at (.ref a)::xs).length);exact this z
 ·cases i with
  |zero =>
   cases j with
   |zero=>rfl
   |succ j=>exact absurd (tl j _ h2) (wG (xs:=PV.at (.ref a)::xs))
  |succ i=>exact absurd (tl i _ h1) (wG (xs:=PV.at (.ref a)::xs))
 ·exact q.len
 ·rw [yI.mp hb];unfold L2.start;rfl
 ·rw [yI.mp hb,hH];exact λz=>nomatch z
theorem okD {x:Str}{f:Addr}{k:Nat}(F:Fun K x qual st f fd)(S:y6 N ps (j9 st))(hpre:∀ xs,pre xs->xs.length+1=ps.length)(hb:∀(cdv:Value)(A:Around)(outer:List Env)(s:Shared)(H:Hp)(E:XK),Room k (A.deeper (PyProof.Rows.envOfC qual (j9 st) s.heap.objs.size f cdv)) -> ∃ t,PSs (xN v9 P w K mg base N qual (j9 st) f cdv A outer s H E).nox (qz st) t/\SemWS t b)(hw:∀ xs n,pre xs->b (p9 n::xs.map .sh++List.replicate (N.length-(xs.length+1)) .no) (λ_=>False) λy ε=>R xs y/\zx 0 ε):FnOk P w K mg base v9 (k+1) f fd ps (spD pre R):=by
 refine F.ok S (λvs H Q E h=>?_) (λcdv A outer s H vs Q E hr h=>?_)
 ·obtain ⟨Hs,a,n,xs,ws,rfl,_,_,_,r,hp,_⟩:=h;rw [yE,r.length];exact hpre xs hp
 ·obtain ⟨Hs,a,n,xs,ws,rfl,sm,ha,hH,r,hp,q⟩:=h;obtain ⟨t,ht,sem⟩:=hb cdv A outer s H E hr;refine ⟨t,ht,sem.h (hw xs n hp) (Tv sm ha hH r) (λε σ Hs' H' z _ _=>z.elim) λy ε σ v Hs' H' hR rd g rv=>?_⟩;obtain ⟨hR,n',hn'⟩:=hR;obtain ⟨a',ha',hH',hs',_⟩:=rd.strm_at hn';rw [rd.pin a (yI.mpr rfl)] at ha';injection ha' with ha';injection ha' with ha';injection ha' with ha';subst ha';refine q y v n' Hs' H' hR ⟨g,λb o e hb=>rd.s2 b o e λz=>hb (yI.mp z),rd.s3,λb h z=>rd.s4 b h z⟩ hs' hH' rv
end
def spN (pre:List PV->Prop)(R:List PV->PV->Prop):Sp:=λvs H Q _=>∃ Hs xs,Same Hs H/\Reps Hs xs vs/\pre xs/\∀ y a Hs' H',R xs y->Ext Hs H Hs' H'->H a=none->Hs' a=none->Top Hs' H' a y->Q (.ref a) H'
def spV (pre:List PV->Prop)(R:List PV->PV->Prop):Sp:=λvs H Q _=>∃ Hs xs,Same Hs H/\Reps Hs xs vs/\pre xs/\∀ y v Hs' H',R xs y->Ext Hs H Hs' H'->Rep Hs' y v->Q v H'
def JO (i:Nat)(pre:List PV->Prop)(R:List PV->PV->Prop)(as:WA):WS:=λε N _=>as ε λxs ε1=>pre xs/\∀ y,R xs y->N (ε1.set i (.ow y))
instance {i:Nat}{as:WA}[sa:vU ta as]:SemWS (jg (ve (spN pre R) [] E ta) (xh (i+1))) (JO (i+1) pre R as) where
 h:=λh _ _ _ _ _ _ rd _ k _=>sa.h h rd λxs ε1 vs Hs1 H1 h1 rd1 g1 r1=>by
  refine ⟨Hs1,xs,rd1.s3,by rw [yp];exact r1,h1.1,λy a Hs' H' hR x n n' t=>?_⟩;refine k _ _ _ _ (h1.2 y hR) ((rd1.go x).putO (.inl (rd1.free0 n)) n' t λj z hj e=>?_) (g1.trans x.s1);obtain ⟨b,hb,_,_,tb⟩:=rd1.ow j z hj;rw [e] at hb;injection hb with hb;injection hb with hb;injection hb with hb;subst hb;exact tb.there n
def Dh (pre:List PV->Prop)(R:List PV->PV->Prop)(as:WA):W:=λε Q=>as ε λxs ε1=>pre xs/\∀ y,R xs y->Q y ε1
instance {as:WA}[sa:vU ta as]:SemW (ve (spV pre R) [] E ta) (Dh pre R as) where
 h:=λh _ _ _ _ _ _ rd _ k=>sa.h h rd λxs ε1 vs Hs1 H1 h1 rd1 g1 r1 =>
  ⟨Hs1,xs,rd1.s3,by rw [yp];exact r1,h1.1,λy v Hs' H' hR x rv=>k y ε1 v Hs' H' (h1.2 y hR) (rd1.go x) (g1.trans x.s1) rv⟩
section
variable {P:Program}{w:World}{K:Fg}{mg:Str->Option Value}{base:Heap}
theorem PK (s:Same Hs H)(r:Reps Hs xs vs):RD [] Hs H Hs H (L2.start N vs) (xs.map .sh++List.replicate (N.length-xs.length) .no):=by have q:=vL (N:=N) s r;exact ⟨.refl _,λb o e _=>e,s,λ_ _ z=>z,q.sh,λi x h=>absurd h wG,q.nd,q.len,(λ_ z=>nomatch z),(λ_ z=>nomatch z),(λ_ z=>nomatch z),λ_ _=>WL⟩
theorem okV {x:Str}{f:Addr}{k:Nat}(F:Fun K x qual st f fd)(S:y6 N ps (j9 st))(hpre:∀ xs,pre xs->xs.length=ps.length)(hb:∀(cdv:Value)(A:Around)(outer:List Env)(s:Shared)(H:Hp)(E:XK),Room k (A.deeper (PyProof.Rows.envOfC qual (j9 st) s.heap.objs.size f cdv)) -> ∃ t,PSs (xN v9 P w K mg base N qual (j9 st) f cdv A outer s H E).nox (qz st) t/\SemWS t b)(hw:∀ xs,pre xs->b (xs.map .sh++List.replicate (N.length-xs.length) .no) (λ_=>False) λy _=>R xs y):FnOk P w K mg base v9 (k+1) f fd ps (spV pre R):=by
 refine F.ok S (λvs H Q E h=>?_) (λcdv A outer s H vs Q E hr h=>?_)
 ·obtain ⟨Hs,xs,_,r,hp,_⟩:=h;rw [r.length];exact hpre xs hp
 ·obtain ⟨Hs,xs,sm,r,hp,q⟩:=h;obtain ⟨t,ht,sem⟩:=hb cdv A outer s H E hr;refine ⟨t,ht,sem.h (hw xs hp) (PK sm r) (λε σ Hs' H' z _ _=>z.elim) λy ε σ v Hs' H' hR rd g rv=>?_⟩;exact q y v Hs' H' hR ⟨g,λb o e=>rd.s2 b o e yf,rd.s3,rd.s4⟩ rv
def scr (K:Fg)(ns:List Int):PV:= .op λH v=>∃ a,v = .ref a/\SqL K H a (ns.map V.int)
theorem SF {K:Fg}{ns:List Int}(s:Same Hs H)(r:Rep Hs (scr K ns) v):∃ a,v = .ref a/\SqL K H a (ns.map V.int):=by obtain ⟨H1,s1,a,rfl,q⟩:=rep_op.mp r;exact ⟨a,rfl,(s1.trans s).seq q⟩
def Zk (K:Fg):Sp:=λvs H Q _=>∃(a:Addr)(ns:List Int),vs=[.ref a]/\SqL K H a (ns.map V.int)/\ns.length<=63/\∀ H',Q (.bl true) H'
theorem okL {x:Str}{f:Addr}{k:Nat}(F:Fun K x qual st f fd)(S:y6 N ["script"] (j9 st))(hb:∀ (cdv:Value) (A:Around) (outer:List Env) (s:Shared) (H:Hp) (E:XK),Room k (A.deeper (PyProof.Rows.envOfC qual (j9 st) s.heap.objs.size f cdv)) -> ∃ t,PSs (xN v9 P w K mg base N qual (j9 st) f cdv A outer s H E).nox (qz st) t/\SemWS t b)(hw:∀ ns:List Int,ns.length<=63->b (.sh (scr K ns)::List.replicate (N.length-1) .no) (λ_=>False) λy _=>y = .at (.bl true)):FnOk P w K mg base v9 (k+1) f fd ["script"] (Zk K):=by
 refine F.ok S (λvs H Q E h=>?_) (λcdv A outer s H vs Q E hr h=>?_)
 ·obtain ⟨a,ns,rfl,_⟩:=h;rfl
 ·obtain ⟨a,ns,rfl,hS,h63,q⟩:=h;obtain ⟨t,ht,sem⟩:=hb cdv A outer s H E hr;have r:Reps H [scr K ns] [.ref a]:= .one (rep_op.mpr ⟨H,.refl _,a,rfl,hS⟩);refine ⟨t,ht,sem.h (hw ns h63) (PK (N:=N) (.refl H) r) (λε σ Hs' H' z _ _=>z.elim) λy ε σ v Hs' H' hR rd g rv=>?_⟩;subst hR;cases rep_at.mp rv;exact q H'
end
variable {fr:Bool}
def Kz (i j:Nat)(a:M):MS:=λε=>(a ε).bind λx=>match x,ε[i]? with
 | .at (.int k),some (.ow (.lst xs))=>if 0<=k/\k<xs.length/\xs.length<=lim then (xs[k.toNat]?).bind λy=>some (.nx ((ε.set i (.ow (.lst (xs.eraseIdx k.toNat)))).set j (.sh y))) else none
 |_,_=>none
instance {i j:Nat}{a:M}[sa:SemE te a]:qd fr (jg (tBM K "list" WG (qF i) (i5 te qt)) (xh j)) (Kz i j a) where
 h:=λe _ _ _ _ _ rs _ q=>by
  obtain ⟨x,ex,e1⟩:=bind_some e;split at e1
  ·rename_i k xs hi;split at e1
   ·rename_i hk;obtain ⟨y,hy,e2⟩:=bind_some e1;cases e2;obtain ⟨p,hp,n0,n,vs,hv,rv⟩:=rs.ow i _ hi;refine ⟨_,hp,.inl ⟨rfl,vs,SqL.of hv⟩,sa.h ex rs λv Hs1 H1 x1 r1=>?_⟩;cases rep_at.mp r1;have hv1:=x1.s2 _ _ hv;have rv1:=rv.mono x1.s1;obtain ⟨u,hu,ru⟩:=rv1.get hy;have hlim:lim=1000000:=rfl;refine ⟨p,vs,k,k.toNat,u,rfl,rfl,hv1,by omega,by omega,?_,hu,q _ _ _ (((rs.go x1).change (y:= .lst (xs.eraseIdx k.toNat)) hi hp ⟨_,g8,rv1.eraseIdx k.toNat⟩).put ru)⟩;unfold seqIndex?;have e1:(if k<0 then k+(vs.length:Int) else k)=k:=if_neg (by omega);simp only [e1];rw [if_pos];rw [rv.length];simp only [yi,decide_eq_true_eq];exact ⟨hk.1,hk.2.1⟩
   ·cases e1
  ·cases e1
def Kv (i:Nat)(a b:M):MS:=λε=>(a ε).bind λx=>(b ε).bind λy=>match x,ε[i]? with
 | .at (.int k),some (.ow (.lst xs))=>if 0<=k/\k<=xs.length/\xs.length<1000 then some (.nx (ε.set i (.ow (.lst (xs.take k.toNat++y::xs.drop k.toNat))))) else none
 |_,_=>none
instance {i:Nat}{tb:TE}{a b:M}[sa:SemE te a][sb:SemE tb b]:qd fr (vO (tBM K "list" Pu (qF i) (i5 te (i5 tb qt)))) (Kv i a b) where
 h:=λe _ _ _ _ _ rs _ q=>by
  obtain ⟨x,ex,e1⟩:=bind_some e;obtain ⟨y,ey,e2⟩:=bind_some e1;split at e2
  ·rename_i k xs hi;split at e2
   ·rename_i hk;cases e2;obtain ⟨p,hp,n0,n,vs,hv,rv⟩:=rs.ow i _ hi;refine ⟨_,hp,.inl ⟨rfl,vs,SqL.of hv⟩,sa.h ex rs λv Hs1 H1 x1 r1=>sb.h ey (rs.go x1) λu Hs2 H2 x2 r2=>?_⟩;cases rep_at.mp r1;have x12:=x1.trans x2;have hv1:=x12.s2 _ _ hv;have rv1:=rv.mono x12.s1;exact ⟨p,vs,k,u,rfl,rfl,hv1,hk.1,by rw [rv.length];exact hk.2.1,by rw [rv.length];exact hk.2.2,q _ _ _ ((rs.go x12).change hi hp ⟨_,g8,(rv1.take k.toNat).append (.cons r2 (rv1.drop k.toNat))⟩)⟩
   ·cases e2
  ·cases e2
class xt (w:W):Prop where
 h:∀{ε:ME}{P P':PV->ME->Prop},(∀ y e,P y e->P' y e)->w ε P->w ε P'
class wS (w:WA):Prop where
 h:∀{ε:ME}{P P':List PV->ME->Prop},(∀ y e,P y e->P' y e)->w ε P->w ε P'
class wU (w:WT):Prop where
 h:∀{ε:ME}{P P':Bool->ME->Prop},(∀ y e,P y e->P' y e)->w ε P->w ε P'
class zA (w:WS):Prop where
 h:∀{ε:ME}{N N':ME->Prop}{R R':PV->ME->Prop},(∀ e,N e->N' e)->(∀ y e,R y e->R' y e)->w ε N R->w ε N' R'
instance {f:M}:xt (wP f) where h:=λk ⟨y,e,q⟩=>⟨y,e,k _ _ q⟩
instance {f:MB}:wU (wPT f) where h:=λk ⟨y,e,q⟩=>⟨y,e,k _ _ q⟩
instance {g:PV->PV->Option PV}{b:W}[A:xt a][B:xt b]:xt (xK g a b) where h:=λk h=>A.h (λ_ _ h1=>B.h (λ_ _ ⟨z,e,q⟩=>⟨z,e,k _ _ q⟩) h1) h
instance:wU jj where h:=λk h=>k _ _ h
theorem VL {c:Bool}{A B A' B':Prop}(h1:A->A')(h2:B->B')(h:if c=true then A else B):if c=true then A' else B':=by
 cases c with
 |true=>exact zT (h1 (by simpa using h))
 |false=>exact zS (h2 (by simpa using h))
instance:wS qQ where h:=λk h=>k _ _ h
instance [A:xt a][B:wS r]:wS (b8 a r) where h:=λk h=>A.h (λ_ _ h1=>B.h (λ_ _ h2=>k _ _ h2) h1) h
instance {i:Nat}[A:xt a]:xt (qB i a) where h:=λk h=>⟨h.1,A.h (λ_ _ ⟨n,m,e1,e2,e3,q⟩=>⟨n,m,e1,e2,e3,k _ _ q⟩) h.2⟩
instance {i:Nat}{a:WA}[A:wS a]:xt (zw i pre R a) where h:=λk h=>⟨h.1,A.h (λ_ _ ⟨h1,h2,h3⟩=>⟨h1,h2,λy n r=>k _ _ (h3 y n r)⟩) h.2⟩
instance {i:Nat}[A:xt a]:xt (Zv i a) where h:=λk h=>⟨h.1,A.h (λ_ _ ⟨xs,j,y,e1,e2,e3,e4,e5,e6,q⟩=>⟨xs,j,y,e1,e2,e3,e4,e5,e6,k _ _ q⟩) h.2⟩
instance {f:MA}:wS (wIp f) where h:=λk ⟨y,e,q⟩=>⟨y,e,k _ _ q⟩
theorem Us {g:MG}{c:WT}{f:W}{ts:List Nat}[C:wU c][F:xt f]{Q Q':List PV->ME->Prop}(k:∀ y e,Q y e->Q' y e):∀(xs ys:List PV)(ε:ME),vP g c f ts xs ys ε Q->vP g c f ts xs ys ε Q'
 |[],ys,ε,h=>k _ _ h
 |x::xs,ys,ε,h=>by
  obtain ⟨ε1,e1,h1⟩:=h;exact ⟨ε1,e1,C.h (λb ε2 h2=>VL (λh3=>F.h (λy ε3 h4=>Us k xs _ _ h4) h3) (λh3=>Us k xs _ _ h3) h2) h1⟩
instance {cap:List (Option Nat)}{it:WA}{g:MG}{c:WT}{f:W}[I:wS it][C:wU c][F:xt f]:xt (jB cap ts it g c f) where
 h:=λk h=>I.h (λ_ _ ⟨h1,h2,h3⟩=>⟨h1,h2,Us (λ_ _ ⟨q1,q2⟩=>⟨q1,k _ _ q2⟩) _ _ _ h3⟩) h
instance:zA xS where h:=λk _ h=>k _ h
instance {a:WS}[A:zA a][B:zA b]:zA (wSeq a b) where h:=λk r h=>A.h (λ_ h1=>B.h k r h1) r h
instance {i:Nat}[A:xt a]:zA (ql i a) where h:=λk _ h=>A.h (λ_ _ h1=>k _ h1) h
instance {i:Nat}{f:M}:zA (wN i f) where h:=λk _ ⟨x,e,q⟩=>⟨x,e,k _ q⟩
instance [A:xt a]:zA (qY a) where h:=λ_ r h=>A.h r h
instance {c:WT}{a:WS}[C:wU c][A:zA a][B:zA b]:zA (xB c a b) where h:=λk r h=>C.h (λ_ _ h1=>VL (λh2=>A.h k r h2) (λh2=>B.h k r h2) h1) h
instance {i:Nat}[A:xt a]:zA (wM i a) where h:=λk _ h=>⟨h.1,A.h (λ_ _ ⟨xs,e1,e2,q⟩=>⟨xs,e1,e2,k _ q⟩) h.2⟩
theorem Vl {g:MG}{c:WT}{f:W}{ts:List Nat}{Q:List PV->ME->Prop}[C:wU c][F:xt f](I:List PV->List PV->ME->Prop)(hd:∀ ys ε,I [] ys ε->Q ys ε)(hs:∀ x xs ys ε,I (x::xs) ys ε->∃ ε1,g x ε=some ε1/\c ε1 λb ε2=>if b=true then f ε2 λy ε3=>I xs (ys++[y]) (rst ts ε3) else I xs ys (rst ts ε2)):∀(xs ys:List PV)(ε:ME),I xs ys ε->vP g c f ts xs ys ε Q
 |[],ys,ε,h=>hd ys ε h
 |x::xs,ys,ε,h=>by
  obtain ⟨ε1,e1,h1⟩:=hs x xs ys ε h;exact ⟨ε1,e1,C.h (λb ε2 h2=>VL (λh3=>F.h (λy ε3 h4=>Vl I hd hs xs _ _ h4) h3) (λh3=>Vl I hd hs xs _ _ h3) h2) h1⟩
theorem Xf {g:MG}{f:W}{Q:List PV->ME->Prop}[F:xt f](I:List PV->List PV->ME->Prop)(hd:∀ ys ε,I [] ys ε->Q ys ε)(hs:∀ x xs ys ε,I (x::xs) ys ε->∃ ε1,g x ε=some ε1/\f ε1 λy ε3=>I xs (ys++[y]) (rst ts ε3))(xs ys:List PV)(ε:ME)(h:I xs ys ε):vP g jj f ts xs ys ε Q :=
 Vl I hd (λx xs ys ε h=>by
  obtain ⟨ε1,e,q⟩:=hs x xs ys ε h;refine ⟨ε1,e,?_⟩;show if true=true then (f ε1 λy ε3=>I xs (ys++[y]) (rst ts ε3)) else I xs ys (rst ts ε1)
  rw [if_pos rfl];exact q) xs ys ε h
theorem VX {g:MG}{f:WS}{N:ME->Prop}{R:PV->ME->Prop}[F:zA f](I:List PV->ME->Prop)(hd:∀ ε,I [] ε->N ε)(hs:∀ x xs ε,I (x::xs) ε->∃ ε1,g x ε=some ε1/\f ε1 (λε2=>I xs ε2) R):∀(xs:List PV)(ε:ME),I xs ε->Zu g f xs ε N R
 |[],ε,h=>hd ε h
 |x::xs,ε,h=>by
  obtain ⟨ε1,e1,h1⟩:=hs x xs ε h;exact ⟨ε1,e1,F.h (λε2 h2=>VX I hd hs xs ε2 h2) (λ_ _ z=>z) h1⟩
section
variable {ε ε1:ME}{a b:MS}{f g:M}{x y z:PV}{i:Nat}{o:Option Out}
theorem y0 (h:a ε=some (.nx ε1))(k:b ε1=o):j7 a b ε=o:=by unfold j7;rw [h];exact k
theorem Xn (h:a ε=some (.rt y)):j7 a b ε=some (.rt y):=by unfold j7;rw [h];rfl
theorem m3 (h:f ε=some x):u8 i f ε=some (.nx (ε.set i (.sh x))):=by unfold u8;rw [h];rfl
theorem Xp (h:f ε=some x):vm i f ε=some (.nx (ε.set i (.ow x))):=by unfold vm;rw [h];rfl
theorem p7 (h:f ε=some x):y8 f ε=some (.rt x):=by unfold y8;rw [h];rfl
theorem y3 {G:PV->PV->Option PV}{r:Option PV}(h1:f ε=some x)(h2:g ε=some y)(h:G x y=r):x9 G f g ε=r:=by unfold x9;rw [h1];show Option.bind (g ε) _=_;rw [h2];exact h
theorem j5 {r:Option PV}(h1:as ε=some xs)(h:m xs=r):x8 m as ε=r:=by unfold x8;rw [h1];exact h
theorem y7 {r:MA}(h1:f ε=some x)(h2:r ε=some xs):q0 f r ε=some (x::xs):=by unfold q0;rw [h1];show Option.bind (r ε) _=_;rw [h2];rfl
theorem Qt (h:c ε=some true)(k:a ε=o):b9 c a b ε=o:=by unfold b9;rw [h];exact k
theorem qg (h:c ε=some false)(k:b ε=o):b9 c a b ε=o:=by unfold b9;rw [h];exact k
theorem xP (h:it ε=some xs)(k:o7 G a xs ε=o):xE it G a ε=o:=by unfold xE;rw [h];exact k
theorem Xq {lo hi:Option Int}(h1:f ε=some (.lst xs))(h2:l ε=some lo)(h3:u ε=some hi):jI f l u ε=some (.lst (zP xs lo hi)):=by unfold jI;rw [h1];show Option.bind (l ε) _=_;rw [h2];show Option.bind (u ε) _=_;rw [h3];rfl
theorem vn (h:as ε=some xs)(hl:xs.length<=lim):xw as ε=some (.lst xs):=by unfold xw;rw [h];show (if _ then _ else _)=_;rw [if_pos hl]
theorem xV (h:as ε=some xs)(hl:xs.length<=lim):qm as ε=some (.tup xs):=by unfold qm;rw [h];show (if _ then _ else _)=_;rw [if_pos hl]
theorem Vx {cap:List (Option Nat)}(h:it ε=some xs)(hc:vY cap ts=true)(hl:xs.length<=lim)(k:zh G c f (qx cap ε) xs=some ys):m8 cap ts it G c f ε=some (.lst ys):=by unfold m8;rw [h];show (if _ then _ else _)=_;rw [if_pos ⟨hc,hl⟩,k];rfl
end
theorem Jv (h:xs.length+ys.length<=lim):o6 (.lst xs) (.lst ys)=some (.lst (xs++ys)):=by show (if _ then _ else _)=_;rw [if_pos h]
theorem xO {k:Nat}{b:MS}(hl:xs.length=k)(h:b (xs.map .sh++List.replicate (n-k) .no)=some (.rt y)):qy n k b xs=some y:=by unfold qy;rw [if_pos hl,h];rfl
theorem i7 {k:Nat}{b:MS}(hl:xs.length=k)(h:b (xs.map .sh++List.replicate (n-k) .no)=some (.rt y)):c5 n k b xs=some y:=by unfold c5;rw [if_pos hl,h];rfl
theorem Wt {f:PV->PV->Option Bool}:∀{xs:List PV},(∀ x∈xs,f x x=some true)->jb f xs xs=some true
 |[],_=>rfl
 |x::xs,h=>by unfold jb;rw [h x yT];show Option.bind (jb f xs xs) _=_;rw [Wt λy hy=>h y (yV _ hy)];rfl
def vI:Nat->PV->Prop
 |_,.at u=>k6 u=true
 |n+1,.lst xs=>∀ x∈xs,vI n x
 |n+1,.tup xs=>∀ x∈xs,vI n x
 |_,_=>False
theorem Jz:∀(n:Nat){x:PV},vI n x->peq n x x=some true
 |0,x,h=>by
  cases x with
  |«at» u=>show (if _ then _ else _)=_;rw [if_pos ⟨h,h⟩,ZP h]
  |_=>exact h.elim
 |n+1,x,h=>by
  cases x with
  |«at» u=>show (if _ then _ else _)=_;rw [if_pos ⟨(show k6 u=true from h),h⟩,ZP h]
  |lst xs=>show (if _ then _ else _)=_;rw [if_pos rfl];exact Wt λy hy=>Jz n (h y hy)
  |tup xs=>show Option.bind (jb (peq n) xs xs) _=_;rw [Wt λy hy=>Jz n (h y hy)];show some (true&&(xs.length==xs.length))=_;rw [beq_self_eq_true];rfl
  |_=>exact h.elim
theorem Ru (h:vI 6 x):qK x x=some (.at (.bl true)):=by unfold qK;rw [Jz 6 h];rfl
theorem QM (h:vI 6 x):qL x x=some (.at (.bl false)):=by unfold qL;rw [Jz 6 h];rfl
class zy (K:Fg)(C:Addr):Prop where
 c:Cls K C
class xa (K:Fg)(C:Addr)(f:Str):Prop where
 n:NoAttr K C f
def Qy (f:Str):List Str->List PV->Option PV
 |n::ns,x::xs=>if f=n then some x else Qy f ns xs
 |_,_=>none
theorem BD {H:Hp}{f:Str}{y:PV}:∀{fs:List (Str×V)}{xs:List PV},Reps H xs (fs.map (·.2))->Qy f (fs.map (·.1)) xs=some y->∃ v,fs.lookup f=some v/\Rep H y v
 |[],xs,r,h=>by cases xs<;>cases h
 |p::fs,xs,r,h=>by
  cases xs with
  |nil=>cases h
  |cons x xs =>
   obtain ⟨v,w,e,p1,p2⟩:=reps_cons.mp r;rw [yO] at e;injection e with e1 e2;subst e1 e2;rw [yO] at h;unfold Qy at h;rw [uP];split at h
   ·rename_i hf;cases h;rw [hf,beq_self_eq_true];exact ⟨p.2,rfl,p1⟩
   ·rename_i hf;rw [beq_eq_false_iff_ne.mpr hf];exact BD p2 h
def xZ (C:Addr)(f:Str)(a:M):M:=λε=>(a ε).bind λx=>match x with
 | .ob C' ns xs=>if C'=C then Qy f ns xs else none
 |_=>none
theorem Ms {a:M}(h:xZ C f a ε=some y):∃ ns xs,a ε=some (.ob C ns xs)/\Qy f ns xs=some y:=by
 unfold xZ at h;obtain ⟨x,ex,h1⟩:=bind_some h;split at h1
 ·split at h1
  ·rename_i hc;subst hc;exact ⟨_,_,ex,h1⟩
  ·cases h1
 ·cases h1
instance {a:M}[c:zy K C][n:xa K C f][s:qc te a]:SemE (tFld K te f) (xZ C f a) where
 h:=λe _ _ _ _ _ rs _ q=>by
  obtain ⟨ns,xs,ea,el⟩:=Ms e;refine s.h ea rs λv Hs1 H1 x1 r1=>?_;obtain ⟨p,dx,fs,rfl,hp,hk,hr⟩:=PP x1.s3 r1;rw [<- hk] at el;obtain ⟨u,hu,ru⟩:=BD hr el;exact ⟨p,C,dx,fs,u,rfl,hp,c.c,n.n,hu,q u _ _ x1 ru⟩
theorem vH {ta:TE}(hK:X.K=K)(he:PE X e ta)(hb:attributeBase e f X.env (eval e X.env)=eval e X.env:=by rfl):PE X (.Attribute e f pos) (tFld K ta f):=by subst hK;exact RC he hb
structure Mt (P:Program)(w:World)(K:Fg)(mg:Str->Option Value)(base:Heap)(k:Nat)(C:Addr)(m:Str)(ps:List Str)(sp:Sp):Prop where
 ex:∃ f fd,FnOk P w K mg base v9 k f fd ps sp/\Xa K C m f/\Cls K C/\Binds K fd ps []
section
variable {X:Cx}{k j:Nat}{C:Addr}{m:Str}{ps:List Str}{sp:Sp}{o e:Expr}{es:List Expr}{ta:TE}{t:TA}{apos pos:Pos}
theorem QN (c:Mt X.prog X.w X.K X.mg X.base k C m ps sp)(hr:Room j X.A)(hj:k<=j)(ho:PE X o ta)(ha:PA X (e::es) t)
  (hst:starEach (e::es) X.env=(false,eval e X.env)::starEach es X.env:=by rfl) (hpl:(backTo pos (starEach es X.env)).any (·.1)=false:=by rfl)
  (ht:eval (.Call (.Attribute o m apos) (e::es) [] pos) X.env=(do
   let ov <- eval o X.env
   standAt apos.atName
   let (f,first) <- holding [ov] (getMethod ov m pl)
   callWith pos f first (backTo pos (starEach (e::es) X.env)) (backToKw pos (keywordEach [] X.env))):=by rfl) :
  PE X (.Call (.Attribute o m apos) (e::es) [] pos) (wK C m sp [] E0 ta t):=by
 obtain ⟨f,fd,F,hm,hc,hb⟩:=c.ex;exact RJ ho hc hm F (hr.mono hj) hb .nil Jw ha hst hpl ht
theorem XV (c:Mt X.prog X.w X.K X.mg X.base k C m ps sp)(hr:Room j X.A)(hj:k<=j)(ho:PE X o ta)
  (ht:eval (.Call (.Attribute o m apos) [] [] pos) X.env=(do
   let ov <- eval o X.env
   standAt apos.atName
   let (f,first) <- holding [ov] (getMethod ov m pl)
   callWith pos f first (backTo pos (starEach [] X.env)) (backToKw pos (keywordEach [] X.env))):=by rfl) :
  PE X (.Call (.Attribute o m apos) [] [] pos) (wK C m sp [] E0 ta qt):=by
 obtain ⟨f,fd,F,hm,hc,hb⟩:=c.ex;exact RK ho hc hm F (hr.mono hj) hb .nil Jw ht
end
variable {fr:Bool}
def jq (c:MB)(b:MS):Nat->MS
 |0=>λ_=>none
 |n+1=>λε=>(c ε).bind λk=>if k=true then (b ε).bind λo=>match o with
  | .nx ε'=>jq c b n ε'
  | .ct ε'=>jq c b n ε'
  | .bk ε'=>some (.nx ε')
  | .rt y=>some (.rt y) else some (.nx ε)
instance {t:TT}{b:MS}[sc:xD t c][sb:qd fr tb b]:qd fr (CI t tb) (jq c b n) where
 h:=λ{ε o} e Hs0 H0 Hs H σ rs D q=>by
  refine ⟨λm σ H=>∃ Hs ε,RS Hs0 H0 Hs H σ ε/\jq c b m ε=some o,⟨n,Hs,ε,rs,e⟩,?_⟩;rintro m σ1 H1 ⟨Hs1,ε1,r1,e1⟩;cases m with
  |zero=>cases e1
  |succ m =>
   unfold jq at e1;obtain ⟨k,ek,e2⟩:=bind_some e1;refine sc.h ek r1 λHs2 H2 x2=>?_;cases k with
   |true =>
    rw [if_pos rfl] at e2;obtain ⟨o1,eo,e3⟩:=bind_some e2;refine zT ⟨λσ' H'=>∃ Hs ε,RS Hs0 H0 Hs H' σ' ε/\jq c b m ε=some o,λσ' H' p=>⟨m,uk m,p⟩,sb.h eo (r1.go x2) ?_⟩;cases o1 with
    |nx ε'=>exact λHs3 H3 σ3 r3=>⟨Hs3,ε',r3,e3⟩
    |ct ε'=>exact λHs3 H3 σ3 r3=>⟨Hs3,ε',r3,e3⟩
    |bk ε'=>cases e3;exact q
    |rt y=>cases e3;exact q
   |false=>rw [if_neg yS] at e2;cases e2;exact zS (q _ _ _ (r1.go x2))
def zk:PV->Option j6
 | .at (.int i)=>some (.inl i)
 | .at (.str x)=>some (.inr x)
 |_=>none
theorem vq {k:j6}(r:RepB Hs H x v)(h:zk x=some k):v=kV k:=by
 unfold zk at h;split at h
 ·cases h;cases c8 r;rfl
 ·cases h;cases c8 r;rfl
 ·cases h
def qU (k:j6):List j6->List PV->Option PV
 |n::ns,x::xs=>if n=k then some x else qU k ns xs
 |_,_=>none
theorem Ja {H:Hp}{k:j6}:∀{kvs:List (j6×V)}{xs:List PV},Reps H xs (kvs.map (·.2))->match qU k (kvs.map (·.1)) xs with
  |some y=>∃ v,xr kvs k=some v/\Rep H y v
  |none=>xr kvs k=none
 |[],xs,r=>by
  have hx:xs=[]:=uy.mp r.length.symm;subst hx;rfl
 |p::kvs,xs,r=>by
  cases xs with
  |nil=>have:=r.length;simp at this
  |cons x xs =>
   obtain ⟨v,w,e,p1,p2⟩:=reps_cons.mp r;rw [yO] at e;injection e with e1 e2;subst e1 e2;rw [yO];unfold qU;by_cases hk:p.1=k
   ·rw [if_pos hk];refine ⟨p.2,?_,p1⟩;unfold xr;rw [uC,yH hk];rfl
   ·rw [if_neg hk];have ih:=Ja (k:=k) p2;have ev:xr (p::kvs) k=xr kvs k:=by unfold xr;rw [uC,yK hk]
    rw [ev];exact ih
def qf (a b:M):M:=λε=>(a ε).bind λx=>(b ε).bind λy=>(zk y).bind λk=>match x with
 | .dk ks xs=>qU k ks xs
 | .fk ks xs=>qU k ks xs
 |_=>none
instance {a b:M}[sa:qc td a][sb:qc ty b]:SemE (Cz td ty) (qf a b) where
 h:=λe _ _ _ _ _ rs _ q=>by
  obtain ⟨x,ex,e1⟩:=bind_some e;obtain ⟨y,ey,e2⟩:=bind_some e1;obtain ⟨k,ek,e3⟩:=bind_some e2;split at e3
  ·refine sa.h ex rs λv Hs1 H1 x1 r1=>sb.h ey (rs.go x1) λw Hs2 H2 x2 r2=>?_;obtain ⟨p,kvs,rfl,hp,hk,hr⟩:=vK x2.s3 (r1.ext x2);have l:=Ja (k:=k) hr;rw [hk,e3] at l;obtain ⟨u,hu,ru⟩:=l;have ew:=vq r2 ek;subst ew;exact ⟨p,u,rfl,by rw [<- hu];exact DGet.k hp,q u _ _ (x1.trans x2) ru⟩
  ·refine sa.h ex rs λv Hs1 H1 x1 r1=>sb.h ey (rs.go x1) λw Hs2 H2 x2 r2=>?_;obtain ⟨p,o,kvs,rfl,hp,hk,hr⟩:=Zd x2.s3 (r1.ext x2);have l:=Ja (k:=k) hr;rw [hk,e3] at l;obtain ⟨u,hu,ru⟩:=l;have ew:=vq r2 ek;subst ew;exact ⟨p,u,rfl,by rw [<- hu];exact .inl ⟨kvs,k,.inr ⟨o,hp⟩,rfl,rfl⟩,q u _ _ (x1.trans x2) ru⟩
  ·cases e3
def dDIn (b a:M):M:=λε=>(b ε).bind λy=>(a ε).bind λx=>(zk y).bind λk=>match x with
 | .dk ks xs=>some (.at (.bl (qU k ks xs).isSome))
 | .fk ks xs=>some (.at (.bl (qU k ks xs).isSome))
 |_=>none
def ZJ (b a:M):M:=λε=>(b ε).bind λy=>(a ε).bind λx=>(zk y).bind λk=>match x with
 | .dk ks xs=>some (.at (.bl (!(qU k ks xs).isSome)))
 | .fk ks xs=>some (.at (.bl (!(qU k ks xs).isSome)))
 |_=>none
theorem Xw {k:j6}(r:Reps H xs (kvs.map (·.2))):(qU k (kvs.map (·.1)) xs).isSome=(xr kvs k).isSome:=by
 have l:=Ja (k:=k) r;cases e:qU k (kvs.map (·.1)) xs with
 |none=>rw [e] at l;rw [show xr kvs k=none from l];rfl
 |some y=>rw [e] at l;obtain ⟨v,hv,_⟩:=l;rw [hv];rfl
instance {a b:M}[sa:qc td a][sb:qc ty b]:SemE (tDIn ty td) (dDIn b a) where
 h:=λe _ _ _ _ _ rs _ q=>by
  obtain ⟨y,ey,e1⟩:=bind_some e;obtain ⟨x,ex,e2⟩:=bind_some e1;obtain ⟨k,ek,e3⟩:=bind_some e2;split at e3
  ·cases e3;refine sb.h ey rs λw Hs1 H1 x1 r1=>sa.h ex (rs.go x1) λv Hs2 H2 x2 r2=>?_;obtain ⟨p,kvs,rfl,hp,hk,hr⟩:=vK x2.s3 r2;have ew:=vq r1 ek;subst ew;exact ⟨p,_,rfl,DGet.k hp,q _ _ _ (x1.trans x2) (rep_at.mpr (by rw [<- hk,Xw hr]))⟩
  ·cases e3;refine sb.h ey rs λw Hs1 H1 x1 r1=>sa.h ex (rs.go x1) λv Hs2 H2 x2 r2=>?_;obtain ⟨p,o,kvs,rfl,hp,hk,hr⟩:=Zd x2.s3 r2;have ew:=vq r1 ek;subst ew;exact ⟨p,_,rfl,.inl ⟨kvs,_,.inr ⟨o,hp⟩,rfl,rfl⟩,q _ _ _ (x1.trans x2) (rep_at.mpr (by rw [<- hk,Xw hr]))⟩
  ·cases e3
instance {a b:M}[sa:qc td a][sb:qc ty b]:SemE (CB ty td) (ZJ b a) where
 h:=λe _ _ _ _ _ rs _ q=>by
  obtain ⟨y,ey,e1⟩:=bind_some e;obtain ⟨x,ex,e2⟩:=bind_some e1;obtain ⟨k,ek,e3⟩:=bind_some e2;split at e3
  ·cases e3;refine sb.h ey rs λw Hs1 H1 x1 r1=>sa.h ex (rs.go x1) λv Hs2 H2 x2 r2=>?_;obtain ⟨p,kvs,rfl,hp,hk,hr⟩:=vK x2.s3 r2;have ew:=vq r1 ek;subst ew;exact ⟨p,_,rfl,DGet.k hp,q _ _ _ (x1.trans x2) (rep_at.mpr (by rw [<- hk,Xw hr]))⟩
  ·cases e3;refine sb.h ey rs λw Hs1 H1 x1 r1=>sa.h ex (rs.go x1) λv Hs2 H2 x2 r2=>?_;obtain ⟨p,o,kvs,rfl,hp,hk,hr⟩:=Zd x2.s3 r2;have ew:=vq r1 ek;subst ew;exact ⟨p,_,rfl,.inl ⟨kvs,_,.inr ⟨o,hp⟩,rfl,rfl⟩,q _ _ _ (x1.trans x2) (rep_at.mpr (by rw [<- hk,Xw hr]))⟩
  ·cases e3
def Ky:M:=λ_=>some (.dk [] [])
instance:zf CA Ky where
 h:=λe _ _ _ _ _ rs _ q=>by
  cases e;exact λp hp=>q p _ _ (.newO rs.sub hp) hp (rs.sub.free hp) ⟨[],g8,rfl,.nil⟩
def Zc (k:j6)(y:PV):List j6->List PV->List PV
 |n::ns,x::xs=>if n=k then y::Zc k y ns xs else x::Zc k y ns xs
 |_,xs=>xs
def JC (k:j6)(y:PV)(ks:List j6)(xs:List PV):PV:=if (qU k ks xs).isSome=true then .dk ks (Zc k y ks xs) else .dk (ks++[k]) (xs++[y])
theorem Pl {H:Hp}{k:j6}{y:PV}{v:V}(ry:Rep H y v):∀{kvs:List (j6×V)}{xs:List PV},Reps H xs (kvs.map (·.2))->Reps H (Zc k y (kvs.map (·.1)) xs) ((kvs.map (λkv=>if kv.1=k then (kv.1,v) else kv)).map (·.2))/\(kvs.map (λkv=>if kv.1=k then (kv.1,v) else kv)).map (·.1)=kvs.map (·.1)
 |[],xs,r=>by
  have hx:xs=[]:=uy.mp r.length.symm;subst hx;exact ⟨.nil,rfl⟩
 |p::kvs,xs,r=>by
  cases xs with
  |nil=>have:=r.length;simp at this
  |cons x xs =>
   obtain ⟨u,w,e,p1,p2⟩:=reps_cons.mp r;rw [yO] at e;injection e with e1 e2;subst e1 e2;obtain ⟨h1,h2⟩:=Pl (k:=k) ry p2;rw [yO,yO,yO,yO];unfold Zc;by_cases hk:p.1=k
   ·rw [if_pos hk,if_pos hk];exact ⟨.cons ry h1,by rw [h2]⟩
   ·rw [if_neg hk,if_neg hk];exact ⟨.cons p1 h1,by rw [h2]⟩
def dPut (i:Nat)(kk vv:M):MS:=λε=>(vv ε).bind λy=>(kk ε).bind λx=>(zk x).bind λk=>match ε[i]? with
 |some (.ow (.dk ks xs))=>if ks.length<=lim then some (.nx (ε.set i (.ow (JC k y ks xs)))) else none
 |_=>none
instance {i:Nat}{kk vv:M}[sk:SemE ty kk][sv:SemE tv vv]:qd fr (Cd (qF i) ty tv) (dPut i kk vv) where
 h:=λe _ _ _ _ _ rs _ q=>by
  obtain ⟨y,ey,e1⟩:=bind_some e;obtain ⟨x,ex,e2⟩:=bind_some e1;obtain ⟨k,ek,e3⟩:=bind_some e2;split at e3
  ·rename_i ks xs hi;split at e3
   ·rename_i hl;cases e3;refine sv.h ey rs λv Hs1 H1 x1 r1=>?_;obtain ⟨p,hp,n0,n,t⟩:=(rs.go x1).ow i _ hi;refine ⟨_,hp,sk.h ex (rs.go x1) λw Hs2 H2 x2 r2=>?_⟩;obtain ⟨p',hp',_,n2,kvs,hv,hk,hr⟩:=((rs.go x1).go x2).ow i _ hi;rw [hp] at hp';injection hp' with hp';injection hp' with hp';injection hp' with hp';subst hp';have ew:=vq (.inl r2:RepB Hs2 H2 x w) ek;subst ew;have hlen:kvs.length<=lim:=by rw [<- hk,yZ] at hl;exact hl
    refine ⟨p,_,rfl,DPut.k hv (VU hlen),q _ _ _ (((rs.go x1).go x2).change hi hp ?_)⟩;have hs:=Xw (k:=k) hr;unfold JC zK;rw [Uk,<- hs,hk];by_cases hc:(qU k ks xs).isSome=true
    ·rw [if_pos hc,if_pos hc];obtain ⟨q1,q2⟩:=Pl (k:=k) (r1.mono x2.s1) hr;exact ⟨_,g8,by rw [q2,hk],by rw [<- hk];exact q1⟩
    ·rw [if_neg hc,if_neg hc];exact ⟨_,g8,by rw [yv,hk];rfl,by rw [yv];exact hr.append (.one (r1.mono x2.s1))⟩
   ·cases e3
  ·cases e3
def rLeS:R2:=λx y H Q=>∃ i j,x = .str i/\y = .str j/\Q (.bl (!decide (j.cps.toList<i.cps.toList))) H
theorem BS :OpR X (compareOp .LtE) rLeS:=Rr
def pLeS:PV->PV->Option PV
 | .at (.str i),.at (.str j)=>some (.at (.bl (!decide (j.cps.toList<i.cps.toList))))
 |_,_=>none
instance:xT rLeS pLeS where
 h:=λ{x y z} e {Hs H v w} s a b {Q} q=>by
  unfold pLeS at e;split at e
  ·cases e;cases c8 a;cases c8 b;exact ⟨_,_,rfl,rfl,q _ _ _ (.refl s) (rep_at.mpr rfl)⟩
  ·cases e
def Zh (z:Str):List PV:=z.cps.toList.map λc=> .at (.str ⟨#[c]⟩)
def dItS (a:M):MA:=λε=>(a ε).bind λx=>match x with
 | .at (.str z)=>some (Zh z)
 |_=>none
theorem LU {z:Str}:jC (ItS z) (Zh z) Hs where
 go:=λi x Hs1 H1 e g1 g2=>by
  unfold Zh at e;rw [yP] at e;obtain ⟨c,hc,rfl⟩:=yN.mp e;rw [tY] at hc;have hl:i<z.cps.size:=(Array.getElem?_eq_some_iff.mp hc).1;refine ⟨hl,λv H2 y=>?_⟩;obtain ⟨rfl,c',hc',rfl⟩:=y;rw [hc] at hc';cases hc';exact ⟨Hs1,.refl g2,rep_at.mpr rfl⟩
 stop:=λHs1 H1 g1 g2=>by
  show (Zh z).length=z.cps.size;unfold Zh;rw [yZ,uh]
instance {a:M}[sa:SemE te a]:jn (iStr te) (dItS a) where
 h:=λe _ _ _ _ _ rs _ q=>by
  obtain ⟨x,ex,e1⟩:=bind_some e;split at e1
  ·cases e1;exact sa.h ex rs λv Hs1 H1 x1 r1=>⟨_,rep_at.mp r1,q _ _ _ x1 LU⟩
  ·cases e1
theorem Pk {f:Str}{v:V}:∀{fs:List (Str×V)},f∉fs.map (·.1)->xz f v fs=fs++[(f,v)]
 |[],_=>rfl
 |(g,x)::r,h=>by
  rw [yO] at h;unfold xz;rw [if_neg (show ¬ g=f from λz=>h (by rw [<- z];exact yT)),Pk λz=>h (yV _ z)];rfl
def Dj (C:Addr)(f:Str)(a:W):WS:=λε N _=>a ε λy ε1=>∃ ns xs,ε1[0]?=some (.ow (.ob C ns xs))/\f∉ns/\ns.length<1000/\N (ε1.set 0 (.ow (.ob C (ns++[f]) (xs++[y]))))
instance [c:zy K C][n:xa K C f][sa:SemW te a]:SemWS (Zg K (qF 0) te f) (Dj C f a) where
 h:=λh _ _ _ _ _ _ rd _ k _=>sa.h h rd λy ε1 v Hs1 H1 h1 rd1 g1 r1=>by
  obtain ⟨ns,xs,he,hf,hl,h2⟩:=h1;obtain ⟨p,hp,h0,hs,dx,fs,hH,hk,hr⟩:=rd1.ow 0 _ he;have hf':f∉fs.map (·.1):=by rw [hk];exact hf
  have hl':fs.length<1000:=by rw [<- yZ (f:=(·.1)),hk];exact hl
  refine ⟨_,hp,p,C,dx,fs,rfl,hH,c.c,n.n,hl',?_⟩;rw [Pk hf'];exact k _ _ _ _ h2 (rd1.change he hp ⟨dx,_,g8,by rw [yv,hk];rfl,by rw [yv];exact hr.append (.one r1)⟩) g1
def Qm (C:Addr)(nm:Str)(m:List PV->Option PV)(i:Nat)(as:MA):M:=λε=>match ε[i]? with
 |some (.ow (.ob C' ns fs))=>if C'=C/\nm∉ns then (as ε).bind λxs=>(m (.ob C ns fs::xs)).bind λy=>match y with
  | .at u=>some (.at u)
  |_=>none else none
 |_=>none
instance {i:Nat}[sa:xu ta as]:SemE (wK C nm (v7 m) [] E (qF i) ta) (Qm C nm m i as) where
 h:=λ{ε y} e {Hs0 H0 Hs H σ} rs {Q} q=>by
  unfold Qm at e;split at e
  ·rename_i C' ns fs hi;split at e
   ·rename_i hc;obtain ⟨rfl,hn⟩:=hc;obtain ⟨xs,ex,e1⟩:=bind_some e;obtain ⟨z,ez,e2⟩:=bind_some e1;split at e2
    ·rename_i u;cases e2;obtain ⟨p,hp,n0,n,dx,gs,hH,hk,hr⟩:=rs.ow i _ hi;refine ⟨_,hp,p,dx,gs,rfl,hH,VV (by rw [hk];exact hn),sa.h ex rs λvs Hs1 H1 x1 r1=>?_⟩;have hH1:=x1.s2 _ _ hH;have n1:Hs1 p=none:=x1.s4 p (by rw [hH];exact λz=>nomatch z) n;have g:Same Hs1 (w6 Hs1 p (.ins C' dx gs)):=λb w e=>by rw [w4 (k4 e n1)];exact e
     refine ⟨w6 Hs1 p (.ins C' dx gs),_,_,?_,?_,ez,λv Hs' H' x r=>?_⟩
     ·intro b w e;by_cases hb:b=p
      ·subst hb;rw [g8] at e;cases e;exact hH1
      ·rw [w4 hb] at e;exact x1.s3 _ _ e
     ·rw [yp];exact .cons (rep_ob.mpr ⟨p,dx,gs,rfl,g8,hk,(hr.mono x1.s1).mono g⟩) (r1.mono g)
     ·cases rep_at.mp r;refine q _ (λb=>if b=p then none else Hs' b) H' (x1.trans ⟨λb w e=>?_,x.s2,λb w e=>?_,λb hb w=>?_⟩) (rep_at.mpr rfl)
      ·rw [if_neg (k4 e n1)];exact x.s1 _ _ (g _ _ e)
      ·split at e
       ·cases e
       ·exact x.s3 _ _ e
      ·by_cases hbp:b=p
       ·rw [if_pos hbp]
       ·rw [if_neg hbp];exact x.s4 b hb (by rw [w4 hbp];exact w)
    ·cases e2
   ·cases e
  ·cases e
def spI (C:Addr)(m:List PV->Option PV):Sp:=λvs H Q _=>∃ Hs x dx xs ws y,vs = .ref x::ws/\Same Hs H/\H x=some (.ins C dx [])/\Hs x=none/\Reps Hs xs ws/\m xs=some y /\
 ∀ Hs' H',Same Hs Hs'->(∀ b o,H b=some o->b≠x->H' b=some o)->Same Hs' H'->(∀ b,H b≠none->b≠x->Hs b=none->Hs' b=none)->Rep Hs' y (.ref x)->Q .non H'
instance {ds:List V}[sa:xu ta as]:SemE (Zo C (spI C m) ds E ta) (Vp m ds as) where
 h:=λe _ _ _ _ _ rs _ q=>by
  obtain ⟨xs,ex,e1⟩:=bind_some e;refine sa.h ex rs λvs Hs1 H1 x1 r1=>λx dx hx hdx hne=>?_;have s3:Same Hs1 (w6 (w6 H1 dx (.own x)) x (.ins C dx [])):=λb o e=>by
   have e':=x1.s3 _ _ e;rw [w4 (k4 e' hx),w4 (k4 e' hdx)];exact e'
  refine ⟨Hs1,x,dx,_,_,_,rfl,s3,g8,x1.s3.free hx,r1.append (.ofAts ds),e1,λHs' H' g1 g2 g3 g4 r=>⟨rfl,q _ _ _ (x1.trans ⟨g1,λb o e=>?_,g3,λb hb z=>?_⟩) r⟩⟩
  ·refine g2 b o ?_ (k4 e hx);rw [w4 (k4 e hx),w4 (k4 e hdx)];exact e
  ·have hbx:b≠x:=λw=>hb (by rw [w];exact hx);have hbd:b≠dx:=λw=>hb (by rw [w];exact hdx);exact g4 b (by rw [w4 hbx,w4 hbd];exact hb) hbx z
section
variable {P:Program}{w:World}{K:Fg}{mg:Str->Option Value}{base:Heap}
theorem Tw {a:Addr}(s:Same Hs H)(ha:Hs a=none)(t:Top Hs H a y)(r:Reps Hs xs ws):RD [a] Hs H Hs H (L2.start N (.ref a::ws)) (.ow y::xs.map .sh++List.replicate (N.length-(xs.length+1)) .no):=by
 have q:=vL (N:=N) (xs:= .at (.ref a)::xs) s (.cons (rep_at.mpr rfl) r);have tl:∀(i:Nat)(sl:MSlot),(MSlot.ow y::xs.map .sh++List.replicate (N.length-(xs.length+1)) .no)[i+1]?=some sl->((PV.at (.ref a)::xs).map MSlot.sh++List.replicate (N.length-(PV.at (.ref a)::xs).length) .no)[i+1]?=some sl:=λi sl h=>h;refine ⟨.refl _,λb o e _=>e,s,λ_ _ z=>z,λi x h=>?_,λi x h=>?_,λi j x y b h1 h2 _ _=>?_,?_,λb hb=>?_,λb hb=>?_,(λb hb=>⟨_,rfl⟩),λi x h=>by
  cases i with
  |zero=>simp at h
  |succ i=>exact WL (xs:=PV.at (.ref a)::xs) (tl i _ h)⟩
 ·cases i with
  |zero=>simp at h
  |succ i=>exact q.sh (i+1) x (tl i _ h)
 ·cases i with
  |zero=>simp at h;subst h;exact ⟨a,by unfold L2.start;rfl,.inr (yI.mpr rfl),ha,t⟩
  |succ i=>exact absurd (tl i _ h) (wG (xs:=PV.at (.ref a)::xs))
 ·cases i with
  |zero =>
   cases j with
   |zero=>rfl
   |succ j=>exact absurd (tl j _ h2) (wG (xs:=PV.at (.ref a)::xs))
  |succ i=>exact absurd (tl i _ h1) (wG (xs:=PV.at (.ref a)::xs))
 ·exact q.len
 ·rw [yI.mp hb];unfold L2.start;rfl
 ·rw [yI.mp hb];exact t.there
end
variable {fr:Bool}
section
variable {ε:ME}{c d:MB}{f:M}{a b:WS}{N:ME->Prop}{R:PV->ME->Prop}
theorem vQ (h:c ε=some false)(k:b ε N R):xB (wPT c) a b ε N R:=by
 refine ⟨false,h,?_⟩;show if false=true then a ε N R else b ε N R
 rw [if_neg yS];exact k
theorem JQ (h:c ε=some true)(k:a ε N R):xB (wPT c) a b ε N R:=by
 refine ⟨true,h,?_⟩;show if true=true then a ε N R else b ε N R
 rw [if_pos rfl];exact k
theorem zE (h1:c ε=some false)(h2:d ε=some false):xf c d ε=some false:=by unfold xf;rw [h1];show (if false=true then some true else d ε)=_;rw [if_neg yS];exact h2
theorem Mr (h1:c ε=some false):zQ c d ε=some false:=by unfold zQ;rw [h1];rfl
theorem Vo {v:Bool}(h1:c ε=some true)(h2:d ε=some v):zQ c d ε=some v:=by unfold zQ;rw [h1];show (if true=true then d ε else some false)=_;rw [if_pos rfl];exact h2
theorem qR (h:c ε=some true):i6 c ε=some false:=by unfold i6;rw [h];rfl
theorem xg {v:Bool}(h:f ε=some (.at (.bl v))):r9 f ε=some v:=by unfold r9;rw [h];rfl
theorem c9 {v:Bool}(h:f ε=some (.at (.bl v))):dT f ε=some v:=by unfold dT;rw [h];rfl
theorem ZY :qr [.lst xs,.at (.ty "list")]=some (.at (.bl true)):=by unfold qr tyP;simp only [yG,Iz]
end
variable {fr:Bool}
theorem Kr {g:MG}{f:M}{ε0:ME}{α:Type}(F G:α->PV):∀(l:List α),(∀ a∈l,∃ ε1,g (F a) ε0=some ε1/\f ε1=some (G a))->zh g n5 f ε0 (l.map F)=some (l.map G)
 |[],_=>rfl
 |a::l,h=>by
  obtain ⟨ε1,e1,e2⟩:=h a yT;have ih:=Kr F G l λb hb=>h b (yV _ hb);show Option.bind (g (F a) ε0) (λε1=>Option.bind (n5 ε1) λb=>if b=true then (f ε1).bind λy=>(zh g n5 f ε0 (l.map F)).bind λys=>some (y::ys) else zh g n5 f ε0 (l.map F))=_;rw [e1,ih];show (if true=true then (f ε1).bind λy=>some (y::l.map G) else some (l.map G))=_;rw [if_pos rfl,e2];rfl
theorem Kp {g:MG}{c:MB}{f:M}{ε0:ME}{α:Type}(F G:α->PV)(p:α->Bool):∀(l:List α),(∀ a∈l,∃ ε1,g (F a) ε0=some ε1/\c ε1=some (p a)/\(p a=true->f ε1=some (G a)))->zh g c f ε0 (l.map F)=some ((l.filter p).map G)
 |[],_=>rfl
 |a::l,h=>by
  obtain ⟨ε1,e1,e2,e3⟩:=h a yT;have ih:=Kp F G p l λb hb=>h b (yV _ hb);show Option.bind (g (F a) ε0) (λε1=>Option.bind (c ε1) λb=>if b=true then (f ε1).bind λy=>(zh g c f ε0 (l.map F)).bind λys=>some (y::ys) else zh g c f ε0 (l.map F))=_;rw [e1,ih];show Option.bind (c ε1) (λb=>if b=true then (f ε1).bind λy=>some (y::(l.filter p).map G) else some ((l.filter p).map G))=_;rw [e2,yG,List.filter_cons];cases hp:p a with
  |true=>rw [if_pos rfl,if_pos rfl,e3 hp];rfl
  |false=>rw [if_neg yS,if_neg yS]
theorem qS {cap:List (Option Nat)}{g:MG}{f:M}(F G:α->PV)(l:List α)(h:it ε=some (l.map F))(hc:vY cap ts=true)(hl:l.length<=lim)(k:∀ a∈l,∃ ε1,g (F a) (qx cap ε)=some ε1/\f ε1=some (G a)):m8 cap ts it g n5 f ε=some (.lst (l.map G)):=Vx h hc (by rw [yZ];exact hl) (Kr F G l k)
theorem KN {cap:List (Option Nat)}{g:MG}{f:M}(F G:α->PV)(p:α->Bool)(l:List α)(h:it ε=some (l.map F))(hc:vY cap ts=true)(hl:l.length<=lim)(k:∀ a∈l,∃ ε1,g (F a) (qx cap ε)=some ε1/\c ε1=some (p a)/\(p a=true->f ε1=some (G a))):m8 cap ts it g c f ε=some (.lst ((l.filter p).map G)):=Vx h hc (by rw [yZ];exact hl) (Kp F G p l k)
theorem wn {g:MG}{f:MS}{α:Type}(F:α->PV)(I:List α->ME->Prop)(h:∀ a l ε,I (a::l) ε->∃ ε1 ε2,g (F a) ε=some ε1/\f ε1=some (.nx ε2)/\I l ε2):∀(l:List α)(ε:ME),I l ε->∃ ε',o7 g f (l.map F) ε=some (.nx ε')/\I [] ε'
 |[],ε,i=>⟨ε,rfl,i⟩
 |a::l,ε,i=>by
  obtain ⟨ε1,ε2,e1,e2,i2⟩:=h a l ε i;obtain ⟨ε',e3,i3⟩:=wn F I h l ε2 i2;refine ⟨ε',?_,i3⟩;show Option.bind (g (F a) ε) (λε1=>Option.bind (f ε1) λo=>match o with
   | .nx ε2=>o7 g f (l.map F) ε2
   | .ct ε2=>o7 g f (l.map F) ε2
   | .bk ε2=>some (.nx ε2)
   | .rt y=>some (.rt y))=_
  rw [e1,yG,e2];exact e3
section
variable {ε:ME}{a b:M}{v w:Bool}
theorem Qr (h1:a ε=some (.at (.bl true)))(h2:b ε=some (.at (.bl w))):zR a b ε=some (.at (.bl w)):=by unfold zR;rw [h1];exact h2
theorem MT (h1:a ε=some (.at (.bl v))):Qn a ε=some (.at (.bl (!v))):=by unfold Qn;rw [h1];rfl
theorem KO (h:c ε=some true)(k:a ε=some x):dIf c a b ε=some x:=by unfold dIf;rw [h];exact k
theorem Vy (h:c ε=some false)(k:b ε=some x):dIf c a b ε=some x:=by unfold dIf;rw [h];exact k
theorem Vw {g g':PV->PV->Option PV}{c:M}{z:PV}{r:Bool}(h1:a ε=some x)(h2:b ε=some y)(h3:g x y=some (.at (.bl true)))(h4:c ε=some z)(h5:g' y z=some (.at (.bl r))):xY g g' a b c ε=some (.at (.bl r)):=by unfold xY;rw [h1,yG,h2,yG,h3];show Option.bind (c ε) _=_;rw [h4];exact h5
theorem Xl (h:a ε=some x):jG a ε=some (.nx ε):=by unfold jG;rw [h];rfl
theorem MN (h:a ε=some x)(k:G x ε=some ε'):dAsg G a ε=some (.nx ε'):=by unfold dAsg;rw [h,yG,k];rfl
theorem qp:c6 ε=some (.nx ε):=rfl
theorem Xm (h:a ε=some (.lst xs)):r6 a ε=some xs:=by unfold r6;rw [h];rfl
theorem jJ (h:a ε=some (.ob C ns xs))(k:Qy f ns xs=some y):xZ C f a ε=some y:=by unfold xZ;rw [h,yG];show (if C=C then _ else _)=_;rw [if_pos rfl];exact k
theorem jK {fs:List PV}{y:Option PV}(h:a ε=some (.ob C ns fs))(hn:nm∉ns)(k:as ε=some xs)(e:m (.ob C ns fs::xs)=y):xF C nm m a as ε=y:=by unfold xF;rw [h,yG];show (if C=C/\nm∉ns then _ else _)=_;rw [if_pos ⟨rfl,hn⟩,k];exact e
theorem ZR {k:Nat}{bd:MS}(hl:xs.length=k)(h:bd (xs.map .sh++List.replicate (n-k) .no)=some (.nx ε')):c5 n k bd xs=some (.at .non):=by unfold c5;rw [if_pos hl,h];rfl
theorem LL {n:Int}:qr [.at (.int n),.at (.ty "int")]=some (.at (.bl true)):=by unfold qr tyP;simp only [yG,Iy]
theorem LM {n:Int}:qr [.at (.int n),.at (.ty "bool")]=some (.at (.bl false)):=by unfold qr tyP;simp only [yG,Ix]
theorem Bl {n:Str}:qr [.at (.str n),.at (.ty "str")]=some (.at (.bl true)):=by unfold qr tyP;simp only [yG,IA]
theorem LN {n:List PV}:qr [.tup n,.at (.ty "tuple")]=some (.at (.bl true)):=by unfold qr tyP;simp only [yG,IB]
theorem GX:∀ bs:List Bool,bls (bs.map λb=> .at (.bl b))=some bs
 |[]=>rfl
 |b::bs=>by
  have ih:=GX bs;rw [yO];unfold bls;rw [ih];rfl
theorem Bh:∀ bs:List Int,vp (bs.map λb=> .at (.int b))=some bs
 |[]=>rfl
 |b::bs=>by
  have ih:=Bh bs;rw [yO];unfold vp;rw [ih];rfl
theorem Dy (bs:List Bool):za [.lst (bs.map λb=> .at (.bl b))]=some (.at (.bl (bs.all id))):=by show (bls _).bind _=_;rw [GX];rfl
theorem Cw (bs:List Int):XU [.lst (bs.map λb=> .at (.int b))]=some (.at (.int bs.sum)):=by show (vp _).bind _=_;rw [Bh];rfl
theorem Qg (l:List α):za [.lst (l.map λ_=> .at (.bl true))]=some (.at (.bl true)):=by
 have e:(l.map λ_=>PV.at (.bl true))=((l.map λ_=>true).map λb=>PV.at (.bl b)):=by rw [yt];rfl
 rw [e,Dy];have:(l.map λ_=>true).all id=true:=by simp
 rw [this]
end
def XM:List Int->Int
 |[]=>0
 |x::l=>l.foldl (λb y=>if y<b then y else b) x
theorem We (l:List Int):∀ b:Int,l.foldl (λb y=>if y<b then y else b) b<=b/\(∀ y∈l,l.foldl (λb y=>if y<b then y else b) b<=y)/\(l.foldl (λb y=>if y<b then y else b) b=b∨l.foldl (λb y=>if y<b then y else b) b∈l):=by
 induction l with
 |nil=>intro b;exact ⟨uT _,(λ_ z=>nomatch z),.inl rfl⟩
 |cons x l ih =>
  intro b;rw [List.foldl_cons];obtain ⟨h1,h2,h3⟩:=ih (if x<b then x else b);have hx:(if x<b then x else b)<=b/\(if x<b then x else b)<=x:=by split<;>omega
  refine ⟨by omega,λy hy=>?_,?_⟩
  ·rcases yJ.mp hy with rfl|hy
   ·omega
   ·exact h2 y hy
  ·rcases h3 with h3|h3
   ·rw [h3];by_cases hc:x<b
    ·rw [if_pos hc];exact .inr yT
    ·rw [if_neg hc];exact .inl rfl
   ·exact .inr (yV _ h3)
theorem BI {l:List Int}(h:l≠[]):XM l∈l:=by
 cases l with
 |nil=>exact absurd rfl h
 |cons x l =>
  rcases (We l x).2.2 with e|e
  ·show l.foldl _ x∈_;rw [e];exact yT
  ·exact yV _ e
theorem Wf {l:List Int}{y:Int}(h:y∈l):XM l<=y:=by
 cases l with
 |nil=>cases h
 |cons x l =>
  rcases yJ.mp h with rfl|h
  ·exact (We l y).1
  ·exact (We l x).2.1 y h
def pMinL:List PV->Option PV
 |[.lst xs]=>(vp xs).bind λns=>if ns=[] then none else some (.at (.int (XM ns)))
 |_=>none
def leS (a b:Str):Bool:=!decide (b.cps.toList<a.cps.toList)
def zu (ss:List Str):List Str:=ss.mergeSort leS
theorem Ua (ss:List Str):(zu ss).Perm ss:=List.mergeSort_perm ss leS
theorem Cp (ss:List Str):Zz (zu ss):=by
 have:=List.pairwise_mergeSort (le:=leS) (λa b c h1 h2=>by
  unfold leS at h1 h2 ⊢;simp only [Bool.not_eq_true',decide_eq_false_iff_not] at h1 h2 ⊢;exact uc.mpr (List.le_trans (uc.mp h1) (uc.mp h2))) (λa b=>by
  unfold leS;by_cases h:b.cps.toList<a.cps.toList
  ·have h2:¬ (a.cps.toList<b.cps.toList):=λk=>List.lt_irrefl _ (List.lt_trans h k);simp [h2]
  ·simp [h]) ss
 exact this.imp λh=>by unfold leS at h;simpa using h
theorem JH {ss ss':List Str}(p:ss'.Perm ss)(u:Zz ss'):ss'=zu ss :=
 List.Perm.eq_of_pairwise (λa b _ _ h1 h2=>by
  have e:=List.le_antisymm (uc.mp h1) (uc.mp h2);cases a;cases b;simp only [Str.mk.injEq];exact Array.toList_inj.mp e) u (Cp ss) (p.trans (Ua ss).symm)
def vd:List PV->Option (List Str)
 |[]=>some []
 | .at (.str s)::xs=>(vd xs).map (s::·)
 |_::_=>none
theorem Ue:∀{xs:List PV}{ss:List Str},vd xs=some ss->xs=ss.map λs=> .at (.str s)
 |[],_,h=>by cases h;rfl
 |x::xs,ss,h=>by
  unfold vd at h;split at h
  ·rename_i e;cases e
  ·rename_i s' xs' e;injection e with e1 e2;subst e1 e2;obtain ⟨r,hr,rfl⟩:=yN.mp h;rw [Ue hr];rfl
  ·cases h
def vt:List j6->Option (List Str)
 |[]=>some []
 | .inr s::xs=>(vt xs).map (s::·)
 |_::_=>none
theorem VO:∀{xs:List j6}{ss:List Str},vt xs=some ss->xs=ss.map Sum.inr
 |[],_,h=>by cases h;rfl
 |x::xs,ss,h=>by
  unfold vt at h;split at h
  ·rename_i e;cases e
  ·rename_i s' xs' e;injection e with e1 e2;subst e1 e2;obtain ⟨r,hr,rfl⟩:=yN.mp h;rw [VO hr];rfl
  ·cases h
def vE:List PV->Option PV
 |[.lst xs]=>(vd xs).bind λss=>if ss.length<64 then some (.lst ((zu ss).map λs=> .at (.str s))) else none
 |[.dk ks _]=>(vt ks).bind λss=>if ss.length<64 then some (.lst ((zu ss).map λs=> .at (.str s))) else none
 |[.fk ks _]=>(vt ks).bind λss=>if ss.length<64 then some (.lst ((zu ss).map λs=> .at (.str s))) else none
 |_=>none
theorem WI (ss:List Str):Reps H (ss.map λs=> .at (.str s)) (ss.map V.str):=by have:=Reps.ofAts (H:=H) (ss.map V.str);rwa [yt] at this
instance :JU (PB K) vE where
 h:=λ{xs z} e {Hs H vs} s r {Q} q=>by
  unfold vE at e;split at e
  ·obtain ⟨ss,eb,e1⟩:=bind_some e;split at e1
   ·rename_i hl;cases e1;obtain ⟨v,rfl,a⟩:=zt r;obtain ⟨p,ws,rfl,e1,r1⟩:=qE s a;rw [Ue eb,show (ss.map λb=>PV.at (.str b))=(ss.map V.str).map .at by rw [yt];rfl] at r1;cases r1.ats;refine ⟨p,ss,rfl,.inl (SqL.of e1),hl,λl ss' hn p1 p2=>?_⟩;rw [JH p1 p2];exact q l _ _ (.newO s hn) hn (s.free hn) ⟨_,g8,WI _⟩
   ·cases e1
  ·obtain ⟨ss,eb,e1⟩:=bind_some e;split at e1
   ·rename_i hl;cases e1;obtain ⟨v,rfl,a⟩:=zt r;obtain ⟨p,kvs,rfl,hp,hk,hr⟩:=vK s a;refine ⟨p,ss,rfl,.inr ⟨kvs,.inl hp,by rw [hk,VO eb]⟩,hl,λl ss' hn p1 p2=>?_⟩;rw [JH p1 p2];exact q l _ _ (.newO s hn) hn (s.free hn) ⟨_,g8,WI _⟩
   ·cases e1
  ·obtain ⟨ss,eb,e1⟩:=bind_some e;split at e1
   ·rename_i hl;cases e1;obtain ⟨v,rfl,a⟩:=zt r;obtain ⟨p,o,kvs,rfl,hp,hk,hr⟩:=Zd s a;refine ⟨p,ss,rfl,.inr ⟨kvs,.inr ⟨o,hp⟩,by rw [hk,VO eb]⟩,hl,λl ss' hn p1 p2=>?_⟩;rw [JH p1 p2];exact q l _ _ (.newO s hn) hn (s.free hn) ⟨_,g8,WI _⟩
   ·cases e1
  ·cases e
def Pz (K:Fg):List V->Hp->VK->Prop:=λxs H Q=>∃(a:Addr)(ss:List Str),xs=[.ref a]/\SqL K H a (ss.map V.str)/\ss.length<=1000 /\
  ∀ l,H l=none->Q (.ref l) (w6 H l (vV (i8 (λi=>(Sum.inr (ss.getD i ⟨#[]⟩):j6)) ss.length).length l))
theorem Md (hc:X.calm=true)(h:X.K=K):CallR X (.type "set") (Pz K):=by subst h;exact Me hc
def Wc (ss:List Str):Nat:=(i8 (λi=>(Sum.inr (ss.getD i ⟨#[]⟩):j6)) ss.length).length
def Pw:List V->Hp->VK->Prop:=λxs H Q=>∃(a:Addr)(n:Nat),xs=[.ref a]/\H a=some (vV n a)/\Q (.int n) H
theorem DY :CallR X (.builtin "len") Pw:=DX
def Kw (a:M):M:=λε=>(a ε).bind λx=>match x with
 | .lst xs=>(vd xs).bind λss=>if ss.length<=1000 then some (.at (.int (Wc ss))) else none
 |_=>none
instance {a:M}[sa:qc te a]:SemE (tCB Pw (i5 (tCB (Pz K) (i5 te qt)) qt)) (Kw a) where
 h:=λe _ _ _ _ _ rs _ q=>by
  obtain ⟨x,ex,e1⟩:=bind_some e;split at e1
  ·obtain ⟨ss,eb,e2⟩:=bind_some e1;split at e2
   ·rename_i hl;cases e2;refine sa.h ex rs λv Hs1 H1 x1 r1=>?_;obtain ⟨p,ws,rfl,ep,r2⟩:=qE x1.s3 r1;rw [Ue eb,show (ss.map λb=>PV.at (.str b))=(ss.map V.str).map .at by rw [yt];rfl] at r2;cases r2.ats;refine ⟨p,ss,rfl,SqL.of ep,hl,λl hn=>⟨l,_,rfl,g8,q _ _ _ (x1.trans (.newO x1.s3 hn)) (rep_at.mpr rfl)⟩⟩
   ·cases e2
  ·cases e1
structure Mkr (P:Program)(w:World)(K:Fg)(mg:Str->Option Value)(base:Heap)(k:Nat)(C:Addr)(ps:List Str)(sp:Sp):Prop where
 ex:∃ f fd,FnOk P w K mg base v9 k f fd ps sp/\Mk K C f/\Binds K fd ps []
theorem pe_mk {k j:Nat}{x:Str}{p:Pos}{es:List Expr}{t:TA}(c:Mkr X.prog X.w X.K X.mg X.base k C ps sp)(hr:Room j X.A)(hj:k+1<=j)(hg:Gl X x)(hm:X.mg x=some (.ref C))(ha:PA X (e::es) t)(hdb:(x==("__debug__":Str))=false:=by decide)(he:starEach (e::es) X.env=(false,eval e X.env)::starEach es X.env:=by rfl)(hpl:(backTo pos (starEach es X.env)).any (·.1)=false:=by rfl):PE X (.Call (.Name x p) (e::es) [] pos) (Zo C sp [] E0 t):=by obtain ⟨f,fd,F,hm',hb⟩:=c.ex;exact RI hm' F (hr.mono hj) hg hm hb .nil Jw ha hdb he hpl
instance (priority:=1100)[sa:xu ta as]:SemE (Zo C (spI C m) [] E ta) (x8 m as) where
 h:=λ{ε y} e=>SemE.h (te:=Zo C (spI C m) [] E ta) (f:=Vp m [] as) (by
  unfold Vp;unfold x8 at e;simpa using e)
structure FunD (K:Fg)(x qual:Str)(st:Stmt)(f:Addr)(fd:FuncData):Prop where
 ex:∃(oc:Value)(od:Option Addr)(dV kV doc pm:Value)(an:Option Addr)(cdv ct:Value)(osl:Array (Option Value)),
  fd=PySem.W.fnOf x qual (zi st) (qz st) (j9 st) dV kV doc pm an cdv ct/\K.lookup f=some ⟨oc,od,.func fd,osl⟩/\PySem.W.codeIn K cdv qual=true
 kp:PySem.W.keepIn K (.ref f)=true
section
variable {P:Program}{w:World}{K:Fg}{mg:Str->Option Value}{base:Heap}
theorem FunD.ok {x:Str}{f:Addr}{k:Nat}(F:FunD K x qual st f fd)(S:y6 N ps (j9 st))(len:∀ vs H Q E,sp vs H Q E->vs.length=ps.length)(hbody:∀(cdv:Value)(A:Around)(outer:List Env)(s:Shared)(H:Hp)(vs:List V)(Q:VK)(E:XK),Room k (A.deeper (PyProof.Rows.envOfC qual (j9 st) s.heap.objs.size f cdv))->sp vs H Q E -> ∃ t,PSs (xN v9 P w K mg base N qual (j9 st) f cdv A outer s H E).nox (qz st) t/\t { nx:=λ_ H'=>Q .non H',rt:=Q } (L2.start N vs) H):FnOk P w K mg base v9 (k+1) f fd ps sp:=by obtain ⟨oc,od,dV,kV,doc,pm,an,cdv,ct,osl,rfl,lk,hcd⟩:=F.ex;refine VA lk hcd S len λA outer s H vs Q E hr hsp=>?_;obtain ⟨t,h,q⟩:=hbody cdv A outer s H vs Q E hr hsp;exact ⟨t,h.nox,q⟩
theorem Lc {x:Str}{f:Addr}{oc:Value}{od an:Option Addr}{osl:Array (Option Value)}{dV kV doc pm cdv ct:Value}(l:K.lookup f=some ⟨oc,od,.func (PySem.W.fnOf x qual (zi st) (qz st) (j9 st) dV kV doc pm an cdv ct),osl⟩)(c:PySem.W.codeIn K cdv qual=true)(k:PySem.W.keepIn K (.ref f)=true):FunD K x qual st f (PySem.W.fnOf x qual (zi st) (qz st) (j9 st) dV kV doc pm an cdv ct):=⟨⟨oc,od,dV,kV,doc,pm,an,cdv,ct,osl,rfl,l,c⟩,k⟩
theorem Zb {o value:Expr}{ta:TE}{pos':Pos}(hK:X.K=K)(ha:PE X o ta)(hv:PE X value tv)(hs:swapsWith value (some (.Attribute o f pos')) pos.line X.env=pure false:=by rfl):PS X (.Assign [.Attribute o f pos'] value pos) (Zg K ta tv f):=by subst hK;exact Te ha hv hs
theorem okI' {x:Str}{f:Addr}{k:Nat}(F:FunD K x qual st f fd)(S:y6 N ps (j9 st))(hm:∀ xs y,m xs=some y->xs.length+1=ps.length)(hb:∀(cdv:Value)(A:Around)(outer:List Env)(s:Shared)(H:Hp)(E:XK),Room k (A.deeper (PyProof.Rows.envOfC qual (j9 st) s.heap.objs.size f cdv)) -> ∃ t,PSs (xN v9 P w K mg base N qual (j9 st) f cdv A outer s H E).nox (qz st) t/\SemWS t b)(hw:∀ xs y,m xs=some y->b (.ow (.ob C [] [])::xs.map .sh++List.replicate (N.length-(xs.length+1)) .no) (λε=>ε[0]?=some (.ow y)) λ_ _=>False):FnOk P w K mg base v9 (k+1) f fd ps (spI C m):=by
 refine F.ok S (λvs H Q E h=>?_) (λcdv A outer s H vs Q E hr h=>?_)
 ·obtain ⟨Hs,x,dx,xs,ws,y,rfl,_,_,_,r,e,_⟩:=h;rw [yE,r.length];exact hm xs y e
 ·obtain ⟨Hs,x,dx,xs,ws,y,rfl,sm,hx,hs,r,e,q⟩:=h;obtain ⟨t,ht,sem⟩:=hb cdv A outer s H E hr;refine ⟨t,ht,sem.h (hw xs y e) (Tw sm hs ⟨dx,[],hx,rfl,.nil⟩ r) (λε σ Hs' H' z rd g=>?_) λ_ _ _ _ _ _ z _ _ _=>z.elim⟩;obtain ⟨a,ha,_,n,tp⟩:=rd.ow 0 y z;rw [rd.pin x (yI.mpr rfl)] at ha;injection ha with ha;injection ha with ha;injection ha with ha;subst ha;obtain ⟨o,ho,ro⟩:=tp.rep n;have g2:Same Hs' (w6 Hs' x o):=λb u e=>by rw [w4 (k4 e n)];exact e
  refine q (w6 Hs' x o) H' (g.trans g2) (λb u e hb=>rd.s2 b u e λw=>hb (yI.mp w)) (λb u e=>?_) (λb hb hbx w=>?_) ro
  ·by_cases hbx:b=x
   ·subst hbx;rw [g8] at e;cases e;exact ho
   ·rw [w4 hbx] at e;exact rd.s3 _ _ e
  ·rw [w4 hbx];exact rd.s4 b hb w
end
def jp (C:Addr)(f:Str)(a:M):MS:=λε=>(a ε).bind λy=>match (ε[0]?:Option MSlot) with
 |some (.ow (.ob C' ns xs))=>if C'=C/\f∉ns/\ns.length<1000 then some (.nx (ε.set 0 (.ow (.ob C (ns++[f]) (xs++[y]))))) else none
 |_=>none
def wPN (f:MS):WS:=λε N _=>∃ ε',f ε=some (.nx ε')/\N ε'
theorem Mu {a:M}{o:Out}(h:jp C f a ε=some o):∃ y ns xs,a ε=some y/\ε[0]?=some (.ow (.ob C ns xs))/\f∉ns/\ns.length<1000/\o = .nx (ε.set 0 (.ow (.ob C (ns++[f]) (xs++[y])))):=by
 unfold jp at h;obtain ⟨y,ey,h1⟩:=bind_some h;split at h1
 ·rename_i C' ns xs he;split at h1
  ·rename_i hc;cases h1;obtain ⟨rfl,h2,h3⟩:=hc;exact ⟨y,ns,xs,ey,he,h2,h3,rfl⟩
  ·cases h1
 ·cases h1
instance {a:M}[c:zy K C][n:xa K C f][sa:SemE te a]:SemWS (Zg K (qF 0) te f) (wPN (jp C f a)) where
 h:=λ{ε N R} h=>by
  obtain ⟨ε',e,h1⟩:=h;obtain ⟨y,ns,xs,ey,he,h2,h3,e4⟩:=Mu e;injection e4 with e4;subst e4;exact SemWS.h (ts:=Zg K (qF 0) te f) (w:=Dj C f (wP a)) ⟨y,ey,ns,xs,he,h2,h3,h1⟩
instance {a:M}[sa:SemE te a]:SemWS (vO te) (wPN (jG a)) where
 h:=λ{ε N R} h=>by
  obtain ⟨ε',e,h1⟩:=h;obtain ⟨y,ey,e2⟩:=bind_some e;cases e2;exact SemWS.h (ts:=vO te) (w:=Di (wP a)) ⟨y,ey,h1⟩
instance SI {u:TS}{a b:MS}[sa:SemWS t (wPN a)][sb:SemWS u (wPN b)]:SemWS (tSeq t u) (wPN (j7 a b)) where
 h:=λ{ε N R} h S Hs0 H0 Hs H σ rd D k rt=>by
  obtain ⟨ε',e,h1⟩:=h;obtain ⟨o1,e1,e2⟩:=bind_some e;refine SemWS.h (ts:=tSeq t u) (w:=wSeq (wPN a) (wPN b)) (ε:=ε) (N:=N) (R:=R) ?_ rd k rt;cases o1 with
  |nx ε1=>exact ⟨ε1,e1,ε',e2,h1⟩
  |rt y=>cases e2
  |bk ε1=>cases e2
  |ct ε1=>cases e2
def Xg (n k:Nat)(C:Addr)(f:MS):List PV->Option PV:=λxs=>if xs.length+1=k then (f (.ow (.ob C [] [])::xs.map .sh++List.replicate (n-k) .no)).bind λo=>match o with
 | .nx ε=>(match (ε[0]?:Option MSlot) with
  |some (.ow y)=>some y
  |_=>none)
 |_=>none else none
theorem okID {P:Program}{w:World}{mg:Str->Option Value}{base:Heap}{x:Str}{f:Addr}{k:Nat}{b:MS}(F:FunD K x qual st f fd)(S:y6 N ps (j9 st))(hm:m=Xg N.length ps.length C b)(hb:∀(cdv:Value)(A:Around)(outer:List Env)(s:Shared)(H:Hp)(E:XK),Room k (A.deeper (PyProof.Rows.envOfC qual (j9 st) s.heap.objs.size f cdv)) -> ∃ t,PSs (xN v9 P w K mg base N qual (j9 st) f cdv A outer s H E).nox (qz st) t/\SemWS t (wPN b)):FnOk P w K mg base v9 (k+1) f fd ps (spI C m):=by
 subst hm;refine okI' F S (λxs y e=>?_) hb (λxs y e=>?_)
 ·unfold Xg at e;split at e
  ·rename_i hl;exact hl
  ·cases e
 ·unfold Xg at e;split at e
  ·rename_i hl;obtain ⟨o,eo,e1⟩:=bind_some e;rw [hl];cases o with
   |nx ε =>
    refine ⟨ε,eo,?_⟩;have e2:(match (ε[0]?:Option MSlot) with
     |some (.ow y)=>some y
     |_=>none)=some y:=e1
    show ε[0]?=some (.ow y);split at e2
    ·rename_i z hz;cases e2;exact hz
    ·cases e2
   |rt z=>cases e1
   |bk z=>cases e1
   |ct z=>cases e1
  ·cases e
def vJ:List PV->Option (List (j6×PV))
 |[]=>some []
 | .tup [k,v]::xs=>(zk k).bind λkk=>(vJ xs).map ((kk,v)::·)
 |_::_=>none
def wA:List PV->Option PV
 |[.lst xs]=>(vJ xs).bind λps=>if (ps.map (·.1)).Nodup/\ps.length<=1000 then some (.fk (ps.map (·.1)) (ps.map (·.2))) else none
 |_=>none
theorem Pg {Hs H:Hp}(s:Same Hs H):∀{xs:List PV}{ps:List (j6×PV)}{vs:List V},vJ xs=some ps->Reps Hs xs vs->∃(ts:List Addr)(kvs:List (j6×V)),vs=ts.map V.ref/\Paired (λt (kv:j6×V)=>H t=some (.tup [kV kv.1,kv.2])) ts kvs/\kvs.map (·.1)=ps.map (·.1)/\Reps Hs (ps.map (·.2)) (kvs.map (·.2))
 |[],ps,vs,h,r=>by
  cases h;cases reps_nil.mp r;exact ⟨[],[],rfl,.nil,rfl,.nil⟩
 |x::xs,ps,vs,h,r=>by
  unfold vJ at h;split at h
  ·rename_i e;cases e
  ·rename_i k v xs' e;injection e with e1 e2;subst e1 e2;obtain ⟨kk,ek,h1⟩:=bind_some h;obtain ⟨ps',hp,rfl⟩:=yN.mp h1;obtain ⟨w,ws,rfl,r1,r2⟩:=reps_cons.mp r;obtain ⟨t,us,rfl,ht,ru⟩:=rep_tup.mp r1;obtain ⟨u1,us1,rfl,p1,p2⟩:=reps_cons.mp ru;obtain ⟨u2,us2,rfl,p3,p4⟩:=reps_cons.mp p2;cases reps_nil.mp p4;have ew:=vq (H:=H) (.inl p1) ek;subst ew;obtain ⟨ts,kvs,rfl,q1,q2,q3⟩:=Pg s hp r2;exact ⟨t::ts,(kk,u2)::kvs,rfl,.cons (s _ _ ht) q1,by rw [yO,yO,q2],.cons p3 q3⟩
  ·cases h
instance:Qb Pr wA where
 h:=λ{xs z} e {Hs H vs} s r {Q} q=>by
  unfold wA at e;split at e
  ·obtain ⟨ps,eb,e1⟩:=bind_some e;split at e1
   ·rename_i hl;cases e1;obtain ⟨v,rfl,a⟩:=zt r;obtain ⟨p,ws,rfl,ep,r1⟩:=qE s a;obtain ⟨ts,kvs,rfl,q1,q2,q3⟩:=Pg s eb r1;have hk:kvs.length=ps.length:=by have:=congrArg List.length q2;rwa [yZ,yZ] at this
    refine ⟨p,ts,kvs,rfl,ep,q1,by rw [q2];exact hl.1,by omega,λl o hn=>?_⟩;exact q _ _ _ (.new s hn) (rep_fk.mpr ⟨l,o,kvs,rfl,g8,q2,q3.mono (Ext.new s hn).s1⟩)
   ·cases e1
  ·cases e
def dItV (a:M):MA:=λε=>(a ε).bind λx=>match x with
 | .fk _ xs=>some xs
 |_=>none
theorem LW {a:Addr}{o:Obj}(h:Hs a=some (.frz o (.dK kvs)))(r:Reps Hs xs (kvs.map (·.2))):jC (Itv a o kvs) xs Hs where
 go:=λi x Hs1 H1 e g1 g2=>by
  obtain ⟨v,ev,rv⟩:=r.get e;have hl:i<kvs.length:=by have:=(yC.mp ev).1;rwa [yZ] at this
  refine ⟨⟨g2 _ _ (g1 _ _ h),hl⟩,λw H2 y=>?_⟩;obtain ⟨rfl,k,y⟩:=y;rw [yP,y] at ev;cases ev;exact ⟨Hs1,.refl g2,rv.mono g1⟩
 stop:=λHs1 H1 g1 g2=>⟨g2 _ _ (g1 _ _ h),by have:=r.length;rw [yZ] at this;omega⟩
instance {a:M}[sa:SemE te a]:jn (Ba te) (dItV a) where
 h:=λe _ _ _ _ _ rs _ q=>by
  obtain ⟨x,ex,e1⟩:=bind_some e;split at e1
  ·cases e1;refine sa.h ex rs λv Hs1 H1 x1 r1=>?_;obtain ⟨p,o,kvs,rfl,hp,_,r⟩:=rep_fk.mp r1;exact ⟨p,o,kvs,rfl,x1.s3 _ _ hp,q _ _ _ x1 (LW hp r)⟩
  ·cases e1
end Mi
namespace L2
open PySem PySem.Spec PyProof.Rows
variable{pos:Pos}{l:List Value}
theorem Ic:∀{l:List Value}{i j:Int}{t u:Tok}{c:Value},TriplesOk l->TriplesOk (l++[.int i t,.int j u,c]):=by
 intro l i j t u c h
 fun_induction TriplesOk l with
 |case1=>trivial
 |case2 _ _ _ _ _ rest ih=>exact ih h
 |case3=>exact h.elim
theorem DA {c:Value}{r:List Value}(h:codeAmong pos l=some c):codeAmong pos (l++r)=some c:=by
 fun_induction codeAmong pos l with
 |case1 line t col u d rest e=>show codeAmong pos (.int line t:: .int col u::d::(rest++r))=some c;unfold codeAmong;rw [if_pos e];exact h
 |case2 line t col u d rest e ih=>show codeAmong pos (.int line t:: .int col u::d::(rest++r))=some c;unfold codeAmong;rw [if_neg e];exact ih h
 |case3=>cases h
theorem Dz {i j:Int}{t u:Tok}{d:Value}(ok:TriplesOk l)(h:codeAmong pos l=none):codeAmong pos (l++[.int i t,.int j u,d])=if i==pos.line&&j==pos.col then some d else none:=by
 fun_induction TriplesOk l with
 |case1=>show codeAmong pos (.int i t:: .int j u::d::[])=_;unfold codeAmong;rfl
 |case2 a b c e f rest ih =>
  unfold codeAmong at h;split at h
  ·cases h
  ·rename_i ne;show codeAmong pos (.int a b:: .int c e::f::(rest++_))=_;unfold codeAmong;rw [if_neg ne];exact ih ok h
 |case3=>exact ok.elim
section
variable {X:Cx}{pins:List (Addr×Obj)}{σ:St}{H:Hp}{s:Shared}{Pt c:Addr}{ps:Array Value}{wt:List (Pos×Str)}{params:Arguments}{body:Expr}{scope:Scope}{pos:Pos}{clos:List (Str×Addr)}{Q:Value->Shared->Prop}{E:Value->Shared->Prop}
theorem Inv.trackN {h':Heap}{tk:Tok}{o:HO}{ob:Obj}(I':Inv X pins σ H { s with heap:=h',toks:=tk })(nb:H h'.objs.size=none)(J:Inv X pins σ H { s with heap:=h'.push ob,toks:=tk })(new:ObjOk X.prog X.w (w6 H h'.objs.size o) (h'.push ob) h'.objs.size o):Inv X pins σ (w6 H h'.objs.size o) { s with heap:=h'.push ob,toks:=tk }:=by
 refine J.track I'.sz nb (ua I'.lt) (λx c e=>?_) (λq hq=>?_) new
 ·obtain ⟨v,oc,e1,_⟩:=I'.cell x c e;exact yL (yQ e1)
 ·exact yL (yQ (I'.pin q hq).1)
theorem Bw (I:Inv X pins σ H s)(hP:(Pt,ps,wt)∈TABS)(hw:(pos,X.env.qual ++ "<lambda>")∈wt)(hu:∀ p∈wt,(p.1.line==pos.line&&p.1.col==pos.col)=true->p.2=X.env.qual ++ "<lambda>")(hcode:X.env.code = .ref c)(C:PySem.W.CodeHd X.base c Pt)(hcl:closureFor scope X.env=pure clos)(hdef:defaultsOf params X.env=([],[]))(h:∀ (f c':Addr) (oc:Obj) (vs:Array Value) (tq:Tok) (ctv:Value) (H':Hp) (h':Heap) (tk:Tok),Inv X pins σ H' { s with heap:=h',toks:=tk }->(∀ b o,H b=some o->H' b=some o)->(∀ b,H b=none->H' b≠none->s.heap.get? b=none) -> H' f=some (.frz (PySem.W.kla_obj "<lambda>" (X.env.qual ++ "<lambda>") params body scope clos ((X.mg "__name__").getD .none) c' ctv) (.own Pt))->H' c'=some (.frz oc (.own Pt))->oc.data = .fields vs->vs[1]?=some (.str (X.env.qual ++ "<lambda>") tq)->Q (.ref f) { s with heap:=h',toks:=tk }):wpAny (model X.prog X.w) X.A (eval (.Lambda params body scope pos) X.env) Q E s:=by
 have hT:H Pt=some (.tbl ps wt):=I.base.tbls _ _ _ (I.ok.tbs _ hP);obtain ⟨more,eP,tri,wk⟩:=I.hok Pt _ hT;obtain ⟨bm,ob,b1,b2,b3,b4,b5,b6⟩:=I.mod.bmn;have hgs:=(I.mod.glob).keeps I.bk;have hgP:mainGlobals≠Pt:=λz=>by
  obtain ⟨o,_,_,e,_⟩:=I.mod.glob;have:=(I.bs _ _ e).2;rw [z,hT] at this;cases this
 have hbP:bm≠Pt:=λz=>by
  have:=(I.bs _ _ b3).2;rw [z,hT] at this;cases this
 have hbG:bm≠mainGlobals:=λz=>by
  obtain ⟨o,es,ep,e,hd,_⟩:=I.mod.glob;rw [z,e] at b3;cases b3;rw [hd] at b6;cases b6
 have hB:s.heap.BuiltinsAt X.mg Pt:=⟨bm,ob,b1,b2,hbG,hbP,I.bk _ _ b3,b4,b5,b6⟩;refine PySem.W.kla_eval hdef ?_;rcases wk _ hw with hn|⟨cc,o1,vs1,t1,hf,oc,e2,e3⟩
 ·refine PySem.W.kla_makeFunction (mg:=X.mg) hcl I.ok.glob hgs hcode (C.keeps I.bk) eP tri hn hgP hB λc' ctv h' tk hx hge hlt hrec htb=>?_;obtain ⟨c2,oc,vs,tq,z1,z2,z3,z4⟩:=hrec;cases z1;have nc:H c'=none:=I.hok.fresh hge;have un:Un X.fs [] H (w6 H c' (.frz oc (.own Pt))) s.heap h':=by
   refine ⟨λb o e n _ _=>hx b o (λz=>by rw [z,hT] at n;cases n) e,λb o e n _ _=>⟨o.slots,hx b o (λz=>by rw [z,hT] at n;cases n) e⟩,λb o e n _=>?_,λb o e _=>?_,λb xs e=>?_,λb o u e=>?_,λb q r e=>?_⟩
   ·rw [w4 (yL (yF (yQ e) hge))];exact n
   ·by_cases hb:b=Pt
    ·exact ⟨_,hb▸htb⟩
    ·exact ⟨o,hx b o hb e⟩
   ·rw [w4 (k4 e nc)];exact e
   ·rw [w4 (k4 e nc)];exact e
   ·rw [w4 (k4 e nc)];exact e
  have hok:HOk X.prog X.w (w6 H c' (.frz oc (.own Pt))) h':=λb u e=>by
   by_cases hb:b=c'
   ·subst hb;rw [g8] at e;cases e;exact ⟨z2,oc,z2⟩
   ·rw [w4 hb] at e;by_cases hb2:b=Pt
    ·rw [hb2] at e ⊢;rw [hT] at e;cases e;have ea:ps++(more++#[rawInt pos.line,rawInt pos.col,.ref c'])=ps++more++#[rawInt pos.line,rawInt pos.col,.ref c']:=(Array.append_assoc).symm;have el:(ps++more++#[rawInt pos.line,rawInt pos.col,.ref c']).toList=(ps++more).toList++[rawInt pos.line,rawInt pos.col,.ref c']:=Array.toList_append;refine ⟨more++#[rawInt pos.line,rawInt pos.col,.ref c'],by rw [ea];exact htb,by rw [ea,el];exact Ic tri,λp hp=>?_⟩;rw [ea,el];rcases wk p hp with z|⟨d,o2,vs2,t2,z,od,z2⟩
     ·have am:=Dz (pos:=p.1) (i:=pos.line) (j:=pos.col) (t:=0) (u:=0) (d:= .ref c') tri z;by_cases hm:(((pos.line:Int)==p.1.line&&(pos.col:Int)==p.1.col)=true)
      ·rw [if_pos hm] at am;have hq:p.2=X.env.qual ++ "<lambda>":=hu p hp (by
        simp only [yi,beq_iff_eq] at hm ⊢;omega)
       exact .inr ⟨c',oc,vs,tq,am,g8,z3,by rw [hq];exact z4⟩
      ·rw [if_neg hm] at am;exact .inl am
     ·exact .inr ⟨d,o2,vs2,t2,DA z,by rw [w4 (k4 od nc)];exact od,z2⟩
    ·refine (I.hok b u e).stay (λd v hd q=>hx d v ?_ q) (λd q=>by rw [w4 (k4 q nc)];exact q) (λd xs q=>by rw [w4 (k4 q nc)];exact q) λd _ xs q=>by rw [w4 (k4 q nc)];exact q
     rcases hd with z|z
     ·rw [z];exact hb2
     ·intro q;rw [q,hT] at z;cases z
  have I':=I.un (t':=tk) un hok;have ncf:c'≠h'.objs.size:=yL hlt;have sz:s.heap.objs.size<=h'.objs.size:=yj hge (uL hlt);have nf:w6 H c' (.frz oc (.own Pt)) h'.objs.size=none:=by rw [w4 (Ne.symm ncf)];exact I.hok.fresh sz
  have kp:∀ b o,h'.get? b=some o->(h'.push (PySem.W.kla_obj "<lambda>" (X.env.qual ++ "<lambda>") params body scope clos ((X.mg "__name__").getD .none) c' ctv)).get? b=some o:=λb o e=>yU _ e;have J:=I'.un (t':=tk) (Un.kept kp) (I'.hok.kept kp);have f1:=yD (h:=h') (o:=PySem.W.kla_obj "<lambda>" (X.env.qual ++ "<lambda>") params body scope clos ((X.mg "__name__").getD .none) c' ctv) rfl;refine h _ c' oc vs tq ctv _ _ tk (Inv.trackN (o:= .frz (PySem.W.kla_obj "<lambda>" (X.env.qual ++ "<lambda>") params body scope clos ((X.mg "__name__").getD .none) c' ctv) (.own Pt)) I' nf J ⟨f1,_,f1⟩) (λb o e=>?_) (λb n n'=>?_) g8 (by rw [w4 ncf];exact g8) z3 z4
  ·have n1:b≠c':=k4 e nc;have e':w6 H c' (.frz oc (.own Pt)) b=some o:=by rw [w4 n1];exact e
   rw [w4 (k4 e' nf)];exact e'
  ·by_cases hb:b=h'.objs.size
   ·rw [hb];exact uo sz
   ·rw [w4 hb] at n';by_cases hb2:b=c'
    ·rw [hb2];exact uo hge
    ·rw [w4 hb2] at n';exact absurd n n'
 ·refine PySem.W.kla_makeFunctionHit (mg:=X.mg) hcl I.ok.glob hgs hcode (C.keeps I.bk) eP tri hf hB λctv h' tk hk hsz=>?_;have I':=I.un (t':=tk) (Un.kept hk) (I.hok.kept hk);have kp:∀ b o,h'.get? b=some o->(h'.push (PySem.W.kla_obj "<lambda>" (X.env.qual ++ "<lambda>") params body scope clos ((X.mg "__name__").getD .none) cc ctv)).get? b=some o:=λb o e=>yU _ e;have nf:H h'.objs.size=none:=I.hok.fresh hsz;have J:=I'.un (t':=tk) (Un.kept kp) (I'.hok.kept kp);have f1:=yD (h:=h') (o:=PySem.W.kla_obj "<lambda>" (X.env.qual ++ "<lambda>") params body scope clos ((X.mg "__name__").getD .none) cc ctv) rfl;refine h _ cc o1 vs1 t1 ctv _ _ tk (Inv.trackN (o:= .frz (PySem.W.kla_obj "<lambda>" (X.env.qual ++ "<lambda>") params body scope clos ((X.mg "__name__").getD .none) cc ctv) (.own Pt)) I' nf J ⟨f1,_,f1⟩) (λb o e=>by rw [w4 (k4 e nf)];exact e) (λb n n'=>?_) g8 (by rw [w4 (k4 oc nf)];exact oc) e2 e3;by_cases hb:b=h'.objs.size
  ·rw [hb];exact uo hsz
  ·rw [w4 hb] at n';exact absurd n n'
end
def vk (P:Program)(w:World)(K:Fg)(mg:Str->Option Value)(base:Heap)(N:List Str)(qual:Str)(scope:Scope)(f c':Addr)(clos:List (Str×Addr))(A:Around)(outer:List Env)(s:Shared)(H:Hp):Cx where
 prog:=P
 w:=w
 K:=K
 mg:=mg
 base:=base
 A:=A.deeper (PySem.W.envX qual scope s.heap.objs.size f (.ref c') clos)
 N:=N
 s₀:=s
 H₀:=H
 env:=PySem.W.envX qual scope s.heap.objs.size f (.ref c') clos
 outer:=outer
 stack:=PySem.W.envX qual scope s.heap.objs.size f (.ref c') clos::outer
 ex:=[]
 calm:=true
 fn:=λ_=>false
 pn:=[]
 xe:=λ_ _=>False
structure wR (ps fr:List Str)(scope:Scope):Prop where
 co:scope.isCoroutine=false
 gen:scope.isGenerator=false
 kind:scope.kind = .function
 nocell:∀ x∈scope.names,x.2 ≠ .cell
 par:∀ x∈ps,scope.names.lookup x=some .local
 fre:∀ x,scope.names.lookup x=some .free->x∈fr
 nd:ps.Nodup
theorem Dt:∀{ps:List Str}{us:List Value}{i:Nat}{x:Str}{u:Value},ps.Nodup->ps[i]?=some x->us[i]?=some u->(ps.zip us).reverse.lookup x=some u
 |[],_,i,x,u,_,h,_=>by simp at h
 |_::_,[],i,x,u,_,_,h=>by simp at h
 |p::ps,v::us,0,x,u,nd,h1,h2=>by
  simp at h1 h2;subst h1;subst h2;rw [List.zip_cons_cons,List.reverse_cons,List.lookup_append];have n:(ps.zip us).reverse.lookup p=none:=by rw [List.lookup_eq_none_iff];intro q hq;have hq':=List.mem_reverse.mp hq;obtain ⟨a,b⟩:=q;have:=(ud hq').1;simp only [bne_iff_ne,ne_eq,beq_eq_false_iff_ne];intro e;subst e;exact (yo.mp nd).1 this
  rw [n];simp
 |p::ps,v::us,i+1,x,u,nd,h1,h2=>by
  rw [List.zip_cons_cons,List.reverse_cons,List.lookup_append,Dt (i:=i) (yo.mp nd).2 (by simpa using h1) (by simpa using h2)];rfl
section
variable {P:Program}{w:World}{K:Fg}{mg:Str->Option Value}{base:Heap}{A:Around}{outer:List Env}{s:Shared}{H:Hp}{f c':Addr}{pm ctv:Value}{params:Arguments}{body:Expr}{scope:Scope}{qual:Str}{clos:List (Str×Addr)}{ps fr:List Str}
 {us:List Value} {vs cv:List V} {t:TE} {Q:VK} {E:XK}
theorem Bv (S:wR ps fr scope)(hdp:A.depth<recursionLimit)(hhd:A.handled=none)(e0:Env0 P w K mg base A outer s H)(hf:s.heap.get? f=some (PySem.W.kla_obj "<lambda>" qual params body scope clos pm c' ctv))(hcd:s.heap.CodeRec (.ref c') qual)(hbind:bindArgs (PySem.W.kla_fn "<lambda>" qual params body scope clos pm (.ref c') ctv) ⟨us,[]⟩=pure (ps.zip us))(hl:vs.length=ps.length)(r:Vals vs us)(inj:∀ x y c,clos.lookup x=some c->clos.lookup y=some c->x=y)(hc:∀ x c,clos.lookup x=some c->(∃ v,s.heap.IsCell c v)/\H c=none)(hlc:cv.length=fr.length)(hcv:∀ (i:Nat) (x:Str) (v:V),fr[i]?=some x->cv[i]?=some v->scope.names.lookup x=some .free/\∃ c u,clos.lookup x=some c/\s.heap.IsCell c (some u)/\RelV v u)(hb:PE (vk P w K mg base (ps++fr) qual scope f c' clos A outer s H) body t)(hq:t ((vs++cv).map some) H Q):codeAny (model P w) A (.call (.ref f) ⟨us,[]⟩) (CR v9 outer P w H s Q E) s:=by
 have lim:s.heap.NoLimit:=e0.mod.nolimit.keeps λb o e=>(e0.bs b o e).1;refine PySem.W.kla_callFunE hdp hf rfl S.co S.gen rfl hcd ?_;rw [hbind];refine yx (wpAny_newFunctionEnv S.nocell (λy hy=>S.par _ (ud (show (y.1,y.2)∈ps.zip us from hy)).1) (λh₁ hns hsb=>⟨lim.fresh _ hsb,?_⟩) S.kind);show codeAny _ _ (.expr body (PySem.W.envX qual scope s.heap.objs.size f (.ref c') clos)) _ _;have hk₁:∀ b o,s.heap.get? b=some o->h₁.get? b=some o:=λb o e=>hsb.extBut b o (yL (yQ e)) (yU _ e);have noA:∀ b:Addr,b∉(vk P w K mg base (ps++fr) qual scope f c' clos A outer s H).ex:=λb z=>absurd (show b∈([]:List Addr) from z) (by simp);have cellK:∀{c:Addr}{v:Option Value},s.heap.IsCell c v->h₁.IsCell c v:=λ{c v} ⟨o,e,d⟩=>⟨o,hk₁ _ _ e,d⟩;have I:Inv (vk P w K mg base (ps++fr) qual scope f c' clos A outer s H) [] ((vs++cv).map some) H { s with heap:=h₁,toks:=s.toks+(ps.zip us).length }:=by
  refine ⟨⟨e0.mod,S.kind,rfl,rfl,yW _,inj,λx hx=>?_,λx c z=>absurd (show false=true from z) (by decide),λ_=>hhd,Around.frames_deeper e0.frames,.inr ⟨rfl,rfl⟩,λb z=>absurd z (noA b),e0.bs,e0.bsz,λb _ _=>noA b,λb z=>absurd z (noA b),e0.funs,e0.frf,e0.tbs⟩,
   rfl,e0.bare,Un.kept hk₁,⟨_,hns,λi x v h1 h2 h3=>?_⟩,λx c e=>?_,e0.hok.fresh (yW _),λx c e=>(hc x c e).2,λp hp=>absurd (show p∈([]:List (Addr×Obj)) from hp) (by simp),e0.hok.kept hk₁,?_⟩
  ·have hx:scope.names.lookup x=some .cell∨scope.names.lookup x=some .free:=hx;rcases hx with z|z
   ·exact absurd rfl (S.nocell _ (PySem.mem_of_lookup z))
   ·obtain ⟨i,hi,e⟩:=uH (S.fre x z);have hic:i<cv.length:=by omega
    obtain ⟨_,c,u,e1,_⟩:=hcv i x cv[i] (by rw [yY hi,e]) (yY hic);exact ⟨c,e1⟩
  ·have h1':(ps++fr)[i]?=some x:=h1;rw [yP] at h2;obtain ⟨v',e1,e2⟩:=yN.mp h2;cases e2;by_cases hi:i<ps.length
   ·rw [yc hi] at h1';rw [yc (by omega)] at e1;obtain ⟨u,hu,rv⟩:=r.get e1;exact ⟨u,rv,.inl ⟨S.par x (yh h1'),Dt S.nd h1' hu⟩⟩
   ·rw [ym (by omega)] at h1';rw [ym (by omega),hl] at e1;obtain ⟨k,c,u,a1,a2,a3⟩:=hcv _ x _ h1' e1;exact ⟨u,a3,.inr ⟨.inr k,c,a1,cellK a2⟩⟩
  ·obtain ⟨⟨v,z⟩,_⟩:=hc x c e;exact ⟨v,cellK z⟩
  ·show ((vs++cv).map some).length=(ps++fr).length;rw [yZ,yM,yM,hl,hlc]
 refine PySem.W.kla_codeExpr (wpAny_mono (hb [] _ _ H Q I hq) (λu s' z=>?_) λe s' z=>z.elim);obtain ⟨v,H',J,rv,q⟩:=z;exact ⟨v,H',J.os,J.bare,J.base,J.hok,rv,q⟩
end
end L2
namespace Ka
open PySem.W PyProof.Rows
variable{a b j n nrem:Nat}{p:Array Nat}
def ev {α:Type}(ans:Nat->Nat->Bool):KasT α->α
 | .ret a=>a
 | .ask i j k=>ev ans (k (ans i j))
theorem Qs {α β:Type}{ans:Nat->Nat->Bool}{f:α->KasT β}:∀ t:KasT α,ev ans (t.bind f)=ev ans (f (ev ans t))
 | .ret _=>rfl
 | .ask i j k=>Qs (k (ans i j))
structure Ord (lt:Nat->Nat->Bool):Prop where
 irr:∀ a,lt a a=false
 tr:∀ a b c,lt a b=true->lt b c=true->lt a c=true
 neg:∀ a b c,lt a c=true->lt a b=true∨lt b c=true
section
variable {lt:Nat->Nat->Bool}(O:Ord lt)
def le (lt:Nat->Nat->Bool)(a b:Nat):Prop:=lt b a=false
include O in
theorem le_refl (a:Nat):le lt a a:=O.irr a
include O in
theorem le_trans {c:Nat}(h:le lt a b)(k:le lt b c):le lt a c:=by
 unfold le at *
 cases e:lt c a with
 |false=>rfl
 |true =>
  rcases O.neg c b a e with z|z
  ·rw [k] at z;cases z
  ·rw [h] at z;cases z
include O in
theorem le_of_lt (h:lt a b=true):le lt a b:=by
 unfold le;cases e:lt b a with
 |false=>rfl
 |true=>have:=O.tr a b a h e;rw [O.irr] at this;cases this
def g (p:Array Nat)(i:Nat):Nat:=p.getD i 0
theorem Xr {q:Array Nat}{i:Nat}(h:p[i]?=q[j]?):g p i=g q j:=by unfold g;rw [Array.getD_eq_getD_getElem?,Array.getD_eq_getD_getElem?,h]
def Up (lt:Nat->Nat->Bool)(p:Array Nat)(k:Nat):Prop:=∀ i j,i<=j->j<k->le lt (g p i) (g p j)
def jm (lt:Nat->Nat->Bool)(p:Array Nat)(k:Nat):Prop:=∀ i j,i<=j->j<k->le lt (g p j) (g p i)
def Eqs (lt:Nat->Nat->Bool)(p:Array Nat)(a b:Nat):Prop:=∀ i j,a<=i->i<b->a<=j->j<b->le lt (g p i) (g p j)
include O in
theorem ID (p:Array Nat):Up lt p 1:=λi j h k=>by
 have:i=j:=by omega
 subst this;exact le_refl O _
include O in
theorem IC (h1:1<=n)(h:Up lt p n)(k:le lt (g p (n-1)) (g p n)):Up lt p (n+1):=λi j hij hj=>by
 by_cases e:j=n
 ·subst e;by_cases e2:i=j
  ·subst e2;exact le_refl O _
  ·exact le_trans O (h i (j-1) (by omega) (by omega)) k
 ·exact h i j hij (by omega)
include O in
theorem ZM (h1:1<=n)(h:jm lt p n)(k:le lt (g p n) (g p (n-1))):jm lt p (n+1):=λi j hij hj=>by
 by_cases e:j=n
 ·subst e;by_cases e2:i=j
  ·subst e2;exact le_refl O _
  ·exact le_trans O k (h i (j-1) (by omega) (by omega))
 ·exact h i j hij (by omega)
theorem Xs {i:Nat}(hj:j<=p.size)(k:Nat):g (kas_rev p i j) k=if i<=k/\k<j then g p (i+j-1-k) else g p k:=by
 have e:=getElem?_mirror_all (xs:=p) (i:=i) hj k;unfold kas_rev;split
 ·rename_i h;rw [if_pos h] at e;exact Xr e
 ·rename_i h;rw [if_neg h] at e;exact Xr e
theorem wF {i:Nat}:(kas_rev p i j).size=p.size:=mirror_size _ _ _ _
theorem rev_perm {i:Nat}:(kas_rev p i j).Perm p:=mirror_perm _ _ _ _
include O in
theorem JW {p:Array Nat}:∀(f n:Nat),1<=n->Up lt p n -> n<=ev lt (kas_asc p f n)/\ev lt (kas_asc p f n)<=n+f/\Up lt p (ev lt (kas_asc p f n))/\(ev lt (kas_asc p f n)=n+f∨lt (g p (ev lt (kas_asc p f n))) (g p (ev lt (kas_asc p f n)-1))=true)
 |0,n,_,h=>⟨yW _,yW _,h,.inl rfl⟩
 |f+1,n,h1,h=>by
  have e:ev lt (kas_asc p (f+1) n)=ev lt (if lt (g p n) (g p (n-1))=true then KasT.ret n else kas_asc p f (n+1)):=rfl;cases c:lt (g p n) (g p (n-1)) with
  |true=>rw [c,if_pos rfl] at e;rw [e];exact ⟨yW _,by show n<=_;omega,h,.inr c⟩
  |false=>rw [c,if_neg (by simp)] at e;rw [e];obtain ⟨a1,a2,a3,a4⟩:=JW f (n+1) (by omega) (IC O h1 h c);exact ⟨by omega,by omega,a3,by rcases a4 with z|z;exact .inl (by omega);exact .inr z⟩
include O in
theorem Vq (ha:a<=n)(hn:n<=p.size)(h:jm lt p n)(q:Eqs lt p a n):jm lt (kas_rev p a n) n/\∀ i,i<n->le lt (g p (n-1)) (g (kas_rev p a n) i):=by
 have eqv:∀ i,i<n->le lt (g (kas_rev p a n) i) (g p i)/\le lt (g p i) (g (kas_rev p a n) i):=λi hi=>by
  rw [Xs hn];split
  ·rename_i z;exact ⟨q _ _ (by omega) (by omega) (by omega) (by omega),q _ _ (by omega) (by omega) (by omega) (by omega)⟩
  ·exact ⟨le_refl O _,le_refl O _⟩
 refine ⟨λi j hij hj=>?_,λi hi=>?_⟩
 ·exact le_trans O (le_trans O (eqv j hj).1 (h i j hij hj)) (eqv i (by omega)).2
 ·exact le_trans O (h i (n-1) (by omega) (by omega)) (eqv i hi).2
include O in
theorem ZL:∀(f:Nat)(p:Array Nat)(n q:Nat),q+1<=n->n+f<=p.size->jm lt p n->Eqs lt p (n-(q+1)) n -> ∃ p' n' q',ev lt (kas_desc f p n q)=(p',n',q')/\p'.Perm p/\p'.size=p.size/\n<=n'/\n'<=n+f/\jm lt p' n'/\q'+1<=n'/\Eqs lt p' (n'-(q'+1)) n'
 |0,p,n,q,hq,_,h,e=>⟨p,n,q,rfl,.refl _,rfl,yW _,yW _,h,hq,e⟩
 |f+1,p,n,q,hq,hs,h,he=>by
  have ee:ev lt (kas_desc (f+1) p n q)=ev lt (if lt (g p n) (g p (n-1))=true then (if q > 0 then kas_desc f (kas_rev p (n-(q+1)) n) (n+1) 0 else kas_desc f p (n+1) 0) else KasT.ask (g p (n-1)) (g p n) λd=>if d=true then .ret (p,n,q) else kas_desc f p (n+1) (q+1)):=rfl;cases c:lt (g p n) (g p (n-1)) with
  |true =>
   rw [c,if_pos rfl] at ee;by_cases hq0:q > 0
   ·rw [if_pos hq0] at ee;obtain ⟨d1,d2⟩:=Vq O (a:=n-(q+1)) (by omega) (by omega) h he;have gn:g (kas_rev p (n-(q+1)) n) n=g p n:=by rw [Xs (by omega),if_neg (by omega)]
    have dn:jm lt (kas_rev p (n-(q+1)) n) (n+1):=ZM O (by omega) d1 (by rw [gn];exact le_trans O (le_of_lt O c) (d2 (n-1) (by omega)));obtain ⟨p',n',q',a1,a2,a3,a4,a5,a6⟩:=ZL f (kas_rev p (n-(q+1)) n) (n+1) 0 (by omega) (by rw [wF];omega) dn (λi j i1 i2 j1 j2=>(show i=j by omega)▸le_refl O _);exact ⟨p',n',q',ee.trans a1,a2.trans rev_perm,a3.trans wF,by omega,by omega,a6⟩
   ·rw [if_neg hq0] at ee;obtain ⟨p',n',q',a1,a2,a3,a4,a5,a6⟩:=ZL f p (n+1) 0 (by omega) (by omega) (ZM O (by omega) h (le_of_lt O c)) (λi j i1 i2 j1 j2=>(show i=j by omega)▸le_refl O _);exact ⟨p',n',q',ee.trans a1,a2,a3,by omega,by omega,a6⟩
  |false =>
   rw [c,if_neg (by simp)] at ee;have e2:ev lt (kas_desc (f+1) p n q)=ev lt (if lt (g p (n-1)) (g p n)=true then KasT.ret (p,n,q) else kas_desc f p (n+1) (q+1)):=ee;cases d:lt (g p (n-1)) (g p n) with
   |true=>rw [d,if_pos rfl] at e2;exact ⟨p,n,q,e2,.refl _,rfl,yW _,by omega,h,hq,he⟩
   |false =>
    rw [d,if_neg (by simp)] at e2;have dn:=ZM O (by omega) h (show le lt (g p n) (g p (n-1)) from d);obtain ⟨p',n',q',a1,a2,a3,a4,a5,a6⟩:=ZL f p (n+1) (q+1) (by omega) (by omega) dn (λi j i1 i2 j1 j2=>by
     have lo:∀ k,n-(q+1)<=k->k<n+1->le lt (g p k) (g p (n-1))/\le lt (g p (n-1)) (g p k):=λk k1 k2=>by
      by_cases hk:k=n
      ·subst hk;exact ⟨d,c⟩
      ·exact ⟨he _ _ (by omega) (by omega) (by omega) (by omega),he _ _ (by omega) (by omega) (by omega) (by omega)⟩
     exact le_trans O (lo i (by omega) i2).1 (lo j (by omega) j2).2)
    exact ⟨p',n',q',e2.trans a1,a2,a3,by omega,by omega,a6⟩
include O in
theorem CK (h1:1<=n)(hn:n<=nrem)(hs:nrem<=p.size)(h:jm lt p n):∃ m p',ev lt (kas_tail3 n nrem p)=(m,p')/\p'.Perm p/\p'.size=p.size/\1<=m/\m<=nrem/\Up lt p' m:=by
 unfold kas_tail3;rw [Qs];have up:Up lt (kas_rev p 0 n) n:=λi j hij hj=>by
  rw [Xs (by omega),Xs (by omega),if_pos (by omega),if_pos (by omega)];exact h _ _ (by omega) (by omega)
 obtain ⟨a1,a2,a3,_⟩:=JW O (nrem-n) n h1 up;exact ⟨_,_,rfl,rev_perm,wF,by omega,by omega,a3⟩
include O in
theorem KC (hn:n+1<=nrem)(hs:nrem<=p.size)(h:jm lt p (n+1)):∃ m p',ev lt (kas_descPart n nrem p)=(m,p')/\p'.Perm p/\p'.size=p.size/\1<=m/\m<=nrem/\Up lt p' m:=by
 unfold kas_descPart;rw [Qs];obtain ⟨p',n',q',a1,a2,a3,a4,a5,a6,a7,a8⟩:=ZL O (nrem-(n+1)) p (n+1) 0 (by omega) (by omega) h (λi j i1 i2 j1 j2=>(show i=j by omega)▸le_refl O _);rw [a1]
 dsimp only
 split
 ·obtain ⟨d1,_⟩:=Vq O (a:=n'-(q'+1)) (by omega) (by omega) a6 a8;obtain ⟨m,p2,b1,b2,b3,b4⟩:=CK O (nrem:=nrem) (by omega) (by omega) (by rw [wF];omega) d1;exact ⟨m,p2,b1,b2.trans (rev_perm.trans a2),by rw [b3,wF,a3],b4⟩
 ·obtain ⟨m,p2,b1,b2,b3,b4⟩:=CK O (nrem:=nrem) (by omega) (by omega) (by omega) a6;exact ⟨m,p2,b1,b2.trans a2,by rw [b3,a3],b4⟩
include O in
theorem Mo (h0:1<=nrem)(hs:nrem<=p.size):∃ m p',ev lt (kas_count nrem p)=(m,p')/\p'.Perm p/\p'.size=p.size/\1<=m/\m<=nrem/\Up lt p' m:=by
 unfold kas_count;rw [Qs];obtain ⟨a1,a2,a3,a4⟩:=JW O (p:=p) (nrem-1) 1 (yW _) (ID O p);generalize hm:ev lt (kas_asc p (nrem-1) 1)=m at a1 a2 a3 a4 ⊢;by_cases e1:(m==nrem)=true
 ·rw [if_pos e1];exact ⟨m,p,rfl,.refl _,rfl,a1,by omega,a3⟩
 ·rw [if_neg e1];have ne:m≠nrem:=λz=>e1 (by rw [z];exact beq_self_eq_true _);have c:lt (g p m) (g p (m-1))=true:=by
   rcases a4 with z|z
   ·omega
   ·exact z
  by_cases e2:m > 1
  ·rw [if_pos e2];have ee:ev lt (KasT.ask (p.getD 0 0) (p.getD (m-1) 0) λc=>if c=true then KasT.ret (m,p) else kas_descPart m nrem (kas_rev p 0 m))=ev lt (if lt (g p 0) (g p (m-1))=true then KasT.ret (m,p) else kas_descPart m nrem (kas_rev p 0 m)):=rfl;rw [ee];cases d:lt (g p 0) (g p (m-1)) with
   |true=>rw [if_pos rfl];exact ⟨m,p,rfl,.refl _,rfl,a1,by omega,a3⟩
   |false =>
    rw [if_neg (by simp)];have all:Eqs lt p 0 m:=λi j _ i2 _ j2=>le_trans O (le_trans O (a3 i (m-1) (by omega) (by omega)) (show le lt (g p (m-1)) (g p 0) from d)) (a3 0 j (by omega) j2);obtain ⟨d1,d2⟩:=Vq O (a:=0) (by omega) (by omega) (λi j hij hj=>all _ _ (by omega) (by omega) (by omega) (by omega)) all;have gm:g (kas_rev p 0 m) m=g p m:=by rw [Xs (by omega),if_neg (by omega)]
    have dn:jm lt (kas_rev p 0 m) (m+1):=ZM O (by omega) d1 (by rw [gm];exact le_trans O (le_of_lt O c) (d2 (m-1) (by omega)));obtain ⟨m2,p2,b1,b2,b3,b4⟩:=KC O (nrem:=nrem) (by omega) (by rw [wF];omega) dn;exact ⟨m2,p2,b1,b2.trans rev_perm,by rw [b3,wF],b4⟩
  ·rw [if_neg e2];have e3:m=1:=by omega
   subst e3;exact KC O (by omega) hs (λi j hij hj=>by
    by_cases z:i=j
    ·subst z;exact le_refl O _
    ·have z1:i=0:=by omega
     have z2:j=1:=by omega
     subst z1 z2;exact le_of_lt O c)
include O in
theorem Wx {p:Array Nat}{k:Nat}(up:Up lt p k):∀(f l r:Nat),r-l<=f->l<=r->r<=k->(∀ i,i<l->le lt (g p i) (g p k))->(∀ i,r<=i->i<k->le lt (g p k) (g p i)) -> ev lt (kas_place p k f l r)<=k/\(∀ i,i<ev lt (kas_place p k f l r)->le lt (g p i) (g p k))/\∀ i,ev lt (kas_place p k f l r)<=i->i<k->le lt (g p k) (g p i)
 |0,l,r,hf,hl,hr,h1,h2=>by
  have e:l=r:=by omega
  subst e;exact ⟨hr,h1,h2⟩
 |f+1,l,r,hf,hl,hr,h1,h2=>by
  have e:ev lt (kas_place p k (f+1) l r)=ev lt (if l >= r then KasT.ret l else KasT.ask (p.getD k 0) (p.getD ((l+r) / 2) 0) λc=>if c=true then kas_place p k f l ((l+r) / 2) else kas_place p k f ((l+r) / 2+1) r):=rfl;by_cases c:l >= r
  ·rw [if_pos c] at e;have e':l=r:=by omega
   subst e';rw [e];exact ⟨hr,h1,h2⟩
  ·rw [if_neg c] at e;have e2:ev lt (kas_place p k (f+1) l r)=ev lt (if lt (g p k) (g p ((l+r) / 2))=true then kas_place p k f l ((l+r) / 2) else kas_place p k f ((l+r) / 2+1) r):=e;cases d:lt (g p k) (g p ((l+r) / 2)) with
   |true=>rw [d,if_pos rfl] at e2;rw [e2];exact Wx up f l ((l+r) / 2) (by omega) (by omega) (by omega) h1 λi i1 i2=>le_trans O (le_of_lt O d) (up _ _ i1 i2)
   |false=>rw [d,if_neg (by simp)] at e2;rw [e2];exact Wx up f ((l+r) / 2+1) r (by omega) (by omega) hr (λi hi=>le_trans O (up i ((l+r) / 2) (by omega) (by omega)) d) h2
include O in
theorem GP:∀(f:Nat)(p:Array Nat)(k:Nat),k+f<=p.size->Up lt p k->∃ p',ev lt (kas_bin f p k)=p'/\p'.Perm p/\p'.size=p.size/\Up lt p' (k+f)
 |0,p,k,_,h=>⟨p,rfl,.refl _,rfl,h⟩
 |f+1,p,k,hs,h=>by
  have e:ev lt (kas_bin (f+1) p k)=ev lt ((kas_place p k k 0 k).bind λl=>kas_bin f (bubble p k (k-l)) (k+1)):=rfl;rw [Qs] at e;obtain ⟨a1,a2,a3⟩:=Wx O h k 0 k (by omega) (by omega) (yW _) (λi hi=>absurd hi (by omega)) λi i1 i2=>absurd i1 (by omega);generalize ev lt (kas_place p k k 0 k)=l at e a1 a2 a3;have gb:∀ i,g (bubble p k (k-l)) i=if i=l then g p k else if l<i/\i<=k then g p (i-1) else g p i:=λi=>by
   have z:=getElem?_bubble (xs:=p) (src:=k) (by omega) (k-l) (by omega) i;have el:k-(k-l)=l:=by omega
   rw [el] at z;split
   ·rename_i q;rw [if_pos q] at z;exact Xr z
   ·rename_i q;rw [if_neg q] at z;split
    ·rename_i q2;rw [if_pos q2] at z;exact Xr z
    ·rename_i q2;rw [if_neg q2] at z;exact Xr z
  have up:Up lt (bubble p k (k-l)) (k+1):=λi j hij hj=>by
   by_cases e0:i=j
   ·subst e0;exact le_refl O _
   rw [gb,gb];by_cases i1:i=l
   ·rw [if_pos i1,if_neg (by omega),if_pos (by omega)];exact a3 _ (by omega) (by omega)
   ·rw [if_neg i1];by_cases j1:j=l
    ·rw [if_neg (by omega),if_pos j1];exact a2 _ (by omega)
    ·rw [if_neg j1];by_cases i2:l<i/\i<=k
     ·rw [if_pos i2,if_pos (by omega)];exact h _ _ (by omega) (by omega)
     ·rw [if_neg i2];by_cases j2:l<j/\j<=k
      ·rw [if_pos j2];exact h _ _ (by omega) (by omega)
      ·rw [if_neg j2];exact h _ _ (by omega) (by omega)
  obtain ⟨p',b1,b2,b3,b4⟩:=GP f (bubble p k (k-l)) (k+1) (by rw [bubble_size];omega) up;exact ⟨p',e.trans b1,b2.trans (bubble_perm _ _ _),by rw [b3,bubble_size],by rw [show k+1+f=k+(f+1) by omega] at b4;exact b4⟩
include O in
theorem SV (h:1<=n):∃ p,ev lt (kas_sort n)=p/\p.Perm (List.toArray (List.range n))/\p.size=n/\Up lt p n:=by
 unfold kas_sort;rw [Qs];obtain ⟨m,p,a1,a2,a3,a4,a5,a6⟩:=Mo O (p:=List.toArray (List.range n)) (nrem:=n) h (by simp);have hp:p.size=n:=by rw [a3];simp
 rw [a1]
 dsimp only
 split
 ·have mx:max m 1=m:=by omega
  rw [mx];obtain ⟨p',b1,b2,b3,b4⟩:=GP O (n-m) p m (by omega) a6;exact ⟨p',b1,b2.trans a2,by omega,by rw [show m+(n-m)=n by omega] at b4;exact b4⟩
 ·have e:m=n:=by omega
  subst e;exact ⟨p,rfl,a2,hp,a6⟩
end
end Ka
namespace Ka
open PySem PySem.W PyProof.Rows
variable{m n r:Nat}{p:Array Nat}
def Bd {α:Type}(n:Nat):KasT α->Prop
 | .ret _=>True
 | .ask i j k=>i<n/\j<n/\∀ b,Bd n (k b)
def BdP {α:Type}(n:Nat)(R:α->Prop):KasT α->Prop
 | .ret a=>R a
 | .ask i j k=>i<n/\j<n/\∀ b,BdP n R (k b)
theorem Qh {α β:Type}{n:Nat}{R:α->Prop}{S:β->Prop}{f:α->KasT β}:∀{t:KasT α},BdP n R t->(∀ a,R a->BdP n S (f a))->BdP n S (t.bind f)
 | .ret a,h,k=>k a h
 | .ask _ _ _,⟨a,b,c⟩,k=>⟨a,b,λx=>Qh (c x) k⟩
def Lo (n:Nat)(p:Array Nat):Prop:=1<=n/\∀ x∈p.toList,x<n
theorem Lo.g (h:Lo n p)(i:Nat):p.getD i 0<n:=by
 rw [Array.getD_eq_getD_getElem?];cases e:p[i]? with
 |none=>exact h.1
 |some x=>exact h.2 x (by rw [<- tY] at e;exact yh e)
theorem Lo.perm {q:Array Nat}(h:Lo n p)(k:q.Perm p):Lo n q:=⟨h.1,λx hx=>h.2 x ((Array.perm_iff_toList_perm.mp k).mem_iff.mp hx)⟩
section
variable {n:Nat}
theorem Vb {p:Array Nat}(h:Lo n p):∀ f m,BdP n (λ_=>True) (kas_asc p f m)
 |0,_=>trivial
 |f+1,m=>⟨h.g _,h.g _,λb=>by
  cases b with
  |true=>exact trivial
  |false=>exact Vb h f (m+1)⟩
theorem ZC:∀(f:Nat){p:Array Nat}(m q:Nat),Lo n p->BdP n (λr=>Lo n r.1) (kas_desc f p m q)
 |0,_,_,_,h=>h
 |f+1,p,m,q,h=>⟨h.g _,h.g _,λb=>by
  cases b with
  |true =>
   show BdP n _ (if q > 0 then kas_desc f (kas_rev p (m-(q+1)) m) (m+1) 0 else kas_desc f p (m+1) 0);split
   ·exact ZC f _ _ (h.perm rev_perm)
   ·exact ZC f _ _ h
  |false=>exact ⟨h.g _,h.g _,λd=>by
    cases d with
    |true=>exact h
    |false=>exact ZC f _ _ h⟩⟩
theorem GO (h:Lo n p):BdP n (λq=>Lo n q.2) (kas_tail3 m r p):=Qh (Vb (h.perm rev_perm) _ _) λ_ _=>h.perm rev_perm
theorem GN (h:Lo n p):BdP n (λq=>Lo n q.2) (kas_descPart m r p):=Qh (ZC _ _ _ h) λa ha=>by
 split
 ·exact GO (ha.perm rev_perm)
 ·exact GO ha
theorem DG (h:Lo n p):BdP n (λq=>Lo n q.2) (kas_count r p):=Qh (Vb h _ _) λm _=>by
 split
 ·exact h
 ·split
  ·exact ⟨h.g _,h.g _,λb=>by
    cases b with
    |true=>exact h
    |false=>exact GN (h.perm rev_perm)⟩
  ·exact GN h
theorem Vc {p:Array Nat}{k:Nat}(h:Lo n p):∀ f l r,BdP n (λ_=>True) (kas_place p k f l r)
 |0,_,_=>trivial
 |f+1,l,r=>by
  show BdP n _ (if l >= r then _ else _);split
  ·exact trivial
  ·exact ⟨h.g _,h.g _,λb=>by
    cases b with
    |true=>exact Vc h f _ _
    |false=>exact Vc h f _ _⟩
theorem GM:∀(f:Nat){p:Array Nat}(k:Nat),Lo n p->BdP n (λ_=>True) (kas_bin f p k)
 |0,_,_,_=>trivial
 |f+1,p,k,h=>Qh (Vc h _ _ _) λ_ _=>GM f _ (h.perm (bubble_perm _ _ _))
theorem DH (h:1<=n):BdP n (λ_=>True) (kas_sort n):=Qh (DG ⟨h,λx hx=>by simpa using hx⟩) λr hr=>by
 split
 ·exact GM _ _ hr
 ·exact trivial
theorem Dl {α:Type}{cmp:Nat->Nat->(Bool->Shared->Prop)->Shared->Prop}{lt:Nat->Nat->Bool}{s:Shared}{R:α->Prop}{G:α->Shared->Prop}(hc:∀ i j (C:Bool->Shared->Prop),i<n->j<n->C (lt i j) s->cmp i j C s):∀{t:KasT α},BdP n R t->G (ev lt t) s->t.kasWp cmp G s
 | .ret _,_,h=>h
 | .ask i j k,⟨a,b,c⟩,h=>hc i j _ a b (Dl hc (c (lt i j)) h)
end
theorem sort_wp {cmp:Nat->Nat->(Bool->Shared->Prop)->Shared->Prop}{lt:Nat->Nat->Bool}{s:Shared}{G:Array Nat->Shared->Prop}(O:Ord lt)(h:1<=n)(hc:∀ i j (C:Bool->Shared->Prop),i<n->j<n->C (lt i j) s->cmp i j C s)(hG:∀ p:Array Nat,p.Perm (List.toArray (List.range n))->p.size=n->(∀ i j,i<=j->j<n->lt (p.getD j 0) (p.getD i 0)=false)->G p s):(kas_sort n).kasWp cmp G s:=by obtain ⟨p,e,a1,a2,a3⟩:=SV O h;refine Dl hc (DH h) ?_;rw [e];exact hG p a1 a2 λi j hij hj=>a3 i j hij hj
end Ka
namespace L2
open PySem PySem.Spec PyProof.Rows
variable{e n:Nat}{H H1:Hp}{kf:Nat->Int×Str}{ks:List Value}{s1:Shared}
def g0 (p q:Int×Str):Bool:=decide (p.1<q.1) || (p.1==q.1&&decide (p.2.cps.toList<q.2.cps.toList))
theorem ltK_iff {p q:Int×Str}:g0 p q=true↔p.1<q.1∨(p.1=q.1/\p.2.cps.toList<q.2.cps.toList):=by unfold g0;simp only [Bool.or_eq_true,yi,decide_eq_true_eq,beq_iff_eq]
theorem Qz (kf:Nat->Int×Str):Ka.Ord λi j=>g0 (kf i) (kf j) where
 irr a:=by
  cases e:g0 (kf a) (kf a) with
  |false=>rfl
  |true =>
   rcases ltK_iff.mp e with z|⟨_,z⟩
   ·omega
   ·exact absurd z (List.lt_irrefl _)
 tr a b c h k:=by
  refine ltK_iff.mpr ?_;rcases ltK_iff.mp h with z|⟨z1,z2⟩<;>rcases ltK_iff.mp k with y|⟨y1,y2⟩
  ·exact .inl (by omega)
  ·exact .inl (by omega)
  ·exact .inl (by omega)
  ·exact .inr ⟨by omega,List.lt_trans z2 y2⟩
 neg a b c h:=by
  rcases ltK_iff.mp h with z|⟨z1,z2⟩
  ·by_cases q:(kf a).1<(kf b).1
   ·exact .inl (ltK_iff.mpr (.inl q))
   ·exact .inr (ltK_iff.mpr (.inl (by omega)))
  ·by_cases q:(kf a).1<(kf b).1
   ·exact .inl (ltK_iff.mpr (.inl q))
   ·by_cases q2:(kf b).1<(kf c).1
    ·exact .inr (ltK_iff.mpr (.inl q2))
    ·by_cases q3:(kf a).2.cps.toList<(kf b).2.cps.toList
     ·exact .inl (ltK_iff.mpr (.inr ⟨by omega,q3⟩))
     ·exact .inr (ltK_iff.mpr (.inr ⟨by omega,List.lt_of_le_of_lt (uc.mp q3) z2⟩))
section
variable {prog:Program}{w:World}{A:Around}{E:Value->Shared->Prop}{s:Shared}
theorem Ig {x y:Addr}{ox oy:Obj}{i j:Int}{a b:Str}{t u t' u':Tok}{k:Nat}{Q:Bool->Shared->Prop}(hx:s.heap.get? x=some ox)(dx:ox.data = .seq #[.int i t,.str a u] n)(hy:s.heap.get? y=some oy)(dy:oy.data = .seq #[.int j t',.str b u'] k)(h:Q (g0 (i,a) (j,b)) s):wpAny (model prog w) A (keyLt' (tuples' true) (.ref x) (.ref y)) Q E s:=by
 refine PySem.W.kat_lt hx dx hy dy ?_;show PySem.W.KatLex prog w A true _ Q [(.int i t,.int j t'),(.str a u,.str b u')] 0 s;refine PySem.W.kat_cons (wpAny_eqBool_int ?_);by_cases e:i=j
 ·subst e;rw [beq_self_eq_true];refine PySem.W.kat_yes (PySem.W.kat_cons (wpAny_eqBool_str ?_));by_cases e2:a=b
  ·subst e2;rw [yH rfl];refine PySem.W.kat_yes (PySem.W.kat_nil ?_);have z:g0 (i,a) (i,a)=false:=(Qz λ_=>(i,a)).irr 0;rw [z] at h;exact h
  ·rw [yK e2];refine PySem.W.kat_no (PySem.W.kat_one _ _ (PyProof.Rows.lt_str ?_));have z:g0 (i,a) (i,b)=decide (a.cps.toList<b.cps.toList):=by unfold g0;simp
   rw [z] at h;exact h
 ·have e':(i==j)=false:=by simpa using e
  rw [e'];refine PySem.W.kat_no ?_;show wpAny _ _ (oneLt' true (.int i t) (.int j t')) Q _ s;refine oneLt_int ?_;have z:g0 (i,a) (j,b)=decide (i<j):=by unfold g0;simp [e']
  rw [z] at h;exact h
end
def Grow (H H':Hp):Prop:=∀ b o,H b=some o->H' b=some o
theorem Grow.refl :Grow H H:=λ_ _ e=>e
theorem Grow.trans {H2:Hp}(a:Grow H H1)(b:Grow H1 H2):Grow H H2:=λc o e=>b c o (a c o e)
structure KeysIn (kf:Nat->Int×Str)(H:Hp)(xs:List V)(ks:List Value):Prop where
 len:ks.length=xs.length
 at_:∀(i:Nat)(x:V),xs[i]?=some x->∃ p,ks[i]?=some (.ref p)/\H p=some (.tup [.int (kf i).1,.str (kf i).2])
theorem KeysIn.nil :KeysIn kf H [] []:=⟨rfl,λi x e=>by simp at e⟩
theorem KeysIn.snoc {H':Hp}{xs:List V}{x:V}{p:Addr}(h:KeysIn kf H xs ks)(g:Grow H H')(e:H' p=some (.tup [.int (kf xs.length).1,.str (kf xs.length).2])):KeysIn kf H' (xs++[x]) (ks++[.ref p]):=by
 refine ⟨by rw [yM,yM,h.len];rfl,λi y q=>?_⟩;by_cases hi:i<xs.length
 ·rw [yc hi] at q;obtain ⟨a,e1,e2⟩:=h.at_ i y q;exact ⟨a,by rw [yc (by rw [h.len];exact hi)];exact e1,g _ _ e2⟩
 ·rw [ym (by omega)] at q;have hz:i-xs.length=0:=by
   cases hd:i-xs.length with
   |zero=>rfl
   |succ k=>rw [hd] at q;simp at q
  rw [hz] at q;simp at q;have hi':i=xs.length:=by omega
  refine ⟨p,?_,by rw [hi'];exact e⟩;rw [ym (by rw [h.len];omega),h.len,hz];rfl
structure jD (X:Cx)(pins:List (Addr×Obj))(b:Addr):Prop where
 s0:X.s₀.heap.objs.size<=b
 nL:b≠X.env.locals
 nC:∀ x c,X.env.cells.lookup x=some c->c≠b
 nP:∀ p∈X.pn++pins,p.1≠b
 nS:b∉frs X.stack
section
variable {X:Cx}{pins:List (Addr×Obj)}{σ:St}{H:Hp}{s:Shared}{h':Heap}{b:Addr}
theorem Inv.mine (I:Inv X pins σ H s)(h:s.heap.objs.size<=b):jD X pins b where
 s0:=yj I.sz h
 nL:=ua (yF I.lt h)
 nC:=λx c e=>by
  obtain ⟨v,o,e1,_⟩:=I.cell x c e;exact yL (yF (yQ e1) h)
 nP:=λp hp=>yL (yF (yQ (I.pin p hp).1) h)
 nS:=λz=>by
  rcases yJ.mp (I.stkSub b z) with q|q
  ·exact absurd q (ua (yF I.lt h))
  ·exact I.nofs h q
theorem Inv.turn {t':Nat}(I:Inv X pins σ H s)(m:jD X pins b)(hn:H b=none)(k:∀ c o,c≠b->s.heap.get? c=some o->h'.get? c=some o):Inv X pins σ H { s with heap:=h',toks:=t' } :=
 I.turned k hn m.nL (.inr m.s0) m.nC m.nP
theorem QV {h:Heap}{a c:Addr}{g:Array Value->Array Value}{o:Obj}(n:c≠a)(e:h.get? c=some o):(h.update a (Obj.mapSeq g)).get? c=some o:=(Heap.get?_update_ne _ _ _ _ n).trans e
end
section
variable {X:Cx}{pins:List (Addr×Obj)}{σ:St}{H:Hp}{s:Shared}{A2:Around}{D kS f:Addr}{e1:Nat}{xs:List V}{us:List Value}{kf:Nat->Int×Str}{P:PySem.Fin->Shared->Prop}{E:Value->Shared->Prop}
def UA (X:Cx)(pins:List (Addr×Obj))(σ:St)(H:Hp)(kf:Nat->Int×Str)(D:Addr)(xs:List V)(R:Shared->Prop):Prop:=∀(l:List Nat)(out:List Value)(H':Hp)(s':Shared)(e':Nat),Inv X pins σ H' s'->Grow H H'->H' D=none ->
 s'.heap.get? D=some (seqObj "list" out.toArray e')->l.Perm (List.range xs.length)->Vals (l.map λi=>xs.getD i .non) out->l.Pairwise (λa b=>g0 (kf b) (kf a)=false)->R s'
theorem CL {st:SortSt}{out:List Value}(I:Inv X pins σ H1 s1)(mD:jD X pins D)(mK:jD X pins kS)(ne:D≠kS)(nD:H1 D=none)(nK:H1 kS=none)(hD:s1.heap.get? D=some (seqObj "list" #[] e1))(hk:s1.heap.get? kS=some (seqObj "list" ks.toArray e))(hout:(arrOf st).map (·.2)=out.toArray)(hz:out.length<64)(hkz:ks.length<64)(hf:failedOf st=none)(h:∀ (h':Heap) (e':Nat),Inv X pins σ H1 { s1 with heap:=h' }->h'.get? D=some (seqObj "list" out.toArray e')->P (.done (.ret .none)) { s1 with heap:=h' }):wpAny (model X.prog X.w) A2 (ksk_tail D false e1 (.ref kS) st) P E s1:=by
 have hD1:(s1.heap.update kS (Obj.mapSeq λ_=>(#[]:Array Value))).get? D=some (seqObj "list" #[] e1):=QV ne hD;obtain ⟨c2,hc2⟩:∃ c2,((s1.heap.update kS (Obj.mapSeq λ_=>(#[]:Array Value))).update D (Obj.mapSeq λ_=>out.toArray)).get? D=some (seqObj "list" out.toArray c2):=⟨_,get?_update_seq hD1 λ_=>out.toArray⟩;have I1:=I.turn (t':=s1.toks) mK nK (h':=s1.heap.update kS (Obj.mapSeq λ_=>(#[]:Array Value))) λc o n q=>QV n q;have I2:=I1.turn (t':=s1.toks) mD nD (h':=(s1.heap.update kS (Obj.mapSeq λ_=>(#[]:Array Value))).update D (Obj.mapSeq λ_=>out.toArray)) λc o n q=>QV n q;unfold ksk_tail
 dsimp only
 rw [hout];refine yR (listUpdate_at hk rfl ?_ (by rw [yX,sizeLine_eq];omega) (ya _));refine yR (wpAny_letGo ?_);refine yR (seqEpoch_at hD1 rfl ?_);refine yR (listUpdate_at hD1 rfl ?_ (ya _) (by show out.toArray.size<=_;rw [yX,sizeLine_eq];omega));rw [hf];simp only [bne_self_eq_false,Bool.false_eq_true,if_false];exact yx (h _ c2 I2 hc2)
end
section
variable {X:Cx}{pins:List (Addr×Obj)}{σ:St}{H:Hp}{s:Shared}{A2:Around}{D kS f:Addr}{e1:Nat}{xs:List V}{us:List Value}{kf:Nat->Int×Str}{P:PySem.Fin->Shared->Prop}{E:Value->Shared->Prop}
theorem Uq:∀{xs:List V}{us:List Value}{i:Nat},Vals xs us->i<xs.length->RelV (xs.getD i .non) (us.getD i Value.none)
 |_,_,i,.nil,h=>by simp at h
 |_,_,0,.cons r _,_=>r
 |_,_,i+1,.cons _ q,h=>by
  have:=Uq (i:=i) q (by simpa using h);simpa using this
theorem Df {xs:List V}{us:List Value}(rv:Vals xs us):∀{l:List Nat},(∀ i∈l,i<xs.length)->Vals (l.map λi=>xs.getD i .non) (l.map λi=>us.getD i Value.none)
 |[],_=> .nil
 |i::l,h=> .cons (Uq rv (h i yT)) (Df rv λj hj=>h j (yV _ hj))
theorem Wd {α:Type}{d:α}:∀ xs:List α,(List.range xs.length).map (λi=>xs.getD i d)=xs:=λxs=>by
 apply List.ext_getElem?;intro i;rw [yP];by_cases h:i<xs.length
 ·rw [List.getElem?_range h,yY h];simp [h]
 ·rw [uW (by simpa using h),uW (by simpa using h)];rfl
theorem end_K (I:Inv X pins σ H1 s1)(mD:jD X pins D)(mK:jD X pins kS)(ne:D≠kS)(nD:H1 D=none)(nK:H1 kS=none)(hD:s1.heap.get? D=some (seqObj "list" #[] e1))(hk:s1.heap.get? kS=some (seqObj "list" ks.toArray e))(rv:Vals xs us)(hK:KeysIn kf H1 xs ks)(h64:xs.length<64)(h:∀ (l:List Nat) (out:List Value) (h':Heap) (e':Nat),Inv X pins σ H1 { s1 with heap:=h' }->h'.get? D=some (seqObj "list" out.toArray e')->l.Perm (List.range xs.length)->Vals (l.map λi=>xs.getD i .non) out->l.Pairwise (λa b=>g0 (kf b) (kf a)=false)->P (.done (.ret .none)) { s1 with heap:=h' }):wpAny (model X.prog X.w) A2 (ksk_end D false us.toArray e1 (.ref kS) ks.toArray) P E s1:=by
 have hul:us.length=xs.length:=rv.length.symm;have hkl:ks.length=us.length:=by rw [hK.len,hul]
 unfold ksk_end
 dsimp only
 simp only [Bool.false_eq_true,if_false];by_cases h2:us.toArray.size<2
 ·rw [if_pos h2,if_pos h2];refine yR (yx ?_);refine yR (yx ?_);refine CL (out:=us) (ks:=ks) I mD mK ne nD nK hD hk ?_ (by omega) (by omega) rfl λh' e' I' hd=>h (List.range xs.length) us h' e' I' hd (.refl _) (by rw [Wd];exact rv) ?_
  ·show ((ks.toArray.zip us.toArray)).map (·.2)=us.toArray;apply Array.toList_inj.mp;rw [Array.toList_map,ksk_zip];exact List.map_snd_zip (by simp;omega)
  ·have hx:xs.length<2:=by rw [yX] at h2;omega
   have hr:xs.length=0∨xs.length=1:=by omega
   rcases hr with z|z
   ·rw [z];exact List.Pairwise.nil
   ·rw [z];exact List.pairwise_singleton _ _
 ·rw [if_neg h2,if_neg h2];have h2':2<=us.length:=by rw [yX] at h2;omega
  have tup:∀ i,i<xs.length->∃ p ox t u n,ks.getD i Value.none = .ref p/\s1.heap.get? p=some ox/\ox.cls = .type "tuple"/\ox.data = .seq #[.int (kf i).1 t,.str (kf i).2 u] n:=λi hi=>by
   obtain ⟨p,a1,a2⟩:=hK.at_ i (xs.getD i .non) (by rw [yY hi];simp [hi]);obtain ⟨_,its,r,o,e1,e2,n,e3⟩:=I.hok p _ a2;obtain ⟨u1,u2,rfl,z1,z2⟩:=Uo r;obtain ⟨t,rfl⟩:∃ t,u1 = .int (kf i).1 t:=z1;obtain ⟨u,rfl⟩:∃ u,u2 = .str (kf i).2 u:=z2;exact ⟨p,o,t,u,n,by simp [a1],e1,e2,e3⟩
  have kt:∀{l:List Nat},(∀ i∈l,i<xs.length)->∃ fs,PySem.W.KatTups s1.heap (l.map λi=>ks.getD i Value.none) fs/\fs.length=l.length/\∀ v∈fs,∃ i t,v=Value.int i t:=λ{l}=>by
   induction l with
   |nil=>exact λ_=>⟨[],.nil,rfl,λv hv=>by simp at hv⟩
   |cons i l ih =>
    intro hl;obtain ⟨fs,b1,b2,b3⟩:=ih λj hj=>hl j (yV _ hj);obtain ⟨p,ox,t,u,n,c1,c2,c3,c4⟩:=tup i (hl i yT);refine ⟨Value.int (kf i).1 t::fs,?_,by rw [yE,yE,b2],λv hv=>?_⟩
    ·rw [yO,c1];exact .cons c2 c3 c4 rfl b1
    ·rcases yJ.mp hv with z|z
     ·exact ⟨_,_,z⟩
     ·exact b3 v z
  obtain ⟨fs,f1,f2,f3⟩:=kt (l:=List.range ks.length) λi hi=>by rw [yw,hK.len] at hi;exact hi
  rw [Wd] at f1;rw [uN] at f2;refine yR (PySem.W.kat_kind (T:= .type "int") f1 (by omega) (λv hv=>?_) rfl ?_)
  ·obtain ⟨i,t,rfl⟩:=f3 v hv;exact .now
  have O:=Qz λi=>kf i;refine yR (wpAny_mono (PySem.W.kat_run (vs:=us) (ks:=ks) (Q:=λst' s'=>s'=s1/\∃ p:Array Nat,p.Perm (List.toArray (List.range us.length))/\p.size=us.length/\(∀ i j,i<=j->j<us.length->g0 (kf (p.getD j 0)) (kf (p.getD i 0))=false)/\arrOf st'=p.map (PySem.W.kas_item (ks.toArray.zip us.toArray))/\failedOf st'=none)
   (G:=λp s'=>s'=s1/\p.Perm (List.toArray (List.range us.length))/\p.size=us.length/\∀ i j,i<=j->j<us.length->g0 (kf (p.getD j 0)) (kf (p.getD i 0))=false) hkl h2' (by omega)
   (λp st' s' z1 z2 z3 z4=>⟨z4.1,p,z4.2.1,z4.2.2.1,z4.2.2.2,z2,z3⟩)
   (Ka.sort_wp O (by omega) (λi j C hi hj hC=>?_) λp z1 z2 z3=>⟨rfl,z1,z2,z3⟩)) (λr s' hr=>?_) λ_ _ z=>z)
  ·obtain ⟨p,ox,t,u,n,c1,c2,c3,c4⟩:=tup i (by omega);obtain ⟨q,oy,t',u',m,d1,d2,d3,d4⟩:=tup j (by omega);show wpAny _ _ (keyLt' _ (ks.getD i Value.none) (ks.getD j Value.none)) C _ _;rw [c1,d1];exact Ig c2 c4 d2 d4 hC
  ·obtain ⟨⟨⟩,st⟩:=r;obtain ⟨rfl,p,q1,q2,q3,q4,q5⟩:=hr
   dsimp only
   have pl:p.toList.Perm (List.range us.length):=Array.perm_iff_toList_perm.mp q1;have lo:∀ i∈p.toList,i<xs.length:=λi hi=>by
    have:=pl.mem_iff.mp hi;rw [yw] at this;omega
   refine CL (out:=p.toList.map λi=>us.getD i Value.none) (ks:=ks) I mD mK ne nD nK hD hk (PySem.W.kat_snds hkl q4) (by rw [yZ,uh,q2];omega) (by omega) q5 λh' e' I' hd=>h p.toList _ h' e' I' hd (by rw [<- hul];exact pl) (Df rv lo) ?_;rw [um];intro i j hi hj hij;rw [uh,q2] at hi hj;have:=q3 i j (by omega) hj;have gi:∀ k,(hk:k<p.size)->p.getD k 0=p[k]:=λk hk=>by simp [Array.getD,hk]
   rw [gi i (by omega),gi j (by omega)] at this;simpa using this
end
section
variable {X:Cx}{pins:List (Addr×Obj)}{σ:St}{H:Hp}{s:Shared}{A2:Around}{D kS f:Addr}{e1:Nat}{xs:List V}{us:List Value}{kf:Nat->Int×Str}{P:PySem.Fin->Shared->Prop}{E:Value->Shared->Prop}
def JS (X:Cx)(pins:List (Addr×Obj))(σ:St)(H:Hp)(A2:Around)(f:Addr)(kf:Nat->Int×Str)(xs:List V):Prop:=∀(H':Hp)(s':Shared)(i:Nat)(x:V)(u:Value),xs[i]?=some x->RelV x u->Inv X pins σ H' s'->Grow H H' ->
 wpAny (model X.prog X.w) A2 (call (.ref f) [u]) (λu' s''=>CE X.stack X.prog X.w H' s' (λv H''=>Grow H' H''/\∃ p,v = .ref p/\H'' p=some (.tup [.int (kf i).1,.str (kf i).2])) u' s'') (λ_ _=>False) s'
theorem Ty (I:Inv X pins σ H s)(mD:jD X pins D)(mK:jD X pins kS)(ne:D≠kS)(nD:H D=none)(nK:H kS=none)(hD:s.heap.get? D=some (seqObj "list" #[] e1))(hk:s.heap.get? kS=some (seqObj "list" #[] 0))(rv:Vals xs us)(h64:xs.length<64)(hkey:JS X pins σ H A2 f kf xs)(h:UA X pins σ H kf D xs λs'=>P (.done (.ret .none)) s'):wpAny (model X.prog X.w) A2 (ksk_rest D (.ref f) false us.toArray e1 (.ref kS)) P E s:=by
 have hul:us.length=xs.length:=rv.length.symm;unfold ksk_rest;refine yR (wpAny_rule ?_)
 first
  |rw [List.forIn_toArray]
  |(rw [<- Array.forIn_toList];simp only [List.toList_toArray])
 refine yR (ksk_fold (λj s'=>∃ (H':Hp) (ks:List Value) (e:Nat),Inv X pins σ H' s'/\Grow H H'/\H' D=none/\H' kS=none/\s'.heap.get? D=some (seqObj "list" #[] e1)/\s'.heap.get? kS=some (seqObj "list" ks.toArray e)/\KeysIn kf H' (xs.take j) ks) us 0 s
  ⟨H,[],0,I,.refl,nD,nK,hD,hk,by rw [List.take_zero];exact .nil⟩ (λj u s' hu hI=>?_) λs' hI=>?_)
 ·rw [Nat.zero_add] at hI ⊢;obtain ⟨H',ks,e,I',g,n1,n2,d1,d2,kk⟩:=hI;have hj:j<us.length:=by
   rcases uj j us.length with z|z
   ·exact z
   ·rw [uW z] at hu;cases hu
  obtain ⟨x,hx,rx⟩:∃ x,xs[j]?=some x/\RelV x u:=by
   have z:=Uq (i:=j) rv (by omega);refine ⟨xs.getD j .non,by rw [yY (by omega)];simp [show j<xs.length by omega],?_⟩;have e2:us.getD j Value.none=u:=by simp [hu]
   rw [e2] at z;exact z
  have lk:ks.length<64:=by rw [kk.len,uX];omega
  refine yR (wpAny_attempt (wpAny_mono (hkey H' s' j x u hx rx I' g) (λu' s'' ce=>?_) λ_ _ z=>z.elim));have ep:=I'.after ce;obtain ⟨v,H'',os,bare,un,hok,r,g2,p,rfl,hp⟩:=ce;obtain rfl:u'=Value.ref p:=r;have I'':Inv X pins σ H'' s'':=by obtain ⟨hh,gg,dd,tt,os'⟩:=s'';obtain rfl:os'=s'.os:=os;exact I'.call (h':=hh) (g':=gg) (d':=dd) (t':=tt) (ch:=[]) un hok bare (λb z=>absurd z (by simp))
  have d1':=un.keep D _ d1 n1 mD.nS (by simp);have d2':=un.keep kS _ d2 n2 mK.nS (by simp);have n1':=un.free D _ d1 n1 (by simp);have n2':=un.free kS _ d2 n2 (by simp);have ea:ks.toArray.push (.ref p)=(ks++[Value.ref p]).toArray:=by simp
  obtain ⟨c2,hc2⟩:∃ c2,(s''.heap.update kS (Obj.mapSeq (·.push (Value.ref p)))).get? kS=some (seqObj "list" (ks++[Value.ref p]).toArray c2):=⟨_,by rw [<- ea];exact get?_update_seq d2' (·.push (Value.ref p))⟩
  dsimp only
  refine yR (listUpdate_at d2' rfl ?_ (by rw [yX,sizeLine_eq];omega) (by show (ks.toArray.push (Value.ref p)).size<=_;rw [Array.size_push,yX,sizeLine_eq];omega));refine yx ⟨rfl,H'',ks++[Value.ref p],c2,I''.turn (t':=s''.toks) mK n2' λc o n q=>QV n q,g.trans g2,n1',n2',QV ne d1',hc2,?_⟩;have et:xs.take (j+1)=xs.take j++[x]:=by rw [List.take_add_one,hx];rfl
  rw [et];exact kk.snoc g2 (by rw [uX,Nat.min_eq_left (by omega)];exact hp)
 ·rw [Nat.zero_add] at hI;obtain ⟨H',ks,e,I',g,n1,n2,d1,d2,kk⟩:=hI;rw [hul,tU] at kk;refine yR (listItems_at d2 rfl ?_);exact end_K I' mD mK ne n1 n2 d1 d2 rv kk h64 λl out h' e' J hd p r q=>h l out H' _ e' J g n1 hd p r q
theorem Ib (I:Inv X pins σ H s)(mD:jD X pins D)(nD:H D=none)(hD:s.heap.get? D=some (seqObj "list" us.toArray n))(rv:Vals xs us)(h64:xs.length<64)(hkey:JS X pins σ H A2 f kf xs)(h:UA X pins σ H kf D xs λs'=>P (.done (.ret .none)) s'):wpAny (model X.prog X.w) A2 (ksk_tree D (.ref f) false) P E s:=by have hul:us.length=xs.length:=rv.length.symm;obtain ⟨e1,hD1⟩:∃ e1,(s.heap.update D (Obj.mapSeq λ_=>(#[]:Array Value))).get? D=some (seqObj "list" #[] e1):=⟨_,get?_update_seq hD λ_=>#[]⟩;have I1:=I.turn (t':=s.toks) mD nD (h':=s.heap.update D (Obj.mapSeq λ_=>(#[]:Array Value))) λc o n q=>QV n q;have k2:∀ b o,(s.heap.update D (Obj.mapSeq λ_=>(#[]:Array Value))).get? b=some o->((s.heap.update D (Obj.mapSeq λ_=>(#[]:Array Value))).push (seqObj "tuple" us.toArray 0)).get? b=some o:=λb o e=>yU _ e;have I2:=I1.kept (t':=s.toks) k2;have k3:∀ b o,((s.heap.update D (Obj.mapSeq λ_=>(#[]:Array Value))).push (seqObj "tuple" us.toArray 0)).get? b=some o->(((s.heap.update D (Obj.mapSeq λ_=>(#[]:Array Value))).push (seqObj "tuple" us.toArray 0)).push (seqObj "list" #[] 0)).get? b=some o:=λb o e=>yU _ e;have I3:=I2.kept (t':=s.toks) k3;have mK:=I2.mine (b:=((s.heap.update D (Obj.mapSeq λ_=>(#[]:Array Value))).push (seqObj "tuple" us.toArray 0)).objs.size) (yW _);have nK:=I2.hok.fresh (a:=((s.heap.update D (Obj.mapSeq λ_=>(#[]:Array Value))).push (seqObj "tuple" us.toArray 0)).objs.size) (yW _);unfold ksk_tree;refine yR (listItems_at hD rfl ?_);refine yR (listUpdate_at hD rfl ?_ (by rw [yX,sizeLine_eq];omega) (ya _));refine yR (seqEpoch_at hD1 rfl ?_);refine yR (wpAny_newTuple ?_ (by show us.length<=_;rw [sizeLine_eq];omega));refine yR (wpAny_newList ?_ (ya _));refine wpAny_holding ?_;exact Ty (s:={ s with heap:=((s.heap.update D (Obj.mapSeq λ_=>(#[]:Array Value))).push (seqObj "tuple" us.toArray 0)).push (seqObj "list" #[] 0) }) I3 mD mK (yL (yQ (k2 _ _ hD1))) nD nK (k3 _ _ (k2 _ _ hD1)) (yD _ rfl) rv h64 hkey h
end
section
variable {X:Cx}{pins:List (Addr×Obj)}{σ:St}{H:Hp}{s:Shared}{a f:Addr}{xs:List V}{kf:Nat->Int×Str}{Q:VK}{E:Value->Shared->Prop}
theorem Mg (I:Inv X pins σ H s)(hl:SqL X.K H a xs)(h64:xs.length<64)(hkey:JS X pins σ H X.A.in1.in1 f kf xs)(h:∀ (D:Addr) (l:List Nat) (H':Hp),Grow H H'->H' D=none->l.Perm (List.range xs.length)->l.Pairwise (λa b=>g0 (kf b) (kf a)=false)->Q (.ref D) (w6 H' D (.lst (l.map λi=>xs.getD i .non)))):wpAny (model X.prog X.w) X.A (call (.builtin "sorted") [.ref a] [(Str.ofString "key",.ref f)]) (EP X pins σ Q) E s:=by
 obtain ⟨us,rv,p,hz⟩:=I.list hl;have hul:us.length=xs.length:=rv.length.symm;refine call_function_entry_kw kind_sorted plain_sorted entry_sorted (ksk_s1 _ _) ?_;unfold Builtin.«sorted»;refine yR (m:=checkCount "sorted" 1 1 _) (yx ?_);refine yR (collect_list p.isList ?_ (by rw [sizeLine_eq];omega));refine yR (wpAny_newList ?_ (by rw [sizeLine_eq];omega));have keep:∀ b o,s.heap.get? b=some o->((s.heap.push (seqObj "list" #[] 0)).update s.heap.objs.size (Obj.mapSeq (·++us.toArray))).get? b=some o:=λb o q=>by
  rw [Heap.get?_update_ne _ _ _ _ (yL (yQ q))];exact yU _ q
 have I1:=I.kept (t':=s.toks) keep;have k2:∀ b o,((s.heap.push (seqObj "list" #[] 0)).update s.heap.objs.size (Obj.mapSeq (·++us.toArray))).get? b=some o->(((s.heap.push (seqObj "list" #[] 0)).update s.heap.objs.size (Obj.mapSeq (·++us.toArray))).push (seqObj "list" us.toArray 0)).get? b=some o:=λb o e=>yU _ e;have I2:=I1.kept (t':=s.toks) k2;have mD:=I1.mine (b:=((s.heap.push (seqObj "list" #[] 0)).update s.heap.objs.size (Obj.mapSeq (·++us.toArray))).objs.size) (yW _);have nD:=I1.hok.fresh (a:=((s.heap.push (seqObj "list" #[] 0)).update s.heap.objs.size (Obj.mapSeq (·++us.toArray))).objs.size) (yW _);have hoL:(((s.heap.push (seqObj "list" #[] 0)).update s.heap.objs.size (Obj.mapSeq (·++us.toArray))).push (seqObj "list" us.toArray 0)).get? ((s.heap.push (seqObj "list" #[] 0)).update s.heap.objs.size (Obj.mapSeq (·++us.toArray))).objs.size=some (seqObj "list" us.toArray 0):=yD _ rfl;refine yR (wpAny_holding (wpAny_call_entry_kw slot_list_sort (s:={ s with heap:=((s.heap.push (seqObj "list" #[] 0)).update s.heap.objs.size (Obj.mapSeq (·++us.toArray))).push (seqObj "list" us.toArray 0) }) ⟨_,hoL,rfl⟩ entry_list_sort ?body (ksk_l1 _ _)));show wpAny (model X.prog X.w) X.A.in1.in1 (Builtin.«list.sort» ⟨[.ref _],[(Str.ofString "key",.ref f)]⟩) _ _ _;rw [ksk_t1];refine Ib (s:={ s with heap:=((s.heap.push (seqObj "list" #[] 0)).update s.heap.objs.size (Obj.mapSeq (·++us.toArray))).push (seqObj "list" us.toArray 0) }) (kf:=kf) I2 mD nD hoL rv h64 hkey λl out H' s' e' J g n hd pm r pw=>⟨_,rfl,yx ⟨_,rfl,.ref _,_,J.track mD.s0 n mD.nL mD.nC mD.nP (o:= .lst (l.map λi=>xs.getD i .non)) ?_,rfl,h _ l H' g n pm pw⟩⟩;exact ⟨by rw [yZ,pm.length_eq,uN];exact hz,out,e',r,hd⟩
end
end L2
namespace L2
open PySem PySem.Spec PySem.Calls PyProof.Rows
variable{x:Str}{K:Fg}
section
variable {P:Program}{w:World}{K:Fg}{mg:Str->Option Value}{base:Heap}
theorem Fun.okC {qual:Str}{st:Stmt}{f:Addr}{fd:FuncData}{N ps:List Str}{k:Nat}{sp:Sp}(F:Fun K x qual st f fd)(S:y6 N ps (j9 st))(len:∀ vs H Q E,sp vs H Q E->vs.length=ps.length)(hbody:∀(A:Around)(outer:List Env)(s:Shared)(H:Hp)(vs:List V)(Q:VK)(E:XK),Room k (A.deeper (envOfC qual (j9 st) s.heap.objs.size f fd.code))->sp vs H Q E -> ∃ t,PSs (xN v9 P w K mg base N qual (j9 st) f fd.code A outer s H E).nox (qz st) t/\t { nx:=λ_ H'=>Q .non H',rt:=Q } (start N vs) H):FnOk P w K mg base v9 (k+1) f fd ps sp:=by obtain ⟨oc,od,kV,doc,pm,an,cdv,ct,osl,rfl,lk,hcd⟩:=F.ex;refine VA lk hcd S len λA outer s H vs Q E hr hsp=>?_;obtain ⟨t,h,q⟩:=hbody A outer s H vs Q E hr hsp;exact ⟨t,h.nox,q⟩
end
theorem SqL.grow {H H':Hp}{a:Addr}{xs:List V}(h:SqL K H a xs)(g:Grow H H'):SqL K H' a xs:=by
 rcases h with (h|⟨o,h⟩)|h
 ·exact .inl (.inl (g _ _ h))
 ·exact .inl (.inr ⟨o,g _ _ h⟩)
 ·exact .inr h
section
variable {X:Cx}
def CH (K:Fg)(fi:List Nat)(t:TA)(tb:TE):TE:=λσ H Q=>t σ H λvs H1=>∃(a:Addr)(xs:List V)(kf:Nat->Int×Str)(cv:List V),vs=[.ref a]/\(fi.map λi=>σ[i]?)=cv.map (λv=>some (some v))/\SqL K H1 a xs/\xs.length<64 /\
 (∀(i:Nat)(x:V),xs[i]?=some x->∀(H':Hp)(Q':VK),Grow H1 H'->(∀ p H'',Grow H' H''->H'' p=some (.tup [.int (kf i).1,.str (kf i).2])->Q' (.ref p) H'')->tb (([x]++cv).map some) H' Q') /\
 ∀(D:Addr)(l:List Nat)(H':Hp),Grow H1 H'->H' D=none->l.Perm (List.range xs.length)->l.Pairwise (λa b=>g0 (kf b) (kf a)=false)->Q (.ref D) (w6 H' D (.lst (l.map λi=>xs.getD i .non)))
structure Zw (X:Cx)(scope:Scope)(clos:List (Str×Addr))(fr:List Str)(fi:List Nat):Prop where
 len:fi.length=fr.length
 at_:∀(j:Nat)(y:Str)(i:Nat),fr[j]?=some y->fi[j]?=some i->X.N[i]?=some y/\X.env.kindOf y=some .cell/\scope.names.lookup y=some .free/\Vis X.env.scope y
 sub:∀ y c,clos.lookup y=some c->X.env.cells.lookup y=some c
 has:∀ y c,y∈fr->X.env.cells.lookup y=some c->clos.lookup y=some c
theorem RL {e body:Expr}{t:TA}{tb:TE}{p pos kp lp:Pos}{params:Arguments}{scope:Scope}{c Pt:Addr}{ps:Array Value}{wt:List (Pos×Str)}{k:Nat}{clos:List (Str×Addr)}{fr:List Str}{fi:List Nat}(hK:X.K=K)(hr:Room (k+3) X.A)(hg:Gl X "sorted")(hm:X.mg "sorted"=none)(ha:PA X [e] t)(hP:(Pt,ps,wt)∈TABS)(hw:(lp,X.env.qual ++ "<lambda>")∈wt)(hu:∀ p∈wt,(p.1.line==lp.line&&p.1.col==lp.col)=true->p.2=X.env.qual ++ "<lambda>")(hcode:X.env.code = .ref c)(hC:∀ h:Heap,X.K.In h->PySem.W.CodeHd h c Pt)(S:wR [x] fr scope)(LF:Zw X scope clos fr fi)(hb:∀ (f c':Addr) (s:Shared) (H:Hp),Room k (X.A.in1.in1.deeper (PySem.W.envX (X.env.qual ++ "<lambda>") scope s.heap.objs.size f (.ref c') clos))->PE (vk X.prog X.w X.K X.mg X.base ([x]++fr) (X.env.qual ++ "<lambda>") scope f c' clos X.A.in1.in1 X.stack s H) body tb)(hbd:∀ (qual:Str) (pm cdv ctv u:Value),bindArgs (PySem.W.kla_fn "<lambda>" qual params body scope clos pm cdv ctv) ⟨[u],[]⟩=pure [(x,u)])(hcl:closureFor scope X.env=pure clos:=by rfl)(hdef:defaultsOf params X.env=([],[]):=by rfl)(hs:backTo pos (starEach [e] X.env)=(false,eval e X.env)::backTo pos (starEach [] X.env):=by rfl)(hpl:(backTo pos (starEach [e] X.env)).any (·.1)=false:=by rfl):PE X (.Call (.Name "sorted" p) [e] [⟨some "key",.Lambda params body scope lp,kp⟩] pos) (CH K fi t tb):=by
 subst hK;intro pins s σ H Q I h;refine wpAny_Call_Name_kw (vw I hg hm ZG ?_ (by decide) (by decide));refine PyProof.Rows.callWith_kw (v6 (ha pos pins s σ H _ I h) λus s1 ⟨vs,H1,I1,r1,q1⟩=>?_) hs hpl;obtain ⟨a,xs,kf,cv,rfl,hcv,hq,h64,qk,qe⟩:=q1;obtain ⟨u,rfl,ru⟩:=ji r1;obtain rfl:u=Value.ref a:=ru;refine PyProof.Rows.kws_cons (Bw I1 hP hw hu hcode (hC _ I1.mod.kin) hcl hdef λf c' oc vs tq ctv H' h' tk I2 g _ hf hc hd hv=>PyProof.Rows.kws_nil ?_);show wpAny _ _ (call (.builtin "sorted") [.ref a] [(Str.ofString "key",Value.ref f)]) _ _ _;refine Mg I2 (hq.grow g) h64 (kf:=kf) (λH3 s3 i3 x3 u3 hx rx I3 g3=>?_) λD l H3 g3 n pm pw=>qe D l H3 (Grow.trans g g3) n pm pw;obtain ⟨hf3,_⟩:=I3.hok f _ (g3 _ _ hf);obtain ⟨hc3,_⟩:=I3.hok c' _ (g3 _ _ hc);have room:=hr.in1.in1;have lcv:cv.length=fr.length:=by have z:=congrArg List.length hcv;rw [yZ,yZ] at z;rw [<- z,LF.len]
 refine wpAny_call (codeAny_mono (Bv (vs:=[x3]) (cv:=cv) (t:=tb) (E:=λ_ _ _=>False) (Q:=λv H''=>Grow H3 H''/\∃ p,v = .ref p/\H'' p=some (.tup [.int (kf i3).1,.str (kf i3).2])) S room.depth room.hd I3.env0.in1.in1 hf3 ⟨c',oc,vs,tq,rfl,hc3,hd,hv⟩ (hbd _ _ _ _ _) rfl (.cons rx .nil)
  (λy z d e1 e2=>I3.ok.inj y z d (LF.sub y d e1) (LF.sub z d e2)) (λy d e1=>⟨I3.cell y d (LF.sub y d e1),I3.freeC y d (LF.sub y d e1)⟩) lcv
  (λj y v e1 e2=>?_) (hb f c' s3 H3 (room.deeper _)) (qk i3 x3 hx H3 _ (Grow.trans g g3) λp H'' g4 hp=>⟨g4,p,rfl,hp⟩)) λr s' z=>?_)
 ·have hj:j<fi.length:=by
   rw [LF.len];rcases uj j fr.length with q|q
   ·exact q
   ·rw [uW q] at e1;cases e1
  obtain ⟨n1,n2,n3,n4⟩:=LF.at_ j y fi[j] e1 (yY hj);have es:σ[fi[j]]?=some (some v):=by have z:=congrArg (λl=>l[j]?) hcv;simp only [yP,e2,yY hj,uM,Option.some.injEq] at z;exact z
  obtain ⟨m,_,lk⟩:=I3.loc;obtain ⟨u,rv,look⟩:=lk fi[j] y v n1 es n4;refine ⟨n3,?_⟩;rcases look with ⟨q,_⟩|⟨_,d,q1,q2⟩
  ·rw [n2] at q;cases q
  ·exact ⟨d,u,LF.has y d (yh e1) q1,q2,rv⟩
 ·cases r with
  |error e=>exact z.elim
  |ok fl =>
   cases fl with
   |ret u=>exact z
   |next=>exact False.elim z
   |brk=>exact False.elim z
   |cont=>exact False.elim z
end
end L2
namespace Mi
open PySem L2
def VN:PV->Option (Int×Str)
 | .tup [.at (.int i),.at (.str n)]=>some (i,n)
 |_=>none
theorem Nb {y:PV}{k:Int×Str}(h:VN y=some k):y = .tup [.at (.int k.1),.at (.str k.2)]:=by
 unfold VN at h;split at h
 ·cases h;rfl
 ·cases h
def wg (kb:PV->Option PV):List PV->Option (List (Int×Str))
 |[]=>some []
 |x::xs=>((kb x).bind VN).bind λk=>(wg kb xs).map (k::·)
theorem Br {kb:PV->Option PV}:∀{xs:List PV}{ks:List (Int×Str)},wg kb xs=some ks->ks.length=xs.length
 |[],ks,h=>by cases h;rfl
 |x::xs,ks,h=>by
  obtain ⟨k,_,h2⟩:=uR.mp h;obtain ⟨r,h3,rfl⟩:=yN.mp h2;rw [yE,yE,Br h3]
theorem Bq {kb:PV->Option PV}:∀{xs:List PV}{ks:List (Int×Str)}{i:Nat}{x:PV},wg kb xs=some ks->xs[i]?=some x->∃ k,ks[i]?=some k/\kb x=some (.tup [.at (.int k.1),.at (.str k.2)])
 |[],_,_,_,_,e=>by simp at e
 |y::xs,ks,0,x,h,e=>by
  obtain ⟨k,h1,h2⟩:=uR.mp h;obtain ⟨r,h3,rfl⟩:=yN.mp h2;obtain ⟨z,h4,h5⟩:=uR.mp h1;simp at e;subst e;exact ⟨k,rfl,by rw [h4,Nb h5]⟩
 |y::xs,ks,i+1,x,h,e=>by
  obtain ⟨k,h1,h2⟩:=uR.mp h;obtain ⟨r,h3,rfl⟩:=yN.mp h2;obtain ⟨k',a,b⟩:=Bq (i:=i) h3 (by simpa using e);exact ⟨k',by simpa using a,b⟩
def xk (ks:List (Int×Str))(i:Nat):Int×Str:=ks.getD i (0, "")
def leI (ks:List (Int×Str))(a b:Nat):Bool:=!g0 (xk ks b) (xk ks a)
def vM (ks:List (Int×Str)):List Nat:=(List.range ks.length).mergeSort (leI ks)
theorem Zj (ks:List (Int×Str)):(vM ks).Perm (List.range ks.length):=List.mergeSort_perm _ _
theorem Co (ks:List (Int×Str)):(vM ks).Pairwise λa b=>g0 (xk ks b) (xk ks a)=false:=by
 have O:=Qz (xk ks);have:=List.pairwise_mergeSort (le:=leI ks) (λa b c h1 h2=>by
  unfold leI at h1 h2 ⊢;simp only [Bool.not_eq_true'] at h1 h2 ⊢;exact Ka.le_trans (lt:=λi j=>g0 (xk ks i) (xk ks j)) O (a:=a) (b:=b) (c:=c) h1 h2) (λa b=>by
  unfold leI;cases h:g0 (xk ks b) (xk ks a) with
  |false=>rfl
  |true =>
   have h2:g0 (xk ks a) (xk ks b)=false:=Ka.le_of_lt (lt:=λi j=>g0 (xk ks i) (xk ks j)) O (a:=b) (b:=a) h;rw [h2];rfl) (List.range ks.length)
 exact this.imp λh=>by unfold leI at h;simpa using h
theorem Wa {p q:Int×Str}(h1:g0 p q=false)(h2:g0 q p=false):p=q:=by
 have n1:¬ (p.1<q.1∨(p.1=q.1/\p.2.cps.toList<q.2.cps.toList)):=λz=>by rw [ltK_iff.mpr z] at h1;cases h1
 have n2:¬ (q.1<p.1∨(q.1=p.1/\q.2.cps.toList<p.2.cps.toList)):=λz=>by rw [ltK_iff.mpr z] at h2;cases h2
 have e1:p.1=q.1:=by omega
 have e2:p.2.cps.toList=q.2.cps.toList:=List.le_antisymm (uc.mp λz=>n2 (.inr ⟨e1.symm,z⟩)) (uc.mp λz=>n1 (.inr ⟨e1,z⟩));obtain ⟨i,⟨s⟩⟩:=p;obtain ⟨j,⟨t⟩⟩:=q;cases e1;cases Array.toList_inj.mp e2;rfl
theorem SS {ks:List (Int×Str)}(nd:ks.Nodup){l:List Nat}(p:l.Perm (List.range ks.length))(u:l.Pairwise λa b=>g0 (xk ks b) (xk ks a)=false):l=vM ks :=
 List.Perm.eq_of_pairwise (λa b ha hb h1 h2=>by
  have la:a<ks.length:=yw.mp (p.mem_iff.mp ha);have lb:b<ks.length:=yw.mp ((Zj ks).mem_iff.mp hb);have e:=Wa h2 h1;unfold xk at e;simp only [yB,yY la,yY lb,Option.getD_some] at e;have nd':=um.mp nd;rcases Nat.lt_trichotomy a b with z|z|z
  ·exact absurd e (nd' a b la lb z)
  ·exact z
  ·exact absurd e.symm (nd' b a lb la z)) u (Co ks) (p.trans (Zj ks).symm)
def Wn (kb:PV->Option PV):List PV->Option PV
 |[.lst xs]=>(wg kb xs).bind λks=>if xs.length<64/\ks.Nodup then some (.lst ((vM ks).map λi=>xs.getD i (.at .non))) else none
 |_=>none
theorem PR {H:Hp}{xs:List PV}{vs:List V}(r:Reps H xs vs):∀{l:List Nat},(∀ i∈l,i<xs.length)->Reps H (l.map λi=>xs.getD i (.at .non)) (l.map λi=>vs.getD i .non)
 |[],_=> .nil
 |i::l,h=>by
  have hi:=h i yT;obtain ⟨v,e1,e2⟩:=r.get (i:=i) (x:=xs.getD i (.at .non)) (by rw [yY hi];simp [hi]);refine .cons ?_ (PR r λj hj=>h j (yV _ hj));have:vs.getD i .non=v:=by simp [e1]
  show Rep H (xs.getD i (.at .non)) (vs.getD i .non);rw [this];exact e2
section
variable {K:Fg}{t:TA}{tb:TE}{as:MA}{kb:M}
def shs (ε:ME):List Nat->Option (List PV)
 |[]=>some []
 |i::l=>match ε[i]? with
  |some (.sh x)=>(shs ε l).map (x::·)
  |_=>none
theorem Ck {Hs0 H0 Hs H:Hp}{σ:St}{ε:ME}(r:RS Hs0 H0 Hs H σ ε):∀{l:List Nat}{cs:List PV},shs ε l=some cs->∃ cv,(l.map λi=>σ[i]?)=cv.map (λv=>some (some v))/\Reps Hs cs cv
 |[],_,h=>by cases h;exact ⟨[],rfl,.nil⟩
 |i::l,cs,h=>by
  unfold shs at h;split at h
  ·rename_i x hx;obtain ⟨r',h2,rfl⟩:=yN.mp h;obtain ⟨v,e1,e2⟩:=r.sh i x hx;obtain ⟨cv,e3,e4⟩:=Ck r h2;exact ⟨v::cv,by rw [yO,yO,e1,e3],.cons e2 e4⟩
  ·cases h
def KA (fi:List Nat)(as:MA)(kb:M):M:=λε=>(shs ε fi).bind λcs=>(as ε).bind (Wn λx=>kb (.sh x::cs.map .sh))
instance {fi:List Nat}[sa:xu t as][sb:SemE tb kb]:zf (CH K fi t tb) (KA fi as kb) where
 h:=λ{ε y} h {Hs0 H0 Hs H σ} rs {Q} q=>by
  obtain ⟨cs,h0,h⟩:=uR.mp h;obtain ⟨ys,h1,h2⟩:=uR.mp h;unfold Wn at h2;split at h2
  ·rename_i xs;obtain ⟨ks,h3,h4⟩:=uR.mp h2;split at h4
   ·rename_i hc;cases h4;obtain ⟨cv,ec,rc⟩:=Ck rs h0;refine sa.h h1 rs λvs Hs1 H1 x1 r1=>?_;obtain ⟨v,w,rfl,p1,p2⟩:=reps_cons.mp r1;cases reps_nil.mp p2;obtain ⟨a,xv,rfl,e1,e2⟩:=rep_lst.mp p1;have lx:xv.length=xs.length:=e2.length;have lk:ks.length=xs.length:=Br h3;refine ⟨a,xv,xk ks,cv,rfl,ec,SqL.of (x1.s3 _ _ e1),by omega,λi x hx H' Q' g hq=>?_,λD l H' g n pm pw=>?_⟩
    ·have hi:i<xs.length:=by
      rcases uj i xv.length with z|z
      ·omega
      ·rw [uW z] at hx;cases hx
     obtain ⟨x',e3,e4⟩:=e2.get (i:=i) (x:=xs[i]) (yY hi);rw [hx] at e3;cases e3;obtain ⟨k,e5,e6⟩:=Bq h3 (yY hi);have ek:xk ks i=k:=by unfold xk;simp [e5]
     have st:=vL (N:=List.replicate (([x]++cv).length) "") (xs:=xs[i]::cs) (vs:=x::cv) (show Same Hs1 H' from λb o e=>g b o (x1.s3 b o e)) (.cons e4 (rc.mono x1.s1));have lc:cv.length=cs.length:=rc.length;refine sb.h e6 (σ:=([x]++cv).map some) (Hs0:=Hs1) (H0:=H') (Hs:=Hs1) ?_ λv Hs2 H2 x2 r2=>?_
     ·simpa [L2.start,lc] using st
     ·obtain ⟨p,us,rfl,e7,e8⟩:=rep_tup.mp r2;have e9:=e8;rw [show [PV.at (.int k.1),PV.at (.str k.2)]=[V.int k.1,V.str k.2].map .at from rfl] at e9;cases Reps.ats e9;exact hq p H2 (λb o e=>x2.s2 b o e) (by rw [ek];exact x2.s3 _ _ e7)
    ·have el:l=vM ks:=SS hc.2 (by rw [lk,<- lx];exact pm) pw;subst el;have nH1:H1 D=none:=by
      cases z:H1 D with
      |none=>rfl
      |some o=>rw [g D o z] at n;cases n
     have nH:H D=none:=x1.s2.free nH1;have nS:Hs1 D=none:=x1.s3.free nH1;refine q D Hs1 _ (x1.trans ⟨.refl _,λb o e=>?_,λb o e=>?_,λ_ _ z=>z⟩) nH nS ⟨_,g8,PR e2 λi hi=>?_⟩
     ·rw [w4 (k4 (g b o e) n)];exact g b o e
     ·have e':=g b o (x1.s3 b o e);rw [w4 (k4 e' n)];exact e'
     ·have:=yw.mp ((Zj ks).mem_iff.mp hi);omega
   ·cases h4
  ·cases h2
end
end Mi
namespace Mi
open PySem L2 PyProof.Rows
section
variable {P:Program}{w:World}{K:Fg}{mg:Str->Option Value}{base:Heap}
theorem okOC {x qual:Str}{st:Stmt}{f:Addr}{fd:FuncData}{N ps:List Str}{k:Nat}{b:MS}{m:List PV->Option PV}(F:Fun K x qual st f fd)(S:y6 N ps (j9 st))(hm:m=qy N.length ps.length b)(hb:∀(A:Around)(outer:List Env)(s:Shared)(H:Hp)(E:XK),Room k (A.deeper (envOfC qual (j9 st) s.heap.objs.size f fd.code)) -> ∃ t,PSs (xN v9 P w K mg base N qual (j9 st) f fd.code A outer s H E).nox (qz st) t/\qd true t b):FnOk P w K mg base v9 (k+1) f fd ps (p8 m):=by
 subst hm;refine F.okC S (λvs H Q E h=>?_) (λA outer s H vs Q E hr h=>?_)
 ·obtain ⟨Hs,xs,y,_,r,e,_⟩:=h;unfold qy at e;split at e
  ·rename_i hl;rw [r.length];exact hl
  ·cases e
 ·obtain ⟨Hs,xs,y,sm,r,e,q⟩:=h;obtain ⟨t,ht,sem⟩:=hb A outer s H E hr;refine ⟨t,ht,?_⟩;unfold qy at e;split at e
  ·rename_i hl;obtain ⟨o,eo,e1⟩:=bind_some e;refine sem.h eo (by rw [<- hl];exact vL sm r) ?_;cases o with
   |rt z=>cases e1;exact λa Hs' H' x n n' t=>q a Hs' H' x n n' t
   |nx ε=>cases e1
   |bk ε=>cases e1
   |ct ε=>cases e1
  ·cases e
end
end Mi
namespace L2
open PySem PySem.Spec PyProof.Rows
section
variable {X:Cx}
def ipM:TIp:=λx y H Q=>∃ i j,x = .int i/\y = .int j/\jk i j/\Q (.int (i*j)) H
theorem LI:PIp X .Mult ipM:=by intro pins s σ H x y v u Q I r1 r2 h;obtain ⟨i,j,e1,e2,c,q⟩:=h;subst e1;subst e2;obtain ⟨t,rfl⟩:=r1;obtain ⟨t',rfl⟩:=r2;exact imul_int ⟨.int _,H,I.tok _,⟨_,rfl⟩,q⟩ (IntMulOk.of_bits c.1 c.2)
end
end L2
namespace Mi
open PySem L2
def pIpM:PV->PV->Option PV
 | .at (.int i),.at (.int j)=>if jk i j then some (.at (.int (i*j))) else none
 |_,_=>none
instance {fr:Bool}{i:Nat}{te:TE}{a:M}[sa:SemE te a]:qd fr (tAug i te ipM) (dAug i pIpM a) where
 h:=λe _ _ _ _ _ rs _ q=>by
  obtain ⟨x,ex,e1⟩:=bind_some e;obtain ⟨y,ey,e2⟩:=bind_some e1;obtain ⟨z,ez,e3⟩:=bind_some e2;cases e3;unfold pIpM at ez;split at ez
  ·split at ez
   ·rename_i hc;cases ez;unfold q8 at ex;split at ex
    ·rename_i w hw;cases ex;obtain ⟨v,hv,rv⟩:=rs.sh i _ hw;cases rep_at.mp rv;refine ⟨_,hv,sa.h ey rs λu Hs1 H1 x1 r1=>?_⟩;cases rep_at.mp r1;exact ⟨_,_,rfl,rfl,hc,q _ _ _ ((rs.go x1).put (rep_at.mpr rfl))⟩
    ·cases ex
   ·cases ez
  ·cases ez
end Mi
namespace L2
open PySem PySem.Spec PyProof.Rows
section
variable {X:Cx}{K:Fg}
def Ps (K:Fg):V->List V->Hp->VK->Prop:=λo vs H Q=>∃ p xs x j,o = .ref p/\vs=[x]/\SqL K H p xs/\k6 x=true/\xs.all k6=true/\xs.length<=1000000/\(xs[j]?.map λy=>qo y x)=some true/\(∀(m:Nat)(y:V),m<j->xs[m]?=some y->qo y x=false)/\Q (.int j) H
theorem Vu {x:V}:∀{xs:List V}{us:List Value}{i:Nat}{y:V},Vals xs us->xs.all k6=true->xs[i]?=some y->∃ u,us[i]?=some u/\eqU x u=qo y x
 |_,_,_,_,.nil,_,h=>by simp at h
 |z::xs,u::us,0,y,.cons r t,f,h=>by
  rw [List.all_cons,yi] at f;cases h;exact ⟨u,rfl,Vt r f.1⟩
 |z::xs,u::us,i+1,y,.cons r t,f,h=>by
  rw [List.all_cons,yi] at f;exact Vu (i:=i) t f.2 (by simpa using h)
theorem BL (hK:X.K=K):MtM X "list.index" (Ps K):=by
 subst hK;intro pins s σ H o vs v us Q I ro rv h;obtain ⟨p,xs,x,j,rfl,rfl,hq,fx,fs,hl,hj,hno,q⟩:=h;cases ro;obtain ⟨u,rfl,ru⟩:=rv.one;obtain ⟨its,r,⟨⟨cls,dd,data,sl⟩,n,ho,hc,hd,hs⟩,hz⟩:=I.list hq;simp only at hc hd hs;subst hc hd hs;obtain ⟨y,hy,hyt⟩:=yN.mp hj;obtain ⟨w,hw,ew⟩:=Vu (x:=x) r fs hy;have hlen:=r.length;have jl:j<its.length:=(yC.mp hw).1;have ej:its.toArray[j]'(by simpa using jl)=w:=by have:=(yC.mp hw).2;simpa using this
 refine call_meets F.slot_list_index ⟨_,ho,rfl⟩ F.entry_list_index (F.args_list_index_2 _ _)
  (SeqAt.list_indexAt p its.toArray n none sl u (eqU x) j (by simpa using jl) (by omega) (by rw [ej,ew];exact hyt) (λm hm hmj=>?_)) ⟨ho,λw hw=>Jp ru fx r fs w (by simpa using hw),?_⟩
 ·have ml:m<its.length:=by simpa using hm
  obtain ⟨z,hz⟩:∃ z,xs[m]?=some z:=⟨xs[m]'(by omega),yY _⟩;obtain ⟨w2,hw2,ew2⟩:=Vu (x:=x) r fs hz;have:its.toArray[m]'hm=w2:=by have:=(yC.mp hw2).2;simpa using this
  rw [this,ew2];exact hno m z hmj hz
 ·exact ⟨.int j,H,I.kept (t':=s.toks+1) λb o e=>e,⟨_,rfl⟩,q⟩
theorem Ih (l b:Addr)(i j:Int)(x y:Str)(t u t' u':Tok)(n n2:Nat)(dd dd2:Option Addr)(sl sl2:Array (Option Value)):Meets (Builtin.«tuple.__lt__» ⟨[.ref l,.ref b],[]⟩) (λ_ R s=>s.heap.get? l=some { cls:= .type "tuple",dict:=dd,data:= .seq #[.int i t,.str x u] n,slots:=sl }/\s.heap.get? b=some { cls:= .type "tuple",dict:=dd2,data:= .seq #[.int j t',.str y u'] n2,slots:=sl2 } /\ R (.ok (.ret (.bool (g0 (i,x) (j,y))))) s) :=
 .of_wp λprog w A R s h=>by
  obtain ⟨hp,g,d,tk,os⟩:=s;obtain ⟨hl,hb,h⟩:=h;have f2:=AutoSeq1.sub_tuple_tuple
  wp_walk using wpAny_loadPart' hl,wpAny_loadPart' hb
  show wpAny _ _ (eqBool (.int i t) (.int j t')) _ _ _;refine wpAny_eqBool_int ?_;by_cases e:i=j
  ·subst e;rw [beq_self_eq_true]
   wp_walk
   show wpAny _ _ (eqBool (.str x u) (.str y u')) _ _ _;refine wpAny_eqBool_str ?_;by_cases e2:x=y
   ·subst e2;rw [yH rfl]
    wp_walk
    refine ⟨_,rfl,?_⟩;have z:g0 (i,x) (i,x)=false:=(Qz λ_=>(i,x)).irr 0;rw [z] at h;exact h
   ·rw [yK e2];refine yR (wpAny_rule (yR (show wpAny _ _ (richCompare .Lt (.str x u) (.str y u')) _ _ _ from PyProof.Rows.lt_str ?_)))
    wp_walk
    refine ⟨_,rfl,?_⟩;have z:g0 (i,x) (i,y)=decide (x.cps.toList<y.cps.toList):=by unfold g0;simp
    rw [z] at h;exact h
  ·have e':(i==j)=false:=by simpa using e
   rw [e'];refine yR (wpAny_rule (yR (show wpAny _ _ (richCompare .Lt (.int i t) (.int j t')) _ _ _ from PyProof.Rows.lt_int ?_)))
   wp_walk
   refine ⟨_,rfl,?_⟩;have z:g0 (i,x) (j,y)=decide (i<j):=by unfold g0;simp [e']
   rw [z] at h;exact h
end
section
variable {X:Cx}{K:Fg}
def rLtP (K:Fg):R2:=λx y H Q=>∃ p q i a j b,x = .ref p/\y = .ref q/\SqT K H p [.int i,.str a]/\SqT K H q [.int j,.str b]/\Q (.bl (g0 (i,a) (j,b))) H
theorem De {i:Int}{a:Str}{us:List Value}(r:Vals [.int i,.str a] us):∃ t u,us=[.int i t,.str a u]:=by
 cases r with
 |cons p q =>
  cases q with
  |cons p' q'=>cases q';obtain ⟨t,rfl⟩:=p;obtain ⟨u,rfl⟩:=p';exact ⟨t,u,rfl⟩
theorem BT (hu:X.A.units+1<cLine)(hK:X.K=K):OpR X (compareOp .Lt) (rLtP K):=by
 subst hK;intro pins s σ H x y v u Q I rx ry h;obtain ⟨p,q,i,a,j,b,rfl,rfl,h1,h2,k⟩:=h;cases rx;cases ry;obtain ⟨its,r,hl,_⟩:=I.tuple h1;obtain ⟨its2,r2,hl2,_⟩:=I.tuple h2;obtain ⟨t,u,rfl⟩:=De r;obtain ⟨t',u',rfl⟩:=De r2;obtain ⟨⟨cls,dd,data,sl⟩,ho,hc,n,hd⟩:=id hl;obtain ⟨⟨cls2,dd2,data2,sl2⟩,ho2,hc2,n2,hd2⟩:=id hl2;simp only at hc hd hc2 hd2;subst hc hd hc2 hd2;exact richCompare_meets_room (op:= .Lt) ⟨_,ho,rfl⟩ ⟨_,ho2,rfl⟩ F.slot_tuple_lt F.entry_tuple_lt (F.args_tuple_lt_2 _ _) (Ih p q i j a b t u t' u' n n2 dd dd2 sl sl2)
  ⟨ho,ho2,show Value.bool (g0 (i,a) (j,b))≠Value.notImplemented/\EP X pins σ Q (.bool (g0 (i,a) (j,b))) s from ⟨(λx=>nomatch x),.bl _,H,I,rfl,k⟩⟩ (by omega)
end
end L2
namespace Mi
open PySem L2
variable{K:Fg}
variable {fr:Bool}
def pLtP:PV->PV->Option PV
 | .tup [.at (.int i),.at (.str x)],.tup [.at (.int j),.at (.str y)]=>some (.at (.bl (g0 (i,x) (j,y))))
 |_,_=>none
theorem PQ {H:Hp}{i:Int}{x:Str}{vs:List V}(r:Reps H [.at (.int i),.at (.str x)] vs):vs=[.int i,.str x]:=Reps.ats (us:=[.int i,.str x]) r
instance :xT (rLtP K) pLtP where
 h:=λ{x y z} e {Hs H v w} s a b {Q} q=>by
  unfold pLtP at e;split at e
  ·cases e;obtain ⟨p,vs,rfl,e1,r1⟩:=xA s a;obtain ⟨p',ws,rfl,e2,r2⟩:=xA s b;rw [PQ r1] at e1;rw [PQ r2] at e2;exact ⟨p,p',_,_,_,_,rfl,rfl,SqT.of e1,SqT.of e2,q _ _ _ (.refl s) (rep_at.mpr rfl)⟩
  ·cases e
def pRep:PV->PV->Option PV
 | .lst xs,.at (.int k)=>if -(lim:Int)<=k/\k<=lim/\xs.length*k.toNat<=lim then some (.lst (List.replicate k.toNat xs).flatten) else none
 |_,_=>none
theorem Reps.rep {H:Hp}{xs:List PV}{vs:List V}(r:Reps H xs vs):∀ k:Nat,Reps H (List.replicate k xs).flatten (List.replicate k vs).flatten
 |0=> .nil
 |k+1=>by
  rw [uI,uI,ur,ur];exact r.append (Reps.rep r k)
instance:Uy rRep pRep where
 h:=λ{x y z} e {Hs H v w} s a b {Q} q=>by
  unfold pRep at e;split at e
  ·split at e
   ·rename_i xs k hl;cases e;obtain ⟨p,vs,rfl,e1,r1⟩:=qE s a;cases c8 b;have hlim:(lim:Int)=1000000:=rfl;exact ⟨p,k,vs,rfl,rfl,e1,by omega,by omega,zl (by rw [r1.length];exact hl.2.2),λl hl=>q l _ _ (.newO s hl) hl (s.free hl) ⟨_,g8,r1.rep _⟩⟩
   ·cases e
  ·cases e
def Qv (u:V):List V->Option Nat
 |[]=>none
 |y::ys=>if qo y u=true then some 0 else (Qv u ys).map (·+1)
theorem Bb {u:V}:∀{us:List V}{j:Nat},Qv u us=some j->(us[j]?.map λy=>qo y u)=some true/\∀(m:Nat)(y:V),m<j->us[m]?=some y->qo y u=false
 |[],_,h=>by cases h
 |y::ys,j,h=>by
  unfold Qv at h;split at h
  ·rename_i hy;cases h;exact ⟨by simp [hy],λm y hm=>absurd hm (uB _)⟩
  ·rename_i hy;obtain ⟨k,hk,rfl⟩:=yN.mp h;obtain ⟨h1,h2⟩:=Bb hk;refine ⟨by simpa using h1,λm z hm hz=>?_⟩;cases m with
   |zero=>cases hz;simpa using hy
   |succ m=>exact h2 m z (by omega) (by simpa using hz)
def jH (a b:M):M:=λε=>(a ε).bind λx=>(b ε).bind λy=>match x,y with
 | .lst xs,.at u=>(ats xs).bind λus=>if k6 u=true/\us.all k6=true/\us.length<=lim then (Qv u us).map λ(j:Nat)=>PV.at (.int (j:Int)) else none
 |_,_=>none
instance {to te:TE}{a b:M}[sa:qc to a][sb:SemE te b]:SemE (tBM K "list" (Ps K) to (i5 te qt)) (jH a b) where
 h:=λe _ _ _ _ _ rs _ q=>by
  obtain ⟨x,ex,e⟩:=bind_some e;obtain ⟨y,ey,e⟩:=bind_some e;split at e
  ·rename_i xs u;obtain ⟨us,eu,e⟩:=bind_some e;split at e
   ·rename_i hf;obtain ⟨j,hj,rfl⟩:=yN.mp e;refine sa.h ex rs λv Hs1 H1 x1 r1=>?_;obtain ⟨p,vs,rfl,e1,r2⟩:=qE x1.s3 r1;rw [ZA eu] at r2;cases r2.ats;refine ⟨.inl ⟨rfl,_,SqL.of e1⟩,sb.h ey (rs.go x1) λw Hs2 H2 x2 r3=>?_⟩;cases rep_at.mp r3;obtain ⟨j1,j2⟩:=Bb hj;exact ⟨p,us,_,j,rfl,rfl,SqL.of (x2.s2 _ _ e1),hf.1,hf.2.1,hf.2.2,j1,j2,q _ _ _ (x1.trans x2) (rep_at.mpr rfl)⟩
   ·cases e
  ·cases e
def fndR (g:MG)(f:MS)(xs:List PV)(ε:ME)(I:ME->Prop):Option PV->Prop
 |some y=>o7 g f xs ε=some (.rt y)
 |none=>∃ ε',o7 g f xs ε=some (.nx ε')/\I ε'
def stpR (f:MS)(ε:ME)(I:ME->Prop):Option PV->Prop
 |some y=>f ε=some (.rt y)
 |none=>∃ ε',f ε=some (.nx ε')/\I ε'
theorem VW {g:MG}{f:MS}{α:Type}(F:α->PV)(I:ME->Prop)(r:α->Option PV):∀(l:List α)(_:∀ a∈l,∀ ε,I ε->∃ ε1,g (F a) ε=some ε1/\stpR f ε1 I (r a))(ε:ME),I ε->fndR g f (l.map F) ε I (l.findSome? r)
 |[],_,ε,i=>⟨ε,rfl,i⟩
 |a::l,h,ε,i=>by
  obtain ⟨ε1,e1,s⟩:=h a yT ε i;have ih:=VW F I r l λb hb=>h b (yV _ hb);rw [List.findSome?_cons];have st:∀ o,f ε1=some o->o7 g f ((a::l).map F) ε=match o with
   | .nx ε2=>o7 g f (l.map F) ε2
   | .ct ε2=>o7 g f (l.map F) ε2
   | .bk ε2=>some (.nx ε2)
   | .rt y=>some (.rt y):=λo eo=>by
   show Option.bind (g (F a) ε) (λε1=>Option.bind (f ε1) λo=>match o with
    | .nx ε2=>o7 g f (l.map F) ε2
    | .ct ε2=>o7 g f (l.map F) ε2
    | .bk ε2=>some (.nx ε2)
    | .rt y=>some (.rt y))=_
   rw [e1,yG,eo];rfl
  cases hr:r a with
  |some y=>rw [hr] at s;exact st _ s
  |none=>rw [hr] at s;obtain ⟨ε2,e2,i2⟩:=s;have:=st _ e2;have q:=ih ε2 i2;unfold fndR at q ⊢;rw [this];exact q
theorem MZ {it:MA}{g:MG}{f:MS}{xs:List PV}{ε:ME}{I:ME->Prop}{o:Option PV}(h:it ε=some xs)(k:fndR g f xs ε I o):stpR (xE it g f) ε I o:=by
 cases o with
 |some y=>exact xP h k
 |none=>obtain ⟨ε',e,i⟩:=k;exact ⟨ε',xP h e,i⟩
end Mi
namespace L2
open PySem PySem.Spec PySem.Calls PyProof.Rows
structure FrzFn (H:Hp)(f:Addr):Prop where
 ex:∃(oc:Value)(od:Option Addr)(fd:FuncData)(sl:Array (Option Value))(u:HO),H f=some (.frz ⟨oc,od,.func fd,sl⟩ u)
theorem FrzFn.mono {H H':Hp}{f:Addr}(F:FrzFn H f)(g:∀ b o,H b=some o->H' b=some o):FrzFn H' f:=by obtain ⟨oc,od,fd,sl,u,e⟩:=F.ex;exact ⟨oc,od,fd,sl,u,g _ _ e⟩
section
variable {X:Cx}
def Zn (P:Program)(w:World)(K:Fg)(mg:Str->Option Value)(base:Heap)(k i:Nat)(ta:TA):TE:=λσ H Q=>∃ f,σ[i]?=some (some (.ref f))/\FrzFn H f/\ta σ H λvs H1=>(∀ b o,H b=some o->H1 b=some o) /\
 ∀(A:Around)(outer:List Env)(s:Shared)(us:List Value),Room k A->Env0 P w K mg base A outer s H1->Vals vs us->codeAny (model P w) A (.call (.ref f) ⟨us,[]⟩) (CR v9 outer P w H1 s Q E0) s
theorem Rz {i k:Nat}{x:Str}{p pos:Pos}{e:Expr}{es:List Expr}{t:TA}(hN:X.N[i]?=some x)(hr:Room k X.A)(ha:PA X (e::es) t)(hv:Vis X.env.scope x:=by first|exact Or.inl rfl|exact Or.inr (Or.inl rfl)|exact Or.inr (Or.inr rfl))(hd:(x==("__debug__":Str))=false:=by decide)(hcd:(x==("__classdict__":Str))=false:=by decide)(he:starEach (e::es) X.env=(false,eval e X.env)::starEach es X.env:=by rfl)(hpl:(backTo pos (starEach es X.env)).any (·.1)=false:=by rfl):PE X (.Call (.Name x p) (e::es) [] pos) (Zn X.prog X.w X.K X.mg X.base k i t):=by
 intro pins s σ H Q I h;obtain ⟨f,hf,F,h⟩:=h;refine wpAny_Call_Name_kw (v6 (BX (pos:=p) hN hv hd hcd pins s σ H (λv H'=>v = .ref f/\H'=H) I ⟨_,hf,rfl,rfl⟩) λu s1 ⟨v,H1,I1,r1,ev,eH⟩=>?_);subst ev eH;obtain rfl:u=Value.ref f:=r1;have fnat:∀{H':Hp}{s':Shared},HOk X.prog X.w H' s'.heap->FrzFn H' f->PySem.W.FnAt f s'.heap:=λhok F'=>by
  obtain ⟨oc,od,fd,sl,u,e⟩:=F'.ex;obtain ⟨hf3,_⟩:=hok f _ e;exact ⟨oc,od,fd,sl,hf3⟩
 refine PySem.W.callWith_F (fnat I1.hok F) (v6 (ha pos pins s1 σ H1 _ I1 h) λus s2 ⟨vs,H2,I2,r2,g,q⟩=>⟨fnat I2.hok (F.mono g),?_⟩) he hpl;refine wpAny_call (codeAny_mono (q X.A X.stack s2 us hr I2.env0 r2) λr s' hq=>?_);cases r with
 |error e=>exact hq.elim
 |ok fl =>
  cases fl with
  |ret u=>exact I2.after hq
  |next=>exact False.elim hq
  |brk=>exact False.elim hq
  |cont=>exact False.elim hq
end
end L2
namespace Mi
open PySem L2
theorem TJ {Hs H:Hp}{xs:List PV}{vs:List V}(s:Same Hs H)(r:Reps Hs xs vs):RS Hs H Hs H (vs.map some) (xs.map .sh):=by
 have q:=vL (N:=[]) s r;have e1:L2.start [] vs=vs.map some:=by unfold L2.start;simp
 have e2:xs.map MSlot.sh++List.replicate (([]:List Str).length-xs.length) .no=xs.map .sh:=by simp
 rw [e1,e2] at q;exact q
mutual
def plB:PV->Bool
 | .at _=>true
 | .tup xs=>jz xs
 | .lst xs=>jz xs
 |_=>false
def jz:List PV->Bool
 |[]=>true
 |x::xs=>plB x&&jz xs
end
mutual
theorem Rep.drop {H H':Hp}(g:∀ b o,H b=some o->(∀ o' u,o ≠ .frz o' u)->H' b=some o):∀{x:PV}{v:V},plB x=true->Rep H x v->Rep H' x v
 | .at u,v,_,r=>rep_at.mpr (rep_at.mp r)
 | .tup xs,v,p,r=>by
  obtain ⟨a,vs,e,h,rs⟩:=rep_tup.mp r;unfold plB at p;exact rep_tup.mpr ⟨a,vs,e,g _ _ h (λ_ _ z=>nomatch z),Reps.drop' g p rs⟩
 | .lst xs,v,p,r=>by
  obtain ⟨a,vs,e,h,rs⟩:=rep_lst.mp r;unfold plB at p;exact rep_lst.mpr ⟨a,vs,e,g _ _ h (λ_ _ z=>nomatch z),Reps.drop' g p rs⟩
 | .dk _ _,_,p,_=>by unfold plB at p;cases p
 | .fk _ _,_,p,_=>by unfold plB at p;cases p
 | .ob _ _ _,_,p,_=>by unfold plB at p;cases p
 | .op _,_,p,_=>by unfold plB at p;cases p
theorem Reps.drop' {H H':Hp}(g:∀ b o,H b=some o->(∀ o' u,o ≠ .frz o' u)->H' b=some o):∀{xs:List PV}{vs:List V},jz xs=true->Reps H xs vs->Reps H' xs vs
 |[],vs,_,r=>reps_nil.mpr (reps_nil.mp r)
 |x::xs,vs,p,r=>by
  unfold jz at p;rw [yi] at p;obtain ⟨v,r',e,r1,r2⟩:=reps_cons.mp r;exact reps_cons.mpr ⟨v,r',e,Rep.drop g p.1 r1,Reps.drop' g p.2 r2⟩
end
structure LQ where
 P:Program
 w:World
 K:Fg
 mg:Str->Option Value
 base:Heap
end Mi
namespace L2
open PySem PySem.Spec PySem.Calls PyProof.Rows Mi
section
variable {X:Cx}{P:Program}{w:World}{K:Fg}{mg:Str->Option Value}{base:Heap}
theorem RA {i k:Nat}{x:Str}{p pos:Pos}{e:Expr}{es:List Expr}{t:TA}(z:LQ.mk X.prog X.w X.K X.mg X.base=LQ.mk P w K mg base)(hN:X.N[i]?=some x)(hr:Room k X.A)(ha:PA X (e::es) t)(hv:Vis X.env.scope x:=by first|exact Or.inl rfl|exact Or.inr (Or.inl rfl)|exact Or.inr (Or.inr rfl))(hd:(x==("__debug__":Str))=false:=by decide)(hcd:(x==("__classdict__":Str))=false:=by decide)(he:starEach (e::es) X.env=(false,eval e X.env)::starEach es X.env:=by rfl)(hpl:(backTo pos (starEach es X.env)).any (·.1)=false:=by rfl):PE X (.Call (.Name x p) (e::es) [] pos) (Zn P w K mg base k i t):=by injection z with z1 z2 z3 z4 z5;have q:=Rz (X:=X) (k:=k) (i:=i) (p:=p) (pos:=pos) hN hr ha hv hd hcd he hpl;rw [z1,z2,z3,z4,z5] at q;exact q
end
end L2
namespace L2
open PySem PySem.Spec PySem.Calls PyProof.Rows
def rSlU (K:Fg):V->Option Int->Option Int->Hp->VK->Prop:=λx lo hi H Q=>∃(a:Addr)(xs:List V)(n:Nat),x = .ref a/\SqT K H a xs/\lo=some (n:Int)/\hi=none/\1<=n/\n<=xs.length/\∀ p,H p=none->Q (.ref p) (w6 H p (.tup (xs.drop n)))
theorem SN {X:Cx}{K:Fg}(h:X.K=K):SlR X (rSlU K):=by subst h;intro pins s σ H x v vl vu lo hi sl Q I rx hs pl pu h;obtain ⟨a,xs,n,rfl,hx,rfl,rfl,h1,h2,q⟩:=h;cases rx;cases pl;cases pu;obtain ⟨its,r,ht,hz⟩:=I.tuple hx;have hlen:=r.length;refine ⟨"tuple",_,slot_tuple_getitem.lookup,ht.typeIs,?_⟩;refine getItem_tuple_from ht hs h1 (by rw [yX];omega) ?_ (by rw [yX];omega);refine ⟨.ref s.heap.objs.size,_,I.laid (t':=s.toks) (o:= .tup (xs.drop n)) (λb ob q=>yU _ q) (yW _) ?_,rfl,q _ (I.hok.fresh (yW _))⟩;exact ⟨by rw [uU];omega,_,r.drop n,⟨_,yD _ rfl,rfl,_,rfl⟩⟩
end L2
namespace Mi
open PySem L2
variable{l u:ME->Option (Option Int)}
def dSlT (a:M)(l u:ME->Option (Option Int)):M:=λε=>(a ε).bind λx=>(l ε).bind λlo=>(u ε).bind λhi=>match x,lo,hi with
 | .tup xs,some i,none=>if 1<=i/\i.toNat<=xs.length then some (.tup (xs.drop i.toNat)) else none
 |_,_,_=>none
theorem MW {f:M}{ε:ME}{xs:List PV}{i:Int}(h1:f ε=some (.tup xs))(h2:l ε=some (some i))(h3:u ε=some none)(h4:1<=i/\i.toNat<=xs.length):dSlT f l u ε=some (.tup (xs.drop i.toNat)):=by unfold dSlT;rw [h1];show Option.bind (l ε) _=_;rw [h2];show Option.bind (u ε) _=_;rw [h3];exact if_pos h4
instance {K:Fg}{te:TE}{tl th:TO}{a:M}[sa:qc te a][sl:Qe tl l][su:Qe th u]:SemE (tSl (rSlU K) te tl th) (dSlT a l u) where
 h:=λe _ _ _ _ _ rs _ q=>by
  obtain ⟨x,ex,e1⟩:=bind_some e;obtain ⟨lo,el,e2⟩:=bind_some e1;obtain ⟨hi,eu,e3⟩:=bind_some e2;split at e3
  ·split at e3
   ·rename_i xs i hl;cases e3;refine sa.h ex rs λv Hs1 H1 x1 r1=>sl.h el (rs.go x1) λHs2 H2 x2=>su.h eu ((rs.go x1).go x2) λHs3 H3 x3=>?_;have x13:=x1.trans (x2.trans x3);obtain ⟨p,vs,rfl,e1,r⟩:=xA x3.s3 ((r1.ext x2).ext x3);have hn:vs.length=xs.length:=r.length;refine ⟨p,vs,i.toNat,rfl,SqT.of e1,by congr 1;omega,rfl,by omega,by omega,λd hd=>q _ _ _ (x13.trans (.new x3.s3 hd)) (rep_tup.mpr ⟨d,_,rfl,g8,(r.mono (Ext.new x3.s3 hd).s1).drop _⟩)⟩
   ·cases e3
  ·cases e3
end Mi
namespace L2
open PySem PySem.Spec PySem.Calls PyProof.Rows
variable{x:Str}{body e:Expr}{tb te:TE}{pos:Pos}{es:List Expr}{t:TA}{b c:Addr}{cs:List Addr}{H:Hp}{K:Fg}{mg:Str->Option Value}{base:Heap}{A:Around}{n:Nat}{params:Arguments}{scope:Scope}{clos:List (Str×Addr)}
section
variable {X:Cx}{K:Fg}
theorem u7 {N P:List Str}{sc:Scope}(h1:sc.kind = .function:=by rfl)(h2:sc.isCoroutine=false:=by rfl)(h3:sc.isGenerator=false:=by rfl)(h4:N.Nodup:=by decide +kernel)(h5:N.take P.length=P:=by rfl)(h6:∀ x∈P,sc.names.lookup x=some .local∨sc.names.lookup x=some .cell:=by decide +kernel)(h7:∀ y∈sc.names,y.2 ≠ .free:=by decide +kernel):y6 N P sc:=⟨h1,h2,h3,h4,h5,h6,h7⟩
theorem sW (i:Nat){pos':Pos}(hN:X.N.Nodup)(he:PE X e te)(hi:X.N[i]?=some x:=by rfl)(hx:Loc X.env.scope x:=by first|exact Or.inl rfl|exact Or.inr rfl)(hs:swapsWith e (some (.Name x pos')) pos.line X.env=pure false:=by rfl)(hf:X.fn x=true∨X.env.scope.names.lookup x=some .local:=by first|exact .inl rfl|exact .inr rfl):PS X (.Assign [.Name x pos'] e pos) (jg te (xh i)):=qN hN hi hx he hs hf
theorem aW (ha:PE X e te)(hs:starEach [e] X.env=(false,eval e X.env)::starEach [] X.env:=by rfl):PA X [e] (i5 te qt):=w5 ha u9 hs
theorem aC (ha:PE X e te)(hr:PA X es t)(hs:starEach (e::es) X.env=(false,eval e X.env)::starEach es X.env:=by rfl):PA X (e::es) (i5 te t):=w5 ha hr hs
theorem iW {a b:Expr}{ta:TE}(hK:X.K=K)(ha:PE X a ta)(hb:PE X b tb)(hs:Ux b:=by exact λ_ _=>rfl):PE X (.Subscript a b pos) (tOp (rIx K) ta tb):=Jy (LZ hK) ha hb hs
end
def xQ (cs:List Addr)(H:Hp):Hp:=λb=>if b∈cs then none else H b
def qh (cs:List Addr)(g:Addr->Obj)(H:Hp):Hp:=λb=>if b∈cs then some (.frz (g b) (.own b)) else H b
theorem vD (h:b∈cs):xQ cs H b=none:=if_pos h
theorem qv (h:b∉cs):xQ cs H b=H b:=if_neg h
theorem jU {g:Addr->Obj}(h:b∈cs):qh cs g H b=some (.frz (g b) (.own b)):=if_pos h
theorem qJ {g:Addr->Obj}(h:b∉cs):qh cs g H b=H b:=if_neg h
section
variable {P:Program}{w:World}{H H' H1:Hp}{h h':Heap}{a:Addr}{o:HO}{cs:List Addr}{g:Addr->Obj}{outer:List Env}{s s':Shared}{Q:VK}{u:Value}
theorem ObjOk.stay2 (x:ObjOk P w H h a o)(ho:∀ b,H b=some (.own a)->H' b=some (.own a))(ht:∀ b xs,H b=some (.tup xs)->H' b=some (.tup xs))(hz:∀ b o,H b=some (.frz o (.own a))->H' b=some (.frz o (.own a))):ObjOk P w H' h a o:=by
 induction o with
 |dT kvs=>obtain ⟨z,y,xs,r,c⟩:=x;exact ⟨z,y,xs,Paired.mapP r λp q z=>⟨z.1,ht _ _ z.2.1,z.2.2⟩,c⟩
 |ins C dx fs=>obtain ⟨d,c⟩:=x;exact ⟨ho _ d,c⟩
 |frz ob u ih=>obtain ⟨e,q⟩:=x;exact ⟨e,ih q⟩
 |tbl ps q =>
  obtain ⟨more,e,t,r⟩:=x;refine ⟨more,e,t,λp hp=>?_⟩;rcases r p hp with z|⟨c,o,vs,t,z,oc,e2⟩
  ·exact .inl z
  ·exact .inr ⟨c,o,vs,t,z,hz c o oc,e2⟩
 |lst xs=>exact x
 |tup xs=>exact x
 |dK kvs=>exact x
 |set S n=>exact x
 |own y=>exact x
 |xd fs=>exact x
 |rng lo hi=>exact x
 |met f y=>exact x
 |ext φ=>exact x
theorem HOk.cOff (x:HOk P w H h)(hc:∀ b∈cs,∃ o,H b=some (.frz o (.own b))):HOk P w (xQ cs H) h:=λa o e=>by
 by_cases ha:a∈cs
 ·rw [vD ha] at e;cases e
 ·rw [qv ha] at e;refine (x a o e).stay2 (λb q=>?_) (λb xs q=>?_) λb ob q=>?_
  ·rw [qv (λz=>by obtain ⟨_,y⟩:=hc b z;rw [y] at q;cases q)];exact q
  ·rw [qv (λz=>by obtain ⟨_,y⟩:=hc b z;rw [y] at q;cases q)];exact q
  ·rw [qv (λz=>by
    obtain ⟨_,y⟩:=hc b z;rw [y] at q;cases q;exact ha z)];exact q
theorem HOk.cOn (x:HOk P w H h)(hn:∀ b∈cs,H b=none)(hg:∀ b∈cs,h.get? b=some (g b)):HOk P w (qh cs g H) h:=λa o e=>by
 have out:∀ b o,H b=some o->qh cs g H b=some o:=λb o q=>by rw [qJ (λz=>by rw [hn b z] at q;cases q)];exact q
 by_cases ha:a∈cs
 ·rw [jU ha] at e;cases e;exact ⟨hg a ha,_,hg a ha⟩
 ·rw [qJ ha] at e;exact (x a o e).stay2 (λb q=>out b _ q) (λb xs q=>out b _ q) λb ob q=>out b _ q
theorem CE.off (hn:∀ b∈cs,H b=none)(hg:∀ b∈cs,s.heap.get? b=some (g b))(c:CE outer P w (qh cs g H) s (λv H'=>(∀ b∈cs,H' b=some (.frz (g b) (.own b)))->Q v (xQ cs H')) u s'):CE outer P w H s Q u s':=by
 obtain ⟨v,H1,os,bare,un,hok,r,q⟩:=c;have f1:∀ b∈cs,H1 b=some (.frz (g b) (.own b)):=λb hb=>un.frzs b _ _ (jU hb);have g1:∀ b∈cs,s'.heap.get? b=some (g b):=λb hb=>(hok b _ (f1 b hb)).1;have ne:∀ b o,H b=some o->b∉cs:=λb o e z=>by rw [hn b z] at e;cases e
 refine ⟨v,xQ cs H1,os,bare,⟨λb o e n hf hx=>?_,λb o e n hf hx=>?_,λb o e n hx=>?_,un.there,λb xs e=>?_,λb o u e=>?_,λb ps q e=>?_⟩,hok.cOff λb hb=>⟨_,f1 b hb⟩,r,q f1⟩
 ·by_cases hb:b∈cs
  ·rw [hg b hb] at e;cases e;exact g1 b hb
  ·exact un.keep b o e (by rw [qJ hb];exact n) hf hx
 ·by_cases hb:b∈cs
  ·rw [hg b hb] at e;cases e;exact ⟨(g b).slots,g1 b hb⟩
  ·exact un.slot b o e (by rw [qJ hb];exact n) hf hx
 ·by_cases hb:b∈cs
  ·exact vD hb
  ·rw [qv hb];exact un.free b o e (by rw [qJ hb];exact n) hx
 ·rw [qv (ne _ _ e)];exact un.tups b xs (by rw [qJ (ne _ _ e)];exact e)
 ·rw [qv (ne _ _ e)];exact un.frzs b o u (by rw [qJ (ne _ _ e)];exact e)
 ·rw [qv (ne _ _ e)];exact un.tbls b ps q (by rw [qJ (ne _ _ e)];exact e)
theorem CE.on (hc:∀ b∈cs,H b=some (.frz (g b) (.own b)))(hg:∀ b∈cs,s.heap.get? b=some (g b))(hf:∀ b∈cs,b∉frs outer)(c:CE outer P w (xQ cs H) s (λv H'=>(∀ b∈cs,H' b=none)->Q v (qh cs g H')) u s'):CE outer P w H s Q u s':=by
 obtain ⟨v,H1,os,bare,un,hok,r,q⟩:=c;have f1:∀ b∈cs,H1 b=none:=λb hb=>un.free b _ (hg b hb) (vD hb) (by simp);have g1:∀ b∈cs,s'.heap.get? b=some (g b):=λb hb=>un.keep b _ (hg b hb) (vD hb) (hf b hb) (by simp);have nn:∀ b,H b=none->b∉cs:=λb e z=>by rw [hc b z] at e;cases e
 refine ⟨v,qh cs g H1,os,bare,⟨λb o e n hf hx=>un.keep b o e (by rw [qv (nn b n)];exact n) hf hx,λb o e n hf hx=>un.slot b o e (by rw [qv (nn b n)];exact n) hf hx,λb o e n hx=>?_,un.there,λb xs e=>?_,λb o u e=>?_,λb ps q e=>?_⟩,hok.cOn f1 g1,r,q f1⟩
 ·rw [qJ (nn b n)];exact un.free b o e (by rw [qv (nn b n)];exact n) hx
 ·have hb:b∉cs:=λz=>by rw [hc b z] at e;cases e
  rw [qJ hb];exact un.tups b xs (by rw [qv hb];exact e)
 ·by_cases hb:b∈cs
  ·rw [hc b hb] at e;cases e;exact jU hb
  ·rw [qJ hb];exact un.frzs b o u (by rw [qv hb];exact e)
 ·have hb:b∉cs:=λz=>by rw [hc b z] at e;cases e
  rw [qJ hb];exact un.tbls b ps q (by rw [qv hb];exact e)
theorem Env0.on (e:Env0 P w K mg base A outer s H)(hn:∀ b∈cs,H b=none)(hg:∀ b∈cs,s.heap.get? b=some (g b))(hb:∀ b∈cs,base.get? b=none)(hf:∀ b∈cs,b∉frs outer):Env0 P w K mg base A outer s (qh cs g H) :=
 ⟨e.frames,e.mod,λb o q=>⟨(e.bs b o q).1,by rw [qJ (λz=>by rw [hb b z] at q;cases q)];exact (e.bs b o q).2⟩,e.bsz,e.funs,λb q=>by rw [qJ (λz=>hf b z q)];exact e.frf b q,e.hok.cOn hn hg,e.bare,λp hp=>by
  rw [qJ (λz=>by have:=e.tbs p hp;rw [hn _ z] at this;cases this)];exact e.tbs p hp⟩
theorem Env0.off (e:Env0 P w K mg base A outer s H)(hc:∀ b∈cs,∃ o,H b=some (.frz o (.own b))):Env0 P w K mg base A outer s (xQ cs H) :=
 ⟨e.frames,e.mod,λb o q=>⟨(e.bs b o q).1,by
   by_cases hb:b∈cs
   ·exact vD hb
   ·rw [qv hb];exact (e.bs b o q).2⟩,e.bsz,e.funs,λb q=>by
   by_cases hb:b∈cs
   ·exact vD hb
   ·rw [qv hb];exact e.frf b q,e.hok.cOff hc,e.bare,λp hp=>by
  rw [qv (λz=>by obtain ⟨_,y⟩:=hc _ z;have:=e.tbs p hp;rw [y] at this;cases this)];exact e.tbs p hp⟩
end
structure Ut (clos:List (Str×Addr))(scope:Scope)(fr:List Str)(cv:List V)(cs:List Addr)(g:Addr->Obj):Prop where
 inj:∀ x y c,clos.lookup x=some c->clos.lookup y=some c->x=y
 sub:∀ x c,clos.lookup x=some c->c∈cs/\∃ v,(g c).data = .cell v
 len:cv.length=fr.length
 val:∀(i:Nat)(x:Str)(v:V),fr[i]?=some x->cv[i]?=some v->scope.names.lookup x=some .free/\∃ c u,clos.lookup x=some c/\(g c).data = .cell (some u)/\RelV v u
def wQ (qual:Str)(params:Arguments)(body:Expr)(scope:Scope)(clos:List (Str×Addr))(pm:Value)(H:Hp)(f c:Addr):Prop :=
 ∃ (oc:Obj) (u1 u2:HO) (vs:Array Value) (tq:Tok) (ctv:Value),H f=some (.frz (PySem.W.kla_obj "<lambda>" qual params body scope clos pm c ctv) u1)/\H c=some (.frz oc u2)/\oc.data = .fields vs/\vs[1]?=some (.str qual tq)
def JT (P:Program)(w:World)(K:Fg)(mg:Str->Option Value)(base:Heap)(k n:Nat)(tb:TE)(cv:List V)(cs:List Addr)(g:Addr->Obj)(H:Hp)(f c:Addr):Prop :=
 FrzFn H f/\(∃(oc:Obj)(u:HO),H c=some (.frz oc u))/\∀(A:Around)(outer:List Env)(s:Shared)(H2:Hp)(us:List Value)(vs:List V)(Q:VK)(E:XK),Room (k+1) A->Env0 P w K mg base A outer s H2->(∀ b o,H b=some o->H2 b=some o)->Vals vs us->vs.length=n ->
  tb ((vs++cv).map some) (xQ cs H2) (λv H'=>(∀ b∈cs,H' b=none)->Q v (qh cs g H'))->codeAny (model P w) A (.call (.ref f) ⟨us,[]⟩) (CR v9 outer P w H2 s Q E) s
theorem Nn {P:Program}{w:World}{k:Nat}{cv:List V}{g:Addr->Obj}{f:Addr}{qual:Str}{pm:Value}{ps fr:List Str}(R:wQ qual params body scope clos pm H f c)(hcs:∀ b∈cs,H b=some (.frz (g b) (.own b)))(C:Ut clos scope fr cv cs g)(S:wR ps fr scope)(hn:ps.length=n)(hb:∀ (A:Around) (outer:List Env) (s:Shared) (H:Hp),Room k (A.deeper (PySem.W.envX qual scope s.heap.objs.size f (.ref c) clos))->PE (vk P w K mg base (ps++fr) qual scope f c clos A outer s H) body tb)(hbd:∀ (ctv:Value) (us:List Value),us.length=n->bindArgs (PySem.W.kla_fn "<lambda>" qual params body scope clos pm (.ref c) ctv) ⟨us,[]⟩=pure (ps.zip us)):JT P w K mg base k n tb cv cs g H f c:=by
 obtain ⟨oc,u1,u2,vs,tq,ctv,hf,hc,hd,hv⟩:=R;refine ⟨⟨_,_,_,_,_,hf⟩,⟨_,_,hc⟩,λA outer s3 H3 us vs3 Q3 E3 hr3 e3 g3 rv hl ht=>?_⟩;obtain ⟨hf3,_⟩:=e3.hok f _ (g3 _ _ hf);obtain ⟨hc3,_⟩:=e3.hok c _ (g3 _ _ hc);have hk:∀ b∈cs,H3 b=some (.frz (g b) (.own b)):=λb hb=>g3 _ _ (hcs b hb);have hg:∀ b∈cs,s3.heap.get? b=some (g b):=λb hb=>(e3.hok b _ (hk b hb)).1;have lu:us.length=n:=by rw [<- rv.length];exact hl
 have e4:Env0 P w K mg base A outer s3 (xQ cs H3):=e3.off λb hb=>⟨_,hk b hb⟩;have hfr:∀ b∈cs,b∉frs outer:=λb hb z=>by
  have:=e3.frf b z;rw [hk b hb] at this;cases this
 refine codeAny_mono (Bv (vs:=vs3) (cv:=cv) (t:=tb) (E:=E3) (Q:=λv H'=>(∀ b∈cs,H' b=none)->Q3 v (qh cs g H')) S (by have:=hr3.dp;omega) hr3.hd e4 hf3 ⟨c,oc,vs,tq,rfl,hc3,hd,hv⟩ (hbd _ _ lu) (hl.trans hn.symm) rv C.inj (λx c e=>?_) C.len (λi x v e1 e2=>?_) (hb A outer s3 (xQ cs H3) (hr3.deeper _)) ht) λr s' z=>?_
 ·obtain ⟨h1,v,h2⟩:=C.sub x c e;exact ⟨⟨v,_,hg c h1,h2⟩,vD h1⟩
 ·obtain ⟨h1,c,u,h2,h3,h4⟩:=C.val i x v e1 e2;exact ⟨h1,c,u,h2,⟨_,hg c (C.sub x c h2).1,h3⟩,h4⟩
 ·cases r with
  |error e=>exact z.elim
  |ok fl =>
   cases fl with
   |ret u=>exact CE.on hk hg hfr z
   |next=>exact False.elim z
   |brk=>exact False.elim z
   |cont=>exact False.elim z
def Zq (f c:Addr)(cs:List Addr)(H:Hp):Hp:=λb=>if b=f∨b=c∨b∈cs then H b else none
section
variable {X:Cx}
def JK (φ:Hp->Addr->Addr->Prop):TE:=λ_ H Q=>∀(f c:Addr)(H':Hp),(∀ b o,H b=some o->H' b=some o)->φ H' f c->Q (.ref f) H'
theorem RH {lp:Pos}{Pt:Addr}{pt:Array Value}{wt:List (Pos×Str)}(hP:(Pt,pt,wt)∈TABS)(hw:(lp,X.env.qual ++ "<lambda>")∈wt)(hu:∀ p∈wt,(p.1.line==lp.line&&p.1.col==lp.col)=true->p.2=X.env.qual ++ "<lambda>")(hcode:X.env.code = .ref c)(hC:∀ h:Heap,X.K.In h->PySem.W.CodeHd h c Pt)(hcl:closureFor scope X.env=pure clos:=by rfl)(hdef:defaultsOf params X.env=([],[]):=by rfl):PE X (.Lambda params body scope lp) (JK (wQ (X.env.qual ++ "<lambda>") params body scope clos ((X.mg "__name__").getD .none))):=by intro pins s σ H Q I h;exact Bw I hP hw hu hcode (hC _ I.mod.kin) hcl hdef λf c' oc vs tq ctv H' h' tk I2 g _ hf hc hd hv=>⟨.ref f,H',I2,rfl,h f c' H' g ⟨oc,_,_,vs,tq,ctv,hf,hc,hd,hv⟩⟩
def Zm (P:Program)(w:World)(K:Fg)(mg:Str->Option Value)(base:Heap)(k n:Nat)(fi:List Nat)(φ:Hp->Addr->Addr->Prop)(tb:TE)(sp:Sp)(t:TA):TE:=λσ H Q=>t σ H λvs H1=>∃ cv:List V,(fi.map λi=>σ[i]?)=cv.map (λv=>some (some v)) /\
 ∀(cs:List Addr)(g:Addr->Obj),(∀ b∈cs,H1 b=none)->(∀ f c,φ H1 f c->JT P w K mg base k n tb cv cs g (Zq f c cs (qh cs g H1)) f c)->sp vs (qh cs g H1) (λv H'=>(∀ b∈cs,H' b=some (.frz (g b) (.own b)))->Q v (xQ cs H')) E0
theorem RE {p:Pos}{sp:Sp}{pps:List Str}{kk j k:Nat}{lps fr:List Str}{fi:List Nat}(c:Fn X.prog X.w X.K X.mg X.base kk x pps sp)(hr:Room j X.A)(hj:kk<=j)(hg:Gl X x)(ha:PA X (e::es) t)(S:wR lps fr scope)(hn:lps.length=n)(LF:Zw X scope clos fr fi)(hfn:∀ y∈fr,X.fn y=true)(hall:∀ y c,clos.lookup y=some c->y∈fr)(hb:∀ (f c':Addr) (A:Around) (outer:List Env) (s:Shared) (H:Hp),Room k (A.deeper (PySem.W.envX (X.env.qual ++ "<lambda>") scope s.heap.objs.size f (.ref c') clos))->PE (vk X.prog X.w X.K X.mg X.base (lps++fr) (X.env.qual ++ "<lambda>") scope f c' clos A outer s H) body tb)(hbd:∀ (qual:Str) (pm cdv ctv:Value) (us:List Value),us.length=n->bindArgs (PySem.W.kla_fn "<lambda>" qual params body scope clos pm cdv ctv) ⟨us,[]⟩=pure (lps.zip us))(hdb:(x==("__debug__":Str))=false:=by decide)(he:starEach (e::es) X.env=(false,eval e X.env)::starEach es X.env:=by rfl)(hpl:(backTo pos (starEach es X.env)).any (·.1)=false:=by rfl):PE X (.Call (.Name x p) (e::es) [] pos) (Zm X.prog X.w X.K X.mg X.base k n fi (wQ (X.env.qual ++ "<lambda>") params body scope clos ((X.mg "__name__").getD .none)) tb sp t):=by
 obtain ⟨f,fd,F,hm,hk,hbi⟩:=c.ex;intro pins s σ H Q I h;refine wpAny_Call_Name_kw (ZZ I hg hm ?_ hdb);refine PySem.W.callWith_K (h₀:=X.base) I.ok.mod.kin hk (v6 (ha pos pins s σ H _ I h) λus s1 ⟨vs,H1,I1,r,cv,hcv,q⟩=>⟨I1.kIn,?_⟩) he hpl
 let g:Addr->Obj:=λb=>(s1.heap.get? b).getD (PySem.W.instObj 0 0)
 let cs:List Addr:=fr.filterMap λy=>clos.lookup y
 have hcs:∀ b∈cs,∃ y,y∈fr/\clos.lookup y=some b:=λb hb=>by
  obtain ⟨y,h1,h2⟩:=ue.mp hb;exact ⟨y,h1,h2⟩
 have gof:∀{b:Addr}{o:Obj},s1.heap.get? b=some o->g b=o:=λ{b o} e=>by show (s1.heap.get? b).getD _=o;rw [e];rfl
 have gat:∀ b∈cs,s1.heap.get? b=some (g b):=λb hb=>by
  obtain ⟨y,_,h2⟩:=hcs b hb;obtain ⟨v,o,ho,_⟩:=I1.cell y b (LF.sub y b h2);rw [gof ho];exact ho
 have hno:∀ b∈cs,H1 b=none:=λb hb=>by
  obtain ⟨y,_,h2⟩:=hcs b hb;exact I1.freeC y b (LF.sub y b h2)
 have hlow:∀ b∈cs,X.s₀.heap.objs.size<=b:=λb hb=>by
  obtain ⟨y,h1,h2⟩:=hcs b hb;exact I1.ok.cab y b (hfn y h1) (LF.sub y b h2)
 have hbs:∀ b∈cs,X.base.get? b=none:=λb hb=>uo (yj I1.ok.bsz (hlow b hb));have hfr:∀ b∈cs,b∉frs X.stack:=λb hb z=>by
  obtain ⟨y,h1,h2⟩:=hcs b hb;rcases yJ.mp (I1.stkSub b z) with e|z
  ·exact I1.cne y b (LF.sub y b h2) e
  ·obtain ⟨_,o,ho,_⟩:=I1.ok.funs.mem z;exact absurd (yF (yQ ho) (hlow b hb)) (uF _)
 have lcv:cv.length=fr.length:=by have z:=congrArg List.length hcv;rw [yZ,yZ] at z;rw [<- z,LF.len]
 have CO:Ut clos scope fr cv cs g:=by
  refine ⟨λy z d e1 e2=>I1.ok.inj y z d (LF.sub y d e1) (LF.sub z d e2),λy d e=>⟨ue.mpr ⟨y,hall y d e,e⟩,?_⟩,lcv,λj y v e1 e2=>?_⟩
  ·obtain ⟨v,o,ho,hd⟩:=I1.cell y d (LF.sub y d e);exact ⟨v,by rw [gof ho];exact hd⟩
  ·have hj:j<fi.length:=by
    rw [LF.len];rcases uj j fr.length with q|q
    ·exact q
    ·rw [uW q] at e1;cases e1
   obtain ⟨n1,n2,n3,n4⟩:=LF.at_ j y fi[j] e1 (yY hj);have es:σ[fi[j]]?=some (some v):=by have z:=congrArg (λl=>l[j]?) hcv;simp only [yP,e2,yY hj,uM,Option.some.injEq] at z;exact z
   obtain ⟨m,_,lk⟩:=I1.loc;obtain ⟨u,rv,look⟩:=lk fi[j] y v n1 es n4;refine ⟨n3,?_⟩;rcases look with ⟨q,_⟩|⟨_,d,q1,o,q2,q3⟩
   ·rw [n2] at q;cases q
   ·exact ⟨d,u,LF.has y d (yh e1) q1,by rw [gof q2];exact q3,rv⟩
 have out:∀ b o,H1 b=some o->qh cs g H1 b=some o:=λb o e=>by rw [qJ (λz=>by rw [hno b z] at e;cases e)];exact e
 have q1:=q cs g hno λf c R=>by
  obtain ⟨oc,u1,u2,ws,tq,ctv,z1,z2,z3,z4⟩:=R;exact Nn ⟨oc,u1,u2,ws,tq,ctv,(if_pos (.inl rfl)).trans (out _ _ z1),(if_pos (.inr (.inl rfl))).trans (out _ _ z2),z3,z4⟩ (λb hb=>(if_pos (.inr (.inr hb))).trans (jU hb)) CO S hn (λA outer s H hr=>hb f c A outer s H hr) λctv us hl=>hbd _ _ _ ctv us hl
 have hl:us.length=pps.length:=by rw [<- r.length];exact F.len _ _ _ _ q1
 have hl0:(us++[]).length=pps.length:=by rw [yp];exact hl
 have bt:=hbi s1 us I1.kIn hl0;rw [yp] at bt;refine wpAny_call (codeAny_mono (F.run X.A X.stack s1 (qh cs g H1) ⟨us,[]⟩ us vs _ E0 (hr.mono hj) (I1.env0.on hno gat hbs hfr) bt r q1) λr s' hq=>?_);cases r with
 |error e=>exact hq.elim
 |ok fl =>
  cases fl with
  |ret u=>exact I1.after (CE.off hno gat hq)
  |next=>exact False.elim hq
  |brk=>exact False.elim hq
  |cont=>exact False.elim hq
end
end L2
namespace Mi
open PySem L2
variable{tb tl:TE}{a b kb:M}{ws xs zs:List PV}{H H0:Hp}{f:Addr}{m:List PV->Option PV}{as:MA}{ε:ME}{r:Option PV}{ta:TA}{fi:List Nat}{x y:PV}{ψ:Hp->Addr->Addr->Prop}{P:Program}{w:World}{K:Fg}{mg:Str->Option Value}{base:Heap}{q:LQ}{n:Nat}
mutual
def xI:PV->Bool
 | .at _=>true
 | .tup xs=>zo xs
 | .lst xs=>zo xs
 | .dk _ xs=>zo xs
 | .fk _ xs=>zo xs
 | .ob _ _ xs=>zo xs
 | .op _=>false
def zo:List PV->Bool
 |[]=>true
 |x::xs=>xI x&&zo xs
end
mutual
theorem Rep.nop {H H':Hp}(g:∀ b o,H b=some o->(∀ o' y,o ≠ .frz o' (.own y))->H' b=some o):∀{x:PV}{v:V},xI x=true->Rep H x v->Rep H' x v
 | .at u,v,_,r=>rep_at.mpr (rep_at.mp r)
 | .tup xs,v,p,r=>by
  obtain ⟨a,vs,e,h,rs⟩:=rep_tup.mp r;unfold xI at p;exact rep_tup.mpr ⟨a,vs,e,g _ _ h (λ_ _ z=>nomatch z),Reps.nop g p rs⟩
 | .lst xs,v,p,r=>by
  obtain ⟨a,vs,e,h,rs⟩:=rep_lst.mp r;unfold xI at p;exact rep_lst.mpr ⟨a,vs,e,g _ _ h (λ_ _ z=>nomatch z),Reps.nop g p rs⟩
 | .dk ks xs,v,p,r=>by
  obtain ⟨a,kvs,e,h,h2,rs⟩:=rep_dk.mp r;unfold xI at p;exact rep_dk.mpr ⟨a,kvs,e,g _ _ h (λ_ _ z=>nomatch z),h2,Reps.nop g p rs⟩
 | .fk ks xs,v,p,r=>by
  obtain ⟨a,o,kvs,e,h,h2,rs⟩:=rep_fk.mp r;unfold xI at p;exact rep_fk.mpr ⟨a,o,kvs,e,g _ _ h (λ_ _ z=>by injection z with _ z;cases z),h2,Reps.nop g p rs⟩
 | .ob C ns xs,v,p,r=>by
  obtain ⟨a,dx,fs,e,h,h2,rs⟩:=rep_ob.mp r;unfold xI at p;exact rep_ob.mpr ⟨a,dx,fs,e,g _ _ h (λ_ _ z=>nomatch z),h2,Reps.nop g p rs⟩
 | .op _,_,p,_=>by unfold xI at p;cases p
theorem Reps.nop {H H':Hp}(g:∀ b o,H b=some o->(∀ o' y,o ≠ .frz o' (.own y))->H' b=some o):∀{xs:List PV}{vs:List V},zo xs=true->Reps H xs vs->Reps H' xs vs
 |[],vs,_,r=>reps_nil.mpr (reps_nil.mp r)
 |x::xs,vs,p,r=>by
  unfold zo at p;rw [yi] at p;obtain ⟨v,r',e,r1,r2⟩:=reps_cons.mp r;exact reps_cons.mpr ⟨v,r',e,Rep.nop g p.1 r1,Reps.nop g p.2 r2⟩
end
def QY (P:Program)(w:World)(K:Fg)(mg:Str->Option Value)(base:Heap)(k:Nat)(m:List PV->Option PV):Hp->V->Prop:=λH v=>∃ f,v = .ref f/\FrzFn H f /\
 ∀(A:Around)(outer:List Env)(s:Shared)(H2 Hs:Hp)(us:List Value)(vs:List V)(xs:List PV)(y:PV)(Q:VK)(E:XK),Room k A->Env0 P w K mg base A outer s H2->Same H Hs->Same Hs H2->Vals vs us->Reps Hs xs vs->m xs=some y ->
  (∀ v Hs' H',Ext Hs H2 Hs' H'->Rep Hs' y v->Q v H')->codeAny (model P w) A (.call (.ref f) ⟨us,[]⟩) (CR v9 outer P w H2 s Q E) s
def jP (n:Nat)(kb:M)(ws:List PV):List PV->Option PV:=λxs=>if xs.length=n/\zo (xs++ws)=true then kb ((xs++ws).map .sh) else none
section
variable {P:Program}{w:World}{K:Fg}{mg:Str->Option Value}{base:Heap}{k n i:Nat}
theorem Reps.app {H:Hp}:∀{xs ys:List PV}{vs ws:List V},Reps H xs vs->Reps H ys ws->Reps H (xs++ys) (vs++ws)
 |[],ys,vs,ws,r,q=>by cases reps_nil.mp r;exact q
 |x::xs,ys,vs,ws,r,q=>by
  obtain ⟨v,r',rfl,r1,r2⟩:=reps_cons.mp r;exact .cons r1 (Reps.app r2 q)
theorem No [sb:SemE tb kb]{cv:List V}{cs:List Addr}{g:Addr->Obj}{c:Addr}(L:JT P w K mg base k n tb cv cs g H0 f c)(s0:Same H0 H)(hcs:∀ b∈cs,H b=some (.frz (g b) (.own b)))(rw':Reps H ws cv):QY P w K mg base (k+1) (jP n kb ws) H (.ref f):=by
 obtain ⟨F,_,h⟩:=L;refine ⟨f,rfl,F.mono s0,λA outer s H2 Hs us vs xs y Q E hr e0 g1 g2 rv r e q=>?_⟩;unfold jP at e;split at e
 ·rename_i hl;have c1:∀ b∈cs,Hs b=some (.frz (g b) (.own b)):=λb hb=>g1 _ _ (hcs b hb);have c2:∀ b∈cs,H2 b=some (.frz (g b) (.own b)):=λb hb=>g2 _ _ (c1 b hb);have sm:Same (xQ cs Hs) (xQ cs H2):=λb o z=>by
   by_cases hb:b∈cs
   ·rw [vD hb] at z;cases z
   ·rw [qv hb] at z ⊢;exact g2 _ _ z
  have rr:Reps (xQ cs Hs) (xs++ws) (vs++cv):=Reps.nop (λb o z hz=>by
   rw [qv (λhb=>by rw [c1 b hb] at z;cases z;exact hz _ _ rfl)];exact z) hl.2 (Reps.app r (rw'.mono g1))
  refine h A outer s H2 us vs Q E hr e0 (λb o z=>g2 _ _ (g1 _ _ (s0 _ _ z))) rv (r.length.trans hl.1) (sb.h e (TJ sm rr) λv Hs' H' x rv hno=>?_);have sn:∀ b∈cs,Hs' b=none:=λb hb=>by
   cases z:Hs' b with
   |none=>rfl
   |some o=>have:=x.s3 _ _ z;rw [hno b hb] at this;cases this
  refine q v (qh cs g Hs') (qh cs g H') ⟨λb o z=>?_,λb o z=>?_,λb o z=>?_,λb z1 z2=>?_⟩ (rv.mono λb o z=>by rw [qJ (λhb=>by rw [sn b hb] at z;cases z)];exact z)
  ·by_cases hb:b∈cs
   ·rw [c1 b hb] at z;rw [jU hb];exact z
   ·rw [qJ hb];exact x.s1 _ _ (by rw [qv hb];exact z)
  ·by_cases hb:b∈cs
   ·rw [c2 b hb] at z;rw [jU hb];exact z
   ·rw [qJ hb];exact x.s2 _ _ (by rw [qv hb];exact z)
  ·by_cases hb:b∈cs
   ·rw [jU hb] at z ⊢;exact z
   ·rw [qJ hb] at z ⊢;exact x.s3 _ _ z
  ·have hb:b∉cs:=λhb=>by rw [c1 b hb] at z2;cases z2
   rw [qJ hb];exact x.s4 b (by rw [qv hb];exact z1) (by rw [qv hb];exact z2)
 ·cases e
noncomputable def Qj (P:Program)(w:World)(K:Fg)(mg:Str->Option Value)(base:Heap)(k:Nat)(m:List PV->Option PV)(i:Nat)(as:MA):M:=λε=>open Classical in if ε[i]?=some (.sh (.op (QY P w K mg base k m))) then (as ε).bind m else none
theorem MO (hi:ε[i]?=some (.sh (.op (QY P w K mg base k m))))(h1:as ε=some xs)(h:m xs=r):Qj P w K mg base k m i as ε=r:=by unfold Qj;rw [if_pos hi,h1];exact h
instance semCallW [sa:xu ta as]:SemE (Zn P w K mg base k i ta) (Qj P w K mg base k m i as) where
 h:=λe Hs0 H0 Hs H σ rs Q q=>by
  unfold Qj at e;split at e
  ·rename_i hi;obtain ⟨xs,ex,e1⟩:=bind_some e;obtain ⟨v,hv,rv⟩:=rs.sh i _ hi;obtain ⟨H'',s1,f,rfl,F,h⟩:=rep_op.mp rv;refine ⟨f,hv,F.mono λb o z=>rs.sub b o (s1 b o z),sa.h ex rs λvs Hs1 H1 x1 r1=>⟨x1.s2,λA outer s us hr e0 ru=>?_⟩⟩;exact h A outer s H1 Hs1 us vs xs _ Q E0 hr e0 (λb o z=>x1.s1 b o (s1 b o z)) x1.s3 ru r1 e1 λv Hs' H' x r=>q v _ _ (x1.trans x) r
  ·cases e
def wJ (ε:ME):List Nat->Option (List PV)
 |[]=>some []
 |i::l=>match ε[i]? with
  |some (.sh x)=>(wJ ε l).bind λxs=>some (x::xs)
  |_=>none
theorem Cj {Hs0 H0 Hs H:Hp}{σ:St}{ε:ME}(rs:RS Hs0 H0 Hs H σ ε):∀{fi:List Nat}{ws:List PV},wJ ε fi=some ws->∃ cv:List V,(fi.map λi=>σ[i]?)=cv.map (λv=>some (some v))/\Reps Hs ws cv
 |[],ws,h=>by cases h;exact ⟨[],rfl,.nil⟩
 |i::fi,ws,h=>by
  unfold wJ at h;split at h
  ·rename_i x hx;obtain ⟨xs,e,h⟩:=bind_some h;cases h;obtain ⟨cv,e1,r1⟩:=Cj rs e;obtain ⟨v,hv,rv⟩:=rs.sh i _ hx;exact ⟨v::cv,by rw [yO,yO,e1,hv],.cons rv r1⟩
  ·cases h
def ZK (φ:List PV->Hp->V->Prop)(fi:List Nat)(m:List PV->Option PV)(a b:M):MS:=λε=>(a ε).bind λx=>(b ε).bind λy=>(wJ ε fi).bind λws=>(m [x,y,.op (φ ws)]).bind λz=>match z with
 | .lst zs=>if jz zs=true then some (.rt (.lst zs)) else none
 |_=>none
theorem MU {φ:List PV->Hp->V->Prop}(h1:a ε=some x)(h2:b ε=some y)(hw:wJ ε fi=some ws)(h3:m [x,y,.op (φ ws)]=some (.lst zs))(h4:jz zs=true):ZK φ fi m a b ε=some (.rt (.lst zs)):=by unfold ZK;rw [h1,yG,h2,yG,hw,yG,h3,yG];exact if_pos h4
theorem Tz {sp:Sp}{ta:TE}[sl:SemE tl kb][sa:SemE ta a][sb:SemE tb b](hsp:∀ vs H Q E,p8 m vs H Q E->sp vs H Q E){o:Out}(e:ZK (λws=>QY P w K mg base (k+1) (jP n kb ws)) fi m a b ε=some o){Hs0 Hs:Hp}{σ:St}(rs:RS Hs0 H0 Hs H σ ε){D:ze}(q:OutK true Hs0 H0 D o):wL (Zm P w K mg base k n fi ψ tl sp (i5 ta (i5 tb (i5 (JK ψ) qt)))) D σ H:=by
 obtain ⟨x,ex,e⟩:=bind_some e;obtain ⟨y,ey,e⟩:=bind_some e;obtain ⟨ws,ew,e⟩:=bind_some e;obtain ⟨z,ez,e⟩:=bind_some e;split at e
 ·rename_i zs;split at e
  ·rename_i hp;cases e;refine sa.h ex rs λv1 Hs1 H1 x1 r1=>sb.h ey (rs.go x1) λv2 Hs2 H2 x2 r2=>λf c H3 g R=>?_;obtain ⟨cv,ecv,rcv⟩:=Cj ((rs.go x1).go x2) ew;refine ⟨cv,ecv,λcs gg hno hL=>?_⟩;have L:=hL f c R;obtain ⟨⟨o1,o2,o3,o4,o5,hf⟩,⟨oc,u,hc⟩,_⟩:=id L;have tf:Zq f c cs (qh cs gg H3) f=qh cs gg H3 f:=if_pos (.inl rfl);have tc:Zq f c cs (qh cs gg H3) c=qh cs gg H3 c:=if_pos (.inr (.inl rfl));rw [tf] at hf;rw [tc] at hc
   let Hs3:Hp:=λb=>if b=f∨b=c∨b∈cs then qh cs gg H3 b else Hs2 b
   have out:∀ b o,H3 b=some o->qh cs gg H3 b=some o:=λb o e=>by rw [qJ (λz=>by rw [hno b z] at e;cases e)];exact e
   have g3:∀ b o,Hs2 b=some o->qh cs gg H3 b=some o:=λb o h=>out _ _ (g b o (x2.s3 b o h));have s3:Same Hs3 (qh cs gg H3):=λb o h=>by
    have h:(if b=f∨b=c∨b∈cs then qh cs gg H3 b else Hs2 b)=some o:=h;split at h
    ·exact h
    ·exact g3 b o h
   have s23:Same Hs2 Hs3:=λb o h=>by
    show (if b=f∨b=c∨b∈cs then qh cs gg H3 b else Hs2 b)=some o;split
    ·exact g3 b o h
    ·exact h
   have st:Same (Zq f c cs (qh cs gg H3)) Hs3:=λb o h=>by
    unfold Zq at h;show (if b=f∨b=c∨b∈cs then qh cs gg H3 b else Hs2 b)=some o;split at h
    ·rename_i hb;rw [if_pos hb];exact h
    ·cases h
   have f3:Hs3 f=some (.frz ⟨o1,o2,.func o3,o4⟩ o5):=(if_pos (.inl rfl)).trans hf;have c3:Hs3 c=some (.frz oc u):=(if_pos (.inr (.inl rfl))).trans hc;have k3:∀ b∈cs,Hs3 b=some (.frz (gg b) (.own b)):=λb hb=>(if_pos (.inr (.inr hb))).trans (jU hb);refine hsp _ _ _ _ ⟨Hs3,[x,y,.op _],.lst zs,s3,.cons (r1.mono (x2.s1.trans s23)) (.cons (r2.mono s23) (.one (rep_op.mpr ⟨Hs3,λ_ _ h=>h,No L st k3 (rcv.mono s23)⟩))),ez,λp Hs4 H4 x4 na ns tp hfin=>?_⟩
   let Hs5:Hp:=λb=>if (b=f∨b=c∨b∈cs)/\Hs2 b=none then none else Hs4 b
   have nc:∀ b o,Hs2 b=some o->b∉cs:=λb o h z=>by have:=g b o (x2.s3 b o h);rw [hno b z] at this;cases this
   have x5:Ext Hs2 H2 Hs5 (xQ cs H4):=by
    refine ⟨λb o h=>?_,λb o h=>?_,λb o h=>?_,λb h z=>?_⟩
    ·show (if _ then _ else _)=_;rw [if_neg (λy=>by rw [y.2] at h;cases h)];exact x4.s1 b o (s23 b o h)
    ·have h3:=g b o h;rw [qv (λz=>by rw [hno b z] at h3;cases h3)];exact x4.s2 b o (out b o h3)
    ·have h:(if (b=f∨b=c∨b∈cs)/\Hs2 b=none then none else Hs4 b)=some o:=h;split at h
     ·cases h
     ·rename_i hn;rw [qv (λz=>hn ⟨.inr (.inr z),by
       cases hh:Hs2 b with
       |none=>rfl
       |some o=>exact absurd z (nc b o hh)⟩)]
      exact x4.s3 b o h
    ·show (if _ then _ else _)=_;by_cases hb:b=f∨b=c∨b∈cs
     ·rw [if_pos ⟨hb,z⟩]
     ·rw [if_neg (λy=>hb y.1)];refine x4.s4 b (λy=>h ?_) ?_
      ·cases hh:H2 b with
       |none=>rfl
       |some o=>rw [out b o (g b o hh)] at y;cases y
      ·show (if _ then _ else _)=_;rw [if_neg hb];exact z
   have n2:H2 p=none:=by
    cases hh:H2 p with
    |none=>rfl
    |some o=>rw [out p o (g p o hh)] at na;cases na
   have pc:p∉cs:=λz=>by rw [jU z] at na;cases na
   refine q p Hs5 (xQ cs H4) (rs.ext.trans (x1.trans (x2.trans x5))) (rs.ext.s2.free (x1.s2.free (x2.s2.free n2))) ?_ ?_
   ·show (if _ then _ else _)=_;split
    ·rfl
    ·exact ns
   ·obtain ⟨vs,hv,rv⟩:=tp;refine ⟨vs,by rw [qv pc];exact hv,Reps.drop' (λb o h hn=>?_) hp rv⟩;show (if _ then _ else _)=_;rw [if_neg]
    ·exact h
    ·rintro ⟨rfl|rfl|hb,_⟩
     ·rw [x4.s1 _ _ f3] at h;cases h;exact hn _ _ rfl
     ·rw [x4.s1 _ _ c3] at h;cases h;exact hn _ _ rfl
     ·rw [x4.s1 _ _ (k3 b hb)] at h;cases h;exact hn _ _ rfl
  ·cases e
 ·cases e
end
def Zl (M:(List PV->Option PV)->List PV->Option PV):Sp:=λvs H Q E=>∃ mL,p8 (M mL) vs H Q E
theorem okOE {k:Nat}{fd:FuncData}{ps:List Str}{M:(List PV->Option PV)->List PV->Option PV}(h:∀ mL,FnOk P w K mg base v9 k f fd ps (p8 (M mL))):FnOk P w K mg base v9 k f fd ps (Zl M) :=
 ⟨λvs H Q E ⟨mL,z⟩=>(h mL).len vs H Q E z,λA outer s H args us vs Q E hr e0 b r ⟨mL,z⟩=>(h mL).run A outer s H args us vs Q E hr e0 b r z⟩
abbrev QZ (q:LQ)(k:Nat)(m:List PV->Option PV):Hp->V->Prop:=QY q.P q.w q.K q.mg q.base k m
noncomputable def ZI (q:LQ)(k:Nat)(m:List PV->Option PV)(i:Nat)(as:MA):M:=Qj q.P q.w q.K q.mg q.base k m i as
theorem MP {k i:Nat}(hi:ε[i]?=some (.sh (.op (QZ q k m))))(h1:as ε=some xs)(h:m xs=r):ZI q k m i as ε=r:=MO hi h1 h
instance FD {k i:Nat}[sa:xu ta as]:SemE (Zn P w K mg base k i ta) (ZI (LQ.mk P w K mg base) k m i as) where
 h:=λe _ _ _ _ _ rs _ q=>SemE.h (te:=Zn P w K mg base k i ta) (f:=Qj P w K mg base k m i as) e rs q
def Xh (q:LQ)(k n:Nat)(kb:M)(fi:List Nat)(M:(List PV->Option PV)->List PV->Option PV)(a b:Mi.M):MS:=λε=>(wJ ε fi).bind λws=>ZK (λws=>QZ q k (jP n kb ws)) fi (M (jP n kb ws)) a b ε
theorem MV {k:Nat}{kb:M}{M:(List PV->Option PV)->List PV->Option PV}{a b:Mi.M}(h1:a ε=some x)(h2:b ε=some y)(hw:wJ ε fi=some ws)(h3:M (jP n kb ws) [x,y,.op (QZ q k (jP n kb ws))]=some (.lst zs))(h4:jz zs=true):Xh q k n kb fi M a b ε=some (.rt (.lst zs)):=by unfold Xh;rw [hw,yG];exact MU h1 h2 hw h3 h4
instance FE {k:Nat}{ta:TE}{kb a b:M}{M:(List PV->Option PV)->List PV->Option PV}[sl:SemE tl kb][sa:SemE ta a][sb:SemE tb b]:qd true (wL (Zm P w K mg base k n fi ψ tl (Zl M) (i5 ta (i5 tb (i5 (JK ψ) qt))))) (Xh (LQ.mk P w K mg base) (k+1) n kb fi M a b) where
 h:=λ{ε o} e Hs0 H0 Hs H σ rs D q=>by
  unfold Xh at e;obtain ⟨ws,ew,e⟩:=bind_some e;exact Tz (λvs H Q E z=>⟨_,z⟩) e rs q
end Mi
namespace L2
open PySem PySem.Spec PySem.Calls PyProof.Rows Mi
variable{X:Cx}{P:Program}{w:World}{K:Fg}{mg:Str->Option Value}{base:Heap}{x:Str}{p pos:Pos}{sp:Sp}{lps pps:List Str}{j kk n:Nat}{body:Expr}{tb:TE}{params:Arguments}{scope:Scope}{clos:List (Str×Addr)}{fi:List Nat}
theorem RF {e:Expr}{es:List Expr}{t:TA}{k:Nat}{fr:List Str}(z:LQ.mk X.prog X.w X.K X.mg X.base=LQ.mk P w K mg base)(c:Fn X.prog X.w X.K X.mg X.base kk x pps sp)(hr:Room j X.A)(hj:kk<=j)(hg:Gl X x)(ha:PA X (e::es) t)(S:wR lps fr scope)(hn:lps.length=n)(LF:Zw X scope clos fr fi)(hfn:∀ y∈fr,X.fn y=true)(hall:∀ y c,clos.lookup y=some c->y∈fr)(hb:∀ (f c':Addr) (A:Around) (outer:List Env) (s:Shared) (H:Hp),Room k (A.deeper (PySem.W.envX (X.env.qual ++ "<lambda>") scope s.heap.objs.size f (.ref c') clos))->PE (vk X.prog X.w X.K X.mg X.base (lps++fr) (X.env.qual ++ "<lambda>") scope f c' clos A outer s H) body tb)(hbd:∀ (qual:Str) (pm cdv ctv:Value) (us:List Value),us.length=n->bindArgs (PySem.W.kla_fn "<lambda>" qual params body scope clos pm cdv ctv) ⟨us,[]⟩=pure (lps.zip us))(hdb:(x==("__debug__":Str))=false:=by decide)(he:starEach (e::es) X.env=(false,eval e X.env)::starEach es X.env:=by rfl)(hpl:(backTo pos (starEach es X.env)).any (·.1)=false:=by rfl):PE X (.Call (.Name x p) (e::es) [] pos) (Zm P w K mg base k n fi (wQ (X.env.qual ++ "<lambda>") params body scope clos ((X.mg "__name__").getD .none)) tb sp t):=by injection z with z1 z2 z3 z4 z5;have q:=RE (X:=X) (p:=p) (pos:=pos) c hr hj hg ha S hn LF hfn hall hb hbd hdb he hpl;rw [z1,z2,z3,z5] at q;rw [z4] at q ⊢;exact q
theorem RG {lp:Pos}{e1 e2:Expr}{t1 t2:TE}{k:Nat}{fr:List Str}{cc Pt:Addr}{pt:Array Value}{wt:List (Pos×Str)}(z:LQ.mk X.prog X.w X.K X.mg X.base=LQ.mk P w K mg base)(c:Fn X.prog X.w X.K X.mg X.base kk x pps sp)(hr:Room j X.A)(hj:kk<=j)(hg:Gl X x)(h1:PE X e1 t1)(h2:PE X e2 t2)(hP:(Pt,pt,wt)∈TABS)(hw:(lp,X.env.qual ++ "<lambda>")∈wt)(hu:∀ p∈wt,(p.1.line==lp.line&&p.1.col==lp.col)=true->p.2=X.env.qual ++ "<lambda>")(hcode:X.env.code = .ref cc)(hC:∀ h:Heap,X.K.In h->PySem.W.CodeHd h cc Pt)(S:wR lps fr scope)(hn:lps.length=n)(LF:Zw X scope clos fr fi)(hfn:∀ y∈fr,X.fn y=true)(hall:∀ y c,clos.lookup y=some c->y∈fr)(hb:∀ (f c':Addr) (A:Around) (outer:List Env) (s:Shared) (H:Hp),Room k (A.deeper (PySem.W.envX (X.env.qual ++ "<lambda>") scope s.heap.objs.size f (.ref c') clos))->PE (vk X.prog X.w X.K X.mg X.base (lps++fr) (X.env.qual ++ "<lambda>") scope f c' clos A outer s H) body tb)(hbd:∀ (qual:Str) (pm cdv ctv:Value) (us:List Value),us.length=n->bindArgs (PySem.W.kla_fn "<lambda>" qual params body scope clos pm cdv ctv) ⟨us,[]⟩=pure (lps.zip us))(hcl:closureFor scope X.env=pure clos:=by rfl)(hdef:defaultsOf params X.env=([],[]):=by rfl)(hdb:(x==("__debug__":Str))=false:=by decide)(s1:starEach [e1,e2,.Lambda params body scope lp] X.env=(false,eval e1 X.env)::starEach [e2,.Lambda params body scope lp] X.env:=by rfl)(s2:starEach [e2,.Lambda params body scope lp] X.env=(false,eval e2 X.env)::starEach [.Lambda params body scope lp] X.env:=by rfl)(s3:starEach [.Lambda params body scope lp] X.env=(false,eval (.Lambda params body scope lp) X.env)::starEach [] X.env:=by rfl)(hpl:(backTo pos (starEach [e2,.Lambda params body scope lp] X.env)).any (·.1)=false:=by rfl):PE X (.Call (.Name x p) [e1,e2,.Lambda params body scope lp] [] pos) (Zm P w K mg base k n fi (wQ (X.env.qual ++ "<lambda>") params body scope clos ((X.mg "__name__").getD .none)) tb sp (i5 t1 (i5 t2 (i5 (JK (wQ (X.env.qual ++ "<lambda>") params body scope clos ((X.mg "__name__").getD .none))) qt)))) :=
 RF z c hr hj hg (w5 h1 (w5 h2 (w5 (RH hP hw hu hcode hC hcl hdef) u9 s3) s2) s1) S hn LF hfn hall hb hbd hdb s1 hpl
end L2
namespace L2
open PySem PySem.Spec PySem.Calls PyProof.Rows
variable{x:Str}{pos:Pos}
section
variable {X:Cx}{K:Fg}
theorem fW {ps:List Str}{sp:Sp}{k j:Nat}{e:Expr}{es:List Expr}{t:TA}{p:Pos}(c:Fn X.prog X.w X.K X.mg X.base k x ps sp)(hr:Room j X.A)(ha:PA X (e::es) t)(hj:k<=j:=by decide)(hg:Gl X x:=by rfl)(hdb:(x==("__debug__":Str))=false:=by decide)(he:starEach (e::es) X.env=(false,eval e X.env)::starEach es X.env:=by rfl)(hpl:(backTo pos (starEach es X.env)).any (·.1)=false:=by rfl):PE X (.Call (.Name x p) (e::es) [] pos) (ve sp [] E0 t):=qM c hr hj hg ha hdb he hpl
theorem gW (i:Nat)(hN:X.N.Nodup)(hi:X.N[i]?=some x:=by rfl)(hx:Loc X.env.scope x:=by first|exact Or.inl rfl|exact Or.inr rfl)(hf:X.fn x=true∨X.env.scope.names.lookup x=some .local:=by first|exact .inl rfl|exact .inr rfl):PG X (.Name x pos) (xh i):=m7 hN hi hx hf
end
end L2
namespace Lw
open PySem L2 Mi
variable{rss:List (List Int)}{h j n t:Nat}{α β:Type}{H:Hp}{m p pr:Nat×Nat}{r:List Int}{vs:List V}{Q:VK}{E:XK}{ε:ME}{l v way:Int}{as:List Addr}{σ:St}{xs:List PV}{u:V}{N R ps ss:List Str}{B4 D4 Ei J4:Tok}{Aa C P_l c_l:Addr}{p_l:Array Value}{q qual s:Str}{ks:List j6}{z:PV}{rows:Nat->List Str}{ms:List (Nat×Nat)}{As:LQ}{st:Stmt}{cd ct dc oc pm:Value}{an od:Option Addr}{sl:Array (Option Value)}
variable {P:Program}{w:World}{K:Fg}{mg:Str->Option Value}{base:Heap}{f:Addr}{fd:FuncData}
theorem l0:0<=lim:=by decide
theorem l1:1<=lim:=by decide
theorem l2:2<=lim:=by decide
theorem l3:3<=lim:=by decide
theorem l4:4<=lim:=by decide
theorem l5:5<=lim:=by decide
theorem l6:6<=lim:=by decide
theorem l7:7<=lim:=by decide
theorem l8:8<=lim:=by decide
theorem l9:9<=lim:=by decide
structure h8 (h:Nat)(rss:List (List Int)):Prop where
 len:rss.length=h+1
 row:∀ r∈rss,r.length=h/\∀ v∈r,0<=v/\v<10 ^ 30
def rin (rss:List (List Int))(f g:Int):Int:=((atI rss f).bind λr=>atI r g).getD 0
def qZ (rss:List (List Int)):Int->List Int->Int
 |_,[]=>0
 |f,h::r=>rin rss f h+qZ rss h r
theorem Ze (e:rss.length=h+1)(g:Int):rin rss (-1) g=rin rss (h:Int) g:=by
 unfold rin atI;rw [e];have e1:ixN (h+1) (-1)=some h:=by
  unfold ixN;rw [if_neg (by decide),if_pos (by omega)]
  congr 1
  omega
 have e2:ixN (h+1) (h:Int)=some h:=by
  unfold ixN;rw [if_pos (by omega),if_pos (by omega)]
  congr 1
 rw [e1,e2]
abbrev Wy:=Int×List Int
variable{T:List (List Wy)}{onw ws:List Wy}
def jr (a b:Wy):Wy:=if b.1<a.1 then b else a
def zU (a b:Wy):Wy:=(a.1+b.1,a.2++b.2)
def thr (ws:List Wy)(k:Nat)(onw:List Wy):List Wy:=List.zipWith (λw m=>jr w (zU (ws.getD k (0,[])) m)) ws onw
def xy (T:List (List Wy))(k:Nat):List (List Wy):=T.map λrow=>thr row k (T.getD k [])
def jf (row:List Int):List Wy:=row.mapIdx λi v=>(v,[(i:Int)])
def m6 (rss:List (List Int)):Nat->List (List Wy)
 |0=>rss.map jf
 |k+1=>xy (m6 rss k) k
def y9 (T:List (List Wy))(f g:Nat):Wy:=(T.getD f []).getD g (0,[])
def qu (rss:List (List Int))(h:Nat):List (List Int):=(m6 rss h).map λrow=>row.map (·.1)
structure Shp (h:Nat)(T:List (List Wy)):Prop where
 len:T.length=h+1
 row:∀ r∈T,r.length=h
theorem g9 {l:List α}{i:Nat}{d:α}(h:i<l.length):l.getD i d=l[i]:=by rw [yB,yY h];rfl
theorem Shp.rowAt (S:Shp h T){f:Nat}(hf:f<=h):(T.getD f []).length=h:=by
 have hl:f<T.length:=by have:=S.len;omega
 rw [g9 hl];exact S.row _ (yA hl)
theorem CM {k:Nat}(h:ws.length=onw.length):(thr ws k onw).length=ws.length:=by unfold thr;rw [List.length_zipWith,h,Nat.min_self]
theorem Shp.step (S:Shp h T){k:Nat}(hk:k<h):Shp h (xy T k):=by refine ⟨by unfold xy;rw [yZ];exact S.len,λr hr=>?_⟩;unfold xy at hr;obtain ⟨row,hm,rfl⟩:=yy.mp hr;have e1:=S.row row hm;rw [CM (by rw [e1,S.rowAt (by omega)]),e1]
theorem Qp (S:Shp h T){k f g:Nat}(hk:k<h)(hf:f<=h)(hg:g<h):y9 (xy T k) f g=jr (y9 T f g) (zU (y9 T f k) (y9 T k g)):=by
 have hl:f<T.length:=by have:=S.len;omega
 have hl2:f<(xy T k).length:=by unfold xy;rw [yZ];exact hl
 have e1:(xy T k).getD f []=thr (T.getD f []) k (T.getD k []):=by unfold xy;rw [g9 (by rw [yZ];exact hl),yb,g9 hl]
 have r1:=S.rowAt hf;have r2:=S.rowAt (f:=k) (by omega);unfold y9;rw [e1,g9 (by rw [CM (by rw [r1,r2])];omega),g9 (l:=T.getD f []) (i:=g) (by omega),g9 (l:=T.getD k []) (i:=g) (by omega)];unfold thr;rw [List.getElem_zipWith]
theorem Shp.start (G:h8 h rss):Shp h (m6 rss 0):=by refine ⟨by show (rss.map jf).length=_;rw [yZ];exact G.len,λr hr=>?_⟩;obtain ⟨row,hm,rfl⟩:=yy.mp hr;unfold jf;rw [List.length_mapIdx];exact (G.row row hm).1
theorem Shp.all {h:Nat}{rss:List (List Int)}(G:h8 h rss):∀ k,k<=h->Shp h (m6 rss k)
 |0,_=>Shp.start G
 |k+1,hk=>(Shp.all G k (by omega)).step (by omega)
theorem je (G:h8 h rss){f g:Nat}(hf:f<=h)(hg:g<h):rin rss (f:Int) (g:Int)=(rss.getD f []).getD g 0:=by
 have hl:f<rss.length:=by have:=G.len;omega
 have e1:atI rss (f:Int)=some rss[f]:=zg (yY hl);have hg2:g<rss[f].length:=by rw [(G.row _ (yA hl)).1];exact hg
 have e2:atI rss[f] (g:Int)=some rss[f][g]:=zg (yY hg2);unfold rin;rw [e1];show (atI rss[f] (g:Int)).getD 0=_;rw [e2,g9 hl,g9 hg2];rfl
theorem ZN (G:h8 h rss){f g:Nat}(hf:f<=h)(hg:g<h):y9 (m6 rss 0) f g=(rin rss (f:Int) (g:Int),[(g:Int)]):=by
 have hl:f<rss.length:=by have:=G.len;omega
 have hl2:f<(rss.map jf).length:=by rw [yZ];exact hl
 have hg2:g<rss[f].length:=by rw [(G.row _ (yA hl)).1];exact hg
 rw [je G hf hg];unfold y9;show ((rss.map jf).getD f []).getD g (0,[])=_;rw [g9 hl2,yb,g9 (by unfold jf;rw [List.length_mapIdx];exact hg2),g9 hl,g9 hg2];unfold jf;rw [List.getElem_mapIdx]
theorem PU (G:h8 h rss){f g:Nat}(hf:f<=h)(hg:g<h):0<=rin rss (f:Int) (g:Int):=by
 have hl:f<rss.length:=by have:=G.len;omega
 have hg2:g<rss[f].length:=by rw [(G.row _ (yA hl)).1];exact hg
 rw [je G hf hg,g9 hl,g9 hg2];exact ((G.row _ (yA hl)).2 _ (yA hg2)).1
theorem JR {rss:List (List Int)}:∀{xs ys:List Int}{f g:Int},xs.getLast?=some g->qZ rss f (xs++ys)=qZ rss f xs+qZ rss g ys
 |[],_,_,_,e=>by simp at e
 |[x],ys,f,g,e=>by
  have e':x=g:=by simpa using e
  subst e';show rin rss f x+qZ rss x ys=rin rss f x+0+qZ rss x ys;omega
 |x::y::r,ys,f,g,e=>by
  have q:=JR (rss:=rss) (xs:=y::r) (ys:=ys) (f:=x) (g:=g) (by simpa [List.getLast?_cons_cons] using e);show rin rss f x+qZ rss x (y::r++ys)=rin rss f x+qZ rss x (y::r)+qZ rss g ys;rw [q];omega
structure WayOk (rss:List (List Int))(h:Nat)(f g:Nat)(w:Wy):Prop where
 sum:w.1=qZ rss (f:Int) w.2
 last:w.2.getLast?=some (g:Int)
 ok:∀ x∈w.2,0<=x/\x<(h:Int)
structure FW (rss:List (List Int))(h k:Nat)(T:List (List Wy)):Prop where
 way:∀ f g,f<=h->g<h->WayOk rss h f g (y9 T f g)
 pos:∀ f g,f<=h->g<h->0<=(y9 T f g).1
 le:∀ f g,f<=h->g<h->(y9 T f g).1<=rin rss (f:Int) (g:Int)
 tri:∀ j f g,j<k->f<=h->g<h->(y9 T f g).1<=(y9 T f j).1+(y9 T j g).1
 len:∀ f g,f<=h->g<h->(y9 T f g).2.length<=2 ^ k
theorem Qx (a b:Wy):(jr a b=a/\a.1<=b.1)∨(jr a b=b/\b.1<a.1):=by
 unfold jr;by_cases h:b.1<a.1
 ·rw [if_pos h];exact .inr ⟨rfl,h⟩
 ·rw [if_neg h];exact .inl ⟨rfl,by omega⟩
theorem Nu (a b:Wy):(jr a b).1<=a.1/\(jr a b).1<=b.1:=by
 rcases Qx a b with ⟨e,q⟩|⟨e,q⟩
 ·rw [e];exact ⟨uT _,q⟩
 ·rw [e];exact ⟨Int.le_of_lt q,uT _⟩
theorem WayOk.join {f k g:Nat}{a b:Wy}(x:WayOk rss h f k a)(y:WayOk rss h k g b):WayOk rss h f g (zU a b):=by
 refine ⟨?_,?_,λz hz=>?_⟩
 ·show a.1+b.1=qZ rss f (a.2++b.2);rw [JR x.last,x.sum,y.sum]
 ·show (a.2++b.2).getLast?=_;rw [List.getLast?_append,y.last];rfl
 ·rcases uY.mp hz with q|q
  ·exact x.ok z q
  ·exact y.ok z q
theorem FW.start (G:h8 h rss):FW rss h 0 (m6 rss 0):=by
 refine ⟨λf g hf hg=>?_,λf g hf hg=>?_,λf g hf hg=>?_,λj f g hj=>absurd hj (by omega),λf g hf hg=>?_⟩
 ·rw [ZN G hf hg];refine ⟨?_,rfl,λx hx=>?_⟩
  ·show rin rss f g=rin rss f g+0;omega
  ·have e:x=(g:Int):=by simpa using hx
   rw [e];omega
 ·rw [ZN G hf hg];exact PU G hf hg
 ·rw [ZN G hf hg];exact uT _
 ·rw [ZN G hf hg];exact yW 1
theorem FW.step {k:Nat}(S:Shp h T)(x:FW rss h k T)(hk:k<h):FW rss h (k+1) (xy T k):=by
 have kl:k<=h:=by omega
 have toK:∀ f,f<=h->(y9 (xy T k) f k).1=(y9 T f k).1:=λf hf=>by
  rw [Qp S hk hf hk];rcases Qx (y9 T f k) (zU (y9 T f k) (y9 T k k)) with ⟨e,q⟩|⟨e,q⟩
  ·rw [e]
  ·have p:=x.pos k k kl hk;have q':(y9 T f k).1+(y9 T k k).1<(y9 T f k).1:=q;omega
 have ofK:∀ g,g<h->(y9 (xy T k) k g).1=(y9 T k g).1:=λg hg=>by
  rw [Qp S hk kl hg];rcases Qx (y9 T k g) (zU (y9 T k k) (y9 T k g)) with ⟨e,q⟩|⟨e,q⟩
  ·rw [e]
  ·have p:=x.pos k k kl hk;have q':(y9 T k k).1+(y9 T k g).1<(y9 T k g).1:=q;omega
 have bound:∀ f g,f<=h->g<h->(y9 (xy T k) f g).1<=(y9 T f g).1/\(y9 (xy T k) f g).1<=(y9 T f k).1+(y9 T k g).1:=λf g hf hg=>by
  rw [Qp S hk hf hg];exact Nu _ _
 have alt:∀ f g,f<=h->g<h->(y9 (xy T k) f g).1=(y9 T f g).1∨(y9 (xy T k) f g).1=(y9 T f k).1+(y9 T k g).1:=λf g hf hg=>by
  rw [Qp S hk hf hg];rcases Qx (y9 T f g) (zU (y9 T f k) (y9 T k g)) with ⟨e,q⟩|⟨e,q⟩
  ·rw [e];exact .inl rfl
  ·rw [e];exact .inr rfl
 refine ⟨λf g hf hg=>?_,λf g hf hg=>?_,λf g hf hg=>uG (bound f g hf hg).1 (x.le f g hf hg),λj f g hj hf hg=>?_,λf g hf hg=>?_⟩
 ·rw [Qp S hk hf hg];rcases Qx (y9 T f g) (zU (y9 T f k) (y9 T k g)) with ⟨e,_⟩|⟨e,_⟩
  ·rw [e];exact x.way f g hf hg
  ·rw [e];exact (x.way f k hf hk).join (x.way k g kl hg)
 ·rcases alt f g hf hg with e|e
  ·rw [e];exact x.pos f g hf hg
  ·rw [e];have p1:=x.pos f k hf hk;have p2:=x.pos k g kl hg;omega
 ·by_cases hjk:j=k
  ·subst hjk;rw [toK f hf,ofK g hg];exact (bound f g hf hg).2
  ·have hj':j<k:=by omega
   have jl:j<=h:=by omega
   have jh:j<h:=by omega
   have b:=bound f g hf hg;have t1:=x.tri j f g hj' hf hg;have t2:=x.tri j f k hj' hf hk;have t3:=x.tri j k g hj' kl hg;have t4:=x.pos k j kl jh;have t5:=x.pos j k jl hk;rcases alt f j hf jh with e1|e1<;>rcases alt j g jl hg with e2|e2<;>rw [e1,e2]<;>omega
 ·rw [Qp S hk hf hg];have e:2 ^ (k+1)=2 ^ k+2 ^ k:=by rw [Nat.pow_succ];omega
  rcases Qx (y9 T f g) (zU (y9 T f k) (y9 T k g)) with ⟨q,_⟩|⟨q,_⟩
  ·rw [q];have:=x.len f g hf hg;omega
  ·rw [q];have a1:=x.len f k hf hk;have a2:=x.len k g kl hg;show ((y9 T f k).2++(y9 T k g).2).length<=_;rw [yM];omega
theorem FW.all {h:Nat}{rss:List (List Int)}(G:h8 h rss):∀ k,k<=h->FW rss h k (m6 rss k)
 |0,_=>FW.start G
 |k+1,hk=>FW.step (Shp.all G k (by omega)) (FW.all G k (by omega)) (by omega)
theorem VY (G:h8 h rss){f g:Nat}(hf:f<=h)(hg:g<h):((qu rss h).getD f []).getD g 0=(y9 (m6 rss h) f g).1:=by
 have S:=Shp.all G h (yW _);have hl:f<(m6 rss h).length:=by have:=S.len;omega
 have hl2:f<(qu rss h).length:=by unfold qu;rw [yZ];exact hl
 have r:=S.rowAt hf;rw [g9 hl] at r;unfold y9;rw [g9 hl,g9 (l:=(m6 rss h)[f]) (by omega)];unfold qu;rw [g9 (l:=(m6 rss h).map λrow=>row.map (·.1)) (i:=f) (by rw [yZ];exact hl),yb,g9 (by rw [yZ];omega),yb]
theorem zW (G:h8 h rss):h8 h (qu rss h):=by
 have S:=Shp.all G h (yW _);have F:=FW.all G h (yW _);refine ⟨by unfold qu;rw [yZ];exact S.len,λr hr=>?_⟩;unfold qu at hr;obtain ⟨row,hm,rfl⟩:=yy.mp hr;refine ⟨by rw [yZ];exact S.row row hm,λv hv=>?_⟩;obtain ⟨w,hw,rfl⟩:=yy.mp hv;obtain ⟨f,hf,rfl⟩:=uH hm;obtain ⟨g,hg,rfl⟩:=uH hw;have hf':f<=h:=by have:=S.len;omega
 have hg':g<h:=by rw [<- S.row _ hm];exact hg
 have e:y9 (m6 rss h) f g=(m6 rss h)[f][g]:=by unfold y9;rw [g9 hf,g9 hg]
 have p:=F.pos f g hf' hg';have l:=F.le f g hf' hg';rw [e] at p l;refine ⟨p,Int.lt_of_le_of_lt l ?_⟩;have hl:f<rss.length:=by have:=G.len;omega
 have hg2:g<rss[f].length:=by rw [(G.row _ (yA hl)).1];exact hg'
 rw [je G hf' hg',g9 hl,g9 hg2];exact ((G.row _ (yA hl)).2 _ (yA hg2)).2
theorem VZ (G:h8 h rss){f g:Nat}(hf:f<=h)(hg:g<h):rin (qu rss h) (f:Int) (g:Int)=(y9 (m6 rss h) f g).1:=by rw [je (zW G) hf hg,VY G hf hg]
theorem Dm {rss:List (List Int)}{h:Nat}(G:h8 h rss):∀(hs:List Int)(f:Nat),f<=h->(∀ x∈hs,0<=x/\x<(h:Int))->0<=qZ rss (f:Int) hs
 |[],_,_,_=>uT _
 |x::r,f,hf,ho=>by
  obtain ⟨x0,x1⟩:=ho x yT;obtain ⟨m,rfl⟩:=yr x0;have q:=Dm G r m (by omega) λy hy=>ho y (yV _ hy);have p:=PU G hf (g:=m) (by omega);show 0<=rin rss f m+qZ rss m r;omega
theorem Cm {rss:List (List Int)}{h:Nat}(G:h8 h rss){g:Nat}(hg:g<h):∀(mids:List Int)(f:Nat),f<=h->(∀ x∈mids,0<=x/\x<(h:Int)) -> ∃ ms:List Int,ms.Nodup/\(∀ x∈ms,x∈mids)/\qZ rss (f:Int) (ms++[(g:Int)])<=qZ rss (f:Int) (mids++[(g:Int)])
 |[],_,_,_=>⟨[],uw,λ_ z=>z,uT _⟩
 |x::r,f,hf,ho=>by
  obtain ⟨x0,x1⟩:=ho x yT;obtain ⟨m,rfl⟩:=yr x0;obtain ⟨ms,hn,hs,hw⟩:=Cm G hg r m (by omega) λy hy=>ho y (yV _ hy);by_cases hm:(m:Int)∈ms
  ·obtain ⟨p,s,rfl⟩:=List.append_of_mem hm;have hn2:=uq.mp hn;refine ⟨(m:Int)::s,hn2.2.1,λy hy=>?_,?_⟩
   ·rcases yJ.mp hy with e|hy
    ·rw [e];exact yT
    ·exact yV _ (hs y (yu _ (yV _ hy)))
   ·have e1:p++(m:Int)::s++[(g:Int)]=(p++[(m:Int)])++(s++[(g:Int)]):=by simp
    rw [e1,JR (g:=(m:Int)) (by simp)] at hw;have nn:=Dm G (p++[(m:Int)]) m (by omega) (λy hy=>by
     rcases uY.mp hy with hy|hy
     ·exact ho y (yV _ (hs y (uQ _ hy)))
     ·rw [yI.mp hy];exact ⟨x0,x1⟩)
    show rin rss f m+qZ rss m (s++[(g:Int)])<=rin rss f m+qZ rss m (r++[(g:Int)]);omega
  ·refine ⟨(m:Int)::ms,yo.mpr ⟨hm,hn⟩,λy hy=>?_,?_⟩
   ·rcases yJ.mp hy with e|hy
    ·rw [e];exact yT
    ·exact yV _ (hs y hy)
   ·show rin rss f m+qZ rss m (ms++[(g:Int)])<=rin rss f m+qZ rss m (r++[(g:Int)]);omega
def ZU (h:Nat):List Int:=(List.range h).map λ(i:Nat)=>(i:Int)
theorem mem_huesL {x:Int}:x∈ZU h↔0<=x/\x<(h:Int):=by
 unfold ZU;constructor
 ·intro hx;obtain ⟨i,hi,rfl⟩:=yy.mp hx;have:=yw.mp hi;omega
 ·intro hx;exact yy.mpr ⟨x.toNat,yw.mpr (by omega),by omega⟩
theorem Wj {α:Type}[DecidableEq α]:∀{ms left:List α},ms.Nodup->(∀ x∈ms,x∈left)->ms.length<=left.length
 |[],_,_,_=>ya _
 |x::r,left,hn,hs=>by
  have hn':=yo.mp hn;have q:=Wj (ms:=r) (left:=left.erase x) hn'.2 (λy hy=>(List.mem_erase_of_ne (λe=>hn'.1 (by rw [e] at hy;exact hy))).mpr (hs y (yV _ hy)));have hx:=hs x yT;rw [List.length_erase_of_mem hx] at q;have pos:0<left.length:=List.length_pos_of_mem hx;show r.length+1<=_;omega
def Xe (rss:List (List Int))(h:Nat)(row:List Int):List Int:=(List.range h).map λg=>XM (row.getD g 0::(List.range h).map λa=>row.getD a 0+(rss.getD a []).getD g 0)
def bfN (rss:List (List Int))(h:Nat):Nat->List (List Int)
 |0=>rss
 |k+1=>(bfN rss h k).map (Xe rss h)
theorem Vd {rss:List (List Int)}{h:Nat}(G:h8 h rss):∀ k,(bfN rss h k).length=h+1/\∀ r∈bfN rss h k,r.length=h
 |0=>⟨G.len,λr hr=>(G.row r hr).1⟩
 |k+1=>by
  have ih:=Vd G k;refine ⟨by show ((bfN rss h k).map _).length=_;rw [yZ];exact ih.1,λr hr=>?_⟩;obtain ⟨q,_,rfl⟩:=yy.mp hr;unfold Xe;rw [yZ,uN]
def i0 (rss:List (List Int))(h k f g:Nat):Int:=((bfN rss h k).getD f []).getD g 0
theorem ZD (G:h8 h rss){k f g:Nat}(hf:f<=h)(hg:g<h):i0 rss h (k+1) f g=XM (i0 rss h k f g::(List.range h).map λa=>i0 rss h k f a+rin rss (a:Int) (g:Int)):=by
 have L:=Vd G k;have hl:f<(bfN rss h k).length:=by omega
 unfold i0;show (((bfN rss h k).map (Xe rss h)).getD f []).getD g 0=_;rw [g9 (l:=(bfN rss h k).map (Xe rss h)) (i:=f) (by rw [yZ];exact hl),yb,g9 (l:=bfN rss h k) (i:=f) hl];unfold Xe;rw [g9 (by rw [yZ,uN];exact hg),yb,List.getElem_range]
 congr 2
 refine List.map_congr_left λa ha=>?_;rw [je G (by have:=yw.mp ha;omega) hg]
theorem ZE {rss:List (List Int)}{h:Nat}(G:h8 h rss):∀ k f g,f<=h->g<h->(y9 (m6 rss h) f g).1<=i0 rss h k f g
 |0,f,g,hf,hg=>by
  have q:=(FW.all G h (yW _)).le f g hf hg;rw [je G hf hg] at q;exact q
 |k+1,f,g,hf,hg=>by
  rw [ZD G hf hg];have m:=BI (l:=i0 rss h k f g::(List.range h).map λa=>i0 rss h k f a+rin rss (a:Int) (g:Int)) (by simp);rcases yJ.mp m with e|e
  ·rw [e];exact ZE G k f g hf hg
  ·obtain ⟨a,ha,e2⟩:=yy.mp e;rw [<- e2];have ha':=yw.mp ha;have F:=FW.all G h (yW _);have i:=ZE G k f a hf ha';have t:=F.tri a f g ha' hf hg;have l:=F.le a g (by omega) hg;omega
theorem Ve {rss:List (List Int)}{h:Nat}(G:h8 h rss):∀(k:Nat)(ms:List Int)(f g:Nat),f<=h->g<h->(∀ x∈ms,0<=x/\x<(h:Int))->ms.length<=k->i0 rss h k f g<=qZ rss (f:Int) (ms++[(g:Int)])
 |0,ms,f,g,hf,hg,_,hl=>by
  have:ms=[]:=uy.mp (by omega);subst this;show _<=rin rss f g+0;rw [je G hf hg];show (rss.getD f []).getD g 0<=_;omega
 |k+1,ms,f,g,hf,hg,ho,hl=>by
  rw [ZD G hf hg];by_cases hk:ms.length<=k
  ·exact uG (Wf yT) (Ve G k ms f g hf hg ho hk)
  ·have hne:ms≠[]:=λz=>by rw [z] at hk;simp at hk
   have e:=List.dropLast_concat_getLast hne;obtain ⟨x0,x1⟩:=ho (ms.getLast hne) (List.getLast_mem hne);obtain ⟨a,ha⟩:=yr x0;rw [ha] at x1 e;have i:=Ve G k ms.dropLast f a hf (by omega) (λx hx=>ho x ((List.dropLast_sublist ms).subset hx)) (by rw [List.length_dropLast];omega);refine uG (Wf (yV _ (yy.mpr ⟨a,yw.mpr (by omega),rfl⟩))) ?_;rw [<- e,JR (g:=(a:Int)) (by simp)];show _<=qZ rss f (ms.dropLast++[(a:Int)])+(rin rss a g+0);omega
theorem DI (G:h8 h rss):bfN rss h h=qu rss h:=by
 have L:=Vd G h;have G2:=zW G;have F:=FW.all G h (yW _);refine List.ext_getElem (by rw [L.1,G2.len]) λf h1 h2=>?_;have hf:f<=h:=by omega
 refine List.ext_getElem (by rw [L.2 _ (yA h1),(G2.row _ (yA h2)).1]) λg g1 g2=>?_;have hg:g<h:=by rw [L.2 _ (yA h1)] at g1;exact g1
 have a1:i0 rss h h f g=(bfN rss h h)[f][g]:=by unfold i0;rw [g9 h1,g9 g1]
 have a2:=VY G hf hg;rw [g9 h2,g9 g2] at a2;rw [<- a1,a2];refine Int.le_antisymm ?_ (ZE G h f g hf hg);have W:=F.way f g hf hg;obtain ⟨mids,e⟩:∃ mids,(y9 (m6 rss h) f g).2=mids++[(g:Int)]:=by
  have ne:(y9 (m6 rss h) f g).2≠[]:=λz=>by have q:=W.last;rw [z] at q;cases q
  refine ⟨(y9 (m6 rss h) f g).2.dropLast,?_⟩;have q:=List.dropLast_concat_getLast ne;have q2:(y9 (m6 rss h) f g).2.getLast ne=(g:Int):=by have q3:=W.last;rw [List.getLast?_eq_some_getLast ne] at q3;exact Option.some.inj q3
  rw [q2] at q;exact q.symm
 have hmid:∀ x∈mids,0<=x/\x<(h:Int):=λx hx=>W.ok x (by rw [e];exact uQ _ hx);obtain ⟨ms,hn,hs,hw⟩:=Cm G hg mids f hf hmid;have sub:∀ x∈ms,x∈ZU h:=λx hx=>mem_huesL.mpr (hmid x (hs x hx));have lm:ms.length<=h:=by have q:=Wj hn sub;unfold ZU at q;rw [yZ,uN] at q;exact q
 have b:=Ve G h ms f g hf hg (λx hx=>hmid x (hs x hx)) lm;have s:=W.sum;rw [e] at s;omega
def top (i:Nat):Stmt:=PySem.Challenge.pw_rinsework_k23_whole_moves_to_steep_order.main.body.getD i (.Pass ⟨0,0,0,0⟩)
abbrev YC:Stmt:=top 59
abbrev JE:Stmt:=top 60
abbrev Yh:Stmt:=top 61
theorem JG {p:Addr}(h:H p=none)(o:HO):Same H (w6 H p o):=λb u q=>by rw [w4 (k4 q h)];exact q
theorem sizes (h:n<=1000):n<=sizeLine:=uL (QU h)
def Ub:Sp:=λvs H Q _=>∃ c k:Int,vs=[.int c,.int k]/\0<=k/\k<=100/\∀ v:Int,0<=v->v<2147483648->Q (.int v) H
def Cr (K:Fg):Sp:=λvs H Q _=>∃(a:Addr)(ns:List Int)(k:Int),vs=[.ref a,.int k]/\SqL K H a (ns.map V.int)/\ns.length<=63/\0<=k/\k<=12 /\
 ∀(r:Addr)(n:Int)(H':Hp),H r=none->Same H H'->H' r=some (.lst [.int n])->Q (.ref r) H'
section
theorem sc_digit:y6 ["row","many","digit"] ["row","many"] (j9 Yh):=u7
theorem Hn (F:Fun K "_law_digit" "_law_digit" Yh f fd):FnOk P w K mg base v9 1 f fd ["row","many"] vN:=by
 refine F.ok sc_digit (λvs H Q E h=>?_) (λcdv A outer s H vs Q E hr h=>?_)
 ·obtain ⟨a,n,m,rfl,_⟩:=h;rfl
 obtain ⟨a,n,m,rfl,hH,hm,q⟩:=h;refine ⟨_,(j3 (qN (i:=2) sc_digit.nd rfl (Or.inl rfl) (u6 wz (Jy (VM (K:=K) rfl) (pv 0) z0 (λ_ _=>rfl)) (pv 1)))
  (j3 (WC (u6 Wl (Jy (VM (K:=K) rfl) (pv 0) z0 (λ_ _=>rfl)) (pv 1)) (BZ (pv 0) z0 Ci))
  (j4 (y4 (pv 2))))),?_⟩
 refine ⟨_,rfl,a,_,0,_,rfl,rfl,SqL.of hH,rfl,_,rfl,n,m,rfl,rfl,hm.1,?_⟩;refine ⟨_,rfl,a,_,0,_,rfl,rfl,SqL.of hH,rfl,_,rfl,n,m,rfl,rfl,hm,?_⟩;refine ⟨_,rfl,a,_,0,0,rfl,rfl,hH,rfl,?_⟩;exact ⟨_,rfl,q⟩
theorem sc_mixed:y6 ["cell","k","stir"] ["cell","k"] (j9 YC):=u7
theorem HM (F:Fun K "_law_mixed" "_law_mixed" YC f fd):FnOk P w K mg base v9 1 f fd ["cell","k"] Ub:=by
 refine F.ok sc_mixed (λvs H Q E h=>?_) (λcdv A outer s H vs Q E hr h=>?_)
 ·obtain ⟨c,k,rfl,_⟩:=h;rfl
 obtain ⟨c,k,rfl,k0,k1,q⟩:=h;refine ⟨_,(j3 (qN (i:=2) sc_mixed.nd rfl (Or.inl rfl) (u6 wz (u6 QJ (u6 op_add (u6 op_add (u6 wz (pv 0) z0) (u6 QJ z0 (pv 1))) z0) z0) z0))
  (j4 (y4 (u6 wz (u6 QJ (u6 wz (u6 QJ (pv 2) (pv 2)) z0) z0) z0)))),?_⟩
 refine ⟨_,rfl,_,_,rfl,rfl,(by show (0:Int)<1000000007;decide),_,rfl,_,_,rfl,rfl,.inl ⟨by decide,by decide⟩,_,_,rfl,rfl,_,_,rfl,rfl,_,_,rfl,rfl,.inr ⟨by decide,by decide⟩,_,_,rfl,rfl,(by show (0:Int)<2147483647;decide),?_⟩;generalize hone:(c % 1000000007+7919*k+1)*48271 % 2147483647=one;have o0:0<=one:=by rw [<- hone];exact yd _ (by decide)
 have o1:one<2147483647:=by rw [<- hone];exact yn _ (by decide)
 refine ⟨_,rfl,_,rfl,_,_,rfl,rfl,.inl ⟨by omega,by omega⟩,_,_,rfl,rfl,(by show (0:Int)<2147483629;decide),_,_,rfl,rfl,.inr ⟨by decide,by decide⟩,_,_,rfl,rfl,(by show (0:Int)<2147483647;decide),?_⟩;exact q _ (yd _ (by decide)) (Int.lt_trans (yn _ (by decide)) (by decide))
end
def MM:Int:=10 ^ (60:Int).toNat
theorem Zx:0<MM:=by decide +kernel
theorem Kt:vg 10 60:=⟨by decide,by decide,by decide⟩
theorem Ks:vg 10 18:=⟨by decide,by decide,by decide⟩
theorem DM:Builtin.Int.intBits MM<=2 ^ 20:=by decide +kernel
theorem SY {M c r:Int}{i:Nat}(hM:0<M)(h0:0<=c)(h:c<M ^ i)(r0:0<=r)(r1:r<M):0<=c*M+r/\c*M+r<M ^ (i+1):=by
 have e:M ^ (i+1)=M ^ i*M:=Int.pow_succ M i;have h1:(c+1)*M<=M ^ i*M:=uA (by omega) (Int.le_of_lt hM);have h2:(c+1)*M=c*M+M:=by rw [Int.add_mul,Int.one_mul]
 have h3:0<=c*M:=Int.mul_nonneg h0 (Int.le_of_lt hM);rw [e];omega
theorem Dv:∀ i:_root_.Fin 14,(MM ^ (i:Nat)).toNat<2 ^ 2700:=by decide +kernel
theorem DN {c:Int}{i:Nat}(hi:i<=13)(h0:0<=c)(h:c<MM ^ i):Builtin.Int.intBits c<=2 ^ 20:=by
 obtain ⟨n,rfl⟩:=yr h0;have q:=Dv ⟨i,by omega⟩;have q2:n<2 ^ 2700:=by have q':(MM ^ i).toNat<2 ^ 2700:=q;omega
 exact yj (PyProof.Rows.intBits_le (by rw [Int.natAbs_natCast];exact q2)) (by decide)
theorem TH:∀ i:_root_.Fin 13,∀ j:_root_.Fin 64,Builtin.Range.small ((i:Nat):Int) ((j:Nat):Int) 5=true:=by decide +kernel
theorem WJ {i j:Int}:Builtin.Range.rangeSize i j 5=if i<j then (j-i-1) / 5+1 else 0:=rfl
theorem TF {i j:Int}(h0:0<=i)(h1:i<=12)(h2:0<=j)(h3:j<=63):0<=Builtin.Range.rangeSize i j 5/\Builtin.Range.small i j 5=true/\va i j 5<=13/\∀ t:Nat,t<va i j 5->i+t*5<j:=by
 refine ⟨?_,?_,?_,λt ht=>?_⟩
 ·rw [WJ];split<;>omega
 ·have q:=TH ⟨i.toNat,by omega⟩ ⟨j.toNat,by omega⟩;have e1:((i.toNat:Nat):Int)=i:=by omega
  have e2:((j.toNat:Nat):Int)=j:=by omega
  have q':Builtin.Range.small ((i.toNat:Nat):Int) ((j.toNat:Nat):Int) 5=true:=q;rw [e1,e2] at q';exact q'
 ·unfold va;rw [WJ];split<;>omega
 ·unfold va at ht;rw [WJ] at ht;split at ht<;>omega
theorem DC {ns:List Int}{k:Int}(h0:0<=k)(h:k<(ns.length:Int)):∃ v:Int,atI (ns.map V.int) k=some (.int v):=by
 have hk:k.toNat<ns.length:=by omega
 have ek:k=((k.toNat:Nat):Int):=by omega
 have q:atI (ns.map V.int) ((k.toNat:Nat):Int)=some (.int ns[k.toNat]):=zg (by rw [yP,yY hk]<;>rfl);rw [<- ek] at q;exact ⟨_,q⟩
section
theorem sc_stream:y6 ["script","k","cell","j","found"] ["script","k"] (j9 JE):=u7
theorem Re (F:Fun K "_law_stream" "_law_stream" JE f fd)(Eo:Fn P w K mg base 1 "_law_mixed" ["cell","k"] Ub)(Ad:mg "len"=none)(Ac:mg "range"=none)(Ee:mg "sum"=none):FnOk P w K mg base v9 2 f fd ["script","k"] (Cr K):=by
 refine F.ok sc_stream (λvs H Q E h=>?_) (λcdv A outer s H vs Q E hr h=>?_)
 ·obtain ⟨a,ns,k,rfl,_⟩:=h;rfl
 obtain ⟨a,ns,k,rfl,hS,h63,k0,k1,q⟩:=h;refine ⟨_,(j3 (qN (i:=2) sc_stream.nd rfl (Or.inl rfl) z0)
  (j3 (xn PassesOwn.never rfl (RP rfl Ac (w5 (pv 1) (w5 (k9 (Kd (K:=K) rfl) rfl Ad PySem.boot_len (w5 (pv 0) u9)) (w5 z0 u9)))) (gW 3 sc_stream.nd)
   (j4 (qN (i:=2) sc_stream.nd rfl (Or.inl rfl) (u6 op_add (u6 jV (pv 2) (u6 QK z0 z0)) (u6 wz (Jy (VM (K:=K) rfl) (pv 0) (pv 3) (λ_ _=>rfl)) (u6 QK z0 z0))))))
  (j3 (n8 (f9 Js (pv 2) (u6 QK z0 z0) (m9 _)) (j4 (y4 (zb (w5 (pv 2) u9)))) n9)
  (j3 (qN (i:=2) sc_stream.nd rfl (Or.inl rfl) (u6 op_add (pv 2) (k9 (Mh (K:=K) rfl rfl) rfl Ee Vg (w5 (qw (N':=["one"]) (cap:=[none]) (f6 rfl rfl rfl) rfl (qi (K:=K) rfl (pv 0)) (λ_ _ _ _ _ _=>(m7 (i:=0) (by show (["one"]:List Str).Nodup;decide +kernel) rfl (Or.inl rfl))) (λ_ _ _ _ _ _=>o8) (λ_ _ _ _ _ _=>(u6 wz (pv 0) (u6 QK z0 z0)))) u9))))
  (j3 (qN (i:=4) sc_stream.nd rfl (Or.inl rfl) z0)
  (j3 (xn PassesOwn.never rfl (zr rfl Ac (w5 z0 u9)) (gW 3 sc_stream.nd)
   (j4 (qN (i:=4) sc_stream.nd rfl (Or.inl rfl) (u6 op_add (u6 QJ (pv 4) z0) (fW Eo hr (w5 (u6 op_add (u6 op_add (pv 2) (u6 QJ z0 (pv 1))) (k9 (Kd (K:=K) rfl) rfl Ad PySem.boot_len (w5 (pv 0) u9))) (w5 (pv 3) u9)))))))
  (j4 (y4 (zb (w5 (u6 Wl (pv 4) z0) u9)))))))))),?_⟩
 have hl:(((ns.map V.int).length:Nat):Int)=(ns.length:Int):=by rw [yZ]
 obtain ⟨z1,z2,z3,z4⟩:=TF (i:=k) (j:=(((ns.map V.int).length:Nat):Int)) k0 k1 (by omega) (by omega);refine ⟨_,rfl,_,rfl,a,_,rfl,.inl hS,k,_,5,rfl,⟨by decide,by decide⟩,z1,z2,La (λi σ H2=>∃(c:Int)(j:Option V),σ=[some (.ref a),some (.int k),some (.int c),j,none]/\H2=H/\0<=c/\c<MM ^ i)
  ⟨0,none,rfl,rfl,uT 0,by decide⟩ ?_ ?_⟩
 ·rintro i σ H2 hi ⟨c,j,rfl,rfl,c0,c1⟩;obtain ⟨v,hv⟩:=DC (ns:=ns) (k:=k+i*5) (by omega) (by have:=z4 i hi;omega);refine ⟨_,rfl,_,_,rfl,rfl,Kt,_,_,rfl,rfl,⟨DN (by omega) c0 c1,DM⟩,_,rfl,_,rfl,a,_,_,_,rfl,rfl,hS,hv,
   _,_,rfl,rfl,Kt,_,_,rfl,rfl,Zx,_,_,rfl,rfl,?_⟩
  have sb:=SY (i:=i) Zx c0 c1 (yd v (Ne.symm (Int.ne_of_lt Zx))) (yn v Zx);exact ⟨_,_,rfl,rfl,sb.1,sb.2⟩
 ·rintro σ H2 ⟨c,j,rfl,rfl,c0,c1⟩;refine ⟨_,rfl,_,_,rfl,rfl,Ks,_,_,rfl,rfl,_,rfl,ite2 (λ_=>?_) (λ_=>?_)⟩
  ·refine ⟨_,rfl,(by show 1<=sizeLine;decide),λp hp=>?_⟩;exact q p c _ hp (JG hp _) g8
  ·refine ⟨_,rfl,_,rfl,a,rfl,⟨_,hS⟩,Kq (K:=K) (a:=a) (xs:=ns.map V.int) (λi ys H3=>H3=H2/\∃ ms:List Int,ys=ms.map V.int/\ms.length=i) ⟨rfl,[],rfl,rfl⟩ ?_ ?_ ?_ ?_⟩
   ·rintro i ys H3 hi ⟨_,ms,rfl,rfl⟩;rw [yZ] at hi ⊢;exact sizes (by omega)
   ·rintro i ys H3 hi ⟨rfl,_⟩;exact hS
   ·rintro i x ys H3 R hx ⟨rfl,ms,rfl,rfl⟩ hR;rw [yP] at hx;obtain ⟨v,hv,rfl⟩:=yN.mp hx;refine ⟨Wk.one rfl,⟨_,rfl,_,_,rfl,rfl,Ks,_,_,rfl,rfl,(by show (0:Int)<10 ^ (18:Int).toNat;decide),?_⟩⟩;exact hR _ _ ⟨rfl,ms++[_],by rw [yv];rfl,by rw [yM];rfl⟩
   ·rintro ys H3 ⟨rfl,ms,rfl,_⟩ D hD;refine ⟨D,ms,rfl,SqL.of g8,_,_,rfl,rfl,?_⟩;have g1:Same H3 (w6 H3 D (.lst (ms.map V.int))):=JG hD _;refine ⟨12,rfl,by decide,by decide,ZS (n:=12) (λi σ H4=>∃(f:Int)(j:Option V),σ=[some (.ref a),some (.int k),some (.int (c+ms.sum)),j,some (.int f)]/\H4=w6 H3 D (.lst (ms.map V.int))) ⟨0,_,rfl,rfl⟩ ?_ ?_⟩
    ·rintro i σ H4 hi ⟨f,j,rfl,rfl⟩;refine ⟨_,rfl,_,_,rfl,rfl,.inr ⟨by decide,by decide⟩,_,rfl,_,rfl,_,_,rfl,rfl,.inl ⟨by decide,by decide⟩,_,_,rfl,rfl,_,rfl,a,_,rfl,.inl (g1.seq hS),_,_,rfl,rfl,_,rfl,_,_,rfl,by omega,by omega,λv v0 v1=>?_⟩;exact ⟨_,_,rfl,rfl,_,_,rfl,rfl⟩
    ·rintro σ H4 ⟨f,j,rfl,rfl⟩;refine ⟨_,rfl,_,_,rfl,rfl,⟨by decide,by decide +kernel⟩,(by show 1<=sizeLine;decide),λp hp=>?_⟩;exact q p (f / 64) _ (g1.free hp) (g1.trans (JG hp _)) g8
end
def wD (K:Fg):List PV->Prop:=λxs=>∃(ns:List Int)(k:Int),xs=[scr K ns,.at (.int k)]/\ns.length<=63/\0<=k/\k<=12
def vT:List PV->PV->Prop:=λ_ y=>∃ n:Int,y = .lst [.at (.int n)]
theorem SZ {K:Fg}(h:spN (wD K) vT vs H Q E):Cr K vs H Q E:=by obtain ⟨Hs,xs,sm,r,⟨ns,k,rfl,h63,k0,k1⟩,q⟩:=h;obtain ⟨v,w,rfl,p1,p2⟩:=reps_cons.mp r;obtain ⟨u,z,rfl,p3,p4⟩:=reps_cons.mp p2;cases reps_nil.mp p4;cases rep_at.mp p3;obtain ⟨a,rfl,hS⟩:=SF sm p1;exact ⟨a,ns,k,rfl,hS,h63,k0,k1,λb n H' nb g e=>q _ b Hs H' ⟨n,rfl⟩ ⟨.refl _,g,sm.trans g,λ_ _ z=>z⟩ nb (sm.free nb) ⟨_,e,.one (rep_at.mpr rfl)⟩⟩
section
theorem Rc (F:Fun K "_law_stream" "_law_stream" JE f fd)(Eo:Fn P w K mg base 1 "_law_mixed" ["cell","k"] Ub)(Ad:mg "len"=none)(Ac:mg "range"=none)(Ee:mg "sum"=none):FnOk P w K mg base v9 2 f fd ["script","k"] (spN (wD K) vT):=(Re F Eo Ad Ac Ee).imp λ_ _ _ _ h=>SZ h
end
def p5:Int:=10 ^ 30
theorem QX:0<p5:=by decide +kernel
theorem Nx {k:Int}(h0:0<=k)(h1:k<=2*p5):k.natAbs.log2<9000:=by
 have hb:(2*p5).toNat<2 ^ 9000:=yF (show (2*p5).toNat<2 ^ 110 by decide +kernel) (Nat.pow_le_pow_right (by decide) (by decide));have:k.natAbs<2 ^ 9000:=by omega
 by_cases hz:k.natAbs=0
 ·rw [hz];decide
 ·exact (Nat.log2_lt hz).mpr this
theorem vZ {n k:Int}(h0:0<k)(h1:k<=2*p5):vf n k:=⟨h0,Nx (by omega) h1⟩
theorem vR:(1000:Int)<=p5:=by decide +kernel
def m5 (rss:List (List Int)):PV:= .lst (rss.map λr=> .lst (r.map λn=> .at (.int n)))
theorem jZ {a:MA}{k:Nat}(h:a ε=some [.at (.int (k:Int))])(hk:k<=lim):xx a ε=some (zd 0 k):=by have hlim:(lim:Int)=1000000:=rfl;have hl:lim=1000000:=rfl;unfold xx;rw [h];show (if -(lim:Int)<=(k:Int)/\(k:Int)<=(lim:Int) then some (zd 0 (k:Int).toNat) else none)=_;rw [if_pos ⟨by omega,by omega⟩,ub]
def j8 (ss:List Str):List PV:=ss.map λs=> .at (.str s)
theorem qW (ss:List Str):(j8 ss).length=ss.length:=yZ _
def Low (x:Str):Prop:=∀ c∈x.cps.toList,97<=c/\c<=122
structure wV (x:Str):Prop where
 low:Low x
 one:1<=x.length
 eight:x.length<=8
theorem JZ:∀ ss:List Str,ats (j8 ss)=some (ss.map V.str)
 |[]=>rfl
 |s::ss=>by
  show (ats (j8 ss)).map (V.str s::·)=_;rw [JZ ss];rfl
theorem Be (x:Str):∀ ss:List Str,inV (.str x) (ss.map V.str)=decide (x∈ss)
 |[]=>by simp [inV]
 |s::ss=>by
  have ih:=Be x ss;unfold inV at ih ⊢;rw [yO,List.any_cons,ih];have e:qo (.str s) (.str x)=decide (s=x):=rfl;rw [e];by_cases h:s=x
  ·subst h;simp
  ·simp [h,Ne.symm h]
theorem KS (ss:List Str):(ss.map V.str).all k6=true:=by rw [uE];intro v hv;obtain ⟨s,_,rfl⟩:=yy.mp hv;rfl
theorem Bf (neg:Bool)(x:Str)(ss:List Str):pIn neg (.at (.str x)) (.lst (j8 ss))=some (.at (.bl (if neg then !decide (x∈ss) else decide (x∈ss)))):=by show (ats (j8 ss)).bind _=_;rw [JZ,yG,if_pos ⟨rfl,KS ss⟩,Be]
structure Cl where
 name:Str
 hue:Nat
 len:Int
 due:Int
 wt:Int
variable{a b c x y:Cl}{A B ns os:List Cl}{key:Cl->Int×Str}
def Cl.pv (c:Cl):PV:= .tup [.at (.str c.name),.at (.int c.hue),.at (.int c.len),.at (.int c.due),.at (.int c.wt)]
structure Cl.Ok (h:Nat)(c:Cl):Prop where
 nm:wV c.name
 hu:c.hue<h
 l1:1<=c.len
 l2:c.len<=p5
 d1:-p5<=c.due
 d2:c.due<=p5
 w1:1<=c.wt
 w2:c.wt<=p5
theorem Jo {α β:Type}{f:α->β}(hf:∀ x y,f x=f y->x=y):∀{a b:List α},a.map f=b.map f->a=b
 |[],[],_=>rfl
 |[],_::_,h=>by cases h
 |_::_,[],h=>by cases h
 |x::a,y::b,h=>by
  rw [yO,yO] at h;injection h with h1 h2;rw [hf x y h1,Jo hf h2]
theorem Vv {α β:Type}(f:α->β):∀(l:List α)(i:Nat),(l.map f).eraseIdx i=(l.eraseIdx i).map f
 |[],_=>rfl
 |_::_,0=>rfl
 |x::l,i+1=>by simp [Vv f l i]
theorem BY {α:Type}:∀{ss:List α}{j:Nat}(h:j<ss.length),(ss[j]::ss.eraseIdx j).Perm ss
 |x::ss,0,_=>List.Perm.refl _
 |x::ss,j+1,h=>by
  have hj:j<ss.length:=by simpa using h
  have ih:=BY hj;show (ss[j]::x::ss.eraseIdx j).Perm (x::ss);exact (List.Perm.swap _ _ _).trans (ih.cons x)
structure Dr where
 h:Nat
 rss:List (List Int)
 cls:List Cl
 last:Int
 time:Int
variable{d e:Dr}
def Dr.pv (d:Dr):PV:= .tup [m5 d.rss,.lst (d.cls.map Cl.pv),.at (.int d.last),.at (.int d.time)]
structure Dr.Ok (d:Dr):Prop where
 h1:1<=d.h
 h4:d.h<=4
 rin:h8 d.h d.rss
 ten:d.cls.length<=10
 cl:∀ c∈d.cls,c.Ok d.h
 nd:(d.cls.map Cl.name).Nodup
 l1:-1<=d.last
 l2:d.last<d.h
 t1:0<=d.time
 t2:d.time<60*p5
theorem Ti (h:a.pv=b.pv):a=b:=by cases a;cases b;unfold Cl.pv at h;injection h with h;simp only [List.cons.injEq,PV.at.injEq,V.str.injEq,V.int.injEq] at h;obtain ⟨h1,h2,h3,h4,h5,_⟩:=h;have h2:=Int.ofNat.inj h2;subst h1 h2 h3 h4 h5;rfl
theorem MD (h:d.pv=e.pv):d.cls=e.cls:=by unfold Dr.pv at h;injection h with h;injection h with _ h;injection h with h _;injection h with h;exact Jo (λ_ _=>Ti) h
def T26:Int:=10 ^ 26
def T27:Int:=10 ^ 27
theorem Ts:T27=10*T26/\p5=1000*T27/\1000<T26:=by decide +kernel
theorem pow26:pPow (.at (.int 10)) (.at (.int 26))=some (.at (.int T26)):=by show (if vg 10 26 then some (V.int (10 ^ (26:Int).toNat)) else none).map PV.at=_;rw [if_pos ⟨by decide,by decide,by decide⟩];rfl
theorem pow27:pPow (.at (.int 10)) (.at (.int 27))=some (.at (.int T27)):=by show (if vg 10 27 then some (V.int (10 ^ (27:Int).toNat)) else none).map PV.at=_;rw [if_pos ⟨by decide,by decide,by decide⟩];rfl
theorem GU {n:Int}(h0:-p5<=n)(h1:n<=p5):Builtin.Int.intBits n<=2 ^ 20:=by
 have hb:p5<2 ^ 120:=by decide +kernel
 exact yj (PyProof.Rows.intBits_le (k:=120) (by omega)) (by decide)
theorem XO {a b:Int}(a0:-p5<=a)(a1:a<=p5)(b0:-p5<=b)(b1:b<=p5):zG (.at (.int a)) (.at (.int b))=some (.at (.int (a*b))):=by show (if jk a b then some (V.int (a*b)) else none).map PV.at=_;rw [if_pos ⟨GU a0 a1,GU b0 b1⟩];rfl
def zJ:List PV->Prop:=λxs=>∃ b:Bool,xs=[.at (.bl b)]
def zN:List PV->PV->Prop:=λ_ y=>∃ n:Int,y = .at (.int n)/\0<=n/\n<10*T27
abbrev YJ:Stmt:=top 62
abbrev Gy (K:Fg):WS:=(wSeq (ql 2 (qB 0 (wP (dC (.int 10)))))
  (wSeq (xB (wPT (r9 (q9 1))) (ql 2 (xK o6 (wP (x9 zG (q9 2) (x9 pPow (dC (.int 10)) (dC (.int 27))))) (qB 0 (wP (dC (.int 3)))))) xS)
  (qY (wP (q8 2)))))
theorem sc_number:y6 ["row","great","number"] ["row","great"] (j9 YJ):=u7
theorem Lp:∀ xs,zJ xs->xs.length+1=(["row","great"]:List Str).length:=by rintro xs ⟨b,rfl⟩;rfl
theorem Ly {K:Fg}:∀ xs n,zJ xs->Gy K (p9 n::xs.map .sh++List.replicate ((["row","great","number"]:List Str).length-(xs.length+1)) .no) (λ_=>False) λy ε=>zN xs y/\zx 0 ε:=by
 rintro xs n ⟨b,rfl⟩;have hB:=vR;obtain ⟨t1,t2,t3⟩:=Ts;refine ⟨⟨n,rfl⟩,_,rfl,n,10,rfl,rfl,⟨by decide,by decide⟩,?_⟩;have a0:0<=n % 10:=yd _ (by decide);have a1:n % 10<10:=yn _ (by decide);cases b with
 |false=>exact vQ rfl ⟨_,rfl,⟨_,rfl,a0,by omega⟩,_,rfl⟩
 |true =>
  have b0:0<=n / 10 % 3:=yd _ (by decide);have b1:n / 10 % 3<3:=yn _ (by decide);refine JQ rfl ⟨_,y3 rfl (y3 rfl rfl pow27) (XO (a:=n % 10) (b:=T27) (by omega) (by omega) (by omega) (by omega)),⟨_,rfl⟩,_,rfl,n / 10,3,rfl,rfl,⟨by decide,by decide⟩,_,rfl,_,rfl,⟨_,rfl,?_,?_⟩,_,rfl⟩
  ·generalize n % 10=p at a0 a1 ⊢;have:=Int.mul_nonneg a0 (show 0<=T27 by omega);omega
  ·generalize n % 10=p at a0 a1 ⊢;have:p*T27<=9*T27:=uA (by omega) (by omega);omega
theorem HV (F:Fun K "_law_number" "_law_number" YJ f fd)(Ae:Fn P w K mg base 1 "_law_digit" ["row","many"] vN):FnOk P w K mg base v9 2 f fd ["row","great"] (spD zJ zN) :=
 okD (k:=1) (b:=Gy K) F sc_number Lp (λcdv A outer s H E hr=>⟨_,(@j3 _ _ _ _ _ (@qN _ _ 2 _ _ _ _ sc_number.nd rfl (Or.inl rfl) (qM Ae hr (by decide) rfl (@w5 _ _ _ _ _ (pv 0) (@w5 _ _ _ _ _ z0 u9 (by rfl)) (by rfl))) (by rfl) (.inl rfl))
  (@j3 _ _ _ _ _ (n8 (qD (K:=K) rfl (pv 1) (λ_=>rfl)) (@j4 _ _ _ (@qN _ _ 2 _ _ _ _ sc_number.nd rfl (Or.inl rfl) (u6 (xm (K:=K) rfl) (u6 (jV) (pv 2) (u6 (QK) z0 z0)) (qM Ae hr (by decide) rfl (@w5 _ _ _ _ _ (pv 0) (@w5 _ _ _ _ _ z0 u9 (by rfl)) (by rfl)))) (by rfl) (.inl rfl))) n9)
  (@j4 _ _ _ (y4 (pv 2))))),
  (by repeat' first|infer_instance|(refine @Mi.instSemWSTSeqWSeq _ _ _ _ ?_ ?_)|(apply @Mi.instSemWSTForWForOfSemWIOfSemWG))⟩) Ly
def jA (r:List Int):PV:= .lst (r.map λn=> .at (.int n))
def XZ:List PV->Prop:=λxs=>∃(h:Nat)(b:Bool),xs=[.at (.int h),.at (.bl b)]/\1<=h/\h<=4
def wY:List PV->PV->Prop:=λxs y=>∃(h:Nat)(b:Bool)(rss:List (List Int)),xs=[.at (.int h),.at (.bl b)]/\y=m5 rss/\h8 h rss
abbrev YL:Stmt:=top 63
abbrev GA (K:Fg):WS:=(wSeq (ql 3 (qB 0 (wP (dC (.int 4)))))
  (wSeq (wN 4 (xw x6))
  (wSeq (wFor (wIp (xx (q0 (x9 o6 (q9 1) (dC (.int 1))) x6))) (v8 5) (wSeq (ql 6 (jB [none,some 0,some 2] [0] (wIp (xx (q0 (q8 1) x6))) (v8 0) jj (zw 1 zJ zN (b8 (wP (q8 2)) qQ))))
  (wSeq (xB (wPT (dT (x9 qK (q9 3) (dC (.int 0))))) (ql 6 (wP (x9 pRep (xw (q0 (dC (.int 0)) x6)) (q9 1)))) xS)
  (wSeq (xB (wPT (dT (x9 qK (q9 3) (dC (.int 1))))) (ql 6 (jB [none,some 0] [0] (wIp (r6 (q8 6))) (v8 0) jj (xK zG (wP (q8 0)) (qB 1 (wP (dC (.int 2))))))) xS)
  (wM 4 (wP (q8 6)))))))
  (wFz 4 (qY (wP (q8 4)))))))
theorem sc_rinses:y6 ["row","hues","great","way","found","first","numbers"] ["row","hues","great"] (j9 YL):=u7
theorem Lr:∀ xs,XZ xs->xs.length+1=(["row","hues","great"]:List Str).length:=by rintro xs ⟨h,b,rfl,_⟩;rfl
structure Qa (h:Nat)(r:List Int):Prop where
 len:r.length=h
 lo:∀ v∈r,0<=v/\v<10 ^ 30
theorem LA {K:Fg}:∀ xs n,XZ xs->GA K (p9 n::xs.map .sh++List.replicate ((["row","hues","great","way","found","first","numbers"]:List Str).length-(xs.length+1)) .no) (λ_=>False) λy ε=>wY xs y/\zx 0 ε:=by
 rintro xs n ⟨h,b,rfl,h1,h4⟩;have hl:lim=1000000:=rfl;obtain ⟨t1,t2,t3⟩:=Ts;have eB:p5=10 ^ 30:=rfl;refine ⟨⟨n,rfl⟩,_,rfl,n,4,rfl,rfl,⟨by decide,by decide⟩,_,rfl,?_⟩;generalize n % 4=way;generalize n / 4=n1;refine ⟨zd 0 (h+1),jZ rfl (by omega),?_⟩;refine VX (λrest ε=>∃(m:Int)(rss:List (List Int))(s5 s6:MSlot),rss.length+rest.length=h+1/\(∀ r∈rss,Qa h r)/\ε=[p9 m,.sh (.at (.int (h:Int))),.sh (.at (.bl b)),.sh (.at (.int way)),.ow (.lst (rss.map jA)),s5,s6]) ?_ ?_ _ _ ⟨n1,[],_,_,by rw [vb];simp,(λ_ z=>nomatch z),rfl⟩
 ·rintro ε ⟨m,rss,s5,s6,e1,e2,rfl⟩;exact ⟨_,rfl,⟨h,b,rss,rfl,rfl,by simpa using e1,λr hr=>⟨(e2 r hr).len,(e2 r hr).lo⟩⟩,m,rfl⟩
 ·rintro x rest ε ⟨m,rss,s5,s6,e1,e2,rfl⟩;simp only [yE] at e1;refine ⟨_,rfl,zd 0 h,jZ rfl (by omega),rfl,by rw [vb];omega,?_⟩;have app:∀(m:Int)(r:List Int),Qa h r->wM 4 (wP (q8 6)) [p9 m,.sh (.at (.int (h:Int))),.sh (.at (.bl b)),.sh (.at (.int way)),.ow (.lst (rss.map jA)),.sh x,.sh (jA r)] (λε=>∃(m:Int)(rss:List (List Int))(s5 s6:MSlot),rss.length+rest.length=h+1/\(∀ r∈rss,Qa h r)/\ε=[p9 m,.sh (.at (.int (h:Int))),.sh (.at (.bl b)),.sh (.at (.int way)),.ow (.lst (rss.map jA)),s5,s6]) (λy ε=>wY [.at (.int h),.at (.bl b)] y/\zx 0 ε):=by
   intro m r hr;refine ⟨⟨_,rfl⟩,_,rfl,_,rfl,by rw [yZ];omega,m,rss++[r],.sh x,.sh (jA r),by rw [yM];simp;omega,?_,by rw [yv];rfl⟩;intro q hq;rcases uY.mp hq with hq|hq
   ·exact e2 q hq
   ·rw [yI.mp hq];exact hr
  have if1:∀(m:Int)(r:List Int),Qa h r->(wSeq (xB (wPT (dT (x9 qK (q9 3) (dC (.int 1))))) (ql 6 (jB [none,some 0] [0] (wIp (r6 (q8 6))) (v8 0) jj (xK zG (wP (q8 0)) (qB 1 (wP (dC (.int 2))))))) xS) (wM 4 (wP (q8 6)))) [p9 m,.sh (.at (.int (h:Int))),.sh (.at (.bl b)),.sh (.at (.int way)),.ow (.lst (rss.map jA)),.sh x,.sh (jA r)] (λε=>∃(m:Int)(rss:List (List Int))(s5 s6:MSlot),rss.length+rest.length=h+1/\(∀ r∈rss,Qa h r)/\ε=[p9 m,.sh (.at (.int (h:Int))),.sh (.at (.bl b)),.sh (.at (.int way)),.ow (.lst (rss.map jA)),s5,s6]) (λy ε=>wY [.at (.int h),.at (.bl b)] y/\zx 0 ε):=by
   intro m r hr;by_cases hw:way=1
   ·subst hw;refine JQ (c9 (v:=true) rfl) ⟨_,rfl,rfl,by rw [yZ,hr.len];omega,?_⟩;refine Xf (λtodo zs ε=>∃(m:Int)(done left:List Int),ε=[.no,p9 m]/\todo=left.map (λn=>PV.at (.int n))/\zs=done.map (λn=>PV.at (.int n))/\done.length+left.length=h/\(∀ v∈left,0<=v/\v<10 ^ 30)/\∀ v∈done,0<=v/\v<10 ^ 30) ?_ ?_ _ [] _ ⟨m,[],r,rfl,rfl,rfl,by rw [hr.len];simp,hr.lo,(λ_ z=>nomatch z)⟩
    ·rintro zs ε ⟨m2,done,left,rfl,z,rfl,g1,g2,g3⟩;have e:left=[]:=by cases left with|nil=>rfl|cons _ _=>cases z
     subst e;exact ⟨λ_=>⟨_,rfl⟩,app _ done ⟨by simpa using g1,g3⟩⟩
    ·rintro x2 rest2 zs ε ⟨m2,done,left,rfl,z,rfl,g1,g2,g3⟩;cases left with
     |nil=>cases z
     |cons v left =>
      rw [yO] at z;injection z with z1 z2;subst z1;simp only [yE] at g1;have v0:=g2 v yT;rw [<- eB] at v0;have c0:0<=m2 % 2:=yd _ (by decide);have c1:m2 % 2<2:=yn _ (by decide);refine ⟨_,rfl,_,rfl,⟨_,rfl⟩,_,rfl,m2,2,rfl,rfl,⟨by decide,by decide⟩,_,XO (a:=v) (b:=m2 % 2) (by omega) (by omega) (by omega) (by omega),m2 / 2,done++[v*(m2 % 2)],left,rfl,z2,by rw [yv];rfl,by rw [yM];simp;omega,λw hw=>g2 w (yV _ hw),λw hw=>?_⟩;rcases uY.mp hw with hw|hw
      ·exact g3 w hw
      ·rw [yI.mp hw,<- eB];have:m2 % 2=0∨m2 % 2=1:=by omega
       rcases this with e|e<;>rw [e]<;>omega
   ·refine vQ (c9 (v:=false) ?_) (app m r hr);show some (PV.at (.bl (decide (way=1))))=_;rw [yK hw]
  refine Xf (λrest2 zs ε=>∃(m:Int)(r:List Int),ε=[.no,p9 m,.sh (.at (.bl b))]/\zs=r.map (λn=>PV.at (.int n))/\r.length+rest2.length=h/\(∀ v∈r,0<=v/\v<10 ^ 30)) ?_ ?_ _ [] _ ⟨m,[],rfl,rfl,by rw [vb];simp,(λ_ z=>nomatch z)⟩
  ·rintro zs ε ⟨m2,r,rfl,rfl,g1,g2⟩;have hr:Qa h r:=⟨by simpa using g1,g2⟩;refine ⟨λ_=>⟨_,rfl⟩,?_⟩;by_cases hw:way=0
   ·subst hw;refine JQ (c9 (v:=true) rfl) ⟨jA (List.replicate h 0),?_,if1 m2 _ ⟨tZ,λv hv=>?_⟩⟩
    ·refine y3 (vn (xs:=[.at (.int 0)]) rfl l1) rfl ?_;show (if -(lim:Int)<=(h:Int)/\(h:Int)<=lim/\[PV.at (.int 0)].length*(h:Int).toNat<=lim then some (PV.lst (List.replicate (h:Int).toNat [PV.at (.int 0)]).flatten) else none)=_;rw [if_pos ⟨by omega,by omega,by simp;omega⟩];unfold jA;simp
    ·rw [List.eq_of_mem_replicate hv];decide
   ·refine vQ (c9 (v:=false) ?_) (if1 m2 r hr);show some (PV.at (.bl (decide (way=0))))=_;rw [yK hw]
  ·rintro x2 rest2 zs ε ⟨m2,r,rfl,rfl,g1,g2⟩;simp only [yE] at g1;refine ⟨_,rfl,⟨_,rfl⟩,_,rfl,⟨_,rfl⟩,⟨b,rfl⟩,?_⟩;rintro y n' ⟨v,rfl,v0,v1⟩;refine ⟨n',r++[v],rfl,by rw [yv];rfl,by rw [yM];simp;omega,λq hq=>?_⟩;rcases uY.mp hq with hq|hq
   ·exact g2 q hq
   ·rw [yI.mp hq,<- eB];exact ⟨v0,by omega⟩
theorem HX (F:Fun K "_law_rinses" "_law_rinses" YL f fd)(Ae:Fn P w K mg base 1 "_law_digit" ["row","many"] vN)(Av:Fn P w K mg base 2 "_law_number" ["row","great"] (spD zJ zN))(Ac:mg "range"=none):FnOk P w K mg base v9 3 f fd ["row","hues","great"] (spD XZ wY) :=
 okD (k:=2) (b:=GA K) F sc_rinses Lr (λcdv A outer s H E hr=>⟨_,(@j3 _ _ _ _ _ (@qN _ _ 3 _ _ _ _ sc_rinses.nd rfl (Or.inl rfl) (qM Ae hr (by decide) rfl (@w5 _ _ _ _ _ (pv 0) (@w5 _ _ _ _ _ z0 u9 (by rfl)) (by rfl))) (by rfl) (.inl rfl))
  (@j3 _ _ _ _ _ (@qN _ _ 4 _ _ _ _ sc_rinses.nd rfl (Or.inl rfl) (@zb _ _ _ _ u9) (by rfl) (.inl rfl))
  (@j3 _ _ _ _ _ (xn PassesOwn.never rfl (zr rfl Ac (@w5 _ _ _ _ _ (u6 (xm (K:=K) rfl) (pv 1) z0) u9 (by rfl))) (m7 (i:=5) sc_rinses.nd rfl (Or.inl rfl))
   (@j3 _ _ _ _ _ (wE (i:=6) (N':=["hue","row","great"]) (cap:=[none,some 0,some 2]) (f6 rfl rfl rfl) rfl sc_rinses.nd rfl rfl (zr rfl Ac (@w5 _ _ _ _ _ (pv 1) u9 (by rfl))) (λ_ _ _ _ _ _=>(m7 (i:=0) (by show (["hue","row","great"]:List Str).Nodup;decide +kernel) rfl (Or.inl rfl))) (λ_ _ _ _ _ _=>o8) (λ_ _ _ _ _ _=>(qM Av hr (by decide) rfl (@w5 _ _ _ _ _ (pv 1) (@w5 _ _ _ _ _ (pv 2) u9 (by rfl)) (by rfl)))))
  (@j3 _ _ _ _ _ (n8 (f9 (zY (K:=K) (qT hr) rfl) (pv 3) z0 (m9 _)) (@j4 _ _ _ (@qN _ _ 6 _ _ _ _ sc_rinses.nd rfl (Or.inl rfl) (u6 (Rt) (@zb _ _ _ _ (@w5 _ _ _ _ _ z0 u9 (by rfl))) (pv 1)) (by rfl) (.inl rfl))) n9)
  (@j3 _ _ _ _ _ (n8 (f9 (zY (K:=K) (qT hr) rfl) (pv 3) z0 (m9 _)) (@j4 _ _ _ (wE (i:=6) (N':=["number","row"]) (cap:=[none,some 0]) (f6 rfl rfl rfl) rfl sc_rinses.nd rfl rfl (@qi _ K _ _ _ rfl (pv 6)) (λ_ _ _ _ _ _=>(m7 (i:=0) (by show (["number","row"]:List Str).Nodup;decide +kernel) rfl (Or.inl rfl))) (λ_ _ _ _ _ _=>o8) (λ_ _ _ _ _ _=>(u6 (jV) (pv 0) (qM Ae hr (by decide) rfl (@w5 _ _ _ _ _ (pv 1) (@w5 _ _ _ _ _ z0 u9 (by rfl)) (by rfl))))))) n9)
  (@j4 _ _ _ (jc (ja (K:=K) rfl PySem.F.plainAttrs_list PySem.F.slot_list_append PySem.F.type_list_append XN (pv 4) (w5 (pv 6) u9))))))))
  (@j4 _ _ _ (y4 (pv 4)))))),
  (by repeat' first|infer_instance|(refine @Mi.instSemWSTSeqWSeq _ _ _ _ ?_ ?_)|(apply @Mi.instSemWSTForWForOfSemWIOfSemWG))⟩) LA
def twelve:List Str:=["b","ab","a","abc","ba","aa","z","abcdefgh","abcdefgi","zz","abcd","bb"]
theorem Ir:twelve.Nodup:=by decide +kernel
theorem Iu:∀ s∈twelve,wV s:=by
 have:∀ s∈twelve,(∀ c∈s.cps.toList,97<=c/\c<=122)/\1<=s.length/\s.length<=8:=by decide +kernel
 exact λs hs=>⟨(this s hs).1,(this s hs).2.1,(this s hs).2.2⟩
def XX:List PV->Prop:=λxs=>∃ k:Nat,xs=[.at (.int k)]/\k<=12
def Zy:List PV->PV->Prop:=λxs y=>∃ ss:List Str,y = .lst (j8 ss)/\xs=[.at (.int ss.length)]/\ss.Nodup/\∀ s∈ss,wV s
abbrev YH:Stmt:=top 64
abbrev Gw (K:Fg):WS:=(wSeq (wN 2 (xw (q0 (dC (.str "b")) (q0 (dC (.str "ab")) (q0 (dC (.str "a")) (q0 (dC (.str "abc")) (q0 (dC (.str "ba")) (q0 (dC (.str "aa")) (q0 (dC (.str "z")) (q0 (dC (.str "abcdefgh")) (q0 (dC (.str "abcdefgi")) (q0 (dC (.str "zz")) (q0 (dC (.str "abcd")) (q0 (dC (.str "bb")) x6))))))))))))))
  (qY (jB [none,some 2,some 0] [0] (wIp (xx (q0 (q8 1) x6))) (v8 0) jj (Zv 1 (qB 2 (wP (x8 o9 (q0 (q9 1) x6))))))))
theorem sc_names:y6 ["row","many","free"] ["row","many"] (j9 YH):=u7
theorem Ln:∀ xs,XX xs->xs.length+1=(["row","many"]:List Str).length:=by rintro xs ⟨k,rfl,_⟩;rfl
theorem Pd {free got all:List Str}(h:j<free.length)(p:(got++free).Perm all):((got++[free[j]])++free.eraseIdx j).Perm all:=by rw [uS];exact ((BY h).append_left got).trans p
theorem Lx {K:Fg}:∀ xs n,XX xs->Gw K (p9 n::xs.map .sh++List.replicate ((["row","many","free"]:List Str).length-(xs.length+1)) .no) (λ_=>False) λy ε=>Zy xs y/\zx 0 ε:=by
 rintro xs n ⟨k,rfl,hk⟩;have hl:lim=1000000:=rfl;have hB:=vR;refine ⟨_,rfl,?_⟩;refine ⟨zd 0 k,jZ rfl (by omega),rfl,by rw [vb];omega,?_⟩;refine Xf (λrest ys ε=>∃(m:Int)(free got:List Str),ε=[.no,.ow (.lst (j8 free)),p9 m]/\ys=j8 got/\got.length+rest.length=k/\(got++free).Perm twelve) ?_ ?_ (zd 0 k) [] _ ⟨n,twelve,[],rfl,rfl,by rw [vb];simp,.refl _⟩
 ·rintro ys ε ⟨m,free,got,rfl,rfl,h1,h2⟩;have nd:(got++free).Nodup:=h2.nodup_iff.mpr Ir;refine ⟨λ_=>⟨_,rfl⟩,⟨got,rfl,?_,(uq.mp nd).1,λs hs=>Iu s (h2.mem_iff.mp (uQ _ hs))⟩,m,rfl⟩;simp at h1;rw [h1]
 ·rintro x rest ys ε ⟨m,free,got,rfl,rfl,h1,h2⟩;simp only [yE] at h1;have hlen:=h2.length_eq;rw [yM,show twelve.length=12 from rfl] at hlen;refine ⟨_,rfl,?_⟩;have hf:0<free.length:=by omega
  have c0:0<=m % (((j8 free).length:Nat):Int):=yd _ (by rw [qW];omega);have c1:m % (((j8 free).length:Nat):Int)<(((j8 free).length:Nat):Int):=yn _ (by rw [qW];omega);refine ⟨⟨_,rfl⟩,⟨m,rfl⟩,_,rfl,m,(((j8 free).length:Nat):Int),rfl,rfl,vZ (by rw [qW];omega) (by rw [qW];omega),?_⟩;generalize hj:m % (((j8 free).length:Nat):Int)=j at c0 c1;rw [qW] at c1;have hjl:j.toNat<free.length:=by omega
  refine ⟨j8 free,j,.at (.str free[j.toNat]),rfl,rfl,c0,by rw [qW];exact c1,by rw [qW];omega,?_,?_⟩
  ·unfold j8;rw [yP,yY hjl];rfl
  ·refine ⟨m / (((j8 free).length:Nat):Int),free.eraseIdx j.toNat,got++[free[j.toNat]],?_,?_,?_,Pd hjl h2⟩
   ·show [MSlot.no,MSlot.ow (.lst ((j8 free).eraseIdx j.toNat)),p9 _]=_;unfold j8;rw [Vv]
   ·unfold j8;rw [yv];rfl
   ·rw [yM];simp only [yE,List.length_nil];omega
theorem HS (F:Fun K "_law_names" "_law_names" YH f fd)(Ae:Fn P w K mg base 1 "_law_digit" ["row","many"] vN)(Ad:mg "len"=none)(Ac:mg "range"=none):FnOk P w K mg base v9 2 f fd ["row","many"] (spD XX Zy) :=
 okD (k:=1) (b:=Gw K) F sc_names Ln (λcdv A outer s H E hr=>⟨_,(@j3 _ _ _ _ _ (@qN _ _ 2 _ _ _ _ sc_names.nd rfl (Or.inr rfl) (@zb _ _ _ _ (@w5 _ _ _ _ _ zc (@w5 _ _ _ _ _ zc (@w5 _ _ _ _ _ zc (@w5 _ _ _ _ _ zc (@w5 _ _ _ _ _ zc (@w5 _ _ _ _ _ zc (@w5 _ _ _ _ _ zc (@w5 _ _ _ _ _ zc (@w5 _ _ _ _ _ zc (@w5 _ _ _ _ _ zc (@w5 _ _ _ _ _ zc (@w5 _ _ _ _ _ zc u9 (by rfl)) (by rfl)) (by rfl)) (by rfl)) (by rfl)) (by rfl)) (by rfl)) (by rfl)) (by rfl)) (by rfl)) (by rfl)) (by rfl))) (by rfl) (.inl rfl))
  (@j4 _ _ _ (y4 (qw (N':=["k","free","row"]) (cap:=[none,some 2,some 0]) (f6 rfl rfl rfl) rfl (zr rfl Ac (@w5 _ _ _ _ _ (pv 1) u9 (by rfl))) (λ_ _ _ _ _ _=>(m7 (i:=0) (by show (["k","free","row"]:List Str).Nodup;decide +kernel) rfl (Or.inl rfl))) (λ_ _ _ _ _ _=>o8) (λ_ _ _ _ _ _=>(ja (K:=K) rfl PySem.F.plainAttrs_list PySem.F.slot_list_pop PySem.F.type_list_pop Wi (pv 1) (w5 (qM Ae hr (by decide) rfl (@w5 _ _ _ _ _ (pv 2) (@w5 _ _ _ _ _ (k9 (xb (K:=K) rfl) rfl Ad PySem.boot_len (@w5 _ _ _ _ _ (pv 1) u9 (by rfl))) u9 (by rfl)) (by rfl))) u9))))))),
  (by repeat' first|infer_instance|(refine @Mi.instSemWSTSeqWSeq _ _ _ _ ?_ ?_)|(apply @Mi.instSemWSTForWForOfSemWIOfSemWG))⟩) Lx
def QS:List PV->Prop:=λxs=>∃(s:Str)(h:Nat)(b:Bool),xs=[.at (.str s),.at (.int h),.at (.bl b)]/\wV s/\1<=h/\h<=4
def wW:List PV->PV->Prop:=λxs y=>∃(s:Str)(h:Nat)(b:Bool)(c:Cl),xs=[.at (.str s),.at (.int h),.at (.bl b)]/\y=c.pv/\c.name=s/\c.Ok h
abbrev Ye:Stmt:=top 65
abbrev US (K:Fg):WS:=(wSeq (ql 4 (xK vF (qB 0 (wP (dC (.int 40)))) (wP (dC (.int 6)))))
  (wSeq (xB (wPT (r9 (q9 3))) (ql 4 (xK o6 (wP (x9 zG (q9 4) (x9 pPow (dC (.int 10)) (dC (.int 26))))) (qB 0 (wP (dC (.int 3)))))) xS)
  (qY (QW (b8 (wP (q8 1)) (b8 (qB 0 (wP (q8 2))) (b8 (xK o6 (wP (dC (.int 1))) (zw 0 zJ zN (b8 (wP (q8 3)) qQ))) (b8 (wP (q8 4)) (b8 (xK o6 (wP (dC (.int 1))) (qB 0 (wP (dC (.int 9))))) qQ)))))))))
theorem sc_cloth:y6 ["row","name","hues","great","due"] ["row","name","hues","great"] (j9 Ye):=u7
theorem Lm:∀ xs,QS xs->xs.length+1=(["row","name","hues","great"]:List Str).length:=by rintro xs ⟨s,h,b,rfl,_⟩;rfl
theorem Lu {K:Fg}:∀ xs n,QS xs->US K (p9 n::xs.map .sh++List.replicate ((["row","name","hues","great","due"]:List Str).length-(xs.length+1)) .no) (λ_=>False) λy ε=>wW xs y/\zx 0 ε:=by
 rintro xs n ⟨s,h,b,rfl,hs,h1,h4⟩;have hB:=vR;obtain ⟨t1,t2,t3⟩:=Ts;have rest:∀(n due:Int),-p5<=due->due<=p5->((qY (QW (b8 (wP (q8 1)) (b8 (qB 0 (wP (q8 2))) (b8 (xK o6 (wP (dC (.int 1))) (zw 0 zJ zN (b8 (wP (q8 3)) qQ))) (b8 (wP (q8 4)) (b8 (xK o6 (wP (dC (.int 1))) (qB 0 (wP (dC (.int 9))))) qQ))))))):WS) [p9 n,.sh (.at (.str s)),.sh (.at (.int (h:Int))),.sh (.at (.bl b)),.sh (.at (.int due))] (λ_=>False) λy ε=>wW [.at (.str s),.at (.int h),.at (.bl b)] y/\zx 0 ε:=by intro n due d1 d2;refine ⟨_,rfl,⟨_,rfl⟩,_,rfl,n,(h:Int),rfl,rfl,vZ (by omega) (by omega),_,rfl,⟨_,rfl⟩,_,rfl,⟨_,rfl⟩,⟨b,rfl⟩,?_⟩;rintro y n' ⟨v,rfl,v0,v1⟩;have u0:0<=n % (h:Int):=yd _ (by omega);have u1:n % (h:Int)<h:=yn _ (by omega);obtain ⟨u,hu⟩:=yr u0;rw [hu] at u1 ⊢;have w0:0<=n' % 9:=yd _ (by decide);have w1:n' % 9<9:=yn _ (by decide);exact ⟨_,rfl,_,rfl,_,rfl,⟨_,rfl⟩,_,rfl,n',9,rfl,rfl,⟨by decide,by decide⟩,_,rfl,l5,⟨s,h,b,⟨s,u,1+v,due,1+n' % 9⟩,rfl,rfl,rfl,⟨hs,(show u<h by omega),(show (1:Int)<=1+v by omega),(show 1+v<=p5 by omega),d1,d2,(show (1:Int)<=1+n' % 9 by omega),(show 1+n' % 9<=p5 by omega)⟩⟩,_,rfl⟩
 refine ⟨⟨n,rfl⟩,_,rfl,n,40,rfl,rfl,⟨by decide,by decide⟩,_,rfl,_,rfl,?_⟩;have a0:0<=n % 40:=yd _ (by decide);have a1:n % 40<40:=yn _ (by decide);generalize n % 40=p at a0 a1 ⊢;generalize n / 40=n1;cases b with
 |false=>exact vQ rfl (rest _ _ (by omega) (by omega))
 |true=>have b0:0<=n1 % 3:=yd _ (by decide);have b1:n1 % 3<3:=yn _ (by decide);have m1:(p-6)*T26<=34*T26:=uA (by omega) (by omega);have m2:-6*T26<=(p-6)*T26:=uA (by omega) (by omega);exact JQ rfl ⟨_,y3 rfl (y3 rfl rfl pow26) (XO (a:=p-6) (b:=T26) (by omega) (by omega) (by omega) (by omega)),⟨_,rfl⟩,_,rfl,n1,3,rfl,rfl,⟨by decide,by decide⟩,_,rfl,rest _ _ (by omega) (by omega)⟩
theorem Hk (F:Fun K "_law_cloth" "_law_cloth" Ye f fd)(Ae:Fn P w K mg base 1 "_law_digit" ["row","many"] vN)(Av:Fn P w K mg base 2 "_law_number" ["row","great"] (spD zJ zN)):FnOk P w K mg base v9 3 f fd ["row","name","hues","great"] (spD QS wW) :=
 okD (k:=2) (b:=US K) F sc_cloth Lm (λcdv A outer s H E hr=>⟨_,(@j3 _ _ _ _ _ (@qN _ _ 4 _ _ _ _ sc_cloth.nd rfl (Or.inl rfl) (u6 (XS) (qM Ae hr (by decide) rfl (@w5 _ _ _ _ _ (pv 0) (@w5 _ _ _ _ _ z0 u9 (by rfl)) (by rfl))) z0) (by rfl) (.inl rfl))
  (@j3 _ _ _ _ _ (n8 (qD (K:=K) rfl (pv 3) (λ_=>rfl)) (@j4 _ _ _ (@qN _ _ 4 _ _ _ _ sc_cloth.nd rfl (Or.inl rfl) (u6 (xm (K:=K) rfl) (u6 (jV) (pv 4) (u6 (QK) z0 z0)) (qM Ae hr (by decide) rfl (@w5 _ _ _ _ _ (pv 0) (@w5 _ _ _ _ _ z0 u9 (by rfl)) (by rfl)))) (by rfl) (.inl rfl))) n9)
  (@j4 _ _ _ (y4 (@xp _ _ _ _ _ (@w5 _ _ _ _ _ (pv 1) (@w5 _ _ _ _ _ (qM Ae hr (by decide) rfl (@w5 _ _ _ _ _ (pv 0) (@w5 _ _ _ _ _ (pv 2) u9 (by rfl)) (by rfl))) (@w5 _ _ _ _ _ (u6 (xm (K:=K) rfl) z0 (qM Av hr (by decide) rfl (@w5 _ _ _ _ _ (pv 0) (@w5 _ _ _ _ _ (pv 3) u9 (by rfl)) (by rfl)))) (@w5 _ _ _ _ _ (pv 4) (@w5 _ _ _ _ _ (u6 (xm (K:=K) rfl) z0 (qM Ae hr (by decide) rfl (@w5 _ _ _ _ _ (pv 0) (@w5 _ _ _ _ _ z0 u9 (by rfl)) (by rfl)))) u9 (by rfl)) (by rfl)) (by rfl)) (by rfl)) (by rfl))))))),
  (by repeat' first|infer_instance|(refine @Mi.instSemWSTSeqWSeq _ _ _ _ ?_ ?_)|(apply @Mi.instSemWSTForWForOfSemWIOfSemWG))⟩) Lu
def XY (K:Fg):List PV->Prop:=λxs=>∃(ns:List Int)(m:Nat),xs=[scr K ns,.at (.int m)]/\ns.length<=63/\m<=10
def wX:List PV->PV->Prop:=λxs y=>∃(d:Dr)(z:PV)(m:Nat),xs=[z,.at (.int m)]/\y=d.pv/\d.Ok/\d.cls.length<=m
abbrev YK:Stmt:=top 66
abbrev Gz (K:Fg):WS:=(wSeq (JO 2 (wD K) vT (b8 (wP (q8 0)) (b8 (wP (dC (.int 0))) qQ)))
  (wSeq (ql 3 (xK qK (qB 2 (wP (dC (.int 6)))) (wP (dC (.int 5)))))
  (wSeq (ql 4 (xK o6 (wP (dC (.int 1))) (qB 2 (wP (dC (.int 4))))))
  (wSeq (ql 5 (zw 2 XZ wY (b8 (wP (q8 4)) (b8 (wP (q8 3)) qQ))))
  (wSeq (JO 6 (wD K) vT (b8 (wP (q8 0)) (b8 (wP (dC (.int 1))) qQ)))
  (wSeq (ql 7 (zw 6 XX Zy (b8 (qB 6 (wP (x9 o6 (q9 1) (dC (.int 1))))) qQ)))
  (wSeq (ql 8 (jB [none,some 6,some 4,some 3] [0] (wIp (r6 (q8 7))) (v8 0) jj (zw 1 QS wW (b8 (wP (q8 0)) (b8 (wP (q8 2)) (b8 (wP (q8 3)) qQ))))))
  (qY (QW (b8 (wP (q8 5)) (b8 (wP (q8 8)) (b8 (xK vF (qB 2 (wP (x9 o6 (q9 4) (dC (.int 1))))) (wP (dC (.int 1)))) (b8 (zw 2 zJ zN (b8 (wP (q8 3)) qQ)) qQ)))))))))))))
theorem sc_parts:y6 ["script","most","row","great","hues","rinses","more","names","cloths"] ["script","most"] (j9 YK):=u7
theorem Lq {K:Fg}:∀ xs,XY K xs->xs.length=(["script","most"]:List Str).length:=by rintro xs ⟨ns,m,rfl,_⟩;rfl
theorem Lz {K:Fg}:∀ xs,XY K xs->Gz K (xs.map .sh++List.replicate ((["script","most","row","great","hues","rinses","more","names","cloths"]:List Str).length-xs.length) .no) (λ_=>False) λy _=>wX xs y:=by
 rintro xs ⟨ns,mo,rfl,h63,hmo⟩;have hB:=vR;obtain ⟨t1,t2,t3⟩:=Ts;have hlim:lim=1000000:=rfl;refine ⟨_,rfl,_,rfl,⟨ns,0,rfl,h63,by decide,by decide⟩,?_⟩;rintro y ⟨n,rfl⟩
 -- great,hues
 refine ⟨⟨n,rfl⟩,_,rfl,n,6,rfl,rfl,⟨by decide,by decide⟩,_,rfl,_,rfl,?_⟩;generalize qo (.int (n % 6)) (.int 5)=great;generalize n / 6=n1;refine ⟨_,rfl,⟨_,rfl⟩,_,rfl,n1,4,rfl,rfl,⟨by decide,by decide⟩,_,rfl,?_⟩;have a0:0<=n1 % 4:=yd _ (by decide);have a1:n1 % 4<4:=yn _ (by decide);obtain ⟨h,hh⟩:=yr (show 0<=1+n1 % 4 by omega);generalize n1 / 4=n2;have hh1:1<=h:=by omega
 have hh4:h<=4:=by omega
 rw [hh];clear a0 a1 hh
 -- rinses
 refine ⟨⟨_,rfl⟩,_,rfl,_,rfl,⟨_,rfl⟩,⟨h,great,rfl,hh1,hh4⟩,?_⟩;rintro y n3 ⟨h',b',rss,e,rfl,hr⟩;have e':h'=h:=by injection e with e _;injection e with e;injection e with e;omega
 subst e';have fin:∀(n3 m:Int)(z:MSlot)(cs:List Cl),cs.length<=10->cs.length<=mo->(∀ c∈cs,c.Ok h')->(cs.map Cl.name).Nodup->((qY (QW (b8 (wP (q8 5)) (b8 (wP (q8 8)) (b8 (xK vF (qB 2 (wP (x9 o6 (q9 4) (dC (.int 1))))) (wP (dC (.int 1)))) (b8 (zw 2 zJ zN (b8 (wP (q8 3)) qQ)) qQ)))))):WS) [.sh (scr K ns),.sh (.at (.int (mo:Int))),p9 n3,.sh (.at (.bl great)),.sh (.at (.int (h':Int))),.sh (m5 rss),p9 m,z,.sh (.lst (cs.map Cl.pv))] (λ_=>False) λy _=>wX [scr K ns,.at (.int (mo:Int))] y:=by intro n3 m z cs l10 lmo g1 nd;have d0:0<=n3 % ((h':Int)+1):=yd _ (by omega);have d1:n3 % ((h':Int)+1)<(h':Int)+1:=yn _ (by omega);refine ⟨_,rfl,_,rfl,⟨n3,rfl⟩,_,rfl,n3,(h':Int)+1,rfl,rfl,vZ (by omega) (by omega),_,rfl,_,rfl,⟨_,rfl⟩,_,rfl,⟨_,rfl⟩,⟨great,rfl⟩,?_⟩;rintro y n4 ⟨ti,rfl,ti0,ti1⟩;exact ⟨by show 4<=lim;decide,⟨h',rss,cs,n3 % ((h':Int)+1)-1,ti⟩,scr K ns,mo,rfl,rfl,⟨hh1,hh4,hr,l10,g1,nd,(by show -1<=n3 % ((h':Int)+1)-1;omega),(by show n3 % ((h':Int)+1)-1<(h':Int);omega),ti0,(by show ti<60*p5;omega)⟩,lmo⟩
 -- cloths
 have cloths:∀(n3 q2:Int)(ss:List Str)(k:Nat),ss.length=k->k<=mo->ss.Nodup->(∀ s∈ss,wV s)->((wSeq (ql 8 (jB [none,some 6,some 4,some 3] [0] (wIp (r6 (q8 7))) (v8 0) jj (zw 1 QS wW (b8 (wP (q8 0)) (b8 (wP (q8 2)) (b8 (wP (q8 3)) qQ))))))
  (qY (QW (b8 (wP (q8 5)) (b8 (wP (q8 8)) (b8 (xK vF (qB 2 (wP (x9 o6 (q9 4) (dC (.int 1))))) (wP (dC (.int 1)))) (b8 (zw 2 zJ zN (b8 (wP (q8 3)) qQ)) qQ))))))):WS) [.sh (scr K ns),.sh (.at (.int (mo:Int))),p9 n3,.sh (.at (.bl great)),.sh (.at (.int (h':Int))),.sh (m5 rss),p9 q2,.sh (.lst (j8 ss)),.no] (λ_=>False) λy _=>wX [scr K ns,.at (.int (mo:Int))] y:=by
  intro n3 q2 ss k el hkm nd nok;refine ⟨_,rfl,rfl,by rw [qW];omega,?_⟩;refine Xf (λrest ys ε=>∃(m:Int)(todo:List Str)(cs:List Cl),rest=j8 todo/\ε=[.no,p9 m,.sh (.at (.int (h':Int))),.sh (.at (.bl great))]/\ys=cs.map Cl.pv/\cs.map Cl.name++todo=ss/\(∀ c∈cs,c.Ok h')) ?_ ?_ _ [] _ ⟨q2,ss,[],rfl,rfl,rfl,rfl,(λ_ z=>nomatch z)⟩
  ·rintro ys ε ⟨m,todo,cs,e2,rfl,rfl,e3,g1⟩;have:todo=[]:=by
    cases todo with
    |nil=>rfl
    |cons _ _=>cases e2
   subst this;rw [yp] at e3;have cl:cs.length=k:=by rw [<- el,<- e3,yZ]
   refine ⟨(λ⟨y,e⟩=>nomatch (show some (MSlot.sh (scr K ns))=some (MSlot.ow y) from e)),?_⟩;exact fin n3 m _ cs (by omega) (by omega) g1 (by rw [e3];exact nd)
  ·rintro x rest ys ε ⟨m,todo,cs,e2,rfl,rfl,e3,g1⟩;cases todo with
   |nil=>cases e2
   |cons s todo =>
    have e2':x = .at (.str s)/\rest=j8 todo:=by injection e2 with e4 e5;exact ⟨e4,e5⟩
    obtain ⟨rfl,rfl⟩:=e2';have hs:s∈ss:=by rw [<- e3];exact yu _ yT
    refine ⟨_,rfl,⟨_,rfl⟩,_,rfl,_,rfl,_,rfl,⟨_,rfl⟩,⟨s,h',great,rfl,nok s hs,hh1,hh4⟩,?_⟩;rintro y m2 ⟨s2,h2,b2,c,e4,rfl,en,ok⟩;injection e4 with e4 e5;injection e4 with e4;injection e4 with e4;injection e5 with e5 _;injection e5 with e5;injection e5 with e5;have e6:h'=h2:=by omega
    subst e4 e6;refine ⟨m2,todo,cs++[c],rfl,rfl,by rw [yv];rfl,by rw [yv,uS,<- e3];show _++(c.name::todo)=_;rw [en],λx hx=>?_⟩;rcases uY.mp hx with hx|hx
    ·exact g1 x hx
    ·rw [yI.mp hx];exact ok
 -- names
 refine ⟨_,rfl,_,rfl,⟨ns,1,rfl,h63,by decide,by decide⟩,?_⟩;rintro y ⟨q,rfl⟩;have c0:0<=q % ((mo:Int)+1):=yd _ (by omega);have c1:q % ((mo:Int)+1)<(mo:Int)+1:=yn _ (by omega);obtain ⟨k,hk⟩:=yr c0;refine ⟨⟨_,rfl⟩,⟨_,rfl⟩,_,rfl,q,(mo:Int)+1,rfl,rfl,vZ (by omega) (by omega),⟨_,rfl⟩,⟨k,by rw [hk],by omega⟩,?_⟩;rintro y q2 ⟨ss,rfl,e1,nd,nok⟩;have el:ss.length=k:=by injection e1 with e1 _;injection e1 with e1;injection e1 with e1;rw [hk] at e1;omega
 exact cloths n3 q2 ss k el (by omega) nd nok
theorem HW (F:Fun K "_law_parts" "_law_parts" YK f fd)(N6:Fn P w K mg base 3 "_law_cloth" ["row","name","hues","great"] (spD QS wW))(Ae:Fn P w K mg base 1 "_law_digit" ["row","many"] vN)(J2:Fn P w K mg base 2 "_law_names" ["row","many"] (spD XX Zy))(Av:Fn P w K mg base 2 "_law_number" ["row","great"] (spD zJ zN))(Ew:Fn P w K mg base 3 "_law_rinses" ["row","hues","great"] (spD XZ wY))(A8:Fn P w K mg base 2 "_law_stream" ["script","k"] (spN (wD K) vT)):FnOk P w K mg base v9 4 f fd ["script","most"] (spV (XY K) wX) :=
 okV (k:=3) (b:=Gz K) F sc_parts Lq (λcdv A outer s H E hr=>⟨_,(@j3 _ _ _ _ _ (@qN _ _ 2 _ _ _ _ sc_parts.nd rfl (Or.inl rfl) (qM A8 hr (by decide) rfl (@w5 _ _ _ _ _ (pv 0) (@w5 _ _ _ _ _ z0 u9 (by rfl)) (by rfl))) (by rfl) (.inl rfl))
  (@j3 _ _ _ _ _ (@qN _ _ 3 _ _ _ _ sc_parts.nd rfl (Or.inr rfl) (jX (zY (K:=K) (qT hr) rfl) (qM Ae hr (by decide) rfl (@w5 _ _ _ _ _ (pv 2) (@w5 _ _ _ _ _ z0 u9 (by rfl)) (by rfl))) z0 (m9 _)) (by rfl) (.inl rfl))
  (@j3 _ _ _ _ _ (@qN _ _ 4 _ _ _ _ sc_parts.nd rfl (Or.inr rfl) (u6 (xm (K:=K) rfl) z0 (qM Ae hr (by decide) rfl (@w5 _ _ _ _ _ (pv 2) (@w5 _ _ _ _ _ z0 u9 (by rfl)) (by rfl)))) (by rfl) (.inl rfl))
  (@j3 _ _ _ _ _ (@qN _ _ 5 _ _ _ _ sc_parts.nd rfl (Or.inl rfl) (qM Ew hr (by decide) rfl (@w5 _ _ _ _ _ (pv 2) (@w5 _ _ _ _ _ (pv 4) (@w5 _ _ _ _ _ (pv 3) u9 (by rfl)) (by rfl)) (by rfl))) (by rfl) (.inl rfl))
  (@j3 _ _ _ _ _ (@qN _ _ 6 _ _ _ _ sc_parts.nd rfl (Or.inr rfl) (qM A8 hr (by decide) rfl (@w5 _ _ _ _ _ (pv 0) (@w5 _ _ _ _ _ z0 u9 (by rfl)) (by rfl))) (by rfl) (.inl rfl))
  (@j3 _ _ _ _ _ (@qN _ _ 7 _ _ _ _ sc_parts.nd rfl (Or.inl rfl) (qM J2 hr (by decide) rfl (@w5 _ _ _ _ _ (pv 6) (@w5 _ _ _ _ _ (qM Ae hr (by decide) rfl (@w5 _ _ _ _ _ (pv 6) (@w5 _ _ _ _ _ (u6 (xm (K:=K) rfl) (pv 1) z0) u9 (by rfl)) (by rfl))) u9 (by rfl)) (by rfl))) (by rfl) (.inl rfl))
  (@j3 _ _ _ _ _ (wE (i:=8) (N':=["name","more","hues","great"]) (cap:=[none,some 6,some 4,some 3]) (f6 rfl rfl rfl) rfl sc_parts.nd rfl rfl (@qi _ K _ _ _ rfl (pv 7)) (λ_ _ _ _ _ _=>(m7 (i:=0) (by show (["name","more","hues","great"]:List Str).Nodup;decide +kernel) rfl (Or.inl rfl))) (λ_ _ _ _ _ _=>o8) (λ_ _ _ _ _ _=>(qM N6 hr (by decide) rfl (@w5 _ _ _ _ _ (pv 1) (@w5 _ _ _ _ _ (pv 0) (@w5 _ _ _ _ _ (pv 2) (@w5 _ _ _ _ _ (pv 3) u9 (by rfl)) (by rfl)) (by rfl)) (by rfl)))))
  (@j4 _ _ _ (y4 (@xp _ _ _ _ _ (@w5 _ _ _ _ _ (pv 5) (@w5 _ _ _ _ _ (pv 8) (@w5 _ _ _ _ _ (u6 (XS) (qM Ae hr (by decide) rfl (@w5 _ _ _ _ _ (pv 2) (@w5 _ _ _ _ _ (u6 (xm (K:=K) rfl) (pv 4) z0) u9 (by rfl)) (by rfl))) z0) (@w5 _ _ _ _ _ (qM Av hr (by decide) rfl (@w5 _ _ _ _ _ (pv 2) (@w5 _ _ _ _ _ (pv 3) u9 (by rfl)) (by rfl))) u9 (by rfl)) (by rfl)) (by rfl)) (by rfl)))))))))))),
  (by repeat' first|infer_instance|(refine @Mi.instSemWSTSeqWSeq _ _ _ _ ?_ ?_)|(apply @Mi.instSemWSTForWForOfSemWIOfSemWG))⟩) Lz
def Za:List PV->Prop:=λxs=>∃ d:Dr,xs=[d.pv]/\d.Ok
def Xb:List PV->PV->Prop:=λxs y=>∃(d:Dr)(os:List Str),xs=[d.pv]/\y = .lst (j8 os)/\os.Nodup/\∀ s∈os,s∈d.cls.map Cl.name
abbrev YM:Stmt:=top 72
abbrev GB (K:Fg):WS:=(wSeq (wN 2 (m8 [none] [0] (r6 (x9 w9 (q9 1) (dC (.int 1)))) (v8 0) n5 (x9 w9 (q9 0) (dC (.int 0)))))
  (wSeq (ql 3 (wP (x8 o9 (q0 (q9 2) x6))))
  (wSeq (xB (wT (xK qK (qB 0 (wP (dC (.int 3)))) (wP (dC (.int 0))))) (ql 3 (qB 0 (wP (x9 o6 (x8 o9 (q0 (q9 2) x6)) (dC (.int 1)))))) xS)
  (qY (jB [none,some 2,some 0] [0] (wIp (xx (q0 (q8 3) x6))) (v8 0) jj (Zv 1 (qB 2 (wP (x8 o9 (q0 (q9 1) x6))))))))))
theorem sc_some:y6 ["row","parts","free","many"] ["row","parts"] (j9 YM):=u7
theorem Ls:∀ xs,Za xs->xs.length+1=(["row","parts"]:List Str).length:=by rintro xs ⟨d,rfl,_⟩;rfl
theorem LB {K:Fg}:∀ xs n,Za xs->GB K (p9 n::xs.map .sh++List.replicate ((["row","parts","free","many"]:List Str).length-(xs.length+1)) .no) (λ_=>False) λy ε=>Xb xs y/\zx 0 ε:=by
 rintro xs n ⟨d,rfl,ok⟩;have hl:lim=1000000:=rfl;have hB:=vR;have ten:=ok.ten;have fr:m8 [none] [0] (r6 (x9 w9 (q9 1) (dC (.int 1)))) (v8 0) n5 (x9 w9 (q9 0) (dC (.int 0))) [p9 n,.sh d.pv,.no,.no]=some (.lst (j8 (d.cls.map Cl.name))):=by refine (qS Cl.pv (λc=>PV.at (.str c.name)) d.cls rfl rfl (by omega) λc _=>⟨_,rfl,rfl⟩).trans ?_;unfold j8;rw [yt];rfl
 refine ⟨_,fr,_,rfl,?_⟩;generalize hall:d.cls.map Cl.name=all;have al:all.length<=10:=by rw [<- hall,yZ];exact ten
 have rest:∀(n:Int)(k:Nat),k<=all.length->((qY (jB [none,some 2,some 0] [0] (wIp (xx (q0 (q8 3) x6))) (v8 0) jj (Zv 1 (qB 2 (wP (x8 o9 (q0 (q9 1) x6))))))):WS) [p9 n,.sh d.pv,.ow (.lst (j8 all)),.sh (.at (.int (k:Int)))] (λ_=>False) λy ε=>Xb [d.pv] y/\zx 0 ε:=by
  intro n k hk;refine ⟨zd 0 k,jZ rfl (by omega),rfl,by rw [vb];omega,?_⟩;refine Xf (λrest ys ε=>∃(m:Int)(free got:List Str),ε=[.no,.ow (.lst (j8 free)),p9 m]/\ys=j8 got/\got.length+rest.length=k/\(got++free).Perm all) ?_ ?_ (zd 0 k) [] _ ⟨n,all,[],rfl,rfl,by rw [vb];simp,.refl _⟩
  ·rintro ys ε ⟨m,free,got,rfl,rfl,h1,h2⟩;have nd:(got++free).Nodup:=h2.nodup_iff.mpr (hall▸ok.nd);exact ⟨λ_=>⟨_,rfl⟩,⟨d,got,rfl,rfl,(uq.mp nd).1,λs hs=>hall▸h2.mem_iff.mp (uQ _ hs)⟩,m,rfl⟩
  ·rintro x rest ys ε ⟨m,free,got,rfl,rfl,h1,h2⟩;simp only [yE] at h1;have hlen:=h2.length_eq;rw [yM] at hlen;refine ⟨_,rfl,?_⟩;have hf:0<free.length:=by omega
   have c0:0<=m % (((j8 free).length:Nat):Int):=yd _ (by rw [qW];omega);have c1:m % (((j8 free).length:Nat):Int)<(((j8 free).length:Nat):Int):=yn _ (by rw [qW];omega);refine ⟨⟨_,rfl⟩,⟨m,rfl⟩,_,rfl,m,(((j8 free).length:Nat):Int),rfl,rfl,vZ (by rw [qW];omega) (by rw [qW];omega),?_⟩;generalize hj:m % (((j8 free).length:Nat):Int)=j at c0 c1;rw [qW] at c1;have hjl:j.toNat<free.length:=by omega
   refine ⟨j8 free,j,.at (.str free[j.toNat]),rfl,rfl,c0,by rw [qW];exact c1,by rw [qW];omega,?_,?_⟩
   ·unfold j8;rw [yP,yY hjl];rfl
   ·refine ⟨m / (((j8 free).length:Nat):Int),free.eraseIdx j.toNat,got++[free[j.toNat]],?_,?_,?_,Pd hjl h2⟩
    ·show [MSlot.no,MSlot.ow (.lst ((j8 free).eraseIdx j.toNat)),p9 _]=_;unfold j8;rw [Vv]
    ·unfold j8;rw [yv];rfl
    ·rw [yM];simp only [yE,List.length_nil];omega
 refine ⟨⟨_,rfl⟩,_,rfl,n,3,rfl,rfl,⟨by decide,by decide⟩,_,rfl,_,rfl,decide (n % 3=0),rfl,?_⟩;have sl:(j8 all).length=all.length:=qW _;by_cases hk:n % 3=0
 ·refine Eq.mpr (if_pos (yH hk)) ?_;have c0:0<=n / 3 % (((j8 all).length:Int)+1):=yd _ (by omega);have c1:n / 3 % (((j8 all).length:Int)+1)<((j8 all).length:Int)+1:=yn _ (by omega);obtain ⟨k,hk⟩:=yr c0;refine ⟨⟨_,rfl⟩,_,rfl,n / 3,((j8 all).length:Int)+1,rfl,rfl,vZ (by omega) (by omega),?_⟩;rw [hk];exact rest _ k (by omega)
 ·refine Eq.mpr (if_neg (by rw [yK hk];exact yS)) ?_;have:=rest (n / 3) all.length (yW _);rw [<- sl] at this;exact this
theorem HY (F:Fun K "_law_some" "_law_some" YM f fd)(Ae:Fn P w K mg base 1 "_law_digit" ["row","many"] vN)(Ad:mg "len"=none)(Ac:mg "range"=none):FnOk P w K mg base v9 2 f fd ["row","parts"] (spD Za Xb) :=
 okD (k:=1) (b:=GB K) F sc_some Ls (λcdv A outer s H E hr=>⟨_,(j3 (sW 2 sc_some.nd (qw (N':=["cloth"]) (cap:=[none]) (f6 rfl rfl rfl) rfl (@qi _ K _ _ _ rfl (iW (K:=K) rfl (pv 1) z0)) (λ_ _ _ _ _ _=>(m7 (i:=0) (by show (["cloth"]:List Str).Nodup;decide +kernel) rfl (Or.inl rfl))) (λ_ _ _ _ _ _=>o8) (λ_ _ _ _ _ _=>(iW (K:=K) rfl (pv 0) z0))))
  (j3 (sW 3 sc_some.nd (k9 (xb (K:=K) rfl) rfl Ad PySem.boot_len (aW (pv 2))))
  (j3 (n8 (f9 (zY (K:=K) (qT hr) rfl) (fW Ae hr (aC (pv 0) (aW z0))) z0 (m9 _)) (j4 (sW 3 sc_some.nd (fW Ae hr (aC (pv 0) (aW (u6 (xm (K:=K) rfl) (k9 (xb (K:=K) rfl) rfl Ad PySem.boot_len (aW (pv 2))) z0)))))) n9)
  (j4 (y4 (qw (N':=["k","free","row"]) (cap:=[none,some 2,some 0]) (f6 rfl rfl rfl) rfl (zr rfl Ac (aW (pv 3))) (λ_ _ _ _ _ _=>(m7 (i:=0) (by show (["k","free","row"]:List Str).Nodup;decide +kernel) rfl (Or.inl rfl))) (λ_ _ _ _ _ _=>o8) (λ_ _ _ _ _ _=>(ja (K:=K) rfl PySem.F.plainAttrs_list PySem.F.slot_list_pop PySem.F.type_list_pop Wi (pv 1) (w5 (fW Ae hr (aC (pv 2) (aW (k9 (xb (K:=K) rfl) rfl Ad PySem.boot_len (aW (pv 1)))))) u9))))))))),
  (by repeat' first|infer_instance|(refine @Mi.instSemWSTSeqWSeq _ _ _ _ ?_ ?_)|(apply @Mi.instSemWSTForWForOfSemWIOfSemWG))⟩) LB
structure Mat (H:Hp)(F:Addr)(as:List Addr)(M:List (List Int)):Prop where
 top:H F=some (.lst (as.map V.ref))
 len:as.length=M.length
 row:∀(i:Nat)(a:Addr)(r:List Int),as[i]?=some a->M[i]?=some r->H a=some (.lst (r.map V.int))
 nd:(F::as).Nodup
def me (M:List (List Int))(f g:Nat):Int:=(M.getD f []).getD g 0
def zn (M:List (List Int))(i l:Nat)(v:Int):List (List Int):=M.set i ((M.getD i []).set l v)
theorem NH {M:List (List Int)}{i l f g:Nat}(hi:i<M.length)(hl:l<(M.getD i []).length)(v:Int):me (zn M i l v) f g=if f=i/\g=l then v else me M f g:=by
 unfold me zn;by_cases hf:f=i
 ·subst hf;have e:(M.set f ((M.getD f []).set l v)).getD f []=(M.getD f []).set l v:=by rw [yB,uO hi];rfl
  rw [e];by_cases hg:g=l
  ·subst hg;rw [if_pos ⟨rfl,rfl⟩,yB,uO hl];rfl
  ·rw [if_neg (λz=>hg z.2),yB,yq (Ne.symm hg),<- yB]
 ·have e:(M.set i ((M.getD i []).set l v)).getD f []=M.getD f []:=by rw [yB,yq (Ne.symm hf),<- yB]
  rw [if_neg (λz=>hf z.1),e]
theorem Mat.set {F:Addr}{M:List (List Int)}(m:Mat H F as M){i:Nat}{a:Addr}(ha:as[i]?=some a)(l:Nat)(v:Int):Mat (w6 H a (.lst (((M.getD i []).set l v).map V.int))) F as (zn M i l v):=by
 have nd:=yo.mp m.nd;have am:a∈as:=yh ha;have fa:F≠a:=λz=>nd.1 (z▸am);have hi:i<M.length:=by rw [<- m.len];exact (yC.mp ha).1
 refine ⟨by rw [w4 fa];exact m.top,by unfold zn;rw [yg];exact m.len,λj b r hb hr=>?_,m.nd⟩;unfold zn at hr;by_cases hj:j=i
 ·subst hj;rw [ha] at hb;cases hb;rw [uO hi] at hr;cases hr;exact g8
 ·rw [yq (Ne.symm hj)] at hr;have:b≠a:=λz=>by
   subst z;obtain ⟨h1,e1⟩:=yC.mp ha;obtain ⟨h2,e2⟩:=yC.mp hb;exact hj ((tW (h₀:=h2) (h₁:=h1) nd.2).mp (e2.trans e1.symm))
  rw [w4 this];exact m.row j b r hb hr
structure ShM (h:Nat)(M:List (List Int)):Prop where
 len:M.length=h+1
 row:∀ i,i<=h->(M.getD i []).length=h
theorem ShM.set {M:List (List Int)}(s:ShM h M){i l:Nat}(v:Int):ShM h (zn M i l v):=by
 refine ⟨by unfold zn;rw [yg];exact s.len,λj hj=>?_⟩;unfold zn;by_cases e:j=i
 ·subst e;rw [yB,uO (by rw [s.len];omega)];show ((M.getD j []).set l v).length=h;rw [yg];exact s.row j hj
 ·rw [yB,yq (Ne.symm e),<- yB];exact s.row j hj
theorem ShM.ofGood {M:List (List Int)}(G:h8 h M):ShM h M:=⟨G.len,λi hi=>by
 have hl:i<M.length:=by rw [G.len];omega
 rw [g9 hl];exact (G.row _ (yA hl)).1⟩
structure Rlx (rss:List (List Int))(h t:Nat)(M:List (List Int)):Prop where
 sh:ShM h M
 ge:∀ f g,f<=h->g<h->(y9 (m6 rss h) f g).1<=me M f g
 z:∀ f g,f<=h->g<h->me M f g<=i0 rss h 0 f g
 t:∀ f g,f<=h->g<h->me M f g<=i0 rss h t f g
theorem Rlx.step {M:List (List Int)}(G:h8 h rss)(R:Rlx rss h t M){i a l:Nat}(hi:i<=h)(ha:a<h)(hl:l<h)(hv:v=me M i l∨v=me M i a+me M a l)(v1:v<=me M i l)(v2:v<=me M i a+me M a l):Rlx rss h t (zn M i l v)/\(∀ f g,me (zn M i l v) f g<=me M f g)/\me (zn M i l v) i l<=i0 rss h t i a+i0 rss h 0 a l:=by
 have hil:i<M.length:=by rw [R.sh.len];omega
 have hll:l<(M.getD i []).length:=by rw [R.sh.row i hi];exact hl
 have ee:=λf g=>NH (M:=M) (i:=i) (l:=l) (f:=f) (g:=g) hil hll v;have dn:∀ f g,me (zn M i l v) f g<=me M f g:=λf g=>by
  rw [ee];split
  ·rename_i e;rw [e.1,e.2];exact v1
  ·exact uT _
 refine ⟨⟨R.sh.set v,λf g hf hg=>?_,λf g hf hg=>uG (dn f g) (R.z f g hf hg),λf g hf hg=>uG (dn f g) (R.t f g hf hg)⟩,dn,?_⟩
 ·rw [ee];split
  ·rename_i e;rw [e.1,e.2];rcases hv with hv|hv
   ·rw [hv];exact R.ge i l hi hl
   ·have t1:=(FW.all G h (yW _)).tri a i l ha hi hl;have t2:=R.ge i a hi ha;have t3:=R.ge a l (by omega) hl;omega
  ·exact R.ge f g hf hg
 ·rw [ee,if_pos ⟨rfl,rfl⟩];have t2:=R.t i a hi ha;have t3:=R.z a l (by omega) hl;omega
theorem DK (G:h8 h rss){f g:Nat}(hf:f<=h)(hg:g<h):i0 rss h 0 f g=rin rss (f:Int) (g:Int):=(je G hf hg).symm
theorem DJ (G:h8 h rss){f g:Nat}(hf:f<=h)(hg:g<h)(h0:v<=i0 rss h t f g)(h1:∀ a,a<h->v<=i0 rss h t f a+i0 rss h 0 a g):v<=i0 rss h (t+1) f g:=by
 rw [ZD G hf hg];rcases yJ.mp (BI (l:=i0 rss h t f g::(List.range h).map λa=>i0 rss h t f a+rin rss (a:Int) (g:Int)) (by simp)) with e|e
 ·rw [e];exact h0
 ·obtain ⟨a,ha,e⟩:=yy.mp e;have ha:=yw.mp ha;rw [<- e,<- DK G (by omega) hg];exact h1 a ha
theorem NB {M:List (List Int)}(G:h8 h rss)(ht:h<=t)(R:Rlx rss h t M):M=qu rss h:=by
 have G2:=zW G;have dec:∀ k f g,f<=h->g<h->i0 rss h (k+1) f g<=i0 rss h k f g:=λk f g hf hg=>by
  rw [ZD G hf hg];exact Wf yT
 have dec2:∀ k f g,f<=h->g<h->i0 rss h (h+k) f g<=i0 rss h h f g:=λk f g hf hg=>by
  induction k with
  |zero=>exact uT _
  |succ k ih=>exact uG (dec (h+k) f g hf hg) ih
 have lowE:∀ f g,f<=h->g<h->((qu rss h).getD f []).getD g 0=(y9 (m6 rss h) f g).1:=λf g hf hg=>VY G hf hg;have bl:∀ f g,f<=h->g<h->i0 rss h h f g=(y9 (m6 rss h) f g).1:=λf g hf hg=>by
  unfold i0;rw [DI G];exact lowE f g hf hg
 refine List.ext_getElem (by rw [R.sh.len,G2.len]) λi h1 h2=>?_;have hi:i<=h:=by rw [R.sh.len] at h1;omega
 have r1:=R.sh.row i hi;rw [g9 h1] at r1;have r2:=(G2.row _ (yA h2)).1;refine List.ext_getElem (by rw [r1,r2]) λj j1 j2=>?_;have hj:j<h:=by rw [r1] at j1;exact j1
 have e1:M[i][j]=me M i j:=by unfold me;rw [g9 h1,g9 j1]
 have e2:(qu rss h)[i][j]=(y9 (m6 rss h) i j).1:=by rw [<- lowE i j hi hj,g9 h2,g9 j2]
 rw [e1,e2];have a:=R.ge i j hi hj;have b:=R.t i j hi hj;have c:=dec2 (t-h) i j hi hj;rw [show h+(t-h)=t by omega,bl i j hi hj] at c;omega
theorem WH {K:Fg}{i:Nat}{p:Addr}{xs:List V}{k:Int}(hi:σ[i]?=some (some (.ref p)))(hj:σ[j]?=some (some (.int k)))(hp:H p=some (.lst xs))(hk:atI xs k=some u)(q:Q u H):tOp (rIx K) (qF i) (qF j) σ H Q :=
 ⟨_,hi,_,hj,.inl ⟨p,xs,k,u,rfl,rfl,SqL.of hp,hk,q⟩⟩
theorem JY {k:Nat}(h:k<r.length):atI (r.map V.int) ((0:Int)+(k:Int))=some (.int (r.getD k 0)):=by rw [ui];exact zg (by rw [yP,yY h,g9 h];rfl)
theorem VS {K:Fg}{R:It->Hp->Prop}{i:Nat}{p:Addr}{xs:List V}(hi:σ[i]?=some (some (.ref p)))(hp:SqL K H p xs)(hl:xs.length<=1000)(q:R (Itr 0 xs.length) H):Qu (i5 (tCB (QT K) (i5 (qF i) qt)) qt) σ H R :=
 ⟨_,hi,.inl ⟨_,_,rfl,.inl ⟨xs,hp,rfl⟩,(xs.length:Int),rfl,by omega,by omega,by rw [ub];exact q⟩⟩
noncomputable def vz:List PV->Option PV:=λxs=>open Classical in if h:∃(n:Nat)(rss:List (List Int)),xs=[m5 rss]/\h8 n rss/\1<=n/\n<=4 then some (m5 (qu h.choose_spec.choose h.choose)) else none
theorem TB {a b:List (List Int)}(h:m5 a=m5 b):a=b:=by unfold m5 at h;injection h with h;exact Jo (λx y e=>by injection e with e;exact Jo (λ_ _ e=>by injection e with e;injection e) e) h
theorem IX (G:h8 h rss)(h1:1<=h)(h4:h<=4):vz [m5 rss]=some (m5 (qu rss h)):=by
 have ex:∃(n:Nat)(rs:List (List Int)),[m5 rss]=[m5 rs]/\h8 n rs/\1<=n/\n<=4:=⟨h,rss,rfl,G,h1,h4⟩;unfold vz;rw [dif_pos ex];have q:=ex.choose_spec.choose_spec;generalize ex.choose_spec.choose=rs at q;generalize ex.choose=n at q;obtain ⟨e,G',_⟩:=q;injection e with e _;have e:=TB e;subst e;have:n=h:=by have:=G.len;have:=G'.len;omega
 subst this;rfl
theorem Bx {y:PV}(h:vz xs=some y):∃(n:Nat)(rss:List (List Int)),xs=[m5 rss]/\h8 n rss/\1<=n/\n<=4/\y=m5 (qu rss n):=by
 unfold vz at h;split at h
 ·rename_i ex;obtain ⟨e,G,h1,h4⟩:=ex.choose_spec.choose_spec;exact ⟨_,_,e,G,h1,h4,(Option.some.inj h).symm⟩
 ·cases h
theorem Ll (h:v7 vz vs H Q E):vs.length=(["rinses"]:List Str).length:=by obtain ⟨Hs,xs,y,_,r,e,_⟩:=h;obtain ⟨n,rss,rfl,_⟩:=Bx e;rw [r.length];rfl
structure Copied (H0 H:Hp)(as:List Addr)(M:List (List Int)):Prop where
 len:as.length=M.length
 row:∀(i:Nat)(a:Addr)(r:List Int),as[i]?=some a->M[i]?=some r->H a=some (.lst (r.map V.int))
 new:∀ a∈as,H0 a=none
 nd:as.Nodup
 keep:Same H0 H
theorem Copied.snoc {H0:Hp}{M:List (List Int)}(c:Copied H0 H as M){a:Addr}(ha:H a=none):Copied H0 (w6 H a (.lst (r.map V.int))) (as++[a]) (M++[r]):=by
 have na:∀ b∈as,b≠a:=λb hb z=>by
  obtain ⟨i,hi,e⟩:=uZ.mp hb;have hm:i<M.length:=by rw [<- c.len];exact hi
  have:=c.row i b M[i] (by rw [yY hi,e]) (yY hm);rw [z,ha] at this;cases this
 refine ⟨by rw [yM,yM,c.len];rfl,λi b q hb hq=>?_,λb hb=>?_,?_,λb o h=>?_⟩
 ·rw [List.getElem?_append] at hb hq;split at hb
  ·rename_i hi;rw [if_pos (by rw [<- c.len];exact hi)] at hq;rw [w4 (na b (yh hb))];exact c.row i b q hb hq
  ·rename_i hi;rw [if_neg (by rw [<- c.len];exact hi)] at hq;rw [c.len] at hb;cases hk:i-M.length with
   |zero=>rw [hk] at hb hq;cases hb;cases hq;exact g8
   |succ k=>rw [hk] at hb;simp at hb
 ·rcases uY.mp hb with hb|hb
  ·exact c.new b hb
  ·rw [yI.mp hb];cases h:H0 a with
   |none=>rfl
   |some o=>rw [c.keep _ _ h] at ha;cases ha
 ·refine uq.mpr ⟨c.nd,yo.mpr ⟨by simp,uw⟩,λx hx y hy=>?_⟩;rw [yI.mp hy];exact na x hx
 ·rw [w4 (λz=>by rw [z,] at h;rw [c.keep _ _ h] at ha;cases ha)];exact c.keep b o h
abbrev Yw:Stmt:=top 67
theorem sc_least:y6 ["rinses","found","turn","row","amid","last"] ["rinses"] (j9 Yw):=u7
theorem HG (F:Fun K "_law_least" "_law_least" Yw f fd)(Ad:mg "len"=none)(Af:mg "list"=none)(Q2:mg "min"=none)(Ac:mg "range"=none):FnOk P w K mg base v9 1 f fd ["rinses"] (v7 vz):=by
 refine F.ok (k:=0) sc_least (λvs H Q E h=>Ll h) (λcdv A outer s H vs Q E hr h=>⟨_,(j3 (wE (i:=1) (N':=["row"]) (cap:=[none]) (f6 rfl rfl rfl) rfl sc_least.nd rfl rfl (@qi _ K _ _ _ rfl (pv 0)) (λ_ _ _ _ _ _=>(m7 (i:=0) (by show (["row"]:List Str).Nodup;decide +kernel) rfl (Or.inl rfl))) (λ_ _ _ _ _ _=>o8) (λ_ _ _ _ _ _=>(zI (vh (K:=K) rfl) rfl Af zC (aW (pv 0)))))
  (j3 (xn PassesOwn.never rfl (zr rfl Ac (aW (k9 (xb (K:=K) rfl) rfl Ad PySem.boot_len (aW (pv 0))))) (gW 2 sc_least.nd)
   (j4 (xn PassesOwn.never rfl (@qi _ K _ _ _ rfl (pv 1)) (gW 3 sc_least.nd)
   (j4 (xn PassesOwn.never rfl (zr rfl Ac (aW (k9 (xb (K:=K) rfl) rfl Ad PySem.boot_len (aW (pv 3))))) (gW 4 sc_least.nd)
   (j4 (xn PassesOwn.never rfl (zr rfl Ac (aW (k9 (xb (K:=K) rfl) rfl Ad PySem.boot_len (aW (pv 3))))) (gW 5 sc_least.nd)
   (j4 (WC (k9 (Mc rfl) rfl Q2 DP (aC (iW (K:=K) rfl (pv 3) (pv 5)) (aW (u6 (xm (K:=K) rfl) (iW (K:=K) rfl (pv 3) (pv 4)) (iW (K:=K) rfl (iW (K:=K) rfl (pv 1) (pv 4)) (pv 5)))))) (BZ (pv 3) (pv 5) Ci))))))))))
  (j4 (y4 (pv 1))))),?_⟩)
 obtain ⟨Hs,xs,y,sm,r,e,q⟩:=h;obtain ⟨h,rss,rfl,G,h1,h4,rfl⟩:=Bx e;obtain ⟨v0,rr,rfl,p1,p2⟩:=reps_cons.mp r;cases reps_nil.mp p2;obtain ⟨A0,ws,rfl,hA,rA⟩:=rep_lst.mp p1;have hlim:lim=1000000:=rfl;have glen:=G.len;have wl:ws.length=h+1:=by rw [rA.length,yZ];exact glen
 -- copies
 refine ⟨_,rfl,A0,rfl,⟨ws,SqL.of (sm _ _ hA)⟩,Kq (xs:=ws) (λi ys H'=>∃ as:List Addr,ys=as.map V.ref/\Copied H H' as (rss.take i)) ⟨[],rfl,rfl,(λ_ _ _ z=>by simp at z),(λ_ z=>nomatch z),uw,.refl _⟩ (λi ys H' hi ⟨as,e,c⟩=>zl (by rw [e,yZ,c.len,uX];omega)) (λi ys H' hi ⟨as,e,c⟩=>SqL.of (c.keep _ _ (sm _ _ hA))) ?_ ?_⟩
 ·rintro i x ys H' R hx ⟨as,rfl,c⟩ hR;have hi:i<rss.length:=by have:=(yC.mp hx).1;omega
  obtain ⟨w,hw,rw'⟩:=rA.get (i:=i) (x:= .lst (rss[i].map λn=> .at (.int n))) (by rw [yP,yY hi];rfl);rw [hx] at hw;cases hw;obtain ⟨b,us,rfl,hb,rb⟩:=rep_lst.mp rw';have eu:us=rss[i].map V.int:=by have:=Reps.ats (us:=rss[i].map V.int) (by rw [yt];exact rb);exact this
  subst eu;refine ⟨Wk.one rfl,_,rfl,b,_,rfl,.inl (SqL.of (c.keep _ _ (sm _ _ hb))),λl hl=>hR _ _ ⟨as++[l],by rw [yv];rfl,?_⟩⟩;rw [List.take_add_one,yY hi];exact c.snoc hl
 ·rintro ys H1 ⟨as,rfl,c⟩ F hF;rw [wl,<- glen,tU] at c;have m0:Mat (w6 H1 F (.lst (as.map V.ref))) F as rss:=by
   have fa:∀ a∈as,a≠F:=λa ha z=>by
    obtain ⟨i,hi,e⟩:=uZ.mp ha;have hm:i<rss.length:=by rw [<- c.len];exact hi
    have:=c.row i a rss[i] (by rw [yY hi,e]) (yY hm);rw [z,hF] at this;cases this
   exact ⟨g8,c.len,λi a r ha hr=>by rw [w4 (fa a (yh ha))];exact c.row i a r ha hr,yo.mpr ⟨λz=>fa F z rfl,c.nd⟩⟩
  have k0:Same H (w6 H1 F (.lst (as.map V.ref))):=c.keep.trans (JG hF _);have nF:H F=none:=by
   cases z:H F with
   |none=>rfl
   |some o=>rw [c.keep _ _ z] at hF;cases hF
  have al:as.length=h+1:=c.len.trans glen;have kp:∀{H2:Hp}{a:Addr}{o:HO},Same H H2->a∈as->Same H (w6 H2 a o):=λ{H2 a o} k ha b u z=>by
   rw [w4 (λe=>by rw [e,c.new a ha] at z;cases z)];exact k b u z
  have R0:Rlx rss h 0 rss:=⟨ShM.ofGood G,λf g hf hg=>by
   have:=ZE G 0 f g hf hg;exact this,λf g _ _=>uT _,λf g _ _=>uT _⟩
  show tFor (Qu (i5 (tCB (QT K) (i5 (qF 0) qt)) qt)) (xh 2) _ _ [some (.ref A0),some (.ref F),none,none,none,none] _;refine VS (K:=K) (i:=0) (p:=A0) (xs:=ws) (σ:=[some (.ref A0),some (.ref F),none,none,none,none]) rfl (SqL.of (k0 _ _ (sm _ _ hA))) (by omega) ?_;refine ZS (λt σ H2=>∃(M:List (List Int))(s2 s3 s4 s5:Option V),σ=[some (.ref A0),some (.ref F),s2,s3,s4,s5]/\Mat H2 F as M/\Same H H2/\Rlx rss h t M) ⟨rss,_,_,_,_,rfl,m0,k0,R0⟩ ?_ ?_
  ·rintro t σ H2 ht ⟨M,s2,s3,s4,s5,rfl,m,k,R⟩;refine ⟨_,rfl,F,rfl,⟨_,SqL.of m.top⟩,Lb (xs:=as.map V.ref) (λi σ H2=>∃(M:List (List Int))(s3 s4 s5:Option V),σ=[some (.ref A0),some (.ref F),some (.int (0+t)),s3,s4,s5]/\Mat H2 F as M/\Same H H2/\Rlx rss h t M/\∀ f g,f<i->f<=h->g<h->me M f g<=i0 rss h (t+1) f g) ⟨M,s3,s4,s5,rfl,m,k,R,λf g hf=>absurd hf (uB _)⟩ (λi σ H2 _ ⟨M,_,_,_,_,m,_⟩=>SqL.of m.top) ?_ ?_⟩
   ·rintro i x σ H2 hx ⟨M,s3,s4,s5,rfl,m,k,R,C⟩;rw [yP] at hx;obtain ⟨a,ha,rfl⟩:=yN.mp hx;have hi:i<=h:=by have:=(yC.mp ha).1;omega
    have hiM:∀{M:List (List Int)},ShM h M->M[i]?=some (M.getD i []):=λ{M} s=>by
     have:i<M.length:=by rw [s.len];omega
     rw [g9 this,yY this]
    have am:a∈as:=yh ha;show tFor (Qu (i5 (tCB (QT K) (i5 (qF 3) qt)) qt)) (xh 4) _ _ [some (.ref A0),some (.ref F),some (.int (0+t)),some (.ref a),s4,s5] _;refine VS (K:=K) (i:=3) (p:=a) (xs:=(M.getD i []).map V.int) (σ:=[some (.ref A0),some (.ref F),some (.int (0+t)),some (.ref a),s4,s5]) rfl (SqL.of (m.row i a _ ha (hiM R.sh))) (by rw [yZ,R.sh.row i hi];omega) ?_;rw [yZ,R.sh.row i hi];refine ZS (λb σ H2=>∃(M:List (List Int))(s4 s5:Option V),σ=[some (.ref A0),some (.ref F),some (.int (0+t)),some (.ref a),s4,s5]/\Mat H2 F as M/\Same H H2/\Rlx rss h t M/\(∀ f g,f<i->f<=h->g<h->me M f g<=i0 rss h (t+1) f g)/\∀ c g,c<b->c<h->g<h->me M i g<=i0 rss h t i c+i0 rss h 0 c g) ⟨M,s4,s5,rfl,m,k,R,C,λc g hc=>absurd hc (uB _)⟩ ?_ ?_
    ·rintro b σ H2 hb ⟨M,s4,s5,rfl,m,k,R,C,D⟩;show tFor (Qu (i5 (tCB (QT K) (i5 (qF 3) qt)) qt)) (xh 5) _ _ [some (.ref A0),some (.ref F),some (.int (0+t)),some (.ref a),some (.int (0+b)),s5] _;refine VS (K:=K) (i:=3) (p:=a) (xs:=(M.getD i []).map V.int) (σ:=[some (.ref A0),some (.ref F),some (.int (0+t)),some (.ref a),some (.int (0+b)),s5]) rfl (SqL.of (m.row i a _ ha (hiM R.sh))) (by rw [yZ,R.sh.row i hi];omega) ?_;rw [yZ,R.sh.row i hi];refine ZS (λl σ H2=>∃(M:List (List Int))(s5:Option V),σ=[some (.ref A0),some (.ref F),some (.int (0+t)),some (.ref a),some (.int (0+b)),s5]/\Mat H2 F as M/\Same H H2/\Rlx rss h t M/\(∀ f g,f<i->f<=h->g<h->me M f g<=i0 rss h (t+1) f g)/\(∀ c g,c<b->c<h->g<h->me M i g<=i0 rss h t i c+i0 rss h 0 c g)/\∀ g,g<l->g<h->me M i g<=i0 rss h t i b+i0 rss h 0 b g) ⟨M,s5,rfl,m,k,R,C,D,λg hg=>absurd hg (uB _)⟩ ?_ ?_
     ·rintro l σ H2 hl ⟨M,s5,rfl,m,k,R,C,D,L⟩;have ri:H2 a=some (.lst ((M.getD i []).map V.int)):=m.row i a _ ha (hiM R.sh);have bl:b<as.length:=by omega
      have rbM:M[b]?=some (M.getD b []):=by
       have:b<M.length:=by rw [R.sh.len];omega
       rw [g9 this,yY this]
      have rb:H2 as[b]=some (.lst ((M.getD b []).map V.int)):=m.row b _ _ (yY bl) rbM;have li:l<(M.getD i []).length:=by rw [R.sh.row i hi];exact hl
      have bi:b<(M.getD i []).length:=by rw [R.sh.row i hi];exact hb
      have lb:l<(M.getD b []).length:=by rw [R.sh.row b (by omega)];exact hl
      refine WH (k:=0+(l:Int)) rfl rfl ri (JY li) ?_;refine WH (k:=0+(b:Int)) rfl rfl ri (JY bi) ?_;refine WH (i:=1) (k:=0+(b:Int)) (u:= .ref as[b]) rfl rfl m.top (by rw [ui];exact zg (by rw [yP,yY bl];rfl)) ?_;refine ⟨_,rfl,.inl ⟨_,_,_,_,rfl,rfl,SqL.of rb,JY lb,.inl ⟨_,_,rfl,rfl,_,_,rfl,?_⟩⟩⟩;generalize hv:(if (M.getD i []).getD b 0+(M.getD b []).getD l 0<(M.getD i []).getD l 0 then (M.getD i []).getD b 0+(M.getD b []).getD l 0 else (M.getD i []).getD l 0)=v;have hv':(v=me M i l∨v=me M i b+me M b l)/\v<=me M i l/\v<=me M i b+me M b l:=by unfold me;rw [<- hv];split<;>omega
      obtain ⟨R',dn,ne⟩:=R.step G hi hb hl hv'.1 hv'.2.1 hv'.2.2;refine ⟨_,rfl,_,rfl,a,_,_,l,rfl,rfl,ri,?_,?_⟩
      ·rw [yZ,R.sh.row i hi,ui];unfold ixN;rw [if_pos (by omega),if_pos (by omega)]
       congr 1
      ·have es:((M.getD i []).map V.int).set l (.int v)=(((M.getD i []).set l v).map V.int):=by rw [List.map_set]
       rw [es];refine ⟨zn M i l v,_,rfl,m.set ha l v,kp k am,R',λf g hf hf' hg=>uG (dn f g) (C f g hf hf' hg),λc g hc hc' hg=>uG (dn i g) (D c g hc hc' hg),λg hg hg'=>?_⟩;rcases uj g l with z|z
       ·exact uG (dn i g) (L g z hg')
       ·have:g=l:=by omega
        subst this;exact ne
     ·rintro σ H2 ⟨M,s5,rfl,m,k,R,C,D,L⟩;refine ⟨M,_,_,rfl,m,k,R,C,λc g hc hc' hg=>?_⟩;rcases uj c b with z|z
      ·exact D c g z hc' hg
      ·have:c=b:=by omega
       subst this;exact L g hg hg
    ·rintro σ H2 ⟨M,s4,s5,rfl,m,k,R,C,D⟩;refine ⟨M,_,_,_,rfl,m,k,R,λf g hf hf' hg=>?_⟩;rcases uj f i with z|z
     ·exact C f g z hf' hg
     ·have:f=i:=by omega
      subst this;exact DJ G hf' hg (R.t f g hf' hg) λc hc=>D c g hc hc hg
   ·rintro σ H2 ⟨M,s3,s4,s5,rfl,m,k,R,C⟩;rw [yZ,al] at C;exact ⟨M,_,_,_,_,rfl,m,k,R.sh,R.ge,R.z,λf g hf hg=>C f g (by omega) hf hg⟩
  ·rintro σ H2 ⟨M,s2,s3,s4,s5,rfl,m,k,R⟩;rw [wl] at R;have eM:=NB G (ul h) R;subst eM
   -- all of it becomes shared
   let Hs':Hp:=λb=>if b=F∨b∈as then H2 b else Hs b
   have nn:∀ b,b=F∨b∈as->H b=none:=λb hb=>by
    rcases hb with rfl|hb
    ·exact nF
    ·exact c.new b hb
   have s1:Same Hs Hs':=λb o z=>by
    show (if _ then _ else _)=_;rw [if_neg (λy=>by have:=sm _ _ z;rw [nn b y] at this;cases this)];exact z
   have s3:Same Hs' H2:=λb o z=>by
    have z:(if b=F∨b∈as then H2 b else Hs b)=some o:=z;split at z
    ·exact z
    ·exact k _ _ (sm _ _ z)
   refine ⟨_,rfl,q (.ref F) Hs' H2 ⟨s1,k,s3,λb hb z=>?_⟩ (rep_lst.mpr ⟨F,as.map V.ref,rfl,?_,?_⟩)⟩
   ·show (if _ then _ else _)=_;rw [if_neg (λy=>hb (nn b y))];exact z
   ·show (if _ then _ else _)=_;rw [if_pos (.inl rfl)];exact m.top
   ·have lens:=m.len;have rows:=m.row;have inAs:∀ a∈as,Hs' a=H2 a:=λa ha=>by show (if _ then _ else _)=_;rw [if_pos (.inr ha)]
    clear_value Hs'
    clear m R q s1 s3;generalize qu rss h=M at lens rows;have go:∀(as:List Addr)(M:List (List Int)),as.length=M.length->(∀(i:Nat)(a:Addr)(r:List Int),as[i]?=some a->M[i]?=some r->Hs' a=some (.lst (r.map V.int)))->Reps Hs' (M.map λr=>PV.lst (r.map λn=> .at (.int n))) (as.map V.ref):=by
     intro as
     induction as with
     |nil =>
      intro M hl _;cases M with
      |nil=>exact .nil
      |cons _ _=>cases hl
     |cons a as ih =>
      intro M hl hr;cases M with
      |nil=>cases hl
      |cons r M=>refine .cons (rep_lst.mpr ⟨a,r.map V.int,rfl,hr 0 a r rfl rfl,?_⟩) (ih M (by simpa using hl) λi b q hb hq=>hr (i+1) b q hb hq);have:=Reps.ofAts (H:=Hs') (r.map V.int);rw [yt] at this;exact this
    exact go as M lens λi a r ha hr=>by rw [inAs a (yh ha)];exact rows i a r ha hr
abbrev Yt:Stmt:=top 14
abbrev Gg:MS:=(y8 (zR (x8 qr (q0 (q9 0) (q0 (dC (.ty "int")) x6))) (Qn (x8 qr (q0 (q9 0) (q0 (dC (.ty "bool")) x6))))))
def vy:List PV->Option PV:=c5 1 1 Gg
theorem Sm:y6 ["thing"] ["thing"] (j9 Yt):=u7
theorem HC (F:Fun K "is_whole" "is_whole" Yt f fd)(Ep:mg "bool"=none)(J1:mg "int"=none)(Ab:mg "isinstance"=none):FnOk P w K mg base v9 1 f fd ["thing"] (v7 vy) :=
 i4 (k:=0) (b:=Gg) F Sm rfl λcdv A outer s H E hr=>⟨_,(j4 (y4 (wC (k9 (zD (K:=K) rfl) rfl Ab zB (aC (pv 0) (aW (zH (v:= .ty "int") rfl J1 GZ rfl)))) (QO (BV (k9 (zD (K:=K) rfl) rfl Ab zB (aC (pv 0) (aW (zH (v:= .ty "bool") rfl Ep GY rfl))))))))),
  inferInstance⟩
abbrev YG:Stmt:=top 17
abbrev Gv:MS:=(y8 (x9 w9 (q9 0) (dC (.int 0))))
def zm:List PV->Option PV:=c5 1 1 Gv
theorem Ss:y6 ["cloth"] ["cloth"] (j9 YG):=u7
theorem HR (F:Fun K "name_of" "name_of" YG f fd):FnOk P w K mg base v9 1 f fd ["cloth"] (v7 zm) :=
 i4 (k:=0) (b:=Gv) F Ss rfl λcdv A outer s H E hr=>⟨_,(j4 (y4 (iW (K:=K) rfl (pv 0) z0))),
  inferInstance⟩
abbrev Ym:Stmt:=top 18
abbrev UZ:MS:=(y8 (x9 w9 (q9 0) (dC (.int 1))))
def zX:List PV->Option PV:=c5 1 1 UZ
theorem Sg:y6 ["cloth"] ["cloth"] (j9 Ym):=u7
theorem Hu (F:Fun K "hue_of" "hue_of" Ym f fd):FnOk P w K mg base v9 1 f fd ["cloth"] (v7 zX) :=
 i4 (k:=0) (b:=UZ) F Sg rfl λcdv A outer s H E hr=>⟨_,(j4 (y4 (iW (K:=K) rfl (pv 0) z0))),
  inferInstance⟩
abbrev YA:Stmt:=top 19
abbrev Gp:MS:=(y8 (x9 w9 (q9 0) (dC (.int 2))))
def vA:List PV->Option PV:=c5 1 1 Gp
theorem Sq:y6 ["cloth"] ["cloth"] (j9 YA):=u7
theorem HK (F:Fun K "length_of" "length_of" YA f fd):FnOk P w K mg base v9 1 f fd ["cloth"] (v7 vA) :=
 i4 (k:=0) (b:=Gp) F Sq rfl λcdv A outer s H E hr=>⟨_,(j4 (y4 (iW (K:=K) rfl (pv 0) z0))),
  inferInstance⟩
abbrev Yj:Stmt:=top 20
abbrev UW:MS:=(y8 (x9 w9 (q9 0) (dC (.int 3))))
def Wb:List PV->Option PV:=c5 1 1 UW
theorem Se:y6 ["cloth"] ["cloth"] (j9 Yj):=u7
theorem Hq (F:Fun K "due_of" "due_of" Yj f fd):FnOk P w K mg base v9 1 f fd ["cloth"] (v7 Wb) :=
 i4 (k:=0) (b:=UW) F Se rfl λcdv A outer s H E hr=>⟨_,(j4 (y4 (iW (K:=K) rfl (pv 0) z0))),
  inferInstance⟩
abbrev YW:Stmt:=top 21
abbrev GL:MS:=(y8 (x9 w9 (q9 0) (dC (.int 4))))
def jT:List PV->Option PV:=c5 1 1 GL
theorem SB:y6 ["cloth"] ["cloth"] (j9 YW):=u7
theorem Rl (F:Fun K "weight_of" "weight_of" YW f fd):FnOk P w K mg base v9 1 f fd ["cloth"] (v7 jT) :=
 i4 (k:=0) (b:=GL) F SB rfl λcdv A outer s H E hr=>⟨_,(j4 (y4 (iW (K:=K) rfl (pv 0) z0))),
  inferInstance⟩
abbrev Yp:Stmt:=top 22
abbrev Gc:MS:=(y8 (zR (x8 vy (q0 (q8 0) x6)) (x9 pGe (q9 0) (q9 1))))
def js:List PV->Option PV:=c5 2 2 Gc
theorem Si:y6 ["thing","least"] ["thing","least"] (j9 Yp):=u7
theorem Hy (F:Fun K "is_from" "is_from" Yp f fd)(Al:Fn P w K mg base 1 "is_whole" ["thing"] (v7 vy)):FnOk P w K mg base v9 2 f fd ["thing","least"] (v7 js) :=
 i4 (k:=1) (b:=Gc) F Si rfl λcdv A outer s H E hr=>⟨_,(j4 (y4 (wC (fW Al hr (aW (pv 0))) (QO (jX (Js) (pv 0) (pv 1) (m9 _)))))),
  inferInstance⟩
abbrev Yr:Stmt:=top 13
abbrev Ge:MS:=(j7 (b9 (xf (i6 (r9 (x8 qr (q0 (q9 0) (q0 (dC (.ty "str")) x6))))) (i6 (dT (xY pLe pLe (dC (.int 1)) (x8 o9 (q0 (q9 0) x6)) (dC (.int 8)))))) (y8 (dC (.bl false))) c6)
  (y8 (x8 za (q0 (m8 [none] [0] (dItS (q8 0)) (v8 0) n5 (xY pLeS pLeS (dC (.str "a")) (q9 0) (dC (.str "z")))) x6))))
def Jh:List PV->Option PV:=c5 1 1 Ge
theorem Sk:y6 ["thing"] ["thing"] (j9 Yr):=u7
theorem HA (F:Fun K "is_name" "is_name" Yr f fd)(Ax:mg "all"=none)(Ab:mg "isinstance"=none)(Ad:mg "len"=none)(Id:mg "str"=none)(B5:mg "LONGEST_NAME"=some (.int 8 B4)):FnOk P w K mg base v9 1 f fd ["thing"] (v7 Jh) :=
 i4 (k:=0) (b:=Ge) F Sk rfl λcdv A outer s H E hr=>⟨_,(j3 (n8 (PW.pt (zL (qO (qD (K:=K) rfl (k9 (zD (K:=K) rfl) rfl Ab zB (aC (pv 0) (aW (zH (v:= .ty "str") rfl Id Kb rfl)))) (λ_=>rfl))) (jY (qO (Ph (ww) (ww) z0 (k9 (xb (K:=K) rfl) rfl Ad PySem.boot_len (aW (pv 0))) (Jx (v:= .int 8) rfl B5 ⟨_,rfl⟩)))))) (j4 (y4 xR)) n9)
  (j4 (y4 (k9 (vX (K:=K) rfl rfl) rfl Ax vW (aW (qw (N':=["sign"]) (cap:=[none]) (f6 rfl rfl rfl) rfl (RQ (pv 0)) (λ_ _ _ _ _ _=>(m7 (i:=0) (by show (["sign"]:List Str).Nodup;decide +kernel) rfl (Or.inl rfl))) (λ_ _ _ _ _ _=>o8) (λ_ _ _ _ _ _=>(Wp (BS) (BS) zc (pv 0) zc)))))))),
  inferInstance⟩
abbrev Yo:Stmt:=top 23
abbrev Gb:MS:=(j7 (b9 (xf (i6 (r9 (x8 qr (q0 (q9 0) (q0 (dC (.ty "tuple")) x6))))) (dT (x9 qL (x8 o9 (q0 (q9 0) x6)) (dC (.int 5))))) (y8 (dC (.bl false))) c6)
  (j7 (b9 (xf (i6 (r9 (x8 Jh (q0 (x8 zm (q0 (q8 0) x6)) x6)))) (xf (i6 (r9 (x8 js (q0 (x8 zX (q0 (q8 0) x6)) (q0 (dC (.int 0)) x6))))) (dT (x9 pGe (x8 zX (q0 (q8 0) x6)) (q9 1))))) (y8 (dC (.bl false))) c6)
  (y8 (zR (x8 js (q0 (x8 vA (q0 (q8 0) x6)) (q0 (dC (.int 1)) x6))) (zR (x8 vy (q0 (x8 Wb (q0 (q8 0) x6)) x6)) (x8 js (q0 (x8 jT (q0 (q8 0) x6)) (q0 (dC (.int 1)) x6))))))))
def Jg:List PV->Option PV:=c5 2 2 Gb
theorem Sh:y6 ["thing","hues"] ["thing","hues"] (j9 Yo):=u7
theorem Hw (F:Fun K "is_cloth" "is_cloth" Yo f fd)(Ev:Fn P w K mg base 1 "due_of" ["cloth"] (v7 Wb))(Ap:Fn P w K mg base 1 "hue_of" ["cloth"] (v7 zX))(Aq:Fn P w K mg base 2 "is_from" ["thing","least"] (v7 js))(Eu:Fn P w K mg base 1 "is_name" ["thing"] (v7 Jh))(Al:Fn P w K mg base 1 "is_whole" ["thing"] (v7 vy))(Ai:Fn P w K mg base 1 "length_of" ["cloth"] (v7 vA))(Ag:Fn P w K mg base 1 "name_of" ["cloth"] (v7 zm))(Ah:Fn P w K mg base 1 "weight_of" ["cloth"] (v7 jT))(Ab:mg "isinstance"=none)(Ad:mg "len"=none)(Ej:mg "tuple"=none)(N5:mg "PARTS"=some (.int 5 J4)):FnOk P w K mg base v9 3 f fd ["thing","hues"] (v7 Jg) :=
 i4 (k:=2) (b:=Gb) F Sh rfl λcdv A outer s H E hr=>⟨_,(j3 (n8 (PW.pt (zL (qO (qD (K:=K) rfl (k9 (zD (K:=K) rfl) rfl Ab zB (aC (pv 0) (aW (zH (v:= .ty "tuple") rfl Ej Kc rfl)))) (λ_=>rfl))) (jY (f9 (ju (K:=K) (qT hr) rfl) (k9 (xb (K:=K) rfl) rfl Ad PySem.boot_len (aW (pv 0))) (Jx (v:= .int 5) rfl N5 ⟨_,rfl⟩) (m9 _))))) (j4 (y4 xR)) n9)
  (j3 (n8 (PW.pt (zL (qO (qD (K:=K) rfl (fW Eu hr (aW (fW Ag hr (aW (pv 0))))) (λ_=>rfl))) (zL (qO (qD (K:=K) rfl (fW Aq hr (aC (fW Ap hr (aW (pv 0))) (aW z0))) (λ_=>rfl))) (jY (f9 (Js) (fW Ap hr (aW (pv 0))) (pv 1) (m9 _)))))) (j4 (y4 xR)) n9)
  (j4 (y4 (wC (fW Aq hr (aC (fW Ai hr (aW (pv 0))) (aW z0))) (wC (fW Al hr (aW (fW Ev hr (aW (pv 0))))) (QO (fW Aq hr (aC (fW Ah hr (aW (pv 0))) (aW z0)))))))))),
  inferInstance⟩
abbrev Ys:Stmt:=top 44
abbrev Gf:MS:=(j7 (b9 (xf (i6 (r9 (x8 qr (q0 (q9 0) (q0 (dC (.ty "list")) x6))))) (dT (x9 qL (x8 o9 (q0 (q9 0) x6)) (q9 1)))) (y8 (dC (.bl false))) c6)
  (y8 (x8 za (q0 (m8 [none] [0] (r6 (q8 0)) (v8 0) n5 (zR (x8 vy (q0 (q8 0) x6)) (x9 pGe (q9 0) (dC (.int 0))))) x6))))
def XD:List PV->Option PV:=c5 2 2 Gf
theorem Sl:y6 ["row","hues"] ["row","hues"] (j9 Ys):=u7
theorem HB (F:Fun K "is_rinse_row" "is_rinse_row" Ys f fd)(Al:Fn P w K mg base 1 "is_whole" ["thing"] (v7 vy))(Ax:mg "all"=none)(Ab:mg "isinstance"=none)(Ad:mg "len"=none)(Af:mg "list"=none):FnOk P w K mg base v9 2 f fd ["row","hues"] (v7 XD) :=
 i4 (k:=1) (b:=Gf) F Sl rfl λcdv A outer s H E hr=>⟨_,(j3 (n8 (PW.pt (zL (qO (qD (K:=K) rfl (k9 (zD (K:=K) rfl) rfl Ab zB (aC (pv 0) (aW (zH (v:= .ty "list") rfl Af zC rfl)))) (λ_=>rfl))) (jY (f9 (ju (K:=K) (qT hr) rfl) (k9 (xb (K:=K) rfl) rfl Ad PySem.boot_len (aW (pv 0))) (pv 1) (m9 _))))) (j4 (y4 xR)) n9)
  (j4 (y4 (k9 (vX (K:=K) rfl rfl) rfl Ax vW (aW (qw (N':=["number"]) (cap:=[none]) (f6 rfl rfl rfl) rfl (@qi _ K _ _ _ rfl (pv 0)) (λ_ _ _ _ _ _=>(m7 (i:=0) (by show (["number"]:List Str).Nodup;decide +kernel) rfl (Or.inl rfl))) (λ_ _ _ _ _ _=>o8) (λ_ _ _ _ _ _=>(wC (fW Al hr (aW (pv 0))) (QO (jX (Js) (pv 0) z0 (m9 _))))))))))),
  inferInstance⟩
abbrev Yc:Stmt:=top 45
abbrev UQ:MS:=(j7 (b9 (i6 (r9 (x8 qr (q0 (q9 0) (q0 (dC (.ty "list")) x6))))) xG c6)
  (j7 (u8 1 (x9 vF (x8 o9 (q0 (q9 0) x6)) (dC (.int 1))))
  (j7 (b9 (i6 (dT (xY pLe pLe (dC (.int 1)) (q9 1) (dC (.int 4))))) xG c6)
  (b9 (i6 (r9 (x8 za (q0 (m8 [none,some 1] [0] (r6 (q8 0)) (v8 0) n5 (x8 XD (q0 (q8 0) (q0 (q8 1) x6)))) x6)))) xG c6))))
def Jd:List PV->Option PV:=c5 2 1 UQ
theorem sc_check_rinses:y6 ["rinses","hues"] ["rinses"] (j9 Yc):=u7
theorem Hi (F:Fun K "check_rinses" "check_rinses" Yc f fd)(B3:Fn P w K mg base 2 "is_rinse_row" ["row","hues"] (v7 XD))(Ax:mg "all"=none)(Ab:mg "isinstance"=none)(Ad:mg "len"=none)(Af:mg "list"=none)(Ed:mg "MOST_HUES"=some (.int 4 Ei)):FnOk P w K mg base v9 3 f fd ["rinses"] (v7 Jd) :=
 i4 (k:=2) (b:=UQ) F sc_check_rinses rfl λcdv A outer s H E hr=>⟨_,(j3 (n8 (qO (qD (K:=K) rfl (k9 (zD (K:=K) rfl) rfl Ab zB (aC (pv 0) (aW (zH (v:= .ty "list") rfl Af zC rfl)))) (λ_=>rfl))) (j4 jd) n9)
  (j3 (sW 1 sc_check_rinses.nd (u6 (XS) (k9 (xb (K:=K) rfl) rfl Ad PySem.boot_len (aW (pv 0))) z0))
  (j3 (n8 (qO (Ph (ww) (ww) z0 (pv 1) (Jx (v:= .int 4) rfl Ed ⟨_,rfl⟩))) (j4 jd) n9)
  (j4 (n8 (qO (qD (K:=K) rfl (k9 (vX (K:=K) rfl rfl) rfl Ax vW (aW (qw (N':=["row","hues"]) (cap:=[none,some 1]) (f6 rfl rfl rfl) rfl (@qi _ K _ _ _ rfl (pv 0)) (λ_ _ _ _ _ _=>(m7 (i:=0) (by show (["row","hues"]:List Str).Nodup;decide +kernel) rfl (Or.inl rfl))) (λ_ _ _ _ _ _=>o8) (λ_ _ _ _ _ _=>(fW B3 hr (aC (pv 0) (aW (pv 1)))))))) (λ_=>rfl))) (j4 jd) n9))))),
  inferInstance⟩
abbrev YQ:Stmt:=top 46
abbrev GE:MS:=(y8 (m8 [none,none] [0,1] (Qk (q0 (q8 0) x6)) (qI 2 (c7 (v8 0) (c7 (v8 1) qH))) n5 (qm (q0 (q8 1) (q0 (xw (q0 (q8 0) x6)) x6)))))
def XJ:List PV->Option PV:=qy 1 1 GE
theorem Sx:y6 ["row"] ["row"] (j9 YQ):=u7
theorem Rb (F:Fun K "straight_ways" "straight_ways" YQ f fd)(Aj:mg "enumerate"=none):FnOk P w K mg base v9 1 f fd ["row"] (p8 XJ) :=
 okO (k:=0) (b:=GE) F Sx rfl λcdv A outer s H E hr=>⟨_,(j4 (y4 (qw (N':=["hue","number"]) (cap:=[none,none]) (f6 rfl rfl rfl) rfl (Wu (K:=K) rfl rfl Aj (aW (pv 0))) (λ_ _ _ _ _ _=>(jx (K:=K) (n:=2) rfl rfl (qV (m7 (i:=0) (by show (["hue","number"]:List Str).Nodup;decide +kernel) rfl (Or.inl rfl)) (qV (m7 (i:=1) (by show (["hue","number"]:List Str).Nodup;decide +kernel) rfl (Or.inl rfl)) jy)))) (λ_ _ _ _ _ _=>o8) (λ_ _ _ _ _ _=>(@xp _ _ _ _ _ (aC (pv 1) (aW (@zb _ _ _ _ (aW (pv 0)))))))))),
  inferInstance⟩
abbrev Yu:Stmt:=top 47
abbrev Gh:MS:=(y8 (qm (q0 (x9 o6 (x9 w9 (q9 0) (dC (.int 0))) (x9 w9 (q9 1) (dC (.int 0)))) (q0 (x9 o6 (x9 w9 (q9 0) (dC (.int 1))) (x9 w9 (q9 1) (dC (.int 1)))) x6))))
def XE:List PV->Option PV:=c5 2 2 Gh
theorem Sn:y6 ["way","onward"] ["way","onward"] (j9 Yu):=u7
theorem HD (F:Fun K "joined" "joined" Yu f fd):FnOk P w K mg base v9 1 f fd ["way","onward"] (v7 XE) :=
 i4 (k:=0) (b:=Gh) F Sn rfl λcdv A outer s H E hr=>⟨_,(j4 (y4 (@xp _ _ _ _ _ (aC (u6 (xm (K:=K) rfl) (iW (K:=K) rfl (pv 0) z0) (iW (K:=K) rfl (pv 1) z0)) (aW (u6 (xm (K:=K) rfl) (iW (K:=K) rfl (pv 0) z0) (iW (K:=K) rfl (pv 1) z0))))))),
  inferInstance⟩
abbrev YB:Stmt:=top 48
abbrev Gq:MS:=(y8 (dIf (dT (x9 pLt (x9 w9 (q9 1) (dC (.int 0))) (x9 w9 (q9 0) (dC (.int 0))))) (q8 1) (q8 0)))
def XG:List PV->Option PV:=c5 2 2 Gq
theorem Sr:y6 ["way","other"] ["way","other"] (j9 YB):=u7
theorem HL (F:Fun K "lesser" "lesser" YB f fd):FnOk P w K mg base v9 1 f fd ["way","other"] (v7 XG) :=
 i4 (k:=0) (b:=Gq) F Sr rfl λcdv A outer s H E hr=>⟨_,(j4 (y4 (Wq (f9 (Ju) (iW (K:=K) rfl (pv 1) z0) (iW (K:=K) rfl (pv 0) z0) (m9 _)) (pv 1) (pv 0)))),
  inferInstance⟩
abbrev YV:Stmt:=top 49
abbrev GK:MS:=(y8 (m8 [none,none,some 0,some 1] [0,1] (Qo (q0 (q8 0) (q0 (q8 2) x6))) (qI 2 (c7 (v8 0) (c7 (v8 1) qH))) n5 (x8 XG (q0 (q8 0) (q0 (x8 XE (q0 (x9 w9 (q9 2) (q9 3)) (q0 (q8 1) x6))) x6)))))
def QF:List PV->Option PV:=qy 3 3 GK
theorem SA:y6 ["ways","hue","onward"] ["ways","hue","onward"] (j9 YV):=u7
theorem Rk (F:Fun K "ways_through" "ways_through" YV f fd)(Ey:Fn P w K mg base 1 "joined" ["way","onward"] (v7 XE))(E2:Fn P w K mg base 1 "lesser" ["way","other"] (v7 XG))(J0:mg "zip"=none):FnOk P w K mg base v9 2 f fd ["ways","hue","onward"] (p8 QF) :=
 okO (k:=1) (b:=GK) F SA rfl λcdv A outer s H E hr=>⟨_,(j4 (y4 (qw (N':=["way","more","ways","hue"]) (cap:=[none,none,some 0,some 1]) (f6 rfl rfl rfl) rfl (Pa (K:=K) rfl rfl J0 (aC (pv 0) (aW (pv 2)))) (λ_ _ _ _ _ _=>(jx (K:=K) (n:=2) rfl rfl (qV (m7 (i:=0) (by show (["way","more","ways","hue"]:List Str).Nodup;decide +kernel) rfl (Or.inl rfl)) (qV (m7 (i:=1) (by show (["way","more","ways","hue"]:List Str).Nodup;decide +kernel) rfl (Or.inl rfl)) jy)))) (λ_ _ _ _ _ _=>o8) (λ_ _ _ _ _ _=>(fW E2 hr (aC (pv 0) (aW (fW Ey hr (aC (iW (K:=K) rfl (pv 2) (pv 3)) (aW (pv 1))))))))))),
  inferInstance⟩
abbrev Yy:Stmt:=top 50
abbrev Gm:MS:=(j7 (u8 1 (m8 [none] [0] (r6 (q8 0)) (v8 0) n5 (x8 XJ (q0 (q8 0) x6))))
  (j7 (xE (xx (q0 (x9 vF (x8 o9 (q0 (q9 0) x6)) (dC (.int 1))) x6)) (v8 2) (j7 (u8 3 (x9 w9 (q9 1) (q9 2)))
  (u8 1 (m8 [none,some 2,some 3] [0] (r6 (q8 1)) (v8 0) n5 (x8 QF (q0 (q8 0) (q0 (q8 1) (q0 (q8 2) x6))))))))
  (y8 (q8 1))))
def Jj:List PV->Option PV:=c5 4 1 Gm
theorem sc_least_ways:y6 ["rinses","table","hue","onward"] ["rinses"] (j9 Yy):=u7
theorem HI (F:Fun K "least_ways" "least_ways" Yy f fd)(Az:Fn P w K mg base 1 "straight_ways" ["row"] (p8 XJ))(A5:Fn P w K mg base 2 "ways_through" ["ways","hue","onward"] (p8 QF))(Ad:mg "len"=none)(Ac:mg "range"=none):FnOk P w K mg base v9 3 f fd ["rinses"] (v7 Jj) :=
 i4 (k:=2) (b:=Gm) F sc_least_ways rfl λcdv A outer s H E hr=>⟨_,(j3 (wE (i:=1) (N':=["row"]) (cap:=[none]) (f6 rfl rfl rfl) rfl sc_least_ways.nd rfl rfl (@qi _ K _ _ _ rfl (pv 0)) (λ_ _ _ _ _ _=>(m7 (i:=0) (by show (["row"]:List Str).Nodup;decide +kernel) rfl (Or.inl rfl))) (λ_ _ _ _ _ _=>o8) (λ_ _ _ _ _ _=>(fW Az hr (aW (pv 0)))))
  (j3 (xn PassesOwn.never rfl (zr rfl Ac (aW (u6 (XS) (k9 (xb (K:=K) rfl) rfl Ad PySem.boot_len (aW (pv 0))) z0))) (gW 2 sc_least_ways.nd)
   (j3 (sW 3 sc_least_ways.nd (iW (K:=K) rfl (pv 1) (pv 2)))
  (j4 (wE (i:=1) (N':=["ways","hue","onward"]) (cap:=[none,some 2,some 3]) (f6 rfl rfl rfl) rfl sc_least_ways.nd rfl rfl (@qi _ K _ _ _ rfl (pv 1)) (λ_ _ _ _ _ _=>(m7 (i:=0) (by show (["ways","hue","onward"]:List Str).Nodup;decide +kernel) rfl (Or.inl rfl))) (λ_ _ _ _ _ _=>o8) (λ_ _ _ _ _ _=>(fW A5 hr (aC (pv 0) (aC (pv 1) (aW (pv 2))))))))))
  (j4 (y4 (pv 1))))),
  inferInstance⟩
abbrev YR:Stmt:=top 51
abbrev GF:MS:=(y8 (m8 [none] [0] (r6 (q8 0)) (v8 0) n5 (x9 w9 (q9 0) (dC (.int 0)))))
def Jm:List PV->Option PV:=qy 1 1 GF
theorem Sy:y6 ["ways"] ["ways"] (j9 YR):=u7
theorem Rf (F:Fun K "sums_of" "sums_of" YR f fd):FnOk P w K mg base v9 1 f fd ["ways"] (p8 Jm) :=
 okO (k:=0) (b:=GF) F Sy rfl λcdv A outer s H E hr=>⟨_,(j4 (y4 (qw (N':=["way"]) (cap:=[none]) (f6 rfl rfl rfl) rfl (@qi _ K _ _ _ rfl (pv 0)) (λ_ _ _ _ _ _=>(m7 (i:=0) (by show (["way"]:List Str).Nodup;decide +kernel) rfl (Or.inl rfl))) (λ_ _ _ _ _ _=>o8) (λ_ _ _ _ _ _=>(iW (K:=K) rfl (pv 0) z0))))),
  inferInstance⟩
abbrev Yx:Stmt:=top 52
abbrev Gk:MS:=(j7 (jG (x8 Jd (q0 (q8 0) x6)))
  (y8 (m8 [none] [0] (r6 (x8 Jj (q0 (q8 0) x6))) (v8 0) n5 (x8 Jm (q0 (q8 0) x6)))))
def Ji:List PV->Option PV:=qy 1 1 Gk
theorem So:y6 ["rinses"] ["rinses"] (j9 Yx):=u7
theorem HH (F:Fun K "least_rinses" "least_rinses" Yx f fd)(B0:Fn P w K mg base 3 "check_rinses" ["rinses"] (v7 Jd))(Ec:Fn P w K mg base 3 "least_ways" ["rinses"] (v7 Jj))(Et:Fn P w K mg base 1 "sums_of" ["ways"] (p8 Jm)):FnOk P w K mg base v9 4 f fd ["rinses"] (p8 Ji) :=
 okO (k:=3) (b:=Gk) F So rfl λcdv A outer s H E hr=>⟨_,(j3 (jc (fW B0 hr (aW (pv 0))))
  (j4 (y4 (qw (N':=["ways"]) (cap:=[none]) (f6 rfl rfl rfl) rfl (@qi _ K _ _ _ rfl (fW Ec hr (aW (pv 0)))) (λ_ _ _ _ _ _=>(m7 (i:=0) (by show (["ways"]:List Str).Nodup;decide +kernel) rfl (Or.inl rfl))) (λ_ _ _ _ _ _=>o8) (λ_ _ _ _ _ _=>(fW Et hr (aW (pv 0)))))))),
  inferInstance⟩
abbrev Yd:Stmt:=top 55
abbrev UR:MS:=(j7 (b9 (zQ (dT (x9 wB (q9 0) (dC .non))) (i6 (zQ (r9 (x8 js (q0 (q8 0) (q0 (dUn pNeg (dC (.int 1))) x6)))) (dT (x9 pLt (q9 0) (q9 2)))))) xG c6)
  (b9 (i6 (r9 (x8 js (q0 (q8 1) (q0 (dC (.int 0)) x6))))) xG c6))
def Je:List PV->Option PV:=c5 3 3 UR
theorem Sb:y6 ["last","time","hues"] ["last","time","hues"] (j9 Yd):=u7
theorem Hj (F:Fun K "check_start" "check_start" Yd f fd)(Aq:Fn P w K mg base 2 "is_from" ["thing","least"] (v7 js)):FnOk P w K mg base v9 3 f fd ["last","time","hues"] (v7 Je) :=
 i4 (k:=2) (b:=UR) F Sb rfl λcdv A outer s H E hr=>⟨_,(j3 (n8 (PW.pt (WD (f9 (Wm) (pv 0) jw (m9 _)) (WE (qO (PW.pt (WD (qD (K:=K) rfl (fW Aq hr (aC (pv 0) (aW (BW CP z0)))) (λ_=>rfl)) (WE (f9 (Ju) (pv 0) (pv 2) (m9 _))))))))) (j4 jd) n9)
  (j4 (n8 (qO (qD (K:=K) rfl (fW Aq hr (aC (pv 1) (aW z0))) (λ_=>rfl))) (j4 jd) n9))),
  inferInstance⟩
abbrev Ya:Stmt:=top 56
abbrev UO:MS:=(j7 (b9 (dT (x9 pGt (x8 o9 (q0 (q9 0) x6)) (dC (.int 10)))) xG c6)
  (j7 (vm 2 Ky)
  (xE (r6 (q8 0)) (v8 3) (j7 (b9 (i6 (r9 (x8 Jg (q0 (q8 3) (q0 (q8 1) x6))))) xG c6)
  (j7 (b9 (dT (dDIn (x8 zm (q0 (q8 3) x6)) (q9 2))) xG c6)
  (dPut 2 (x8 zm (q0 (q8 3) x6)) (dC (.bl true))))))))
def Jc:List PV->Option PV:=c5 4 2 UO
theorem sc_check_cloths:y6 ["cloths","hues","seen","cloth"] ["cloths","hues"] (j9 Ya):=u7
theorem Hg (F:Fun K "check_cloths" "check_cloths" Ya f fd)(Em:Fn P w K mg base 3 "is_cloth" ["thing","hues"] (v7 Jg))(Ag:Fn P w K mg base 1 "name_of" ["cloth"] (v7 zm))(Ad:mg "len"=none)(B9:mg "MOST_CLOTHS"=some (.int 10 D4)):FnOk P w K mg base v9 4 f fd ["cloths","hues"] (v7 Jc) :=
 i4 (k:=3) (b:=UO) F sc_check_cloths rfl λcdv A outer s H E hr=>⟨_,(j3 (n8 (f9 (Jt) (k9 (xb (K:=K) rfl) rfl Ad PySem.boot_len (aW (pv 0))) (Jx (v:= .int 10) rfl B9 ⟨_,rfl⟩) (m9 _)) (j4 jd) n9)
  (j3 (sW 2 sc_check_cloths.nd RB)
  (j4 (xn PassesOwn.never rfl (@qi _ K _ _ _ rfl (pv 0)) (gW 3 sc_check_cloths.nd)
   (j3 (n8 (qO (qD (K:=K) rfl (fW Em hr (aC (pv 3) (aW (pv 1)))) (λ_=>rfl))) (j4 jd) n9)
  (j3 (n8 (Pi (Rw (zj hr) (fW Ag hr (aW (pv 3))) (pv 2))) (j4 jd) n9)
  (j4 (Td (zj hr) (pv 2) (fW Ag hr (aW (pv 3))) xR rfl)))))))),
  inferInstance⟩
abbrev WQ:Stmt:=jM (top 57) 1
abbrev UF (Aa:Addr):MS:=(y8 (x9 vF (x8 o9 (q0 (xZ Aa "least" (q8 0)) x6)) (dC (.int 1))))
def jQ (Aa:Addr):List PV->Option PV:=c5 1 1 (UF Aa)
theorem TQ:y6 ["self"] ["self"] (j9 WQ):=u7
theorem NV (F:Fun K "hues" "Works.hues" WQ f fd)(Ad:mg "len"=none)[zy K Aa][xa K Aa "least"]:FnOk P w K mg base v9 1 f fd ["self"] (v7 (jQ Aa)) :=
 i4 (k:=0) (b:=(UF Aa)) F TQ rfl λcdv A outer s H E hr=>⟨_,(j4 (y4 (u6 (XS) (k9 (xb (K:=K) rfl) rfl Ad PySem.boot_len (aW (vH (K:=K) rfl (pv 0) rfl))) z0))),
  inferInstance⟩
abbrev WX:Stmt:=jM (top 57) 4
abbrev UK (Aa:Addr):MS:=(y8 (x9 w9 (x9 w9 (xZ Aa "least" (q8 0)) (q9 1)) (q9 2)))
def XB (Aa:Addr):List PV->Option PV:=c5 3 3 (UK Aa)
theorem TY:y6 ["self","first","then"] ["self","first","then"] (j9 WX):=u7
theorem Hc (F:Fun K "tray_rinse" "Works.tray_rinse" WX f fd)[zy K Aa][xa K Aa "least"]:FnOk P w K mg base v9 1 f fd ["self","first","then"] (v7 (XB Aa)) :=
 i4 (k:=0) (b:=(UK Aa)) F TY rfl λcdv A outer s H E hr=>⟨_,(j4 (y4 (iW (K:=K) rfl (iW (K:=K) rfl (vH (K:=K) rfl (pv 0) rfl) (pv 1)) (pv 2)))),
  inferInstance⟩
abbrev WU:Stmt:=jM (top 57) 3
abbrev UH (Aa:Addr):MS:=(y8 (dIf (dT (x9 qK (q9 1) (q9 2))) (dC (.int 0)) (xF Aa "tray_rinse" (XB Aa) (q8 0) (q0 (q8 1) (q0 (q8 2) x6)))))
def QB (Aa:Addr):List PV->Option PV:=c5 3 3 (UH Aa)
theorem TV:y6 ["self","first","then"] ["self","first","then"] (j9 WU):=u7
theorem NY (F:Fun K "rinse" "Works.rinse" WU f fd)(At:Mt P w K mg base 1 Aa "tray_rinse" ["self","first","then"] (v7 (XB Aa))):FnOk P w K mg base v9 2 f fd ["self","first","then"] (v7 (QB Aa)) :=
 i4 (k:=1) (b:=(UH Aa)) F TV rfl λcdv A outer s H E hr=>⟨_,(j4 (y4 (Wq (f9 (zY (K:=K) (qT hr) rfl) (pv 1) (pv 2) (m9 _)) z0 (QN At hr (by decide) (pv 0) (aC (pv 1) (aW (pv 2))))))),
  inferInstance⟩
abbrev WV:Stmt:=jM (top 57) 5
abbrev UI (Aa:Addr):MS:=(y8 (qm (q0 (xZ Aa "last" (q8 0)) (q0 (xZ Aa "time" (q8 0)) x6))))
def XA (Aa:Addr):List PV->Option PV:=c5 1 1 (UI Aa)
theorem TW:y6 ["self"] ["self"] (j9 WV):=u7
theorem NZ (F:Fun K "start" "Works.start" WV f fd)[zy K Aa][xa K Aa "last"][xa K Aa "time"]:FnOk P w K mg base v9 1 f fd ["self"] (v7 (XA Aa)) :=
 i4 (k:=0) (b:=(UI Aa)) F TW rfl λcdv A outer s H E hr=>⟨_,(j4 (y4 (@xp _ _ _ _ _ (aC (vH (K:=K) rfl (pv 0) rfl) (aW (vH (K:=K) rfl (pv 0) rfl)))))),
  inferInstance⟩
abbrev WR:Stmt:=jM (top 57) 6
abbrev UG (Aa:Addr):MS:=(y8 (x8 vE (q0 (xZ Aa "held" (q8 0)) x6)))
def Xz (Aa:Addr):List PV->Option PV:=qy 1 1 (UG Aa)
theorem TU:y6 ["self"] ["self"] (j9 WR):=u7
theorem NX (F:Fun K "names" "Works.names" WR f fd)(Ar:mg "sorted"=none)[zy K Aa][xa K Aa "held"]:FnOk P w K mg base v9 1 f fd ["self"] (p8 (Xz Aa)) :=
 okO (k:=0) (b:=(UG Aa)) F TU rfl λcdv A outer s H E hr=>⟨_,(j4 (y4 (k9 (Vi (K:=K) rfl rfl) rfl Ar ZG (aW (vH (K:=K) rfl (pv 0) rfl))))),
  inferInstance⟩
abbrev WO:Stmt:=jM (top 57) 7
abbrev UD (Aa:Addr):MS:=(j7 (b9 (xf (i6 (r9 (x8 qr (q0 (q9 1) (q0 (dC (.ty "str")) x6))))) (dT (ZJ (q9 1) (xZ Aa "held" (q8 0))))) xG c6)
  (y8 (qf (xZ Aa "held" (q8 0)) (q9 1))))
def vx (Aa:Addr):List PV->Option PV:=c5 2 2 (UD Aa)
theorem TM:y6 ["self","name"] ["self","name"] (j9 WO):=u7
theorem NT (F:Fun K "cloth" "Works.cloth" WO f fd)(Ab:mg "isinstance"=none)(Id:mg "str"=none)[zy K Aa][xa K Aa "held"]:FnOk P w K mg base v9 1 f fd ["self","name"] (v7 (vx Aa)) :=
 i4 (k:=0) (b:=(UD Aa)) F TM rfl λcdv A outer s H E hr=>⟨_,(j3 (n8 (PW.pt (zL (qO (qD (K:=K) rfl (k9 (zD (K:=K) rfl) rfl Ab zB (aC (pv 1) (aW (zH (v:= .ty "str") rfl Id Kb rfl)))) (λ_=>rfl))) (jY (Pi (Rx (zj hr) (pv 1) (vH (K:=K) rfl (pv 0) rfl)))))) (j4 jd) n9)
  (j4 (y4 (vG (zj hr) (vH (K:=K) rfl (pv 0) rfl) (pv 1) (λ_ _=>rfl))))),
  inferInstance⟩
abbrev YI:Stmt:=top 24
abbrev Gx:MS:=(y8 (m8 [none] [0] (r6 (q8 0)) (v8 0) n5 (x8 zm (q0 (q8 0) x6))))
def Jl:List PV->Option PV:=qy 1 1 Gx
theorem Su:y6 ["cloths"] ["cloths"] (j9 YI):=u7
theorem HU (F:Fun K "names_of" "names_of" YI f fd)(Ag:Fn P w K mg base 1 "name_of" ["cloth"] (v7 zm)):FnOk P w K mg base v9 2 f fd ["cloths"] (p8 Jl) :=
 okO (k:=1) (b:=Gx) F Su rfl λcdv A outer s H E hr=>⟨_,(j4 (y4 (qw (N':=["cloth"]) (cap:=[none]) (f6 rfl rfl rfl) rfl (@qi _ K _ _ _ rfl (pv 0)) (λ_ _ _ _ _ _=>(m7 (i:=0) (by show (["cloth"]:List Str).Nodup;decide +kernel) rfl (Or.inl rfl))) (λ_ _ _ _ _ _=>o8) (λ_ _ _ _ _ _=>(fW Ag hr (aW (pv 0))))))),
  inferInstance⟩
abbrev JD:Stmt:=top 25
abbrev UN:MS:=(j7 (u8 1 (dC (.int 1)))
  (j7 (xE (r6 (q8 0)) (v8 2) (dAug 1 pIpM (x8 jT (q0 (q8 2) x6))))
  (y8 (KA [1] (q0 (q8 0) x6) (qm (q0 (x9 zG (x8 vA (q0 (q8 0) x6)) (x9 pDiv (q9 1) (x8 jT (q0 (q8 0) x6)))) (q0 (x8 zm (q0 (q8 0) x6)) x6)))))))
def Jb:List PV->Option PV:=qy 3 1 UN
theorem sc_by_steepness:y6 ["cloths","common","cloth"] ["cloths"] (j9 JD):=u7
theorem Hf (F:Fun K "by_steepness" "by_steepness" JD f fd)(Ai:Fn P w K mg base 1 "length_of" ["cloth"] (v7 vA))(Ag:Fn P w K mg base 1 "name_of" ["cloth"] (v7 zm))(Ah:Fn P w K mg base 1 "weight_of" ["cloth"] (v7 jT))(Ar:mg "sorted"=none)(l_f:fd.code = .ref c_l)(l_C:∀ h:Heap,K.In h->PySem.W.CodeHd h c_l P_l)(l_P:(P_l,p_l,[((⟨61,30,61,109⟩:Pos),("by_steepness.<locals>.<lambda>":Str))])∈TABS):FnOk P w K mg base v9 6 f fd ["cloths"] (p8 Jb) :=
 okOC (k:=5) (b:=UN) F sc_by_steepness rfl λA outer s H E hr=>⟨_,(j3 (sW 1 sc_by_steepness.nd z0)
  (j3 (xn PassesOwn.never rfl (@qi _ K _ _ _ rfl (pv 0)) (gW 2 sc_by_steepness.nd)
   (j4 (Tc (i:=1) sc_by_steepness.nd rfl (Or.inr rfl) (fW Ah hr (aW (pv 2))) LI)))
  (j4 (y4 (RL (K:=K) (k:=2) (x:="cloth") (fr:=["common"]) (fi:=[1]) (clos:=[("common",s.heap.objs.size+1)]) rfl (hr.mono (by decide)) rfl Ar (aW (pv 0)) l_P
  (by exact yI.mpr rfl) (λp hp _=>by rw [yI.mp hp];rfl) l_f l_C ⟨rfl,rfl,rfl,by decide +kernel,by decide +kernel,(λx h=>by
   by_cases e:x = "common"
   ·rw [e];exact yI.mpr rfl
   ·exfalso
    revert h
    show ¬ (List.lookup x _=_);simp only [List.lookup]
    repeat' split
    all_goals simp_all),by decide +kernel⟩ ⟨rfl,(λj y i e1 e2=>by
    match j,e1,e2 with
    |0,e1,e2=>cases e1;cases e2;exact ⟨rfl,rfl,rfl,.inr (.inl rfl)⟩
    |j+1,e1,_=>simp at e1),(λy c e=>e),(λy c _ e=>e)⟩
  (λf c' s H hr2=>(@xp _ _ _ _ _ (aC (u6 (jV) (fW Ai hr2 (aW (pv 0))) (u6 (Wl) (pv 1) (fW Ah hr2 (aW (pv 0))))) (aW (fW Ag hr2 (aW (pv 0)))))))
  (λ_ _ _ _ _=>rfl)))))),
  inferInstance⟩
abbrev WP:Stmt:=jM (top 57) 8
abbrev UE (Aa:Addr):MS:=(y8 (m8 [none,some 1] [0] (dItV (xZ Aa "held" (q8 0))) (v8 0) (dT (x9 qK (x8 zX (q0 (q8 0) x6)) (q9 1))) (q8 0)))
def Xy (Aa:Addr):List PV->Option PV:=qy 2 2 (UE Aa)
theorem TN:y6 ["self","hue"] ["self","hue"] (j9 WP):=u7
theorem NU (F:Fun K "cloths_in" "Works.cloths_in" WP f fd)(Ap:Fn P w K mg base 1 "hue_of" ["cloth"] (v7 zX))[zy K Aa][xa K Aa "held"]:FnOk P w K mg base v9 2 f fd ["self","hue"] (p8 (Xy Aa)) :=
 okO (k:=1) (b:=(UE Aa)) F TN rfl λcdv A outer s H E hr=>⟨_,(j4 (y4 (qw (N':=["cloth","hue"]) (cap:=[none,some 1]) (f6 rfl rfl rfl) rfl (RU (vH (K:=K) rfl (pv 0) rfl)) (λ_ _ _ _ _ _=>(m7 (i:=0) (by show (["cloth","hue"]:List Str).Nodup;decide +kernel) rfl (Or.inl rfl))) (λ_ _ _ _ _ _=>(Pj (f9 (zY (K:=K) (qT hr) rfl) (fW Ap hr (aW (pv 0))) (pv 1) (m9 _)))) (λ_ _ _ _ _ _=>(pv 0))))),
  inferInstance⟩
abbrev WW:Stmt:=jM (top 57) 10
abbrev UJ (Aa:Addr):MS:=(y8 (x8 Jl (q0 (x8 Jb (q0 (xF Aa "cloths_in" (Xy Aa) (q8 0) (q0 (q8 1) x6)) x6)) x6)))
def QC (Aa:Addr):List PV->Option PV:=qy 2 2 (UJ Aa)
theorem TX:y6 ["self","hue"] ["self","hue"] (j9 WW):=u7
theorem Ha (F:Fun K "steep_row" "Works.steep_row" WW f fd)(A6:Fn P w K mg base 6 "by_steepness" ["cloths"] (p8 Jb))(En:Fn P w K mg base 2 "names_of" ["cloths"] (p8 Jl))(Au:Mt P w K mg base 2 Aa "cloths_in" ["self","hue"] (p8 (Xy Aa))):FnOk P w K mg base v9 7 f fd ["self","hue"] (p8 (QC Aa)) :=
 okO (k:=6) (b:=(UJ Aa)) F TX rfl λcdv A outer s H E hr=>⟨_,(j4 (y4 (fW En hr (aW (fW A6 hr (aW (QN Au hr (by decide) (pv 0) (aW (pv 1))))))))),
  inferInstance⟩
abbrev WZ:Stmt:=top 27
abbrev UM (Aa:Addr):MS:=(j7 (b9 (i6 (r9 (x8 qr (q0 (q9 1) (q0 (dC (.ty "list")) x6))))) (y8 (dC (.bl false))) c6)
  (j7 (u8 2 (xF Aa "names" (Xz Aa) (q8 0) x6))
  (y8 (zR (x8 za (q0 (m8 [none,some 2] [0] (r6 (q8 1)) (v8 0) n5 (x9 (pIn false) (q9 0) (q9 1))) x6)) (x9 qK (Kw (q9 1)) (x8 o9 (q0 (q9 1) x6)))))))
def wp (Aa:Addr):List PV->Option PV:=c5 3 2 (UM Aa)
theorem sc_are_names:y6 ["works","names","known"] ["works","names"] (j9 WZ):=u7
theorem He (F:Fun K "are_names" "are_names" WZ f fd)(Ax:mg "all"=none)(Ab:mg "isinstance"=none)(Ad:mg "len"=none)(Af:mg "list"=none)(Q5:mg "set"=none)(B7:Mt P w K mg base 1 Aa "names" ["self"] (p8 (Xz Aa))):FnOk P w K mg base v9 2 f fd ["works","names"] (v7 (wp Aa)) :=
 i4 (k:=1) (b:=(UM Aa)) F sc_are_names rfl λcdv A outer s H E hr=>⟨_,(j3 (n8 (qO (qD (K:=K) rfl (k9 (zD (K:=K) rfl) rfl Ab zB (aC (pv 1) (aW (zH (v:= .ty "list") rfl Af zC rfl)))) (λ_=>rfl))) (j4 (y4 xR)) n9)
  (j3 (sW 2 sc_are_names.nd (XV B7 hr (by decide) (pv 0)))
  (j4 (y4 (wC (k9 (vX (K:=K) rfl rfl) rfl Ax vW (aW (qw (N':=["thing","known"]) (cap:=[none,some 2]) (f6 rfl rfl rfl) rfl (@qi _ K _ _ _ rfl (pv 1)) (λ_ _ _ _ _ _=>(m7 (i:=0) (by show (["thing","known"]:List Str).Nodup;decide +kernel) rfl (Or.inl rfl))) (λ_ _ _ _ _ _=>o8) (λ_ _ _ _ _ _=>(jX (BQ (K:=K) rfl) (pv 0) (pv 1) (by with_unfolding_all rfl)))))) (QO (jX (zY (K:=K) (qT hr) rfl) (k9 DY rfl Ad PySem.boot_len (aW (zI (Md (K:=K) rfl rfl) rfl Q5 DQ (aW (pv 1))))) (k9 (xb (K:=K) rfl) rfl Ad PySem.boot_len (aW (pv 1))) (m9 _)))))))),
  inferInstance⟩
abbrev Yb:Stmt:=top 28
abbrev UP (Aa:Addr):MS:=(b9 (i6 (r9 (x8 (wp Aa) (q0 (q8 0) (q0 (q8 1) x6))))) xG c6)
def wq (Aa:Addr):List PV->Option PV:=c5 2 2 (UP Aa)
theorem Sa:y6 ["works","names"] ["works","names"] (j9 Yb):=u7
theorem Hh (F:Fun K "check_names" "check_names" Yb f fd)(Ef:Fn P w K mg base 2 "are_names" ["works","names"] (v7 (wp Aa))):FnOk P w K mg base v9 3 f fd ["works","names"] (v7 (wq Aa)) :=
 i4 (k:=2) (b:=(UP Aa)) F Sa rfl λcdv A outer s H E hr=>⟨_,(j4 (n8 (qO (qD (K:=K) rfl (fW Ef hr (aC (pv 0) (aW (pv 1)))) (λ_=>rfl))) (j4 jd) n9)),
  inferInstance⟩
abbrev YO:Stmt:=top 36
abbrev GD (Aa:Addr):MS:=(y8 (m8 [none,some 0] [0] (xx (q0 (xF Aa "hues" (jQ Aa) (q8 0) x6) x6)) (v8 0) n5 (xF Aa "steep_row" (QC Aa) (q8 1) (q0 (q8 0) x6))))
def XI (Aa:Addr):List PV->Option PV:=qy 1 1 (GD Aa)
theorem Sw:y6 ["works"] ["works"] (j9 YO):=u7
theorem Ra (F:Fun K "steep_rows" "steep_rows" YO f fd)(Ac:mg "range"=none)(Am:Mt P w K mg base 1 Aa "hues" ["self"] (v7 (jQ Aa)))(Aw:Mt P w K mg base 7 Aa "steep_row" ["self","hue"] (p8 (QC Aa))):FnOk P w K mg base v9 8 f fd ["works"] (p8 (XI Aa)) :=
 okO (k:=7) (b:=(GD Aa)) F Sw rfl λcdv A outer s H E hr=>⟨_,(j4 (y4 (qw (N':=["hue","works"]) (cap:=[none,some 0]) (f6 rfl rfl rfl) rfl (zr rfl Ac (aW (XV Am hr (by decide) (pv 0)))) (λ_ _ _ _ _ _=>(m7 (i:=0) (by show (["hue","works"]:List Str).Nodup;decide +kernel) rfl (Or.inl rfl))) (λ_ _ _ _ _ _=>o8) (λ_ _ _ _ _ _=>(QN Aw hr (by decide) (pv 1) (aW (pv 0))))))),
  inferInstance⟩
abbrev YS:Stmt:=top 37
abbrev GH:MS:=(j7 (u8 2 (m8 [none,none,some 0] [0,1] (Qk (q0 (q8 1) x6)) (qI 2 (c7 (v8 0) (c7 (v8 1) qH))) (dT (x9 (pIn false) (q9 1) (q9 2))) (q8 0)))
  (j7 (xE (Qo (q0 (q8 2) (q0 (jI (q9 2) (pSo (dC (.int 1))) pNo) x6))) (qI 2 (c7 (v8 3) (c7 (v8 4) qH))) (b9 (dT (x9 pGt (jH (q9 0) (x9 w9 (q9 1) (q9 3))) (jH (q9 0) (x9 w9 (q9 1) (q9 4))))) (y8 (qm (q0 (q8 3) (q0 (q8 4) x6)))) c6))
  (y8 (dC .non))))
def XL:List PV->Option PV:=c5 5 2 GH
theorem sc_turned_in:y6 ["row","names","places","ahead","behind"] ["row","names"] (j9 YS):=u7
theorem Rh (F:Fun K "turned_in" "turned_in" YS f fd)(Aj:mg "enumerate"=none)(J0:mg "zip"=none):FnOk P w K mg base v9 1 f fd ["row","names"] (v7 XL) :=
 i4 (k:=0) (b:=GH) F sc_turned_in rfl λcdv A outer s H E hr=>⟨_,(j3 (wE (i:=2) (N':=["place","name","row"]) (cap:=[none,none,some 0]) (f6 rfl rfl rfl) rfl sc_turned_in.nd rfl rfl (Wu (K:=K) rfl rfl Aj (aW (pv 1))) (λ_ _ _ _ _ _=>(jx (K:=K) (n:=2) rfl rfl (qV (m7 (i:=0) (by show (["place","name","row"]:List Str).Nodup;decide +kernel) rfl (Or.inl rfl)) (qV (m7 (i:=1) (by show (["place","name","row"]:List Str).Nodup;decide +kernel) rfl (Or.inl rfl)) jy)))) (λ_ _ _ _ _ _=>(Pj (f9 (BQ (K:=K) rfl) (pv 1) (pv 2) (by with_unfolding_all rfl)))) (λ_ _ _ _ _ _=>(pv 0)))
  (j3 (xn PassesOwn.never rfl (Pa (K:=K) rfl rfl J0 (aC (pv 2) (aW (QP (Zi (K:=K) rfl) (pv 2) (QR z0) QQ)))) (jx (K:=K) (n:=2) rfl rfl (qV (gW 3 sc_turned_in.nd) (qV (gW 4 sc_turned_in.nd) jy)))
   (j4 (n8 (f9 (Jt) (ja (K:=K) rfl PySem.F.plainAttrs_list PySem.F.slot_list_index PySem.F.type_list_index (BL (K:=K) rfl) (pv 0) (w5 (iW (K:=K) rfl (pv 1) (pv 3)) u9)) (ja (K:=K) rfl PySem.F.plainAttrs_list PySem.F.slot_list_index PySem.F.type_list_index (BL (K:=K) rfl) (pv 0) (w5 (iW (K:=K) rfl (pv 1) (pv 4)) u9)) (m9 _)) (j4 (y4 (@xp _ _ _ _ _ (aC (pv 3) (aW (pv 4)))))) n9)))
  (j4 (y4 jw)))),
  inferInstance⟩
abbrev YT:Stmt:=top 38
abbrev GI:MS:=(j7 (xE (r6 (q8 0)) (v8 2) (j7 (u8 3 (x8 XL (q0 (q8 2) (q0 (q8 1) x6))))
  (b9 (dT (x9 wB (q9 3) (dC .non))) (y8 (q8 3)) c6)))
  (y8 (dC .non)))
def vC:List PV->Option PV:=c5 4 2 GI
theorem sc_turned_pair:y6 ["rows","names","row","pair"] ["rows","names"] (j9 YT):=u7
theorem Ri (F:Fun K "turned_pair" "turned_pair" YT f fd)(Eh:Fn P w K mg base 1 "turned_in" ["row","names"] (v7 XL)):FnOk P w K mg base v9 2 f fd ["rows","names"] (v7 vC) :=
 i4 (k:=1) (b:=GI) F sc_turned_pair rfl λcdv A outer s H E hr=>⟨_,(j3 (xn PassesOwn.never rfl (@qi _ K _ _ _ rfl (pv 0)) (gW 2 sc_turned_pair.nd)
   (j3 (sW 3 sc_turned_pair.nd (fW Eh hr (aC (pv 2) (aW (pv 1)))))
  (j4 (n8 (f9 (Wm) (pv 3) jw (m9 _)) (j4 (y4 (pv 3))) n9))))
  (j4 (y4 jw))),
  inferInstance⟩
abbrev Yi:Stmt:=top 29
abbrev UV (Aa:Addr):MS:=(j7 (jG (x8 (wq Aa) (q0 (q8 0) (q0 (q8 1) x6))))
  (j7 (u8 2 (xF Aa "start" (XA Aa) (q8 0) x6))
  (j7 (u8 3 (x9 w9 (q9 2) (dC (.int 0))))
  (j7 (u8 4 (x9 w9 (q9 2) (dC (.int 1))))
  (j7 (vm 5 (xw x6))
  (j7 (xE (r6 (q8 1)) (v8 6) (j7 (u8 7 (xF Aa "cloth" (vx Aa) (q8 0) (q0 (q8 6) x6)))
  (j7 (u8 8 (x9 o6 (q9 4) (xF Aa "rinse" (QB Aa) (q8 0) (q0 (q8 3) (q0 (x8 zX (q0 (q8 7) x6)) x6)))))
  (j7 (u8 4 (x9 o6 (q9 8) (x8 vA (q0 (q8 7) x6))))
  (j7 (u8 3 (x8 zX (q0 (q8 7) x6)))
  (jF 5 (qm (q0 (q8 6) (q0 (q8 8) (q0 (q8 4) x6))))))))))
  (y8 (QI 5))))))))
def QD (Aa:Addr):List PV->Option PV:=qy 9 2 (UV Aa)
theorem sc_done_rows:y6 ["works","names","start","last","time","rows","name","cloth","begin"] ["works","names"] (j9 Yi):=u7
theorem Ho (F:Fun K "done_rows" "done_rows" Yi f fd)(Ao:Fn P w K mg base 3 "check_names" ["works","names"] (v7 (wq Aa)))(Ap:Fn P w K mg base 1 "hue_of" ["cloth"] (v7 zX))(Ai:Fn P w K mg base 1 "length_of" ["cloth"] (v7 vA))(An:Mt P w K mg base 1 Aa "cloth" ["self","name"] (v7 (vx Aa)))(D5:Mt P w K mg base 2 Aa "rinse" ["self","first","then"] (v7 (QB Aa)))(D6:Mt P w K mg base 1 Aa "start" ["self"] (v7 (XA Aa))):FnOk P w K mg base v9 4 f fd ["works","names"] (p8 (QD Aa)) :=
 okO (k:=3) (b:=(UV Aa)) F sc_done_rows rfl λcdv A outer s H E hr=>⟨_,(j3 (jc (fW Ao hr (aC (pv 0) (aW (pv 1)))))
  (j3 (sW 2 sc_done_rows.nd (XV D6 hr (by decide) (pv 0)))
  (j3 (sW 3 sc_done_rows.nd (iW (K:=K) rfl (pv 2) z0))
  (j3 (sW 4 sc_done_rows.nd (iW (K:=K) rfl (pv 2) z0))
  (j3 (sW 5 sc_done_rows.nd (@zb _ _ _ _ u9))
  (j3 (xn PassesOwn.never rfl (@qi _ K _ _ _ rfl (pv 1)) (gW 6 sc_done_rows.nd)
   (j3 (sW 7 sc_done_rows.nd (QN An hr (by decide) (pv 0) (aW (pv 6))))
  (j3 (sW 8 sc_done_rows.nd (u6 (xm (K:=K) rfl) (pv 4) (QN D5 hr (by decide) (pv 0) (aC (pv 3) (aW (fW Ap hr (aW (pv 7))))))))
  (j3 (sW 4 sc_done_rows.nd (u6 (xm (K:=K) rfl) (pv 8) (fW Ai hr (aW (pv 7)))))
  (j3 (sW 3 sc_done_rows.nd (fW Ap hr (aW (pv 7))))
  (j4 (jc (ja (K:=K) rfl PySem.F.plainAttrs_list PySem.F.slot_list_append PySem.F.type_list_append XN (pv 5) (w5 (@xp _ _ _ _ _ (aC (pv 6) (aC (pv 8) (aW (pv 4))))) u9)))))))))
  (j4 (y4 (pv 5))))))))),
  inferInstance⟩
abbrev Yk:Stmt:=top 30
abbrev UX (Aa:Addr):MS:=(y8 (m8 [none,none,none,some 0] [0,1,2] (r6 (x8 (QD Aa) (q0 (q8 0) (q0 (q8 1) x6)))) (qI 3 (c7 (v8 0) (c7 (v8 1) (c7 (v8 2) qH)))) n5 (qm (q0 (xF Aa "cloth" (vx Aa) (q8 3) (q0 (q8 0) x6)) (q0 (q8 2) x6)))))
def XC (Aa:Addr):List PV->Option PV:=qy 2 2 (UX Aa)
theorem Sf:y6 ["works","names"] ["works","names"] (j9 Yk):=u7
theorem Hr (F:Fun K "ended_cloths" "ended_cloths" Yk f fd)(Eg:Fn P w K mg base 4 "done_rows" ["works","names"] (p8 (QD Aa)))(An:Mt P w K mg base 1 Aa "cloth" ["self","name"] (v7 (vx Aa))):FnOk P w K mg base v9 5 f fd ["works","names"] (p8 (XC Aa)) :=
 okO (k:=4) (b:=(UX Aa)) F Sf rfl λcdv A outer s H E hr=>⟨_,(j4 (y4 (qw (N':=["name","begin","end","works"]) (cap:=[none,none,none,some 0]) (f6 rfl rfl rfl) rfl (@qi _ K _ _ _ rfl (fW Eg hr (aC (pv 0) (aW (pv 1))))) (λ_ _ _ _ _ _=>(jx (K:=K) (n:=3) rfl rfl (qV (m7 (i:=0) (by show (["name","begin","end","works"]:List Str).Nodup;decide +kernel) rfl (Or.inl rfl)) (qV (m7 (i:=1) (by show (["name","begin","end","works"]:List Str).Nodup;decide +kernel) rfl (Or.inl rfl)) (qV (m7 (i:=2) (by show (["name","begin","end","works"]:List Str).Nodup;decide +kernel) rfl (Or.inl rfl)) jy))))) (λ_ _ _ _ _ _=>o8) (λ_ _ _ _ _ _=>(@xp _ _ _ _ _ (aC (QN An hr (by decide) (pv 3) (aW (pv 0))) (aW (pv 2)))))))),
  inferInstance⟩
abbrev Yg:Stmt:=top 31
abbrev UU (Aa:Addr):MS:=(y8 (x8 XU (q0 (m8 [none,none] [0,1] (r6 (x8 (XC Aa) (q0 (q8 0) (q0 (q8 1) x6)))) (qI 2 (c7 (v8 0) (c7 (v8 1) qH))) n5 (x9 zG (x8 jT (q0 (q8 0) x6)) (q9 1))) x6)))
def jR (Aa:Addr):List PV->Option PV:=c5 2 2 (UU Aa)
theorem Sd:y6 ["works","names"] ["works","names"] (j9 Yg):=u7
theorem Hm (F:Fun K "cost_of" "cost_of" Yg f fd)(A7:Fn P w K mg base 5 "ended_cloths" ["works","names"] (p8 (XC Aa)))(Ah:Fn P w K mg base 1 "weight_of" ["cloth"] (v7 jT))(Ee:mg "sum"=none):FnOk P w K mg base v9 6 f fd ["works","names"] (v7 (jR Aa)) :=
 i4 (k:=5) (b:=(UU Aa)) F Sd rfl λcdv A outer s H E hr=>⟨_,(j4 (y4 (k9 (Kf (K:=K) rfl rfl) rfl Ee Vg (aW (qw (N':=["cloth","end"]) (cap:=[none,none]) (f6 rfl rfl rfl) rfl (@qi _ K _ _ _ rfl (fW A7 hr (aC (pv 0) (aW (pv 1))))) (λ_ _ _ _ _ _=>(jx (K:=K) (n:=2) rfl rfl (qV (m7 (i:=0) (by show (["cloth","end"]:List Str).Nodup;decide +kernel) rfl (Or.inl rfl)) (qV (m7 (i:=1) (by show (["cloth","end"]:List Str).Nodup;decide +kernel) rfl (Or.inl rfl)) jy)))) (λ_ _ _ _ _ _=>o8) (λ_ _ _ _ _ _=>(u6 (jV) (fW Ah hr (aW (pv 0))) (pv 1)))))))),
  inferInstance⟩
abbrev YD:Stmt:=top 33
abbrev Gr:MS:=(j7 (u8 2 (x9 w9 (q9 1) (dC (.int 0))))
  (j7 (u8 3 (x9 w9 (q9 1) (dC (.int 1))))
  (j7 (u8 4 (x9 o6 (jI (q9 0) pNo (pSo (q8 2))) (jI (q9 0) (pSo (x9 o6 (q9 2) (dC (.int 1)))) pNo)))
  (y8 (x9 o6 (x9 o6 (jI (q9 4) pNo (pSo (q8 3))) (xw (q0 (x9 w9 (q9 0) (q9 2)) x6))) (jI (q9 4) (pSo (q8 3)) pNo))))))
def xW:List PV->Option PV:=c5 5 2 Gr
theorem sc_moved:y6 ["names","move","at","to","others"] ["names","move"] (j9 YD):=u7
theorem HN (F:Fun K "moved" "moved" YD f fd):FnOk P w K mg base v9 1 f fd ["names","move"] (v7 xW) :=
 i4 (k:=0) (b:=Gr) F sc_moved rfl λcdv A outer s H E hr=>⟨_,(j3 (sW 2 sc_moved.nd (iW (K:=K) rfl (pv 1) z0))
  (j3 (sW 3 sc_moved.nd (iW (K:=K) rfl (pv 1) z0))
  (j3 (sW 4 sc_moved.nd (u6 (xm (K:=K) rfl) (QP (Zi (K:=K) rfl) (pv 0) QQ (QR (pv 2))) (QP (Zi (K:=K) rfl) (pv 0) (QR (u6 (xm (K:=K) rfl) (pv 2) z0)) QQ)))
  (j4 (y4 (u6 (xm (K:=K) rfl) (u6 (xm (K:=K) rfl) (QP (Zi (K:=K) rfl) (pv 4) QQ (QR (pv 3))) (@zb _ _ _ _ (aW (iW (K:=K) rfl (pv 0) (pv 2))))) (QP (Zi (K:=K) rfl) (pv 4) (QR (pv 3)) QQ))))))),
  inferInstance⟩
abbrev Yq:Stmt:=top 34
abbrev Gd:MS:=(y8 (x8 za (q0 (m8 [none,some 1] [0] (Ql (q8 0)) (v8 0) n5 (xY pLe pLt (dC (.int 0)) (q9 0) (q9 1))) x6)))
def jS:List PV->Option PV:=c5 2 2 Gd
theorem Sj:y6 ["move","many"] ["move","many"] (j9 Yq):=u7
theorem Hz (F:Fun K "is_move" "is_move" Yq f fd)(Ax:mg "all"=none):FnOk P w K mg base v9 1 f fd ["move","many"] (v7 jS) :=
 i4 (k:=0) (b:=Gd) F Sj rfl λcdv A outer s H E hr=>⟨_,(j4 (y4 (k9 (vX (K:=K) rfl rfl) rfl Ax vW (aW (qw (N':=["place","many"]) (cap:=[none,some 1]) (f6 rfl rfl rfl) rfl (Wv (K:=K) rfl (pv 0)) (λ_ _ _ _ _ _=>(m7 (i:=0) (by show (["place","many"]:List Str).Nodup;decide +kernel) rfl (Or.inl rfl))) (λ_ _ _ _ _ _=>o8) (λ_ _ _ _ _ _=>(Wp (ww) (Ju) z0 (pv 0) (pv 1)))))))),
  inferInstance⟩
abbrev YU:Stmt:=top 35
abbrev GJ:MS:=(j7 (u8 2 (x8 zF (q0 (q9 0) x6)))
  (j7 (xE (Qk (q0 (q8 1) x6)) (qI 2 (c7 (v8 3) (c7 (v8 4) qH))) (j7 (b9 (i6 (r9 (x8 jS (q0 (q8 4) (q0 (x8 o9 (q0 (q9 2) x6)) x6))))) xG c6)
  (u8 2 (x8 xW (q0 (q8 2) (q0 (q8 4) x6))))))
  (y8 (q8 2))))
def Jn:List PV->Option PV:=c5 5 2 GJ
theorem sc_walked:y6 ["names","moves","found","number","move"] ["names","moves"] (j9 YU):=u7
theorem Rj (F:Fun K "walked" "walked" YU f fd)(Es:Fn P w K mg base 1 "is_move" ["move","many"] (v7 jS))(A3:Fn P w K mg base 1 "moved" ["names","move"] (v7 xW))(Aj:mg "enumerate"=none)(Ad:mg "len"=none)(Af:mg "list"=none):FnOk P w K mg base v9 2 f fd ["names","moves"] (v7 Jn) :=
 i4 (k:=1) (b:=GJ) F sc_walked rfl λcdv A outer s H E hr=>⟨_,(j3 (sW 2 sc_walked.nd (zI (vh (K:=K) rfl) rfl Af zC (aW (pv 0))))
  (j3 (xn PassesOwn.never rfl (Wu (K:=K) rfl rfl Aj (aW (pv 1))) (jx (K:=K) (n:=2) rfl rfl (qV (gW 3 sc_walked.nd) (qV (gW 4 sc_walked.nd) jy)))
   (j3 (n8 (qO (qD (K:=K) rfl (fW Es hr (aC (pv 4) (aW (k9 (xb (K:=K) rfl) rfl Ad PySem.boot_len (aW (pv 2)))))) (λ_=>rfl))) (j4 jd) n9)
  (j4 (sW 2 sc_walked.nd (fW A3 hr (aC (pv 2) (aW (pv 4))))))))
  (j4 (y4 (pv 2))))),
  inferInstance⟩
abbrev YN:Stmt:=top 40
abbrev GC (Aa:Addr):MS:=(j7 (b9 (dT (x9 pLe (x8 (jR Aa) (q0 (q8 0) (q0 (x8 xW (q0 (q8 1) (q0 (q8 2) x6))) x6))) (x8 (jR Aa) (q0 (q8 0) (q0 (q8 1) x6))))) (y8 (q8 2)) c6)
  (y8 (qm (q0 (x9 w9 (q9 2) (dC (.int 1))) (q0 (x9 w9 (q9 2) (dC (.int 0))) x6)))))
def vB (Aa:Addr):List PV->Option PV:=c5 3 3 (GC Aa)
theorem Sv:y6 ["works","names","pair"] ["works","names","pair"] (j9 YN):=u7
theorem HZ (F:Fun K "steep_move" "steep_move" YN f fd)(Ek:Fn P w K mg base 6 "cost_of" ["works","names"] (v7 (jR Aa)))(A3:Fn P w K mg base 1 "moved" ["names","move"] (v7 xW)):FnOk P w K mg base v9 7 f fd ["works","names","pair"] (v7 (vB Aa)) :=
 i4 (k:=6) (b:=(GC Aa)) F Sv rfl λcdv A outer s H E hr=>⟨_,(j3 (n8 (f9 (ww) (fW Ek hr (aC (pv 0) (aW (fW A3 hr (aC (pv 1) (aW (pv 2))))))) (fW Ek hr (aC (pv 0) (aW (pv 1)))) (m9 _)) (j4 (y4 (pv 2))) n9)
  (j4 (y4 (@xp _ _ _ _ _ (aC (iW (K:=K) rfl (pv 2) z0) (aW (iW (K:=K) rfl (pv 2) z0))))))),
  inferInstance⟩
abbrev YE:Stmt:=top 39
noncomputable abbrev Gs (As:LQ)(mL:List PV->Option PV):MS:=(j7 (vm 3 (xw x6))
  (j7 (u8 4 (x8 zF (q0 (q9 1) x6)))
  (j7 (u8 5 (x8 vC (q0 (q8 0) (q0 (q8 4) x6))))
  (j7 (jq (dT (x9 wB (q9 5) (dC .non))) (j7 (u8 6 (ZI As 8 mL 2 (q0 (q8 4) (q0 (q8 5) x6))))
  (j7 (jF 3 (q8 6))
  (j7 (u8 4 (x8 xW (q0 (q8 4) (q0 (q8 6) x6))))
  (u8 5 (x8 vC (q0 (q8 0) (q0 (q8 4) x6))))))) 101)
  (y8 (QI 3))))))
noncomputable def XH (As:LQ)(mL:List PV->Option PV):List PV->Option PV:=qy 7 3 (Gs As mL)
theorem sc_moves_to:y6 ["rows","names","move_for","moves","found","pair","move"] ["rows","names","move_for"] (j9 YE):=u7
theorem HP (F:Fun K "moves_to" "moves_to" YE f fd)(A3:Fn P w K mg base 1 "moved" ["names","move"] (v7 xW))(Ay:Fn P w K mg base 2 "turned_pair" ["rows","names"] (v7 vC))(Af:mg "list"=none):FnOk P w K mg base v9 9 f fd ["rows","names","move_for"] (Zl (XH (LQ.mk P w K mg base))) :=
 okOE λmL=>okO (k:=8) (b:=(Gs (LQ.mk P w K mg base) mL)) F sc_moves_to rfl λcdv A outer s H E hr=>⟨_,(j3 (sW 3 sc_moves_to.nd (@zb _ _ _ _ u9))
  (j3 (sW 4 sc_moves_to.nd (zI (vh (K:=K) rfl) rfl Af zC (aW (pv 1))))
  (j3 (sW 5 sc_moves_to.nd (fW Ay hr (aC (pv 0) (aW (pv 4)))))
  (j3 (Tf PassesOwn.never (f9 (Wm) (pv 5) jw (m9 _))
   (j3 (sW 6 sc_moves_to.nd (RA (P:=P) (w:=w) (K:=K) (mg:=mg) (base:=base) (i:=2) (k:=8) rfl rfl (hr.mono (by decide)) (aC (pv 4) (aW (pv 5)))))
  (j3 (jc (ja (K:=K) rfl PySem.F.plainAttrs_list PySem.F.slot_list_append PySem.F.type_list_append XN (pv 3) (w5 (pv 6) u9)))
  (j3 (sW 4 sc_moves_to.nd (fW A3 hr (aC (pv 4) (aW (pv 6)))))
  (j4 (sW 5 sc_moves_to.nd (fW Ay hr (aC (pv 0) (aW (pv 4))))))))))
  (j4 (y4 (pv 3))))))),
  inferInstance⟩
abbrev JF:Stmt:=top 41
noncomputable abbrev GG (As:LQ)(Aa:Addr):MS:=(j7 (jG (x8 (wq Aa) (q0 (q8 0) (q0 (q8 1) x6))))
  (Xh As 8 2 (x8 (vB Aa) (q0 (q8 2) (q0 (q8 0) (q0 (q8 1) x6)))) [0] (XH As) (x8 (XI Aa) (q0 (q8 0) x6)) (q8 1)))
noncomputable def xX (As:LQ)(Aa:Addr):List PV->Option PV:=qy 2 2 (GG As Aa)
theorem Sz:y6 ["works","names"] ["works","names"] (j9 JF):=u7
theorem Rg (F:Fun K "to_steep" "to_steep" JF f fd)(Ao:Fn P w K mg base 3 "check_names" ["works","names"] (v7 (wq Aa)))(El:Fn P w K mg base 9 "moves_to" ["rows","names","move_for"] (Zl (XH (LQ.mk P w K mg base))))(Ea:Fn P w K mg base 7 "steep_move" ["works","names","pair"] (v7 (vB Aa)))(D9:Fn P w K mg base 8 "steep_rows" ["works"] (p8 (XI Aa)))(l_f:fd.code = .ref c_l)(l_C:∀ h:Heap,K.In h->PySem.W.CodeHd h c_l P_l)(l_P:(P_l,p_l,[((⟨133,46,133,96⟩:Pos),("to_steep.<locals>.<lambda>":Str))])∈TABS):FnOk P w K mg base v9 10 f fd ["works","names"] (p8 (xX (LQ.mk P w K mg base) Aa)) :=
 okOC (k:=9) (b:=(GG (LQ.mk P w K mg base) Aa)) F Sz rfl λA outer s H E hr=>⟨_,(j3 (jc (fW Ao hr (aC (pv 0) (aW (pv 1)))))
  (j4 (y4 (RG (P:=P) (w:=w) (K:=K) (mg:=mg) (base:=base) (k:=7) (n:=2) (lps:=["found","pair"]) (fr:=["works"]) (fi:=[0]) (clos:=[("works",s.heap.objs.size+1)]) rfl El hr (by decide) rfl (fW D9 hr (aW (pv 0))) (pv 1) l_P (by exact yI.mpr rfl) (λp hp _=>by rw [yI.mp hp];rfl) l_f l_C ⟨rfl,rfl,rfl,by decide +kernel,by decide +kernel,(λx h=>by
   by_cases e:x = "works"
   ·rw [e];exact yI.mpr rfl
   ·exfalso
    revert h
    show ¬ (List.lookup x _=_);simp only [List.lookup]
    repeat' split
    all_goals simp_all),by decide +kernel⟩ rfl ⟨rfl,(λj y i e1 e2=>by
    match j,e1,e2 with
    |0,e1,e2=>cases e1;cases e2;exact ⟨rfl,rfl,rfl,.inr (.inl rfl)⟩
    |j+1,e1,_=>simp at e1),(λy c e=>e),(λy c _ e=>e)⟩ (λy hy=>by rw [yI.mp hy];rfl) (λy c e=>by
   by_cases h:y = "works"
   ·rw [h];exact yI.mpr rfl
   ·have h2:(y==("works":Str))=false:=by simpa using h
    simp [List.lookup,h2] at e) (λf c' A outer s H hr2=>(fW Ea hr2 (aC (pv 2) (aC (pv 0) (aW (pv 1)))))) (λ_ _ _ _ us hl=>match us,hl with|[_,_],_=>rfl))))),
  inferInstance⟩
abbrev wH:Stmt:=jM (top 57) 0
abbrev ZB (Aa:Addr):MS:=(j7 (jp Aa "least" (x8 Ji (q0 (q8 1) x6)))
  (j7 (jG (x8 Je (q0 (q8 3) (q0 (q8 4) (q0 (Qm Aa "hues" (jQ Aa) 0 x6) x6)))))
  (j7 (jG (x8 Jc (q0 (q8 2) (q0 (Qm Aa "hues" (jQ Aa) 0 x6) x6))))
  (j7 (jp Aa "given" (m8 [none] [0] (r6 (q8 1)) (v8 0) n5 (x8 zF (q0 (q9 0) x6))))
  (j7 (jp Aa "held" (x8 wA (q0 (m8 [none] [0] (r6 (q8 2)) (v8 0) n5 (qm (q0 (x8 zm (q0 (q8 0) x6)) (q0 (q8 0) x6)))) x6)))
  (j7 (jp Aa "last" (dIf (dT (x9 XT (q9 3) (dC .non))) (dUn pNeg (dC (.int 1))) (q8 3)))
  (jp Aa "time" (q8 4))))))))
def QA (Aa:Addr):List PV->Option PV:=Xg 5 5 Aa (ZB Aa)
theorem TR:y6 ["self","rinses","cloths","last","time"] ["self","rinses","cloths","last","time"] (j9 wH):=u7
theorem NW (F:FunD K "__init__" "Works.__init__" wH f fd)(A4:Fn P w K mg base 4 "check_cloths" ["cloths","hues"] (v7 Jc))(B8:Fn P w K mg base 3 "check_start" ["last","time","hues"] (v7 Je))(A9:Fn P w K mg base 4 "least_rinses" ["rinses"] (p8 Ji))(Ag:Fn P w K mg base 1 "name_of" ["cloth"] (v7 zm))(D8:mg "dict"=none)(Af:mg "list"=none)[zy K Aa][xa K Aa "given"][xa K Aa "held"][xa K Aa "last"][xa K Aa "least"][xa K Aa "time"](Am:Mt P w K mg base 1 Aa "hues" ["self"] (v7 (jQ Aa))):FnOk P w K mg base v9 5 f fd ["self","rinses","cloths","last","time"] (spI Aa (QA Aa)) :=
 okID (k:=4) (b:=ZB Aa) F TR rfl (λcdv A outer s H E hr=>⟨_,(j3 (Zb (K:=K) rfl (pv 0) (fW A9 hr (aW (pv 1))))
  (j3 (jc (fW B8 hr (aC (pv 3) (aC (pv 4) (aW (XV Am hr (by decide) (pv 0)))))))
  (j3 (jc (fW A4 hr (aC (pv 2) (aW (XV Am hr (by decide) (pv 0))))))
  (j3 (Zb (K:=K) rfl (pv 0) (qw (N':=["row"]) (cap:=[none]) (f6 rfl rfl rfl) rfl (@qi _ K _ _ _ rfl (pv 1)) (λ_ _ _ _ _ _=>(m7 (i:=0) (by show (["row"]:List Str).Nodup;decide +kernel) rfl (Or.inl rfl))) (λ_ _ _ _ _ _=>o8) (λ_ _ _ _ _ _=>(zI (vh (K:=K) rfl) rfl Af zC (aW (pv 0))))))
  (j3 (Zb (K:=K) rfl (pv 0) (zI (Vh (K:=K) rfl rfl) rfl D8 Vf (aW (qw (N':=["cloth"]) (cap:=[none]) (f6 rfl rfl rfl) rfl (@qi _ K _ _ _ rfl (pv 2)) (λ_ _ _ _ _ _=>(m7 (i:=0) (by show (["cloth"]:List Str).Nodup;decide +kernel) rfl (Or.inl rfl))) (λ_ _ _ _ _ _=>o8) (λ_ _ _ _ _ _=>(@xp _ _ _ _ _ (aC (fW Ag hr (aW (pv 0))) (aW (pv 0)))))))))
  (j3 (Zb (K:=K) rfl (pv 0) (Wq (f9 (BR) (pv 3) jw (m9 _)) (BW CP z0) (pv 3)))
  (j4 (Zb (K:=K) rfl (pv 0) (pv 4))))))))),
  (by repeat' first|infer_instance|(refine @Mi.SI _ _ _ _ ?_ ?_))⟩)
abbrev Yl:Stmt:=top 68
noncomputable abbrev UY:MS:=(j7 (u8 2 (x8 vz (q0 (x9 w9 (q9 0) (dC (.int 0))) x6)))
  (j7 (u8 3 (x8 wA (q0 (m8 [none] [0] (r6 (x9 w9 (q9 0) (dC (.int 1)))) (v8 0) n5 (qm (q0 (x9 w9 (q9 0) (dC (.int 0))) (q0 (q8 0) x6)))) x6)))
  (j7 (dAsg (qI 2 (c7 (v8 4) (c7 (v8 5) qH))) (dSlT (q9 0) (pSo (dC (.int 2))) pNo))
  (j7 (vm 6 (xw x6))
  (j7 (xE (r6 (q8 1)) (v8 7) (j7 (b9 (dT (x9 qL (x9 w9 (qf (q9 3) (q9 7)) (dC (.int 1))) (q9 4))) (u8 5 (x9 o6 (q9 5) (x9 w9 (x9 w9 (q9 2) (q9 4)) (x9 w9 (qf (q9 3) (q9 7)) (dC (.int 1)))))) c6)
  (j7 (u8 5 (x9 o6 (q9 5) (x9 w9 (qf (q9 3) (q9 7)) (dC (.int 2)))))
  (j7 (u8 4 (x9 w9 (qf (q9 3) (q9 7)) (dC (.int 1))))
  (jF 6 (qm (q0 (qf (q9 3) (q9 7)) (q0 (q8 5) x6))))))))
  (y8 (QI 6)))))))
noncomputable def Jf:List PV->Option PV:=qy 8 2 UY
theorem sc_ends:y6 ["parts","names","least","cloths","last","time","found","name"] ["parts","names"] (j9 Yl):=u7
theorem Ht (F:Fun K "_law_ends" "_law_ends" Yl f fd)(J5:Fn P w K mg base 1 "_law_least" ["rinses"] (v7 vz))(D8:mg "dict"=none):FnOk P w K mg base v9 2 f fd ["parts","names"] (p8 Jf) :=
 okO (k:=1) (b:=UY) F sc_ends rfl λcdv A outer s H E hr=>⟨_,(j3 (sW 2 sc_ends.nd (fW J5 hr (aW (iW (K:=K) rfl (pv 0) z0))))
  (j3 (sW 3 sc_ends.nd (zI (Vh (K:=K) rfl rfl) rfl D8 Vf (aW (qw (N':=["cloth"]) (cap:=[none]) (f6 rfl rfl rfl) rfl (@qi _ K _ _ _ rfl (iW (K:=K) rfl (pv 0) z0)) (λ_ _ _ _ _ _=>(m7 (i:=0) (by show (["cloth"]:List Str).Nodup;decide +kernel) rfl (Or.inl rfl))) (λ_ _ _ _ _ _=>o8) (λ_ _ _ _ _ _=>(@xp _ _ _ _ _ (aC (iW (K:=K) rfl (pv 0) z0) (aW (pv 0)))))))))
  (j3 (WC (QP (SN (K:=K) rfl) (pv 0) (QR z0) QQ) (jx (K:=K) (n:=2) rfl rfl (qV (gW 4 sc_ends.nd) (qV (gW 5 sc_ends.nd) jy))))
  (j3 (sW 6 sc_ends.nd (@zb _ _ _ _ u9))
  (j3 (xn PassesOwn.never rfl (@qi _ K _ _ _ rfl (pv 1)) (gW 7 sc_ends.nd)
   (j3 (n8 (f9 (ju (K:=K) (qT hr) rfl) (iW (K:=K) rfl (vG (zj hr) (pv 3) (pv 7) (λ_ _=>rfl)) z0) (pv 4) (m9 _)) (j4 (sW 5 sc_ends.nd (u6 (xm (K:=K) rfl) (pv 5) (iW (K:=K) rfl (iW (K:=K) rfl (pv 2) (pv 4)) (iW (K:=K) rfl (vG (zj hr) (pv 3) (pv 7) (λ_ _=>rfl)) z0))))) n9)
  (j3 (sW 5 sc_ends.nd (u6 (xm (K:=K) rfl) (pv 5) (iW (K:=K) rfl (vG (zj hr) (pv 3) (pv 7) (λ_ _=>rfl)) z0)))
  (j3 (sW 4 sc_ends.nd (iW (K:=K) rfl (vG (zj hr) (pv 3) (pv 7) (λ_ _=>rfl)) z0))
  (j4 (jc (ja (K:=K) rfl PySem.F.plainAttrs_list PySem.F.slot_list_append PySem.F.type_list_append XN (pv 6) (w5 (@xp _ _ _ _ _ (aC (vG (zj hr) (pv 3) (pv 7) (λ_ _=>rfl)) (aW (pv 5)))) u9))))))))
  (j4 (y4 (pv 6)))))))),
  inferInstance⟩
abbrev Yf:Stmt:=top 69
noncomputable abbrev UT:MS:=(y8 (x8 XU (q0 (m8 [none,none] [0,1] (r6 (x8 Jf (q0 (q8 0) (q0 (q8 1) x6)))) (qI 2 (c7 (v8 0) (c7 (v8 1) qH))) n5 (x9 zG (x9 w9 (q9 0) (dC (.int 4))) (q9 1))) x6)))
noncomputable def wu:List PV->Option PV:=c5 2 2 UT
theorem Sc:y6 ["parts","names"] ["parts","names"] (j9 Yf):=u7
theorem Hl (F:Fun K "_law_cost" "_law_cost" Yf f fd)(Q0:Fn P w K mg base 2 "_law_ends" ["parts","names"] (p8 Jf))(Ee:mg "sum"=none):FnOk P w K mg base v9 3 f fd ["parts","names"] (v7 wu) :=
 i4 (k:=2) (b:=UT) F Sc rfl λcdv A outer s H E hr=>⟨_,(j4 (y4 (k9 (Kf (K:=K) rfl rfl) rfl Ee Vg (aW (qw (N':=["cloth","end"]) (cap:=[none,none]) (f6 rfl rfl rfl) rfl (@qi _ K _ _ _ rfl (fW Q0 hr (aC (pv 0) (aW (pv 1))))) (λ_ _ _ _ _ _=>(jx (K:=K) (n:=2) rfl rfl (qV (m7 (i:=0) (by show (["cloth","end"]:List Str).Nodup;decide +kernel) rfl (Or.inl rfl)) (qV (m7 (i:=1) (by show (["cloth","end"]:List Str).Nodup;decide +kernel) rfl (Or.inl rfl)) jy)))) (λ_ _ _ _ _ _=>o8) (λ_ _ _ _ _ _=>(u6 (jV) (iW (K:=K) rfl (pv 0) z0) (pv 1)))))))),
  inferInstance⟩
abbrev WY:Stmt:=top 70
abbrev UL:MS:=(j7 (b9 (dT (x9 qK (q9 2) (dC (.int 0)))) (y8 (x9 pLtP (qm (q0 (x9 w9 (q9 0) (dC (.int 3))) (q0 (x9 w9 (q9 0) (dC (.int 0))) x6))) (qm (q0 (x9 w9 (q9 1) (dC (.int 3))) (q0 (x9 w9 (q9 1) (dC (.int 0))) x6))))) c6)
  (y8 (x9 pLtP (qm (q0 (x9 zG (x9 w9 (q9 0) (dC (.int 2))) (x9 w9 (q9 1) (dC (.int 4)))) (q0 (x9 w9 (q9 0) (dC (.int 0))) x6))) (qm (q0 (x9 zG (x9 w9 (q9 1) (dC (.int 2))) (x9 w9 (q9 0) (dC (.int 4)))) (q0 (x9 w9 (q9 1) (dC (.int 0))) x6))))))
def wo:List PV->Option PV:=c5 3 3 UL
theorem TZ:y6 ["one","other","way"] ["one","other","way"] (j9 WY):=u7
theorem Hd (F:Fun K "_law_ahead" "_law_ahead" WY f fd):FnOk P w K mg base v9 1 f fd ["one","other","way"] (v7 wo) :=
 i4 (k:=0) (b:=UL) F TZ rfl λcdv A outer s H E hr=>⟨_,(j3 (n8 (f9 (zY (K:=K) (qT hr) rfl) (pv 2) z0 (m9 _)) (j4 (y4 (jX (BT (zj hr) (K:=K) rfl) (@xp _ _ _ _ _ (aC (iW (K:=K) rfl (pv 0) z0) (aW (iW (K:=K) rfl (pv 0) z0)))) (@xp _ _ _ _ _ (aC (iW (K:=K) rfl (pv 1) z0) (aW (iW (K:=K) rfl (pv 1) z0)))) (m9 _)))) n9)
  (j4 (y4 (jX (BT (zj hr) (K:=K) rfl) (@xp _ _ _ _ _ (aC (u6 (jV) (iW (K:=K) rfl (pv 0) z0) (iW (K:=K) rfl (pv 1) z0)) (aW (iW (K:=K) rfl (pv 0) z0)))) (@xp _ _ _ _ _ (aC (u6 (jV) (iW (K:=K) rfl (pv 1) z0) (iW (K:=K) rfl (pv 0) z0)) (aW (iW (K:=K) rfl (pv 1) z0)))) (m9 _))))),
  inferInstance⟩
abbrev Yn:Stmt:=top 71
abbrev Ga:MS:=(j7 (u8 3 (x8 wA (q0 (m8 [none] [0] (r6 (x9 w9 (q9 0) (dC (.int 1)))) (v8 0) n5 (qm (q0 (x9 w9 (q9 0) (dC (.int 0))) (q0 (q8 0) x6)))) x6)))
  (j7 (xE (xx (q0 (x8 o9 (q0 (q9 1) x6)) x6)) (v8 4) (xE (xx (q0 (q8 4) x6)) (v8 5) (j7 (u8 6 (qf (q9 3) (x9 w9 (q9 1) (q9 5))))
  (j7 (u8 7 (qf (q9 3) (x9 w9 (q9 1) (q9 4))))
  (b9 (zQ (dT (x9 qK (x9 w9 (q9 6) (dC (.int 1))) (x9 w9 (q9 7) (dC (.int 1))))) (r9 (x8 wo (q0 (q8 7) (q0 (q8 6) (q0 (q8 2) x6)))))) (y8 (dC (.bl false))) c6)))))
  (y8 (dC (.bl true)))))
def wv:List PV->Option PV:=c5 8 3 Ga
theorem sc_in_order:y6 ["parts","names","way","cloths","k","j","one","other"] ["parts","names","way"] (j9 Yn):=u7
theorem Hv (F:Fun K "_law_in_order" "_law_in_order" Yn f fd)(J9:Fn P w K mg base 1 "_law_ahead" ["one","other","way"] (v7 wo))(D8:mg "dict"=none)(Ad:mg "len"=none)(Ac:mg "range"=none):FnOk P w K mg base v9 2 f fd ["parts","names","way"] (v7 wv) :=
 i4 (k:=1) (b:=Ga) F sc_in_order rfl λcdv A outer s H E hr=>⟨_,(j3 (sW 3 sc_in_order.nd (zI (Vh (K:=K) rfl rfl) rfl D8 Vf (aW (qw (N':=["cloth"]) (cap:=[none]) (f6 rfl rfl rfl) rfl (@qi _ K _ _ _ rfl (iW (K:=K) rfl (pv 0) z0)) (λ_ _ _ _ _ _=>(m7 (i:=0) (by show (["cloth"]:List Str).Nodup;decide +kernel) rfl (Or.inl rfl))) (λ_ _ _ _ _ _=>o8) (λ_ _ _ _ _ _=>(@xp _ _ _ _ _ (aC (iW (K:=K) rfl (pv 0) z0) (aW (pv 0)))))))))
  (j3 (xn PassesOwn.never rfl (zr rfl Ac (aW (k9 (xb (K:=K) rfl) rfl Ad PySem.boot_len (aW (pv 1))))) (gW 4 sc_in_order.nd)
   (j4 (xn PassesOwn.never rfl (zr rfl Ac (aW (pv 4))) (gW 5 sc_in_order.nd)
   (j3 (sW 6 sc_in_order.nd (vG (zj hr) (pv 3) (iW (K:=K) rfl (pv 1) (pv 5)) (λ_ _=>rfl)))
  (j3 (sW 7 sc_in_order.nd (vG (zj hr) (pv 3) (iW (K:=K) rfl (pv 1) (pv 4)) (λ_ _=>rfl)))
  (j4 (n8 (PW.pt (WD (f9 (zY (K:=K) (qT hr) rfl) (iW (K:=K) rfl (pv 6) z0) (iW (K:=K) rfl (pv 7) z0) (m9 _)) (WE (qD (K:=K) rfl (fW J9 hr (aC (pv 7) (aC (pv 6) (aW (pv 2))))) (λ_=>rfl))))) (j4 (y4 xR)) n9)))))))
  (j4 (y4 xR)))),
  inferInstance⟩
abbrev Yv:Stmt:=top 73
abbrev Gi:MS:=(j7 (vm 3 (x8 zF (q0 (q9 0) x6)))
  (j7 (Kz 3 4 (q8 1))
  (j7 (Kv 3 (q8 2) (q8 4))
  (y8 (QI 3)))))
def XF:List PV->Option PV:=qy 5 3 Gi
theorem sc_l_moved:y6 ["names","at","to","here","name"] ["names","at","to"] (j9 Yv):=u7
theorem HE (F:Fun K "_law_moved" "_law_moved" Yv f fd)(Af:mg "list"=none):FnOk P w K mg base v9 1 f fd ["names","at","to"] (p8 XF) :=
 okO (k:=0) (b:=Gi) F sc_l_moved rfl λcdv A outer s H E hr=>⟨_,(j3 (sW 3 sc_l_moved.nd (zI (vh (K:=K) rfl) rfl Af zC (aW (pv 0))))
  (j3 (sW 4 sc_l_moved.nd (ja (K:=K) rfl PySem.F.plainAttrs_list PySem.F.slot_list_pop PySem.F.type_list_pop Wi (pv 3) (w5 (pv 1) u9)))
  (j3 (jc (ja (K:=K) rfl PySem.F.plainAttrs_list PySem.F.slot_list_insert PySem.F.type_list_insert NJ (pv 3) (w5 (pv 2) (w5 (pv 4) u9))))
  (j4 (y4 (pv 3)))))),
  inferInstance⟩
abbrev YX:Stmt:=top 74
abbrev Va:MS:=(y8 (zR (x8 qr (q0 (q9 0) (q0 (dC (.ty "int")) x6))) (Qn (x8 qr (q0 (q9 0) (q0 (dC (.ty "bool")) x6))))))
def QG:List PV->Option PV:=c5 1 1 Va
theorem SC:y6 ["thing"] ["thing"] (j9 YX):=u7
theorem Rm (F:Fun K "_law_whole" "_law_whole" YX f fd)(Ep:mg "bool"=none)(J1:mg "int"=none)(Ab:mg "isinstance"=none):FnOk P w K mg base v9 1 f fd ["thing"] (v7 QG) :=
 i4 (k:=0) (b:=Va) F SC rfl λcdv A outer s H E hr=>⟨_,(j4 (y4 (wC (k9 (zD (K:=K) rfl) rfl Ab zB (aC (pv 0) (aW (zH (v:= .ty "int") rfl J1 GZ rfl)))) (QO (BV (k9 (zD (K:=K) rfl) rfl Ab zB (aC (pv 0) (aW (zH (v:= .ty "bool") rfl Ep GY rfl))))))))),
  inferInstance⟩
abbrev YF:Stmt:=top 75
abbrev Gu:MS:=(j7 (b9 (xf (i6 (r9 (x8 qr (q0 (q9 0) (q0 (dC (.ty "list")) x6))))) (dT (x9 pGt (x8 o9 (q0 (q9 0) x6)) (dC (.int 100))))) (y8 (dC (.bl false))) c6)
  (j7 (xE (r6 (q8 0)) (v8 2) (j7 (b9 (xf (i6 (r9 (x8 qr (q0 (q9 2) (q0 (dC (.ty "tuple")) x6))))) (xf (dT (x9 qL (x8 o9 (q0 (q9 2) x6)) (dC (.int 2)))) (i6 (r9 (x8 za (q0 (m8 [none] [0] (Ql (q8 2)) (v8 0) n5 (x8 QG (q0 (q8 0) x6))) x6)))))) (y8 (dC (.bl false))) c6)
  (b9 (i6 (r9 (x8 za (q0 (m8 [none,some 1] [0] (Ql (q8 2)) (v8 0) n5 (xY pLe pLt (dC (.int 0)) (q9 0) (q9 1))) x6)))) (y8 (dC (.bl false))) c6)))
  (y8 (dC (.bl true)))))
def Jk:List PV->Option PV:=c5 3 2 Gu
theorem sc_moves_told:y6 ["moves","many","move"] ["moves","many"] (j9 YF):=u7
theorem HQ (F:Fun K "_law_moves_told" "_law_moves_told" YF f fd)(N3:Fn P w K mg base 1 "_law_whole" ["thing"] (v7 QG))(Ax:mg "all"=none)(Ab:mg "isinstance"=none)(Ad:mg "len"=none)(Af:mg "list"=none)(Ej:mg "tuple"=none):FnOk P w K mg base v9 2 f fd ["moves","many"] (v7 Jk) :=
 i4 (k:=1) (b:=Gu) F sc_moves_told rfl λcdv A outer s H E hr=>⟨_,(j3 (n8 (PW.pt (zL (qO (qD (K:=K) rfl (k9 (zD (K:=K) rfl) rfl Ab zB (aC (pv 0) (aW (zH (v:= .ty "list") rfl Af zC rfl)))) (λ_=>rfl))) (jY (f9 (Jt) (k9 (xb (K:=K) rfl) rfl Ad PySem.boot_len (aW (pv 0))) z0 (m9 _))))) (j4 (y4 xR)) n9)
  (j3 (xn PassesOwn.never rfl (@qi _ K _ _ _ rfl (pv 0)) (gW 2 sc_moves_told.nd)
   (j3 (n8 (PW.pt (zL (qO (qD (K:=K) rfl (k9 (zD (K:=K) rfl) rfl Ab zB (aC (pv 2) (aW (zH (v:= .ty "tuple") rfl Ej Kc rfl)))) (λ_=>rfl))) (zL (f9 (ju (K:=K) (qT hr) rfl) (k9 (xb (K:=K) rfl) rfl Ad PySem.boot_len (aW (pv 2))) z0 (m9 _)) (jY (qO (qD (K:=K) rfl (k9 (vX (K:=K) rfl rfl) rfl Ax vW (aW (qw (N':=["place"]) (cap:=[none]) (f6 rfl rfl rfl) rfl (Wv (K:=K) rfl (pv 2)) (λ_ _ _ _ _ _=>(m7 (i:=0) (by show (["place"]:List Str).Nodup;decide +kernel) rfl (Or.inl rfl))) (λ_ _ _ _ _ _=>o8) (λ_ _ _ _ _ _=>(fW N3 hr (aW (pv 0))))))) (λ_=>rfl))))))) (j4 (y4 xR)) n9)
  (j4 (n8 (qO (qD (K:=K) rfl (k9 (vX (K:=K) rfl rfl) rfl Ax vW (aW (qw (N':=["place","many"]) (cap:=[none,some 1]) (f6 rfl rfl rfl) rfl (Wv (K:=K) rfl (pv 2)) (λ_ _ _ _ _ _=>(m7 (i:=0) (by show (["place","many"]:List Str).Nodup;decide +kernel) rfl (Or.inl rfl))) (λ_ _ _ _ _ _=>o8) (λ_ _ _ _ _ _=>(Wp (ww) (Ju) z0 (pv 0) (pv 1)))))) (λ_=>rfl))) (j4 (y4 xR)) n9))))
  (j4 (y4 xR)))),
  inferInstance⟩
abbrev Yz:Stmt:=top 76
noncomputable abbrev Go (As:LQ)(Aa:Addr):MS:=(j7 (u8 3 (x8 (xX As Aa) (q0 (q8 0) (q0 (q8 2) x6))))
  (j7 (b9 (i6 (r9 (x8 Jk (q0 (q8 3) (q0 (x8 o9 (q0 (q9 2) x6)) x6))))) (y8 (dC .non)) c6)
  (j7 (u8 4 (x8 zF (q0 (q9 2) x6)))
  (j7 (xE (r6 (q8 3)) (qI 2 (c7 (v8 5) (c7 (v8 6) qH))) (j7 (u8 7 (x8 XF (q0 (q8 4) (q0 (q8 5) (q0 (q8 6) x6)))))
  (j7 (b9 (dT (x9 pGt (x8 wu (q0 (q8 1) (q0 (q8 7) x6))) (x8 wu (q0 (q8 1) (q0 (q8 4) x6))))) (y8 (dC .non)) c6)
  (u8 4 (q8 7)))))
  (j7 (b9 (dT (x9 qL (x8 Jn (q0 (q8 2) (q0 (q8 3) x6))) (q9 4))) (y8 (dC .non)) c6)
  (y8 (q8 4)))))))
noncomputable def QE (As:LQ)(Aa:Addr):List PV->Option PV:=c5 8 3 (Go As Aa)
theorem sc_led:y6 ["works","parts","names","moves","here","at","to","other"] ["works","parts","names"] (j9 Yz):=u7
theorem HJ (F:Fun K "_law_led" "_law_led" Yz f fd)(N2:Fn P w K mg base 3 "_law_cost" ["parts","names"] (v7 wu))(Er:Fn P w K mg base 1 "_law_moved" ["names","at","to"] (p8 XF))(D7:Fn P w K mg base 2 "_law_moves_told" ["moves","many"] (v7 Jk))(Ak:Fn P w K mg base 10 "to_steep" ["works","names"] (p8 (xX (LQ.mk P w K mg base) Aa)))(Ez:Fn P w K mg base 2 "walked" ["names","moves"] (v7 Jn))(Ad:mg "len"=none)(Af:mg "list"=none):FnOk P w K mg base v9 11 f fd ["works","parts","names"] (v7 (QE (LQ.mk P w K mg base) Aa)) :=
 i4 (k:=10) (b:=(Go (LQ.mk P w K mg base) Aa)) F sc_led rfl λcdv A outer s H E hr=>⟨_,(j3 (sW 3 sc_led.nd (fW Ak hr (aC (pv 0) (aW (pv 2)))))
  (j3 (n8 (qO (qD (K:=K) rfl (fW D7 hr (aC (pv 3) (aW (k9 (xb (K:=K) rfl) rfl Ad PySem.boot_len (aW (pv 2)))))) (λ_=>rfl))) (j4 (y4 jw)) n9)
  (j3 (sW 4 sc_led.nd (zI (vh (K:=K) rfl) rfl Af zC (aW (pv 2))))
  (j3 (xn PassesOwn.never rfl (@qi _ K _ _ _ rfl (pv 3)) (jx (K:=K) (n:=2) rfl rfl (qV (gW 5 sc_led.nd) (qV (gW 6 sc_led.nd) jy)))
   (j3 (sW 7 sc_led.nd (fW Er hr (aC (pv 4) (aC (pv 5) (aW (pv 6))))))
  (j3 (n8 (f9 (Jt) (fW N2 hr (aC (pv 1) (aW (pv 7)))) (fW N2 hr (aC (pv 1) (aW (pv 4)))) (m9 _)) (j4 (y4 jw)) n9)
  (j4 (sW 4 sc_led.nd (pv 7))))))
  (j3 (n8 (f9 (ju (K:=K) (qT hr) rfl) (fW Ez hr (aC (pv 2) (aW (pv 3)))) (pv 4) (m9 _)) (j4 (y4 jw)) n9)
  (j4 (y4 (pv 4)))))))),
  inferInstance⟩
theorem Uj (n:Int):vy [.at (.int n)]=some (.at (.bl true)):=i7 rfl (p7 (Qr (j5 rfl LL) (MT (v:=false) (j5 rfl LM))))
theorem IR (n k:Int):js [.at (.int n),.at (.int k)]=some (.at (.bl (decide (k<=n)))):=i7 rfl (p7 (Qr (j5 rfl (Uj n)) rfl))
theorem Zs {n k:Int}(h:k<=n):js [.at (.int n),.at (.int k)]=some (.at (.bl true)):=(IR n k).trans (by rw [yH h])
theorem IV (h:wV s):Jh [.at (.str s)]=some (.at (.bl true)):=by
 have hl:lim=1000000:=rfl;have l1:=h.one;have l8:=h.eight;have ln:o9 [.at (.str s)]=some (.at (.int s.length)):=if_pos (by omega);refine i7 rfl (y0 (qg (zE (qR (xg (j5 rfl Bl))) (qR (c9 (Vw (r:=true) rfl (j5 rfl ln) ?_ rfl ?_)))) qp) (p7 (j5 (y7 (qS (λc:Nat=>PV.at (.str ⟨#[c]⟩)) (λ_=>PV.at (.bl true)) s.cps.toList rfl rfl ?_ ?_) rfl) (Qg _))))
 ·show some (PV.at (.bl (decide ((1:Int)<=(s.length:Int)))))=_;rw [yH (by omega)]
 ·show some (PV.at (.bl (decide ((s.length:Int)<=8))))=_;rw [yH (by omega)]
 ·have:s.cps.toList.length=s.length:=by simp [Str.length]
  omega
 ·intro c hc;obtain ⟨c1,c2⟩:=h.low c hc;refine ⟨_,rfl,Vw rfl rfl ?_ rfl ?_⟩
  ·show some (PV.at (.bl (!decide ([c]<("a":Str).cps.toList))))=_;have e:¬ ([c]<[97]):=by rw [List.cons_lt_cons_iff];simp;omega
   rw [show ("a":Str).cps.toList=[97] by decide +kernel,yK e];rfl
  ·show some (PV.at (.bl (!decide (("z":Str).cps.toList<[c]))))=_;have e:¬ ([122]<[c]):=by rw [List.cons_lt_cons_iff];simp;omega
   rw [show ("z":Str).cps.toList=[122] by decide +kernel,yK e];rfl
theorem IU (ok:c.Ok h):Jg [c.pv,.at (.int h)]=some (.at (.bl true)):=by refine i7 rfl (y0 (qg (zE (qR (xg (j5 rfl LN))) (c9 (v:=false) rfl)) qp) (y0 (qg (zE (qR (xg (j5 (y7 (j5 rfl rfl) rfl) (IV ok.nm)))) (zE (qR (xg (j5 (y7 (j5 rfl rfl) rfl) (Zs (n:=(c.hue:Int)) (k:=0) (by omega))))) (c9 (v:=false) (y3 (j5 rfl rfl) rfl ?_)))) qp) (p7 (Qr (j5 (y7 (j5 rfl rfl) rfl) (Zs ok.l1)) (Qr (j5 (y7 (j5 rfl rfl) rfl) (Uj _)) (j5 (y7 (j5 rfl rfl) rfl) (Zs ok.w1)))))));show some (PV.at (.bl (decide ((h:Int)<=(c.hue:Int)))))=_;have:=ok.hu;rw [yK (by omega)]
theorem IJ {t:Int}(h1:-1<=l)(h2:l<(h:Int))(h3:0<=t):Je [.at (.int l),.at (.int t),.at (.int h)]=some (.at .non):=by refine ZR rfl (y0 (qg (Vo (v:=false) (c9 (v:=true) rfl) (qR (Vo (v:=true) (xg (j5 rfl (Zs h1))) (c9 (v:=true) ?_)))) qp) (qg (qR (xg (j5 rfl (Zs h3)))) qp));show some (PV.at (.bl (decide (l<(h:Int)))))=_;rw [yH h2]
def keysOf (cs:List Cl):List j6:=cs.map λc=>Sum.inr c.name
theorem BE {x:Str}{α:Type}(f:Cl->PV):∀{cs:List Cl},x∉cs.map Cl.name->qU (.inr x) (keysOf cs) (cs.map f)=none
 |[],_=>rfl
 |c::cs,h=>by
  rw [yO] at h;show (if (Sum.inr c.name:j6) = .inr x then _ else qU (.inr x) (keysOf cs) (cs.map f))=_;rw [if_neg (λe=>h (by injection e with e;rw [e];exact yT)),BE (α:=α) f λz=>h (yV _ z)]
theorem Xx (f:Cl->PV):∀{cs:List Cl},(cs.map Cl.name).Nodup->∀ c∈cs,qU (.inr c.name) (keysOf cs) (cs.map f)=some (f c)
 |[],_,_,h=>nomatch h
 |d::cs,nd,c,h=>by
  rw [yO] at nd;have nd':=yo.mp nd;show (if (Sum.inr d.name:j6) = .inr c.name then some (f d) else qU (.inr c.name) (keysOf cs) (cs.map f))=_;rcases yJ.mp h with rfl|h
  ·rw [if_pos rfl]
  ·rw [if_neg (λe=>nd'.1 (by injection e with e;rw [e];exact yy.mpr ⟨c,h,rfl⟩)),Xx f nd'.2 c h]
theorem IH {cls:List Cl}(hok:∀ c∈cls,c.Ok h)(nd:(cls.map Cl.name).Nodup)(ten:cls.length<=10):Jc [.lst (cls.map Cl.pv),.at (.int h)]=some (.at .non):=by
 have hl:lim=1000000:=rfl;refine ZR rfl (y0 (qg (c9 (v:=false) (y3 (j5 rfl rfl) rfl ?_)) qp) (y0 (Xp rfl) (xP rfl (wn Cl.pv (λl ε=>∃(done:List Cl)(s3:MSlot),done++l=cls/\ε=[.sh (.lst (cls.map Cl.pv)),.sh (.at (.int h)),.ow (.dk (keysOf done) (done.map λ_=>PV.at (.bl true))),s3]) ?_ cls _ ⟨[],.no,rfl,rfl⟩).choose_spec.1)))
 ·show some (PV.at (.bl (decide ((10:Int)<((cls.map Cl.pv).length:Int)))))=_;rw [yZ,yK (by omega)]
 ·rintro c l ε ⟨done,s3,e,rfl⟩;have hc:c∈cls:=by rw [<- e];exact yu _ yT
  have hn:c.name∉done.map Cl.name:=λz=>by
   rw [<- e,yv,yO] at nd;exact (uq.mp nd).2.2 _ z _ yT rfl
  have ln:=BE (α:=Unit) (λ_=>PV.at (.bl true)) hn;have hd:done.length<=10:=by rw [<- e] at ten;rw [yM] at ten;omega
  refine ⟨_,_,rfl,y0 (qg (qR (xg (j5 rfl (IU (hok c hc))))) qp) (y0 (qg (c9 (v:=false) ?_) qp) ?_),done++[c],.sh c.pv,by rw [<- e,uS];rfl,rfl⟩
  ·show some (PV.at (.bl (qU (.inr c.name) (keysOf done) (done.map λ_=>PV.at (.bl true))).isSome))=_;rw [ln];rfl
  ·show (if (keysOf done).length<=lim then some (Out.nx [_,_,.ow (JC (.inr c.name) (.at (.bl true)) (keysOf done) (done.map λ_=>PV.at (.bl true))),_]) else none)=_;unfold JC;rw [if_pos (by unfold keysOf;rw [yZ];omega),ln];simp only [Option.isSome_none,Bool.false_eq_true,if_false];unfold keysOf;rw [yv,yv];rfl
def jN (n:Int):PV:= .at (.int n)
def qP (r:List Int):PV:= .lst (r.map jN)
def wyP (w:Wy):PV:= .tup [.at (.int w.1),.lst (w.2.map jN)]
def xo (ws:List Wy):PV:= .lst (ws.map wyP)
theorem Ff (hl:r.length=h)(h4:h<=4)(hv:∀ v∈r,0<=v):XD [qP r,.at (.int h)]=some (.at (.bl true)):=by
 have hlim:lim=1000000:=rfl;refine i7 rfl (y0 (qg (zE (qR (xg (j5 rfl ZY))) (c9 (v:=false) (y3 (j5 rfl rfl) rfl ?_))) qp) (p7 (j5 (y7 (qS jN (λ_=>PV.at (.bl true)) r rfl rfl (by omega) λv hvm=>?_) rfl) (Qg _))))
 ·show (peq 6 (.at (.int ((r.map jN).length:Int))) (.at (.int (h:Int)))).bind _=_;rw [yZ,hl];exact QM (x:= .at (.int (h:Int))) rfl
 ·refine ⟨_,rfl,Qr (j5 rfl (Uj v)) ?_⟩;show some (PV.at (.bl (decide ((0:Int)<=v))))=_;rw [yH (hv v hvm)]
theorem II (G:h8 h rss)(h1:1<=h)(h4:h<=4):Jd [m5 rss]=some (.at .non):=by
 have hlim:lim=1000000:=rfl;have hlen:=G.len;have eh:((rss.map qP).length:Int)-1=(h:Int):=by rw [yZ,hlen];omega
 have step:∀(k:Int),k=(h:Int)->j7 (b9 (i6 (dT (xY pLe pLe (dC (.int 1)) (q9 1) (dC (.int 4))))) xG c6)
  (b9 (i6 (r9 (x8 za (q0 (m8 [none,some 1] [0] (r6 (q8 0)) (v8 0) n5 (x8 XD (q0 (q8 0) (q0 (q8 1) x6)))) x6)))) xG c6) [.sh (m5 rss),.sh (.at (.int k))]=some (.nx [.sh (m5 rss),.sh (.at (.int k))]):=by
  rintro k rfl;refine y0 (qg (qR (c9 (Vw (r:=true) rfl rfl ?_ rfl ?_))) qp) (qg (qR (xg (j5 (y7 (qS qP (λ_=>PV.at (.bl true)) rss rfl rfl (by omega) λr hr=>⟨_,rfl,j5 rfl (Ff (G.row r hr).1 h4 λv hv=>((G.row r hr).2 v hv).1)⟩) rfl) (Qg _)))) qp)
  ·show some (PV.at (.bl (decide ((1:Int)<=(h:Int)))))=_;rw [yH (by omega)]
  ·show some (PV.at (.bl (decide ((h:Int)<=4))))=_;rw [yH (by omega)]
 exact ZR rfl (y0 (qg (qR (xg (j5 rfl ZY))) qp) (y0 (m3 rfl) (step _ eh)))
theorem KK {α:Type}(f:α->PV):∀(l:List α)(n:Nat),xH n (l.map f)=(l.zipIdx n).map λp=>PV.tup [.at (.int ((p.2:Nat):Int)),f p.1]
 |[],_=>rfl
 |x::l,n=>by
  rw [yO,List.zipIdx_cons,yO];show PV.tup [.at (.int n),f x]::xH (n+1) (l.map f)=_;rw [KK f l (n+1)]
theorem Fm (h:r.length<=4):XJ [qP r]=some (xo (jf r)):=by
 have hlim:lim=1000000:=rfl;refine xO rfl (p7 ?_);have e:=qS (cap:=[none,none]) (ts:=[0,1]) (it:=Qk (q0 (q8 0) x6)) (g:=qI 2 (c7 (v8 0) (c7 (v8 1) qH))) (f:=qm (q0 (q8 1) (q0 (xw (q0 (q8 0) x6)) x6))) (ε:=[.sh (qP r)])
  (λp:Int×Nat=>PV.tup [.at (.int ((p.2:Nat):Int)),jN p.1]) (λp:Int×Nat=>wyP (p.1,[(p.2:Int)])) (r.zipIdx 0) (by show some (xH 0 (r.map jN))=_;rw [KK]) rfl (by rw [List.length_zipIdx];omega) λp _=>⟨_,rfl,rfl⟩
 refine e.trans ?_;unfold xo jf;rw [List.mapIdx_eq_zipIdx_map,yt];rfl
theorem IW {a b:Wy}(h:a.2.length+b.2.length<=1000):XE [wyP a,wyP b]=some (wyP (zU a b)):=by have hlim:lim=1000000:=rfl;refine i7 rfl (p7 (xV (y7 (y3 rfl rfl rfl) (y7 (y3 rfl rfl (Jv (by rw [yZ,yZ];omega))) rfl)) (by first|decide|(show 1<=lim;decide)|(show 2<=lim;decide)|(show 3<=lim;decide))) |>.trans ?_);unfold wyP zU;rw [yv]
theorem Fa (a b:Wy):XG [wyP a,wyP b]=some (wyP (jr a b)):=by
 unfold jr;by_cases h:b.1<a.1
 ·rw [if_pos h];exact i7 rfl (p7 (KO (c9 (v:=true) (y3 rfl rfl (show some (PV.at (.bl (decide (b.1<a.1))))=_ by rw [yH h]))) rfl))
 ·rw [if_neg h];exact i7 rfl (p7 (Vy (c9 (v:=false) (y3 rfl rfl (show some (PV.at (.bl (decide (b.1<a.1))))=_ by rw [yK h]))) rfl))
theorem Dp {α β:Type}(f:α->PV)(g:β->PV):∀(l:List α)(m:List β),xC (l.map f) (m.map g)=(l.zip m).map λp=>PV.tup [f p.1,g p.2]
 |[],_=>by cases ‹List β›<;>rfl
 |_::_,[]=>rfl
 |x::l,y::m=>by
  show PV.tup [f x,g y]::xC (l.map f) (m.map g)=_;rw [Dp f g l m];rfl
theorem Dq {α β γ:Type}(f:α->β->γ):∀(l:List α)(m:List β),List.zipWith f l m=(l.zip m).map λp=>f p.1 p.2
 |[],_=>by simp
 |_::_,[]=>rfl
 |x::l,y::m=>by
  show f x y::List.zipWith f l m=_;rw [Dq f l m];rfl
theorem Fp {k:Nat}(hk:k<ws.length)(h4:ws.length<=4)(l1:∀ w∈ws,w.2.length<=100)(l2:∀ w∈onw,w.2.length<=100):QF [xo ws,.at (.int (k:Int)),xo onw]=some (xo (thr ws k onw)):=by
 have hlim:lim=1000000:=rfl;have hg:ws.getD k (0,[])=ws[k]:=g9 hk;have hw:=yA hk;refine xO rfl (p7 ?_);have e:=qS (cap:=[none,none,some 0,some 1]) (ts:=[0,1]) (it:=Qo (q0 (q8 0) (q0 (q8 2) x6))) (g:=qI 2 (c7 (v8 0) (c7 (v8 1) qH))) (f:=x8 XG (q0 (q8 0) (q0 (x8 XE (q0 (x9 w9 (q9 2) (q9 3)) (q0 (q8 1) x6))) x6))) (ε:=[.sh (xo ws),.sh (.at (.int (k:Int))),.sh (xo onw)])
  (λp:Wy×Wy=>PV.tup [wyP p.1,wyP p.2]) (λp:Wy×Wy=>wyP (jr p.1 (zU ws[k] p.2))) (ws.zip onw) (by show some (xC (ws.map wyP) (onw.map wyP))=_;rw [Dp]) rfl (by rw [List.length_zip];omega) λp hp=>⟨_,rfl,j5 (y7 rfl (y7 (j5 (y7 (y3 rfl rfl (zg (v:=wyP ws[k]) (by rw [yP,yY hk];rfl))) (y7 rfl rfl)) (IW (by
   have q1:=l1 _ hw;have q2:=l2 p.2 (ud hp).2;omega))) rfl)) (Fa _ _)⟩
 refine e.trans ?_;unfold xo thr;rw [hg,Dq,yt];rfl
theorem Fz {k:Nat}(G:h8 h rss)(hk:k<=h)(h4:h<=4):∀ r∈m6 rss k,∀ w∈r,w.2.length<=100:=by
 intro r hr w hw;have S:=Shp.all G k hk;have F:=FW.all G k hk;obtain ⟨f,hf,rfl⟩:=uH hr;obtain ⟨g,hg,rfl⟩:=uH hw;have hf':f<=h:=by have:=S.len;omega
 have hg':g<h:=by rw [<- S.row _ hr];exact hg
 have e:y9 (m6 rss k) f g=(m6 rss k)[f][g]:=by unfold y9;rw [g9 hf,g9 hg]
 have q:=F.len f g hf' hg';rw [e] at q;have:2 ^ k<=2 ^ 4:=Nat.pow_le_pow_right (by decide) (by omega);omega
def Zp (T:List (List Wy)):PV:= .lst (T.map xo)
theorem IZ (G:h8 h rss)(h1:1<=h)(h4:h<=4):Jj [m5 rss]=some (Zp (m6 rss h)):=by
 have hlim:lim=1000000:=rfl;have hlimI:(lim:Int)=1000000:=rfl;have hlen:=G.len;have st:m8 [none] [0] (r6 (q8 0)) (v8 0) n5 (x8 XJ (q0 (q8 0) x6)) [.sh (m5 rss),.no,.no,.no]=some (Zp (m6 rss 0)):=by refine (qS qP (λr=>xo (jf r)) rss rfl rfl (by omega) λr hr=>⟨_,rfl,j5 rfl (Fm (by rw [(G.row r hr).1];exact h4))⟩).trans ?_;show _=some (PV.lst ((rss.map jf).map xo));rw [yt];rfl
 have rg:xx (q0 (x9 vF (x8 o9 (q0 (q9 0) x6)) (dC (.int 1))) x6) [.sh (m5 rss),.sh (Zp (m6 rss 0)),.no,.no]=some ((List.range h).map λ(i:Nat)=>PV.at (.int ((0:Int)+i))):=by refine jZ (k:=h) (y7 (y3 (j5 rfl rfl) rfl ?_) rfl) (by omega);show some (PV.at (.int (((rss.map qP).length:Int)-1)))=_;rw [yZ,hlen,show ((h+1:Nat):Int)-1=(h:Int) by omega]
 have lp:=wn (g:=v8 2) (f:=j7 (u8 3 (x9 w9 (q9 1) (q9 2))) (u8 1 (m8 [none,some 2,some 3] [0] (r6 (q8 1)) (v8 0) n5 (x8 QF (q0 (q8 0) (q0 (q8 1) (q0 (q8 2) x6)))))))
  (λ(i:Nat)=>PV.at (.int ((0:Int)+i))) (λl ε=>∃(k:Nat)(s2 s3:MSlot),l=(List.range h).drop k/\k<=h/\ε=[.sh (m5 rss),.sh (Zp (m6 rss k)),s2,s3]) (by
   rintro i l ε ⟨k,s2,s3,el,hk,rfl⟩;have hkl:k<h:=by
    have e5:(i::l).length=((List.range h).drop k).length:=by rw [<- el]
    rw [uU,uN,yE] at e5;omega
   have ei:i=k:=by
    have:((List.range h).drop k)[0]?=some i:=by rw [<- el];rfl
    rw [List.getElem?_drop,List.getElem?_range (by omega)] at this;simpa using this.symm
   have er:l=(List.range h).drop (k+1):=by
    have:((List.range h).drop k).tail=l:=by rw [<- el];rfl
    rw [<- this,List.tail_drop]
   subst ei;have S:=Shp.all G i hk;have hT:i<(m6 rss i).length:=by rw [S.len];omega
   have gD:(m6 rss i).getD i []=(m6 rss i)[i]:=g9 hT;have wl:=Fz G hk h4;refine ⟨_,_,rfl,y0 (m3 (x:=xo (m6 rss i)[i]) (y3 rfl rfl ?_)) (m3 (x:=Zp (m6 rss (i+1))) ?_),i+1,_,_,er,hkl,rfl⟩
   ·show atI ((m6 rss i).map xo) (0+(i:Int))=_;rw [ui];exact zg (by rw [yP,yY hT];rfl)
   ·refine (qS xo (λrow=>xo (thr row i (m6 rss i)[i])) (m6 rss i) rfl rfl (by rw [S.len];omega) λrow hr=>⟨_,rfl,j5 rfl ?_⟩).trans ?_
    ·show QF [xo row,.at (.int (0+(i:Int))),xo (m6 rss i)[i]]=_;rw [ui];exact Fp (by rw [S.row row hr];exact hkl) (by rw [S.row row hr];exact h4) (wl row hr) (wl _ (yA hT))
    ·show _=some (PV.lst ((xy (m6 rss i) i).map xo));unfold xy;rw [yt,gD];rfl) (List.range h) _ ⟨0,.no,.no,rfl,ya _,rfl⟩
 obtain ⟨ε',e',k,s2,s3,el,hk,rfl⟩:=lp;have ek:k=h:=by have:=congrArg List.length el;rw [uU,uN] at this;simp at this;omega
 subst ek;exact i7 rfl (y0 (m3 st) (y0 (xP rg e') (p7 rfl)))
theorem Fo (h4:ws.length<=4):Jm [xo ws]=some (qP (ws.map (·.1))):=by have hlim:lim=1000000:=rfl;refine xO rfl (p7 ((qS wyP (λw=>jN w.1) ws rfl rfl (by omega) λw _=>⟨_,rfl,rfl⟩).trans ?_));unfold qP;rw [yt];rfl
theorem IY (G:h8 h rss)(h1:1<=h)(h4:h<=4):Ji [m5 rss]=some (m5 (qu rss h)):=by have hlim:lim=1000000:=rfl;have S:=Shp.all G h (yW _);refine xO rfl (y0 (Xl (j5 rfl (II G h1 h4))) (p7 ((qS xo (λws=>qP (ws.map (·.1))) (m6 rss h) (Xm (j5 rfl (IZ G h1 h4))) rfl (by rw [S.len];omega) λws hw=>⟨_,rfl,j5 rfl (Fo (by rw [S.row ws hw];exact h4))⟩).trans ?_)));show _=some (PV.lst ((qu rss h).map qP));unfold qu;rw [yt];rfl
def Dr.low (d:Dr):List (List Int):=qu d.rss d.h
def MX:List Str:=["least","given","held","last","time"]
def Dr.ob (C:Addr)(d:Dr):PV:= .ob C MX [m5 d.low,m5 d.rss,.fk (keysOf d.cls) (d.cls.map Cl.pv),.at (.int d.last),.at (.int d.time)]
def Dr.names (d:Dr):List Str:=d.cls.map Cl.name
section
variable {C:Addr}{d:Dr}
theorem IS (ok:d.Ok):jQ C [d.ob C]=some (.at (.int d.h)):=by have G:=zW ok.rin;refine i7 rfl (p7 (y3 (j5 (y7 (jJ rfl rfl) rfl) rfl) rfl ?_));show some (PV.at (.int (((d.low.map qP).length:Int)-1)))=_;rw [yZ,show d.low.length=d.h+1 from G.len,show ((d.h+1:Nat):Int)-1=(d.h:Int) by omega]
theorem Fi:XA C [d.ob C]=some (.tup [.at (.int d.last),.at (.int d.time)]):=i7 rfl (p7 (xV (y7 (jJ rfl rfl) (y7 (jJ rfl rfl) rfl)) (by first|decide|(show 1<=lim;decide)|(show 2<=lim;decide)|(show 3<=lim;decide))))
theorem KM {a:M}{i:Nat}{x:PV}(h1:a ε=some x)(h2:ε[i]?=some (.ow (.lst xs)))(h3:xs.length<=lim):jF i a ε=some (.nx (ε.set i (.ow (.lst (xs++[x]))))):=by unfold jF;rw [h1];show (match ε[i]? with|some (.ow (.lst xs))=>if xs.length<=lim then some (Out.nx (ε.set i (.ow (.lst (xs++[x]))))) else none|_=>none)=_;rw [h2];exact if_pos h3
theorem MQ {a b:M}{y:PV}{k:j6}(h1:a ε=some (.fk ks xs))(h2:b ε=some y)(h3:zk y=some k)(h4:qU k ks xs=some z):qf a b ε=some z:=by unfold qf;rw [h1,h2];show (zk y).bind _=_;rw [h3];exact h4
theorem MR {a b:M}{y:PV}{k:j6}{o:Option PV}(h1:a ε=some (.fk ks xs))(h2:b ε=some y)(h3:zk y=some k)(h4:qU k ks xs=o):ZJ b a ε=some (.at (.bl (!o.isSome))):=by unfold ZJ;rw [h1,h2];show (zk y).bind _=_;rw [h3,<- h4];rfl
theorem CT (ok:d.Ok)(hc:c∈d.cls):vx C [d.ob C,.at (.str c.name)]=some c.pv:=by
 have lk:=Xx Cl.pv ok.nd c hc;refine i7 rfl (y0 (qg (zE (qR (xg (j5 rfl Bl))) (c9 (v:=false) ?_)) qp) (p7 ?_))
 ·exact MR (jJ rfl rfl) rfl rfl lk
 ·exact MQ (jJ rfl rfl) rfl rfl lk
theorem PX (G:h8 h rss){f:Int}{g:Nat}(f0:-1<=f)(f1:f<(h:Int))(hg:g<h):∃ r:List Int,atI (rss.map qP) f=some (qP r)/\atI (r.map jN) (g:Int)=some (.at (.int (rin rss f (g:Int)))):=by
 have main:∀ n:Nat,n<=h->∃ r:List Int,(rss.map qP)[n]?=some (qP r)/\rss[n]?=some r/\atI (r.map jN) (g:Int)=some (.at (.int (rin rss (n:Int) (g:Int)))):=by
  intro n hn;have hl:n<rss.length:=by have:=G.len;omega
  have hgl:g<rss[n].length:=by rw [(G.row _ (yA hl)).1];exact hg
  refine ⟨rss[n],by rw [yP,yY hl];rfl,yY hl,?_⟩;rw [je G hn hg,g9 hl,g9 hgl];exact zg (by rw [yP,yY hgl];rfl)
 by_cases hf:f=-1
 ·subst hf;obtain ⟨r,e1,e2,e3⟩:=main h (yW _);refine ⟨r,?_,?_⟩
  ·have hlen:(rss.map qP).length=h+1:=by rw [yZ];exact G.len
   have e:atI (rss.map qP) (h:Int)=some (qP r):=zg e1;rw [<- e];unfold atI;rw [hlen];have i1:ixN (h+1) (-1)=some h:=by
    unfold ixN;rw [if_neg (by decide),if_pos (by omega)]
    congr 1
    omega
   have i2:ixN (h+1) (h:Int)=some h:=by
    unfold ixN;rw [if_pos (by omega),if_pos (by omega)]
    congr 1
   rw [i1,i2]
  ·rw [Ze G.len];exact e3
 ·obtain ⟨n,rfl⟩:=yr (show 0<=f by omega);obtain ⟨r,e1,e2,e3⟩:=main n (by omega);exact ⟨r,zg e1,e3⟩
def Dr.rz (d:Dr)(f:Int)(g:Nat):Int:=if f=(g:Int) then 0 else rin d.low f (g:Int)
theorem Fs (ok:d.Ok){f:Int}{g:Nat}(f0:-1<=f)(f1:f<(d.h:Int))(hg:g<d.h):XB C [d.ob C,.at (.int f),.at (.int (g:Int))]=some (.at (.int (rin d.low f (g:Int)))):=by obtain ⟨r,e1,e2⟩:=PX (zW ok.rin) f0 f1 hg;exact i7 rfl (p7 (y3 (y3 (jJ rfl rfl) rfl e1) rfl e2))
theorem Xk (a b:Int):qK (.at (.int a)) (.at (.int b))=some (.at (.bl (decide (a=b)))):=by show some (PV.at (.bl (qo (.int a) (.int b))))=_;have:qo (.int a) (.int b)=decide (a=b):=rfl;rw [this]
theorem BN (a b:Int):qL (.at (.int a)) (.at (.int b))=some (.at (.bl (!decide (a=b)))):=by show some (PV.at (.bl (!qo (.int a) (.int b))))=_;have:qo (.int a) (.int b)=decide (a=b):=rfl;rw [this]
theorem Fe (ok:d.Ok){f:Int}{g:Nat}(f0:-1<=f)(f1:f<(d.h:Int))(hg:g<d.h):QB C [d.ob C,.at (.int f),.at (.int (g:Int))]=some (.at (.int (d.rz f g))):=by
 unfold Dr.rz;by_cases h:f=(g:Int)
 ·rw [if_pos h];exact i7 rfl (p7 (KO (c9 (v:=true) (y3 rfl rfl ((Xk _ _).trans (by rw [yH h])))) rfl))
 ·rw [if_neg h];exact i7 rfl (p7 (Vy (c9 (v:=false) (y3 rfl rfl ((Xk _ _).trans (by rw [yK h])))) (jK rfl (by decide) rfl (Fs ok f0 f1 hg))))
structure Lst (d:Dr)(ns:List Cl):Prop where
 sub:∀ c∈ns,c∈d.cls
 nd:(ns.map Cl.name).Nodup
def u5 (cs:List Cl):PV:= .lst (j8 (cs.map Cl.name))
theorem Lst.len (ok:d.Ok)(L:Lst d ns):ns.length<=10:=by
 have:=Wj L.nd (left:=d.cls.map Cl.name) λx hx=>by
  obtain ⟨c,hc,rfl⟩:=yy.mp hx;exact yy.mpr ⟨c,L.sub c hc,rfl⟩
 rw [yZ,yZ] at this;have:=ok.ten;omega
theorem CS (ok:d.Ok)(L:Lst d ns)(hN:wp C [d.ob C,u5 ns]=some (.at (.bl true))):wq C [d.ob C,u5 ns]=some (.at .non):=ZR rfl (qg (qR (xg (j5 rfl hN))) qp)
def Dr.go (d:Dr):Int->Int->List Cl->List (Cl×Int×Int)
 |_,_,[]=>[]
 |l,t,c::cs=>(c,t+d.rz l c.hue,t+d.rz l c.hue+c.len)::d.go c.hue (t+d.rz l c.hue+c.len) cs
def rwP (r:Cl×Int×Int):PV:= .tup [.at (.str r.1.name),.at (.int r.2.1),.at (.int r.2.2)]
theorem IM (ok:d.Ok)(L:Lst d ns)(hN:wp C [d.ob C,u5 ns]=some (.at (.bl true))):QD C [d.ob C,u5 ns]=some (.lst ((d.go d.last d.time ns).map rwP)):=by
 have hlim:lim=1000000:=rfl;have l10:=L.len ok;have en:j8 (ns.map Cl.name)=ns.map λc=>PV.at (.str c.name):=by unfold j8;rw [yt];rfl
 refine xO rfl (y0 (Xl (j5 rfl (CS ok L hN))) (y0 (m3 (jK rfl (by decide) rfl Fi)) (y0 (m3 (x:= .at (.int d.last)) rfl) (y0 (m3 (x:= .at (.int d.time)) rfl) (y0 (Xp rfl) ?_)))));obtain ⟨ε',e',rest⟩:=wn (g:=v8 6) (f:=j7 (u8 7 (xF C "cloth" (vx C) (q8 0) (q0 (q8 6) x6)))
  (j7 (u8 8 (x9 o6 (q9 4) (xF C "rinse" (QB C) (q8 0) (q0 (q8 3) (q0 (x8 zX (q0 (q8 7) x6)) x6)))))
  (j7 (u8 4 (x9 o6 (q9 8) (x8 vA (q0 (q8 7) x6))))
  (j7 (u8 3 (x8 zX (q0 (q8 7) x6)))
  (jF 5 (qm (q0 (q8 6) (q0 (q8 8) (q0 (q8 4) x6)))))))))
  (λc:Cl=>PV.at (.str c.name)) (λl ε=>∃(la ti:Int)(done:List (Cl×Int×Int))(s6 s7 s8:MSlot),done++d.go la ti l=d.go d.last d.time ns/\(∀ c∈l,c∈ns)/\done.length+l.length=ns.length/\-1<=la/\la<(d.h:Int) /\
   ε=[.sh (d.ob C),.sh (u5 ns),.sh (.tup [.at (.int d.last),.at (.int d.time)]),.sh (.at (.int la)),.sh (.at (.int ti)),.ow (.lst (done.map rwP)),s6,s7,s8]) (by
   rintro c l ε ⟨la,ti,done,s6,s7,s8,e1,e2,e3,g1,g2,rfl⟩;have hc:=e2 c yT;have hk:=ok.cl c (L.sub c hc);simp only [yE] at e3;refine ⟨_,[.sh (d.ob C),.sh (u5 ns),.sh (.tup [.at (.int d.last),.at (.int d.time)]),.sh (.at (.int (c.hue:Int))),.sh (.at (.int (ti+d.rz la c.hue+c.len))),.ow (.lst ((done++[(c,ti+d.rz la c.hue,ti+d.rz la c.hue+c.len)]).map rwP)),.sh (.at (.str c.name)),.sh c.pv,.sh (.at (.int (ti+d.rz la c.hue)))],rfl,y0 (m3 (jK rfl (by decide) rfl (CT ok (L.sub c hc)))) (y0 (m3 (y3 rfl (jK rfl (by decide) (y7 rfl (y7 (j5 rfl rfl) rfl)) (Fe ok g1 g2 hk.hu)) rfl)) (y0 (m3 (y3 rfl (j5 rfl rfl) rfl)) (y0 (m3 (x:= .at (.int (c.hue:Int))) (j5 rfl rfl)) ?_))),?_⟩
   rotate_left
   ·refine ⟨(c.hue:Int),ti+d.rz la c.hue+c.len,done++[(c,ti+d.rz la c.hue,ti+d.rz la c.hue+c.len)],_,_,_,by rw [uS];exact e1,λx hx=>e2 x (yV _ hx),by rw [yM];simp;omega,by omega,by have:=hk.hu;omega,rfl⟩
   ·rw [yv];exact KM (xV rfl l3) rfl (by rw [yZ];omega)) ns _ ⟨d.last,d.time,[],.no,.no,.no,rfl,λc h=>h,by simp,ok.l1,ok.l2,rfl⟩
 obtain ⟨la,ti,done,s6,s7,s8,e1,_,_,_,_,rfl⟩:=rest;have e2:done=d.go d.last d.time ns:=by have:done++[]=d.go d.last d.time ns:=e1;rwa [yp] at this
 subst e2;exact y0 (xP (by show some (j8 (ns.map Cl.name))=_;rw [en]) e') rfl
end
section
variable {C:Addr}{d:Dr}
theorem Xo {f:Str}{a:M}{y:PV}{ns:List Str}(h1:a ε=some y)(h0:ε[0]?=some (.ow (.ob C ns xs)))(hf:f∉ns)(hl:ns.length<1000):jp C f a ε=some (.nx (ε.set 0 (.ow (.ob C (ns++[f]) (xs++[y]))))):=by unfold jp;rw [h1,yG,h0];exact if_pos ⟨rfl,hf,hl⟩
theorem KQ {nm:Str}{m:List PV->Option PV}{i:Nat}{as:MA}{ns:List Str}{fs:List PV}(h0:ε[i]?=some (.ow (.ob C ns fs)))(hn:nm∉ns)(k:as ε=some xs)(e:m (.ob C ns fs::xs)=some (.at u)):Qm C nm m i as ε=some (.at u):=by unfold Qm;rw [h0];show (if C=C/\nm∉ns then _ else _)=_;rw [if_pos ⟨rfl,hn⟩,k,yG,e];rfl
theorem CW (ok:d.Ok):jQ C [.ob C ["least"] [m5 d.low]]=some (.at (.int d.h)):=by have G:=zW ok.rin;refine i7 rfl (p7 (y3 (j5 (y7 (jJ rfl rfl) rfl) rfl) rfl ?_));show some (PV.at (.int (((d.low.map qP).length:Int)-1)))=_;rw [yZ,show d.low.length=d.h+1 from G.len,show ((d.h+1:Nat):Int)-1=(d.h:Int) by omega]
theorem WB:∀ cs:List Cl,vJ (cs.map λc=>PV.tup [.at (.str c.name),c.pv])=some (cs.map λc=>((.inr c.name:j6),c.pv))
 |[]=>rfl
 |c::cs=>by
  show Option.bind (some (Sum.inr c.name)) (λkk=>(vJ (cs.map λc=>PV.tup [.at (.str c.name),c.pv])).map ((kk,c.pv)::·))=_;rw [yG,WB cs];rfl
theorem Bt {cs:List Cl}(h:(cs.map Cl.name).Nodup):(keysOf cs).Nodup:=by
 induction cs with
 |nil=>exact uw
 |cons c cs ih=>rw [yO] at h;have h':=yo.mp h;refine yo.mpr ⟨λz=>?_,ih h'.2⟩;obtain ⟨y,hy,e⟩:=yy.mp z;injection e with e;exact h'.1 (yy.mpr ⟨y,hy,e⟩)
theorem IT (ok:d.Ok):QA C [m5 d.rss,.lst (d.cls.map Cl.pv),.at (.int d.last),.at (.int d.time)]=some (d.ob C):=by
 have hlim:lim=1000000:=rfl;have ten:=ok.ten;have glen:=ok.rin.len;have h4:=ok.h4;have cp:∀(s0 s2 s3 s4:MSlot),m8 [none] [0] (r6 (q8 1)) (v8 0) n5 (x8 zF (q0 (q9 0) x6)) [s0,.sh (m5 d.rss),s2,s3,s4]=some (m5 d.rss):=λs0 s2 s3 s4 =>
  qS qP qP d.rss rfl rfl (by omega) λr _=>⟨_,rfl,rfl⟩
 have dk:∀(s0 s1 s3 s4:MSlot),x8 wA (q0 (m8 [none] [0] (r6 (q8 2)) (v8 0) n5 (qm (q0 (x8 zm (q0 (q8 0) x6)) (q0 (q8 0) x6)))) x6) [s0,s1,.sh (.lst (d.cls.map Cl.pv)),s3,s4]=some (.fk (keysOf d.cls) (d.cls.map Cl.pv)):=λs0 s1 s3 s4=>by
  refine j5 (y7 (qS Cl.pv (λc=>PV.tup [.at (.str c.name),c.pv]) d.cls rfl rfl (by omega) λc _=>⟨_,rfl,xV (y7 (j5 rfl rfl) (y7 rfl rfl)) l2⟩) rfl) ?_;show (vJ (d.cls.map λc=>PV.tup [.at (.str c.name),c.pv])).bind _=_;have k1:(d.cls.map λc=>((.inr c.name:j6),c.pv)).map (·.1)=keysOf d.cls:=by rw [yt];rfl
  have k2:(d.cls.map λc=>((.inr c.name:j6),c.pv)).map (·.2)=d.cls.map Cl.pv:=by rw [yt];rfl
  rw [WB,yG,k1,k2];exact if_pos ⟨Bt ok.nd,by rw [yZ];omega⟩
 have run:ZB C [.ow (.ob C [] []),.sh (m5 d.rss),.sh (.lst (d.cls.map Cl.pv)),.sh (.at (.int d.last)),.sh (.at (.int d.time))]=some (.nx [.ow (d.ob C),.sh (m5 d.rss),.sh (.lst (d.cls.map Cl.pv)),.sh (.at (.int d.last)),.sh (.at (.int d.time))]) :=
  y0 (Xo (j5 rfl (IY ok.rin ok.h1 ok.h4)) rfl (by decide) (by decide)) (y0 (Xl (j5 (y7 rfl (y7 rfl (y7 (KQ rfl (by decide) rfl (CW ok)) rfl))) (IJ ok.l1 ok.l2 ok.t1)))
   (y0 (Xl (j5 (y7 rfl (y7 (KQ rfl (by decide) rfl (CW ok)) rfl)) (IH ok.cl ok.nd ok.ten)))
   (y0 (Xo (cp _ _ _ _) rfl (by decide) (by decide)) (y0 (Xo (dk _ _ _ _) rfl (by decide) (by decide)) (y0 (Xo (y:= .at (.int d.last)) (f:="last") (ns:=["least","given","held"]) (Vy (c9 (v:=false) (y3 rfl rfl rfl)) rfl) rfl (by decide) (by decide)) (Xo (y:= .at (.int d.time)) (f:="time") (ns:=["least","given","held","last"]) (xs:=[m5 d.low,m5 d.rss,.fk (keysOf d.cls) (d.cls.map Cl.pv),.at (.int d.last)]) rfl rfl (by decide) (by decide)))))))
 unfold QA Xg;refine (if_pos rfl).trans ?_;show (ZB C [.ow (.ob C [] []),.sh (m5 d.rss),.sh (.lst (d.cls.map Cl.pv)),.sh (.at (.int d.last)),.sh (.at (.int d.time))]).bind _=_;rw [run];rfl
end
section
variable {C:Addr}{d:Dr}
theorem Nj (cs:List Cl):vt (keysOf cs)=some (cs.map Cl.name):=by
 induction cs with
 |nil=>rfl
 |cons c cs ih=>show (vt (keysOf cs)).map (c.name::·)=_;rw [ih];rfl
theorem Ct (ss:List Str):vd (j8 ss)=some ss:=by
 induction ss with
 |nil=>rfl
 |cons s ss ih=>show (vd (j8 ss)).map (s::·)=_;rw [ih];rfl
theorem Fc (ok:d.Ok):Xz C [d.ob C]=some (.lst (j8 (zu d.names))):=by refine xO rfl (p7 (j5 (y7 (jJ rfl rfl) rfl) ?_));show (vt (keysOf d.cls)).bind _=_;rw [Nj,yG,if_pos (by rw [yZ];have:=ok.ten;omega)];rfl
theorem Cg {ss:List Str}(h:ss.Nodup):∀ i,i<=ss.length->i8 (λi=>(Sum.inr (ss.getD i ⟨#[]⟩):j6)) i=(ss.take i).map Sum.inr
 |0,_=>rfl
 |i+1,hi=>by
  have ih:=Cg h i (by omega);have hl:i<ss.length:=by omega
  have eg:ss.getD i ⟨#[]⟩=ss[i]:=g9 hl;have hn:ss[i]∉ss.take i:=λz=>by
   have e:ss=ss.take i++ss[i]::ss.drop (i+1):=by rw [<- uD hl,List.take_append_drop]
   rw [e] at h;exact (uq.mp h).2.2 _ z _ yT rfl
  unfold i8;rw [ih,eg,if_neg (λz=>hn (by
   obtain ⟨y,hy,e⟩:=yy.mp z;injection e with e;rw [<- e];exact hy)),List.take_add_one,yY hl,yv]
  rfl
theorem NF (h:ss.Nodup):Wc ss=ss.length:=by unfold Wc;rw [Cg h _ (yW _),yZ,tU]
theorem CQ (ok:d.Ok)(L:Lst d ns):wp C [d.ob C,u5 ns]=some (.at (.bl true)):=by
 have hlim:lim=1000000:=rfl;have l10:=L.len ok;have en:j8 (ns.map Cl.name)=(ns.map Cl.name).map λs=>PV.at (.str s):=rfl;refine i7 rfl (y0 (qg (qR (xg (j5 rfl ZY))) qp) (y0 (m3 (jK rfl (by decide) rfl (Fc ok))) (p7 (Qr (j5 (y7 (qS (λs:Str=>PV.at (.str s)) (λ_=>PV.at (.bl true)) (ns.map Cl.name) rfl rfl (by rw [yZ];omega) λs hs=>⟨_,rfl,y3 rfl rfl ((Bf false s _).trans ?_)⟩) rfl) (Qg _)) (y3 (y:= .at (.int (ns.length:Int))) (x:= .at (.int (ns.length:Int))) ?_ ?_ (Ru rfl))))))
 ·obtain ⟨c,hc,rfl⟩:=yy.mp hs;have:c.name∈zu d.names:=(Ua d.names).mem_iff.mpr (yy.mpr ⟨c,L.sub c hc,rfl⟩);simp [this]
 ·show (vd (j8 (ns.map Cl.name))).bind _=_;rw [Ct,yG,if_pos (by rw [yZ];omega),NF L.nd,yZ]
 ·refine j5 rfl ?_;show some (PV.at (.int ((j8 (ns.map Cl.name)).length:Int)))=_;rw [qW,yZ]
end
section
variable {α:Type}
def xJ (d0:α)(ks:List (Int×Str))(xs:List α):List α:=(vM ks).map λi=>xs.getD i d0
theorem YZ {ks:List (Int×Str)}{i:Nat}(h:i∈vM ks):i<ks.length:=yw.mp ((Zj ks).mem_iff.mp h)
theorem Ww (d0:α){ks:List (Int×Str)}{xs:List α}(h:ks.length=xs.length):(xJ d0 ks xs).Perm xs:=by have:=(Zj ks).map λi=>xs.getD i d0;rw [h,Wd] at this;exact this
theorem VC (f:α->β)(d0:α)(e0:β){xs:List α}{i:Nat}(h:i<xs.length):(xs.map f).getD i e0=f (xs.getD i d0):=by rw [yB,yB,yP,yY h];rfl
theorem RW (f:α->β)(d0:α)(e0:β){ks:List (Int×Str)}{xs:List α}(h:ks.length=xs.length):(vM ks).map (λi=>(xs.map f).getD i e0)=(xJ d0 ks xs).map f:=by unfold xJ;rw [yt];exact List.map_congr_left λi hi=>VC f d0 e0 (h▸YZ hi)
theorem RX (d0:α)(key:α->Int×Str)(xs:List α):(xJ d0 (xs.map key) xs).Pairwise λa b=>g0 (key b) (key a)=false:=by unfold xJ;rw [List.pairwise_map];refine (Co (xs.map key)).imp_of_mem λ{a b} ha hb h=>?_;have la:=YZ ha;have lb:=YZ hb;rw [yZ] at la lb;unfold xk at h;rw [VC key d0 _ la,VC key d0 _ lb] at h;exact h
theorem Bs {kb:PV->Option PV}(f:α->PV)(key:α->Int×Str):∀{xs:List α},(∀ x∈xs,kb (f x)=some (.tup [.at (.int (key x).1),.at (.str (key x).2)]))->wg kb (xs.map f)=some (xs.map key)
 |[],_=>rfl
 |x::xs,h=>by
  rw [yO];unfold wg;rw [h x yT,Bs f key λy hy=>h y (yV _ hy)];rfl
theorem Fh (d0:α){kb:PV->Option PV}(f:α->PV)(key:α->Int×Str){xs:List α}(h:∀ x∈xs,kb (f x)=some (.tup [.at (.int (key x).1),.at (.str (key x).2)]))(l:xs.length<64)(nd:(xs.map key).Nodup):Wn kb [.lst (xs.map f)]=some (.lst ((xJ d0 (xs.map key) xs).map f)):=by show (wg kb (xs.map f)).bind _=_;rw [Bs f key h,yG,if_pos ⟨by rw [yZ];exact l,nd⟩,RW f d0 _ (yZ _)]
end
theorem NM (f:α->β){l:List α}(h:(l.map f).Nodup):l.Nodup:=List.Pairwise.of_map f (λ_ _ h e=>h (congrArg f e)) h
theorem NL {xs:List Cl}{g:Cl->Int}(nd:(xs.map Cl.name).Nodup):(xs.map λc=>(g c,c.name)).Nodup:=by refine NM Prod.snd ?_;rw [yt];exact nd
def c0:Cl:=⟨"",0,0,0,0⟩
def k5:List Cl->Int
 |[]=>1
 |c::cs=>c.wt*k5 cs
theorem Wz:∀{xs:List Cl}{c:Cl},c∈xs->c.wt ∣ k5 xs
 |[],_,h=>nomatch h
 |x::xs,c,h=>by
  rcases yJ.mp h with rfl|h
  ·exact ⟨k5 xs,rfl⟩
  ·obtain ⟨q,e⟩:=Wz h;exact ⟨x.wt*q,by show x.wt*k5 xs=_;rw [e,<- Int.mul_assoc,<- Int.mul_assoc,Int.mul_comm x.wt c.wt]⟩
theorem JB {xs:List Cl}:(∀ c∈xs,1<=c.wt)->1<=k5 xs:=by
 induction xs with
 |nil=>intro _;exact uT _
 |cons x xs ih=>intro h;have h1:=h x yT;have h2:=ih λc hc=>h c (yV _ hc);exact Int.mul_pos (show 0<x.wt by omega) (show 0<k5 xs by omega)
theorem Pf {xs:List Cl}:(∀ c∈xs,1<=c.wt)->(∀ c∈xs,c.wt<=p5)->k5 xs<=(2:Int) ^ (100*xs.length):=by
 have hb:p5<=2 ^ 100:=by decide +kernel
 induction xs with
 |nil=>intro _ _;exact uT _
 |cons x xs ih=>intro h g;have h1:=h x yT;have g1:=g x yT;have h2:=JB λc hc=>h c (yV _ hc);have g2:=ih (λc hc=>h c (yV _ hc)) λc hc=>g c (yV _ hc);show x.wt*k5 xs<=_;rw [yE,Nat.mul_add,Nat.mul_one,Int.pow_add,Int.mul_comm];exact Int.mul_le_mul g2 (by omega) (by omega) (by omega)
theorem ZF {n:Int}(h0:0<=n)(h1:n<=2 ^ 1000):Builtin.Int.intBits n<=2 ^ 20:=by
 obtain ⟨m,rfl⟩:=yr h0;have h2:m<2 ^ 1001:=by
  have e:((2 ^ 1000:Nat):Int)=2 ^ 1000:=by rw [Int.natCast_pow];rfl
  rw [<- e] at h1;have h3:m<=2 ^ 1000:=by exact Int.ofNat_le.mp h1
  exact Nat.lt_of_le_of_lt h3 (Nat.pow_lt_pow_right (by decide) (by decide))
 exact yj (PyProof.Rows.intBits_le (k:=1001) (by rw [Int.natAbs_natCast];exact h2)) (by decide)
theorem Pe (h:n<=10):(2:Int) ^ (100*n)<=2 ^ 1000:=by have:(2:Nat) ^ (100*n)<=2 ^ 1000:=Nat.pow_le_pow_right (by decide) (by omega);have:=Int.ofNat_le.mpr this;rw [Int.natCast_pow,Int.natCast_pow] at this;exact this
def xq (w:Int)(c:Cl):Int×Str:=(c.len*(w / c.wt),c.name)
theorem IG {xs:List Cl}(nd:(xs.map Cl.name).Nodup)(l:xs.length<=10)(g1:∀ c∈xs,1<=c.len)(g2:∀ c∈xs,c.len<=p5)(w1:∀ c∈xs,1<=c.wt)(w2:∀ c∈xs,c.wt<=p5):Jb [.lst (xs.map Cl.pv)]=some (.lst ((xJ c0 (xs.map (xq (k5 xs))) xs).map Cl.pv)):=by
 have hB:=vR;have hb:p5<=2 ^ 1000:=by decide +kernel
 have lp:=wn (g:=v8 2) (f:=dAug 1 pIpM (x8 jT (q0 (q8 2) x6))) Cl.pv (λtodo ε=>∃(done:List Cl)(s2:MSlot),done.reverse++todo=xs/\ε=[.sh (.lst (xs.map Cl.pv)),.sh (.at (.int (k5 done))),s2]) (by
  rintro c todo ε ⟨done,s2,e,rfl⟩;have hc:∀ x∈done,x∈xs:=λx hx=>by rw [<- e];exact uQ _ (List.mem_reverse.mpr hx)
  have hc':c∈xs:=by rw [<- e];exact yu _ yT
  have dl:done.length<=10:=by have:=congrArg List.length e;rw [yM,List.length_reverse] at this;omega
  have p1:=JB λx hx=>w1 x (hc x hx);have p2:=uG (Pf (λx hx=>w1 x (hc x hx)) λx hx=>w2 x (hc x hx)) (Pe dl);have q1:=w1 c hc';have q2:=w2 c hc';refine ⟨_,[.sh (.lst (xs.map Cl.pv)),.sh (.at (.int (k5 (c::done)))),.sh c.pv],rfl,?_,c::done,.sh c.pv,by rw [List.reverse_cons,uS];exact e,rfl⟩;show (if jk (k5 done) c.wt then some (PV.at (.int (k5 done*c.wt))) else none).bind _=_;rw [if_pos ⟨ZF (by omega) p2,ZF (by omega) (by omega)⟩,Int.mul_comm];rfl) xs _ ⟨[],.no,rfl,rfl⟩
 obtain ⟨ε',e',done,s2,e,rfl⟩:=lp;have pe:k5 done=k5 xs:=by
  rw [yp] at e;rw [<- e];have ap:∀ a b:List Cl,k5 (a++b)=k5 a*k5 b:=by
   intro a b
   induction a with
   |nil=>show k5 b=1*k5 b;rw [Int.one_mul]
   |cons x a ih=>show x.wt*k5 (a++b)=x.wt*k5 a*k5 b;rw [ih,Int.mul_assoc]
  clear e e'
  induction done with
  |nil=>rfl
  |cons x a ih=>rw [List.reverse_cons,ap,<- ih];show x.wt*k5 a=k5 a*(x.wt*1);rw [Int.mul_one,Int.mul_comm]
 rw [pe] at e';have p1:=JB w1;have p2:=uG (Pf w1 w2) (Pe l);refine xO rfl (y0 (m3 rfl) (y0 (xP rfl e') (p7 (Fh c0 Cl.pv (xq (k5 xs)) (λc hc=>?_) (by omega) (NL nd)))));have q1:=w1 c hc;have q2:=w2 c hc;have d1:pDiv (.at (.int (k5 xs))) (.at (.int c.wt))=some (.at (.int (k5 xs / c.wt))):=by show (if vf (k5 xs) c.wt then some (V.int (k5 xs / c.wt)) else none).map PV.at=_;rw [if_pos (vZ (by omega) (by omega))];rfl
 have d2:zG (.at (.int c.len)) (.at (.int (k5 xs / c.wt)))=some (.at (.int (c.len*(k5 xs / c.wt)))):=by have n1:0<=k5 xs / c.wt:=Int.ediv_nonneg (by omega) (by omega);have n2:k5 xs / c.wt<=k5 xs:=Int.ediv_le_self _ (by omega);have:=g1 c hc;have:=g2 c hc;show (if jk c.len (k5 xs / c.wt) then some (V.int (c.len*(k5 xs / c.wt))) else none).map PV.at=_;rw [if_pos ⟨ZF (by omega) (by omega),ZF n1 (by omega)⟩];rfl
 exact xV (y7 (y3 (j5 rfl rfl) (y3 rfl (j5 rfl rfl) d1) d2) (y7 (j5 rfl rfl) rfl)) l2
theorem Fd {xs:List Cl}(l:xs.length<=10):Jl [.lst (xs.map Cl.pv)]=some (.lst (j8 (xs.map Cl.name))):=by have hlim:lim=1000000:=rfl;refine xO rfl (p7 ((qS Cl.pv (λc=>PV.at (.str c.name)) xs rfl rfl (by omega) λc _=>⟨_,rfl,j5 rfl rfl⟩).trans ?_));unfold j8;rw [yt];rfl
section
variable {C:Addr}{d:Dr}
def Dr.inH (d:Dr)(h:Nat):List Cl:=d.cls.filter λc=>decide (c.hue=h)
theorem VI (ok:d.Ok):(d.inH h).length<=10:=yj (List.length_filter_le _ _) ok.ten
theorem vo (hc:c∈d.inH h):c∈d.cls:=(yk.mp hc).1
theorem ZV (ok:d.Ok):((d.inH h).map Cl.name).Nodup:=ok.nd.sublist (List.filter_sublist.map _)
theorem IK (ok:d.Ok)(h:Nat):Xy C [d.ob C,.at (.int h)]=some (.lst ((d.inH h).map Cl.pv)):=by
 have hlim:lim=1000000:=rfl;have:=ok.ten;refine xO rfl (p7 (KN Cl.pv Cl.pv (λc=>decide (c.hue=h)) d.cls ?_ rfl (by omega) λc _=>⟨_,rfl,c9 (y3 (j5 rfl rfl) rfl ((Xk _ _).trans ?_)),λ_=>rfl⟩))
 ·show (xZ C "held" (q8 0) _).bind _=_;rw [jJ rfl rfl];rfl
 ·rw [show decide ((c.hue:Int)=(h:Int))=decide (c.hue=h) by rw [decide_eq_decide];omega]
def Dr.steepR (d:Dr)(h:Nat):List Cl:=xJ c0 ((d.inH h).map (xq (k5 (d.inH h)))) (d.inH h)
theorem JI (h:Nat):(d.steepR h).Perm (d.inH h):=Ww c0 (yZ _)
theorem Fk (ok:d.Ok)(h:Nat):QC C [d.ob C,.at (.int h)]=some (.lst (j8 ((d.steepR h).map Cl.name))) :=
 xO rfl (p7 (j5 (y7 (j5 (y7 (jK rfl (by decide) rfl (IK ok h)) rfl) (IG (ZV ok) (VI ok) (λc hc=>(ok.cl c (vo hc)).l1) (λc hc=>(ok.cl c (vo hc)).l2) (λc hc=>(ok.cl c (vo hc)).w1) (λc hc=>(ok.cl c (vo hc)).w2))) rfl) (Fd (by have:=(JI (d:=d) h).length_eq;have:=VI ok (h:=h);show (d.steepR h).length<=10;omega))))
end
section
variable {C:Addr}{d:Dr}
def k7 (R:List Str):PV:= .lst (j8 R)
theorem Tk {a:MA}{k:Nat}(h:a ε=some [.at (.int (k:Int))])(hk:k<=1000):xx a ε=some ((List.range k).map λ(i:Nat)=>PV.at (.int ((0:Int)+i))):=jZ h (by have:lim=1000000:=rfl;omega)
def Dr.steepN (d:Dr)(g:Nat):List Str:=(d.steepR g).map Cl.name
theorem Fl (ok:d.Ok):XI C [d.ob C]=some (.lst (((List.range d.h).map d.steepN).map k7)):=by
 have hlim:lim=1000000:=rfl;have h4:=ok.h4;refine xO rfl (p7 ((qS (λ(i:Nat)=>PV.at (.int ((0:Int)+i))) (λi=>k7 (d.steepN i)) (List.range d.h) (Tk (y7 (jK rfl (by decide) rfl (IS ok)) rfl) (by omega)) rfl (by rw [uN];omega) λi _=>⟨_,rfl,jK rfl (by decide) rfl ?_⟩).trans ?_))
 ·show QC C [d.ob C,.at (.int ((0:Int)+i))]=_;rw [ui];exact Fk ok i
 ·rw [yt];rfl
end
theorem Bc (s:Str):∀{R:List Str},s∈R->Qv (.str s) (R.map V.str)=some (R.idxOf s)
 |[],h=>nomatch h
 |r::R,h=>by
  show (if decide (r=s)=true then some 0 else (Qv (.str s) (R.map V.str)).map (·+1))=_;rw [List.idxOf_cons];by_cases e:r=s
  ·subst e;simp
  ·rcases yJ.mp h with z|z
   ·exact absurd z.symm e
   ·rw [if_neg (by simpa using e),Bc s z];have:(r==s)=false:=by simpa using e
    rw [this];rfl
theorem KP {a b:M}(h1:a ε=some (k7 R))(h2:b ε=some (.at (.str s)))(hs:s∈R)(hl:R.length<=1000):jH a b ε=some (.at (.int (R.idxOf s:Nat))):=by have hlim:lim=1000000:=rfl;unfold jH;rw [h1,yG,h2,yG];show (ats (j8 R)).bind _=_;rw [JZ,yG,if_pos ⟨rfl,KS R,by rw [yZ];omega⟩,Bc s hs];rfl
def qG (R:List Str):List (Str×Nat)->Option (Nat×Nat)
 |x::y::l=>if R.idxOf y.1<R.idxOf x.1 then some (x.2,y.2) else qG R (y::l)
 |_=>none
def qj (R N:List Str):List (Str×Nat):=N.zipIdx.filter λp=>decide (p.1∈R)
def jv:Option (Nat×Nat)->PV
 |none=> .at .non
 |some p=> .tup [.at (.int p.1),.at (.int p.2)]
def enF (p:Str×Nat):PV:= .tup [.at (.int p.2),.at (.str p.1)]
theorem KL:∀(N:List Str)(n:Nat),xH n (j8 N)=(N.zipIdx n).map enF
 |[],_=>rfl
 |s::N,n=>by
  show PV.tup [.at (.int n),.at (.str s)]::xH (n+1) (j8 N)=_;rw [KL N (n+1),List.zipIdx_cons];rfl
def m4 (p:Str×Nat):PV:= .at (.int (p.2:Int))
theorem Ds:∀ l:List (Str×Nat),xC (l.map m4) ((l.map m4).drop 1)=(l.zip (l.drop 1)).map λq=>PV.tup [m4 q.1,m4 q.2]
 |[]=>rfl
 |[x]=>rfl
 |x::y::l=>by
  show PV.tup [m4 x,m4 y]::xC ((y::l).map m4) (((y::l).map m4).drop 1)=_;rw [Ds (y::l)];rfl
theorem BG {R N:List Str}{f:MS}{s2:MSlot}(hl:∀(x y:Str×Nat)(s3 s4:MSlot),x∈qj R N->y∈qj R N->f [.sh (k7 R),.sh (k7 N),s2,.sh (m4 x),.sh (m4 y)]=if R.idxOf y.1<R.idxOf x.1 then some (.rt (.tup [m4 x,m4 y])) else some (.nx [.sh (k7 R),.sh (k7 N),s2,.sh (m4 x),.sh (m4 y)])):∀(l:List (Str×Nat)),(∀ x∈l,x∈qj R N)->∀(s3 s4:MSlot),(∃ p,qG R l=some p/\o7 (qI 2 (c7 (v8 3) (c7 (v8 4) qH))) f ((l.zip (l.drop 1)).map λq=>PV.tup [m4 q.1,m4 q.2]) [.sh (k7 R),.sh (k7 N),s2,s3,s4]=some (.rt (jv (some p))))∨(qG R l=none/\∃ s3' s4':MSlot,o7 (qI 2 (c7 (v8 3) (c7 (v8 4) qH))) f ((l.zip (l.drop 1)).map λq=>PV.tup [m4 q.1,m4 q.2]) [.sh (k7 R),.sh (k7 N),s2,s3,s4]=some (.nx [.sh (k7 R),.sh (k7 N),s2,s3',s4']))
 |[],_,s3,s4=> .inr ⟨rfl,s3,s4,rfl⟩
 |[x],_,s3,s4=> .inr ⟨rfl,s3,s4,rfl⟩
 |x::y::l,h,s3,s4=>by
  have hf:=hl x y s3 s4 (h x yT) (h y (yV _ yT));have st:o7 (qI 2 (c7 (v8 3) (c7 (v8 4) qH))) f (((x::y::l).zip ((x::y::l).drop 1)).map λq=>PV.tup [m4 q.1,m4 q.2]) [.sh (k7 R),.sh (k7 N),s2,s3,s4]=(f [.sh (k7 R),.sh (k7 N),s2,.sh (m4 x),.sh (m4 y)]).bind λo=>match o with
   | .nx ε2=>o7 (qI 2 (c7 (v8 3) (c7 (v8 4) qH))) f (((y::l).zip ((y::l).drop 1)).map λq=>PV.tup [m4 q.1,m4 q.2]) ε2
   | .ct ε2=>o7 (qI 2 (c7 (v8 3) (c7 (v8 4) qH))) f (((y::l).zip ((y::l).drop 1)).map λq=>PV.tup [m4 q.1,m4 q.2]) ε2
   | .bk ε2=>some (.nx ε2)
   | .rt y=>some (.rt y):=rfl
  by_cases e:R.idxOf y.1<R.idxOf x.1
  ·rw [if_pos e] at hf;refine .inl ⟨(x.2,y.2),by unfold qG;rw [if_pos e],?_⟩;rw [st,hf];rfl
  ·rw [if_neg e] at hf;have ea:qG R (x::y::l)=qG R (y::l):=by show (if R.idxOf y.1<R.idxOf x.1 then some (x.2,y.2) else qG R (y::l))=_;rw [if_neg e]
   rcases BG hl (y::l) (λz hz=>h z (yV _ hz)) (.sh (m4 x)) (.sh (m4 y)) with ⟨p,e1,e2⟩|⟨e1,s3',s4',e2⟩
   ·refine .inl ⟨p,ea.trans e1,?_⟩;rw [st,hf];exact e2
   ·refine .inr ⟨ea.trans e1,s3',s4',?_⟩;rw [st,hf];exact e2
theorem Pc {x:Str×Nat}(h:x∈qj R N):x.1∈R/\N[x.2]?=some x.1:=by obtain ⟨h1,h2⟩:=yk.mp h;exact ⟨uV h2,List.mem_zipIdx_iff_getElem?.mp h1⟩
theorem Ft (hR:R.length<=1000)(hN:N.length<=1000):XL [k7 R,k7 N]=some (jv (qG R (qj R N))):=by
 have hlim:lim=1000000:=rfl;have cp:m8 [none,none,some 0] [0,1] (Qk (q0 (q8 1) x6)) (qI 2 (c7 (v8 0) (c7 (v8 1) qH))) (dT (x9 (pIn false) (q9 1) (q9 2))) (q8 0) [.sh (k7 R),.sh (k7 N),.no,.no,.no]=some (.lst ((qj R N).map m4)):=by refine KN enF m4 (λp=>decide (p.1∈R)) N.zipIdx ?_ rfl (by rw [List.length_zipIdx];omega) λp _=>⟨_,rfl,c9 (y3 rfl rfl ((Bf false p.1 R).trans rfl)),λ_=>rfl⟩;show some (xH 0 (j8 N))=_;rw [KL]
 have zp:Qo (q0 (q8 2) (q0 (jI (q9 2) (pSo (dC (.int 1))) pNo) x6)) [.sh (k7 R),.sh (k7 N),.sh (.lst ((qj R N).map m4)),.no,.no]=some (((qj R N).zip ((qj R N).drop 1)).map λq=>PV.tup [m4 q.1,m4 q.2]):=by
  unfold Qo;rw [y7 rfl (y7 (Xq rfl rfl rfl) rfl),yG];show some (xC ((qj R N).map m4) (zP ((qj R N).map m4) (some 1) none))=_;have ec:zP ((qj R N).map m4) (some 1) none=((qj R N).map m4).drop 1:=by
   unfold zP;cases hp:(qj R N).map m4 with
   |nil=>rfl
   |cons x l =>
    have e1:HT.sIx (x::l).length 0 (some 1)=1:=by unfold HT.sIx;simp
    have e2:HT.sIx (x::l).length (x::l).length none=(x::l).length:=rfl;rw [e1,e2,uu (by simp)]
  rw [ec,Ds]
 have bd:=BG (R:=R) (N:=N) (s2:= .sh (.lst ((qj R N).map m4))) (f:=b9 (dT (x9 pGt (jH (q9 0) (x9 w9 (q9 1) (q9 3))) (jH (q9 0) (x9 w9 (q9 1) (q9 4))))) (y8 (qm (q0 (q8 3) (q0 (q8 4) x6)))) c6) (by
  intro x y s3 s4 hx hy;obtain ⟨x1,x2⟩:=Pc hx;obtain ⟨y1,y2⟩:=Pc hy;have ix:∀{z:Str×Nat},N[z.2]?=some z.1->w9 (k7 N) (.at (.int (z.2:Int)))=some (.at (.str z.1)):=λ{z} hz=>by
   show atI (j8 N) (z.2:Int)=_;refine zg ?_;unfold j8;rw [yP,hz];rfl
  have c:dT (x9 pGt (jH (q9 0) (x9 w9 (q9 1) (q9 3))) (jH (q9 0) (x9 w9 (q9 1) (q9 4)))) [.sh (k7 R),.sh (k7 N),.sh (.lst ((qj R N).map m4)),.sh (m4 x),.sh (m4 y)]=some (decide (R.idxOf y.1<R.idxOf x.1)):=by refine c9 (y3 (KP rfl (y3 rfl rfl (ix x2)) x1 hR) (KP rfl (y3 rfl rfl (ix y2)) y1 hR) ?_);show some (PV.at (.bl (decide ((R.idxOf y.1:Int)<(R.idxOf x.1:Int)))))=_;rw [show decide ((R.idxOf y.1:Int)<(R.idxOf x.1:Int))=decide (R.idxOf y.1<R.idxOf x.1) by rw [decide_eq_decide];omega]
  by_cases e:R.idxOf y.1<R.idxOf x.1
  ·rw [if_pos e];rw [yH e] at c;exact Qt c (p7 (xV rfl l2))
  ·rw [if_neg e];rw [yK e] at c;exact qg c qp) (qj R N) (λ_ h=>h) .no .no
 rcases bd with ⟨p,e1,e2⟩|⟨e1,s3',s4',e2⟩
 ·rw [e1];exact i7 rfl (y0 (m3 cp) (Xn (xP zp e2)))
 ·rw [e1];exact i7 rfl (y0 (m3 cp) (y0 (xP zp e2) (p7 rfl)))
abbrev fTp:MS:=j7 (u8 3 (x8 XL (q0 (q8 2) (q0 (q8 1) x6)))) (b9 (dT (x9 wB (q9 3) (dC .non))) (y8 (q8 3)) c6)
theorem Fu (hN:N.length<=1000):∀(rows:List (List Str)),(∀ R∈rows,R.length<=1000)->vC [.lst (rows.map k7),k7 N]=some (jv (rows.findSome? λR=>qG R (qj R N))):=by
 intro rows hr;have lp:∀(l:List (List Str))(s2 s3:MSlot),(∀ R∈l,R.length<=1000)->(∃ p,(l.findSome? λR=>qG R (qj R N))=some p/\o7 (v8 2) fTp (l.map k7) [.sh (.lst (rows.map k7)),.sh (k7 N),s2,s3]=some (.rt (jv (some p)))) ∨
   ((l.findSome? λR=>qG R (qj R N))=none/\∃ s2' s3':MSlot,o7 (v8 2) fTp (l.map k7) [.sh (.lst (rows.map k7)),.sh (k7 N),s2,s3]=some (.nx [.sh (.lst (rows.map k7)),.sh (k7 N),s2',s3'])):=by
  intro l
  induction l with
  |nil=>exact λs2 s3 _=> .inr ⟨rfl,s2,s3,rfl⟩
  |cons R l ih =>
   intro s2 s3 h;have st:∀ o,fTp [.sh (.lst (rows.map k7)),.sh (k7 N),.sh (k7 R),s3]=some o->o7 (v8 2) fTp ((R::l).map k7) [.sh (.lst (rows.map k7)),.sh (k7 N),s2,s3]=match o with
    | .nx ε2=>o7 (v8 2) fTp (l.map k7) ε2
    | .ct ε2=>o7 (v8 2) fTp (l.map k7) ε2
    | .bk ε2=>some (.nx ε2)
    | .rt y=>some (.rt y):=λo e=>by
    show Option.bind (fTp [.sh (.lst (rows.map k7)),.sh (k7 N),.sh (k7 R),s3]) _=_;rw [e];rfl
   have ht:=Ft (h R yT) hN;cases ea:qG R (qj R N) with
   |some p=>rw [ea] at ht;refine .inl ⟨p,by rw [List.findSome?_cons,ea],?_⟩;rw [st _ (y0 (m3 (j5 rfl ht)) (Qt (c9 (v:=true) rfl) (p7 rfl)))]
   |none =>
    rw [ea] at ht;have:=st _ (y0 (m3 (j5 rfl ht)) (qg (c9 (v:=false) rfl) qp));rw [List.findSome?_cons,ea];rcases ih (.sh (k7 R)) (.sh (.at .non)) λQ hQ=>h Q (yV _ hQ) with ⟨p,e1,e2⟩|⟨e1,s2',s3',e2⟩
    ·exact .inl ⟨p,e1,this.trans e2⟩
    ·exact .inr ⟨e1,s2',s3',this.trans e2⟩
 rcases lp rows .no .no hr with ⟨p,e1,e2⟩|⟨e1,s2,s3,e2⟩
 ·rw [e1];exact i7 rfl (Xn (xP rfl e2))
 ·rw [e1];exact i7 rfl (y0 (xP rfl e2) (p7 rfl))
theorem UC {R:List Str}:∀{l:List (Str×Nat)},qG R l=none↔(l.map (·.1)).Pairwise λa b=>R.idxOf a<=R.idxOf b
 |[]=>by simp [qG]
 |[x]=>by simp [qG]
 |x::y::l=>by
  have ih:=UC (R:=R) (l:=y::l);rw [yO,uK];unfold qG;constructor
  ·intro h;split at h
   ·cases h
   ·rename_i hn;have hp:=ih.mp h;refine ⟨λz hz=>?_,hp⟩;rw [yO] at hz hp;rcases yJ.mp hz with rfl|hz
    ·omega
    ·have:=(uK.mp hp).1 z hz;omega
  ·rintro ⟨h1,h2⟩;rw [if_neg (by have:=h1 y.1 (by rw [yO];exact yT);omega)];exact ih.mpr h2
theorem Ta (R N:List Str):(qj R N).map (·.1)=N.filter λs=>decide (s∈R):=by
 unfold qj;have:∀(N:List Str)(n:Nat),((N.zipIdx n).filter λp=>decide (p.1∈R)).map (·.1)=N.filter λs=>decide (s∈R):=by
  intro N
  induction N with
  |nil=>intro n;rfl
  |cons s N ih =>
   intro n;rw [List.zipIdx_cons,List.filter_cons,List.filter_cons];by_cases h:s∈R
   ·rw [if_pos (by simpa using h),if_pos (by simpa using h),yO,ih]
   ·rw [if_neg (by simpa using h),if_neg (by simpa using h),ih]
 exact this N 0
theorem WK {xs:List Cl}(hk:∀ c,(key c).2=c.name)(nd:(xs.map Cl.name).Nodup)(ha:a∈xs)(hb:b∈xs):((xJ c0 (xs.map key) xs).map Cl.name).idxOf b.name<((xJ c0 (xs.map key) xs).map Cl.name).idxOf a.name↔g0 (key b) (key a)=true:=by
 have pm:=Ww c0 (ks:=xs.map key) (xs:=xs) (yZ _);have up:=RX c0 key xs;generalize xJ c0 (xs.map key) xs=row at pm up;have ndr:(row.map Cl.name).Nodup:=(pm.map Cl.name).nodup_iff.mpr nd;have ia:=(uZ.mp (pm.mem_iff.mpr ha));have ib:=(uZ.mp (pm.mem_iff.mpr hb));obtain ⟨i,hi,ei⟩:=ia;obtain ⟨j,hj,ej⟩:=ib;have xi:(row.map Cl.name).idxOf a.name=i:=by
  have:(row.map Cl.name)[i]'(by rw [yZ];exact hi)=a.name:=by rw [yb,ei]
  rw [<- this];exact ndr.idxOf_getElem i _
 have xj:(row.map Cl.name).idxOf b.name=j:=by
  have:(row.map Cl.name)[j]'(by rw [yZ];exact hj)=b.name:=by rw [yb,ej]
  rw [<- this];exact ndr.idxOf_getElem j _
 rw [xi,xj];have pg:=um.mp up;constructor
 ·intro h;have q:=pg j i hj hi h;rw [ei,ej] at q;cases e:g0 (key b) (key a) with
  |true=>rfl
  |false =>
   have:=congrArg Prod.snd (Wa e q);rw [hk,hk] at this;have z:row.map Cl.name=row.map Cl.name:=rfl;exfalso;have:j=i:=by rw [<- xi,<- xj,this]
   omega
 ·intro h;rcases Nat.lt_trichotomy j i with q|q|q
  ·exact q
  ·subst q;have e:a=b:=by rw [<- ei,<- ej]
   subst e;have:=(Qz λ_=>key a).irr 0;rw [h] at this;cases this
  ·have z:=pg i j hi hj q;rw [ei,ej,h] at z;cases z
theorem PY (ok:d.Ok)(L:Lst d ns){g:Nat}(hk:∀ c,(key c).2=c.name):qG ((xJ c0 ((d.inH g).map key) (d.inH g)).map Cl.name) (qj ((xJ c0 ((d.inH g).map key) (d.inH g)).map Cl.name) (ns.map Cl.name))=none↔ns.Pairwise λa b=>a.hue=g->b.hue=g->g0 (key b) (key a)=false:=by
 have pm:=Ww c0 (ks:=(d.inH g).map key) (xs:=d.inH g) (yZ _);have mem:∀ c∈ns,c.name∈(xJ c0 ((d.inH g).map key) (d.inH g)).map Cl.name↔c.hue=g:=by
  intro c hc;rw [(pm.map Cl.name).mem_iff];constructor
  ·intro h;obtain ⟨x,hx,e⟩:=yy.mp h;obtain ⟨x1,x2⟩:=yk.mp hx;have:x=c:=by have nd:=ok.nd;obtain ⟨i,hi,ei⟩:=uZ.mp x1;obtain ⟨j,hj,ej⟩:=uZ.mp (L.sub c hc);have:=(tW (xs:=d.cls.map Cl.name) (h₀:=by rw [yZ];exact hi) (h₁:=by rw [yZ];exact hj) nd).mp (by rw [yb,yb,ei,ej,e]);subst this;rw [<- ei,<- ej]
   subst this;exact uV x2
  ·intro h;exact yy.mpr ⟨c,yk.mpr ⟨L.sub c hc,by rw [h];exact yH rfl⟩,rfl⟩
 rw [UC,Ta,List.filter_map,List.pairwise_map,List.pairwise_filter];constructor
 ·intro h;refine h.imp_of_mem λ{a b} ha hb q h1 h2=>?_;have q:=q (by simpa using (mem a ha).mpr h1) (by simpa using (mem b hb).mpr h2);cases e:g0 (key b) (key a) with
  |false=>rfl
  |true=>have:=(WK hk (ZV ok (h:=g)) (a:=a) (b:=b) (yk.mpr ⟨L.sub a ha,by rw [h1];exact yH rfl⟩) (yk.mpr ⟨L.sub b hb,by rw [h2];exact yH rfl⟩)).mpr e;omega
 ·intro h;refine h.imp_of_mem λ{a b} ha hb q h1 h2=>?_;have h1:a.hue=g:=(mem a ha).mp (by simpa using h1);have h2:b.hue=g:=(mem b hb).mp (by simpa using h2);have q:=q h1 h2;rcases uj (((xJ c0 ((d.inH g).map key) (d.inH g)).map Cl.name).idxOf b.name) (((xJ c0 ((d.inH g).map key) (d.inH g)).map Cl.name).idxOf a.name) with z|z
  ·rw [(WK hk (ZV ok (h:=g)) (a:=a) (b:=b) (yk.mpr ⟨L.sub a ha,by rw [h1];exact yH rfl⟩) (yk.mpr ⟨L.sub b hb,by rw [h2];exact yH rfl⟩)).mp z] at q;cases q
  ·exact z
theorem MY {f:α->Option β}{l:List α}:l.findSome? f=none↔∀ x∈l,f x=none:=ut
theorem pw_all {α:Type}{h:Nat}{P:Nat->α->α->Prop}:∀{l:List α},(∀ g,g<h->l.Pairwise (P g))↔l.Pairwise λa b=>∀ g,g<h->P g a b
 |[]=>⟨λ_=> .nil,λ_ _ _=> .nil⟩
 |x::l=>by
  rw [uK];constructor
  ·intro q;exact ⟨λy hy g hg=>(uK.mp (q g hg)).1 y hy,pw_all.mp λg hg=>(uK.mp (q g hg)).2⟩
  ·intro q g hg;exact uK.mpr ⟨λy hy=>q.1 y hy g hg,pw_all.mpr q.2 g hg⟩
theorem Dw {P:Int}(hP:1<=P)(wa:1<=a.wt)(wb:1<=b.wt)(da:a.wt ∣ P)(db:b.wt ∣ P)(h:g0 (xq P a) (xq P b)=true):a.len*b.wt<b.len*a.wt∨(a.len*b.wt=b.len*a.wt/\a.name.cps.toList<b.name.cps.toList):=by
 obtain ⟨qa,ea⟩:=da;obtain ⟨qb,eb⟩:=db;have da:P / a.wt=qa:=by rw [ea];exact Int.mul_ediv_cancel_left _ (by omega)
 have db:P / b.wt=qb:=by rw [eb];exact Int.mul_ediv_cancel_left _ (by omega)
 have e1:P*(a.len*b.wt)=(a.wt*b.wt)*(a.len*qa):=by rw [ea];ac_rfl
 have e2:P*(b.len*a.wt)=(a.wt*b.wt)*(b.len*qb):=by rw [eb];ac_rfl
 have pw:0<a.wt*b.wt:=Int.mul_pos (by omega) (by omega);rcases ltK_iff.mp h with z|⟨z1,z2⟩
 ·refine .inl ?_;have z:a.len*(P / a.wt)<b.len*(P / b.wt):=z;rw [da,db] at z;have:=Int.mul_lt_mul_of_pos_left z pw;rw [<- e1,<- e2] at this;exact Int.lt_of_mul_lt_mul_left this (by omega)
 ·refine .inr ⟨?_,z2⟩;have z1:a.len*(P / a.wt)=b.len*(P / b.wt):=z1;rw [da,db] at z1;have:P*(a.len*b.wt)=P*(b.len*a.wt):=by rw [e1,e2,z1]
  exact Int.eq_of_mul_eq_mul_left (by omega) this
def zO (way:Int)(a b:Cl):Bool:=if way=0 then g0 (a.due,a.name) (b.due,b.name) else g0 (a.len*b.wt,a.name) (b.len*a.wt,b.name)
theorem IE (oa:a.Ok h)(ob:b.Ok h):wo [a.pv,b.pv,.at (.int way)]=some (.at (.bl (zO way a b))):=by
 have hB:=vR;have g1:=oa.l1;have g2:=oa.l2;have w1:=oa.w1;have w2:=oa.w2;have k1:=ob.l1;have k2:=ob.l2;have v1:=ob.w1;have v2:=ob.w2;unfold zO;by_cases hw:way=0
 ·subst hw;rw [if_pos rfl];exact i7 rfl (Xn (Qt (c9 (v:=true) rfl) (p7 (y3 (xV rfl l2) (xV rfl l2) rfl))))
 ·rw [if_neg hw];refine i7 rfl (y0 (qg (c9 (v:=false) (y3 rfl rfl ((Xk _ _).trans (by rw [yK hw])))) qp) (p7 (y3 (xV (y7 (y3 rfl rfl (XO (a:=a.len) (b:=b.wt) (by omega) g2 (by omega) v2)) (y7 rfl rfl)) l2) (xV (y7 (y3 rfl rfl (XO (a:=b.len) (b:=a.wt) (by omega) k2 (by omega) w2)) (y7 rfl rfl)) l2) rfl)))
theorem ZQ {a b:M}{y:PV}{k:j6}(h1:a ε=some (.fk ks xs))(h2:b ε=some y)(h3:zk y=some k)(h4:qU k ks xs=some z):qf a b ε=some z:=by unfold qf;rw [h1,h2];show (zk y).bind _=_;rw [h3];exact h4
theorem KD (ok:d.Ok)(h0:ε[0]?=some (.sh d.pv)):x8 wA (q0 (m8 [none] [0] (r6 (x9 w9 (q9 0) (dC (.int 1)))) (v8 0) n5 (qm (q0 (x9 w9 (q9 0) (dC (.int 0))) (q0 (q8 0) x6)))) x6) ε=some (.fk (keysOf d.cls) (d.cls.map Cl.pv)):=by
 have hlim:lim=1000000:=rfl;have ten:=ok.ten;have b0:q9 0 ε=some d.pv:=by unfold q9;rw [h0]
 refine j5 (y7 (qS Cl.pv (λc=>PV.tup [.at (.str c.name),c.pv]) d.cls (Xm (y3 b0 rfl rfl)) rfl (by omega) λc _=>⟨_,rfl,xV (y7 (y3 rfl rfl rfl) (y7 rfl rfl)) l2⟩) rfl) ?_;show (vJ (d.cls.map λc=>PV.tup [.at (.str c.name),c.pv])).bind _=_;have k1:(d.cls.map λc=>((.inr c.name:j6),c.pv)).map (·.1)=keysOf d.cls:=by rw [yt];rfl
 have k2:(d.cls.map λc=>((.inr c.name:j6),c.pv)).map (·.2)=d.cls.map Cl.pv:=by rw [yt];rfl
 rw [WB,yG,k1,k2];exact if_pos ⟨Bt ok.nd,by rw [yZ];omega⟩
theorem Bo {i:Nat}(h:i<ns.length):w9 (u5 ns) (.at (.int ((0:Int)+(i:Int))))=some (.at (.str ns[i].name)):=by show atI (j8 (ns.map Cl.name)) ((0:Int)+(i:Int))=_;rw [ui];refine zg ?_;unfold j8;rw [yP,yP,yY h];rfl
def xM (way:Int)(a b:Cl):Prop:=a.hue=b.hue/\zO way b a=true
instance :Decidable (xM way a b):=by unfold xM;infer_instance
theorem DF (ok:d.Ok)(ha:a∈d.cls)(hb:b∈d.cls){i k:Nat}(h6:ε[i]?=some (.sh a.pv))(h7:ε[j]?=some (.sh b.pv))(h2:ε[k]?=some (.sh (.at (.int way)))):zQ (dT (x9 qK (x9 w9 (q9 i) (dC (.int 1))) (x9 w9 (q9 j) (dC (.int 1))))) (r9 (x8 wo (q0 (q8 j) (q0 (q8 i) (q0 (q8 k) x6))))) ε=some (decide (xM way a b)):=by
 have b6:q9 i ε=some a.pv:=by unfold q9;rw [h6]
 have b7:q9 j ε=some b.pv:=by unfold q9;rw [h7]
 have d6:q8 i ε=some a.pv:=by unfold q8;rw [h6]
 have d7:q8 j ε=some b.pv:=by unfold q8;rw [h7]
 have d2:q8 k ε=some (.at (.int way)):=by unfold q8;rw [h2]
 have eq:dT (x9 qK (x9 w9 (q9 i) (dC (.int 1))) (x9 w9 (q9 j) (dC (.int 1)))) ε=some (decide (a.hue=b.hue)):=by refine c9 (y3 (y3 b6 rfl rfl) (y3 b7 rfl rfl) ((Xk _ _).trans ?_));rw [show decide ((a.hue:Int)=(b.hue:Int))=decide (a.hue=b.hue) by rw [decide_eq_decide];omega]
 unfold xM;by_cases e:a.hue=b.hue
 ·rw [yH e] at eq;rw [Vo eq (xg (j5 (y7 d7 (y7 d6 (y7 d2 rfl))) (IE (ok.cl b hb) (ok.cl a ha))))];simp [e]
 ·rw [yK e] at eq;rw [Mr eq];simp [e]
def jW (way:Int)(ns:List Cl)(k j:Nat):Option PV:=if xM way (ns.getD j c0) (ns.getD k c0) then some (.at (.bl false)) else none
theorem KR {f:α->Option β}{y:β}(h:∀ x z,f x=some z->z=y){l:List α}{z:β}(e:l.findSome? f=some z):z=y:=by obtain ⟨x,_,hx⟩:=List.exists_of_findSome?_eq_some e;exact h x z hx
theorem ord_none :((List.range ns.length).findSome? λk=>(List.range k).findSome? (jW way ns k))=none↔ns.Pairwise λa b=>¬ xM way a b:=by
 rw [ut,um];constructor
 ·intro h i j hi hj hij z;have:=ut.mp (h j (yw.mpr hj)) i (yw.mpr hij);unfold jW at this;rw [g9 hi,g9 hj,if_pos z] at this;cases this
 ·intro h k hk;have hk:=yw.mp hk;refine ut.mpr λj hj=>?_;have hj:=yw.mp hj;unfold jW;rw [g9 hk,g9 (show j<ns.length by omega),if_neg (h j k (by omega) hk hj)]
theorem CY (ok:d.Ok)(L:Lst d ns)(way:Int):wv [d.pv,u5 ns,.at (.int way)]=some (.at (.bl (decide (ns.Pairwise λa b=>¬ xM way a b)))):=by
 have hlim:lim=1000000:=rfl;have l10:=L.len ok;have dc:=KD ok (ε:=[.sh d.pv,.sh (u5 ns),.sh (.at (.int way)),.no,.no,.no,.no,.no]) rfl;have it:xx (q0 (x8 o9 (q0 (q9 1) x6)) x6) [.sh d.pv,.sh (u5 ns),.sh (.at (.int way)),.sh (.fk (keysOf d.cls) (d.cls.map Cl.pv)),.no,.no,.no,.no]=some ((List.range ns.length).map λ(i:Nat)=>PV.at (.int ((0:Int)+i))):=jZ (y7 (j5 rfl (by show some (PV.at (.int ((j8 (ns.map Cl.name)).length:Int)))=_;rw [qW,yZ])) rfl) (by omega);have o:=VW (g:=v8 4) (f:=xE (xx (q0 (q8 4) x6)) (v8 5) (j7 (u8 6 (qf (q9 3) (x9 w9 (q9 1) (q9 5)))) (j7 (u8 7 (qf (q9 3) (x9 w9 (q9 1) (q9 4)))) (b9 (zQ (dT (x9 qK (x9 w9 (q9 6) (dC (.int 1))) (x9 w9 (q9 7) (dC (.int 1))))) (r9 (x8 wo (q0 (q8 7) (q0 (q8 6) (q0 (q8 2) x6)))))) (y8 (dC (.bl false))) c6))))
  (λ(i:Nat)=>PV.at (.int ((0:Int)+i))) (λε=>∃ s4 s5 s6 s7:MSlot,ε=[.sh d.pv,.sh (u5 ns),.sh (.at (.int way)),.sh (.fk (keysOf d.cls) (d.cls.map Cl.pv)),s4,s5,s6,s7]) (λk=>(List.range k).findSome? (jW way ns k)) (List.range ns.length) (by
   rintro k hk ε ⟨s4,s5,s6,s7,rfl⟩;have hk:=yw.mp hk;have mk:=L.sub _ (yA hk);have inn:=VW (g:=v8 5) (f:=j7 (u8 6 (qf (q9 3) (x9 w9 (q9 1) (q9 5)))) (j7 (u8 7 (qf (q9 3) (x9 w9 (q9 1) (q9 4)))) (b9 (zQ (dT (x9 qK (x9 w9 (q9 6) (dC (.int 1))) (x9 w9 (q9 7) (dC (.int 1))))) (r9 (x8 wo (q0 (q8 7) (q0 (q8 6) (q0 (q8 2) x6)))))) (y8 (dC (.bl false))) c6)))
    (λ(i:Nat)=>PV.at (.int ((0:Int)+i))) (λε=>∃ s5 s6 s7:MSlot,ε=[.sh d.pv,.sh (u5 ns),.sh (.at (.int way)),.sh (.fk (keysOf d.cls) (d.cls.map Cl.pv)),.sh (.at (.int ((0:Int)+k))),s5,s6,s7]) (jW way ns k) (List.range k) (by
     rintro j hj ε ⟨s5,s6,s7,rfl⟩;have hj:=yw.mp hj;have hjn:j<ns.length:=by omega
     have mj:=L.sub _ (yA hjn);have t:=DF ok mj mk (way:=way) (ε:=[.sh d.pv,.sh (u5 ns),.sh (.at (.int way)),.sh (.fk (keysOf d.cls) (d.cls.map Cl.pv)),.sh (.at (.int ((0:Int)+k))),.sh (.at (.int ((0:Int)+j))),.sh ns[j].pv,.sh ns[k].pv]) (i:=6) (j:=7) (k:=2) rfl rfl rfl;have g1:qf (q9 3) (x9 w9 (q9 1) (q9 5)) [.sh d.pv,.sh (u5 ns),.sh (.at (.int way)),.sh (.fk (keysOf d.cls) (d.cls.map Cl.pv)),.sh (.at (.int ((0:Int)+k))),.sh (.at (.int ((0:Int)+j))),s6,s7]=some ns[j].pv:=ZQ rfl (y3 rfl rfl (Bo hjn)) rfl (Xx Cl.pv ok.nd _ mj);have g2:qf (q9 3) (x9 w9 (q9 1) (q9 4)) [.sh d.pv,.sh (u5 ns),.sh (.at (.int way)),.sh (.fk (keysOf d.cls) (d.cls.map Cl.pv)),.sh (.at (.int ((0:Int)+k))),.sh (.at (.int ((0:Int)+j))),.sh ns[j].pv,s7]=some ns[k].pv:=ZQ rfl (y3 rfl rfl (Bo hk)) rfl (Xx Cl.pv ok.nd _ mk);refine ⟨_,rfl,?_⟩;unfold jW;rw [g9 hjn,g9 hk];by_cases hb:xM way ns[j] ns[k]
     ·rw [yH hb] at t;rw [if_pos hb];exact y0 (m3 g1) (y0 (m3 g2) (Qt t (p7 rfl)))
     ·rw [yK hb] at t;rw [if_neg hb];exact ⟨_,y0 (m3 g1) (y0 (m3 g2) (qg t qp)),_,_,_,rfl⟩) [.sh d.pv,.sh (u5 ns),.sh (.at (.int way)),.sh (.fk (keysOf d.cls) (d.cls.map Cl.pv)),.sh (.at (.int ((0:Int)+k))),s5,s6,s7] ⟨s5,s6,s7,rfl⟩
   refine ⟨_,rfl,?_⟩;have ff:=MZ (it:=xx (q0 (q8 4) x6)) (jZ (k:=k) (by rw [y7 (x:= .at (.int (k:Int))) (by show some (PV.at (.int ((0:Int)+k)))=_;rw [ui]) rfl]) (by omega)) inn;cases e:(List.range k).findSome? (jW way ns k) with
   |some y=>rw [e] at ff;exact ff
   |none =>
    rw [e] at ff;obtain ⟨ε',e1,s5',s6',s7',rfl⟩:=ff;exact ⟨_,e1,_,_,_,_,rfl⟩) _ ⟨.no,.no,.no,.no,rfl⟩
 by_cases q:ns.Pairwise λa b=>¬ xM way a b
 ·rw [ord_none.mpr q] at o;obtain ⟨ε',e,_⟩:=o;rw [yH q];exact i7 rfl (y0 (m3 dc) (y0 (xP it e) (p7 rfl)))
 ·rw [yK q];cases e:((List.range ns.length).findSome? λk=>(List.range k).findSome? (jW way ns k)) with
  |none=>exact absurd (ord_none.mp e) q
  |some y=>rw [e] at o;have:y = .at (.bl false):=KR (λk z hz=>KR (λj w hw=>by unfold jW at hw;split at hw;exact (Option.some.inj hw).symm;cases hw) hz) e;subst this;exact i7 rfl (y0 (m3 dc) (Xn (xP it o)))
theorem Lst.perm (L:Lst d ns)(p:os.Perm ns):Lst d os:=⟨λc h=>L.sub c (p.mem_iff.mp h),(p.map Cl.name).nodup_iff.mpr L.nd⟩
section
variable {C:Addr}{d:Dr}
theorem SX (ok:d.Ok)(g:Nat):(d.steepN g).length<=10:=by unfold Dr.steepN;rw [yZ];have:=(JI (d:=d) g).length_eq;have:=VI ok (h:=g);omega
theorem in_of (ok:d.Ok)(L:Lst d ns)(hr:∀ g,(rows g).length<=10):vC [.lst (((List.range d.h).map rows).map k7),u5 ns]=some (jv (((List.range d.h).map rows).findSome? λR=>qG R (qj R (ns.map Cl.name)))):=by have l10:=L.len ok;refine Fu (by rw [yZ];omega) _ λR hR=>?_;obtain ⟨g,_,rfl⟩:=yy.mp hR;have:=hr g;omega
theorem NN {key:Nat->Cl->Int×Str}(ok:d.Ok)(L:Lst d ns)(hrow:∀ g,rows g=(xJ c0 ((d.inH g).map (key g)) (d.inH g)).map Cl.name)(hk:∀ g c,(key g c).2=c.name):(((List.range d.h).map rows).findSome? λR=>qG R (qj R (ns.map Cl.name)))=none↔ns.Pairwise λa b=>a.hue=b.hue->g0 (key a.hue b) (key a.hue a)=false:=by
 rw [MY];constructor
 ·intro h;have q:∀ g,g<d.h->ns.Pairwise λa b=>a.hue=g->b.hue=g->g0 (key g b) (key g a)=false:=λg hg=>by
   have:=h (rows g) (yy.mpr ⟨g,yw.mpr hg,rfl⟩);rw [hrow] at this;exact (PY ok L (hk g)).mp this
  refine (pw_all.mp q).imp_of_mem λ{a b} ha hb z e=>?_;exact z a.hue (ok.cl a (L.sub a ha)).hu rfl e.symm
 ·intro h R hR;obtain ⟨g,hg,rfl⟩:=yy.mp hR;rw [hrow];refine (PY ok L (hk g)).mpr (h.imp λ{a b} z e1 e2=>?_);have:=z (e1.trans e2.symm);rw [e1] at this;exact this
theorem Uc (ok:d.Ok)(ha:a∈d.inH a.hue)(hb:b∈d.inH a.hue):g0 (xq (k5 (d.inH a.hue)) b) (xq (k5 (d.inH a.hue)) a)=zO 1 b a:=by
 have w:∀ c∈d.inH a.hue,1<=c.wt:=λc hc=>(ok.cl c (vo hc)).w1;have one:∀{x y:Cl},x∈d.inH a.hue->y∈d.inH a.hue->g0 (xq (k5 (d.inH a.hue)) x) (xq (k5 (d.inH a.hue)) y)=true->zO 1 x y=true:=by intro x y hx hy h;have q:=Dw (JB w) (w x hx) (w y hy) (Wz hx) (Wz hy) h;exact ltK_iff.mpr q
 cases e:g0 (xq (k5 (d.inH a.hue)) b) (xq (k5 (d.inH a.hue)) a) with
 |true=>rw [one hb ha e]
 |false =>
  cases e2:zO 1 b a with
  |false=>rfl
  |true =>
   exfalso;have h2:g0 (b.len*a.wt,b.name) (a.len*b.wt,a.name)=true:=e2;cases e3:g0 (xq (k5 (d.inH a.hue)) a) (xq (k5 (d.inH a.hue)) b) with
   |true =>
    have h3:g0 (a.len*b.wt,a.name) (b.len*a.wt,b.name)=true:=one ha hb e3;rcases ltK_iff.mp h2 with z|⟨z1,z2⟩<;>rcases ltK_iff.mp h3 with y|⟨y1,y2⟩
    ·simp only at z y;omega
    ·simp only at z y1;omega
    ·simp only at z1 y;omega
    ·exact List.lt_asymm z2 y2
   |false =>
    have nm:b.name=a.name:=congrArg Prod.snd (Wa e e3);have eq:a=b:=by have nd:=ok.nd;obtain ⟨i,hi,ei⟩:=uZ.mp (vo ha);obtain ⟨j,hj,ej⟩:=uZ.mp (vo hb);have:=(tW (xs:=d.cls.map Cl.name) (h₀:=by rw [yZ];exact hi) (h₁:=by rw [yZ];exact hj) nd).mp (by rw [yb,yb,ei,ej,nm]);subst this;rw [<- ei,<- ej]
    subst eq;have:=(Qz λ_=>(a.len*a.wt,a.name)).irr 0;rw [h2] at this;cases this
def zZ (d:Dr)(ns:List Cl):Option (Nat×Nat):=((List.range d.h).map d.steepN).findSome? λR=>qG R (qj R (ns.map Cl.name))
theorem Wo (ok:d.Ok)(L:Lst d ns):zZ d ns=none↔ns.Pairwise λa b=>¬ xM 1 a b:=by
 have iff:=NN (rows:=d.steepN) (key:=λg=>xq (k5 (d.inH g))) ok L (λ_=>rfl) (λ_ _=>rfl);have pe:(ns.Pairwise λa b=>a.hue=b.hue->g0 (xq (k5 (d.inH a.hue)) b) (xq (k5 (d.inH a.hue)) a)=false)↔ns.Pairwise λa b=>¬ xM 1 a b:=by
  have hq:∀ a b:Cl,a∈ns->b∈ns->((a.hue=b.hue->g0 (xq (k5 (d.inH a.hue)) b) (xq (k5 (d.inH a.hue)) a)=false)↔¬ xM 1 a b):=λa b ha hb=>by
   unfold xM;constructor
   ·rintro h ⟨e,z⟩;rw [<- Uc ok (yk.mpr ⟨L.sub a ha,yH rfl⟩) (yk.mpr ⟨L.sub b hb,yH e.symm⟩),h e] at z;cases z
   ·intro h e;rw [Uc ok (yk.mpr ⟨L.sub a ha,yH rfl⟩) (yk.mpr ⟨L.sub b hb,yH e.symm⟩)];cases z:zO 1 b a with
    |false=>rfl
    |true=>exact absurd ⟨e,z⟩ h
  exact ⟨λh=>h.imp_of_mem λ{a b} ha hb z=>(hq a b ha hb).mp z,λh=>h.imp_of_mem λ{a b} ha hb z=>(hq a b ha hb).mpr z⟩
 exact iff.trans pe
theorem CZ (ok:d.Ok)(L:Lst d ns):vC [.lst (((List.range d.h).map d.steepN).map k7),u5 ns]=some (jv (zZ d ns)):=in_of ok L (SX ok)
end
theorem Vn (xs:List PV)(a:Nat):zP xs none (some (a:Int))=xs.take a:=by
 unfold zP;rw [HT.sIx_nat,HT.sIx_none,List.drop_zero,Nat.sub_zero];by_cases h:a<=xs.length
 ·rw [Nat.min_eq_left h]
 ·rw [Nat.min_eq_right (by omega),tU,uu (by omega)]
theorem Ku (xs:List PV)(a:Nat):zP xs (some (a:Int)) none=xs.drop a:=by
 unfold zP;rw [HT.sIx_nat,HT.sIx_none];by_cases h:a<=xs.length
 ·rw [Nat.min_eq_left h,uu (by rw [uU];omega)]
 ·rw [Nat.min_eq_right (by omega),tT,List.take_nil,List.drop_of_length_le (by omega)]
theorem DB {a:Nat}{x:PV}(h:xs[a]?=some x):atI xs (a:Int)=some x:=zg h
def mvL (xs:List PV)(a t:Nat):List PV:=match xs[a]? with
 |some x=>(xs.eraseIdx a).take t++x::(xs.eraseIdx a).drop t
 |none=>xs
theorem XQ {a:Nat}{x:PV}(h:xs[a]?=some x):mvL xs a t=(xs.eraseIdx a).take t++x::(xs.eraseIdx a).drop t:=by unfold mvL;rw [h]
theorem NK {a:Nat}(h:a<xs.length):(mvL xs a t).length=xs.length:=by rw [XQ (yY h),yM,yE,uX,uU,List.length_eraseIdx_of_lt h];omega
theorem ML {a:Nat}:xs.eraseIdx a=xs.take a++xs.drop (a+1):=List.eraseIdx_eq_take_drop_succ xs a
def qq (m:Nat×Nat):PV:= .tup [.at (.int m.1),.at (.int m.2)]
theorem Wh (h1:m.1<xs.length)(hl:xs.length<=12):xW [.lst xs,qq m]=some (.lst (mvL xs m.1 m.2)):=by
 have hlim:lim=1000000:=rfl;have hx:=yY h1;obtain ⟨a,t⟩:=m;simp only at h1 hx ⊢;rw [XQ hx,ML];have ol:(xs.take a++xs.drop (a+1)).length<=12:=by rw [yM,uX,uU];omega
 generalize ho:xs.take a++xs.drop (a+1)=o at ol;refine i7 rfl (y0 (m3 (x:= .at (.int a)) rfl) (y0 (m3 (x:= .at (.int t)) rfl) (y0 (m3 (x:= .lst o) (y3 (Xq rfl rfl rfl) (Xq (hi:=none) rfl (lo:=some (a+1)) rfl rfl) ?_)) (p7 (y3 (y3 (Xq (xs:=o) rfl rfl rfl) (vn (y7 (y3 rfl rfl (DB hx)) rfl) (by simp;omega)) (Jv ?_)) (Xq (xs:=o) rfl rfl rfl) ?_)))))
 ·rw [Vn,show ((a:Int)+1)=((a+1:Nat):Int) by omega,Ku,Jv (by rw [uX,uU];omega),ho]
 ·rw [Vn,uX];simp;omega
 ·rw [Vn,Ku,Jv (by rw [yM,uX,uU];simp;omega)];simp
theorem Nm {a:Nat}(h1:a<xs.length)(h2:t<xs.length)(hl:xs.length<=12):XF [.lst xs,.at (.int a),.at (.int t)]=some (.lst (mvL xs a t)):=by
 have hlim:lim=1000000:=rfl;have hx:=yY h1;have he:(xs.eraseIdx a).length=xs.length-1:=List.length_eraseIdx_of_lt h1;rw [XQ hx];refine xO rfl (y0 (Xp (x:= .lst xs) rfl) (y0 (ε1:=[.sh (.lst xs),.sh (.at (.int a)),.sh (.at (.int t)),.ow (.lst (xs.eraseIdx a)),.sh xs[a]]) ?_ (y0 (ε1:=[.sh (.lst xs),.sh (.at (.int a)),.sh (.at (.int t)),.ow (.lst ((xs.eraseIdx a).take t++xs[a]::(xs.eraseIdx a).drop t)),.sh xs[a]]) ?_ rfl)))
 ·show (if 0<=(a:Int)/\(a:Int)<xs.length/\xs.length<=lim then (xs[(a:Int).toNat]?).bind _ else none)=_;rw [if_pos ⟨by omega,by omega,by omega⟩,ub,hx];rfl
 ·show (if 0<=(t:Int)/\(t:Int)<=(xs.eraseIdx a).length/\(xs.eraseIdx a).length<1000 then _ else none)=_;rw [if_pos ⟨by omega,by omega,by omega⟩,ub];rfl
theorem LK (h1:m.1<n)(h2:m.2<n):jS [qq m,.at (.int n)]=some (.at (.bl true)):=by
 have e:∀ k:Nat,k<n->∀ s:MSlot,xY pLe pLt (dC (.int 0)) (q9 0) (q9 1) [.sh (.at (.int k)),.sh (.at (.int n))]=some (.at (.bl true)):=λk hk _=>by
  show Option.bind (some (decide ((0:Int)<=(k:Int)))) (λc=>if c=true then some (PV.at (.bl (decide ((k:Int)<(n:Int))))) else some (.at (.bl false)))=_;rw [yH (show (0:Int)<=(k:Int) by omega),yH (show (k:Int)<(n:Int) by omega)];rfl
 refine i7 rfl (p7 (j5 (y7 (Vx (xs:=[.at (.int m.1),.at (.int m.2)]) (ys:=[.at (.bl true),.at (.bl true)]) rfl rfl l2 ?_) rfl) rfl));show Option.bind (xY pLe pLt (dC (.int 0)) (q9 0) (q9 1) [.sh (.at (.int m.1)),.sh (.at (.int n))]) (λy=>Option.bind (Option.bind (xY pLe pLt (dC (.int 0)) (q9 0) (q9 1) [.sh (.at (.int m.2)),.sh (.at (.int n))]) λy=>Option.bind (some []) λys=>some (y::ys)) λys=>some (y::ys))=_;rw [e _ h1 .no,e _ h2 .no];rfl
def JP (xs:List PV)(ms:List (Nat×Nat)):List PV:=ms.foldl (λl m=>mvL l m.1 m.2) xs
def qC (ms:List (Nat×Nat)):List PV:=ms.map qq
theorem Dk {xs0 mv:PV}:∀{ms:List (Nat×Nat)}{xs:List PV}{k:Nat}{u v:MSlot},(∀ m∈ms,m.1<xs.length/\m.2<xs.length)->xs.length<=12 -> ∃ u' v',o7 (qI 2 (c7 (v8 3) (c7 (v8 4) qH))) (j7 (b9 (i6 (r9 (x8 jS (q0 (q8 4) (q0 (x8 o9 (q0 (q9 2) x6)) x6))))) xG c6) (u8 2 (x8 xW (q0 (q8 2) (q0 (q8 4) x6))))) (xH k (qC ms)) [.sh xs0,.sh mv,.sh (.lst xs),u,v]=some (.nx [.sh xs0,.sh mv,.sh (.lst (JP xs ms)),u',v'])
 |[],xs,k,u,v,_,_=>⟨u,v,rfl⟩
 |m::ms,xs,k,u,v,h,hl=>by
  have hm:=h m yT;have el:=NK (t:=m.2) hm.1;obtain ⟨u',v',e⟩:=Dk (xs0:=xs0) (mv:=mv) (ms:=ms) (xs:=mvL xs m.1 m.2) (k:=k+1) (u:= .sh (.at (.int k))) (v:= .sh (qq m)) (λq hq=>by rw [el];exact h q (yV _ hq)) (by rw [el];exact hl);refine ⟨u',v',?_⟩;have b1:(j7 (b9 (i6 (r9 (x8 jS (q0 (q8 4) (q0 (x8 o9 (q0 (q9 2) x6)) x6))))) xG c6) (u8 2 (x8 xW (q0 (q8 2) (q0 (q8 4) x6))))) [.sh xs0,.sh mv,.sh (.lst xs),.sh (.at (.int k)),.sh (qq m)]=some (.nx [.sh xs0,.sh mv,.sh (.lst (mvL xs m.1 m.2)),.sh (.at (.int k)),.sh (qq m)]):=by
   refine y0 (ε1:=[.sh xs0,.sh mv,.sh (.lst xs),.sh (.at (.int k)),.sh (qq m)]) (qg ?_ rfl) ?_
   ·have e1:x8 jS (q0 (q8 4) (q0 (x8 o9 (q0 (q9 2) x6)) x6)) [.sh xs0,.sh mv,.sh (.lst xs),.sh (.at (.int k)),.sh (qq m)]=some (.at (.bl true)):=j5 (y7 rfl (y7 rfl rfl)) (LK hm.1 hm.2);show Option.bind (Option.bind (x8 jS (q0 (q8 4) (q0 (x8 o9 (q0 (q9 2) x6)) x6)) [.sh xs0,.sh mv,.sh (.lst xs),.sh (.at (.int k)),.sh (qq m)]) pTru) _=_;rw [e1];rfl
   ·exact m3 (j5 (y7 rfl (y7 rfl rfl)) (Wh hm.1 hl))
  show Option.bind ((j7 (b9 (i6 (r9 (x8 jS (q0 (q8 4) (q0 (x8 o9 (q0 (q9 2) x6)) x6))))) xG c6) (u8 2 (x8 xW (q0 (q8 2) (q0 (q8 4) x6))))) [.sh xs0,.sh mv,.sh (.lst xs),.sh (.at (.int k)),.sh (qq m)]) _=_;rw [b1];exact e
theorem Fy (h:∀ m∈ms,m.1<xs.length/\m.2<xs.length)(hl:xs.length<=12):Jn [.lst xs,.lst (qC ms)]=some (.lst (JP xs ms)):=by obtain ⟨u,v,e⟩:=Dk (xs0:= .lst xs) (mv:= .lst (qC ms)) (k:=0) (u:= .no) (v:= .no) h hl;exact i7 rfl (y0 (m3 (x:= .lst xs) rfl) (y0 (xP (xs:=xH 0 (qC ms)) rfl e) rfl))
structure Turn (ns os:List Cl)(p:Nat×Nat)(A:List Cl)(x:Cl)(M:List Cl)(y:Cl)(B:List Cl):Prop where
 old:ns=A++x::(M++y::B)
 new:os=A++(M++y::x::B)
 at1:p.1=A.length
 at2:p.2=A.length+1+M.length
 hue:x.hue=y.hue
 amid:∀ m∈M,m.hue≠x.hue
 bad:zO 1 y x=true
theorem UB {R:List Str}{p:Nat×Nat}:∀{l:List (Str×Nat)},qG R l=some p->∃ l1 x y l2,l=l1++x::y::l2/\R.idxOf y.1<R.idxOf x.1/\p=(x.2,y.2)
 |[],h=>by cases h
 |[_],h=>by cases h
 |x::y::l,h=>by
  unfold qG at h;split at h
  ·rename_i hn;exact ⟨[],x,y,l,rfl,hn,(Option.some.inj h).symm⟩
  ·obtain ⟨l1,u,v,l2,e,h1,h2⟩:=UB h;exact ⟨x::l1,u,v,l2,by rw [e];rfl,h1,h2⟩
theorem Du {Z1 Z2:List (Str×Nat)}{x:Str×Nat}(h:N.zipIdx=Z1++x::Z2):x.2=Z1.length:=by
 have:N.zipIdx[Z1.length]?=some x:=by rw [h,ym (yW _),Nat.sub_self];rfl
 rw [List.getElem?_zipIdx] at this;obtain ⟨s,_,e⟩:=yN.mp this;rw [<- e];simp
theorem FB (N:List Str):N.zipIdx.map (·.1)=N:=by
 have:∀(N:List Str)(n:Nat),(N.zipIdx n).map (·.1)=N:=by
  intro N
  induction N with
  |nil=>intro n;rfl
  |cons s N ih=>intro n;rw [List.zipIdx_cons,yO,ih]
 exact this N 0
section
variable {d:Dr}
theorem Ml (ok:d.Ok)(ha:a∈d.cls)(hb:b∈d.cls)(nm:a.name=b.name):a=b:=by have nd:=ok.nd;obtain ⟨i,hi,ei⟩:=uZ.mp ha;obtain ⟨j,hj,ej⟩:=uZ.mp hb;have:=(tW (xs:=d.cls.map Cl.name) (h₀:=by rw [yZ];exact hi) (h₁:=by rw [yZ];exact hj) nd).mp (by rw [yb,yb,ei,ej,nm]);subst this;rw [<- ei,<- ej]
theorem VJ (ok:d.Ok)(hc:c∈d.cls){g:Nat}:c.name∈d.steepN g↔c.hue=g:=by
 unfold Dr.steepN;constructor
 ·intro h;obtain ⟨e,he,en⟩:=yy.mp h;have he:=(JI (d:=d) g).mem_iff.mp he;rw [<- Ml ok (vo he) hc en];exact uV (yk.mp he).2
 ·intro h;exact yy.mpr ⟨c,(JI (d:=d) g).mem_iff.mpr (yk.mpr ⟨hc,yH h⟩),rfl⟩
theorem Ik (ok:d.Ok)(L:Lst d ns)(h:zZ d ns=some p):∃ os A x M y B,Turn ns os p A x M y B:=by
 unfold zZ at h;obtain ⟨R,hR,e⟩:=List.exists_of_findSome?_eq_some h;obtain ⟨g,hg,rfl⟩:=yy.mp hR;obtain ⟨l1,x,y,l2,e1,e2,rfl⟩:=UB e;unfold qj at e1;obtain ⟨Z1,Z2,z1,z2,z3⟩:=List.filter_eq_append_iff.mp e1;obtain ⟨Z3,Z4,z4,z5,z6,z7⟩:=List.filter_eq_cons_iff.mp z3;obtain ⟨Z5,Z6,z8,z9,z10,z11⟩:=List.filter_eq_cons_iff.mp z7;have ex:(ns.map Cl.name).zipIdx=(Z1++Z3)++x::(Z5++y::Z6):=by rw [z1,z4,z8,uS]
 have ey:(ns.map Cl.name).zipIdx=(Z1++Z3++x::Z5)++y::Z6:=by rw [ex];simp
 have px:=Du ex;have py:=Du ey;have en:=FB (ns.map Cl.name);have en:(Z1++Z3).map (·.1)++x.1::(Z5.map (·.1)++y.1::Z6.map (·.1))=ns.map Cl.name:=by rw [<- en,ex];simp
 obtain ⟨A,T,t1,t2,t3⟩:=List.map_eq_append_iff.mp en.symm;obtain ⟨cx,T2,t4,t5,t6⟩:=List.map_eq_cons_iff.mp t3;obtain ⟨M,T3,t7,t8,t9⟩:=List.map_eq_append_iff.mp t6;obtain ⟨cy,B,t10,t11,t12⟩:=List.map_eq_cons_iff.mp t9;subst t10 t7 t4 t1;have la:A.length=(Z1++Z3).length:=by have:=congrArg List.length t2;rwa [yZ,yZ] at this
 have lm:M.length=Z5.length:=by have:=congrArg List.length t8;rwa [yZ,yZ] at this
 have mx:cx∈d.cls:=L.sub cx (by simp);have my:cy∈d.cls:=L.sub cy (by simp);have hx:cx.hue=g:=(VJ ok mx).mp (by rw [t5];exact uV z6);have hy:cy.hue=g:=(VJ ok my).mp (by rw [t11];exact uV z10);refine ⟨A++(M++cy::cx::B),A,cx,M,cy,B,rfl,rfl,?_,?_,hx.trans hy.symm,λm hm e=>?_,?_⟩
 ·rw [la];exact px
 ·show y.2=_;rw [py,la,lm];simp;omega
 ·have mm:m∈d.cls:=L.sub m (by simp [hm]);have:m.name∈d.steepN g:=(VJ ok mm).mpr (e.trans hx);have hm2:m.name∈Z5.map (·.1):=by rw [<- t8];exact yy.mpr ⟨m,hm,rfl⟩
  obtain ⟨z,hz,ez⟩:=yy.mp hm2;exact z9 z hz (yH (by rw [ez];exact this))
 ·have xin:cx∈d.inH g:=yk.mpr ⟨mx,yH hx⟩;have yin:cy∈d.inH g:=yk.mpr ⟨my,yH hy⟩;have:=(WK (key:=xq (k5 (d.inH g))) (λ_=>rfl) (ZV ok (h:=g)) xin yin).mp;rw [<- t5,<- t11] at e2;have z:=this e2;subst hx;rw [Uc ok xin yin] at z;exact z
def p6 (c e:Cl):Bool:=decide (c.hue=e.hue)&&zO 1 e c
def n6:List Cl->Nat
 |[]=>0
 |c::cs=>cs.countP (p6 c)+n6 cs
theorem BH {a b:Int×Str}(h:g0 a b=true):g0 b a=false:=by
 cases e:g0 b a with
 |false=>rfl
 |true =>
  rcases ltK_iff.mp h with z|⟨z1,z2⟩<;>rcases ltK_iff.mp e with y|⟨y1,y2⟩
  ·omega
  ·omega
  ·omega
  ·exact absurd y2 (List.lt_asymm z2)
theorem Bi {x y:Cl}{B:List Cl}(hy:p6 y x=false):∀{M:List Cl},(∀ m∈M,m.hue≠x.hue)->n6 (M++y::x::B)=n6 (M++y::B)+B.countP (p6 x)
 |[],_=>by
  show (x::B).countP (p6 y)+((B.countP (p6 x))+n6 B)=B.countP (p6 y)+n6 B+B.countP (p6 x);rw [uf (by rw [hy];exact yS)];omega
 |m::M,h=>by
  have ih:=Bi (B:=B) hy (M:=M) λz hz=>h z (yV _ hz);show (M++y::x::B).countP (p6 m)+n6 (M++y::x::B)=(M++y::B).countP (p6 m)+n6 (M++y::B)+_;have mx:p6 m x=false:=by unfold p6;rw [yK (h m yT)];rfl
  have e1:(x::B).countP (p6 m)=B.countP (p6 m):=uf (by rw [mx];exact yS);have e2:(y::x::B).countP (p6 m)=(y::B).countP (p6 m):=by rw [List.countP_cons (a:=y),e1,List.countP_cons (a:=y)]
  rw [ih,uJ,uJ,e2];omega
theorem Turn.perm {M:List Cl}(T:Turn ns os p A x M y B):os.Perm ns:=by
 rw [T.old,T.new];refine tX A ?_;have e1:(M++y::x::B).Perm (x::(M++y::B)):=by
  have:M++y::x::B=(M++[y])++x::B:=by simp
  rw [this];refine List.perm_middle.trans ?_;simp
 exact e1
theorem Turn.less {M:List Cl}(T:Turn ns os p A x M y B):n6 os<n6 ns:=by
 have pm:(M++y::x::B).Perm (x::(M++y::B)):=by
  have:M++y::x::B=(M++[y])++x::B:=by simp
  rw [this];refine List.perm_middle.trans ?_;simp
 have base:n6 (M++y::x::B)<n6 (x::(M++y::B)):=by
  have hyx:p6 y x=false:=by unfold p6;rw [show zO 1 x y=false from BH T.bad,Bool.and_false]
  have hxy:p6 x y=true:=by unfold p6;rw [T.bad,yH T.hue];rfl
  rw [Bi hyx T.amid];show _<(M++y::B).countP (p6 x)+n6 (M++y::B);rw [uJ,List.countP_cons_of_pos hxy];omega
 rw [T.old,T.new];have:∀ A:List Cl,n6 (A++(M++y::x::B))<n6 (A++x::(M++y::B)):=by
  intro A
  induction A with
  |nil=>exact base
  |cons c A ih=>show (A++(M++y::x::B)).countP (p6 c)+n6 (A++(M++y::x::B))<(A++x::(M++y::B)).countP (p6 c)+n6 (A++x::(M++y::B));have:=(tX A pm).countP_eq (p6 c);omega
 exact this A
theorem LG:∀{ns:List Cl},ns.length<=10->n6 ns<=90:=by
 intro ns h;have:∀ ns:List Cl,ns.length<=10->n6 ns<=9*ns.length:=by
  intro ns
  induction ns with
  |nil=>intro _;exact ya _
  |cons c cs ih=>intro h;have:=ih (by simp at h;omega);have q:cs.countP (p6 c)<=cs.length:=List.countP_le_length;show cs.countP (p6 c)+n6 cs<=9*(cs.length+1);simp at h;omega
 have:=this ns h;omega
theorem Turn.lt {M:List Cl}(T:Turn ns os p A x M y B):p.1<ns.length/\p.2<ns.length:=by rw [T.at1,T.at2,T.old];simp;omega
end
section
variable {d:Dr}
theorem NA (G:h8 h rss){f:Int}{g:Nat}(f0:-1<=f)(f1:f<(h:Int))(hg:g<h):0<=rin rss f (g:Int):=by
 have main:∀ n:Nat,n<=h->0<=rin rss (n:Int) (g:Int):=by
  intro n hn;have hl:n<rss.length:=by have:=G.len;omega
  have hgl:g<rss[n].length:=by rw [(G.row _ (yA hl)).1];exact hg
  rw [je G hn hg,g9 hl,g9 hgl];exact ((G.row _ (yA hl)).2 _ (yA hgl)).1
 by_cases hf:f=-1
 ·subst hf;rw [Ze G.len];exact main h (yW _)
 ·obtain ⟨n,rfl⟩:=yr (show 0<=f by omega);exact main n (by omega)
theorem Zf (ok:d.Ok){f:Int}{g:Nat}(f0:-1<=f)(f1:f<(d.h:Int))(hg:g<d.h):0<=d.rz f g:=by
 unfold Dr.rz;split
 ·exact uT _
 ·exact NA (zW ok.rin) f0 f1 hg
theorem TC (G:h8 h rss){f:Int}{k g:Nat}(f0:-1<=f)(f1:f<(h:Int))(hk:k<h)(hg:g<h):rin (qu rss h) f (g:Int)<=rin (qu rss h) f (k:Int)+rin (qu rss h) (k:Int) (g:Int):=by
 have main:∀ n:Nat,n<=h->rin (qu rss h) (n:Int) (g:Int)<=rin (qu rss h) (n:Int) (k:Int)+rin (qu rss h) (k:Int) (g:Int):=λn hn=>by
  rw [VZ G hn hg,VZ G hn hk,VZ G (by omega) hg];exact (FW.all G h (yW _)).tri k n g hk hn hg
 by_cases hf:f=-1
 ·rw [hf,Ze (zW G).len,Ze (zW G).len];exact main h (yW _)
 ·obtain ⟨n,rfl⟩:=yr (show 0<=f by omega);exact main n (by omega)
theorem Cc (ok:d.Ok){f:Int}{k g:Nat}(f0:-1<=f)(f1:f<(d.h:Int))(hk:k<d.h)(hg:g<d.h):d.rz f g<=d.rz f k+d.rz (k:Int) g:=by
 have z1:=Zf ok f0 f1 hk;have z2:=Zf ok (f:=(k:Int)) (by omega) (by omega) hg;by_cases h1:f=(g:Int)
 ·unfold Dr.rz at z1 z2 ⊢;rw [if_pos h1];omega
 by_cases h2:f=(k:Int)
 ·rw [<- h2];have e:d.rz f k=0:=by unfold Dr.rz;rw [if_pos h2]
  omega
 by_cases h3:(k:Int)=(g:Int)
 ·have e:k=g:=by omega
  subst e;omega
 have t:=TC ok.rin f0 f1 hk hg;unfold Dr.rz;rw [if_neg h1,if_neg h2,if_neg h3];exact t
def Dr.sch (d:Dr):Int->Int->List Cl->List (Cl×Int)
 |_,_,[]=>[]
 |l,t,c::cs=>(c,t+d.rz l c.hue+c.len)::d.sch c.hue (t+d.rz l c.hue+c.len) cs
def Dr.endT (d:Dr):Int->Int->List Cl->Int
 |_,t,[]=>t
 |l,t,c::cs=>d.endT c.hue (t+d.rz l c.hue+c.len) cs
def zV:Int->List Cl->Int
 |l,[]=>l
 |_,c::cs=>zV c.hue cs
theorem vc:∀{P Q:List Cl}{l t:Int},d.sch l t (P++Q)=d.sch l t P++d.sch (zV l P) (d.endT l t P) Q
 |[],_,_,_=>rfl
 |c::P,Q,l,t=>by
  show _::d.sch _ _ (P++Q)=_::(d.sch _ _ P++_);rw [vc (P:=P)];rfl
theorem Vr:∀{P Q:List Cl}{l t:Int},d.endT l t (P++Q)=d.endT (zV l P) (d.endT l t P) Q
 |[],_,_,_=>rfl
 |c::P,Q,l,t=>by
  show d.endT _ _ (P++Q)=_;rw [Vr (P:=P)];rfl
theorem VR:∀{P:List Cl}{c:Cl}{l:Int},zV l (P++[c])=c.hue
 |[],_,_=>rfl
 |_::P,_,_=>VR (P:=P)
theorem VQ (ok:d.Ok):∀{P:List Cl}{l:Int},(∀ c∈P,c∈d.cls)->-1<=l->l<(d.h:Int)->-1<=zV l P/\zV l P<(d.h:Int)
 |[],_,_,h1,h2=>⟨h1,h2⟩
 |c::P,l,h,_,_=>by
  have hk:=(ok.cl c (h c yT)).hu;exact VQ ok (P:=P) (λx hx=>h x (yV _ hx)) (by omega) (by omega)
structure Dom (d:Dr)(k l' t' l t:Int):Prop where
 all:∀ g:Nat,g<d.h->t'+k+d.rz l' g<=t+d.rz l g
 one:t'+k<=t
def k8 (rs:List (Cl×Int)):Int:=(rs.map λr=>r.1.wt*r.2).sum
def wts (P:List Cl):Int:=(P.map Cl.wt).sum
theorem vj (a b:List (Cl×Int)):k8 (a++b)=k8 a+k8 b:=by unfold k8;rw [yv,List.sum_append]
theorem ZH (r:Cl×Int)(b:List (Cl×Int)):k8 (r::b)=r.1.wt*r.2+k8 b:=rfl
theorem FA (a b:List Cl):wts (a++b)=wts a+wts b:=by unfold wts;rw [yv,List.sum_append]
theorem Xi (ok:d.Ok):∀{P:List Cl},(∀ c∈P,c∈d.cls)->∀{k l' t' l t:Int},Dom d k l' t' l t -> k8 (d.sch l' t' P)+k*wts P<=k8 (d.sch l t P)/\d.endT l' t' P+k<=d.endT l t P
 |[],_,k,_,_,_,_,D=>⟨by show (0:Int)+k*0<=0;omega,D.one⟩
 |c::P,hc,k,l',t',l,t,D=>by
  have hk:=ok.cl c (hc c yT);have a:=D.all c.hue hk.hu;obtain ⟨q1,q2⟩:=Xi ok (P:=P) (λx hx=>hc x (yV _ hx)) (k:=k) (l':=(c.hue:Int)) (t':=t'+d.rz l' c.hue+c.len) (l:=(c.hue:Int)) (t:=t+d.rz l c.hue+c.len) ⟨λg _=>by omega,by omega⟩;refine ⟨?_,q2⟩;have w:c.wt*(t'+d.rz l' c.hue+c.len+k)<=c.wt*(t+d.rz l c.hue+c.len):=uz (by omega) (by have:=hk.w1;omega);rw [Int.mul_add] at w;show c.wt*(t'+d.rz l' c.hue+c.len)+k8 (d.sch c.hue (t'+d.rz l' c.hue+c.len) P)+k*(c.wt+wts P)<=c.wt*(t+d.rz l c.hue+c.len)+k8 (d.sch c.hue (t+d.rz l c.hue+c.len) P);rw [show k*(c.wt+wts P)=c.wt*k+k*wts P by rw [Int.mul_add,Int.mul_comm k c.wt]];omega
theorem KF (ok:d.Ok):∀{P:List Cl},(∀ c∈P,c∈d.cls)->∀{l t:Int},-1<=l->l<(d.h:Int)->t<=d.endT l t P
 |[],_,_,_,_,_=>uT _
 |c::P,hc,l,t,l1,l2=>by
  have hk:=ok.cl c (hc c yT);have z:=Zf ok l1 l2 hk.hu;have n1:=hk.l1;have:=KF ok (P:=P) (λx hx=>hc x (yV _ hx)) (l:=(c.hue:Int)) (t:=t+d.rz l c.hue+c.len) (by omega) (by have:=hk.hu;omega);show t<=d.endT c.hue (t+d.rz l c.hue+c.len) P;omega
theorem Rn {px py wx wy WM G D1 D2:Int}(hp:0<px)(hq:0<py)(hG:0<=G)(st:py*wx<=px*wy)(h1:D1<=wx*G-px*(WM+wy))(h2:D2<=wy*(py-px-G)+wx*py+py*WM)(hD:0<D1):D2<=0:=by
 have e1:0<py*(wx*G-px*(WM+wy)):=Int.mul_pos hq (by omega);have e2:(px+G)*(py*wx)<=(px+G)*(px*wy):=uz st (by omega);have e3:px*(wy*(py-px-G)+wx*py+py*WM)+py*(wx*G-px*(WM+wy))=(px+G)*(py*wx)-(px+G)*(px*wy):=by grind
 have e4:px*(wy*(py-px-G)+wx*py+py*WM)<0:=by omega
 rcases Int.lt_or_le 0 D2 with z|z
 ·have:=Int.mul_pos hp (show 0<wy*(py-px-G)+wx*py+py*WM by omega);omega
 ·exact z
theorem Turn.cost (ok:d.Ok){M:List Cl}(T:Turn ns os p A x M y B)(hs:∀ c∈ns,c∈d.cls){t:Int}(l1:-1<=l)(l2:l<(d.h:Int))(h:¬ k8 (d.sch l t os)<=k8 (d.sch l t ns)):k8 (d.sch l t (A++y::x::(M++B)))<=k8 (d.sch l t ns):=by
 have sA:∀ c∈A,c∈d.cls:=λc h=>hs c (by rw [T.old];simp [h]);have sx:x∈d.cls:=hs x (by rw [T.old];simp);have sy:y∈d.cls:=hs y (by rw [T.old];simp);have sM:∀ c∈M,c∈d.cls:=λc h=>hs c (by rw [T.old];simp [h]);have sMy:∀ c∈M++[y],c∈d.cls:=λc h=>hs c (by rw [T.old];simp at h ⊢;rcases h with h|h<;>simp [h]);have sB:∀ c∈B,c∈d.cls:=λc h=>hs c (by rw [T.old];simp [h]);have eo:os=A++((M++[y])++x::B):=by rw [T.new];simp
 have en:ns=A++x::((M++[y])++B):=by rw [T.old];simp
 obtain ⟨g1,g2⟩:=VQ ok sA l1 l2;rw [eo,en,vc (P:=A) (Q:=(M++[y])++x::B),vc (P:=A) (Q:=x::((M++[y])++B)),vj,vj] at h;rw [en,vc (P:=A) (Q:=y::x::(M++B)),vc (P:=A) (Q:=x::((M++[y])++B)),vj,vj];generalize zV l A=l0 at g1 g2 h;generalize d.endT l t A=t0 at h;have kx:=ok.cl x sx;have ky:=ok.cl y sy;have xl:=kx.l1;have yl:=ky.l1;have hx:=kx.hu;have hy:=ky.hu;have rx:=Zf ok g1 g2 hx;have hz:d.rz (y.hue:Int) x.hue=0:=by unfold Dr.rz;rw [if_pos (by rw [T.hue])]
 have ey:d.rz l0 y.hue=d.rz l0 x.hue:=by rw [T.hue]
 have wx:=kx.w1;have wy:=ky.w1;have lM:=VQ ok (P:=M) (l:=(x.hue:Int)) sM (by omega) (by omega);have E1:k8 (d.sch l0 t0 ((M++[y])++x::B))=k8 (d.sch l0 t0 (M++[y]))+(x.wt*(d.endT l0 t0 (M++[y])+x.len)+k8 (d.sch x.hue (d.endT l0 t0 (M++[y])+x.len) B)):=by rw [vc (P:=M++[y]) (Q:=x::B),VR,vj];show _+k8 ((x,d.endT l0 t0 (M++[y])+d.rz (y.hue:Int) x.hue+x.len)::d.sch x.hue (d.endT l0 t0 (M++[y])+d.rz (y.hue:Int) x.hue+x.len) B)=_;rw [hz,Int.add_zero,ZH]
 have E3:k8 (d.sch l0 t0 (x::((M++[y])++B)))=x.wt*(t0+d.rz l0 x.hue+x.len)+(k8 (d.sch x.hue (t0+d.rz l0 x.hue+x.len) (M++[y]))+k8 (d.sch y.hue (d.endT x.hue (t0+d.rz l0 x.hue+x.len) (M++[y])) B)):=by show k8 ((x,_)::d.sch x.hue (t0+d.rz l0 x.hue+x.len) ((M++[y])++B))=_;rw [ZH,vc (P:=M++[y]) (Q:=B),VR,vj]
 have E4:k8 (d.sch x.hue (t0+d.rz l0 x.hue+x.len) (M++[y]))=k8 (d.sch x.hue (t0+d.rz l0 x.hue+x.len) M)+y.wt*d.endT x.hue (t0+d.rz l0 x.hue+x.len) (M++[y]):=by rw [vc (P:=M) (Q:=[y]),vj,Vr (P:=M) (Q:=[y])];show _+(y.wt*_+0)=_+y.wt*_;rw [Int.add_zero];rfl
 have E6:d.endT x.hue (t0+d.rz l0 x.hue+x.len) (M++[y])=d.endT x.hue (t0+d.rz l0 x.hue+x.len) M+d.rz (zV x.hue M) y.hue+y.len:=by rw [Vr (P:=M) (Q:=[y])];rfl
 have E5:k8 (d.sch l0 t0 (y::x::(M++B)))=y.wt*(t0+d.rz l0 x.hue+y.len)+(x.wt*(t0+d.rz l0 x.hue+y.len+x.len)+(k8 (d.sch x.hue (t0+d.rz l0 x.hue+y.len+x.len) M)+k8 (d.sch (zV x.hue M) (d.endT x.hue (t0+d.rz l0 x.hue+y.len+x.len) M) B))):=by show k8 ((y,t0+d.rz l0 y.hue+y.len)::(x,t0+d.rz l0 y.hue+y.len+d.rz (y.hue:Int) x.hue+x.len)::d.sch x.hue (t0+d.rz l0 y.hue+y.len+d.rz (y.hue:Int) x.hue+x.len) (M++B))=_;rw [ey,hz,Int.add_zero,ZH,ZH,vc (P:=M) (Q:=B),vj]
 have Gn:=KF ok sMy (l:=(x.hue:Int)) (t:=t0+d.rz l0 x.hue+x.len) (by omega) (by omega);have D0:Dom d x.len l0 t0 (x.hue:Int) (t0+d.rz l0 x.hue+x.len):=⟨λg hg=>by
  have:=Cc ok g1 g2 hx hg;omega,by omega⟩
 obtain ⟨q1,q2⟩:=Xi ok sMy D0;have D1:Dom d 0 (x.hue:Int) (d.endT l0 t0 (M++[y])+x.len) (y.hue:Int) (d.endT x.hue (t0+d.rz l0 x.hue+x.len) (M++[y])):=⟨λg _=>by
  have e:d.rz (x.hue:Int) g=d.rz (y.hue:Int) g:=by rw [T.hue]
  omega,by omega⟩
 obtain ⟨p1,_⟩:=Xi ok sB D1;have D2:Dom d (-y.len) (x.hue:Int) (t0+d.rz l0 x.hue+y.len+x.len) (x.hue:Int) (t0+d.rz l0 x.hue+x.len):=⟨λg _=>by omega,by omega⟩;obtain ⟨m1,m2⟩:=Xi ok sM D2;have D3:Dom d 0 (zV x.hue M) (d.endT x.hue (t0+d.rz l0 x.hue+y.len+x.len) M) (y.hue:Int) (d.endT x.hue (t0+d.rz l0 x.hue+x.len) (M++[y])):=by have z:=Zf ok lM.1 lM.2 hy;refine ⟨λg hg=>?_,by rw [E6];omega⟩;have:=Cc ok lM.1 lM.2 hy hg;rw [E6];omega
 obtain ⟨b1,_⟩:=Xi ok sB D3;rw [FA,show wts [y]=y.wt from Int.add_zero _] at q1;rw [Int.zero_mul,Int.add_zero] at p1 b1;rw [E1,E3] at h;rw [E3,E5];rw [E4] at h q1 ⊢;rw [Int.neg_mul] at m1;have st:y.len*x.wt<=x.len*y.wt:=by
  rcases ltK_iff.mp (show g0 (y.len*x.wt,y.name) (x.len*y.wt,x.name)=true from T.bad) with z|⟨z,_⟩
  ·have z:y.len*x.wt<x.len*y.wt:=z;omega
  ·have z:y.len*x.wt=x.len*y.wt:=z;omega
 generalize d.endT x.hue (t0+d.rz l0 x.hue+x.len) (M++[y])=E at *
 generalize d.rz l0 x.hue=r0 at *
 have u1:x.wt*(d.endT l0 t0 (M++[y])+x.len)<=x.wt*E:=uz q2 (by omega);have u2:x.wt*E=x.wt*(t0+r0+x.len)+x.wt*(E-(t0+r0+x.len)):=by rw [<- Int.mul_add];congr 1;omega
 have u3:y.wt*(t0+r0+y.len)=y.wt*E+y.wt*(y.len-x.len-(E-(t0+r0+x.len))):=by rw [<- Int.mul_add];congr 1;omega
 have u4:x.wt*(t0+r0+y.len+x.len)=x.wt*(t0+r0+x.len)+x.wt*y.len:=by rw [<- Int.mul_add];congr 1;omega
 have:=Rn (px:=x.len) (py:=y.len) (wx:=x.wt) (wy:=y.wt) (WM:=wts M) (G:=E-(t0+r0+x.len)) (by omega) (by omega) (by omega) st
  (D1:=k8 (d.sch l0 t0 (M++[y]))+(x.wt*(d.endT l0 t0 (M++[y])+x.len)+k8 (d.sch x.hue (d.endT l0 t0 (M++[y])+x.len) B))-(x.wt*(t0+r0+x.len)+(k8 (d.sch x.hue (t0+r0+x.len) M)+y.wt*E+k8 (d.sch y.hue E B))))
  (D2:=y.wt*(t0+r0+y.len)+(x.wt*(t0+r0+y.len+x.len)+(k8 (d.sch x.hue (t0+r0+y.len+x.len) M)+k8 (d.sch (zV x.hue M) (d.endT x.hue (t0+r0+y.len+x.len) M) B)))-(x.wt*(t0+r0+x.len)+(k8 (d.sch x.hue (t0+r0+x.len) M)+y.wt*E+k8 (d.sch y.hue E B))))
  (by omega) (by omega) (by omega)
 omega
end
section
variable {C:Addr}{d:Dr}
theorem VE :∀{l t:Int},∀ r∈d.go l t ns,r.1∈ns:=by
 induction ns with
 |nil=>intro l t r h;cases h
 |cons c cs ih =>
  intro l t r h;rcases yJ.mp h with rfl|h
  ·exact yT
  ·exact yV _ (ih r h)
theorem KZ :∀{l t:Int},(d.go l t ns).length=ns.length:=by
 induction ns with
 |nil=>intro l t;rfl
 |cons c cs ih=>intro l t;show (d.go _ _ cs).length+1=_;rw [ih];rfl
theorem IN (ok:d.Ok)(L:Lst d ns):QD C [d.ob C,u5 ns]=some (.lst ((d.go d.last d.time ns).map rwP)):=IM ok L (CQ ok L)
def edP (r:Cl×Int×Int):PV:= .tup [r.1.pv,.at (.int r.2.2)]
theorem IP (ok:d.Ok)(L:Lst d ns):XC C [d.ob C,u5 ns]=some (.lst ((d.go d.last d.time ns).map edP)):=by have hlim:lim=1000000:=rfl;have l10:=L.len ok;exact xO rfl (p7 (qS rwP edP (d.go d.last d.time ns) (Xm (j5 rfl (IN ok L))) rfl (by rw [KZ];omega) λr hr=>⟨_,rfl,xV (y7 (jK rfl (by decide) rfl (CT ok (L.sub _ (VE r hr)))) (y7 rfl rfl)) (by first|decide|(show 1<=lim;decide)|(show 2<=lim;decide)|(show 3<=lim;decide))⟩))
theorem rz_le (ok:d.Ok){f:Int}{g:Nat}(f0:-1<=f)(f1:f<(d.h:Int))(hg:g<d.h):0<=d.rz f g/\d.rz f g<=p5:=by
 unfold Dr.rz;split
 ·exact ⟨uT _,Int.le_of_lt QX⟩
 ·have G:h8 d.h d.low:=zW ok.rin;have main:∀ n:Nat,n<=d.h->0<=rin d.low (n:Int) (g:Int)/\rin d.low (n:Int) (g:Int)<=p5:=by
   intro n hn;have hl:n<d.low.length:=by rw [show d.low.length=d.h+1 from G.len];omega
   have hgl:g<d.low[n].length:=by rw [(G.row _ (yA hl)).1];exact hg
   rw [je G hn hg,g9 hl,g9 hgl];have:=(G.row _ (yA hl)).2 _ (yA hgl);have hB:p5=10 ^ 30:=rfl;omega
  by_cases hf:f=-1
  ·rw [hf,Ze G.len];exact main d.h (yW _)
  ·obtain ⟨n,rfl⟩:=yr (show 0<=f by omega);exact main n (by omega)
theorem KY (ok:d.Ok):∀{ns:List Cl}{l t:Int},(∀ c∈ns,c∈d.cls)->-1<=l->l<(d.h:Int)->0<=t->∀ r∈d.go l t ns,0<=r.2.2/\r.2.2<=t+2*p5*ns.length
 |[],_,_,_,_,_,_,_,h=>nomatch h
 |c::cs,l,t,hs,l1,l2,t0,r,h=>by
  have hk:=ok.cl c (hs c yT);have z:=rz_le ok l1 l2 hk.hu;have a1:=hk.l1;have a2:=hk.l2;have hB:=QX;have e:2*p5*((c::cs).length:Int)=2*p5*(cs.length:Int)+2*p5:=by rw [yE];push_cast;rw [Int.mul_add,Int.mul_one]
  have nn:0<=2*p5*(cs.length:Int):=Int.mul_nonneg (by omega) (by omega);rcases yJ.mp h with rfl|h
  ·show 0<=t+d.rz l c.hue+c.len/\t+d.rz l c.hue+c.len<=_;rw [e];omega
  ·have ih:=KY ok (ns:=cs) (l:=(c.hue:Int)) (t:=t+d.rz l c.hue+c.len) (λx hx=>hs x (yV _ hx)) (by omega) (by have:=hk.hu;omega) (by omega) r h;rw [e];omega
theorem GV {n:Int}(h0:0<=n)(h1:n<=100*p5):Builtin.Int.intBits n<=2 ^ 20:=by
 obtain ⟨m,rfl⟩:=yr h0;have q:(100*p5).toNat<2 ^ 120:=by decide +kernel
 exact yj (PyProof.Rows.intBits_le (k:=120) (by rw [Int.natAbs_natCast];omega)) (by decide)
theorem BM {a b:Int}(a0:0<=a)(a1:a<=100*p5)(b0:0<=b)(b1:b<=100*p5):zG (.at (.int a)) (.at (.int b))=some (.at (.int (a*b))):=by show (if jk a b then some (V.int (a*b)) else none).map PV.at=_;rw [if_pos ⟨GV a0 a1,GV b0 b1⟩];rfl
def Vm (rs:List (Cl×Int×Int)):Int:=(rs.map λr=>r.1.wt*r.2.2).sum
theorem KG (ok:d.Ok)(L:Lst d ns){r:Cl×Int×Int}(hr:r∈d.go d.last d.time ns):0<=r.2.2/\r.2.2<=100*p5:=by have q:=KY ok L.sub ok.l1 ok.l2 ok.t1 r hr;have l10:=L.len ok;have t2:=ok.t2;have:2*p5*(ns.length:Int)<=2*p5*10:=uz (by omega) (by have:=QX;omega);omega
theorem IL (ok:d.Ok)(L:Lst d ns):jR C [d.ob C,u5 ns]=some (.at (.int (Vm (d.go d.last d.time ns)))):=by
 have hlim:lim=1000000:=rfl;have l10:=L.len ok;refine i7 rfl (p7 (j5 (y7 (qS edP (λr=>PV.at (.int (r.1.wt*r.2.2))) (d.go d.last d.time ns) (Xm (j5 rfl (IP ok L))) rfl (by rw [KZ];omega) λr hr=>⟨_,rfl,y3 (j5 rfl rfl) rfl ?_⟩) rfl) ?_))
 ·have hk:=ok.cl r.1 (L.sub _ (VE r hr));have q:=KG ok L hr;have w1:=hk.w1;have w2:=hk.w2;have:=QX;exact BM (by omega) (by omega) q.1 q.2
 ·have e:((d.go d.last d.time ns).map λr=>PV.at (.int (r.1.wt*r.2.2)))=((d.go d.last d.time ns).map λr=>r.1.wt*r.2.2).map λb=>PV.at (.int b):=by rw [yt];rfl
  rw [e,Cw];rfl
theorem VF:∀{ns:List Cl}{l t:Int},(d.go l t ns).map (λr=>(r.1,r.2.2))=d.sch l t ns
 |[],_,_=>rfl
 |c::ns,l,t=>by
  show (c,t+d.rz l c.hue+c.len)::(d.go _ _ ns).map _=(c,t+d.rz l c.hue+c.len)::_;rw [VF (ns:=ns)]
theorem Mn {t:Int}:Vm (d.go l t ns)=k8 (d.sch l t ns):=by rw [<- VF];unfold Vm k8;rw [yt];rfl
end
section
variable {C:Addr}{d:Dr}
theorem Bj {y:Cl}{B:List Cl}:∀{M:List Cl},(∀ m∈M,m.hue≠y.hue)->n6 (M++y::B)=n6 (M++B)+B.countP (p6 y)
 |[],_=>by
  show B.countP (p6 y)+n6 B=n6 B+_;omega
 |m::M,h=>by
  have ih:=Bj (B:=B) (M:=M) λz hz=>h z (yV _ hz);have my:p6 m y=false:=by unfold p6;rw [yK (h m yT)];rfl
  have e1:(y::B).countP (p6 m)=B.countP (p6 m):=uf (by rw [my];exact yS);show (M++y::B).countP (p6 m)+n6 (M++y::B)=(M++B).countP (p6 m)+n6 (M++B)+_;rw [ih,uJ,uJ,e1];omega
theorem Kn {M:List Cl}(h:∀ m∈M,m.hue≠x.hue):M.countP (p6 x)=0:=List.countP_eq_zero.mpr λm hm=>by
 unfold p6;rw [yK (Ne.symm (h m hm))];exact yS
theorem Turn.perm2 {M:List Cl}(T:Turn ns os p A x M y B):(A++y::x::(M++B)).Perm ns:=by rw [T.old];refine tX A ?_;exact (List.Perm.swap x y _).trans (List.Perm.cons x List.perm_middle.symm)
theorem Turn.less2 {M:List Cl}(T:Turn ns os p A x M y B):n6 (A++y::x::(M++B))<n6 ns:=by
 have pm:(y::x::(M++B)).Perm (x::(M++y::B)):=(List.Perm.swap x y _).trans (List.Perm.cons x List.perm_middle.symm);have hM:∀ m∈M,m.hue≠y.hue:=λm hm=>by rw [<- T.hue];exact T.amid m hm
 have base:n6 (y::x::(M++B))<n6 (x::(M++y::B)):=by
  have hyx:p6 y x=false:=by unfold p6;rw [show zO 1 x y=false from BH T.bad,Bool.and_false]
  have hxy:p6 x y=true:=by unfold p6;rw [T.bad,yH T.hue];rfl
  show (x::(M++B)).countP (p6 y)+((M++B).countP (p6 x)+n6 (M++B))<(M++y::B).countP (p6 x)+n6 (M++y::B);rw [Bj hM,uf (by rw [hyx];exact yS),uJ,uJ,uJ,List.countP_cons_of_pos hxy,Kn T.amid,Kn hM];omega
 rw [T.old];have:∀ A:List Cl,n6 (A++y::x::(M++B))<n6 (A++x::(M++y::B)):=by
  intro A
  induction A with
  |nil=>exact base
  |cons c A ih=>show (A++y::x::(M++B)).countP (p6 c)+n6 (A++y::x::(M++B))<(A++x::(M++y::B)).countP (p6 c)+n6 (A++x::(M++y::B));have:=(tX A pm).countP_eq (p6 c);omega
 exact this A
theorem jt :(j8 (ns.map Cl.name)).length=ns.length:=by rw [qW,yZ]
theorem Cu {M:List Cl}:mvL (j8 ((A++x::(M++y::B)).map Cl.name)) A.length (A.length+1+M.length)=j8 ((A++(M++y::x::B)).map Cl.name) /\ mvL (j8 ((A++x::(M++y::B)).map Cl.name)) (A.length+1+M.length) A.length=j8 ((A++y::x::(M++B)).map Cl.name):=by
 have e:j8 ((A++x::(M++y::B)).map Cl.name)=j8 (A.map Cl.name)++ .at (.str x.name)::(j8 (M.map Cl.name)++ .at (.str y.name)::j8 (B.map Cl.name)):=by unfold j8;simp
 have e2:j8 ((A++(M++y::x::B)).map Cl.name)=j8 (A.map Cl.name)++(j8 (M.map Cl.name)++ .at (.str y.name):: .at (.str x.name)::j8 (B.map Cl.name)):=by unfold j8;simp
 have e3:j8 ((A++y::x::(M++B)).map Cl.name)=j8 (A.map Cl.name)++ .at (.str y.name):: .at (.str x.name)::(j8 (M.map Cl.name)++j8 (B.map Cl.name)):=by unfold j8;simp
 rw [e,e2,e3];have la:A.length=(j8 (A.map Cl.name)).length:=by rw [qW,yZ]
 have lm:M.length=(j8 (M.map Cl.name)).length:=by rw [qW,yZ]
 rw [la,lm];generalize j8 (A.map Cl.name)=a;generalize j8 (M.map Cl.name)=m;generalize j8 (B.map Cl.name)=b;constructor
 ·rw [XQ (x:= .at (.str x.name)) (by rw [ym (yW _),Nat.sub_self];rfl)];have er:(a++PV.at (.str x.name)::(m++ .at (.str y.name)::b)).eraseIdx a.length=(a++m++[.at (.str y.name)])++b:=by rw [List.eraseIdx_append_of_length_le (yW _),Nat.sub_self];simp
  rw [er];have ll:a.length+1+m.length=(a++m++[PV.at (.str y.name)]).length:=by simp;omega
  rw [ll,List.take_left,List.drop_left];simp
 ·have ea:a++PV.at (.str x.name)::(m++ .at (.str y.name)::b)=(a++ .at (.str x.name)::m)++ .at (.str y.name)::b:=by simp
  have ll:a.length+1+m.length=(a++PV.at (.str x.name)::m).length:=by simp;omega
  rw [ea,ll,XQ (x:= .at (.str y.name)) (by rw [ym (yW _),Nat.sub_self];rfl)];have er:((a++PV.at (.str x.name)::m)++ .at (.str y.name)::b).eraseIdx (a++PV.at (.str x.name)::m).length=a++(.at (.str x.name)::m++b):=by rw [List.eraseIdx_append_of_length_le (yW _),Nat.sub_self];simp
  rw [er,List.take_left,List.drop_left];simp
structure Stp (d:Dr)(ns os:List Cl)(p:Nat×Nat):Prop where
 perm:os.Perm ns
 less:n6 os<n6 ns
 mv:mvL (j8 (ns.map Cl.name)) p.1 p.2=j8 (os.map Cl.name)
 lt:p.1<ns.length/\p.2<ns.length
 cost:k8 (d.sch d.last d.time os)<=k8 (d.sch d.last d.time ns)
theorem CV (ok:d.Ok)(L:Lst d ns):jR C [d.ob C,u5 ns]=some (.at (.int (k8 (d.sch d.last d.time ns)))):=by rw [<- Mn];exact IL ok L
theorem Fj (ok:d.Ok)(L:Lst d ns)(h:zZ d ns=some pr):∃ os p,Stp d ns os p/\vB C [d.ob C,u5 ns,qq pr]=some (qq p):=by
 obtain ⟨os,A,x,M,y,B,T⟩:=Ik ok L h;have l10:=L.len ok;have Lo:=L.perm T.perm;have em:mvL (j8 (ns.map Cl.name)) pr.1 pr.2=j8 (os.map Cl.name):=by rw [T.old,T.new,T.at1,T.at2];exact Cu.1
 have mo:xW [u5 ns,qq pr]=some (u5 os):=by have:=Wh (xs:=j8 (ns.map Cl.name)) (m:=pr) (by rw [jt];exact T.lt.1) (by rw [jt];omega);rw [em] at this;exact this
 have c:dT (x9 pLe (x8 (jR C) (q0 (q8 0) (q0 (x8 xW (q0 (q8 1) (q0 (q8 2) x6))) x6))) (x8 (jR C) (q0 (q8 0) (q0 (q8 1) x6)))) [.sh (d.ob C),.sh (u5 ns),.sh (qq pr)]=some (decide (k8 (d.sch d.last d.time os)<=k8 (d.sch d.last d.time ns))) :=
  c9 (y3 (j5 (y7 rfl (y7 (j5 rfl mo) rfl)) (CV ok Lo)) (j5 rfl (CV ok L)) rfl)
 by_cases q:k8 (d.sch d.last d.time os)<=k8 (d.sch d.last d.time ns)
 ·rw [yH q] at c;exact ⟨os,pr,⟨T.perm,T.less,em,T.lt,q⟩,i7 rfl (Xn (Qt c (p7 rfl)))⟩
 ·rw [yK q] at c;refine ⟨A++y::x::(M++B),(pr.2,pr.1),⟨T.perm2,T.less2,?_,⟨T.lt.2,T.lt.1⟩,T.cost ok L.sub ok.l1 ok.l2 q⟩,i7 rfl (y0 (qg c qp) (p7 (xV (y7 (y3 rfl rfl rfl) (y7 (y3 rfl rfl rfl) rfl)) l2)))⟩;show mvL _ pr.2 pr.1=_;rw [T.old,T.at1,T.at2];exact Cu.2
end
section
variable {C:Addr}{d:Dr}
inductive Led (C:Addr)(d:Dr):List Cl->List (Nat×Nat)->List Cl->Prop
 |done {ns:List Cl} (h:zZ d ns=none):Led C d ns [] ns
 |turn {ns os fs:List Cl} {pr p:Nat×Nat} {ms:List (Nat×Nat)} (h:zZ d ns=some pr) (S:Stp d ns os p) (v:vB C [d.ob C,u5 ns,qq pr]=some (qq p)) (r:Led C d os ms fs):Led C d ns (p::ms) fs
theorem By (C:Addr)(ok:d.Ok):∀(n:Nat){ns:List Cl},Lst d ns->n6 ns<=n->∃ ms fs,Led C d ns ms fs/\ms.length<=n
 |n,ns,L,hn=>by
  cases h:zZ d ns with
  |none=>exact ⟨[],ns,.done h,ya _⟩
  |some pr =>
   obtain ⟨os,p,S,v⟩:=Fj (C:=C) ok L h;have:=S.less;cases n with
   |zero=>omega
   |succ n=>obtain ⟨ms,fs,r,l⟩:=By C ok n (L.perm S.perm) (by omega);exact ⟨p::ms,fs,.turn h S v r,by simp;omega⟩
theorem Led.perm {fs:List Cl}(r:Led C d ns ms fs):fs.Perm ns:=by
 induction r with
 |done _=>exact .refl _
 |turn _ S _ _ ih=>exact ih.trans S.perm
theorem Led.last {fs:List Cl}(r:Led C d ns ms fs):zZ d fs=none:=by
 induction r with
 |done h=>exact h
 |turn _ _ _ _ ih=>exact ih
theorem Led.lt {fs:List Cl}(r:Led C d ns ms fs):∀ m∈ms,m.1<ns.length/\m.2<ns.length:=by
 induction r with
 |done h=>exact λ_ z=>nomatch z
 |turn _ S _ _ ih =>
  intro m hm;rcases yJ.mp hm with rfl|hm
  ·exact S.lt
  ·have:=ih m hm;rwa [S.perm.length_eq] at this
theorem Led.walk {fs:List Cl}(r:Led C d ns ms fs):JP (j8 (ns.map Cl.name)) ms=j8 (fs.map Cl.name):=by
 induction r with
 |done _=>rfl
 |turn _ S _ _ ih=>show JP (mvL _ _ _) _=_;rw [S.mv];exact ih
theorem v_stp (ok:d.Ok)(L:Lst d ns)(S:Stp d ns os p):xW [u5 ns,qq p]=some (u5 os):=by have l10:=L.len ok;have:=Wh (xs:=j8 (ns.map Cl.name)) (m:=p) (by rw [jt];exact S.lt.1) (by rw [jt];omega);rw [S.mv] at this;exact this
theorem XR {α:Type}{f:α->PV}:∀{l:List α},(∀ a∈l,xI (f a)=true)->zo (l.map f)=true
 |[],_=>rfl
 |a::l,h=>by
  show (xI (f a)&&zo (l.map f))=true;rw [h a yT,XR λb hb=>h b (yV _ hb)];rfl
theorem BP (rss:List (List Int)):xI (m5 rss)=true:=XR λr _=>XR λ_ _=>rfl
theorem NP:xI (d.ob C)=true:=by have h:zo (d.cls.map Cl.pv)=true:=XR λ_ _=>rfl;show (xI (m5 d.low)&&(xI (m5 d.rss)&&(zo (d.cls.map Cl.pv)&&(true&&(true&&true)))))=true;rw [BP,BP,h];rfl
theorem NO (ns:List Cl):xI (u5 ns)=true:=XR λ_ _=>rfl
abbrev wj (C:Addr)(d:Dr):List PV->Option PV:=jP 2 (x8 (vB C) (q0 (q8 2) (q0 (q8 0) (q0 (q8 1) x6)))) [d.ob C]
theorem v_lam (v:vB C [d.ob C,u5 ns,qq pr]=some (qq p)):wj C d [u5 ns,qq pr]=some (qq p):=by
 unfold wj jP;rw [if_pos ⟨rfl,by
  show (xI (u5 ns)&&(true&&(xI (d.ob C)&&true)))=true;rw [NO,NP];rfl⟩]
 exact j5 rfl v
def PZ (d:Dr):PV:= .lst (((List.range d.h).map d.steepN).map k7)
noncomputable abbrev fMv (q:LQ)(m:List PV->Option PV):MS:=j7 (u8 6 (ZI q 8 m 2 (q0 (q8 4) (q0 (q8 5) x6)))) (j7 (jF 3 (q8 6)) (j7 (u8 4 (x8 xW (q0 (q8 4) (q0 (q8 6) x6)))) (u8 5 (x8 vC (q0 (q8 0) (q0 (q8 4) x6))))))
abbrev eMv (C:Addr)(d:Dr)(q:LQ)(N:PV)(l:List (Nat×Nat))(a b:PV)(s:MSlot):ME:=[.sh (PZ d),.sh N,.sh (.op (QZ q 8 (wj C d))),.ow (.lst (qC l)),.sh a,.sh b,s]
theorem Nz (q:LQ)(ok:d.Ok){N:PV}{fs:List Cl}(r:Led C d ns ms fs):∀(L:Lst d ns)(done:List (Nat×Nat))(s6:MSlot)(f:Nat),ms.length<f->done.length+ms.length<=1000 -> ∃ s6':MSlot,jq (dT (x9 wB (q9 5) (dC .non))) (fMv q (wj C d)) f (eMv C d q N done (u5 ns) (jv (zZ d ns)) s6)=some (.nx (eMv C d q N (done++ms) (u5 fs) (.at .non) s6')):=by
 have hlim:lim=1000000:=rfl
 induction r with
 |@done ns h =>
  intro L done s6 f hf _;cases f with
  |zero=>exact absurd hf (uB _)
  |succ f=>refine ⟨s6,?_⟩;rw [h,yp];unfold jq;rw [c9 (v:=false) (y3 rfl rfl rfl)];rfl
 |@turn ns os fs pr p ms h S v r ih =>
  intro L done s6 f hf hd;cases f with
  |zero=>exact absurd hf (uB _)
  |succ f =>
   simp only [yE] at hf hd;obtain ⟨s6',e⟩:=ih (L.perm S.perm) (done++[p]) (.sh (qq p)) f (by omega) (by simp;omega);refine ⟨s6',?_⟩;rw [uS] at e;rw [h];unfold jq;rw [c9 (v:=true) (y3 rfl rfl rfl),yG,if_pos rfl];have b:fMv q (wj C d) (eMv C d q N done (u5 ns) (jv (some pr)) s6)
     = some (.nx (eMv C d q N (done++[p]) (u5 os) (jv (zZ d os)) (.sh (qq p)))):=by
    refine y0 (m3 (x:=qq p) (MP rfl rfl (v_lam v))) (y0 (ε1:=eMv C d q N (done++[p]) (u5 ns) (jv (some pr)) (.sh (qq p))) ?_ (y0 (m3 (j5 rfl (v_stp ok L S))) (m3 (j5 rfl (CZ ok (L.perm S.perm))))));show (if (qC done).length<=lim then _ else none)=_;rw [if_pos (by unfold qC;rw [yZ];omega)];unfold eMv qC;rw [yv];rfl
   rw [b];exact e
theorem Fb (q:LQ)(ok:d.Ok){fs:List Cl}(L:Lst d ns)(r:Led C d ns ms fs)(h:ms.length<=100):XH q (wj C d) [PZ d,u5 ns,.op (QZ q 8 (wj C d))]=some (.lst (qC ms)):=by obtain ⟨s6,e⟩:=Nz q ok (N:=u5 ns) r L [] .no 101 (by omega) (by simp;omega);exact xO rfl (y0 (Xp (x:= .lst (qC [])) (vn rfl l0)) (y0 (m3 (x:=u5 ns) (j5 rfl rfl)) (y0 (m3 (j5 rfl (CZ ok L))) (y0 e (p7 rfl)))))
theorem BK:∀ ms:List (Nat×Nat),jz (qC ms)=true
 |[]=>rfl
 |m::ms=>by
  show (plB (qq m)&&jz (qC ms))=true;rw [BK ms];rfl
theorem JN (q:LQ)(ok:d.Ok){fs:List Cl}(L:Lst d ns)(r:Led C d ns ms fs)(h:ms.length<=100):xX q C [d.ob C,u5 ns]=some (.lst (qC ms)) :=
 xO rfl (y0 (Xl (j5 rfl (CS ok L (CQ ok L)))) (MV (ws:=[d.ob C]) (j5 rfl (Fl ok)) rfl rfl (Fb q ok L r h) (BK ms)))
end
section
variable {C:Addr}{d:Dr}
def epP (r:Cl×Int):PV:= .tup [r.1.pv,.at (.int r.2)]
theorem Ce:∀{ns:List Cl}{l t:Int},(d.sch l t ns).length=ns.length
 |[],_,_=>rfl
 |_::ns,_,_=>congrArg (·+1) (Ce (ns:=ns))
abbrev eEn (d:Dr)(ns:List Cl)(a b:Int)(z:List PV)(s:MSlot):ME:=[.sh d.pv,.sh (u5 ns),.sh (m5 d.low),.sh (.fk (keysOf d.cls) (d.cls.map Cl.pv)),.sh (.at (.int a)),.sh (.at (.int b)),.ow (.lst z),s]
theorem IQ (ok:d.Ok)(L:Lst d ns):Jf [d.pv,u5 ns]=some (.lst ((d.sch d.last d.time ns).map epP)):=by
 have hlim:lim=1000000:=rfl;have l10:=L.len ok;have en:j8 (ns.map Cl.name)=ns.map λc=>PV.at (.str c.name):=by unfold j8;rw [yt];rfl
 have dc:=KD ok (ε:=[.sh d.pv,.sh (u5 ns),.sh (m5 d.low),.no,.no,.no,.no,.no]) rfl;obtain ⟨ε',e',rest⟩:=wn (g:=v8 7) (f:=j7 (b9 (dT (x9 qL (x9 w9 (qf (q9 3) (q9 7)) (dC (.int 1))) (q9 4))) (u8 5 (x9 o6 (q9 5) (x9 w9 (x9 w9 (q9 2) (q9 4)) (x9 w9 (qf (q9 3) (q9 7)) (dC (.int 1)))))) c6)
  (j7 (u8 5 (x9 o6 (q9 5) (x9 w9 (qf (q9 3) (q9 7)) (dC (.int 2)))))
  (j7 (u8 4 (x9 w9 (qf (q9 3) (q9 7)) (dC (.int 1))))
  (jF 6 (qm (q0 (qf (q9 3) (q9 7)) (q0 (q8 5) x6)))))))
  (λc:Cl=>PV.at (.str c.name)) (λl ε=>∃(la ti:Int)(done:List (Cl×Int))(s7:MSlot),done++d.sch la ti l=d.sch d.last d.time ns/\(∀ c∈l,c∈ns)/\done.length+l.length=ns.length/\-1<=la/\la<(d.h:Int) /\
   ε=(eEn d ns la ti (done.map epP) s7)) (by
   rintro c l ε ⟨la,ti,done,s7,e1,e2,e3,g1,g2,rfl⟩;have hc:=e2 c yT;have hk:=ok.cl c (L.sub c hc);have lk:=Xx Cl.pv ok.nd c (L.sub c hc);simp only [yE] at e3;have gd:∀(t:Int),qf (q9 3) (q9 7) (eEn d ns la t (done.map epP) (.sh (.at (.str c.name))))=some c.pv:=λt=>ZQ rfl rfl rfl lk;have gd2:∀(t:Int),qf (q9 3) (q9 7) (eEn d ns (c.hue:Int) t (done.map epP) (.sh (.at (.str c.name))))=some c.pv:=λt=>ZQ rfl rfl rfl lk;have s1:b9 (dT (x9 qL (x9 w9 (qf (q9 3) (q9 7)) (dC (.int 1))) (q9 4))) (u8 5 (x9 o6 (q9 5) (x9 w9 (x9 w9 (q9 2) (q9 4)) (x9 w9 (qf (q9 3) (q9 7)) (dC (.int 1)))))) c6 (eEn d ns la ti (done.map epP) (.sh (.at (.str c.name))))=some (.nx (eEn d ns la (ti+d.rz la c.hue) (done.map epP) (.sh (.at (.str c.name))))):=by
    unfold Dr.rz;by_cases h:la=(c.hue:Int)
    ·rw [if_pos h,Int.add_zero];exact qg (c9 (v:=false) (y3 (y3 (gd ti) rfl rfl) rfl ((BN _ _).trans (by rw [yH h.symm];rfl)))) qp
    ·rw [if_neg h];obtain ⟨r,r1,r2⟩:=PX (zW ok.rin) g1 g2 hk.hu;exact Qt (c9 (v:=true) (y3 (y3 (gd ti) rfl rfl) rfl ((BN _ _).trans (by rw [yK (Ne.symm h)];rfl)))) (m3 (y3 rfl (y3 (y3 rfl rfl r1) (y3 (gd ti) rfl rfl) r2) rfl))
   refine ⟨_,(eEn d ns (c.hue:Int) (ti+d.rz la c.hue+c.len) ((done++[(c,ti+d.rz la c.hue+c.len)]).map epP) (.sh (.at (.str c.name)))),rfl,y0 s1 (y0 (m3 (x:= .at (.int (ti+d.rz la c.hue+c.len))) (y3 rfl (y3 (gd _) rfl rfl) rfl)) (y0 (m3 (x:= .at (.int (c.hue:Int))) (y3 (gd _) rfl rfl)) ?_)),?_⟩
   rotate_left
   ·refine ⟨(c.hue:Int),ti+d.rz la c.hue+c.len,done++[(c,ti+d.rz la c.hue+c.len)],_,by rw [uS];exact e1,λx hx=>e2 x (yV _ hx),by rw [yM];simp;omega,by omega,by have:=hk.hu;omega,rfl⟩
   ·rw [yv];exact KM (xV (y7 (gd2 _) (y7 rfl rfl)) l2) rfl (by rw [yZ];omega)) ns (eEn d ns d.last d.time [] .no) ⟨d.last,d.time,[],.no,rfl,λc h=>h,by simp,ok.l1,ok.l2,rfl⟩
 obtain ⟨la,ti,done,s7,e1,_,_,_,_,rfl⟩:=rest;have e2:done=d.sch d.last d.time ns:=by have:done++[]=d.sch d.last d.time ns:=e1;rwa [yp] at this
 subst e2;refine xO rfl (y0 (m3 (x:=m5 d.low) (j5 (y7 (y3 rfl rfl rfl) rfl) (IX ok.rin ok.h1 ok.h4))) (y0 (m3 dc) (y0 (MN (x:= .tup [.at (.int d.last),.at (.int d.time)]) (MW (i:=2) (xs:=[m5 d.rss,.lst (d.cls.map Cl.pv),.at (.int d.last),.at (.int d.time)]) rfl rfl rfl ⟨by decide,by show 2<=4;decide⟩) rfl) (y0 (Xp (vn rfl l0)) (y0 (xP (by show some (j8 (ns.map Cl.name))=_;rw [en]) e') rfl)))))
theorem SE (ok:d.Ok)(L:Lst d ns):(d.sch d.last d.time ns).length<=lim:=by have hlim:lim=1000000:=rfl;have l10:=L.len ok;rw [Ce];omega
theorem SD {t:Int}{r:Cl×Int}(h:r∈d.sch l t ns):∃ q∈d.go l t ns,q.1=r.1/\q.2.2=r.2:=by rw [<- VF] at h;obtain ⟨q,hq,e⟩:=yy.mp h;exact ⟨q,hq,by rw [<- e],by rw [<- e]⟩
theorem CU (ok:d.Ok)(L:Lst d ns):wu [d.pv,u5 ns]=some (.at (.int (k8 (d.sch d.last d.time ns)))):=by
 refine i7 rfl (p7 (j5 (y7 (qS epP (λr=>PV.at (.int (r.1.wt*r.2))) (d.sch d.last d.time ns) (Xm (j5 rfl (IQ ok L))) rfl (SE ok L) λr hr=>⟨_,rfl,y3 (y3 rfl rfl rfl) rfl ?_⟩) rfl) ?_))
 ·obtain ⟨g,hg,e1,e2⟩:=SD hr;have hk:=ok.cl g.1 (L.sub _ (VE g hg));have q:=KG ok L hg;rw [e2] at q;rw [e1] at hk;have w1:=hk.w1;have w2:=hk.w2;have:=QX;exact BM (by omega) (by omega) q.1 q.2
 ·have e:((d.sch d.last d.time ns).map λr=>PV.at (.int (r.1.wt*r.2)))=((d.sch d.last d.time ns).map λr=>r.1.wt*r.2).map λb=>PV.at (.int b):=by rw [yt];rfl
  rw [e,Cw];rfl
theorem Fv (k:Int):QG [.at (.int k)]=some (.at (.bl true)):=by unfold QG Va c5 y8 zR x8 Qn q0 x6 q9 dC qr tyP;rfl
theorem BJ (ms:List (Nat×Nat)):(qC ms).length=ms.length:=yZ _
theorem Fq (h:∀ m∈ms,m.1<n/\m.2<n)(hl:ms.length<=100):Jk [.lst (qC ms),.at (.int (n:Int))]=some (.at (.bl true)):=by
 have hlim:lim=1000000:=rfl;obtain ⟨ε',e',_,s2,rfl⟩:=wn (g:=v8 2) (f:=j7 (b9 (xf (i6 (r9 (x8 qr (q0 (q9 2) (q0 (dC (.ty "tuple")) x6))))) (xf (dT (x9 qL (x8 o9 (q0 (q9 2) x6)) (dC (.int 2)))) (i6 (r9 (x8 za (q0 (m8 [none] [0] (Ql (q8 2)) (v8 0) n5 (x8 QG (q0 (q8 0) x6))) x6)))))) (y8 (dC (.bl false))) c6)
  (b9 (i6 (r9 (x8 za (q0 (m8 [none,some 1] [0] (Ql (q8 2)) (v8 0) n5 (xY pLe pLt (dC (.int 0)) (q9 0) (q9 1))) x6)))) (y8 (dC (.bl false))) c6)) qq (λl ε=>(∀ m∈l,m∈ms)/\∃ s2:MSlot,ε=[.sh (.lst (qC ms)),.sh (.at (.int (n:Int))),s2]) (by
   rintro m l ε ⟨hm,s2,rfl⟩;obtain ⟨h1,h2⟩:=h m (hm m yT);have ch:∀ k:Nat,k<n->∀ ε1:ME,ε1=[.sh (.at (.int k)),.sh (.at (.int n))]->xY pLe pLt (dC (.int 0)) (q9 0) (q9 1) ε1=some (.at (.bl true)):=λk hk _ e=>by
    subst e;show Option.bind (some (decide ((0:Int)<=(k:Int)))) (λc=>if c=true then some (PV.at (.bl (decide ((k:Int)<(n:Int))))) else some (.at (.bl false)))=_;rw [yH (show (0:Int)<=(k:Int) by omega),yH (show (k:Int)<(n:Int) by omega)];rfl
   refine ⟨_,_,rfl,y0 (qg (zE (qR (xg (j5 rfl (by unfold qr tyP;rfl)))) (zE (c9 (v:=false) (y3 (x:= .at (.int 2)) (j5 rfl rfl) rfl rfl)) (qR (xg (j5 (y7 (qS (λk:Nat=>PV.at (.int (k:Int))) (λ_=>PV.at (.bl true)) [m.1,m.2] rfl rfl l2 λk _=>⟨_,rfl,j5 rfl ?_⟩) rfl) (Qg _)))))) qp) (qg (qR (xg (j5 (y7 (qS (λk:Nat=>PV.at (.int (k:Int))) (λ_=>PV.at (.bl true)) [m.1,m.2] rfl rfl l2 λk hk=>⟨_,rfl,ch k ?_ _ rfl⟩) rfl) (Qg _)))) qp),λx hx=>hm x (yV _ hx),_,rfl⟩
   ·exact Fv _
   ·rcases yJ.mp hk with rfl|hk
    ·exact h1
    ·rw [yI.mp hk];exact h2) ms [.sh (.lst (qC ms)),.sh (.at (.int (n:Int))),.no] ⟨λ_ h=>h,_,rfl⟩
 refine i7 rfl (y0 (qg (zE (qR (xg (j5 rfl ZY))) (c9 (v:=false) (y3 (x:= .at (.int (ms.length:Int))) (j5 rfl (by show some (PV.at (.int ((qC ms).length:Int)))=_;rw [BJ])) rfl ?_))) qp) (y0 (xP rfl e') (p7 rfl)));show some (PV.at (.bl (decide ((100:Int)<(ms.length:Int)))))=_;rw [yK (by omega)]
theorem RZ (ns:List Cl):vI 6 (u5 ns):=λx hx=>by
 obtain ⟨s,_,rfl⟩:=yy.mp hx;exact rfl
noncomputable abbrev fLd:MS:=j7 (u8 7 (x8 XF (q0 (q8 4) (q0 (q8 5) (q0 (q8 6) x6)))))
  (j7 (b9 (dT (x9 pGt (x8 wu (q0 (q8 1) (q0 (q8 7) x6))) (x8 wu (q0 (q8 1) (q0 (q8 4) x6))))) (y8 (dC .non)) c6)
  (u8 4 (q8 7)))
theorem Nq (ok:d.Ok){N P:PV}{fs:List Cl}(r:Led C d ns ms fs):∀(L:Lst d ns)(s5 s6 s7:MSlot),∃ s5' s6' s7':MSlot,o7 (qI 2 (c7 (v8 5) (c7 (v8 6) qH))) fLd (qC ms) [.sh (d.ob C),.sh d.pv,.sh N,.sh P,.sh (u5 ns),s5,s6,s7]=some (.nx [.sh (d.ob C),.sh d.pv,.sh N,.sh P,.sh (u5 fs),s5',s6',s7']):=by
 induction r with
 |done h=>exact λ_ s5 s6 s7=>⟨s5,s6,s7,rfl⟩
 |@turn ns os fs pr p ms h S v r ih =>
  intro L s5 s6 s7;have l10:=L.len ok;have Lo:=L.perm S.perm;have lm:=Nm (xs:=j8 (ns.map Cl.name)) (a:=p.1) (t:=p.2) (by rw [jt];exact S.lt.1) (by rw [jt];exact S.lt.2) (by rw [jt];omega);rw [S.mv] at lm;have g1:pGt (.at (.int (k8 (d.sch d.last d.time os)))) (.at (.int (k8 (d.sch d.last d.time ns))))=some (.at (.bl false)):=by have:=S.cost;show some (PV.at (.bl (decide (k8 (d.sch d.last d.time ns)<k8 (d.sch d.last d.time os)))))=_;rw [yK (by omega)]
  obtain ⟨s5',s6',s7',e⟩:=ih Lo (.sh (.at (.int p.1))) (.sh (.at (.int p.2))) (.sh (u5 os));refine ⟨s5',s6',s7',?_⟩;have bd:fLd [.sh (d.ob C),.sh d.pv,.sh N,.sh P,.sh (u5 ns),.sh (.at (.int p.1)),.sh (.at (.int p.2)),s7]=some (.nx [.sh (d.ob C),.sh d.pv,.sh N,.sh P,.sh (u5 os),.sh (.at (.int p.1)),.sh (.at (.int p.2)),.sh (u5 os)]) :=
   y0 (m3 (x:=u5 os) (j5 rfl lm)) (y0 (qg (c9 (v:=false) (y3 (j5 rfl (CU ok Lo)) (j5 rfl (CU ok L)) g1)) qp) (m3 rfl))
  show Option.bind (fLd [.sh (d.ob C),.sh d.pv,.sh N,.sh P,.sh (u5 ns),.sh (.at (.int p.1)),.sh (.at (.int p.2)),s7]) _=_;rw [bd];exact e
theorem v_led (q:LQ)(ok:d.Ok){fs:List Cl}(L:Lst d ns)(r:Led C d ns ms fs)(h:ms.length<=100):QE q C [d.ob C,d.pv,u5 ns]=some (u5 fs):=by have l10:=L.len ok;obtain ⟨s5,s6,s7,e⟩:=Nq ok (N:=u5 ns) (P:= .lst (qC ms)) r L .no .no .no;have w:=Fy (xs:=j8 (ns.map Cl.name)) (ms:=ms) (by rw [jt];exact r.lt) (by rw [jt];omega);rw [r.walk] at w;exact i7 rfl (y0 (m3 (j5 rfl (JN q ok L r h))) (y0 (qg (qR (xg (j5 (y7 rfl (y7 (j5 rfl (by show some (PV.at (.int ((j8 (ns.map Cl.name)).length:Int)))=_;rw [jt])) rfl)) (Fq r.lt h)))) qp) (y0 (m3 (x:=u5 ns) (j5 rfl rfl)) (y0 (xP rfl e) (y0 (qg (c9 (v:=false) (y3 (j5 rfl w) rfl (QM (RZ fs)))) qp) (p7 rfl))))))
end
abbrev wI:Stmt:=top 77
noncomputable abbrev Gj (K:Fg)(As:LQ)(Aa:Addr):WS:=(wSeq (ql 1 (Dh (XY K) wX (b8 (wP (q8 0)) (b8 (wP (dC (.int 9))) qQ))))
  (wSeq (ql 2 (wP (x8 (QA Aa) (q0 (x9 w9 (q9 1) (dC (.int 0))) (q0 (x9 w9 (q9 1) (dC (.int 1))) (q0 (x9 w9 (q9 1) (dC (.int 2))) (q0 (x9 w9 (q9 1) (dC (.int 3))) x6)))))))
  (wSeq (JO 3 (wD K) vT (b8 (wP (q8 0)) (b8 (wP (dC (.int 2))) qQ)))
  (wSeq (wFor (wIp (xx (q0 (dC (.int 2)) x6))) (v8 4) (wSeq (ql 5 (zw 3 Za Xb (b8 (wP (q8 1)) qQ)))
  (wSeq (ql 6 (wP (x8 zF (q0 (q9 5) x6))))
  (wSeq (ql 7 (wP (x8 (QE As Aa) (q0 (q8 2) (q0 (q8 1) (q0 (q8 6) x6))))))
  (wSeq (xB (wPT (xf (dT (x9 XT (q9 7) (dC .non))) (xf (dT (x9 qL (q9 6) (q9 5))) (dT (x9 qL (x8 vE (q0 (q9 7) x6)) (x8 vE (q0 (q9 5) x6))))))) (qY (wP (dC (.bl false)))) xS)
  (wSeq (xB (wPT (xf (i6 (r9 (x8 wv (q0 (q8 1) (q0 (q8 7) (q0 (dC (.int 1)) x6)))))) (dT (x9 qL (x8 (xX As Aa) (q0 (q8 2) (q0 (q8 7) x6))) (xw x6))))) (qY (wP (dC (.bl false)))) xS)
  (wSeq (xB (wPT (dT (x9 qL (x9 qK (x8 (xX As Aa) (q0 (q8 2) (q0 (q8 5) x6))) (xw x6)) (x8 wv (q0 (q8 1) (q0 (q8 5) (q0 (dC (.int 1)) x6))))))) (qY (wP (dC (.bl false)))) xS)
  (wSeq (wN 8 (x8 (xX As Aa) (q0 (q8 2) (q0 (q8 5) x6))))
  (wSeq (ql 9 (wP (x8 zF (q0 (q9 8) x6))))
  (wSeq (wM 8 (wP (qm (q0 (dC (.int 0)) (q0 (dC (.int 0)) x6)))))
  (xB (wPT (dT (x9 qL (x8 (xX As Aa) (q0 (q8 2) (q0 (q8 5) x6))) (q9 9)))) (qY (wP (dC (.bl false)))) xS)))))))))))
  (qY (wP (x9 qK (x8 (xX As Aa) (q0 (q8 2) (q0 (xw x6) x6))) (xw x6))))))))
theorem sc_law:y6 ["script","parts","works","row","turn","names","handed","found","told","copy"] ["script"] (j9 wI):=u7
theorem Km {cs:List Cl}:∀{os:List Str},(∀ s∈os,s∈cs.map Cl.name)->∃ ns:List Cl,ns.map Cl.name=os/\∀ c∈ns,c∈cs
 |[],_=>⟨[],rfl,λ_ z=>nomatch z⟩
 |s::os,h=>by
  obtain ⟨ns,e,q⟩:=Km (os:=os) λx hx=>h x (yV _ hx);obtain ⟨c,hc,ec⟩:=yy.mp (h s yT);refine ⟨c::ns,by rw [yO,e,ec],λx hx=>?_⟩;rcases yJ.mp hx with rfl|hx
  ·exact hc
  ·exact q x hx
theorem SR {os:List Str}(h:([d.pv]:List PV)=[e.pv])(nd:os.Nodup)(hs:∀ s∈os,s∈e.cls.map Cl.name):∃ ns:List Cl,u5 ns = .lst (j8 os)/\Lst d ns:=by injection h with h _;rw [<- MD h] at hs;obtain ⟨ns,e,q⟩:=Km hs;exact ⟨ns,by unfold u5;rw [e],q,by rw [e];exact nd⟩
theorem Da (h:ss.length<64):vE [.lst (j8 ss)]=some (.lst (j8 (zu ss))):=by show (vd (j8 ss)).bind _=_;rw [Ct,yG,if_pos h];rfl
theorem SU {a b:List Str}(p:a.Perm b):zu a=zu b:=JH ((Ua a).trans p) (Cp a)
theorem Pb (ss:List Str):vI 6 (.lst (j8 ss)):=λx hx=>by
 obtain ⟨s,_,rfl⟩:=yy.mp hx;exact rfl
theorem RY (ms:List (Nat×Nat)):vI 6 (.lst (qC ms)):=λx hx=>by
 obtain ⟨m,_,rfl⟩:=yy.mp hx;intro y hy;rcases yJ.mp hy with rfl|hy
 ·exact rfl
 ·rw [yI.mp hy];exact rfl
theorem MK (ms:List (Nat×Nat)):qK (.lst (qC ms)) (.lst [])=some (.at (.bl (decide (ms=[])))):=by
 cases ms with
 |nil=>rfl
 |cons m ms=>rfl
theorem Nr (ok:d.Ok){fs:List Cl}(L:Lst d ns)(r:Led C d ns ms fs):ms=[]↔ns.Pairwise λa b=>¬ xM 1 a b:=by
 rw [<- Wo ok L];cases r with
 |done h=>simp [h]
 |turn h _ _ _=>simp [h]
theorem LC {K:Fg}{ns:List Int}(ok:d.Ok)(L:Lst d os)(n:Int)(s4 s6 s7 s8 s9:MSlot){N:ME->Prop}(hN:∀ s4 s5 s6 s7 s8 s9:MSlot,N [.sh (scr K ns),.sh d.pv,.sh (d.ob Aa),p9 n,s4,s5,s6,s7,s8,s9]){R:PV->ME->Prop}:(wSeq (ql 6 (wP (x8 zF (q0 (q9 5) x6)))) (wSeq (ql 7 (wP (x8 (QE As Aa) (q0 (q8 2) (q0 (q8 1) (q0 (q8 6) x6)))))) (wSeq (xB (wPT (xf (dT (x9 XT (q9 7) (dC .non))) (xf (dT (x9 qL (q9 6) (q9 5))) (dT (x9 qL (x8 vE (q0 (q9 7) x6)) (x8 vE (q0 (q9 5) x6))))))) (qY (wP (dC (.bl false)))) xS) (wSeq (xB (wPT (xf (i6 (r9 (x8 wv (q0 (q8 1) (q0 (q8 7) (q0 (dC (.int 1)) x6)))))) (dT (x9 qL (x8 (xX As Aa) (q0 (q8 2) (q0 (q8 7) x6))) (xw x6))))) (qY (wP (dC (.bl false)))) xS) (wSeq (xB (wPT (dT (x9 qL (x9 qK (x8 (xX As Aa) (q0 (q8 2) (q0 (q8 5) x6))) (xw x6)) (x8 wv (q0 (q8 1) (q0 (q8 5) (q0 (dC (.int 1)) x6))))))) (qY (wP (dC (.bl false)))) xS) (wSeq (wN 8 (x8 (xX As Aa) (q0 (q8 2) (q0 (q8 5) x6)))) (wSeq (ql 9 (wP (x8 zF (q0 (q9 8) x6)))) (wSeq (wM 8 (wP (qm (q0 (dC (.int 0)) (q0 (dC (.int 0)) x6))))) (xB (wPT (dT (x9 qL (x8 (xX As Aa) (q0 (q8 2) (q0 (q8 5) x6))) (q9 9)))) (qY (wP (dC (.bl false)))) xS))))))))) [.sh (scr K ns),.sh d.pv,.sh (d.ob Aa),p9 n,s4,.sh (u5 os),s6,s7,s8,s9] N R:=by have hlim:lim=1000000:=rfl;have l10:=L.len ok;obtain ⟨ms,fs,r,hm⟩:=By Aa ok 90 L (LG l10);have pm:=r.perm;have Lf:=L.perm pm;have p0:fs.Pairwise λa b=>¬ xM 1 a b:=(Wo ok Lf).mp r.last;have f10:=Lf.len ok;have v1:=v_led (C:=Aa) As ok L r (by omega);have v2:=CY ok Lf 1;rw [yH p0] at v2;have v3:=JN (C:=Aa) As ok Lf (.done r.last) (by simp);have v4:=JN (C:=Aa) As ok L r (by omega);have v5:=CY ok L 1;have e45:decide (ms=[])=decide (os.Pairwise λa b=>¬ xM 1 a b):=decide_eq_decide.mpr (Nr ok L r);rw [<- e45] at v5;have es:zu (fs.map Cl.name)=zu (os.map Cl.name):=SU (pm.map Cl.name);have w1:=Da (ss:=fs.map Cl.name) (by rw [yZ];omega);have w2:=Da (ss:=os.map Cl.name) (by rw [yZ];omega);rw [es] at w1;refine ⟨u5 os,j5 rfl rfl,u5 fs,j5 rfl v1,?_⟩;refine vQ (zE (c9 (v:=false) rfl) (zE (c9 (v:=false) (y3 rfl rfl (QM (Pb _)))) (c9 (v:=false) (y3 (j5 rfl w1) (j5 rfl w2) (QM (Pb _)))))) ?_;refine vQ (zE (qR (xg (j5 rfl v2))) (c9 (v:=false) (y3 (j5 rfl v3) (vn rfl l0) rfl))) ?_;refine vQ (c9 (v:=false) (y3 (y3 (j5 rfl v4) (vn rfl l0) (MK ms)) (j5 rfl v5) (QM rfl))) ?_;refine ⟨_,j5 rfl v4,.lst (qC ms),j5 rfl rfl,?_⟩;refine ⟨⟨_,rfl⟩,_,xV rfl l2,_,rfl,(by rw [BJ];omega),?_⟩;exact vQ (c9 (v:=false) (y3 (j5 rfl v4) rfl (QM (RY ms)))) (hN _ _ _ _ _ _)
theorem Lv {K:Fg}:∀ ns:List Int,ns.length<=63->Gj K As Aa (.sh (scr K ns)::List.replicate ((["script","parts","works","row","turn","names","handed","found","told","copy"]:List Str).length-1) .no) (λ_=>False) λy _=>y = .at (.bl true):=by
 intro ns h63;have hlim:lim=1000000:=rfl;refine ⟨_,rfl,_,rfl,⟨ns,9,rfl,h63,by decide⟩,?_⟩;rintro _ ⟨d,z,m,_,rfl,ok,_⟩;refine ⟨d.ob Aa,j5 (y7 (y3 rfl rfl rfl) (y7 (y3 rfl rfl rfl) (y7 (y3 rfl rfl rfl) (y7 (y3 rfl rfl rfl) rfl)))) (IT ok),?_⟩;refine ⟨_,rfl,_,rfl,⟨ns,2,rfl,h63,by decide,by decide⟩,?_⟩;rintro _ ⟨n,rfl⟩;refine ⟨_,jZ (k:=2) rfl (by decide),?_⟩;refine VX (λrest ε=>∃(n:Int)(s4 s5 s6 s7 s8 s9:MSlot),ε=[.sh (scr K ns),.sh d.pv,.sh (d.ob Aa),p9 n,s4,s5,s6,s7,s8,s9]) ?_ ?_ _ _ ⟨n,_,_,_,_,_,_,rfl⟩
 ·rintro ε ⟨n,s4,s5,s6,s7,s8,s9,rfl⟩;have L0:Lst d []:=⟨(λ_ z=>nomatch z),uw⟩;have v0:=JN (C:=Aa) As ok L0 (.done ((Wo ok L0).mpr .nil)) (by simp);exact ⟨.at (.bl true),y3 (j5 (y7 rfl (y7 (vn rfl l0) rfl)) v0) (vn rfl l0) rfl,rfl⟩
 ·rintro x rest ε ⟨n,s4,s5,s6,s7,s8,s9,rfl⟩;refine ⟨_,rfl,⟨n,rfl⟩,_,rfl,⟨n,rfl⟩,⟨d,rfl,ok⟩,?_⟩;rintro _ n1 ⟨e,os,he,rfl,nd,hs⟩;obtain ⟨cs,ec,L⟩:=SR he nd hs;rw [<- ec];exact LC ok L n1 _ _ _ _ _ λ_ _ _ _ _ _=>⟨n1,_,_,_,_,_,_,rfl⟩
theorem HF (F:Fun K "law" "law" wI f fd)(Eb:Fn P w K mg base 2 "_law_in_order" ["parts","names","way"] (v7 wv))(Q9:Fn P w K mg base 11 "_law_led" ["works","parts","names"] (v7 (QE (LQ.mk P w K mg base) Aa)))(J7:Fn P w K mg base 4 "_law_parts" ["script","most"] (spV (XY K) wX))(N9:Fn P w K mg base 2 "_law_some" ["row","parts"] (spD Za Xb))(A8:Fn P w K mg base 2 "_law_stream" ["script","k"] (spN (wD K) vT))(Ak:Fn P w K mg base 10 "to_steep" ["works","names"] (p8 (xX (LQ.mk P w K mg base) Aa)))(Af:mg "list"=none)(Ac:mg "range"=none)(Ar:mg "sorted"=none)(J3:mg "Works"=some (.ref Aa))(J6:Mkr P w K mg base 5 Aa ["self","rinses","cloths","last","time"] (spI Aa (QA Aa))):FnOk P w K mg base v9 12 f fd ["script"] (Zk K) :=
 okL (k:=11) (b:=Gj K (LQ.mk P w K mg base) Aa) F sc_law (λcdv A outer s H E hr=>⟨_,(j3 (sW 1 sc_law.nd (fW J7 hr (aC (pv 0) (aW z0))))
  (j3 (sW 2 sc_law.nd (pe_mk J6 hr (by decide) rfl J3 (aC (iW (K:=K) rfl (pv 1) z0) (aC (iW (K:=K) rfl (pv 1) z0) (aC (iW (K:=K) rfl (pv 1) z0) (aW (iW (K:=K) rfl (pv 1) z0)))))))
  (j3 (sW 3 sc_law.nd (fW A8 hr (aC (pv 0) (aW z0))))
  (j3 (xn PassesOwn.never rfl (zr rfl Ac (aW z0)) (gW 4 sc_law.nd)
   (j3 (sW 5 sc_law.nd (fW N9 hr (aC (pv 3) (aW (pv 1)))))
  (j3 (sW 6 sc_law.nd (zI (vh (K:=K) rfl) rfl Af zC (aW (pv 5))))
  (j3 (sW 7 sc_law.nd (fW Q9 hr (aC (pv 2) (aC (pv 1) (aW (pv 6))))))
  (j3 (n8 (PW.pt (zL (f9 (BR) (pv 7) jw (m9 _)) (zL (f9 (ju (K:=K) (qT hr) rfl) (pv 6) (pv 5) (m9 _)) (jY (f9 (ju (K:=K) (qT hr) rfl) (k9 (Vi (K:=K) rfl rfl) rfl Ar ZG (aW (pv 7))) (k9 (Vi (K:=K) rfl rfl) rfl Ar ZG (aW (pv 5))) (m9 _)))))) (j4 (y4 xR)) n9)
  (j3 (n8 (PW.pt (zL (qO (qD (K:=K) rfl (fW Eb hr (aC (pv 1) (aC (pv 7) (aW z0)))) (λ_=>rfl))) (jY (f9 (ju (K:=K) (qT hr) rfl) (fW Ak hr (aC (pv 2) (aW (pv 7)))) (@zb _ _ _ _ u9) (m9 _))))) (j4 (y4 xR)) n9)
  (j3 (n8 (f9 (ju (K:=K) (qT hr) rfl) (jX (zY (K:=K) (qT hr) rfl) (fW Ak hr (aC (pv 2) (aW (pv 5)))) (@zb _ _ _ _ u9) (m9 _)) (fW Eb hr (aC (pv 1) (aC (pv 5) (aW z0)))) (m9 _)) (j4 (y4 xR)) n9)
  (j3 (sW 8 sc_law.nd (fW Ak hr (aC (pv 2) (aW (pv 5)))))
  (j3 (sW 9 sc_law.nd (zI (vh (K:=K) rfl) rfl Af zC (aW (pv 8))))
  (j3 (jc (ja (K:=K) rfl PySem.F.plainAttrs_list PySem.F.slot_list_append PySem.F.type_list_append XN (pv 8) (w5 (@xp _ _ _ _ _ (aC z0 (aW z0))) u9)))
  (j4 (n8 (f9 (ju (K:=K) (qT hr) rfl) (fW Ak hr (aC (pv 2) (aW (pv 5)))) (pv 9) (m9 _)) (j4 (y4 xR)) n9))))))))))))
  (j4 (y4 (jX (zY (K:=K) (qT hr) rfl) (fW Ak hr (aC (pv 2) (aW (@zb _ _ _ _ u9)))) (@zb _ _ _ _ u9) (m9 _)))))))),
  (by repeat' first|infer_instance|(refine @Mi.instSemWSTSeqWSeq _ _ _ _ ?_ ?_)|(apply @Mi.instSemWSTForWForOfSemWIOfSemWG))⟩) Lv
theorem DL {K:Fg}{fd:FuncData}{T:Addr}{ob:Obj}{items:Array Value}(hd:fd.defaults = .ref T)(q:K.lookup T=some ob)(hs:ob.data = .seq items n)(h:∀ us:List Value,us.length=ps.length->∃ k:Option (Array Value)->Sem (List (Str×Value)),bindArgs fd ⟨us,[]⟩=seqItems? fd.defaults >>= k/\k (some items)=pure (ps.zip us)):Binds K fd ps []:=λs us X hl=>by
 rw [yp] at hl ⊢;obtain ⟨k,e1,e2⟩:=h us hl;exact BindsTo.of_defaults hd (X _ _ q) hs e1 e2
abbrev so (f:Addr):Option (Option Value):=some (some (.ref f))
abbrev fO (oc:Value)(od:Option Addr)(x q:Str)(st:Stmt)(dV kV dc pm:Value)(an:Option Addr)(cd ct:Value)(sl:Array (Option Value)):Option Obj:=some ⟨oc,od,.func (PySem.W.fnOf x q (zi st) (qz st) (j9 st) dV kV dc pm an cd ct),sl⟩
theorem fnM (P:Program)(w:World)(base:Heap){K:Fg}{mg:Str->Option Value}{k:Nat}{f:Addr}{fd:FuncData}{sp:Sp}{x:Str}(h:FnOk P w K mg base v9 k f fd ps sp)(a:mg x=some (.ref f))(kp:PySem.W.keepIn K (.ref f)=true)(b:Binds K fd ps []):Fn P w K mg base k x ps sp:=⟨f,fd,h,a,kp,b⟩
theorem bi1 {K:Fg}{x:Str}{f:Addr}{fd:FuncData}{p:Str}(F:Fun K x qual st f fd)(h:∀(kV doc pm:Value)(an:Option Addr)(cdv ct u:Value),bindArgs (PySem.W.fnOf x qual (zi st) (qz st) (j9 st) .none kV doc pm an cdv ct) ⟨[u],[]⟩=pure [(p,u)]):Binds K fd [p] []:=F.binds λa b c d e g us hl=>match us,hl with|[_],_=>h a b c d e g _
theorem bi2 {K:Fg}{x:Str}{f:Addr}{fd:FuncData}{p:Str}(F:Fun K x qual st f fd)(h:∀(kV doc pm:Value)(an:Option Addr)(cdv ct u v:Value),bindArgs (PySem.W.fnOf x qual (zi st) (qz st) (j9 st) .none kV doc pm an cdv ct) ⟨[u,v],[]⟩=pure [(p,u),(q,v)]):Binds K fd [p,q] []:=F.binds λa b c d e g us hl=>match us,hl with|[_,_],_=>h a b c d e g _ _
structure Zt (P:Program)(w:World)(K:Fg)(mg:Str->Option Value)(base h:Heap):Prop where
 X:K.In h
 G:h.Ns mainGlobals mg
def FG (K:Fg)(x:Str)(st:Stmt):Prop:=∃ f oc od kV dc pm an cd ct sl,PySem.W.nsIn K mainGlobals x=so f/\K.lookup f=fO oc od x x st .none kV dc pm an cd ct sl/\PySem.W.codeIn K cd x=true/\PySem.W.keepIn K (.ref f)=true
theorem FG.i {K:Fg}{x:Str}{f:Addr}{kV:Value}(a:PySem.W.nsIn K mainGlobals x=so f)(l:K.lookup f=fO oc od x x st .none kV dc pm an cd ct sl)(c:PySem.W.codeIn K cd x=true)(k:PySem.W.keepIn K (.ref f)=true):FG K x st:=⟨_,_,_,_,_,_,_,_,_,_,a,l,c,k⟩
def FM (K:Fg)(C:Addr)(x q:Str)(st:Stmt):Prop:=∃ f oc od kV dc pm an cd ct sl,PySem.W.findIn K (.ref C) x=so f/\PySem.W.isFn K (.ref f)=true/\K.lookup f=fO oc od x q st .none kV dc pm an cd ct sl/\PySem.W.codeIn K cd q=true/\PySem.W.keepIn K (.ref f)=true
theorem FM.i {K:Fg}{x:Str}{f:Addr}{kV:Value}(a:PySem.W.findIn K (.ref C) x=so f)(i:PySem.W.isFn K (.ref f)=true)(l:K.lookup f=fO oc od x q st .none kV dc pm an cd ct sl)(c:PySem.W.codeIn K cd q=true)(k:PySem.W.keepIn K (.ref f)=true):FM K C x q st:=⟨_,_,_,_,_,_,_,_,_,_,a,i,l,c,k⟩
abbrev BdA (x q:Str)(st:Stmt)(ps:List Str):Prop:=∀(kV doc pm:Value)(an:Option Addr)(cdv ct:Value)(us:List Value),us.length=ps.length->bindArgs (PySem.W.fnOf x q (zi st) (qz st) (j9 st) .none kV doc pm an cdv ct) ⟨us,[]⟩=pure (ps.zip us)
section
variable {P:Program}{w:World}{K:Fg}{mg:Str->Option Value}{base h:Heap}{k:Nat}{ps:List Str}{sp:Sp}{x q:Str}{st:Stmt}{C:Addr}
theorem fG (Z:Zt P w K mg base h)(a:FG K x st)(H:∀{f fd},Fun K x x st f fd->FnOk P w K mg base v9 k f fd ps sp)(b:BdA x x st ps:=by intro _ _ _ _ _ _ us hl;first|exact (match us,hl with|[_],_=>rfl)|exact (match us,hl with|[_,_],_=>rfl)|exact (match us,hl with|[_,_,_],_=>rfl)|exact (match us,hl with|[_,_,_,_],_=>rfl)|exact (match us,hl with|[_,_,_,_,_],_=>rfl)):Fn P w K mg base k x ps sp:=by obtain ⟨f,oc,od,kV,dc,pm,an,cd,ct,sl,a,l,c,kp⟩:=a;exact ⟨f,_,H (wd l c kp),PySem.W.mg_of Z.X Z.G a,kp,(wd l c kp).binds b⟩
theorem fM (Z:Zt P w K mg base h)(kc:zy K C)(a:FM K C x q st)(H:∀{f fd},Fun K x q st f fd->FnOk P w K mg base v9 k f fd ps sp)(b:BdA x q st ps:=by intro _ _ _ _ _ _ us hl;first|exact (match us,hl with|[_],_=>rfl)|exact (match us,hl with|[_,_],_=>rfl)|exact (match us,hl with|[_,_,_],_=>rfl)|exact (match us,hl with|[_,_,_,_],_=>rfl)|exact (match us,hl with|[_,_,_,_,_],_=>rfl)):Mt P w K mg base k C x ps sp:=by obtain ⟨f,oc,od,kV,dc,pm,an,cd,ct,sl,a,i,l,c,kp⟩:=a;exact ⟨f,_,H (wd l c kp),⟨a,i,kp⟩,kc.c,(wd l c kp).binds b⟩
end
theorem all_mk {l:PySem.W.OpenLaw}{w:World}{K:Fg}{h:Heap}{mg:Str->Option Value}{fa f37 f53 f54 f63:Addr}{od37 od53 od54 od63 an37 an53 an54 an63:Option Addr}{sl37 sl53 sl54 sl63:Array (Option Value)}{oc37 oc53 oc54 oc63 kV37 kV53 kV54 kV63 dc37 dc53 dc54 dc63 pm37 pm53 pm54 pm63 ct37 ct53 ct54 ct63 cd54 cd63:Value}{cc37 cc53:Addr}{T54:Addr}{qc54 qv54_0 qv54_1:Value}{qd54:Option Addr}{qn54:Nat}{qs54:Array (Option Value)}(X:K.In h)(TT:∀ P∈[212,298],h.get? P=some (PySem.W.tabObj #[]))(hTB:TABS=[(212,#[],[((⟨61,30,61,109⟩:Pos),("by_steepness.<locals>.<lambda>":Str))]),(298,#[],[((⟨133,46,133,96⟩:Pos),("to_steep.<locals>.<lambda>":Str))])])(G:h.Ns mainGlobals mg)(hfa:mg "law"=some (.ref fa))(S0:W.nsIn K mainGlobals "Works"=some (some (.ref Aa)))(Q6:PySem.W.plainGet K Aa Str.empty=true)(R4:PySem.W.hasDictIn K Aa=true)(R1:PySem.W.plainOver K Aa=true)(R3:W.findIn K (.ref Aa) "__setattr__"=some (some (.builtin "object.__setattr__")))(Q1:PySem.W.makesIn K Aa=true)(R5:W.keepIn K (.ref Aa)=true)(E9:W.findIn K (.ref Aa) "given"=some none)(N1:W.findIn K (.ref Aa) "held"=some none)(J8:W.findIn K (.ref Aa) "last"=some none)(E8:W.findIn K (.ref Aa) "least"=some none)(N4:W.findIn K (.ref Aa) "time"=some none)(a0:FG K "_law_mixed" YC)(a1:FG K "_law_digit" Yh)(a2:FG K "_law_stream" JE)(a3:FG K "_law_number" YJ)(a4:FG K "_law_rinses" YL)(a5:FG K "_law_names" YH)(a6:FG K "_law_cloth" Ye)(a7:FG K "_law_parts" YK)(a8:FG K "_law_some" YM)(a9:FG K "_law_least" Yw)(a10:FG K "is_whole" Yt)(a11:FG K "name_of" YG)(a12:FG K "hue_of" Ym)(a13:FG K "length_of" YA)(a14:FG K "due_of" Yj)(a15:FG K "weight_of" YW)(a16:FG K "is_from" Yp)(a17:FG K "is_name" Yr)(a18:FG K "is_cloth" Yo)(a19:FG K "is_rinse_row" Ys)(a20:FG K "check_rinses" Yc)(a21:FG K "straight_ways" YQ)(a22:FG K "joined" Yu)(a23:FG K "lesser" YB)(a24:FG K "ways_through" YV)(a25:FG K "least_ways" Yy)(a26:FG K "sums_of" YR)(a27:FG K "least_rinses" Yx)(a28:FG K "check_start" Yd)(a29:FG K "check_cloths" Ya)(a30:FM K Aa "hues" "Works.hues" WQ)(a31:FM K Aa "tray_rinse" "Works.tray_rinse" WX)(a32:FM K Aa "rinse" "Works.rinse" WU)(a33:FM K Aa "start" "Works.start" WV)(a34:FM K Aa "names" "Works.names" WR)(a35:FM K Aa "cloth" "Works.cloth" WO)(a36:FG K "names_of" YI)(a37:W.nsIn K mainGlobals "by_steepness"=so f37)(l37:K.lookup f37=fO oc37 od37 "by_steepness" "by_steepness" JD .none kV37 dc37 pm37 an37 (.ref cc37) ct37 sl37)(c37:W.codeIn K (.ref cc37) "by_steepness"=true)(k37:W.keepIn K (.ref f37)=true)(a38:FM K Aa "cloths_in" "Works.cloths_in" WP)(a39:FM K Aa "steep_row" "Works.steep_row" WW)(a40:FG K "are_names" WZ)(a41:FG K "check_names" Yb)(a42:FG K "steep_rows" YO)(a43:FG K "turned_in" YS)(a44:FG K "turned_pair" YT)(a45:FG K "done_rows" Yi)(a46:FG K "ended_cloths" Yk)(a47:FG K "cost_of" Yg)(a48:FG K "moved" YD)(a49:FG K "is_move" Yq)(a50:FG K "walked" YU)(a51:FG K "steep_move" YN)(a52:FG K "moves_to" YE)(a53:W.nsIn K mainGlobals "to_steep"=so f53)(l53:K.lookup f53=fO oc53 od53 "to_steep" "to_steep" JF .none kV53 dc53 pm53 an53 (.ref cc53) ct53 sl53)(c53:W.codeIn K (.ref cc53) "to_steep"=true)(k53:W.keepIn K (.ref f53)=true)(a54:W.findIn K (.ref Aa) "__init__"=so f54)(i54:W.isFn K (.ref f54)=true)(l54:K.lookup f54=fO oc54 od54 "__init__" "Works.__init__" wH (.ref T54) kV54 dc54 pm54 an54 cd54 ct54 sl54)(c54:W.codeIn K cd54 "Works.__init__"=true)(k54:W.keepIn K (.ref f54)=true)(q54:K.lookup T54=some ⟨qc54,qd54,.seq #[qv54_0,qv54_1] qn54,qs54⟩)(a55:FG K "_law_ends" Yl)(a56:FG K "_law_cost" Yf)(a57:FG K "_law_ahead" WY)(a58:FG K "_law_in_order" Yn)(a59:FG K "_law_moved" Yv)(a60:FG K "_law_whole" YX)(a61:FG K "_law_moves_told" YF)(a62:FG K "_law_led" Yz)(a63:W.nsIn K mainGlobals "law"=so f63)(l63:K.lookup f63=fO oc63 od63 "law" "law" wI .none kV63 dc63 pm63 an63 cd63 ct63 sl63)(c63:W.codeIn K cd63 "law"=true)(k63:W.keepIn K (.ref f63)=true)(T4:W.nsIn K mainGlobals "all"=some none)(S4:W.nsIn K mainGlobals "bool"=some none)(S5:W.nsIn K mainGlobals "dict"=some none)(N8:W.nsIn K mainGlobals "enumerate"=some none)(T0:W.nsIn K mainGlobals "int"=some none)(N0:W.nsIn K mainGlobals "isinstance"=some none)(T5:W.nsIn K mainGlobals "len"=some none)(S3:W.nsIn K mainGlobals "list"=some none)(S8:W.nsIn K mainGlobals "min"=some none)(S2:W.nsIn K mainGlobals "range"=some none)(T1:W.nsIn K mainGlobals "set"=some none)(Q4:W.nsIn K mainGlobals "sorted"=some none)(S9:W.nsIn K mainGlobals "str"=some none)(S7:W.nsIn K mainGlobals "sum"=some none)(R9:W.nsIn K mainGlobals "tuple"=some none)(S6:W.nsIn K mainGlobals "zip"=some none)(Ex:W.nsIn K mainGlobals "LONGEST_NAME"=some (some (.int 8 B4)))(E7:W.nsIn K mainGlobals "MOST_CLOTHS"=some (some (.int 10 D4)))(N7:W.nsIn K mainGlobals "MOST_HUES"=some (some (.int 4 Ei)))(S1:W.nsIn K mainGlobals "PARTS"=some (some (.int 5 J4)))(hC37:PySem.W.codeHdIn K cc37 212=true)(o37:K.lookup 212=none)(hC53:PySem.W.codeHdIn K cc53 298=true)(o53:K.lookup 298=none):∃ fd:FuncData,(∀ (s:Shared) (v:Value),BindsTo s fd ⟨[v],[]⟩ [("script",v)])/\Qf K h/\∀ base:Heap,K.In base->base.Ns mainGlobals mg->FnOk l.prog w K mg base v9 12 fa fd ["script"] (Zk K):=by
 have e:=hfa.symm.trans (W.mg_of X G a63);cases e;have Ax:=W.mg_none_of X G T4;have Ep:=W.mg_none_of X G S4;have D8:=W.mg_none_of X G S5;have Aj:=W.mg_none_of X G N8;have J1:=W.mg_none_of X G T0;have Ab:=W.mg_none_of X G N0;have Ad:=W.mg_none_of X G T5;have Af:=W.mg_none_of X G S3;have Q2:=W.mg_none_of X G S8;have Ac:=W.mg_none_of X G S2;have Q5:=W.mg_none_of X G T1;have Ar:=W.mg_none_of X G Q4;have Id:=W.mg_none_of X G S9;have Ee:=W.mg_none_of X G S7;have Ej:=W.mg_none_of X G R9;have J0:=W.mg_none_of X G S6;have B5:=W.mg_of X G Ex;have B9:=W.mg_of X G E7;have Ed:=W.mg_of X G N7;have N5:=W.mg_of X G S1;have J3:=W.mg_of X G S0;have B6:zy K Aa:=⟨⟨Q6,R4,R1,R3⟩⟩;have Q7:xa K Aa "given":=⟨E9⟩;have R6:xa K Aa "held":=⟨N1⟩;have R8:xa K Aa "last":=⟨J8⟩;have Q8:xa K Aa "least":=⟨E8⟩;have R7:xa K Aa "time":=⟨N4⟩;have F37:=wd (st:=JD) l37 c37 k37;have F53:=wd (st:=JF) l53 c53 k53;have F54:=Lc (st:=wH) l54 c54 k54;have F63:=wd (st:=wI) l63 c63 k63;have b37:=bi1 (p:="cloths") F37 λ_ _ _ _ _ _ _=>rfl;have b53:=bi2 (p:="works") (q:="names") F53 λ_ _ _ _ _ _ _ _=>rfl;have b54:Binds K (W.fnOf "__init__" "Works.__init__" (zi wH) (qz wH) (j9 wH) (.ref T54) kV54 dc54 pm54 an54 cd54 ct54) ["self","rinses","cloths","last","time"] []:=DL (T:=T54) rfl q54 rfl λus hl=>match us,hl with|[_,_,_,_,_],_=>⟨_,rfl,rfl⟩
 have tB37:(212,#[],[((⟨61,30,61,109⟩:Pos),("by_steepness.<locals>.<lambda>":Str))])∈TABS:=by rw [hTB];simp
 have tB53:(298,#[],[((⟨133,46,133,96⟩:Pos),("to_steep.<locals>.<lambda>":Str))])∈TABS:=by rw [hTB];simp
 have TK:Qf K h:=by
  have hd37:=PySem.W.codeHd_of_K X hC37;have hd53:=PySem.W.codeHd_of_K X hC53;refine ⟨λp hp=>?_,λp hp=>?_,λp hp q hq=>?_,λp hp=>?_,λp hp q hq e=>?_,λp hp=>?_⟩<;>rw [hTB] at hp<;>(try rw [hTB] at hq)<;>simp only [yJ,yf,or_false] at hp
  ·rcases hp with rfl|rfl
   ·exact TT 212 (by simp)
   ·exact TT 298 (by simp)
  ·rcases hp with rfl|rfl
   ·exact trivial
   ·exact trivial
  ·rcases hp with rfl|rfl
   ·rfl
   ·rfl
  ·rcases hp with rfl|rfl
   ·exact (hd37.tab (TT 212 (by simp))).isCodeTable
   ·exact (hd53.tab (TT 298 (by simp))).isCodeTable
  ·simp only [yJ,yf,or_false] at hq;rcases hp with rfl|rfl<;>rcases hq with rfl|rfl<;>first|rfl|exact absurd e (by decide)
  ·rcases hp with rfl|rfl
   ·exact o37
   ·exact o53
 refine ⟨W.fnOf "law" "law" (zi wI) (qz wI) (j9 wI) .none kV63 dc63 pm63 an63 cd63 ct63,λs v=> .of_eq rfl,TK,λbase _ _=>?_⟩;have Z:Zt l.prog w K mg base h:=⟨X,G⟩;have Eo:=fG Z a0 λF=>HM F;have Ae:=fG Z a1 λF=>Hn F;have A8:=fG Z a2 λF=>Rc F Eo Ad Ac Ee;have Av:=fG Z a3 λF=>HV F Ae;have Ew:=fG Z a4 λF=>HX F Ae Av Ac;have J2:=fG Z a5 λF=>HS F Ae Ad Ac;have N6:=fG Z a6 λF=>Hk F Ae Av;have J7:=fG Z a7 λF=>HW F N6 Ae J2 Av Ew A8;have N9:=fG Z a8 λF=>HY F Ae Ad Ac;have J5:=fG Z a9 λF=>HG F Ad Af Q2 Ac;have Al:=fG Z a10 λF=>HC F Ep J1 Ab;have Ag:=fG Z a11 λF=>HR F;have Ap:=fG Z a12 λF=>Hu F;have Ai:=fG Z a13 λF=>HK F;have Ev:=fG Z a14 λF=>Hq F;have Ah:=fG Z a15 λF=>Rl F;have Aq:=fG Z a16 λF=>Hy F Al;have Eu:=fG Z a17 λF=>HA F Ax Ab Ad Id B5;have Em:=fG Z a18 λF=>Hw F Ev Ap Aq Eu Al Ai Ag Ah Ab Ad Ej N5;have B3:=fG Z a19 λF=>HB F Al Ax Ab Ad Af;have B0:=fG Z a20 λF=>Hi F B3 Ax Ab Ad Af Ed;have Az:=fG Z a21 λF=>Rb F Aj;have Ey:=fG Z a22 λF=>HD F;have E2:=fG Z a23 λF=>HL F;have A5:=fG Z a24 λF=>Rk F Ey E2 J0;have Ec:=fG Z a25 λF=>HI F Az A5 Ad Ac;have Et:=fG Z a26 λF=>Rf F;have A9:=fG Z a27 λF=>HH F B0 Ec Et;have B8:=fG Z a28 λF=>Hj F Aq;have A4:=fG Z a29 λF=>Hg F Em Ag Ad B9;have Am:=fM (sp:=(v7 (jQ Aa))) Z B6 a30 λF=>NV F Ad;have At:=fM (sp:=(v7 (XB Aa))) Z B6 a31 λF=>Hc F;have D5:=fM (sp:=(v7 (QB Aa))) Z B6 a32 λF=>NY F At;have D6:=fM (sp:=(v7 (XA Aa))) Z B6 a33 λF=>NZ F;have B7:=fM (sp:=(p8 (Xz Aa))) Z B6 a34 λF=>NX F Ar;have An:=fM (sp:=(v7 (vx Aa))) Z B6 a35 λF=>NT F Ab Id;have En:=fG Z a36 λF=>HU F Ag;have A6:=fnM l.prog w base (Hf F37 Ai Ag Ah Ar rfl (λ_ X2=>PySem.W.codeHd_of_K X2 hC37) tB37) (W.mg_of X G a37) k37 b37;have Au:=fM (sp:=(p8 (Xy Aa))) Z B6 a38 λF=>NU F Ap;have Aw:=fM (sp:=(p8 (QC Aa))) Z B6 a39 λF=>Ha F A6 En Au;have Ef:=fG (sp:=(v7 (wp Aa))) Z a40 λF=>He F Ax Ab Ad Af Q5 B7;have Ao:=fG (sp:=(v7 (wq Aa))) Z a41 λF=>Hh F Ef;have D9:=fG (sp:=(p8 (XI Aa))) Z a42 λF=>Ra F Ac Am Aw;have Eh:=fG Z a43 λF=>Rh F Aj J0;have Ay:=fG Z a44 λF=>Ri F Eh;have Eg:=fG (sp:=(p8 (QD Aa))) Z a45 λF=>Ho F Ao Ap Ai An D5 D6;have A7:=fG (sp:=(p8 (XC Aa))) Z a46 λF=>Hr F Eg An;have Ek:=fG (sp:=(v7 (jR Aa))) Z a47 λF=>Hm F A7 Ah Ee;have A3:=fG Z a48 λF=>HN F;have Es:=fG Z a49 λF=>Hz F Ax;have Ez:=fG Z a50 λF=>Rj F Es A3 Aj Ad Af;have Ea:=fG (sp:=(v7 (vB Aa))) Z a51 λF=>HZ F Ek A3;have El:=fG (sp:=(Zl (XH (LQ.mk l.prog w K mg base)))) Z a52 λF=>HP F A3 Ay Af;have Ak:Fn l.prog w K mg base _ _ _ (p8 (xX (LQ.mk l.prog w K mg base) Aa)):=⟨_,_,Rg F53 Ao El Ea D9 rfl (λ_ X2=>PySem.W.codeHd_of_K X2 hC53) tB53,W.mg_of X G a53,k53,b53⟩;have J6:Mkr l.prog w K mg base _ Aa _ (spI Aa (QA Aa)):=⟨_,_,NW F54 A4 B8 A9 Ag D8 Af Am,⟨Q1,a54,i54,R5⟩,b54⟩;have Q0:=fG Z a55 λF=>Ht F J5 D8;have N2:=fG Z a56 λF=>Hl F Q0 Ee;have J9:=fG Z a57 λF=>Hd F;have Eb:=fG Z a58 λF=>Hv F J9 D8 Ad Ac;have Er:=fG Z a59 λF=>HE F Af;have N3:=fG Z a60 λF=>Rm F Ep J1 Ab;have D7:=fG Z a61 λF=>HQ F N3 Ax Ab Ad Af Ej;have Q9:=fG (sp:=(v7 (QE (LQ.mk l.prog w K mg base) Aa))) Z a62 λF=>HJ F N2 Er D7 Ak Ez Ad Af;exact HF F63 Eb Q9 J7 N9 A8 Ak Af Ac Ar J3 J6
theorem walk {l:PySem.W.OpenLaw}{q:Program}{loose:List Str}{XP:(Str->Option Value)->Heap->Prop}{YP:World->Heap->Prop}{d:DefRec}{K:Params->Fg}(hn:l.most=some 63)(hdf:d.params.defaults=[])(hY:∀ (w:World) (h:Heap),YP w h->(K w.params).In h)(F:∀ (w:World) (mg:Str->Option Value) (fa:Addr) (h:Heap),YP w h->(K w.params).In h->h.Ns mainGlobals mg->mg d.name=some (.ref fa) -> ∃ fd:FuncData,(∀ (s:Shared) (u:Value),BindsTo s fd ⟨[u],[]⟩ [("script",u)])/\Qf (K w.params) h/\∀ base:Heap,(K w.params).In base->base.Ns mainGlobals mg->FnOk l.prog w (K w.params) mg base v9 12 fa fd ["script"] (Zk (K w.params))):PySem.W.WalkO q loose XP YP l.row.toRowW d [] (λf vs=>PySem.call f vs) :=
 L2.Fx (n:=63) (k:=12) (x:="script") (CX:=λ_=>v9) (sp:=λw=>Zk (K w.params)) hn (by decide) hdf ⟨rfl,by decide,by decide⟩ hY F (λ_ _ a ns hl _ hS=>⟨a,ns,rfl,hS,hl,λ_=>rfl⟩) λ_ _ _ _ _ z=>z
end Lw
open PySem PySem.W PyProof.Rows
set_option maxRecDepth 100000 in
set_option maxHeartbeats 0 in
theorem PySem.Challenge.cw_rinsework_k23_whole_moves_to_steep_order_holds : PySem.Challenge.rw_rinsework_k23_whole_moves_to_steep_order.Holds := by
  w_on; o_law; k_head; (case hw => w_witness2)
  k_fill
  refine Lw.walk (l := PySem.Challenge.rw_rinsework_k23_whole_moves_to_steep_order) rfl rfl (λw h Y => PySem.W.km_in_of Y) ?F
  case F =>
    intro w mg fa h Y KX G hmg
    apply Lw.all_mk KX (PySem.W.km_tabs_of Y) rfl G hmg
    iterate 12 k_is
    iterate 30 (apply Lw.FG.i;iterate 4 k_is)
    iterate 6 (apply Lw.FM.i;iterate 5 k_is)
    iterate 1 (apply Lw.FG.i;iterate 4 k_is)
    iterate 4 k_is
    iterate 2 (apply Lw.FM.i;iterate 5 k_is)
    iterate 13 (apply Lw.FG.i;iterate 4 k_is)
    iterate 10 k_is
    iterate 8 (apply Lw.FG.i;iterate 4 k_is)
    iterate 24 k_is
    iterate 4 kernel_rfl
