import PyProof.Rows.All
import Wide.All
import OpenK.AllK
import Wide.FinOn
import Lean
import PyProof.EqAt
import PyProof.EqKinds
import PyProof.NeKinds
import PyProof.TupleCall
import PySem.Challenge.RW_rinsework_k64_no_trayed_plans
set_option Elab.async false
set_option linter.all false
set_option maxRecDepth 100000
namespace PySem.W.Fast
def tw13498465856530883106:=0
def tw11849238221531211299:=0
def tw9304614683174619749:=0
def tw14950172848813244583:=0
def tw11021088816968740873:=0
def tw2733155787338637385:=0
def tw8233353215791828873:=0
def tw2670159651757822701:=0
def tw13324072328626893040:=0
def tw4676981096746915475:=0
def tw2034534677135596308:=0
def tw16980182640055346485:=0
def tw2228607175342372150:=0
def tw10024093333325660087:=0
def tw8135188242697748696:=0
def tw16196278317232423897:=0
def tw2908152151216218811:=0
def tw10331433479027208060:=0
def tw13976106484301419775:=0
def tw14206067053579417714:=0
def tw13934650852480165097:=0
def tw12664851941289012241:=0
def tw6275163168086848534:=0
def tw1227077677789159910:=0
def tw5019391256128485593:=0
def tw3172323579644390375:=0
def tw10846832280089148840:=0
def tw10459520089082683997:=0
def tw16650882125676532792:=0
def tw16325237986029687670:=0
def tw4340564744322716635:=0
def tw867679878099979800:=0
def tw13723606550487747141:=0
def tw1105124094511506859:=0
def tw8786780206021309584:=0
def tw4660136988565966754:=0
def tw16819619377652142786:=0
def tw7108194538852718584:=0
def tw12392301474778184320:=0
def tw9307394523127749858:=0
def tw10247918826034472000:=0
def tw4865682439867519460:=0
def tw7261593133460789592:=0
def tw11130232690038361141:=0
def tw316643927789311405:=0
def tw5001004462521199367:=0
def tw10689575739402752785:=0
def tw10680960157189030360:=0
def tw8303472764269609475:=0
def tw8841264438787318837:=0
def tw11933065588159476932:=0
def tw17074763218965058574:=0
def tw2195790363671490388:=0
def tw15210592246831610581:=0
def tw11243007426059625378:=0
def tw16520016909088250264:=0
def tw11781956644938819894:=0
def tw11554702064610646289:=0
def tw17970146964741037391:=0
def tw17600510806225578800:=0
def tw15904699837416422607:=0
def tw8758984762812163092:=0
def tw17157606588805684791:=0
def tw16965759456850591390:=0
def tw1307042216527831136:=0
def tw6853128013422789662:=0
def tw16774279401066456635:=0
def tw17385949515523238237:=0
def tw12252574296971355589:=0
def tw15339388163650759447:=0
def tw910454597500190640:=0
def tw15938444380983043256:=0
def tw11723223036527098192:=0
def tw5109521543329766844:=0
def tw2486627835576772961:=0
def tw12977615187046442215:=0
def tw2395354035694362798:=0
def tw15976465125552985767:=0
def tw2881270251568625823:=0
def tw13702698413387499993:=0
def tw2155634272048959293:=0
def tw15147197421134677115:=0
def tw17081228760522396147:=0
def tw1064552667553130716:=0
def tw10050897696734214085:=0
def tw14521655663956667296:=0
def tw7381317833164862246:=0
def tw12146338061647123553:=0
def tw1644059977685059434:=0
def tw14206356547460347994:=0
def tw9366184298208480899:=0
def tw9960135035774203788:=0
def tw13882807262536810837:=0
def tw6822530246165108822:=0
def tw11747819150273496060:=0
def tw5705477198634231612:=0
def tw3865630440185534529:=0
def tw15029440777769277598:=0
def tw9528783443614578229:=0
def tw18032433515021347883:=0
def tw1849330156925832524:=0
def tw13569408366534074648:=0
def tw2687125831238311670:=0
def tw7255858052360869798:=0
def tw16163791663546245780:=0
def tw8694314968432435949:=0
def tw4769122656798797687:=0
def tw1102462763470598164:=0
def tw5346622976042187866:=0
def tw14194093421323928199:=0
def tw376693608433916620:=0
def tw7088103994720875390:=0
def tw15701944391316988542:=0
def tw11981096417099385890:=0
def tw15074680463484329201:=0
def tw7483912138277703523:=0
def tw1315923379981790467:=0
def tw12239475361370419095:=0
def tw16628336182459837547:=0
def tw4778427258449855618:=0
def tw12612323334670122148:=0
def tw3853625243026945828:=0
def tw2132659857755871181:=0
def tw1336380563469041147:=0
def tw18006955836561561278:=0
def tw9868616830987624850:=0
def tw14778697749546662210:=0
def tw1103694884527135256:=0
def tw7463353214498159008:=0
def tw3115429000841947710:=0
def tw5569904445441442741:=0
def tw587003824312935617:=0
def tw3255421387534516450:=0
def tw13105747813656283659:=0
def tw6959467298024928107:=0
def tw11410941282148259525:=0
def tw13724727593505332932:=0
def tw1318767447190871771:=0
def tw16902947227520371572:=0
def tw2302988493277041404:=0
def tw14543588933439972606:=0
def tw4088649094989255576:=0
def tw9911999220646139287:=0
def tw11147342814093410601:=0
def tw2088418619700073004:=0
def tw11425921319529412485:=0
def tw1697731132074646053:=0
def tw3925204983824029298:=0
def tw7845886926219487339:=0
def tw11738043360308294631:=0
def tw2992285388937873830:=0
def tw17529529282571382579:=0
def tw4679547760811605328:=0
def tw18350476002364659740:=0
def tw4810725122104072259:=0
def tw13955774340185051462:=0
def tw6545752210423253099:=0
def tw15416090210999357115:=0
def tw9099324930420366005:=0
def tw10341474421395669505:=0
def tw13837849464248890050:=0
def tw13773622973141129424:=0
def tw11828838702379304395:=0
def tw16059032610455331691:=0
def tw4423352644414183498:=0
def tw17421106001317866154:=0
def tw15687920772153417391:=0
def tw94220685349375386:=0
def tw4804675676920244741:=0
def tw11520271990696717393:=0
def tw8047982868745198590:=0
def tw5829236655485385892:=0
def tw9219646929863903661:=0
def tw4534242620679271736:=0
def tw547453527089577285:=0
def tw340949979380562933:=0
def tw16516395988968490452:=0
def tw13936155618884003020:=0
def tw13311947513640580662:=0
def tw11207677464233420837:=0
def tw5713578969805726023:=0
def tw3112211039197257690:=0
def tw12236523062727603925:=0
def tw8985560174250521815:=0
def tw17517531946116546764:=0
def tw10282151960406479393:=0
def tw13879495644072776708:=0
def tw2652315854889526784:=0
def tw4305968165200443418:=0
def tw2615789018985475539:=0
def tw2583661654308335688:=0
def tw3545687338871068011:=0
def tw3728419205255054581:=0
def tw12280244289174846646:=0
def tw15387557080846702781:=0
def tw13315694379377200934:=0
def tw12612658441058531339:=0
def tw10875387143331738631:=0
def tw6581819684680622760:=0
def tw515323889213644772:=0
end PySem.W.Fast
abbrev yZ:=@List.length_map
abbrev yY:=@PySem.wpAny_bind
abbrev yW:=@PySem.Heap.get?_push_of_some
abbrev yV:=@List.length_append
abbrev yU:=@List.mem_singleton
abbrev yT:=@List.size_toArray
abbrev yS:=@List.getElem?_eq_getElem
abbrev yR:=@List.mem_cons_self
abbrev yQ:=@Bool.false_ne_true
abbrev yP:=@Nat.le_refl
abbrev yO:=@List.mem_cons_of_mem
abbrev yN:=@PySem.Heap.lt_size
abbrev yM:=@List.getElem?_map
abbrev yL:=@List.mem_cons
abbrev yK:=@List.getElem?_eq_some_iff
abbrev yJ:=@List.length_cons
abbrev yI:=@PySem.wpAny_pure
abbrev yH:=@List.map_cons
abbrev yG:=@Nat.ne_of_lt
abbrev yF:=@List.mem_append
abbrev yE:=@List.map_append
abbrev yD:=@Option.bind_some
abbrev yC:=@Option.map_eq_some_iff
abbrev yB:=@List.mem_map
abbrev yA:=@decide_eq_false
abbrev yz:=@PySem.Heap.get?_push_size
abbrev yy:=@List.getD_eq_getElem?_getD
abbrev yx:=@Nat.lt_of_lt_of_le
abbrev yw:=@List.mem_append_right
abbrev yv:=@List.map_map
abbrev yu:=@List.mem_of_getElem?
abbrev yt:=@decide_eq_true
abbrev yr:=@List.getElem?_set
abbrev yq:=@List.flatten_cons
abbrev yp:=@List.append_nil
abbrev yo:=@List.mem_append_left
abbrev yn:=@List.nodup_cons
abbrev ym:=@PySem.Heap.get?_update_other
abbrev yk:=@List.drop_eq_getElem_cons
abbrev yj:=@Nat.le_trans
abbrev yi:=@Int.emod_lt_of_pos
abbrev yh:=@List.getElem?_set_ne
abbrev yg:=@Bool.and_eq_true
abbrev yf:=@List.getElem_mem
abbrev ye:=@List.not_mem_nil
abbrev yd:=@Nat.zero_le
abbrev yc:=@List.length_set
abbrev yb:=@PySem.Heap.get?_none_of_le
abbrev ya:=@Int.emod_nonneg
abbrev uZ:=@List.length_take
abbrev uY:=@List.all_eq_true
abbrev uX:=@List.getElem_toArray
abbrev uW:=@List.append_assoc
abbrev uV:=@Int.eq_ofNat_of_zero_le
abbrev uU:=@List.getElem?_append_left
abbrev uT:=@Nat.lt_irrefl
abbrev uS:=@of_decide_eq_true
abbrev uR:=@List.flatten_append
abbrev uQ:=@List.getElem?_append_right
abbrev uP:=@List.mem_range
abbrev uO:=@List.length_drop
abbrev uN:=@List.lookup_cons
abbrev uM:=@List.mem_flatten
abbrev uL:=@List.nodup_append
abbrev uK:=@List.mem_filterMap
abbrev uJ:=@Nat.le_of_lt
abbrev uI:=@PySem.Heap.get?_update_self
abbrev uH:=@List.getElem?_eq_none
abbrev uG:=@List.take_append_drop
abbrev uF:=@Bool.false_eq_true
abbrev uE:=@Option.bind_eq_some_iff
abbrev uD:=@List.getElem_of_mem
abbrev uC:=@List.length_singleton
abbrev uB:=@PySem.Heap.size_push
abbrev uA:=@Int.toNat_natCast
abbrev uz:=@List.of_mem_zip
abbrev uy:=@List.find?_cons
abbrev ux:=@Option.map_some
abbrev uw:=@List.replicate_succ
abbrev uu:=@List.getElem?_set_self
abbrev ut:=@Array.getElem?_eq_some_iff
abbrev ur:=@List.exists_cons_of_ne_nil
abbrev uq:=@Nat.lt_succ_self
abbrev uo:=@List.drop_length
abbrev um:=@List.perm_middle
abbrev uk:=@List.mem_filter
abbrev uj:=@Int.mul_le_mul_of_nonneg_right
abbrev ui:=@List.length_pos_iff
abbrev uh:=@Nat.le_succ
abbrev ug:=@Nat.ne_of_gt
abbrev uf:=@List.length_range
abbrev ue:=@Array.getElem?_eq_getElem
abbrev ud:=@List.mem_of_mem_drop
abbrev uc:=@List.filter_cons
abbrev ub:=@Array.length_toList
abbrev ua:=@List.getElem?_replicate
abbrev tZ:=@List.length_eq_zero_iff
abbrev tY:=@List.map_take
abbrev tX:=@List.map_drop
abbrev tW:=@List.take_of_length_le
abbrev tV:=@List.not_lt
abbrev tU:=@Nat.lt_succ_of_lt
abbrev tT:=@List.length_replicate
abbrev tR:=@Array.getElem?_toList
abbrev tQ:=@Option.getD_none
abbrev tP:=@List.take_length
abbrev G1:=PySem.Value
abbrev G2:=PySem.Shared
abbrev G3:=PySem.Program
abbrev G4:=PySem.Around
abbrev G5:=PySem.World
abbrev AA:=PySem.Value->PySem.Shared->Prop
abbrev AB:=PySem.Str->Option PySem.Value
abbrev AE:=Unit->PySem.Shared->Prop
abbrev AF:=Nat->Nat->Bool
abbrev AH:=PySem.Result->PySem.Shared->Prop
abbrev AU:=PySem.Str->Option PySem.NameKind
abbrev AZ:=Nat->PySem.Heap->Prop
abbrev C0:=Bool->PySem.Shared->Prop
abbrev C2:=Array PySem.Value->Array PySem.Value
abbrev C3:=Nat->PySem.Value->Prop
abbrev C4:=List (PySem.Addr×PySem.Obj)
abbrev C7:=List PySem.Str
abbrev C8:=List PySem.Value
abbrev C9:=List (Option Nat)
abbrev EC:=List PySem.Addr
abbrev ED:=Array PySem.Value
abbrev EG:=Option PySem.Addr
abbrev EH:=List Int
abbrev EI:=List Nat
abbrev EJ:=List (List Int)
abbrev EK:=List PySem.Env
abbrev EM:=List (PySem.Str×PySem.Addr)
abbrev EN:=List PySem.Expr
abbrev EO:=Array (Option PySem.Value)
abbrev EQ:=Array Nat
abbrev ER:=List (Int×PySem.Str)
abbrev ET:=List (PySem.Str×PySem.Value)
abbrev EU:=List (PySem.Str×PySem.NameKind)
abbrev EV:=Option Int
abbrev EW:=Option PySem.Value
abbrev EX:=List (PySem.Str×Int)
abbrev F3:=List PySem.Stmt
abbrev F8:=List (PySem.Pos×PySem.Str)
abbrev F9:=List Bool
abbrev G0:=Array PySem.GenState
section
open PySem PySem.Spec PyProof.Rows PySem.W PySem.Calls
abbrev rB:=@if_pos
abbrev rA:=@inferInstance
abbrev rq:=@if_neg
abbrev rp:=@absurd
abbrev rn:=@PySem.F.plainAttrs_list
abbrev rl:=@PySem.boot_len
abbrev rk:=@PySem.F.slot_list_append
abbrev rj:=@PySem.F.type_list_append
abbrev rh:=@wpAny_holding
abbrev re:=@beq_eq_false_iff_ne
abbrev rb:=@Around.under_plainId
abbrev ra:=@sizeLine_eq
abbrev pZ:=@PySem.mem_of_lookup
abbrev pY:=@wpAny_truthy_bool
abbrev pX:=@wpAny_Call_Name_kw
abbrev pW:=@PySem.W.kia_one
abbrev pV:=@codeAny_builtin
abbrev pT:=@PySem.F.plain_max_loop
abbrev pS:=@PyProof.Rows.callWith_type1
abbrev pR:=@beq_self_eq_true
abbrev pQ:=@beq_iff_eq
abbrev pP:=@PySem.W.kla_obj
abbrev pO:=@PyProof.Rows.F.plain_set_update_loop
abbrev pN:=@plainId_quiet
abbrev pM:=@wpAny_mono
abbrev pL:=@congrArg
abbrev pK:=@wpAny_tryCatch
abbrev pJ:=@PySem.F.excBase_ValueError
abbrev pH:=@wpAny_passesOwn
abbrev pG:=@codeAny_mono
abbrev pE:=@codeAny_call_builtin
abbrev pD:=@PySem.W.hideAll_get
abbrev pC:=@PySem.F.plain_sum_loop
abbrev pA:=@wpAny_execs_nil
abbrev pz:=@wpAny_pyIter_list
abbrev py:=@Array.getD_eq_getD_getElem?
abbrev pr:=@wpAny_loadPart_at
abbrev pq:=@PySem.W.hideAll_none
abbrev pp:=@wpAny_call
abbrev pk:=@wpAny_seqItems
abbrev pj:=@List.mem_of_mem_take
abbrev pi:=@Heap.get?_update_ne
abbrev ph:=@List.any_cons
abbrev pd:=@PyProof.Rows.callWith_kw
abbrev pc:=@List.filterMap_cons_some
abbrev pb:=@List.length_nil
abbrev oZ:=@wpAny_updateSeq
abbrev oY:=@Nat.min_eq_left
abbrev oX:=@PySem.W.callWith_K
abbrev oW:=@tupleKind_room_in1
abbrev oV:=@Nat.lt_of_le_of_lt
abbrev oU:=@Code.quiet_builtin
abbrev oS:=@List.getElem?_drop
abbrev oR:=@wpAny_newObj_type
abbrev oQ:=@List.take_add_one
abbrev oP:=@Array.toList_inj
abbrev oO:=@Option.getD_some
abbrev oN:=@wpAny_standAt
abbrev oM:=@wpAny_letGo
abbrev oK:=@W.mg_none_of
abbrev oJ:=@W.mg_of
end
namespace L2
abbrev Fg:=PySem.W.Frag
end L2
namespace L2
open PySem PySem.Spec PyProof.Rows
variable{h' h1 h2:Heap}{ex ex' fs':EC}{rest:EN}{prog:G3}{name:Str}{value:Expr}{apos p pos' tpos:Pos}{ds:C8}{T:String}{us:C8}{C a b dx it:Addr}{u:G1}{P:G3}{w:G5}{tM h:Heap}{g':G0}{j n t':Nat}{d':Drawn}{ch fp:EC}{m qual x:Str}{c e tg:Expr}{N ps:C7}{A:G4}{E Q:AA}{s s':G2}{α:Type}{tN:C4}{pos:Pos}{op op':CmpOp}{K:Fg}{f:G1->G1->Sem G1}{es:EN}{body:F3}{lo:Int}{mA mg:AB}{kw:ET}{fd:FuncData}{tL:EK}{scope:Scope}
abbrev j5:=Sum Int Str
abbrev F7:=List (j5×Value)
def wy:j5->G1->Bool
 | .inl k,v=>Value.isInt k v
 | .inr x,v=>Value.isStrOf x v
def keyH (w:G5):j5->Int
 | .inl k=>hashInt k
 | .inr x=>hashStr w x
def vi:∀{k:j5}{v:G1},wy k v=true->(∃ i t,k=Sum.inl i/\v=Value.int i t)∨(∃ x t,k=Sum.inr x/\v=Value.str x t)
 | .inl i,v,h=>by
  obtain ⟨t,e⟩:=Value.isInt_shape (k:=i) (v:=v) h;exact .inl ⟨i,t,rfl,e⟩
 | .inr x,v,h=>by
  obtain ⟨t,e⟩:=Value.isStrOf_shape (x:=x) (v:=v) h;exact .inr ⟨x,t,rfl,e⟩
def Hh (i:Int)(t:Tok):wy (.inl i) (.int i t)=true:=by simp [wy,Value.isInt]
def BP (x:Str)(t:Tok):wy (.inr x) (.str x t)=true:=by simp [wy,Value.isStrOf]
def Hi (a b:Int):decide ((Sum.inl a:j5)=Sum.inl b)=(a==b):=by
 by_cases e:a=b
 .subst e;simp
 .have h:¬ (Sum.inl a:j5)=Sum.inl b:=λq=>e (Sum.inl.inj q);rw [yA h];exact (re.mpr e).symm
def Hl (a b:Str):decide ((Sum.inr a:j5)=Sum.inr b)=decide (a=b):=by
 by_cases e:a=b
 .subst e;simp
 .have h:¬ (Sum.inr a:j5)=Sum.inr b:=λq=>e (Sum.inr.inj q);rw [yA h,yA e]
def Hj (a:Int)(b:Str):decide ((Sum.inl a:j5)=Sum.inr b)=false:=yA (λq=>nomatch q)
def Hk (a:Str)(b:Int):decide ((Sum.inr a:j5)=Sum.inl b)=false:=yA (λq=>nomatch q)
def qI (prog:G3)(w:G5):PySem.KeyKind prog w j5 where
 is:=wy
 hash:=keyH w
 inj:=λv a b ha hb=>by
  rcases vi ha with ⟨i,t,rfl,rfl⟩|⟨x,t,rfl,rfl⟩
  .rcases vi hb with ⟨j,u,rfl,e⟩|⟨y,u,rfl,e⟩
   .injection e with e1 _;rw [e1]
   .exact nomatch e
  .rcases vi hb with ⟨j,u,rfl,e⟩|⟨y,u,rfl,e⟩
   .exact nomatch e
   .injection e with e1 _;rw [e1]
 byValue:=λk v h=>by
  rcases vi h with ⟨i,t,rfl,rfl⟩|⟨x,t,rfl,rfl⟩<;>rfl
 pyHash:=λhv h=>by
  rcases vi hv with ⟨i,t,rfl,rfl⟩|⟨x,t,rfl,rfl⟩
  .exact wpAny_pyHash_int h
  .exact wpAny_pyHash_str h
 eqBool:=λhu hv h=>by
  rcases vi hu with ⟨i,t,rfl,rfl⟩|⟨x,t,rfl,rfl⟩
  .rcases vi hv with ⟨j,u,rfl,rfl⟩|⟨y,u,rfl,rfl⟩
   .rw [Hi] at h;exact wpAny_eqBool_int h
   .rw [Hj] at h;exact SeqAt.EqAt.int_str i t y u _ _ _ _ h
  .rcases vi hv with ⟨j,u,rfl,rfl⟩|⟨y,u,rfl,rfl⟩
   .rw [Hk] at h;exact SeqAt.EqAt.str_int x t j u _ _ _ _ h
   .rw [Hl] at h;exact wpAny_eqBool_str h
 «strs»:=λk x t v h=>by
  rcases vi h with ⟨i,u,rfl,e⟩|⟨y,u,rfl,e⟩
  .exact nomatch e
  .injection e with e1 _;subst e1;cases v<;>rfl
def HY (prog:G3)(w:G5)(i:Int)(t:Tok):(qI prog w).is (.inl i) (.int i t)=true:=Hh i t
def WB (prog:G3)(w:G5)(x:Str)(t:Tok):(qI prog w).is (.inr x) (.str x t)=true:=BP x t
inductive V where
 |non|bl (b:Bool)|int (i:Int)|str (x:Str)|byt (b:Array UInt8)|flt (b:UInt64)|ref (a:Addr)|ty (n:String)
 deriving DecidableEq
abbrev EB:=List V
variable{dvs ys:EB}
abbrev EL:=List (j5×V)
abbrev ES:=List (Str×V)
abbrev EY:=Option V
variable{vs xs:EB}{v y:V}
def sO:V->G1->Prop
 | .non,u=>u=Value.none
 | .bl b,u=>u=Value.bool b
 | .int i,u=>∃ t,u=Value.int i t
 | .str x,u=>∃ t,u=Value.str x t
 | .byt b,u=>∃ t,u=Value.bytes b t
 | .flt b,u=>∃ t,u=Value.float b t
 | .ref a,u=>u=Value.ref a
 | .ty n,u=>u=Value.type n
abbrev sP:EB->C8->Prop:=Paired sO
def sP.length (r:sP xs us):xs.length=us.length:=Paired.length r
theorem sP.get:∀{xs:EB}{us:C8}{i:Nat}{x:V},sP xs us->xs[i]?=some x->∃ u,us[i]?=some u/\sO x u
 |_,_,_,_,.nil,e=>by simp at e
 |_,_,0,_,.cons r _,e=>by simp at e;subst e;exact ⟨_,rfl,r⟩
 |_,_,i+1,x,.cons _ t,e=>by
  obtain ⟨u,h1,h2⟩:=sP.get (i:=i) (x:=x) t (by simpa using e);exact ⟨u,by simpa using h1,h2⟩
theorem sP.set {x:V}{u:G1}(r:sO x u):∀{xs:EB}{us:C8}(i:Nat),sP xs us->sP (xs.set i x) (us.set i u)
 |_,_,_,.nil=> .nil
 |_,_,0,.cons _ t=> .cons r t
 |_,_,i+1,.cons q t=> .cons q (sP.set r i t)
theorem sP.append:∀{xs ys:EB}{us ws:C8},sP xs us->sP ys ws->sP (xs++ys) (us++ws)
 |_,_,_,_,.nil,s=>s
 |_,_,_,_,.cons r t,s=> .cons r (sP.append t s)
theorem sP.take:∀{xs:EB}{us:C8}(n:Nat),sP xs us->sP (xs.take n) (us.take n)
 |_,_,0,_=> .nil
 |_,_,_+1,.nil=> .nil
 |_,_,n+1,.cons r t=> .cons r (sP.take n t)
theorem sP.drop:∀{xs:EB}{us:C8}(n:Nat),sP xs us->sP (xs.drop n) (us.drop n)
 |_,_,0,r=>r
 |_,_,_+1,.nil=> .nil
 |_,_,n+1,.cons _ t=>sP.drop n t
def RelO:EY->EW->Prop
 |some v,some u=>sO v u
 |none,none=>True
 |_,_=>False
def KV {κ:Type}:List (κ×V)->List (κ×G1)->Prop:=Paired λ(p:κ×V) (q:κ×G1)=>p.1=q.1/\sO p.2 q.2
def kV:j5->V
 | .inl i=> .int i
 | .inr x=> .str x
def TABS:List (Addr×ED×F8):=[(89,#[],[((⟨35,30,35,75⟩:Pos),("by_dues.<locals>.<lambda>":Str))])]
inductive HO where
 /-- a list -/
 |lst (xs:EB)
 /-- a tuple (never changes) -/
 |tup (xs:EB)
 /-- a dict whose keys are ints and texts;one whose keys are tuples of ints and texts (the empty one is both) -/
 |dK (kvs:EL)|dT (kvs:List (List j5×V))
 /-- a set of ints: its members,its size -/
 |set (S:Int->Bool) (n:Nat)
 /-- an instance of the class at C,its dict at dx,its attributes -/
 |ins (C dx:Addr) (fs:ES)
 /-- the dict of the instance at x -/
 |own (x:Addr)
 /-- the dict of an exception -/
 |xd (fs:ES)
 /-- a bound method,f of x -/
 |met (f x:Addr)
 /-- a range object lo,lo+1,.. below hi -/
 |rng (lo hi:Int)
 /-- a thing that is known to the object (the script;a dict while a loop walks it): read,never written while it is so -/
 |frz (o:Obj) (u:HO)
 /-- a code object's table -/
 |tbl (ps:ED) (q:F8)
 /-- any other thing,by what is true of its one object (a def of one's own: wg a S n:=HO.ext λh=> ..) -/
 |ext (φ:Heap->Prop)
variable{o':HO}{o:HO}
abbrev Hp:=Addr->Option HO
variable{H' H1 H2:Hp}
abbrev AJ:=Bool->Hp->Prop
abbrev AQ:=List V->Hp->Prop
variable{H:Hp}{R:V->V->Hp->Prop}
def z9 (H:Hp)(a:Addr)(o:HO):Hp:=λb=>if b=a then some o else H b
def u5 :z9 H a o a=some o:=by unfold z9;rw [rB rfl]
def j3 (h:b≠a):z9 H a o b=H b:=by unfold z9;rw [rq h]
def ne_of {u:HO}(h:H a=some o)(h':H b=some u)(d:o≠u):a≠b:=by intro e;subst e;rw [h] at h';exact d (Option.some.inj h')
def k9 (h:H a=some o)(h':H b=none):a≠b:=by intro e;subst e;rw [h] at h';cases h'
section
variable(P:G3)(w:G5)
def sJ (H:Hp)(h:Heap)(a:Addr):HO->Prop
 | .lst xs=>xs.length<=sizeLine/\∃ (its:C8) (n:Nat),sP xs its/\h.get? a=some { cls:= .type "list",data:= .seq its.toArray n }
 | .tup xs=>xs.length<=sizeLine/\∃ its:C8,sP xs its/\IsTup h a its.toArray
 | .dK kvs=>kvs.length<=sizeLine/\(a==sysModules)=false/\∃ vs,KV kvs vs/\h.DictOf (qI P w) a vs
 | .dT kvs=>kvs.length<=sizeLine/\(a==sysModules)=false/\∃ xs:List (List j5×Addr×G1),
   Paired (λ(p:List j5×V) (q:List j5×Addr×G1)=>p.1=q.1/\H q.2.1=some (.tup (p.1.map kV))/\sO p.2 q.2.2) kvs xs /\
   ∃ o es ep,h.get? a=some o/\o.ExactDict/\o.data = .dict es ep/\es.toList=xs.map (entryOfKey (tupleKind (qI P w)))/\(xs.map (·.1)).Nodup
 | .set S n=>h.SetOf (intKind P w) a S n
 | .ins C dx fs=>H dx=some (.own a)/\fs.length<=1000/\dx≠a/\h.get? a=some (PySem.W.instObj C dx) /\
   ∃ mA,h.Ns1 dx mA/\(∀ f,RelO (fs.lookup f) (mA f))/\PySem.Within mA (fs.map (·.1))
 | .own _=>∃ o,h.get? a=some o
 | .xd fs=>∃ mA,h.Ns1 a mA/\∀ f,RelO (fs.lookup f) (mA f)
 | .rng lo hi=>∃ t u v,h.get? a=some { cls:= .type "range",data:= .fields #[.int lo t,.int hi u,.int 1 v] }
 | .frz o u=>h.get? a=some o/\sJ H h a u
 | .tbl ps q=>∃ more:ED,h.get? a=some { cls:= .none,data:= .fields (ps++more) }/\TriplesOk (ps++more).toList /\
   ∀ p∈q,codeAmong p.1 (ps++more).toList=none∨∃ c o vs t,codeAmong p.1 (ps++more).toList=some (.ref c)/\H c=some (.frz o (.own a))/\o.data = .fields vs/\vs[1]?=some (.str p.2 t)
 | .met f x=>h.get? a=some (PySem.W.methodObj (.ref f) (.ref x))
 | .ext φ=>φ h/\(∃ o,h.get? a=some o)/\∀ h1 h2:Heap,φ h1->(∀ o,h1.get? a=some o->h2.get? a=some o)->φ h2
def sE (H:Hp)(h:Heap):Prop:=∀ a o,H a=some o->sJ P w H h a o
end
def sJ.lt (x:sJ P w H h a o):a<h.objs.size:=by
 cases o with
 |lst xs=>obtain ⟨_,_,_,_,e⟩:=x;exact yN e
 |tup xs=>obtain ⟨_,_,_,p⟩:=x;exact p.lt
 |dK kvs=>obtain ⟨_,_,_,_,o,_,_,e,_⟩:=x;exact yN e
 |dT kvs=>obtain ⟨_,_,_,_,o,_,_,e,_⟩:=x;exact yN e
 |set S n=>obtain ⟨o,_,_,_,e,_⟩:=x;exact yN e
 |ins C dx fs=>obtain ⟨_,_,_,e,_⟩:=x;exact yN e
 |own y=>obtain ⟨_,e⟩:=x;exact yN e
 |xd fs=>obtain ⟨_,⟨_,_,_,e,_⟩,_⟩:=x;exact yN e
 |rng lo hi=>obtain ⟨_,_,_,e⟩:=x;exact yN e
 |frz ob u=>obtain ⟨e,_⟩:=x;exact yN e
 |tbl ps q=>obtain ⟨_,e,_⟩:=x;exact yN e
 |met f y=>exact yN (show h.get? a=some _ from x)
 |ext φ=>obtain ⟨_,⟨_,e⟩,_⟩:=x;exact yN e
theorem Paired.mapP {α β:Type}{F G:α->β->Prop}:∀{l₁:List α}{l₂:List β},Paired F l₁ l₂->(∀ a b,F a b->G a b)->Paired G l₁ l₂
 |_,_,.nil,_=> .nil
 |_,_,.cons r t,f=> .cons (f _ _ r) (Paired.mapP t f)
def sJ.stay (x:sJ P w H h a o)(k:∀ b u,(b=a∨H b=some (.own a))->h.get? b=some u->h'.get? b=some u)(ho:∀ b,H b=some (.own a)->H' b=some (.own a))(ht:∀ b xs,H b=some (.tup xs)->H' b=some (.tup xs))(hz:∀ b o u,H b=some (.frz o u)->H' b=some (.frz o u)):sJ P w H' h' a o:=by
 induction o with
 |lst xs=>obtain ⟨z,its,n,r,e⟩:=x;exact ⟨z,its,n,r,k _ _ (.inl rfl) e⟩
 |tup xs=>obtain ⟨z,its,r,ob,e,c⟩:=x;exact ⟨z,its,r,ob,k _ _ (.inl rfl) e,c⟩
 |dK kvs=>obtain ⟨z,y,vs,r,ob,es,ep,e,c⟩:=x;exact ⟨z,y,vs,r,ob,es,ep,k _ _ (.inl rfl) e,c⟩
 |dT kvs=>obtain ⟨z,y,xs,r,ob,es,ep,e,c⟩:=x;exact ⟨z,y,xs,Paired.mapP r λp q z=>⟨z.1,ht _ _ z.2.1,z.2.2⟩,ob,es,ep,k _ _ (.inl rfl) e,c⟩
 |set S n=>obtain ⟨ob,es,ep,t,e,c⟩:=x;exact ⟨ob,es,ep,t,k _ _ (.inl rfl) e,c⟩
 |ins C dx fs=>obtain ⟨d,z,ne,e,mA,⟨od,es,ep,e2,c⟩,r⟩:=x;exact ⟨ho _ d,z,ne,k _ _ (.inl rfl) e,mA,⟨od,es,ep,k _ _ (.inr d) e2,c⟩,r⟩
 |own y=>obtain ⟨ob,e⟩:=x;exact ⟨ob,k _ _ (.inl rfl) e⟩
 |xd fs=>obtain ⟨mA,⟨od,es,ep,e,c⟩,r⟩:=x;exact ⟨mA,⟨od,es,ep,k _ _ (.inl rfl) e,c⟩,r⟩
 |rng lo hi=>obtain ⟨t,u,v,e⟩:=x;exact ⟨t,u,v,k _ _ (.inl rfl) e⟩
 |frz ob u ih=>obtain ⟨e,q⟩:=x;exact ⟨k _ _ (.inl rfl) e,ih q⟩
 |tbl ps q =>
  obtain ⟨more,e,t,r⟩:=x;refine ⟨more,k a _ (.inl rfl) e,t,λp hp=>?_⟩;rcases r p hp with z|⟨c,o,vs,t,z,oc,e2⟩
  .exact .inl z
  .exact .inr ⟨c,o,vs,t,z,hz c o _ oc,e2⟩
 |met f y=>have e:h.get? a=some (PySem.W.methodObj (.ref f) (.ref y)):=x;show h'.get? a=some (PySem.W.methodObj (.ref f) (.ref y));exact k a _ (.inl rfl) e
 |ext φ=>obtain ⟨p,⟨o,e⟩,st⟩:=x;exact ⟨st _ _ p λo q=>k _ _ (.inl rfl) q,⟨o,k _ _ (.inl rfl) e⟩,st⟩
def sE.lt (x:sE P w H h)(e:H a=some o):a<h.objs.size:=(x a o e).lt
def sE.fresh (x:sE P w H h)(e:h.objs.size<=a):H a=none:=by
 cases q:H a with
 |none=>rfl
 |some u=>exact rp (yx (x.lt q) e) (uT _)
def sE.kept (x:sE P w H h)(k:∀ b u,h.get? b=some u->h'.get? b=some u):sE P w H h':=λa o e =>
 (x a o e).stay (λb u _ q=>k b u q) (λ_ q=>q) (λ_ _ q=>q) λ_ _ _ q=>q
def sE.laid (x:sE P w H h)(k:∀ b u,h.get? b=some u->h'.get? b=some u)(hp:h.objs.size<=a)(new:sJ P w (z9 H a o) h' a o):sE P w (z9 H a o) h':=λb u e=>by
 have hn:=x.fresh hp;by_cases hb:b=a
 .subst hb;rw [u5] at e;cases e;exact new
 .rw [j3 hb] at e;exact (x b u e).stay (λc v _ q=>k c v q) (λc q=>by rw [j3 (k9 q hn)];exact q) (λc xs q=>by rw [j3 (k9 q hn)];exact q) λc _ _ q=>by rw [j3 (k9 q hn)];exact q
def Rd (H:Hp)(a:Addr)(u:HO):Prop:=H a=some u∨∃ o,H a=some (.frz o u)
def Rd.ok {u:HO}(r:Rd H a u)(x:sE P w H h):sJ P w H h a u:=by
 rcases r with r|⟨o,r⟩
 .exact x a u r
 .obtain ⟨_,q⟩:=x a _ r;exact q
def Mut:Option HO->Prop
 |some (.lst _)=>True
 |some (.dK _)=>True
 |some (.dT _)=>True
 |some (.set _ _)=>True
 |some (.ins _ _ _)=>True
 |some (.ext _)=>True
 |_=>False
section
variable{x e:Addr}
def sE.write (ok:sE P w H h)(mu:Mut (H x))(he:e=x∨H e=some (.own x))(k:∀ b u,b≠e->h.get? b=some u->h'.get? b=some u)(heo:∃ u,h'.get? e=some u)(new:sJ P w (z9 H x o') h' x o'):sE P w (z9 H x o') h':=λb u q=>by
 have nown:∀ c y,H c=some (.own y)->c≠x:=λc y r z=>by subst z;rw [r] at mu;exact mu
 have ntup:∀ c xs,H c=some (.tup xs)->c≠x:=λc xs r z=>by subst z;rw [r] at mu;exact mu
 have nfrz:∀ c ob xs,H c=some (.frz ob xs)->c≠x:=λc ob xs r z=>by subst z;rw [r] at mu;exact mu
 by_cases hb:b=x
 .subst hb;rw [u5] at q;cases q;exact new
 .rw [j3 hb] at q;by_cases hbe:b=e
  .have q':H b=some (.own x):=by
    rcases he with z|z
    ·exact rp (hbe.trans z) hb
    ·rw [hbe];exact z
   rw [q] at q';cases q';obtain ⟨v,hv⟩:=heo;exact ⟨v,by rw [hbe];exact hv⟩
  .refine (ok b u q).stay (λc v hc r=>k c v ?_ r) (λc r=>by rw [j3 (nown c b r)];exact r) (λc xs r=>by rw [j3 (ntup c xs r)];exact r) λc ob xs r=>by rw [j3 (nfrz c ob xs r)];exact r
   rcases hc with rfl|hc
   .exact hbe
   .rintro rfl;rcases he with z|z
    .exact nown c b hc z
    .rw [hc] at z;cases z;exact hb rfl
end
structure Un (fs ex:EC)(H H':Hp)(h h':Heap):Prop where
 keep:∀ b o,h.get? b=some o->H b=none->b∉fs->b∉ex->h'.get? b=some o
 slot:∀ b o,h.get? b=some o->H b=none->b∈fs->b∉ex->∃ sl,h'.get? b=some { o with slots:=sl }
 free:∀ b o,h.get? b=some o->H b=none->b∉ex->H' b=none
 there:∀ b o,h.get? b=some o->b∉ex->∃ o',h'.get? b=some o'
 tups:∀ b xs,H b=some (.tup xs)->H' b=some (.tup xs)
 frzs:∀ b o u,H b=some (.frz o u)->H' b=some (.frz o u)
 tbls:∀ b ps q,H b=some (.tbl ps q)->H' b=some (.tbl ps q)
section
variable{fs:EC}{x e:Addr}
def Un.any (u:Un fs ex H H1 h h1){ob:Obj}(q:h.get? b=some ob)(n:H b=none)(hx:b∉ex):∃ sl,h1.get? b=some { ob with slots:=sl }:=by
 by_cases hb:b∈fs
 .exact u.slot b ob q n hb hx
 .exact ⟨ob.slots,u.keep b ob q n hb hx⟩
def Un.kept (k:∀ b u,h.get? b=some u->h'.get? b=some u):Un fs ex H H h h' :=
 ⟨λb ob q _ _ _=>k b ob q,λb ob q _ _ _=>⟨ob.slots,k b ob q⟩,λ_ _ _ n _=>n,λb ob q _=>⟨ob,k b ob q⟩,λ_ _ q=>q,λ_ _ _ q=>q,λ_ _ _ q=>q⟩
def Un.refl:Un fs ex H H h h:=Un.kept λ_ _ q=>q
def Un.laid (k:∀ b u,h.get? b=some u->h'.get? b=some u)(hp:h.objs.size<=a)(hn:H a=none):Un fs ex H (z9 H a o) h h' where
 keep:=λb u q _ _ _=>k b u q
 slot:=λb u q _ _ _=>⟨u.slots,k b u q⟩
 free:=λb u q n _=>by rw [j3 (yG (yx (yN q) hp))];exact n
 there:=λb u q _=>⟨u,k b u q⟩
 tups:=λb xs q=>by rw [j3 (k9 q hn)];exact q
 frzs:=λb u xs q=>by rw [j3 (k9 q hn)];exact q
 tbls:=λb ps z q=>by rw [j3 (k9 q hn)];exact q
def Un.write (mu:Mut (H x))(he:e=x∨H e=some (.own x))(k:∀ b u,b≠e->h.get? b=some u->h'.get? b=some u)(heo:∃ u,h'.get? e=some u):Un fs ex H (z9 H x o) h h':=by
 have hx:∀ b,H b=none->b≠x:=λb n z=>by subst z;rw [n] at mu;exact mu
 have hb:∀ b,H b=none->b≠e:=λb n z=>by
  subst z;rcases he with r|r
  .exact hx b n r
  .rw [n] at r;cases r
 have hm:∀ b u,H b=some u->¬ Mut (some u)->b≠x:=λb u q nm z=>by subst z;rw [q] at mu;exact nm mu
 refine ⟨λb u q n _ _=>k b u (hb b n) q,λb u q n _ _=>⟨u.slots,k b u (hb b n) q⟩,λb u q n _=>by rw [j3 (hx b n)];exact n,λb u q _=>?_,
  λb xs q=>by rw [j3 (hm b _ q λz=>z)];exact q,λb u xs q=>by rw [j3 (hm b _ q λz=>z)];exact q,λb ps r q=>by rw [j3 (hm b _ q λz=>z)];exact q⟩
 by_cases hbe:b=e
 .subst hbe;exact heo
 .exact ⟨u,k b u hbe q⟩
end
def trk (h:Heap)(H:Hp):EC:=(List.range h.objs.size).filter λa=>(H a).isSome
def ve (h:Heap)(H:Hp):Heap:=PySem.W.hideAll h (trk h H)
def Nn (h:Heap)(H:Hp):(ve h H).objs.size=h.objs.size:=PySem.W.hideAll_size _ _
def Nm {o:Obj}(e:h.get? b=some o)(n:H b=none):(ve h H).get? b=some o :=
 pD _ e λhm=>by
  have q:(H b).isSome=true:=(uk.mp hm).2;rw [n] at q;simp at q
def Rq {o:Obj}(e:(ve h H).get? b=some o):h.get? b=some o/\H b=none:=by
 have e':h.get? b=some o:=PySem.W.of_hideAll (trk h H) e;refine ⟨e',?_⟩;cases q:H b with
 |none=>rfl
 |some x=>have hm:b∈trk h H:=uk.mpr ⟨uP.mpr (yN e'),by simp [q]⟩;have z:(ve h H).get? b=none:=pq (trk h H) hm;rw [z] at e;cases e
structure Mod (K:Fg)(mg:AB)(tM:Heap):Prop where
 kin:K.In tM
 glob:tM.Ns mainGlobals mg
 blt:∃ mb,tM.Ns builtinsNs mb/\∀ x:Str,x ≠ "__name__"->mb x=bootBuiltins x
 nolimit:tM.NoLimit
 bmn:∃ bm ob,mg "__builtins__"=some (.ref bm)/\bm≠builtinsNs/\tM.get? bm=some ob/\ob.cls = .type "module"/\ob.dict=some builtinsNs/\ob.data = .plain
structure Cx where
 rD:G3
 w:G5
 K:Fg
 mg:Str->Option G1
 tM:Heap
 A:G4
 N:List Str
 s₀:G2
 H₀:Hp
 rC:Env
 tL:List Env
 stack:List Env
 ex:List Addr
 fn:Str->Bool
 calm:Bool
 pn:List (Addr×Obj)
 xe:G1->G2->Prop
variable{X:Cx}
def t9 (l:EK):EC:=l.filterMap (·.frame)
abbrev Cx.fs (X:Cx):EC:=t9 X.tL
def Vis (sc:Scope)(x:Str):Prop:=sc.names.lookup x=some .local∨sc.names.lookup x=some .cell∨sc.names.lookup x=some .free
def Loc (sc:Scope)(x:Str):Prop:=sc.names.lookup x=some .local∨sc.names.lookup x=some .cell
def Look (env:Env)(h:Heap)(m:AB)(x:Str)(u:G1):Prop :=
 (env.kindOf x=some .local/\m x=some u)∨((env.kindOf x=some .cell∨env.kindOf x=some .free)/\∃ c,env.cells.lookup x=some c/\h.IsCell c (some u))
structure Cx.Ok (X:Cx):Prop where
 mod:Mod X.K X.mg X.tM
 kind:X.rC.scope.kind = .function
 glob:X.rC.globals=mainGlobals
 blt:X.rC.builtins=builtinsNs
 above:X.s₀.heap.objs.size<=X.rC.locals
 inj:∀ x y c,X.rC.cells.lookup x=some c->X.rC.cells.lookup y=some c->x=y
 has:∀ x,(X.rC.kindOf x=some .cell∨X.rC.kindOf x=some .free)->∃ c,X.rC.cells.lookup x=some c
 cab:∀ x c,X.fn x=true->X.rC.cells.lookup x=some c->X.s₀.heap.objs.size<=c
 hd:X.calm=true->X.A.handled=none
 frames:X.A.frames=some X.stack
 stk:X.stack=X.tL∨(X.stack=X.rC::X.tL/\X.rC.frame=some X.rC.locals)
 exf:∀ b∈X.ex,b≠X.rC.locals/\∀ x c,X.rC.cells.lookup x=some c->c≠b
 bs:∀ b o,X.tM.get? b=some o->X.s₀.heap.get? b=some o/\X.H₀ b=none
 bsz:X.tM.objs.size<=X.s₀.heap.objs.size
 noex:∀ b o,X.tM.get? b=some o->b∉X.ex
 exfs:∀ b∈X.ex,b∉X.fs
 funs:X.s₀.heap.FunFrames X.tM X.tL
 frf:∀ b∈X.fs,X.H₀ b=none
 tbs:∀ p∈TABS,X.H₀ p.1=some (.tbl p.2.1 p.2.2)
structure sS (X:Cx)(tN:C4)(σ:List (Option V))(H:Hp)(s:G2):Prop where
 ok:X.Ok
 os:s.os=X.s₀.os
 bare:AllBare s.gens
 tM:Un X.fs X.ex X.H₀ H X.s₀.heap s.heap
 loc:∃ m,s.heap.Ns X.rC.locals m/\∀(i:Nat)(x:Str)(v:V),X.N[i]?=some x->σ[i]?=some (some v)->Vis X.rC.scope x->∃ u,sO v u/\Look X.rC s.heap m x u
 cell:∀ x c,X.rC.cells.lookup x=some c->∃ v,s.heap.IsCell c v
 free:H X.rC.locals=none
 freeC:∀ x c,X.rC.cells.lookup x=some c->H c=none
 pin:∀ p∈X.pn++tN,s.heap.get? p.1=some p.2/\H p.1=none/\p.1≠X.rC.locals/\p.1∉X.fs/\∀ v,p.2.data ≠ .cell v
 tI:sE X.rD X.w H s.heap
 len:σ.length=X.N.length
section
variable{σ:List (Option V)}
def Cx.Ok.nofr (ok:X.Ok){o:Obj}(e:X.tM.get? b=some o):b∉X.fs:=λhb=>by
 have:=(ok.funs.mem hb).1;rw [e] at this;cases this
def sS.bs (I:sS X tN σ H s):∀ b o,X.tM.get? b=some o->s.heap.get? b=some o/\H b=none:=λb o e =>
 ⟨I.tM.keep b o (I.ok.bs b o e).1 (I.ok.bs b o e).2 (I.ok.nofr e) (I.ok.noex b o e),I.tM.free b o (I.ok.bs b o e).1 (I.ok.bs b o e).2 (I.ok.noex b o e)⟩
def sS.bk (I:sS X tN σ H s):∀ b o,X.tM.get? b=some o->s.heap.get? b=some o:=λb o e=>(I.bs b o e).1
def sS.mod (I:sS X tN σ H s):Mod X.K X.mg X.tM:=I.ok.mod
def sS.kIn (I:sS X tN σ H s):X.K.In s.heap:=I.ok.mod.kin.keeps I.bk
def sS.fr (I:sS X tN σ H s):∃ m,Fr X.tM X.rC.locals s.heap m :=
 let ⟨m,hn,_⟩:=I.loc
 ⟨m,hn,I.bk,yj I.ok.bsz I.ok.above⟩
def sS.lt (I:sS X tN σ H s):X.rC.locals<s.heap.objs.size:=let ⟨_,hn,_⟩:=I.loc;hn.lt
def sS.sz (I:sS X tN σ H s):X.s₀.heap.objs.size<=s.heap.objs.size:=yj I.ok.above (uJ I.lt)
def sS.nofs (I:sS X tN σ H s)(h:s.heap.objs.size<=a):a∉X.fs:=λhb=>by
 obtain ⟨_,o,ho,_⟩:=I.ok.funs.mem hb;exact rp (yx (yN ho) (yj I.sz h)) (uT _)
def sS.cne (I:sS X tN σ H s):∀ x c,X.rC.cells.lookup x=some c->c≠X.rC.locals:=λx c e z=>by
 obtain ⟨v,o,ho,hd⟩:=I.cell x c e;obtain ⟨m,⟨o',es,ep,ho',hd',_⟩,_⟩:=I.loc;rw [z,ho'] at ho;cases ho;rw [hd'] at hd;cases hd
def sS.funs (I:sS X tN σ H s):s.heap.FunFrames X.tM X.tL:=by
 have all:∀(l:EK),(∀ b∈t9 l,b∈X.fs)->X.s₀.heap.FunFrames X.tM l->s.heap.FunFrames X.tM l:=by
  intro l
  induction l with
  |nil=>intro _ _;trivial
  |cons env r ih=>intro hs hl;obtain ⟨hk,⟨L,o,hf,hn,ho,hd⟩,hr⟩:=hl;have hL:L∈X.fs:=hs L (by unfold t9;rw [List.filterMap_cons,hf];exact yR);obtain ⟨sl,e⟩:=I.tM.slot L o ho (I.ok.frf L hL) hL λz=>I.ok.exfs L z hL;exact ⟨hk,⟨L,_,hf,hn,e,hd⟩,ih (λb hb=>hs b (by unfold t9;rw [List.filterMap_cons,hf];exact yO _ hb)) hr⟩
 exact all X.tL (λ_ hb=>hb) I.ok.funs
def sS.stack (I:sS X tN σ H s):s.heap.FunFrames X.tM X.stack:=by
 rcases I.ok.stk with e|⟨e,hf⟩
 .rw [e];exact I.funs
 .rw [e];obtain ⟨m,hn,_⟩:=I.loc;refine .cons (by rw [I.ok.kind];decide) hf hn ?_ I.funs;exact yb (yj I.ok.bsz I.ok.above)
def sS.stkSub (I:sS X tN σ H s):∀ b∈t9 X.stack,b∈X.rC.locals::X.fs:=λb hb=>by
 rcases I.ok.stk with e|⟨e,hf⟩
 .rw [e] at hb;exact yO _ hb
 .rw [e] at hb;unfold t9 at hb;rw [List.filterMap_cons,hf] at hb;exact hb
def sS.stkFree (I:sS X tN σ H s):∀ b∈t9 X.stack,H b=none:=λb hb=>by
 rcases yL.mp (I.stkSub b hb) with e|hb
 .rw [e];exact I.free
 .obtain ⟨_,o,ho,_⟩:=I.ok.funs.mem hb;exact I.tM.free b o ho (I.ok.frf b hb) λz=>I.ok.exfs b z hb
def sS.step (I:sS X tN σ H s)(hch:∀ b∈ch,(b∈X.ex∨X.s₀.heap.objs.size<=b)/\b≠X.rC.locals/\(∀ x c,X.rC.cells.lookup x=some c->c≠b)/\∀ p∈X.pn++tN,p.1≠b)(keep:∀ b o,b≠X.rC.locals->b∉X.fs->b∉ch->s.heap.get? b=some o->H b=none->h'.get? b=some o)(slot:∀ b o,b≠X.rC.locals->b∈X.fs->b∉ch->s.heap.get? b=some o->H b=none->∃ sl,h'.get? b=some { o with slots:=sl })(free:∀ b o,b∉ch->s.heap.get? b=some o->H b=none->H' b=none)(there:∀ b o,b∉ch->s.heap.get? b=some o->∃ o',h'.get? b=some o')(tups:∀ b xs,H b=some (.tup xs)->H' b=some (.tup xs))(frzs:∀ b o u,H b=some (.frz o u)->H' b=some (.frz o u))(tbls:∀ b ps q,H b=some (.tbl ps q)->H' b=some (.tbl ps q))(ns:∀ m,s.heap.Ns X.rC.locals m->h'.Ns X.rC.locals m)(tI:sE X.rD X.w H' h')(hg:AllBare g'):sS X tN σ H' { s with heap:=h',gens:=g',drawn:=d',toks:=t' }:=by
 have neL:∀ b o,X.s₀.heap.get? b=some o->b≠X.rC.locals:=λb o e=>yG (yx (yN e) I.ok.above);have neC:∀ b o,X.s₀.heap.get? b=some o->b∉X.ex->b∉ch:=λb o e hx hb=>by
  rcases (hch b hb).1 with z|z
  .exact hx z
  .exact rp (yx (yN e) z) (uT _)
 have cellK:∀ x c,X.rC.cells.lookup x=some c->∀ v,s.heap.IsCell c v->h'.IsCell c v:=λx c e v ⟨o,ho,hd⟩=>by
  have nch:c∉ch:=λz=>(hch c z).2.2.1 x c e rfl;by_cases hc:c∈X.fs
  .obtain ⟨sl,q⟩:=slot c o (I.cne x c e) hc nch ho (I.freeC x c e);exact ⟨_,q,hd⟩
  .exact ⟨o,keep c o (I.cne x c e) hc nch ho (I.freeC x c e),hd⟩
 refine ⟨I.ok,I.os,hg,⟨λb o e n hb hx=>?_,λb o e n hb hx=>?_,λb o e n hx=>?_,λb o e hx=>?_,λb xs e=>tups b xs (I.tM.tups b xs e),λb o xs e=>frzs b o xs (I.tM.frzs b o xs e),λb ps q e=>tbls b ps q (I.tM.tbls b ps q e)⟩,?_,λx c e=>?_,?_,λx c e=>?_,λp hp=>?_,tI,I.len⟩
 .exact keep b o (neL b o e) hb (neC b o e hx) (I.tM.keep b o e n hb hx) (I.tM.free b o e n hx)
 .obtain ⟨sl,e1⟩:=I.tM.slot b o e n hb hx;obtain ⟨sl',e2⟩:=slot b _ (neL b o e) hb (neC b o e hx) e1 (I.tM.free b o e n hx);exact ⟨sl',e2⟩
 .obtain ⟨o',e1⟩:=I.tM.there b o e hx;exact free b o' (neC b o e hx) e1 (I.tM.free b o e n hx)
 .obtain ⟨o',e1⟩:=I.tM.there b o e hx;exact there b o' (neC b o e hx) e1
 .obtain ⟨m,hn,hl⟩:=I.loc;refine ⟨m,ns m hn,λi x v e1 e2 e3=>?_⟩;obtain ⟨u,r,l⟩:=hl i x v e1 e2 e3;refine ⟨u,r,?_⟩;rcases l with l|⟨k,c,e,z⟩
  .exact .inl l
  .exact .inr ⟨k,c,e,cellK x c e _ z⟩
 .obtain ⟨v,z⟩:=I.cell x c e;exact ⟨v,cellK x c e v z⟩
 .obtain ⟨m,⟨o,_,_,ho,_⟩,_⟩:=I.loc;exact free _ o (λz=>(hch _ z).2.1 rfl) ho I.free
 .obtain ⟨v,o,ho,hd⟩:=I.cell x c e;exact free c o (λz=>(hch c z).2.2.1 x c e rfl) ho (I.freeC x c e)
 .obtain ⟨e,n,ne,nf,d⟩:=I.pin p hp;have nch:p.1∉ch:=λz=>(hch p.1 z).2.2.2 p hp rfl;exact ⟨keep p.1 p.2 ne nf nch e n,free p.1 p.2 nch e n,ne,nf,d⟩
def sS.un (I:sS X tN σ H s)(u:Un X.fs [] H H' s.heap h')(tI:sE X.rD X.w H' h'):sS X tN σ H' { s with heap:=h',toks:=t' }:=by
 obtain ⟨m,⟨o,es,ep,ho,r⟩,_⟩:=id I.loc;obtain ⟨sl,hL⟩:=u.any ho I.free (by simp);exact I.step (g':=s.gens) (d':=s.drawn) (ch:=[]) (λ_ z=>nomatch z) (λb o _ hb _ e n=>u.keep b o e n hb (by simp)) (λb o _ hb _ e n=>u.slot b o e n hb (by simp)) (λb o _ e n=>u.free b o e n (by simp)) (λb o _ e=>u.there b o e (by simp)) u.tups u.frzs u.tbls (λm' hm=>by
  obtain ⟨o',es',ep',ho',r'⟩:=hm;rw [ho] at ho';cases ho';exact ⟨_,es',ep',hL,r'⟩) tI I.bare
def sS.call (I:sS X tN σ H s)(u:Un (t9 X.stack) ch H H' s.heap h')(tI:sE X.rD X.w H' h')(hg:AllBare g')(hch:∀ b∈ch,(b∈X.ex∨X.s₀.heap.objs.size<=b)/\b≠X.rC.locals/\(∀ x c,X.rC.cells.lookup x=some c->c≠b)/\∀ p∈X.pn++tN,p.1≠b):sS X tN σ H' { s with heap:=h',gens:=g',drawn:=d',toks:=t' }:=by
 obtain ⟨m,⟨o,es,ep,ho,r⟩,_⟩:=id I.loc;obtain ⟨sl,hL⟩:=u.any ho I.free λz=>(hch _ z).2.1 rfl;exact I.step (ch:=ch) hch (λb o hL hb hc e n=>u.keep b o e n (λz=>(yL.mp (I.stkSub b z)).elim hL hb) hc) (λb o _ _ hc e n=>u.any e n hc) (λb o hc e n=>u.free b o e n hc) (λb o hc e=>u.there b o e hc) u.tups u.frzs u.tbls (λm' hm=>by
  obtain ⟨o',es',ep',ho',r'⟩:=hm;rw [ho] at ho';cases ho';exact ⟨_,es',ep',hL,r'⟩) tI hg
def sS.turned (I:sS X tN σ H s)(k:∀ b o,b≠it->s.heap.get? b=some o->h'.get? b=some o)(hn:H it=none)(hL:it≠X.rC.locals)(h1:it∈X.ex∨X.s₀.heap.objs.size<=it)(h2:∀ x c,X.rC.cells.lookup x=some c->c≠it)(h3:∀ p∈X.pn++tN,p.1≠it):sS X tN σ H { s with heap:=h',toks:=t' }:=by
 have nit:∀ b u,H b=some u->b≠it:=λb u e z=>by rw [z,hn] at e;cases e
 refine I.step (g':=s.gens) (d':=s.drawn) (ch:=[it]) (λb hb=>?_) (λb o _ _ hc e _=>k b o (λz=>hc (by simp [z])) e) (λb o _ _ hc e _=>⟨o.slots,k b o (λz=>hc (by simp [z])) e⟩) (λ_ _ _ _ n=>n)
  (λb o hc e=>⟨o,k b o (λz=>hc (by simp [z])) e⟩) (λ_ _ e=>e) (λ_ _ _ e=>e) (λ_ _ _ e=>e) (λm hm=>?_) (λb u e=>?_) I.bare
 .have e:b=it:=by simpa using hb
  subst e;exact ⟨h1,hL,h2,h3⟩
 .obtain ⟨o,es,ep,ho,r⟩:=hm;exact ⟨o,es,ep,k _ o (Ne.symm hL) ho,r⟩
 .refine (I.tI b u e).stay (λc v hc q=>k c v ?_ q) (λ_ q=>q) (λ_ _ q=>q) λ_ _ _ q=>q;rcases hc with z|z
  .rw [z];exact nit b u e
  .exact nit c _ z
def sS.tok (I:sS X tN σ H s)(t:Nat):sS X tN σ H { s with toks:=t }:=I.un (h':=s.heap) (t':=t) Un.refl I.tI
def sS.kept (I:sS X tN σ H s)(k:∀ b u,s.heap.get? b=some u->h'.get? b=some u):sS X tN σ H { s with heap:=h',toks:=t' }:=I.un (Un.kept k) (I.tI.kept k)
def sS.laid (I:sS X tN σ H s)(k:∀ b u,s.heap.get? b=some u->h'.get? b=some u)(hp:s.heap.objs.size<=a)(new:sJ X.rD X.w (z9 H a o) h' a o):sS X tN σ (z9 H a o) { s with heap:=h',toks:=t' }:=I.un (Un.laid k hp (I.tI.fresh hp)) (I.tI.laid k hp new)
def sS.write {x e:Addr}(I:sS X tN σ H s)(mu:Mut (H x))(he:e=x∨H e=some (.own x))(k:∀ b u,b≠e->s.heap.get? b=some u->h'.get? b=some u)(heo:∃ u,h'.get? e=some u)(new:sJ X.rD X.w (z9 H x o) h' x o):sS X tN σ (z9 H x o) { s with heap:=h',toks:=t' }:=I.un (Un.write mu he k heo) (I.tI.write mu he k heo new)
def sS.weak {σ':List (Option V)}(I:sS X tN σ H s)(hl:σ'.length=σ.length)(w:∀(i:Nat) v,σ'[i]?=some (some v)->σ[i]?=some (some v)):sS X tN σ' H s :=
 ⟨I.ok,I.os,I.bare,I.tM,let ⟨m,hn,hl'⟩:=I.loc;⟨m,hn,λi x v e1 e2 e3=>hl' i x v e1 (w i v e2) e3⟩,I.cell,I.free,I.freeC,I.pin,I.tI,hl.trans I.len⟩
def sS.pins_of {pins':C4}(I:sS X tN σ H s)(h:∀ p∈pins',s.heap.get? p.1=some p.2/\H p.1=none/\p.1≠X.rC.locals/\p.1∉X.fs/\∀ v,p.2.data ≠ .cell v):sS X pins' σ H s :=
 ⟨I.ok,I.os,I.bare,I.tM,I.loc,I.cell,I.free,I.freeC,λp hp=>(yF.mp hp).elim (λz=>I.pin p (yo _ z)) (h p),I.tI,I.len⟩
def WE (hN:N.Nodup){i:Nat}(a:N[i]?=some x)(b:N[j]?=some x):i=j:=by obtain ⟨h1,e1⟩:=yK.mp a;obtain ⟨h2,e2⟩:=yK.mp b;exact (List.getElem_inj hN).mp (e1.trans e2.symm)
def Df {M:Model}{i:Nat}{Q:AE}(I:sS X tN σ H s)(hN:X.N.Nodup)(hi:X.N[i]?=some x)(hx:Loc X.rC.scope x)(r:sO v u)(h:∀ s',sS X tN (σ.set i (some v)) H s'->(∃ a,Heap.SameBut a s.heap s'.heap/\(a=X.rC.locals∨X.rC.cells.lookup x=some a))->Q () s')(hf:X.fn x=true∨X.rC.scope.names.lookup x=some .local:=by first|exact .inl rfl|exact .inr rfl|assumption):wpAny M A (storeName X.rC x u) Q E s:=by
 obtain ⟨m,hn,hl⟩:=id I.loc;have hcls:(X.rC.scope.kind == .class || (X.rC.scope.kind == .module&&X.rC.locals != X.rC.globals))=false:=by rw [I.ok.kind];rfl
 have hiσ:i<σ.length:=by rw [I.len];exact (yK.mp hi).1
 have cne:=I.cne;have tracked:∀{a:Addr}{h':Heap},(∃ o,s.heap.get? a=some o/\H a=none)->Heap.SameBut a s.heap h'->sE X.rD X.w H h':=λ{a h'} ha hs b ob e=>by
  obtain ⟨_,_,hfree⟩:=ha;refine (I.tI b ob e).stay (λc w' hc q=>(hs.2 c ?_).trans q) (λ_ q=>q) (λ_ _ q=>q) λ_ _ _ q=>q;rintro rfl;rcases hc with rfl|hc
  .rw [hfree] at e;cases e
  .rw [hfree] at hc;cases hc
 rcases hx with hk|hk
 .refine wpAny_storeName_local hk hn (λh' hn' hs=>?_) hcls;obtain ⟨oL,_,_,hoL,_⟩:=id hn;refine h _ ⟨I.ok,I.os,I.bare,⟨λb o e n hb hx=>?_,λb o e n hb hx=>?_,I.tM.free,λb o e hx=>?_,I.tM.tups,I.tM.frzs,I.tM.tbls⟩,⟨_,hn',λj y v' e1 e2 e3=>?_⟩,λy c e=>?_,I.free,I.freeC,λp hp=>?_,tracked ⟨oL,hoL,I.free⟩ hs,by simpa using I.len⟩ ⟨_,hs,.inl rfl⟩
  .exact (hs.2 b (yG (yx (yN e) I.ok.above))).trans (I.tM.keep b o e n hb hx)
  .obtain ⟨sl,e1⟩:=I.tM.slot b o e n hb hx;exact ⟨sl,(hs.2 b (yG (yx (yN e) I.ok.above))).trans e1⟩
  .obtain ⟨o',e1⟩:=I.tM.there b o e hx;exact ⟨o',(hs.2 b (yG (yx (yN e) I.ok.above))).trans e1⟩
  .by_cases hj:j=i
   .subst hj;rw [hi] at e1;cases e1;rw [uu hiσ] at e2;cases e2;exact ⟨u,r,.inl ⟨hk,by simp⟩⟩
   .rw [yh (Ne.symm hj)] at e2;obtain ⟨u',r',q⟩:=hl j y v' e1 e2 e3;refine ⟨u',r',?_⟩;rcases q with ⟨k,e⟩|⟨k,c,e,z⟩
    .refine .inl ⟨k,?_⟩;have:y≠x:=λe=>hj (WE hN e1 (e▸hi));simp [this,e]
    .exact .inr ⟨k,c,e,z.sameBut hs (cne y c e)⟩
  .obtain ⟨w',z⟩:=I.cell y c e;exact ⟨w',z.sameBut hs (cne y c e)⟩
  .obtain ⟨e,n,ne,nf,d⟩:=I.pin p hp;exact ⟨(hs.2 p.1 ne).trans e,n,ne,nf,d⟩
 .have hfn:X.fn x=true:=by
   rcases hf with z|z
   ·exact z
   ·rw [z] at hk;cases hk
  obtain ⟨c,hc⟩:=I.ok.has x (.inl hk);obtain ⟨w',z⟩:=I.cell x c hc;refine wpAny_storeName_cell I.ok.kind hk hc z (λh' hc' hs=>?_);obtain ⟨oc,hoc,hocd⟩:=id z;refine h { s with heap:=h' } ⟨I.ok,I.os,I.bare,⟨λb o e n hb hx=>?_,λb o e n hb hx=>?_,I.tM.free,λb o e hx=>?_,I.tM.tups,I.tM.frzs,I.tM.tbls⟩,⟨m,hn.sameBut hs (Ne.symm (cne x c hc)),λj y v' e1 e2 e3=>?_⟩,λy c' e=>?_,I.free,I.freeC,λp hp=>?_,tracked ⟨oc,hoc,I.freeC x c hc⟩ hs,by simpa using I.len⟩ ⟨c,hs,.inr hc⟩
  .exact (hs.2 b (yG (yx (yN e) (I.ok.cab x c hfn hc)))).trans (I.tM.keep b o e n hb hx)
  .obtain ⟨sl,e1⟩:=I.tM.slot b o e n hb hx;exact ⟨sl,(hs.2 b (yG (yx (yN e) (I.ok.cab x c hfn hc)))).trans e1⟩
  .obtain ⟨o',e1⟩:=I.tM.there b o e hx;exact ⟨o',(hs.2 b (yG (yx (yN e) (I.ok.cab x c hfn hc)))).trans e1⟩
  .by_cases hj:j=i
   .subst hj;rw [hi] at e1;cases e1;rw [uu hiσ] at e2;cases e2;exact ⟨u,r,.inr ⟨.inl hk,c,hc,hc'⟩⟩
   .rw [yh (Ne.symm hj)] at e2;obtain ⟨u',r',q⟩:=hl j y v' e1 e2 e3;refine ⟨u',r',?_⟩;rcases q with q|⟨k,c',e,z'⟩
    .exact .inl q
    .refine .inr ⟨k,c',e,z'.sameBut hs ?_⟩;rintro rfl;exact hj (WE hN e1 (I.ok.inj _ _ _ e hc▸hi))
  .by_cases hcc:c'=c
   .subst hcc;exact ⟨_,hc'⟩
   .obtain ⟨w2,z2⟩:=I.cell y c' e;exact ⟨w2,z2.sameBut hs hcc⟩
  .obtain ⟨e,n,ne,nf,d⟩:=I.pin p hp;refine ⟨(hs.2 p.1 ?_).trans e,n,ne,nf,d⟩;intro q;rw [q,hoc] at e;have q':oc=p.2:=Option.some.inj e;exact d w' (by rw [<- q'];exact hocd)
def UA {M:Model}{i:Nat}{Q:AE}(I:sS X tN σ H s)(hN:X.N.Nodup)(hi:X.N[i]?=some x)(hx:Loc X.rC.scope x)(r:sO v u)(h:∀ s',sS X tN (σ.set i (some v)) H s'->Q () s')(hf:X.fn x=true∨X.rC.scope.names.lookup x=some .local:=by first|exact .inl rfl|exact .inr rfl|assumption):wpAny M A (storeName X.rC x u) Q E s :=
 Df I hN hi hx r (λs' I' _=>h s' I') hf
def sS.call' (I:sS X tN σ H s)(ho:s'.os=s.os)(u:Un (t9 X.stack) ch H H' s.heap s'.heap)(tI:sE X.rD X.w H' s'.heap)(hg:AllBare s'.gens)(hch:∀ b∈ch,(b∈X.ex∨X.s₀.heap.objs.size<=b)/\b≠X.rC.locals/\(∀ x c,X.rC.cells.lookup x=some c->c≠b)/\∀ p∈X.pn++tN,p.1≠b):sS X tN σ H' s':=by obtain ⟨h',g',d',t',o'⟩:=s';have e:o'=s.os:=ho;subst e;exact I.call (g':=g') (t':=t') (d':=d') u tI hg hch
end
abbrev XK:=Value->EG->Hp->Prop
abbrev St:=List EY
abbrev AV:=St->Hp->Prop
variable{σ:St}
abbrev VK:=V->Hp->Prop
abbrev AG:=List V->Hp->VK->Prop
abbrev AN:=V->List V->Hp->VK->Prop
abbrev AT:=V->Option Int->Option Int->Hp->VK->Prop
abbrev C1:=V->Hp->VK->Prop
abbrev TE:=St->Hp->VK->Prop
variable{ta tv:TE}{t te:TE}
abbrev TT:=St->Hp->(AJ)->Prop
variable{tA tB':TT}{tc:TT}
abbrev TA:=St->Hp->(AQ)->Prop
structure xy where
 nx:St->Hp->Prop
 rt:VK
 bk:St->Hp->Prop:=λ_ _=>False
 ct:St->Hp->Prop:=λ_ _=>False
variable{D:xy}
abbrev TS:=xy->St->Hp->Prop
abbrev AS:=Addr->Addr->Option Addr->TS
variable{tb:TS}
def EP (X:Cx)(tN:C4)(σ:St)(Q:VK)(u:G1)(s':G2):Prop:=∃ v H',sS X tN σ H' s'/\sO v u/\Q v H'
def TP (X:Cx)(tN:C4)(σ:St)(Q:AJ)(b:Bool)(s':G2):Prop:=∃ H',sS X tN σ H' s'/\Q b H'
def AP (X:Cx)(tN:C4)(σ:St)(Q:AQ)(us:C8)(s':G2):Prop:=∃ vs H',sS X tN σ H' s'/\sP vs us/\Q vs H'
def SP (X:Cx)(tN:C4)(D:xy)(f:Flow)(s':G2):Prop :=
 match f with
 | .next=>∃ σ' H',sS X tN σ' H' s'/\D.nx σ' H'
 | .brk=>∃ σ' H',sS X tN σ' H' s'/\D.bk σ' H'
 | .cont=>∃ σ' H',sS X tN σ' H' s'/\D.ct σ' H'
 | .ret u=>∃ v σ' H',sS X tN σ' H' s'/\sO v u/\D.rt v H'
def PE (X:Cx)(e:Expr)(t:TE):Prop :=
 ∀(tN:C4)(s:G2)(σ:St)(H:Hp)(Q:VK),sS X tN σ H s->t σ H Q->wpAny (model X.rD X.w) X.A (eval e X.rC) (EP X tN σ Q) X.xe s
def PT (X:Cx)(e:Expr)(t:TT):Prop :=
 ∀(tN:C4)(s:G2)(σ:St)(H:Hp)(Q:AJ),sS X tN σ H s->t σ H Q->wpAny (model X.rD X.w) X.A (isTrue e X.rC (eval e X.rC)) (TP X tN σ Q) X.xe s
def PW (X:Cx)(e:Expr)(t:TT):Prop :=
 ∀(whole:Sem G1)(tN:C4)(s:G2)(σ:St)(H:Hp)(Q:AJ),sS X tN σ H s->t σ H Q->wpAny (model X.rD X.w) X.A (isTrue e X.rC whole) (TP X tN σ Q) X.xe s
def PW.pt {t:TT}(h:PW X e t):PT X e t:=h _
def PA (X:Cx)(es:EN)(t:TA):Prop :=
 ∀(pos:Pos)(tN:C4)(s:G2)(σ:St)(H:Hp)(Q:AQ),sS X tN σ H s->t σ H Q->wpAny (model X.rD X.w) X.A (spliced (backTo pos (starEach es X.rC))) (AP X tN σ Q) X.xe s
def PS (X:Cx)(st:Stmt)(t:TS):Prop :=
 ∀(tN:C4)(s:G2)(σ:St)(H:Hp)(D:xy),sS X tN σ H s->t D σ H->wpAny (model X.rD X.w) X.A (exec st X.rC) (SP X tN D) X.xe s
def PSs (X:Cx)(st:F3)(t:TS):Prop :=
 ∀(tN:C4)(s:G2)(σ:St)(H:Hp)(D:xy),sS X tN σ H s->t D σ H->wpAny (model X.rD X.w) X.A (execs st X.rC) (SP X tN D) X.xe s
def j7 {t:Sem α}{Q Q':α->G2->Prop}{M:Model}(h:wpAny M A t Q E s)(hQ:∀ a s,Q a s->Q' a s):wpAny M A t Q' E s:=pM h hQ λ_ _ x=>x
section
def bin {a b:Expr}{tb:TE}(ha:PE X a ta)(hb:PE X b tb)(I:sS X tN σ H s)(h:ta σ H λx H1=>tb σ H1 λy H2=>R x y H2){Q:α->G2->Prop}{f:G1->G1->Sem α}(hf:∀ v u s2 x y H2,sS X tN σ H2 s2->sO x v->sO y u->R x y H2->wpAny (model X.rD X.w) X.A (f v u) Q X.xe s2):wpAny (model X.rD X.w) X.A (eval a X.rC) (λv s₁=>wpAny (model X.rD X.w) X.A (eval b X.rC) (λu s₂=>wpAny (model X.rD X.w) X.A (f v u) Q X.xe s₂) X.xe s₁) X.xe s:=by refine j7 (ha tN s σ H _ I h) λv s1 ⟨x,H1,I1,r1,q1⟩=>?_;refine j7 (hb tN s1 σ H1 _ I1 q1) λu s2 ⟨y,H2,I2,r2,q2⟩=>?_;exact hf v u s2 x y H2 I2 r1 r2 q2
def qM (i:Nat):TE:=λσ H Q=>∃ v,σ[i]?=some (some v)/\Q v H
def tC (v:V):TE:=λ_ H Q=>Q v H
def Sr {i:Nat}(hN:X.N[i]?=some x)(hv:Vis X.rC.scope x)(hd:(x==("__debug__":Str))=false:=by decide)(hcd:(x==("__classdict__":Str))=false:=by decide):PE X (.Name x pos) (qM i):=by
 intro tN s σ H Q I h;obtain ⟨v,e,h⟩:=h;obtain ⟨m,hn,hl⟩:=I.loc;obtain ⟨u,r,l⟩:=hl i x v hN e hv;have fin:EP X tN σ Q u s:=⟨v,H,I,r,h⟩;rcases l with ⟨hk,hm⟩|⟨hk,c,hc,hcell⟩
 .exact wpAny_Name (wpAny_loadName_local I.ok.kind hk hn hm fin) hd
 .rcases hk with hk|hk
  .exact wpAny_Name (wpAny_loadName_cell I.ok.kind hk hc hcell fin) hd
  .exact wpAny_Name (wpAny_loadName_free I.ok.kind hk hc hcell fin hcd) hd
def z7 {i j pos}:PE X (.Constant (.int i) j pos) (tC (.int i)):=λ_ _ _ H _ I h=>wpAny_Constant_int ⟨.int i,H,I.tok _,⟨_,rfl⟩,h⟩
def xH {b j pos}:PE X (.Constant (.bool b) j pos) (tC (.bl b)):=λ_ _ _ H _ I h=>Constant_bool ⟨.bl b,H,I,rfl,h⟩
def vV {j pos}:PE X (.Constant .none j pos) (tC .non):=λ_ _ _ H _ I h=>Constant_none ⟨.non,H,I,rfl,h⟩
def qY {x j pos}:PE X (.Constant (.str x) j pos) (tC (.str x)):=λ_ _ _ H _ I h=>Calls.Constant_str ⟨.str x,H,I.tok _,⟨_,rfl⟩,h⟩
def Gl (X:Cx)(x:Str):Prop:=X.rC.kindOf x=some .globalImplicit
def wA (I:sS X tN σ H s)(hg:Gl X x)(hm:X.mg x=some u)(h:Q u s)(hd:(x==("__debug__":Str))=false:=by decide):wpAny (model X.rD X.w) X.A (eval (.Name x pos) X.rC) Q E s :=
 Calls.Name_function_global I.ok.kind hg (Calls.loadGlobal_global (by rw [I.ok.glob];exact I.mod.glob.keeps I.bk) hm h) hd
def jL (I:sS X tN σ H s)(hg:Gl X x)(hm:X.mg x=none)(hv:bootBuiltins x=some u)(h:Q u s)(hn:x ≠ "__name__":=by decide)(hd:(x==("__debug__":Str))=false:=by decide):wpAny (model X.rD X.w) X.A (eval (.Name x pos) X.rC) Q E s:=by obtain ⟨mb,h1,h2⟩:=I.mod.blt;exact Calls.Name_function_global I.ok.kind hg (Calls.loadGlobal_builtin (by rw [I.ok.glob];exact I.mod.glob.keeps I.bk) hm (by rw [I.ok.blt];exact h1.keeps I.bk) ((h2 x hn).trans hv) h) hd
def wO (hg:Gl X x)(hm:X.mg x=some u)(r:sO v u)(hd:(x==("__debug__":Str))=false:=by decide):PE X (.Name x pos) (tC v) :=
 λ_ _ _ H _ I h=>wA I hg hm ⟨v,H,I,r,h⟩ hd
def jq (hg:Gl X x)(hm:X.mg x=none)(hv:bootBuiltins x=some u)(r:sO v u)(hn:x ≠ "__name__":=by decide)(hd:(x==("__debug__":Str))=false:=by decide):PE X (.Name x pos) (tC v) :=
 λ_ _ _ H _ I h=>jL I hg hm hv ⟨v,H,I,r,h⟩ hn hd
variable{a b:Expr}{tb:TE}
def PC (X:Cx)(op:CmpOp)(a b:Expr)(t:TE):Prop :=
 ∀(tN:C4)(s:G2)(σ:St)(H:Hp)(Q:VK),sS X tN σ H s->t σ H Q ->
  wpAny (model X.rD X.w) X.A (eval a X.rC) (λv s₁=>wpAny (model X.rD X.w) X.A (eval b X.rC) (λu s₂=>wpAny (model X.rD X.w) X.A (compareOp op v u) (EP X tN σ Q) X.xe s₂) X.xe s₁) X.xe s
def tB (t:TE):TT:=λσ H Q=>t σ H λx H1=>∃ c,x = .bl c/\Q c H1
def Ce (h:PC X op a b t)(h1:behindInMarks op b=false:=by first|exact nobehind _ (by decide) (by decide)|rfl):PT X (.Compare a [op] [b] pos) (tB t):=by intro tN s σ H Q I hw;refine wpAny_isTrue_Compare1 (j7 (h tN s σ H _ I hw) λv s1 h1=>j7 h1 λu s2 h2=>j7 h2 λc s3 ⟨x,H1,I1,r1,q1⟩=>?_) h1;obtain ⟨d,rfl,q⟩:=q1;cases r1;exact pY ⟨H1,I1,q⟩
def tAnd (t u:TT):TT:=λσ H Q=>t σ H λc H1=>if c=true then u σ H1 Q else Q false H1
def tOr (t u:TT):TT:=λσ H Q=>t σ H λc H1=>if c=true then Q true H1 else u σ H1 Q
def tNot (t:TT):TT:=λσ H Q=>t σ H λc H1=>Q (!c) H1
def Ci (ha:PT X a tA):PW X (.BoolOp .And [a] pos) tA:=by
 intro wh tN s σ H Q I h;refine isTrue_and (j7 (ha tN s σ H Q I h) λc s1 e=>?_);cases c with
 |true=>exact isTrue_and_nil e
 |false=>exact e
def wU (ha:PT X a tA):PW X (.BoolOp .Or [a] pos) tA:=by
 intro wh tN s σ H Q I h;refine isTrue_or (j7 (ha tN s σ H Q I h) λc s1 e=>?_);cases c with
 |false=>exact isTrue_or_nil e
 |true=>exact e
def Ch (ha:PT X a tA)(hb:PW X (.BoolOp .And (b::rest) pos) tB'):PW X (.BoolOp .And (a::b::rest) pos) (tAnd tA tB'):=by
 intro wh tN s σ H Q I h;refine isTrue_and (j7 (ha tN s σ H _ I h) λc s1 ⟨H1,I1,q1⟩=>?_);cases c with
 |true=>exact hb wh tN s1 σ H1 Q I1 q1
 |false=>exact ⟨H1,I1,q1⟩
def vw (ha:PT X a tA)(hb:PW X (.BoolOp .Or (b::rest) pos) tB'):PW X (.BoolOp .Or (a::b::rest) pos) (tOr tA tB'):=by
 intro wh tN s σ H Q I h;refine isTrue_or (j7 (ha tN s σ H _ I h) λc s1 ⟨H1,I1,q1⟩=>?_);cases c with
 |true=>exact ⟨H1,I1,q1⟩
 |false=>exact hb wh tN s1 σ H1 Q I1 q1
def xw (ha:PT X a tA):PT X (.UnaryOp .Not a pos) (tNot tA):=by intro tN s σ H Q I h;exact isTrue_not (ha tN s σ H (λc H1=>Q (!c) H1) I h)
def Di (ta tb:TE):TE:=λσ H Q=>ta σ H λx H1=>∃ c,x = .bl c/\if c=true then tb σ H1 Q else Q (.bl false) H1
def Dp (ta:TE):TE:=λσ H Q=>ta σ H λx H1=>∃ c,x = .bl c/\Q (.bl (!c)) H1
def vp {op}(h:PE X a t):PE X (.BoolOp op [a] pos) t:=λtN s σ H Q I hw=>BoolOp_one (h tN s σ H Q I hw)
def jQ (ha:PE X a ta)(hb:PE X (.BoolOp .And (b::rest) pos) tb):PE X (.BoolOp .And (a::b::rest) pos) (Di ta tb):=by
 intro tN s σ H Q I h;refine BoolOp_and (j7 (ha tN s σ H _ I h) λv s1 ⟨x,H1,I1,r1,q1⟩=>?_);obtain ⟨c,rfl,q1⟩:=q1;cases r1;refine pY ?_;cases c with
 |true=>exact hb tN s1 σ H1 Q I1 q1
 |false=>exact ⟨.bl false,H1,I1,rfl,q1⟩
def Sn (ha:PE X a ta):PE X (.UnaryOp .Not a pos) (Dp ta):=by intro tN s σ H Q I h;refine UnaryOp_ (j7 (ha tN s σ H _ I h) λv s1 ⟨x,H1,I1,r1,q1⟩=>?_);obtain ⟨c,rfl,q1⟩:=q1;cases r1;exact not_of (pY ⟨.bl (!c),H1,I1,rfl,q1⟩)
def tIf (t:TT)(ta tb:TE):TE:=λσ H Q=>t σ H λc H1=>if c=true then ta σ H1 Q else tb σ H1 Q
def WK (hc:PT X c tA)(ha:PE X a ta)(hb:PE X b tb):PE X (.IfExp c a b pos) (tIf tA ta tb):=by
 intro tN s σ H Q I h;refine wpAny_IfExp (j7 (hc tN s σ H _ I h) λd s1 ⟨H1,I1,q1⟩=>?_);cases d with
 |true=>exact ha tN s1 σ H1 Q I1 q1
 |false=>exact hb tN s1 σ H1 Q I1 q1
end
def sK (K:Fg)(H:Hp)(a:Addr)(xs:EB):Prop :=
 Rd H a (.lst xs) ∨
  ∃ (o:Obj) (its:ED) (n:Nat),K.lookup a=some o/\o.cls = .type "list"/\o.dict=none/\o.data = .seq its n/\its.size<=sizeLine/\sP xs its.toList
def sD (K:Fg)(H:Hp)(a:Addr)(xs:EB):Prop :=
 Rd H a (.tup xs) ∨
  ∃ (o:Obj) (its:ED) (n:Nat),K.lookup a=some o/\o.cls = .type "tuple"/\o.data = .seq its n/\its.size<=sizeLine/\sP xs its.toList
def absV:G1->Option V
 | .none=>some .non
 | .bool b=>some (.bl b)
 | .int i _=>some (.int i)
 | .str x _=>some (.str x)
 | .bytes b _=>some (.byt b)
 | .float b _=>some (.flt b)
 | .ref a=>some (.ref a)
 | .type n=>some (.ty n)
 |_=>none
def sO.abs {x:V}(r:sO x u):absV u=some x:=by
 cases x with
 |non=>cases r;rfl
 |bl _=>cases r;rfl
 |int _=>obtain ⟨t,rfl⟩:=r;rfl
 |str _=>obtain ⟨t,rfl⟩:=r;rfl
 |byt _=>obtain ⟨t,rfl⟩:=r;rfl
 |flt _=>obtain ⟨t,rfl⟩:=r;rfl
 |ref _=>cases r;rfl
 |ty _=>cases r;rfl
def sO.inj {x:V}(r:sO x u)(q:sO y u):x=y:=Option.some.inj (r.abs.symm.trans q.abs)
theorem sP.inj:∀{xs ys:EB}{us:C8},sP xs us->sP ys us->xs=ys
 |_,_,_,.nil,.nil=>rfl
 |_,_,_,.cons r t,.cons r' t'=>by rw [r.inj r',sP.inj t t']
def sK.of (h:H a=some (.lst xs)):sK K H a xs:= .inl (.inl h)
def sD.of (h:H a=some (.tup xs)):sD K H a xs:= .inl (.inl h)
def sS.list (I:sS X tN σ H s)(h:sK X.K H a xs):∃ its:C8,sP xs its/\PlainL s.heap a its.toArray/\xs.length<=sizeLine:=by
 rcases h with h|⟨o,its,n,hk,hc,hd,hs,hz,r⟩
 .obtain ⟨z,its,n,r,e⟩:=h.ok I.tI;exact ⟨its,r,⟨_,n,e,rfl,rfl,rfl⟩,z⟩
 .refine ⟨its.toList,r,⟨o,n,I.kIn a o hk,hc,hd,by simpa using hs⟩,?_⟩;have e:=r.length;simp only [ub] at e;omega
def sS.tuple (I:sS X tN σ H s)(h:sD X.K H a xs):∃ its:C8,sP xs its/\IsTup s.heap a its.toArray/\xs.length<=sizeLine:=by
 rcases h with h|⟨o,its,n,hk,hc,hs,hz,r⟩
 .obtain ⟨z,its,r,p⟩:=h.ok I.tI;exact ⟨its,r,p,z⟩
 .refine ⟨its.toList,r,⟨o,I.kIn a o hk,hc,n,by simpa using hs⟩,?_⟩;have e:=r.length;simp only [ub] at e;omega
def sS.list_inj (I:sS X tN σ H s)(h:sK X.K H a xs)(h':sK X.K H a ys):xs=ys:=by
 obtain ⟨its,r,⟨o,n,e,_,_,d⟩,_⟩:=I.list h;obtain ⟨its',r',⟨o',n',e',_,_,d'⟩,_⟩:=I.list h';rw [e] at e';cases e';rw [d] at d';injection d' with d1 _;have:its=its':=by simpa using pL Array.toList d1
 subst this;exact r.inj r'
def sS.tuple_inj (I:sS X tN σ H s)(h:sD X.K H a xs)(h':sD X.K H a ys):xs=ys:=by
 obtain ⟨its,r,⟨o,e,_,n,d⟩,_⟩:=I.tuple h;obtain ⟨its',r',⟨o',e',_,n',d'⟩,_⟩:=I.tuple h';rw [e] at e';cases e';rw [d] at d';injection d' with d1 _;have:its=its':=by simpa using pL Array.toList d1
 subst this;exact r.inj r'
abbrev Cx.wish (X:Cx)(E:AA):Cx:={ X with xe:=E }
abbrev Cx.nox (X:Cx):Cx:=X.wish λ_ _=>False
def Cx.Ok.wish (ok:X.Ok)(E:AA):(X.wish E).Ok :=
 ⟨ok.mod,ok.kind,ok.glob,ok.blt,ok.above,ok.inj,ok.has,ok.cab,ok.hd,ok.frames,ok.stk,ok.exf,ok.bs,ok.bsz,ok.noex,ok.exfs,ok.funs,ok.frf,ok.tbs⟩
def Cx.Ok.unwish (ok:(X.wish E).Ok):X.Ok :=
 ⟨ok.mod,ok.kind,ok.glob,ok.blt,ok.above,ok.inj,ok.has,ok.cab,ok.hd,ok.frames,ok.stk,ok.exf,ok.bs,ok.bsz,ok.noex,ok.exfs,ok.funs,ok.frf,ok.tbs⟩
def sS.wish (I:sS X tN σ H s)(E:AA):sS (X.wish E) tN σ H s:=⟨I.ok.wish E,I.os,I.bare,I.tM,I.loc,I.cell,I.free,I.freeC,I.pin,I.tI,I.len⟩
def sS.unwish (I:sS (X.wish E) tN σ H s):sS X tN σ H s:=⟨I.ok.unwish,I.os,I.bare,I.tM,I.loc,I.cell,I.free,I.freeC,I.pin,I.tI,I.len⟩
def SP.unwish {f:Flow}(h:SP (X.wish E) tN D f s'):SP X tN D f s':=by
 cases f with
 |next=>obtain ⟨σ',H',I,q⟩:=h;exact ⟨σ',H',I.unwish,q⟩
 |brk=>obtain ⟨σ',H',I,q⟩:=h;exact ⟨σ',H',I.unwish,q⟩
 |cont=>obtain ⟨σ',H',I,q⟩:=h;exact ⟨σ',H',I.unwish,q⟩
 |ret u=>obtain ⟨v,σ',H',I,r,q⟩:=h;exact ⟨v,σ',H',I.unwish,r,q⟩
def PSs.nox {st:F3}{t:TS}(h:PSs X.nox st t):PSs X st t:=λtN s σ H D I hw =>
 pM (h tN s σ H D (I.wish _) hw) (λ_ _ q=>q.unwish) λ_ _ z=>False.elim z
section
variable {X:Cx}{st:Stmt}{rest:F3}{t u:TS}{e:Expr}{te:TE}{pos:Pos}
def UD:TS:=λD σ H=>D.nx σ H
def tSeq (t u:TS):TS:=λD σ H=>t { D with nx:=u D } σ H
def qi:PSs X [] UD:=λ_ _ σ H _ I h=>pA ⟨σ,H,I,h⟩
def j6 (h1:PS X st t)(h2:PSs X rest u):PSs X (st::rest) (tSeq t u):=by
 intro tN s σ H D I h;refine wpAny_execs_cons (j7 (h1 tN s σ H { D with nx:=u D } I h) λf s1 q=>?_);cases f with
 |next=>obtain ⟨σ',H',I',q⟩:=q;exact h2 tN s1 σ' H' D I' q
 |ret v=>exact q
 |brk=>exact q
 |cont=>exact q
def j9 (h1:PS X st t):PSs X [st] t:=by
 intro tN s σ H D I h;refine wpAny_execs_cons (j7 (h1 tN s σ H D I h) λf s1 q=>?_);cases f with
 |next=>exact pA q
 |ret v=>exact q
 |brk=>exact q
 |cont=>exact q
def sS.quiet (I:sS X tN σ H s):interactive X.rC=false:=by simp [interactive,I.ok.kind]
def jx (te:TE):TS:=λD σ H=>te σ H λ_ H1=>D.nx σ H1
def xp (he:PE X e te)(hs:swapsWith e none pos.line X.rC=pure false:=by rfl):PS X (.Expr e pos) (jx te):=by intro tN s σ H D I h;exact wpAny_Expr_any (j7 (he tN s σ H _ I h) λv s1 ⟨x,H1,I1,r1,q1⟩=>⟨σ,H1,I1,q1⟩) I.quiet hs
def ZF (te:TE):TS:=λD σ H=>te σ H D.rt
def u6 (he:PE X e te):PS X (.Return (some e) pos) (ZF te):=by intro tN s σ H D I h;exact wpAny_Return_some (j7 (he tN s σ H _ I h) λv s1 ⟨x,H1,I1,r1,q1⟩=>⟨x,σ,H1,I1,r1,q1⟩)
def Xe (c:TT)(t u:TS):TS:=λD σ H=>c σ H λb H1=>if b=true then t D σ H1 else u D σ H1
def qb {a b:F3}(hc:PT X c tc)(ha:PSs X a t)(hb:PSs X b u):PS X (.If c a b pos) (Xe tc t u):=by
 intro tN s σ H D I h;refine wpAny_If (j7 (hc tN s σ H _ I h) λd s1 ⟨H1,I1,q1⟩=>?_);cases d with
 |true=>exact ha tN s1 σ H1 D I1 q1
 |false=>exact hb tN s1 σ H1 D I1 q1
def Dn:TS:=λ_ _ _=>False
def vt:PS X st Dn:=λ_ _ _ _ _ _ h=>h.elim
end
abbrev TG:=V->St->Hp->(AV)->Prop
abbrev TGs:=List V->St->Hp->(AV)->Prop
def PG (X:Cx)(target:Expr)(t:TG):Prop :=
 ∀(tN:C4)(s:G2)(σ:St)(H:Hp)(v:V)(u:G1)(Q:AV),sS X tN σ H s->sO v u->t v σ H Q ->
  wpAny (model X.rD X.w) X.A (assign target X.rC u) (λ_ s'=>∃ σ' H',sS X tN σ' H' s'/\Q σ' H') X.xe s
def PGs (X:Cx)(ts:EN)(t:TGs):Prop :=
 ∀(tN:C4)(s:G2)(σ:St)(H:Hp)(vs:EB)(us:C8)(Q:AV),sS X tN σ H s->sP vs us->t vs σ H Q ->
  wpAny (model X.rD X.w) X.A (assignInOrder ((assignEach ts X.rC).map (·.2)) us) (λ_ s'=>∃ σ' H',sS X tN σ' H' s'/\Q σ' H') X.xe s
abbrev TSet:=V->V->V->Hp->(Hp->Prop)->Prop
def PSet (X:Cx)(t:TSet):Prop :=
 ∀(tN:C4)(s:G2)(σ:St)(H:Hp)(o i v:V)(ov iv u:G1)(Q:Hp->Prop),sS X tN σ H s->sO o ov->sO i iv->sO v u->t o i v H Q ->
  wpAny (model X.rD X.w) X.A (setItem ov iv u) (λ_ s'=>∃ H',sS X tN σ H' s'/\Q H') X.xe s
section
variable {X:Cx}{pos:Pos}
def xE (i:Nat):TG:=λv σ H Q=>Q (σ.set i (some v)) H
def m5 {i:Nat}(hN:X.N.Nodup)(hi:X.N[i]?=some x)(hx:Loc X.rC.scope x)(hf:X.fn x=true∨X.rC.scope.names.lookup x=some .local:=by first|exact .inl rfl|exact .inr rfl|assumption):PG X (.Name x pos) (xE i):=by intro tN s σ H v u Q I r h;exact wpAny_assign_Name (UA I hN hi hx r (λs' I'=>⟨_,H,I',h⟩) hf)
def tO {i:Nat}(N:List Str)(e:N.Nodup:=by decide +kernel)(hN:X.N=N:=by rfl)(hi:X.N[i]?=some x:=by rfl)(hx:Loc X.rC.scope x:=by exact Or.inl rfl)(hf:X.fn x=true∨X.rC.scope.names.lookup x=some .local:=by first|exact .inl rfl|exact .inr rfl|assumption):PG X (.Name x pos) (xE i):=m5 (hN▸e) hi hx hf
def gNil:TGs:=λvs σ H Q=>vs=[]/\Q σ H
def Wa (t:TG)(u:TGs):TGs:=λvs σ H Q=>∃ v r,vs=v::r/\t v σ H λσ' H'=>u r σ' H' Q
def QX:PGs X [] gNil:=by intro tN s σ H vs us Q I r h;obtain ⟨e,h⟩:=h;subst e;cases r;exact assignInOrder_nil ⟨σ,H,I,h⟩
def zV {t:TG}{u:TGs}(h1:PG X e t)(h2:PGs X es u)(hs:(assignEach (e::es) X.rC).map (·.2)=assign e X.rC::(assignEach es X.rC).map (·.2):=by rfl):PGs X (e::es) (Wa t u):=by
 intro tN s σ H vs us Q I r h;obtain ⟨v,vr,e1,h⟩:=h;subst e1;cases r with
 |cons r rr=>rw [hs];refine assignInOrder_cons (j7 (h1 tN s σ H _ _ _ I r h) λ_ s1 ⟨σ1,H1,I1,q1⟩=>?_);exact h2 tN s1 σ1 H1 _ _ Q I1 rr q1
def gTup (K:Fg)(n:Nat)(t:TGs):TG:=λv σ H Q=>∃ a xs,v = .ref a/\sD K H a xs/\xs.length=n/\t xs σ H Q
def Su {k:Nat}{t:TGs}(hc:X.calm=true)(h:PGs X es t)(hn:(assignEach es X.rC).length=n:=by rfl)(hst:(assignEach es X.rC).findIdx? (·.1)=none:=by rfl):PG X (.Tuple es k pos) (gTup X.K n t):=by intro tN s σ H v u Q I r hw;obtain ⟨a,xs,e1,hq,hl,hw⟩:=hw;subst e1;cases r;obtain ⟨its,rv,ht,hz⟩:=I.tuple hq;refine assign_Tuple_tuple (I.ok.hd hc) ht (by simp [hn,<- hl,rv.length]) hst λh' hx=>?_;have I1:sS X tN σ H { s with heap:=h' }:=I.kept (t':=s.toks) λb o e=>hx b o (yG (yN e)) e;exact h tN _ σ H xs _ Q I1 (by simpa using rv) hw
def gSub (to ti:TE)(t:TSet):TG:=λv σ H Q=>to σ H λo H1=>ti σ H1 λi H2=>t o i v H2 λH3=>Q σ H3
def Ss {o i:Expr}{to ti:TE}{t:TSet}(ho:PE X o to)(hi:PE X i ti)(hs:PSet X t)
  (ha:∀ v,assign (.Subscript o i pos) X.rC v=(do
   let ov <- holding [v] (eval o X.rC)
   let iv <- holding [v,ov] (eval i X.rC)
   standAt pos
   holding [v,ov,iv] (setItem ov iv v)
   release [v,ov,iv] []):=by intro _;rfl):PG X (.Subscript o i pos) (gSub to ti t):=by
 intro tN s σ H v u Q I r h;rw [ha];refine yY (rh (j7 (ho tN s σ H _ I h) λov s1 ⟨x,H1,I1,r1,q1⟩=>?_));refine yY (rh (j7 (hi tN s1 σ H1 _ I1 q1) λiv s2 ⟨y,H2,I2,r2,q2⟩=>?_));refine yY (oN (yY (rh (j7 (hs tN s2 σ H2 x y v ov iv u _ I2 r1 r2 r q2) λ_ s3 ⟨H3,I3,q3⟩=>?_))));exact wpAny_release ⟨σ,H3,I3,q3⟩
def jw (te:TE)(g:TG):TS:=λD σ H=>te σ H λx H1=>g x σ H1 D.nx
def SI {g:TG}(he:PE X e te)(hg:PG X tg g)(hs:swapsWithSole [tg] e pos.line X.rC=pure false:=by rfl)(hw:swappedStores [tg] e X.rC=pure none:=by rfl)(h1:(assignEach [tg] X.rC).map (·.2)=[assign tg X.rC]:=by rfl):PS X (.Assign [tg] e pos) (jw te g):=by intro tN s σ H D I h;refine wpAny_Assign_stores (j7 (he tN s σ H _ I h) λv s1 ⟨x,H1,I1,r1,q1⟩=>?_) hs hw;rw [h1];exact j7 (hg tN s1 σ H1 x v _ I1 r1 q1) λ_ s2 q=>q
def qq {i:Nat}{x:Str}{e:Expr}{te:TE}{pos':Pos}(hN:X.N.Nodup)(hi:X.N[i]?=some x)(hx:Loc X.rC.scope x)(he:PE X e te)(hs:swapsWith e (some (.Name x pos')) pos.line X.rC=pure false:=by rfl)(hf:X.fn x=true∨X.rC.scope.names.lookup x=some .local:=by first|exact .inl rfl|exact .inr rfl|assumption):PS X (.Assign [.Name x pos'] e pos) (jw te (xE i)):=by intro tN s σ H D I h;refine wpAny_Assign_Name (j7 (he tN s σ H _ I h) λv s1 ⟨y,H1,I1,r1,q1⟩=>?_) hs;exact UA I1 hN hi hx r1 (λs2 I2=>⟨_,H1,I2,q1⟩) hf
end
def Du (c:TT)(tb:TS):TS:=λD σ H=>∃ W:Nat->St->Hp->Prop,(∃ m,W m σ H)/\∀ m σ H,W m σ H ->
 c σ H λb H1=>if b=true then ∃ N:St->Hp->Prop,(∀ σ' H',N σ' H'->∃ m',m'<m/\W m' σ' H')/\tb { D with nx:=N,ct:=N,bk:=D.nx } σ H1 else D.nx σ H1
def SQ (hp:PassesOwn (model X.rD X.w) X.A X.rC X.xe)(hc:PT X c tc)(hb:PSs X body tb):PS X (.While c body [] pos) (Du tc tb):=by
 intro tN s σ H D I h;obtain ⟨W,⟨m0,w0⟩,turn⟩:=h;refine wpAny_While (codeAny_whileLoop (λn s'=>∃ σ' H',sS X tN σ' H' s'/\W n σ' H') ?_ m0 ⟨σ,H,I,w0⟩);rintro n s1 ⟨σ1,H1,I1,w1⟩;refine pH hp (j7 (hc tN s1 σ1 H1 _ I1 (turn n σ1 H1 w1)) λb s2 ⟨H2,I2,q2⟩=>?_);cases b with
 |true =>
  obtain ⟨N,hN,q2⟩:=q2;rw [rB rfl];refine pH hp (j7 (hb tN s2 σ1 H2 _ I2 q2) λf s3 q3=>?_);cases f with
  |next=>obtain ⟨σ3,H3,I3,n3⟩:=q3;obtain ⟨m',hm,w3⟩:=hN σ3 H3 n3;exact ⟨m',hm,σ3,H3,I3,w3⟩
  |cont=>obtain ⟨σ3,H3,I3,n3⟩:=q3;obtain ⟨m',hm,w3⟩:=hN σ3 H3 n3;exact ⟨m',hm,σ3,H3,I3,w3⟩
  |brk=>exact q3
  |ret v=>exact q3
 |false=>rw [rq yQ];exact pA ⟨σ1,H2,I2,q2⟩
structure It where
 go:Nat->Hp->Prop
 yld:Nat->Hp->V->Hp->Prop
 stop:Nat->Hp->Prop
abbrev AX:=It->Hp->Prop
def xN (X:Cx)(tN:C4)(H:Hp)(b:Addr):Prop :=
 H b=none/\b≠X.rC.locals/\b∉X.fs/\(b∈X.ex∨X.s₀.heap.objs.size<=b)/\(∀ x c,X.rC.cells.lookup x=some c->c≠b)/\∀ p∈X.pn++tN,p.1≠b
def sS.fpOk (I:sS X tN σ H s)(hb:s.heap.objs.size<=b)(hn:H' b=none):xN X tN H' b:=by
 refine ⟨hn,ug (yx I.lt hb),I.nofs hb,.inr (yj I.sz hb),λx c e z=>?_,λp hp z=>?_⟩
 .obtain ⟨v,q⟩:=I.cell x c e;exact rp (yx q.lt (by rw [z];exact hb)) (uT _)
 .exact rp (yx (yN (I.pin p hp).1) (by rw [z];exact hb)) (uT _)
structure jY (P:G3)(w:G5)(K:Fg)(tg:Expr)(J:It)(fp:EC)(it:Addr)(tn:AZ):Prop where
 mem:it∈fp
 obj:∀ i h,tn i h->∀ b∈fp,∃ o,h.get? b=some o/\∀ v,o.data ≠ .cell v
 keep:∀ i h h',tn i h->(∀ b∈fp,∀ o,h.get? b=some o->h'.get? b=some o)->tn i h'
 item:∀(X:Cx),X.rD=P->X.w=w->X.K=K->X.calm=true->∀(i:Nat)(tN:C4)(s:G2)(σ:St)(H:Hp)(E:AA),sS X tN σ H s->(∀ b∈fp,xN X tN H b)->tn i s.heap->J.go i H ->
  wpAny (model P w) X.A (pyNext (.ref it)) (λr s1=>∃ u,r=some u /\
   wpAny (model P w) X.A (letOwnedTupleGo tg (.ref it) u) (λ_ s2=>∃ x H',sS X tN σ H' s2/\sO x u/\J.yld i H x H'/\tn (i+1) s2.heap/\∀ b∈fp,H' b=none) E s1) E s
 done:∀(X:Cx),X.rD=P->X.w=w->X.K=K->X.calm=true->∀(i:Nat)(tN:C4)(s:G2)(σ:St)(H:Hp)(E:AA),sS X tN σ H s->(∀ b∈fp,xN X tN H b)->tn i s.heap->J.stop i H ->
  wpAny (model P w) X.A (pyNext (.ref it)) (λr s1=>r=none/\sS X tN σ H s1) E s
 self:∀(A:G4)(i:Nat)(s:G2)(Q:AA)(E:AA),tn i s.heap->Q (.ref it) s->wpAny (model P w) A (pyIter (.ref it)) Q E s
abbrev TI:=St->Hp->(AX)->Prop
def PIE (X:Cx)(tN:C4)(σ:St)(tg:Expr)(R:AX)(itv:G1)(s2:G2):Prop :=
 ∃(it:Addr)(fp:EC)(tn:AZ)(J:It)(H':Hp),itv = .ref it/\sS X tN σ H' s2/\jY X.rD X.w X.K tg J fp it tn/\tn 0 s2.heap/\(∀ b∈fp,xN X tN H' b)/\R J H'
def PI (X:Cx)(tg iter:Expr)(wi:TI):Prop :=
 ∀(tN:C4)(s:G2)(σ:St)(H:Hp)(R:AX),sS X tN σ H s->wi σ H R ->
  wpAny (model X.rD X.w) X.A (eval iter X.rC) (λv s1=>wpAny (model X.rD X.w) X.A (pyIter v) (PIE X tN σ tg R) X.xe s1) X.xe s
def Jw {M:Model}{o:Obj}{n:String}{vs:ED}{Q:AE}(ho:s.heap.get? it=some o)(hc:o.cls = .type n)(hd:o.data = .fields vs)(hn:["enumerate","zip","dict_itemiterator","dict_reverseitemiterator","odict_iterator","itertools.zip_longest","itertools.pairwise"].contains n=false)(hQ:Q () s):wpAny M A (letOwnedTupleGo tg (.ref it) u) Q E s:=by
  unfold letOwnedTupleGo;cases tg<;>first
    |exact yI hQ
    | (cases u <;> first
        |exact yI hQ
        | (refine yY (wpAny_load ho ?_)
           rw [hc,hd];show wpAny M A (if (["enumerate","zip","dict_itemiterator","dict_reverseitemiterator","odict_iterator","itertools.zip_longest","itertools.pairwise"].contains n&&vs[0]?==some (rawInt _))=true then _ else _) Q E s;rw [rq (by intro h;rw [hn,Bool.false_and] at h;cases h)];exact yI hQ))
def Itl (K:Fg)(a:Addr):It :=
 ⟨λi H=>∃ xs x,sK K H a xs/\xs[i]?=some x,λi H x H'=>H'=H/\∀ xs,sK K H a xs->xs[i]?=some x,λi H=>∃ xs,sK K H a xs/\xs.length<=i⟩
def Itr (lo:Int)(n:Nat):It:=⟨λi _=>i<n,λi H x H'=>H'=H/\x = .int (lo+i),λi _=>n<=i⟩
def Ob (a it:Addr):jY P w K tg (Itl K a) [it] it (λi h=>h.IsListIter it a i) where
 mem:=by simp
 obj:=λi h st b hb=>by
  have e:b=it:=by simpa using hb
  subst e;obtain ⟨o,e,c,d⟩:=st;exact ⟨o,e,λv z=>by rw [d] at z;cases z⟩
 keep:=λi h h' st k=>st.at λo e=>k it (by simp) o e
 item:=by intro X hP hw hK hc i tN s σ H E I hf st hg;subst hP hw hK;obtain ⟨xs,x,hq,hx⟩:=hg;obtain ⟨its,rv,p,hz⟩:=I.list hq;obtain ⟨u,hu,ru⟩:=rv.get hx;obtain ⟨f0,f1,f2,f3,f4,f5⟩:=hf it (by simp);refine wpAny_pyNext_list_item st p.isList (x:=u) (by simpa using hu) λh' st' sb=>?_;have I1:sS X tN σ H { s with heap:=h' }:=I.turned (t':=s.toks) (λb o hb e=>(sb.2 b hb).trans e) f0 f1 f3 f4 f5;obtain ⟨o,e,c,d⟩:=id st';exact ⟨u,rfl,Jw (s:={ s with heap:=h' }) e c d (by decide) ⟨x,H,I1,ru,⟨rfl,λys hy=>by rw [I.list_inj hy hq];exact hx⟩,st',λb hb=>(hf b hb).1⟩⟩
 done:=by intro X hP hw hK hc i tN s σ H E I hf st hg;subst hP hw hK;obtain ⟨xs,hq,hx⟩:=hg;obtain ⟨its,rv,p,hz⟩:=I.list hq;obtain ⟨f0,f1,f2,f3,f4,f5⟩:=hf it (by simp);have hl:=rv.length;exact wpAny_pyNext_list_end (I.ok.hd hc) st p.isList (by simp;omega) λh' eb=>⟨rfl,I.turned (t':=s.toks) (λb o hb e=>eb b o hb e) f0 f1 f3 f4 f5⟩
 self:=λ_ _ _ _ _ st h=>wpAny_pyIter_listiter st h
def Oc (it:Addr)(lo:Int)(n:Nat):jY P w K tg (Itr lo n) [it] it (λi h=>IsRangeIter h it (lo+(i:Nat)*1) ((n:Int)-(i:Nat)) 1) where
 mem:=by simp
 obj:=λi h st b hb=>by
  have e:b=it:=by simpa using hb
  subst e;exact ⟨_,st,λv z=>by
   have z':Data.fields _=Data.cell v:=z;cases z'⟩
 keep:=λi h h' st k=>k it (by simp) _ st
 item:=by intro X hP hw hK hc i tN s σ H E I hf st hg;subst hP hw hK;obtain ⟨f0,f1,f2,f3,f4,f5⟩:=hf it (by simp);have W:=Walks.range (prog:=X.rD) (w:=X.w) (I.ok.hd hc) it lo 1 n;refine W.item i s _ _ hg st λv h' tk hv st' kk=>?_;obtain ⟨t,rfl⟩:=hv;have I1:sS X tN σ H { s with heap:=h',toks:=tk }:=I.turned (λb o hb e=>kk b o (by simpa using hb) e) f0 f1 f3 f4 f5;refine ⟨_,rfl,Jw (s:={ s with heap:=h',toks:=tk }) (n:="range_iterator") st' rfl rfl (by decide) ⟨.int (lo+i),H,I1,⟨t,?_⟩,⟨rfl,rfl⟩,st',λb hb=>(hf b hb).1⟩⟩;rw [Int.mul_one]
 done:=by intro X hP hw hK hc i tN s σ H E I hf st hg;subst hP hw hK;obtain ⟨f0,f1,f2,f3,f4,f5⟩:=hf it (by simp);exact wpAny_pyNext_range_end (I.ok.hd hc) st (by have:n<=i:=hg;omega) λh' eb=>⟨rfl,I.turned (t':=s.toks) (λb o hb e=>eb b o hb e) f0 f1 f3 f4 f5⟩
 self:=λ_ _ _ _ _ st h=>wpAny_pyIter_rangeiter st h
section
variable {X:Cx}{tg:Expr}
def XJ (K:Fg)(tl:TE):TI:=λσ H R=>tl σ H λx H1=>∃ a,x = .ref a/\(∃ xs,sK K H1 a xs)/\R (Itl K a) H1
def Sw {l:Expr}{tl:TE}(hl:PE X l tl):PI X tg l (XJ X.K tl):=by
 intro tN s σ H R I h;refine j7 (hl tN s σ H _ I h) λv s1 ⟨x,H1,I1,r1,q1⟩=>?_;obtain ⟨a,e,⟨xs,hq⟩,q⟩:=q1;subst e;cases r1;obtain ⟨its,rv,p,hz⟩:=I1.list hq;refine pz p.isList ?_;refine ⟨s1.heap.objs.size,[s1.heap.objs.size],_,_,H1,rfl,I1.kept (t':=s1.toks) λb o e=>yW _ e,Ob a _,⟨_,yz _ rfl,rfl,rfl⟩,λb hb=>?_,q⟩;have e:b=s1.heap.objs.size:=by simpa using hb
 subst e;exact I1.fpOk (yP _) (I1.tI.fresh (yP _))
def SW {R:AX}{hi:Int}{t u v:Tok}{tk:Nat}(I:sS X tN σ H s)(h1:-(2 ^ 62)<=lo)(h2:lo<2 ^ 62)(h3:-(2 ^ 62)<=hi)(h4:hi<2 ^ 62)(q:R (Itr lo (hi-lo).toNat) H):wpAny (model X.rD X.w) X.A (pyIter (.ref s.heap.objs.size)) (PIE X tN σ tg R) E { s with heap:=s.heap.push { cls:= .type "range",data:= .fields #[.int lo t,.int hi u,.int 1 v] },toks:=tk }:=by
 refine wpAny_pyIter_range (IsRange.new ..) (small_one h1 h2 h3 h4) ?_;have I1:sS X tN σ H { s with heap:=s.heap.push { cls:= .type "range",data:= .fields #[.int lo t,.int hi u,.int 1 v] },toks:=tk }:=I.kept λb o e=>yW _ e;refine ⟨(s.heap.push { cls:= .type "range",data:= .fields #[.int lo t,.int hi u,.int 1 v] }).objs.size,[(s.heap.push { cls:= .type "range",data:= .fields #[.int lo t,.int hi u,.int 1 v] }).objs.size],_,_,H,rfl,
  I1.kept (t':=tk) λb o e=>yW _ e,Oc _ lo (hi-lo).toNat,?_,λb hb=>?_,q⟩
 .have e1:lo+((0:Nat):Int)*1=lo:=by simp
  have e2:(((hi-lo).toNat:Nat):Int)-((0:Nat):Int)=Builtin.Range.rangeSize lo hi 1:=by rw [rangeSize_one];split<;>omega
  show IsRangeIter _ _ (lo+((0:Nat):Int)*1) ((((hi-lo).toNat:Nat):Int)-((0:Nat):Int)) 1;rw [e1,e2];exact yz _ rfl
 .have e:b=(s.heap.push { cls:= .type "range",data:= .fields #[.int lo t,.int hi u,.int 1 v] }).objs.size:=by simpa using hb
  subst e;exact I1.fpOk (yP _) (I1.tI.fresh (yP _))
def Jx (ta:TA):TI:=λσ H R=>ta σ H λvs H1=>∃ j:Int,vs=[.int j]/\-(2 ^ 62)<=j/\j<2 ^ 62/\R (Itr 0 j.toNat) H1
def vq {a:Expr}{ta:TA}(hg:Gl X "range")(hm:X.mg "range"=none)(ha:PA X [a] ta)(hs:starEach [a] X.rC=[(false,eval a X.rC)]:=by rfl):PI X tg (.Call (.Name "range" p) [a] [] pos) (Jx ta):=by
 intro tN s σ H R I h;refine Call_ (jL I hg hm boot_range (pS (j7 (ha pos tN s σ H _ I h) λus s1 ⟨vs,H1,I1,r1,q1⟩=>?_) hs rfl));obtain ⟨j,e,q1,q2,q⟩:=q1;subst e;cases r1 with
 |cons r rr=>cases rr;obtain ⟨t,rfl⟩:=r;exact call_range_1 (SW I1 (by omega) (by omega) q1 q2 (by simpa using q))
def tFor (wi:TI)(g:TG)(tb:TS):TS:=λD σ H=>wi σ H λJ H1=>∃ W:Nat->Nat->St->Hp->Prop,(∃ m,W 0 m σ H1)/\∀ i m σ H,W i m σ H ->
 (J.stop i H/\D.nx σ H)∨(J.go i H/\∃ N:St->Hp->Prop,(∀ σ' H',N σ' H'->∃ m',m'<m/\W (i+1) m' σ' H')/\∀ x H',J.yld i H x H'->g x σ H' λσ2 H2=>tb { D with nx:=N,ct:=N,bk:=D.nx } σ2 H2)
def Zp (fp:EC)(h:Heap):C4:=fp.filterMap λb=>(h.get? b).map λo=>(b,o)
def JR {o:Obj}(hb:b∈fp)(e:h.get? b=some o):(b,o)∈Zp fp h:=uK.mpr ⟨b,hb,by rw [e];rfl⟩
def Rr {p:Addr×Obj}(hp:p∈Zp fp h):p.1∈fp/\h.get? p.1=some p.2:=by
 obtain ⟨b,hb,e⟩:=uK.mp hp;cases q:h.get? b with
 |none=>rw [q] at e;cases e
 |some o=>rw [q] at e;have e':(b,o)=p:=Option.some.inj e;subst e';exact ⟨hb,q⟩
def sS.pinned (I:sS X tN σ H s)(hf:∀ b∈fp,xN X tN H b)(ho:∀ b∈fp,∃ o,s.heap.get? b=some o/\∀ v,o.data ≠ .cell v):sS X (tN++Zp fp s.heap) σ H s :=
 I.pins_of λp hp=>(yF.mp hp).elim (λz=>I.pin p (yw _ z)) λz=>by
  obtain ⟨hb,e⟩:=Rr z;obtain ⟨f0,f1,f2,_⟩:=hf p.1 hb;obtain ⟨o,e',d⟩:=ho p.1 hb;rw [e] at e';cases e';exact ⟨e,f0,f1,f2,d⟩
def sS.unpinned {pl:C4}(I:sS X (tN++pl) σ H s):sS X tN σ H s:=I.pins_of λp hp=>I.pin p (yw _ (yo _ hp))
def zi {iter:Expr}{body:F3}{wi:TI}{g:TG}{tb:TS}{pos:Pos}(hp:PassesOwn (model X.rD X.w) X.A X.rC X.xe)(hc:X.calm=true)(hi:PI X tg iter wi)(hg:PG X tg g)(hb:PSs X body tb)(hs:∀ x,foldedSetIterable iter X.rC x=pure x:=by intro _;rfl):PS X (.For tg iter body [] pos) (tFor wi g tb):=by
 intro tN s σ H D I h;refine wpAny_For (j7 (hi tN s σ H _ I h) λv s1 h1=>j7 h1 λitv s2 h2=>?_) hs;obtain ⟨it,fp,tn,J,H2,e,I2,T,st2,f2,W,⟨m0,w0⟩,turn⟩:=h2;subst e
 -- what stays true of the iterator's objects through the loop
 have stat:∀{H':Hp},(∀ b∈fp,H' b=none)->∀ b∈fp,xN X tN H' b:=λhn b hb=>⟨hn b hb,(f2 b hb).2⟩;refine codeAny_forLoop_any (λn s'=>∃ i σ' H',sS X tN σ' H' s'/\tn i s'.heap/\(∀ b∈fp,H' b=none)/\W i n σ' H') ?_ m0 ⟨0,σ,H2,I2,st2,λb hb=>(f2 b hb).1,w0⟩;rintro n s3 ⟨i,σ3,H3,I3,st3,fr3,w3⟩;rcases turn i n σ3 H3 w3 with ⟨stop,qn⟩|⟨go,N,hN,step⟩
 .refine pH hp (j7 (T.done X rfl rfl rfl hc i tN s3 σ3 H3 X.xe I3 (stat fr3) st3 stop) λr s4 ⟨hr,I4⟩=>?_);subst hr;exact pA ⟨σ3,H3,I4,qn⟩
 .refine pH hp (j7 (T.item X rfl rfl rfl hc i tN s3 σ3 H3 X.xe I3 (stat fr3) st3 go) λr s4 ⟨u,hr,h4⟩=>?_);subst hr;refine pH hp (j7 h4 λ_ s5 ⟨x,H5,I5,r5,y5,st5,fr5⟩=>?_);have I5':=I5.pinned (stat fr5) (T.obj _ _ st5);refine pH hp (j7 (hg _ s5 σ3 H5 x u _ I5' r5 (step x H5 y5)) λ_ s6 ⟨σ6,H6,I6,q6⟩=>?_);refine pH hp (j7 (hb _ s6 σ6 H6 _ I6 q6) λf s7 q7=>?_);have again:∀{σ7:St}{H7:Hp},sS X (tN++Zp fp s5.heap) σ7 H7 s7->N σ7 H7->∃ m,m<n/\∃ i σ' H',sS X tN σ' H' s7/\tn i s7.heap/\(∀ b∈fp,H' b=none)/\W i m σ' H':=λ{σ7 H7} I7 n7=>by
   obtain ⟨m',hm,w7⟩:=hN σ7 H7 n7;refine ⟨m',hm,i+1,σ7,H7,I7.unpinned,T.keep _ _ _ st5 λb hb o e=>(I7.pin (b,o) (yw _ (yw _ (JR hb e)))).1,λb hb=>?_,w7⟩;obtain ⟨o,e,d⟩:=T.obj _ _ st5 b hb;exact (I7.pin (b,o) (yw _ (yw _ (JR hb e)))).2.1
  cases f with
  |next=>obtain ⟨σ7,H7,I7,n7⟩:=q7;exact again I7 n7
  |cont=>obtain ⟨σ7,H7,I7,n7⟩:=q7;exact again I7 n7
  |brk=>obtain ⟨σ7,H7,I7,q7⟩:=q7;exact ⟨σ7,H7,I7.unpinned,q7⟩
  |ret v=>obtain ⟨x7,σ7,H7,I7,r7,q7⟩:=q7;exact ⟨x7,σ7,H7,I7.unpinned,r7,q7⟩
end
def BD {g:TG}(Pv:Nat->St->Hp->Prop)(h0:Pv 0 σ H)(hs:∀ i σ H,i<n->Pv i σ H->g (.int (lo+i)) σ H λσ2 H2=>tb { D with nx:=Pv (i+1),ct:=Pv (i+1),bk:=D.nx } σ2 H2)(hd:∀ σ H,Pv n σ H->D.nx σ H):∃ W:Nat->Nat->St->Hp->Prop,(∃ m,W 0 m σ H)/\∀ i m σ H,W i m σ H -> ((Itr lo n).stop i H/\D.nx σ H)∨((Itr lo n).go i H/\∃ N:St->Hp->Prop,(∀ σ' H',N σ' H'->∃ m',m'<m/\W (i+1) m' σ' H')/\∀ x H',(Itr lo n).yld i H x H'->g x σ H' λσ2 H2=>tb { D with nx:=N,ct:=N,bk:=D.nx } σ2 H2):=by
 refine ⟨λi m σ H=>m=n-i/\i<=n/\Pv i σ H,⟨n,by simp,yd _,h0⟩,?_⟩;rintro i m σ H ⟨rfl,hi,p⟩;by_cases hlt:i<n
 .refine .inr ⟨hlt,Pv (i+1),λσ' H' p'=>⟨n-(i+1),by omega,rfl,hlt,p'⟩,λx H' y=>?_⟩;obtain ⟨e,y⟩:=y;subst e y;exact hs i σ _ hlt p
 .have e:i=n:=by omega
  subst e;exact .inl ⟨yP _,hd σ H p⟩
abbrev R2:=V->V->Hp->VK->Prop
variable{r r':R2}
def OpR (X:Cx)(f:G1->G1->Sem G1)(r:R2):Prop :=
 ∀(tN:C4)(s:G2)(σ:St)(H:Hp)(x y:V)(v u:G1)(Q:VK),sS X tN σ H s->sO x v->sO y u->r x y H Q ->
  wpAny (model X.rD X.w) X.A (f v u) (EP X tN σ Q) X.xe s
def UnR (X:Cx)(f:G1->Sem G1)(r:C1):Prop :=
 ∀(tN:C4)(s:G2)(σ:St)(H:Hp)(x:V)(v:G1)(Q:VK),sS X tN σ H s->sO x v->r x H Q ->
  wpAny (model X.rD X.w) X.A (f v) (EP X tN σ Q) X.xe s
def sI (X:Cx)(f:G1)(r:AG):Prop :=
 ∀(tN:C4)(s:G2)(σ:St)(H:Hp)(xs:EB)(us:C8)(Q:VK),sS X tN σ H s->sP xs us->r xs H Q ->
  wpAny (model X.rD X.w) X.A (call f us) (EP X tN σ Q) X.xe s
def TruR (X:Cx)(r:V->Hp->(AJ)->Prop):Prop :=
 ∀(tN:C4)(s:G2)(σ:St)(H:Hp)(x:V)(v:G1)(Q:AJ),sS X tN σ H s->sO x v->r x H Q ->
  wpAny (model X.rD X.w) X.A (truthy v) (TP X tN σ Q) X.xe s
def tOp (r:R2)(ta tb:TE):TE:=λσ H Q=>ta σ H λx H1=>tb σ H1 λy H2=>r x y H2 Q
def tUn (r:C1)(ta:TE):TE:=λσ H Q=>ta σ H λx H1=>r x H1 Q
def rI (C:Int->Int->Prop)(g:Int->Int->V):R2:=λx y H Q=>∃ i j,x = .int i/\y = .int j/\C i j/\Q (g i j) H
def rI0 (g:Int->Int->V):R2:=λx y H Q=>∃ i j,x = .int i/\y = .int j/\Q (g i j) H
def rU (g:Int->V):V->Hp->VK->Prop:=λx H Q=>∃ i,x = .int i/\Q (g i) H
section
variable{a b:Expr}{tb tc:TE}
def binT (ha:PE X a ta)(hb:PE X b tb)(I:sS X tN σ H s)(h:ta σ H λx H1=>tb σ H1 λy H2=>R x y H2)(hf:∀ v u s2 x y H2,sS X tN σ H2 s2->sO x v->sO y u->R x y H2->wpAny (model X.rD X.w) X.A (f v u) Q X.xe s2):wpAny (model X.rD X.w) X.A (eval a X.rC) (λv s₁=>wpAny (model X.rD X.w) X.A (eval b X.rC) (λu s₂=>wpAny (model X.rD X.w) X.A (f v u) Q X.xe s₂) X.xe s₁) X.xe s:=by refine j7 (ha tN s σ H _ I h) λv s1 ⟨x,H1,I1,r1,q1⟩=>?_;refine j7 (hb tN s1 σ H1 _ I1 q1) λu s2 ⟨y,H2,I2,r2,q2⟩=>?_;exact hf v u s2 x y H2 I2 r1 r2 q2
def u4 {op:Operator}(ho:OpR X (binaryOp op) r)(ha:PE X a ta)(hb:PE X b tb):PE X (.BinOp a op b pos) (tOp r ta tb):=by intro tN s σ H Q I h;exact wpAny_BinOp (binT ha hb I h λv u s2 x y H2 I2 rx ry q=>ho tN s2 σ H2 x y v u Q I2 rx ry q)
def Va {op:UnaryOp}{r:C1}(ho:UnR X (unaryOp op) r)(ha:PE X a ta):PE X (.UnaryOp op a pos) (tUn r ta):=by intro tN s σ H Q I h;exact UnaryOp_ (j7 (ha tN s σ H _ I h) λv s1 ⟨x,H1,I1,r1,q1⟩=>ho tN s1 σ H1 x v Q I1 r1 q1)
def opI {C:Int->Int->Prop}{g:Int->Int->Int}(rule:∀(i j:Int)(t u:Tok)(s:G2)(Q:AA)(E:AA),C i j->Q (.int (g i j) s.toks) { s with toks:=s.toks+1 }->wpAny (model X.rD X.w) X.A (f (.int i t) (.int j u)) Q E s):OpR X f (rI C λi j=> .int (g i j)):=by intro tN s σ H x y v u Q I rx ry h;obtain ⟨i,j,rfl,rfl,hc,q⟩:=h;obtain ⟨t,rfl⟩:=rx;obtain ⟨t',rfl⟩:=ry;exact rule i j t t' s _ _ hc ⟨.int (g i j),H,I.tok _,⟨_,rfl⟩,q⟩
def opI0 {g:Int->Int->Int}(rule:∀(i j:Int)(t u:Tok)(s:G2)(Q:AA)(E:AA),Q (.int (g i j) s.toks) { s with toks:=s.toks+1 }->wpAny (model X.rD X.w) X.A (f (.int i t) (.int j u)) Q E s):OpR X f (rI0 λi j=> .int (g i j)):=by intro tN s σ H x y v u Q I rx ry h;obtain ⟨i,j,rfl,rfl,q⟩:=h;obtain ⟨t,rfl⟩:=rx;obtain ⟨t',rfl⟩:=ry;exact rule i j t t' s _ _ ⟨.int (g i j),H,I.tok _,⟨_,rfl⟩,q⟩
def opB0 {g:Int->Int->Bool}(rule:∀(i j:Int)(t u:Tok)(s:G2)(Q:AA)(E:AA),Q (.bool (g i j)) s->wpAny (model X.rD X.w) X.A (f (.int i t) (.int j u)) Q E s):OpR X f (rI0 λi j=> .bl (g i j)):=by intro tN s σ H x y v u Q I rx ry h;obtain ⟨i,j,rfl,rfl,q⟩:=h;obtain ⟨t,rfl⟩:=rx;obtain ⟨t',rfl⟩:=ry;exact rule i j t t' s _ _ ⟨.bl (g i j),H,I,rfl,q⟩
def vB (i j:Int):Prop:=0<=j/\j<=1000000/\i.natAbs<2 ^ 64
def CMul (i j:Int):Prop:=(-(2 ^ 64)<i/\i<2 ^ 64)∨(-(2 ^ 64)<j/\j<2 ^ 64)
def CMul.ok {i j:Int}(h:CMul i j):IntMulOk i j:=by
 rcases h with ⟨h1,h2⟩|⟨h1,h2⟩
 .exact .of_left (intBits_le_64 h1 h2)
 .exact .of_right (intBits_le_64 h1 h2)
def op_add:OpR X (binaryOp .Add) (rI0 λi j=> .int (i+j)):=opI0 λ_ _ _ _ _ _ _ q=>add_int q
def QS:OpR X (binaryOp .Sub) (rI0 λi j=> .int (i-j)):=opI0 λ_ _ _ _ _ _ _ q=>sub_int q
def QP:OpR X (binaryOp .Mult) (rI CMul λi j=> .int (i*j)):=opI λ_ _ _ _ _ _ _ hc q=>mul_int q hc.ok
def wK:OpR X (binaryOp .Mod) (rI (λ_ j=>0<j) λi j=> .int (i % j)):=opI λi j _ _ _ _ _ hc q=>by
 have h1:(0:Int)<j:=hc;exact mod_int' (by omega) (by rw [Int.fmod_eq_emod_of_nonneg i (by omega)];exact q)
def QR:OpR X (binaryOp .Pow) (rI vB λi j=> .int (i ^ j.toNat)):=opI λ_ _ _ _ _ _ _ hc q=>pow_int_small hc.1 hc.2.1 hc.2.2 q
def unI {f:G1->Sem G1}{g:Int->Int}(rule:∀(i:Int)(t:Tok)(s:G2)(Q:AA)(E:AA),Q (.int (g i) s.toks) { s with toks:=s.toks+1 }->wpAny (model X.rD X.w) X.A (f (.int i t)) Q E s):UnR X f (rU λi=> .int (g i)):=by intro tN s σ H x v Q I rx h;obtain ⟨i,rfl,q⟩:=h;obtain ⟨t,rfl⟩:=rx;exact rule i t s _ _ ⟨.int (g i),H,I.tok _,⟨_,rfl⟩,q⟩
def Vn:UnR X (unaryOp .USub) (rU λi=> .int (-i)):=unI λ_ _ _ _ _ q=>neg_int q
end
section
variable{a b:Expr}{tb tc:TE}
def VX {Q:VK}{k k':Bool}(I:sS X tN σ H s)(q:Q (.bl k) H)(e:k=k'):EP X tN σ Q (.bool k') s:=by subst e;exact ⟨.bl k,H,I,rfl,q⟩
def Zi:OpR X (compareOp .Lt) (rI0 λi j=> .bl (decide (i<j))):=opB0 λ_ _ _ _ _ _ _ q=>lt_int q
def Zh:OpR X (compareOp .LtE) (rI0 λi j=> .bl (decide (i<=j))):=opB0 λ_ _ _ _ _ _ _ q=>le_int q
def WF:OpR X (compareOp .Gt) (rI0 λi j=> .bl (decide (j<i))):=opB0 λ_ _ _ _ _ _ _ q=>gt_int q
def JU:OpR X (compareOp .GtE) (rI0 λi j=> .bl (decide (j<=i))):=opB0 λ_ _ _ _ _ _ _ q=>ge_int q
def TY:OpR X (compareOp .Is) (λx y H Q=>y = .non/\Q (.bl (decide (x = .non))) H):=by
 intro tN s σ H x y v u Q I rx ry h;obtain ⟨rfl,q⟩:=h;cases ry;refine is_none_gen (VX I q ?_);cases x<;>first
  |(cases rx;rfl)
  |(obtain ⟨t,rfl⟩:=rx;rfl)
def Sb:OpR X (compareOp .IsNot) (λx y H Q=>y = .non/\Q (.bl (!decide (x = .non))) H):=by
 intro tN s σ H x y v u Q I rx ry h;obtain ⟨rfl,q⟩:=h;cases ry;refine isnot_none_gen (VX I q ?_);cases x<;>first
  |(cases rx;rfl)
  |(obtain ⟨t,rfl⟩:=rx;rfl)
def OpR.or (h:OpR X f r)(h':OpR X f r'):OpR X f (λx y H Q=>r x y H Q∨r' x y H Q):=by
 intro tN s σ H x y v u Q I rx ry q;rcases q with q|q
 .exact h tN s σ H x y v u Q I rx ry q
 .exact h' tN s σ H x y v u Q I rx ry q
def m7 (b:Expr)(h:op ≠ .In:=by decide)(h2:op ≠ .NotIn:=by decide):behindInMarks op b=false:=by
 have e1:(op==CmpOp.In)=false:=by cases op<;>first|rfl|exact rp rfl h
 have e2:(op==CmpOp.NotIn)=false:=by cases op<;>first|rfl|exact rp rfl h2
 cases b<;>simp [behindInMarks,e1,e2]
def zU (ho:OpR X (compareOp op) r)(ha:PE X a ta)(hb:PE X b tb)(hm:behindInMarks op b=false):PE X (.Compare a [op] [b] pos) (tOp r ta tb):=by intro tN s σ H Q I h;exact wpAny_Compare1 (binT ha hb I h λv u s2 x y H2 I2 rx ry q=>ho tN s2 σ H2 x y v u Q I2 rx ry q) hm
def UG (t:TE):TT:=λσ H Q=>t σ H λx H'=>∃ k,x = .bl k/\Q k H'
def qc (ho:OpR X (compareOp op) r)(ha:PE X a ta)(hb:PE X b tb)(hm:behindInMarks op b=false):PT X (.Compare a [op] [b] pos) (UG (tOp r ta tb)):=by
 intro tN s σ H Q I h;refine wpAny_isTrue_Compare1 (j7 (ha tN s σ H _ I h) λv s1 ⟨x,H1,I1,r1,q1⟩=>j7 (hb tN s1 σ H1 _ I1 q1) λu s2 ⟨y,H2,I2,r2,q2⟩ =>
  j7 (ho tN s2 σ H2 x y v u _ I2 r1 r2 q2) λc s3 ⟨z,H3,I3,r3,k,e,q3⟩=>?_) hm
 subst e;cases r3;exact pY ⟨H3,I3,q3⟩
def UC (r r':R2)(ta tb tc:TE):TE:=λσ H Q=>ta σ H λx H1=>tb σ H1 λy H2=>r x y H2 λz H3=>∃ k,z = .bl k /\
 (if k=true then tc σ H3 λw' H4=>r' y w' H4 Q else Q (.bl false) H3)
def Sg (ho:OpR X (compareOp op) r)(ho':OpR X (compareOp op') r')(ha:PE X a ta)(hb:PE X b tb)(hc:PE X c tc)(hm:lastMarks [op,op'] [b,c]=false:=by with_unfolding_all rfl):PE X (.Compare a [op,op'] [b,c] pos) (UC r r' ta tb tc):=by
 intro tN s σ H Q I h;refine Compare_chain (j7 (ha tN s σ H _ I h) λv s1 ⟨x,H1,I1,r1,q1⟩=>chain_link (j7 (hb tN s1 σ H1 _ I1 q1) λu s2 ⟨y,H2,I2,r2,q2⟩ =>
  j7 (ho tN s2 σ H2 x y v u _ I2 r1 r2 q2) λd s3 ⟨z,H3,I3,r3,k,e,q3⟩=>?_)) hm
 subst e;cases r3;refine pY ?_;cases k with
 |false=>exact ite_ff ⟨.bl false,H3,I3,rfl,q3⟩
 |true=>exact ite_tt (chain_last (j7 (hc tN s3 σ H3 _ I3 q3) λw' s4 ⟨z',H4,I4,r4,q4⟩=>ho' tN s4 σ H4 y z' u w' Q I4 r2 r4 q4))
def WW (ho:OpR X (compareOp op) r)(ho':OpR X (compareOp op') r')(ha:PE X a ta)(hb:PE X b tb)(hc:PE X c tc)(hm:lastMarks [op,op'] [b,c]=false:=by with_unfolding_all rfl):PT X (.Compare a [op,op'] [b,c] pos) (UG (UC r r' ta tb tc)):=by
 intro tN s σ H Q I h;refine isTrue_chain (j7 (ha tN s σ H _ I h) λv s1 ⟨x,H1,I1,r1,q1⟩=>test_link (j7 (hb tN s1 σ H1 _ I1 q1) λu s2 ⟨y,H2,I2,r2,q2⟩ =>
  j7 (ho tN s2 σ H2 x y v u _ I2 r1 r2 q2) λd s3 ⟨z,H3,I3,r3,k,e,q3⟩=>?_)) hm
 subst e;cases r3;refine pY ?_;cases k with
 |false=>obtain ⟨k',e',q'⟩:=q3;cases e';exact ite_ff ⟨H3,I3,q'⟩
 |true=>refine ite_tt (test_last (j7 (hc tN s3 σ H3 _ I3 q3) λw' s4 ⟨z',H4,I4,r4,q4⟩=>j7 (ho' tN s4 σ H4 y z' u w' _ I4 r2 r4 q4) λd' s5 ⟨z2,H5,I5,r5,k2,e2,q5⟩=>?_));subst e2;cases r5;exact pY ⟨H5,I5,q5⟩
def TruV (K:Fg)(x:V)(H:Hp)(k:Bool):Prop :=
 match x with
 | .non=>k=false
 | .bl b=>k=b
 | .int i=>k=(i != 0)
 | .str y=>y.length<=sizeLine/\k=((y.length:Int) != 0)
 | .byt y=>y.size<=sizeLine/\k=((y.size:Int) != 0)
 | .ref p=>(∃ xs,sK K H p xs/\k=!xs.isEmpty)∨(∃ xs,sD K H p xs/\k=!xs.isEmpty)∨∃ kvs,H p=some (.dK kvs)/\k=!kvs.isEmpty
 |_=>False
def NN {κ:Type}{kvs:List (κ×V)}{vs:List (κ×G1)}(r:KV kvs vs):(!vs.isEmpty)=!kvs.isEmpty:=by cases r<;>rfl
def BK {its:C8}(r:sP xs its):(!its.toArray.isEmpty)=!xs.isEmpty:=by cases r<;>simp
def wB:(sizeLine:Nat)<2 ^ 63:=by rw [ra];decide
def FY:TruR X (λx H Q=>∃ k,TruV X.K x H k/\Q k H):=by
 intro tN s σ H x v Q I rx h;obtain ⟨k,e,q⟩:=h;have hl:=wB;have hs:sizeLine=16777216:=ra;cases x with
 |non=>cases rx;have e':k=false:=e;subst e';exact truthy_none ⟨H,I,q⟩
 |bl b=>cases rx;have e':k=b:=e;subst e';exact pY ⟨H,I,q⟩
 |int i=>obtain ⟨t,rfl⟩:=rx;have e':k=(i != 0):=e;subst e';exact PySem.P.truthy_int ⟨H,I,q⟩
 |str y=>obtain ⟨t,rfl⟩:=rx;obtain ⟨hy,e'⟩:y.length<=sizeLine/\k=((y.length:Int) != 0):=e;subst e';exact PySem.P.truthy_str (by omega) ⟨H,I.tok _,q⟩
 |byt y=>obtain ⟨t,rfl⟩:=rx;obtain ⟨hy,e'⟩:y.size<=sizeLine/\k=((y.size:Int) != 0):=e;subst e';exact PySem.W.truthy_bytes (by omega) ⟨H,I.tok _,q⟩
 |ref p =>
  cases rx;have e':(∃ xs,sK X.K H p xs/\k=!xs.isEmpty)∨(∃ xs,sD X.K H p xs/\k=!xs.isEmpty)∨∃ kvs,H p=some (.dK kvs)/\k=!kvs.isEmpty:=e;rcases e' with ⟨xs,hx,e'⟩|⟨xs,hx,e'⟩|⟨kvs,hx,e'⟩
  .subst e';obtain ⟨its,r,pl,hz⟩:=I.list hx;have hlen:=r.length;exact wpAny_truthy_list pl.isList (by simp only [yT];omega) ⟨H,I.tok _,by rw [BK r];exact q⟩
  .subst e';obtain ⟨its,r,pl,hz⟩:=I.tuple hx;have hlen:=r.length;exact truthy_tuple pl (by simp only [yT];omega) ⟨H,I.tok _,by rw [BK r];exact q⟩
  .subst e';obtain ⟨hz,hS,vs,r,m⟩:kvs.length<=sizeLine/\(p==sysModules)=false/\∃ vs,KV kvs vs/\s.heap.DictOf (qI X.rD X.w) p vs:=I.tI p _ hx;have hlen:kvs.length=vs.length:=Paired.length r;exact wpAny_truthy_dict hS m (by omega) ⟨H,I.tok _,by rw [NN r];exact q⟩
 |_=>exact (show False from e).elim
def SS (ha:PE X a ta)(he:∀ whole,isTrue a X.rC whole=(do let v <- whole;standAt a.pos;holding [v] (truthy v))):
  PT X a (λσ H Q=>ta σ H λx H'=>∃ k,TruV X.K x H' k/\Q k H'):=by
 intro tN s σ H Q I h;exact isTrue_plain (j7 (ha tN s σ H _ I h) λv s1 ⟨x,H1,I1,r1,q1⟩=>FY tN s1 σ H1 x v Q I1 r1 q1) (he _)
def op_add_str:OpR X (binaryOp .Add) (λx y H Q=>∃ i j,x = .str i/\y = .str j/\i.length+j.length<=sizeLine/\Q (.str (i++j)) H):=by intro tN s σ H x y v u Q I rx ry h;obtain ⟨i,j,rfl,rfl,hz,q⟩:=h;obtain ⟨t,rfl⟩:=rx;obtain ⟨t',rfl⟩:=ry;exact add_str (λt' tk=>⟨.str (i++j),H,I.tok _,⟨_,rfl⟩,q⟩) hz
def zk {x:V}(r:sP [x] us):∃ u,us=[u]/\sO x u:=by
 cases r with
 |cons r1 r2=>cases r2;exact ⟨_,rfl,r1⟩
def US {x:V}(r:sP [x,y] us):∃ u w',us=[u,w']/\sO x u/\sO y w':=by
 cases r with
 |cons r1 r2 =>
  cases r2 with
  |cons r3 r4=>cases r4;exact ⟨_,_,rfl,r1,r3⟩
def LenV (K:Fg)(x:V)(H:Hp)(n:Nat):Prop :=
 match x with
 | .str y=>y.length<=sizeLine/\n=y.length
 | .byt y=>y.size<=sizeLine/\n=y.size
 | .ref p=>(∃ xs,sK K H p xs/\n=xs.length)∨∃ xs,sD K H p xs/\n=xs.length
 |_=>False
def La:sI X (.builtin "len") (λxs H Q=>∃ x n,xs=[x]/\LenV X.K x H n/\Q (.int n) H):=by
 intro tN s σ H xs us Q I r h;obtain ⟨x,n,rfl,e,q⟩:=h;obtain ⟨u,rfl,rx⟩:=zk r;have hl:=wB;have hs:sizeLine=16777216:=ra;cases x with
 |str y=>obtain ⟨t,rfl⟩:=rx;obtain ⟨hy,e'⟩:y.length<=sizeLine/\n=y.length:=e;subst e';exact len_str (by omega) ⟨.int _,H,I.tok _,⟨_,rfl⟩,q⟩
 |byt y=>obtain ⟨t,rfl⟩:=rx;obtain ⟨hy,e'⟩:y.size<=sizeLine/\n=y.size:=e;subst e';exact PySem.W.len_bytes (by omega) ⟨.int _,H,I.tok _,⟨_,rfl⟩,q⟩
 |ref p =>
  cases rx;have e':(∃ xs,sK X.K H p xs/\n=xs.length)∨∃ xs,sD X.K H p xs/\n=xs.length:=e;rcases e' with ⟨xs,hx,e'⟩|⟨xs,hx,e'⟩
  .subst e';obtain ⟨its,r',pl,hz⟩:=I.list hx;have hlen:=r'.length;exact Calls.call_len_list pl.isList (by simp only [yT];omega) ⟨.int xs.length,H,I.tok _,⟨_,by simp only [yT];rw [hlen]⟩,q⟩
  .subst e';obtain ⟨its,r',pl,hz⟩:=I.tuple hx;have hlen:=r'.length;exact len_tuple pl (by simp only [yT];omega) ⟨.int xs.length,H,I.tok _,⟨_,by simp only [yT];rw [hlen]⟩,q⟩
 |_=>exact (show False from e).elim
end
structure ObjM (h:Heap)(x dx C:Addr)(mA:AB):Prop where
 obj:h.get? x=some (PySem.W.instObj C dx)
 ns:h.Ns1 dx mA
 ne:dx≠x
def HJ (n:h.Ns1 dx mA):∃ od,h.get? dx=some od/\∀ name,PySem.W.lookIn name od=some (mA name):=by
 obtain ⟨o,es,ep,ho,hd,hk,_,hm⟩:=n;refine ⟨o,ho,λname=>?_⟩;have e:=hm name;unfold nsFind findBy at e;rw [<- Array.find?_toList] at e;unfold PySem.W.lookIn;rw [hd]
 dsimp only
 split
 .rename_i y q;rw [q] at e;exact pL some e
 .rename_i q;rw [q] at e;have a:es.toList.any (·.refKey)=false:=by rw [List.any_eq_false];intro y hy;obtain ⟨z,t,hkey⟩:=hk y (Array.mem_toList_iff.mp hy);simp [DictEntry.refKey,hkey]
  have a':¬ es.toList.any (·.refKey)=true:=by rw [a];exact yQ
  rw [rq a'];exact pL some e
def ObjM.look {x:Addr}(I:ObjM h x dx C mA):∃ od,PySem.W.InstAt h x (PySem.W.instObj C dx) C (some od)/\∀ name,PySem.W.lookIn name od=some (mA name) :=
 let ⟨od,ho,hl⟩:=HJ I.ns
 ⟨od,⟨I.obj,rfl,rfl,ho⟩,hl⟩
section
variable{x f:Addr}{v:G1}
def Ni {expr:Bool}(X:K.In s.heap)(I:ObjM s.heap x dx C mA)(hg:PySem.W.plainGet K C name=true)(hh:PySem.W.hasDictIn K C=true)(ha:PySem.W.findIn K (.ref C) name=some none)(hv:mA name=some v)(hv':PySem.W.handedIn v=true)(h:Q v { s with toks:=s.toks+1 }):wpAny (model prog w) A (getAttr (.ref x) name expr) Q E s:=by obtain ⟨od,J,hl⟩:=I.look;exact PySem.W.get_value X J (PySem.W.plainGet_of hg).1 (PySem.W.findObj_own hh ha rfl (by rw [hl,hv])) hv' h
def Nj {pl:Sem Bool}{Q:G1×C8->G2->Prop}(X:K.In s.heap)(I:ObjM s.heap x dx C mA)(hg:PySem.W.plainGet K C name=true)(hf:PySem.W.findIn K (.ref C) name=some (some (.ref f)))(ht:PySem.W.isFn K (.ref f)=true)(hv:mA name=none)(h:Q (.ref f,[.ref x]) s):wpAny (model prog w) A (getMethod (.ref x) name pl) Q E s:=by obtain ⟨od,J,hl⟩:=I.look;exact PySem.W.method_fn X J (PySem.W.plainGet_of hg).1 (PySem.W.plainGet_of hg).2 hf (pQ.mp ht) (by show (PySem.W.lookIn name od).map (·.isSome)=some false;rw [hl,hv];rfl) h
def FA {ns:C7}{Q:AE}(X:K.In s.heap)(I:ObjM s.heap x dx C mA)(hs:PySem.W.findIn K (.ref C) "__setattr__"=some (some (.builtin "object.__setattr__")))(hp:PySem.W.plainOver K C=true)(ht:PySem.W.takerIn K C name=some none)(hh:PySem.W.hasDictIn K C=true)(hw:PySem.Within mA ns)(hsz:ns.length<=sizeLine)(h:∀ h',ObjM h' x dx C (λy=>if y=name then some v else mA y)->Heap.SameBut dx s.heap h'->Q () { s with heap:=h',toks:=s.toks+2 }):wpAny (model prog w) A (setAttr (.ref x) name v) Q E s:=by obtain ⟨od,J,hl⟩:=I.look;refine PySem.W.set_plain X J hs (PySem.W.osa_open (s:={ s with toks:=s.toks+1 }) (r:=none) X J hp ht λb=>?_);obtain ⟨cd,hc,hd'⟩:=PySem.W.any_some hh;have hx:s.heap.get? x=some ⟨.ref C,some dx,.plain,#[]⟩:=I.obj;refine yY (yI (yY (yY (wpAny_loadPart hx (yY (PySem.W.Looks.here (s:={ s with toks:=s.toks+1 }) (PySem.W.looks_clsIn X hc) ?_))))));rw [hd'];refine yI (a:=some dx) (yY (yI (yY ?_)));refine wpAny_nsSet1 (s:={ s with toks:=s.toks+1 }) I.ns λh' hn2 hs2=>?_;obtain ⟨oD,esD,epD,hoD,hdD,hcD⟩:=hn2.count (PySem.Within.cons name v hw);refine yY (wpAny_lookBehind hoD (by rw [hdD];exact pastItsLine_dict (yj hcD (by rw [yJ];omega))) ?_);exact yI (h _ ⟨(hs2.2 _ (Ne.symm I.ne)).trans I.obj,hn2,I.ne⟩ hs2)
def HM {R:AH}{vs:C8}(X:K.In s.heap)(hm:PySem.W.makesIn K C=true)(hi:PySem.W.findIn K (.ref C) "__init__"=some (some (.ref f)))(hf:PySem.W.typeIn K (.ref f)=some (.type "function"))(h:codeAny (model prog w) (A.under (.builtin "type.__call__" ⟨.ref C::vs,kw⟩)) (.call (.ref f) ⟨.ref (s.heap.objs.size+1)::vs,kw⟩) (PySem.W.InitBack (s.heap.objs.size+1) R) { s with heap:=(s.heap.push PySem.W.emptyDict).push (PySem.W.instObj C s.heap.objs.size) }):codeAny (model prog w) A (.call (.ref C) ⟨vs,kw⟩) R s:=by obtain ⟨hh,g,d,t,os⟩:=s;exact PySem.W.make_core (PySem.W.makes_of X hm) (PySem.W.looks_findIn X hi) (λself=>PySem.W.bind_fn X self hf) (.inl rfl) h
end
def xI (f:Str)(v:V):ES->List (Str×V)
 |[]=>[(f,v)]
 |(g,x)::r=>if g=f then (g,v)::r else (g,x)::xI f v r
theorem Pf (f g:Str)(v:V):∀ fs:ES,(xI f v fs).lookup g=if g=f then some v else fs.lookup g
 |[]=>by
  show List.lookup g [(f,v)]=_;by_cases h:g=f
  .have hb:(g==f)=true:=pQ.mpr h;simp only [List.lookup,hb,rB h]
  .have hb:(g==f)=false:=re.mpr h;simp only [List.lookup,hb,rq h]
 |(k,x)::r=>by
  have ih:=Pf f g v r;rw [show xI f v ((k,x)::r)=(if k=f then (k,v)::r else (k,x)::xI f v r) from rfl];by_cases hk:k=f
  .rw [rB hk];by_cases h:g=k
   .have hb:(g==k)=true:=pQ.mpr h;simp only [List.lookup,hb,rB (h.trans hk)]
   .have hb:(g==k)=false:=re.mpr h;simp only [List.lookup,hb,rq (λe:g=f=>h (e.trans hk.symm))]
  .rw [rq hk];by_cases h:g=k
   .have hb:(g==k)=true:=pQ.mpr h;simp only [List.lookup,hb,rq (λe:g=f=>hk (h.symm.trans e))]
   .have hb:(g==k)=false:=re.mpr h;simp only [List.lookup,hb];exact ih
theorem Wl (f:Str)(v:V):∀ fs:ES,f∈(xI f v fs).map (·.1)/\∀ g,g∈fs.map (·.1)->g∈(xI f v fs).map (·.1)
 |[]=>⟨by simp [xI],λg h=>by simp at h⟩
 |(k,x)::r=>by
  obtain ⟨i1,i2⟩:=Wl f v r;rw [show xI f v ((k,x)::r)=(if k=f then (k,v)::r else (k,x)::xI f v r) from rfl];by_cases hk:k=f
  .rw [rB hk];subst hk;exact ⟨by simp,λg h=>by simpa using h⟩
  .rw [rq hk];refine ⟨?_,λg h=>?_⟩
   .rw [yH];exact yO _ i1
   .rw [yH] at h ⊢;rcases yL.mp h with e|e
    .exact yL.mpr (.inl e)
    .exact yO _ (i2 g e)
theorem BZ (f:Str)(v:V):∀ fs:ES,(xI f v fs).length<=fs.length+1
 |[]=>by simp [xI]
 |(k,x)::r=>by
  have ih:=BZ f v r;rw [show xI f v ((k,x)::r)=(if k=f then (k,v)::r else (k,x)::xI f v r) from rfl];by_cases hk:k=f
  .rw [rB hk,yJ,yJ];omega
  .rw [rq hk,yJ,yJ];omega
def RelO.some_of {o:EW}(r:RelO (some v) o):∃ u,o=some u/\sO v u:=by
 cases o with
 |none=>exact (show False from r).elim
 |some u=>exact ⟨u,rfl,r⟩
def RelO.none_of {o:EW}(r:RelO none o):o=none:=by
 cases o with
 |none=>rfl
 |some u=>exact (show False from r).elim
def Nl (r:sO v u):PySem.W.handedIn u=true:=by
 cases v with
 |non=>cases (show u=Value.none from r);rfl
 |bl b=>cases (show u=Value.bool b from r);rfl
 |int i=>obtain ⟨t,e⟩:=(show ∃ t,u=Value.int i t from r);cases e;rfl
 |str x=>obtain ⟨t,e⟩:=(show ∃ t,u=Value.str x t from r);cases e;rfl
 |byt b=>obtain ⟨t,e⟩:=(show ∃ t,u=Value.bytes b t from r);cases e;rfl
 |flt b=>obtain ⟨t,e⟩:=(show ∃ t,u=Value.float b t from r);cases e;rfl
 |ref a=>cases (show u=Value.ref a from r);rfl
 |ty n=>cases (show u=Value.type n from r);rfl
section
variable{fs fs':ES}
def ww (tI:sE P w H h)(e:H a=some (.ins C dx fs)):∃ mA,ObjM h a dx C mA/\(∀ f,RelO (fs.lookup f) (mA f))/\PySem.Within mA (fs.map (·.1))/\fs.length<=1000/\H dx=some (.own a):=by obtain ⟨d,z,ne,ob,mA,n,r,q⟩:=(show sJ P w H h a (.ins C dx fs) from tI a _ e);exact ⟨mA,⟨ob,n,ne⟩,r,q,z,d⟩
end
structure Cls (K:Fg)(C:Addr):Prop where
 pg:PySem.W.plainGet K C Str.empty=true
 hd:PySem.W.hasDictIn K C=true
 po:PySem.W.plainOver K C=true
 sa:PySem.W.findIn K (.ref C) "__setattr__"=some (some (.builtin "object.__setattr__"))
def Cls.get (c:Cls K C)(f:Str):PySem.W.plainGet K C f=true:=c.pg
def NoAttr (K:Fg)(C:Addr)(f:Str):Prop:=PySem.W.findIn K (.ref C) f=some none
def NoAttr.taker {f:Str}(n:NoAttr K C f):PySem.W.takerIn K C f=some none:=by unfold PySem.W.takerIn;rw [show PySem.W.findIn K (.ref C) f=some none from n];rfl
structure Xl (K:Fg)(C:Addr)(m:Str)(f:Addr):Prop where
 at_:PySem.W.findIn K (.ref C) m=some (some (.ref f))
 fn:PySem.W.isFn K (.ref f)=true
 kp:PySem.W.keepIn K (.ref f)=true
section
variable{fs:ES}{f:Str}
def Nk {b:Bool}(I:sS X tN σ H s)(e:H a=some (.ins C dx fs))(c:Cls X.K C)(n:NoAttr X.K C f)(l:fs.lookup f=some v)(h:∀ u s',sS X tN σ H s'->sO v u->Q u s'):wpAny (model X.rD X.w) A (getAttr (.ref a) f b) Q E s:=by obtain ⟨mA,O,r,_,_,_⟩:=ww I.tI e;obtain ⟨u,hu,ru⟩:=RelO.some_of (v:=v) (o:=mA f) (by rw [<- l];exact r f);exact Ni I.kIn O (c.get f) c.hd n hu (Nl ru) (h u _ (I.tok _) ru)
def Wc {g:Addr}{pl:Sem Bool}{Q:G1×C8->G2->Prop}(I:sS X tN σ H s)(e:H a=some (.ins C dx fs))(c:Cls X.K C)(k:Xl X.K C m g)(l:fs.lookup m=none)(h:Q (.ref g,[.ref a]) s):wpAny (model X.rD X.w) A (getMethod (.ref a) m pl) Q E s:=by obtain ⟨mA,O,r,_,_,_⟩:=ww I.tI e;have hn:mA m=none:=RelO.none_of (by rw [<- l];exact r m);exact Nj I.kIn O (c.get m) k.at_ k.fn hn h
def FC {Q:AE}(I:sS X tN σ H s)(e:H a=some (.ins C dx fs))(c:Cls X.K C)(n:NoAttr X.K C f)(hl:fs.length<1000)(ry:sO y u)(h:∀ s',sS X tN σ (z9 H a (.ins C dx (xI f y fs))) s'->Q () s'):wpAny (model X.rD X.w) A (setAttr (.ref a) f u) Q E s:=by
 obtain ⟨mA,O,r,wi,_,ho⟩:=ww I.tI e;have hz:(fs.map (·.1)).length<=sizeLine:=by rw [yZ,ra];omega
 refine FA I.kIn O c.sa c.po n.taker c.hd wi hz λh' O' sb=>h _ ?_;have hd:∃ o,h'.get? dx=some o:=let ⟨o,_,_,e',_⟩:=O'.ns;⟨o,e'⟩
 refine I.write (x:=a) (e:=dx) (by rw [e];exact True.intro) (.inr ho) (λb q hb z=>(sb.2 b hb).trans z) hd ?_;refine ⟨by rw [j3 O.ne];exact ho,?_,O.ne,O'.obj,_,O'.ns,λg=>?_,λg hg=>?_⟩
 .have:=BZ f y fs;omega
 .show RelO ((xI f y fs).lookup g) (if g=f then some u else mA g);rw [Pf];by_cases q:g=f
  .rw [rB q,rB q];exact ry
  .rw [rq q,rq q];exact r g
 .by_cases q:g=f
  .rw [q];exact (Wl f y fs).1
  .refine (Wl f y fs).2 g (wi g λz=>hg ?_);show (if g=f then some u else mA g)=none;rw [rq q];exact z
def sS.made (I:sS X tN σ H s):sS X tN σ (z9 (z9 H s.heap.objs.size (.own (s.heap.objs.size+1))) (s.heap.objs.size+1) (.ins C s.heap.objs.size [])) { s with heap:=(s.heap.push PySem.W.emptyDict).push (PySem.W.instObj C s.heap.objs.size) }:=by
 have e1:(s.heap.push PySem.W.emptyDict).get? s.heap.objs.size=some PySem.W.emptyDict:=yz s.heap rfl;have e2:((s.heap.push PySem.W.emptyDict).push (PySem.W.instObj C s.heap.objs.size)).get? (s.heap.objs.size+1)=some (PySem.W.instObj C s.heap.objs.size):=by have:=yz (s.heap.push PySem.W.emptyDict) (o:=PySem.W.instObj C s.heap.objs.size) rfl;rwa [uB] at this
 have e3:(s.heap.push PySem.W.emptyDict).Ns s.heap.objs.size (λ_=>none):=⟨PySem.W.emptyDict,#[],_,e1,rfl,(λe he=>rp he (by simp)),λ_=>rfl⟩;have I1:=I.laid (a:=s.heap.objs.size) (o:= .own (s.heap.objs.size+1)) (h':=s.heap.push PySem.W.emptyDict) (t':=s.toks) (λb u q=>yW _ q) (yP _) ⟨_,e1⟩;refine I1.laid (a:=s.heap.objs.size+1) (o:= .ins C s.heap.objs.size []) (t':=s.toks) (λb u q=>yW _ q) (Nat.le_of_eq (uB _ _)) ?_;have ne:s.heap.objs.size≠s.heap.objs.size+1:=yG (uq _);refine ⟨by rw [j3 ne,u5],yd _,ne,e2,λ_=>none,(Heap.Ns1.of_empty e3).at λo q=>yW _ q,λ_=>True.intro,λy hy=>rp rfl hy⟩
def Mz {env:Env}(hb:attributeBase e f env (eval e env)=eval e env)(h:wpAny (model prog w) A (eval e env) (λo s₁=>wpAny (model prog w) A (getAttr o f true) Q E s₁) E s):wpAny (model prog w) A (eval (.Attribute e f pos) env) Q E s :=
 Attribute_any_ h (by rw [arm_eval_Attribute,hb])
end
def tFld (K:Fg)(ta:TE)(f:Str):TE:=λσ H Q=>ta σ H λx H1=>∃ a C dx fs v,x = .ref a/\H1 a=some (.ins C dx fs)/\Cls K C/\NoAttr K C f/\fs.lookup f=some v/\Q v H1
def Zz (K:Fg)(ta tv:TE)(f:Str):TS:=λD σ H=>tv σ H λy H1=>ta σ H1 λx H2=>∃ a C dx fs,x = .ref a/\H2 a=some (.ins C dx fs)/\Cls K C/\NoAttr K C f/\fs.length<1000 /\
 D.nx σ (z9 H2 a (.ins C dx (xI f y fs)))
section
variable{o:Expr}{f:Str}
def Si (he:PE X e ta)(hb:attributeBase e f X.rC (eval e X.rC)=eval e X.rC):PE X (.Attribute e f pos) (tFld X.K ta f):=by intro tN s σ H Q I h;refine Mz hb (j7 (he tN s σ H _ I h) λu s1 ⟨x,H1,I1,rx,a,C,dx,fs,v,ex,ea,c,n,l,q⟩=>?_);subst ex;obtain rfl:u=Value.ref a:=rx;exact Nk I1 ea c n l λu' s2 I2 ru=>⟨v,H1,I2,ru,q⟩
def SK (ha:PE X o ta)(hv:PE X value tv)(hs:swapsWith value (some (.Attribute o f pos')) pos.line X.rC=pure false):PS X (.Assign [.Attribute o f pos'] value pos) (Zz X.K ta tv f):=by intro tN s σ H D I h;refine plainObj_wpAny_Assign_Attribute (j7 (hv tN s σ H _ I h) λu s1 ⟨y,H1,I1,ry,q⟩=>j7 (ha tN s1 σ H1 _ I1 q) λov s2 ⟨x,H2,I2,rx,a,C,dx,fs,ex,ea,c,n,l,q2⟩=>?_) hs;subst ex;obtain rfl:ov=Value.ref a:=rx;exact FC I2 ea c n l ry λs3 I3=>⟨σ,_,I3,q2⟩
def At {pl:Sem Bool}{args:EN}(he:PE X e te)(I:sS X tN σ H s)
  (h:te σ H λx H1=>∃ a C dx fs g,x = .ref a/\H1 a=some (.ins C dx fs)/\Cls X.K C/\Xl X.K C m g/\fs.lookup m=none /\
   ∀ s1,sS X tN σ H1 s1->wpAny (model X.rD X.w) X.A (callWith pos (.ref g) [.ref a] (backTo pos (starEach args X.rC)) (backToKw pos (keywordEach [] X.rC))) Q X.xe s1)
  (ht:eval (.Call (.Attribute e m apos) args [] pos) X.rC=(do
   let ov <- eval e X.rC
   standAt apos.atName
   let (f,first) <- holding [ov] (getMethod ov m pl)
   callWith pos f first (backTo pos (starEach args X.rC)) (backToKw pos (keywordEach [] X.rC)))) :
  wpAny (model X.rD X.w) X.A (eval (.Call (.Attribute e m apos) args [] pos) X.rC) Q X.xe s:=by
 refine PySem.W.methodCall_KW (pl:=pl) (j7 (he tN s σ H _ I h) λu s1 ⟨x,H1,I1,rx,a,C,dx,fs,g,ex,ea,c,k,l,q⟩=>?_) ht;subst ex;obtain rfl:u=Value.ref a:=rx;exact Wc I1 ea c k l (q s1 I1)
end
section
variable{c:G1}{b:Bool}
inductive xW (K:Fg)(H:Hp):V->G1->Prop where
 |non:xW K H .non (.type "NoneType")
 |bl (x:Bool):xW K H (.bl x) (.type "bool")
 |int (i:Int):xW K H (.int i) (.type "int")
 |str (x:Str):xW K H (.str x) (.type "str")
 |flt (x:UInt64):xW K H (.flt x) (.type "float")
 |lst {a:Addr} {xs:EB} (e:H a=some (.lst xs)):xW K H (.ref a) (.type "list")
 |frz {a:Addr} {o:Obj} {xs:EB} (e:H a=some (.frz o (.lst xs))):xW K H (.ref a) (.type "list")
 |tup {a:Addr} {xs:EB} (e:H a=some (.tup xs)):xW K H (.ref a) (.type "tuple")
 |dK {a:Addr} {kvs:EL} (e:H a=some (.dK kvs)):xW K H (.ref a) (.type "dict")
 |dT {a:Addr} {kvs:List (List j5×V)} (e:H a=some (.dT kvs)):xW K H (.ref a) (.type "dict")
 |ins {a C dx:Addr} {fs:ES} (e:H a=some (.ins C dx fs)) (cl:Cls K C) (ha:PySem.W.findIn K (.ref C) "__class__"=some (some (.builtin "object.__class__")))
   (hn:PySem.W.specialIn K (.builtin "object.__class__") "__get__"=some (some (.builtin "getset_descriptor.__get__"))) (htk:PySem.W.takesIn K (.builtin "object.__class__")=some true)
   (hm:PySem.W.mroIn K C (.type "object")=some true):xW K H (.ref a) (.ref C)
def NR {x:V}{t:G1}(I:sS X tN σ H s)(rx:sO x u)(ty:xW X.K H x t)(e:PySem.W.kitOne X.K t c=some b)(h:∀ tk,Q (.bool b) { s with toks:=tk }):wpAny (model X.rD X.w) A (call (.builtin "isinstance") [u,c]) Q E s:=by
 cases ty with
 |non=>cases (show u=Value.none from rx);exact pW PySem.W.kitx_none I.kIn True.intro e (λz=>nomatch z) h
 |bl y=>cases (show u=Value.bool y from rx);exact pW PySem.W.kitx_bool I.kIn True.intro e (λz=>nomatch z) h
 |int i=>obtain ⟨t,q⟩:=(show ∃ t,u=Value.int i t from rx);cases q;exact pW PySem.W.kitx_int I.kIn True.intro e (λz=>nomatch z) h
 |str y=>obtain ⟨t,q⟩:=(show ∃ t,u=Value.str y t from rx);cases q;exact pW PySem.W.kitx_str I.kIn True.intro e (λz=>nomatch z) h
 |flt y=>obtain ⟨t,q⟩:=(show ∃ t,u=Value.float y t from rx);cases q;exact pW PySem.W.kitx_float I.kIn True.intro e (λz=>nomatch z) h
 |@lst a xs ea=>cases (show u=Value.ref a from rx);obtain ⟨_,_,n,_,h1⟩:=(show sJ X.rD X.w H s.heap a (.lst xs) from I.tI a _ ea);exact pW PySem.W.kitx_list I.kIn ⟨_,h1,rfl⟩ e (λz=>nomatch z) h
 |@frz a ob xs ea=>cases (show u=Value.ref a from rx);obtain ⟨_,_,_,n,_,h1⟩:=(show sJ X.rD X.w H s.heap a (.frz ob (.lst xs)) from I.tI a _ ea);exact pW PySem.W.kitx_list I.kIn ⟨_,h1,rfl⟩ e (λz=>nomatch z) h
 |@tup a xs ea=>cases (show u=Value.ref a from rx);obtain ⟨_,_,_,p⟩:=(show sJ X.rD X.w H s.heap a (.tup xs) from I.tI a _ ea);obtain ⟨o,h1,h2,_⟩:=p;exact pW PySem.W.kitx_tuple I.kIn ⟨o,h1,h2⟩ e (λz=>nomatch z) h
 |@dK a kvs ea=>cases (show u=Value.ref a from rx);obtain ⟨_,_,vs,_,p⟩:=(show sJ X.rD X.w H s.heap a (.dK kvs) from I.tI a _ ea);obtain ⟨o,es,ep,h1,h2,_⟩:=p;exact pW PySem.W.kitx_dict I.kIn ⟨o,h1,h2.1⟩ e (λz=>nomatch z) h
 |@dT a kvs ea=>cases (show u=Value.ref a from rx);obtain ⟨_,_,xs,_,o,es,ep,h1,h2,_⟩:=(show sJ X.rD X.w H s.heap a (.dT kvs) from I.tI a _ ea);exact pW PySem.W.kitx_dict I.kIn ⟨o,h1,h2.1⟩ e (λz=>nomatch z) h
 |@ins a C dx fs ea cl ha hn htk hm=>cases (show u=Value.ref a from rx);obtain ⟨mA,O,_⟩:=ww I.tI ea;obtain ⟨od,J,_⟩:=O.look;exact pW (PySem.W.kitx_own (cl.get _) cl.hd ha hn htk hm) I.kIn J e (λz=>nomatch z) h
end
structure Room (k:Nat)(A:G4):Prop where
 hd:A.handled=none
 dp:A.depth+3*k+5<recursionLimit
 un:A.units+16*k+200<cLine
def Room.mono {k:Nat}(r:Room k A)(h:j<=k):Room j A:=⟨r.hd,by have:=r.dp;omega,by have:=r.un;omega⟩
def Room.deeper {k:Nat}(r:Room (k+1) A)(env:Env):Room k (A.deeper env) :=
 ⟨r.hd,by have:=r.dp;show A.depth+1+3*k+5<_;omega,by have:=r.un;show A.units+3+16*k+200<_;omega⟩
def Room.in1 {k:Nat}(r:Room (k+1) A):Room k A.in1 :=
 ⟨r.hd,by have:=r.dp;show A.depth+3*k+5<_;omega,by have:=r.un;show A.units+1+16*k+200<_;omega⟩
def HL :(A.under (.builtin "type.__call__" ⟨.ref C::us,kw⟩)).depth=A.depth+1:=by first|rfl|simp [Around.under,Code.weight,Code.isCreation,Code.isGuard,Code.isCaller,Code.frames,Code.isFrame,guardIds]
def HN :(A.under (.builtin "type.__call__" ⟨.ref C::us,kw⟩)).units=A.units+1:=by first|rfl|simp [Around.under,Code.cUnits,Code.frames,Code.isFrame]
def Room.make {k:Nat}(r:Room (k+1) A)(C:Addr)(us:C8)(kw:ET):Room k (A.under (.builtin "type.__call__" ⟨.ref C::us,kw⟩)) :=
 ⟨r.hd,by have:=r.dp;rw [HL];omega,by have:=r.un;rw [HN];omega⟩
def Room.depth {k:Nat}(r:Room k A):A.depth<recursionLimit:=by have:=r.dp;omega
def Room.units {k:Nat}(r:Room k A):A.units+64<cLine:=by have:=r.un;omega
def qL:TA:=λ_ H Q=>Q [] H
def qv (ta:TE)(tr:TA):TA:=λσ H Q=>ta σ H λx H1=>tr σ H1 λxs H2=>Q (x::xs) H2
section
variable {X:Cx}{e:Expr}{es:EN}{te:TE}{t:TA}{pos:Pos}
def w9:PA X [] qL:=λ_ _ _ _ H Q I h=>Calls.spliced_nil ⟨[],H,I,.nil,h⟩
def z8 (ha:PE X e te)(hr:PA X es t)(hs:starEach (e::es) X.rC=(false,eval e X.rC)::starEach es X.rC:=by rfl):PA X (e::es) (qv te t):=by intro pos tN s σ H Q I h;rw [hs];show wpAny _ _ (spliced ((false,eval e X.rC)::backTo pos (starEach es X.rC))) _ _ s;refine Calls.spliced_cons (j7 (ha tN s σ H _ I h) λu s1 ⟨x,H1,I1,r1,q1⟩=>?_);exact j7 (hr pos tN s1 σ H1 _ I1 q1) λus s2 ⟨xs,H2,I2,r2,q2⟩=>⟨x::xs,H2,I2,.cons r1 r2,q2⟩
def tTup (t:TA):TE:=λσ H Q=>t σ H λxs H1=>xs.length<=sizeLine/\∀ p,H1 p=none->Q (.ref p) (z9 H1 p (.tup xs))
def tLst (t:TA):TE:=λσ H Q=>t σ H λxs H1=>xs.length<=sizeLine/\∀ p,H1 p=none->Q (.ref p) (z9 H1 p (.lst xs))
def zI {x1}(h:PA X es t):PE X (.Tuple es x1 pos) (tTup t):=by intro tN s σ H Q I hq;refine wpAny_Tuple_spliced (j7 (h pos tN s σ H _ I hq) λus s1 ⟨xs,H1,I1,r,z,q⟩=>⟨by rw [<- r.length];exact z,?_⟩);have hf:H1 s1.heap.objs.size=none:=I1.tI.fresh (yP _);refine ⟨.ref s1.heap.objs.size,z9 H1 s1.heap.objs.size (.tup xs),I1.laid (t':=s1.toks) (λb u e=>yW _ e) (yP _) ?_,rfl,q _ hf⟩;exact ⟨z,us,r,⟨_,yz _ rfl,rfl,_,rfl⟩⟩
def m8 (h:PA X es t):PE X (.List es pos) (tLst t):=by intro tN s σ H Q I hq;refine wpAny_List_spliced (j7 (h pos tN s σ H _ I hq) λus s1 ⟨xs,H1,I1,r,z,q⟩=>⟨by rw [<- r.length];exact z,?_⟩);have hf:H1 s1.heap.objs.size=none:=I1.tI.fresh (yP _);refine ⟨.ref s1.heap.objs.size,z9 H1 s1.heap.objs.size (.lst xs),I1.laid (t':=s1.toks) (λb u e=>yW _ e) (yP _) ?_,rfl,q _ hf⟩;exact ⟨z,us,0,r,yz _ rfl⟩
end
abbrev Sp:=List V->Hp->VK->XK->Prop
variable{sp:Sp}
abbrev CXT:=List Env->Hp->G2->XK->G1->G2->Prop
variable{CX:CXT}
structure Env0 (P:G3)(w:G5)(K:Fg)(mg:AB)(tM:Heap)(A:G4)(tL:EK)(s:G2)(H:Hp):Prop where
 frames:A.frames=some tL
 mod:Mod K mg tM
 bs:∀ b o,tM.get? b=some o->s.heap.get? b=some o/\H b=none
 bsz:tM.objs.size<=s.heap.objs.size
 funs:s.heap.FunFrames tM tL
 frf:∀ b∈t9 tL,H b=none
 tI:sE P w H s.heap
 bare:AllBare s.gens
 tbs:∀ p∈TABS,H p.1=some (.tbl p.2.1 p.2.2)
def CE (tL:EK)(P:G3)(w:G5)(H:Hp)(s:G2)(Q:VK)(u:G1)(s':G2):Prop :=
 ∃ v H',s'.os=s.os/\AllBare s'.gens/\Un (t9 tL) [] H H' s.heap s'.heap/\sE P w H' s'.heap/\sO v u/\Q v H'
def CR (CX:CXT)(tL:EK)(P:G3)(w:G5)(H:Hp)(s:G2)(Q:VK)(E:XK)(r:Result)(s':G2):Prop :=
 match r with
 | .ok (.ret u)=>CE tL P w H s Q u s'
 | .ok _=>False
 | .error e=>CX tL H s E e s'
structure sQ (P:G3)(w:G5)(K:Fg)(mg:AB)(tM:Heap)(CX:CXT)(k:Nat)(f:Addr)(fd:FuncData)(ps:C7)(sp:Sp):Prop where
 len:∀ vs H Q E,sp vs H Q E->vs.length=ps.length
 run:∀(A:G4)(tL:EK)(s:G2)(H:Hp)(args:Args)(us:C8)(vs:EB)(Q:VK)(E:XK),Room k A->Env0 P w K mg tM A tL s H->BindsTo s fd args (ps.zip us)->sP vs us->sp vs H Q E ->
  codeAny (model P w) A (.call (.ref f) args) (CR CX tL P w H s Q E) s
def sQ.imp {k:Nat}{f:Addr}{sp':Sp}(F:sQ P w K mg tM CX k f fd ps sp)(h:∀ vs H Q E,sp' vs H Q E->sp vs H Q E):sQ P w K mg tM CX k f fd ps sp' :=
 ⟨λvs H Q E q=>F.len vs H Q E (h _ _ _ _ q),λA tL s H args us vs Q E hr he hb hv hs=>F.run A tL s H args us vs Q E hr he hb hv (h _ _ _ _ hs)⟩
def Env0.make (e:Env0 P w K mg tM A tL s H)(C:Addr)(us:C8)(kw:ET):Env0 P w K mg tM (A.under (.builtin "type.__call__" ⟨.ref C::us,kw⟩)) tL s H:=⟨by first|exact e.frames|(simpa [Around.under,Code.envs,Code.isFrame,pushEnvs] using e.frames),e.mod,e.bs,e.bsz,e.funs,e.frf,e.tI,e.bare,e.tbs⟩
def Env0.in1 (e:Env0 P w K mg tM A tL s H):Env0 P w K mg tM A.in1 tL s H:=⟨e.frames,e.mod,e.bs,e.bsz,e.funs,e.frf,e.tI,e.bare,e.tbs⟩
def sS.env0 (I:sS X tN σ H s):Env0 X.rD X.w X.K X.mg X.tM X.A X.stack s H :=
 ⟨I.ok.frames,I.ok.mod,I.bs,yj I.ok.bsz I.sz,I.stack,I.stkFree,I.tI,I.bare,λp hp=>I.tM.tbls _ _ _ (I.ok.tbs p hp)⟩
def sS.after {Q:VK}(I:sS X tN σ H s)(h:CE X.stack X.rD X.w H s Q u s'):EP X tN σ Q u s':=by obtain ⟨v,H',os,bare,un,tI,r,q⟩:=h;obtain ⟨hh,g,d,t,os'⟩:=s';obtain rfl:os'=s.os:=os;exact ⟨v,H',I.call (h':=hh) (g':=g) (d':=d) (t':=t) (ch:=[]) un tI bare (λb z=>rp z (by simp)),r,q⟩
def xT (sp:Sp)(dvs:EB)(E:XK)(t:TA):TE:=λσ H Q=>t σ H λvs H1=>sp (vs++dvs) H1 Q E
def Qa (C:Addr)(m:Str)(sp:Sp)(dvs:EB)(E:XK)(ta:TE)(t:TA):TE:=λσ H Q=>ta σ H λx H1=>∃ a dx fs,x = .ref a/\H1 a=some (.ins C dx fs)/\fs.lookup m=none /\
 t σ H1 λvs H2=>sp (x::(vs++dvs)) H2 Q E
def ZE (C:Addr)(sp:Sp)(dvs:EB)(E:XK)(t:TA):TE:=λσ H Q=>t σ H λvs H1=>∀ x dx,H1 x=none->H1 dx=none->dx≠x ->
 sp (.ref x::(vs++dvs)) (z9 (z9 H1 dx (.own x)) x (.ins C dx [])) (λv H2=>v = .non/\Q (.ref x) H2) E
def Binds (K:Fg)(fd:FuncData)(ps:C7)(ds:C8):Prop :=
 ∀(s:G2)(us:C8),K.In s.heap->(us++ds).length=ps.length->BindsTo s fd ⟨us,[]⟩ (ps.zip (us++ds))
def Binds.all (h:∀ us:C8,us.length=ps.length->bindArgs fd ⟨us,[]⟩=pure (ps.zip us)):Binds K fd ps []:=λs us _ hl=>by
 rw [yp] at hl ⊢;exact .of_eq (h us hl)
def jX (CX:CXT)(X:Cx)(E:XK):Prop:=∀(tN:C4)(σ:St)(H:Hp)(s:G2)(e:G1)(s':G2),sS X tN σ H s->CX X.stack H s E e s'->X.xe e s'
section
variable{k:Nat}{f:Addr}{E:XK}{o:Expr}{t:TA}
def Yh {Q:VK}(F:sQ X.rD X.w X.K X.mg X.tM CX k f fd ps sp)(hr:Room k X.A)(hb:Binds X.K fd ps ds)(hd:sP dvs ds)(hx:jX CX X E)(I:sS X tN σ H s)(r:sP vs us)(h:sp (vs++dvs) H Q E):wpAny (model X.rD X.w) X.A (call (.ref f) us) (EP X tN σ Q) X.xe s:=by
 have r2:sP (vs++dvs) (us++ds):=r.append hd;have hl:(us++ds).length=ps.length:=by rw [<- r2.length];exact F.len _ _ _ _ h
 refine pp (pG (F.run X.A X.stack s H ⟨us,[]⟩ (us++ds) (vs++dvs) Q E hr I.env0 (hb s us I.kIn hl) r2 h) λr s' hq=>?_);cases r with
 |error e=>exact hx tN σ H s e s' I hq
 |ok fl =>
  cases fl with
  |ret u=>exact I.after hq
  |next=>exact False.elim hq
  |brk=>exact False.elim hq
  |cont=>exact False.elim hq
def PX (F:sQ X.rD X.w X.K X.mg X.tM CX k f fd ps sp)(hr:Room k X.A)(hg:Gl X x)(hm:X.mg x=some (.ref f))(hk:PySem.W.keepIn X.K (.ref f)=true)(hb:Binds X.K fd ps ds)(hd:sP dvs ds)(hx:jX CX X E)(ha:PA X (e::es) t)(hdb:(x==("__debug__":Str))=false:=by decide)(he:starEach (e::es) X.rC=(false,eval e X.rC)::starEach es X.rC:=by rfl)(hpl:(backTo pos (starEach es X.rC)).any (·.1)=false:=by rfl):PE X (.Call (.Name x p) (e::es) [] pos) (xT sp dvs E t):=by intro tN s σ H Q I h;refine pX (wA I hg hm ?_ hdb);refine oX (h₀:=X.tM) I.ok.mod.kin hk (j7 (ha pos tN s σ H _ I h) λus s1 ⟨vs,H1,I1,r,q⟩=>⟨I1.kIn,?_⟩) he hpl;exact Yh F hr hb hd hx I1 r q
def Sl {pl:Sem Bool}(he:PE X o ta)(c:Cls X.K C)(hm:Xl X.K C m f)(F:sQ X.rD X.w X.K X.mg X.tM CX k f fd ps sp)(hr:Room k X.A)(hb:Binds X.K fd ps ds)(hd:sP dvs ds)(hx:jX CX X E)(ha:PA X (e::es) t)
  (hst:starEach (e::es) X.rC=(false,eval e X.rC)::starEach es X.rC:=by rfl) (hpl:(backTo pos (starEach es X.rC)).any (·.1)=false:=by rfl)
  (ht:eval (.Call (.Attribute o m apos) (e::es) [] pos) X.rC=(do
   let ov <- eval o X.rC
   standAt apos.atName
   let (f,first) <- holding [ov] (getMethod ov m pl)
   callWith pos f first (backTo pos (starEach (e::es) X.rC)) (backToKw pos (keywordEach [] X.rC))):=by rfl) :
  PE X (.Call (.Attribute o m apos) (e::es) [] pos) (Qa C m sp dvs E ta t):=by
 intro tN s σ H Q I h;refine PySem.W.methodCall_KW (pl:=pl) (j7 (he tN s σ H _ I h) λu s1 ⟨x,H1,I1,rx,a,dx,fs,ex,ea,l,q⟩=>?_) ht;subst ex;obtain rfl:u=Value.ref a:=rx;refine Wc I1 ea c hm l ?_;refine oX (first:=[.ref a]) (h₀:=X.tM) I.ok.mod.kin hm.kp (j7 (ha pos tN s1 σ H1 _ I1 q) λus s2 ⟨vs,H2,I2,r,q2⟩=>⟨I2.kIn,?_⟩) hst hpl;exact Yh (us:= .ref a::us) (vs:= .ref a::vs) F hr hb hd hx I2 (.cons rfl r) q2
def Sm {pl:Sem Bool}(he:PE X o ta)(c:Cls X.K C)(hm:Xl X.K C m f)(F:sQ X.rD X.w X.K X.mg X.tM CX k f fd ps sp)(hr:Room k X.A)(hb:Binds X.K fd ps ds)(hd:sP dvs ds)(hx:jX CX X E)
  (ht:eval (.Call (.Attribute o m apos) [] [] pos) X.rC=(do
   let ov <- eval o X.rC
   standAt apos.atName
   let (f,first) <- holding [ov] (getMethod ov m pl)
   callWith pos f first (backTo pos (starEach [] X.rC)) (backToKw pos (keywordEach [] X.rC))):=by rfl) :
  PE X (.Call (.Attribute o m apos) [] [] pos) (Qa C m sp dvs E ta qL):=by
 intro tN s σ H Q I h;refine PySem.W.methodCall_KW (pl:=pl) (j7 (he tN s σ H _ I h) λu s1 ⟨x,H1,I1,rx,a,dx,fs,ex,ea,l,q⟩=>?_) ht;subst ex;obtain rfl:u=Value.ref a:=rx;refine Wc I1 ea c hm l ?_;exact PySem.W.callWith_K0 (first:=[.ref a]) I1.kIn hm.kp (Yh (us:=[.ref a]) (vs:=[.ref a]) F hr hb hd hx I1 (.cons rfl .nil) q)
structure Mk (K:Fg)(C f:Addr):Prop where
 makes:PySem.W.makesIn K C=true
 init:PySem.W.findIn K (.ref C) "__init__"=some (some (.ref f))
 fn:PySem.W.isFn K (.ref f)=true
 kp:PySem.W.keepIn K (.ref C)=true
def Iz {Q:VK}(M:Mk X.K C f)(F:sQ X.rD X.w X.K X.mg X.tM CX k f fd ps sp)(hr:Room (k+1) X.A)(hb:Binds X.K fd ps ds)(hd:sP dvs ds)(hx:jX CX X E)(I:sS X tN σ H s)(r:sP vs us)(h:∀ x dx,H x=none->H dx=none->dx≠x->sp (.ref x::(vs++dvs)) (z9 (z9 H dx (.own x)) x (.ins C dx [])) (λv H2=>v = .non/\Q (.ref x) H2) E):wpAny (model X.rD X.w) X.A (call (.ref C) us) (EP X tN σ Q) X.xe s:=by
 have hq:=h (s.heap.objs.size+1) s.heap.objs.size (I.tI.fresh (uh _)) (I.tI.fresh (yP _)) (yG (uq _));have I2:=sS.made (C:=C) I;have r2:sP (V.ref (s.heap.objs.size+1)::(vs++dvs)) (Value.ref (s.heap.objs.size+1)::(us++ds)):= .cons rfl (r.append hd);have hl:(Value.ref (s.heap.objs.size+1)::us++ds).length=ps.length:=by have e:=r2.length;rw [F.len _ _ _ _ hq] at e;exact e.symm
 refine pp (HM (f:=f) I.kIn M.makes M.init (pQ.mp M.fn) (pG (F.run _ X.stack _ _ ⟨Value.ref (s.heap.objs.size+1)::us,[]⟩ (Value.ref (s.heap.objs.size+1)::(us++ds)) _ _ E (hr.make C us [])
  (I2.env0.make C us []) (hb _ (Value.ref (s.heap.objs.size+1)::us) I2.kIn hl) r2 hq) λr s' hq'=>?_))
 cases r with
 |error e=>exact hx tN σ _ _ e s' I2 hq'
 |ok fl =>
  cases fl with
  |ret u=>obtain ⟨v,H',I3,rv,ev,q3⟩:=I2.after hq';subst ev;exact ⟨rv,⟨V.ref (s.heap.objs.size+1),H',I3,rfl,q3⟩⟩
  |next=>exact False.elim hq'
  |brk=>exact False.elim hq'
  |cont=>exact False.elim hq'
def Sj (M:Mk X.K C f)(F:sQ X.rD X.w X.K X.mg X.tM CX k f fd ps sp)(hr:Room (k+1) X.A)(hg:Gl X x)(hm:X.mg x=some (.ref C))(hb:Binds X.K fd ps ds)(hd:sP dvs ds)(hx:jX CX X E)(ha:PA X (e::es) t)(hdb:(x==("__debug__":Str))=false:=by decide)(he:starEach (e::es) X.rC=(false,eval e X.rC)::starEach es X.rC:=by rfl)(hpl:(backTo pos (starEach es X.rC)).any (·.1)=false:=by rfl):PE X (.Call (.Name x p) (e::es) [] pos) (ZE C sp dvs E t):=by intro tN s σ H Q I h;refine pX (wA I hg hm ?_ hdb);refine oX (h₀:=X.tM) I.ok.mod.kin M.kp (j7 (ha pos tN s σ H _ I h) λus s1 ⟨vs,H1,I1,r,q⟩=>⟨I1.kIn,?_⟩) he hpl;exact Iz M F hr hb hd hx I1 r q
end
structure y8 (N P:C7)(sc:Scope):Prop where
 kind:sc.kind = .function
 co:sc.isCoroutine=false
 gen:sc.isGenerator=false
 nd:N.Nodup
 pre:N.take P.length=P
 par:∀ x∈P,sc.names.lookup x=some .local∨sc.names.lookup x=some .cell
 nofree:∀ y∈sc.names,y.2 ≠ .free
theorem KA {kindOf:AU}{x:Str}:∀{binds:ET}{m:AB},(∀ v,(x,v)∉binds)->bindL kindOf binds m x=m x
 |[],_,_=>rfl
 |(n,v)::r,m,h=>by
  unfold bindL;rw [KA λw hw=>h w (yO _ hw)];split
  .have:x≠n:=by rintro rfl;exact h v yR
   simp [this]
  .rfl
theorem Ky {kindOf:AU}{x:Str}:∀{binds:ET}{m:AB},(∀ v,(x,v)∉binds)->bindC kindOf binds m x=m x
 |[],_,_=>rfl
 |(n,v)::r,m,h=>by
  unfold bindC;rw [Ky λw hw=>h w (yO _ hw)];split
  .rfl
  .have:x≠n:=by rintro rfl;exact h v yR
   simp [this]
theorem Kz {kindOf:AU}{x:Str}{v:G1}:∀{P:C7}{vs:C8}{i:Nat}{m:AB},P.Nodup->P[i]?=some x->vs[i]?=some v->kindOf x=some .local -> bindL kindOf (P.zip vs) m x=some v
 |[],_,_,_,_,h,_,_=>by simp at h
 |_::_,[],_,_,_,_,h,_=>by simp at h
 |p::P,w::vs,0,m,nd,h1,h2,hk=>by
  simp at h1 h2;subst h1;subst h2;show bindL kindOf ((p,w)::P.zip vs) m p=_;unfold bindL;rw [KA λv hv=>(yn.mp nd).1 (uz hv).1,rB hk];simp
 |p::P,w::vs,i+1,m,nd,h1,h2,hk=>by
  show bindL kindOf ((p,w)::P.zip vs) m x=_;unfold bindL;exact Kz (i:=i) (yn.mp nd).2 (by simpa using h1) (by simpa using h2) hk
theorem Kx {kindOf:AU}{x:Str}{v:G1}:∀{P:C7}{vs:C8}{i:Nat}{m:AB},P.Nodup->P[i]?=some x->vs[i]?=some v->kindOf x≠some .local -> bindC kindOf (P.zip vs) m x=some v
 |[],_,_,_,_,h,_,_=>by simp at h
 |_::_,[],_,_,_,_,h,_=>by simp at h
 |p::P,w::vs,0,m,nd,h1,h2,hk=>by
  simp at h1 h2;subst h1;subst h2;show bindC kindOf ((p,w)::P.zip vs) m p=_;unfold bindC;rw [Ky λv hv=>(yn.mp nd).1 (uz hv).1,rq hk];simp
 |p::P,w::vs,i+1,m,nd,h1,h2,hk=>by
  show bindC kindOf ((p,w)::P.zip vs) m x=_;unfold bindC;exact Kx (i:=i) (yn.mp nd).2 (by simpa using h1) (by simpa using h2) hk
def start (N:C7)(vs:EB):St:=vs.map some++List.replicate (N.length-vs.length) none
def qy (CX:CXT)(P:G3)(w:G5)(K:Fg)(mg:AB)(tM:Heap)(N:C7)(qual:Str)(scope:Scope)(f:Addr)(cd:G1)(A:G4)(tL:EK)(s:G2)(H:Hp)(E:XK):Cx where
 rD:=P
 w:=w
 K:=K
 mg:=mg
 tM:=tM
 A:=A.deeper (envOfC qual scope s.heap.objs.size f cd)
 N:=N
 s₀:=s
 H₀:=H
 rC:=envOfC qual scope s.heap.objs.size f cd
 tL:=tL
 stack:=envOfC qual scope s.heap.objs.size f cd::tL
 ex:=[]
 calm:=true
 fn:=λ_=>true
 pn:=[]
 xe:=λe s'=>wpAny (model P w) (A.deeper (envOfC qual scope s.heap.objs.size f cd)) (leaving (envOfC qual scope s.heap.objs.size f cd) e) (λ_ s''=>CX tL H s E e s'') (λe' s''=>CX tL H s E e' s'') s'
def KK {sc:Scope}(h:sc.names.lookup x=some .cell):∃ c,(cellsFrom n sc.names []).lookup x=some c:=by have q:=PySem.W.cellsFrom_some sc.names n [] (.inl h);exact Option.isSome_iff_exists.mp q
def NM {f:Addr}{cd:G1}{s1:G2}{E:XK}(S:y8 N ps scope)(hd:A.handled=none)(e0:Env0 P w K mg tM A tL s H)(hl:vs.length=ps.length)(r:sP vs us)(x:InCallC s s.heap.objs.size (bindL (envOfC qual scope s.heap.objs.size f cd).kindOf (ps.zip us) λ_=>none) (cellsFrom (s.heap.objs.size+1) scope.names []) (bindC (envOfC qual scope s.heap.objs.size f cd).kindOf (ps.zip us) λ_=>none) s1):sS (qy CX P w K mg tM N qual scope f cd A tL s H E) [] (start N vs) H s1:=by
 have hpl:ps.length<=N.length:=by have:=pL List.length S.pre;rw [uZ] at this;omega
 obtain ⟨h1,tk,rfl,hk⟩:=x.done;have noA:∀ b:Addr,b∉(qy CX P w K mg tM N qual scope f cd A tL s H E).ex:=λb z=>rp (show b∈([]:EC) from z) (by simp);refine ⟨⟨e0.mod,S.kind,rfl,rfl,yP _,λy z c h1 h2=>?_,λy hy=>?_,λy c _ h=>?_,λ_=>hd,Around.frames_deeper e0.frames,.inr ⟨rfl,rfl⟩,λb z=>rp z (noA b),e0.bs,e0.bsz,λb _ _=>noA b,λb z=>rp z (noA b),e0.funs,e0.frf,e0.tbs⟩,
  rfl,e0.bare,Un.kept hk,⟨_,x.toInCall.ns,λi y v h1 h2 h3=>?_⟩,λy c h=>⟨_,x.cell y c h⟩,e0.tI.fresh (yP _),λy c h=>?_,λp hp=>rp (show p∈([]:C4) from hp) (by simp),e0.tI.kept hk,?_⟩
 .exact name_of_addr x.apart (pZ h1) (pZ h2)
 .have hy:scope.names.lookup y=some .cell∨scope.names.lookup y=some .free:=hy;rcases hy with hy|hy
  .exact KK hy
  .exact rp rfl (S.nofree _ (pZ hy))
 .exact uJ (x.above y c (pZ h))
 .have hi:i<vs.length:=by
   unfold start at h2;by_cases hi:i<vs.length
   ·exact hi
   ·rw [uQ (by simpa using hi)] at h2;rw [ua] at h2;split at h2<;>cases h2
  have ha:vs[i]?=some v:=by
   unfold start at h2;rw [uU (by simpa using hi),yM] at h2;cases e:vs[i]? with
   |none=>rw [e] at h2;cases h2
   |some a=>rw [e] at h2;cases h2;rfl
  obtain ⟨u,hu,rv⟩:=r.get ha;have hp:ps[i]?=some y:=by rw [<- S.pre,List.getElem?_take_of_lt (by omega)];exact h1
  have ndP:ps.Nodup:=by rw [<- S.pre];exact S.nd.sublist (List.take_sublist _ _)
  refine ⟨u,rv,?_⟩;rcases S.par y (yu hp) with k|k
  .exact .inl ⟨k,Kz ndP hp hu k⟩
  .obtain ⟨c,e⟩:=KK (n:=s.heap.objs.size+1) k;refine .inr ⟨.inl k,c,e,?_⟩;have q:=x.cell y c e;rw [Kx ndP hp hu (by show scope.names.lookup y≠_;rw [k];decide)] at q;exact q
 .exact e0.tI.fresh (uJ (x.above y c (pZ h)))
 .unfold start;show _=N.length;rw [yV,yZ,tT];omega
def Ju {k:Nat}{f:Addr}{params:Arguments}{dV kV doc pm tH ct oc:G1}{an od:EG}{osl:EO}(lk:K.lookup f=some ⟨oc,od,.func (PySem.W.fnOf name qual params body scope dV kV doc pm an tH ct),osl⟩)(hcd:PySem.W.codeIn K tH qual=true)(S:y8 N ps scope)(len:∀ vs H Q E,sp vs H Q E->vs.length=ps.length)(hbody:∀(A:G4)(tL:EK)(s:G2)(H:Hp)(vs:EB)(Q:VK)(E:XK),Room k (A.deeper (envOfC qual scope s.heap.objs.size f tH))->sp vs H Q E -> ∃ t,PSs (qy CX P w K mg tM N qual scope f tH A tL s H E) body t/\t { nx:=λ_ H'=>Q .non H',rt:=Q } (start N vs) H):sQ P w K mg tM CX (k+1) f (PySem.W.fnOf name qual params body scope dV kV doc pm an tH ct) ps sp:=by
 refine ⟨len,λA tL s H args us vs Q E hr e0 hb r hsp=>?_⟩;have hl:=len _ _ _ _ hsp;have KX:K.In s.heap:=e0.mod.kin.keeps λb o e=>(e0.bs b o e).1;have lim:s.heap.NoLimit:=e0.mod.nolimit.keeps λb o e=>(e0.bs b o e).1;have hkind:∀ y∈ps.zip us,scope.names.lookup y.1=some .local∨(scope.names.lookup y.1=some .cell/\((cellsFrom (s.heap.objs.size+1) scope.names []).lookup y.1).isSome=true):=λ⟨n,v⟩ hy=>by
  rcases S.par n (uz hy).1 with q|q
  .exact .inl q
  .exact .inr ⟨q,PySem.W.cellsFrom_some _ _ _ (.inl q)⟩
 refine codeAny_call_function hr.depth (KX _ _ lk) rfl S.co S.gen rfl (PySem.W.codeRec_of KX hcd) (hb _ _ _ _ ?_);refine wpAny_newFunctionEnv_cells S.kind hkind λenv he s1 x=>?_;subst he;refine ⟨lim.keeps x.toInCall.keep,codeAny_func ?_⟩;obtain ⟨t,ht,hq⟩:=hbody A tL s H vs Q E (hr.deeper _) hsp;have I:sS (qy CX P w K mg tM N qual scope f tH A tL s H E) [] (start N vs) H s1:=NM S hr.hd e0 hl r x;refine pM (ht [] s1 (start N vs) H _ I hq) (λfl s' hs=>?_) λe s' hs=>hs;have fin:∀{σ':St}{H':Hp}{v:V}{u:G1},sS (qy CX P w K mg tM N qual scope f tH A tL s H E) [] σ' H' s'->sO v u->Q v H'->CE tL P w H s Q u s' :=
  λ{σ' H' v u} J rv q=>⟨v,H',J.os,J.bare,J.tM,J.tI,rv,q⟩
 cases fl with
 |ret u=>obtain ⟨v,σ',H',J,rv,q⟩:=hs;exact fin J rv q
 |next=>obtain ⟨σ',H',J,q⟩:=hs;exact fin (v:=V.non) (u:=Value.none) J rfl q
 |brk=>obtain ⟨_,_,_,q⟩:=hs;exact False.elim q
 |cont=>obtain ⟨_,_,_,q⟩:=hs;exact False.elim q
section
variable{t:TA}{id:String}{r:AG}
def tCB (r:AG)(t:TA):TE:=λσ H Q=>t σ H λvs H1=>r vs H1 Q
def p7 (hc:sI X (.builtin id) r)(hg:Gl X x)(hm:X.mg x=none)(hv:bootBuiltins x=some (.builtin id))(ha:PA X (e::es) t)(hn:x ≠ "__name__":=by decide)(hdb:(x==("__debug__":Str))=false:=by decide)(he:starEach (e::es) X.rC=(false,eval e X.rC)::starEach es X.rC:=by rfl)(hpl:(backTo pos (starEach es X.rC)).any (·.1)=false:=by rfl):PE X (.Call (.Name x p) (e::es) [] pos) (tCB r t):=by intro tN s σ H Q I h;refine pX (jL I hg hm hv ?_ hn hdb);exact PyProof.Rows.callWith_builtin1 (j7 (ha pos tN s σ H _ I h) λus s1 ⟨vs,H1,I1,r1,q1⟩=>hc tN s1 σ H1 vs us Q I1 r1 q1) he hpl
def wN (hc:sI X (.type T) r)(hg:Gl X x)(hm:X.mg x=none)(hv:bootBuiltins x=some (.type T))(ha:PA X (e::es) t)(hn:x ≠ "__name__":=by decide)(hdb:(x==("__debug__":Str))=false:=by decide)(he:starEach (e::es) X.rC=(false,eval e X.rC)::starEach es X.rC:=by rfl)(hpl:(backTo pos (starEach es X.rC)).any (·.1)=false:=by rfl):PE X (.Call (.Name x p) (e::es) [] pos) (tCB r t):=by intro tN s σ H Q I h;refine pX (jL I hg hm hv ?_ hn hdb);exact pS (j7 (ha pos tN s σ H _ I h) λus s1 ⟨vs,H1,I1,r1,q1⟩=>hc tN s1 σ H1 vs us Q I1 r1 q1) he hpl
end
end L2
namespace HT
open PySem PyProof.Rows
variable{prog:G3}{w:G5}{A:G4}{E:AA}{s:G2}
def cat_tup {t b:Addr}{vs ws:C8}{Q:AA}(ht:IsTup s.heap t vs.toArray)(hb:IsTup s.heap b ws.toArray)(hv:vs≠[])(h1:ws=[]->Q (.ref t) s)(h2:ws≠[]->Q (.ref s.heap.objs.size) { s with heap:=s.heap.push { cls:= .type "tuple",data:= .seq (vs++ws).toArray } })(hsz:vs.length+ws.length<=sizeLine):wpAny (model prog w) A (binaryOp .Add (.ref t) (.ref b)) Q E s:=by
 obtain ⟨⟨cls,dd,data,sl⟩,ho,hc,n,hd⟩:=id ht;obtain ⟨⟨cls2,dd2,data2,sl2⟩,ho2,hc2,n2,hd2⟩:=id hb;simp only at hc hd hc2 hd2;subst hc hd hc2 hd2;have e:vs.toArray++ws.toArray=(vs++ws).toArray:=by simp
 by_cases hw:ws=[]
 .exact concat_meets ⟨_,ho,rfl⟩ ⟨_,ho2,rfl⟩ noFill_tuple_add seq_tuple_add PySem.F.slot_tuple_add PySem.F.entry_tuple_add (PySem.F.args_tuple_add_2 _ _)
   (tuple_addW1 t b vs.toArray ws.toArray n n2 dd dd2 sl sl2 (by simpa using hv) (by simp [hw])) ⟨ho,ho2,h1 hw⟩
 .refine concat_meets ⟨_,ho,rfl⟩ ⟨_,ho2,rfl⟩ noFill_tuple_add seq_tuple_add PySem.F.slot_tuple_add PySem.F.entry_tuple_add (PySem.F.args_tuple_add_2 _ _)
   (tuple_addW2 t b vs.toArray ws.toArray n n2 dd dd2 sl sl2 (by simpa using hv) (by simpa using hw) (by rw [yT,yT];exact hsz)) ⟨ho,ho2,?_⟩
  rw [e];exact h2 hw
def sIx (n d:Nat):EV->Nat
 |none=>d
 |some v=>if v<0 then (v+(n:Int)).toNat else min v.toNat n
def sIx_none (n d:Nat):sIx n d none=d:=rfl
def sIx_nat (n d k:Nat):sIx n d (some (k:Int))=min k n:=by show (if (k:Int)<0 then ((k:Int)+(n:Int)).toNat else min (k:Int).toNat n)=min k n;rw [rq (by omega),uA]
end HT
namespace L2
open PySem PySem.Spec PyProof.Rows
variable{X:Cx}{e value:Expr}{td te tv:TE}{hi lo:Option Expr}{p2 pos pos' tpos:Pos}{b l:Addr}{ys zs:EB}{κ:Type}{h:Heap}{E:AA}{r:R2}{xs:List (List j5×Addr×G1)}{j n t':Nat}{α:Type}{tN:C4}{σ:St}{H H':Hp}{s:G2}{its its':C8}{A:G4}{x y:V}{u v:G1}{T:String}{o:EY}{P:G3}{w:G5}{kvs:List (List j5×V)}{a:Addr}{Q:AA}{h':Heap}
abbrev TO:=St->Hp->(EV->Hp->Prop)->Prop
variable{th:TO}
def PO (X:Cx)(e:Option Expr)(t:TO):Prop :=
 ∀(tN:C4)(s:G2)(σ:St)(H:Hp)(Q:EV->Hp->Prop),sS X tN σ H s->t σ H Q ->
  wpAny (model X.rD X.w) X.A (evalPart e X.rC) (λu s'=>∃ o H',sS X tN σ H' s'/\IsPart u o/\Q o H') X.xe s
def Do:TO:=λ_ H Q=>Q none H
def Dq (t:TE):TO:=λσ H Q=>t σ H λx H1=>∃ i,x = .int i/\Q (some i) H1
section
variable{tl:TO}
def zu:PO X none Do:=by intro tN s σ H Q I h;rw [evalPart_none];exact yI ⟨none,H,I,.none,h⟩
def xR (h:PE X e te):PO X (some e) (Dq te):=by intro tN s σ H Q I hw;rw [evalPart_some];refine j7 (h tN s σ H _ I hw) λu s1 ⟨x,H1,I1,r1,q1⟩=>?_;obtain ⟨i,rfl,q⟩:=q1;obtain ⟨t,rfl⟩:=r1;exact ⟨some i,H1,I1,.int i t,q⟩
def SlR (X:Cx)(r:AT):Prop :=
 ∀(tN:C4)(s:G2)(σ:St)(H:Hp)(x:V)(v vl vu:G1)(lo hi:EV)(sl:Addr)(Q:VK),sS X tN σ H s->sO x v->s.heap.IsSliceOf sl vl vu .none->IsPart vl lo->IsPart vu hi->r x lo hi H Q ->
  ∃ T id,typeLookup (.type T) "__getitem__"=pure (some (.builtin id))/\s.TypeIs v T/\wpAny (model X.rD X.w) X.A (getItem v (.ref sl)) (EP X tN σ Q) X.xe s
def tSl (r:AT)(te:TE)(tl th:TO):TE:=λσ H Q=>te σ H λx H1=>tl σ H1 λl H2=>th σ H2 λu H3=>r x l u H3 Q
def zh {r:AT}(hr:SlR X r)(he:PE X e te)(hl:PO X lo tl)(hu:PO X hi th):PE X (.Subscript e (.Slice lo hi none p2) pos) (tSl r te tl th):=by intro tN s σ H Q I h;refine Subscript_ (j7 (he tN s σ H _ I h) λv s1 ⟨x,H1,I1,r1,q1⟩=>?_);refine wpAny_Slice (j7 (hl tN s1 σ H1 _ I1 q1) λvl s2 ⟨l,H2,I2,pl,q2⟩=>j7 (hu tN s2 σ H2 _ I2 q2) λvu s3 ⟨u,H3,I3,pu,q3⟩=>?_);rw [evalPart_none];refine yI ?_;have I4:sS X tN σ H3 { s3 with heap:=s3.heap.push { cls:= .type "slice",data:= .fields #[vl,vu,.none] } }:=I3.kept (t':=s3.toks) λb ob q=>yW _ q;obtain ⟨T,id,hT,ht,hg⟩:=hr tN { s3 with heap:=s3.heap.push { cls:= .type "slice",data:= .fields #[vl,vu,.none] } } σ H3 x v vl vu l u s3.heap.objs.size Q I4 r1 (Heap.IsSliceOf.new ..) pl pu q3;show wpAny (model X.rD X.w) X.A (subscriptTail e (.Slice lo hi none p2) v (.ref s3.heap.objs.size)) (EP X tN σ Q) X.xe { s3 with heap:=s3.heap.push { cls:= .type "slice",data:= .fields #[vl,vu,.none] } };exact tail_any (ops:=[.ref s3.heap.objs.size,v]) ht hT hg (by with_unfolding_all rfl)
def Qs (xs:EB)(lo hi:EV):EB:=(xs.drop (HT.sIx xs.length 0 lo)).take (HT.sIx xs.length xs.length hi-HT.sIx xs.length 0 lo)
def LA (xs:EB)(lo hi:EV):(Qs xs lo hi).length<=xs.length:=by unfold Qs;rw [uZ,uO];omega
def Cm (K:Fg):R2:=λx y H Q=>∃ a b xs ys,x = .ref a/\y = .ref b/\sD K H a xs/\sD K H b ys/\xs≠[]/\xs.length+ys.length<=sizeLine /\
 (ys=[]->Q (.ref a) H)/\(ys≠[]->∀ p,H p=none->Q (.ref p) (z9 H p (.tup (xs++ys))))
def sP.nil_iff {xs:EB}{us:C8}(r:sP xs us):us=[]↔xs=[]:=by
 cases r with
 |nil=>simp
 |cons _ _=>simp
def TV:OpR X (binaryOp .Add) (Cm X.K):=by intro tN s σ H x y v u Q I rx ry h;obtain ⟨a,b,xs,ys,rfl,rfl,ha,hb,hx,hz,q1,q2⟩:=h;cases rx;cases ry;obtain ⟨its,r1,p1,_⟩:=I.tuple ha;obtain ⟨its2,r2,p2,_⟩:=I.tuple hb;refine HT.cat_tup p1 p2 (λz=>hx (r1.nil_iff.mp z)) (λz=>⟨.ref a,H,I,rfl,q1 (r2.nil_iff.mp z)⟩) (λz=>?_) (by rw [<- r1.length,<- r2.length];exact hz);refine ⟨.ref s.heap.objs.size,_,I.laid (t':=s.toks) (o:= .tup (xs++ys)) (λb ob q=>yW _ q) (yP _) ?_,rfl,q2 (λw=>z (r2.nil_iff.mpr w)) _ (I.tI.fresh (yP _))⟩;exact ⟨by rw [yV];exact hz,_,r1.append r2,IsTup.new _ _⟩
end
def ixN (n:Nat)(i:Int):Option Nat:=if 0<=i then (if i<n then some i.toNat else none) else if -(n:Int)<=i then some (i+n).toNat else none
def atI {α:Type}(xs:List α)(i:Int):Option α:=(ixN xs.length i).bind λj=>xs[j]?
def BO {i:Int}(h:ixN n i=some j):seqIndex? i n=some j/\j<n/\-(n:Int)<=i/\i<n:=by
 unfold ixN at h;by_cases h0:0<=i
 .rw [rB h0] at h;by_cases h1:i<n
  .rw [rB h1] at h;have e:i.toNat=j:=Option.some.inj h;exact ⟨by rw [seqIndex_of h0 h1,e],by omega,by omega,h1⟩
  .rw [rq h1] at h;cases h
 .rw [rq h0] at h;by_cases h1:-(n:Int)<=i
  .rw [rB h1] at h;have e:(i+n).toNat=j:=Option.some.inj h;exact ⟨by rw [seqIndex_neg (by omega) h1,e],by omega,h1,by omega⟩
  .rw [rq h1] at h;cases h
def Vy {xs:List α}{i:Int}{v:α}(h:atI xs i=some v):∃ j,seqIndex? i xs.length=some j/\xs[j]?=some v/\j<xs.length/\-(xs.length:Int)<=i/\i<xs.length:=by
 unfold atI at h;cases e:ixN xs.length i with
 |none=>rw [e] at h;cases h
 |some j=>rw [e] at h;obtain ⟨h1,h2,h3,h4⟩:=BO e;exact ⟨j,h1,h,h2,h3,h4⟩
def zy {xs:List α}{v:α}(h:xs[j]?=some v):atI xs (j:Int)=some v:=by
 have hj:j<xs.length:=(yK.mp h).1;have e:ixN xs.length (j:Int)=some j:=by unfold ixN;rw [rB (by omega),rB (by omega)];simp
 unfold atI;rw [e];exact h
def Gf (b:Expr):Prop:=∀ o i,subscripted b false o i=operate [o,i] (getItem o i)
def IxR (X:Cx)(r:R2):Prop :=
 ∀(value slice:Expr)(tN:C4)(s:G2)(σ:St)(H:Hp)(x y:V)(v u:G1)(Q:VK),sS X tN σ H s->sO x v->sO y u->r x y H Q ->
  subscripted slice false v u=operate [v,u] (getItem v u)->wpAny (model X.rD X.w) X.A (subscriptTail value slice v u) (EP X tN σ Q) X.xe s
def MtR (X:Cx)(id:String)(r:AN):Prop :=
 ∀(tN:C4)(s:G2)(σ:St)(H:Hp)(x:V)(xs:EB)(v:G1)(us:C8)(Q:VK),sS X tN σ H s->sO x v->sP xs us->r x xs H Q ->
  wpAny (model X.rD X.w) X.A (call (.builtin id) (v::us)) (EP X tN σ Q) X.xe s
section
variable {X:Cx}{a b:Expr}{ta tb:TE}{pos:Pos}
def IxR.or {r':R2}(h:IxR X r)(h':IxR X r'):IxR X (λx y H Q=>r x y H Q∨r' x y H Q):=by
 intro value slice tN s σ H x y v u Q I rx ry q hs;rcases q with q|q
 .exact h value slice tN s σ H x y v u Q I rx ry q hs
 .exact h' value slice tN s σ H x y v u Q I rx ry q hs
def JZ (hr:IxR X r)(ha:PE X a ta)(hb:PE X b tb)(hs:Gf b):PE X (.Subscript a b pos) (tOp r ta tb):=by intro tN s σ H Q I h;exact Subscript_ (binT ha hb I h λv u s2 x y H2 I2 rx ry q=>hr a b tN s2 σ H2 x y v u Q I2 rx ry q (hs _ _))
def rIxL (K:Fg):R2:=λx y H Q=>∃ p xs i v,x = .ref p/\y = .int i/\sK K H p xs/\atI xs i=some v/\Q v H
def rIxT (K:Fg):R2:=λx y H Q=>∃ p xs i v,x = .ref p/\y = .int i/\sD K H p xs/\atI xs i=some v/\Q v H
def rIxS:R2:=λx y H Q=>∃ z i c,x = .str z/\y = .int i/\z.length<=sizeLine/\atI z.cps.toList i=some c/\Q (.str ⟨#[c]⟩) H
def ix_list:IxR X (rIxL X.K):=by
 intro value slice tN s σ H x y v u Q I rx ry h hs;obtain ⟨p,xs,i,z,rfl,rfl,hq,he,q⟩:=h;cases rx;obtain ⟨t,rfl⟩:=ry;obtain ⟨its,r,pl,hz⟩:=I.list hq;obtain ⟨j,h1,h2,h3,h4,h5⟩:=Vy he;obtain ⟨w,ew,rw'⟩:=r.get h2;have hl:=r.length;have hn:=wB;have fin:EP X tN σ Q w s:=⟨z,H,I,rw',q⟩;by_cases h0:0<=i
 .have hj:i.toNat=j:=by rw [seqIndex_of h0 h5] at h1;exact Option.some.inj h1
  exact item_listR pl.isList h0 (by omega) (by rw [hj];simpa using ew) fin hs
 .have hj:(i+(its.toArray.size:Int)).toNat=j:=by rw [seqIndex_neg (by omega) h4] at h1;rw [yT,<- hl];exact Option.some.inj h1
  exact subscriptTail_builtinR (x:=w) pl.isList.typeIs slot_list_getitem.lookup
   (wpAny_getItem_list_neg (Q:=λr s'=>r=w/\EP X tN σ Q r s') pl.isList (by omega) (by rw [yT]<;>omega) (by omega) (by rw [hj];simpa using ew) ⟨rfl,fin⟩) hs
def ix_tup:IxR X (rIxT X.K):=by
 intro value slice tN s σ H x y v u Q I rx ry h hs;obtain ⟨p,xs,i,z,rfl,rfl,hq,he,q⟩:=h;cases rx;obtain ⟨t,rfl⟩:=ry;obtain ⟨its,r,pl,hz⟩:=I.tuple hq;obtain ⟨j,h1,h2,h3,h4,h5⟩:=Vy he;obtain ⟨w,ew,rw'⟩:=r.get h2;have hl:=r.length;have hn:=wB;have fin:EP X tN σ Q w s:=⟨z,H,I,rw',q⟩;exact subscriptTail_builtinR (x:=w) pl.typeIs slot_tuple_getitem.lookup
  (getItem_tuple (j:=j) (Q:=λr s'=>r=w/\EP X tN σ Q r s') pl (by omega) (by omega) (by rw [yT,<- hl];exact h1) (by simpa using ew) ⟨rfl,fin⟩) hs
def Hf:IxR X rIxS:=by
 intro value slice tN s σ H x y v u Q I rx ry h hs;obtain ⟨z,i,c,rfl,rfl,hz,he,q⟩:=h;obtain ⟨t,rfl⟩:=rx;obtain ⟨t',rfl⟩:=ry;obtain ⟨j,h1,h2,h3,h4,h5⟩:=Vy he;have hl:z.cps.toList.length=z.length:=by simp [Str.length]
 rw [hl] at h1 h4 h5;have hn:=wB;exact tail_any (typeIs_str s z t) slot_str_getitem.lookup (getItem_str (c:=c) (by
  have e1:decide (i < -(2 ^ 63:Int))=false:=yA (by omega);have e2:decide (i >= 2 ^ 63)=false:=yA (by omega);rw [e1,e2,Bool.or_false]) (by rw [h1];simpa using h2) ⟨.str ⟨#[c]⟩,H,I.tok _,⟨_,rfl⟩,q⟩) hs
def rIx (K:Fg):R2:=λx y H Q=>rIxL K x y H Q∨rIxT K x y H Q∨rIxS x y H Q
def NZ:IxR X (rIx X.K):=ix_list.or (ix_tup.or Hf)
def HR (its:C8)(n j:Nat)(u:G1):Obj.mapSeq (·.setIfInBounds j u) { cls:= .type "list",data:= .seq its.toArray n }={ cls:= .type "list",data:= .seq (its.set j u).toArray n }:=by simp [Obj.mapSeq]
def sS.lst {tN:C4}{σ:St}{H:Hp}{s:G2}{p:Addr}{xs:EB}(I:sS X tN σ H s)(h:H p=some (.lst xs)):∃ (its:C8) (n:Nat),sP xs its/\s.heap.get? p=some { cls:= .type "list",data:= .seq its.toArray n }/\xs.length<=sizeLine:=by obtain ⟨z,its,n,r,e⟩:=I.tI p _ h;exact ⟨its,n,r,e,z⟩
def sS.lstUpd {p:Addr}{xs:EB}{n':Nat}{f:Obj->Obj}(I:sS X tN σ H s)(h:H p=some (.lst xs))(ho:s.heap.get? p=some { cls:= .type "list",data:= .seq its.toArray n })(hf:f { cls:= .type "list",data:= .seq its.toArray n }={ cls:= .type "list",data:= .seq its'.toArray n' })(r:sP ys its')(hz:ys.length<=sizeLine)(t:Nat):sS X tN σ (z9 H p (.lst ys)) { s with heap:=s.heap.update p f,toks:=t }:=by
 have e:(s.heap.update p f).get? p=some { cls:= .type "list",data:= .seq its'.toArray n' }:=by rw [uI f ho (by rw [hf]<;>rfl),hf]
 refine I.write (x:=p) (e:=p) (by rw [h];trivial) (.inl rfl) (λb u hb q=>(ym _ _ (Ne.symm hb)).trans q) ⟨_,e⟩ ?_;exact ⟨hz,its',n',r,e⟩
def rSetL:V->V->V->Hp->(Hp->Prop)->Prop:=λo i v H Q=>∃ p xs k j,o = .ref p/\i = .int k/\H p=some (.lst xs)/\ixN xs.length k=some j/\Q (z9 H p (.lst (xs.set j v)))
def Fz:PSet X rSetL:=by
 intro tN s σ H o i v ov iv u Q I ro ri rv h;obtain ⟨p,xs,k,j,rfl,rfl,hp,hj,q⟩:=h;cases ro;obtain ⟨t,rfl⟩:=ri;obtain ⟨its,n,r,ho,hz⟩:=I.lst hp;obtain ⟨h1,h2,h3,h4⟩:=BO hj;have hl:=r.length;have hn:=wB;have I':sS X tN σ (z9 H p (.lst (xs.set j v))) { s with heap:=s.heap.update p (Obj.mapSeq (·.setIfInBounds j u)) } :=
  I.lstUpd hp ho (HR its n j u) (r.set rv j) (by rw [yc];exact hz) s.toks
 by_cases h0:0<=k
 .have hk:k.toNat=j:=by rw [seqIndex_of h0 h4] at h1;exact Option.some.inj h1
  exact PySem.W.ki_setAt ho h0 (by omega) (by rw [yT,<- hl];exact h4) (by rw [hk];exact ⟨_,I',q⟩)
 .have hk:(k+(its.toArray.size:Int)).toNat=j:=by rw [seqIndex_neg (by omega) h3] at h1;rw [yT,<- hl];exact Option.some.inj h1
  exact PySem.W.ki_setBack ho (by omega) (by rw [yT,<- hl];exact h3) (by omega) (by rw [hk];exact ⟨_,I',q⟩)
def FF (lo hi:EV)(n:Nat):(sliceBounds lo hi none n).1=((HT.sIx n 0 lo:Nat):Int)/\(sliceBounds lo hi none n).2.1=((HT.sIx n n hi:Nat):Int)/\(sliceBounds lo hi none n).2.2=1:=by
 refine ⟨?_,?_,rfl⟩
 .cases lo with
  |none=>simp [sliceBounds,HT.sIx]
  |some i =>
   simp only [sliceBounds,HT.sIx,tQ,show (1:Int) > 0 by decide,if_true];by_cases h:i<0
   .simp only [h,if_true]<;>omega
   .simp only [h,if_false]<;>omega
 .cases hi with
  |none=>simp [sliceBounds,HT.sIx]
  |some i =>
   simp only [sliceBounds,HT.sIx,tQ,show (1:Int) > 0 by decide,if_true];by_cases h:i<0
   .simp only [h,if_true]<;>omega
   .simp only [h,if_false]<;>omega
def FE (its:C8)(lo hi:EV):slicePick its.toArray lo hi none=((its.drop (HT.sIx its.length 0 lo)).take (HT.sIx its.length its.length hi-HT.sIx its.length 0 lo)).toArray:=by obtain ⟨h1,h2,h3⟩:=FF lo hi its.toArray.size;unfold slicePick;rw [h1,h2,h3];simp only [sliceRange_one,pick_run,yT]<;>rfl
def rSlL (K:Fg):V->EV->EV->Hp->VK->Prop:=λx lo hi H Q=>∃ a xs,x = .ref a/\sK K H a xs/\∀ p,H p=none->Q (.ref p) (z9 H p (.lst (Qs xs lo hi)))
def FD:SlR X (rSlL X.K):=by intro tN s σ H x v vl vu lo hi sl Q I rx hs pl pu h;obtain ⟨a,xs,rfl,hx,q⟩:=h;cases rx;obtain ⟨its,r,ht,hz⟩:=I.list hx;have hlen:=r.length;refine ⟨"list",_,slot_list_getitem.lookup,ht.isList.typeIs,?_⟩;refine wpAny_getItem_list_slice ht.isList hs pl pu .none (by simp) ?_ (by rw [yT]<;>omega);rw [FE,<- hlen];refine ⟨.ref s.heap.objs.size,_,I.laid (t':=s.toks) (o:= .lst (Qs xs lo hi)) (λb ob q=>yW _ q) (yP _) ?_,rfl,q _ (I.tI.fresh (yP _))⟩;exact ⟨yj (LA xs lo hi) hz,_,0,(r.drop (HT.sIx xs.length 0 lo)).take (HT.sIx xs.length xs.length hi-HT.sIx xs.length 0 lo),yz _ rfl⟩
def p5:V->Bool
 | .non=>true
 | .bl _=>true
 | .int _=>true
 | .str _=>true
 |_=>false
def ql:V->V->Bool
 | .non,.non=>true
 | .bl a,.bl b=>a==b
 | .bl a,.int b=>(if a then 1 else 0)==b
 | .int a,.bl b=>a==(if b then 1 else 0)
 | .int a,.int b=>a==b
 | .str a,.str b=>a==b
 |_,_=>false
def VS (ry:sO y u)(rx:sO x v)(fy:p5 y=true)(fx:p5 x=true):SeqAt.EqAt A s u v (ql y x):=by
 cases y with
 |non =>
  cases ry;cases x with
  |non=>cases rx;exact SeqAt.EqAt.same _
  |bl b=>cases rx;exact SeqAt.EqAt.none_bool b
  |int b=>obtain ⟨t,rfl⟩:=rx;exact SeqAt.EqAt.none_int b t
  |str b=>obtain ⟨t,rfl⟩:=rx;exact SeqAt.EqAt.none_str b t
  |_=>exact rp (show false=true from fx) yQ
 |bl a =>
  cases ry;cases x with
  |non=>cases rx;exact SeqAt.EqAt.bool_none a
  |bl b=>cases rx;exact SeqAt.EqAt.bool_bool a b
  |int b=>obtain ⟨t,rfl⟩:=rx;exact SeqAt.EqAt.bool_int a b t
  |str b=>obtain ⟨t,rfl⟩:=rx;exact SeqAt.EqAt.bool_str a b t
  |_=>exact rp (show false=true from fx) yQ
 |int a =>
  obtain ⟨t',rfl⟩:=ry;cases x with
  |non=>cases rx;exact SeqAt.EqAt.int_none a t'
  |bl b=>cases rx;exact SeqAt.EqAt.int_bool a t' b
  |int b=>obtain ⟨t,rfl⟩:=rx;exact SeqAt.EqAt.int_int a t' b t
  |str b=>obtain ⟨t,rfl⟩:=rx;exact SeqAt.EqAt.int_str a t' b t
  |_=>exact rp (show false=true from fx) yQ
 |str a =>
  obtain ⟨t',rfl⟩:=ry;cases x with
  |non=>cases rx;exact SeqAt.EqAt.str_none a t'
  |bl b=>cases rx;exact SeqAt.EqAt.str_bool a t' b
  |int b=>obtain ⟨t,rfl⟩:=rx;exact SeqAt.EqAt.str_int a t' b t
  |str b=>obtain ⟨t,rfl⟩:=rx;exact SeqAt.EqAt.str_str a t' b t
  |_=>exact rp (show false=true from fx) yQ
 |_=>exact rp (show false=true from fy) yQ
def eqU (x:V)(u:G1):Bool:=match u with
 | .none=>ql .non x
 | .bool b=>ql (.bl b) x
 | .int i _=>ql (.int i) x
 | .str z _=>ql (.str z) x
 |_=>false
def Bp (r:sO y u)(f:p5 y=true):eqU x u=ql y x:=by
 cases y with
 |non=>cases r;rfl
 |bl b=>cases r;rfl
 |int i=>obtain ⟨t,rfl⟩:=r;rfl
 |str z=>obtain ⟨t,rfl⟩:=r;rfl
 |_=>exact rp (show false=true from f) yQ
theorem Vw {x:V}:∀{xs:EB}{us:C8},sP xs us->xs.all p5=true->us.any (eqU x)=xs.any λy=>ql y x
 |_,_,.nil,_=>rfl
 |y::xs,u::us,.cons r t,f=>by
  rw [List.all_cons,yg] at f;rw [ph,ph,Bp r f.1,Vw t f.2]
theorem Ww {A:G4}{s:G2}{x:V}{v:G1}(rx:sO x v)(fx:p5 x=true):∀{xs:EB}{us:C8},sP xs us->xs.all p5=true->∀ u∈us,SeqAt.EqAt A s u v (eqU x u)
 |_,_,.nil,_=>λu hu=>by cases hu
 |y::xs,u::us,.cons r t,f=>λu' hu=>by
  rw [List.all_cons,yg] at f;rcases yL.mp hu with rfl|hu
  .rw [Bp r f.1];exact VS r rx f.1 fx
  .exact Ww rx fx t f.2 u' hu
def inV (x:V)(xs:EB):Bool:=xs.any λy=>ql y x
def rIn (K:Fg)(neg:Bool):R2:=λx y H Q=>∃ p xs,y = .ref p/\(sK K H p xs∨sD K H p xs)/\p5 x=true/\xs.all p5=true/\Q (.bl (if neg then !inV x xs else inV x xs)) H
def PM:OpR X (compareOp .In) (rIn X.K false):=by
 intro tN s σ H x y v u Q I rx ry h;obtain ⟨p,xs,rfl,hq,fx,fs,q⟩:=h;cases ry;rcases hq with hq|hq
 .obtain ⟨its,r,pl,hz⟩:=I.list hq;refine SeqAt.in_listAt (eqU x) pl.isList (λw hw=>Ww rx fx r fs w (by simpa using hw)) ⟨.bl _,H,I,rfl,?_⟩;rw [show its.toArray.any (eqU x)=its.any (eqU x) by simp,Vw r fs];exact q
 .obtain ⟨its,r,pl,hz⟩:=I.tuple hq;refine SeqAt.in_tupleAt (eqU x) pl (λw hw=>Ww rx fx r fs w (by simpa using hw)) ⟨.bl _,H,I,rfl,?_⟩;rw [show its.toArray.any (eqU x)=its.any (eqU x) by simp,Vw r fs];exact q
def Le:sI X (.builtin "len") (λxs H Q=>∃ p ys,xs=[.ref p]/\(sK X.K H p ys∨sD X.K H p ys)/\Q (.int ys.length) H):=by
 intro tN s σ H xs us Q I r h;obtain ⟨p,ys,rfl,hq,q⟩:=h;obtain ⟨u,rfl,rx⟩:=zk r;cases rx;have hn:=wB;rcases hq with hq|hq
 .obtain ⟨its,r',pl,hz⟩:=I.list hq;have hlen:=r'.length;exact Calls.call_len_list pl.isList (by simp only [yT]<;>omega) ⟨.int ys.length,H,I.tok _,⟨s.toks+1,by rw [yT,hlen]⟩,q⟩
 .obtain ⟨its,r',pl,hz⟩:=I.tuple hq;have hlen:=r'.length;exact len_tuple pl (by simp only [yT]<;>omega) ⟨.int ys.length,H,I.tok _,⟨s.toks+1,by rw [yT,hlen]⟩,q⟩
def sI.or {f:G1}{r r':AG}(h:sI X f r)(h':sI X f r'):sI X f (λxs H Q=>r xs H Q∨r' xs H Q):=by
 intro tN s σ H xs us Q I rs q;rcases q with q|q
 .exact h tN s σ H xs us Q I rs q
 .exact h' tN s σ H xs us Q I rs q
def Lf:sI X (.type "list") (λxs H Q=>∃ p ys,xs=[.ref p]/\(sK X.K H p ys∨sD X.K H p ys)/\∀ l,H l=none->Q (.ref l) (z9 H l (.lst ys))):=by
 intro tN s σ H xs us Q I r h;obtain ⟨p,ys,rfl,hq,q⟩:=h;obtain ⟨u,rfl,rx⟩:=zk r;cases rx;have fin:∀(its:C8),sP ys its->ys.length<=sizeLine->∀(h':Heap)(c':Nat),(∀ b o',s.heap.get? b=some o'->h'.get? b=some o') ->
   h'.get? s.heap.objs.size=some { cls:= .type "list",dict:=none,data:= .seq its.toArray c',slots:=#[] }->EP X tN σ Q (.ref s.heap.objs.size) { s with heap:=h' }:=λits r' hz h' c' kp e =>
  ⟨.ref s.heap.objs.size,_,I.laid (t':=s.toks) kp (yP _) (show sJ X.rD X.w _ h' _ (.lst ys) from ⟨hz,its,c',r',e⟩),rfl,q _ (I.tI.fresh (yP _))⟩
 rcases hq with hq|hq
 .obtain ⟨its,r',pl,hz⟩:=I.list hq;have hlen:=r'.length;obtain ⟨o,ho,hc,n,hd⟩:=pl.isList;exact call_list_seq p (.inl rfl) ho hc hd (λh' c' kp e=>fin its r' hz h' c' kp e) (by simp only [yT]<;>omega)
 .obtain ⟨its,r',pl,hz⟩:=I.tuple hq;have hlen:=r'.length;obtain ⟨o,ho,hc,n,hd⟩:=pl;exact call_list_seq p (.inr rfl) ho hc hd (λh' c' kp e=>fin its r' hz h' c' kp e) (by simp only [yT]<;>omega)
def tyV (K:Fg)(T:String)(x:V)(H:Hp):Prop:=match x with
 | .str _=>T = "str"
 | .int _=>T = "int"
 | .ref p=>(T = "list"/\∃ xs,sK K H p xs)∨(T = "tuple"/\∃ o,K.lookup p=some o/\o.cls = .type "tuple"/\o.dict=none) ∨
   (T = "dict"/\((∃ kvs,H p=some (.dK kvs))∨∃ kvs,H p=some (.dT kvs)))∨(T = "set"/\∃ S n,H p=some (.set S n))
 |_=>False
def On (I:sS X tN σ H s)(r:sO x v)(ty:tyV X.K T x H):s.TypeIs v T/\∀ a,v = .ref a->∃ ob,s.heap.get? a=some ob/\ob.dict=none:=by
 cases x with
 |str z=>obtain ⟨t,rfl⟩:=r;cases (show T = "str" from ty);exact ⟨typeIs_str s z t,λ_ e=>nomatch e⟩
 |int i=>obtain ⟨t,rfl⟩:=r;cases (show T = "int" from ty);exact ⟨typeIs_int s i t,λ_ e=>nomatch e⟩
 |ref p =>
  cases r;rcases ty with ⟨rfl,xs,hq⟩|⟨rfl,o,hk,hc,hd⟩|⟨rfl,hk⟩|⟨rfl,S,n,hk⟩
  .obtain ⟨its,_,pl,_⟩:=I.list hq;refine ⟨pl.isList.typeIs,λa e=>?_⟩;cases e;obtain ⟨o,n,e,c,hd,_⟩:=pl;exact ⟨o,e,hd⟩
  .refine ⟨⟨o,I.kIn p o hk,hc⟩,λa e=>?_⟩;cases e;exact ⟨o,I.kIn _ o hk,hd⟩
  .have z:∃ o,s.heap.get? p=some o/\o.ExactDict:=by
    rcases hk with ⟨kvs,hk⟩|⟨kvs,hk⟩
    ·obtain ⟨_,_,_,_,o,_,_,e,ex,_⟩:=I.tI p _ hk;exact ⟨o,e,ex⟩
    ·obtain ⟨_,_,_,_,o,_,_,e,ex,_⟩:=I.tI p _ hk;exact ⟨o,e,ex⟩
   obtain ⟨o,e,ex⟩:=z;refine ⟨⟨o,e,ex.1⟩,λa e2=>?_⟩;cases e2;exact ⟨o,e,ex.2.1⟩
  .obtain ⟨o,_,_,_,e,ex,_⟩:=I.tI p _ hk;refine ⟨⟨o,e,ex.1⟩,λa e2=>?_⟩;cases e2;exact ⟨o,e,ex.2.1⟩
 |_=>exact False.elim ty
def tBM (K:Fg)(T:String)(r:AN)(to:TE)(t:TA):TE:=λσ H Q=>to σ H λx H1=>tyV K T x H1/\t σ H1 λxs H2=>r x xs H2 Q
variable {o e:Expr}{es:EN}{to:TE}{t:TA}{name:Str}{apos cpos:Pos}{T id:String}{r:AN}
def pe_bm (pa:PlainAttrs T)(slot:Slot T name id)(hty:typeOf (.builtin id)=pure (.type "method_descriptor"))(hm:MtR X id r)(ho:PE X o to)(ha:PA X (e::es) t)(hbase:attributeBase o name X.rC (eval o X.rC)=eval o X.rC:=by rfl)(hfew:((backTo cpos (starEach (e::es) X.rC)).all (λx=>!x.1)&&(backToKw cpos (keywordEach [] X.rC)).all (λx=>x.1.isSome)&&decide ((e::es).length+([]:List Keyword).length+(if ([]:List Keyword).isEmpty then 0 else 1)<30))=true:=by rfl)(hline:(apos.endLine==cpos.line)=true:=by rfl)(hs:starEach (e::es) X.rC=(false,eval e X.rC)::starEach es X.rC:=by rfl)(hplain:(backTo cpos (starEach es X.rC)).any (·.1)=false:=by rfl):PE X (.Call (.Attribute o name apos) (e::es) [] cpos) (tBM X.K T r to t):=by intro tN s σ H Q I h;refine wpAny_Call_method_late hbase hfew hline rfl (j7 (ho tN s σ H _ I h) λv s1 ⟨x,H1,I1,r1,ty,q1⟩=>?_);obtain ⟨h1,h2⟩:=On I1 r1 ty;refine ⟨T,id,pa,slot,hty,h1,h2,?_⟩;have hA:=ha cpos tN s1 σ H1 _ I1 q1;rw [hs] at hA ⊢;refine Calls.callWith_builtin (by show (false || (backTo cpos (starEach es X.rC)).any (·.1))=false;rw [hplain]<;>rfl) (Calls.evalArgs_plain ?_);exact j7 hA λus s2 ⟨vs,H2,I2,r2,q2⟩=>hm tN s2 σ H2 x vs v us Q I2 r1 r2 q2
end
def MtM (X:Cx)(id:String)(r:AN):Prop :=
 ∀(tN:C4)(s:G2)(σ:St)(H:Hp)(x:V)(xs:EB)(v:G1)(us:C8)(Q:VK),sS X tN σ H s->sO x v->sP xs us->r x xs H Q ->
  wpAny (model X.rD X.w) X.A (call (.builtin id) (v::us)) (EP X tN σ Q) X.xe s
def sP.one:∀{x:V}{us:C8},sP [x] us->∃ u,us=[u]/\sO x u
 |_,_,.cons r .nil=>⟨_,rfl,r⟩
def sP.two:∀{x y:V}{us:C8},sP [x,y] us->∃ u v,us=[u,v]/\sO x u/\sO y v
 |_,_,_,.cons r (.cons q .nil)=>⟨_,_,rfl,r,q⟩
theorem sP.eraseIdx:∀{xs:EB}{us:C8}(i:Nat),sP xs us->sP (xs.eraseIdx i) (us.eraseIdx i)
 |_,_,_,.nil=> .nil
 |_,_,0,.cons _ t=>t
 |_,_,i+1,.cons r t=> .cons r (sP.eraseIdx i t)
theorem sP.rep {xs:EB}{us:C8}(h:sP xs us):∀ k:Nat,sP (List.replicate k xs).flatten (List.replicate k us).flatten
 |0=> .nil
 |k+1=>by
  rw [uw,uw,yq,yq];exact sP.append h (sP.rep h k)
theorem BY {α:Type}:∀(l:List α)(i:Nat),(l.eraseIdx i).length<=l.length
 |[],_=>yP _
 |_::_,0=>uh _
 |_::r,i+1=>Nat.succ_le_succ (BY r i)
theorem BB (its:C8):∀(k:Nat)(acc:C8), List.foldl (λx1 x2=>x1++x2) acc.toArray (List.replicate k its.toArray)=(acc++(List.replicate k its).flatten).toArray
 |0,acc=>by simp
 |k+1,acc=>by
  have e:acc.toArray++its.toArray=(acc++its).toArray:=by simp
  have e2:(acc++its)++(List.replicate k its).flatten=acc++(List.replicate (k+1) its).flatten:=by rw [uw,yq,uW]
  rw [<- e2,<- BB its k (acc++its),<- e,uw,List.foldl_cons]
section
variable{xs:EB}
def sS.lset {f:C2}(I:sS X tN σ H s)(hH:H l=some (.lst xs))(e:s.heap.get? l=some { cls:= .type "list",data:= .seq its.toArray n })(hf:f its.toArray=its'.toArray)(hv:sP ys its')(hz:ys.length<=sizeLine):sS X tN σ (z9 H l (.lst ys)) { s with heap:=s.heap.update l (Obj.mapSeq f),toks:=t' }:=by have q:=PySem.IsL.update e f;rw [hf] at q;refine I.write (x:=l) (e:=l) (by rw [hH];exact trivial) (.inl rfl) (λb' u hb hu=>(ym s.heap (Obj.mapSeq f) (Ne.symm hb)).trans hu) ⟨_,q⟩ ?_;exact ⟨hz,its',_,hv,q⟩
def sS.lnew (I:sS X tN σ H s)(hv:sP ys its)(hz:ys.length<=sizeLine):sS X tN σ (z9 H s.heap.objs.size (.lst ys)) { s with heap:=s.heap.push { cls:= .type "list",data:= .seq its.toArray },toks:=t' } :=
 I.laid (λ_ _ q=>yW _ q) (yP _) ⟨hz,its,0,hv,yz _ rfl⟩
def sS.fresh (I:sS X tN σ H s):H s.heap.objs.size=none:=I.tI.fresh (yP _)
def sS.lstM (I:sS X tN σ H s)(hH:H l=some (.lst xs)):xs.length<=sizeLine/\∃ (its:C8) (n:Nat),sP xs its/\xs.length=its.length/\s.heap.get? l=some { cls:= .type "list",data:= .seq its.toArray n }:=by obtain ⟨z,its,n,r,e⟩:=I.tI l _ hH;exact ⟨z,its,n,r,r.length,e⟩
def Rj (h:n<=sizeLine):Builtin.List.listTooLong n=false:=by unfold Builtin.List.listTooLong;exact yA (by omega)
end
def Vh:V->EB->Hp->VK->Prop:=λx vs H Q=>∃ l xs y,x = .ref l/\vs=[y]/\H l=some (.lst xs)/\xs.length<sizeLine/\Q .non (z9 H l (.lst (xs++[y])))
def zT:MtM X "list.append" Vh:=by intro tN s σ H x vs v us Q I rx rv h;obtain ⟨l,xs,y,rfl,rfl,hH,hz,q⟩:=h;cases rx;obtain ⟨u,rfl,ru⟩:=rv.one;obtain ⟨z,its,n,r,hl,e⟩:=I.lstM hH;refine call_meets F.slot_list_append ⟨_,e,rfl⟩ F.entry_list_append (F.args_list_append_2 _ _) (PySem.list_append l its.toArray n u (by rw [yT];omega)) ⟨e,?_⟩;refine ⟨.non,_,I.lset (its':=its++[u]) hH e (by simp) (r.append (.cons ru .nil)) ?_,rfl,q⟩;rw [yV,uC];omega
def Cs:V->EB->Hp->VK->Prop:=λx vs H Q=>∃ l xs i k y,x = .ref l/\vs=[.int i]/\H l=some (.lst xs)/\-(2 ^ 63)<=i/\i<2 ^ 63/\seqIndex? i xs.length=some k/\xs[k]?=some y/\Q y (z9 H l (.lst (xs.eraseIdx k)))
def Pq:MtM X "list.pop" Cs:=by
 intro tN s σ H x vs v us Q I rx rv h;obtain ⟨l,xs,i,k,y,rfl,rfl,hH,h1,h2,hk,hy,q⟩:=h;cases rx;obtain ⟨u,rfl,ru⟩:=rv.one;obtain ⟨t,rfl⟩:=ru;obtain ⟨z,its,n,r,hl,e⟩:=I.lstM hH;obtain ⟨w,hw,rw'⟩:=r.get hy;refine call_meets F.slot_list_pop ⟨_,e,rfl⟩ F.entry_list_pop (F.args_list_pop_2 _ _)
  (MeetsSeq.list_pop_at l its.toArray n i t k w (fitsIndex_both h1 h2) (by rw [yT,<- hl];exact hk) (by rw [<- tR];exact hw) (by rw [yT];omega)) ⟨e,?_⟩
 refine ⟨y,_,I.lset (its':=its.eraseIdx k) hH e ?_ (r.eraseIdx k) ?_,rw',q⟩
 .show its.toArray.eraseIdxIfInBounds k=(its.eraseIdx k).toArray;rw [List.eraseIdxIfInBounds_toArray]
 .have:=BY xs k;omega
def rRep:R2:=λx y H Q=>∃ l k xs,x = .ref l/\y = .int k/\H l=some (.lst xs)/\-(2 ^ 63)<=k/\k<2 ^ 63/\xs.length*k.toNat<=sizeLine /\
 ∀ p,H p=none->Q (.ref p) (z9 H p (.lst (List.replicate k.toNat xs).flatten))
def HE (xs:List α)(k:Nat):(List.replicate k xs).flatten.length=k*xs.length:=by
 induction k with
 |zero=>simp
 |succ k ih=>rw [uw,yq,yV,ih,Nat.succ_mul,Nat.add_comm]
def PQ:OpR X (binaryOp .Mult) rRep:=by
 intro tN s σ H x y v u Q I rx ry h;obtain ⟨l,k,xs,rfl,rfl,hH,h1,h2,hz,q⟩:=h;cases rx;obtain ⟨t,rfl⟩:=ry;obtain ⟨z,its,n,r,hl,e⟩:=I.lstM hH;have hlen:its.toArray.size*k.toNat<=sizeLine:=by rw [yT,<- hl];exact hz
 have hcap:¬ its.toArray.size*k.toNat > (2 ^ 63-1) / 8:=by
  have:(sizeLine:Nat)<=(2 ^ 63-1) / 8:=by decide
  omega
 have hfit:¬ (!Builtin.List.listFitsIndex k)=true:=by rw [fitsIndex_both h1 h2];exact yQ
 have hlong:¬ Builtin.List.listTooLong (its.toArray.size*k.toNat)=true:=by rw [Rj hlen];exact yQ
 have hnew:List.foldl (λx1 x2=>x1++x2) #[] (List.replicate (if its.toArray.isEmpty=true then 0 else k.toNat) its.toArray)=(List.replicate k.toNat its).flatten.toArray:=by
  have f0:∀ m:Nat,List.foldl (λx1 x2=>x1++x2) #[] (List.replicate m its.toArray)=(List.replicate m its).flatten.toArray:=λm=>by
   have:=BB its m [];rw [List.nil_append] at this;exact this
  rw [f0];cases its with
  |nil=>simp
  |cons a r'=>rw [rq (by simp)]
 refine wpAny_binaryOp_repeat_ref (T:="list") (U:="int") (by decide) ⟨_,e,rfl⟩ (λs'=>typeIs_int s' k t) noFill_list_mul F.fills_int_mul F.slot_int_rmul repeat_list F.slot_int_index.lookup
  (call_meets F.slot_int_rmul (typeIs_int s k t) F.entry_int_rmul (F.args_int_rmul_2 _ _) (int___rmul___int_list k t l its.toArray n)
   ⟨e,rfl,⟨_,e,rfl⟩,call_meets F.slot_list_mul ⟨_,e,rfl⟩ F.entry_list_mul (F.args_list_mul_2 _ _) (AutoListH.list___mul___list_int_3 l its.toArray n k t hfit hcap hlong) ⟨e,?_⟩⟩)
 rw [hnew];exact ⟨.ref _,_,I.lnew (t':=s.toks) (r.rep k.toNat) (by rw [HE,Nat.mul_comm];exact hz),rfl,q _ I.fresh⟩
section
variable[DecidableEq κ]
def qr (kvs:List (κ×V))(k:κ):EY:=(kvs.find? λkv=>decide (kv.1=k)).map (·.2)
def zX (kvs:List (κ×V))(k:κ)(v:V):List (κ×V) :=
 if (kvs.any λkv=>decide (kv.1=k))=true then kvs.map (λkv=>if kv.1=k then (kv.1,v) else kv) else kvs++[(k,v)]
def UR {p:κ×V}{r:List (κ×V)}{k:κ}(e:p.1=k):qr (p::r) k=some p.2:=by simp [qr,uy,e]
def UQ {p:κ×V}{r:List (κ×V)}{k:κ}(e:¬ p.1=k):qr (p::r) k=qr r k:=by simp [qr,uy,e]
theorem UP (k:κ):∀ kvs:List (κ×V),(kvs.any λkv=>decide (kv.1=k))=(qr kvs k).isSome
 |[]=>rfl
 |p::r=>by
  rw [ph];by_cases e:p.1=k
  .simp only [UR e,yt e,Bool.true_or,Option.isSome_some]
  .rw [UQ e,yA e,Bool.false_or];exact UP k r
def Pa (kvs:List (κ×V))(k:κ)(v:V):(zX kvs k v).length<=kvs.length+1:=by
 unfold zX;split
 .rw [yZ];omega
 .rw [yV,yJ,pb];omega
def RelO.isSome_eq {u:EW}(r:RelO o u):o.isSome=u.isSome:=by
 cases o with
 |none=>cases u with
  |none=>rfl
  |some _=>exact (show False from r).elim
 |some _=>cases u with
  |none=>exact (show False from r).elim
  |some _=>rfl
def KV.val {kvs:List (κ×V)}{vs:List (κ×G1)}(r:KV kvs vs)(k:κ):RelO (qr kvs k) (valueAt vs k):=by
 unfold KV at r
 induction r with
 |nil=>exact True.intro
 |@cons p q ps qs h t ih =>
  obtain ⟨h1,h2⟩:=h;by_cases e:p.1=k
  .have e':q.1=k:=h1.symm.trans e;have b:valueAt (q::qs) k=some q.2:=by simp [valueAt,uy,e']
   rw [UR e,b];exact h2
  .have e':¬ q.1=k:=λz=>e (h1.trans z);have b:valueAt (q::qs) k=valueAt qs k:=by simp [valueAt,uy,e']
   rw [UQ e,b];exact ih
def KV.any {kvs:List (κ×V)}{vs:List (κ×G1)}(r:KV kvs vs)(k:κ):(kvs.any λkv=>decide (kv.1=k))=vs.any λkv=>decide (kv.1=k):=by
 unfold KV at r
 induction r with
 |nil=>rfl
 |cons h t ih=>rw [ph,ph,ih,h.1]
def KV.repl {kvs:List (κ×V)}{vs:List (κ×G1)}(r:KV kvs vs)(k:κ)(ry:sO y u):KV (kvs.map λkv=>if kv.1=k then (kv.1,y) else kv) (vs.map λkv=>if kv.1=k then (kv.1,u) else kv):=by
 unfold KV at r ⊢
 induction r with
 |nil=>exact .nil
 |@cons p q ps qs h t ih =>
  rw [yH,yH];refine .cons ?_ ih;obtain ⟨h1,h2⟩:=h;by_cases e:p.1=k
  .rw [rB e,rB (h1.symm.trans e)];exact ⟨h1,ry⟩
  .rw [rq e,rq (λz=>e (h1.trans z))];exact ⟨h1,h2⟩
def KV.put {kvs:List (κ×V)}{vs:List (κ×G1)}(r:KV kvs vs)(k:κ)(ry:sO y u):KV (zX kvs k y) (stored vs k u):=by
 unfold zX stored;rw [r.any k];by_cases e:(vs.any λkv=>decide (kv.1=k))=true
 .rw [rB e,rB e];exact r.repl k ry
 .rw [rq e,rq e];exact Paired.snoc r ⟨rfl,ry⟩
def KV.length {kvs:List (κ×V)}{vs:List (κ×G1)}(r:KV kvs vs):kvs.length=vs.length:=Paired.length r
end
def Qz {k:j5}(r:sO (kV k) u):(qI P w).is k u=true:=by
 cases k with
 |inl i=>obtain ⟨t,e⟩:=(show ∃ t,u=Value.int i t from r);subst e;exact HY P w i t
 |inr x=>obtain ⟨t,e⟩:=(show ∃ t,u=Value.str x t from r);subst e;exact WB P w x t
theorem BM {P:G3}{w:G5}:∀{ks:List j5}{us:C8},sP (ks.map kV) us->ItemsAre (qI P w) ks us
 |[],_,r=>by rw [List.map_nil] at r;cases r;exact .nil
 |k::ks,_,r=>by
  rw [yH] at r;cases r with
  |cons h t=>exact .cons (Qz h) (BM t)
abbrev KT (H:Hp):List (List j5×V)->List (List j5×Addr×G1)->Prop:=Paired λp q=>p.1=q.1/\H q.2.1=some (.tup (p.1.map kV))/\sO p.2 q.2.2
def KT.val (r:KT H kvs xs)(k:List j5):RelO (qr kvs k) ((atKey xs k).map (·.2)):=by
 induction r with
 |nil=>exact True.intro
 |@cons p q ps qs h t ih =>
  obtain ⟨h1,_,h2⟩:=h;by_cases e:p.1=k
  .have e':q.1=k:=h1.symm.trans e;have b:atKey (q::qs) k=some q.2:=by simp [atKey,uy,e']
   rw [UR e,b];exact h2
  .have e':¬ q.1=k:=λz=>e (h1.trans z);have b:atKey (q::qs) k=atKey qs k:=by simp [atKey,uy,e']
   rw [UQ e,b];exact ih
def KT.repl (r:KT H kvs xs)(k:List j5)(ry:sO y u):KT H (kvs.map λkv=>if kv.1=k then (kv.1,y) else kv) (xs.map (putAt k u)):=by
 induction r with
 |nil=>exact .nil
 |@cons p q ps qs h t ih =>
  rw [yH,yH];refine .cons ?_ ih;obtain ⟨h1,h2,h3⟩:=h;unfold putAt;by_cases e:p.1=k
  .rw [rB e,rB (h1.symm.trans e)];exact ⟨h1,h2,ry⟩
  .rw [rq e,rq (λz=>e (h1.trans z))];exact ⟨h1,h2,h3⟩
def KT.put (r:KT H kvs xs)(k:List j5)(hb:H b=some (.tup (k.map kV)))(ry:sO y u):KT H (zX kvs k y) (storedH xs k b u):=by
 have e:(kvs.any λkv=>decide (kv.1=k))=(atKey xs k).isSome:=by rw [UP,(r.val k).isSome_eq,Option.isSome_map]
 unfold zX storedH;rw [e];by_cases q:(atKey xs k).isSome=true
 .rw [rB q,rB q];exact r.repl k ry
 .rw [rq q,rq q];exact Paired.snoc r ⟨rfl,hb,ry⟩
def KT.keeps (r:KT H kvs xs)(ht:∀ b ys,H b=some (.tup ys)->H' b=some (.tup ys)):KT H' kvs xs :=
 Paired.mapP r λ_ _ z=>⟨z.1,ht _ _ z.2.1,z.2.2⟩
def CC {u:HO}(ok:sE P w H h)(e:Rd H a u):sJ P w H h a u:=e.ok ok
def wq {kvs:EL}(ok:sE P w H h)(e:Rd H a (.dK kvs)):kvs.length<=sizeLine/\(a==sysModules)=false/\∃ vs,KV kvs vs/\h.DictOf (qI P w) a vs :=
 show sJ P w H h a (.dK kvs) from CC ok e
def dk_of {kvs:EL}(ok:sE P w H h)(e:H a=some (.dK kvs)):kvs.length<=sizeLine/\(a==sysModules)=false/\∃ vs,KV kvs vs/\h.DictOf (qI P w) a vs:=wq ok (.inl e)
def XN {ks:List j5}(ok:sE P w H h)(e:H a=some (.tup (ks.map kV))):(tupleKind (qI P w)).is h ks a:=by obtain ⟨_,its,r,o,h1,h2,n,h3⟩:=(show sJ P w H h a (.tup (ks.map kV)) from ok a _ e);exact ⟨o,its.toArray,n,h1,h2,h3,by simpa using BM r⟩
def XA (ok:sE P w H h)(e:Rd H a (.dT kvs)):kvs.length<=sizeLine/\(a==sysModules)=false /\ ∃ xs,KT H kvs xs/\h.DictOfH (tupleKind (qI P w)) a xs:=by
 obtain ⟨z,y,xs,r,o,es,ep,h1,h2,h3,h4,h5⟩:=(show sJ P w H h a (.dT kvs) from CC ok e);refine ⟨z,y,xs,r,o,es,ep,h1,h2,h3,h4,λx hx=>?_,h5⟩;have all:∀{l:List (List j5×V)}{m:List (List j5×Addr×G1)},KT H l m->∀ x∈m,(tupleKind (qI P w)).is h x.1 x.2.1:=by
  intro l m q
  induction q with
  |nil=>intro x hx;exact nomatch hx
  |@cons p q ps qs hq t ih =>
   intro x hx;rcases yL.mp hx with e|hx
   .subst e;exact XN ok (by rw [<- hq.1];exact hq.2.1)
   .exact ih x hx
 exact all r x hx
def dt_of (ok:sE P w H h)(e:H a=some (.dT kvs)):kvs.length<=sizeLine/\(a==sysModules)=false /\ ∃ xs,KT H kvs xs/\h.DictOfH (tupleKind (qI P w)) a xs:=XA ok (.inl e)
def DGet (H:Hp)(a:Addr)(y:V)(r:EY):Prop :=
 (∃ kvs k,Rd H a (.dK kvs)/\y=kV k/\r=qr kvs k)∨∃ kvs k b,Rd H a (.dT kvs)/\y = .ref b/\H b=some (.tup (k.map kV))/\r=qr kvs k
def DPut (H:Hp)(a:Addr)(y v:V)(H':Hp):Prop :=
 (∃ kvs k,H a=some (.dK kvs)/\y=kV k/\kvs.length<sizeLine/\H'=z9 H a (.dK (zX kvs k v))) ∨
 ∃ kvs k b,H a=some (.dT kvs)/\y = .ref b/\H b=some (.tup (k.map kV))/\kvs.length<sizeLine/\H'=z9 H a (.dT (zX kvs k v))
def DGet.k {kvs:EL}{k:j5}(e:H a=some (.dK kvs)):DGet H a (kV k) (qr kvs k):= .inl ⟨kvs,k,.inl e,rfl,rfl⟩
def DPut.k {kvs:EL}{k:j5}{v:V}(e:H a=some (.dK kvs))(hl:kvs.length<sizeLine):DPut H a (kV k) v (z9 H a (.dK (zX kvs k v))):= .inl ⟨kvs,k,e,rfl,hl,rfl⟩
section
variable{v:V}{r:G1}
def sS.big (I:sS X tN σ H s):sysModules<s.heap.objs.size:=by have h:mainGlobals<s.heap.objs.size:=(I.mod.glob.keeps I.bk).lt;exact Nat.lt_trans (by decide) h
def LG (hu:A.units+1<cLine)(I:sS X tN σ H s)(g:DGet H a y (some v))(ry:sO y u)(h:∀ w' s',sS X tN σ H s'->sO v w'->Q w' s'):wpAny (model X.rD X.w) A (getItem (.ref a) u) Q E s:=by
 rcases g with ⟨kvs,k,e,ey,l⟩|⟨kvs,k,b,e,ey,eb,l⟩
 .subst ey;obtain ⟨z,hd,vs,rel,dd⟩:=wq I.tI e;obtain ⟨w',hw,rw'⟩:=RelO.some_of (v:=v) (o:=valueAt vs k) (by rw [l];exact rel.val k);exact wpAny_getItem_of (Qz ry) dd.mapOf hw (h w' _ (I.tok _) rw')
 .subst ey;cases (show u=Value.ref b from ry);obtain ⟨z,hd,xs,rel,dd⟩:=XA I.tI e;obtain ⟨w',hw,rw'⟩:=RelO.some_of (v:=v) (o:=(atKey xs k).map (·.2)) (by rw [l];exact rel.val k);obtain ⟨p,hp,hp2⟩:=yC.mp hw;refine wpAny_getItem_heap (oW hu) (XN I.tI eb) dd hp ?_;rw [hp2];exact h w' _ (I.tok _) rw'
def d_in (hu:A.units+1<cLine)(I:sS X tN σ H s)(g:DGet H a y o)(ry:sO y u)(h:∀ s',sS X tN σ H s'->Q (.bool o.isSome) s'):wpAny (model X.rD X.w) A (compareOp .In u (.ref a)) Q E s:=by
 rcases g with ⟨kvs,k,e,ey,l⟩|⟨kvs,k,b,e,ey,eb,l⟩
 .subst ey;obtain ⟨z,hd,vs,rel,dd⟩:=wq I.tI e;refine wpAny_in_of (Qz ry) hd dd.mapOf ?_;rw [<- (rel.val k).isSome_eq,<- l];exact h _ (I.tok _)
 .subst ey;cases (show u=Value.ref b from ry);obtain ⟨z,hd,xs,rel,dd⟩:=XA I.tI e;refine wpAny_in_heap (oW hu) (XN I.tI eb) hd dd ?_;have q:=(rel.val k).isSome_eq;rw [Option.isSome_map] at q;rw [<- q,<- l];exact h _ (I.tok _)
def LH (hu:A.units+1<cLine)(I:sS X tN σ H s)(g:DGet H a y o)(ry:sO y u)(h:∀ s',sS X tN σ H s'->Q (.bool (!o.isSome)) s'):wpAny (model X.rD X.w) A (compareOp .NotIn u (.ref a)) Q E s:=by
 rcases g with ⟨kvs,k,e,ey,l⟩|⟨kvs,k,b,e,ey,eb,l⟩
 .subst ey;obtain ⟨z,hd,vs,rel,dd⟩:=wq I.tI e;refine wpAny_notIn_of (Qz ry) hd dd.mapOf ?_;rw [<- (rel.val k).isSome_eq,<- l];exact h _ (I.tok _)
 .subst ey;cases (show u=Value.ref b from ry);obtain ⟨z,hd,xs,rel,dd⟩:=XA I.tI e;refine wpAny_notIn_heap (oW hu) (XN I.tI eb) hd dd ?_;have q:=(rel.val k).isSome_eq;rw [Option.isSome_map] at q;rw [<- q,<- l];exact h _ (I.tok _)
def Bb {ob:HO}(I:sS X tN σ H s)(mu:Mut (H a))(hs:Heap.SameBut a s.heap h')(he:∃ q,h'.get? a=some q)(new:sJ X.rD X.w (z9 H a ob) h' a ob):sS X tN σ (z9 H a ob) { s with heap:=h',toks:=t' } :=
 I.write (x:=a) (e:=a) mu (.inl rfl) (λb q hb z=>(hs.2 b hb).trans z) he new
def Bf {kvs:EL}{vs:F7}(z:kvs.length<=sizeLine)(hd:(a==sysModules)=false)(rel:KV kvs vs)(dd:h'.DictOf (qI P w) a vs):sJ P w H' h' a (.dK kvs):=⟨z,hd,vs,rel,dd⟩
def LI {Q:AE}(hu:A.units+1<cLine)(I:sS X tN σ H s)(g:DPut H a y v H')(ry:sO y u)(rv:sO v r)(h:∀ s',sS X tN σ H' s'->Q () s'):wpAny (model X.rD X.w) A (setItem (.ref a) u r) Q E s:=by
 rcases g with ⟨kvs,k,e,ey,l,eH⟩|⟨kvs,k,b,e,ey,eb,l,eH⟩
 .subst ey eH;obtain ⟨z,hd,vs,rel,dd⟩:=dk_of I.tI e;have hz:vs.length<=sizeLine:=by rw [<- rel.length];exact z
  have hl:(zX kvs k v).length<=sizeLine:=by have:=Pa kvs k v;omega
  refine wpAny_setItem_pairs (hsz:=hz) (Qz ry) dd λh' dd' hs=>h _ ?_;have he:∃ q,h'.get? a=some q:=let ⟨q,_,_,hq,_⟩:=dd';⟨q,hq⟩
  exact Bb I (by rw [e];exact True.intro) hs he (Bf hl hd (rel.put k rv) dd')
 .subst ey eH;cases (show u=Value.ref b from ry);obtain ⟨z,hd,xs,rel,dd⟩:=dt_of I.tI e;have hz:xs.length<=sizeLine:=by rw [<- Paired.length rel];exact z
  have hl:(zX kvs k v).length<=sizeLine:=by have:=Pa kvs k v;omega
  refine wpAny_setItem_heap (hsz:=hz) (oW hu) (XN I.tI eb) dd λh' dd' hs=>h _ ?_;obtain ⟨q,es,ep,hq,h2,h3,h4,_,h5⟩:=dd';refine Bb I (by rw [e];exact True.intro) hs ⟨q,hq⟩ ⟨hl,hd,_,(rel.put k eb rv).keeps λc ys ec=>?_,q,es,ep,hq,h2,h3,h4,h5⟩;rw [j3 (ne_of ec e (λz=>nomatch z))];exact ec
end
section
variable{kvs:EL}{k:j5}
def d_len (I:sS X tN σ H s)(e:Rd H a (.dK kvs))(h:∀ t s',sS X tN σ H s'->Q (.int kvs.length t) s'):wpAny (model X.rD X.w) A (call (.builtin "len") [.ref a]) Q E s:=by obtain ⟨z,hd,vs,rel,dd⟩:=wq I.tI e;refine call_len_dict hd dd (by rw [<- rel.length];rw [ra] at z;omega) ?_;rw [<- rel.length];exact h _ _ (I.tok _)
end
def NoSl (i:Expr):Prop:=∀ ov iv,subscripted i false ov iv=operate [ov,iv] (getItem ov iv)
def FP {prog:G3}{env:Env}{slice:Expr}{id:String}(hl:typeLookup (.type T) "__getitem__"=pure (some (.builtin id)))(hs:NoSl slice)(h:wpAny (model prog w) A (eval value env) (λo s₁=>wpAny (model prog w) A (eval slice env) (λi s₂=>s₂.TypeIs o T/\wpAny (model prog w) A (getItem o i) Q E s₂) E s₁) E s):wpAny (model prog w) A (eval (.Subscript value slice pos) env) Q E s:=by
 refine Subscript_ (pM h (λo s₁ h₁=>pM h₁ (λi s₂ h₂=>?_) λ_ _ x=>x) λ_ _ x=>x);obtain ⟨hT,h₂⟩:=h₂;unfold subscriptTail;refine yY ?_;rw [getitemInPython_of_ne hT.not_modules];refine yY (wpAny_specialOf hT hl ?_);have fin:wpAny (model prog w) A (subscripted slice false o i) (λr s₃=>wpAny (model prog w) A (letTemporaryGo value o r >>= λ_=>pure r) Q E s₃) E s₂:=by rw [hs o i];exact wpAny_operating (pM h₂ (λr s₃ h₃=>yY (wpAny_letTemporaryGo (yI h₃))) λ_ _ x=>x)
 first
  |exact yI (yY fin)
  |exact yY (yI (yY fin))
  |exact yY fin
def LL (I:sS X tN σ H s)(g:DGet H a y o):s.TypeIs (.ref a) "dict":=by
 rcases g with ⟨kvs,k,e,_,_⟩|⟨kvs,k,b,e,_,_,_⟩
 .obtain ⟨_,_,vs,_,dd⟩:=wq I.tI e;exact dd.typeIs
 .obtain ⟨_,_,xs,_,dd⟩:=XA I.tI e;exact dd.typeIs
def Dj (td ty:TE):TE:=λσ H Q=>td σ H λx H1=>ty σ H1 λy H2=>∃ a v,x = .ref a/\DGet H2 a y (some v)/\Q v H2
def tDIn (ty td:TE):TE:=λσ H Q=>ty σ H λy H1=>td σ H1 λx H2=>∃ a o,x = .ref a/\DGet H2 a y o/\Q (.bl o.isSome) H2
def Dl (ty td:TE):TE:=λσ H Q=>ty σ H λy H1=>td σ H1 λx H2=>∃ a o,x = .ref a/\DGet H2 a y o/\Q (.bl (!o.isSome)) H2
def CS (td ty tv:TE):TS:=λD σ H=>tv σ H λv H1=>td σ H1 λx H2=>ty σ H2 λy H3=>∃ a H4,x = .ref a/\DPut H3 a y v H4/\D.nx σ H4
section
variable{o i:Expr}{ty:TE}
def Zn (hu:X.A.units+1<cLine)(ho:PE X o td)(hi:PE X i ty)(hs:NoSl i):PE X (.Subscript o i pos) (Dj td ty):=by intro tN s σ H Q I h;refine FP PySem.F.slot_dict_getitem.lookup hs (j7 (ho tN s σ H _ I h) λu s1 ⟨x,H1,I1,rx,q1⟩=>j7 (hi tN s1 σ H1 _ I1 q1) λiv s2 ⟨y,H2,I2,ry,a,v,ex,g,q2⟩=>?_);subst ex;obtain rfl:u=Value.ref a:=rx;exact ⟨LL I2 g,LG hu I2 g ry λw' s3 I3 rw'=>⟨v,H2,I3,rw',q2⟩⟩
def Se (hu:X.A.units+1<cLine)(hi:PE X i ty)(ho:PE X o td):PC X .In i o (tDIn ty td):=by intro tN s σ H Q I h;refine j7 (hi tN s σ H _ I h) λiv s1 ⟨y,H1,I1,ry,q1⟩=>j7 (ho tN s1 σ H1 _ I1 q1) λu s2 ⟨x,H2,I2,rx,a,ov,ex,g,q2⟩=>?_;subst ex;obtain rfl:u=Value.ref a:=rx;exact d_in hu I2 g ry λs3 I3=>⟨.bl ov.isSome,H2,I3,rfl,q2⟩
def Sf (hu:X.A.units+1<cLine)(hi:PE X i ty)(ho:PE X o td):PC X .NotIn i o (Dl ty td):=by intro tN s σ H Q I h;refine j7 (hi tN s σ H _ I h) λiv s1 ⟨y,H1,I1,ry,q1⟩=>j7 (ho tN s1 σ H1 _ I1 q1) λu s2 ⟨x,H2,I2,rx,a,ov,ex,g,q2⟩=>?_;subst ex;obtain rfl:u=Value.ref a:=rx;exact LH hu I2 g ry λs3 I3=>⟨.bl (!ov.isSome),H2,I3,rfl,q2⟩
def SJ (hu:X.A.units+1<cLine)(ho:PE X o td)(hi:PE X i ty)(hv:PE X value tv)(hs:swapsWith value (some (.Subscript o i pos')) pos.line X.rC=pure false):PS X (.Assign [.Subscript o i pos'] value pos) (CS td ty tv):=by intro tN s σ H D I h;refine wpAny_Assign_Subscript (j7 (hv tN s σ H _ I h) λr s1 ⟨v,H1,I1,rv,q1⟩=>j7 (ho tN s1 σ H1 _ I1 q1) λu s2 ⟨x,H2,I2,rx,q2⟩=>j7 (hi tN s2 σ H2 _ I2 q2) λiv s3 ⟨y,H3,I3,ry,a,H4,ex,g,q3⟩=>?_) hs;subst ex;obtain rfl:u=Value.ref a:=rx;exact LI hu I3 g ry rv λs4 I4=>⟨σ,H4,I4,q3⟩
end
def LN (h:Heap)(hb:sysModules<h.objs.size):sJ P w H (h.push { cls:= .type "dict",data:= .dict #[] }) h.objs.size (.dK []) :=
 ⟨yd _,re.mpr (Ne.symm (yG hb)),[],.nil,Heap.DictOf.new h⟩
def Dk:TE:=λ_ H Q=>∀ p,H p=none->Q (.ref p) (z9 H p (.dK []))
def Sh:PE X (.Dict [] [] pos) Dk:=λtN s σ H Q I h =>
 wpAny_Dict_empty ⟨.ref s.heap.objs.size,_,I.laid (a:=s.heap.objs.size) (o:= .dK []) (t':=s.toks) (λ_ _ q=>yW _ q) (yP _) (LN s.heap I.big),rfl,h _ (I.tI.fresh (yP _))⟩
end L2
namespace Att
open PySem PySem.W PySem.Calls PyProof.Rows
variable{P:Params}{h:Heap}{l:OpenLaw}{n:Nat}
def NK :∀(ns:EH)(vs:C8),WellAll P h vs (ns.map WData.int)->IntsAre vs ns:=by
 intro ns
 induction ns with
 |nil=>intro vs w;rw [List.map_nil] at w;cases w;exact .nil
 |cons n ns ih =>
  intro vs w;rw [yH] at w;cases w with
  |cons a b=>cases a;exact .cons _ _ (ih _ b)
def Fv (hn:l.most=some n){args:List WData}{vals:C8}(hpre:l.row.toRowW.claim.pre args=true)(hwl:WellAll P h vals args):∃ a vs ns,vals=[Value.ref a]/\args=[WData.list (ns.map WData.int)]/\h.get? a=some { cls:= .type "list",data:= .seq vs.toArray }/\IntsAre vs ns/\ns.length<=n:=by
 have hsh:WShape.hasAll [] args [.list .int]=true:=(pre_splitW hpre).1;have hc:l.pre.holds [] { args:=args }=true:=(pre_splitW hpre).2;obtain ⟨d,r,rfl,h1,h2⟩:=hasAllW_cons hsh;obtain rfl:=hasAllW_nil h2;obtain ⟨xs,rfl,h3⟩:=hasW_list h1;obtain ⟨ns,rfl⟩:=items_int h3;have hlen:ns.length<=n:=by
  unfold OpenLaw.pre at hc;have h4:(WTm.not (.lt (.lit (.int (n:Int))) (.len (.arg 0)))).holds [] { args:=[.list (ns.map .int)] }=true:=by have h4:=(holds_andW hc).1;rw [hn] at h4;exact h4
  have h5:=condW_of h4 (w_not (w_lt w_lit (w_len_list (w_arg rfl))));rw [yZ] at h5;refine Nat.le_of_not_lt λq=>?_;have q':(n:Int)<((ns.length:Nat):Int):=by omega
  first
   |(rw [yt q'] at h5;exact rp h5 (by decide))
   |(simp at h5;omega)
 cases hwl with
 |cons w1 w2 =>
  cases w2;cases w1 with
  |list ho hall=>exact ⟨_,_,ns,rfl,rfl,ho,NK ns _ hall,hlen⟩
def SH (l:OpenLaw)(args:List WData):l.row.toRowW.claim.post args (.bool true) args=true :=
 postW_of (r:=l.row.toRowW) (X:=(true==true))
  (show WShape.has [] (.bool true) .bool=true by first|rfl|decide|simp [WShape.has,WShape.arms,WShape.armsAll])
  (show (WTm.eq .res (.lit (.bool true))).value [] { args:=args,res:=some (.bool true),after:=args }=some (.bool (true==true)) from w_eq_bool (w_res rfl) w_lit) rfl
def attach_call {q:G3}{loose:C7}{XP:(AB)->Heap->Prop}{YP:G5->Heap->Prop}{d:DefRec}(hn:l.most=some n)(hdf:d.params.defaults=[])(call:∀ (w:G5) (s₀ s₁:G2) (mg mb:AB) (fa:Addr) (o:Obj) (pm cd doc:G1) (a:Addr) (vs:C8) (ns:EH), Ground q loose [] XP w s₀ mg mb s₁.heap->YP w s₁.heap -> s₁.heap.get? fa=some o->o.data = .func (docDef d.name d.params d.body d.scope pm cd doc)->s₁.heap.CodeRec cd d.name->mg d.name=some (.ref fa) -> s₁.heap.get? a=some { cls:= .type "list",data:= .seq vs.toArray }->IntsAre vs ns->ns.length<=n->s₁.gens=#[] -> codeAny (model l.prog w) callerA (.call (.ref fa) ⟨[.ref a],[]⟩) (λr s'=>r = .ok (.ret (.bool true))/\OldK s₁.heap s'.heap/\s'.os=s₁.os/\AllBare s'.gens) s₁):WalkO q loose XP YP l.row.toRowW d [] (λf vs=>PySem.call f vs):=by intro w s₀ s₁ mg mb G Y fa o pm cd doc dV kV ho hd hcd hD hmg hg args vals as hpre hlay hrd hwl hlo;obtain rfl:dV = .none:=Dflts.none hD hdf;obtain rfl:kV = .none:=Dflts.noKw hD;obtain ⟨a,vs,ns,rfl,rfl,hobj,hints,hlen⟩:=Fv hn hpre hwl;refine enter_call (pG (call w s₀ s₁ mg mb fa o pm cd doc a vs ns G Y ho (fd_plain hd) hcd hmg hobj hints hlen hg) λr s' hq=>?_);obtain ⟨rfl,h2,h3,h4⟩:=hq;exact ⟨.inl ⟨.bool true,.bool true,[],rfl,λ_=>rfl,.bool true,SH l _,λ_=>⟨List.Pairwise.nil,λ_ hm=>(nomatch hm)⟩⟩,h2,h3,h4⟩
end Att
namespace L2
open PySem PySem.Spec PyProof.Rows
variable{P:G3}{w:G5}{mg:AB}{tM:Heap}{X:Cx}{K:Fg}{a f:Addr}{fd:FuncData}{qual x:Str}{sp:Sp}{n:Nat}{st:Stmt}{ps:C7}{A B:Prop}{H H':Hp}
theorem DN:∀{vs:C8}{ns:EH},IntsAre vs ns->sP (ns.map V.int) vs
 |_,_,.nil=> .nil
 |_,_,.cons n t h=> .cons ⟨t,rfl⟩ (DN h)
def Only (H:Hp):Prop:=∀ b,H b=none∨(∃ o xs,H b=some (.frz o (.lst xs)))∨∃ p∈TABS,p.1=b/\H b=some (.tbl p.2.1 p.2.2)
structure Qq (K:Fg)(h:Heap):Prop where
 at_:∀ p∈TABS,h.get? p.1=some { cls:= .none,data:= .fields p.2.1 }
 tri:∀ p∈TABS,TriplesOk p.2.1.toList
 non:∀ p∈TABS,∀ q∈p.2.2,codeAmong q.1 p.2.1.toList=none
 tab:∀ p∈TABS,isCodeTable h p.1
 one:∀ p∈TABS,∀ q∈TABS,p.1=q.1->p=q
 out:∀ p∈TABS,K.lookup p.1=none
def zZ:Hp:=λb=>(TABS.find? λp=>p.1==b).map λp=> .tbl p.2.1 p.2.2
def Vm {b:Addr}{u:HO}(h:zZ b=some u):∃ p∈TABS,p.1=b/\u = .tbl p.2.1 p.2.2:=by unfold zZ at h;obtain ⟨p,e,r⟩:=yC.mp h;exact ⟨p,List.mem_of_find?_eq_some e,by have:=List.find?_some e;simpa using this,r.symm⟩
def Dv {h:Heap}(T:Qq K h){p:Addr×ED×F8}(hp:p∈TABS):zZ p.1=some (.tbl p.2.1 p.2.2):=by
 unfold zZ;cases e:TABS.find? λq=>q.1==p.1 with
 |none=>exact rp (List.find?_eq_none.mp e p hp) (by simp)
 |some q =>
  have e1:q.1=p.1:=by have:=List.find?_some e;simpa using this
  rw [T.one q (List.mem_of_find?_eq_some e) p hp e1];rfl
def Hy {mb:AB}{CX:CXT}{k:Nat}{fa:Addr}{s₁:G2}{vs:C8}{ns:EH}(KX:K.In s₁.heap)(T:Qq K s₁.heap)(hns:s₁.heap.Ns mainGlobals mg)(hb:s₁.heap.Ns builtinsNs mb)(hbb:∀ x:Str,x ≠ "__name__"->mb x=bootBuiltins x)(hlim:s₁.heap.NoLimit)(hbm:∃ bm ob,mg "__builtins__"=some (.ref bm)/\bm≠builtinsNs/\s₁.heap.get? bm=some ob/\ob.cls = .type "module"/\ob.dict=some builtinsNs/\ob.data = .plain)(hg:s₁.gens=#[])(ha:s₁.heap.get? a=some { cls:= .type "list",data:= .seq vs.toArray })(hi:IntsAre vs ns)(hl:ns.length<=sizeLine)(hr:Room k callerA)(F:∀ tM:Heap,K.In tM->tM.Ns mainGlobals mg->sQ P w K mg tM CX k fa fd [x] sp)(hbind:∀ (s:G2) (u:G1),BindsTo s fd ⟨[u],[]⟩ [(x,u)])(hsp:∀ H:Hp,Only H->sK K H a (ns.map V.int)->sp [.ref a] H (λv _=>v = .bl true) λ_ _ _=>False)(hCX:∀ H e s',CX [] H s₁ (λ_ _ _=>False) e s'->False):codeAny (model P w) callerA (.call (.ref fa) ⟨[.ref a],[]⟩) (λr s'=>r = .ok (.ret (.bool true))/\OldK s₁.heap s'.heap/\s'.os=s₁.os/\AllBare s'.gens) s₁:=by
 have rv:=DN hi;have lenV:=hi.length;have naT:∀ p∈TABS,p.1≠a:=λp hp z=>by
  have e:=T.at_ p hp;rw [z,ha] at e;cases e
 have core:∀ H:Hp,Only H->sK K H a (ns.map V.int)->sE P w H s₁.heap->(∀ b,H b≠none->b=a∨∃ p∈TABS,p.1=b)->(∀ b,H b≠none->K.lookup b=none)->(∀ p∈TABS,H p.1=some (.tbl p.2.1 p.2.2)) ->
   codeAny (model P w) callerA (.call (.ref fa) ⟨[.ref a],[]⟩) (λr s'=>r = .ok (.ret (.bool true))/\OldK s₁.heap s'.heap/\s'.os=s₁.os/\AllBare s'.gens) s₁:=by
  intro H hO hS tI hA hK hT;have base_of:∀{b:Addr}{o:Obj},s₁.heap.get? b=some o->H b=none->(ve s₁.heap H).get? b=some o:=λe n=>Nm e n;have noA:∀{b:Addr}{o:Obj}{es:Array DictEntry}{ep:Nat},s₁.heap.get? b=some o->o.data = .dict es ep->H b=none:=λ{b o es ep} e d=>by
   cases q:H b with
   |none=>rfl
   |some u =>
    rcases hA b (by rw [q];simp) with e'|⟨p,hp,e'⟩
    .subst e';rw [ha] at e;cases e;have d':Data.seq vs.toArray _=Data.dict es ep:=d;cases d'
    .subst e';rw [T.at_ p hp] at e;cases e;have d':Data.fields p.2.1=Data.dict es ep:=d;cases d'
  have nsK:∀{b:Addr}{m:AB},s₁.heap.Ns b m->(ve s₁.heap H).Ns b m:=λ{b m} ⟨o,es,ep,e,d,r⟩=>⟨o,es,ep,base_of e (noA e d),d,r⟩;have hKb:K.In (ve s₁.heap H):=λb o e=>base_of (KX b o e) (by
   cases q:H b with
   |none=>rfl
   |some u=>rw [hK b (by rw [q];simp)] at e;cases e)
  have noP:∀{b:Addr}{o:Obj},s₁.heap.get? b=some o->o.data = .plain->H b=none:=λ{b o} e d=>by
   cases q:H b with
   |none=>rfl
   |some u =>
    rcases hA b (by rw [q];simp) with e'|⟨p,hp,e'⟩
    .subst e';rw [ha] at e;cases e;have d':Data.seq vs.toArray _=Data.plain:=d;cases d'
    .subst e';rw [T.at_ p hp] at e;cases e;have d':Data.fields p.2.1=Data.plain:=d;cases d'
  have hM:Mod K mg (ve s₁.heap H):=⟨hKb,nsK hns,⟨mb,nsK hb,hbb⟩,let ⟨mc,h1,h2⟩:=hlim;⟨mc,nsK h1,h2⟩,let ⟨bm,ob,b1,b2,b3,b4,b5,b6⟩:=hbm;⟨bm,ob,b1,b2,base_of b3 (noP b3 b6),b4,b5,b6⟩⟩;have e0:Env0 P w K mg (ve s₁.heap H) callerA [] s₁ H:=⟨rfl,hM,λb o e=>Rq e,Nat.le_of_eq (Nn _ _),trivial,λb hb=>rp (show b∈([]:EC) from hb) (by simp),tI,.of_eq hg,hT⟩;refine pG ((F _ hKb (nsK hns)).run callerA [] s₁ H ⟨[.ref a],[]⟩ [.ref a] [.ref a] _ _ hr e0 (hbind s₁ (.ref a)) (.cons rfl .nil) (hsp H hO hS)) λr s' h=>?_;cases r with
  |error e=>exact (hCX H e s' h).elim
  |ok fl =>
   cases fl with
   |next=>exact False.elim h
   |brk=>exact False.elim h
   |cont=>exact False.elim h
   |ret u =>
    obtain ⟨v,H',os,bare,un,hok',r',q⟩:=h;have q':v = .bl true:=q;subst q';obtain rfl:u=Value.bool true:=r';refine ⟨rfl,⟨λb o e=>?_,λb o e=>un.there b o e (by simp)⟩,os,bare⟩;rcases hO b with z|⟨ob,xs,z⟩|⟨p,hp,rfl,z⟩
    .exact .inl (un.keep b o e z (by intro z;exact rp (show b∈([]:EC) from z) (by simp)) (by simp))
    .have z2:=un.frzs b ob _ z;obtain ⟨e1,_⟩:=tI b _ z;obtain ⟨e2,_⟩:=hok' b _ z2;rw [e] at e1;cases e1;exact .inl e2
    .have z2:=un.tbls p.1 _ _ z;obtain ⟨more,e2,_⟩:=hok' p.1 _ z2;rw [T.at_ p hp] at e;cases e;exact .inr (.inl ⟨T.tab p hp,rfl,p.2.1,more,rfl,e2⟩)
 have tok:∀{H:Hp}{p:Addr×ED×F8},p∈TABS->sJ P w H s₁.heap p.1 (.tbl p.2.1 p.2.2):=λ{H p} hp =>
  ⟨#[],by rw [Array.append_empty];exact T.at_ p hp,by rw [Array.append_empty];exact T.tri p hp,λq hq=> .inl (by rw [Array.append_empty];exact T.non p hp q hq)⟩
 have only:∀ b,zZ b=none∨(∃ o xs,zZ b=some (.frz o (.lst xs)))∨∃ p∈TABS,p.1=b/\zZ b=some (.tbl p.2.1 p.2.2):=λb=>by
  cases q:zZ b with
  |none=>exact .inl rfl
  |some u=>obtain ⟨p,hp,e1,rfl⟩:=Vm q;exact .inr (.inr ⟨p,hp,e1,rfl⟩)
 have mine:∀ b,zZ b≠none->∃ p∈TABS,p.1=b:=λb z=>by
  cases q:zZ b with
  |none=>exact rp q z
  |some u=>obtain ⟨p,hp,e1,_⟩:=Vm q;exact ⟨p,hp,e1⟩
 cases hk:K.lookup a with
 |some o =>
  have e:=KX a o hk;rw [ha] at e;cases e;refine core zZ only (.inr ⟨_,vs.toArray,_,hk,rfl,rfl,rfl,by rw [yT,lenV];exact hl,by simpa using rv⟩) (λb u z=>?_) (λb z=> .inr (mine b z)) (λb z=>?_) λp hp=>Dv T hp
  .obtain ⟨p,hp,rfl,rfl⟩:=Vm z;exact tok hp
  .obtain ⟨p,hp,rfl⟩:=mine b z;exact T.out p hp
 |none =>
  refine core (λb=>if b=a then some (.frz { cls:= .type "list",data:= .seq vs.toArray } (.lst (ns.map V.int))) else zZ b) (λb=>?_) (.inl (.inr ⟨{ cls:= .type "list",data:= .seq vs.toArray },rB rfl⟩)) (λb u z=>?_) (λb z=>?_) (λb z=>?_) λp hp=>?_
  .by_cases hb:b=a
   .exact .inr (.inl ⟨_,_,rB hb⟩)
   .rcases only b with z|⟨o,xs,z⟩|⟨p,hp,e1,z⟩
    .exact .inl ((rq hb).trans z)
    .exact .inr (.inl ⟨o,xs,(rq hb).trans z⟩)
    .exact .inr (.inr ⟨p,hp,e1,(rq hb).trans z⟩)
  .by_cases hb:b=a
   .have z':=(rB hb).symm.trans z;cases z';subst hb;exact ⟨ha,by rw [yZ];exact hl,vs,_,rv,ha⟩
   .have z':=(rq hb).symm.trans z;obtain ⟨p,hp,rfl,rfl⟩:=Vm z';exact tok hp
  .by_cases hb:b=a
   .exact .inl hb
   .exact .inr (mine b λq=>z ((rq hb).trans q))
  .by_cases hb:b=a
   .rw [hb];exact hk
   .obtain ⟨p,hp,rfl⟩:=mine b λq=>z ((rq hb).trans q);exact T.out p hp
  .exact (rq (naT p hp)).trans (Dv T hp)
def Al {l:PySem.W.OpenLaw}{k:Nat}{q:G3}{loose:C7}{XP:(AB)->Heap->Prop}{YP:G5->Heap->Prop}{d:DefRec}{K:Params->Fg}{CX:G5->CXT}{sp:G5->Sp}(hn:l.most=some n)(hn2:n<=sizeLine)(hdf:d.params.defaults=[])(hr:Room k callerA)(hY:∀(w:G5)(h:Heap),YP w h->(K w.params).In h)(F:∀(w:G5)(mg:AB)(fa:Addr)(h:Heap),YP w h->(K w.params).In h->h.Ns mainGlobals mg->mg d.name=some (.ref fa) -> ∃ fd:FuncData,(∀(s:G2)(u:G1),BindsTo s fd ⟨[u],[]⟩ [(x,u)])/\Qq (K w.params) h /\ ∀ tM:Heap,(K w.params).In tM->tM.Ns mainGlobals mg->sQ l.prog w (K w.params) mg tM (CX w) k fa fd [x] (sp w))(hsp:∀(w:G5)(H:Hp)(a:Addr)(ns:EH),ns.length<=n->Only H->sK (K w.params) H a (ns.map V.int)->sp w [.ref a] H (λv _=>v = .bl true) λ_ _ _=>False)(hCX:∀(w:G5)(H:Hp)(s:G2)(e:G1)(s':G2),CX w [] H s (λ_ _ _=>False) e s'->False):PySem.W.WalkO q loose XP YP l.row.toRowW d [] (λf vs=>PySem.call f vs):=by refine Att.attach_call hn hdf λw s₀ s₁ mg mb fa o pm cd doc a vs ns G Y ho hd hcd hmg hobj hints hlen hg=>?_;have KX:=hY w _ Y;obtain ⟨fd,hb,hT,hF⟩:=F w mg fa _ Y KX G.T.g hmg;exact Hy KX hT G.T.g G.T.b G.T.builtins G.T.nolimit G.T.bmain hg hobj hints (yj hlen hn2) hr hF hb (λH hO hS=>hsp w H a ns hlen hO hS) λH e s'=>hCX w H s₁ e s'
def vg (s:Stmt)(j:Nat):Stmt:=match s with
 | .ClassDef _ _ _ body _ _ _ _ _ _ _=>body.getD j (.Pass ⟨0,0,0,0⟩)
 |_=> .Pass ⟨0,0,0,0⟩
def zC (s:Stmt):Arguments:=match s with
 | .FunctionDef _ a _ _ _ _ _ _ _ _=>a
 |_=>{ posonlyargs:=[],args:=[],vararg:=none,kwonlyargs:=[],kw_defaults:=[],kwarg:=none,defaults:=[] }
def qf (s:Stmt):F3:=match s with
 | .FunctionDef _ _ b _ _ _ _ _ _ _=>b
 |_=>[]
def j4 (s:Stmt):Scope:=match s with
 | .FunctionDef _ _ _ _ _ _ sc _ _ _=>sc
 |_=>{ kind:= .function,names:=[],isGenerator:=false,isCoroutine:=false }
abbrev v8:CXT:=λ_ _ _ _ _ _=>False
abbrev E0:XK:=λ_ _ _=>False
def JY :jX v8 X E0:=λ_ _ _ _ _ _ _ h=>h.elim
structure Fun (K:Fg)(x qual:Str)(st:Stmt)(f:Addr)(fd:FuncData):Prop where
 ex:∃(oc:G1)(od:EG)(kV doc pm:G1)(an:EG)(tH ct:G1)(osl:EO),
  fd=PySem.W.fnOf x qual (zC st) (qf st) (j4 st) .none kV doc pm an tH ct/\K.lookup f=some ⟨oc,od,.func fd,osl⟩/\PySem.W.codeIn K tH qual=true
 kp:PySem.W.keepIn K (.ref f)=true
def Fun.ok {N:C7}{k:Nat}(F:Fun K x qual st f fd)(S:y8 N ps (j4 st))(len:∀ vs H Q E,sp vs H Q E->vs.length=ps.length)(hbody:∀(tH:G1)(A:G4)(tL:EK)(s:G2)(H:Hp)(vs:EB)(Q:VK)(E:XK),Room k (A.deeper (envOfC qual (j4 st) s.heap.objs.size f tH))->sp vs H Q E -> ∃ t,PSs (qy v8 P w K mg tM N qual (j4 st) f tH A tL s H E).nox (qf st) t/\t { nx:=λ_ H'=>Q .non H',rt:=Q } (start N vs) H):sQ P w K mg tM v8 (k+1) f fd ps sp:=by obtain ⟨oc,od,kV,doc,pm,an,tH,ct,osl,rfl,lk,hcd⟩:=F.ex;refine Ju lk hcd S len λA tL s H vs Q E hr hsp=>?_;obtain ⟨t,h,q⟩:=hbody tH A tL s H vs Q E hr hsp;exact ⟨t,h.nox,q⟩
def Fun.binds (F:Fun K x qual st f fd)(h:∀(kV doc pm:G1)(an:EG)(tH ct:G1)(us:C8),us.length=ps.length->bindArgs (PySem.W.fnOf x qual (zC st) (qf st) (j4 st) .none kV doc pm an tH ct) ⟨us,[]⟩=pure (ps.zip us)):Binds K fd ps []:=by obtain ⟨oc,od,kV,doc,pm,an,tH,ct,osl,rfl,lk,hcd⟩:=F.ex;exact .all (h kV doc pm an tH ct)
def jK {oc:G1}{od an:EG}{osl:EO}{kV doc pm tH ct:G1}(l:K.lookup f=some ⟨oc,od,.func (PySem.W.fnOf x qual (zC st) (qf st) (j4 st) .none kV doc pm an tH ct),osl⟩)(c:PySem.W.codeIn K tH qual=true)(k:PySem.W.keepIn K (.ref f)=true):Fun K x qual st f (PySem.W.fnOf x qual (zC st) (qf st) (j4 st) .none kV doc pm an tH ct):=⟨⟨oc,od,kV,doc,pm,an,tH,ct,osl,rfl,l,c⟩,k⟩
def vO {A:G4}{k:Nat}(hr:Room k A):A.units+1<cLine:=oV (Nat.add_le_add_left (by decide:1<=64) _) hr.units
def Xb (h:n<=1000):n<sizeLine:=oV h (by decide)
def pv (i:Nat){pos:Pos}(hN:X.N[i]?=some x:=by rfl)(hv:Vis X.rC.scope x:=by first|exact Or.inl rfl|exact Or.inr (Or.inl rfl)|exact Or.inr (Or.inr rfl))(hd:(x==("__debug__":Str))=false:=by decide)(hcd:(x==("__classdict__":Str))=false:=by decide):PE X (.Name x pos) (qM i):=Sr hN hv hd hcd
def Lb:sI X (.builtin "len") (λxs H Q=>∃ a kvs,xs=[V.ref a]/\H a=some (.dK kvs)/\Q (.int kvs.length) H):=by intro tN s σ H xs us Q I r h;obtain ⟨a,kvs,rfl,ha,q⟩:=h;obtain ⟨u,rfl,ru⟩:=zk r;cases ru;exact d_len I (.inl ha) λt s' I'=>⟨.int kvs.length,H,I',⟨t,rfl⟩,q⟩
def xZ (h:B):if false=true then A else B:=by rw [rq yQ];exact h
def za (h:A):if true=true then A else B:=by rw [rB rfl];exact h
def ite2 {c:Prop}[Decidable c](h1:c->A)(h2:¬ c->B):if c then A else B:=by
 by_cases h:c
 .rw [rB h];exact h1 h
 .rw [rq h];exact h2 h
def sL (H H':Hp):Prop:=∀ b o,H b=some o->H' b=some o
def sL.refl (H:Hp):sL H H:=λ_ _ h=>h
def sL.trans {H1 H2:Hp}(a:sL H H1)(b:sL H1 H2):sL H H2:=λc o h=>b c o (a c o h)
def sL.free (e:sL H H'){l:Addr}(h:H' l=Option.none):H l=Option.none:=by
 cases q:H l with
 |none=>rfl
 |some o=>rw [e l o q] at h;cases h
def sL.seq {xs:EB}(e:sL H H')(h:sK K H a xs):sK K H' a xs:=by
 rcases h with (h|⟨o,h⟩)|h
 .exact .inl (.inl (e _ _ h))
 .exact .inl (.inr ⟨o,e _ _ h⟩)
 .exact .inr h
end L2
set_option maxHeartbeats 4000000
set_option synthInstance.maxHeartbeats 4000000
set_option synthInstance.maxSize 4096
namespace L2
open PySem PySem.Spec PyProof.Rows
variable{prog:G3}{w:G5}{A:G4}{R:AH}{s s₂:G2}{tN:C4}{H:Hp}{h1:Heap}{N' ps:C7}{sc:Scope}{cl:EM}{fp:EC}{C D:Addr}{Q:VK}{σ0:St}{j:Nat}{x:Str}{sp:Sp}{e:Expr}{es:EN}{t:TA}{p:Pos}{c elt iter tg:Expr}{ifs:EN}{scope:Scope}{pos:Pos}{env:Env}{X:Cx}{o:EY}{σ:St}{tt:TT}{te:TE}{wi:TI}{K:Fg}
def Ly {target:Expr}{it acc:G1}(I:Nat->G2->Prop)
  (turn:∀ n s,I n s->wpAny (model prog w) A (pyNext it) (λr s₁=>match r with
   |none=>R (.ok .next) s₁
   |some v=>wpAny (model prog w) A (letOwnedTupleGo target it v) (λ_ s₀=>wpAny (model prog w) A (assign target env v) (λ_ s₂ =>
     wpAny (model prog w) A (forIn ifs true λc r=>if r=true then do let ok <- isTrue c env (eval c env);pure (ForInStep.yield ok) else pure (ForInStep.yield r)) (λok s₃ =>
      if ok=true then wpAny (model prog w) A (eval elt env) (λx s₄ =>
       wpAny (model prog w) A (call (.builtin "list.append") [acc,x]) (λ_ s₅=>∃ m,m<n/\I m s₅) (λ_ _=>False) s₄) (λ_ _=>False) s₃
      else ∃ m,m<n/\I m s₃) (λ_ _=>False) s₂) (λ_ _=>False) s₀) (λ_ _=>False) s₁) (λ_ _=>False) s)
  (n:Nat) (h:I n s) :
  codeAny (model prog w) A (.compLoop (.ListComp elt [⟨target,iter,ifs,0⟩] scope pos) 0 it acc env) R s:=by
 refine codeAny_loop rfl I (λn s hI=>?_) n h;show wpAny _ A ((compTurn (.ListComp elt [⟨target,iter,ifs,0⟩] scope pos) 0 it acc env).onRaise (λx=>do noteFrame x env;theTreesLotGoes x)) _ _ s;refine wpAny_noted (wpAny_noRaise ?_);rw [compTurn_list];refine yY (oN (yY (j7 (turn n s hI) λr s₁ h₁=>?_)));cases r with
 |none=>exact yI h₁
 |some v =>
  refine yY (j7 h₁ λ_ s₀ h₀=>?_);refine yY (j7 h₀ λ_ s₂ h₂=>yY (j7 h₂ λok s₃ h₃=>?_));cases ok with
  |false=>exact yI ⟨rfl,h₃⟩
  |true=>exact yY (yY (j7 h₃ λx s₄ h₄=>yY (j7 h₄ λ_ s₅ h₅=>yI (yI ⟨rfl,h₅⟩))))
theorem BC {α β:Type}{f:α->β->Sem (ForInStep β)}(g:α->β->β):∀(l:List α)(b:β),(∀ a∈l,∀ b,f a b=pure (.yield (g a b)))->forIn l b f=(pure (l.foldl (λb a=>g a b) b):Sem β)
 |[],_,_=>rfl
 |x::l,b,h=>by
  rw [List.forIn_cons,h x yR,pure_bind];exact BC g l (g x b) λy hy=>h y (yO _ hy)
def jZ (env:Env)(y:Str×NameKind)(cs:EM):EM:=if y.2 == .free then (y.1,(env.cells.lookup y.1).getD 0)::cs else cs
theorem KM (env:Env):∀(l:EU)(cs:EM),(∀ y∈l,y.2 = .free->∃ c,env.cells.lookup y.1=some c)->(∀ x c,cs.lookup x=some c->env.cells.lookup x=some c) -> (∀ x c,(l.foldl (λb a=>jZ env a b) cs).lookup x=some c->env.cells.lookup x=some c)
 |[],_,_,h=>h
 |(n,k)::l,cs,hl,h=>by
  refine KM env l _ (λy hy=>hl y (yO _ hy)) λx c e=>?_;unfold jZ at e
  dsimp only at e
  cases hk:(k==NameKind.free) with
  |false=>rw [hk,rq yQ] at e;exact h x c e
  |true =>
   rw [hk,rB rfl] at e;obtain ⟨c0,e0⟩:=hl (n,k) yR (by simpa using hk);cases hx:x==n with
   |true =>
    rw [uN,hx] at e;have hx':x=n:=by simpa using hx
    subst hx';have e':(List.lookup x env.cells).getD 0=c:=Option.some.inj e;have e0':List.lookup x env.cells=some c0:=e0;rw [e0'] at e';rw [e0',<- e'];rfl
   |false=>rw [uN,hx] at e;exact h x c e
theorem KN (env:Env)(x:Str):∀(l:EU)(cs:EM),(∃ c,cs.lookup x=some c)->∃ c,(l.foldl (λb a=>jZ env a b) cs).lookup x=some c
 |[],_,h=>h
 |(n,k)::l,cs,h=>by
  refine KN env x l _ ?_;unfold jZ
  dsimp only
  split
  .rw [uN];cases hx:x==n with
   |true=>exact ⟨_,rfl⟩
   |false=>exact h
  .exact h
theorem KL (env:Env):∀(l:EU)(cs:EM),∀ y∈l,y.2 = .free->∃ c,(l.foldl (λb a=>jZ env a b) cs).lookup y.1=some c
 |[],_,_,h,_=>nomatch h
 |z::l,cs,y,h,hf=>by
  rcases yL.mp h with e|h
  .subst e;refine KN env y.1 l _ ?_;unfold jZ
   dsimp only
   rw [hf,rB (by rfl),uN,pR];exact ⟨_,rfl⟩
  .exact KL env l _ y h hf
def KO (h:∀ y∈scope.names,y.2 = .free->∃ c,env.cells.lookup y.1=some c):∃ cl,closureFor scope env=pure cl/\(∀ x c,cl.lookup x=some c->env.cells.lookup x=some c)/\∀ y∈scope.names,y.2 = .free->∃ c,cl.lookup y.1=some c:=by
 refine ⟨scope.names.foldl (λb a=>jZ env a b) [],?_,KM env _ _ h (λx c e=>by cases e),KL env _ _⟩;simp only [closureFor];rw [BC (jZ env) scope.names [] (λy hy b=>?_)]
 .rfl
 .obtain ⟨n,k⟩:=y;unfold jZ;cases hk:(k==NameKind.free) with
  |false=>simp only [hk,uF,if_false]<;>rfl
  |true=>obtain ⟨c,e⟩:=h (n,k) hy (by simpa using hk);have e':List.lookup n env.cells=some c:=e;simp only [hk,if_true,cellOf,e'];rfl
def CG (env:Env)(n:Str)(k:NameKind)(r:EU)(x:Str):((List.map (λ(n,k)=>if (k==NameKind.free&&env.scope.kind == .function&&env.kindOf n==some .cell) then (n,NameKind.cell) else (n,k)) ((n,k)::r)).lookup x) = (if x==n then some (if (k==NameKind.free&&env.scope.kind == .function&&env.kindOf n==some .cell) then NameKind.cell else k) else (List.map (λ(n,k)=>if (k==NameKind.free&&env.scope.kind == .function&&env.kindOf n==some .cell) then (n,NameKind.cell) else (n,k)) r).lookup x):=by
 rw [yH];show List.lookup x ((if (k==NameKind.free&&env.scope.kind == .function&&env.kindOf n==some .cell)=true then (n,NameKind.cell) else (n,k))::_)=_;by_cases hc:(k==NameKind.free&&env.scope.kind == .function&&env.kindOf n==some .cell)=true
 .rw [rB hc,rB hc,uN];cases x==n<;>rfl
 .rw [rq hc,rq hc,uN];cases x==n<;>rfl
theorem CI {env:Env}{x:Str}{k:NameKind}:∀{names:EU}, (names.map λ(n,k)=>if (k==NameKind.free&&env.scope.kind == .function&&env.kindOf n==some .cell) then (n,NameKind.cell) else (n,k)).lookup x=some k -> ∃ k',names.lookup x=some k'/\(k'=k∨(k' = .free/\k = .cell))
 |[],h=>by simp at h
 |(n,q)::r,h=>by
  rw [CG] at h;rw [uN];cases hx:x==n with
  |true =>
   rw [hx,rB rfl] at h;have h':=Option.some.inj h;refine ⟨q,rfl,?_⟩;by_cases hc:(q==NameKind.free&&env.scope.kind == .function&&env.kindOf n==some .cell)=true
   .rw [rB hc] at h';have hq:(q==NameKind.free)=true:=by
     cases z:(q==NameKind.free) with
     |true=>rfl
     |false=>rw [z] at hc;simp at hc
    exact .inr ⟨by simpa using hq,h'.symm⟩
   .rw [rq hc] at h';exact .inl h'
  |false=>rw [hx,rq yQ] at h;exact CI h
theorem CH {env:Env}{x:Str}:∀{names:EU},names.lookup x=some .free -> (names.map λ(n,k)=>if (k==NameKind.free&&env.scope.kind == .function&&env.kindOf n==some .cell) then (n,NameKind.cell) else (n,k)).lookup x=some .cell∨(names.map λ(n,k)=>if (k==NameKind.free&&env.scope.kind == .function&&env.kindOf n==some .cell) then (n,NameKind.cell) else (n,k)).lookup x=some .free
 |[],h=>by simp at h
 |(n,q)::r,h=>by
  rw [CG];rw [uN] at h;cases hx:x==n with
  |true =>
   rw [hx] at h;have h':q = .free:=Option.some.inj h;rw [rB rfl];by_cases hc:(q==NameKind.free&&env.scope.kind == .function&&env.kindOf n==some .cell)=true
   .rw [rB hc];exact .inl rfl
   .rw [rq hc,h'];exact .inr rfl
  |false=>rw [hx] at h;rw [rq yQ];exact CH h
def m9 (tK:C9)(σ:St):St:=tK.map λo=>o.bind λi=>(σ[i]?).join
structure Qf (X:Cx)(N':C7)(tK:C9)(sc:Scope):Prop where
 kind:sc.kind = .function
 nocell:∀ y∈sc.names,y.2 ≠ .cell
 names:∀ y∈sc.names,y.2 = .local->sc.names.lookup y.1=some .local
 free:∀ y∈sc.names,y.2 = .free->X.rC.kindOf y.1=some .cell∨X.rC.kindOf y.1=some .free
 len:tK.length=N'.length
 tK:∀(j i:Nat),tK[j]?=some (some i)->∃ x,N'[j]?=some x/\X.N[i]?=some x/\sc.names.lookup x=some .free
def BU:Option NameKind->Bool
 |some .cell=>true
 |some .free=>true
 |_=>false
def Hq {k:Option NameKind}(h:BU k=true):k=some .cell∨k=some .free:=by
 cases k with
 |none=>cases h
 |some k=>cases k<;>first|exact .inl rfl|exact .inr rfl|cases h
def JT (names:EU)(kd:AU)(y:Str×NameKind):Bool :=
 match y.2 with
 | .cell=>false
 | .local=>names.lookup y.1==some .local
 | .free=>BU (kd y.1)
 |_=>true
def jD (N:C7)(sc:Scope):C7->C9->Bool
 |[],[]=>true
 |_::r,none::c=>jD N sc r c
 |x::r,some i::c=>N[i]?==some x&&(sc.names.lookup x==some .free&&jD N sc r c)
 |_,_=>false
theorem VG {N:C7}{sc:Scope}:∀{xs:C7}{c:C9},jD N sc xs c=true->c.length=xs.length
 |[],[],_=>rfl
 |_::r,none::c,h=>by
  have h':jD N sc r c=true:=h;simp [VG h']
 |x::r,some i::c,h=>by
  have h':(N[i]?==some x&&(sc.names.lookup x==some .free&&jD N sc r c))=true:=h;simp only [yg] at h';simp [VG h'.2.2]
 |[],_::_,h=>by cases h
 |_::_,[],h=>by cases h
theorem VF {N:C7}{sc:Scope}:∀{xs:C7}{c:C9},jD N sc xs c=true->∀(j i:Nat),c[j]?=some (some i)->∃ x,xs[j]?=some x/\N[i]?=some x/\sc.names.lookup x=some .free
 |[],[],_,j,i,e=>by simp at e
 |_::r,none::c,h,0,i,e=>by simp at e
 |_::r,none::c,h,j+1,i,e=>by
  have h':jD N sc r c=true:=h;obtain ⟨x,h1,h2⟩:=VF h' j i (by simpa using e);exact ⟨x,by simpa using h1,h2⟩
 |x::r,some k::c,h,0,i,e=>by
  have h':(N[k]?==some x&&(sc.names.lookup x==some .free&&jD N sc r c))=true:=h;simp only [yg] at h';have e':k=i:=by simpa using e
  subst e';exact ⟨x,rfl,by simpa using h'.1,by simpa using h'.2.1⟩
 |x::r,some k::c,h,j+1,i,e=>by
  have h':(N[k]?==some x&&(sc.names.lookup x==some .free&&jD N sc r c))=true:=h;simp only [yg] at h';obtain ⟨x',h1,h2⟩:=VF h'.2.2 j i (by simpa using e);exact ⟨x',by simpa using h1,h2⟩
 |[],_::_,h,_,_,_=>by cases h
 |_::_,[],h,_,_,_=>by cases h
def t6 {tK:C9}(h1:sc.kind = .function)(h2:(sc.names.all λy=>JT sc.names X.rC.kindOf y)=true)(h3:jD X.N sc N' tK=true):Qf X N' tK sc:=by
 have h2':=uY.mp h2;refine ⟨h1,λy hy e=>?_,λy hy e=>?_,λy hy e=>?_,VG h3,VF h3⟩
 .have q:=h2' y hy;unfold JT at q;rw [e] at q;cases q
 .have q:=h2' y hy;unfold JT at q;rw [e] at q;simpa using q
 .have q:=h2' y hy;unfold JT at q;rw [e] at q;exact Hq q
def xk (X:Cx)(N':C7)(sc:Scope)(cl:EM)(C:Addr)(s:G2)(H:Hp)(fp:EC)(pn:C4):Cx where
 rD:=X.rD
 w:=X.w
 K:=X.K
 mg:=X.mg
 tM:=X.tM
 A:=X.A
 N:=N'
 s₀:=s
 H₀:=H
 rC:=compEnvC sc cl C X.rC
 tL:=X.stack
 stack:=X.stack
 ex:=fp
 fn:=λ_=>false
 calm:=X.calm
 pn:=pn
 xe:=λ_ _=>False
section
variable{tK:C9}
def LC (I:sS X tN σ H s)(S:Qf X N' tK sc)(hc1:∀ x c,cl.lookup x=some c->X.rC.cells.lookup x=some c)(hc2:∀ y∈sc.names,y.2 = .free->∃ c,cl.lookup y.1=some c)(hf:∀ b∈fp,xN X tN H b)(ho:∀ b∈fp,b<s.heap.objs.size)(hC:s.heap.objs.size<=C):(xk X N' sc cl C s H fp (X.pn++tN)).Ok where
 mod:=I.ok.mod
 kind:=S.kind
 glob:=I.ok.glob
 blt:=I.ok.blt
 above:=hC
 inj:=λx y c e1 e2=>I.ok.inj x y c (hc1 x c e1) (hc1 y c e2)
 has:=λx hx=>by
  have key:∀ k,(relabel sc X.rC).names.lookup x=some k->(k = .cell∨k = .free)->∃ c,cl.lookup x=some c:=λk e hk=>by
   obtain ⟨k',e',q⟩:=CI e;have hm:=pZ e';have hfree:k' = .free:=by
    rcases q with q|q
    .rcases hk with z|z
     .exact rp (q.trans z) (S.nocell _ hm)
     .exact q.trans z
    .exact q.1
   exact hc2 (x,k') hm hfree
  rcases hx with e|e
  .exact key _ e (.inl rfl)
  .exact key _ e (.inr rfl)
 cab:=λx c hx _=>by cases hx
 hd:=I.ok.hd
 frames:=I.ok.frames
 stk:= .inl rfl
 exf:=λb hb=>⟨yG (yx (ho b hb) hC),λx c e=>(hf b hb).2.2.2.2.1 x c (hc1 x c e)⟩
 bs:=I.bs
 bsz:=yj I.ok.bsz I.sz
 noex:=λb o e hb=>by
  rcases (hf b hb).2.2.2.1 with z|z
  .exact I.ok.noex b o e z
  .exact rp (yx (yN e) (yj I.ok.bsz z)) (uT _)
 exfs:=λb hb hz=>by
  rcases yL.mp (I.stkSub b hz) with e|e
  .exact (hf b hb).2.1 e
  .exact (hf b hb).2.2.1 e
 funs:=I.stack
 frf:=I.stkFree
 tbs:=λp hp=>I.tM.tbls _ _ _ (I.ok.tbs p hp)
def NL {m0:AB}{o:Obj}(I:sS X tN σ H s)(S:Qf X N' tK sc)(hc1:∀ x c,cl.lookup x=some c->X.rC.cells.lookup x=some c)(hc2:∀ y∈sc.names,y.2 = .free->∃ c,cl.lookup y.1=some c)(hf:∀ b∈fp,xN X tN H b)(ho:∀ b∈fp,b<s.heap.objs.size)(hD:s.heap.objs.size<=D)(hC:D<C)(hDo:h1.get? D=some o)(hoc:∀ v,o.data ≠ .cell v)(hns:h1.Ns C m0)(hk:∀ b o,s.heap.get? b=some o->h1.get? b=some o)(t:Nat):sS (xk X N' sc cl C s H fp (X.pn++tN)) [(D,o)] (m9 tK σ) H { s with heap:=h1,toks:=t }:=by
 have hCs:s.heap.objs.size<=C:=yj hD (uJ hC);have lt_s:∀ b o,s.heap.get? b=some o->b≠C:=λb o e=>yG (yx (yN e) hCs);refine ⟨LC I S hc1 hc2 hf ho hCs,rfl,I.bare,Un.kept hk,⟨m0,hns,λj x v e1 e2 e3=>?_⟩,λx c e=>?_,I.tI.fresh hCs,λx c e=>I.freeC x c (hc1 x c e),λp hp=>?_,I.tI.kept hk,?_⟩
 .obtain ⟨i,hi,hσ⟩:∃ i,tK[j]?=some (some i)/\σ[i]?=some (some v):=by
   unfold m9 at e2;rw [yM] at e2;cases hc:tK[j]? with
   |none=>rw [hc] at e2;cases e2
   |some o' =>
    rw [hc] at e2;have e2':(o'.bind λi=>(σ[i]?).join)=some v:=Option.some.inj e2;cases o' with
    |none=>cases e2'
    |some i =>
     refine ⟨i,rfl,?_⟩;have e3':(σ[i]?).join=some v:=e2';cases hs:σ[i]? with
     |none=>rw [hs] at e3';cases e3'
     |some q=>rw [hs] at e3';exact pL some e3'
  obtain ⟨x',n1,n2,n3⟩:=S.tK j i hi;have e1':N'[j]?=some x:=e1;rw [n1] at e1';obtain rfl:x'=x:=Option.some.inj e1';have hkd:=S.free (x',.free) (pZ n3) rfl;obtain ⟨m,_,hl⟩:=I.loc;obtain ⟨u,r,l⟩:=hl i x' v n2 hσ (by
   rcases hkd with z|z
   .exact .inr (.inl z)
   .exact .inr (.inr z))
  refine ⟨u,r,?_⟩;rcases l with ⟨l1,_⟩|⟨_,c,ec,hcell⟩
  .rcases hkd with z|z
   .exact rp (l1.symm.trans z) (by simp)
   .exact rp (l1.symm.trans z) (by simp)
  .obtain ⟨c',ec'⟩:=hc2 (x',.free) (pZ n3) rfl;have q:=hc1 x' c' ec';rw [ec] at q;obtain rfl:c=c':=Option.some.inj q;refine .inr ⟨CH n3,c,ec',?_⟩;obtain ⟨oc,hoc',hd⟩:=hcell;exact ⟨oc,hk _ _ hoc',hd⟩
 .obtain ⟨v,oc,hoc',hd⟩:=I.cell x c (hc1 x c e);exact ⟨v,oc,hk _ _ hoc',hd⟩
 .rcases yF.mp hp with hp|hp
  .obtain ⟨e,n,ne,nf,d⟩:=I.pin p hp;refine ⟨hk _ _ e,n,lt_s _ _ e,λhz=>?_,d⟩;rcases yL.mp (I.stkSub _ hz) with e'|e'
   .exact ne e'
   .exact nf e'
  .have e:p=(D,o):=by simpa using hp
   subst e;refine ⟨hDo,I.tI.fresh hD,yG hC,λhz=>?_,hoc⟩;rcases yL.mp (I.stkSub _ hz) with e'|e'
   .exact rp (yx I.lt hD) (by rw [show X.rC.locals=D from e'.symm];exact uT _)
   .exact I.nofs hD e'
 .unfold m9;rw [yZ];exact S.len
end
structure Wk (σ σ':St):Prop where
 len:σ.length=σ'.length
 at':∀(i:Nat) v,σ[i]?=some (some v)->σ'[i]?=some (some v)
def Wk.refl (σ:St):Wk σ σ:=⟨rfl,λ_ _ h=>h⟩
def Wk.set {σ':St}{i:Nat}(w:Wk σ σ')(h:σ[i]?=some none):Wk σ (σ'.set i o):=by
 refine ⟨by rw [yc];exact w.len,λj v e=>?_⟩;have ne:i≠j:=λz=>by rw [<- z,h] at e;cases e
 rw [yh ne];exact w.at' j v e
def Wk.one {i:Nat}(h:σ[i]?=some none):Wk σ (σ.set i o):=(Wk.refl σ).set h
def PTs (X:Cx)(ifs:EN)(t:TT):Prop :=
 ∀(tN:C4)(s:G2)(σ:St)(H:Hp)(Q:AJ),sS X tN σ H s->t σ H Q ->
  wpAny (model X.rD X.w) X.A (forIn ifs true λc r=>if r=true then do let ok <- isTrue c X.rC (eval c X.rC);pure (ForInStep.yield ok) else pure (ForInStep.yield r)) (TP X tN σ Q) X.xe s
def tYes:TT:=λ_ H Q=>Q true H
def i9 :PTs X [] tYes:=λ_ _ _ H _ I h=>wpAny_tests_nil ⟨H,I,h⟩
def Vf {t:TT}(h:PT X c t):PTs X [c] t:=λtN s σ H Q I q=>wpAny_tests_one (h tN s σ H Q I q)
def Gb (J:It)(g:TG)(tt:TT)(te:TE)(Q:VK)(σ0:St)(H1:Hp):Prop:=∃ W:Nat->Nat->EB->Hp->Prop,(∃ m,W 0 m [] H1)/\∀ i m ys H,W i m ys H->ys.length<=sizeLine /\
  ((J.stop i H/\∀ D,H D=none->Q (.ref D) (z9 H D (.lst ys))) ∨
   (J.go i H/\∀ x H',J.yld i H x H'->g x σ0 H' λσ2 H2=>Wk σ0 σ2/\tt σ2 H2 λb H3 =>
      if b=true then te σ2 H3 λv H4=>∃ m',m'<m/\W (i+1) m' (ys++[v]) H4 else ∃ m',m'<m/\W (i+1) m' ys H3))
def Xd (wi:TI)(g:TG)(tt:TT)(te:TE)(tK:C9):TE:=λσ H Q=>wi σ H λJ H1=>Gb J g tt te Q (m9 tK σ) H1
section
variable{tK:C9}
def KP {g:TG}{H2:Hp}{it:Addr}{tn:AZ}{J:It}{E:AA}{RR:G1->Addr->Result->G2->Prop}(S:Qf X N' tK sc)(hc:X.calm=true)(hc1:∀ x c,cl.lookup x=some c->X.rC.cells.lookup x=some c)(hc2:∀ y∈sc.names,y.2 = .free->∃ c,cl.lookup y.1=some c)(hg:∀ C pn,PG (xk X N' sc cl C s₂ H2 fp pn) tg g)(ht:∀ C pn,PTs (xk X N' sc cl C s₂ H2 fp pn) ifs tt)(he:∀ C pn,PE (xk X N' sc cl C s₂ H2 fp pn) elt te)(I2:sS X tN σ H2 s₂)(T:jY X.rD X.w X.K tg J fp it tn)(st2:tn 0 s₂.heap)(f2:∀ b∈fp,xN X tN H2 b)(W:Nat->Nat->EB->Hp->Prop)(w0:∃ m,W 0 m [] H2)(turn:∀ i m ys H,W i m ys H->ys.length<=sizeLine /\ ((J.stop i H/\∀ D,H D=none->Q (.ref D) (z9 H D (.lst ys)))∨(J.go i H/\∀ x H',J.yld i H x H'->g x (m9 tK σ) H' λσ2 H2=>Wk (m9 tK σ) σ2/\tt σ2 H2 λb H3 => if b=true then te σ2 H3 λv H4=>∃ m',m'<m/\W (i+1) m' (ys++[v]) H4 else ∃ m',m'<m/\W (i+1) m' ys H3)))(hRR:∀ D C H' s' m,sS X tN σ H' s'->s'.heap.Ns C m->xN X tN H' C->Q (.ref D) H'->RR (.ref D) C (.ok .next) s'):wpAny (model X.rD X.w) X.A (newList []) (λacc s₃=>wpAny (model X.rD X.w) X.A (newFunctionEnv sc X.rC.globals cl [] X.rC.qual none .none (some X.rC)) (λcenv s₄ => codeAny (model X.rD X.w) X.A (.compStart (.ListComp elt [⟨tg,iter,ifs,0⟩] sc pos) 0 (.ref it) acc { cenv with scope:=relabel sc X.rC }) (RR acc cenv.locals) s₄) E s₃) E s₂:=by
  refine oR (wpAny_newFunctionEnv S.nocell (by intro y hy;simp at hy) (λh₁ hns₁ hsb₁=>?_) S.kind)
  dsimp only at hns₁ hsb₁ ⊢
  generalize hG:s₂.heap.push { cls:= .type "list",dict:=none,data:= .seq ([]:C8).toArray }=G at hns₁ hsb₁ ⊢;have hC:G.objs.size=s₂.heap.objs.size+1:=by rw [<- hG,uB]
  have hDC:s₂.heap.objs.size<G.objs.size:=by rw [hC];exact uq _
  have old:∀ b o,s₂.heap.get? b=some o->h₁.get? b=some o:=λb o e =>
    hsb₁.extBut b o (yG (Nat.lt_trans (yN e) hDC)) (yW _ (hG▸yW _ e))
  have hacc:h₁.get? s₂.heap.objs.size=some (LCg.lst []):=hsb₁.extBut _ _ (yG hDC) (yW _ (hG▸yz _ rfl));have fl:∀ b∈fp,b<s₂.heap.objs.size:=λb hb=>by obtain ⟨o,e,_⟩:=T.obj _ _ st2 b hb;exact yN e
  have seqd:∀(us:C8) v,(LCg.lst us).data ≠ .cell v:=λus v z=>by cases z
  have cellt:∀ x c,cl.lookup x=some c->c<s₂.heap.objs.size:=λx c e=>by obtain ⟨v,oc,ho,_⟩:=I2.cell x c (hc1 x c e);exact yN ho
  have pint:∀ p∈X.pn++tN,p.1<s₂.heap.objs.size:=λp hp=>yN (I2.pin p hp).1;have I0:sS (xk X N' sc cl G.objs.size s₂ H2 fp (X.pn++tN)) [(s₂.heap.objs.size,LCg.lst [])] (m9 tK σ) H2 { s₂ with heap:=h₁,toks:=s₂.toks+([]:ET).length } :=
    NL I2 S hc1 hc2 f2 fl (yP _) hDC hacc (seqd []) hns₁ old _
  have stat:∀{H':Hp}{us:C8},(∀ b∈fp,H' b=none)->∀ b∈fp,xN (xk X N' sc cl G.objs.size s₂ H2 fp (X.pn++tN)) [(s₂.heap.objs.size,LCg.lst us)] H' b:=λ{H' us} hn b hb=>by
    obtain ⟨f0,f1,f2',f3,f4,f5⟩:=f2 b hb;refine ⟨hn b hb,yG (Nat.lt_trans (fl b hb) hDC),λhz=>?_,.inl hb,λx c e=>f4 x c (hc1 x c e),λp hp=>?_⟩
    . rcases yL.mp (I2.stkSub b hz) with e|e
      . exact f1 e
      . exact f2' e
    . rcases yF.mp hp with hp|hp
      . exact f5 p hp
      . have e:p=(s₂.heap.objs.size,LCg.lst us):=by simpa using hp
        rw [e];exact Ne.symm (yG (fl b hb))
  have loop:∀ s₃:G2,s₃={ s₂ with heap:=h₁,toks:=s₂.toks+([]:ET).length } ->
      codeAny (model X.rD X.w) X.A (.compLoop (.ListComp elt [⟨tg,iter,ifs,0⟩] sc pos) 0 (.ref it) (.ref s₂.heap.objs.size) (compEnvC sc cl G.objs.size X.rC)) (RR (.ref s₂.heap.objs.size) G.objs.size) s₃:=by
    rintro s₃ rfl;obtain ⟨m0,w0⟩:=w0;refine Ly
      (λn s'=>∃ i ys us H',sS (xk X N' sc cl G.objs.size s₂ H2 fp (X.pn++tN)) [(s₂.heap.objs.size,LCg.lst us)] (m9 tK σ) H' s'/\sP ys us/\tn i s'.heap/\(∀ b∈fp,H' b=none)/\W i n ys H') ?_ m0
      ⟨0,[],[],H2,I0,.nil,T.keep _ _ _ st2 λb _ o e=>old b o e,λb hb=>(f2 b hb).1,w0⟩
    rintro n s3 ⟨i,ys,us,H3,I3,rv,st3,fr3,w3⟩;obtain ⟨hz,alt⟩:=turn i n ys H3 w3;rcases alt with ⟨stop,fin⟩|⟨go,step⟩
    . refine j7 (T.done (xk X N' sc cl G.objs.size s₂ H2 fp (X.pn++tN)) rfl rfl rfl hc i _ s3 _ H3 _ I3 (stat fr3) st3 stop) λr s4 ⟨hr,I4⟩=>?_
      subst hr;obtain ⟨gD,nD,_,_,_⟩:=I4.pin (s₂.heap.objs.size,LCg.lst us) (yw _ (yU.mpr rfl));have nD':H3 s₂.heap.objs.size=none:=nD;have gD':s4.heap.get? s₂.heap.objs.size=some (LCg.lst us):=gD;have b4:Un (t9 X.stack) fp H2 H3 s₂.heap s4.heap:=I4.tM;have n2:H2 s₂.heap.objs.size=none:=I2.tI.fresh (yP _);have un:Un (t9 X.stack) fp H2 (z9 H3 s₂.heap.objs.size (.lst ys)) s₂.heap s4.heap :=
        ⟨b4.keep,b4.slot,λb o e n hx=>by rw [j3 (yG (yN e))];exact b4.free b o e n hx,b4.there,
          λb xs e=>by rw [j3 (k9 e n2)];exact b4.tups b xs e,λb o u e=>by rw [j3 (k9 e n2)];exact b4.frzs b o u e,
          λb ps q e=>by rw [j3 (k9 e n2)];exact b4.tbls b ps q e⟩
      have tI:sE X.rD X.w (z9 H3 s₂.heap.objs.size (.lst ys)) s4.heap:=λb u e=>by
        by_cases hb:b=s₂.heap.objs.size
        . subst hb
          rw [u5] at e;cases e;exact ⟨hz,us,us.length,rv,gD'⟩
        . rw [j3 hb] at e
          exact (I4.tI b u e).stay (λc v _ q=>q) (λc q=>by rw [j3 (k9 q nD')];exact q) (λc xs q=>by rw [j3 (k9 q nD')];exact q) λc _ _ q=>by rw [j3 (k9 q nD')];exact q
      have IF:sS X tN σ (z9 H3 s₂.heap.objs.size (.lst ys)) s4:=I2.call' (ch:=fp) I4.os un tI I4.bare λb hb=>by
        obtain ⟨f0,f1,f2',f3,f4,f5⟩:=f2 b hb;exact ⟨f3,f1,f4,f5⟩
      obtain ⟨mF,hnF,_⟩:=I4.loc;refine hRR _ _ _ _ mF IF hnF (I2.fpOk (uJ hDC) ?_) (fin _ nD');rw [j3 (Ne.symm (yG hDC))];exact I4.free
    . refine j7 (T.item (xk X N' sc cl G.objs.size s₂ H2 fp (X.pn++tN)) rfl rfl rfl hc i _ s3 _ H3 _ I3 (stat fr3) st3 go) λr s4 ⟨u,hr,h4⟩=>?_
      subst hr;refine j7 h4 λ_ s5 ⟨x,H5,I5,r5,y5,st5,fr5⟩=>?_;have I5':=I5.pinned (stat fr5) (T.obj _ _ st5);refine j7 (hg G.objs.size (X.pn++tN) _ s5 _ H5 x u _ I5' r5 (step x H5 y5)) λ_ s6 ⟨σ6,H6,I6,wk,q6⟩=>?_;refine j7 (ht G.objs.size (X.pn++tN) _ s6 σ6 H6 _ I6 q6) λok s7 ⟨H7,I7,q7⟩=>?_;have back:∀{σ8:St}{H8:Hp}{s8:G2}{us8:C8},sS (xk X N' sc cl G.objs.size s₂ H2 fp (X.pn++tN)) ([(s₂.heap.objs.size,LCg.lst us8)]++Zp fp s5.heap) σ8 H8 s8 ->
          tn (i+1) s8.heap/\∀ b∈fp,H8 b=none:=λ{σ8 H8 s8 us8} I8=>by
        refine ⟨T.keep _ _ _ st5 λb hb o e=>(I8.pin (b,o) (yw _ (yw _ (JR hb e)))).1,λb hb=>?_⟩;obtain ⟨o,e,d⟩:=T.obj _ _ st5 b hb;exact (I8.pin (b,o) (yw _ (yw _ (JR hb e)))).2.1
      cases ok with
      |false=>obtain ⟨m',hm,w7⟩:=q7;obtain ⟨t7,f7⟩:=back I7;exact ⟨m',hm,i+1,ys,us,H7,I7.unpinned.weak wk.len wk.at',rv,t7,f7,w7⟩
      |true =>
        refine j7 (he G.objs.size (X.pn++tN) _ s7 σ6 H7 _ I7 q7) λuv s8 ⟨v,H8,I8,r8,m',hm,w8⟩=>?_;obtain ⟨t8,f8⟩:=back I8;obtain ⟨gD,nD,lD,fD,_⟩:=I8.pin (s₂.heap.objs.size,LCg.lst us) (yw _ (yo _ (yU.mpr rfl)));have gD':s8.heap.get? s₂.heap.objs.size=some { cls:= .type "list",data:= .seq us.toArray us.length }:=gD;refine append_at (hsz:=by rw [yT,<- rv.length];exact hz) gD' λh9 hs9 hD9=>?_;have I8a:sS (xk X N' sc cl G.objs.size s₂ H2 fp (X.pn++tN)) [] σ6 H8 s8:=I8.pins_of λp hp=>nomatch hp;have I9:sS (xk X N' sc cl G.objs.size s₂ H2 fp (X.pn++tN)) [] σ6 H8 { s8 with heap:=h9,toks:=s8.toks } :=
          I8a.turned (it:=s₂.heap.objs.size) (λb o hb e=>hs9.extBut b o hb e) nD lD (.inr (yP _)) (λx c e=>yG (cellt x c e)) λp hp=>by
            rw [yp] at hp;exact yG (pint p hp)
        have I10:sS (xk X N' sc cl G.objs.size s₂ H2 fp (X.pn++tN)) [(s₂.heap.objs.size,LCg.lst (us++[uv]))] σ6 H8 { s8 with heap:=h9,toks:=s8.toks }:=I9.pins_of λp hp=>by
          have e:p=(s₂.heap.objs.size,LCg.lst (us++[uv])):=by simpa using hp
          subst e;exact ⟨hD9.trans (pL some (LCg.lst_snoc us uv)),nD,lD,fD,seqd _⟩
        refine ⟨m',hm,i+1,ys++[v],us++[uv],H8,I10.weak wk.len wk.at',rv.append (.cons r8 .nil),T.keep _ _ _ t8 λb hb o e=>hs9.extBut b o (yG (fl b hb)) e,f8,w8⟩
  have st1:tn 0 h₁:=T.keep _ _ _ st2 λb _ o e=>old b o e;exact codeAny_compStart_list (loop _ rfl) (T.self _ 0 _ _ _ st1 (loop _ rfl))
def qu {g:TG}(S:Qf X N' tK sc)(hc:X.calm=true)(hi:PI X tg iter wi)(hg:∀ cl C s H fp pn,PG (xk X N' sc cl C s H fp pn) tg g)(ht:∀ cl C s H fp pn,PTs (xk X N' sc cl C s H fp pn) ifs tt)(he:∀ cl C s H fp pn,PE (xk X N' sc cl C s H fp pn) elt te)(hs:∀ x,foldedSetIterable iter X.rC x=pure x:=by intro _;rfl):PE X (.ListComp elt [⟨tg,iter,ifs,0⟩] sc pos) (Xd wi g tt te tK):=by intro tN s σ H Q I h;rw [eval_ListComp];obtain ⟨cl,hcl,hc1,hc2⟩:=KO (scope:=sc) (env:=X.rC) λy hy e=>I.ok.has y.1 (S.free y hy e);refine wpAny_comprehension_free (use:=none) rfl hs hcl S.kind S.names (j7 (hi tN s σ H _ I h) λv s1 h1=>j7 h1 λitv s2 h2=>?_);obtain ⟨it,fp,tn,J,H2,e,I2,T,st2,f2,W,w0,turn⟩:=h2;subst e;refine KP (RR:=λacc C=>compPost (model X.rD X.w) X.A X.xe none (EP X tN σ Q) acc C) S hc hc1 hc2 (λC pn=>hg cl C s2 H2 fp pn) (λC pn=>ht cl C s2 H2 fp pn) (λC pn=>he cl C s2 H2 fp pn) I2 T st2 f2 W w0 turn ?_;intro D C H' s' m I' hn F q;obtain ⟨f0,f1,f2',f3,f4,f5⟩:=F;exact ⟨m,hn,λh' hs'=>⟨.ref D,H',I'.turned (t':=s'.toks) (λb o hb e=>hs'.extBut b o hb e) f0 f1 f3 f4 f5,rfl,q⟩⟩
def jt {i:Nat}{spos pos':Pos}{g:TG}(S:Qf X N' tK sc)(hc:X.calm=true)(hN:X.N.Nodup)(hx:X.N[i]?=some x)(hk:X.rC.scope.names.lookup x=some .local)(hi:PI X tg iter wi)
  (hg:∀ cl C s H fp pn,PG (xk X N' sc cl C s H fp pn) tg g) (ht:∀ cl C s H fp pn,PTs (xk X N' sc cl C s H fp pn) ifs tt) (he:∀ cl C s H fp pn,PE (xk X N' sc cl C s H fp pn) elt te)
  (hsw:swapsWith (.ListComp elt [⟨tg,iter,ifs,0⟩] sc pos) (some (.Name x pos')) spos.line X.rC=pure true:=by rfl)
  (hs:∀ x,foldedSetIterable iter X.rC x=pure x:=by intro _;rfl):PS X (.Assign [.Name x pos'] (.ListComp elt [⟨tg,iter,ifs,0⟩] sc pos) spos) (jw (Xd wi g tt te tK) (xE i)):=by
 intro tN s σ H D I h;rw [exec_Assign_Name_used _ _ _ _ hsw];refine yY (oN (yY ?_));show wpAny _ X.A (do let _ <- comprehension (.ListComp elt [⟨tg,iter,ifs,0⟩] sc pos) sc X.rC _ (newList []) false (eval iter X.rC) (some (assign (.Name x pos') X.rC))) _ _ s;obtain ⟨cl,hcl,hc1,hc2⟩:=KO (scope:=sc) (env:=X.rC) λy hy e=>I.ok.has y.1 (S.free y hy e);refine yY (j7 (wpAny_comprehension_free (use:=some (assign (.Name x pos') X.rC)) (Q:=λ_ s'=>SP X tN D .next s') rfl hs hcl S.kind S.names
  (j7 (hi tN s σ H _ I h) λv s1 h1=>j7 h1 λitv s2 h2=>?_)) λ_ s' hq=>yI (yI hq))
 obtain ⟨it,fp,tn,J,H2,e,I2,T,st2,f2,W,w0,turn⟩:=h2;subst e;refine KP (Q:=λv H1=>xE i v σ H1 D.nx) (RR:=λacc C=>compPost (model X.rD X.w) X.A X.xe (some (assign (.Name x pos') X.rC)) (λ_ s'=>SP X tN D .next s') acc C) S hc hc1 hc2 (λC pn=>hg cl C s2 H2 fp pn) (λC pn=>ht cl C s2 H2 fp pn) (λC pn=>he cl C s2 H2 fp pn) I2 T st2 f2 W w0 turn ?_;intro E C H' s' m I' hn F q;obtain ⟨f0,f1,f2',f3,f4,f5⟩:=F;show wpAny _ X.A (assign (.Name x pos') X.rC (.ref E)) _ _ _;refine wpAny_assign_Name (Df I' hN hx (.inl hk) (v:= .ref E) rfl (λs'' I'' ch=>?_) (.inr hk));obtain ⟨a,sb,ha⟩:=ch;have nC:C≠a:=by
  rcases ha with z|z
  .rw [z];exact f1
  .exact Ne.symm (f4 x a z)
 exact ⟨m,hn.sameBut sb nC,λh' hs'=>⟨_,H',I''.turned (t':=s''.toks) (λb o hb e=>hs'.extBut b o hb e) f0 f1 f3 f4 f5,q⟩⟩
end
section
variable{g:TG}
def KQ {a:Addr}{xs:EB}(Pv:Nat->EB->Hp->Prop)(h0:Pv 0 [] H)(hz:∀ i ys H,i<=xs.length->Pv i ys H->ys.length<=sizeLine)(hl:∀ i ys H,i<=xs.length->Pv i ys H->sK K H a xs)(hs:∀ i x ys H (R:AQ),xs[i]?=some x->Pv i ys H->(∀ ys' H',Pv (i+1) ys' H'->R ys' H')->g x σ0 H λσ2 H2=>Wk σ0 σ2/\tt σ2 H2 λb H3=>if b=true then te σ2 H3 λv H4=>R (ys++[v]) H4 else R ys H3)(hd:∀ ys H,Pv xs.length ys H->∀ D,H D=none->Q (.ref D) (z9 H D (.lst ys))):Gb (Itl K a) g tt te Q σ0 H:=by
 refine ⟨λi m ys H=>m=xs.length-i/\i<=xs.length/\Pv i ys H,⟨xs.length,by simp,yd _,h0⟩,?_⟩;rintro i m ys H ⟨rfl,hi,p⟩;have q:=hl i ys H hi p;refine ⟨hz i ys H hi p,?_⟩;by_cases hlt:i<xs.length
 .refine .inr ⟨⟨xs,xs[i],q,by simp [hlt]⟩,λx H' y=>?_⟩;obtain ⟨e,y⟩:=y;subst e;exact hs i x ys _ (λys' H'=>∃ m',m'<xs.length-i/\m'=xs.length-(i+1)/\i+1<=xs.length/\Pv (i+1) ys' H') (y xs q) p λys' H' p'=>⟨xs.length-(i+1),by omega,rfl,hlt,p'⟩
 .have e:i=xs.length:=by omega
  subst e;exact .inl ⟨⟨xs,q,yP _⟩,hd ys H p⟩
end
def tyB (T c:String):Option Bool:=if (Value.type T==Value.type c)=true then some true else if PySem.W.kitMeta c=true then (fastBuiltinMro T).map (·.contains (Value.type c)) else none
def Hr {T c:String}{b:Bool}(h:tyB T c=some b):PySem.W.kitOne K (.type T) (.type c)=some b:=h
def Op:tyB "int" "int"=some true:=by decide +kernel
def Oo:tyB "int" "bool"=some false:=by decide +kernel
def Oq:tyB "list" "list"=some true:=by decide +kernel
def Os:tyB "str" "str"=some true:=by decide +kernel
def zp:bootBuiltins "isinstance"=some (.builtin "isinstance"):=by decide +kernel
def vF:bootBuiltins "list"=some (.type "list"):=by decide +kernel
def MN:bootBuiltins "int"=some (.type "int"):=by decide +kernel
def MK:bootBuiltins "bool"=some (.type "bool"):=by decide +kernel
def KG:bootBuiltins "str"=some (.type "str"):=by decide +kernel
def wn:bootBuiltins "all"=some (.builtin "all"):=by decide +kernel
def VC:bootBuiltins "sum"=some (.builtin "sum"):=by decide +kernel
def MP:bootBuiltins "min"=some (.builtin "min"):=by decide +kernel
def ML:bootBuiltins "enumerate"=some (.type "enumerate"):=by decide +kernel
def MT:bootBuiltins "zip"=some (.type "zip"):=by decide +kernel
def MZ:sI X (.builtin "isinstance") (λxs H Q=>∃ x n T b,xs=[x,.ty n]/\xW X.K H x (.type T)/\tyB T n=some b/\Q (.bl b) H):=by intro tN s σ H xs us Q I r h;obtain ⟨x,n,T,b,rfl,ty,e,q⟩:=h;obtain ⟨u,w',rfl,rx,rw'⟩:=US r;obtain rfl:w'=Value.type n:=rw';exact NR I rx ty (Hr e) λtk=>⟨.bl b,H,I.tok _,rfl,q⟩
theorem DM:∀{bs:F9}{us:C8}{i:Nat}{u:G1},sP (bs.map V.bl) us->us[i]?=some u->u = .bool (bs.getD i false)
 |[],_,_,_,.nil,e=>by simp at e
 |b::_,_,0,_,.cons r _,e=>by
  have e':=Option.some.inj e;subst e';exact r
 |_::bs,_,i+1,u,.cons _ t,e=>by
  have q:=DM (i:=i) (u:=u) t (by simpa using e);simpa using q
def Mq:∀(bs:F9),(List.range bs.length).all (λi=>bs.getD i false)=bs.all id:=by
 intro bs;rw [Bool.eq_iff_iff,uY,uY];constructor
 .intro h b hb;obtain ⟨i,hi,e⟩:=uD hb;have q:=h i (uP.mpr hi);rw [yy,yS hi] at q;rw [<- e];exact q
 .intro h i hi;have hi':=uP.mp hi;rw [yy,yS hi'];exact h _ (yf hi')
def MW (hc:X.calm=true):sI X (.builtin "all") (λxs H Q=>∃ (a:Addr) (bs:F9),xs=[.ref a]/\sK X.K H a (bs.map V.bl)/\Q (.bl (bs.all id)) H):=by
 intro tN s σ H xs us Q I r h;obtain ⟨a,bs,rfl,hq,q⟩:=h;obtain ⟨u,rfl,ru⟩:=zk r;obtain rfl:u=Value.ref a:=ru;obtain ⟨its,rv,p,hz⟩:=I.list hq;have hlt:a<s.heap.objs.size:=by obtain ⟨_,_,e,_⟩:=p;exact yN e
 have hl:s.heap.IsList a its.toArray:=p.isList;refine call_all_walk (pz hl ?_);refine ⟨s.heap.objs.size,_,_,_,_,_,λi=>bs.getD i false,rfl,Walks.list (A:=X.A.in1) (I.ok.hd hc) s.heap.objs.size a (yG hlt) its.toArray,⟨⟨_,yz _ rfl,rfl,rfl⟩,hl.push _⟩,?_,λh' tk k=>?_⟩
 .intro i v s' Q' E' hP hQ;have e:=DM rv (by simpa using hP);subst e;exact pY hQ
 .have hn:its.toArray.size=bs.length:=by have e:=rv.length;rw [yZ] at e;rw [yT];exact e.symm
  rw [hn,Mq];refine ⟨.bl (bs.all id),H,I.kept (t':=tk) (λb o e=>k b o (λhm=>?_) (yW _ e)),rfl,q⟩;have e':b=s.heap.objs.size:=by simpa using hm
  exact rp (yN e) (by rw [e'];exact uT _)
theorem UU:∀{ns:EH}{us:C8},sP (ns.map V.int) us->IntsAre us ns
 |[],_,.nil=> .nil
 |n::_,_,.cons ⟨t,e⟩ r=>by
  subst e;exact .cons n t (UU r)
def KI (hc:X.calm=true):sI X (.builtin "sum") (λxs H Q=>∃ (a:Addr) (ns:EH),xs=[.ref a]/\sK X.K H a (ns.map V.int)/\Q (.int ns.sum) H):=by
 intro tN s σ H xs us Q I r h;obtain ⟨a,ns,rfl,hq,q⟩:=h;obtain ⟨u,rfl,ru⟩:=zk r;obtain rfl:u=Value.ref a:=ru;obtain ⟨its,rv,p,hz⟩:=I.list hq;have hi:=UU rv;have hl:s.heap.IsList a its.toArray:=p.isList;obtain ⟨xs,ex⟩:=hi.allInts.items;have e2:(numsOf its.toArray.toList).sum=ns.sum:=by rw [show its.toArray.toList=its from rfl,hi.numsOf]
 rw [ex] at hl e2;rw [nums_intItems] at e2;refine sum_intListG (I.ok.hd hc) hl λh' tk t' k=>⟨.int ns.sum,H,I.kept (t':=tk) k,?_,q⟩;rw [preSum_eq,tW (by simp),e2];exact ⟨_,rfl⟩
def Xj (_i j:Int):Prop:=0<j/\j.natAbs.log2<9000
def PL:OpR X (binaryOp .FloorDiv) (rI Xj λi j=> .int (i / j)):=opI λi j _ _ _ _ _ hc q=>by
 have e:i.fdiv j=i / j:=Int.fdiv_eq_ediv_of_nonneg i (Int.le_of_lt hc.1);exact floordiv_int (Ne.symm (Int.ne_of_lt hc.1)) (by rw [e];exact q) (.inl (PyProof.noPylong_of_log2 hc.2))
def Xk (i j:Int):Prop:=Builtin.Int.intBits i<=2 ^ 20/\Builtin.Int.intBits j<=2 ^ 20
def JV:OpR X (binaryOp .Mult) (rI Xk λi j=> .int (i*j)):=opI λ_ _ _ _ _ _ _ hc q=>mul_int q (IntMulOk.of_bits hc.1 hc.2)
def Its (lo c:Int)(n:Nat):It:=⟨λi _=>i<n,λi H x H'=>H'=H/\x = .int (lo+i*c),λi _=>n<=i⟩
def Od {P:G3}(it:Addr)(lo c:Int)(n:Nat):jY P w K tg (Its lo c n) [it] it (λi h=>IsRangeIter h it (lo+(i:Nat)*c) ((n:Int)-(i:Nat)) c) where
 mem:=by simp
 obj:=λi h st b hb=>by
  have e:b=it:=by simpa using hb
  subst e;exact ⟨_,st,λv z=>by
   have z':Data.fields _=Data.cell v:=z;cases z'⟩
 keep:=λi h h' st k=>k it (by simp) _ st
 item:=by intro X hP hw hK hc i tN s σ H E I hf st hg;subst hP hw hK;obtain ⟨f0,f1,f2,f3,f4,f5⟩:=hf it (by simp);have W:=Walks.range (prog:=X.rD) (w:=X.w) (I.ok.hd hc) it lo c n;refine W.item i s _ _ hg st λv h' tk hv st' kk=>?_;obtain ⟨t,rfl⟩:=hv;have I1:sS X tN σ H { s with heap:=h',toks:=tk }:=I.turned (λb o hb e=>kk b o (by simpa using hb) e) f0 f1 f3 f4 f5;exact ⟨_,rfl,Jw (s:={ s with heap:=h',toks:=tk }) (n:="range_iterator") st' rfl rfl (by decide) ⟨.int (lo+i*c),H,I1,⟨t,rfl⟩,⟨rfl,rfl⟩,st',λb hb=>(hf b hb).1⟩⟩
 done:=by intro X hP hw hK hc i tN s σ H E I hf st hg;subst hP hw hK;obtain ⟨f0,f1,f2,f3,f4,f5⟩:=hf it (by simp);exact wpAny_pyNext_range_end (I.ok.hd hc) st (by have:n<=i:=hg;omega) λh' eb=>⟨rfl,I.turned (t':=s.toks) (λb o hb e=>eb b o hb e) f0 f1 f3 f4 f5⟩
 self:=λ_ _ _ _ _ st h=>wpAny_pyIter_rangeiter st h
def vx (i j c:Int):Nat:=(Builtin.Range.rangeSize i j c).toNat
def iRng3 (ta:TA):TI:=λσ H R=>ta σ H λvs H1=>∃ i j c:Int,vs=[.int i,.int j,.int c]/\(0<c/\c<1073741824)/\0<=Builtin.Range.rangeSize i j c/\Builtin.Range.small i j c=true/\R (Its i c (vx i j c)) H1
def Sx {a b:Expr}{ta:TA}(hg:Gl X "range")(hm:X.mg "range"=none)(ha:PA X [a,b,c] ta)(hs:starEach [a,b,c] X.rC=[(false,eval a X.rC),(false,eval b X.rC),(false,eval c X.rC)]:=by rfl)(hs2:starEach [b,c] X.rC=[(false,eval b X.rC),(false,eval c X.rC)]:=by rfl):PI X tg (.Call (.Name "range" p) [a,b,c] [] pos) (iRng3 ta):=by
 intro tN s σ H R I h;refine Call_ (jL I hg hm boot_range (pS (j7 (ha pos tN s σ H _ I h) λus s1 ⟨vs,H1,I1,r1,q1⟩=>?_) (by rw [hs,hs2]) (by rw [hs2];rfl)));obtain ⟨i,j,c,e,⟨q1,q2⟩,q3,q4,q⟩:=q1;subst e;cases r1 with
 |cons r rr =>
  cases rr with
  |cons r' rr =>
   cases rr with
   |cons r'' rr =>
    cases rr;obtain ⟨t,rfl⟩:=r;obtain ⟨t',rfl⟩:=r';obtain ⟨t'',rfl⟩:=r'';refine call_range_3 (Ne.symm (Int.ne_of_lt q1)) ?_ (.inl (PyProof.noPylong_small (by omega)));refine wpAny_pyIter_range (IsRange.new ..) q4 ?_;have I2:sS X tN σ H1 { s1 with heap:=s1.heap.push { cls:= .type "range",data:= .fields #[.int i t,.int j t',.int c t''] },toks:=s1.toks }:=I1.kept λb o e=>yW _ e;refine ⟨(s1.heap.push { cls:= .type "range",data:= .fields #[.int i t,.int j t',.int c t''] }).objs.size,[(s1.heap.push { cls:= .type "range",data:= .fields #[.int i t,.int j t',.int c t''] }).objs.size],_,_,H1,rfl,
     I2.kept (t':=s1.toks) λb o e=>yW _ e,Od _ i c (vx i j c),?_,λb hb=>?_,q⟩
    .have e1:i+((0:Nat):Int)*c=i:=by simp
     have e2:((vx i j c:Nat):Int)-((0:Nat):Int)=Builtin.Range.rangeSize i j c:=by unfold vx;omega
     show IsRangeIter _ _ (i+((0:Nat):Int)*c) (((vx i j c:Nat):Int)-((0:Nat):Int)) c;rw [e1,e2];exact yz _ rfl
    .have e:b=(s1.heap.push { cls:= .type "range",data:= .fields #[.int i t,.int j t',.int c t''] }).objs.size:=by simpa using hb
     subst e;exact I2.fpOk (yP _) (I2.tI.fresh (yP _))
def Nf {lo c:Int}{n:Nat}{g:TG}{tb:TS}{D:xy}(Pv:Nat->St->Hp->Prop)(h0:Pv 0 σ H)(hs:∀ i σ H,i<n->Pv i σ H->g (.int (lo+i*c)) σ H λσ2 H2=>tb { D with nx:=Pv (i+1),ct:=Pv (i+1),bk:=D.nx } σ2 H2)(hd:∀ σ H,Pv n σ H->D.nx σ H):∃ W:Nat->Nat->St->Hp->Prop,(∃ m,W 0 m σ H)/\∀ i m σ H,W i m σ H -> ((Its lo c n).stop i H/\D.nx σ H)∨((Its lo c n).go i H/\∃ N:St->Hp->Prop,(∀ σ' H',N σ' H'->∃ m',m'<m/\W (i+1) m' σ' H')/\∀ x H',(Its lo c n).yld i H x H'->g x σ H' λσ2 H2=>tb { D with nx:=N,ct:=N,bk:=D.nx } σ2 H2):=by
 refine ⟨λi m σ H=>m=n-i/\i<=n/\Pv i σ H,⟨n,by simp,yd _,h0⟩,?_⟩;rintro i m σ H ⟨rfl,hi,p⟩;by_cases hlt:i<n
 .refine .inr ⟨hlt,Pv (i+1),λσ' H' p'=>⟨n-(i+1),by omega,rfl,hlt,p'⟩,λx H' y=>?_⟩;obtain ⟨e,y⟩:=y;subst e y;exact hs i σ _ hlt p
 .have e:i=n:=by omega
  subst e;exact .inl ⟨yP _,hd σ H p⟩
section
open PySem.SeqAt
theorem zH {α β:Type}{F:α->β->Prop}:∀{l₁:List α}{l₂:List β},Paired F l₁ l₂->∀(j:Nat)(h1:j<l₁.length)(h2:j<l₂.length),F l₁[j] l₂[j]
 |_,_,.cons r _,0,_,_=>r
 |_,_,.cons _ t,j+1,h1,h2=>zH t j (by simpa using h1) (by simpa using h2)
end
structure Fn (P:G3)(w:G5)(K:Fg)(mg:AB)(tM:Heap)(k:Nat)(x:Str)(ps:C7)(sp:Sp):Prop where
 ex:∃ f fd,sQ P w K mg tM v8 k f fd ps sp/\mg x=some (.ref f)/\PySem.W.keepIn K (.ref f)=true/\Binds K fd ps []
section
variable{k:Nat}
def qR (c:Fn X.rD X.w X.K X.mg X.tM k x ps sp)(hr:Room j X.A)(hj:k<=j)(hg:Gl X x)(ha:PA X (e::es) t)(hdb:(x==("__debug__":Str))=false:=by decide)(he:starEach (e::es) X.rC=(false,eval e X.rC)::starEach es X.rC:=by rfl)(hpl:(backTo pos (starEach es X.rC)).any (·.1)=false:=by rfl):PE X (.Call (.Name x p) (e::es) [] pos) (xT sp [] E0 t):=by obtain ⟨f,fd,F,hm,hk,hb⟩:=c.ex;exact PX F (hr.mono hj) hg hm hk hb .nil JY ha hdb he hpl
end
end L2
namespace L2
open PySem PySem.Spec PyProof.Rows
variable{X:Cx}{tN:C4}{σ:St}{H H' H0:Hp}{s:G2}{tM h0:Heap}{o:HO}{A:G4}{Er:AA}{env:Env}{tL:EK}{C L e ea:Addr}{cls:G1}{Q:AE}{E:XK}{cpos np:Pos}{p pos px tp:Pos}{a:Expr}{b:Addr}{P:G3}{w:G5}{K:Fg}{elts:EN}{x1:Nat}{ta:TA}{x:Str}{l:EK}{S:EC}{h h':Heap}{p2:C4}{oe:Obj}
def sS.turnedL {t':Nat}{ch:EC}(I:sS X tN σ H s)(k:∀ b o,b∉ch->s.heap.get? b=some o->h'.get? b=some o)(hf:∀ b∈ch,xN X tN H b):sS X tN σ H { s with heap:=h',toks:=t' }:=by
 have nit:∀ b u,H b=some u->b∉ch:=λb u e z=>by rw [(hf b z).1] at e;cases e
 have nL:X.rC.locals∉ch:=λz=>(hf _ z).2.1 rfl;refine I.step (g':=s.gens) (d':=s.drawn) (ch:=ch) (λb hb=>?_) (λb o _ _ hc e _=>k b o hc e) (λb o _ _ hc e _=>⟨o.slots,k b o hc e⟩) (λ_ _ _ _ n=>n)
  (λb o hc e=>⟨o,k b o hc e⟩) (λ_ _ e=>e) (λ_ _ _ e=>e) (λ_ _ _ e=>e) (λm hm=>?_) (λb u e=>?_) I.bare
 .obtain ⟨f0,f1,f2,f3,f4,f5⟩:=hf b hb;exact ⟨f3,f1,f4,f5⟩
 .obtain ⟨o,es,ep,ho,r⟩:=hm;exact ⟨o,es,ep,k _ o nL ho,r⟩
 .refine (I.tI b u e).stay (λc v hc q=>k c v ?_ q) (λ_ q=>q) (λ_ _ q=>q) λ_ _ _ q=>q;rcases hc with z|z
  .rw [z];exact nit b u e
  .exact nit c _ z
def sS.track {p:Addr}(I:sS X tN σ H s)(hp:X.s₀.heap.objs.size<=p)(hn:H p=none)(nL:p≠X.rC.locals)(nC:∀ x c,X.rC.cells.lookup x=some c->c≠p)(nP:∀ q∈X.pn++tN,q.1≠p)(new:sJ X.rD X.w (z9 H p o) s.heap p o):sS X tN σ (z9 H p o) s:=by
 refine ⟨I.ok,I.os,I.bare,⟨I.tM.keep,I.tM.slot,λb ob e n hx=>?_,I.tM.there,λb xs e=>?_,λb ob u e=>?_,λb ps q e=>?_⟩,I.loc,I.cell,?_,λx c e=>?_,λq hq=>?_,λb u e=>?_,I.len⟩
 .rw [j3 (yG (yx (yN e) hp))];exact I.tM.free b ob e n hx
 .have z:=I.tM.tups b xs e;rw [j3 (k9 z hn)];exact z
 .have z:=I.tM.frzs b ob u e;rw [j3 (k9 z hn)];exact z
 .have z:=I.tM.tbls b ps q e;rw [j3 (k9 z hn)];exact z
 .rw [j3 (Ne.symm nL)];exact I.free
 .rw [j3 (nC x c e)];exact I.freeC x c e
 .obtain ⟨a1,a2,a3⟩:=I.pin q hq;exact ⟨a1,by rw [j3 (nP q hq)];exact a2,a3⟩
 .by_cases hb:b=p
  .subst hb;rw [u5] at e;cases e;exact new
  .rw [j3 hb] at e;exact (I.tI b u e).stay (λc v _ q=>q) (λc q=>by rw [j3 (k9 q hn)];exact q) (λc xs q=>by rw [j3 (k9 q hn)];exact q) λc _ _ q=>by rw [j3 (k9 q hn)];exact q
def sS.seq_ne {a:Addr}{xs:EB}(I:sS X tN σ H s)(hq:sK X.K H a xs)(hf:xN X tN H b):a≠b:=by
 rintro rfl;rcases hq with (h|⟨o,h⟩)|⟨o,its,n,hk,_⟩
 .rw [hf.1] at h;cases h
 .rw [hf.1] at h;cases h
 .have e:=I.ok.mod.kin a o hk;rcases hf.2.2.2.1 with z|z
  .exact I.ok.noex a o e z
  .exact rp (yx (yN e) (yj I.ok.bsz z)) (uT _)
def Ite (K:Fg)(a:Addr):It :=
 ⟨λi H=>∃ xs x,sK K H a xs/\xs[i]?=some x,λi H x H'=>∃ p y,H p=none/\x = .ref p/\H'=z9 H p (.tup [.int i,y])/\∀ xs,sK K H a xs->xs[i]?=some y,λi H=>∃ xs,sK K H a xs/\xs.length<=i⟩
def Oa (a e it:Addr)(hne:e≠it):jY P w K (.Tuple elts x1 tp) (Ite K a) [e,it] e (λi h=>(∃ old,IsEnum h e it ((i:Nat):Int) old)/\h.IsListIter it a i) where
 mem:=by simp
 obj:=λi h st b hb=>by
  obtain ⟨⟨old,he⟩,hit⟩:=st;rcases yL.mp hb with rfl|hb
  .exact ⟨_,he,λv z=>by
    have z':Data.fields _=Data.cell v:=z;cases z'⟩
  .have eb:b=it:=by simpa using hb
   subst eb;obtain ⟨o,e1,c,d⟩:=hit;exact ⟨o,e1,λv z=>by rw [d] at z;cases z⟩
 keep:=λi h h' st k=>by
  obtain ⟨⟨old,he⟩,hit⟩:=st;exact ⟨⟨old,k e (by simp) _ he⟩,hit.at λo q=>k it (by simp) o q⟩
 item:=by
  intro X hP hw hK hc i tN s σ H E I hf st hg;subst hP hw hK;obtain ⟨⟨old,he⟩,hit⟩:=st;obtain ⟨xs,x,hq,hx⟩:=hg;obtain ⟨its,rv,p,hz⟩:=I.list hq;obtain ⟨u,hu,ru⟩:=rv.get hx;have fz:xN X tN H s.heap.objs.size:=I.fpOk (yP _) (I.tI.fresh (yP _));have lte:e<s.heap.objs.size:=yN he;have lti:it<s.heap.objs.size:=by obtain ⟨o,q,_⟩:=hit;exact yN q
  refine wpAny_pyNext_enum_item he hit p.isList (x:=u) (by simpa using hu) hne λh1 heo hit1 ht1 hz1 hk1=>⟨_,rfl,?_⟩;refine wpAny_letOwnedTupleGo_enum heo λh2 he2 hs2=>?_;have hs2':Heap.SameBut e h1 h2:=hs2;have I2:sS X tN σ H { s with heap:=h2,toks:=s.toks+1 }:=I.turnedL (ch:=[e,it]) (λb o hb q=>by
   have n1:b≠e:=λz=>hb (by rw [z];simp);have n2:b≠it:=λz=>hb (by rw [z];simp);exact hs2'.extBut b o n1 (hk1 b o n1 n2 q)) hf
  obtain ⟨f0,f1,f2,f3,f4,f5⟩:=fz;have tup:h2.get? s.heap.objs.size=some { cls:= .type "tuple",data:= .seq #[.int i s.toks,u] }:=hs2'.extBut _ _ (Ne.symm (yG lte)) ht1;refine ⟨.ref s.heap.objs.size,z9 H s.heap.objs.size (.tup [.int i,x]),I2.track I.sz f0 f1 f4 f5 ?_,rfl,⟨s.heap.objs.size,x,f0,rfl,rfl,λys hy=>by rw [I.list_inj hy hq];exact hx⟩,⟨⟨u,?_⟩,?_⟩,λb hb=>?_⟩
  .exact ⟨by show 2<=sizeLine;decide,[.int i s.toks,u],.cons ⟨_,rfl⟩ (.cons ru .nil),⟨_,tup,rfl,_,rfl⟩⟩
  .have ei:(((i+1:Nat):Int))=(i:Int)+1:=by omega
   rw [ei];exact he2
  .exact hit1.at λo q=>hs2'.extBut it o (Ne.symm hne) q
  .have nb:b≠s.heap.objs.size:=by
    rcases yL.mp hb with rfl|hb
    ·exact yG lte
    ·have eb:b=it:=by simpa using hb
     rw [eb];exact yG lti
   rw [j3 nb];exact (hf b hb).1
 done:=by intro X hP hw hK hc i tN s σ H E I hf st hg;subst hP hw hK;obtain ⟨⟨old,he⟩,hit⟩:=st;obtain ⟨xs,hq,hx⟩:=hg;obtain ⟨its,rv,p,hz⟩:=I.list hq;have hl:=rv.length;exact wpAny_pyNext_enum_end (I.ok.hd hc) he hit p.isList (by simp;omega) λh1 eb=>⟨rfl,I.turnedL (t':=s.toks) (ch:=[e,it]) (λb o hb q=>eb b o (λz=>hb (by rw [z];simp)) q) hf⟩
 self:=λ_ _ _ _ _ st h=>by
  obtain ⟨⟨old,he⟩,hit⟩:=st;exact wpAny_pyIter_enum he h
def Wd (K:Fg)(ta:TA):TI:=λσ H R=>ta σ H λvs H1=>∃ a,vs=[.ref a]/\(∃ xs,sK K H1 a xs)/\R (Ite K a) H1
def Sv (hg:Gl X "enumerate")(hm:X.mg "enumerate"=none)(ha:PA X [a] ta)(hs:starEach [a] X.rC=[(false,eval a X.rC)]:=by rfl):PI X (.Tuple elts x1 tp) (.Call (.Name "enumerate" p) [a] [] pos) (Wd X.K ta):=by
 intro tN s σ H R I h;refine Call_ (jL I hg hm ML (pS (j7 (ha pos tN s σ H _ I h) λus s1 ⟨vs,H1,I1,r1,q1⟩=>?_) hs rfl));obtain ⟨a,e,⟨xs,hq⟩,q⟩:=q1;subst e;cases r1 with
 |cons r rr =>
  cases rr;cases r;obtain ⟨its,rv,p,hz⟩:=I1.list hq;refine call_enumerate_list p.isList λh' he hit hsz hk=>?_;refine wpAny_pyIter_enum he ?_;refine ⟨s1.heap.objs.size+1,[s1.heap.objs.size+1,s1.heap.objs.size],_,_,H1,rfl,I1.kept (t':=s1.toks) hk,Oa a (s1.heap.objs.size+1) s1.heap.objs.size (ug (uq _)),⟨⟨_,he⟩,hit⟩,λb hb=>?_,q⟩;rcases yL.mp hb with rfl|hb
  .exact I1.fpOk (uh _) (I1.tI.fresh (uh _))
  .have eb:b=s1.heap.objs.size:=by simpa using hb
   subst eb;exact I1.fpOk (yP _) (I1.tI.fresh (yP _))
def Itz (K:Fg)(a b:Addr):It :=
  ⟨λi H=>∃ xs ys x y,sK K H a xs/\sK K H b ys/\xs[i]?=some x/\ys[i]?=some y,
   λi H z H'=>∃ p x y,H p=none/\z = .ref p/\H'=z9 H p (.tup [x,y])/\(∀ xs,sK K H a xs->xs[i]?=some x)/\∀ ys,sK K H b ys->ys[i]?=some y,
   λi H=>∃ xs ys,sK K H a xs/\sK K H b ys/\(xs.length<=i∨ys.length<=i)⟩
def Of (a b z TI TO i1 i2:Addr)(d:[z,TI,TO,i1,i2].Nodup):jY P w K (.Tuple elts x1 tp) (Itz K a b) [z,TI,TO,i1,i2] z (λi h=>IsZip h z TI TO .none/\IsPair h TI (.ref i1) (.ref i2)/\(∃ u v,IsPair h TO u v)/\h.IsListIter i1 a i/\h.IsListIter i2 b i) where
 mem:=by simp
 obj:=λi h st c hc=>by
  obtain ⟨hz,hTI,⟨u,v,hTO⟩,h1,h2⟩:=st;have hc':c=z∨c=TI∨c=TO∨c=i1∨c=i2:=by simpa using hc
  rcases hc' with rfl|rfl|rfl|rfl|rfl
  .exact ⟨_,hz,λv q=>by
    have q':Data.fields _=Data.cell v:=q;cases q'⟩
  .exact ⟨_,hTI,λv q=>by
    have q':Data.seq _ _=Data.cell v:=q;cases q'⟩
  .exact ⟨_,hTO,λv q=>by
    have q':Data.seq _ _=Data.cell v:=q;cases q'⟩
  .obtain ⟨o,e1,cc,dd⟩:=h1;exact ⟨o,e1,λv q=>by rw [dd] at q;cases q⟩
  .obtain ⟨o,e1,cc,dd⟩:=h2;exact ⟨o,e1,λv q=>by rw [dd] at q;cases q⟩
 keep:=λi h h' st k=>by
  obtain ⟨hz,hTI,⟨u,v,hTO⟩,h1,h2⟩:=st;exact ⟨k z (by simp) _ hz,k TI (by simp) _ hTI,⟨u,v,k TO (by simp) _ hTO⟩,h1.at λo e=>k i1 (by simp) o e,h2.at λo e=>k i2 (by simp) o e⟩
 item:=by
  intro X hP hw hK hc i tN s σ H E I hf st hg;subst hP hw hK;obtain ⟨hz,hTI,⟨u0,v0,hTO⟩,h1,h2⟩:=st;obtain ⟨xs,ys,x,y,hqa,hqb,hx,hy⟩:=hg;obtain ⟨its,rv,p,_⟩:=I.list hqa;obtain ⟨jts,rw',p',_⟩:=I.list hqb;obtain ⟨u,hu,ru⟩:=rv.get hx;obtain ⟨v,hv,rv'⟩:=rw'.get hy;simp only [yn,yL,not_or,ye,not_false_eq_true,List.nodup_nil,and_true] at d;obtain ⟨⟨d1,d2,d3,d4⟩,⟨d5,d6,d7⟩,⟨d8,d9⟩,d10⟩:=d;have ap:ZipApart z TI TO i1 i2 a b:=⟨Ne.symm d1,Ne.symm d2,Ne.symm d3,Ne.symm d4,d5,d6,d7,d8,d9,d10,
   I.seq_ne hqa (hf z (by simp)),I.seq_ne hqa (hf TO (by simp)),I.seq_ne hqa (hf i1 (by simp)),I.seq_ne hqa (hf i2 (by simp)),
   I.seq_ne hqb (hf z (by simp)),I.seq_ne hqb (hf TO (by simp)),I.seq_ne hqb (hf i1 (by simp)),I.seq_ne hqb (hf i2 (by simp))⟩
  have fz:xN X tN H s.heap.objs.size:=I.fpOk (yP _) (I.tI.fresh (yP _));have lt:∀ c∈[z,TI,TO,i1,i2],c<s.heap.objs.size:=λc hc=>by
   have hc':c=z∨c=TI∨c=TO∨c=i1∨c=i2:=by simpa using hc
   rcases hc' with rfl|rfl|rfl|rfl|rfl
   .exact yN hz
   .exact yN hTI
   .exact yN hTO
   .obtain ⟨o,q,_⟩:=h1;exact yN q
   .obtain ⟨o,q,_⟩:=h2;exact yN q
  refine wpAny_pyNext_zip_item ap hz hTI hTO h1 h2 p.isList p'.isList (x:=u) (y:=v) (by simpa using hu) (by simpa using hv) λh3 hz3 hTO3 h13 h23 hp3 hs3 hk3=>⟨_,rfl,?_⟩;refine wpAny_letOwnedTupleGo_zip hz3 λh4 hz4 hs4=>?_;have hs4':Heap.SameBut z h3 h4:=hs4;have I4:sS X tN σ H { s with heap:=h4,toks:=s.toks }:=I.turnedL (ch:=[z,TI,TO,i1,i2]) (λc o hc q=>by
   have n1:c≠z:=λe=>hc (by rw [e];simp);have n2:c≠TO:=λe=>hc (by rw [e];simp);have n3:c≠i1:=λe=>hc (by rw [e];simp);have n4:c≠i2:=λe=>hc (by rw [e];simp);exact hs4'.extBut c o n1 (hk3 c o n1 n2 n3 n4 q)) hf
  obtain ⟨f0,f1,f2,f3,f4,f5⟩:=fz;have tup:h4.get? s.heap.objs.size=some { cls:= .type "tuple",data:= .seq #[u,v] }:=hs4'.extBut _ _ (Ne.symm (yG (lt z (by simp)))) hp3;refine ⟨.ref s.heap.objs.size,z9 H s.heap.objs.size (.tup [x,y]),I4.track I.sz f0 f1 f4 f5 ?_,rfl,⟨s.heap.objs.size,x,y,f0,rfl,rfl,(λzs hy'=>by rw [I.list_inj hy' hqa];exact hx),λzs hy'=>by rw [I.list_inj hy' hqb];exact hy⟩,⟨hz4,?_,⟨u,v,?_⟩,?_,?_⟩,λc hc=>?_⟩
  .exact ⟨by show 2<=sizeLine;decide,[u,v],.cons ru (.cons rv' .nil),⟨_,tup,rfl,_,rfl⟩⟩
  .exact hs4'.extBut _ _ (Ne.symm d1) (hk3 _ _ (Ne.symm d1) d5 d6 d7 hTI)
  .exact hs4'.extBut _ _ (Ne.symm d2) hTO3
  .exact h13.at λo q=>hs4'.extBut i1 o (Ne.symm d3) q
  .exact h23.at λo q=>hs4'.extBut i2 o (Ne.symm d4) q
  .rw [j3 (yG (lt c hc))];exact (hf c hc).1
 done:=by
  intro X hP hw hK hc i tN s σ H E I hf st hg;subst hP hw hK;obtain ⟨hz,hTI,⟨u0,v0,hTO⟩,h1,h2⟩:=st;obtain ⟨xs,ys,hqa,hqb,hend⟩:=hg;obtain ⟨its,rv,p,_⟩:=I.list hqa;obtain ⟨jts,rw',p',_⟩:=I.list hqb;have l1:=rv.length;have l2:=rw'.length;simp only [yn,yL,not_or,ye,not_false_eq_true,List.nodup_nil,and_true] at d;obtain ⟨⟨d1,d2,d3,d4⟩,⟨d5,d6,d7⟩,⟨d8,d9⟩,d10⟩:=d;have ap:ZipApart z TI TO i1 i2 a b:=⟨Ne.symm d1,Ne.symm d2,Ne.symm d3,Ne.symm d4,d5,d6,d7,d8,d9,d10,
   I.seq_ne hqa (hf z (by simp)),I.seq_ne hqa (hf TO (by simp)),I.seq_ne hqa (hf i1 (by simp)),I.seq_ne hqa (hf i2 (by simp)),
   I.seq_ne hqb (hf z (by simp)),I.seq_ne hqb (hf TO (by simp)),I.seq_ne hqb (hf i1 (by simp)),I.seq_ne hqb (hf i2 (by simp))⟩
  refine wpAny_pyNext_zip_end (I.ok.hd hc) ap hz hTI hTO h1 h2 p.isList p'.isList (hend.elim (λq=> .inl (by simp;omega)) (λq=> .inr (by simp;omega))) λh3 hk3=>⟨rfl,I.turnedL (t':=s.toks) (ch:=[z,TI,TO,i1,i2]) (λc o hc q=>?_) hf⟩;exact hk3 c o (λe=>hc (by rw [e];simp)) (λe=>hc (by rw [e];simp)) (λe=>hc (by rw [e];simp)) (λe=>hc (by rw [e];simp)) q
 self:=λ_ _ _ _ _ st h=>wpAny_pyIter_zip st.1 h
def iZip (K:Fg)(ta:TA):TI:=λσ H R=>ta σ H λvs H1=>∃ a b,vs=[.ref a,.ref b]/\(∃ xs,sK K H1 a xs)/\(∃ ys,sK K H1 b ys)/\R (Itz K a b) H1
def SA {b:Expr}(hg:Gl X "zip")(hm:X.mg "zip"=none)(ha:PA X [a,b] ta)(hs:starEach [a,b] X.rC=[(false,eval a X.rC),(false,eval b X.rC)]:=by rfl)(hs2:starEach [b] X.rC=[(false,eval b X.rC)]:=by rfl):PI X (.Tuple elts x1 tp) (.Call (.Name "zip" p) [a,b] [] pos) (iZip X.K ta):=by
 intro tN s σ H R I h;refine Call_ (jL I hg hm MT (pS (j7 (ha pos tN s σ H _ I h) λus s1 ⟨vs,H1,I1,r1,q1⟩=>?_) (by rw [hs,hs2]) (by rw [hs2];rfl)));obtain ⟨a,b,e,⟨xs,hq⟩,⟨ys,hq'⟩,q⟩:=q1;subst e;cases r1 with
 |cons r rr =>
  cases rr with
  |cons r' rr =>
   cases rr;cases r;cases r';obtain ⟨its,rv,p,hz⟩:=I1.list hq;obtain ⟨jts,rw',p',_⟩:=I1.list hq';refine call_zip_2 p.isList p'.isList λh' g1 g2 g3 g4 g5 hsz hk=>?_;refine wpAny_pyIter_zip g1 ?_;refine ⟨s1.heap.objs.size+4,[s1.heap.objs.size+4,s1.heap.objs.size+2,s1.heap.objs.size+3,s1.heap.objs.size,s1.heap.objs.size+1],_,_,H1,rfl,I1.kept (t':=s1.toks) hk,Of a b _ _ _ _ _ ?_,⟨g1,g2,⟨_,_,g3⟩,g4,g5⟩,λc hc=>?_,q⟩
   .simp only [yn,yL,not_or,ye,not_false_eq_true,List.nodup_nil,and_true];refine ⟨⟨?_,?_,?_,?_⟩,⟨?_,?_,?_⟩,⟨?_,?_⟩,?_⟩<;>(show ¬ (_:Nat)=_;omega)
   .have hc':s1.heap.objs.size<=c:=by
     have hc2:c=s1.heap.objs.size+4∨c=s1.heap.objs.size+2∨c=s1.heap.objs.size+3∨c=s1.heap.objs.size∨c=s1.heap.objs.size+1:=by simpa using hc
     rcases hc2 with e|e|e|e|e<;>(rw [e];first|exact yP _|exact Nat.le_add_right _ _)
    exact I1.fpOk hc' (I1.tI.fresh hc')
section
variable {X:Cx}{K:Fg}
def Wh (K:Fg)(h:X.K=K:=by rfl):IxR X (rIxL K):=by subst h;exact ix_list
def zj (K:Fg)(h:X.K=K:=by rfl):SlR X (rSlL K):=by subst h;exact FD
def KH (K:Fg)(h:X.K=K:=by rfl):sI X (.builtin "len") (λxs H Q=>∃ p ys,xs=[.ref p]/\(sK K H p ys∨sD K H p ys)/\Q (.int ys.length) H):=by subst h;exact Le
def Lm (hc:X.calm=true)(h:X.K=K):sI X (.builtin "sum") (λxs H Q=>∃ (a:Addr) (ns:EH),xs=[.ref a]/\sK K H a (ns.map V.int)/\Q (.int ns.sum) H):=by subst h;exact KI hc
def QW (K:Fg){es:EN}{k:Nat}{t:TGs}{n:Nat}(hc:X.calm=true)(hK:X.K=K)(h:PGs X es t)(hn:(assignEach es X.rC).length=n:=by rfl)(hst:(assignEach es X.rC).findIdx? (·.1)=none:=by rfl):PG X (.Tuple es k pos) (gTup K n t):=by subst hK;exact Su hc h hn hst
def i7 {tg l:Expr}{tl:TE}(hK:X.K=K)(hl:PE X l tl):PI X tg l (XJ K tl):=by subst hK;exact Sw hl
def WP (K:Fg)(hK:X.K=K)(hg:Gl X "enumerate")(hm:X.mg "enumerate"=none)(ha:PA X [a] ta)(hs:starEach [a] X.rC=[(false,eval a X.rC)]:=by rfl):PI X (.Tuple elts x1 tp) (.Call (.Name "enumerate" p) [a] [] pos) (Wd K ta):=by subst hK;exact Sv hg hm ha hs
def WQ (K:Fg){b:Expr}(hK:X.K=K)(hg:Gl X "zip")(hm:X.mg "zip"=none)(ha:PA X [a,b] ta)(hs:starEach [a,b] X.rC=[(false,eval a X.rC),(false,eval b X.rC)]:=by rfl)(hs2:starEach [b] X.rC=[(false,eval b X.rC)]:=by rfl):PI X (.Tuple elts x1 tp) (.Call (.Name "zip" p) [a,b] [] pos) (iZip K ta):=by subst hK;exact SA hg hm ha hs hs2
end
def TZ:OpR X (compareOp .LtE) (λx y H Q=>∃ i j,x = .str i/\y = .str j/\Q (.bl (!decide (j.cps.toList<i.cps.toList))) H):=by intro tN s σ H x y v u Q I rx ry h;obtain ⟨i,j,rfl,rfl,q⟩:=h;obtain ⟨t,rfl⟩:=rx;obtain ⟨t',rfl⟩:=ry;exact PySem.P.le_str (VX I q rfl)
def ItS (z:Str):It:=⟨λi _=>i<z.cps.size,λi H x H'=>H'=H/\∃ c,z.cps[i]?=some c/\x = .str ⟨#[c]⟩,λi _=>i=z.cps.size⟩
def Dz (it:Addr)(ty:String)(z:Str)(t:Tok)(W:∀ A':G4,A'.handled=none->Walks P w A' it [it] [it] z.cps.size (SignAt z) (λi h=>h.IsStrIter it ty z t i))(sf:∀(A:G4)(i:Nat)(s:G2)(Q:AA)(E:AA),s.heap.IsStrIter it ty z t i->Q (.ref it) s->wpAny (model P w) A (pyIter (.ref it)) Q E s):jY P w K (.Name x px) (ItS z) [it] it (λi h=>h.IsStrIter it ty z t i) where
 mem:=by simp
 obj:=λi h st b hb=>by
  have e:b=it:=by simpa using hb
  subst e;obtain ⟨o,e,c,d⟩:=st;exact ⟨o,e,λv q=>by rw [d] at q;cases q⟩
 keep:=λi h h' st k=>by
  obtain ⟨o,e,r⟩:=st;exact ⟨o,k it (by simp) o e,r⟩
 item:=by intro X hP hw hK hc i tN s σ H E I hf st hg;subst hP hw hK;obtain ⟨f0,f1,f2,f3,f4,f5⟩:=hf it (by simp);refine (W X.A (I.ok.hd hc)).item i s _ _ hg st λv h' tk hv st' kk=>?_;obtain ⟨c,u,e1,rfl⟩:=hv;have I1:sS X tN σ H { s with heap:=h',toks:=tk }:=I.turned (λb o hb e=>kk b o (by simpa using hb) e) f0 f1 f3 f4 f5;refine ⟨_,rfl,?_⟩;show wpAny _ _ (pure ()) _ _ _;exact yI ⟨.str ⟨#[c]⟩,H,I1,⟨u,rfl⟩,⟨rfl,c,e1,rfl⟩,st',λb hb=>(hf b hb).1⟩
 done:=by intro X hP hw hK hc i tN s σ H E I hf st hg;subst hP hw hK;obtain ⟨f0,f1,f2,f3,f4,f5⟩:=hf it (by simp);have hg':i=z.cps.size:=hg;subst hg';exact (W X.A (I.ok.hd hc)).done s _ _ st λh' tk kk=>⟨rfl,I.turned (λb o hb e=>kk b o (by simpa using hb) e) f0 f1 f3 f4 f5⟩
 self:=sf
def iStr (tl:TE):TI:=λσ H R=>tl σ H λx H1=>∃ z,x = .str z/\R (ItS z) H1
def Sy {l:Expr}{tl:TE}(hl:PE X l tl):PI X (.Name x px) l (iStr tl):=by
 intro tN s σ H R I h;refine j7 (hl tN s σ H _ I h) λv s1 ⟨x,H1,I1,r1,q1⟩=>?_;obtain ⟨z,e,q⟩:=q1;subst e;obtain ⟨t,rfl⟩:=r1;have fp:∀ b∈[s1.heap.objs.size],xN X tN H1 b:=λb hb=>by
  have e:b=s1.heap.objs.size:=by simpa using hb
  subst e;exact I1.fpOk (yP _) (I1.tI.fresh (yP _))
 cases ha:z.cps.all (·<128)
 .refine wpAny_pyIter_wide ha ?_;exact ⟨s1.heap.objs.size,[s1.heap.objs.size],_,_,H1,rfl,I1.kept (t':=s1.toks) λb o e=>yW _ e,Dz _ "str_iterator" z t (λA' hA=>Walks.strWide hA _ z t) (λ_ _ _ _ _ st h=>wpAny_pyIter_striter_wide st h),⟨_,yz _ rfl,rfl,rfl⟩,fp,q⟩
 .refine wpAny_pyIter_ascii ha ?_;exact ⟨s1.heap.objs.size,[s1.heap.objs.size],_,_,H1,rfl,I1.kept (t':=s1.toks) λb o e=>yW _ e,Dz _ "str_ascii_iterator" z t (λA' hA=>Walks.strAscii hA _ z t) (λ_ _ _ _ _ st h=>wpAny_pyIter_striter_ascii st h),⟨_,yz _ rfl,rfl,rfl⟩,fp,q⟩
def Ck (K:Fg):R2:=λx y H Q=>∃ l b xs zs,x = .ref l/\y = .ref b/\sK K H l xs/\sK K H b zs/\xs.length+zs.length<=sizeLine/\∀ p,H p=none->Q (.ref p) (z9 H p (.lst (xs++zs)))
def op_catL:OpR X (binaryOp .Add) (Ck X.K):=by
 intro tN s σ H x y v u Q I rx ry h;obtain ⟨l,b,xs,zs,rfl,rfl,hH,hB,hz,q⟩:=h;cases rx;cases ry;obtain ⟨its,r,⟨⟨cls,dd,data,sl⟩,n,e,h1,h2,h3⟩,_⟩:=I.list hH;obtain ⟨its2,r2,⟨⟨cls2,dd2,data2,sl2⟩,n2,e2,k1,k2,k3⟩,_⟩:=I.list hB
 dsimp only at h1 h2 h3 k1 k2 k3
 subst h1 h2 h3 k1 k2 k3;have hl:=r.length;have hl2:=r2.length;have hsz:its.toArray.size+its2.toArray.size<=sizeLine:=by rw [yT,yT];omega
 refine concat_meets ⟨_,e,rfl⟩ ⟨_,e2,rfl⟩ noFill_list_add seq_list_add PySem.F.slot_list_add PySem.F.entry_list_add (PySem.F.args_list_add_2 _ _) (list_addW l b its.toArray its2.toArray n n2 none none sl sl2 hsz) ⟨e,e2,?_⟩;have ea:its.toArray++its2.toArray=(its++its2).toArray:=by simp
 rw [ea];exact ⟨.ref _,_,I.lnew (t':=s.toks) (r.append r2) (by rw [yV];omega),rfl,q _ I.fresh⟩
section
variable{a:Addr}
def sJ.here (x:sJ P w H h a o):∃ u,h.get? a=some u:=by
 cases o with
 |lst xs=>obtain ⟨_,_,_,_,e⟩:=x;exact ⟨_,e⟩
 |tup xs=>obtain ⟨_,_,_,_,e,_⟩:=x;exact ⟨_,e⟩
 |dK kvs=>obtain ⟨_,_,_,_,_,_,_,e,_⟩:=x;exact ⟨_,e⟩
 |dT kvs=>obtain ⟨_,_,_,_,_,_,_,e,_⟩:=x;exact ⟨_,e⟩
 |set S n=>obtain ⟨_,_,_,_,e,_⟩:=x;exact ⟨_,e⟩
 |ins C dx fs=>obtain ⟨_,_,_,e,_⟩:=x;exact ⟨_,e⟩
 |own y=>obtain ⟨_,e⟩:=x;exact ⟨_,e⟩
 |xd fs=>obtain ⟨_,⟨_,_,_,e,_⟩,_⟩:=x;exact ⟨_,e⟩
 |rng lo hi=>obtain ⟨_,_,_,e⟩:=x;exact ⟨_,e⟩
 |frz ob u=>obtain ⟨e,_⟩:=x;exact ⟨_,e⟩
 |tbl ps q=>obtain ⟨_,e,_⟩:=x;exact ⟨_,e⟩
 |met f y=>exact ⟨_,(show h.get? a=some _ from x)⟩
 |ext φ=>obtain ⟨_,⟨_,e⟩,_⟩:=x;exact ⟨_,e⟩
def sE.gone (x:sE P w H h)(e:h.get? a=none):H a=none:=by
 cases q:H a with
 |none=>rfl
 |some u=>obtain ⟨v,z⟩:=(x a u q).here;rw [e] at z;cases z
def sE.off (x:sE P w H h)(k:∀ b u,b∉S->h.get? b=some u->h'.get? b=some u)(hS:∀ b∈S,H b=none):sE P w H h':=λb u e=>by
 have out:∀ c v,H c=some v->c∉S:=λc v q z=>by
  have n:=hS c z;rw [q] at n;cases n
 refine (x b u e).stay (λc v hc q=>k c v ?_ q) (λ_ q=>q) (λ_ _ q=>q) λ_ _ _ q=>q;rcases hc with z|z
 .rw [z];exact out b u e
 .exact out c _ z
def Un.off {fs ex:EC}(u:Un fs ex H0 H h0 h)(k:∀ b o,b∉S->h.get? b=some o->h'.get? b=some o)(hS:∀ b∈S,b∈fs∨h0.get? b=none)(sl:∀ b o,b∈fs->h.get? b=some o->∃ z,h'.get? b=some { o with slots:=z }):Un fs ex H0 H h0 h' where
 keep:=λb o e n hb hx=>k b o (λz=>by
  rcases hS b z with q|q
  .exact hb q
  .rw [e] at q;cases q) (u.keep b o e n hb hx)
 slot:=λb o e n hb hx=>by
  obtain ⟨z,q⟩:=u.slot b o e n hb hx;obtain ⟨z2,q2⟩:=sl b _ hb q;exact ⟨z2,q2⟩
 free:=u.free
 there:=λb o e hx=>by
  obtain ⟨o',q⟩:=u.there b o e hx;by_cases hb:b∈fs
  .obtain ⟨z,q2⟩:=sl b _ hb q;exact ⟨_,q2⟩
  .exact ⟨o',k b o' (λz=>by
    rcases hS b z with y|y
    ·exact hb y
    ·rw [e] at y;cases y) q⟩
 tups:=u.tups
 frzs:=u.frzs
 tbls:=u.tbls
end
def Wx (h:env∈l)(hf:env.frame=some b):b∈t9 l:=uK.mpr ⟨env,h,hf⟩
section
variable{M:Model}
structure Qg (S:EC)(l:EK)(h h':Heap):Prop where
 keep:∀ b o,b∉S->h.get? b=some o->h'.get? b=some o
 slot:∀ b o,b∈t9 l->h.get? b=some o->∃ z,h'.get? b=some { o with slots:=z }
def Bk {B h1:Heap}{T:Addr}{oT:Obj}{ts:ED}(tI:sE P w H h1)(hp:∀ b o,h0.get? b=some o->∃ o',h1.get? b=some o')(fr:h1.FunFrames tM l)(hB:B=PySem.W.hideAll h1 (S++t9 l))(up:∀ b o,b∈t9 l->h1.get? b=some o->∃ z,h'.get? b=some { o with slots:=z })(hn:B.get? T=none)(hT:h'.get? T=some oT)(hd:oT.data = .fields ts)(hS:T∈S->H T=none/\h0.get? T=none):H T=none/\h0.get? T=none:=by
 cases q:h1.get? T with
 |none =>
  refine ⟨tI.gone q,?_⟩;cases z:h0.get? T with
  |none=>rfl
  |some o=>obtain ⟨o',z2⟩:=hp T o z;rw [q] at z2;cases z2
 |some o =>
  by_cases m:T∈S++t9 l
  .rcases yF.mp m with m|m
   .exact hS m
   .obtain ⟨z,z2⟩:=up T o m q;obtain ⟨_,o2,z3,z4⟩:=fr.mem m;rw [q] at z3;cases z3;rw [hT] at z2;have e:=Option.some.inj z2;rw [e] at hd;exact rp hd (z4 ts)
  .rw [hB,pD _ q m] at hn;cases hn
end
def Sc {mg:AB}{bmB:C8}{newId:String}(X:K.In h)(hm:mg x=some (.ref C))(q:PySem.W.excIn K C bmB newId=true):OwnCls x C bmB newId mg h:=by
 constructor
 .exact hm
 unfold PySem.W.excIn at q;split at q
 next dA cA sA lk =>
  split at q
  next D mr s0 s1 s2 s3 nw s5 em es =>
   rw [yg,yg,yg,yg,yg] at q;obtain ⟨⟨⟨⟨⟨q1,q2⟩,q3⟩,q4⟩,q5⟩,q6⟩:=q;have r1:D=C:=pQ.mp q1;have r2:nw=newId:=pQ.mp q2;have r6:=pQ.mp q6;subst r1 r2;cases cA with
   |mk f1 f2 f3 f4 f5 f6 f7 f8 f9 f10 f11 =>
    have em':f3 = .ref D::mr:=em;have q3':f11=false:=by simpa using q3
    have es':sA=#[s0,s1,s2,s3,some (.builtin nw),s5]:=by
     cases sA with
     |mk l=>exact pL Array.mk es
    subst em' q3' es';have nsx:=PySem.W.isNs_of_in X (show PySem.W.nsOkIn K f4=true from q5);refine ⟨mr,f4,f1,f5,f2,f6,f7,f8,f9,f10,dA,s0,s1,s2,s3,s5,_,X _ _ lk,Heap.Ns.of_isNs nsx,?_,PySem.W.tail_of_in X q4⟩;exact PySem.W.nsMap_none_of_in X q5 r6
  next=>cases q
 next=>cases q
def veMro:C8:=[.type "ValueError",.type "Exception",.type "BaseException",.type "object"]
def UE (C:Addr)(E:XK):TS:=λ_ _ H=>E (.ref C) none H
abbrev Cx.tried (X:Cx)(pn:C4)(W:AA):Cx:={ X with pn:=pn,xe:=W }
abbrev Cx.suite (X:Cx)(pn:C4)(ea:Addr):Cx:={ X with A:=X.A.mark (some (.ref ea)),calm:=false,pn:=pn,xe:=λ_ _=>False }
section
variable{W:AA}
def Cx.Ok.tried (ok:X.Ok)(pn:C4)(W:AA):(X.tried pn W).Ok :=
 ⟨ok.mod,ok.kind,ok.glob,ok.blt,ok.above,ok.inj,ok.has,ok.cab,ok.hd,ok.frames,ok.stk,ok.exf,ok.bs,ok.bsz,ok.noex,ok.exfs,ok.funs,ok.frf,ok.tbs⟩
def Cx.Ok.suite (ok:X.Ok)(pn:C4)(ea:Addr):(X.suite pn ea).Ok :=
 ⟨ok.mod,ok.kind,ok.glob,ok.blt,ok.above,ok.inj,ok.has,ok.cab,(λz=>nomatch z),ok.frames,ok.stk,ok.exf,ok.bs,ok.bsz,ok.noex,ok.exfs,ok.funs,ok.frf,ok.tbs⟩
def sS.tried (I:sS X tN σ H s)(W:AA):sS (X.tried (X.pn++tN) W) [] σ H s :=
 ⟨I.ok.tried _ _,I.os,I.bare,I.tM,I.loc,I.cell,I.free,I.freeC,λp hp=>I.pin p (by simpa using hp),I.tI,I.len⟩
def sS.untried (ok:X.Ok)(I:sS (X.tried (X.pn++tN) W) p2 σ H s):sS X tN σ H s :=
 ⟨ok,I.os,I.bare,I.tM,I.loc,I.cell,I.free,I.freeC,λp hp=>I.pin p (yo _ hp),I.tI,I.len⟩
def sS.suite (I:sS X tN σ H s)(e1:s.heap.get? ea=some oe)(e2:H ea=none)(e3:ea≠X.rC.locals)(e4:ea∉X.fs)(e5:∀ v,oe.data ≠ .cell v):sS (X.suite (X.pn++tN++[(ea,oe)]) ea) [] σ H s :=
 ⟨I.ok.suite _ _,I.os,I.bare,I.tM,I.loc,I.cell,I.free,I.freeC,λp hp=>by
  have hp':p∈X.pn++tN++[(ea,oe)]:=by simpa using hp
  rcases yF.mp hp' with z|z
  .exact I.pin p z
  .have q:p=(ea,oe):=by simpa using z
   subst q;exact ⟨e1,e2,e3,e4,e5⟩,I.tI,I.len⟩
def sS.unsuite (ok:X.Ok)(I:sS (X.suite (X.pn++tN++[(ea,oe)]) ea) p2 σ H s):sS X tN σ H s :=
 ⟨ok,I.os,I.bare,I.tM,I.loc,I.cell,I.free,I.freeC,λp hp=>I.pin p (yo _ (yo _ hp)),I.tI,I.len⟩
structure Vs (X:Cx)(tN:C4)(b:Addr):Prop where
 s0:X.s₀.heap.get? b=none
 loc:b≠X.rC.locals
 cel:∀ x c,X.rC.cells.lookup x=some c->c≠b
 pin:∀ p∈X.pn++tN,p.1≠b
 fs:b∉X.fs
def sS.apart (I:sS X tN σ H s)(hex:X.ex=[])(n:s.heap.get? b=none):Vs X tN b where
 s0:=by
  cases z:X.s₀.heap.get? b with
  |none=>rfl
  |some o=>obtain ⟨o',q⟩:=I.tM.there b o z (by rw [hex];exact λz=>nomatch z);rw [n] at q;cases q
 loc:=λz=>by
  obtain ⟨m,⟨o,es,ep,ho,_⟩,_⟩:=I.loc;rw [<- z,n] at ho;cases ho
 cel:=λx c e z=>by
  obtain ⟨v,o,ho,_⟩:=I.cell x c e;rw [z,n] at ho;cases ho
 pin:=λp hp z=>by
  have q:=(I.pin p hp).1;rw [z,n] at q;cases q
 fs:=λz=>by
  obtain ⟨_,o,ho,_⟩:=I.funs.mem z;rw [n] at ho;cases ho
def sS.flown (I:sS X tN σ H s)(hf:X.rC.frame=some X.rC.locals)(hst:X.stack=X.rC::X.tL)(hS:∀ c∈S,H c=none/\Vs X tN c)(k:Qg (S++t9 X.stack) X.stack s.heap h'):sS X tN σ H { s with heap:=h' }:=by
 have hL:X.rC.locals∈t9 X.stack:=by rw [hst];exact Wx yR hf
 have sub:∀ c,c∈X.fs->c∈t9 X.stack:=λc hc=>by
  rw [hst];obtain ⟨x,hx,q⟩:=uK.mp hc;exact uK.mpr ⟨x,yO _ hx,q⟩
 have celK:∀ x c,X.rC.cells.lookup x=some c->∀ v,s.heap.IsCell c v->h'.IsCell c v:=λx c e v ⟨o,ho,hd⟩=>by
  by_cases hc:c∈t9 X.stack
  .obtain ⟨z,q⟩:=k.slot c o hc ho;exact ⟨_,q,hd⟩
  .exact ⟨o,k.keep c o (λz=>(yF.mp z).elim (λy=>(hS c y).2.cel x c e rfl) hc) ho,hd⟩
 refine ⟨I.ok,I.os,I.bare,I.tM.off k.keep (λc hc=>?_) (λc o hc q=>k.slot c o (sub c hc) q),?_,λx c e=>?_,I.free,I.freeC,λp hp=>?_,I.tI.off k.keep (λc hc=>?_),I.len⟩
 .rcases yF.mp hc with z|z
  .exact .inr (hS c z).2.s0
  .rcases yL.mp (I.stkSub c z) with y|y
   .refine .inr ?_;rw [y];exact yb I.ok.above
   .exact .inl y
 .obtain ⟨m,⟨o,es,ep,ho,r⟩,hl⟩:=I.loc;obtain ⟨z,q⟩:=k.slot _ o hL ho;refine ⟨m,⟨_,es,ep,q,r⟩,λi x v e1 e2 e3=>?_⟩;obtain ⟨u,r2,l⟩:=hl i x v e1 e2 e3;refine ⟨u,r2,?_⟩;rcases l with l|⟨k1,c,e,y⟩
  .exact .inl l
  .exact .inr ⟨k1,c,e,celK x c e _ y⟩
 .obtain ⟨v,z⟩:=I.cell x c e;exact ⟨v,celK x c e v z⟩
 .obtain ⟨e,n,ne,nf,d⟩:=I.pin p hp;refine ⟨k.keep p.1 p.2 (λz=>?_) e,n,ne,nf,d⟩;rcases yF.mp z with y|y
  .exact (hS p.1 y).2.pin p hp rfl
  .rcases yL.mp (I.stkSub p.1 y) with q|q
   .exact ne q
   .exact nf q
 .rcases yF.mp hc with z|z
  .exact (hS c z).1
  .exact I.stkFree c z
def sS.goes {M:Model}{i:Nat}{n:Str}(I:sS X tN σ H s)(hN:X.N.Nodup)(hi:X.N[i]?=some n)(hl:X.rC.kindOf n=some .local)
  (h:∀ s',sS X tN (σ.set i none) H s'->Q () s'):wpAny M A (do bindName X.rC n .none;unbindBehindTheSuite X.rC n pos) Q Er s:=by
 obtain ⟨m,hn,hv⟩:=id I.loc;have iσ:i<σ.length:=by rw [I.len];exact (yK.mp hi).1
 refine wpAny_nameGoes_keeps hl hn (by rw [I.ok.kind];rfl) λh' v hn' hs=>h _ ?_;obtain ⟨oL,_,_,hoL,_⟩:=id hn;have neL:∀ c o,X.s₀.heap.get? c=some o->c≠X.rC.locals:=λc o e z=>by
  rw [z,yb I.ok.above] at e;cases e
 refine ⟨I.ok,I.os,I.bare,I.tM.off (S:=[X.rC.locals]) (λc o nc q=>(hs.2 c (λz=>nc (by simp [z]))).trans q) (λc hc=>?_) (λc o hc q=>⟨o.slots,(hs.2 c (λz=>?_)).trans q⟩),⟨_,hn',λj y v' e1 e2 e3=>?_⟩,λy c e=>?_,I.free,I.freeC,λp hp=>?_,
  I.tI.off (S:=[X.rC.locals]) (λc o nc q=>(hs.2 c (λz=>nc (by simp [z]))).trans q) (λc hc=>?_),by simpa using I.len⟩
 .have z:c=X.rC.locals:=by simpa using hc
  refine .inr ?_;rw [z];exact yb I.ok.above
 .rw [z] at hc;obtain ⟨_,o2,h2,_⟩:=I.ok.funs.mem hc;rw [yb I.ok.above] at h2;cases h2
 .by_cases hj:j=i
  .subst hj;rw [uu iσ] at e2;cases e2
  .rw [yh (Ne.symm hj)] at e2;obtain ⟨u',r',q⟩:=hv j y v' e1 e2 e3;refine ⟨u',r',?_⟩;rcases q with ⟨k,e⟩|⟨k,c,e,z⟩
   .refine .inl ⟨k,?_⟩;have ny:y≠n:=λe=>hj (WE hN e1 (e▸hi));simp [ny,e]
   .exact .inr ⟨k,c,e,z.sameBut hs (I.cne y c e)⟩
 .obtain ⟨w',z⟩:=I.cell y c e;exact ⟨w',z.sameBut hs (I.cne y c e)⟩
 .obtain ⟨e,n,ne,nf,d⟩:=I.pin p hp;exact ⟨(hs.2 p.1 ne).trans e,n,ne,nf,d⟩
 .have z:c=X.rC.locals:=by simpa using hc
  rw [z];exact I.free
end
def SP.untried {W:AA}{D:xy}{f:Flow}(ok:X.Ok)(h:SP (X.tried (X.pn++tN) W) p2 D f s):SP X tN D f s:=by
 cases f with
 |next=>obtain ⟨σ',H',I,q⟩:=h;exact ⟨σ',H',I.untried ok,q⟩
 |brk=>obtain ⟨σ',H',I,q⟩:=h;exact ⟨σ',H',I.untried ok,q⟩
 |cont=>obtain ⟨σ',H',I,q⟩:=h;exact ⟨σ',H',I.untried ok,q⟩
 |ret u=>obtain ⟨v,σ',H',I,r,q⟩:=h;exact ⟨v,σ',H',I.untried ok,r,q⟩
def Dd (fr:h.FunFrames tM l)(k:(PySem.W.hideAll h (S++t9 l)).StaysIn h')(up:h.UpToSlots h'):Qg (S++t9 l) l h h' :=
 ⟨λb o nb q=>k b o (pD _ q nb),λb o hb q=>up b o q (by
  obtain ⟨_,o2,z3,z4⟩:=fr.mem hb;rw [q] at z3;cases z3;exact z4)⟩
end L2
namespace L2
open PySem PySem.Spec PyProof.Rows PySem.W Builtin Builtin.ObjectAttr Builtin.Getset_descriptor
variable{prog:G3}{w:G5}{A:G4}{K:Fg}{s:G2}{X:Cx}{oe:Obj}{C ea:Addr}{h:Heap}
def MJ:bootBuiltins "ValueError"=some (.type "ValueError"):=by decide +kernel
structure zx (K:Fg)(C:Addr):Prop where
 cls:(clsIn K C).isSome=true
 ga:findIn K (.ref C) "__getattribute__"=some (some (.builtin "BaseException.__getattribute__"))
 gt:findIn K (.ref C) "__getattr__"=some none
 cl:findIn K (.ref C) "__class__"=some (some (.builtin "object.__class__"))
 sp:specialIn K (.builtin "object.__class__") "__get__"=some (some (.builtin "getset_descriptor.__get__"))
 tk:takesIn K (.builtin "object.__class__")=some true
 ob:mroIn K C (.type "object")=some true
 be:mroIn K C (.type "BaseException")=some true
def ExcAt (ea C:Addr)(h:Heap):Prop:=∃ o,h.get? ea=some o/\o.cls = .ref C
def ExcAt.ty {M:Model}(p:ExcAt ea C h):Looks M h (typeOf (.ref ea)) (.ref C):=by obtain ⟨o,a,b⟩:=p;exact b▸(Looks.ld a).andThen .now
def LZ {R:AH}{tp:G1}(T:zx K C)(X:K.In s.heap)(p:ExcAt ea C s.heap)(h:R (.ok (.ret (.ref C))) s):codeAny (model prog w) A (.call (.builtin "getset_descriptor.__get__") ⟨[.builtin "object.__class__",.ref ea,tp],[]⟩) R s:=by
 cases s with
 |mk hp gs dr tk os =>
  have y0:=p.ty (M:=model prog w);have y1:=looks_mroIn (M:=model prog w) X T.ob;refine pE KF.slot_gs.plain KF.entry_gs ?_;refine KF.slot_gs.check _ _ _ _ _ _ _ _ KF.type_class (KF.args_gs _ _ _) ?_;unfold Builtin.«getset_descriptor.__get__» descrGet;rw [dga_obj (.builtin "object.__class__") tp ea];apply yY;apply yI;unfold descrGetter descrCheckInstance descrNameAndClass isInstance;simp only [KF.owner_class]
  repeat lk
  constructor
  .exact oU _ (by decide +kernel)
  .refine pV KF.entry_class ?_;unfold Builtin.«object.__class__» shownTypeOf
   repeat lk
   exact h
def Na {M:Model}(T:zx K C)(X:K.In h):Looks M h (find (.ref ea) (.ref C) "__class__") (.bind (.builtin "getset_descriptor.__get__") (.builtin "object.__class__")):=by have y1:=looks_findIn (M:=M) X T.cl;have y2:Looks M h (getOf (some (.builtin "object.__class__"))) (some (.builtin "getset_descriptor.__get__")):=looks_specialIn X T.sp;have y3:=looks_takesIn (M:=M) X T.tk;have y4:Looks M h (dataDescriptor? (some (.builtin "object.__class__")) (some (.builtin "getset_descriptor.__get__"))) (some (.builtin "getset_descriptor.__get__",.builtin "object.__class__")):=y3.andThen .now;exact y1.andThen (y2.andThen (y4.andThen (Looks.tag .now)))
def LY {Q:EW->G2->Prop}{Er:AA}(T:zx K C)(X:K.In s.heap)(p:ExcAt ea C s.heap)(h:Q (some (.ref C)) { s with toks:=s.toks+1 }):wpAny (model prog w) A (getAttr? (.ref ea) "__class__") Q Er s:=by
 cases s with
 |mk hp gs dr tk os =>
  have y0:=p.ty (M:=model prog w);have y1:=looks_findIn (M:=model prog w) X T.ga;have y2:=looks_findIn (M:=model prog w) X T.gt;have y3:=Na (M:=model prog w) (ea:=ea) T X;have y4:=looks_mroIn (M:=model prog w) X T.be;unfold getAttr? getAttrBy? getAttrBy;refine yY (wpAny_mkText (yY (wpAny_attempt (rh (yY (y0.at ?_))))));refine yY (y1.at ?_);have n1:(onTheHeap (Value.ref C)&&Value.builtin "BaseException.__getattribute__" == Value.builtin "object.__getattribute__")=false:=by rw [show (Value.builtin "BaseException.__getattribute__" == Value.builtin "object.__getattribute__")=false by decide +kernel,Bool.and_false]
  dsimp only
  rw [n1,rq yQ];unfold getAttrByItsOwn hookBefore;rw [show onTheHeap (Value.ref C)=true from rfl,rB rfl];refine yY (y2.at ?_);refine yY (wpAny_attempt (rh ?_));unfold callGetattribute boundAndCalled;rw [Bool.false_and,rq yQ];refine yY (wpAny_of_eq (PySem.F.excAttr_ValueError.ga.bind (.ref ea)) ?_);refine pp (pE PySem.F.excAttr_ValueError.ga.plain PySem.F.entry_bexc_ga ?_);have hk:builtinKind "BaseException.__getattribute__"=some .slot:=by decide +kernel
  have hq:splitId "BaseException.__getattribute__"=some ("BaseException","__getattribute__"):=by decide +kernel
  have ha:=PySem.F.args_bexc_ga (.ref ea) (.str "__class__" tk);simp only [checkBuiltinCall,hk,hq];have hb:Looks (model prog w) hp (isInstance (.ref ea) (.type "BaseException")) true:=y0.andThen y4;refine yY (hb.at ?_);rw [Bool.not_true];rw [rq yQ];refine wpAny_of_eq ha ?_;unfold Builtin.«object.__getattribute__»;refine yY (yI ?_);refine yY (yI (yY (y0.at (yY (y3.at ?_)))));unfold bindTo;show wpAny _ _ (holding [Value.builtin "object.__class__"] (call (.builtin "getset_descriptor.__get__") [.builtin "object.__class__",.ref ea,.ref C]) >>= ret) _ _ _;refine yY (rh (pp (LZ T X p (yI ?_))));refine handed_on rfl (yI h)
def Ht (T:zx K C):KitX K (.ref ea) (.ref C) (ExcAt ea C) where
 ty:=λ_ _ _ p=>p.ty
 it:=λM h X _=>by
  have z:=T.cls;unfold clsIn at z;split at z
  next c' d' cd' sl' ho =>
   intro A' Q' E' s' k q;unfold isType loadHead;refine yY (wpAny_loadPart (k _ _ (X _ _ ho)) ?_);exact yI q
  next=>cases z
 ne:=λh tp dd its n sl X htp=>by
  cases hb:((.ref C:G1) == .ref tp) with
  |false=>rfl
  |true =>
   have e:C=tp:=Value.ref.inj (pQ.mp hb);have z:=T.cls;unfold clsIn at z;split at z
   next c' d' cd' sl' ho =>
    have y:=X _ _ ho;rw [e,htp] at y;cases y
   next=>cases z
 ca:=λX p k=>LY T X p k
def Ja (K:Fg)(hK:X.K=K)(hp:(ea,oe)∈X.pn)(hc:oe.cls = .ref C)(T:zx K C):sI X (.builtin "isinstance") (λxs H Q=>∃ (c:V) (d:G1) (b:Bool),xs=[.ref ea,c]/\(∀ u,sO c u->u=d)/\kitOne K (.ref C) d=some b/\Q (.bl b) H):=by subst hK;intro tN s σ H xs us Q I r h;obtain ⟨c,d,b,rfl,hd,e,q⟩:=h;obtain ⟨u,w',rfl,rx,rw'⟩:=US r;obtain rfl:u=Value.ref ea:=rx;obtain rfl:=hd w' rw';have z:=(I.pin _ (yo _ hp)).1;exact kia_one (Ht T) I.kIn ⟨oe,z,hc⟩ e (λz=>nomatch z) λtk=>⟨.bl b,H,I.tok _,rfl,q⟩
end L2
namespace L2
open PySem PySem.Spec PyProof.Rows
variable{X:Cx}
def SV:V->EB->Hp->VK->Prop:=λx vs H Q=>∃(l:Addr)(xs:EB)(i:Int)(y:V),x = .ref l/\vs=[.int i,y]/\H l=some (.lst xs)/\0<=i/\i<=(xs.length:Int)/\xs.length<1000/\Q .non (z9 H l (.lst (xs.take i.toNat++y::xs.drop i.toNat)))
def HZ:MtM X "list.insert" SV:=by
 intro tN s σ H x vs v us Q I rx rv h;obtain ⟨l,xs,i,y,rfl,rfl,hH,h0,hi,hz,q⟩:=h;cases rx;obtain ⟨u,w',rfl,⟨t,rfl⟩,rw'⟩:=rv.two;obtain ⟨z,its,n,r,hl,e⟩:=I.lstM hH;have hfit:¬ (!Builtin.List.listFitsIndex i)=true:=by rw [fitsIndex_both (k:=i) (by omega) (by omega)];decide
 have hsz:its.toArray.size<=sizeLine:=by rw [yT,<- hl];exact z
 refine call_meets F.slot_list_insert ⟨_,e,rfl⟩ F.entry_list_insert (F.args_list_insert_3 _ _ _) (AutoSeq1.list_insert_list_int_val_1 l its.toArray n i t w' hfit hsz) ⟨e,?_⟩;refine ⟨.non,_,I.lset (its':=its.take i.toNat++w'::its.drop i.toNat) hH e ?_ ((r.take i.toNat).append (.cons rw' (r.drop i.toNat))) ?_,rfl,q⟩
 .have e1:¬ (i<0):=by omega
  have e2:min i.toNat its.toArray.size=i.toNat:=by rw [yT];omega
  show (its.toArray.extract 0 (if i<0 then (i+(its.toArray.size:Int)).toNat else min i.toNat its.toArray.size)).push w'++its.toArray.extract (if i<0 then (i+(its.toArray.size:Int)).toNat else min i.toNat its.toArray.size)=_;rw [rq e1,e2];apply oP.mp;simp [List.extract_eq_take_drop]
  try exact tW (by rw [uO];exact yP _)
 .rw [yV,yJ,uZ,uO];have:=Xb (n:=1000) (yP _);omega
end L2
namespace L2
open PySem PySem.Spec PyProof.Rows PySem.SeqAt
variable{X:Cx}{tN:C4}{σ:St}{H:Hp}{x y:V}{A:G4}{s:G2}{u v:G1}{l:Addr}{items:ED}{n:Nat}{b:Bool}{K:Fg}
def EqP (K:Fg)(H:Hp):Nat->V->V->Bool->Prop
 |0,x,y,b=>p5 x=true/\p5 y=true/\b=ql x y
 |n+1,x,y,b=>(p5 x=true/\p5 y=true/\b=ql x y) ∨
  (∃(a c:Addr)(xs ys:EB),x = .ref a/\y = .ref c/\sK K H a xs/\sK K H c ys/\((xs.length≠ys.length/\b=false)∨(xs.length=ys.length/\∃ e:Nat->Bool,(∀ j (h1:j<xs.length) (h2:j<ys.length),EqP K H n xs[j] ys[j] (e j))/\b=(List.range xs.length).all e))) ∨
  (∃(a c:Addr)(xs ys:EB),x = .ref a/\y = .ref c/\sD K H a xs/\sD K H c ys/\∃ e:Nat->Bool,(∀ j (h1:j<xs.length) (h2:j<ys.length),EqP K H n xs[j] ys[j] (e j))/\b=((List.range (min xs.length ys.length)).all e&&xs.length==ys.length)) ∨
  (∃(a c:Addr)(xs ys:EB),x = .ref a/\y = .ref c/\sK K H a xs/\sD K H c ys/\b=false) ∨
  (∃(a c:Addr)(xs ys:EB),x = .ref a/\y = .ref c/\sD K H a xs/\sK K H c ys/\b=false) ∨
  (∃(c:Addr)(ys:EB),p5 x=true/\y = .ref c/\(sK K H c ys∨sD K H c ys)/\b=false) ∨
  (∃(a:Addr)(xs:EB),p5 y=true/\x = .ref a/\(sK K H a xs∨sD K H a xs)/\b=false)
def Jn (h:p5 x=true):ql x x=true:=by cases x<;>first|rfl|exact pR _|cases h
def Cz (ry:sO y u)(rx:sO x v)(fy:p5 y=true)(fx:p5 x=true):RcAt A s u v (ql y x):=by
 cases y with
 |non =>
  cases ry;cases x with
  |non=>cases rx;exact RcAt.none_none
  |bl b=>cases rx;exact RcAt.none_bool b
  |int b=>obtain ⟨t2,rfl⟩:=rx;exact RcAt.none_int b t2
  |str b=>obtain ⟨t2,rfl⟩:=rx;exact RcAt.none_str b t2
  |_=>exact rp (show false=true from fx) yQ
 |bl a =>
  cases ry;cases x with
  |non=>cases rx;exact RcAt.bool_none a
  |bl b=>cases rx;exact RcAt.bool_bool a b
  |int b=>obtain ⟨t2,rfl⟩:=rx;exact RcAt.bool_int a b t2
  |str b=>obtain ⟨t2,rfl⟩:=rx;exact RcAt.bool_str a b t2
  |_=>exact rp (show false=true from fx) yQ
 |int a =>
  obtain ⟨t1,rfl⟩:=ry;cases x with
  |non=>cases rx;exact RcAt.int_none a t1
  |bl b=>cases rx;exact RcAt.int_bool a t1 b
  |int b=>obtain ⟨t2,rfl⟩:=rx;exact RcAt.int_int a t1 b t2
  |str b=>obtain ⟨t2,rfl⟩:=rx;exact RcAt.int_str a t1 b t2
  |_=>exact rp (show false=true from fx) yQ
 |str a =>
  obtain ⟨t1,rfl⟩:=ry;cases x with
  |non=>cases rx;exact RcAt.str_none a t1
  |bl b=>cases rx;exact RcAt.str_bool a t1 b
  |int b=>obtain ⟨t2,rfl⟩:=rx;exact RcAt.str_int a t1 b t2
  |str b=>obtain ⟨t2,rfl⟩:=rx;exact RcAt.str_str a t1 b t2
  |_=>exact rp (show false=true from fx) yQ
 |_=>exact rp (show false=true from fy) yQ
def CA (ry:sO y u)(rx:sO x v)(fy:p5 y=true)(fx:p5 x=true):RcNeAt A s u v (!ql y x):=by
 cases y with
 |non =>
  cases ry;cases x with
  |non=>cases rx;exact RcNeAt.none_none
  |bl b=>cases rx;exact RcNeAt.none_bool b
  |int b=>obtain ⟨t2,rfl⟩:=rx;exact RcNeAt.none_int b t2
  |str b=>obtain ⟨t2,rfl⟩:=rx;exact RcNeAt.none_str b t2
  |_=>exact rp (show false=true from fx) yQ
 |bl a =>
  cases ry;cases x with
  |non=>cases rx;exact RcNeAt.bool_none a
  |bl b=>cases rx;exact RcNeAt.bool_bool a b
  |int b=>obtain ⟨t2,rfl⟩:=rx;exact RcNeAt.bool_int a b t2
  |str b=>obtain ⟨t2,rfl⟩:=rx;exact RcNeAt.bool_str a b t2
  |_=>exact rp (show false=true from fx) yQ
 |int a =>
  obtain ⟨t1,rfl⟩:=ry;cases x with
  |non=>cases rx;exact RcNeAt.int_none a t1
  |bl b=>cases rx;exact RcNeAt.int_bool a t1 b
  |int b=>obtain ⟨t2,rfl⟩:=rx;exact RcNeAt.int_int a t1 b t2
  |str b=>obtain ⟨t2,rfl⟩:=rx;exact RcNeAt.int_str a t1 b t2
  |_=>exact rp (show false=true from fx) yQ
 |str a =>
  obtain ⟨t1,rfl⟩:=ry;cases x with
  |non=>cases rx;exact RcNeAt.str_none a t1
  |bl b=>cases rx;exact RcNeAt.str_bool a t1 b
  |int b=>obtain ⟨t2,rfl⟩:=rx;exact RcNeAt.str_int a t1 b t2
  |str b=>obtain ⟨t2,rfl⟩:=rx;exact RcNeAt.str_str a t1 b t2
  |_=>exact rp (show false=true from fx) yQ
 |_=>exact rp (show false=true from fy) yQ
def LO (hl:s.heap.IsList l items)(hu:A.units<cLine)(ry:sO y u)(fy:p5 y=true):EqAt A s u (.ref l) false:=by
 cases y with
 |non=>cases ry;exact EqAt.none_list hl hu
 |bl a=>cases ry;exact EqAt.bool_list a hl hu
 |int a=>obtain ⟨t1,rfl⟩:=ry;exact EqAt.int_list a t1 hl hu
 |str a=>obtain ⟨t1,rfl⟩:=ry;exact EqAt.str_list a t1 hl hu
 |_=>exact rp (show false=true from fy) yQ
def LQ (hl:s.heap.IsList l items)(hu:A.units<cLine)(ry:sO y u)(fy:p5 y=true):EqAt A s (.ref l) u false:=by
 cases y with
 |non=>cases ry;exact EqAt.list_none hl hu
 |bl a=>cases ry;exact EqAt.list_bool a hl hu
 |int a=>obtain ⟨t1,rfl⟩:=ry;exact EqAt.list_int a t1 hl hu
 |str a=>obtain ⟨t1,rfl⟩:=ry;exact EqAt.list_str a t1 hl hu
 |_=>exact rp (show false=true from fy) yQ
def LP (hl:s.heap.IsTuple l items)(hu:A.units<cLine)(ry:sO y u)(fy:p5 y=true):EqAt A s u (.ref l) false:=by
 cases y with
 |non=>cases ry;exact EqAt.none_tuple hl hu
 |bl a=>cases ry;exact EqAt.bool_tuple a hl hu
 |int a=>obtain ⟨t1,rfl⟩:=ry;exact EqAt.int_tuple a t1 hl hu
 |str a=>obtain ⟨t1,rfl⟩:=ry;exact EqAt.str_tuple a t1 hl hu
 |_=>exact rp (show false=true from fy) yQ
def LR (hl:s.heap.IsTuple l items)(hu:A.units<cLine)(ry:sO y u)(fy:p5 y=true):EqAt A s (.ref l) u false:=by
 cases y with
 |non=>cases ry;exact EqAt.tuple_none hl hu
 |bl a=>cases ry;exact EqAt.tuple_bool a hl hu
 |int a=>obtain ⟨t1,rfl⟩:=ry;exact EqAt.tuple_int a t1 hl hu
 |str a=>obtain ⟨t1,rfl⟩:=ry;exact EqAt.tuple_str a t1 hl hu
 |_=>exact rp (show false=true from fy) yQ
def SX (hl:s.heap.IsList l items)(hu:A.units<cLine)(ry:sO y u)(fy:p5 y=true):RcAt A s u (.ref l) false:=by
 cases y with
 |non=>cases ry;exact RcAt.none_list hl hu
 |bl a=>cases ry;exact RcAt.bool_list a hl hu
 |int a=>obtain ⟨t1,rfl⟩:=ry;exact RcAt.int_list a t1 hl hu
 |str a=>obtain ⟨t1,rfl⟩:=ry;exact RcAt.str_list a t1 hl hu
 |_=>exact rp (show false=true from fy) yQ
def SZ (hl:s.heap.IsList l items)(hu:A.units<cLine)(ry:sO y u)(fy:p5 y=true):RcAt A s (.ref l) u false:=by
 cases y with
 |non=>cases ry;exact RcAt.list_none hl hu
 |bl a=>cases ry;exact RcAt.list_bool a hl hu
 |int a=>obtain ⟨t1,rfl⟩:=ry;exact RcAt.list_int a t1 hl hu
 |str a=>obtain ⟨t1,rfl⟩:=ry;exact RcAt.list_str a t1 hl hu
 |_=>exact rp (show false=true from fy) yQ
def SY (hl:s.heap.IsTuple l items)(hu:A.units<cLine)(ry:sO y u)(fy:p5 y=true):RcAt A s u (.ref l) false:=by
 cases y with
 |non=>cases ry;exact RcAt.none_tuple hl hu
 |bl a=>cases ry;exact RcAt.bool_tuple a hl hu
 |int a=>obtain ⟨t1,rfl⟩:=ry;exact RcAt.int_tuple a t1 hl hu
 |str a=>obtain ⟨t1,rfl⟩:=ry;exact RcAt.str_tuple a t1 hl hu
 |_=>exact rp (show false=true from fy) yQ
def Ia (hl:s.heap.IsTuple l items)(hu:A.units<cLine)(ry:sO y u)(fy:p5 y=true):RcAt A s (.ref l) u false:=by
 cases y with
 |non=>cases ry;exact RcAt.tuple_none hl hu
 |bl a=>cases ry;exact RcAt.tuple_bool a hl hu
 |int a=>obtain ⟨t1,rfl⟩:=ry;exact RcAt.tuple_int a t1 hl hu
 |str a=>obtain ⟨t1,rfl⟩:=ry;exact RcAt.tuple_str a t1 hl hu
 |_=>exact rp (show false=true from fy) yQ
def Ib (hl:s.heap.IsList l items)(hu:A.units<cLine)(ry:sO y u)(fy:p5 y=true):RcNeAt A s u (.ref l) true:=by
 cases y with
 |non=>cases ry;exact RcNeAt.none_list hl hu
 |bl a=>cases ry;exact RcNeAt.bool_list a hl hu
 |int a=>obtain ⟨t1,rfl⟩:=ry;exact RcNeAt.int_list a t1 hl hu
 |str a=>obtain ⟨t1,rfl⟩:=ry;exact RcNeAt.str_list a t1 hl hu
 |_=>exact rp (show false=true from fy) yQ
def Ie (hl:s.heap.IsList l items)(hu:A.units<cLine)(ry:sO y u)(fy:p5 y=true):RcNeAt A s (.ref l) u true:=by
 cases y with
 |non=>cases ry;exact RcNeAt.list_none hl hu
 |bl a=>cases ry;exact RcNeAt.list_bool a hl hu
 |int a=>obtain ⟨t1,rfl⟩:=ry;exact RcNeAt.list_int a t1 hl hu
 |str a=>obtain ⟨t1,rfl⟩:=ry;exact RcNeAt.list_str a t1 hl hu
 |_=>exact rp (show false=true from fy) yQ
def Ic (hl:s.heap.IsTuple l items)(hu:A.units<cLine)(ry:sO y u)(fy:p5 y=true):RcNeAt A s u (.ref l) true:=by
 cases y with
 |non=>cases ry;exact RcNeAt.none_tuple hl hu
 |bl a=>cases ry;exact RcNeAt.bool_tuple a hl hu
 |int a=>obtain ⟨t1,rfl⟩:=ry;exact RcNeAt.int_tuple a t1 hl hu
 |str a=>obtain ⟨t1,rfl⟩:=ry;exact RcNeAt.str_tuple a t1 hl hu
 |_=>exact rp (show false=true from fy) yQ
def Ig (hl:s.heap.IsTuple l items)(hu:A.units<cLine)(ry:sO y u)(fy:p5 y=true):RcNeAt A s (.ref l) u true:=by
 cases y with
 |non=>cases ry;exact RcNeAt.tuple_none hl hu
 |bl a=>cases ry;exact RcNeAt.tuple_bool a hl hu
 |int a=>obtain ⟨t1,rfl⟩:=ry;exact RcNeAt.tuple_int a t1 hl hu
 |str a=>obtain ⟨t1,rfl⟩:=ry;exact RcNeAt.tuple_str a t1 hl hu
 |_=>exact rp (show false=true from fy) yQ
theorem Jm (I:sS X tN σ H s):∀(n:Nat){x:V}{b:Bool},EqP X.K H n x x b->b=true
 |0,x,b,h=>by obtain ⟨h1,_,rfl⟩:=h;exact Jn h1
 |n+1,x,b,h=>by
  rcases h with ⟨h1,_,rfl⟩|⟨a,c,xs,ys,rfl,e2,p1,p2,h⟩|⟨a,c,xs,ys,rfl,e2,p1,p2,e,he,rfl⟩|⟨a,c,xs,ys,rfl,e2,p1,p2,_⟩|⟨a,c,xs,ys,rfl,e2,p1,p2,_⟩|⟨c,ys,f,rfl,_⟩|⟨c,ys,f,rfl,_⟩
  .exact Jn h1
  .cases e2;cases I.list_inj p1 p2;rcases h with ⟨h,_⟩|⟨_,e,he,rfl⟩
   .exact rp rfl h
   .rw [uY];exact λj hj=>Jm I n (he j (uP.mp hj) (uP.mp hj))
  .cases e2;cases I.tuple_inj p1 p2;rw [Nat.min_self,pR,Bool.and_true,uY];exact λj hj=>Jm I n (he j (uP.mp hj) (uP.mp hj))
  .cases e2;obtain ⟨_,_,⟨o1,_,q1,c1,_⟩,_⟩:=I.list p1;obtain ⟨_,_,⟨o2,q2,c2,_⟩,_⟩:=I.tuple p2;rw [q1] at q2;cases q2;rw [c1] at c2;exact rp c2 (by decide)
  .cases e2;obtain ⟨_,_,⟨o2,q2,c2,_⟩,_⟩:=I.tuple p1;obtain ⟨_,_,⟨o1,_,q1,c1,_⟩,_⟩:=I.list p2;rw [q1] at q2;cases q2;rw [c1] at c2;exact rp c2 (by decide)
  .cases f
  .cases f
theorem wv (I:sS X tN σ H s):∀(n:Nat)(A:G4){x y:V}{u v:G1}{b:Bool},A.units+n<cLine->EqP X.K H n x y b->sO x u->sO y v->EqAt A s u v b
 |0,A,x,y,u,v,b,hu,h,r1,r2=>by obtain ⟨h1,h2,rfl⟩:=h;exact VS r1 r2 h1 h2
 |n+1,A,x,y,u,v,b,hu,h,r1,r2=>by
  have h':=h;rcases h with ⟨h1,h2,rfl⟩|⟨a,c,xs,ys,rfl,rfl,p1,p2,h⟩|⟨a,c,xs,ys,rfl,rfl,p1,p2,e,he,rfl⟩|⟨a,c,xs,ys,rfl,rfl,p1,p2,rfl⟩|⟨a,c,xs,ys,rfl,rfl,p1,p2,rfl⟩|⟨c,ys,f,rfl,p,rfl⟩|⟨c,ys,f,rfl,p,rfl⟩
  .exact VS r1 r2 h1 h2
  .cases r1;cases r2;by_cases hac:a=c
   .subst hac;have hb:=Jm I (n+1) h';rw [hb];exact EqAt.same _
   obtain ⟨us,v1,q1,_⟩:=I.list p1;obtain ⟨ws,v2,q2,_⟩:=I.list p2;have l1:=v1.length;have l2:=v2.length;refine EqAt.of_refs hac ?_;rcases h with ⟨h,rfl⟩|⟨hl,e,he,rfl⟩
   .exact RcAt.lists_lengths q1.isList q2.isList (by rw [yT,yT];simp;omega) (by omega)
   .have q:=RcAt.lists (A:=A) (s:=s) q1.isList q2.isList (by rw [yT,yT];omega) (by omega) (e:=e) (λj j1 j2=>?_)
    .rw [yT,<- l1] at q;exact q
    .have j1':j<us.length:=by simpa using j1
     have j2':j<ws.length:=by simpa using j2
     rw [uX,uX];exact wv I n A.in1 (by show A.units+1+n<cLine;omega) (he j (by omega) (by omega)) (zH v1 j (by omega) j1') (zH v2 j (by omega) j2')
  .cases r1;cases r2;by_cases hac:a=c
   .subst hac;have hb:=Jm I (n+1) h';rw [hb];exact EqAt.same _
   obtain ⟨us,v1,q1,_⟩:=I.tuple p1;obtain ⟨ws,v2,q2,_⟩:=I.tuple p2;have l1:=v1.length;have l2:=v2.length;refine EqAt.of_refs hac ?_;have q:=RcAt.tuples (A:=A) (s:=s) q1 q2 (by omega) (e:=e) (λj j1 j2=>?_)
   .rw [yT,yT,<- l1,<- l2] at q;exact q
   .have j1':j<us.length:=by simpa using j1
    have j2':j<ws.length:=by simpa using j2
    rw [uX,uX];exact wv I n A.in1 (by show A.units+1+n<cLine;omega) (he j (by omega) (by omega)) (zH v1 j (by omega) j1') (zH v2 j (by omega) j2')
  .cases r1;cases r2;obtain ⟨us,v1,q1,_⟩:=I.list p1;obtain ⟨ws,v2,q2,_⟩:=I.tuple p2;exact EqAt.list_tuple q1.isList q2 (by omega)
  .cases r1;cases r2;obtain ⟨us,v1,q1,_⟩:=I.tuple p1;obtain ⟨ws,v2,q2,_⟩:=I.list p2;exact EqAt.tuple_list q1 q2.isList (by omega)
  .cases r2;rcases p with p|p
   .obtain ⟨us,v1,q1,_⟩:=I.list p;exact LO q1.isList (by omega) r1 f
   .obtain ⟨us,v1,q1,_⟩:=I.tuple p;exact LP q1 (by omega) r1 f
  .cases r1;rcases p with p|p
   .obtain ⟨us,v1,q1,_⟩:=I.list p;exact LQ q1.isList (by omega) r2 f
   .obtain ⟨us,v1,q1,_⟩:=I.tuple p;exact LR q1 (by omega) r2 f
def rc_at (I:sS X tN σ H s)(hu:A.units+n<cLine)(h:EqP X.K H n x y b)(r1:sO x u)(r2:sO y v):RcAt A s u v b:=by
 cases n with
 |zero=>obtain ⟨h1,h2,rfl⟩:=h;exact Cz r1 r2 h1 h2
 |succ n =>
  rcases h with ⟨h1,h2,rfl⟩|⟨a,c,xs,ys,rfl,rfl,p1,p2,h⟩|⟨a,c,xs,ys,rfl,rfl,p1,p2,e,he,rfl⟩|⟨a,c,xs,ys,rfl,rfl,p1,p2,rfl⟩|⟨a,c,xs,ys,rfl,rfl,p1,p2,rfl⟩|⟨c,ys,f,rfl,p,rfl⟩|⟨c,ys,f,rfl,p,rfl⟩
  .exact Cz r1 r2 h1 h2
  .cases r1;cases r2;obtain ⟨us,v1,q1,_⟩:=I.list p1;obtain ⟨ws,v2,q2,_⟩:=I.list p2;have l1:=v1.length;have l2:=v2.length;rcases h with ⟨h,rfl⟩|⟨hl,e,he,rfl⟩
   .exact RcAt.lists_lengths q1.isList q2.isList (by rw [yT,yT];simp;omega) (by omega)
   .have q:=RcAt.lists (A:=A) (s:=s) q1.isList q2.isList (by rw [yT,yT];omega) (by omega) (e:=e) (λj j1 j2=>?_)
    .rw [yT,<- l1] at q;exact q
    .have j1':j<us.length:=by simpa using j1
     have j2':j<ws.length:=by simpa using j2
     rw [uX,uX];exact wv I n A.in1 (by show A.units+1+n<cLine;omega) (he j (by omega) (by omega)) (zH v1 j (by omega) j1') (zH v2 j (by omega) j2')
  .cases r1;cases r2;obtain ⟨us,v1,q1,_⟩:=I.tuple p1;obtain ⟨ws,v2,q2,_⟩:=I.tuple p2;have l1:=v1.length;have l2:=v2.length;have q:=RcAt.tuples (A:=A) (s:=s) q1 q2 (by omega) (e:=e) (λj j1 j2=>?_)
   .rw [yT,yT,<- l1,<- l2] at q;exact q
   .have j1':j<us.length:=by simpa using j1
    have j2':j<ws.length:=by simpa using j2
    rw [uX,uX];exact wv I n A.in1 (by show A.units+1+n<cLine;omega) (he j (by omega) (by omega)) (zH v1 j (by omega) j1') (zH v2 j (by omega) j2')
  .cases r1;cases r2;obtain ⟨us,v1,q1,_⟩:=I.list p1;obtain ⟨ws,v2,q2,_⟩:=I.tuple p2;exact RcAt.list_tuple q1.isList q2 (by omega)
  .cases r1;cases r2;obtain ⟨us,v1,q1,_⟩:=I.tuple p1;obtain ⟨ws,v2,q2,_⟩:=I.list p2;exact RcAt.tuple_list q1 q2.isList (by omega)
  .cases r2;rcases p with p|p
   .obtain ⟨us,v1,q1,_⟩:=I.list p;exact SX q1.isList (by omega) r1 f
   .obtain ⟨us,v1,q1,_⟩:=I.tuple p;exact SY q1 (by omega) r1 f
  .cases r1;rcases p with p|p
   .obtain ⟨us,v1,q1,_⟩:=I.list p;exact SZ q1.isList (by omega) r2 f
   .obtain ⟨us,v1,q1,_⟩:=I.tuple p;exact Ia q1 (by omega) r2 f
def Ih (I:sS X tN σ H s)(hu:A.units+n<cLine)(h:EqP X.K H n x y b)(r1:sO x u)(r2:sO y v):RcNeAt A s u v (!b):=by
 cases n with
 |zero=>obtain ⟨h1,h2,rfl⟩:=h;exact CA r1 r2 h1 h2
 |succ n =>
  rcases h with ⟨h1,h2,rfl⟩|⟨a,c,xs,ys,rfl,rfl,p1,p2,h⟩|⟨a,c,xs,ys,rfl,rfl,p1,p2,e,he,rfl⟩|⟨a,c,xs,ys,rfl,rfl,p1,p2,rfl⟩|⟨a,c,xs,ys,rfl,rfl,p1,p2,rfl⟩|⟨c,ys,f,rfl,p,rfl⟩|⟨c,ys,f,rfl,p,rfl⟩
  .exact CA r1 r2 h1 h2
  .cases r1;cases r2;obtain ⟨us,v1,q1,_⟩:=I.list p1;obtain ⟨ws,v2,q2,_⟩:=I.list p2;have l1:=v1.length;have l2:=v2.length;rcases h with ⟨h,rfl⟩|⟨hl,e,he,rfl⟩
   .exact RcNeAt.lists_lengths q1.isList q2.isList (by rw [yT,yT];simp;omega) (by omega)
   .have q:=RcNeAt.lists (A:=A) (s:=s) q1.isList q2.isList (by rw [yT,yT];omega) (by omega) (e:=e) (λj j1 j2=>?_)
    .rw [yT,<- l1] at q;exact q
    .have j1':j<us.length:=by simpa using j1
     have j2':j<ws.length:=by simpa using j2
     rw [uX,uX];exact wv I n A.in1 (by show A.units+1+n<cLine;omega) (he j (by omega) (by omega)) (zH v1 j (by omega) j1') (zH v2 j (by omega) j2')
  .cases r1;cases r2;obtain ⟨us,v1,q1,_⟩:=I.tuple p1;obtain ⟨ws,v2,q2,_⟩:=I.tuple p2;have l1:=v1.length;have l2:=v2.length;have q:=RcNeAt.tuples (A:=A) (s:=s) q1 q2 (by omega) (e:=e) (λj j1 j2=>?_)
   .rw [yT,yT,<- l1,<- l2] at q;exact q
   .have j1':j<us.length:=by simpa using j1
    have j2':j<ws.length:=by simpa using j2
    rw [uX,uX];exact wv I n A.in1 (by show A.units+1+n<cLine;omega) (he j (by omega) (by omega)) (zH v1 j (by omega) j1') (zH v2 j (by omega) j2')
  .cases r1;cases r2;obtain ⟨us,v1,q1,_⟩:=I.list p1;obtain ⟨ws,v2,q2,_⟩:=I.tuple p2;exact RcNeAt.list_tuple q1.isList q2 (by omega)
  .cases r1;cases r2;obtain ⟨us,v1,q1,_⟩:=I.tuple p1;obtain ⟨ws,v2,q2,_⟩:=I.list p2;exact RcNeAt.tuple_list q1 q2.isList (by omega)
  .cases r2;rcases p with p|p
   .obtain ⟨us,v1,q1,_⟩:=I.list p;exact Ib q1.isList (by omega) r1 f
   .obtain ⟨us,v1,q1,_⟩:=I.tuple p;exact Ic q1 (by omega) r1 f
  .cases r1;rcases p with p|p
   .obtain ⟨us,v1,q1,_⟩:=I.list p;exact Ie q1.isList (by omega) r2 f
   .obtain ⟨us,v1,q1,_⟩:=I.tuple p;exact Ig q1 (by omega) r2 f
def rEqD (K:Fg)(n:Nat)(neg:Bool):R2:=λx y H Q=>∃ b,EqP K H n x y b/\Q (.bl (if neg then !b else b)) H
def xG (K:Fg)(hu:X.A.units+n<cLine)(hK:X.K=K):OpR X (compareOp .Eq) (rEqD K n false):=by subst hK;intro tN s σ H x y v u Q I rx ry h;obtain ⟨b,h,q⟩:=h;exact rc_at I hu h rx ry X.rD X.w X.xe _ ⟨.bl b,H,I,rfl,q⟩
def QQ (K:Fg)(hu:X.A.units+n<cLine)(hK:X.K=K):OpR X (compareOp .NotEq) (rEqD K n true):=by subst hK;intro tN s σ H x y v u Q I rx ry h;obtain ⟨b,h,q⟩:=h;exact Ih I hu h rx ry X.rD X.w X.xe _ ⟨.bl (!b),H,I,rfl,q⟩
def qC {k:Nat}(hr:Room k A):A.units+6<cLine:=by have:=hr.units;omega
end L2
namespace L2
open PySem PySem.Spec PyProof.Rows
variable{X:Cx}{K:Fg}{e o:Expr}{es:EN}{to:TE}{t:TA}{name:Str}{apos cpos:Pos}{T:String}{r:AN}
def rAddS:R2:=λx y H Q=>∃ i j,x = .str i/\y = .str j/\i.length+j.length<=sizeLine/\Q (.str (i++j)) H
def WY (K:Fg):R2:=λx y H Q=>(rI0 λi j=> .int (i+j)) x y H Q∨rAddS x y H Q∨Ck K x y H Q∨Cm K x y H Q
def t0 (K:Fg)(h:X.K=K:=by rfl):OpR X (binaryOp .Add) (WY K):=by subst h;exact op_add.or (op_add_str.or (op_catL.or TV))
def He (h:X.K=K):IxR X (rIx K):=by subst h;exact NZ
def Xa (K:Fg):EB->Hp->VK->Prop:=λxs H Q=>(∃ x n,xs=[x]/\LenV K x H n/\Q (.int n) H)∨∃ a kvs,xs=[V.ref a]/\H a=some (.dK kvs)/\Q (.int kvs.length) H
def xj (K:Fg)(h:X.K=K:=by rfl):sI X (.builtin "len") (Xa K):=by subst h;exact sI.or (f:= .builtin "len") La Lb
def SR {a:Expr}{ta:TE}(h:X.K=K)(ha:PE X a ta)(he:∀ whole,isTrue a X.rC whole=(do let v <- whole;standAt a.pos;holding [v] (truthy v))):PT X a (λσ H Q=>ta σ H λx H'=>∃ k,TruV K x H' k/\Q k H'):=by subst h;exact SS ha he
def TX (h:X.K=K):OpR X (compareOp .In) (rIn K false):=by subst h;exact PM
def Cp (K:Fg):EB->Hp->VK->Prop:=λxs H Q=>∃ p ys,xs=[.ref p]/\(sK K H p ys∨sD K H p ys)/\∀ l,H l=none->Q (.ref l) (z9 H l (.lst ys))
def VE (K:Fg)(h:X.K=K:=by rfl):sI X (.type "list") (Cp K):=by subst h;exact Lf
def rIsi (K:Fg):EB->Hp->VK->Prop:=λxs H Q=>∃ x n T b,xs=[x,.ty n]/\xW K H x (.type T)/\tyB T n=some b/\Q (.bl b) H
def jC (K:Fg)(h:X.K=K:=by rfl):sI X (.builtin "isinstance") (rIsi K):=by subst h;exact MZ
def Cj (K:Fg):EB->Hp->VK->Prop:=λxs H Q=>∃(a:Addr)(bs:F9),xs=[.ref a]/\sK K H a (bs.map V.bl)/\Q (.bl (bs.all id)) H
def wo (K:Fg)(hc:X.calm=true)(h:X.K=K):sI X (.builtin "all") (Cj K):=by subst h;exact MW hc
def Cv (K:Fg):EB->Hp->VK->Prop:=λxs H Q=>∃(a:Addr)(ns:EH),xs=[.ref a]/\sK K H a (ns.map V.int)/\Q (.int ns.sum) H
def Lp (hc:X.calm=true)(h:X.K=K):sI X (.builtin "sum") (Cv K):=by subst h;exact KI hc
def rIsN:R2:=λx y H Q=>y = .non/\Q (.bl (decide (x = .non))) H
def Cr:R2:=λx y H Q=>y = .non/\Q (.bl (!decide (x = .non))) H
def WG:OpR X (compareOp .Is) rIsN:=TY
def PP:OpR X (compareOp .IsNot) Cr:=Sb
def MR:bootBuiltins "tuple"=some (.type "tuple"):=by decide +kernel
def MO:bootBuiltins "max"=some (.builtin "max"):=by decide +kernel
def KE:bootBuiltins "sorted"=some (.builtin "sorted"):=by decide +kernel
def VB:bootBuiltins "dict"=some (.type "dict"):=by decide +kernel
def Ot:tyB "tuple" "tuple"=some true:=by decide +kernel
section
variable{id:String}
def zg (K:Fg)(hK:X.K=K)(pa:PlainAttrs T)(slot:Slot T name id)(hty:typeOf (.builtin id)=pure (.type "method_descriptor"))(hm:MtR X id r)(ho:PE X o to)(ha:PA X (e::es) t)(hbase:attributeBase o name X.rC (eval o X.rC)=eval o X.rC:=by rfl)(hfew:((backTo cpos (starEach (e::es) X.rC)).all (λx=>!x.1)&&(backToKw cpos (keywordEach [] X.rC)).all (λx=>x.1.isSome)&&decide ((e::es).length+([]:List Keyword).length+(if ([]:List Keyword).isEmpty then 0 else 1)<30))=true:=by rfl)(hline:(apos.endLine==cpos.line)=true:=by rfl)(hs:starEach (e::es) X.rC=(false,eval e X.rC)::starEach es X.rC:=by rfl)(hplain:(backTo cpos (starEach es X.rC)).any (·.1)=false:=by rfl):PE X (.Call (.Attribute o name apos) (e::es) [] cpos) (tBM K T r to t):=by subst hK;exact pe_bm pa slot hty hm ho ha hbase hfew hline hs hplain
end
end L2
namespace L2
open PySem PySem.Spec PySem.Calls
variable{P:G3}{w:G5}{κ:Type}{X:Cx}{h:Heap}{a:Addr}{n:Nat}{A:G4}
section
variable[DecidableEq κ]{knd:PySem.KeyKind P w κ}
def h8 (val:Nat->κ):Nat->List κ
 |0=>[]
 |i+1=>if val i∈h8 val i then h8 val i else h8 val i++[val i]
theorem Uu (val:Nat->κ):∀ i,(h8 val i).length<=i
 |0=>yP _
 |i+1=>by
  have ih:=Uu val i;unfold h8;split
  .omega
  .rw [yV,uC];omega
def CW {S S':κ->Bool}{n':Nat}(x:h.SetOf knd a S n)(e:∀ k,S k=S' k)(en:n=n'):h.SetOf knd a S' n':=by cases (funext e:S=S');cases en;exact x
def Uv {h':Heap}{S:κ->Bool}(x:h.SetOf knd a S n)(e:∀ o,h.get? a=some o->h'.get? a=some o):h'.SetOf knd a S n:=by obtain ⟨o,es,ep,t,ho,r⟩:=x;exact ⟨o,es,ep,t,e _ ho,r⟩
def FB {R:AH}{I:Addr}{fp wr:EC}{G:G0->G0->Prop}{Pp:C3}{St:Nat->G2->Prop}(W:WalksS P w A.in1 I fp wr G n Pp St)(a:Addr)(ha:a∉fp)(val:Nat->κ)(hv:∀ i v,Pp i v->knd.is (val i) v=true/\v.scannable=true)(hb:n+1<scanBound):∀ (m i:Nat) (s:G2),n-i=m->i<=n->St i s->s.heap.SetOf knd a (λx=>decide (x∈h8 val i)) (h8 val i).length -> (∀ s',Moved (a::wr) G s s'->s'.heap.SetOf knd a (λx=>decide (x∈h8 val n)) (h8 val n).length->R (.ok (.ret .none)) s') -> codeAny (model P w) A (.builtin "set.update.loop" ⟨[.ref a,.ref I],[]⟩) R s:=by
 have haw:a∉wr:=λz=>ha (W.sub _ z);have up:∀ b∈wr,b∈a::wr:=λb z=>yO _ z;intro m
 induction m with
 |zero =>
  intro i s hm hi st hS hR;obtain rfl:i=n:=by omega
  refine pV PyProof.Rows.F.entry_set_update_loop ?_;rw [rb pO _];show wpAny _ A.in1 (pyNext (.ref I) >>= _) _ _ s;refine yY (W.done s _ _ st λs' mv=>?_);show wpAny _ A.in1 (ret Value.none) _ _ s';exact yI (hR s' (mv.mono up) (Uv hS λo e=>mv.heap a o haw e))
 |succ m ih =>
  intro i s hm hi st hS hR;have hlt:i<n:=by omega
  refine pV PyProof.Rows.F.entry_set_update_loop ?_;rw [rb pO _];show wpAny _ A.in1 (pyNext (.ref I) >>= _) _ _ s;refine yY (W.item i s _ _ hlt st λv s' hP st' mv=>?_);obtain ⟨hk,hsc⟩:=hv i v hP;have hS':s'.heap.SetOf knd a (λx=>decide (x∈h8 val i)) (h8 val i).length:=Uv hS λo e=>mv.heap a o haw e;show wpAny _ A.in1 (holding [v] (setAdd a v) >>= _) _ _ s';refine yY (rh ?_);unfold setAdd;refine rh (yY (knd.pyHash (k:=val i) hk ?_));have room:(h8 val i).length+1<scanBound:=by have:=Uu val i;omega
  refine wpAny_setAddHashed_of (knd:=knd) (s:={ s' with toks:=s'.toks+1 }) hk hsc hS' room λh' sb hS2=>?_;have hSi:h'.SetOf knd a (λx=>decide (x∈h8 val (i+1))) (h8 val (i+1)).length:=by
   refine CW hS2 (λx=>?_) ?_
   .by_cases hc:val i∈h8 val i
    .rw [show h8 val (i+1)=h8 val i from rB hc];by_cases hx:x=val i
     .subst hx;simp [hc]
     .simp [hx]
    .rw [show h8 val (i+1)=h8 val i++[val i] from rq hc];simp
   .by_cases hc:val i∈h8 val i
    .rw [show h8 val (i+1)=h8 val i from rB hc];simp [hc]
    .rw [show h8 val (i+1)=h8 val i++[val i] from rq hc];simp [hc]
  refine yI ⟨pN pO _,ih (i+1) _ (by omega) hlt (W.frame _ s' _ _ st' (uh _) λb z o e=>?_) hSi λs2 mv2 hS3=>?_⟩
  .rw [sb.2 b (λq:b=a=>ha (by rw [<- q];exact z))];exact e
  .refine hR s2 (Moved.trans W.gtrans ((mv.mono up).then_heap (uh _) λb o z e=>?_) mv2) hS3;rw [sb.2 b (λq:b=a=>z (by rw [q];exact yR))];exact e
def Lj {E:AA}{s:G2}{l:Addr}{its:ED}{val:Nat->κ}{Q:AA}(hh:A.handled=none)(hl:s.heap.IsList l its)(hv:∀ (i:Nat) (v:G1),its[i]?=some v->knd.is (val i) v=true/\v.scannable=true)(hb:its.size+1<scanBound)(h:∀ (h':Heap) (tk:Nat),h'.SetOf knd s.heap.objs.size (λx=>decide (x∈h8 val its.size)) (h8 val its.size).length -> (∀ b o,s.heap.get? b=some o->h'.get? b=some o)->Q (.ref s.heap.objs.size) { s with heap:=h',toks:=tk }):wpAny (model P w) A (call (.type "set") [.ref l]) Q E s:=by
 obtain ⟨c,tl,hmro⟩:=PySem.F.called_set.mro;have hmade:=PySem.F.called_set.made;have hsub:=PySem.F.called_set.sub;refine pp (codeAny_of_tree ?_);show wpAny _ _ (callAny (.type "set") _) _ _ _;refine yI ⟨oU _ (by decide +kernel),pV PySem.F.entry_type_call ?_⟩;rw [Around.under_plain (weight_type_call_type "set" [.ref l] []) rfl];have q1:=PySem.F.called_set.notType;have q2:=PySem.F.called_set.canCreate;have q3:=PySem.F.typeCall_set_1 (.ref l)
 (repeat (any_goals (first|assumption|wp_step)))
 refine pG (code_set_new_1 (.ref l) (E:=E) (Q₁:=λob s1=>∃ led:Bool,ob = .ref s.heap.objs.size/\s1={ s with heap:=s.heap.push { cls:= .type "set",dict:=none,data:= .set #[] 0 (.fresh 0 0 led) } }) λled=>⟨led,rfl,rfl⟩) λr s1 hr=>?_;cases r with
 |error e=>exact hr
 |ok fl =>
  cases fl with
  |ret ob =>
   obtain ⟨led,rfl,rfl⟩:=hr;have hS:(s.heap.push { cls:= .type "set",dict:=none,data:= .set #[] 0 (.fresh 0 0 led) }).get? s.heap.objs.size=some { cls:= .type "set",dict:=none,data:= .set #[] 0 (.fresh 0 0 led) }:=yz _ rfl;have hT:Shared.TypeIs { s with heap:=s.heap.push { cls:= .type "set",dict:=none,data:= .set #[] 0 (.fresh 0 0 led) } } (.ref s.heap.objs.size) "set":=⟨_,hS,rfl⟩;have hli:=PySem.F.called_set.init.lookup;have hbi:=PySem.F.called_set.init.bind (.ref s.heap.objs.size)
   (repeat (any_goals (first|assumption|wp_step)))
   refine pG (pE (R:=wants (λr s2=>r = .none/\∃ h' tk,s2={ s with heap:=h',toks:=tk }/\h'.SetOf knd s.heap.objs.size (λx=>decide (x∈h8 val its.size)) (h8 val its.size).length /\
     (∀ b o,s.heap.get? b=some o->h'.get? b=some o)) E) PySem.F.called_set.init.plain PySem.F.entry_set_init (check_set_init_1 hT ?_)) λr2 s2 hr2=>?_
   .obtain ⟨ol,hol,hcl,nl,hdl⟩:=hl;obtain ⟨ocls,odict,odata,oslots⟩:=ol;simp only at hcl hdl;subst hcl;subst hdl;have hol':(s.heap.push { cls:= .type "set",dict:=none,data:= .set #[] 0 (.fresh 0 0 led) }).get? l=some { cls:= .type "list",dict:=odict,data:= .seq its nl,slots:=oslots }:=yW _ hol;have z1:=PySem.F.sub_list_set;have z2:=PySem.F.sub_list_frozenset;have z3:(Value.type "list" == Value.type "dict")=false:=by decide
    have hl1:(s.heap.push { cls:= .type "set",dict:=none,data:= .set #[] 0 (.fresh 0 0 led) }).IsList l its:=⟨_,hol',rfl,nl,rfl⟩;unfold Builtin.«set.__init__» noKeywords Builtin.Frozenset.updateFrom;generalize hPI:pyIter=PI
    wp_walk
    subst hPI;refine pz hl1 ?_;refine yY (wpAny_runValue ?_);have hlS:l<s.heap.objs.size:=yN hol;have h3:A.in1.in1.in1.handled=none:=by simp [hh]
    have ne1:l≠(s.heap.push { cls:= .type "set",dict:=none,data:= .set #[] 0 (.fresh 0 0 led) }).objs.size:=by rw [uB];exact yG (tU hlS)
    have ne2:s.heap.objs.size∉[(s.heap.push { cls:= .type "set",dict:=none,data:= .set #[] 0 (.fresh 0 0 led) }).objs.size,l]:=by rw [uB];simp only [yL,ye,or_false,not_or];exact ⟨yG (uq _),ug hlS⟩
    refine FB (knd:=knd) ((Walks.list h3 _ l ne1 its).toS) s.heap.objs.size ne2 val hv hb (its.size-0) 0 _ (by omega) (yd _) ⟨⟨_,yz _ rfl,rfl,rfl⟩,(hl1.push _)⟩ ?_ ?_
    .have hg:((s.heap.push { cls:= .type "set",dict:=none,data:= .set #[] 0 (.fresh 0 0 led) }).push { cls:= .type "list_iterator",data:= .fields #[.ref l,.int 0 0] }).get? s.heap.objs.size=some { cls:= .type "set",dict:=none,data:= .set #[] 0 (.fresh 0 0 led) }:=yW _ hS;exact CW ((PyProof.Rows.setObjOf_fresh (knd:=knd) led).setOf hg (by unfold scanBound;omega)) (λx=>by simp [h8]) rfl
    .rintro ⟨h',g',d',tk',os'⟩ mv hS';have eg:g'=s.gens:=mv.gens;have ed:d'=s.drawn:=mv.drawn;have eo:os'=s.os:=mv.os;subst eg ed eo;show wpAny _ _ _ _ _ _;refine yI ?_;show wpAny _ _ (ret Value.none) _ _ _;refine yI ⟨rfl,h',tk',rfl,hS',λb o e=>?_⟩;have hb0:=yN e;refine mv.heap b o ?_ (yW _ (yW _ e));rw [uB];simp only [yL,ye,or_false,not_or];exact ⟨yG hb0,yG (tU hb0)⟩
   .cases r2 with
    |error e=>exact hr2
    |ok fl2 =>
     cases fl2 with
     |ret r =>
      obtain ⟨rfl,h',tk,rfl,hS',hk'⟩:=hr2
      (repeat (any_goals (first|assumption|wp_step)))
      exact h _ _ hS' hk'
     |_=>exact False.elim hr2
  |_=>exact False.elim hr
end
def wg (n:Nat)(a:Addr):HO:= .ext λh=>∃(P:G3)(w:G5)(S:j5->Bool),h.SetOf (qI P w) a S n
def Ak {ss:C7}{us:C8}(r:sP (ss.map V.str) us):∀(i:Nat)(v:G1),us[i]?=some v->∃ x t,ss[i]?=some x/\v = .str x t:=by
 have key:∀(ss:C7)(us:C8),sP (ss.map V.str) us->∀(i:Nat)(v:G1),us[i]?=some v->∃ x t,ss[i]?=some x/\v = .str x t:=by
  intro ss
  induction ss with
  |nil=>intro us r i v e;cases r;simp at e
  |cons s ss ih =>
   intro us r i v e;cases r with
   |cons p q =>
    cases i with
    |zero=>obtain ⟨t,rfl⟩:=p;simp at e;exact ⟨s,t,rfl,e.symm⟩
    |succ i=>exact ih _ q i v (by simpa using e)
 intro i v e;exact key ss us r i v e
def Li (hc:X.calm=true):sI X (.type "set") (λxs H Q=>∃ (a:Addr) (ss:C7),xs=[.ref a]/\sK X.K H a (ss.map V.str)/\ss.length<=1000 /\ ∀ l,H l=none->Q (.ref l) (z9 H l (wg (h8 (λi=>(Sum.inr (ss.getD i ⟨#[]⟩):j5)) ss.length).length l))):=by
 intro tN s σ H xs us Q I r h;obtain ⟨a,ss,rfl,hq,hl,q⟩:=h;obtain ⟨u,rfl,ru⟩:=zk r;obtain rfl:u=Value.ref a:=ru;obtain ⟨its,rv,p,hz⟩:=I.list hq;have hn:its.length=ss.length:=by have e:=rv.length;rw [yZ] at e;exact e.symm
 refine Lj (knd:=qI X.rD X.w) (its:=its.toArray) (val:=λi=>(Sum.inr (ss.getD i ⟨#[]⟩):j5)) (I.ok.hd hc) p.isList (λi v e=>?_) (by rw [yT,hn];unfold scanBound;omega) λh' tk hS k=>?_
 .obtain ⟨x,t,hx,rfl⟩:=Ak rv i v (by simpa using e);rw [yy,hx];exact ⟨WB _ _ _ _,rfl⟩
 .have e8:its.toArray.size=ss.length:=by rw [yT];exact hn
  rw [e8] at hS;refine ⟨.ref s.heap.objs.size,_,I.laid (t':=tk) k (yP _) (show sJ X.rD X.w _ h' _ (wg _ _) from ⟨⟨_,_,_,hS⟩,?_,?_⟩),rfl,q _ (I.tI.fresh (yP _))⟩
  .obtain ⟨o,_,_,_,ho,_⟩:=hS;exact ⟨o,ho⟩
  .rintro h1 h2 ⟨P,w,S,x⟩ e;exact ⟨P,w,S,Uv x e⟩
def Lc:sI X (.builtin "len") (λxs H Q=>∃ (a:Addr) (n:Nat),xs=[.ref a]/\H a=some (wg n a)/\Q (.int n) H):=by
 intro tN s σ H xs us Q I r h;obtain ⟨a,n,rfl,hq,q⟩:=h;obtain ⟨u,rfl,ru⟩:=zk r;obtain rfl:u=Value.ref a:=ru;obtain ⟨⟨P,w,S,o,es,ep,t,ho,hex,hd,_,_,hb,hf,hn⟩,_⟩:=(show sJ X.rD X.w H s.heap a (wg n a) from I.tI a _ hq);subst hn;have h63:((es.size:Nat):Int)<2 ^ 63:=by unfold scanBound at hb;omega
 exact call_len_set ho hex hd hf h63 ⟨.int es.size,H,I.tok _,⟨_,rfl⟩,q⟩
end L2
namespace L2
open PySem PySem.Spec PySem.Calls PyProof.Rows
variable{X:Cx}{ns:EH}{f:Nat->Int}{K:Fg}{ss:C7}{P:G3}{w:G5}{vs:C8}{A:G4}{E Q:AA}{s:G2}
def BJ {its:C8}(rv:sP (ns.map V.int) its):∃ xs:Array (Int×Tok),its.toArray=intItems xs/\xs.size=ns.length/\∀ i,i<ns.length->numAt xs i=ns.getD i 0:=by
 have hi:=UU rv;obtain ⟨xs,ex⟩:=hi.allInts.items;have hl:xs.size=ns.length:=by
  have e:its.toArray.size=xs.size:=by rw [ex];unfold intItems;rw [Array.size_map]
  have e2:=rv.length;rw [yZ] at e2;rw [yT] at e;omega
 refine ⟨xs,ex,hl,λi h=>?_⟩;have hx:i<xs.size:=by omega
 have e1:its.toArray[i]?=some (.int xs[i].1 xs[i].2):=by rw [ex];unfold intItems;rw [Array.getElem?_map,ue hx];rfl
 have e2:its[i]?=some (.int xs[i].1 xs[i].2):=by simpa using e1
 obtain ⟨t,e3⟩:=IntsAre.int_at hi i _ e2;injection e3 with e3 _;unfold numAt;rw [ue hx];exact e3
def Cq (K:Fg):EB->Hp->VK->Prop:=λxs H Q=>∃(a:Addr)(ns:EH),xs=[.ref a]/\sK K H a (ns.map V.int)/\ns≠[]/\∀ m,m∈ns->(∀ x∈ns,m<=x)->Q (.int m) H
def Kv {k:Nat}(hf:∀ i,i<ns.length->f i=ns.getD i 0)(hk:k<ns.length):f k∈ns:=by rw [hf k hk,yy,yS hk];exact yf hk
def Ku {R:Int->Prop}(hf:∀ i,i<ns.length->f i=ns.getD i 0)(h:∀ j,j<ns.length->R (f j)):∀ x∈ns,R x:=by intro x hx;obtain ⟨j,hj,rfl⟩:=uD hx;have:=h j hj;rw [hf j hj,yy,yS hj] at this;exact this
def Lg (hc:X.calm=true)(hK:X.K=K):sI X (.builtin "min") (Cq K):=by subst hK;intro tN s σ H xs us Q I r h;obtain ⟨a,ns,rfl,hq,hne,q⟩:=h;obtain ⟨u,rfl,ru⟩:=zk r;obtain rfl:u=Value.ref a:=ru;obtain ⟨its,rv,p,hz⟩:=I.list hq;obtain ⟨ys,ey,el,en⟩:=BJ rv;have hl:s.heap.IsList a its.toArray:=p.isList;rw [ey] at hl;have hp:0<ns.length:=ui.mpr hne;refine min_intList (I.ok.hd hc) hl (by omega) λv h' tk hv k=>?_;obtain ⟨t,rfl⟩:=intItems_at hv;obtain ⟨h1,h2⟩:=argBest_lt (numAt ys) (ys.size-1);exact ⟨.int _,H,I.kept (t':=tk) k,⟨t,rfl⟩,q _ (Kv en (by omega)) (Ku en λj hj=>h2 j (by omega))⟩
def ZW (ss:C7):Prop:=ss.Pairwise λx y=>¬ (y.cps.toList<x.cps.toList)
def Db (h:sortedS ss=true):ZW ss:=by
 cases ss with
 |nil=>exact List.Pairwise.nil
 |cons x r =>
  have key:∀(l:C7)(p:Str),risingS p l=true->(p::l).Pairwise λx y=>¬ (y.cps.toList<x.cps.toList):=by
   intro l
   induction l with
   |nil=>intro p _;exact List.pairwise_singleton _ _
   |cons y l ih =>
    intro p hp;have hp':(!ltCps y.cps.toList p.cps.toList&&risingS y l)=true:=hp;rw [yg] at hp';have i2:=ih y hp'.2;have hyp:¬ (y.cps.toList<p.cps.toList):=by have e:=hp'.1;rw [ltCps_eq] at e;simpa using e
    refine List.pairwise_cons.mpr ⟨λz hz=>?_,i2⟩;rcases yL.mp hz with rfl|hz
    .exact hyp
    .have hzy:=(List.pairwise_cons.mp i2).1 z hz;intro hlt;exact hyp (Std.lt_of_le_of_lt (Std.not_lt.mp hzy) hlt)
  exact key r x h
def Cu (K:Fg):EB->Hp->VK->Prop:=λxs H Q=>∃(a:Addr)(ss:C7),xs=[.ref a]/\(sK K H a (ss.map V.str)∨∃ kvs,Rd H a (.dK kvs)/\kvs.map (·.1)=ss.map Sum.inr)/\ss.length<64 /\
 ∀ l ss',H l=none->ss'.Perm ss->ZW ss'->Q (.ref l) (z9 H l (.lst (ss'.map V.str)))
theorem Dh:∀{ss:C7}{us:C8},sP (ss.map V.str) us->StrsAre us ss
 |[],_,.nil=> .nil
 |x::_,_,.cons ⟨t,e⟩ r=>by subst e;exact .cons x t (Dh r)
theorem UV:∀{us:C8}{ss:C7},StrsAre us ss->sP (ss.map V.str) us
 |_,_,.nil=> .nil
 |_,_,.cons x t r=> .cons ⟨t,rfl⟩ (UV r)
def Hm:∀{kvs:EL}{vs:F7}{ss:C7},KV kvs vs->kvs.map (·.1)=ss.map Sum.inr->vs.map (·.1)=ss.map Sum.inr:=by
 intro kvs vs ss r e;rw [<- e];clear e
 induction r with
 |nil=>rfl
 |cons p _ ih=>rw [yH,yH,ih,p.1]
def NU {vs:F7}{acc:ED}(e:vs.map (·.1)=ss.map Sum.inr)(h:ItemsOf (λi v=>∃ k x,vs[i]?=some (k,x)/\(qI P w).is k v=true) acc vs.length):StrsAre acc.toList ss:=by
 have hl:vs.length=ss.length:=by have:=pL List.length e;rwa [yZ,yZ] at this
 have h0:∀ v∈acc.toList,∃ x t,v = .str x t:=by
  intro v hv;obtain ⟨i,hi,rfl⟩:=uD hv;obtain ⟨k,x,hk,his⟩:=h.2 i acc.toList[i] (by simp at hi ⊢);have hk2:(vs.map (·.1))[i]?=some k:=by rw [yM,hk];rfl
  rw [e,yM] at hk2;obtain ⟨z,_,rfl⟩:=yC.mp hk2;cases hv2:acc.toList[i] with
  |str y t=>exact ⟨y,t,rfl⟩
  |_=>rw [hv2] at his;cases his
 have h1:=strsAre_map acc.toList h0;have e2:acc.toList.map strOf=ss:=by
  apply List.ext_getElem?;intro i;rw [yM];by_cases hi:i<acc.size
  .obtain ⟨k,x,hk,his⟩:=h.2 i acc[i] (ue hi);have hk2:(vs.map (·.1))[i]?=some k:=by rw [yM,hk];rfl
   rw [e,yM] at hk2;obtain ⟨z,hz,rfl⟩:=yC.mp hk2;obtain ⟨y,t,hy⟩:=h0 acc[i] (by simp);rw [hy] at his;have:y=z:=by have q:wy (Sum.inr z) (.str y t)=true:=his;have q2:=BP y t;have q3:=(qI P w).inj (.str y t) (Sum.inr z) (Sum.inr y) his (WB P w y t);injection q3 with q3;exact q3.symm
   rw [hz,tR,ue hi,hy,<- this];rfl
  .have h1:=h.1;rw [uH (by simp;omega),uH (by omega)];rfl
 rw [e2] at h1;exact h1
def Au (hS:StrsAre vs ss)(h64:vs.length<64)(h:∀ (h':Heap) (out:C8) (ss':C7) (e:Nat),(∀ b o,s.heap.get? b=some o->h'.get? b=some o)->h'.get? s.heap.objs.size=some (seqObj "list" out.toArray e)->StrsAre out ss'->ss'.Perm ss->sortedS ss'=true->Q (.ref s.heap.objs.size) { s with heap:=h' }):wpAny (model P w) A (newList vs >>= λl=>holding [l] (call (.builtin "list.sort") [l]) >>= λ_=>pure l) Q E s:=by
 refine yY (wpAny_newList ?_);have ho:(s.heap.push (seqObj "list" vs.toArray 0)).get? s.heap.objs.size=some (seqObj "list" vs.toArray 0):=yz _ rfl;refine yY (rh (wpAny_call_entry slot_list_sort (s:={ s with heap:=s.heap.push (seqObj "list" vs.toArray 0) }) ⟨_,ho,rfl⟩ entry_list_sort
  (list_sort_treeK strKind_oneLt (s:={ s with heap:=s.heap.push (seqObj "list" vs.toArray 0) }) ho hS.keysOf (λv1 v2 rest e=>keyKind_strs (by rw [<- e];exact hS)) h64 λst p1 p2=>⟨_,rfl,?_⟩) (args_list_sort _)))
 obtain ⟨ss',a1,a2,a3⟩:=sorted_out_str hS p1 p2;obtain ⟨e,he⟩:=sortedHeap_at (out:=(arrOf st).map (·.2)) ho;refine yI (h _ _ ss' e (λb o hb=>?_) (by rw [Array.toArray_toList];exact he) a1 a2 a3);have hlt:=yN hb;rw [sortedHeap_old (yG hlt) (by rw [uB];exact tU hlt)];exact yW _ hb
def FK (hS:StrsAre vs ss)(h64:vs.length<64)(h:∀ (h':Heap) (out:C8) (ss':C7) (e:Nat),(∀ b o,s.heap.get? b=some o->h'.get? b=some o)->h'.get? s.heap.objs.size=some (seqObj "list" out.toArray e)->StrsAre out ss'->ss'.Perm ss->sortedS ss'=true->Q (.ref s.heap.objs.size) { s with heap:=h' }):wpAny (model P w) A (newList vs >>= λl=>holding [l] (call (.builtin "list.sort") [l] []) >>= λ_=>ret l) (λfin s'=>∃ v,fin=PySem.Fin.done (.ret v)/\Q v s') E s:=by
 refine yY (wpAny_newList ?_);have ho:(s.heap.push (seqObj "list" vs.toArray 0)).get? s.heap.objs.size=some (seqObj "list" vs.toArray 0):=yz _ rfl;refine yY (rh (wpAny_call_entry slot_list_sort (s:={ s with heap:=s.heap.push (seqObj "list" vs.toArray 0) }) ⟨_,ho,rfl⟩ entry_list_sort
  (list_sort_treeK strKind_oneLt (s:={ s with heap:=s.heap.push (seqObj "list" vs.toArray 0) }) ho hS.keysOf (λv1 v2 rest e=>keyKind_strs (by rw [<- e];exact hS)) h64 λst p1 p2=>⟨_,rfl,?_⟩) (args_list_sort _)))
 obtain ⟨ss',a1,a2,a3⟩:=sorted_out_str hS p1 p2;obtain ⟨e,he⟩:=sortedHeap_at (out:=(arrOf st).map (·.2)) ho;refine yI ⟨_,rfl,h _ _ ss' e (λb o hb=>?_) (by rw [Array.toArray_toList];exact he) a1 a2 a3⟩;have hlt:=yN hb;rw [sortedHeap_old (yG hlt) (by rw [uB];exact tU hlt)];exact yW _ hb
def Lk (hc:X.calm=true)(hK:X.K=K):sI X (.builtin "sorted") (Cu K):=by
 subst hK;intro tN s σ H xs us Q I r h;obtain ⟨a,ss,rfl,hq,h64,q⟩:=h;obtain ⟨u,rfl,ru⟩:=zk r;obtain rfl:u=Value.ref a:=ru;rcases hq with hq|⟨kvs,hq,hk⟩
 .obtain ⟨its,rv,p,hz⟩:=I.list hq;have hS:=Dh rv;have hl:its.length=ss.length:=by have e:=rv.length;rw [yZ] at e;exact e.symm
  refine sorted_strs p.isList hS (by omega) λout ss' a1 a2 a3=>?_;obtain ⟨e,he⟩:=sortedAll_at s.heap its out;refine ⟨.ref _,_,I.laid (t':=s.toks) (o:= .lst (ss'.map V.str)) (λb o hb=>sortedAll_old hb) (uh _) ?_,rfl,q _ ss' (I.tI.fresh (uh _)) a2 (Db a3)⟩;exact ⟨by rw [yZ,a2.length_eq];exact uJ (Xb (by omega)),out.toList,e,UV a1,by simpa [seqObj] using he⟩
 .obtain ⟨z,hd,vs,rel,dd⟩:=wq I.tI hq;obtain ⟨ep,hat⟩:=dd.dictAt;have ek:=Hm rel hk;have hvl:vs.length=ss.length:=by have:=pL List.length ek;rwa [yZ,yZ] at this
  refine Calls.call_function_entry (id:="sorted") kind_sorted plain_sorted entry_sorted (args_sorted1 _) ?_;unfold Builtin.«sorted»;refine yY (m:=checkCount "sorted" 1 1 _) (yI ?_);refine yY (PySem.W.kdu_collect (PySem.W.kdl_dict (knd:=qI X.rD X.w) (kvs:=vs) (ep:=ep) hd) (by simpa using I.ok.hd hc) hat (uJ (Xb (by omega))) λh1 tk acc k1 hacc=>?_);have hS:=NU ek hacc;have hal:acc.toList.length=ss.length:=by have:=hacc.1;simp;omega
  refine FK (s:={ s with heap:=h1,toks:=tk }) hS (by omega) λh' out ss' e k2 he a1 a2 a3=>?_;have I1:sS X tN σ H { s with heap:=h1,toks:=tk }:=I.kept (t':=tk) k1;refine ⟨.ref _,_,I1.laid (t':=tk) (o:= .lst (ss'.map V.str)) k2 (yP _) ?_,rfl,q _ ss' (I1.tI.fresh (yP _)) a2 (Db a3)⟩;exact ⟨by rw [yZ,a2.length_eq];exact uJ (Xb (by omega)),out,e,UV a1,he⟩
end L2
namespace L2
open PySem PySem.Spec PySem.Calls
variable{P:G3}{w:G5}{A:G4}{E:AA}{a:Addr}{its:ED}{n:Nat}
def HH:typeLookup (.type "list") "keys"=pure none:=am_miss_of_fast (by kernel_rfl)
def HG:typeLookup (.type "list") "__getattr__"=pure none:=am_miss_of_fast (by kernel_rfl)
def Nh {hp:Heap}{g:G0}{d:Drawn}{tk:Nat}{os:_}{u:Tok}{Q:PySem.Fin->G2->Prop}(ho:hp.get? a=some { cls:= .type "list",data:= .seq its n })(hh:A.handled=none)(h:∀ h' tk' e,Heap.NewAttrErr hp h' e (.ref a) "keys"->E (.ref e) ⟨h',g,d,tk',os⟩):wpAny (model P w) A (Builtin.«object.__getattribute__» ⟨[.ref a,.str "keys" u],[]⟩) Q E ⟨hp,g,d,tk,os⟩:=by
 have hT:(⟨hp,g,d,tk,os⟩:G2).TypeIs (.ref a) "list":=⟨_,ho,rfl⟩;have f0:=HH;unfold Builtin.«object.__getattribute__»
 (repeat (any_goals (first|assumption|wp_step)))
 exact wpAny_raiseAttrError (s:=⟨hp,g,d,tk,os⟩) hh h (attrMsg_fits (by decide +kernel) (by decide +kernel))
def My {s:G2}{Q:EW->G2->Prop}(ho:s.heap.get? a=some { cls:= .type "list",data:= .seq its n })(hh:A.handled=none)(h:∀ h' tk,(∀ b o,s.heap.get? b=some o->h'.get? b=some o)->Q none { s with heap:=h',toks:=tk }):wpAny (model P w) A (getAttr? (.ref a) "keys") Q E s:=by
 obtain ⟨hp,g,d,tk,os⟩:=s;have hT:∀ t',(⟨hp,g,d,t',os⟩:G2).TypeIs (.ref a) "list":=λ_=>⟨_,ho,rfl⟩;have f1:=sub_AttributeError;have f2:=PySem.F.slot_list_getattribute.lookup;have f3:=PySem.F.slot_list_getattribute.bind (.ref a);have f5:=HG;unfold getAttr? getAttrBy? getAttrBy
 (repeat (any_goals (first|assumption|exact hT _|wp_step)))
 refine pE PySem.F.slot_list_getattribute.plain PySem.F.entry_list_ga (PySem.F.slot_list_getattribute.check _ _ _ _ _ _ _ _ (hT _) (PySem.F.args_list_getattribute_2 _ _) (Nh ho (by simpa using hh) λh' tk' e hx=>?_));obtain ⟨t',u',he⟩:=hx.there;have hk:=hx.keeps;show wpAny _ _ (getattributeRaised _ _ _ _ _ _ _) _ _ _;unfold getattributeRaised
 (repeat (any_goals (first|assumption|wp_step)))
 exact h _ _ hk
end L2
namespace L2
open PySem PySem.Spec PySem.Calls PyProof.Rows
variable{R:AH}{I l:Addr}{fp wr:EC}{n:Nat}{Pp:C3}{E:AA}{xs:Array (Int×Tok)}{X:Cx}{κ:Type}{tg:Expr}{s:G2}{Q:AA}{K:Fg}{A:G4}{H:Hp}{kvs:EL}{P:G3}{w:G5}{o:Obj}{es:Array DictEntry}{ep:Nat}
def MQ:bootBuiltins "set"=some (.type "set"):=by decide +kernel
section
variable{St:AZ}
abbrev dfl:ET:=[(Str.ofString "default",Value.none)]
def HX (W:Walks P w A.in1 I fp wr n Pp St)(bt:AF)(hcmp:CmpOf P w A.in1 .Gt Pp bt)(a:Addr)(ha:a∉fp):∀ (m j:Nat) (s:G2) (vb:G1) (c:Nat),n-(j+1)=m->j+1<=n->St (j+1) s.heap->Pp (argBest bt j) vb -> s.heap.get? a=some { cls:= .type "list",dict:=none,data:= .seq #[vb,vb] c,slots:=#[] } -> (∀ v h' tk,Pp (argBest bt (n-1)) v->(∀ b o,b∉wr->b≠a->s.heap.get? b=some o->h'.get? b=some o)->R (.ok (.ret v)) { s with heap:=h',toks:=tk }) -> codeAny (model P w) A (.builtin "max.loop" ⟨[.ref I,.none,.ref a],dfl⟩) R s:=by
 have haw:a∉wr:=λz=>ha (W.sub _ z);have nm:(toString "max"++toString ".loop":String) = "max.loop":=by decide
 intro m
 induction m with
 |zero =>
  intro j s vb c hm hj st hP hS hR;have hin:j+1=n:=by omega
  refine pV PySem.F.entry_max_loop ?_;rw [rb pT _];show wpAny _ A.in1 (seqItems? (.ref a) >>= _) _ _ s;refine yY (pk hS rfl ?_);show wpAny _ A.in1 (tryCatch (pyNext (.ref I)) _ >>= _) _ _ s;refine yY (pK (W.done s _ _ (hin▸st) λh' tk kk=>?_));have hS':=kk a _ haw hS;show wpAny _ A.in1 (updateSeq a (λ_=>#[]) >>= _) _ _ _;refine yY (oZ hS' rfl (yY (oM (yI ?_))));exact hR vb _ tk (by rw [<- hin];exact hP) λb o z1 z2 e=>(ym _ _ (Ne.symm z2)).trans (kk b o z1 e)
 |succ m ih =>
  intro j s vb c hm hj st hP hS hR;have hlt:j+1<n:=by omega
  refine pV PySem.F.entry_max_loop ?_;rw [rb pT _];show wpAny _ A.in1 (seqItems? (.ref a) >>= _) _ _ s;refine yY (pk hS rfl ?_);show wpAny _ A.in1 (tryCatch (pyNext (.ref I)) _ >>= _) _ _ s;refine yY (pK (W.item (j+1) s _ _ hlt st λv h' tk hPv st' kk=>?_));have hS':=kk a _ haw hS;show wpAny _ A.in1 (tryCatch (holding [v,v] (richCompare .Gt v vb >>= _)) _ >>= _) _ _ _;refine yY (pK (rh (yY (hcmp (j+1) (argBest bt j) v vb _ _ _ hPv hP (yY (rh (pY (yY (oM (yI ?_))))))))));cases hb:bt (j+1) (argBest bt j) with
  |true =>
   simp only [if_true];refine yY (oZ hS' rfl (yY (oM ?_)));rw [nm];refine yI ⟨pN pT _,ih (j+1) _ v _ (by omega) hlt (W.frame _ _ _ st' λb z o e=>?_) (by simp only [argBest,hb,if_true];exact hPv) (uI _ hS' rfl) λv' h2 tk2 hP2 k2=>?_⟩
   .exact (ym _ _ (λq:a=b=>ha (by rw [q];exact z))).trans e
   .exact hR v' h2 tk2 hP2 λb o z1 z2 e=>k2 b o z1 z2 ((ym _ _ (Ne.symm z2)).trans (kk b o z1 e))
  |false=>simp only [uF,if_false];refine yY (oM ?_);rw [nm];refine yI ⟨pN pT _,ih (j+1) _ vb c (by omega) hlt st' (by simp only [argBest,hb,uF,if_false];exact hP) hS' λv' h2 tk2 hP2 k2=>?_⟩;exact hR v' h2 tk2 hP2 λb o z1 z2 e=>k2 b o z1 z2 (kk b o z1 e)
def HW (W:Walks P w A.in1 I fp wr n Pp St)(bt:AF)(hcmp:CmpOf P w A.in1 .Gt Pp bt)(a:Addr)(ha:a∉fp){c:Nat}(st:St 0 s.heap)(hS:s.heap.get? a=some { cls:= .type "list",dict:=none,data:= .seq #[] c,slots:=#[] })(hR:∀ v h' tk,(if n=0 then v = .none else Pp (argBest bt (n-1)) v)->(∀ b o,b∉wr->b≠a->s.heap.get? b=some o->h'.get? b=some o)->R (.ok (.ret v)) { s with heap:=h',toks:=tk }):codeAny (model P w) A (.builtin "max.loop" ⟨[.ref I,.none,.ref a],dfl⟩) R s:=by
 have haw:a∉wr:=λz=>ha (W.sub _ z);have nm:(toString "max"++toString ".loop":String) = "max.loop":=by decide
 refine pV PySem.F.entry_max_loop ?_;rw [rb pT _];show wpAny _ A.in1 (seqItems? (.ref a) >>= _) _ _ s;refine yY (pk hS rfl ?_);show wpAny _ A.in1 (tryCatch (pyNext (.ref I)) _ >>= _) _ _ s;by_cases hn:n=0
 .subst hn;refine yY (pK (W.done s _ _ st λh' tk kk=>?_));show wpAny _ A.in1 (rule _ >>= _) _ _ _;refine yY (wpAny_rule ?_);exact yI (hR .none h' tk (by rw [rB rfl]) λb o z1 _ e=>kk b o z1 e)
 .refine yY (pK (W.item 0 s _ _ (by omega) st λv h' tk hPv st' kk=>?_));have hS':=kk a _ haw hS;show wpAny _ A.in1 (updateSeq a (λ_=>#[v,v]) >>= _) _ _ _;refine yY (oZ hS' rfl ?_);rw [nm];refine yI ⟨pN pT _,HX W bt hcmp a ha _ 0 _ v _ rfl (by omega) (W.frame _ _ _ st' λb z o e=>?_) hPv (uI _ hS' rfl) λv' h2 tk2 hP2 k2=>?_⟩
  .exact (ym _ _ (λq:a=b=>ha (by rw [q];exact z))).trans e
  .exact hR v' h2 tk2 (by rw [rq hn];exact hP2) λb o z1 z2 e=>k2 b o z1 z2 ((ym _ _ (Ne.symm z2)).trans (kk b o z1 e))
end
def Mu (v:G1):argsOk "max" ⟨[v],[(Str.ofString "default",Value.none)]⟩:=by unfold argsOk;kernel_rfl
def MU:Builtin.Builtins.bindParams "max" ["key","default"] 0 ⟨[],[(Str.ofString "default",Value.none)]⟩=pure [none,some Value.none]:=by kernel_rfl
def HV (hh:A.handled=none)(hl:s.heap.IsList l (intItems xs))(h:∀ v h' tk,(if xs.size=0 then v = .none else (intItems xs)[argBest (λi j=>decide (numAt xs i > numAt xs j)) (xs.size-1)]?=some v)->(∀ b o,s.heap.get? b=some o->h'.get? b=some o)->Q v { s with heap:=h',toks:=tk }):wpAny (model P w) A (call (.builtin "max") [.ref l] [(Str.ofString "default",Value.none)]) Q E s:=by
 have nm:(toString "max"++toString ".loop":String) = "max.loop":=by decide
 refine kmb_tree PySem.F.kind_max PySem.F.plain_max PySem.F.entry_max (Mu _) ?_;show wpAny _ A.in1 (Builtin.Builtins.bindParams "max" ["key","default"] 0 ⟨[],[(Str.ofString "default",Value.none)]⟩ >>= _) _ _ s;refine yY (wpAny_of_eq MU ?_);refine yY (yI ?_);refine yY (iter_intList hl λs2 e st hfp hlI=>?_);subst e;refine yY (oR ?_);have hSf:=λhm=>uT _ (hfp _ hm);rw [nm];refine yI ⟨pN pT _,HW (Walks.list (A:=A.in1) hh _ l hlI (intItems xs)) _ (CmpOf.ints_gt (numAt xs) (λ_ _=>intItems_at)) _ hSf (((Walks.list (prog:=P) (w:=w) (A:=A.in1) hh _ l hlI (intItems xs))).frame _ _ _ st λb _ o e=>yW _ e) (yz _ rfl) λv h' tk hP kk=>?_⟩;refine h v h' tk (by simpa [intItems] using hP) λb o e=>?_;have hlt:=yN e;refine kk b o (by simp only [yU];exact yG hlt) ?_ (yW _ (yW _ e));rw [uB];exact yG (tU hlt)
def Dm (K:Fg)(t:TA):TE:=λσ H Q=>t σ H λvs H1=>∃(a:Addr)(ns:EH),vs=[.ref a]/\sK K H1 a (ns.map V.int)/\(ns=[]->Q .non H1)/\(ns≠[]->∀ m,m∈ns->(∀ y∈ns,y<=m)->Q (.int m) H1)
def Sk {e:Expr}{t:TA}{p pos kp cp:Pos}{ct:Nat}(hK:X.K=K)(hc:X.calm=true)(hg:Gl X "max")(hm:X.mg "max"=none)(ha:PA X [e] t)(hs:backTo pos (starEach [e] X.rC)=(false,eval e X.rC)::backTo pos (starEach [] X.rC):=by rfl)(hpl:(backTo pos (starEach [e] X.rC)).any (·.1)=false:=by rfl):PE X (.Call (.Name "max" p) [e] [⟨some "default",.Constant .none ct cp,kp⟩] pos) (Dm K t):=by
 subst hK;intro tN s σ H Q I h;refine pX (jL I hg hm MO ?_ (by decide) (by decide));refine pd (j7 (ha pos tN s σ H _ I h) λus s1 ⟨vs,H1,I1,r1,q1⟩=>?_) hs hpl;refine PyProof.Rows.kws_cons (Constant_none (PyProof.Rows.kws_nil ?_));obtain ⟨a,ns,rfl,hq,qe,qn⟩:=q1;obtain ⟨u,rfl,ru⟩:=zk r1;obtain rfl:u=Value.ref a:=ru;obtain ⟨its,rv,pl,hz⟩:=I1.list hq;obtain ⟨ys,ey,el,en⟩:=BJ rv;have hl:s1.heap.IsList a its.toArray:=pl.isList;rw [ey] at hl;show wpAny _ _ (call (.builtin "max") [.ref a] [(Str.ofString "default",Value.none)]) _ _ _;refine HV (I1.ok.hd hc) hl λv h' tk hv k=>?_;by_cases hne:ns=[]
 .have hz0:ys.size=0:=by rw [el,hne];rfl
  rw [rB hz0] at hv;subst hv;exact ⟨.non,H1,I1.kept (t':=tk) k,rfl,qe hne⟩
 .have hp:0<ns.length:=ui.mpr hne;rw [rq (by omega)] at hv;obtain ⟨t,rfl⟩:=intItems_at hv;obtain ⟨h1,h2⟩:=argBest_gt (numAt ys) (ys.size-1);exact ⟨.int _,H1,I1.kept (t':=tk) k,⟨t,rfl⟩,qn hne _ (Kv en (by omega)) (Ku en λj hj=>h2 j (by omega))⟩
section
variable[DecidableEq κ]{knd:PySem.KeyKind P w κ}
def Bj:entryFor table "dict.update.loop"=some Builtin.«dict.update.loop»:=entryFor_of_tree (by kernel_rfl)
def Vc:plainId "dict.update.loop"=true:=by decide +kernel
def LM {St:AZ}{more:List (κ×G1)}{lo:Addr}(W:Walks P w A.in1 I fp wr more.length Pp St)(d:Addr)(hdf:d∉fp)(hlo:lo<=d)(hwr:∀ b∈wr,lo<=b)(hsz:more.length<=sizeLine):∀ (m i:Nat) (z:Int) (tk:Tok) (s:G2),more.length-i=m->i<=more.length->St i s.heap->s.heap.DictOf knd d (merged [] (more.take i)) -> (∀ j v kv,Pp j v->more[j]?=some kv->∃ t k,t<lo/\v = .ref t/\knd.is kv.1 k=true/\IsTup s.heap t #[k,kv.2]) -> (∀ h' tk',(∀ b o,b<lo->s.heap.get? b=some o->h'.get? b=some o)->h'.DictOf knd d (merged [] more)->R (.ok (.ret .none)) { s with heap:=h',toks:=tk' }) -> codeAny (model P w) A (.builtin "dict.update.loop" ⟨[.ref d,.ref I,.int z tk,.none],[]⟩) R s:=by
 have hdw:d∉wr:=λq=>hdf (W.sub _ q);intro m
 induction m with
 |zero =>
  intro i z tk s hm hi st hd hp hR;have hin:i=more.length:=by omega
  subst hin;refine pV Bj ?_;rw [rb Vc _];show wpAny _ A.in1 (pyNext (.ref I) >>= _) _ _ s;refine yY (W.done s _ _ st λh' tk' k=>?_);show wpAny _ A.in1 (Builtin.Dict.addKeywords d [] >>= _) _ _ _;refine yY (yI ?_);refine yI (hR h' tk' (λb o hb e=>k b o (λq=>rp (hwr b q) (Nat.not_le.mpr hb)) e) ?_);rw [tP] at hd;obtain ⟨o,es,ep,ho,r⟩:=hd;exact ⟨o,es,ep,k d o hdw ho,r⟩
 |succ m ih =>
  intro i z tk s hm hi st hd hp hR;have hlt:i<more.length:=by omega
  refine pV Bj ?_;rw [rb Vc _];show wpAny _ A.in1 (pyNext (.ref I) >>= _) _ _ s;refine yY (W.item i s _ _ hlt st λv h' tk' hPv st' k=>?_);obtain ⟨t,kk,ht,rfl,hk,o,ho,hc,n,hdt⟩:=hp i v more[i] hPv (yS hlt);have ho':h'.get? t=some o:=k t o (λq=>rp (hwr t q) (Nat.not_le.mpr ht)) ho;have hd':h'.DictOf knd d (merged [] (more.take i)):=by obtain ⟨o,es,ep,ho,r⟩:=hd;exact ⟨o,es,ep,k d o hdw ho,r⟩
  have hT:Shared.TypeIs { s with heap:=h',toks:=tk' } (.ref t) "tuple":=⟨o,ho',hc⟩;show wpAny _ A.in1 (holding [.ref t] _ >>= _) _ _ _;refine yY (rh (yY (pK ?_)));unfold Builtin.Dict.pairItems;refine yY (wpAny_typeOf hT ?_);rw [rB (by decide)];refine yY (pk ho' hdt (yI ?_));show wpAny _ A.in1 (holding [kk,more[i].2] (dictSet d kk more[i].2)) _ _ _;refine rh (wpAny_dictSet_pairs (knd:=knd) hk hd' (λh2 hd2 sb=>?_) ?_)
  .rw [<- merged_take_succ [] more i more[i] (yS hlt)] at hd2;have keep2:∀ b o,b<lo->s.heap.get? b=some o->h2.get? b=some o:=λb o hb e=>by
    rw [sb.2 b (yG (yx hb hlo))];exact k b o (λq=>rp (hwr b q) (Nat.not_le.mpr hb)) e
   refine yI ⟨pN Vc _,ih (i+1) _ _ _ (by omega) hlt (W.frame _ _ _ st' λb hb o e=>?_) hd2 (λj v kv hv hj=>?_) λh3 tk3 k3 hd3=>?_⟩
   .rw [sb.2 b (λq=>hdf (by rw [<- q];exact hb))];exact e
   .obtain ⟨t,kk,ht,rfl,hk,o,ho,r⟩:=hp j v kv hv hj;exact ⟨t,kk,ht,rfl,hk,o,keep2 t o ht ho,r⟩
   .exact hR h3 tk3 (λb o hb e=>k3 b o hb (keep2 b o hb e)) hd3
  .have:=merged_length_le [] (more.take i);rw [uZ,pb] at this;omega
def MX {its:ED}{more:List (κ×G1)}(hh:A.handled=none)(ho:s.heap.get? l=some { cls:= .type "list",data:= .seq its n })(hlen:its.size=more.length)(hsz:more.length<=sizeLine)(hp:∀ (j:Nat) (v:G1) (kv:κ×G1),its[j]?=some v->more[j]?=some kv->∃ t k,v = .ref t/\knd.is kv.1 k=true/\IsTup s.heap t #[k,kv.2])(h:∀ h' tk',(∀ b o,s.heap.get? b=some o->h'.get? b=some o)->h'.DictOf knd s.heap.objs.size (merged [] more)->Q (.ref s.heap.objs.size) { s with heap:=h',toks:=tk' }):wpAny (model P w) A (call (.type "dict") [.ref l]) Q E s:=by
 refine callType_codes (Q₁:=λob s1=>ob = .ref s.heap.objs.size/\s1={ s with heap:=s.heap.push { cls:= .type "dict",data:= .dict #[] } }) PySem.F.kt_called_dict (PySem.F.kt_typeCall_dict_1 _) PySem.F.entry_dict_init (kt_code_dict_new _ ⟨rfl,rfl⟩) ?_;rintro ob s1 ⟨rfl,rfl⟩;have hnew:(s.heap.push { cls:= .type "dict",data:= .dict #[] }).DictOf knd s.heap.objs.size []:=Heap.DictOf.new s.heap;have ho':(s.heap.push { cls:= .type "dict",data:= .dict #[] }).get? l=some { cls:= .type "list",data:= .seq its n }:=yW _ ho;have hTl:Shared.TypeIs { s with heap:=s.heap.push { cls:= .type "dict",data:= .dict #[] } } (.ref l) "list":=⟨_,ho',rfl⟩;have hlt:l<s.heap.objs.size:=yN ho;refine ⟨hnew.typeIs,PySem.F.args_dict_init_2 _ _,?_⟩;unfold Builtin.«dict.__init__»;refine yY ?_;unfold Builtin.Dict.selfAndRest;refine yY (wpAny_notOrdered_dict hnew.typeIs ?_);show wpAny _ _ (pure (s.heap.objs.size,[Value.ref l])) _ _ _;refine yI ?_;show wpAny _ _ (Builtin.Dict.updateFrom "dict.__init__" s.heap.objs.size (.ref l) [] .none) _ _ _;unfold Builtin.Dict.updateFrom;refine yY (wpAny_typeOf hTl ?_);rw [rB (by decide)];refine yY (My ho' (by simpa using hh) λh1 tk1 k1=>?_);rw [rB (show (none:EW).isNone=true from rfl)];refine yY (wpAny_rule ?_);have ho1:=k1 _ _ ho';have hl1:h1.IsList l its:=⟨_,ho1,rfl,n,rfl⟩;refine yY (pz (s:={ s with heap:=h1,toks:=tk1 }) hl1 ?_);have hd1:h1.DictOf knd s.heap.objs.size []:=by obtain ⟨o,es,ep,hq,r⟩:=hnew;exact ⟨o,es,ep,k1 _ _ hq,r⟩
 have hdlt:s.heap.objs.size<h1.objs.size:=by obtain ⟨o,es,ep,hq,r⟩:=hd1;exact yN hq
 have hll:l<h1.objs.size:=yN ho1;refine yI ⟨pN Vc _,?_⟩;have W:=Walks.list (prog:=P) (w:=w) (A:=A.in1.in1) (by simpa using hh) h1.objs.size l (yG hll) its;rw [hlen] at W;refine LM (knd:=knd) (lo:=s.heap.objs.size) W s.heap.objs.size ?_ (yP _) (λb hb=>?_) hsz more.length 0 _ _ { s with heap:=h1.push { cls:= .type "list_iterator",data:= .fields #[.ref l,.int 0 0] },toks:=tk1 } (by omega) (yd _) ⟨⟨_,yz _ rfl,rfl,rfl⟩,hl1.push _⟩ ?_ (λj v kv hv hj=>?_) λh' tk' kp hd=>?_
 .simp only [yL,ye,or_false,not_or];exact ⟨yG hdlt,ug hlt⟩
 .rw [yU.mp hb];exact uJ hdlt
 .obtain ⟨o,es,ep,hq,r⟩:=hd1;exact ⟨o,es,ep,yW _ hq,r⟩
 .obtain ⟨t,k,rfl,hk,o,hto,r⟩:=hp j v kv hv hj;exact ⟨t,k,yN hto,rfl,hk,o,yW _ (k1 _ _ (yW _ hto)),r⟩
 .exact ⟨rfl,h h' tk' (λb o e=>kp b o (yN e) (yW _ (k1 _ _ (yW _ e)))) hd⟩
end
def Sd {tN:C4}{σ:St}(I:sS X tN σ H s){ts:EC}(r:Paired (λt (kv:j5×V)=>H t=some (.tup [kV kv.1,kv.2])) ts kvs):∃ more:F7,KV kvs more/\∀(j:Nat)(t:Addr)(m:j5×G1),ts[j]?=some t->more[j]?=some m->∃ k,(qI X.rD X.w).is m.1 k=true/\IsTup s.heap t #[k,m.2]:=by
 induction r with
 |nil=>exact ⟨[],.nil,λj t m h=>by simp at h⟩
 |@cons t kv ts kvs p _ ih =>
  obtain ⟨more,k1,k2⟩:=ih;obtain ⟨_,its,rv,ht⟩:=(show sJ X.rD X.w H s.heap t (.tup [kV kv.1,kv.2]) from I.tI t _ p);cases rv with
  |cons p1 r1 =>
   cases r1 with
   |cons p2 r2 =>
    cases r2;rename_i u1 u2;refine ⟨(kv.1,u2)::more,.cons ⟨rfl,p2⟩ k1,λj t' m h1 h2=>?_⟩;cases j with
    |zero=>simp at h1 h2;subst h1 h2;exact ⟨u1,Qz p1,ht⟩
    |succ j=>exact k2 j t' m (by simpa using h1) (by simpa using h2)
theorem DQ:∀{ts:EC}{us:C8},sP (ts.map V.ref) us->us=ts.map Value.ref
 |[],_,.nil=>rfl
 |t::ts,_,.cons p r=>by
  obtain rfl:=(show _=Value.ref t from p);rw [DQ r];rfl
theorem Gd:∀{kvs:EL}{vs:F7},KV kvs vs->vs.map (·.1)=kvs.map (·.1)
 |[],_,.nil=>rfl
 |_::_,_,.cons p r=>by rw [yH,yH,Gd r,p.1]
theorem Gc:∀{kvs:EL}{vs:F7}{i:Nat}{k:j5}{x:V},KV kvs vs->kvs[i]?=some (k,x)->∃ u,vs[i]?=some (k,u)/\sO x u
 |[],_,i,_,_,_,e=>by simp at e
 |_::_,_,0,k,x,.cons (b:=q) p _,e=>by
  simp at e;subst e;refine ⟨q.2,?_,p.2⟩;have e1:k=q.1:=p.1;rw [e1];rfl
 |_::_,_,i+1,k,x,.cons _ r,e=>by
  obtain ⟨u,h1,h2⟩:=Gc (i:=i) (k:=k) (x:=x) r (by simpa using e);exact ⟨u,by simpa using h1,h2⟩
def Itv (a:Addr)(o:Obj)(kvs:EL):It :=
 ⟨λi H=>H a=some (.frz o (.dK kvs))/\i<kvs.length,λi H x H'=>H'=H/\∃ k,kvs[i]?=some (k,x),λi H=>H a=some (.frz o (.dK kvs))/\kvs.length<=i⟩
def Jv {h:Heap}{a:Addr}(ok:sE P w H h)(e:H a=some (.frz o (.dK kvs)))(hd:o.data = .dict es ep):(a==sysModules)=false/\∃ vs,KV kvs vs/\h.DictAt (qI P w) a vs ep:=by obtain ⟨h1,h2,h3,vs,r,o',es',ep',h4,h5,h6,h7⟩:=(show sJ P w H h a (.frz o (.dK kvs)) from ok a _ e);rw [h1] at h4;cases h4;rw [hd] at h6;cases h6;exact ⟨h3,vs,r,o,es,h1,h5,hd,h7⟩
def Oe (a it:Addr)(kvs:EL)(hd:o.data = .dict es ep):jY P w K tg (Itv a o kvs) [it] it (λi h=>h.IsValIter it a i kvs.length ep) where
 mem:=by simp
 obj:=λi h st b hb=>by
  have e:b=it:=by simpa using hb
  subst e;obtain ⟨o,e,c,d⟩:=st;exact ⟨o,e,λv z=>by rw [d] at z;cases z⟩
 keep:=λi h h' st k=>by
  obtain ⟨o,e,c,d⟩:=st;exact ⟨o,k it (by simp) o e,c,d⟩
 item:=by
  intro X hP hw hK hc i tN s σ H E I hf st hg;subst hP hw hK;obtain ⟨hq,hl⟩:=hg;obtain ⟨_,vs,r,hm⟩:=Jv I.tI hq hd;have lv:vs.length=kvs.length:=(KV.length r).symm;obtain ⟨u,hu,ru⟩:=Gc (i:=i) (k:=kvs[i].1) (x:=kvs[i].2) r (yS hl);obtain ⟨f0,f1,f2,f3,f4,f5⟩:=hf it (by simp);have st1:s.heap.IsValIter it a i vs.length ep:=by rw [lv];exact st
  refine wpAny_pyNext_values_item st1 hm hu λh' st' sb=>?_;have I1:sS X tN σ H { s with heap:=h' }:=I.turned (t':=s.toks) (λb o hb e=>(sb.2 b hb).trans e) f0 f1 f3 f4 f5;rw [lv] at st';obtain ⟨o1,e1,c1,d1⟩:=id st';exact ⟨u,rfl,Jw (s:={ s with heap:=h' }) e1 c1 d1 (by decide) ⟨kvs[i].2,H,I1,ru,⟨rfl,kvs[i].1,yS hl⟩,st',λb hb=>(hf b hb).1⟩⟩
 done:=by
  intro X hP hw hK hc i tN s σ H E I hf st hg;subst hP hw hK;obtain ⟨hq,hl⟩:=hg;obtain ⟨_,vs,r,hm⟩:=Jv I.tI hq hd;have lv:vs.length=kvs.length:=(KV.length r).symm;obtain ⟨f0,f1,f2,f3,f4,f5⟩:=hf it (by simp);have st1:s.heap.IsValIter it a i vs.length ep:=by rw [lv];exact st
  exact wpAny_pyNext_values_end (I.ok.hd hc) st1 hm (uH (by omega)) λh' eb=>⟨rfl,I.turned (t':=s.toks) (λb o hb e=>eb b o hb e) f0 f1 f3 f4 f5⟩
 self:=λ_ _ _ _ _ st h=>wpAny_pyIter_valiter st h
def BG (td:TE):TI:=λσ H R=>td σ H λx H1=>∃ a o kvs,x = .ref a/\H1 a=some (.frz o (.dK kvs))/\R (Itv a o kvs) H1
def Sz {d:Expr}{td:TE}{apos cpos:Pos}(ho:PE X d td)(hbase:attributeBase d "values" X.rC (eval d X.rC)=eval d X.rC:=by rfl)(hline:(apos.endLine==cpos.line)=true:=by rfl):PI X tg (.Call (.Attribute d "values" apos) [] [] cpos) (BG td):=by
 intro tN s σ H R I h;refine wpAny_Call_method0_late hbase hline (j7 (ho tN s σ H _ I h) λv s1 ⟨x,H1,I1,r1,q1⟩=>?_);obtain ⟨a,o,kvs,e,hq,q⟩:=q1;subst e;cases r1;obtain ⟨g1,g2,g3,ws,rw',o',es,ep,g4,g5,g6,g7⟩:=(show sJ X.rD X.w H1 s1.heap a (.frz o (.dK kvs)) from I1.tI a _ hq);rw [g1] at g4;cases g4;obtain ⟨hs,vs,r,hm⟩:=Jv I1.tI hq g6;have lv:vs.length=kvs.length:=(KV.length r).symm;refine ⟨"dict","dict.values",PySem.F.plainAttrs_dict,PySem.F.slot_dict_values,PySem.F.type_dict_values,hm.dictOf.typeIs,λb e=>?_,Calls.callWith_builtin rfl (PySem.evalArgs_none ?_)⟩
 .cases e;exact ⟨o,g1,g5.2.1⟩
 refine call_meetsIn PySem.F.slot_dict_values hm.dictOf.typeIs PySem.F.entry_dict_values (PySem.F.args_dict_values_1 _) (meets_dict_values (qI X.rD X.w) a hs) ⟨⟨vs,hm.dictOf⟩,?_⟩;have I2:sS X tN σ H1 { s1 with heap:=s1.heap.push { cls:= .type "dict_values",data:= .fields #[.ref a] } }:=I1.kept (t':=s1.toks) λb o e=>yW _ e;obtain ⟨_,vs2,r2,hm2⟩:=Jv I2.tI hq g6;have lv2:vs2.length=kvs.length:=(KV.length r2).symm;refine wpAny_pyIter_values (knd:=qI X.rD X.w) (kvs:=vs2) ⟨_,yz _ rfl,rfl,rfl⟩ hm2 ?_;refine ⟨_,[_],_,Itv a o kvs,H1,rfl,I2.kept (t':=s1.toks) λb o e=>yW _ e,Oe a _ kvs g6,⟨_,yz _ rfl,rfl,?_⟩,λb hb=>?_,q⟩
 .rw [lv2];rfl
 have e:b=(s1.heap.push { cls:= .type "dict_values",data:= .fields #[.ref a] }).objs.size:=by simpa using hb
 subst e;exact I2.fpOk (yP _) (I2.tI.fresh (yP _))
def Cn:EB->Hp->VK->Prop:=λxs H Q=>∃(a:Addr)(ts:EC)(kvs:EL),xs=[.ref a]/\H a=some (.lst (ts.map V.ref))/\Paired (λt (kv:j5×V)=>H t=some (.tup [kV kv.1,kv.2])) ts kvs/\(kvs.map (·.1)).Nodup/\kvs.length<=1000 /\
  ∀ l o,H l=none->Q (.ref l) (z9 H l (.frz o (.dK kvs)))
def VD (K:Fg)(hc:X.calm=true)(_:X.K=K):sI X (.type "dict") Cn:=by
 intro tN s σ H xs us Q I r h;obtain ⟨a,ts,kvs,rfl,hq,hp,hn,h1000,q⟩:=h;obtain ⟨u,rfl,ru⟩:=zk r;obtain rfl:u=Value.ref a:=ru;obtain ⟨hz,its,n,rv,ho⟩:=(show sJ X.rD X.w H s.heap a (.lst (ts.map V.ref)) from I.tI a _ hq);have ei:=DQ rv;obtain ⟨more,k1,k2⟩:=Sd I hp;have lk:more.length=kvs.length:=k1.length.symm;have lt:=hp.length;have hsl:more.length<=sizeLine:=uJ (Xb (by omega));refine MX (knd:=qI X.rD X.w) (more:=more) (I.ok.hd hc) ho (by rw [yT,ei,yZ];omega) hsl (λj v m hv hm=>?_) λh' tk k hd=>?_
 .have hv':its[j]?=some v:=by simpa using hv
  rw [ei,yM] at hv';obtain ⟨t,ht,rfl⟩:=yC.mp hv';obtain ⟨kk,x1,x2⟩:=k2 j t m ht hm;exact ⟨t,kk,rfl,x1,x2⟩
 .rw [merged_nil_of_nodup more (by rw [Gd k1];exact hn)] at hd;obtain ⟨o,es,ep,ho',_⟩:=id hd;refine ⟨.ref s.heap.objs.size,_,I.laid (t':=tk) (o:= .frz o (.dK kvs)) k (yP _) ⟨ho',Bf (by omega) (re.mpr (Ne.symm (yG I.big))) k1 hd⟩,rfl,q _ _ (I.tI.fresh (yP _))⟩
end L2
namespace Mi
open PySem L2
variable{H H' H0 Hb Hs Hs' Hs0:Hp}{u v:V}{ks:List j5}{C p:Addr}{ns:C7}{vs:EB}{o:HO}{σ σ':St}{tb te:TE}{r:R2}{ta:TA}{n:Nat}{K:Fg}{t:TT}{E:XK}{nm:Str}{ts:EI}{lo:Int}{wi:TI}{tg:TG}
inductive PV where
 |at (v:V)|tup (xs:List PV)|lst (xs:List PV)|dk (ks:List j5) (xs:List PV)|fk (ks:List j5) (xs:List PV)|ob (C:Addr) (ns:C7) (xs:List PV)|op (φ:Hp->V->Prop)
abbrev AC:=List PV->Option PV
abbrev AD:=PV->PV->Option PV
abbrev AK:=List PV->PV->Prop
abbrev AM:=PV->Option PV
abbrev AY:=List PV->Prop
abbrev C5:=List PV
abbrev EA:=Option PV
abbrev EF:=List (List PV)
variable{xs:C5}{x y:PV}{m:AC}
mutual
def Rep (H:Hp):PV->V->Prop
 | .at u,v=>v=u
 | .tup xs,v=>∃ a vs,v = .ref a/\H a=some (.tup vs)/\sR H xs vs
 | .lst xs,v=>∃ a vs,v = .ref a/\H a=some (.lst vs)/\sR H xs vs
 | .dk ks xs,v=>∃ a kvs,v = .ref a/\H a=some (.dK kvs)/\kvs.map (·.1)=ks/\sR H xs (kvs.map (·.2))
 | .fk ks xs,v=>∃ a o kvs,v = .ref a/\H a=some (.frz o (.dK kvs))/\kvs.map (·.1)=ks/\sR H xs (kvs.map (·.2))
 | .ob C ns xs,v=>∃ a dx fs,v = .ref a/\H a=some (.ins C dx fs)/\fs.map (·.1)=ns/\sR H xs (fs.map (·.2))
 | .op φ,v=>∃ H',sL H' H/\φ H' v
def sR (H:Hp):C5->EB->Prop
 |[],vs=>vs=[]
 |x::xs,vs=>∃ v r,vs=v::r/\Rep H x v/\sR H xs r
end
mutual
theorem Rep.mono {H H':Hp}(g:sL H H'):∀{x:PV}{v:V},Rep H x v->Rep H' x v
 | .at u,v,h=>by unfold Rep at h ⊢;exact h
 | .tup xs,v,h=>by unfold Rep at h ⊢;obtain ⟨a,vs,e,p,r⟩:=h;exact ⟨a,vs,e,g _ _ p,sR.mono g r⟩
 | .lst xs,v,h=>by unfold Rep at h ⊢;obtain ⟨a,vs,e,p,r⟩:=h;exact ⟨a,vs,e,g _ _ p,sR.mono g r⟩
 | .dk ks xs,v,h=>by unfold Rep at h ⊢;obtain ⟨a,vs,e,p,q,r⟩:=h;exact ⟨a,vs,e,g _ _ p,q,sR.mono g r⟩
 | .fk ks xs,v,h=>by unfold Rep at h ⊢;obtain ⟨a,o,vs,e,p,q,r⟩:=h;exact ⟨a,o,vs,e,g _ _ p,q,sR.mono g r⟩
 | .ob C ns xs,v,h=>by unfold Rep at h ⊢;obtain ⟨a,dx,vs,e,p,q,r⟩:=h;exact ⟨a,dx,vs,e,g _ _ p,q,sR.mono g r⟩
 | .op φ,v,h=>by unfold Rep at h ⊢;obtain ⟨H1,s,p⟩:=h;exact ⟨H1,s.trans g,p⟩
theorem sR.mono {H H':Hp}(g:sL H H'):∀{xs:C5}{vs:EB},sR H xs vs->sR H' xs vs
 |[],vs,h=>by unfold sR at h ⊢;exact h
 |x::xs,vs,h=>by unfold sR at h ⊢;obtain ⟨v,r,e,p,q⟩:=h;exact ⟨v,r,e,Rep.mono g p,sR.mono g q⟩
end
def tD :Rep H (.at u) v↔v=u:=by unfold Rep;exact Iff.rfl
def sY :Rep H (.tup xs) v↔∃ a vs,v = .ref a/\H a=some (.tup vs)/\sR H xs vs:=by unfold Rep;exact Iff.rfl
def tj :Rep H (.lst xs) v↔∃ a vs,v = .ref a/\H a=some (.lst vs)/\sR H xs vs:=by unfold Rep;exact Iff.rfl
def rep_dk :Rep H (.dk ks xs) v↔∃ a kvs,v = .ref a/\H a=some (.dK kvs)/\kvs.map (·.1)=ks/\sR H xs (kvs.map (·.2)):=by unfold Rep;exact Iff.rfl
def rep_fk :Rep H (.fk ks xs) v↔∃ a o kvs,v = .ref a/\H a=some (.frz o (.dK kvs))/\kvs.map (·.1)=ks/\sR H xs (kvs.map (·.2)):=by unfold Rep;exact Iff.rfl
def rep_ob :Rep H (.ob C ns xs) v↔∃ a dx fs,v = .ref a/\H a=some (.ins C dx fs)/\fs.map (·.1)=ns/\sR H xs (fs.map (·.2)):=by unfold Rep;exact Iff.rfl
def rep_op {φ:Hp->V->Prop}:Rep H (.op φ) v↔∃ H',sL H' H/\φ H' v:=by unfold Rep;exact Iff.rfl
def tu :sR H [] vs↔vs=[]:=by unfold sR;exact Iff.rfl
def tz :sR H (x::xs) vs↔∃ v r,vs=v::r/\Rep H x v/\sR H xs r:=by
 constructor
 .intro h;unfold sR at h;exact h
 .intro h;unfold sR;exact h
def sR.nil {H:Hp}:sR H [] []:=tu.mpr rfl
def sR.cons {H:Hp}{x:PV}{v:V}{xs:C5}{vs:EB}(p:Rep H x v)(q:sR H xs vs):sR H (x::xs) (v::vs):=tz.mpr ⟨v,vs,rfl,p,q⟩
theorem sR.length {H:Hp}:∀{xs:C5}{vs:EB},sR H xs vs->vs.length=xs.length
 |[],vs,h=>by rw [tu.mp h];rfl
 |x::xs,vs,h=>by obtain ⟨v,r,rfl,_,q⟩:=tz.mp h;rw [yJ,yJ,sR.length q]
theorem sR.append {H:Hp}:∀{xs ys:C5}{vs ws:EB},sR H xs vs->sR H ys ws->sR H (xs++ys) (vs++ws)
 |[],ys,vs,ws,h,k=>by rw [tu.mp h];exact k
 |x::xs,ys,vs,ws,h,k=>by obtain ⟨v,r,rfl,p,q⟩:=tz.mp h;exact .cons p (sR.append q k)
def sR.one (p:Rep H x v):sR H [x] [v]:= .cons p .nil
theorem sR.get {H:Hp}:∀{xs:C5}{vs:EB}{i:Nat}{x:PV},sR H xs vs->xs[i]?=some x->∃ v,vs[i]?=some v/\Rep H x v
 |[],_,i,x,_,e=>by simp at e
 |y::xs,vs,0,x,h,e=>by
  obtain ⟨v,r,rfl,p,q⟩:=tz.mp h;simp at e;subst e;exact ⟨v,rfl,p⟩
 |y::xs,vs,i+1,x,h,e=>by
  obtain ⟨v,r,rfl,p,q⟩:=tz.mp h;obtain ⟨w,e1,e2⟩:=sR.get (i:=i) (x:=x) q (by simpa using e);exact ⟨w,by simpa using e1,e2⟩
theorem sR.take {H:Hp}:∀(n:Nat){xs:C5}{vs:EB},sR H xs vs->sR H (xs.take n) (vs.take n)
 |0,_,_,_=>by rw [List.take_zero,List.take_zero];exact .nil
 |n+1,[],vs,h=>by rw [tu.mp h];exact .nil
 |n+1,x::xs,vs,h=>by
  obtain ⟨v,r,rfl,p,q⟩:=tz.mp h;exact .cons p (sR.take n q)
theorem sR.drop {H:Hp}:∀(n:Nat){xs:C5}{vs:EB},sR H xs vs->sR H (xs.drop n) (vs.drop n)
 |0,_,_,h=>h
 |n+1,[],vs,h=>by rw [tu.mp h];exact .nil
 |n+1,x::xs,vs,h=>by
  obtain ⟨v,r,rfl,p,q⟩:=tz.mp h;exact sR.drop n q
theorem sR.ats {H:Hp}:∀{us vs:EB},sR H (us.map .at) vs->vs=us
 |[],vs,h=>tu.mp h
 |u::us,vs,h=>by
  obtain ⟨v,r,rfl,p,q⟩:=tz.mp h;rw [tD.mp p,sR.ats q]
theorem sR.ofAts {H:Hp}:∀(us:EB),sR H (us.map .at) us
 |[]=> .nil
 |u::us=> .cons (tD.mpr rfl) (sR.ofAts us)
structure Ext (Hs H Hs' H':Hp):Prop where
 s1:sL Hs Hs'
 s2:sL H H'
 s3:sL Hs' H'
 s4:∀ b,H b≠none->Hs b=none->Hs' b=none
def Uw (g:sL H H'){b:Addr}(h:H b≠none):H' b≠none:=λz=>h (g.free z)
def Ext.refl (s:sL Hs H):Ext Hs H Hs H:=⟨.refl _,.refl _,s,λ_ _ z=>z⟩
def Ext.trans {A B A1 B1 A2 B2:Hp}(x:Ext A B A1 B1)(y:Ext A1 B1 A2 B2):Ext A B A2 B2:=⟨x.s1.trans y.s1,x.s2.trans y.s2,y.s3,λb h z=>y.s4 b (Uw x.s2 h) (x.s4 b h z)⟩
def Ext.new (s:sL Hs H)(h:H p=none):Ext Hs H (z9 Hs p o) (z9 H p o):=by
 have hs:Hs p=none:=s.free h;refine ⟨λb u e=>?_,λb u e=>?_,λb u e=>?_,λb e z=>?_⟩
 .rw [j3 (k9 e hs)];exact e
 .rw [j3 (k9 e h)];exact e
 .by_cases hb:b=p
  .subst hb;rw [u5] at e ⊢;exact e
  .rw [j3 hb] at e ⊢;exact s _ _ e
 .have hb:b≠p:=λq=>e (by rw [q];exact h);rw [j3 hb];exact z
def Ext.newO (s:sL Hs H)(h:H p=none):Ext Hs H Hs (z9 H p o) :=
 ⟨.refl _,λb u e=>by rw [j3 (k9 e h)];exact e,λb u e=>by rw [j3 (k9 (s _ _ e) h)];exact s _ _ e,λ_ _ z=>z⟩
def Top (Hs H:Hp)(a:Addr):PV->Prop
 | .lst xs=>∃ vs,H a=some (.lst vs)/\sR Hs xs vs
 | .dk ks xs=>∃ kvs,H a=some (.dK kvs)/\kvs.map (·.1)=ks/\sR Hs xs (kvs.map (·.2))
 | .ob C ns xs=>∃ dx fs,H a=some (.ins C dx fs)/\fs.map (·.1)=ns/\sR Hs xs (fs.map (·.2))
 |_=>False
def Top.there {a:Addr}:∀{x:PV},Top Hs H a x->H a≠none
 | .lst _,h,z=>by obtain ⟨vs,e,_⟩:=h;rw [e] at z;cases z
 | .dk _ _,h,z=>by obtain ⟨vs,e,_⟩:=h;rw [e] at z;cases z
 | .ob _ _ _,h,z=>by obtain ⟨dx,vs,e,_⟩:=h;rw [e] at z;cases z
def Top.mono {a:Addr}(g:sL Hs Hs')(e:∀ o,H a=some o->H' a=some o):∀{x:PV},Top Hs H a x->Top Hs' H' a x
 | .lst _,h=>by obtain ⟨vs,q,r⟩:=h;exact ⟨vs,e _ q,r.mono g⟩
 | .dk _ _,h=>by obtain ⟨vs,q,k,r⟩:=h;exact ⟨vs,e _ q,k,r.mono g⟩
 | .ob _ _ _,h=>by obtain ⟨dx,vs,q,k,r⟩:=h;exact ⟨dx,vs,e _ q,k,r.mono g⟩
def Top.rep {a:Addr}:∀{x:PV},Top Hs H a x->Hs a=none->∃ o,H a=some o/\Rep (z9 Hs a o) x (.ref a)
 | .lst _,h,n=>by
  obtain ⟨vs,q,r⟩:=h;exact ⟨_,q,tj.mpr ⟨a,vs,rfl,u5,r.mono λb u e=>by rw [j3 (k9 e n)];exact e⟩⟩
 | .dk _ _,h,n=>by
  obtain ⟨vs,q,k,r⟩:=h;exact ⟨_,q,rep_dk.mpr ⟨a,vs,rfl,u5,k,r.mono λb u e=>by rw [j3 (k9 e n)];exact e⟩⟩
 | .ob _ _ _,h,n=>by
  obtain ⟨dx,vs,q,k,r⟩:=h;exact ⟨_,q,rep_ob.mpr ⟨a,dx,vs,rfl,u5,k,r.mono λb u e=>by rw [j3 (k9 e n)];exact e⟩⟩
def Ext.share {a:Addr}(x:Ext Hs H Hs' H')(h:H a=none)(n:Hs' a=none)(e:H' a=some o):Ext Hs H (z9 Hs' a o) H':=by
 refine ⟨λb u q=>?_,x.s2,λb u q=>?_,λb q z=>?_⟩
 .rw [j3 (k9 (x.s1 _ _ q) n)];exact x.s1 _ _ q
 .by_cases hb:b=a
  .subst hb;rw [u5] at q;cases q;exact e
  .rw [j3 hb] at q;exact x.s3 _ _ q
 .have hb:b≠a:=λr=>q (by rw [r];exact h);rw [j3 hb];exact x.s4 b q z
def sF (Hs H:Hp)(x:PV)(v:V):Prop:=Rep Hs x v∨∃ a,v = .ref a/\Hs a=none/\Top Hs H a x
def sF.ext (e:Ext Hs H Hs' H')(h:sF Hs H x v):sF Hs' H' x v:=by
 rcases h with h|⟨a,rfl,n,t⟩
 .exact .inl (h.mono e.s1)
 .exact .inr ⟨a,rfl,e.s4 a t.there n,t.mono e.s1 λo q=>e.s2 _ _ q⟩
inductive sN where
 |no|sh (x:PV)|ow (x:PV)|bo (x:PV)
abbrev ME:=List sN
abbrev AI:=List PV->ME->Option ME
abbrev AL:=List PV->ME->Prop
abbrev AO:=ME->Option (Option Int)
abbrev AW:=PV->ME->Prop
variable{ε:ME}
def Own (H0 Hs H:Hp)(a:Addr)(x:PV):Prop:=H0 a=none/\Hs a=none/\Top Hs H a x
structure RS (Hs0 H0 Hs H:Hp)(σ:St)(ε:ME):Prop where
 ext:Ext Hs0 H0 Hs H
 sh:∀(i:Nat)(x:PV),ε[i]?=some (.sh x)->∃ v,σ[i]?=some (some v)/\Rep Hs x v
 ow:∀(i:Nat)(x:PV),ε[i]?=some (.ow x)->∃ a,σ[i]?=some (some (.ref a))/\Own H0 Hs H a x
 nd:∀(i j:Nat)(x y:PV)(a:Addr),ε[i]?=some (.ow x)->ε[j]?=some (.ow y)->σ[i]?=some (some (.ref a))->σ[j]?=some (some (.ref a))->i=j
 len:σ.length=ε.length
 bo:∀(i:Nat)(x:PV),ε[i]?=some (.bo x)->∃ v,σ[i]?=some (some v)/\(Rep Hs x v∨∃ a,v = .ref a/\H0 a≠none/\Hs a=none/\Top Hs H a x)
def RS.go (r:RS Hs0 H0 Hs H σ ε)(e:Ext Hs H Hs' H'):RS Hs0 H0 Hs' H' σ ε where
 ext:=r.ext.trans e
 sh:=λi x q=>by obtain ⟨v,a,b⟩:=r.sh i x q;exact ⟨v,a,b.mono e.s1⟩
 ow:=λi x q=>by
  obtain ⟨a,b,n0,n,t⟩:=r.ow i x q;exact ⟨a,b,n0,e.s4 a t.there n,t.mono e.s1 λo z=>e.s2 _ _ z⟩
 nd:=r.nd
 len:=r.len
 bo:=λi x q=>by
  obtain ⟨v,b,h|⟨a,rfl,n0,n,t⟩⟩:=r.bo i x q
  .exact ⟨v,b,.inl (h.mono e.s1)⟩
  .exact ⟨_,b,.inr ⟨a,rfl,n0,e.s4 a t.there n,t.mono e.s1 λo z=>e.s2 _ _ z⟩⟩
def RS.sub (r:RS Hs0 H0 Hs H σ ε):sL Hs H:=r.ext.s3
def RS.rebase (r:RS Hs0 H0 Hs H σ ε):RS Hs H0 Hs H σ ε:=⟨⟨.refl _,r.ext.s2,r.ext.s3,λ_ _ z=>z⟩,r.sh,r.ow,r.nd,r.len,r.bo⟩
def Ext.unbase (r:Ext Hs0 H0 Hb H)(e:Ext Hb H0 Hs' H'):Ext Hs0 H0 Hs' H':=⟨r.s1.trans e.s1,e.s2,e.s3,λb h z=>e.s4 b h (r.s4 b h z)⟩
def RS.unbase {ε':ME}(r:Ext Hs0 H0 Hb H)(e:RS Hb H0 Hs' H' σ' ε'):RS Hs0 H0 Hs' H' σ' ε':=⟨r.unbase e.ext,e.sh,e.ow,e.nd,e.len,e.bo⟩
def RS.put (r:RS Hs0 H0 Hs H σ ε){i:Nat}(h:Rep Hs x v):RS Hs0 H0 Hs H (σ.set i (some v)) (ε.set i (.sh x)) where
 ext:=r.ext
 sh:=λj y q=>by
  rw [yr] at q ⊢;split at q
  .rename_i hij;split at q
   .rename_i hl;injection q with q;injection q with q;subst q;rw [rB hij,rB (by rw [r.len,hij];rw [hij] at hl;exact hl)];exact ⟨v,rfl,h⟩
   .cases q
  .rename_i hij;rw [rq hij];exact r.sh j y q
 ow:=λj y q=>by
  rw [yr] at q ⊢;split at q
  .split at q<;>cases q
  .rename_i hij;rw [rq hij];exact r.ow j y q
 nd:=λj k x y a h1 h2 h3 h4=>by
  rw [yr] at h1 h2 h3 h4;split at h1
  .split at h1<;>cases h1
  .rename_i hj;rw [rq hj] at h3;split at h2
   .split at h2<;>cases h2
   .rename_i hk;rw [rq hk] at h4;exact r.nd j k x y a h1 h2 h3 h4
 len:=by rw [yc,yc,r.len]
 bo:=λj y q=>by
  rw [yr] at q ⊢;split at q
  .split at q<;>cases q
  .rename_i hij;rw [rq hij];exact r.bo j y q
def RS.putO (r:RS Hs0 H0 Hs H σ ε){i:Nat}{a:Addr}(h:Own H0 Hs H a x)(ne:∀(j:Nat)(y:PV),ε[j]?=some (.ow y)->σ[j]?≠some (some (.ref a))):RS Hs0 H0 Hs H (σ.set i (some (.ref a))) (ε.set i (.ow x)) where
 ext:=r.ext
 sh:=λj y q=>by
  rw [yr] at q ⊢;split at q
  .split at q<;>cases q
  .rename_i hij;rw [rq hij];exact r.sh j y q
 ow:=λj y q=>by
  rw [yr] at q ⊢;split at q
  .rename_i hij;split at q
   .rename_i hl;injection q with q;injection q with q;subst q;rw [rB hij,rB (by rw [r.len,hij];rw [hij] at hl;exact hl)];exact ⟨a,rfl,h⟩
   .cases q
  .rename_i hij;rw [rq hij];exact r.ow j y q
 nd:=λj k x' y b h1 h2 h3 h4=>by
  rw [yr] at h1 h2 h3 h4;split at h1
  .rename_i hj;rw [rB hj] at h3;split at h1
   .rename_i hl;rw [rB (by rw [r.len];exact hl)] at h3;injection h3 with h3;injection h3 with h3;injection h3 with h3;subst h3;split at h2
    .rename_i hk;exact hj.symm.trans hk
    .rename_i hk;rw [rq hk] at h4;exact rp h4 (ne k y h2)
   .cases h1
  .rename_i hj;rw [rq hj] at h3;split at h2
   .rename_i hk;rw [rB hk] at h4;split at h2
    .rename_i hl;rw [rB (by rw [r.len];exact hl)] at h4;injection h4 with h4;injection h4 with h4;injection h4 with h4;subst h4;exact rp h3 (ne j x' h1)
    .cases h2
   .rename_i hk;rw [rq hk] at h4;exact r.nd j k x' y b h1 h2 h3 h4
 len:=by rw [yc,yc,r.len]
 bo:=λj y q=>by
  rw [yr] at q ⊢;split at q
  .split at q<;>cases q
  .rename_i hij;rw [rq hij];exact r.bo j y q
def RS.change (r:RS Hs0 H0 Hs H σ ε){i:Nat}{a:Addr}(hi:ε[i]?=some (.ow x))(ha:σ[i]?=some (some (.ref a)))(t:Top Hs (z9 H a o) a y):RS Hs0 H0 Hs (z9 H a o) σ (ε.set i (.ow y)):=by
 obtain ⟨b,hb,n0,n,tx⟩:=r.ow i x hi;rw [ha] at hb;injection hb with hb;injection hb with hb;injection hb with hb;subst hb;refine ⟨⟨r.ext.s1,λb u e=>?_,λb u e=>?_,r.ext.s4⟩,λj z q=>?_,λj z q=>?_,λj k z z' c h1 h2 h3 h4=>?_,by rw [yc,r.len],λj z q=>?_⟩
 .rw [j3 (k9 e n0)];exact r.ext.s2 _ _ e
 .rw [j3 (k9 e n)];exact r.ext.s3 _ _ e
 .rw [yr] at q;split at q
  .split at q<;>cases q
  .exact r.sh j z q
 .rw [yr] at q;split at q
  .rename_i hij;split at q
   .injection q with q;injection q with q;subst q;exact ⟨a,hij▸ha,n0,n,t⟩
   .cases q
  .rename_i hij;obtain ⟨c,hc,m0,m,tc⟩:=r.ow j z q;have hne:c≠a:=λe=>hij (r.nd i j x z a hi q ha (e▸hc));exact ⟨c,hc,m0,m,tc.mono (.refl _) λo' e=>by rw [j3 hne];exact e⟩
 .have down:∀{m:Nat}{w:PV},(ε.set i (.ow y))[m]?=some (.ow w)->∃ w',ε[m]?=some (.ow w'):=by
   intro m w q;rw [yr] at q;split at q
   ·rename_i him;exact ⟨x,him▸hi⟩
   ·exact ⟨w,q⟩
  obtain ⟨w1,q1⟩:=down h1;obtain ⟨w2,q2⟩:=down h2;exact r.nd j k w1 w2 c q1 q2 h3 h4
 .rw [yr] at q;split at q
  .split at q<;>cases q
  .obtain ⟨v,hv,h|⟨c,rfl,m0,m,tc⟩⟩:=r.bo j z q
   .exact ⟨v,hv,.inl h⟩
   .have hne:c≠a:=λe=>m0 (e▸n0);exact ⟨_,hv,.inr ⟨c,rfl,m0,m,tc.mono (.refl _) λo' e=>by rw [j3 hne];exact e⟩⟩
def fz (i:Nat)(ε:ME):ME:=match ε[i]? with
 |some (.ow x)=>ε.set i (.sh x)
 |_=>ε
def QN {j:Nat}{s:sN}(h:∀(i:Nat)(x:PV),ε[i]?≠some (.bo x))(hs:∀ x,s ≠ .bo x):∀(i:Nat)(x:PV),(ε.set j s)[i]?≠some (.bo x):=λi x q=>by
 rw [yr] at q;split at q
 .split at q
  .injection q with q;exact hs x q
  .cases q
 .exact h i x q
abbrev M:=ME->Option PV
variable{a b:M}
abbrev MB:=ME->Option Bool
variable{c:MB}
abbrev MA:=ME->Option C5
variable{as f:MA}
class SemE (te:TE)(f:M):Prop where
 h:∀{ε y},f ε=some y->∀{Hs0 H0 Hs H σ},RS Hs0 H0 Hs H σ ε->∀{Q:VK},(∀ v Hs' H',Ext Hs H Hs' H'->Rep Hs' y v->Q v H')->te σ H Q
class qd (te:TE)(f:M):Prop where
 h:∀{ε y},f ε=some y->∀{Hs0 H0 Hs H σ},RS Hs0 H0 Hs H σ ε->∀{Q:VK},(∀ v Hs' H',Ext Hs H Hs' H'->sF Hs' H' y v->Q v H')->te σ H Q
class xJ (te:TE)(f:M):Prop where
 h:∀{ε y},f ε=some y->∀{Hs0 H0 Hs H σ},RS Hs0 H0 Hs H σ ε->∀{Q:VK},(∀ a Hs' H',Ext Hs H Hs' H'->H a=none->Hs' a=none->Top Hs' H' a y->Q (.ref a) H')->te σ H Q
class qV (tt:TT)(f:MB):Prop where
 h:∀{ε y},f ε=some y->∀{Hs0 H0 Hs H σ},RS Hs0 H0 Hs H σ ε->∀{Q:AJ},(∀ Hs' H',Ext Hs H Hs' H'->Q y H')->tt σ H Q
class xi (ta:TA)(f:MA):Prop where
 h:∀{ε ys},f ε=some ys->∀{Hs0 H0 Hs H σ},RS Hs0 H0 Hs H σ ε->∀{Q:AQ},(∀ vs Hs' H',Ext Hs H Hs' H'->sR Hs' ys vs->Q vs H')->ta σ H Q
def Qm (Hs H:Hp):C5->EB->Prop
 |[],vs=>vs=[]
 |x::xs,vs=>∃ v r,vs=v::r/\sF Hs H x v/\Qm Hs H xs r
class Xq (ta:TA)(f:MA):Prop where
 h:∀{ε ys},f ε=some ys->∀{Hs0 H0 Hs H σ},RS Hs0 H0 Hs H σ ε->∀{Q:AQ},(∀ vs Hs' H',Ext Hs H Hs' H'->Qm Hs' H' ys vs->Q vs H')->ta σ H Q
class SemR (r:R2)(g:AD):Prop where
 h:∀{x y z},g x y=some z->∀{Hs H:Hp}{v w:V},sL Hs H->sF Hs H x v->sF Hs H y w->∀{Q:VK},(∀ u Hs' H',Ext Hs H Hs' H'->Rep Hs' z u->Q u H')->r v w H Q
class Gh (r:R2)(g:AD):Prop where
 h:∀{x y z},g x y=some z->∀{Hs H:Hp}{v w:V},sL Hs H->sF Hs H x v->sF Hs H y w->∀{Q:VK},(∀ a Hs' H',Ext Hs H Hs' H'->H a=none->Hs' a=none->Top Hs' H' a z->Q (.ref a) H')->r v w H Q
instance (priority:=50) semE_O {f:M}[s:xJ te f]:SemE te f where
 h:=λe _ _ _ _ _ r _ q=>s.h e r λa Hs' H' x h n t=>by
  obtain ⟨o,ho,hr⟩:=t.rep n;exact q _ _ _ (x.share h n ho) hr
instance (priority:=50) semB_E {f:M}[s:SemE te f]:qd te f where
 h:=λe _ _ _ _ _ r _ q=>s.h e r λv Hs' H' x h=>q v Hs' H' x (.inl h)
def x6 (i:Nat):M:=λε=>match ε[i]? with
 |some (.sh x)=>some x
 |_=>none
def x9 (i:Nat):M:=λε=>match ε[i]? with
 |some (.sh x)=>some x
 |some (.ow x)=>some x
 |some (.bo x)=>some x
 |_=>none
def dC (v:V):M:=λ_=>some (.at v)
instance {i:Nat}:SemE (qM i) (x6 i) where
 h:=λ{ε y} e {_ _ _ _ _} r {_} q=>by
  unfold x6 at e;split at e
  .rename_i x hx;cases e;obtain ⟨v,h1,h2⟩:=r.sh i _ hx;exact ⟨v,h1,q v _ _ (.refl r.sub) h2⟩
  .cases e
instance {i:Nat}:qd (qM i) (x9 i) where
 h:=λ{ε y} e {_ _ _ _ _} r {_} q=>by
  unfold x9 at e;split at e
  .rename_i x hx;cases e;obtain ⟨v,h1,h2⟩:=r.sh i _ hx;exact ⟨v,h1,q v _ _ (.refl r.sub) (.inl h2)⟩
  .rename_i x hx;cases e;obtain ⟨a,h1,_,n,t⟩:=r.ow i _ hx;exact ⟨_,h1,q _ _ _ (.refl r.sub) (.inr ⟨a,rfl,n,t⟩)⟩
  .rename_i x hx;cases e;obtain ⟨v,h1,h2|⟨a,rfl,_,n,t⟩⟩:=r.bo i _ hx
   .exact ⟨v,h1,q v _ _ (.refl r.sub) (.inl h2)⟩
   .exact ⟨_,h1,q _ _ _ (.refl r.sub) (.inr ⟨a,rfl,n,t⟩)⟩
  .cases e
instance :SemE (tC v) (dC v) where
 h:=λe _ _ _ _ _ r _ q=>by cases e;exact q v _ _ (.refl r.sub) (tD.mpr rfl)
def z5 (g:AD)(a b:M):M:=λε=>(a ε).bind λx=>(b ε).bind λy=>g x y
def tE {α β:Type}{o:Option α}{f:α->Option β}{y:β}(h:o.bind f=some y):∃ x,o=some x/\f x=some y:=by
 cases o with
 |none=>cases h
 |some x=>exact ⟨x,rfl,h⟩
instance {g:AD}{ta:TE}[sr:SemR r g][sa:qd ta a][sb:qd tb b]:SemE (tOp r ta tb) (z5 g a b) where
 h:=λe _ _ _ _ _ rs _ q=>by
  obtain ⟨x,ex,e⟩:=tE e;obtain ⟨y,ey,e⟩:=tE e;exact sa.h ex rs λv tG H1 x1 r1=>sb.h ey (rs.go x1) λw tF H2 x2 r2=>sr.h e x2.s3 (r1.ext x2) r2 λu Hs3 H3 x3 r3=>q u _ _ (x1.trans (x2.trans x3)) r3
instance {g:AD}{ta:TE}[sr:Gh r g][sa:qd ta a][sb:qd tb b]:xJ (tOp r ta tb) (z5 g a b) where
 h:=λe _ _ _ _ _ rs _ q=>by
  obtain ⟨x,ex,e⟩:=tE e;obtain ⟨y,ey,e⟩:=tE e;exact sa.h ex rs λv tG H1 x1 r1=>sb.h ey (rs.go x1) λw tF H2 x2 r2=>sr.h e x2.s3 (r1.ext x2) r2 λu Hs3 H3 x3 n n' r3=>q u _ _ (x1.trans (x2.trans x3)) (x1.s2.free (x2.s2.free n)) n' r3
def x8:MA:=λ_=>some []
def q0 (a:M)(r:MA):MA:=λε=>(a ε).bind λx=>(r ε).bind λxs=>some (x::xs)
instance:xi qL x8 where
 h:=λe _ _ _ _ _ r _ q=>by cases e;exact q [] _ _ (.refl r.sub) .nil
instance [sa:SemE te a][sr:xi ta f]:xi (qv te ta) (q0 a f) where
 h:=λe _ _ _ _ _ rs _ q=>by
  obtain ⟨x,ex,e⟩:=tE e;obtain ⟨xs,ey,e⟩:=tE e;cases e;exact sa.h ex rs λv tG H1 x1 r1=>sr.h ey (rs.go x1) λvs tF H2 x2 r2=>q _ _ _ (x1.trans x2) (.cons (r1.mono x2.s1) r2)
instance:Xq qL x8 where
 h:=λe _ _ _ _ _ r _ q=>by cases e;exact q [] _ _ (.refl r.sub) rfl
instance [sa:qd te a][sr:Xq ta f]:Xq (qv te ta) (q0 a f) where
 h:=λe _ _ _ _ _ rs _ q=>by
  obtain ⟨x,ex,e⟩:=tE e;obtain ⟨xs,ey,e⟩:=tE e;cases e;exact sa.h ex rs λv tG H1 x1 r1=>sr.h ey (rs.go x1) λvs tF H2 x2 r2=>q _ _ _ (x1.trans x2) ⟨_,_,rfl,r1.ext x2,r2⟩
def lim:Nat:=1000000
def xL (h:n<=lim):n<=sizeLine:=yj h (by rw [ra];decide)
def XO (h:n<=lim):n<sizeLine:=oV h (by rw [ra];decide)
def xu (a:MA):M:=λε=>(a ε).bind λxs=>if xs.length<=lim then some (.tup xs) else none
def p6 (a:MA):M:=λε=>(a ε).bind λxs=>if xs.length<=lim then some (.lst xs) else none
instance [sa:xi ta f]:SemE (tTup ta) (xu f) where
 h:=λe _ _ _ _ _ rs _ q=>by
  obtain ⟨xs,ex,e⟩:=tE e;split at e
  .rename_i hl;cases e;exact sa.h ex rs λvs tG H1 x1 r1=>⟨xL (r1.length▸hl),λp hp=>q _ _ _ (x1.trans (.new x1.s3 hp)) (sY.mpr ⟨p,vs,rfl,u5,r1.mono (Ext.new x1.s3 hp).s1⟩)⟩
  .cases e
instance [sa:xi ta f]:xJ (tLst ta) (p6 f) where
 h:=λe _ _ _ _ _ rs _ q=>by
  obtain ⟨xs,ex,e⟩:=tE e;split at e
  .rename_i hl;cases e;exact sa.h ex rs λvs tG H1 x1 r1=>⟨xL (r1.length▸hl),λp hp=>q _ _ _ (x1.trans (.newO x1.s3 hp)) (x1.s2.free hp) (x1.s3.free hp) ⟨vs,u5,r1⟩⟩
  .cases e
def c9 (h:sF Hs H (.at u) v):v=u:=by
 rcases h with h|⟨a,_,_,t⟩
 .exact tD.mp h
 .exact t.elim
def qj (s:sL Hs H)(h:sF Hs H (.lst xs) v):∃ a vs,v = .ref a/\H a=some (.lst vs)/\sR Hs xs vs:=by
 rcases h with h|⟨a,rfl,_,vs,e,r⟩
 .obtain ⟨a,vs,rfl,e,r⟩:=tj.mp h;exact ⟨a,vs,rfl,s _ _ e,r⟩
 .exact ⟨a,vs,rfl,e,r⟩
def xS (s:sL Hs H)(h:sF Hs H (.tup xs) v):∃ a vs,v = .ref a/\H a=some (.tup vs)/\sR Hs xs vs:=by
 rcases h with h|⟨a,rfl,_,t⟩
 .obtain ⟨a,vs,rfl,e,r⟩:=sY.mp h;exact ⟨a,vs,rfl,s _ _ e,r⟩
 .exact t.elim
def Zy (s:sL Hs H)(h:sF Hs H (.fk ks xs) v):∃ a o kvs,v = .ref a/\H a=some (.frz o (.dK kvs))/\kvs.map (·.1)=ks/\sR Hs xs (kvs.map (·.2)):=by
 rcases h with h|⟨a,rfl,n,t⟩
 .obtain ⟨a,o,kvs,rfl,e,k,r⟩:=rep_fk.mp h;exact ⟨a,o,kvs,rfl,s _ _ e,k,r⟩
 .exact t.elim
def vX (s:sL Hs H)(h:sF Hs H (.dk ks xs) v):∃ a kvs,v = .ref a/\H a=some (.dK kvs)/\kvs.map (·.1)=ks/\sR Hs xs (kvs.map (·.2)):=by
 rcases h with h|⟨a,rfl,_,kvs,e,k,r⟩
 .obtain ⟨a,kvs,rfl,e,k,r⟩:=rep_dk.mp h;exact ⟨a,kvs,rfl,s _ _ e,k,r⟩
 .exact ⟨a,kvs,rfl,e,k,r⟩
def CJ (s:sL Hs H)(h:sF Hs H (.ob C ns xs) v):∃ a dx fs,v = .ref a/\H a=some (.ins C dx fs)/\fs.map (·.1)=ns/\sR Hs xs (fs.map (·.2)):=by
 rcases h with h|⟨a,rfl,_,dx,fs,e,k,r⟩
 .obtain ⟨a,dx,fs,rfl,e,k,r⟩:=rep_ob.mp h;exact ⟨a,dx,fs,rfl,s _ _ e,k,r⟩
 .exact ⟨a,dx,fs,rfl,e,k,r⟩
def pI (g:Int->Int->EY):PV->PV->Option PV
 | .at (.int i),.at (.int j)=>(g i j).map .at
 |_,_=>none
def PU {g:Int->Int->EY}{z:PV}(h:pI g x y=some z):∃ i j u,x = .at (.int i)/\y = .at (.int j)/\g i j=some u/\z = .at u:=by
 unfold pI at h;split at h
 .rename_i i j;obtain ⟨u,e,rfl⟩:=yC.mp h;exact ⟨i,j,u,rfl,rfl,e,rfl⟩
 .cases h
instance {g:Int->Int->V}:SemR (rI0 g) (pI λi j=>some (g i j)) where
 h:=λe _ _ _ _ s a b _ q=>by
  obtain ⟨i,j,u,rfl,rfl,e,rfl⟩:=PU e;cases e;exact ⟨i,j,c9 a,c9 b,q _ _ _ (.refl s) (tD.mpr rfl)⟩
instance {C:Int->Int->Prop}[d:∀ i j,Decidable (C i j)]{g:Int->Int->V}:SemR (rI C g) (pI λi j=>if C i j then some (g i j) else none) where
 h:=λe _ _ _ _ s a b _ q=>by
  obtain ⟨i,j,u,rfl,rfl,e',rfl⟩:=PU e;split at e'
  .rename_i hc;cases e';exact ⟨i,j,c9 a,c9 b,hc,q _ _ _ (.refl s) (tD.mpr rfl)⟩
  .cases e'
def k6:PV->PV->Option PV
 | .lst xs,.at (.int i)=>atI xs i
 | .tup xs,.at (.int i)=>atI xs i
 | .at (.str z),.at (.int i)=>if z.length<=lim then (L2.atI z.cps.toList i).map λc=> .at (.str ⟨#[c]⟩) else none
 |_,_=>none
def sR.atI {i:Int}(r:sR H xs vs)(h:atI xs i=some x):∃ v,L2.atI vs i=some v/\Rep H x v:=by unfold L2.atI at h ⊢;rw [r.length];obtain ⟨j,ej,e⟩:=tE h;rw [ej];exact r.get e
instance :SemR (rIx K) k6 where
 h:=λ{x y z} e {Hs H v w} s a b {Q} q=>by
  unfold k6 at e;split at e
  .obtain ⟨p,vs,rfl,e1,r1⟩:=qj s a;obtain ⟨u,hu,r⟩:=r1.atI e;exact .inl ⟨p,vs,_,u,rfl,c9 b,sK.of e1,hu,q _ _ _ (.refl s) r⟩
  .obtain ⟨p,vs,rfl,e1,r1⟩:=xS s a;obtain ⟨u,hu,r⟩:=r1.atI e;exact .inr (.inl ⟨p,vs,_,u,rfl,c9 b,sD.of e1,hu,q _ _ _ (.refl s) r⟩)
  .split at e
   .rename_i hz;obtain ⟨c,hc,rfl⟩:=yC.mp e;exact .inr (.inr ⟨_,_,c,c9 a,c9 b,xL hz,hc,q _ _ _ (.refl s) (tD.mpr rfl)⟩)
   .cases e
  .cases e
def ats:C5->Option EB
 |[]=>some []
 | .at u::xs=>(ats xs).map (u::·)
 |_::_=>none
theorem Xu:∀{xs:C5}{us:EB},ats xs=some us->xs=us.map .at
 |[],_,h=>by cases h;rfl
 | .at u::xs,us,h=>by
  unfold ats at h;obtain ⟨r,e,rfl⟩:=yC.mp h;rw [yH,Xu e]
 | .tup _::_,_,h=>by cases h
 | .lst _::_,_,h=>by cases h
 | .dk _ _::_,_,h=>by cases h
 | .fk _ _::_,_,h=>by cases h
 | .ob _ _ _::_,_,h=>by cases h
 | .op _::_,_,h=>by cases h
def pIn (neg:Bool):PV->PV->Option PV
 | .at u,.lst xs=>(ats xs).bind λus=>if p5 u=true/\us.all p5=true then some (.at (.bl (if neg then !inV u us else inV u us))) else none
 | .at u,.tup xs=>(ats xs).bind λus=>if p5 u=true/\us.all p5=true then some (.at (.bl (if neg then !inV u us else inV u us))) else none
 |_,_=>none
instance {neg:Bool}:SemR (rIn K neg) (pIn neg) where
 h:=λ{x y z} e {Hs H v w} s a b {Q} q=>by
  unfold pIn at e;split at e
  .obtain ⟨us,e1,e⟩:=tE e;split at e
   .rename_i hf;cases e;obtain ⟨p,vs,rfl,e2,r2⟩:=qj s b;rw [Xu e1] at r2;cases r2.ats;cases c9 a;exact ⟨p,_,rfl,.inl (sK.of e2),hf.1,hf.2,q _ _ _ (.refl s) (tD.mpr rfl)⟩
   .cases e
  .obtain ⟨us,e1,e⟩:=tE e;split at e
   .rename_i hf;cases e;obtain ⟨p,vs,rfl,e2,r2⟩:=xS s b;rw [Xu e1] at r2;cases r2.ats;cases c9 a;exact ⟨p,_,rfl,.inr (sD.of e2),hf.1,hf.2,q _ _ _ (.refl s) (tD.mpr rfl)⟩
   .cases e
  .cases e
class SemU (r:C1)(g:AM):Prop where
 h:∀{x z},g x=some z->∀{Hs H:Hp}{v:V},sL Hs H->sF Hs H x v->∀{Q:VK},(∀ u Hs' H',Ext Hs H Hs' H'->Rep Hs' z u->Q u H')->r v H Q
def dUn (g:AM)(a:M):M:=λε=>(a ε).bind g
instance {r:C1}{g:AM}{ta:TE}[sr:SemU r g][sa:qd ta a]:SemE (tUn r ta) (dUn g a) where
 h:=λe _ _ _ _ _ rs _ q=>by
  obtain ⟨x,ex,e⟩:=tE e;exact sa.h ex rs λv tG H1 x1 r1=>sr.h e x1.s3 r1 λu Hs3 H3 x3 r3=>q u _ _ (x1.trans x3) r3
def pU (g:Int->V):PV->Option PV
 | .at (.int i)=>some (.at (g i))
 |_=>none
instance {g:Int->V}:SemU (rU g) (pU g) where
 h:=λ{x z} e {_ _ _} s a {_} q=>by
  unfold pU at e;split at e
  .cases e;exact ⟨_,c9 a,q _ _ _ (.refl s) (tD.mpr rfl)⟩
  .cases e
def pB:PV->Option Bool
 | .at (.bl b)=>some b
 |_=>none
def Zj {b:Bool}(h:pB x=some b):x = .at (.bl b):=by
 unfold pB at h;split at h
 .cases h;rfl
 .cases h
def dT (a:M):MB:=λε=>(a ε).bind pB
instance [sa:qd te a]:qV (UG te) (dT a) where
 h:=λe _ _ _ _ _ rs _ q=>by
  obtain ⟨x,ex,e⟩:=tE e;cases Zj e;exact sa.h ex rs λv tG H1 x1 r1=>⟨_,c9 r1,q _ _ x1⟩
instance [sa:qd te a]:qV (tB te) (dT a) where
 h:=λe _ _ _ _ _ rs _ q=>by
  obtain ⟨x,ex,e⟩:=tE e;cases Zj e;exact sa.h ex rs λv tG H1 x1 r1=>⟨_,c9 r1,q _ _ x1⟩
def tTru (K:Fg)(ta:TE):TT:=λσ H Q=>ta σ H λx H'=>∃ k,TruV K x H' k/\Q k H'
def pTru:PV->Option Bool
 | .at .non=>some false
 | .at (.bl b)=>some b
 | .at (.int i)=>some (i != 0)
 | .at (.str y)=>if y.length<=lim then some ((y.length:Int) != 0) else none
 | .lst xs=>some (!xs.isEmpty)
 | .tup xs=>some (!xs.isEmpty)
 | .dk ks _=>some (!ks.isEmpty)
 |_=>none
def r9 (a:M):MB:=λε=>(a ε).bind pTru
def sR.isEmpty (r:sR H xs vs):vs.isEmpty=xs.isEmpty:=by have:=r.length;cases xs<;>cases vs<;>first|rfl|(simp at this)
instance [sa:qd te a]:qV (tTru K te) (r9 a) where
 h:=λe _ _ _ _ _ rs _ q=>by
  obtain ⟨x,ex,e⟩:=tE e;refine sa.h ex rs λv tG H1 x1 r1=>?_;unfold pTru at e;split at e
  .cases e;cases c9 r1;exact ⟨_,rfl,q _ _ x1⟩
  .cases e;cases c9 r1;exact ⟨_,rfl,q _ _ x1⟩
  .cases e;cases c9 r1;exact ⟨_,rfl,q _ _ x1⟩
  .split at e
   .rename_i hl;cases e;cases c9 r1;exact ⟨_,⟨xL hl,rfl⟩,q _ _ x1⟩
   .cases e
  .cases e;obtain ⟨p,vs,rfl,e1,r2⟩:=qj x1.s3 r1;exact ⟨_,.inl ⟨vs,sK.of e1,by rw [r2.isEmpty]⟩,q _ _ x1⟩
  .cases e;obtain ⟨p,vs,rfl,e1,r2⟩:=xS x1.s3 r1;exact ⟨_,.inr (.inl ⟨vs,sD.of e1,by rw [r2.isEmpty]⟩),q _ _ x1⟩
  .cases e;obtain ⟨p,kvs,rfl,e1,k,r2⟩:=vX x1.s3 r1;refine ⟨_,.inr (.inr ⟨kvs,e1,?_⟩),q _ _ x1⟩;rw [<- k];cases kvs<;>rfl
  .cases e
def Xw (a b:MB):MB:=λε=>(a ε).bind λc=>if c=true then b ε else some false
def dOr (a b:MB):MB:=λε=>(a ε).bind λc=>if c=true then some true else b ε
def n8 (a:MB):MB:=λε=>(a ε).bind λc=>some (!c)
instance {u:TT}{a b:MB}[sa:qV t a][sb:qV u b]:qV (tAnd t u) (Xw a b) where
 h:=λe _ _ _ _ _ rs _ q=>by
  obtain ⟨c,ex,e⟩:=tE e;refine sa.h ex rs λtG H1 x1=>?_;cases c with
  |true=>exact za (sb.h e (rs.go x1) λtF H2 x2=>q _ _ (x1.trans x2))
  |false=>cases e;exact xZ (q _ _ x1)
instance {u:TT}{a b:MB}[sa:qV t a][sb:qV u b]:qV (tOr t u) (dOr a b) where
 h:=λe _ _ _ _ _ rs _ q=>by
  obtain ⟨c,ex,e⟩:=tE e;refine sa.h ex rs λtG H1 x1=>?_;cases c with
  |true=>cases e;exact za (q _ _ x1)
  |false=>exact xZ (sb.h e (rs.go x1) λtF H2 x2=>q _ _ (x1.trans x2))
instance {a:MB}[sa:qV t a]:qV (tNot t) (n8 a) where
 h:=λe _ _ _ _ _ rs _ q=>by
  obtain ⟨c,ex,e⟩:=tE e;cases e;exact sa.h ex rs λtG H1 x1=>q _ _ x1
def xX (a b:M):M:=λε=>(a ε).bind λx=>(pB x).bind λc=>if c=true then b ε else some (.at (.bl false))
def Jf (a:M):M:=λε=>(a ε).bind λx=>(pB x).bind λc=>some (.at (.bl (!c)))
instance {t u:TE}[sa:SemE t a][sb:SemE u b]:SemE (Di t u) (xX a b) where
 h:=λe _ _ _ _ _ rs _ q=>by
  obtain ⟨x,ex,e⟩:=tE e;obtain ⟨c,ec,e⟩:=tE e;cases Zj ec;refine sa.h ex rs λv tG H1 x1 r1=>⟨c,tD.mp r1,?_⟩;cases c with
  |true=>exact za (sb.h e (rs.go x1) λw tF H2 x2 r2=>q _ _ _ (x1.trans x2) r2)
  |false=>cases e;exact xZ (q _ _ _ x1 (tD.mpr rfl))
instance {t:TE}[sa:qd t a]:SemE (Dp t) (Jf a) where
 h:=λe _ _ _ _ _ rs _ q=>by
  obtain ⟨x,ex,e⟩:=tE e;obtain ⟨c,ec,e⟩:=tE e;cases Zj ec;cases e;exact sa.h ex rs λv tG H1 x1 r1=>⟨c,c9 r1,q _ _ _ x1 (tD.mpr rfl)⟩
def dIf (c:MB)(a b:M):M:=λε=>(c ε).bind λk=>if k=true then a ε else b ε
instance {ta:TE}[sc:qV t c][sa:SemE ta a][sb:SemE tb b]:SemE (tIf t ta tb) (dIf c a b) where
 h:=λe _ _ _ _ _ rs _ q=>by
  obtain ⟨k,ex,e⟩:=tE e;refine sc.h ex rs λtG H1 x1=>?_;cases k with
  |true=>exact za (sa.h e (rs.go x1) λw tF H2 x2 r2=>q _ _ _ (x1.trans x2) r2)
  |false=>exact xZ (sb.h e (rs.go x1) λw tF H2 x2 r2=>q _ _ _ (x1.trans x2) r2)
def va (g g':AD)(a b c:M):M:=λε=>(a ε).bind λx=>(b ε).bind λy=>(g x y).bind λz=>(pB z).bind λk=>if k=true then (c ε).bind λw=>g' y w else some (.at (.bl false))
instance {r':R2}{g g':AD}{ta tc:TE}{c:M}[sr:SemR r g][sr':SemR r' g'][sa:qd ta a][sb:qd tb b][sc:qd tc c]:SemE (UC r r' ta tb tc) (va g g' a b c) where
 h:=λe _ _ _ _ _ rs _ q=>by
  obtain ⟨x,ex,e1⟩:=tE e;obtain ⟨y,ey,e2⟩:=tE e1;obtain ⟨z,ez,e3⟩:=tE e2;obtain ⟨k,ek,e4⟩:=tE e3;have ez':=Zj ek;subst ez';refine sa.h ex rs λv tG H1 x1 r1=>sb.h ey (rs.go x1) λw tF H2 x2 r2=>sr.h ez x2.s3 (r1.ext x2) r2 λu Hs3 H3 x3 r3=>⟨k,tD.mp r3,?_⟩;cases k with
  |true=>obtain ⟨w',ew,e5⟩:=tE e4;exact za (sc.h ew (((rs.go x1).go x2).go x3) λu' Hs4 H4 x4 r4=>sr'.h e5 x4.s3 ((r2.ext x3).ext x4) r4 λu'' Hs5 H5 x5 r5=>q _ _ _ (x1.trans (x2.trans (x3.trans (x4.trans x5)))) r5)
  |false=>cases e4;exact xZ (q _ _ _ (x1.trans (x2.trans x3)) (tD.mpr rfl))
def v7 (m:AC):Sp:=λvs H Q _=>∃ Hs xs y,sL Hs H/\sR Hs xs vs/\m xs=some y/\∀ v Hs' H',Ext Hs H Hs' H'->Rep Hs' y v->Q v H'
def qa (m:AC):Sp:=λvs H Q _=>∃ Hs xs y,sL Hs H/\sR Hs xs vs/\m xs=some y/\∀ a Hs' H',Ext Hs H Hs' H'->H a=none->Hs' a=none->Top Hs' H' a y->Q (.ref a) H'
def z0 (m:AC)(as:MA):M:=λε=>(as ε).bind m
instance [sa:xi ta as]:SemE (xT (v7 m) [] E ta) (z0 m as) where
 h:=λe _ _ _ _ _ rs _ q=>by
  obtain ⟨xs,ex,e1⟩:=tE e;refine sa.h ex rs λvs tG H1 x1 r1=>⟨tG,xs,_,x1.s3,by rw [yp];exact r1,e1,λv Hs' H' x r=>q v _ _ (x1.trans x) r⟩
instance [sa:xi ta as]:xJ (xT (qa m) [] E ta) (z0 m as) where
 h:=λe _ _ _ _ _ rs _ q=>by
  obtain ⟨xs,ex,e1⟩:=tE e;refine sa.h ex rs λvs tG H1 x1 r1=>⟨tG,xs,_,x1.s3,by rw [yp];exact r1,e1,λa Hs' H' x n n' r=>q a _ _ (x1.trans x) (x1.s2.free n) n' r⟩
def VM (m:AC)(ds:EB)(as:MA):M:=λε=>(as ε).bind λxs=>m (xs++ds.map .at)
def xK (C:Addr)(nm:Str)(m:AC)(a:M)(as:MA):M:=λε=>(a ε).bind λx=>match x with
 | .ob C' ns fs=>if C'=C/\nm∉ns then (as ε).bind λxs=>m (x::xs) else none
 |_=>none
def Wq {fs:ES}{f:Str}(h:f∉fs.map (·.1)):fs.lookup f=none:=by
 induction fs with
 |nil=>rfl
 |cons p r ih =>
  rw [yH] at h;rw [uN];have h1:(f==p.1)=false:=by rw [re];exact λe=>h (e▸yR)
  rw [h1];exact ih λz=>h (yO _ z)
def KY (h:xK C nm m a as ε=some y):∃ ns fs xs,a ε=some (.ob C ns fs)/\nm∉ns/\as ε=some xs/\m (.ob C ns fs::xs)=some y:=by
 unfold xK at h;obtain ⟨x,ex,h1⟩:=tE h;split at h1
 .rename_i C' ns fs;split at h1
  .rename_i hc;obtain ⟨xs,e2,h2⟩:=tE h1;obtain ⟨rfl,hn⟩:=hc;exact ⟨ns,fs,xs,ex,hn,e2,h2⟩
  .cases h1
 .cases h1
instance [so:SemE te a][sa:xi ta as]:SemE (Qa C nm (v7 m) [] E te ta) (xK C nm m a as) where
 h:=λe _ _ _ _ _ rs _ q=>by
  obtain ⟨ns,fs,xs,ea,hn,e1,e2⟩:=KY e;refine so.h ea rs λv tG H1 x1 r1=>?_;obtain ⟨p,dx,gs,rfl,hp,hk,hr⟩:=rep_ob.mp r1;refine ⟨p,dx,gs,rfl,x1.s3 _ _ hp,Wq (by rw [hk];exact hn),sa.h e1 (rs.go x1) λvs tF H2 x2 r2=>?_⟩;exact ⟨tF,_,_,x2.s3,by rw [yp];exact .cons (r1.mono x2.s1) r2,e2,λv Hs' H' x r=>q v _ _ (x1.trans (x2.trans x)) r⟩
instance [so:SemE te a][sa:xi ta as]:xJ (Qa C nm (qa m) [] E te ta) (xK C nm m a as) where
 h:=λe _ _ _ _ _ rs _ q=>by
  obtain ⟨ns,fs,xs,ea,hn,e1,e2⟩:=KY e;refine so.h ea rs λv tG H1 x1 r1=>?_;obtain ⟨p,dx,gs,rfl,hp,hk,hr⟩:=rep_ob.mp r1;refine ⟨p,dx,gs,rfl,x1.s3 _ _ hp,Wq (by rw [hk];exact hn),sa.h e1 (rs.go x1) λvs tF H2 x2 r2=>?_⟩;exact ⟨tF,_,_,x2.s3,by rw [yp];exact .cons (r1.mono x2.s1) r2,e2,λv Hs' H' x n n' r=>q v _ _ (x1.trans (x2.trans x)) (x1.s2.free (x2.s2.free n)) n' r⟩
class vD (r:AG)(g:AC):Prop where
 h:∀{xs z},g xs=some z->∀{Hs H:Hp}{vs:EB},sL Hs H->Qm Hs H xs vs->∀{Q:VK},(∀ u Hs' H',Ext Hs H Hs' H'->Rep Hs' z u->Q u H')->r vs H Q
class Vu (r:AG)(g:AC):Prop where
 h:∀{xs z},g xs=some z->∀{Hs H:Hp}{vs:EB},sL Hs H->Qm Hs H xs vs->∀{Q:VK},(∀ a Hs' H',Ext Hs H Hs' H'->H a=none->Hs' a=none->Top Hs' H' a z->Q (.ref a) H')->r vs H Q
instance {r:AG}{g:AC}[sr:vD r g][sa:Xq ta as]:SemE (tCB r ta) (z0 g as) where
 h:=λe _ _ _ _ _ rs _ q=>by
  obtain ⟨xs,ex,e1⟩:=tE e;exact sa.h ex rs λvs tG H1 x1 r1=>sr.h e1 x1.s3 r1 λv Hs' H' x r=>q v _ _ (x1.trans x) r
instance {r:AG}{g:AC}[sr:Vu r g][sa:Xq ta as]:xJ (tCB r ta) (z0 g as) where
 h:=λe _ _ _ _ _ rs _ q=>by
  obtain ⟨xs,ex,e1⟩:=tE e;exact sa.h ex rs λvs tG H1 x1 r1=>sr.h e1 x1.s3 r1 λv Hs' H' x n n' r=>q v _ _ (x1.trans x) (x1.s2.free n) n' r
def zv (h:Qm Hs H [x] vs):∃ v,vs=[v]/\sF Hs H x v:=by obtain ⟨v,r,rfl,a,b⟩:=h;cases (show r=[] from b);exact ⟨v,rfl,a⟩
def CK (h:Qm Hs H [x,y] vs):∃ v w,vs=[v,w]/\sF Hs H x v/\sF Hs H y w:=by obtain ⟨v,r,rfl,a,b⟩:=h;obtain ⟨w,rfl,c⟩:=zv b;exact ⟨v,w,rfl,a,c⟩
inductive Out where
 |nx (ε:ME)|rt (y:PV)|bk (ε:ME)|ct (ε:ME)
abbrev MS:=ME->Option Out
def OutK (fr:Bool)(Hs0 H0:Hp)(D:xy):Out->Prop
 | .nx ε=>∀ Hs H σ,RS Hs0 H0 Hs H σ ε->D.nx σ H
 | .bk ε=>∀ Hs H σ,RS Hs0 H0 Hs H σ ε->D.bk σ H
 | .ct ε=>∀ Hs H σ,RS Hs0 H0 Hs H σ ε->D.ct σ H
 | .rt y=>match fr with
  |true=>∀ a Hs H,Ext Hs0 H0 Hs H->H0 a=none->Hs a=none->Top Hs H a y->D.rt (.ref a) H
  |false=>∀ v Hs H,Ext Hs0 H0 Hs H->Rep Hs y v->D.rt v H
class i0 (fr:Bool)(ts:TS)(f:MS):Prop where
 h:∀{ε o},f ε=some o->∀{Hs0 H0 Hs H σ},RS Hs0 H0 Hs H σ ε->∀{D:xy},OutK fr Hs0 H0 D o->ts D σ H
variable {fr:Bool}
def i6:MS:=λε=>some (.nx ε)
instance:i0 fr UD i6 where
 h:=λe _ _ _ _ _ rs _ q=>by cases e;exact q _ _ _ rs
def y9 (a b:MS):MS:=λε=>(a ε).bind λo=>match o with
 | .nx ε'=>b ε'
 |o=>some o
instance {t u:TS}{a b:MS}[sa:i0 fr t a][sb:i0 fr u b]:i0 fr (tSeq t u) (y9 a b) where
 h:=λe _ _ _ _ _ rs D q=>by
  obtain ⟨o,eo,e1⟩:=tE e;refine sa.h eo rs ?_;cases o with
  |nx ε'=>exact λHs H σ r=>sb.h e1 r q
  |rt y=>cases e1;exact q
  |bk ε'=>cases e1;exact q
  |ct ε'=>cases e1;exact q
def qT (a:M):MS:=λε=>(a ε).bind λ_=>some (.nx ε)
instance (priority:=100)[sa:qd te a]:i0 fr (jx te) (qT a) where
 h:=λe _ _ _ _ _ rs _ q=>by
  obtain ⟨x,ex,e1⟩:=tE e;cases e1;exact sa.h ex rs λv tG H1 x1 r1=>q _ _ _ (rs.go x1)
def u9 (a:M):MS:=λε=>(a ε).bind λx=>some (.rt x)
instance [sa:SemE te a]:i0 false (ZF te) (u9 a) where
 h:=λe _ _ _ _ _ rs _ q=>by
  obtain ⟨x,ex,e1⟩:=tE e;cases e1;exact sa.h ex rs λv tG H1 x1 r1=>q _ _ _ (rs.ext.trans x1) r1
instance [sa:xJ te a]:i0 true (ZF te) (u9 a) where
 h:=λe _ _ _ _ _ rs _ q=>by
  obtain ⟨x,ex,e1⟩:=tE e;cases e1;exact sa.h ex rs λv tG H1 x1 n n' r1=>q _ _ _ (rs.ext.trans x1) (rs.ext.s2.free n) n' r1
def oVar (i:Nat):M:=λε=>match ε[i]? with
 |some (.ow x)=>some x
 |_=>none
instance {i:Nat}:i0 true (ZF (qM i)) (u9 (oVar i)) where
 h:=λe _ _ _ _ _ rs _ q=>by
  obtain ⟨x,ex,e1⟩:=tE e;cases e1;unfold oVar at ex;split at ex
  .rename_i y hy;cases ex;obtain ⟨a,ha,n0,n,t⟩:=rs.ow i _ hy;exact ⟨_,ha,q _ _ _ rs.ext n0 n t⟩
  .cases ex
def m4 (c:MB)(a b:MS):MS:=λε=>(c ε).bind λk=>if k=true then a ε else b ε
instance {ta tb:TS}{a b:MS}[sc:qV t c][sa:i0 fr ta a][sb:i0 fr tb b]:i0 fr (Xe t ta tb) (m4 c a b) where
 h:=λe _ _ _ _ _ rs _ q=>by
  obtain ⟨k,ex,e1⟩:=tE e;refine sc.h ex rs λtG H1 x1=>?_;cases k with
  |true=>exact za (sa.h e1 (rs.go x1) q)
  |false=>exact xZ (sb.h e1 (rs.go x1) q)
def qz:MS:=λ_=>none
instance:i0 fr Dn qz where
 h:=λe=>by cases e
abbrev MG:=PV->ME->Option ME
def But (ts:EI)(σ σ':St):Prop:=σ'.length=σ.length/\∀ j,j∉ts->σ'[j]?=σ[j]?
def But.refl (σ:St):But [] σ σ:=⟨rfl,λ_ _=>rfl⟩
def But.trans {a b:EI}{σ1 σ2:St}(x:But a σ σ1)(y:But b σ1 σ2):But (a++b) σ σ2 :=
 ⟨y.1.trans x.1,λj hj=>(y.2 j λz=>hj (yF.mpr (.inr z))).trans (x.2 j λz=>hj (yF.mpr (.inl z)))⟩
def But.wk (b:But ts σ σ')(h:∀ i∈ts,σ[i]?=some none):Wk σ σ':=by refine ⟨b.1.symm,λi v e=>?_⟩;rw [b.2 i λz=>by rw [h i z] at e;cases e];exact e
class vE (tg:TG)(ts:outParam EI)(g:MG):Prop where
 h:∀{x ε ε'},g x ε=some ε'->∀{Hs0 H0 Hs H σ v},RS Hs0 H0 Hs H σ ε->Rep Hs x v->∀{Q:AV},(∀ σ',RS Hs0 H0 Hs H σ' ε'->But ts σ σ'->Q σ' H)->tg v σ H Q
class Qo (tg:TGs)(ts:outParam EI)(g:AI):Prop where
 h:∀{xs ε ε'},g xs ε=some ε'->∀{Hs0 H0 Hs H σ vs},RS Hs0 H0 Hs H σ ε->sR Hs xs vs->∀{Q:AV},(∀ σ',RS Hs0 H0 Hs H σ' ε'->But ts σ σ'->Q σ' H)->tg vs σ H Q
def w6 (i:Nat):MG:=λx ε=>some (ε.set i (.sh x))
instance {i:Nat}:vE (xE i) [i] (w6 i) where
 h:=λe _ _ _ _ _ _ rs r _ q=>by
  cases e;exact q _ (rs.put r) ⟨yc,λj hj=>yh λz=>hj (by rw [<- z];exact yU.mpr rfl)⟩
def zc:C5->ME->Option ME:=λxs ε=>match xs with
 |[]=>some ε
 |_=>none
def qh (g:MG)(r:AI):C5->ME->Option ME:=λxs ε=>match xs with
 |x::xs=>(g x ε).bind (r xs)
 |_=>none
instance:Qo gNil [] zc where
 h:=λ{xs ε ε'} e {_ _ _ _ _ _} rs r {_} q=>by
  unfold zc at e;split at e
  .cases e;exact ⟨tu.mp r,q _ rs (.refl _)⟩
  .cases e
instance Fw {t:TG}{u:TGs}{a b:EI}{g:MG}{r:AI}[sg:vE t a g][sr:Qo u b r]:Qo (Wa t u) (a++b) (qh g r) where
 h:=λ{xs ε ε'} e {_ _ _ _ _ _} rs rr {_} q=>by
  unfold qh at e;split at e
  .obtain ⟨ε1,e1,e2⟩:=tE e;obtain ⟨v,w,rfl,r1,r2⟩:=tz.mp rr;exact ⟨v,w,rfl,sg.h e1 rs r1 λσ1 rs1 b1=>sr.h e2 rs1 r2 λσ2 rs2 b2=>q _ rs2 (b1.trans b2)⟩
  .cases e
instance (priority:=2000){i:Nat}{u:TGs}{b:EI}{r:AI}[sr:Qo u b r]:Qo (Wa (xE i) u) (i::b) (qh (w6 i) r) where
 h:=λe _ _ _ _ _ _ rs rr _ q=>(Fw (t:=xE i) (a:=[i]) (g:=w6 i)).h e rs rr q
def zd (n:Nat)(g:AI):MG:=λx ε=>match x with
 | .tup xs=>if xs.length=n then g xs ε else none
 |_=>none
instance {t:TGs}{g:AI}[sg:Qo t ts g]:vE (gTup K n t) ts (zd n g) where
 h:=λ{x ε ε'} e {_ _ _ _ _ _} rs rr {_} q=>by
  unfold zd at e;split at e
  .split at e
   .rename_i hl;obtain ⟨a,vs,rfl,h,r⟩:=sY.mp rr;exact ⟨a,vs,rfl,sD.of (rs.sub _ _ h),by rw [r.length];exact hl,sg.h e rs r λσ' rs' b=>q _ rs' b⟩
   .cases e
  .cases e
def p9 (i:Nat)(a:M):MS:=λε=>(a ε).bind λx=>some (.nx (ε.set i (.sh x)))
def vI (i:Nat)(a:M):MS:=λε=>(a ε).bind λx=>some (.nx (ε.set i (.ow x)))
instance {i:Nat}[sa:SemE te a]:i0 fr (jw te (xE i)) (p9 i a) where
 h:=λe _ _ _ _ _ rs _ q=>by
  obtain ⟨x,ex,e1⟩:=tE e;cases e1;exact sa.h ex rs λv tG H1 x1 r1=>q _ _ _ ((rs.go x1).put r1)
instance {i:Nat}[sa:xJ te a]:i0 fr (jw te (xE i)) (vI i a) where
 h:=λe _ _ _ _ _ rs _ q=>by
  obtain ⟨x,ex,e1⟩:=tE e;cases e1;refine sa.h ex rs λp tG H1 x1 n n' t=>q _ _ _ ((rs.go x1).putO ⟨rs.ext.s2.free n,n',t⟩ λj y hj z=>?_);obtain ⟨b,hb,_,_,tb⟩:=rs.ow j y hj;rw [z] at hb;injection hb with hb;injection hb with hb;injection hb with hb;subst hb;exact tb.there n
def pIp (g:Int->Int->Int):PV->PV->Option PV
 | .at (.int i),.at (.int j)=>some (.at (.int (g i j)))
 |_,_=>none
def wp (i:Nat)(a:M):MS:=λε=>(a ε).bind λx=>match ε[i]? with
 |some (.ow (.lst xs))=>if xs.length<=lim then some (.nx (ε.set i (.ow (.lst (xs++[x]))))) else none
 |_=>none
instance {i:Nat}[sa:SemE te a]:i0 fr (jx (tBM K "list" Vh (qM i) (qv te qL))) (wp i a) where
 h:=λe _ _ _ _ _ rs _ q=>by
  obtain ⟨x,ex,e1⟩:=tE e;split at e1
  .rename_i xs hi;split at e1
   .rename_i hl;cases e1;obtain ⟨p,hp,n0,n,vs,hv,rv⟩:=rs.ow i _ hi;refine ⟨_,hp,.inl ⟨rfl,vs,sK.of hv⟩,sa.h ex rs λv tG H1 x1 r1=>?_⟩;have hv1:=x1.s2 _ _ hv;refine ⟨p,vs,v,rfl,rfl,hv1,XO (by rw [rv.length];exact hl),q _ _ _ ((rs.go x1).change hi hp ⟨_,u5,(rv.mono x1.s1).append (.one r1)⟩)⟩
   .cases e1
  .cases e1
def dExtend (i:Nat)(a:M):MS:=λε=>(a ε).bind λx=>match x with
 | .lst ys=>(match ε[i]? with
  |some (.ow (.lst xs))=>if xs.length+ys.length<=lim then some (.nx (ε.set i (.ow (.lst (xs++ys))))) else none
  |_=>none)
 |_=>none
structure vC (J:It)(xs:C5)(Hs:Hp):Prop where
 go:∀(i:Nat)(x:PV)(tG H1:Hp),xs[i]?=some x->sL Hs tG->sL tG H1->J.go i H1/\∀ v H2,J.yld i H1 v H2->∃ tF,Ext tG H1 tF H2/\Rep tF x v
 stop:∀(tG H1:Hp),sL Hs tG->sL tG H1->J.stop xs.length H1
class jc (ti:TI)(f:MA):Prop where
 h:∀{ε xs},f ε=some xs->∀{Hs0 H0 Hs H σ},RS Hs0 H0 Hs H σ ε->∀{R:AX},(∀ J Hs' H',Ext Hs H Hs' H'->vC J xs Hs'->R J H')->ti σ H R
def b8 (a:M):MA:=λε=>(a ε).bind λx=>match x with
 | .lst xs=>some xs
 |_=>none
def BN {a:Addr}(h:Hs a=some (.lst vs))(r:sR Hs xs vs):vC (Itl K a) xs Hs where
 go:=λi x tG H1 e g1 g2=>by
  obtain ⟨v,ev,rv⟩:=r.get e;refine ⟨⟨vs,v,sK.of (g2 _ _ (g1 _ _ h)),ev⟩,λw H2 y=>?_⟩;obtain ⟨rfl,y⟩:=y;have z:=y vs (sK.of (g2 _ _ (g1 _ _ h)));rw [ev] at z;cases z;exact ⟨tG,.refl g2,rv.mono g1⟩
 stop:=λtG H1 g1 g2=>⟨vs,sK.of (g2 _ _ (g1 _ _ h)),by rw [r.length];exact yP _⟩
instance [sa:SemE te a]:jc (XJ K te) (b8 a) where
 h:=λe _ _ _ _ _ rs _ q=>by
  obtain ⟨x,ex,e1⟩:=tE e;split at e1
  .cases e1;refine sa.h ex rs λv tG H1 x1 r1=>?_;obtain ⟨p,vs,rfl,hp,r⟩:=tj.mp r1;exact ⟨p,rfl,⟨vs,sK.of (x1.s3 _ _ hp)⟩,q _ _ _ x1 (BN hp r)⟩
  .cases e1
def zK (lo:Int)(n:Nat):C5:=(List.range n).map λ(i:Nat)=> .at (.int (lo+i))
def vY :(zK lo n).length=n:=by unfold zK;rw [yZ,uf]
def Ir {i:Nat}(h:(zK lo n)[i]?=some x):i<n/\x = .at (.int (lo+i)):=by
 have hl:i<n:=by have:=(yK.mp h).1;rw [vY] at this;exact this
 refine ⟨hl,?_⟩;unfold zK at h;rw [yM,List.getElem?_range hl] at h;cases h;rfl
def NV :vC (Itr lo n) (zK lo n) Hs where
 go:=λi x tG H1 e g1 g2=>by
  obtain ⟨hl,rfl⟩:=Ir e;refine ⟨hl,λv H2 y=>?_⟩;obtain ⟨rfl,rfl⟩:=y;exact ⟨tG,.refl g2,tD.mpr rfl⟩
 stop:=λtG H1 g1 g2=>by show n<=_;rw [vY];exact yP _
def zQ (a:MA):MA:=λε=>(a ε).bind λxs=>match xs with
 |[.at (.int j)]=>if -(lim:Int)<=j/\j<=lim then some (zK 0 j.toNat) else none
 |_=>none
instance {a:MA}[sa:xi ta a]:jc (Jx ta) (zQ a) where
 h:=λe _ _ _ _ _ rs _ q=>by
  obtain ⟨xs,ex,e1⟩:=tE e;split at e1
  .rename_i j;split at e1
   .rename_i hl;cases e1;refine sa.h ex rs λvs tG H1 x1 r1=>?_;obtain ⟨v,r,rfl,p1,p2⟩:=tz.mp r1;cases tu.mp p2;cases tD.mp p1;have hlim:(lim:Int)=1000000:=rfl;exact ⟨j,rfl,by omega,by omega,q _ _ _ x1 NV⟩
   .cases e1
  .cases e1
def qH (g:MG)(f:MS):C5->ME->Option Out
 |[],ε=>some (.nx ε)
 |x::xs,ε=>(g x ε).bind λε1=>(f ε1).bind λo=>match o with
  | .nx ε2=>qH g f xs ε2
  | .ct ε2=>qH g f xs ε2
  | .bk ε2=>some (.nx ε2)
  | .rt y=>some (.rt y)
def xY (i:MA)(g:MG)(f:MS):MS:=λε=>(i ε).bind λxs=>qH g f xs ε
def OutK.unbase {D:xy}(x:Ext Hs0 H0 Hb H):∀{o:Out},OutK fr Hs0 H0 D o->OutK fr Hb H0 D o
 | .nx _,h=>λHs H σ r=>h _ _ _ (RS.unbase x r)
 | .bk _,h=>λHs H σ r=>h _ _ _ (RS.unbase x r)
 | .ct _,h=>λHs H σ r=>h _ _ _ (RS.unbase x r)
 | .rt _,h=>by
  cases fr with
  |true=>exact λa Hs H e n n' t=>h a Hs H (x.unbase e) n n' t
  |false=>exact λa Hs H e r=>h a Hs H (x.unbase e) r
instance {tb:TS}{i:MA}{g:MG}{f:MS}[si:jc wi i][sg:vE tg ts g][sf:i0 fr tb f]:i0 fr (tFor wi tg tb) (xY i g f) where
 h:=λe Hs0 H0 _ _ _ rs D q=>by
  obtain ⟨xs,ex,e1⟩:=tE e;refine si.h ex rs λJ tG H1 x1 ok=>?_;have rs1:=rs.go x1;have q1:=OutK.unbase rs1.ext q;refine ⟨λk m σ H=>m=xs.length-k/\k<=xs.length/\∃ Hs ε,RS tG H0 Hs H σ ε/\qH g f (xs.drop k) ε=some _,⟨xs.length,by simp,yd _,tG,_,rs1.rebase,e1⟩,?_⟩;rintro k m σ H ⟨rfl,hk,Hs,ε,r,el⟩;by_cases hlt:k<xs.length
  .have hd:xs.drop k=xs[k]::xs.drop (k+1):=yk hlt;rw [hd] at el;unfold qH at el;obtain ⟨ε1,eg,el1⟩:=tE el;obtain ⟨o,eo,el2⟩:=tE el1;obtain ⟨go,yl⟩:=ok.go k xs[k] Hs H (by simp [hlt]) r.ext.s1 r.ext.s3;refine .inr ⟨go,λσ' H'=>k+1<=xs.length/\∃ Hs ε,RS tG H0 Hs H' σ' ε/\qH g f (xs.drop (k+1)) ε=some _,λσ' H' p=>⟨xs.length-(k+1),by omega,rfl,p.1,p.2⟩,λv H2 y=>?_⟩;obtain ⟨tF,x2,r2⟩:=yl v H2 y;refine sg.h eg (r.go x2) r2 λσ2 rs2 _=>sf.h eo rs2 ?_;cases o with
   |nx ε2=>exact λHs3 H3 σ3 r3=>⟨hlt,Hs3,ε2,r3,el2⟩
   |ct ε2=>exact λHs3 H3 σ3 r3=>⟨hlt,Hs3,ε2,r3,el2⟩
   |bk ε2=>cases el2;exact q1
   |rt y=>cases el2;exact q1
  .have ek:k=xs.length:=by omega
   subst ek;rw [uo] at el;unfold qH at el;cases el;exact .inl ⟨ok.stop Hs H r.ext.s1 r.ext.s3,q1 _ _ _ r⟩
def o6 (tK:C9)(ε:ME):ME:=tK.map λo=>match o with
 |none=> .no
 |some i=>(ε[i]?).getD .no
def qO (g:MG)(c:MB)(f:M)(ε0:ME):C5->Option C5
 |[]=>some []
 |x::xs=>(g x ε0).bind λε1=>(c ε1).bind λb=>if b=true then (f ε1).bind λy=>(qO g c f ε0 xs).bind λys=>some (y::ys) else qO g c f ε0 xs
def c7:MB:=λ_=>some true
instance:qV tYes c7 where
 h:=λe _ _ _ _ _ rs _ q=>by cases e;exact q _ _ (.refl rs.sub)
def zA (tK:C9)(ts:EI):Bool:=decide (tK.filterMap id).Nodup&&ts.all λi=>decide (tK[i]?=some none)
def c6 (tK:C9)(ts:EI)(i:MA)(g:MG)(c:MB)(f:M):M:=λε=>(i ε).bind λxs=>if zA tK ts=true/\xs.length<=lim then (qO g c f (o6 tK ε) xs).bind λys=>some (.lst ys) else none
def RS.tK {tK:C9}(hc:(tK.filterMap id).Nodup)(r:RS Hs0 H0 Hs H σ ε):RS Hs0 H0 Hs H (m9 tK σ) (o6 tK ε):=by
 have inj:∀(i j k:Nat),tK[i]?=some (some k)->tK[j]?=some (some k)->i=j:=by
  clear r
  induction tK with
  |nil=>intro i j k h;simp at h
  |cons o tK ih =>
   intro i j k hi hj;have no:∀(l:Nat),o=some k->tK[l]?=some (some k)->False:=λl ho hl=>by
    subst ho;rw [pc (by rfl)] at hc;exact (yn.mp hc).1 (uK.mpr ⟨some k,yu hl,rfl⟩)
   have hc':(tK.filterMap id).Nodup:=by
    cases o with
    |none=>rwa [List.filterMap_cons_none (by rfl)] at hc
    |some m=>rw [pc (by rfl)] at hc;exact (yn.mp hc).2
   cases i with
   |zero =>
    cases j with
    |zero=>rfl
    |succ j=>exact (no j (by simpa using hi) (by simpa using hj)).elim
   |succ i =>
    cases j with
    |zero=>exact (no i (by simpa using hj) (by simpa using hi)).elim
    |succ j=>rw [ih hc' i j k (by simpa using hi) (by simpa using hj)]
 have at1:∀(i:Nat)(sl:sN),(o6 tK ε)[i]?=some sl->sl = .no∨∃ k,tK[i]?=some (some k)/\ε[k]?=some sl:=by
  intro i sl h;unfold o6 at h;rw [yM] at h;cases ho:tK[i]? with
  |none=>rw [ho] at h;cases h
  |some o =>
   rw [ho] at h;cases o with
   |none=>cases h;exact .inl rfl
   |some k =>
    cases hk:ε[k]? with
    |none=>simp only [ux,hk,tQ] at h;cases h;exact .inl rfl
    |some s=>simp only [ux,hk,oO] at h;cases h;exact .inr ⟨k,rfl,hk⟩
 have at2:∀(i k:Nat),tK[i]?=some (some k)->∀ v,σ[k]?=some (some v)->(m9 tK σ)[i]?=some (some v):=by intro i k h v e;unfold m9;rw [yM,h];simp [e]
 have at3:∀(i k:Nat)(v:V),tK[i]?=some (some k)->(m9 tK σ)[i]?=some (some v)->σ[k]?=some (some v):=by
  intro i k v h e;unfold m9 at e;rw [yM,h] at e;simp only [ux,yD,Option.some.injEq] at e;cases hs:σ[k]? with
  |none=>rw [hs] at e;cases e
  |some o=>rw [hs] at e;simp at e;rw [e]
 refine ⟨r.ext,λi x h=>?_,λi x h=>?_,λi j x y a h1 h2 h3 h4=>?_,by unfold m9 o6;rw [yZ,yZ],λi x h=>?_⟩
 .rcases at1 i _ h with z|⟨k,hk,e⟩
  .cases z
  .obtain ⟨v,hv,rv⟩:=r.sh k x e;exact ⟨v,at2 i k hk v hv,rv⟩
 .rcases at1 i _ h with z|⟨k,hk,e⟩
  .cases z
  .obtain ⟨v,hv,rv⟩:=r.ow k x e;exact ⟨v,at2 i k hk _ hv,rv⟩
 .rcases at1 i _ h1 with z|⟨k,hk,e⟩
  .cases z
  .rcases at1 j _ h2 with z|⟨l,hl,e'⟩
   .cases z
   .have kl:=r.nd k l x y a e e' (at3 i k _ hk h3) (at3 j l _ hl h4);subst kl;exact inj i j k hk hl
 .rcases at1 i _ h with z|⟨k,hk,e⟩
  .cases z
  .obtain ⟨v,hv,rv⟩:=r.bo k x e;exact ⟨v,at2 i k hk _ hv,rv⟩
def sR.snoc (r:sR H xs vs)(p:Rep H x v):sR H (xs++[x]) (vs++[v]):=r.append (.one p)
instance {tt:TT}{tK:C9}{i:MA}{g:MG}{f:M}[si:jc wi i][sg:vE tg ts g][sc:qV tt c][sf:SemE te f]:xJ (Xd wi tg tt te tK) (c6 tK ts i g c f) where
 h:=λe Hs0 H0 Hs H σ rs Q q=>by
  obtain ⟨xs,ex,e1⟩:=tE e;split at e1
  .rename_i hcl;obtain ⟨hcap,hl⟩:=hcl;unfold zA at hcap;rw [yg] at hcap;obtain ⟨ys,ey,e2⟩:=tE e1;cases e2;refine si.h ex rs λJ tG H1 x1 ok=>?_;have rc:=((rs.go x1).tK (uS hcap.1)).rebase;have wk:∀ i∈ts,(m9 tK σ)[i]?=some none:=λi hi=>by
    unfold m9;rw [yM,uS (uY.mp hcap.2 i hi)];rfl
   refine ⟨λk m zs H=>m=xs.length-k/\k<=xs.length/\∃ tF ws,Ext tG H1 tF H/\RS tG H0 tF H (m9 tK σ) (o6 tK _)/\sR tF ws zs/\ws.length<=k/\∃ rest,qO g c f (o6 tK _) (xs.drop k)=some rest/\ys=ws++rest,
    ⟨xs.length,by simp,yd _,tG,[],.refl x1.s3,rc,.nil,yP _,ys,ey,rfl⟩,?_⟩
   rintro k m zs H2 ⟨rfl,hk,tF,ws,x2,r2,rz,hw,rest,er,eys⟩;refine ⟨xL (by rw [rz.length];omega),?_⟩;by_cases hlt:k<xs.length
   .have hd:xs.drop k=xs[k]::xs.drop (k+1):=yk hlt;rw [hd] at er;unfold qO at er;obtain ⟨ε1,eg,er1⟩:=tE er;obtain ⟨b,eb,er2⟩:=tE er1;obtain ⟨go,yl⟩:=ok.go k xs[k] tF H2 (by simp [hlt]) x2.s1 x2.s3;refine .inr ⟨go,λv H3 y=>?_⟩;obtain ⟨Hs3,x3,r3⟩:=yl v H3 y;refine sg.h eg (r2.go x3) r3 λσ2 rs2 bt=>⟨bt.wk wk,sc.h eb rs2 λHs4 H4 x4=>?_⟩;cases b with
    |true =>
     rw [rB rfl] at er2;obtain ⟨z,ez,er3⟩:=tE er2;obtain ⟨rest',er4,er5⟩:=tE er3;cases er5;refine za (sf.h ez (rs2.go x4) λu Hs5 H5 x5 r5=>⟨xs.length-(k+1),by omega,rfl,hlt,Hs5,ws++[z],x2.trans (x3.trans (x4.trans x5)),((r2.go x3).go x4).go x5,?_,?_,rest',er4,?_⟩)
     .exact (rz.mono (x3.s1.trans (x4.s1.trans x5.s1))).snoc r5
     .rw [yV];simp;omega
     .rw [uW];exact eys
    |false=>rw [rq yQ] at er2;exact xZ ⟨xs.length-(k+1),by omega,rfl,hlt,Hs4,ws,x2.trans (x3.trans x4),(r2.go x3).go x4,rz.mono (x3.s1.trans x4.s1),by omega,rest,er2,eys⟩
   .have ek:k=xs.length:=by omega
    subst ek;rw [uo] at er;unfold qO at er;cases er;refine .inl ⟨ok.stop tF H2 x2.s1 x2.s3,λD hD=>?_⟩;rw [yp] at eys;subst eys;have x12:=x1.trans x2;exact q D tF _ (x12.trans (.newO x2.s3 hD)) (x12.s2.free hD) (x2.s3.free hD) ⟨zs,u5,rz⟩
  .cases e1
def p8 (n k:Nat)(f:MS):C5->EA:=λxs=>if xs.length=k then (f (xs.map .sh++List.replicate (n-k) .no)).bind λo=>match o with
 | .rt y=>some y
 | .nx _=>some (.at .non)
 |_=>none else none
def qG (n k:Nat)(f:MS):C5->EA:=λxs=>if xs.length=k then (f (xs.map .sh++List.replicate (n-k) .no)).bind λo=>match o with
 | .rt y=>some y
 |_=>none else none
end Mi
namespace Mi
open PySem PySem.Spec PyProof.Rows L2
variable{P:G3}{w:G5}{K:Fg}{mg:AB}{tM:Heap}{N ps:C7}{qual x:Str}{st:Stmt}{f:Addr}{fd:FuncData}{b:MS}{m:AC}
def zL {Hs H:Hp}{xs:C5}{vs:EB}(s:sL Hs H)(r:sR Hs xs vs):RS Hs H Hs H (L2.start N vs) (xs.map .sh++List.replicate (N.length-xs.length) .no):=by
 have el:=r.length;have at1:∀(i:Nat)(sl:sN),(xs.map sN.sh++List.replicate (N.length-xs.length) .no)[i]?=some sl->sl = .no∨∃ x,xs[i]?=some x/\sl = .sh x:=by
  intro i sl h;by_cases hi:i<xs.length
  .rw [uU (by rw [yZ];exact hi),yM] at h;obtain ⟨x,hx,rfl⟩:=yC.mp h;exact .inr ⟨x,hx,rfl⟩
  .rw [uQ (by rw [yZ];omega),ua] at h;split at h
   .cases h;exact .inl rfl
   .cases h
 refine ⟨.refl s,λi x h=>?_,λi x h=>?_,λi j x y a h1 _ _ _=>?_,?_,λi x h=>?_⟩
 .rcases at1 i _ h with z|⟨y,hy,z⟩
  .cases z
  .cases z;obtain ⟨v,hv,rv⟩:=r.get hy;refine ⟨v,?_,rv⟩;unfold L2.start;rw [uU (by rw [yZ];exact (yK.mp hv).1),yM,hv];rfl
 .rcases at1 i _ h with z|⟨y,hy,z⟩<;>cases z
 .rcases at1 i _ h1 with z|⟨y,hy,z⟩<;>cases z
 .unfold L2.start;rw [yV,yV,yZ,yZ,tT,tT,el]
 .rcases at1 i _ h with z|⟨y,hy,z⟩<;>cases z
def o8 {k:Nat}(F:Fun K x qual st f fd)(S:y8 N ps (j4 st))(hm:m=p8 N.length ps.length b)(hb:∀(tH:G1)(A:G4)(tL:EK)(s:G2)(H:Hp)(E:XK),Room k (A.deeper (envOfC qual (j4 st) s.heap.objs.size f tH)) -> ∃ t,PSs (qy v8 P w K mg tM N qual (j4 st) f tH A tL s H E).nox (qf st) t/\i0 false t b):sQ P w K mg tM v8 (k+1) f fd ps (v7 m):=by
 subst hm;refine F.ok S (λvs H Q E h=>?_) (λtH A tL s H vs Q E hr h=>?_)
 .obtain ⟨Hs,xs,y,_,r,e,_⟩:=h;unfold p8 at e;split at e
  .rename_i hl;rw [r.length];exact hl
  .cases e
 .obtain ⟨Hs,xs,y,sm,r,e,q⟩:=h;obtain ⟨t,ht,sem⟩:=hb tH A tL s H E hr;refine ⟨t,ht,?_⟩;unfold p8 at e;split at e
  .rename_i hl;obtain ⟨o,eo,e1⟩:=tE e;refine sem.h eo (by rw [<- hl];exact zL sm r) ?_;cases o with
   |rt z=>cases e1;exact λv Hs' H' x rv=>q v Hs' H' x rv
   |nx ε=>cases e1;exact λHs' H' σ rs=>q _ Hs' H' rs.ext (tD.mpr rfl)
   |bk ε=>cases e1
   |ct ε=>cases e1
  .cases e
def okO {k:Nat}(F:Fun K x qual st f fd)(S:y8 N ps (j4 st))(hm:m=qG N.length ps.length b)(hb:∀(tH:G1)(A:G4)(tL:EK)(s:G2)(H:Hp)(E:XK),Room k (A.deeper (envOfC qual (j4 st) s.heap.objs.size f tH)) -> ∃ t,PSs (qy v8 P w K mg tM N qual (j4 st) f tH A tL s H E).nox (qf st) t/\i0 true t b):sQ P w K mg tM v8 (k+1) f fd ps (qa m):=by
 subst hm;refine F.ok S (λvs H Q E h=>?_) (λtH A tL s H vs Q E hr h=>?_)
 .obtain ⟨Hs,xs,y,_,r,e,_⟩:=h;unfold qG at e;split at e
  .rename_i hl;rw [r.length];exact hl
  .cases e
 .obtain ⟨Hs,xs,y,sm,r,e,q⟩:=h;obtain ⟨t,ht,sem⟩:=hb tH A tL s H E hr;refine ⟨t,ht,?_⟩;unfold qG at e;split at e
  .rename_i hl;obtain ⟨o,eo,e1⟩:=tE e;refine sem.h eo (by rw [<- hl];exact zL sm r) ?_;cases o with
   |rt z=>cases e1;exact λa Hs' H' x n n' t=>q a Hs' H' x n n' t
   |nx ε=>cases e1
   |bk ε=>cases e1
   |ct ε=>cases e1
  .cases e
end Mi
namespace Mi
open PySem L2
variable{H' Hs':Hp}{P:G3}{w:G5}{mg:AB}{tM:Heap}{ε1:ME}{z:PV}{es:EN}{apos:Pos}{d:MB}{X:Cx}{K:Fg}{ta:TA}{j:Int}{H H0 Hs Hs0:Hp}{xs ys:C5}{x y:PV}{v:V}{td te tv:TE}{vs ws:EB}{l:EH}{u:AO}{o:HO}{f nm qual:Str}{tt:TT}{t tb:TS}{S:EC}{σ σ':St}{ε ε':ME}{n:Nat}{E:XK}{pre:AY}{R:AK}{as:MA}{c:MB}{wi:TI}{tg:TG}{ts:EI}{N ns ps:C7}{st:Stmt}{fd:FuncData}{G:MG}{m:AC}{C:Addr}{e:Expr}{pos:Pos}{kvs:EL}{α:Type}{sp:Sp}
def xq (K:Fg){a:Expr}{ta:TE}(h:X.K=K)(ha:PE X a ta)(he:∀ whole,isTrue a X.rC whole=(do let v <- whole;standAt a.pos;holding [v] (truthy v))):PT X a (tTru K ta):=SR h ha he
abbrev vo:PV->PV->EA:=pI λi j=>some (.int (i-j))
abbrev pLt:PV->PV->EA:=pI λi j=>some (.bl (decide (i<j)))
abbrev pLe:PV->PV->EA:=pI λi j=>some (.bl (decide (i<=j)))
abbrev pGt:PV->PV->EA:=pI λi j=>some (.bl (decide (j<i)))
abbrev pGe:PV->PV->EA:=pI λi j=>some (.bl (decide (j<=i)))
instance {i:Int}:Decidable (Xk i j):=by unfold Xk;infer_instance
instance {i:Int}:Decidable (vB i j):=by unfold vB;infer_instance
abbrev Zl:PV->PV->EA:=pI λi j=>if Xk i j then some (.int (i*j)) else none
abbrev pPow:PV->PV->EA:=pI λi j=>if vB i j then some (.int (i ^ j.toNat)) else none
abbrev Zm:PV->EA:=pU λi=> .int (-i)
def sR.nil_of (r:sR H xs []):xs=[]:=tZ.mp r.length.symm
def b9:PV->PV->Option PV
 | .at (.int i),.at (.int j)=>some (.at (.int (i+j)))
 | .at (.str x),.at (.str y)=>if x.length+y.length<=lim then some (.at (.str (x++y))) else none
 | .lst xs,.lst ys=>if xs.length+ys.length<=lim then some (.lst (xs++ys)) else none
 | .tup xs,.tup ys=>if xs≠[]/\xs.length+ys.length<=lim then some (.tup (xs++ys)) else none
 |_,_=>none
instance :SemR (WY K) b9 where
 h:=λ{x y z} e {Hs H v w} s a b {Q} q=>by
  unfold b9 at e;split at e
  .cases e;exact .inl ⟨_,_,c9 a,c9 b,q _ _ _ (.refl s) (tD.mpr rfl)⟩
  .split at e
   .rename_i hl;cases e;exact .inr (.inl ⟨_,_,c9 a,c9 b,xL hl,q _ _ _ (.refl s) (tD.mpr rfl)⟩)
   .cases e
  .split at e
   .rename_i hl;cases e;obtain ⟨p,vs,rfl,e1,r1⟩:=qj s a;obtain ⟨p',ws,rfl,e2,r2⟩:=qj s b;refine .inr (.inr (.inl ⟨p,p',vs,ws,rfl,rfl,sK.of e1,sK.of e2,xL (by rw [r1.length,r2.length];exact hl),λl hl=>?_⟩));exact q _ _ _ (.new s hl) (tj.mpr ⟨l,_,rfl,u5,(r1.append r2).mono (Ext.new s hl).s1⟩)
   .cases e
  .split at e
   .rename_i hl;cases e;obtain ⟨p,vs,rfl,e1,r1⟩:=xS s a;obtain ⟨p',ws,rfl,e2,r2⟩:=xS s b;have hn:vs≠[]:=λz=>by
     have h1:=r1.length;rw [z] at h1;exact hl.1 (tZ.mp h1.symm)
    refine .inr (.inr (.inr ⟨p,p',vs,ws,rfl,rfl,sD.of e1,sD.of e2,hn,xL (by rw [r1.length,r2.length];exact hl.2),λz=>?_,λz l hl=>?_⟩))
    .subst z;cases r2.nil_of;rw [yp] at q;rcases a with a|⟨_,_,_,t⟩
     .exact q _ _ _ (.refl s) a
     .exact t.elim
    .exact q _ _ _ (.new s hl) (sY.mpr ⟨l,_,rfl,u5,(r1.append r2).mono (Ext.new s hl).s1⟩)
   .cases e
  .cases e
def xn:C5->Option PV
 |[.at (.str x)]=>if x.length<=lim then some (.at (.int x.length)) else none
 |[.lst xs]=>some (.at (.int xs.length))
 |[.tup xs]=>some (.at (.int xs.length))
 |[.dk ks _]=>some (.at (.int ks.length))
 |_=>none
instance :vD (Xa K) xn where
 h:=λ{xs z} e {Hs H vs} s r {Q} q=>by
  unfold xn at e;split at e
  .split at e
   .rename_i hl;cases e;obtain ⟨v,rfl,a⟩:=zv r;cases c9 a;exact .inl ⟨_,_,rfl,⟨xL hl,rfl⟩,q _ _ _ (.refl s) (tD.mpr rfl)⟩
   .cases e
  .cases e;obtain ⟨v,rfl,a⟩:=zv r;obtain ⟨p,ws,rfl,e1,r1⟩:=qj s a;exact .inl ⟨_,_,rfl,.inl ⟨ws,sK.of e1,rfl⟩,q _ _ _ (.refl s) (tD.mpr (by rw [r1.length]))⟩
  .cases e;obtain ⟨v,rfl,a⟩:=zv r;obtain ⟨p,ws,rfl,e1,r1⟩:=xS s a;exact .inl ⟨_,_,rfl,.inr ⟨ws,sD.of e1,rfl⟩,q _ _ _ (.refl s) (tD.mpr (by rw [r1.length]))⟩
  .cases e;obtain ⟨v,rfl,a⟩:=zv r;obtain ⟨p,kvs,rfl,e1,k,r1⟩:=vX s a;exact .inr ⟨p,kvs,rfl,e1,q _ _ _ (.refl s) (tD.mpr (by rw [<- k,yZ]))⟩
  .cases e
def vT:C5->Option PV
 |[.lst xs]=>some (.lst xs)
 |[.tup xs]=>some (.lst xs)
 |_=>none
instance :Vu (Cp K) vT where
 h:=λ{xs z} e {Hs H vs} s r {Q} q=>by
  unfold vT at e;split at e
  .cases e;obtain ⟨v,rfl,a⟩:=zv r;obtain ⟨p,ws,rfl,e1,r1⟩:=qj s a;exact ⟨p,ws,rfl,.inl (sK.of e1),λl hl=>q l _ _ (.newO s hl) hl (s.free hl) ⟨ws,u5,r1⟩⟩
  .cases e;obtain ⟨v,rfl,a⟩:=zv r;obtain ⟨p,ws,rfl,e1,r1⟩:=xS s a;exact ⟨p,ws,rfl,.inr (sD.of e1),λl hl=>q l _ _ (.newO s hl) hl (s.free hl) ⟨ws,u5,r1⟩⟩
  .cases e
def tyP:PV->Option String
 | .at .non=>some "NoneType"
 | .at (.bl _)=>some "bool"
 | .at (.int _)=>some "int"
 | .at (.str _)=>some "str"
 | .lst _=>some "list"
 | .tup _=>some "tuple"
 | .dk _ _=>some "dict"
 |_=>none
def Om {T:String}(s:sL Hs H)(r:sF Hs H x v)(e:tyP x=some T):xW K H v (.type T):=by
 unfold tyP at e;split at e
 .cases e;cases c9 r;exact .non
 .cases e;cases c9 r;exact .bl _
 .cases e;cases c9 r;exact .int _
 .cases e;cases c9 r;exact .str _
 .cases e;obtain ⟨p,ws,rfl,e1,r1⟩:=qj s r;exact .lst e1
 .cases e;obtain ⟨p,ws,rfl,e1,r1⟩:=xS s r;exact .tup e1
 .cases e;obtain ⟨p,ws,rfl,e1,_⟩:=vX s r;exact .dK e1
 .cases e
def qJ:C5->Option PV
 |[x,.at (.ty n)]=>(tyP x).bind λT=>(tyB T n).bind λb=>some (.at (.bl b))
 |_=>none
instance :vD (rIsi K) qJ where
 h:=λ{xs z} e {Hs H vs} s r {Q} q=>by
  unfold qJ at e;split at e
  .obtain ⟨T,eT,e1⟩:=tE e;obtain ⟨b,eb,e2⟩:=tE e1;cases e2;obtain ⟨v,w,rfl,a,c⟩:=CK r;cases c9 c;exact ⟨v,_,T,b,rfl,Om s a eT,eb,q _ _ _ (.refl s) (tD.mpr rfl)⟩
  .cases e
def bls:C5->Option F9
 |[]=>some []
 | .at (.bl b)::xs=>(bls xs).map (b::·)
 |_::_=>none
theorem KC:∀{xs:C5}{bs:F9},bls xs=some bs->xs=bs.map λb=> .at (.bl b)
 |[],_,h=>by cases h;rfl
 |x::xs,bs,h=>by
  unfold bls at h;split at h
  .rename_i heq;cases heq
  .rename_i b ys heq;injection heq with h1 h2;obtain ⟨r,e,rfl⟩:=yC.mp h;subst h2;rw [h1,yH,KC e]
  .cases h
def jg:C5->Option EH
 |[]=>some []
 | .at (.int b)::xs=>(jg xs).map (b::·)
 |_::_=>none
theorem Jz:∀{xs:C5}{bs:EH},jg xs=some bs->xs=bs.map λb=> .at (.int b)
 |[],_,h=>by cases h;rfl
 |x::xs,bs,h=>by
  unfold jg at h;split at h
  .rename_i heq;cases heq
  .rename_i b ys heq;injection heq with h1 h2;obtain ⟨r,e,rfl⟩:=yC.mp h;subst h2;rw [h1,yH,Jz e]
  .cases h
def zf:C5->Option PV
 |[.lst xs]=>(bls xs).bind λbs=>some (.at (.bl (bs.all id)))
 |_=>none
instance :vD (Cj K) zf where
 h:=λ{xs z} e {Hs H vs} s r {Q} q=>by
  unfold zf at e;split at e
  .obtain ⟨bs,eb,e1⟩:=tE e;cases e1;obtain ⟨v,rfl,a⟩:=zv r;obtain ⟨p,ws,rfl,e1,r1⟩:=qj s a;rw [KC eb,show (bs.map λb=>PV.at (.bl b))=(bs.map V.bl).map .at by rw [yv];rfl] at r1;cases r1.ats;exact ⟨p,bs,rfl,sK.of e1,q _ _ _ (.refl s) (tD.mpr rfl)⟩
  .cases e
def pSum:C5->Option PV
 |[.lst xs]=>(jg xs).bind λbs=>some (.at (.int bs.sum))
 |_=>none
instance :vD (Cv K) pSum where
 h:=λ{xs z} e {Hs H vs} s r {Q} q=>by
  unfold pSum at e;split at e
  .obtain ⟨bs,eb,e1⟩:=tE e;cases e1;obtain ⟨v,rfl,a⟩:=zv r;obtain ⟨p,ws,rfl,e1,r1⟩:=qj s a;rw [Jz eb,show (bs.map λb=>PV.at (.int b))=(bs.map V.int).map .at by rw [yv];rfl] at r1;cases r1.ats;exact ⟨p,bs,rfl,sK.of e1,q _ _ _ (.refl s) (tD.mpr rfl)⟩
  .cases e
def wx:PV->Bool
 | .at .non=>true
 |_=>false
def XL:PV->Bool
 | .op _=>true
 |_=>false
def QT:PV->PV->EA:=λx y=>if wx y=true/\XL x=false then some (.at (.bl (wx x))) else none
def wM:PV->PV->EA:=λx y=>if wx y=true/\XL x=false then some (.at (.bl (!wx x))) else none
def JB (s:sL Hs H)(r:sF Hs H x v)(ho:XL x=false):decide (v = .non)=wx x:=by
 cases x with
 |«at» u=>cases c9 r;cases v<;>first|rfl|(exact yA (λz=>nomatch z))
 |tup xs=>obtain ⟨p,ws,rfl,_⟩:=xS s r;exact yA (λz=>nomatch z)
 |lst xs=>obtain ⟨p,ws,rfl,_⟩:=qj s r;exact yA (λz=>nomatch z)
 |dk ks xs=>obtain ⟨p,ws,rfl,_⟩:=vX s r;exact yA (λz=>nomatch z)
 |fk ks xs=>obtain ⟨p,o,ws,rfl,_⟩:=Zy s r;exact yA (λz=>nomatch z)
 |ob C ns xs=>obtain ⟨p,dx,ws,rfl,_⟩:=CJ s r;exact yA (λz=>nomatch z)
 |op φ=>cases ho
instance:SemR rIsN QT where
 h:=λ{x y z} e {Hs H v w} s a b {Q} q=>by
  unfold QT at e;split at e
  .rename_i hy;cases e;have hb:XL y=false:=by cases y<;>first|rfl|(exact rp hy.1 (by simp [wx]))
   refine ⟨uS ((JB s b hb).trans hy.1),?_⟩;rw [JB s a hy.2];exact q _ _ _ (.refl s) (tD.mpr rfl)
  .cases e
instance:SemR Cr wM where
 h:=λ{x y z} e {Hs H v w} s a b {Q} q=>by
  unfold wM at e;split at e
  .rename_i hy;cases e;have hb:XL y=false:=by cases y<;>first|rfl|(exact rp hy.1 (by simp [wx]))
   refine ⟨uS ((JB s b hb).trans hy.1),?_⟩;rw [JB s a hy.2];exact q _ _ _ (.refl s) (tD.mpr rfl)
  .cases e
def jr (f:PV->PV->Option Bool):C5->C5->Option Bool
 |x::xs,y::ys=>(f x y).bind λa=>(jr f xs ys).bind λb=>some (a&&b)
 |_,_=>some true
def peq0:PV->PV->Option Bool
 | .at u,.at v=>if p5 u=true/\p5 v=true then some (ql u v) else none
 |_,_=>none
def peq1 (f:PV->PV->Option Bool):PV->PV->Option Bool
 | .at u,.at v=>if p5 u=true/\p5 v=true then some (ql u v) else none
 | .lst xs,.lst ys=>if xs.length=ys.length then jr f xs ys else some false
 | .tup xs,.tup ys=>(jr f xs ys).bind λb=>some (b&&xs.length==ys.length)
 | .lst _,.tup _=>some false
 | .tup _,.lst _=>some false
 | .at u,.lst _=>if p5 u=true then some false else none
 | .at u,.tup _=>if p5 u=true then some false else none
 | .lst _,.at u=>if p5 u=true then some false else none
 | .tup _,.at u=>if p5 u=true then some false else none
 |_,_=>none
def peq:Nat->PV->PV->Option Bool
 |0=>peq0
 |n+1=>peq1 (peq n)
theorem WM {K:Fg}{Hs H:Hp}{n:Nat}(s:sL Hs H)(ih:∀{x y:PV}{v w:V}{b:Bool},peq n x y=some b->Rep Hs x v->Rep Hs y w->EqP K H n v w b):∀{xs ys:C5}{vs ws:EB}{b:Bool},jr (peq n) xs ys=some b->sR Hs xs vs->sR Hs ys ws->∃ e:Nat->Bool,(∀ j (h1:j<vs.length) (h2:j<ws.length),EqP K H n vs[j] ws[j] (e j))/\b=(List.range (min vs.length ws.length)).all e
 |[],ys,vs,ws,b,h,r1,r2=>by
  cases tu.mp r1;unfold jr at h;cases h;exact ⟨λ_=>true,λj h1=>rp h1 (Nat.not_lt_zero _),by simp⟩
 |x::xs,[],vs,ws,b,h,r1,r2=>by
  cases tu.mp r2;unfold jr at h;cases h;exact ⟨λ_=>true,λj h1 h2=>rp h2 (Nat.not_lt_zero _),by simp⟩
 |x::xs,y::ys,vs,ws,b,h,r1,r2=>by
  obtain ⟨v,vr,rfl,p1,q1⟩:=tz.mp r1;obtain ⟨w,wr,rfl,p2,q2⟩:=tz.mp r2;unfold jr at h;obtain ⟨a,ea,h1⟩:=tE h;obtain ⟨c,ec,h2⟩:=tE h1;cases h2;obtain ⟨e,he,hb⟩:=WM s ih ec q1 q2;refine ⟨λj=>match j with|0=>a|j+1=>e j,λj h1 h2=>?_,?_⟩
  .cases j with
   |zero=>exact ih ea p1 p2
   |succ j=>exact he j (by simpa using h1) (by simpa using h2)
  .rw [yJ,yJ,Nat.succ_min_succ,List.range_succ_eq_map,List.all_cons,List.all_map,hb];rfl
theorem WL {K:Fg}{Hs H:Hp}(s:sL Hs H):∀(n:Nat){x y:PV}{v w:V}{b:Bool},peq n x y=some b->sF Hs H x v->sF Hs H y w->EqP K H n v w b
 |0,x,y,v,w,b,h,r1,r2=>by
  unfold peq peq0 at h;split at h
  .split at h
   .rename_i hf;cases h;cases c9 r1;cases c9 r2;exact ⟨hf.1,hf.2,rfl⟩
   .cases h
  .cases h
 |n+1,x,y,v,w,b,h,r1,r2=>by
  have ih:∀{x y:PV}{v w:V}{b:Bool},peq n x y=some b->Rep Hs x v->Rep Hs y w->EqP K H n v w b:=λh r1 r2=>WL s n h (.inl r1) (.inl r2);unfold peq peq1 at h;split at h
  .split at h
   .rename_i hf;cases h;cases c9 r1;cases c9 r2;exact .inl ⟨hf.1,hf.2,rfl⟩
   .cases h
  .obtain ⟨a,vs,rfl,e1,q1⟩:=qj s r1;obtain ⟨c,ws,rfl,e2,q2⟩:=qj s r2;refine .inr (.inl ⟨a,c,vs,ws,rfl,rfl,sK.of e1,sK.of e2,?_⟩);split at h
   .rename_i hl;obtain ⟨e,he,hb⟩:=WM s ih h q1 q2;have hl':vs.length=ws.length:=by rw [q1.length,q2.length,hl]
    exact .inr ⟨hl',e,he,by rw [hb,<- hl',Nat.min_self]⟩
   .rename_i hl;cases h;exact .inl ⟨by rw [q1.length,q2.length];exact hl,rfl⟩
  .obtain ⟨a,vs,rfl,e1,q1⟩:=xS s r1;obtain ⟨c,ws,rfl,e2,q2⟩:=xS s r2;obtain ⟨d,ed,h1⟩:=tE h;cases h1;obtain ⟨e,he,hb⟩:=WM s ih ed q1 q2;exact .inr (.inr (.inl ⟨a,c,vs,ws,rfl,rfl,sD.of e1,sD.of e2,e,he,by rw [hb,q1.length,q2.length]⟩))
  .cases h;obtain ⟨a,vs,rfl,e1,q1⟩:=qj s r1;obtain ⟨c,ws,rfl,e2,q2⟩:=xS s r2;exact .inr (.inr (.inr (.inl ⟨a,c,vs,ws,rfl,rfl,sK.of e1,sD.of e2,rfl⟩)))
  .cases h;obtain ⟨a,vs,rfl,e1,q1⟩:=xS s r1;obtain ⟨c,ws,rfl,e2,q2⟩:=qj s r2;exact .inr (.inr (.inr (.inr (.inl ⟨a,c,vs,ws,rfl,rfl,sD.of e1,sK.of e2,rfl⟩))))
  .split at h
   .rename_i hf;cases h;cases c9 r1;obtain ⟨c,ws,rfl,e2,q2⟩:=qj s r2;exact .inr (.inr (.inr (.inr (.inr (.inl ⟨c,ws,hf,rfl,.inl (sK.of e2),rfl⟩)))))
   .cases h
  .split at h
   .rename_i hf;cases h;cases c9 r1;obtain ⟨c,ws,rfl,e2,q2⟩:=xS s r2;exact .inr (.inr (.inr (.inr (.inr (.inl ⟨c,ws,hf,rfl,.inr (sD.of e2),rfl⟩)))))
   .cases h
  .split at h
   .rename_i hf;cases h;cases c9 r2;obtain ⟨c,ws,rfl,e2,q2⟩:=qj s r1;exact .inr (.inr (.inr (.inr (.inr (.inr ⟨c,ws,hf,rfl,.inl (sK.of e2),rfl⟩)))))
   .cases h
  .split at h
   .rename_i hf;cases h;cases c9 r2;obtain ⟨c,ws,rfl,e2,q2⟩:=xS s r1;exact .inr (.inr (.inr (.inr (.inr (.inr ⟨c,ws,hf,rfl,.inr (sD.of e2),rfl⟩)))))
   .cases h
  .cases h
def i5:PV->PV->EA:=λx y=>(peq 6 x y).bind λb=>some (.at (.bl b))
def pNe:PV->PV->EA:=λx y=>(peq 6 x y).bind λb=>some (.at (.bl (!b)))
instance :SemR (rEqD K 6 false) i5 where
 h:=λ{x y z} e {Hs H v w} s a b {Q} q=>by
  obtain ⟨c,ec,e1⟩:=tE e;cases e1;exact ⟨c,WL s 6 ec a b,q _ _ _ (.refl s) (tD.mpr rfl)⟩
instance :SemR (rEqD K 6 true) pNe where
 h:=λ{x y z} e {Hs H v w} s a b {Q} q=>by
  obtain ⟨c,ec,e1⟩:=tE e;cases e1;exact ⟨c,WL s 6 ec a b,q _ _ _ (.refl s) (tD.mpr rfl)⟩
class SemP (to:TO)(f:AO):Prop where
 h:∀{ε y},f ε=some y->∀{Hs0 H0 Hs H σ},RS Hs0 H0 Hs H σ ε->∀{Q:EV->Hp->Prop},(∀ Hs' H',Ext Hs H Hs' H'->Q y H')->to σ H Q
def qX:ME->Option (Option Int):=λ_=>some none
def pInt:PV->Option Int
 | .at (.int i)=>some i
 |_=>none
def qp (a:M):ME->Option (Option Int):=λε=>(a ε).bind λx=>(pInt x).bind λi=>some (some i)
instance:SemP Do qX where
 h:=λe _ _ _ _ _ rs _ q=>by cases e;exact q _ _ (.refl rs.sub)
instance {a:M}[sa:qd te a]:SemP (Dq te) (qp a) where
 h:=λe _ _ _ _ _ rs _ q=>by
  obtain ⟨x,ex,e1⟩:=tE e;obtain ⟨i,ei,e2⟩:=tE e1;cases e2;unfold pInt at ei;split at ei
  .cases ei;exact sa.h ex rs λv tG H1 x1 r1=>⟨_,c9 r1,q _ _ x1⟩
  .cases ei
def jd (xs:C5)(lo hi:EV):C5:=(xs.drop (HT.sIx xs.length 0 lo)).take (HT.sIx xs.length xs.length hi-HT.sIx xs.length 0 lo)
def sR.cut (r:sR H xs vs)(lo hi:EV):sR H (jd xs lo hi) (Qs vs lo hi):=by unfold jd Qs;rw [r.length];exact (r.drop _).take _
def qA (a:M)(l u:AO):M:=λε=>(a ε).bind λx=>(l ε).bind λlo=>(u ε).bind λhi=>match x with
 | .lst xs=>some (.lst (jd xs lo hi))
 |_=>none
instance {tl th:TO}{a:M}{l:AO}[sa:qd te a][sl:SemP tl l][su:SemP th u]:xJ (tSl (rSlL K) te tl th) (qA a l u) where
 h:=λe _ _ _ _ _ rs _ q=>by
  obtain ⟨x,ex,e1⟩:=tE e;obtain ⟨lo,el,e2⟩:=tE e1;obtain ⟨hi,eu,e3⟩:=tE e2;split at e3
  .cases e3;refine sa.h ex rs λv tG H1 x1 r1=>sl.h el (rs.go x1) λtF H2 x2=>su.h eu ((rs.go x1).go x2) λHs3 H3 x3=>?_;obtain ⟨p,vs,rfl,e1,r⟩:=qj x3.s3 ((r1.ext x2).ext x3);have x13:=x1.trans (x2.trans x3);exact ⟨p,vs,rfl,sK.of e1,λd hd=>q d _ _ (x13.trans (.newO x3.s3 hd)) (x13.s2.free hd) (x3.s3.free hd) ⟨_,u5,r.cut lo hi⟩⟩
  .cases e3
def qW (n:Nat):C5->List PV
 |[]=>[]
 |x::xs=> .tup [.at (.int n),x]::qW (n+1) xs
theorem Bl:∀{xs:C5}{n i:Nat}{z:PV},(qW n xs)[i]?=some z->∃ x,xs[i]?=some x/\z = .tup [.at (.int ((n+i:Nat):Int)),x]
 |[],n,i,z,h=>by simp [qW] at h
 |x::xs,n,0,z,h=>by simp [qW] at h;exact ⟨x,rfl,h.symm⟩
 |x::xs,n,i+1,z,h=>by
  obtain ⟨y,h1,h2⟩:=Bl (xs:=xs) (n:=n+1) (i:=i) (z:=z) (by simpa [qW] using h);exact ⟨y,by simpa using h1,by rw [h2,show n+1+i=n+(i+1) by omega]⟩
theorem Bm:∀{xs:C5}{n:Nat},(qW n xs).length=xs.length
 |[],_=>rfl
 |x::xs,n=>by simp [qW,Bm]
def NT {a:Addr}(h:Hs a=some (.lst vs))(r:sR Hs xs vs):vC (Ite K a) (qW 0 xs) Hs where
 go:=λi x tG H1 e g1 g2=>by
  obtain ⟨y,ey,rfl⟩:=Bl e;obtain ⟨v,ev,rv⟩:=r.get ey;refine ⟨⟨vs,v,sK.of (g2 _ _ (g1 _ _ h)),ev⟩,λw H2 z=>?_⟩;obtain ⟨p,u,hp,rfl,rfl,hu⟩:=z;have e1:=hu vs (sK.of (g2 _ _ (g1 _ _ h)));rw [ev] at e1;cases e1;refine ⟨_,.new g2 hp,sY.mpr ⟨p,_,rfl,u5,.cons (tD.mpr (by rw [Nat.zero_add])) (.one (rv.mono (g1.trans (Ext.new g2 hp).s1)))⟩⟩
 stop:=λtG H1 g1 g2=>⟨vs,sK.of (g2 _ _ (g1 _ _ h)),by rw [r.length,Bm];exact yP _⟩
def jE (a:MA):MA:=λε=>(a ε).bind λxs=>match xs with
 |[.lst ys]=>some (qW 0 ys)
 |_=>none
instance {a:MA}[sa:xi ta a]:jc (Wd K ta) (jE a) where
 h:=λe _ _ _ _ _ rs _ q=>by
  obtain ⟨xs,ex,e1⟩:=tE e;split at e1
  .cases e1;refine sa.h ex rs λvs tG H1 x1 r1=>?_;obtain ⟨v,r,rfl,p1,p2⟩:=tz.mp r1;cases tu.mp p2;obtain ⟨p,ws,rfl,hp,rw⟩:=tj.mp p1;exact ⟨p,rfl,⟨ws,sK.of (x1.s3 _ _ hp)⟩,q _ _ _ x1 (NT hp rw)⟩
  .cases e1
def qE:C5->C5->List PV
 |x::xs,y::ys=> .tup [x,y]::qE xs ys
 |_,_=>[]
theorem Mf:∀{xs ys:C5}{i:Nat}{z:PV},(qE xs ys)[i]?=some z->∃ x y,xs[i]?=some x/\ys[i]?=some y/\z = .tup [x,y]
 |[],_,i,z,h=>by simp [qE] at h
 |_::_,[],i,z,h=>by simp [qE] at h
 |x::xs,y::ys,0,z,h=>by simp [qE] at h;exact ⟨x,y,rfl,rfl,h.symm⟩
 |x::xs,y::ys,i+1,z,h=>by
  obtain ⟨u,v,h1,h2,h3⟩:=Mf (xs:=xs) (ys:=ys) (i:=i) (z:=z) (by simpa [qE] using h);exact ⟨u,v,by simpa using h1,by simpa using h2,h3⟩
theorem Mg:∀{xs ys:C5},(qE xs ys).length=min xs.length ys.length
 |[],_=>by simp [qE]
 |_::_,[]=>by simp [qE]
 |x::xs,y::ys=>by simp [qE,Mg,Nat.succ_min_succ]
def NY {a b:Addr}(h:Hs a=some (.lst vs))(r:sR Hs xs vs)(h':Hs b=some (.lst ws))(r':sR Hs ys ws):vC (Itz K a b) (qE xs ys) Hs where
 go:=λi x tG H1 e g1 g2=>by
  obtain ⟨y,z,ey,ez,rfl⟩:=Mf e;obtain ⟨v,ev,rv⟩:=r.get ey;obtain ⟨w,ew,rw⟩:=r'.get ez;have q1:sK K H1 a vs:=sK.of (g2 _ _ (g1 _ _ h));have q2:sK K H1 b ws:=sK.of (g2 _ _ (g1 _ _ h'));refine ⟨⟨vs,ws,v,w,q1,q2,ev,ew⟩,λu H2 z=>?_⟩;obtain ⟨p,v',w',hp,rfl,rfl,hv,hw⟩:=z;have e1:=hv vs q1;have e2:=hw ws q2;rw [ev] at e1;rw [ew] at e2;cases e1;cases e2;have g3:=g1.trans (Ext.new (o:= .tup [v,w]) g2 hp).s1;exact ⟨_,.new g2 hp,sY.mpr ⟨p,_,rfl,u5,.cons (rv.mono g3) (.one (rw.mono g3))⟩⟩
 stop:=λtG H1 g1 g2=>⟨vs,ws,sK.of (g2 _ _ (g1 _ _ h)),sK.of (g2 _ _ (g1 _ _ h')),by rw [r.length,r'.length,Mg];omega⟩
def vK (a:MA):MA:=λε=>(a ε).bind λxs=>match xs with
 |[.lst ys,.lst zs]=>some (qE ys zs)
 |_=>none
instance {a:MA}[sa:xi ta a]:jc (iZip K ta) (vK a) where
 h:=λe _ _ _ _ _ rs _ q=>by
  obtain ⟨xs,ex,e1⟩:=tE e;split at e1
  .cases e1;refine sa.h ex rs λvs tG H1 x1 r1=>?_;obtain ⟨v,r,rfl,p1,p2⟩:=tz.mp r1;obtain ⟨v',r',rfl,p3,p4⟩:=tz.mp p2;cases tu.mp p4;obtain ⟨p,ws,rfl,hp,rw1⟩:=tj.mp p1;obtain ⟨p',ws',rfl,hp',rw2⟩:=tj.mp p3;exact ⟨p,p',rfl,⟨ws,sK.of (x1.s3 _ _ hp)⟩,⟨ws',sK.of (x1.s3 _ _ hp')⟩,q _ _ _ x1 (NY hp rw1 hp' rw2)⟩
  .cases e1
structure RD (S:EC)(Hs0 H0 Hs H:Hp)(σ:St)(ε:ME):Prop where
 s1:sL Hs0 Hs
 s2:∀ b o,H0 b=some o->b∉S->H b=some o
 s3:sL Hs H
 s4:∀ b,H0 b≠none->Hs0 b=none->Hs b=none
 sh:∀(i:Nat)(x:PV),ε[i]?=some (.sh x)->∃ v,σ[i]?=some (some v)/\Rep Hs x v
 ow:∀(i:Nat)(x:PV),ε[i]?=some (.ow x)->∃ a,σ[i]?=some (some (.ref a))/\(H0 a=none∨a∈S)/\Hs a=none/\Top Hs H a x
 nd:∀(i j:Nat)(x y:PV)(a:Addr),ε[i]?=some (.ow x)->ε[j]?=some (.ow y)->σ[i]?=some (some (.ref a))->σ[j]?=some (some (.ref a))->i=j
 len:σ.length=ε.length
 pin:∀ a∈S,σ[0]?=some (some (.ref a))
 live:∀ a∈S,H a≠none
 str:∀ a∈S,∃ y,ε[0]?=some (.ow y)
 nb:∀(i:Nat)(x:PV),ε[i]?≠some (.bo x)
def RD.rs (r:RD S Hs0 H0 Hs H σ ε):RS Hs Hs Hs H σ ε where
 ext:=⟨.refl _,r.s3,r.s3,λ_ h z=>rp z h⟩
 sh:=r.sh
 ow:=λi x h=>by obtain ⟨a,h1,_,h3,h4⟩:=r.ow i x h;exact ⟨a,h1,h3,h3,h4⟩
 nd:=r.nd
 len:=r.len
 bo:=λi x h=>rp h (r.nb i x)
def RD.there (r:RD S Hs0 H0 Hs H σ ε){b:Addr}(h:H0 b≠none):H b≠none:=by
 by_cases hS:b∈S
 .exact r.live b hS
 .cases q:H0 b with
  |none=>exact rp q h
  |some o=>rw [r.s2 b o q hS];exact λz=>nomatch z
def RD.go (r:RD S Hs0 H0 Hs H σ ε)(e:Ext Hs H Hs' H'):RD S Hs0 H0 Hs' H' σ ε where
 s1:=r.s1.trans e.s1
 s2:=λb o h n=>e.s2 _ _ (r.s2 b o h n)
 s3:=e.s3
 s4:=λb h z=>e.s4 b (r.there h) (r.s4 b h z)
 sh:=λi x q=>by obtain ⟨v,a,b⟩:=r.sh i x q;exact ⟨v,a,b.mono e.s1⟩
 ow:=λi x q=>by
  obtain ⟨a,b,n0,n,t⟩:=r.ow i x q;exact ⟨a,b,n0,e.s4 a t.there n,t.mono e.s1 λo z=>e.s2 _ _ z⟩
 nd:=r.nd
 len:=r.len
 pin:=r.pin
 live:=λa h=>Uw e.s2 (r.live a h)
 str:=r.str
 nb:=r.nb
def RD.change (r:RD S Hs0 H0 Hs H σ ε){i:Nat}{a:Addr}(hi:ε[i]?=some (.ow x))(ha:σ[i]?=some (some (.ref a)))(t:Top Hs (z9 H a o) a y):RD S Hs0 H0 Hs (z9 H a o) σ (ε.set i (.ow y)):=by
 obtain ⟨b,hb,n0,n,tx⟩:=r.ow i x hi;rw [ha] at hb;injection hb with hb;injection hb with hb;injection hb with hb;subst hb;have q:=(r.rs).change hi ha t;refine ⟨r.s1,λb u e hS=>?_,λb u e=>?_,r.s4,q.sh,λj z hz=>?_,q.nd,q.len,r.pin,λb hS=>?_,λb hS=>?_,QN r.nb λ_ z=>nomatch z⟩
 .have hne:b≠a:=λz=>by
   rcases n0 with n0|n0
   ·rw [z,n0] at e;cases e
   ·exact hS (z▸n0)
  rw [j3 hne];exact r.s2 b u e hS
 .rw [j3 (k9 e n)];exact r.s3 _ _ e
 .obtain ⟨c,hc,m1,m2,tc⟩:=q.ow j z hz;refine ⟨c,hc,?_,m2,tc⟩;rw [yr] at hz;split at hz
  .rename_i hij;rw [<- hij,ha] at hc;injection hc with hc;injection hc with hc;injection hc with hc;rw [<- hc];exact n0
  .obtain ⟨d,hd,m0,_⟩:=r.ow j z hz;rw [hd] at hc;injection hc with hc;injection hc with hc;injection hc with hc;rw [<- hc];exact m0
 .by_cases hba:b=a
  .rw [hba,u5];exact λz=>nomatch z
  .rw [j3 hba];exact r.live b hS
 .obtain ⟨y',hy⟩:=r.str b hS;rw [yr];split
  .rename_i h0;rw [rB (by rw [h0];exact (yK.mp hy).1)];exact ⟨y,rfl⟩
  .exact ⟨y',hy⟩
def RD.put (r:RD S Hs0 H0 Hs H σ ε){i:Nat}(h:Rep Hs x v):RD S Hs0 H0 Hs H (σ.set (i+1) (some v)) (ε.set (i+1) (.sh x)):=by
 have q:=(r.rs).put (i:=i+1) h;refine ⟨r.s1,r.s2,r.s3,r.s4,q.sh,λj z hz=>?_,q.nd,q.len,λa hS=>by rw [yh (by omega)];exact r.pin a hS,r.live,λa hS=>by rw [yh (by omega)];exact r.str a hS,QN r.nb λ_ z=>nomatch z⟩;obtain ⟨c,hc,m1,m2,tc⟩:=q.ow j z hz;refine ⟨c,hc,?_,m2,tc⟩;rw [yr] at hz hc;split at hz
 .split at hz<;>cases hz
 .rename_i hij;rw [rq hij] at hc;obtain ⟨d,hd,m0,_⟩:=r.ow j z hz;rw [hd] at hc;injection hc with hc;injection hc with hc;injection hc with hc;rw [<- hc];exact m0
def RD.putO (r:RD S Hs0 H0 Hs H σ ε){i:Nat}{a:Addr}(h0:H0 a=none∨a∈S)(h1:Hs a=none)(h2:Top Hs H a x)(ne:∀(j:Nat)(y:PV),ε[j]?=some (.ow y)->σ[j]?≠some (some (.ref a))):RD S Hs0 H0 Hs H (σ.set (i+1) (some (.ref a))) (ε.set (i+1) (.ow x)):=by
 have q:=(r.rs).putO (i:=i+1) ⟨h1,h1,h2⟩ ne;refine ⟨r.s1,r.s2,r.s3,r.s4,q.sh,λj z hz=>?_,q.nd,q.len,λa hS=>by rw [yh (by omega)];exact r.pin a hS,r.live,λa hS=>by rw [yh (by omega)];exact r.str a hS,QN r.nb λ_ z=>nomatch z⟩;obtain ⟨c,hc,m1,m2,tc⟩:=q.ow j z hz;refine ⟨c,hc,?_,m2,tc⟩;rw [yr] at hz hc;split at hz
 .rename_i hij;rw [rB hij] at hc;split at hc
  .injection hc with hc;injection hc with hc;injection hc with hc;rw [<- hc];exact h0
  .cases hc
 .rename_i hij;rw [rq hij] at hc;obtain ⟨d,hd,m0,_⟩:=r.ow j z hz;rw [hd] at hc;injection hc with hc;injection hc with hc;injection hc with hc;rw [<- hc];exact m0
def RD.free0 (r:RD S Hs0 H0 Hs H σ ε){a:Addr}(h:H a=none):H0 a=none:=by
 cases q:H0 a with
 |none=>rfl
 |some o=>exact rp h (r.there (by rw [q];exact λz=>nomatch z))
def RD.freeze (r:RD S Hs0 H0 Hs H σ ε)(i:Nat):∃ Hs',sL Hs Hs'/\RD S Hs0 H0 Hs' H σ (fz (i+1) ε):=by
 by_cases h:∃ x,ε[i+1]?=some (.ow x)
 .obtain ⟨x,hi⟩:=h;obtain ⟨a,ha,n0,n,t⟩:=r.ow (i+1) x hi;have hS:a∉S:=λhS=>by
   obtain ⟨y,hy⟩:=r.str a hS;exact rp (r.nd 0 (i+1) y x a hy hi (r.pin a hS) ha) (by omega)
  obtain ⟨o,ho,hr⟩:=t.rep n;have g:sL Hs (z9 Hs a o):=λb u e=>by rw [j3 (k9 e n)];exact e
  have ef:fz (i+1) ε=ε.set (i+1) (.sh x):=by unfold fz;rw [hi]
  have n0':H0 a=none:=n0.resolve_right hS;rw [ef];have dn:∀(j:Nat)(y:PV),(ε.set (i+1) (.sh x))[j]?=some (.ow y)->i+1≠j/\ε[j]?=some (.ow y):=λj y q=>by
   rw [yr] at q;split at q
   .split at q<;>cases q
   .rename_i hij;exact ⟨hij,q⟩
  refine ⟨z9 Hs a o,g,r.s1.trans g,r.s2,λb u e=>?_,λb h z=>?_,λj y q=>?_,λj y q=>?_,λj k z z' c h1 h2 h3 h4=>r.nd j k z z' c (dn j z h1).2 (dn k z' h2).2 h3 h4,by rw [yc,r.len],r.pin,r.live,(λb hb=>by rw [yh (by omega)];exact r.str b hb),QN r.nb λ_ z=>nomatch z⟩
  .by_cases hb:b=a
   .subst hb;rw [u5] at e;cases e;exact ho
   .rw [j3 hb] at e;exact r.s3 _ _ e
  .have hb:b≠a:=λe=>h (e▸n0');rw [j3 hb];exact r.s4 b h z
  .rw [yr] at q;split at q
   .rename_i hij;split at q
    .injection q with q;injection q with q;subst q;exact ⟨.ref a,hij▸ha,hr⟩
    .cases q
   .obtain ⟨v,e,w⟩:=r.sh j y q;exact ⟨v,e,w.mono g⟩
  .obtain ⟨hij,hq⟩:=dn j y q;obtain ⟨c,hc,m0,m,tc⟩:=r.ow j y hq;have hne:c≠a:=λe=>hij (r.nd (i+1) j x y a hi hq ha (e▸hc));exact ⟨c,hc,m0,by rw [j3 hne];exact m,tc.mono g λ_ e=>e⟩
 .refine ⟨Hs,.refl _,?_⟩;unfold fz;split
  .rename_i x hx;exact rp ⟨x,hx⟩ h
  .exact r
abbrev W:=ME->(AW)->Prop
variable{a:W}
abbrev WA:=ME->(AL)->Prop
variable{it r:WA}
abbrev WT:=ME->(Bool->ME->Prop)->Prop
abbrev WS:=ME->(ME->Prop)->(AW)->Prop
variable{b:WS}
class SemW (te:TE)(w:W):Prop where
 h:∀{ε Q'},w ε Q'->∀{S Hs0 H0 Hs H σ},RD S Hs0 H0 Hs H σ ε->∀{Q:VK},(∀ y ε' v Hs' H',Q' y ε'->RD S Hs0 H0 Hs' H' σ ε'->sL Hs Hs'->Rep Hs' y v->Q v H')->te σ H Q
class wf (ta:TA)(w:WA):Prop where
 h:∀{ε Q'},w ε Q'->∀{S Hs0 H0 Hs H σ},RD S Hs0 H0 Hs H σ ε->∀{Q:AQ},(∀ ys ε' vs Hs' H',Q' ys ε'->RD S Hs0 H0 Hs' H' σ ε'->sL Hs Hs'->sR Hs' ys vs->Q vs H')->ta σ H Q
class ZV (tt:TT)(w:WT):Prop where
 h:∀{ε Q'},w ε Q'->∀{S Hs0 H0 Hs H σ},RD S Hs0 H0 Hs H σ ε->∀{Q:AJ},(∀ b ε' Hs' H',Q' b ε'->RD S Hs0 H0 Hs' H' σ ε'->sL Hs Hs'->Q b H')->tt σ H Q
class SemWS (ts:TS)(w:WS):Prop where
 h:∀{ε N R},w ε N R->∀{S Hs0 H0 Hs H σ},RD S Hs0 H0 Hs H σ ε->∀{D:xy},(∀ ε' σ' Hs' H',N ε'->RD S Hs0 H0 Hs' H' σ' ε'->sL Hs Hs'->D.nx σ' H') ->
  (∀ y ε' σ' v Hs' H',R y ε'->RD S Hs0 H0 Hs' H' σ' ε'->sL Hs Hs'->Rep Hs' y v->D.rt v H')->ts D σ H
def wP (f:M):W:=λε Q=>∃ y,f ε=some y/\Q y ε
def wPT (f:MB):WT:=λε Q=>∃ y,f ε=some y/\Q y ε
instance (priority:=50){f:M}[s:SemE te f]:SemW te (wP f) where
 h:=λ⟨y,e,q⟩ _ _ _ _ _ _ r _ k=>s.h e r.rs λv Hs' H' x rv=>k y _ v Hs' H' q (r.go x) x.s1 rv
instance (priority:=50){f:MB}[s:qV tt f]:ZV tt (wPT f) where
 h:=λ⟨y,e,q⟩ _ _ _ _ _ _ r _ k=>s.h e r.rs λHs' H' x=>k y _ Hs' H' q (r.go x) x.s1
def xU (g:AD)(a b:W):W:=λε Q=>a ε λx ε1=>b ε1 λy ε2=>∃ z,g x y=some z/\Q z ε2
instance {r:R2}{g:AD}{ta tb:TE}{b:W}[sr:SemR r g][sa:SemW ta a][sb:SemW tb b]:SemW (tOp r ta tb) (xU g a b) where
 h:=λh _ _ _ _ _ _ rd _ k=>sa.h h rd λx ε1 v tG H1 h1 rd1 g1 r1=>sb.h h1 rd1 λy ε2 w tF H2 h2 rd2 g2 r2=>by
  obtain ⟨z,ez,h2⟩:=h2;exact sr.h ez rd2.s3 (.inl (r1.mono g2)) (.inl r2) λu Hs3 H3 x3 r3=>k z ε2 u Hs3 H3 h2 (rd2.go x3) (g1.trans (g2.trans x3.s1)) r3
def qS:WA:=λε Q=>Q [] ε
def p0 (a:W)(r:WA):WA:=λε Q=>a ε λx ε1=>r ε1 λxs ε2=>Q (x::xs) ε2
instance:wf qL qS where
 h:=λh _ _ _ _ _ _ rd _ k=>k [] _ [] _ _ h rd (.refl _) .nil
instance [sa:SemW te a][sr:wf ta r]:wf (qv te ta) (p0 a r) where
 h:=λh _ _ _ _ _ _ rd _ k=>sa.h h rd λx ε1 v tG H1 h1 rd1 g1 r1=>sr.h h1 rd1 λxs ε2 vs tF H2 h2 rd2 g2 r2=>k _ ε2 _ tF H2 h2 rd2 (g1.trans g2) (.cons (r1.mono g2) r2)
def Xh (a:WA):W:=λε Q=>a ε λxs ε1=>xs.length<=lim/\Q (.tup xs) ε1
instance {a:WA}[sa:wf ta a]:SemW (tTup ta) (Xh a) where
 h:=λh _ _ _ _ _ _ rd _ k=>sa.h h rd λxs ε1 vs tG H1 h1 rd1 g1 r1=>⟨xL (r1.length▸h1.1),λp hp=>k _ ε1 _ _ _ h1.2 (rd1.go (.new rd1.s3 hp)) (g1.trans (Ext.new rd1.s3 hp).s1) (sY.mpr ⟨p,vs,rfl,u5,r1.mono (Ext.new rd1.s3 hp).s1⟩)⟩
def jT:Sp:=λvs H Q _=>∃(a:Addr)(n m:Int),vs=[.ref a,.int m]/\H a=some (.lst [.int n])/\Xj n m/\Q (.int (n % m)) (z9 H a (.lst [.int (n / m)]))
def m6 (n:Int):sN:= .ow (.lst [.at (.int n)])
def wTake (i:Nat)(a:W):W:=λε Q=>a ε λx ε1=>∃ n k,x = .at (.int k)/\ε1[i]?=some (m6 n)/\Xj n k/\Q (.at (.int (n % k))) (ε1.set i (m6 (n / k)))
def RD.strm_at {i:Nat}{n:Int}(r:RD S Hs0 H0 Hs H σ ε)(h:ε[i]?=some (m6 n)):∃ a,σ[i]?=some (some (.ref a))/\H a=some (.lst [.int n])/\Hs a=none/\(H0 a=none∨a∈S):=by obtain ⟨a,ha,n0,n1,vs,hv,rv⟩:=r.ow i _ h;obtain ⟨v,w,rfl,p1,p2⟩:=tz.mp rv;cases tu.mp p2;cases tD.mp p1;exact ⟨a,ha,hv,n1,n0⟩
def zN (i:Nat):ME->Prop:=λε=>∃ n,ε[i]?=some (m6 n)
def xg (i:Nat)(a:W):W:=λε Q=>zN i ε/\wTake i a ε Q
instance {i:Nat}[sa:SemW te a]:SemW (xT jT [] E (qv (qM i) (qv te qL))) (xg i a) where
 h:=λh _ _ _ _ _ _ rd _ k=>by
  obtain ⟨⟨n0,hn0⟩,h⟩:=h;obtain ⟨p,hp,_⟩:=rd.strm_at hn0;refine ⟨_,hp,sa.h h rd λx ε1 v tG H1 h1 rd1 g1 r1=>?_⟩;obtain ⟨n,m,rfl,hn,hc,h2⟩:=h1;obtain ⟨p',hp',hH,hs,_⟩:=rd1.strm_at hn;rw [hp] at hp';injection hp' with hp';injection hp' with hp';injection hp' with hp';subst hp';cases tD.mp r1;exact ⟨p,n,m,rfl,hH,hc,k _ _ _ _ _ h2 (rd1.change hn hp ⟨_,u5,.one (tD.mpr rfl)⟩) g1 (tD.mpr rfl)⟩
structure ExtD (p:Addr)(Hs H Hs' H':Hp):Prop where
 s1:sL Hs Hs'
 s2:∀ b o,H b=some o->b≠p->H' b=some o
 s3:sL Hs' H'
 s4:∀ b,H b≠none->Hs b=none->Hs' b=none
def spD (pre:AY)(R:AK):Sp:=λvs H Q _=>∃ Hs a n xs ws,vs = .ref a::ws/\sL Hs H/\Hs a=none/\H a=some (.lst [.int n])/\sR Hs xs ws/\pre xs /\
 ∀ y v n' Hs' H',R xs y->ExtD a Hs H Hs' H'->Hs' a=none->H' a=some (.lst [.int n'])->Rep Hs' y v->Q v H'
def RD.drawn (r:RD S Hs0 H0 Hs H σ ε){i:Nat}{n n':Int}{p:Addr}(hi:ε[i]?=some (m6 n))(hp:σ[i]?=some (some (.ref p)))(x:ExtD p Hs H Hs' H')(np:Hs' p=none)(ep:H' p=some (.lst [.int n'])):RD S Hs0 H0 Hs' H' σ (ε.set i (m6 n')):=by
 obtain ⟨p',hp',hH,hs,h0⟩:=r.strm_at hi;rw [hp] at hp';injection hp' with hp';injection hp' with hp';injection hp' with hp';subst hp';have up:∀(j:Nat)(z:PV),(ε.set i (m6 n'))[j]?=some (.ow z)->(j=i/\z = .lst [.at (.int n')])∨(j≠i/\ε[j]?=some (.ow z)):=λj z q=>by
  rw [yr] at q;split at q
  .rename_i hij;split at q
   .injection q with q;unfold m6 at q;injection q with q;exact .inl ⟨hij.symm,q.symm⟩
   .cases q
  .rename_i hij;exact .inr ⟨Ne.symm hij,q⟩
 have wasOw:∀(j:Nat)(z:PV),(ε.set i (m6 n'))[j]?=some (.ow z)->∃ z',ε[j]?=some (.ow z'):=λj z q=>by
  rcases up j z q with ⟨rfl,_⟩|⟨_,q⟩
  .exact ⟨_,hi⟩
  .exact ⟨z,q⟩
 refine ⟨r.s1.trans x.s1,λb o e hS=>x.s2 b o (r.s2 b o e hS) λz=>?_,x.s3,λb h z=>x.s4 b (r.there h) (r.s4 b h z),λj z q=>?_,λj z q=>?_,λj k z z' c h1 h2 h3 h4=>?_,by rw [yc,r.len],r.pin,λb hS=>?_,λb hS=>?_,QN r.nb λ_ z=>by unfold m6 at z;cases z⟩
 .rcases h0 with h0|h0
  .rw [z,h0] at e;cases e
  .exact hS (z▸h0)
 .rw [yr] at q;split at q
  .split at q
   .unfold m6 at q;cases q
   .cases q
  .obtain ⟨v,h1,h2⟩:=r.sh j z q;exact ⟨v,h1,h2.mono x.s1⟩
 .rcases up j z q with ⟨rfl,rfl⟩|⟨hij,q⟩
  .exact ⟨p,hp,h0,np,_,ep,.one (tD.mpr rfl)⟩
  .obtain ⟨c,hc,m0,m1,tc⟩:=r.ow j z q;have hne:c≠p:=λe=>hij (r.nd j i z _ p q hi (e▸hc) hp);exact ⟨c,hc,m0,x.s4 c tc.there m1,tc.mono x.s1 λo e=>x.s2 c o e hne⟩
 .obtain ⟨w1,q1⟩:=wasOw j z h1;obtain ⟨w2,q2⟩:=wasOw k z' h2;exact r.nd j k w1 w2 c q1 q2 h3 h4
 .by_cases hb:b=p
  .rw [hb,ep];exact λz=>nomatch z
  .have:=r.live b hS;cases q:H b with
   |none=>exact rp q this
   |some o=>rw [x.s2 b o q hb];exact λz=>nomatch z
 .obtain ⟨y',hy⟩:=r.str b hS;rw [yr];split
  .rename_i h0;rw [rB (by rw [h0];exact (yK.mp hy).1)];exact ⟨_,rfl⟩
  .exact ⟨y',hy⟩
def zw (i:Nat)(pre:AY)(R:AK)(as:WA):W:=λε Q=>zN i ε/\as ε λxs ε1=>zN i ε1/\pre xs/\∀ y n',R xs y->Q y (ε1.set i (m6 n'))
instance {i:Nat}{as:WA}[sa:wf ta as]:SemW (xT (spD pre R) [] E (qv (qM i) ta)) (zw i pre R as) where
 h:=λh _ _ _ _ _ _ rd _ k=>by
  obtain ⟨⟨n0,hn0⟩,h⟩:=h;obtain ⟨p,hp,_⟩:=rd.strm_at hn0;refine ⟨_,hp,sa.h h rd λxs ε1 vs tG H1 h1 rd1 g1 r1=>?_⟩;obtain ⟨⟨n,hn⟩,hpre,h2⟩:=h1;obtain ⟨p',hp',hH,hs,_⟩:=rd1.strm_at hn;rw [hp] at hp';injection hp' with hp';injection hp' with hp';injection hp' with hp';subst hp';refine ⟨tG,p,n,xs,vs,by rw [yp],rd1.s3,hs,hH,r1,hpre,λy v n' Hs' H' hR x np ep rv=>?_⟩;exact k y _ v Hs' H' (h2 y n' hR) (rd1.drawn hn hp x np ep) (g1.trans x.s1) rv
def jy:WS:=λε N _=>N ε
def sH (a b:WS):WS:=λε N R=>a ε (λε1=>b ε1 N R) R
def qw (i:Nat)(a:W):WS:=λε N _=>a ε λx ε1=>N (ε1.set i (.sh x))
def Vq (i:Nat)(f:M):WS:=λε N _=>∃ x,f ε=some x/\N (ε.set i (.ow x))
def zm (a:W):WS:=λε _ R=>a ε R
def DS (a:W):WS:=λε N _=>a ε λ_ ε1=>N ε1
def zO (c:WT)(a b:WS):WS:=λε N R=>c ε λk ε1=>if k=true then a ε1 N R else b ε1 N R
def wFz (i:Nat)(a:WS):WS:=λε N R=>a (fz i ε) N R
def zM (i:Nat)(a:W):WS:=λε N _=>(∃ xs,ε[i]?=some (.ow (.lst xs)))/\a ε λx ε1=>∃ xs,ε1[i]?=some (.ow (.lst xs))/\xs.length<=lim/\N (ε1.set i (.ow (.lst (xs++[x]))))
instance:SemWS UD jy where
 h:=λh _ _ _ _ _ _ rd _ k _=>k _ _ _ _ h rd (.refl _)
instance {u:TS}{a:WS}[sa:SemWS t a][sb:SemWS u b]:SemWS (tSeq t u) (sH a b) where
 h:=λh _ _ _ _ _ _ rd _ k r=>sa.h h rd (λε1 σ1 tG H1 h1 rd1 g1=>sb.h h1 rd1 (λε2 σ2 tF H2 h2 rd2 g2=>k ε2 σ2 tF H2 h2 rd2 (g1.trans g2)) λy ε2 σ2 v tF H2 h2 rd2 g2 rv=>r y ε2 σ2 v tF H2 h2 rd2 (g1.trans g2) rv) r
instance {i:Nat}[sa:SemW te a]:SemWS (jw te (xE (i+1))) (qw (i+1) a) where
 h:=λh _ _ _ _ _ _ rd _ k _=>sa.h h rd λx ε1 v tG H1 h1 rd1 g1 r1=>k _ _ _ _ h1 (rd1.put r1) g1
instance {i:Nat}{f:M}[sa:xJ te f]:SemWS (jw te (xE (i+1))) (Vq (i+1) f) where
 h:=λ⟨x,e,h⟩ _ _ _ _ _ _ rd _ k _=>sa.h e rd.rs λa tG H1 x1 n n' t=>k _ _ _ _ h ((rd.go x1).putO (.inl (rd.free0 n)) n' t λj y hj z=>by
  obtain ⟨b,hb,_,_,tb⟩:=rd.ow j y hj;rw [z] at hb;injection hb with hb;injection hb with hb;injection hb with hb;subst hb;exact tb.there n) x1.s1
instance [sa:SemW te a]:SemWS (ZF te) (zm a) where
 h:=λh _ _ _ _ _ _ rd _ _ r=>sa.h h rd λx ε1 v tG H1 h1 rd1 g1 r1=>r x ε1 _ v tG H1 h1 rd1 g1 r1
instance [sa:SemW te a]:SemWS (jx te) (DS a) where
 h:=λh _ _ _ _ _ _ rd _ k _=>sa.h h rd λx ε1 v tG H1 h1 rd1 g1 r1=>k ε1 _ tG H1 h1 rd1 g1
instance {t:TT}{ta:TS}{c:WT}{a:WS}[sc:ZV t c][sa:SemWS ta a][sb:SemWS tb b]:SemWS (Xe t ta tb) (zO c a b) where
 h:=λh _ _ _ _ _ _ rd _ k r=>sc.h h rd λc ε1 tG H1 h1 rd1 g1=>by
  cases c with
  |true=>exact za (sa.h (by simpa using h1) rd1 (λε2 σ2 tF H2 h2 rd2 g2=>k ε2 σ2 tF H2 h2 rd2 (g1.trans g2)) λy ε2 σ2 v tF H2 h2 rd2 g2 rv=>r y ε2 σ2 v tF H2 h2 rd2 (g1.trans g2) rv)
  |false=>exact xZ (sb.h (by simpa using h1) rd1 (λε2 σ2 tF H2 h2 rd2 g2=>k ε2 σ2 tF H2 h2 rd2 (g1.trans g2)) λy ε2 σ2 v tF H2 h2 rd2 g2 rv=>r y ε2 σ2 v tF H2 h2 rd2 (g1.trans g2) rv)
instance {i:Nat}{a:WS}[sa:SemWS t a]:SemWS t (wFz (i+1) a) where
 h:=λh _ _ _ _ _ _ rd _ k r=>by
  obtain ⟨Hs',g,rd'⟩:=rd.freeze i;exact sa.h h rd' (λε2 σ2 tF H2 h2 rd2 g2=>k ε2 σ2 tF H2 h2 rd2 (g.trans g2)) λy ε2 σ2 v tF H2 h2 rd2 g2 rv=>r y ε2 σ2 v tF H2 h2 rd2 (g.trans g2) rv
instance {i:Nat}[sa:SemW te a]:SemWS (jx (tBM K "list" Vh (qM i) (qv te qL))) (zM i a) where
 h:=λh _ _ _ _ _ _ rd _ k _=>by
  obtain ⟨⟨xs0,hx0⟩,h⟩:=h;obtain ⟨p,hp,n0,n,vs,hv,rv⟩:=rd.ow i _ hx0;refine ⟨_,hp,.inl ⟨rfl,vs,sK.of hv⟩,sa.h h rd λx ε1 v tG H1 h1 rd1 g1 r1=>?_⟩;obtain ⟨xs,hx,hl,h2⟩:=h1;obtain ⟨p',hp',_,n1,ws,hw,rw⟩:=rd1.ow i _ hx;rw [hp] at hp';injection hp' with hp';injection hp' with hp';injection hp' with hp';subst hp';exact ⟨p,ws,v,rfl,rfl,hw,XO (by rw [rw.length];exact hl),k _ _ _ _ h2 (rd1.change hx hp ⟨_,u5,rw.append (.one r1)⟩) g1⟩
def wPop (i:Nat)(a:W):W:=λε Q=>(∃ xs,ε[i]?=some (.ow (.lst xs)))/\a ε λx ε1=>∃ xs k y,ε1[i]?=some (.ow (.lst xs))/\x = .at (.int k)/\0<=k/\k<xs.length/\xs.length<=lim/\xs[k.toNat]?=some y/\Q y (ε1.set i (.ow (.lst (xs.eraseIdx k.toNat))))
theorem sR.eraseIdx {H:Hp}:∀(i:Nat){xs:C5}{vs:EB},sR H xs vs->sR H (xs.eraseIdx i) (vs.eraseIdx i)
 |i,[],vs,h=>by rw [tu.mp h];exact .nil
 |0,x::xs,vs,h=>by obtain ⟨v,r,rfl,p,q⟩:=tz.mp h;exact q
 |i+1,x::xs,vs,h=>by obtain ⟨v,r,rfl,p,q⟩:=tz.mp h;exact .cons p (sR.eraseIdx i q)
instance {i:Nat}[sa:SemW te a]:SemW (tBM K "list" Cs (qM i) (qv te qL)) (wPop i a) where
 h:=λh _ _ _ _ _ _ rd _ k=>by
  obtain ⟨⟨xs0,hx0⟩,h⟩:=h;obtain ⟨p,hp,n0,n,vs,hv,rv⟩:=rd.ow i _ hx0;refine ⟨_,hp,.inl ⟨rfl,vs,sK.of hv⟩,sa.h h rd λx ε1 v tG H1 h1 rd1 g1 r1=>?_⟩;obtain ⟨xs,j,y,hx,rfl,j0,j1,hl,hy,h2⟩:=h1;obtain ⟨p',hp',_,n1,ws,hw,rw⟩:=rd1.ow i _ hx;rw [hp] at hp';injection hp' with hp';injection hp' with hp';injection hp' with hp';subst hp';cases tD.mp r1;obtain ⟨u,hu,ru⟩:=rw.get hy;have hlim:lim=1000000:=rfl;refine ⟨p,ws,j,j.toNat,u,rfl,rfl,hw,by omega,by omega,?_,hu,k _ _ _ _ _ h2 (rd1.change hx hp ⟨_,u5,rw.eraseIdx j.toNat⟩) g1 ru⟩;unfold seqIndex?;have e1:(if j<0 then j+(ws.length:Int) else j)=j:=rq (by omega);simp only [e1];rw [rB];rw [rw.length];simp only [yg,decide_eq_true_eq];exact ⟨j0,j1⟩
class SemWI (ti:TI)(w:WA):Prop where
 h:∀{ε Q'},w ε Q'->∀{S Hs0 H0 Hs H σ},RD S Hs0 H0 Hs H σ ε->∀{R:AX},(∀ xs ε' J Hs' H',Q' xs ε'->RD S Hs0 H0 Hs' H' σ ε'->sL Hs Hs'->vC J xs Hs'->R J H')->ti σ H R
def wIp (f:MA):WA:=λε Q=>∃ xs,f ε=some xs/\Q xs ε
instance (priority:=50){ti:TI}{f:MA}[s:jc ti f]:SemWI ti (wIp f) where
 h:=λ⟨xs,e,q⟩ _ _ _ _ _ _ r _ k=>s.h e r.rs λJ Hs' H' x ok=>k xs _ J Hs' H' q (r.go x) x.s1 ok
class SemWG (tg:TG)(g:MG):Prop where
 h:∀{x ε ε'},g x ε=some ε'->∀{S Hs0 H0 Hs H σ v},RD S Hs0 H0 Hs H σ ε->Rep Hs x v->∀{Q:AV},(∀ σ',RD S Hs0 H0 Hs H σ' ε'->Q σ' H)->tg v σ H Q
instance {i:Nat}:SemWG (xE (i+1)) (w6 (i+1)) where
 h:=λe _ _ _ _ _ _ _ rd r _ q=>by cases e;exact q _ (rd.put r)
def Qb (g:MG)(f:WS):C5->WS
 |[]=>λε N _=>N ε
 |x::xs=>λε N R=>∃ ε1,g x ε=some ε1/\f ε1 (λε2=>Qb g f xs ε2 N R) R
def wFor (it:WA)(g:MG)(f:WS):WS:=λε N R=>it ε λxs ε1=>Qb g f xs ε1 N R
def RD.rebase (r:RD S Hs0 H0 Hs H σ ε):RD S Hs H0 Hs H σ ε :=
 ⟨.refl _,r.s2,r.s3,λ_ _ z=>z,r.sh,r.ow,r.nd,r.len,r.pin,r.live,r.str,r.nb⟩
def RD.unbase {Hb Hx:Hp}(b:RD S Hs0 H0 Hb Hx σ ε)(r:RD S Hb H0 Hs H σ' ε'):RD S Hs0 H0 Hs H σ' ε' :=
 ⟨b.s1.trans r.s1,r.s2,r.s3,λc h z=>r.s4 c h (b.s4 c h z),r.sh,r.ow,r.nd,r.len,r.pin,r.live,r.str,r.nb⟩
instance {g:MG}{f:WS}[si:SemWI wi it][sg:SemWG tg g][sf:SemWS tb f]:SemWS (tFor wi tg tb) (wFor it g f) where
 h:=λ{ε N R} h S Hs0 H0 _ _ _ rd D k rt=>si.h h rd λxs ε1 J tG H1 h1 rd1 g1 ok=>by
  refine ⟨λn m σ H=>m=xs.length-n/\n<=xs.length/\∃ Hs ε,RD S tG H0 Hs H σ ε/\Qb g f (xs.drop n) ε N R,⟨xs.length,by simp,yd _,tG,ε1,rd1.rebase,h1⟩,?_⟩;rintro n m σ H ⟨rfl,hn,Hs,ε2,r2,h2⟩;by_cases hlt:n<xs.length
  .have hd:xs.drop n=xs[n]::xs.drop (n+1):=yk hlt;rw [hd] at h2;obtain ⟨ε3,e3,h3⟩:=h2;obtain ⟨go,yl⟩:=ok.go n xs[n] Hs H (by simp [hlt]) r2.s1 r2.s3;refine .inr ⟨go,λσ' H'=>n+1<=xs.length/\∃ Hs ε,RD S tG H0 Hs H' σ' ε/\Qb g f (xs.drop (n+1)) ε N R,λσ' H' p=>⟨xs.length-(n+1),by omega,rfl,p.1,p.2⟩,λv H3 y=>?_⟩;obtain ⟨Hs3,x3,r3⟩:=yl v H3 y;refine sg.h e3 (r2.go x3) r3 λσ4 rd4=>sf.h h3 rd4 (λε5 σ5 Hs5 H5 h5 rd5 g5=>⟨hlt,Hs5,ε5,rd5,h5⟩) λy ε5 σ5 v Hs5 H5 h5 rd5 g5 rv=>rt y ε5 σ5 v Hs5 H5 h5 (rd1.unbase rd5) (g1.trans rd5.s1) rv
  .have en:n=xs.length:=by omega
   subst en;rw [uo] at h2;exact .inl ⟨ok.stop Hs H r2.s1 r2.s3,k _ _ _ _ h2 (rd1.unbase r2) (g1.trans r2.s1)⟩
def xc:C9->ME->ME->ME
 |some i::tK,s::ε2,ε1=>(xc tK ε2 ε1).set i s
 |none::tK,_::ε2,ε1=>xc tK ε2 ε1
 |_,_,ε1=>ε1
theorem ZI:∀(tK:C9)(ε2 ε1:ME),(xc tK ε2 ε1).length=ε1.length
 |some i::tK,s::ε2,ε1=>by unfold xc;rw [yc,ZI]
 |none::tK,_::ε2,ε1=>by unfold xc;exact ZI tK ε2 ε1
 |[],_,_=>rfl
 |some _::_,[],_=>rfl
 |none::_,[],_=>rfl
theorem UL:∀(tK:C9)(ε2 ε1:ME)(i:Nat),some i∉tK->(xc tK ε2 ε1)[i]?=ε1[i]?
 |some k::tK,s::ε2,ε1,i,h=>by
  unfold xc;rw [yh (λz=>h (by rw [z];exact yR))];exact UL tK ε2 ε1 i λz=>h (yO _ z)
 |none::tK,_::ε2,ε1,i,h=>by unfold xc;exact UL tK ε2 ε1 i λz=>h (yO _ z)
 |[],_,_,_,_=>rfl
 |some _::_,[],_,_,_=>rfl
 |none::_,[],_,_,_=>rfl
theorem UK:∀(tK:C9)(ε2 ε1:ME)(i:Nat),tK.length=ε2.length->some i∈tK->i<ε1.length->(tK.filterMap id).Nodup->∃ j:Nat,tK[j]?=some (some i)/\(xc tK ε2 ε1)[i]?=ε2[j]?
 |some k::tK,s::ε2,ε1,i,hl,h,hi,nd=>by
  rw [pc (by rfl)] at nd;by_cases e:k=i
  .subst e;refine ⟨0,rfl,?_⟩;unfold xc;rw [uu (by rw [ZI];exact hi)];rfl
  .obtain ⟨j,h1,h2⟩:=UK tK ε2 ε1 i (by simpa using hl) (by rcases yL.mp h with z|z;exact rp (Option.some.inj z).symm e;exact z) hi (yn.mp nd).2;refine ⟨j+1,by simpa using h1,?_⟩;unfold xc;rw [yh e];simpa using h2
 |none::tK,s::ε2,ε1,i,hl,h,hi,nd=>by
  rw [List.filterMap_cons_none (by rfl)] at nd;obtain ⟨j,h1,h2⟩:=UK tK ε2 ε1 i (by simpa using hl) (by rcases yL.mp h with z|z;exact nomatch z;exact z) hi nd;exact ⟨j+1,by simpa using h1,by unfold xc;simpa using h2⟩
 |[],_,_,_,_,h,_,_=>nomatch h
 |some _::_,[],_,_,hl,_,_,_=>by simp at hl
 |none::_,[],_,_,hl,_,_,_=>by simp at hl
def rst:EI->ME->ME
 |[],ε=>ε
 |t::ts,ε=>(rst ts ε).set t .no
theorem CQ:∀(ts:EI)(ε:ME),(rst ts ε).length=ε.length
 |[],_=>rfl
 |t::ts,ε=>by unfold rst;rw [yc,CQ]
theorem CO:∀(ts:EI)(ε:ME)(i:Nat)(s:sN),(rst ts ε)[i]?=some s->s = .no∨(i∉ts/\ε[i]?=some s)
 |[],_,_,_,h=> .inr ⟨ye,h⟩
 |t::ts,ε,i,s,h=>by
  unfold rst at h;rw [yr] at h;split at h
  .split at h
   .cases h;exact .inl rfl
   .cases h
  .rename_i hne;rcases CO ts ε i s h with z|⟨z1,z2⟩
   .exact .inl z
   .exact .inr ⟨λm=>by rcases yL.mp m with m|m;exact hne m.symm;exact z1 m,z2⟩
def RD.reset (r:RD [] Hs0 H0 Hs H σ' ε)(b:But ts σ σ'):RD [] Hs0 H0 Hs H σ (rst ts ε):=by
 have at1:∀(i:Nat)(s:sN),(rst ts ε)[i]?=some s->s = .no∨(σ'[i]?=σ[i]?/\ε[i]?=some s):=λi s h=>by
  rcases CO ts ε i s h with z|⟨z1,z2⟩
  .exact .inl z
  .exact .inr ⟨b.2 i z1,z2⟩
 refine ⟨r.s1,r.s2,r.s3,r.s4,λi x h=>?_,λi x h=>?_,λi j x y a h1 h2 h3 h4=>?_,by rw [CQ,<- r.len,b.1],(λ_ z=>nomatch z),(λ_ z=>nomatch z),(λ_ z=>nomatch z),λi x h=>by
  rcases at1 i _ h with z|⟨_,z2⟩
  .cases z
  .exact r.nb i x z2⟩
 .rcases at1 i _ h with z|⟨z1,z2⟩
  .cases z
  .rw [<- z1];exact r.sh i x z2
 .rcases at1 i _ h with z|⟨z1,z2⟩
  .cases z
  .rw [<- z1];exact r.ow i x z2
 .rcases at1 i _ h1 with z|⟨z1,z2⟩
  .cases z
  .rcases at1 j _ h2 with w|⟨w1,w2⟩
   .cases w
   .exact r.nd i j x y a z2 w2 (z1.trans h3) (w1.trans h4)
class Gi (tg:TG)(ts:outParam EI)(g:MG):Prop where
 h:∀{x ε ε'},g x ε=some ε'->∀{Hs0 H0 Hs H σ v},RD [] Hs0 H0 Hs H σ ε->Rep Hs x v->∀{Q:AV},(∀ σ',RD [] Hs0 H0 Hs H σ' ε'->But ts σ σ'->Q σ' H)->tg v σ H Q
def RD.put0 (r:RD [] Hs0 H0 Hs H σ ε){i:Nat}(h:Rep Hs x v):RD [] Hs0 H0 Hs H (σ.set i (some v)) (ε.set i (.sh x)):=by
 have q:=(r.rs).put (i:=i) h;refine ⟨r.s1,r.s2,r.s3,r.s4,q.sh,λj z hz=>?_,q.nd,q.len,(λ_ z=>nomatch z),(λ_ z=>nomatch z),(λ_ z=>nomatch z),QN r.nb λ_ z=>nomatch z⟩;obtain ⟨c,hc,m1,m2,tc⟩:=q.ow j z hz;refine ⟨c,hc,?_,m2,tc⟩;rw [yr] at hz hc;split at hz
 .split at hz<;>cases hz
 .rename_i hij;rw [rq hij] at hc;obtain ⟨d,hd,m0,_⟩:=r.ow j z hz;rw [hd] at hc;injection hc with hc;injection hc with hc;injection hc with hc;rw [<- hc];exact m0
instance {i:Nat}:Gi (xE i) [i] (w6 i) where
 h:=λe _ _ _ _ _ _ rd r _ q=>by
  cases e;exact q _ (rd.put0 r) ⟨yc,λj hj=>yh λz=>hj (by rw [<- z];exact yU.mpr rfl)⟩
def wb (g:MG)(c:WT)(f:W)(ts:EI):C5->C5->ME->(AL)->Prop
 |[],ys,ε,Q=>Q ys ε
 |x::xs,ys,ε,Q=>∃ ε1,g x ε=some ε1/\c ε1 λb ε2=>if b=true then f ε2 λy ε3=>wb g c f ts xs (ys++[y]) (rst ts ε3) Q else wb g c f ts xs ys (rst ts ε2) Q
def vz:WT:=λε Q=>Q true ε
instance:ZV tYes vz where
 h:=λh _ _ _ _ _ _ rd _ k=>k true _ _ _ h rd (.refl _)
def wa (tK:C9)(ts:EI)(it:WA)(g:MG)(c:WT)(f:W):W:=λε Q=>it ε λxs ε1=>zA tK ts=true/\xs.length<=lim /\
 wb g c f ts xs [] (o6 tK ε1) λys ε2=>((∃ y:PV,ε1[0]?=some (sN.ow y))->∃ y:PV,(xc tK ε2 ε1)[0]?=some (sN.ow y))/\Q (.lst ys) (xc tK ε2 ε1)
noncomputable def less (σ:St)(ε:ME)(H:Hp):Hp:=λb=>open Classical in if ∃(i:Nat)(x:PV),ε[i]?=some (sN.ow x)/\σ[i]?=some (some (V.ref b)) then none else H b
def Wo {b:Addr}(h:less σ ε H b=some o):H b=some o/\∀(i:Nat)(x:PV),ε[i]?=some (sN.ow x)->σ[i]?≠some (some (V.ref b)):=by
 unfold less at h;split at h
 .cases h
 .rename_i hn;exact ⟨h,λi x h1 h2=>hn ⟨i,x,h1,h2⟩⟩
def Pb {b:Addr}(h:less σ ε H b=none):H b=none∨∃(i:Nat)(x:PV),ε[i]?=some (sN.ow x)/\σ[i]?=some (some (V.ref b)):=by
 unfold less at h;split at h
 .rename_i hn;exact .inr hn
 .exact .inl h
def Lq {tK:C9}(nb:∀(i:Nat)(x:PV),ε[i]?≠some (.bo x)):∀(i:Nat)(x:PV),(o6 tK ε)[i]?≠some (.bo x):=λi x h=>by
 unfold o6 at h;rw [yM] at h;cases ho:tK[i]? with
 |none=>rw [ho] at h;cases h
 |some o =>
  rw [ho] at h;cases o with
  |none=>cases h
  |some k =>
   cases hk:ε[k]? with
   |none=>simp only [ux,hk,tQ] at h;cases h
   |some s=>simp only [ux,hk,oO] at h;cases h;exact nb k x hk
def RD.block {tK:C9}(hc:(tK.filterMap id).Nodup)(r:RD S Hs0 H0 Hs H σ ε):RD [] Hs (less (m9 tK σ) (o6 tK ε) H) Hs H (m9 tK σ) (o6 tK ε):=by have q:=(r.rs).tK hc;refine ⟨.refl _,λb o e _=>(Wo e).1,r.s3,λ_ _ z=>z,q.sh,λi x h=>?_,q.nd,q.len,(λ_ z=>nomatch z),(λ_ z=>nomatch z),(λ_ z=>nomatch z),Lq r.nb⟩;obtain ⟨a,h1,h2,h3,h4⟩:=q.ow i x h;refine ⟨a,h1,.inl ?_,h3,h4⟩;unfold less;rw [rB ⟨i,x,h,h1⟩]
def vG {tK:C9}{i k:Nat}(h:tK[i]?=some (some k))(e:(m9 tK σ)[i]?=some (some v)):σ[k]?=some (some v):=by
 unfold m9 at e;rw [yM,h] at e;simp only [ux,yD,Option.some.injEq] at e;cases hs:σ[k]? with
 |none=>rw [hs] at e;cases e
 |some o=>rw [hs] at e;simp at e;rw [e]
def KJ {tK:C9}{i:Nat}(h:(o6 tK ε)[i]?=some (.ow x)):∃ k:Nat,tK[i]?=some (some k)/\ε[k]?=some (.ow x):=by
 unfold o6 at h;rw [yM] at h;cases ho:tK[i]? with
 |none=>rw [ho] at h;cases h
 |some o =>
  rw [ho] at h;cases o with
  |none=>cases h
  |some k =>
   cases hk:ε[k]? with
   |none=>simp only [ux,hk,tQ] at h;cases h
   |some s=>simp only [ux,hk,oO] at h;cases h;exact ⟨k,rfl,hk⟩
def RD.unblock {tG H1 tF H2:Hp}{ε2:ME}{tK:C9}(hc:(tK.filterMap id).Nodup)(r:RD S Hs0 H0 tG H1 σ ε1)(q:RD [] tG (less (m9 tK σ) (o6 tK ε1) H1) tF H2 (m9 tK σ) ε2)(st:(∃ y,ε1[0]?=some (.ow y))->∃ y,(xc tK ε2 ε1)[0]?=some (.ow y)):RD S Hs0 H0 tF H2 σ (xc tK ε2 ε1):=by
 have hl:tK.length=ε2.length:=by rw [<- q.len];unfold m9;rw [yZ]
 have at1:∀(i:Nat)(s:sN),(xc tK ε2 ε1)[i]?=some s->(some i∉tK/\ε1[i]?=some s)∨∃ j:Nat,tK[j]?=some (some i)/\ε2[j]?=some s:=λi s h=>by
  by_cases hi:some i∈tK
  .have hlt:i<ε1.length:=by have:=(yK.mp h).1;rwa [ZI] at this
   obtain ⟨j,h1,h2⟩:=UK tK ε2 ε1 i hl hi hlt hc;exact .inr ⟨j,h1,h2▸h⟩
  .exact .inl ⟨hi,UL tK ε2 ε1 i hi▸h⟩
 have own0:∀ a,less (m9 tK σ) (o6 tK ε1) H1 a=none->H0 a=none∨a∈S:=λa h=>by
  rcases Pb h with h|⟨i,x,h1,h2⟩
  .exact .inl (r.free0 h)
  .obtain ⟨k,hk,hx⟩:=KJ h1;obtain ⟨c,hc',m0,_⟩:=r.ow k x hx;rw [vG hk h2] at hc';injection hc' with hc';injection hc' with hc';injection hc' with hc';rw [hc'];exact m0
 have keep:∀(k:Nat)(x:PV)(a:Addr),some k∉tK->ε1[k]?=some (.ow x)->σ[k]?=some (some (.ref a))->∀ o,H1 a=some o->less (m9 tK σ) (o6 tK ε1) H1 a=some o:=λk x a hk hx ha o ho=>by
  cases z:less (m9 tK σ) (o6 tK ε1) H1 a with
  |some u=>rw [<- ho,(Wo z).1]
  |none =>
   rcases Pb z with z|⟨i,y,h1,h2⟩
   .rw [z] at ho;cases ho
   .obtain ⟨m,hm,hy⟩:=KJ h1;have:=r.nd k m x y a hx hy ha (vG hm h2);subst this;exact rp (yu hm) hk
 have ow':∀(i:Nat)(x:PV),(xc tK ε2 ε1)[i]?=some (.ow x)->∃ a,σ[i]?=some (some (.ref a))/\(H0 a=none∨a∈S)/\tF a=none/\Top tF H2 a x:=λi x h=>by
  rcases at1 i _ h with ⟨hi,e⟩|⟨j,hj,e⟩
  .obtain ⟨a,ha,m0,m1,t⟩:=r.ow i x e;refine ⟨a,ha,m0,?_,t.mono q.s1 λo ho=>q.s2 a o (keep i x a hi e ha o ho) ye⟩;cases z:H1 a with
   |none=>exact rp z t.there
   |some o=>exact q.s4 a (by rw [keep i x a hi e ha o z];exact λw=>nomatch w) m1
  .obtain ⟨a,ha,m0,m1,t⟩:=q.ow j x e;exact ⟨a,vG hj ha,own0 a (m0.resolve_right ye),m1,t⟩
 have str':∀ a∈S,∃ y,(xc tK ε2 ε1)[0]?=some (.ow y):=λa hS=>st (r.str a hS);refine ⟨r.s1.trans q.s1,λb o e hS=>?_,q.s3,λb h z=>?_,λi x h=>?_,ow',λi j x y a h1 h2 h3 h4=>?_,by rw [ZI];exact r.len,r.pin,λb hS=>?_,str',λi x h=>by
  rcases at1 i _ h with ⟨_,e⟩|⟨j,_,e⟩
  .exact r.nb i x e
  .exact q.nb j x e⟩
 .have e1:=r.s2 b o e hS;refine q.s2 b o ?_ ye;cases z:less (m9 tK σ) (o6 tK ε1) H1 b with
  |some u=>rw [<- e1,(Wo z).1]
  |none =>
   rcases own0 b z with w|w
   .rw [w] at e;cases e
   .exact rp w hS
 .have z1:=r.s4 b h z;by_cases hL:less (m9 tK σ) (o6 tK ε1) H1 b=none
  .rcases own0 b hL with w|w
   .exact rp w h
   .obtain ⟨y,hy⟩:=str' b w;obtain ⟨a,ha,_,m1,_⟩:=ow' 0 y hy;rw [r.pin b w] at ha;injection ha with ha;injection ha with ha;injection ha with ha;rw [ha];exact m1
  .exact q.s4 b hL z1
 .rcases at1 i _ h with ⟨hi,e⟩|⟨j,hj,e⟩
  .obtain ⟨v,hv,rv⟩:=r.sh i x e;exact ⟨v,hv,rv.mono q.s1⟩
  .obtain ⟨v,hv,rv⟩:=q.sh j x e;exact ⟨v,vG hj hv,rv⟩
 .rcases at1 i _ h1 with ⟨hi,e⟩|⟨k,hk,e⟩
  .rcases at1 j _ h2 with ⟨hj,e'⟩|⟨l,hl',e'⟩
   .exact r.nd i j x y a e e' h3 h4
   .-- one of the block's own,one that it does not see
    obtain ⟨a',ha',m0,_,_⟩:=q.ow l y e';have ea:=vG hl' ha';rw [h4] at ea;injection ea with ea;injection ea with ea;injection ea with ea;subst ea;obtain ⟨c,hc1,_,_,t⟩:=r.ow i x e;rw [h3] at hc1;injection hc1 with hc1;injection hc1 with hc1;injection hc1 with hc1;subst hc1;cases z:H1 a with
    |none=>exact rp z t.there
    |some o=>have w:=keep i x a hi e h3 o z;rw [m0.resolve_right ye] at w;cases w
  .rcases at1 j _ h2 with ⟨hj,e'⟩|⟨l,hl',e'⟩
   .obtain ⟨a',ha',m0,_,_⟩:=q.ow k x e;have ea:=vG hk ha';rw [h3] at ea;injection ea with ea;injection ea with ea;injection ea with ea;subst ea;obtain ⟨c,hc1,_,_,t⟩:=r.ow j y e';rw [h4] at hc1;injection hc1 with hc1;injection hc1 with hc1;injection hc1 with hc1;subst hc1;cases z:H1 a with
    |none=>exact rp z t.there
    |some o=>have w:=keep j y a hj e' h4 o z;rw [m0.resolve_right ye] at w;cases w
   .obtain ⟨a1,ha1,_⟩:=q.ow k x e;obtain ⟨a2,ha2,_⟩:=q.ow l y e';have e1:=vG hk ha1;have e2:=vG hl' ha2;rw [h3] at e1;rw [h4] at e2;injection e1 with e1;injection e1 with e1;injection e1 with e1;injection e2 with e2;injection e2 with e2;injection e2 with e2;subst e1;subst e2;have kl:=q.nd k l x y a e e' ha1 ha2;subst kl;rw [hk] at hl';injection hl' with hl';injection hl' with hl'
 .obtain ⟨y,hy⟩:=str' b hS;obtain ⟨a,ha,_,_,t⟩:=ow' 0 y hy;rw [r.pin b hS] at ha;injection ha with ha;injection ha with ha;injection ha with ha;rw [ha];exact t.there
instance {tK:C9}{g:MG}{c:WT}{f:W}[si:SemWI wi it][sg:Gi tg ts g][sc:ZV tt c][sf:SemW te f]:SemW (Xd wi tg tt te tK) (wa tK ts it g c f) where
 h:=λ{ε Q'} h S Hs0 H0 Hs H σ rd Q k=>si.h h rd λxs ε1 J tG H1 h1 rd1 g1 ok=>by
  obtain ⟨hcap,hl,h1⟩:=h1;unfold zA at hcap;rw [yg] at hcap;have hnd:=uS hcap.1;have wk:∀ i∈ts,(m9 tK σ)[i]?=some none:=λi hi=>by
   unfold m9;rw [yM,uS (uY.mp hcap.2 i hi)];rfl
  refine ⟨λn m zs H=>m=xs.length-n/\n<=xs.length/\∃ tF ws ε2,RD [] tG (less (m9 tK σ) (o6 tK ε1) H1) tF H (m9 tK σ) ε2/\sR tF ws zs/\ws.length<=n /\
    wb g c f ts (xs.drop n) ws ε2 (λys ε3=>((∃ y:PV,ε1[0]?=some (sN.ow y))->∃ y:PV,(xc tK ε3 ε1)[0]?=some (sN.ow y))/\Q' (PV.lst ys) (xc tK ε3 ε1)),
   ⟨xs.length,by simp,yd _,tG,[],_,rd1.block hnd,.nil,yP _,h1⟩,?_⟩
  rintro n m zs H2 ⟨rfl,hn,tF,ws,ε2,r2,rz,hw,h2⟩;refine ⟨xL (by rw [rz.length];omega),?_⟩;by_cases hlt:n<xs.length
  .have hd:xs.drop n=xs[n]::xs.drop (n+1):=yk hlt;rw [hd] at h2;obtain ⟨ε3,e3,h3⟩:=h2;obtain ⟨go,yl⟩:=ok.go n xs[n] tF H2 (by simp [hlt]) r2.s1 r2.s3;refine .inr ⟨go,λv H3 y=>?_⟩;obtain ⟨Hs3,x3,r3⟩:=yl v H3 y;refine sg.h e3 (r2.go x3) r3 λσ4 rd4 bt=>⟨bt.wk wk,sc.h h3 rd4 λb ε5 Hs5 H5 h5 rd5 g5=>?_⟩;cases b with
   |true=>refine za (sf.h (by simpa using h5) rd5 λy ε6 u Hs6 H6 h6 rd6 g6 ru=>⟨xs.length-(n+1),by omega,rfl,hlt,Hs6,ws++[y],_,rd6.reset bt,?_,by rw [yV];simp;omega,h6⟩);exact (rz.mono (x3.s1.trans (g5.trans g6))).snoc ru
   |false=>exact xZ ⟨xs.length-(n+1),by omega,rfl,hlt,Hs5,ws,_,rd5.reset bt,rz.mono (x3.s1.trans g5),by omega,by simpa using h5⟩
  .have en:n=xs.length:=by omega
   subst en;rw [uo] at h2;refine .inl ⟨ok.stop tF H2 r2.s1 r2.s3,λD hD=>?_⟩;have rd2:=rd1.unblock hnd r2 h2.1;exact k _ _ _ _ _ h2.2 (rd2.go (.new rd2.s3 hD)) (g1.trans (r2.s1.trans (Ext.new rd2.s3 hD).s1)) (tj.mpr ⟨D,zs,rfl,u5,rz.mono (Ext.new rd2.s3 hD).s1⟩)
def wX {i:Nat}:(xs.map sN.sh++List.replicate n .no)[i]?≠some (.ow x):=λh=>by
 by_cases hi:i<xs.length
 .rw [uU (by rw [yZ];exact hi),yM] at h;obtain ⟨y,_,z⟩:=yC.mp h;cases z
 .rw [uQ (by rw [yZ];omega),ua] at h;split at h<;>cases h
def Yg {i:Nat}:(xs.map sN.sh++List.replicate n .no)[i]?≠some (.bo x):=λh=>by
 by_cases hi:i<xs.length
 .rw [uU (by rw [yZ];exact hi),yM] at h;obtain ⟨y,_,z⟩:=yC.mp h;cases z
 .rw [uQ (by rw [yZ];omega),ua] at h;split at h<;>cases h
def Ii {a:Addr}{n:Int}(s:sL Hs H)(ha:Hs a=none)(hH:H a=some (.lst [.int n]))(r:sR Hs xs ws):RD [a] Hs H Hs H (L2.start N (.ref a::ws)) (m6 n::xs.map .sh++List.replicate (N.length-(xs.length+1)) .no):=by
 have q:=zL (N:=N) (xs:= .at (.ref a)::xs) s (.cons (tD.mpr rfl) r);have tl:∀(i:Nat)(sl:sN),(m6 n::xs.map .sh++List.replicate (N.length-(xs.length+1)) .no)[i+1]?=some sl->((PV.at (.ref a)::xs).map sN.sh++List.replicate (N.length-(PV.at (.ref a)::xs).length) .no)[i+1]?=some sl:=λi sl h=>h;refine ⟨.refl _,λb o e _=>e,s,λ_ _ z=>z,λi x h=>?_,λi x h=>?_,λi j x y b h1 h2 _ _=>?_,?_,λb hb=>?_,λb hb=>?_,(λb hb=>⟨_,rfl⟩),λi x h=>by
  cases i with
  |zero=>unfold m6 at h;simp at h
  |succ i=>exact Yg (xs:=PV.at (.ref a)::xs) (tl i _ h)⟩
 .cases i with
  |zero=>unfold m6 at h;simp at h
  |succ i=>exact q.sh (i+1) x (tl i _ h)
 .cases i with
  |zero=>unfold m6 at h;simp at h;subst h;refine ⟨a,?_,.inr (yU.mpr rfl),ha,_,hH,.one (tD.mpr rfl)⟩;unfold L2.start;rfl
  |succ i =>
   obtain ⟨c,h1,_⟩:=q.ow (i+1) x (tl i _ h);exact rp (tl i _ h) λz=>by
    have:=wX (i:=i+1) (x:=x) (xs:=PV.at (.ref a)::xs) (n:=N.length-(PV.at (.ref a)::xs).length);exact this z
 .cases i with
  |zero =>
   cases j with
   |zero=>rfl
   |succ j=>exact rp (tl j _ h2) (wX (xs:=PV.at (.ref a)::xs))
  |succ i=>exact rp (tl i _ h1) (wX (xs:=PV.at (.ref a)::xs))
 .exact q.len
 .rw [yU.mp hb];unfold L2.start;rfl
 .rw [yU.mp hb,hH];exact λz=>nomatch z
def okD {x:Str}{f:Addr}{k:Nat}(F:Fun K x qual st f fd)(S:y8 N ps (j4 st))(hpre:∀ xs,pre xs->xs.length+1=ps.length)(hb:∀(tH:G1)(A:G4)(tL:EK)(s:G2)(H:Hp)(E:XK),Room k (A.deeper (PyProof.Rows.envOfC qual (j4 st) s.heap.objs.size f tH)) -> ∃ t,PSs (qy v8 P w K mg tM N qual (j4 st) f tH A tL s H E).nox (qf st) t/\SemWS t b)(hw:∀ xs n,pre xs->b (m6 n::xs.map .sh++List.replicate (N.length-(xs.length+1)) .no) (λ_=>False) λy ε=>R xs y/\zN 0 ε):sQ P w K mg tM v8 (k+1) f fd ps (spD pre R):=by
 refine F.ok S (λvs H Q E h=>?_) (λtH A tL s H vs Q E hr h=>?_)
 .obtain ⟨Hs,a,n,xs,ws,rfl,_,_,_,r,hp,_⟩:=h;rw [yJ,r.length];exact hpre xs hp
 .obtain ⟨Hs,a,n,xs,ws,rfl,sm,ha,hH,r,hp,q⟩:=h;obtain ⟨t,ht,sem⟩:=hb tH A tL s H E hr;refine ⟨t,ht,sem.h (hw xs n hp) (Ii sm ha hH r) (λε σ Hs' H' z _ _=>z.elim) λy ε σ v Hs' H' hR rd g rv=>?_⟩;obtain ⟨hR,n',hn'⟩:=hR;obtain ⟨a',ha',hH',hs',_⟩:=rd.strm_at hn';rw [rd.pin a (yU.mpr rfl)] at ha';injection ha' with ha';injection ha' with ha';injection ha' with ha';subst ha';refine q y v n' Hs' H' hR ⟨g,λb o e hb=>rd.s2 b o e λz=>hb (yU.mp z),rd.s3,λb h z=>rd.s4 b h z⟩ hs' hH' rv
def spN (pre:AY)(R:AK):Sp:=λvs H Q _=>∃ Hs xs,sL Hs H/\sR Hs xs vs/\pre xs/\∀ y a Hs' H',R xs y->Ext Hs H Hs' H'->H a=none->Hs' a=none->Top Hs' H' a y->Q (.ref a) H'
def spV (pre:AY)(R:AK):Sp:=λvs H Q _=>∃ Hs xs,sL Hs H/\sR Hs xs vs/\pre xs/\∀ y v Hs' H',R xs y->Ext Hs H Hs' H'->Rep Hs' y v->Q v H'
def Vp (i:Nat)(pre:AY)(R:AK)(as:WA):WS:=λε N _=>as ε λxs ε1=>pre xs/\∀ y,R xs y->N (ε1.set i (.ow y))
instance {i:Nat}{as:WA}[sa:wf ta as]:SemWS (jw (xT (spN pre R) [] E ta) (xE (i+1))) (Vp (i+1) pre R as) where
 h:=λh _ _ _ _ _ _ rd _ k _=>sa.h h rd λxs ε1 vs tG H1 h1 rd1 g1 r1=>by
  refine ⟨tG,xs,rd1.s3,by rw [yp];exact r1,h1.1,λy a Hs' H' hR x n n' t=>?_⟩;refine k _ _ _ _ (h1.2 y hR) ((rd1.go x).putO (.inl (rd1.free0 n)) n' t λj z hj e=>?_) (g1.trans x.s1);obtain ⟨b,hb,_,_,tb⟩:=rd1.ow j z hj;rw [e] at hb;injection hb with hb;injection hb with hb;injection hb with hb;subst hb;exact tb.there n
def DR (pre:AY)(R:AK)(as:WA):W:=λε Q=>as ε λxs ε1=>pre xs/\∀ y,R xs y->Q y ε1
instance {as:WA}[sa:wf ta as]:SemW (xT (spV pre R) [] E ta) (DR pre R as) where
 h:=λh _ _ _ _ _ _ rd _ k=>sa.h h rd λxs ε1 vs tG H1 h1 rd1 g1 r1 =>
  ⟨tG,xs,rd1.s3,by rw [yp];exact r1,h1.1,λy v Hs' H' hR x rv=>k y ε1 v Hs' H' (h1.2 y hR) (rd1.go x) (g1.trans x.s1) rv⟩
def CD (s:sL Hs H)(r:sR Hs xs vs):RD [] Hs H Hs H (L2.start N vs) (xs.map .sh++List.replicate (N.length-xs.length) .no):=by have q:=zL (N:=N) s r;exact ⟨.refl _,λb o e _=>e,s,λ_ _ z=>z,q.sh,λi x h=>rp h wX,q.nd,q.len,(λ_ z=>nomatch z),(λ_ z=>nomatch z),(λ_ z=>nomatch z),λ_ _=>Yg⟩
def okV {x:Str}{f:Addr}{k:Nat}(F:Fun K x qual st f fd)(S:y8 N ps (j4 st))(hpre:∀ xs,pre xs->xs.length=ps.length)(hb:∀(tH:G1)(A:G4)(tL:EK)(s:G2)(H:Hp)(E:XK),Room k (A.deeper (PyProof.Rows.envOfC qual (j4 st) s.heap.objs.size f tH)) -> ∃ t,PSs (qy v8 P w K mg tM N qual (j4 st) f tH A tL s H E).nox (qf st) t/\SemWS t b)(hw:∀ xs,pre xs->b (xs.map .sh++List.replicate (N.length-xs.length) .no) (λ_=>False) λy _=>R xs y):sQ P w K mg tM v8 (k+1) f fd ps (spV pre R):=by
 refine F.ok S (λvs H Q E h=>?_) (λtH A tL s H vs Q E hr h=>?_)
 .obtain ⟨Hs,xs,_,r,hp,_⟩:=h;rw [r.length];exact hpre xs hp
 .obtain ⟨Hs,xs,sm,r,hp,q⟩:=h;obtain ⟨t,ht,sem⟩:=hb tH A tL s H E hr;refine ⟨t,ht,sem.h (hw xs hp) (CD sm r) (λε σ Hs' H' z _ _=>z.elim) λy ε σ v Hs' H' hR rd g rv=>?_⟩;exact q y v Hs' H' hR ⟨g,λb o e=>rd.s2 b o e ye,rd.s3,rd.s4⟩ rv
def scr (K:Fg)(ns:EH):PV:= .op λH v=>∃ a,v = .ref a/\sK K H a (ns.map V.int)
def Fu {ns:EH}(s:sL Hs H)(r:Rep Hs (scr K ns) v):∃ a,v = .ref a/\sK K H a (ns.map V.int):=by obtain ⟨H1,s1,a,rfl,q⟩:=rep_op.mp r;exact ⟨a,rfl,(s1.trans s).seq q⟩
def ZD (K:Fg):Sp:=λvs H Q _=>∃(a:Addr)(ns:EH),vs=[.ref a]/\sK K H a (ns.map V.int)/\ns.length<=63/\∀ H',Q (.bl true) H'
def okL {x:Str}{f:Addr}{k:Nat}(F:Fun K x qual st f fd)(S:y8 N ["script"] (j4 st))(hb:∀ (tH:G1) (A:G4) (tL:EK) (s:G2) (H:Hp) (E:XK),Room k (A.deeper (PyProof.Rows.envOfC qual (j4 st) s.heap.objs.size f tH)) -> ∃ t,PSs (qy v8 P w K mg tM N qual (j4 st) f tH A tL s H E).nox (qf st) t/\SemWS t b)(hw:∀ ns:EH,ns.length<=63->b (.sh (scr K ns)::List.replicate (N.length-1) .no) (λ_=>False) λy _=>y = .at (.bl true)):sQ P w K mg tM v8 (k+1) f fd ["script"] (ZD K):=by
 refine F.ok S (λvs H Q E h=>?_) (λtH A tL s H vs Q E hr h=>?_)
 .obtain ⟨a,ns,rfl,_⟩:=h;rfl
 .obtain ⟨a,ns,rfl,hS,h63,q⟩:=h;obtain ⟨t,ht,sem⟩:=hb tH A tL s H E hr;have r:sR H [scr K ns] [.ref a]:= .one (rep_op.mpr ⟨H,.refl _,a,rfl,hS⟩);refine ⟨t,ht,sem.h (hw ns h63) (CD (N:=N) (.refl H) r) (λε σ Hs' H' z _ _=>z.elim) λy ε σ v Hs' H' hR rd g rv=>?_⟩;subst hR;cases tD.mp rv;exact q H'
class xz (w:W):Prop where
 h:∀{ε:ME}{P P':AW},(∀ y e,P y e->P' y e)->w ε P->w ε P'
class wd (w:WA):Prop where
 h:∀{ε:ME}{P P':AL},(∀ y e,P y e->P' y e)->w ε P->w ε P'
class Qh (w:WT):Prop where
 h:∀{ε:ME}{P P':Bool->ME->Prop},(∀ y e,P y e->P' y e)->w ε P->w ε P'
class zo (w:WS):Prop where
 h:∀{ε:ME}{N N':ME->Prop}{R R':AW},(∀ e,N e->N' e)->(∀ y e,R y e->R' y e)->w ε N R->w ε N' R'
instance {f:M}:xz (wP f) where h:=λk ⟨y,e,q⟩=>⟨y,e,k _ _ q⟩
instance {f:MB}:Qh (wPT f) where h:=λk ⟨y,e,q⟩=>⟨y,e,k _ _ q⟩
instance {g:AD}{b:W}[A:xz a][B:xz b]:xz (xU g a b) where h:=λk h=>A.h (λ_ _ h1=>B.h (λ_ _ ⟨z,e,q⟩=>⟨z,e,k _ _ q⟩) h1) h
instance:Qh vz where h:=λk h=>k _ _ h
def Wg {c:Bool}{A B A' B':Prop}(h1:A->A')(h2:B->B')(h:if c=true then A else B):if c=true then A' else B':=by
 cases c with
 |true=>exact za (h1 (by simpa using h))
 |false=>exact xZ (h2 (by simpa using h))
instance:wd qS where h:=λk h=>k _ _ h
instance [A:xz a][B:wd r]:wd (p0 a r) where h:=λk h=>A.h (λ_ _ h1=>B.h (λ_ _ h2=>k _ _ h2) h1) h
instance {i:Nat}[A:xz a]:xz (xg i a) where h:=λk h=>⟨h.1,A.h (λ_ _ ⟨n,m,e1,e2,e3,q⟩=>⟨n,m,e1,e2,e3,k _ _ q⟩) h.2⟩
instance {i:Nat}{a:WA}[A:wd a]:xz (zw i pre R a) where h:=λk h=>⟨h.1,A.h (λ_ _ ⟨h1,h2,h3⟩=>⟨h1,h2,λy n r=>k _ _ (h3 y n r)⟩) h.2⟩
instance {i:Nat}[A:xz a]:xz (wPop i a) where h:=λk h=>⟨h.1,A.h (λ_ _ ⟨xs,j,y,e1,e2,e3,e4,e5,e6,q⟩=>⟨xs,j,y,e1,e2,e3,e4,e5,e6,k _ _ q⟩) h.2⟩
instance {f:MA}:wd (wIp f) where h:=λk ⟨y,e,q⟩=>⟨y,e,k _ _ q⟩
theorem UW {g:MG}{c:WT}{f:W}{ts:EI}[C:Qh c][F:xz f]{Q Q':AL}(k:∀ y e,Q y e->Q' y e):∀(xs ys:C5)(ε:ME),wb g c f ts xs ys ε Q->wb g c f ts xs ys ε Q'
 |[],ys,ε,h=>k _ _ h
 |x::xs,ys,ε,h=>by
  obtain ⟨ε1,e1,h1⟩:=h;exact ⟨ε1,e1,C.h (λb ε2 h2=>Wg (λh3=>F.h (λy ε3 h4=>UW k xs _ _ h4) h3) (λh3=>UW k xs _ _ h3) h2) h1⟩
instance {tK:C9}{g:MG}{c:WT}{f:W}[I:wd it][C:Qh c][F:xz f]:xz (wa tK ts it g c f) where
 h:=λk h=>I.h (λ_ _ ⟨h1,h2,h3⟩=>⟨h1,h2,UW (λ_ _ ⟨q1,q2⟩=>⟨q1,k _ _ q2⟩) _ _ _ h3⟩) h
instance:zo jy where h:=λk _ h=>k _ h
instance {a:WS}[A:zo a][B:zo b]:zo (sH a b) where h:=λk r h=>A.h (λ_ h1=>B.h k r h1) r h
instance {i:Nat}[A:xz a]:zo (qw i a) where h:=λk _ h=>A.h (λ_ _ h1=>k _ h1) h
instance [A:xz a]:zo (zm a) where h:=λ_ r h=>A.h r h
instance {c:WT}{a:WS}[C:Qh c][A:zo a][B:zo b]:zo (zO c a b) where h:=λk r h=>C.h (λ_ _ h1=>Wg (λh2=>A.h k r h2) (λh2=>B.h k r h2) h1) h
instance {i:Nat}[A:xz a]:zo (zM i a) where h:=λk _ h=>⟨h.1,A.h (λ_ _ ⟨xs,e1,e2,q⟩=>⟨xs,e1,e2,k _ q⟩) h.2⟩
theorem DT {g:MG}{f:WS}[F:zo f]{N N':ME->Prop}{R R':AW}(k:∀ e,N e->N' e)(r:∀ y e,R y e->R' y e):∀(xs:C5)(ε:ME),Qb g f xs ε N R->Qb g f xs ε N' R'
 |[],ε,h=>k _ h
 |x::xs,ε,h=>by
  obtain ⟨ε1,e1,h1⟩:=h;exact ⟨ε1,e1,F.h (λε2 h2=>DT k r xs ε2 h2) r h1⟩
instance {g:MG}{f:WS}[I:wd it][F:zo f]:zo (wFor it g f) where h:=λk r h=>I.h (λ_ _ h1=>DT k r _ _ h1) h
theorem VI {g:MG}{c:WT}{f:W}{ts:EI}{Q:AL}[C:Qh c][F:xz f](I:C5->C5->ME->Prop)(hd:∀ ys ε,I [] ys ε->Q ys ε)(hs:∀ x xs ys ε,I (x::xs) ys ε->∃ ε1,g x ε=some ε1/\c ε1 λb ε2=>if b=true then f ε2 λy ε3=>I xs (ys++[y]) (rst ts ε3) else I xs ys (rst ts ε2)):∀(xs ys:C5)(ε:ME),I xs ys ε->wb g c f ts xs ys ε Q
 |[],ys,ε,h=>hd ys ε h
 |x::xs,ys,ε,h=>by
  obtain ⟨ε1,e1,h1⟩:=hs x xs ys ε h;exact ⟨ε1,e1,C.h (λb ε2 h2=>Wg (λh3=>F.h (λy ε3 h4=>VI I hd hs xs _ _ h4) h3) (λh3=>VI I hd hs xs _ _ h3) h2) h1⟩
def Jb {g:MG}{f:W}{Q:AL}[F:xz f](I:C5->C5->ME->Prop)(hd:∀ ys ε,I [] ys ε->Q ys ε)(hs:∀ x xs ys ε,I (x::xs) ys ε->∃ ε1,g x ε=some ε1/\f ε1 λy ε3=>I xs (ys++[y]) (rst ts ε3))(xs ys:C5)(ε:ME)(h:I xs ys ε):wb g vz f ts xs ys ε Q :=
 VI I hd (λx xs ys ε h=>by
  obtain ⟨ε1,e,q⟩:=hs x xs ys ε h;refine ⟨ε1,e,?_⟩;show if true=true then (f ε1 λy ε3=>I xs (ys++[y]) (rst ts ε3)) else I xs ys (rst ts ε1)
  rw [rB rfl];exact q) xs ys ε h
theorem QD {g:MG}{f:WS}{N:ME->Prop}{R:AW}[F:zo f](I:AL)(hd:∀ ε,I [] ε->N ε)(hs:∀ x xs ε,I (x::xs) ε->∃ ε1,g x ε=some ε1/\f ε1 (λε2=>I xs ε2) R):∀(xs:C5)(ε:ME),I xs ε->Qb g f xs ε N R
 |[],ε,h=>hd ε h
 |x::xs,ε,h=>by
  obtain ⟨ε1,e1,h1⟩:=hs x xs ε h;exact ⟨ε1,e1,F.h (λε2 h2=>QD I hd hs xs ε2 h2) (λ_ _ z=>z) h1⟩
section
variable{a b:MS}{f g:M}{i:Nat}{o:Option Out}
def u7 (h:a ε=some (.nx ε1))(k:b ε1=o):y9 a b ε=o:=by unfold y9;rw [h];exact k
def Jp (h:a ε=some (.rt y)):y9 a b ε=some (.rt y):=by unfold y9;rw [h];rfl
def o7 (h:f ε=some x):p9 i f ε=some (.nx (ε.set i (.sh x))):=by unfold p9;rw [h];rfl
def XG (h:f ε=some x):vI i f ε=some (.nx (ε.set i (.ow x))):=by unfold vI;rw [h];rfl
def c8 (h:f ε=some x):u9 f ε=some (.rt x):=by unfold u9;rw [h];rfl
def y7 {G:AD}{r:EA}(h1:f ε=some x)(h2:g ε=some y)(h:G x y=r):z5 G f g ε=r:=by unfold z5;rw [h1];show Option.bind (g ε) _=_;rw [h2];exact h
def z6 {r:EA}(h1:as ε=some xs)(h:m xs=r):z0 m as ε=r:=by unfold z0;rw [h1];exact h
def v6 {r:MA}(h1:f ε=some x)(h2:r ε=some xs):q0 f r ε=some (x::xs):=by unfold q0;rw [h1];show Option.bind (r ε) _=_;rw [h2];rfl
def vM (h:c ε=some true)(k:a ε=o):m4 c a b ε=o:=by unfold m4;rw [h];exact k
def qB (h:c ε=some false)(k:b ε=o):m4 c a b ε=o:=by unfold m4;rw [h];exact k
def jH {it:MA}(h:it ε=some xs)(k:qH G a xs ε=o):xY it G a ε=o:=by unfold xY;rw [h];exact k
def Qw {l:AO}{lo hi:EV}(h1:f ε=some (.lst xs))(h2:l ε=some lo)(h3:u ε=some hi):qA f l u ε=some (.lst (jd xs lo hi)):=by unfold qA;rw [h1];show Option.bind (l ε) _=_;rw [h2];show Option.bind (u ε) _=_;rw [h3];rfl
def xP (h:as ε=some xs)(hl:xs.length<=lim):p6 as ε=some (.lst xs):=by unfold p6;rw [h];show (if _ then _ else _)=_;rw [rB hl]
def jJ (h:as ε=some xs)(hl:xs.length<=lim):xu as ε=some (.tup xs):=by unfold xu;rw [h];show (if _ then _ else _)=_;rw [rB hl]
def Bt {tK:C9}{it:MA}(h:it ε=some xs)(hc:zA tK ts=true)(hl:xs.length<=lim)(k:qO G c f (o6 tK ε) xs=some ys):c6 tK ts it G c f ε=some (.lst ys):=by unfold c6;rw [h];show (if _ then _ else _)=_;rw [rB ⟨hc,hl⟩,k];rfl
end
def JW (h:xs.length+ys.length<=lim):b9 (.lst xs) (.lst ys)=some (.lst (xs++ys)):=by show (if _ then _ else _)=_;rw [rB h]
def zE {k:Nat}{b:MS}(hl:xs.length=k)(h:b (xs.map .sh++List.replicate (n-k) .no)=some (.rt y)):qG n k b xs=some y:=by unfold qG;rw [rB hl,h];rfl
def n9 {k:Nat}{b:MS}(hl:xs.length=k)(h:b (xs.map .sh++List.replicate (n-k) .no)=some (.rt y)):p8 n k b xs=some y:=by unfold p8;rw [rB hl,h];rfl
theorem WN {f:PV->PV->Option Bool}:∀{xs:C5},(∀ x∈xs,f x x=some true)->jr f xs xs=some true
 |[],_=>rfl
 |x::xs,h=>by unfold jr;rw [h x yR];show Option.bind (jr f xs xs) _=_;rw [WN λy hy=>h y (yO _ hy)];rfl
def jR:Nat->PV->Prop
 |_,.at u=>p5 u=true
 |n+1,.lst xs=>∀ x∈xs,jR n x
 |n+1,.tup xs=>∀ x∈xs,jR n x
 |_,_=>False
theorem Vb:∀(n:Nat){x:PV},jR n x->peq n x x=some true
 |0,x,h=>by
  cases x with
  |«at» u=>show (if _ then _ else _)=_;rw [rB ⟨h,h⟩,Jn h]
  |_=>exact h.elim
 |n+1,x,h=>by
  cases x with
  |«at» u=>show (if _ then _ else _)=_;rw [rB ⟨(show p5 u=true from h),h⟩,Jn h]
  |lst xs=>show (if _ then _ else _)=_;rw [rB rfl];exact WN λy hy=>Vb n (h y hy)
  |tup xs=>show Option.bind (jr (peq n) xs xs) _=_;rw [WN λy hy=>Vb n (h y hy)];show some (true&&(xs.length==xs.length))=_;rw [pR];rfl
  |_=>exact h.elim
def PR (h:jR 6 x):i5 x x=some (.at (.bl true)):=by unfold i5;rw [Vb 6 h];rfl
def WH (h:jR 6 x):pNe x x=some (.at (.bl false)):=by unfold pNe;rw [Vb 6 h];rfl
class zP (K:Fg)(C:Addr):Prop where
 c:Cls K C
class xh (K:Fg)(C:Addr)(f:Str):Prop where
 n:NoAttr K C f
def QC (f:Str):C7->C5->Option PV
 |n::ns,x::xs=>if f=n then some x else QC f ns xs
 |_,_=>none
theorem Pd {H:Hp}{f:Str}{y:PV}:∀{fs:ES}{xs:C5},sR H xs (fs.map (·.2))->QC f (fs.map (·.1)) xs=some y->∃ v,fs.lookup f=some v/\Rep H y v
 |[],xs,r,h=>by cases xs<;>cases h
 |p::fs,xs,r,h=>by
  cases xs with
  |nil=>cases h
  |cons x xs =>
   obtain ⟨v,w,e,p1,p2⟩:=tz.mp r;rw [yH] at e;injection e with e1 e2;subst e1 e2;rw [yH] at h;unfold QC at h;rw [uN];split at h
   .rename_i hf;cases h;rw [hf,pR];exact ⟨p.2,rfl,p1⟩
   .rename_i hf;rw [re.mpr hf];exact Pd p2 h
def zq (C:Addr)(f:Str)(a:M):M:=λε=>(a ε).bind λx=>match x with
 | .ob C' ns xs=>if C'=C then QC f ns xs else none
 |_=>none
def LD {a:M}(h:zq C f a ε=some y):∃ ns xs,a ε=some (.ob C ns xs)/\QC f ns xs=some y:=by
 unfold zq at h;obtain ⟨x,ex,h1⟩:=tE h;split at h1
 .split at h1
  .rename_i hc;subst hc;exact ⟨_,_,ex,h1⟩
  .cases h1
 .cases h1
instance {a:M}[c:zP K C][n:xh K C f][s:qd te a]:SemE (tFld K te f) (zq C f a) where
 h:=λe _ _ _ _ _ rs _ q=>by
  obtain ⟨ns,xs,ea,el⟩:=LD e;refine s.h ea rs λv tG H1 x1 r1=>?_;obtain ⟨p,dx,fs,rfl,hp,hk,hr⟩:=CJ x1.s3 r1;rw [<- hk] at el;obtain ⟨u,hu,ru⟩:=Pd hr el;exact ⟨p,C,dx,fs,u,rfl,hp,c.c,n.n,hu,q u _ _ x1 ru⟩
def vU (K:Fg){ta:TE}(hK:X.K=K)(he:PE X e ta)(hb:attributeBase e f X.rC (eval e X.rC)=eval e X.rC:=by rfl):PE X (.Attribute e f pos) (tFld K ta f):=by subst hK;exact Si he hb
structure Mt (P:G3)(w:G5)(K:Fg)(mg:AB)(tM:Heap)(k:Nat)(C:Addr)(m:Str)(ps:C7)(sp:Sp):Prop where
 ex:∃ f fd,sQ P w K mg tM v8 k f fd ps sp/\Xl K C m f/\Cls K C/\Binds K fd ps []
section
variable{k j:Nat}{m:Str}{o:Expr}{ta:TE}{t:TA}
def Zo {pl:Sem Bool}(c:Mt X.rD X.w X.K X.mg X.tM k C m ps sp)(hr:Room j X.A)(hj:k<=j)(ho:PE X o ta)(ha:PA X (e::es) t)
  (hst:starEach (e::es) X.rC=(false,eval e X.rC)::starEach es X.rC:=by rfl) (hpl:(backTo pos (starEach es X.rC)).any (·.1)=false:=by rfl)
  (ht:eval (.Call (.Attribute o m apos) (e::es) [] pos) X.rC=(do
   let ov <- eval o X.rC
   standAt apos.atName
   let (f,first) <- holding [ov] (getMethod ov m pl)
   callWith pos f first (backTo pos (starEach (e::es) X.rC)) (backToKw pos (keywordEach [] X.rC))):=by rfl) :
  PE X (.Call (.Attribute o m apos) (e::es) [] pos) (Qa C m sp [] E0 ta t):=by
 obtain ⟨f,fd,F,hm,hc,hb⟩:=c.ex;exact Sl ho hc hm F (hr.mono hj) hb .nil JY ha hst hpl ht
def wQ {pl:Sem Bool}(c:Mt X.rD X.w X.K X.mg X.tM k C m ps sp)(hr:Room j X.A)(hj:k<=j)(ho:PE X o ta)
  (ht:eval (.Call (.Attribute o m apos) [] [] pos) X.rC=(do
   let ov <- eval o X.rC
   standAt apos.atName
   let (f,first) <- holding [ov] (getMethod ov m pl)
   callWith pos f first (backTo pos (starEach [] X.rC)) (backToKw pos (keywordEach [] X.rC))):=by rfl) :
  PE X (.Call (.Attribute o m apos) [] [] pos) (Qa C m sp [] E0 ta qL):=by
 obtain ⟨f,fd,F,hm,hc,hb⟩:=c.ex;exact Sm ho hc hm F (hr.mono hj) hb .nil JY ht
end
variable {fr:Bool}
def je (c:MB)(b:MS):Nat->MS
 |0=>λ_=>none
 |n+1=>λε=>(c ε).bind λk=>if k=true then (b ε).bind λo=>match o with
  | .nx ε'=>je c b n ε'
  | .ct ε'=>je c b n ε'
  | .bk ε'=>some (.nx ε')
  | .rt y=>some (.rt y) else some (.nx ε)
instance {t:TT}{b:MS}[sc:qV t c][sb:i0 fr tb b]:i0 fr (Du t tb) (je c b n) where
 h:=λ{ε o} e Hs0 H0 Hs H σ rs D q=>by
  refine ⟨λm σ H=>∃ Hs ε,RS Hs0 H0 Hs H σ ε/\je c b m ε=some o,⟨n,Hs,ε,rs,e⟩,?_⟩;rintro m σ1 H1 ⟨tG,ε1,r1,e1⟩;cases m with
  |zero=>cases e1
  |succ m =>
   unfold je at e1;obtain ⟨k,ek,e2⟩:=tE e1;refine sc.h ek r1 λtF H2 x2=>?_;cases k with
   |true =>
    rw [rB rfl] at e2;obtain ⟨o1,eo,e3⟩:=tE e2;refine za ⟨λσ' H'=>∃ Hs ε,RS Hs0 H0 Hs H' σ' ε/\je c b m ε=some o,λσ' H' p=>⟨m,uq m,p⟩,sb.h eo (r1.go x2) ?_⟩;cases o1 with
    |nx ε'=>exact λHs3 H3 σ3 r3=>⟨Hs3,ε',r3,e3⟩
    |ct ε'=>exact λHs3 H3 σ3 r3=>⟨Hs3,ε',r3,e3⟩
    |bk ε'=>cases e3;exact q
    |rt y=>cases e3;exact q
   |false=>rw [rq yQ] at e2;cases e2;exact xZ (q _ _ _ (r1.go x2))
def jj:PV->Option j5
 | .at (.int i)=>some (.inl i)
 | .at (.str x)=>some (.inr x)
 |_=>none
def vP {k:j5}(r:sF Hs H x v)(h:jj x=some k):v=kV k:=by
 unfold jj at h;split at h
 .cases h;cases c9 r;rfl
 .cases h;cases c9 r;rfl
 .cases h
def xm (k:j5):List j5->C5->Option PV
 |n::ns,x::xs=>if n=k then some x else xm k ns xs
 |_,_=>none
theorem JD {H:Hp}{k:j5}:∀{kvs:EL}{xs:C5},sR H xs (kvs.map (·.2))->match xm k (kvs.map (·.1)) xs with
  |some y=>∃ v,qr kvs k=some v/\Rep H y v
  |none=>qr kvs k=none
 |[],xs,r=>by
  have hx:xs=[]:=tZ.mp r.length.symm;subst hx;rfl
 |p::kvs,xs,r=>by
  cases xs with
  |nil=>have:=r.length;simp at this
  |cons x xs =>
   obtain ⟨v,w,e,p1,p2⟩:=tz.mp r;rw [yH] at e;injection e with e1 e2;subst e1 e2;rw [yH];unfold xm;by_cases hk:p.1=k
   .rw [rB hk];refine ⟨p.2,?_,p1⟩;unfold qr;rw [uy,yt hk];rfl
   .rw [rq hk];have ih:=JD (k:=k) p2;have ev:qr (p::kvs) k=qr kvs k:=by unfold qr;rw [uy,yA hk]
    rw [ev];exact ih
def vc (a b:M):M:=λε=>(a ε).bind λx=>(b ε).bind λy=>(jj y).bind λk=>match x with
 | .dk ks xs=>xm k ks xs
 | .fk ks xs=>xm k ks xs
 |_=>none
instance {ty:TE}{a b:M}[sa:qd td a][sb:qd ty b]:SemE (Dj td ty) (vc a b) where
 h:=λe _ _ _ _ _ rs _ q=>by
  obtain ⟨x,ex,e1⟩:=tE e;obtain ⟨y,ey,e2⟩:=tE e1;obtain ⟨k,ek,e3⟩:=tE e2;split at e3
  .refine sa.h ex rs λv tG H1 x1 r1=>sb.h ey (rs.go x1) λw tF H2 x2 r2=>?_;obtain ⟨p,kvs,rfl,hp,hk,hr⟩:=vX x2.s3 (r1.ext x2);have l:=JD (k:=k) hr;rw [hk,e3] at l;obtain ⟨u,hu,ru⟩:=l;have ew:=vP r2 ek;subst ew;exact ⟨p,u,rfl,by rw [<- hu];exact DGet.k hp,q u _ _ (x1.trans x2) ru⟩
  .refine sa.h ex rs λv tG H1 x1 r1=>sb.h ey (rs.go x1) λw tF H2 x2 r2=>?_;obtain ⟨p,o,kvs,rfl,hp,hk,hr⟩:=Zy x2.s3 (r1.ext x2);have l:=JD (k:=k) hr;rw [hk,e3] at l;obtain ⟨u,hu,ru⟩:=l;have ew:=vP r2 ek;subst ew;exact ⟨p,u,rfl,by rw [<- hu];exact .inl ⟨kvs,k,.inr ⟨o,hp⟩,rfl,rfl⟩,q u _ _ (x1.trans x2) ru⟩
  .cases e3
def dDIn (b a:M):M:=λε=>(b ε).bind λy=>(a ε).bind λx=>(jj y).bind λk=>match x with
 | .dk ks xs=>some (.at (.bl (xm k ks xs).isSome))
 | .fk ks xs=>some (.at (.bl (xm k ks xs).isSome))
 |_=>none
def Jd (b a:M):M:=λε=>(b ε).bind λy=>(a ε).bind λx=>(jj y).bind λk=>match x with
 | .dk ks xs=>some (.at (.bl (!(xm k ks xs).isSome)))
 | .fk ks xs=>some (.at (.bl (!(xm k ks xs).isSome)))
 |_=>none
def XQ {k:j5}(r:sR H xs (kvs.map (·.2))):(xm k (kvs.map (·.1)) xs).isSome=(qr kvs k).isSome:=by
 have l:=JD (k:=k) r;cases e:xm k (kvs.map (·.1)) xs with
 |none=>rw [e] at l;rw [show qr kvs k=none from l];rfl
 |some y=>rw [e] at l;obtain ⟨v,hv,_⟩:=l;rw [hv];rfl
instance {ty:TE}{a b:M}[sa:qd td a][sb:qd ty b]:SemE (tDIn ty td) (dDIn b a) where
 h:=λe _ _ _ _ _ rs _ q=>by
  obtain ⟨y,ey,e1⟩:=tE e;obtain ⟨x,ex,e2⟩:=tE e1;obtain ⟨k,ek,e3⟩:=tE e2;split at e3
  .cases e3;refine sb.h ey rs λw tG H1 x1 r1=>sa.h ex (rs.go x1) λv tF H2 x2 r2=>?_;obtain ⟨p,kvs,rfl,hp,hk,hr⟩:=vX x2.s3 r2;have ew:=vP r1 ek;subst ew;exact ⟨p,_,rfl,DGet.k hp,q _ _ _ (x1.trans x2) (tD.mpr (by rw [<- hk,XQ hr]))⟩
  .cases e3;refine sb.h ey rs λw tG H1 x1 r1=>sa.h ex (rs.go x1) λv tF H2 x2 r2=>?_;obtain ⟨p,o,kvs,rfl,hp,hk,hr⟩:=Zy x2.s3 r2;have ew:=vP r1 ek;subst ew;exact ⟨p,_,rfl,.inl ⟨kvs,_,.inr ⟨o,hp⟩,rfl,rfl⟩,q _ _ _ (x1.trans x2) (tD.mpr (by rw [<- hk,XQ hr]))⟩
  .cases e3
instance {ty:TE}{a b:M}[sa:qd td a][sb:qd ty b]:SemE (Dl ty td) (Jd b a) where
 h:=λe _ _ _ _ _ rs _ q=>by
  obtain ⟨y,ey,e1⟩:=tE e;obtain ⟨x,ex,e2⟩:=tE e1;obtain ⟨k,ek,e3⟩:=tE e2;split at e3
  .cases e3;refine sb.h ey rs λw tG H1 x1 r1=>sa.h ex (rs.go x1) λv tF H2 x2 r2=>?_;obtain ⟨p,kvs,rfl,hp,hk,hr⟩:=vX x2.s3 r2;have ew:=vP r1 ek;subst ew;exact ⟨p,_,rfl,DGet.k hp,q _ _ _ (x1.trans x2) (tD.mpr (by rw [<- hk,XQ hr]))⟩
  .cases e3;refine sb.h ey rs λw tG H1 x1 r1=>sa.h ex (rs.go x1) λv tF H2 x2 r2=>?_;obtain ⟨p,o,kvs,rfl,hp,hk,hr⟩:=Zy x2.s3 r2;have ew:=vP r1 ek;subst ew;exact ⟨p,_,rfl,.inl ⟨kvs,_,.inr ⟨o,hp⟩,rfl,rfl⟩,q _ _ _ (x1.trans x2) (tD.mpr (by rw [<- hk,XQ hr]))⟩
  .cases e3
def KZ:M:=λ_=>some (.dk [] [])
instance:xJ Dk KZ where
 h:=λe _ _ _ _ _ rs _ q=>by
  cases e;exact λp hp=>q p _ _ (.newO rs.sub hp) hp (rs.sub.free hp) ⟨[],u5,rfl,.nil⟩
def Zx (k:j5)(y:PV):List j5->C5->List PV
 |n::ns,x::xs=>if n=k then y::Zx k y ns xs else x::Zx k y ns xs
 |_,xs=>xs
def Vg (k:j5)(y:PV)(ks:List j5)(xs:C5):PV:=if (xm k ks xs).isSome=true then .dk ks (Zx k y ks xs) else .dk (ks++[k]) (xs++[y])
theorem Cg {H:Hp}{k:j5}{y:PV}{v:V}(ry:Rep H y v):∀{kvs:EL}{xs:C5},sR H xs (kvs.map (·.2))->sR H (Zx k y (kvs.map (·.1)) xs) ((kvs.map (λkv=>if kv.1=k then (kv.1,v) else kv)).map (·.2))/\(kvs.map (λkv=>if kv.1=k then (kv.1,v) else kv)).map (·.1)=kvs.map (·.1)
 |[],xs,r=>by
  have hx:xs=[]:=tZ.mp r.length.symm;subst hx;exact ⟨.nil,rfl⟩
 |p::kvs,xs,r=>by
  cases xs with
  |nil=>have:=r.length;simp at this
  |cons x xs =>
   obtain ⟨u,w,e,p1,p2⟩:=tz.mp r;rw [yH] at e;injection e with e1 e2;subst e1 e2;obtain ⟨h1,h2⟩:=Cg (k:=k) ry p2;rw [yH,yH,yH,yH];unfold Zx;by_cases hk:p.1=k
   .rw [rB hk,rB hk];exact ⟨.cons ry h1,by rw [h2]⟩
   .rw [rq hk,rq hk];exact ⟨.cons p1 h1,by rw [h2]⟩
def dPut (i:Nat)(kk vv:M):MS:=λε=>(vv ε).bind λy=>(kk ε).bind λx=>(jj x).bind λk=>match ε[i]? with
 |some (.ow (.dk ks xs))=>if ks.length<=lim then some (.nx (ε.set i (.ow (Vg k y ks xs)))) else none
 |_=>none
instance {i:Nat}{ty:TE}{kk vv:M}[sk:SemE ty kk][sv:SemE tv vv]:i0 fr (CS (qM i) ty tv) (dPut i kk vv) where
 h:=λe _ _ _ _ _ rs _ q=>by
  obtain ⟨y,ey,e1⟩:=tE e;obtain ⟨x,ex,e2⟩:=tE e1;obtain ⟨k,ek,e3⟩:=tE e2;split at e3
  .rename_i ks xs hi;split at e3
   .rename_i hl;cases e3;refine sv.h ey rs λv tG H1 x1 r1=>?_;obtain ⟨p,hp,n0,n,t⟩:=(rs.go x1).ow i _ hi;refine ⟨_,hp,sk.h ex (rs.go x1) λw tF H2 x2 r2=>?_⟩;obtain ⟨p',hp',_,n2,kvs,hv,hk,hr⟩:=((rs.go x1).go x2).ow i _ hi;rw [hp] at hp';injection hp' with hp';injection hp' with hp';injection hp' with hp';subst hp';have ew:=vP (.inl r2:sF tF H2 x w) ek;subst ew;have hlen:kvs.length<=lim:=by rw [<- hk,yZ] at hl;exact hl
    refine ⟨p,_,rfl,DPut.k hv (XO hlen),q _ _ _ (((rs.go x1).go x2).change hi hp ?_)⟩;have hs:=XQ (k:=k) hr;unfold Vg zX;rw [UP,<- hs,hk];by_cases hc:(xm k ks xs).isSome=true
    .rw [rB hc,rB hc];obtain ⟨q1,q2⟩:=Cg (k:=k) (r1.mono x2.s1) hr;exact ⟨_,u5,by rw [q2,hk],by rw [<- hk];exact q1⟩
    .rw [rq hc,rq hc];exact ⟨_,u5,by rw [yE,hk];rfl,by rw [yE];exact hr.append (.one (r1.mono x2.s1))⟩
   .cases e3
  .cases e3
def rLeS:R2:=λx y H Q=>∃ i j,x = .str i/\y = .str j/\Q (.bl (!decide (j.cps.toList<i.cps.toList))) H
def PN :OpR X (compareOp .LtE) rLeS:=TZ
def pLeS:PV->PV->Option PV
 | .at (.str i),.at (.str j)=>some (.at (.bl (!decide (j.cps.toList<i.cps.toList))))
 |_,_=>none
instance:SemR rLeS pLeS where
 h:=λ{x y z} e {Hs H v w} s a b {Q} q=>by
  unfold pLeS at e;split at e
  .cases e;cases c9 a;cases c9 b;exact ⟨_,_,rfl,rfl,q _ _ _ (.refl s) (tD.mpr rfl)⟩
  .cases e
def ZA (z:Str):C5:=z.cps.toList.map λc=> .at (.str ⟨#[c]⟩)
def dItS (a:M):MA:=λε=>(a ε).bind λx=>match x with
 | .at (.str z)=>some (ZA z)
 |_=>none
def NW {z:Str}:vC (ItS z) (ZA z) Hs where
 go:=λi x tG H1 e g1 g2=>by
  unfold ZA at e;rw [yM] at e;obtain ⟨c,hc,rfl⟩:=yC.mp e;rw [tR] at hc;have hl:i<z.cps.size:=(ut.mp hc).1;refine ⟨hl,λv H2 y=>?_⟩;obtain ⟨rfl,c',hc',rfl⟩:=y;rw [hc] at hc';cases hc';exact ⟨tG,.refl g2,tD.mpr rfl⟩
 stop:=λtG H1 g1 g2=>by
  show (ZA z).length=z.cps.size;unfold ZA;rw [yZ,ub]
instance {a:M}[sa:SemE te a]:jc (iStr te) (dItS a) where
 h:=λe _ _ _ _ _ rs _ q=>by
  obtain ⟨x,ex,e1⟩:=tE e;split at e1
  .cases e1;exact sa.h ex rs λv tG H1 x1 r1=>⟨_,tD.mp r1,q _ _ _ x1 NW⟩
  .cases e1
theorem Cf {f:Str}{v:V}:∀{fs:ES},f∉fs.map (·.1)->xI f v fs=fs++[(f,v)]
 |[],_=>rfl
 |(g,x)::r,h=>by
  rw [yH] at h;unfold xI;rw [rq (show ¬ g=f from λz=>h (by rw [<- z];exact yR)),Cf λz=>h (yO _ z)];rfl
def DU (C:Addr)(f:Str)(a:W):WS:=λε N _=>a ε λy ε1=>∃ ns xs,ε1[0]?=some (.ow (.ob C ns xs))/\f∉ns/\ns.length<1000/\N (ε1.set 0 (.ow (.ob C (ns++[f]) (xs++[y]))))
instance [c:zP K C][n:xh K C f][sa:SemW te a]:SemWS (Zz K (qM 0) te f) (DU C f a) where
 h:=λh _ _ _ _ _ _ rd _ k _=>sa.h h rd λy ε1 v tG H1 h1 rd1 g1 r1=>by
  obtain ⟨ns,xs,he,hf,hl,h2⟩:=h1;obtain ⟨p,hp,h0,hs,dx,fs,hH,hk,hr⟩:=rd1.ow 0 _ he;have hf':f∉fs.map (·.1):=by rw [hk];exact hf
  have hl':fs.length<1000:=by rw [<- yZ (f:=(·.1)),hk];exact hl
  refine ⟨_,hp,p,C,dx,fs,rfl,hH,c.c,n.n,hl',?_⟩;rw [Cf hf'];exact k _ _ _ _ h2 (rd1.change he hp ⟨dx,_,u5,by rw [yE,hk];rfl,by rw [yE];exact hr.append (.one r1)⟩) g1
def Qt (C:Addr)(nm:Str)(m:AC)(i:Nat)(as:MA):M:=λε=>match ε[i]? with
 |some (.ow (.ob C' ns fs))=>if C'=C/\nm∉ns then (as ε).bind λxs=>(m (.ob C ns fs::xs)).bind λy=>match y with
  | .at u=>some (.at u)
  |_=>none else none
 |_=>none
instance {i:Nat}[sa:xi ta as]:SemE (Qa C nm (v7 m) [] E (qM i) ta) (Qt C nm m i as) where
 h:=λ{ε y} e {Hs0 H0 Hs H σ} rs {Q} q=>by
  unfold Qt at e;split at e
  .rename_i C' ns fs hi;split at e
   .rename_i hc;obtain ⟨rfl,hn⟩:=hc;obtain ⟨xs,ex,e1⟩:=tE e;obtain ⟨z,ez,e2⟩:=tE e1;split at e2
    .rename_i u;cases e2;obtain ⟨p,hp,n0,n,dx,gs,hH,hk,hr⟩:=rs.ow i _ hi;refine ⟨_,hp,p,dx,gs,rfl,hH,Wq (by rw [hk];exact hn),sa.h ex rs λvs tG H1 x1 r1=>?_⟩;have hH1:=x1.s2 _ _ hH;have n1:tG p=none:=x1.s4 p (by rw [hH];exact λz=>nomatch z) n;have g:sL tG (z9 tG p (.ins C' dx gs)):=λb w e=>by rw [j3 (k9 e n1)];exact e
     refine ⟨z9 tG p (.ins C' dx gs),_,_,?_,?_,ez,λv Hs' H' x r=>?_⟩
     .intro b w e;by_cases hb:b=p
      .subst hb;rw [u5] at e;cases e;exact hH1
      .rw [j3 hb] at e;exact x1.s3 _ _ e
     .rw [yp];exact .cons (rep_ob.mpr ⟨p,dx,gs,rfl,u5,hk,(hr.mono x1.s1).mono g⟩) (r1.mono g)
     .cases tD.mp r;refine q _ (λb=>if b=p then none else Hs' b) H' (x1.trans ⟨λb w e=>?_,x.s2,λb w e=>?_,λb hb w=>?_⟩) (tD.mpr rfl)
      .rw [rq (k9 e n1)];exact x.s1 _ _ (g _ _ e)
      .split at e
       .cases e
       .exact x.s3 _ _ e
      .by_cases hbp:b=p
       .rw [rB hbp]
       .rw [rq hbp];exact x.s4 b hb (by rw [j3 hbp];exact w)
    .cases e2
   .cases e
  .cases e
def spI (C:Addr)(m:AC):Sp:=λvs H Q _=>∃ Hs x dx xs ws y,vs = .ref x::ws/\sL Hs H/\H x=some (.ins C dx [])/\Hs x=none/\sR Hs xs ws/\m xs=some y /\
 ∀ Hs' H',sL Hs Hs'->(∀ b o,H b=some o->b≠x->H' b=some o)->sL Hs' H'->(∀ b,H b≠none->b≠x->Hs b=none->Hs' b=none)->Rep Hs' y (.ref x)->Q .non H'
instance {ds:EB}[sa:xi ta as]:SemE (ZE C (spI C m) ds E ta) (VM m ds as) where
 h:=λe _ _ _ _ _ rs _ q=>by
  obtain ⟨xs,ex,e1⟩:=tE e;refine sa.h ex rs λvs tG H1 x1 r1=>λx dx hx hdx hne=>?_;have s3:sL tG (z9 (z9 H1 dx (.own x)) x (.ins C dx [])):=λb o e=>by
   have e':=x1.s3 _ _ e;rw [j3 (k9 e' hx),j3 (k9 e' hdx)];exact e'
  refine ⟨tG,x,dx,_,_,_,rfl,s3,u5,x1.s3.free hx,r1.append (.ofAts ds),e1,λHs' H' g1 g2 g3 g4 r=>⟨rfl,q _ _ _ (x1.trans ⟨g1,λb o e=>?_,g3,λb hb z=>?_⟩) r⟩⟩
  .refine g2 b o ?_ (k9 e hx);rw [j3 (k9 e hx),j3 (k9 e hdx)];exact e
  .have hbx:b≠x:=λw=>hb (by rw [w];exact hx);have hbd:b≠dx:=λw=>hb (by rw [w];exact hdx);exact g4 b (by rw [j3 hbx,j3 hbd];exact hb) hbx z
def Ij {a:Addr}(s:sL Hs H)(ha:Hs a=none)(t:Top Hs H a y)(r:sR Hs xs ws):RD [a] Hs H Hs H (L2.start N (.ref a::ws)) (.ow y::xs.map .sh++List.replicate (N.length-(xs.length+1)) .no):=by
 have q:=zL (N:=N) (xs:= .at (.ref a)::xs) s (.cons (tD.mpr rfl) r);have tl:∀(i:Nat)(sl:sN),(sN.ow y::xs.map .sh++List.replicate (N.length-(xs.length+1)) .no)[i+1]?=some sl->((PV.at (.ref a)::xs).map sN.sh++List.replicate (N.length-(PV.at (.ref a)::xs).length) .no)[i+1]?=some sl:=λi sl h=>h;refine ⟨.refl _,λb o e _=>e,s,λ_ _ z=>z,λi x h=>?_,λi x h=>?_,λi j x y b h1 h2 _ _=>?_,?_,λb hb=>?_,λb hb=>?_,(λb hb=>⟨_,rfl⟩),λi x h=>by
  cases i with
  |zero=>simp at h
  |succ i=>exact Yg (xs:=PV.at (.ref a)::xs) (tl i _ h)⟩
 .cases i with
  |zero=>simp at h
  |succ i=>exact q.sh (i+1) x (tl i _ h)
 .cases i with
  |zero=>simp at h;subst h;exact ⟨a,by unfold L2.start;rfl,.inr (yU.mpr rfl),ha,t⟩
  |succ i=>exact rp (tl i _ h) (wX (xs:=PV.at (.ref a)::xs))
 .cases i with
  |zero =>
   cases j with
   |zero=>rfl
   |succ j=>exact rp (tl j _ h2) (wX (xs:=PV.at (.ref a)::xs))
  |succ i=>exact rp (tl i _ h1) (wX (xs:=PV.at (.ref a)::xs))
 .exact q.len
 .rw [yU.mp hb];unfold L2.start;rfl
 .rw [yU.mp hb];exact t.there
variable {fr:Bool}
structure ItOkB (J:It)(xs:C5)(Hs H:Hp):Prop where
 go:∀(i:Nat)(x:PV)(tG H1:Hp),xs[i]?=some x->sL Hs tG->sL H H1->sL tG H1->J.go i H1/\∀ v H2,J.yld i H1 v H2->∃ tF,Ext tG H1 tF H2/\Rep tF x v
 stop:∀(tG H1:Hp),sL Hs tG->sL H H1->sL tG H1->J.stop xs.length H1
class Gg (ti:TI)(f:MA):Prop where
 h:∀{ε xs},f ε=some xs->∀{Hs0 H0 Hs H σ},RS Hs0 H0 Hs H σ ε->∀{R:AX},(∀ J Hs' H',Ext Hs H Hs' H'->ItOkB J xs Hs' H'->R J H')->ti σ H R
instance {a:M}[sa:qd te a]:Gg (XJ K te) (b8 a) where
 h:=λe _ _ _ _ _ rs _ q=>by
  obtain ⟨x,ex,e1⟩:=tE e;split at e1
  .cases e1;refine sa.h ex rs λv tG H1 x1 r1=>?_;obtain ⟨p,vs,rfl,hp,r⟩:=qj x1.s3 r1;refine ⟨p,rfl,⟨vs,sK.of hp⟩,q _ _ _ x1 ⟨λi x tF H2 ei g1 g2 g3=>?_,λtF H2 g1 g2 g3=>⟨vs,sK.of (g2 _ _ hp),by rw [r.length];exact yP _⟩⟩⟩;obtain ⟨v,ev,rv⟩:=r.get ei;refine ⟨⟨vs,v,sK.of (g2 _ _ hp),ev⟩,λw H3 y=>?_⟩;obtain ⟨rfl,y⟩:=y;have z:=y vs (sK.of (g2 _ _ hp));rw [ev] at z;cases z;exact ⟨tF,.refl g3,rv.mono g1⟩
  .cases e1
def Xx (tK:C9)(ts:EI)(i:MA)(g:MG)(c:MB)(f:M):M:=λε=>(i ε).bind λxs=>if zA tK ts=true/\xs.length<=lim then (qO g c f (o6 tK ε) xs).bind λys=>some (.lst ys) else none
instance {tK:C9}{i:MA}{g:MG}{f:M}[si:Gg wi i][sg:vE tg ts g][sc:qV tt c][sf:SemE te f]:xJ (Xd wi tg tt te tK) (Xx tK ts i g c f) where
 h:=λe Hs0 H0 Hs H σ rs Q q=>by
  obtain ⟨xs,ex,e1⟩:=tE e;split at e1
  .rename_i hcl;obtain ⟨hcap,hl⟩:=hcl;unfold zA at hcap;rw [yg] at hcap;obtain ⟨ys,ey,e2⟩:=tE e1;cases e2;refine si.h ex rs λJ tG H1 x1 ok=>?_;have rc:=((rs.go x1).tK (uS hcap.1)).rebase;have wk:∀ i∈ts,(m9 tK σ)[i]?=some none:=λi hi=>by
    unfold m9;rw [yM,uS (uY.mp hcap.2 i hi)];rfl
   refine ⟨λk m zs H=>m=xs.length-k/\k<=xs.length/\∃ tF ws,Ext tG H1 tF H/\RS tG H0 tF H (m9 tK σ) (o6 tK _)/\sR tF ws zs/\ws.length<=k/\∃ rest,qO g c f (o6 tK _) (xs.drop k)=some rest/\ys=ws++rest,
    ⟨xs.length,by simp,yd _,tG,[],.refl x1.s3,rc,.nil,yP _,ys,ey,rfl⟩,?_⟩
   rintro k m zs H2 ⟨rfl,hk,tF,ws,x2,r2,rz,hw,rest,er,eys⟩;refine ⟨xL (by rw [rz.length];omega),?_⟩;by_cases hlt:k<xs.length
   .have hd:xs.drop k=xs[k]::xs.drop (k+1):=yk hlt;rw [hd] at er;unfold qO at er;obtain ⟨ε1,eg,er1⟩:=tE er;obtain ⟨b,eb,er2⟩:=tE er1;obtain ⟨go,yl⟩:=ok.go k xs[k] tF H2 (by simp [hlt]) x2.s1 x2.s2 x2.s3;refine .inr ⟨go,λv H3 y=>?_⟩;obtain ⟨Hs3,x3,r3⟩:=yl v H3 y;refine sg.h eg (r2.go x3) r3 λσ2 rs2 bt=>⟨bt.wk wk,sc.h eb rs2 λHs4 H4 x4=>?_⟩;cases b with
    |true =>
     rw [rB rfl] at er2;obtain ⟨z,ez,er3⟩:=tE er2;obtain ⟨rest',er4,er5⟩:=tE er3;cases er5;refine za (sf.h ez (rs2.go x4) λu Hs5 H5 x5 r5=>⟨xs.length-(k+1),by omega,rfl,hlt,Hs5,ws++[z],x2.trans (x3.trans (x4.trans x5)),((r2.go x3).go x4).go x5,?_,?_,rest',er4,?_⟩)
     .exact (rz.mono (x3.s1.trans (x4.s1.trans x5.s1))).snoc r5
     .rw [yV];simp;omega
     .rw [uW];exact eys
    |false=>rw [rq yQ] at er2;exact xZ ⟨xs.length-(k+1),by omega,rfl,hlt,Hs4,ws,x2.trans (x3.trans x4),(r2.go x3).go x4,rz.mono (x3.s1.trans x4.s1),by omega,rest,er2,eys⟩
   .have ek:k=xs.length:=by omega
    subst ek;rw [uo] at er;unfold qO at er;cases er;refine .inl ⟨ok.stop tF H2 x2.s1 x2.s2 x2.s3,λD hD=>?_⟩;rw [yp] at eys;subst eys;have x12:=x1.trans x2;exact q D tF _ (x12.trans (.newO x2.s3 hD)) (x12.s2.free hD) (x2.s3.free hD) ⟨zs,u5,rz⟩
  .cases e1
section
variable{f:M}{a:WS}{N:ME->Prop}{R:AW}
def wc (h:c ε=some false)(k:b ε N R):zO (wPT c) a b ε N R:=by
 refine ⟨false,h,?_⟩;show if false=true then a ε N R else b ε N R
 rw [rq yQ];exact k
def Xi (h:c ε=some true)(k:a ε N R):zO (wPT c) a b ε N R:=by
 refine ⟨true,h,?_⟩;show if true=true then a ε N R else b ε N R
 rw [rB rfl];exact k
def jF (h1:c ε=some false)(h2:d ε=some false):dOr c d ε=some false:=by unfold dOr;rw [h1];show (if false=true then some true else d ε)=_;rw [rq yQ];exact h2
def VO (h1:c ε=some true):dOr c d ε=some true:=by unfold dOr;rw [h1];rfl
def Jh (h1:c ε=some false)(h2:d ε=some true):dOr c d ε=some true:=by unfold dOr;rw [h1];show (if false=true then some true else d ε)=_;rw [rq yQ];exact h2
def KW {v:Bool}(h1:c ε=some true)(h2:d ε=some v):Xw c d ε=some v:=by unfold Xw;rw [h1];show (if true=true then d ε else some false)=_;rw [rB rfl];exact h2
def qP (h:c ε=some true):n8 c ε=some false:=by unfold n8;rw [h];rfl
def Jg (h:c ε=some false):n8 c ε=some true:=by unfold n8;rw [h];rfl
def qQ {v:Bool}(h:f ε=some (.at (.bl v))):r9 f ε=some v:=by unfold r9;rw [h];rfl
def i8 {v:Bool}(h:f ε=some (.at (.bl v))):dT f ε=some v:=by unfold dT;rw [h];rfl
def XM :qJ [.lst xs,.at (.ty "list")]=some (.at (.bl true)):=by unfold qJ tyP;simp only [yD,Oq]
end
variable {fr:Bool}
theorem VJ {g:MG}{f:M}{ε0:ME}{α:Type}(F G:α->PV):∀(l:List α),(∀ a∈l,∃ ε1,g (F a) ε0=some ε1/\f ε1=some (G a))->qO g c7 f ε0 (l.map F)=some (l.map G)
 |[],_=>rfl
 |a::l,h=>by
  obtain ⟨ε1,e1,e2⟩:=h a yR;have ih:=VJ F G l λb hb=>h b (yO _ hb);show Option.bind (g (F a) ε0) (λε1=>Option.bind (c7 ε1) λb=>if b=true then (f ε1).bind λy=>(qO g c7 f ε0 (l.map F)).bind λys=>some (y::ys) else qO g c7 f ε0 (l.map F))=_;rw [e1,ih];show (if true=true then (f ε1).bind λy=>some (y::l.map G) else some (l.map G))=_;rw [rB rfl,e2];rfl
theorem VH {g:MG}{c:MB}{f:M}{ε0:ME}{α:Type}(F G:α->PV)(p:α->Bool):∀(l:List α),(∀ a∈l,∃ ε1,g (F a) ε0=some ε1/\c ε1=some (p a)/\(p a=true->f ε1=some (G a)))->qO g c f ε0 (l.map F)=some ((l.filter p).map G)
 |[],_=>rfl
 |a::l,h=>by
  obtain ⟨ε1,e1,e2,e3⟩:=h a yR;have ih:=VH F G p l λb hb=>h b (yO _ hb);show Option.bind (g (F a) ε0) (λε1=>Option.bind (c ε1) λb=>if b=true then (f ε1).bind λy=>(qO g c f ε0 (l.map F)).bind λys=>some (y::ys) else qO g c f ε0 (l.map F))=_;rw [e1,ih];show Option.bind (c ε1) (λb=>if b=true then (f ε1).bind λy=>some (y::(l.filter p).map G) else some ((l.filter p).map G))=_;rw [e2,yD,uc];cases hp:p a with
  |true=>rw [rB rfl,rB rfl,e3 hp];rfl
  |false=>rw [rq yQ,rq yQ]
def o9 {tK:C9}{it:MA}{g:MG}{f:M}(F G:α->PV)(l:List α)(h:it ε=some (l.map F))(hc:zA tK ts=true)(hl:l.length<=lim)(k:∀ a∈l,∃ ε1,g (F a) (o6 tK ε)=some ε1/\f ε1=some (G a)):c6 tK ts it g c7 f ε=some (.lst (l.map G)):=Bt h hc (by rw [yZ];exact hl) (VJ F G l k)
def Bs {tK:C9}{it:MA}{g:MG}{f:M}(F G:α->PV)(p:α->Bool)(l:List α)(h:it ε=some (l.map F))(hc:zA tK ts=true)(hl:l.length<=lim)(k:∀ a∈l,∃ ε1,g (F a) (o6 tK ε)=some ε1/\c ε1=some (p a)/\(p a=true->f ε1=some (G a))):c6 tK ts it g c f ε=some (.lst ((l.filter p).map G)):=Bt h hc (by rw [yZ];exact hl) (VH F G p l k)
theorem JE {g:MG}{f:MS}{α:Type}(F:α->PV)(I:List α->ME->Prop)(h:∀ a l ε,I (a::l) ε->∃ ε1 ε2,g (F a) ε=some ε1/\f ε1=some (.nx ε2)/\I l ε2):∀(l:List α)(ε:ME),I l ε->∃ ε',qH g f (l.map F) ε=some (.nx ε')/\I [] ε'
 |[],ε,i=>⟨ε,rfl,i⟩
 |a::l,ε,i=>by
  obtain ⟨ε1,ε2,e1,e2,i2⟩:=h a l ε i;obtain ⟨ε',e3,i3⟩:=JE F I h l ε2 i2;refine ⟨ε',?_,i3⟩;show Option.bind (g (F a) ε) (λε1=>Option.bind (f ε1) λo=>match o with
   | .nx ε2=>qH g f (l.map F) ε2
   | .ct ε2=>qH g f (l.map F) ε2
   | .bk ε2=>some (.nx ε2)
   | .rt y=>some (.rt y))=_
  rw [e1,yD,e2];exact e3
section
variable{a b:M}{v w:Bool}
def zr (h1:a ε=some (.at (.bl true)))(h2:b ε=some (.at (.bl w))):xX a b ε=some (.at (.bl w)):=by unfold xX;rw [h1];exact h2
def Bq (h1:a ε=some (.at (.bl false))):xX a b ε=some (.at (.bl false)):=by unfold xX;rw [h1];rfl
def LX (h1:a ε=some (.at (.bl v))):Jf a ε=some (.at (.bl (!v))):=by unfold Jf;rw [h1];rfl
def Bv (h:c ε=some true)(k:a ε=some x):dIf c a b ε=some x:=by unfold dIf;rw [h];exact k
def VV (h:c ε=some false)(k:b ε=some x):dIf c a b ε=some x:=by unfold dIf;rw [h];exact k
def VU {g g':AD}{c:M}{r:Bool}(h1:a ε=some x)(h2:b ε=some y)(h3:g x y=some (.at (.bl true)))(h4:c ε=some z)(h5:g' y z=some (.at (.bl r))):va g g' a b c ε=some (.at (.bl r)):=by unfold va;rw [h1,yD,h2,yD,h3];show Option.bind (c ε) _=_;rw [h4];exact h5
def zt (h:a ε=some x):qT a ε=some (.nx ε):=by unfold qT;rw [h];rfl
def xC:i6 ε=some (.nx ε):=rfl
def jI (h:a ε=some (.lst xs)):b8 a ε=some xs:=by unfold b8;rw [h];rfl
def vd (h:a ε=some (.ob C ns xs))(k:QC f ns xs=some y):zq C f a ε=some y:=by unfold zq;rw [h,yD];show (if C=C then _ else _)=_;rw [rB rfl];exact k
def zF {fs:C5}{y:EA}(h:a ε=some (.ob C ns fs))(hn:nm∉ns)(k:as ε=some xs)(e:m (.ob C ns fs::xs)=y):xK C nm m a as ε=y:=by unfold xK;rw [h,yD];show (if C=C/\nm∉ns then _ else _)=_;rw [rB ⟨rfl,hn⟩,k];exact e
def Jo {k:Nat}{bd:MS}(hl:xs.length=k)(h:bd (xs.map .sh++List.replicate (n-k) .no)=some (.nx ε')):p8 n k bd xs=some (.at .non):=by unfold p8;rw [rB hl,h];rfl
def NO {n:Int}:qJ [.at (.int n),.at (.ty "int")]=some (.at (.bl true)):=by unfold qJ tyP;simp only [yD,Op]
def NP {n:Int}:qJ [.at (.int n),.at (.ty "bool")]=some (.at (.bl false)):=by unfold qJ tyP;simp only [yD,Oo]
def BL {n:Str}:qJ [.at (.str n),.at (.ty "str")]=some (.at (.bl true)):=by unfold qJ tyP;simp only [yD,Os]
def NQ {n:C5}:qJ [.tup n,.at (.ty "tuple")]=some (.at (.bl true)):=by unfold qJ tyP;simp only [yD,Ot]
theorem KD:∀ bs:F9,bls (bs.map λb=> .at (.bl b))=some bs
 |[]=>rfl
 |b::bs=>by
  have ih:=KD bs;rw [yH];unfold bls;rw [ih];rfl
theorem JA:∀ bs:EH,jg (bs.map λb=> .at (.int b))=some bs
 |[]=>rfl
 |b::bs=>by
  have ih:=JA bs;rw [yH];unfold jg;rw [ih];rfl
def Xt (bs:F9):zf [.lst (bs.map λb=> .at (.bl b))]=some (.at (.bl (bs.all id))):=by show (bls _).bind _=_;rw [KD];rfl
def FS (bs:EH):pSum [.lst (bs.map λb=> .at (.int b))]=some (.at (.int bs.sum)):=by show (jg _).bind _=_;rw [JA];rfl
def wj (l:List α):zf [.lst (l.map λ_=> .at (.bl true))]=some (.at (.bl true)):=by
 have e:(l.map λ_=>PV.at (.bl true))=((l.map λ_=>true).map λb=>PV.at (.bl b)):=by rw [yv];rfl
 rw [e,Xt];have:(l.map λ_=>true).all id=true:=by simp
 rw [this]
end
def wI:EH->Int
 |[]=>0
 |x::l=>l.foldl (λb y=>if y<b then y else b) x
def Wz (l:EH):∀ b:Int,l.foldl (λb y=>if y<b then y else b) b<=b/\(∀ y∈l,l.foldl (λb y=>if y<b then y else b) b<=y)/\(l.foldl (λb y=>if y<b then y else b) b=b∨l.foldl (λb y=>if y<b then y else b) b∈l):=by
 induction l with
 |nil=>intro b;exact ⟨Int.le_refl _,(λ_ z=>nomatch z),.inl rfl⟩
 |cons x l ih =>
  intro b;rw [List.foldl_cons];obtain ⟨h1,h2,h3⟩:=ih (if x<b then x else b);have hx:(if x<b then x else b)<=b/\(if x<b then x else b)<=x:=by split<;>omega
  refine ⟨by omega,λy hy=>?_,?_⟩
  .rcases yL.mp hy with rfl|hy
   .omega
   .exact h2 y hy
  .rcases h3 with h3|h3
   .rw [h3];by_cases hc:x<b
    .rw [rB hc];exact .inr yR
    .rw [rq hc];exact .inl rfl
   .exact .inr (yO _ h3)
def Po (h:l≠[]):wI l∈l:=by
 cases l with
 |nil=>exact rp rfl h
 |cons x l =>
  rcases (Wz l x).2.2 with e|e
  .show l.foldl _ x∈_;rw [e];exact yR
  .exact yO _ e
def Pn {y:Int}(h:y∈l):wI l<=y:=by
 cases l with
 |nil=>cases h
 |cons x l =>
  rcases yL.mp h with rfl|h
  .exact (Wz l y).1
  .exact (Wz l x).2.1 y h
def wH (l:EH):Int:=-wI (l.map λx=>-x)
def HU (h:l≠[]):wH l∈l:=by have:=Po (l:=l.map λx=>-x) (by cases l with|nil=>exact rp rfl h|cons x l=>simp);obtain ⟨x,hx,e⟩:=yB.mp this;unfold wH;rw [<- e,Int.neg_neg];exact hx
def HS {y:Int}(h:y∈l):y<=wH l:=by have:=Pn (l:=l.map λx=>-x) (y:=-y) (yB.mpr ⟨y,h,rfl⟩);unfold wH;omega
def JX:C5->Option PV
 |[.lst xs]=>(jg xs).bind λns=>if ns=[] then none else some (.at (.int (wI ns)))
 |_=>none
instance :vD (Cq K) JX where
 h:=λ{xs z} e {Hs H vs} s r {Q} q=>by
  unfold JX at e;split at e
  .obtain ⟨ns,eb,e1⟩:=tE e;split at e1
   .cases e1
   .rename_i hne;cases e1;obtain ⟨v,rfl,a⟩:=zv r;obtain ⟨p,ws,rfl,e1,r1⟩:=qj s a;rw [Jz eb,show (ns.map λb=>PV.at (.int b))=(ns.map V.int).map .at by rw [yv];rfl] at r1;cases r1.ats;refine ⟨p,ns,rfl,sK.of e1,hne,λm m1 m2=>?_⟩;have em:m=wI ns:=Int.le_antisymm (m2 _ (Po hne)) (Pn m1);subst em;exact q _ _ _ (.refl s) (tD.mpr rfl)
  .cases e
def leS (a b:Str):Bool:=!decide (b.cps.toList<a.cps.toList)
def zY (ss:C7):C7:=ss.mergeSort leS
def ZC (ss:C7):(zY ss).Perm ss:=List.mergeSort_perm ss leS
def FI (ss:C7):ZW (zY ss):=by
 have:=List.pairwise_mergeSort (le:=leS) (λa b c h1 h2=>by
  unfold leS at h1 h2 ⊢;simp only [Bool.not_eq_true',decide_eq_false_iff_not] at h1 h2 ⊢;exact tV.mpr (List.le_trans (tV.mp h1) (tV.mp h2))) (λa b=>by
  unfold leS;by_cases h:b.cps.toList<a.cps.toList
  .have h2:¬ (a.cps.toList<b.cps.toList):=λk=>List.lt_irrefl _ (List.lt_trans h k);simp [h2]
  .simp [h]) ss
 exact this.imp λh=>by unfold leS at h;simpa using h
def Uy {ss ss':C7}(p:ss'.Perm ss)(u:ZW ss'):ss'=zY ss :=
 List.Perm.eq_of_pairwise (λa b _ _ h1 h2=>by
  have e:=List.le_antisymm (tV.mp h1) (tV.mp h2);cases a;cases b;simp only [Str.mk.injEq];exact oP.mp e) u (FI ss) (p.trans (ZC ss).symm)
def vy:C5->Option C7
 |[]=>some []
 | .at (.str s)::xs=>(vy xs).map (s::·)
 |_::_=>none
theorem UB:∀{xs:C5}{ss:C7},vy xs=some ss->xs=ss.map λs=> .at (.str s)
 |[],_,h=>by cases h;rfl
 |x::xs,ss,h=>by
  unfold vy at h;split at h
  .rename_i e;cases e
  .rename_i s' xs' e;injection e with e1 e2;subst e1 e2;obtain ⟨r,hr,rfl⟩:=yC.mp h;rw [UB hr];rfl
  .cases h
def vQ:List j5->Option C7
 |[]=>some []
 | .inr s::xs=>(vQ xs).map (s::·)
 |_::_=>none
theorem Wj:∀{xs:List j5}{ss:C7},vQ xs=some ss->xs=ss.map Sum.inr
 |[],_,h=>by cases h;rfl
 |x::xs,ss,h=>by
  unfold vQ at h;split at h
  .rename_i e;cases e
  .rename_i s' xs' e;injection e with e1 e2;subst e1 e2;obtain ⟨r,hr,rfl⟩:=yC.mp h;rw [Wj hr];rfl
  .cases h
def WJ:C5->Option PV
 |[.lst xs]=>(vy xs).bind λss=>if ss.length<64 then some (.lst ((zY ss).map λs=> .at (.str s))) else none
 |[.dk ks _]=>(vQ ks).bind λss=>if ss.length<64 then some (.lst ((zY ss).map λs=> .at (.str s))) else none
 |[.fk ks _]=>(vQ ks).bind λss=>if ss.length<64 then some (.lst ((zY ss).map λs=> .at (.str s))) else none
 |_=>none
def Yb (ss:C7):sR H (ss.map λs=> .at (.str s)) (ss.map V.str):=by have:=sR.ofAts (H:=H) (ss.map V.str);rwa [yv] at this
instance :Vu (Cu K) WJ where
 h:=λ{xs z} e {Hs H vs} s r {Q} q=>by
  unfold WJ at e;split at e
  .obtain ⟨ss,eb,e1⟩:=tE e;split at e1
   .rename_i hl;cases e1;obtain ⟨v,rfl,a⟩:=zv r;obtain ⟨p,ws,rfl,e1,r1⟩:=qj s a;rw [UB eb,show (ss.map λb=>PV.at (.str b))=(ss.map V.str).map .at by rw [yv];rfl] at r1;cases r1.ats;refine ⟨p,ss,rfl,.inl (sK.of e1),hl,λl ss' hn p1 p2=>?_⟩;rw [Uy p1 p2];exact q l _ _ (.newO s hn) hn (s.free hn) ⟨_,u5,Yb _⟩
   .cases e1
  .obtain ⟨ss,eb,e1⟩:=tE e;split at e1
   .rename_i hl;cases e1;obtain ⟨v,rfl,a⟩:=zv r;obtain ⟨p,kvs,rfl,hp,hk,hr⟩:=vX s a;refine ⟨p,ss,rfl,.inr ⟨kvs,.inl hp,by rw [hk,Wj eb]⟩,hl,λl ss' hn p1 p2=>?_⟩;rw [Uy p1 p2];exact q l _ _ (.newO s hn) hn (s.free hn) ⟨_,u5,Yb _⟩
   .cases e1
  .obtain ⟨ss,eb,e1⟩:=tE e;split at e1
   .rename_i hl;cases e1;obtain ⟨v,rfl,a⟩:=zv r;obtain ⟨p,o,kvs,rfl,hp,hk,hr⟩:=Zy s a;refine ⟨p,ss,rfl,.inr ⟨kvs,.inr ⟨o,hp⟩,by rw [hk,Wj eb]⟩,hl,λl ss' hn p1 p2=>?_⟩;rw [Uy p1 p2];exact q l _ _ (.newO s hn) hn (s.free hn) ⟨_,u5,Yb _⟩
   .cases e1
  .cases e
def Ct (K:Fg):EB->Hp->VK->Prop:=λxs H Q=>∃(a:Addr)(ss:C7),xs=[.ref a]/\sK K H a (ss.map V.str)/\ss.length<=1000 /\
  ∀ l,H l=none->Q (.ref l) (z9 H l (wg (h8 (λi=>(Sum.inr (ss.getD i ⟨#[]⟩):j5)) ss.length).length l))
def Lh (hc:X.calm=true)(h:X.K=K):sI X (.type "set") (Ct K):=by subst h;exact Li hc
def Zd (ss:C7):Nat:=(h8 (λi=>(Sum.inr (ss.getD i ⟨#[]⟩):j5)) ss.length).length
def Co:EB->Hp->VK->Prop:=λxs H Q=>∃(a:Addr)(n:Nat),xs=[.ref a]/\H a=some (wg n a)/\Q (.int n) H
def Ld :sI X (.builtin "len") Co:=Lc
def VN (a:M):M:=λε=>(a ε).bind λx=>match x with
 | .lst xs=>(vy xs).bind λss=>if ss.length<=1000 then some (.at (.int (Zd ss))) else none
 |_=>none
instance {a:M}[sa:qd te a]:SemE (tCB Co (qv (tCB (Ct K) (qv te qL)) qL)) (VN a) where
 h:=λe _ _ _ _ _ rs _ q=>by
  obtain ⟨x,ex,e1⟩:=tE e;split at e1
  .obtain ⟨ss,eb,e2⟩:=tE e1;split at e2
   .rename_i hl;cases e2;refine sa.h ex rs λv tG H1 x1 r1=>?_;obtain ⟨p,ws,rfl,ep,r2⟩:=qj x1.s3 r1;rw [UB eb,show (ss.map λb=>PV.at (.str b))=(ss.map V.str).map .at by rw [yv];rfl] at r2;cases r2.ats;refine ⟨p,ss,rfl,sK.of ep,hl,λl hn=>⟨l,_,rfl,u5,q _ _ _ (x1.trans (.newO x1.s3 hn)) (tD.mpr rfl)⟩⟩
   .cases e2
  .cases e1
structure Mkr (P:G3)(w:G5)(K:Fg)(mg:AB)(tM:Heap)(k:Nat)(C:Addr)(ps:C7)(sp:Sp):Prop where
 ex:∃ f fd,sQ P w K mg tM v8 k f fd ps sp/\Mk K C f/\Binds K fd ps []
def pe_mk {k j:Nat}{x:Str}{p:Pos}{t:TA}(c:Mkr X.rD X.w X.K X.mg X.tM k C ps sp)(hr:Room j X.A)(hj:k+1<=j)(hg:Gl X x)(hm:X.mg x=some (.ref C))(ha:PA X (e::es) t)(hdb:(x==("__debug__":Str))=false:=by decide)(he:starEach (e::es) X.rC=(false,eval e X.rC)::starEach es X.rC:=by rfl)(hpl:(backTo pos (starEach es X.rC)).any (·.1)=false:=by rfl):PE X (.Call (.Name x p) (e::es) [] pos) (ZE C sp [] E0 t):=by obtain ⟨f,fd,F,hm',hb⟩:=c.ex;exact Sj hm' F (hr.mono hj) hg hm hb .nil JY ha hdb he hpl
instance (priority:=1100)[sa:xi ta as]:SemE (ZE C (spI C m) [] E ta) (z0 m as) where
 h:=λ{ε y} e=>SemE.h (te:=ZE C (spI C m) [] E ta) (f:=VM m [] as) (by
  unfold VM;unfold z0 at e;simpa using e)
structure FunD (K:Fg)(x qual:Str)(st:Stmt)(f:Addr)(fd:FuncData):Prop where
 ex:∃(oc:G1)(od:EG)(dV kV doc pm:G1)(an:EG)(tH ct:G1)(osl:EO),
  fd=PySem.W.fnOf x qual (zC st) (qf st) (j4 st) dV kV doc pm an tH ct/\K.lookup f=some ⟨oc,od,.func fd,osl⟩/\PySem.W.codeIn K tH qual=true
 kp:PySem.W.keepIn K (.ref f)=true
def FunD.ok {x:Str}{f:Addr}{k:Nat}(F:FunD K x qual st f fd)(S:y8 N ps (j4 st))(len:∀ vs H Q E,sp vs H Q E->vs.length=ps.length)(hbody:∀(tH:G1)(A:G4)(tL:EK)(s:G2)(H:Hp)(vs:EB)(Q:VK)(E:XK),Room k (A.deeper (PyProof.Rows.envOfC qual (j4 st) s.heap.objs.size f tH))->sp vs H Q E -> ∃ t,PSs (qy v8 P w K mg tM N qual (j4 st) f tH A tL s H E).nox (qf st) t/\t { nx:=λ_ H'=>Q .non H',rt:=Q } (L2.start N vs) H):sQ P w K mg tM v8 (k+1) f fd ps sp:=by obtain ⟨oc,od,dV,kV,doc,pm,an,tH,ct,osl,rfl,lk,hcd⟩:=F.ex;refine Ju lk hcd S len λA tL s H vs Q E hr hsp=>?_;obtain ⟨t,h,q⟩:=hbody tH A tL s H vs Q E hr hsp;exact ⟨t,h.nox,q⟩
def Ng {x:Str}{f:Addr}{oc:G1}{od an:EG}{osl:EO}{dV kV doc pm tH ct:G1}(l:K.lookup f=some ⟨oc,od,.func (PySem.W.fnOf x qual (zC st) (qf st) (j4 st) dV kV doc pm an tH ct),osl⟩)(c:PySem.W.codeIn K tH qual=true)(k:PySem.W.keepIn K (.ref f)=true):FunD K x qual st f (PySem.W.fnOf x qual (zC st) (qf st) (j4 st) dV kV doc pm an tH ct):=⟨⟨oc,od,dV,kV,doc,pm,an,tH,ct,osl,rfl,l,c⟩,k⟩
def Zw (K:Fg){o value:Expr}{ta:TE}{pos':Pos}(hK:X.K=K)(ha:PE X o ta)(hv:PE X value tv)(hs:swapsWith value (some (.Attribute o f pos')) pos.line X.rC=pure false:=by rfl):PS X (.Assign [.Attribute o f pos'] value pos) (Zz K ta tv f):=by subst hK;exact SK ha hv hs
def okI' {x:Str}{f:Addr}{k:Nat}(F:FunD K x qual st f fd)(S:y8 N ps (j4 st))(hm:∀ xs y,m xs=some y->xs.length+1=ps.length)(hb:∀(tH:G1)(A:G4)(tL:EK)(s:G2)(H:Hp)(E:XK),Room k (A.deeper (PyProof.Rows.envOfC qual (j4 st) s.heap.objs.size f tH)) -> ∃ t,PSs (qy v8 P w K mg tM N qual (j4 st) f tH A tL s H E).nox (qf st) t/\SemWS t b)(hw:∀ xs y,m xs=some y->b (.ow (.ob C [] [])::xs.map .sh++List.replicate (N.length-(xs.length+1)) .no) (λε=>ε[0]?=some (.ow y)) λ_ _=>False):sQ P w K mg tM v8 (k+1) f fd ps (spI C m):=by
 refine F.ok S (λvs H Q E h=>?_) (λtH A tL s H vs Q E hr h=>?_)
 .obtain ⟨Hs,x,dx,xs,ws,y,rfl,_,_,_,r,e,_⟩:=h;rw [yJ,r.length];exact hm xs y e
 .obtain ⟨Hs,x,dx,xs,ws,y,rfl,sm,hx,hs,r,e,q⟩:=h;obtain ⟨t,ht,sem⟩:=hb tH A tL s H E hr;refine ⟨t,ht,sem.h (hw xs y e) (Ij sm hs ⟨dx,[],hx,rfl,.nil⟩ r) (λε σ Hs' H' z rd g=>?_) λ_ _ _ _ _ _ z _ _ _=>z.elim⟩;obtain ⟨a,ha,_,n,tp⟩:=rd.ow 0 y z;rw [rd.pin x (yU.mpr rfl)] at ha;injection ha with ha;injection ha with ha;injection ha with ha;subst ha;obtain ⟨o,ho,ro⟩:=tp.rep n;have g2:sL Hs' (z9 Hs' x o):=λb u e=>by rw [j3 (k9 e n)];exact e
  refine q (z9 Hs' x o) H' (g.trans g2) (λb u e hb=>rd.s2 b u e λw=>hb (yU.mp w)) (λb u e=>?_) (λb hb hbx w=>?_) ro
  .by_cases hbx:b=x
   .subst hbx;rw [u5] at e;cases e;exact ho
   .rw [j3 hbx] at e;exact rd.s3 _ _ e
  .rw [j3 hbx];exact rd.s4 b hb w
def jG (C:Addr)(f:Str)(a:M):MS:=λε=>(a ε).bind λy=>match (ε[0]?:Option sN) with
 |some (.ow (.ob C' ns xs))=>if C'=C/\f∉ns/\ns.length<1000 then some (.nx (ε.set 0 (.ow (.ob C (ns++[f]) (xs++[y]))))) else none
 |_=>none
def wPN (f:MS):WS:=λε N _=>∃ ε',f ε=some (.nx ε')/\N ε'
def LE {a:M}{o:Out}(h:jG C f a ε=some o):∃ y ns xs,a ε=some y/\ε[0]?=some (.ow (.ob C ns xs))/\f∉ns/\ns.length<1000/\o = .nx (ε.set 0 (.ow (.ob C (ns++[f]) (xs++[y])))):=by
 unfold jG at h;obtain ⟨y,ey,h1⟩:=tE h;split at h1
 .rename_i C' ns xs he;split at h1
  .rename_i hc;cases h1;obtain ⟨rfl,h2,h3⟩:=hc;exact ⟨y,ns,xs,ey,he,h2,h3,rfl⟩
  .cases h1
 .cases h1
instance {a:M}[c:zP K C][n:xh K C f][sa:SemE te a]:SemWS (Zz K (qM 0) te f) (wPN (jG C f a)) where
 h:=λ{ε N R} h=>by
  obtain ⟨ε',e,h1⟩:=h;obtain ⟨y,ns,xs,ey,he,h2,h3,e4⟩:=LE e;injection e4 with e4;subst e4;exact SemWS.h (ts:=Zz K (qM 0) te f) (w:=DU C f (wP a)) ⟨y,ey,ns,xs,he,h2,h3,h1⟩
instance {a:M}[sa:SemE te a]:SemWS (jx te) (wPN (qT a)) where
 h:=λ{ε N R} h=>by
  obtain ⟨ε',e,h1⟩:=h;obtain ⟨y,ey,e2⟩:=tE e;cases e2;exact SemWS.h (ts:=jx te) (w:=DS (wP a)) ⟨y,ey,h1⟩
instance Fx {u:TS}{a b:MS}[sa:SemWS t (wPN a)][sb:SemWS u (wPN b)]:SemWS (tSeq t u) (wPN (y9 a b)) where
 h:=λ{ε N R} h S Hs0 H0 Hs H σ rd D k rt=>by
  obtain ⟨ε',e,h1⟩:=h;obtain ⟨o1,e1,e2⟩:=tE e;refine SemWS.h (ts:=tSeq t u) (w:=sH (wPN a) (wPN b)) (ε:=ε) (N:=N) (R:=R) ?_ rd k rt;cases o1 with
  |nx ε1=>exact ⟨ε1,e1,ε',e2,h1⟩
  |rt y=>cases e2
  |bk ε1=>cases e2
  |ct ε1=>cases e2
def Xz (n k:Nat)(C:Addr)(f:MS):C5->EA:=λxs=>if xs.length+1=k then (f (.ow (.ob C [] [])::xs.map .sh++List.replicate (n-k) .no)).bind λo=>match o with
 | .nx ε=>(match (ε[0]?:Option sN) with
  |some (.ow y)=>some y
  |_=>none)
 |_=>none else none
def okID {x:Str}{f:Addr}{k:Nat}{b:MS}(F:FunD K x qual st f fd)(S:y8 N ps (j4 st))(hm:m=Xz N.length ps.length C b)(hb:∀(tH:G1)(A:G4)(tL:EK)(s:G2)(H:Hp)(E:XK),Room k (A.deeper (PyProof.Rows.envOfC qual (j4 st) s.heap.objs.size f tH)) -> ∃ t,PSs (qy v8 P w K mg tM N qual (j4 st) f tH A tL s H E).nox (qf st) t/\SemWS t (wPN b)):sQ P w K mg tM v8 (k+1) f fd ps (spI C m):=by
 subst hm;refine okI' F S (λxs y e=>?_) hb (λxs y e=>?_)
 .unfold Xz at e;split at e
  .rename_i hl;exact hl
  .cases e
 .unfold Xz at e;split at e
  .rename_i hl;obtain ⟨o,eo,e1⟩:=tE e;rw [hl];cases o with
   |nx ε =>
    refine ⟨ε,eo,?_⟩;have e2:(match (ε[0]?:Option sN) with
     |some (.ow y)=>some y
     |_=>none)=some y:=e1
    show ε[0]?=some (.ow y);split at e2
    .rename_i z hz;cases e2;exact hz
    .cases e2
   |rt z=>cases e1
   |bk z=>cases e1
   |ct z=>cases e1
  .cases e
def Je (a:M):M:=λε=>(a ε).bind λx=>match x with
 | .lst xs=>(jg xs).bind λns=>if ns=[] then some (.at .non) else some (.at (.int (wH ns)))
 |_=>none
instance {a:M}[sa:qd te a]:SemE (Dm K (qv te qL)) (Je a) where
 h:=λe _ _ _ _ _ rs _ q=>by
  obtain ⟨x,ex,e1⟩:=tE e;split at e1
  .obtain ⟨ns,eb,e2⟩:=tE e1;refine sa.h ex rs λv tG H1 x1 r1=>?_;obtain ⟨p,ws,rfl,ep,r2⟩:=qj x1.s3 r1;rw [Jz eb,show (ns.map λb=>PV.at (.int b))=(ns.map V.int).map .at by rw [yv];rfl] at r2;cases r2.ats;refine ⟨p,ns,rfl,sK.of ep,λhn=>?_,λhn m m1 m2=>?_⟩
   .rw [rB hn] at e2;cases e2;exact q _ _ _ x1 (tD.mpr rfl)
   .rw [rq hn] at e2;cases e2;have em:m=wH ns:=Int.le_antisymm (HS m1) (m2 _ (HU hn));subst em;exact q _ _ _ x1 (tD.mpr rfl)
  .cases e1
def js:C5->Option (List (j5×PV))
 |[]=>some []
 | .tup [k,v]::xs=>(jj k).bind λkk=>(js xs).map ((kk,v)::·)
 |_::_=>none
def wL:C5->Option PV
 |[.lst xs]=>(js xs).bind λps=>if (ps.map (·.1)).Nodup/\ps.length<=1000 then some (.fk (ps.map (·.1)) (ps.map (·.2))) else none
 |_=>none
theorem Cb {Hs H:Hp}(s:sL Hs H):∀{xs:C5}{ps:List (j5×PV)}{vs:EB},js xs=some ps->sR Hs xs vs->∃(ts:EC)(kvs:EL),vs=ts.map V.ref/\Paired (λt (kv:j5×V)=>H t=some (.tup [kV kv.1,kv.2])) ts kvs/\kvs.map (·.1)=ps.map (·.1)/\sR Hs (ps.map (·.2)) (kvs.map (·.2))
 |[],ps,vs,h,r=>by
  cases h;cases tu.mp r;exact ⟨[],[],rfl,.nil,rfl,.nil⟩
 |x::xs,ps,vs,h,r=>by
  unfold js at h;split at h
  .rename_i e;cases e
  .rename_i k v xs' e;injection e with e1 e2;subst e1 e2;obtain ⟨kk,ek,h1⟩:=tE h;obtain ⟨ps',hp,rfl⟩:=yC.mp h1;obtain ⟨w,ws,rfl,r1,r2⟩:=tz.mp r;obtain ⟨t,us,rfl,ht,ru⟩:=sY.mp r1;obtain ⟨u1,us1,rfl,p1,p2⟩:=tz.mp ru;obtain ⟨u2,us2,rfl,p3,p4⟩:=tz.mp p2;cases tu.mp p4;have ew:=vP (H:=H) (.inl p1) ek;subst ew;obtain ⟨ts,kvs,rfl,q1,q2,q3⟩:=Cb s hp r2;exact ⟨t::ts,(kk,u2)::kvs,rfl,.cons (s _ _ ht) q1,by rw [yH,yH,q2],.cons p3 q3⟩
  .cases h
instance:vD Cn wL where
 h:=λ{xs z} e {Hs H vs} s r {Q} q=>by
  unfold wL at e;split at e
  .obtain ⟨ps,eb,e1⟩:=tE e;split at e1
   .rename_i hl;cases e1;obtain ⟨v,rfl,a⟩:=zv r;obtain ⟨p,ws,rfl,ep,r1⟩:=qj s a;obtain ⟨ts,kvs,rfl,q1,q2,q3⟩:=Cb s eb r1;have hk:kvs.length=ps.length:=by have:=pL List.length q2;rwa [yZ,yZ] at this
    refine ⟨p,ts,kvs,rfl,ep,q1,by rw [q2];exact hl.1,by omega,λl o hn=>?_⟩;exact q _ _ _ (.new s hn) (rep_fk.mpr ⟨l,o,kvs,rfl,u5,q2,q3.mono (Ext.new s hn).s1⟩)
   .cases e1
  .cases e
def dItV (a:M):MA:=λε=>(a ε).bind λx=>match x with
 | .fk _ xs=>some xs
 |_=>none
def NX {a:Addr}{o:Obj}(h:Hs a=some (.frz o (.dK kvs)))(r:sR Hs xs (kvs.map (·.2))):vC (Itv a o kvs) xs Hs where
 go:=λi x tG H1 e g1 g2=>by
  obtain ⟨v,ev,rv⟩:=r.get e;have hl:i<kvs.length:=by have:=(yK.mp ev).1;rwa [yZ] at this
  refine ⟨⟨g2 _ _ (g1 _ _ h),hl⟩,λw H2 y=>?_⟩;obtain ⟨rfl,k,y⟩:=y;rw [yM,y] at ev;cases ev;exact ⟨tG,.refl g2,rv.mono g1⟩
 stop:=λtG H1 g1 g2=>⟨g2 _ _ (g1 _ _ h),by have:=r.length;rw [yZ] at this;omega⟩
instance {a:M}[sa:SemE te a]:jc (BG te) (dItV a) where
 h:=λe _ _ _ _ _ rs _ q=>by
  obtain ⟨x,ex,e1⟩:=tE e;split at e1
  .cases e1;refine sa.h ex rs λv tG H1 x1 r1=>?_;obtain ⟨p,o,kvs,rfl,hp,_,r⟩:=rep_fk.mp r1;exact ⟨p,o,kvs,rfl,x1.s3 _ _ hp,q _ _ _ x1 (NX hp r)⟩
  .cases e1
end Mi
namespace Mi
open PySem PySem.Spec PyProof.Rows L2
variable{P:G3}{w:G5}{K:Fg}{mg:AB}{tM:Heap}
variable {fr:Bool}
def LS {ε:ME}{f:M}{tK:C9}{ts:EI}{it:MA}{G:MG}{c:MB}{xs ys:C5}(h:it ε=some xs)(hc:zA tK ts=true)(hl:xs.length<=lim)(k:qO G c f (o6 tK ε) xs=some ys):Xx tK ts it G c f ε=some (.lst ys):=by unfold Xx;rw [h];show (if _ then _ else _)=_;rw [rB ⟨hc,hl⟩,k];rfl
end Mi
namespace L2
open PySem PySem.Spec PyProof.Rows
variable{X:Cx}{j:Nat}{C:Addr}{m x:Str}{ps:C7}{sp:Sp}{c e o:Expr}{es:EN}{ta te:TE}{t:TA}{tc:TT}{apos p pos:Pos}{E:XK}{σ:St}{st:Stmt}{a b:F3}{u v:TS}
def Xo (CX:CXT)(X:Cx)(σ:St)(E:XK):Prop:=∀(tN:C4)(H:Hp)(s:G2)(e:G1)(s':G2),sS X tN σ H s->CX X.stack H s E e s'->X.xe e s'
def PEa (X:Cx)(σ:St)(e:Expr)(t:TE):Prop:=∀(tN:C4)(s:G2)(H:Hp)(Q:VK),sS X tN σ H s->t σ H Q->wpAny (model X.rD X.w) X.A (eval e X.rC) (EP X tN σ Q) X.xe s
def PSa (X:Cx)(σ:St)(st:Stmt)(t:TS):Prop:=∀(tN:C4)(s:G2)(H:Hp)(D:xy),sS X tN σ H s->t D σ H->wpAny (model X.rD X.w) X.A (exec st X.rC) (SP X tN D) X.xe s
def Xn (X:Cx)(σ:St)(st:F3)(t:TS):Prop:=∀(tN:C4)(s:G2)(H:Hp)(D:xy),sS X tN σ H s->t D σ H->wpAny (model X.rD X.w) X.A (execs st X.rC) (SP X tN D) X.xe s
section
variable{k:Nat}
def zJ (h1:PSa X σ st u):Xn X σ [st] u:=by
 intro tN s H D I h;refine wpAny_execs_cons (j7 (h1 tN s H D I h) λf s1 q=>?_);cases f with
 |next=>exact pA q
 |ret v=>exact q
 |brk=>exact q
 |cont=>exact q
def wT (he:PEa X σ e te)(hs:swapsWith e none pos.line X.rC=pure false:=by rfl):PSa X σ (.Expr e pos) (jx te):=by intro tN s H D I h;exact wpAny_Expr_any (j7 (he tN s H _ I h) λv s1 ⟨x,H1,I1,r1,q1⟩=>⟨σ,H1,I1,q1⟩) I.quiet hs
def QZ (hc:PT X c tc)(ha:Xn X σ a u)(hb:Xn X σ b v):PSa X σ (.If c a b pos) (Xe tc u v):=by
 intro tN s H D I h;refine wpAny_If (j7 (hc tN s σ H _ I h) λd s1 ⟨H1,I1,q1⟩=>?_);cases d with
 |true=>exact ha tN s1 H1 D I1 q1
 |false=>exact hb tN s1 H1 D I1 q1
def Iy {CX:CXT}{f:Addr}{fd:FuncData}{tN:C4}{H:Hp}{s:G2}{Q:VK}{us:C8}{vs:EB}(F:sQ X.rD X.w X.K X.mg X.tM CX k f fd ps sp)(hr:Room k X.A)(hb:Binds X.K fd ps [])(hx:Xo CX X σ E)(I:sS X tN σ H s)(r:sP vs us)(h:sp (vs++[]) H Q E):wpAny (model X.rD X.w) X.A (call (.ref f) us) (EP X tN σ Q) X.xe s:=by
 have r2:sP (vs++[]) (us++[]):=r.append .nil;have hl:(us++[]).length=ps.length:=by rw [<- r2.length];exact F.len _ _ _ _ h
 refine pp (pG (F.run X.A X.stack s H ⟨us,[]⟩ (us++[]) (vs++[]) Q E hr I.env0 (hb s us I.kIn hl) r2 h) λr s' hq=>?_);cases r with
 |error e=>exact hx tN H s e s' I hq
 |ok fl =>
  cases fl with
  |ret u=>exact I.after hq
  |next=>exact False.elim hq
  |brk=>exact False.elim hq
  |cont=>exact False.elim hq
end
end L2
namespace Mi
open PySem L2
variable{P:G3}{w:G5}{mg:AB}{tM:Heap}{C:Addr}{t:TS}{K:Fg}
instance {fr:Bool}{E:XK}:i0 fr (UE C E) qz where
 h:=λe=>by cases e
abbrev RM:=ME->Out->Prop
class Qp (fr:Bool)(ts:TS)(r:RM):Prop where
 h:∀{ε o},r ε o->∀{Hs0 H0 Hs H σ},RS Hs0 H0 Hs H σ ε->∀{D:xy},OutK fr Hs0 H0 D o->ts D σ H
variable {fr:Bool}
def rP (b:MS):RM:=λε o=>b ε=some o
instance {b:MS}[s:i0 fr t b]:Qp fr t (rP b) where
 h:=λe=>s.h e
def rSeq (a b:RM):RM:=λε o=>(∃ ε',a ε (.nx ε')/\b ε' o)∨(∃ y,o = .rt y/\a ε (.rt y))
instance {u:TS}{a b:RM}[sa:Qp fr t a][sb:Qp fr u b]:Qp fr (tSeq t u) (rSeq a b) where
 h:=λh _ _ _ _ _ rs D q=>by
  rcases h with ⟨ε',h1,h2⟩|⟨y,rfl,h⟩
  .exact sa.h h1 rs λHs H σ r=>sb.h h2 r q
  .exact sa.h h rs q
def RS.drop {Hs0 H0 Hs H:Hp}{σ:St}{ε:ME}(r:RS Hs0 H0 Hs H σ ε)(i:Nat):RS Hs0 H0 Hs H (σ.set i none) (ε.set i .no):=by
 have dn:∀(j:Nat)(s:sN),(ε.set i .no)[j]?=some s->s = .no∨(i≠j/\ε[j]?=some s):=λj s q=>by
  rw [yr] at q;split at q
  .split at q
   .cases q;exact .inl rfl
   .cases q
  .rename_i h;exact .inr ⟨h,q⟩
 have up:∀(j:Nat),i≠j->(σ.set i none)[j]?=σ[j]?:=λj h=>yh h;refine ⟨r.ext,λj x q=>?_,λj x q=>?_,λj k x y a h1 h2 h3 h4=>?_,by rw [yc,yc,r.len],λj x q=>?_⟩
 .rcases dn j _ q with z|⟨h,q⟩
  .cases z
  .rw [up j h];exact r.sh j x q
 .rcases dn j _ q with z|⟨h,q⟩
  .cases z
  .rw [up j h];exact r.ow j x q
 .rcases dn j _ h1 with z|⟨g1,q1⟩
  .cases z
  .rcases dn k _ h2 with z|⟨g2,q2⟩
   .cases z
   .rw [up j g1] at h3;rw [up k g2] at h4;exact r.nd j k x y a q1 q2 h3 h4
 .rcases dn j _ q with z|⟨h,q⟩
  .cases z
  .rw [up j h];exact r.bo j x q
def clr (i:Nat):Out->Out
 | .nx ε=> .nx (ε.set i .no)
 | .bk ε=> .bk (ε.set i .no)
 | .ct ε=> .ct (ε.set i .no)
 | .rt y=> .rt y
def rFn (n k:Nat)(r:RM):C5->PV->Prop:=λxs y=>xs.length=k/\∃ o,r (xs.map .sh++List.replicate (n-k) .no) o/\match o with
 | .rt z=>y=z
 | .nx _=>y = .at .non
 |_=>False
def okT {x qual:Str}{st:Stmt}{f:Addr}{fd:FuncData}{N ps:C7}{k:Nat}{r:RM}{m:AC}(F:Fun K x qual st f fd)(S:y8 N ps (j4 st))(hm:∀ xs y,m xs=some y->rFn N.length ps.length r xs y)(hb:∀(tH:G1)(A:G4)(tL:EK)(s:G2)(H:Hp)(E:XK),Room k (A.deeper (PyProof.Rows.envOfC qual (j4 st) s.heap.objs.size f tH)) -> ∃ t,PSs (qy v8 P w K mg tM N qual (j4 st) f tH A tL s H E).nox (qf st) t/\Qp false t r):sQ P w K mg tM v8 (k+1) f fd ps (v7 m):=by
 refine F.ok S (λvs H Q E h=>?_) (λtH A tL s H vs Q E hr h=>?_)
 .obtain ⟨Hs,xs,y,_,r,e,_⟩:=h;rw [r.length];exact (hm xs y e).1
 .obtain ⟨Hs,xs,y,sm,rr,e,q⟩:=h;obtain ⟨t,ht,sem⟩:=hb tH A tL s H E hr;refine ⟨t,ht,?_⟩;obtain ⟨hl,o,eo,e1⟩:=hm xs y e;refine sem.h eo (by rw [<- hl];exact zL sm rr) ?_;cases o with
  |rt z=>have e2:y=z:=e1;subst e2;exact λv Hs' H' x rv=>q v Hs' H' x rv
  |nx ε=>have e2:y = .at .non:=e1;subst e2;exact λHs' H' σ rs=>q _ Hs' H' rs.ext (tD.mpr rfl)
  |bk ε=>exact e1.elim
  |ct ε=>exact e1.elim
def qr:V->Option G1
 | .ref a=>some (.ref a)
 | .ty n=>some (.type n)
 |_=>none
def Aj {v:V}{d:G1}(h:qr v=some d):∀ u,sO v u->u=d:=by
 intro u r;unfold qr at h;split at h
 .cases h;exact r
 .cases h;exact r
 .cases h
abbrev rIsx (K:Fg)(ea C:Addr):EB->Hp->VK->Prop:=λxs H Q=>∃(c:V)(d:G1)(b:Bool),xs=[.ref ea,c]/\(∀ u,sO c u->u=d)/\PySem.W.kitOne K (.ref C) d=some b/\Q (.bl b) H
def jp (K:Fg)(ea C:Addr):C5->Option PV
 |[.at (.ref a),.at v]=>if a=ea then (qr v).bind λd=>(PySem.W.kitOne K (.ref C) d).bind λb=>some (.at (.bl b)) else none
 |_=>none
instance {ea:Addr}:vD (rIsx K ea C) (jp K ea C) where
 h:=λ{xs z} e {Hs H vs} s r {Q} q=>by
  unfold jp at e;split at e
  .split at e
   .rename_i ha;subst ha;obtain ⟨d,e1,e⟩:=tE e;obtain ⟨b,e2,e⟩:=tE e;cases e;obtain ⟨v,w,rfl,a,c⟩:=CK r;cases c9 a;cases c9 c;exact ⟨_,d,b,rfl,Aj e1,e2,q _ _ _ (.refl s) (tD.mpr rfl)⟩
   .cases e
  .cases e
def Jq :∀ c∈([]:EC),zx K c:=λ_ z=>nomatch z
def vN {cs:EC}(h:zx K C)(r:∀ c∈cs,zx K c):∀ c∈C::cs,zx K c:=λc hc=>by
 rcases yL.mp hc with rfl|hc
 .exact h
 .exact r c hc
end Mi
namespace L2
open PySem PySem.Spec PyProof.Rows PySem.SeqAt
def rInF (K:Fg):R2:=λx y H Q=>∃ p xs,y = .ref p/\sK K H p xs/\(∀ z∈xs,EqP K H 1 z x false)/\Q (.bl false) H
theorem DO:∀{xs:EB}{us:C8},sP xs us->∀ u∈us,∃ x∈xs,sO x u
 |_,_,.nil,u,h=>nomatch h
 |x::xs,v::us,.cons r t,u,h=>by
  rcases yL.mp h with rfl|h
  .exact ⟨x,yR,r⟩
  .obtain ⟨y,hy,q⟩:=DO t u h;exact ⟨y,yO _ hy,q⟩
def TW {X:Cx}{K:Fg}(hu:X.A.units+6<cLine)(hK:X.K=K):OpR X (compareOp .In) (λx y H Q=>rIn K false x y H Q∨rInF K x y H Q):=by
 subst hK;intro tN s σ H x y v u Q I rx ry h;rcases h with h|h
 .exact PM tN s σ H x y v u Q I rx ry h
 .obtain ⟨p,xs,rfl,hq,he,q⟩:=h;cases ry;obtain ⟨its,r,pl,hz⟩:=I.list hq;refine SeqAt.in_listAt (λ_=>false) pl.isList (λw hw=>?_) ⟨.bl false,H,I,?_,q⟩
  .obtain ⟨z,hz,rz⟩:=DO r w (by simpa using hw);exact wv I 1 X.A.in1 (by show X.A.units+1+1<cLine;omega) (he z hz) rz rx
  .show sO (.bl false) (.bool (its.toArray.any λ_=>false));rw [show (its.toArray.any λ_=>false)=false by simp];rfl
end L2
namespace Mi
open PySem L2
def Zk:PV->PV->Option PV
 | .at u,y=>pIn false (.at u) y
 | .lst _,.lst xs=>(ats xs).bind λus=>if us.all p5=true then some (.at (.bl false)) else none
 | .tup _,.lst xs=>(ats xs).bind λus=>if us.all p5=true then some (.at (.bl false)) else none
 |_,_=>none
instance {K:Fg}:SemR (λx y H Q=>rIn K false x y H Q∨rInF K x y H Q) Zk where
 h:=λ{x y z} e {Hs H v w} s a b {Q} q=>by
  unfold Zk at e;split at e
  .exact .inl (SemR.h (r:=rIn K false) e s a b q)
  .obtain ⟨us,e1,e⟩:=tE e;split at e
   .rename_i hf;cases e;obtain ⟨p,vs,rfl,e2,r2⟩:=qj s b;rw [Xu e1] at r2;cases r2.ats;obtain ⟨p',ws,rfl,e3,r3⟩:=qj s a;exact .inr ⟨p,_,rfl,sK.of e2,λy hy=> .inr (.inr (.inr (.inr (.inr (.inl ⟨p',ws,uY.mp hf y hy,rfl,.inl (sK.of e3),rfl⟩))))),q _ _ _ (.refl s) (tD.mpr rfl)⟩
   .cases e
  .obtain ⟨us,e1,e⟩:=tE e;split at e
   .rename_i hf;cases e;obtain ⟨p,vs,rfl,e2,r2⟩:=qj s b;rw [Xu e1] at r2;cases r2.ats;obtain ⟨p',ws,rfl,e3,r3⟩:=xS s a;exact .inr ⟨p,_,rfl,sK.of e2,λy hy=> .inr (.inr (.inr (.inr (.inr (.inl ⟨p',ws,uY.mp hf y hy,rfl,.inr (sD.of e3),rfl⟩))))),q _ _ _ (.refl s) (tD.mpr rfl)⟩
   .cases e
  .cases e
end Mi
namespace L2
open PySem PySem.Spec PyProof.Rows
variable{X:Cx}{tN:C4}{σ:St}{H:Hp}{s:G2}{Pt c c' f:Addr}{ps:ED}{wt:F8}{params:Arguments}{body:Expr}{scope:Scope}{clos:EM}{E Q:AA}{P:G3}{w:G5}{K:Fg}{mg:AB}{tM:Heap}{A:G4}{tL:EK}{ctv pm:G1}{qual:Str}{us:C8}{cv vs:EB}{t:TE}{pos:Pos}{l:C8}
def FX:∀{l:C8}{i j:Int}{t u:Tok}{c:G1},TriplesOk l->TriplesOk (l++[.int i t,.int j u,c]):=by
 intro l i j t u c h
 fun_induction TriplesOk l with
 |case1=>trivial
 |case2 _ _ _ _ _ rest ih=>exact ih h
 |case3=>exact h.elim
def Ms {c:G1}{r:C8}(h:codeAmong pos l=some c):codeAmong pos (l++r)=some c:=by
 fun_induction codeAmong pos l with
 |case1 line t col u d rest e=>show codeAmong pos (.int line t:: .int col u::d::(rest++r))=some c;unfold codeAmong;rw [rB e];exact h
 |case2 line t col u d rest e ih=>show codeAmong pos (.int line t:: .int col u::d::(rest++r))=some c;unfold codeAmong;rw [rq e];exact ih h
 |case3=>cases h
def Mr {i j:Int}{t u:Tok}{d:G1}(ok:TriplesOk l)(h:codeAmong pos l=none):codeAmong pos (l++[.int i t,.int j u,d])=if i==pos.line&&j==pos.col then some d else none:=by
 fun_induction TriplesOk l with
 |case1=>show codeAmong pos (.int i t:: .int j u::d::[])=_;unfold codeAmong;rfl
 |case2 a b c e f rest ih =>
  unfold codeAmong at h;split at h
  .cases h
  .rename_i ne;show codeAmong pos (.int a b:: .int c e::f::(rest++_))=_;unfold codeAmong;rw [rq ne];exact ih ok h
 |case3=>exact ok.elim
def sS.trackN {h':Heap}{tk:Tok}{o:HO}{ob:Obj}(I':sS X tN σ H { s with heap:=h',toks:=tk })(nb:H h'.objs.size=none)(J:sS X tN σ H { s with heap:=h'.push ob,toks:=tk })(new:sJ X.rD X.w (z9 H h'.objs.size o) (h'.push ob) h'.objs.size o):sS X tN σ (z9 H h'.objs.size o) { s with heap:=h'.push ob,toks:=tk }:=by
 refine J.track I'.sz nb (ug I'.lt) (λx c e=>?_) (λq hq=>?_) new
 .obtain ⟨v,oc,e1,_⟩:=I'.cell x c e;exact yG (yN e1)
 .exact yG (yN (I'.pin q hq).1)
def Hv (I:sS X tN σ H s)(hP:(Pt,ps,wt)∈TABS)(hw:(pos,X.rC.qual ++ "<lambda>")∈wt)(hu:∀ p∈wt,(p.1.line==pos.line&&p.1.col==pos.col)=true->p.2=X.rC.qual ++ "<lambda>")(hcode:X.rC.code = .ref c)(C:PySem.W.CodeHd X.tM c Pt)(hcl:closureFor scope X.rC=pure clos)(hdef:defaultsOf params X.rC=([],[]))(h:∀ (f c':Addr) (oc:Obj) (vs:ED) (tq:Tok) (ctv:G1) (H':Hp) (h':Heap) (tk:Tok),sS X tN σ H' { s with heap:=h',toks:=tk }->(∀ b o,H b=some o->H' b=some o)->(∀ b,H b=none->H' b≠none->s.heap.get? b=none) -> H' f=some (.frz (pP "<lambda>" (X.rC.qual ++ "<lambda>") params body scope clos ((X.mg "__name__").getD .none) c' ctv) (.own Pt))->H' c'=some (.frz oc (.own Pt))->oc.data = .fields vs->vs[1]?=some (.str (X.rC.qual ++ "<lambda>") tq)->Q (.ref f) { s with heap:=h',toks:=tk }):wpAny (model X.rD X.w) X.A (eval (.Lambda params body scope pos) X.rC) Q E s:=by
 have hT:H Pt=some (.tbl ps wt):=I.tM.tbls _ _ _ (I.ok.tbs _ hP);obtain ⟨more,eP,tri,wk⟩:=I.tI Pt _ hT;obtain ⟨bm,ob,b1,b2,b3,b4,b5,b6⟩:=I.mod.bmn;have hgs:=(I.mod.glob).keeps I.bk;have hgP:mainGlobals≠Pt:=λz=>by
  obtain ⟨o,_,_,e,_⟩:=I.mod.glob;have:=(I.bs _ _ e).2;rw [z,hT] at this;cases this
 have hbP:bm≠Pt:=λz=>by
  have:=(I.bs _ _ b3).2;rw [z,hT] at this;cases this
 have hbG:bm≠mainGlobals:=λz=>by
  obtain ⟨o,es,ep,e,hd,_⟩:=I.mod.glob;rw [z,e] at b3;cases b3;rw [hd] at b6;cases b6
 have hB:s.heap.BuiltinsAt X.mg Pt:=⟨bm,ob,b1,b2,hbG,hbP,I.bk _ _ b3,b4,b5,b6⟩;refine PySem.W.kla_eval hdef ?_;rcases wk _ hw with hn|⟨cc,o1,vs1,t1,hf,oc,e2,e3⟩
 .refine PySem.W.kla_makeFunction (mg:=X.mg) hcl I.ok.glob hgs hcode (C.keeps I.bk) eP tri hn hgP hB λc' ctv h' tk hx hge hlt hrec htb=>?_;obtain ⟨c2,oc,vs,tq,z1,z2,z3,z4⟩:=hrec;cases z1;have nc:H c'=none:=I.tI.fresh hge;have un:Un X.fs [] H (z9 H c' (.frz oc (.own Pt))) s.heap h':=by
   refine ⟨λb o e n _ _=>hx b o (λz=>by rw [z,hT] at n;cases n) e,λb o e n _ _=>⟨o.slots,hx b o (λz=>by rw [z,hT] at n;cases n) e⟩,λb o e n _=>?_,λb o e _=>?_,λb xs e=>?_,λb o u e=>?_,λb q r e=>?_⟩
   ·rw [j3 (yG (yx (yN e) hge))];exact n
   ·by_cases hb:b=Pt
    .exact ⟨_,hb▸htb⟩
    .exact ⟨o,hx b o hb e⟩
   ·rw [j3 (k9 e nc)];exact e
   ·rw [j3 (k9 e nc)];exact e
   ·rw [j3 (k9 e nc)];exact e
  have tI:sE X.rD X.w (z9 H c' (.frz oc (.own Pt))) h':=λb u e=>by
   by_cases hb:b=c'
   .subst hb;rw [u5] at e;cases e;exact ⟨z2,oc,z2⟩
   .rw [j3 hb] at e;by_cases hb2:b=Pt
    .rw [hb2] at e ⊢;rw [hT] at e;cases e;have ea:ps++(more++#[rawInt pos.line,rawInt pos.col,.ref c'])=ps++more++#[rawInt pos.line,rawInt pos.col,.ref c']:=(Array.append_assoc).symm;have el:(ps++more++#[rawInt pos.line,rawInt pos.col,.ref c']).toList=(ps++more).toList++[rawInt pos.line,rawInt pos.col,.ref c']:=Array.toList_append;refine ⟨more++#[rawInt pos.line,rawInt pos.col,.ref c'],by rw [ea];exact htb,by rw [ea,el];exact FX tri,λp hp=>?_⟩;rw [ea,el];rcases wk p hp with z|⟨d,o2,vs2,t2,z,od,z2⟩
     .have am:=Mr (pos:=p.1) (i:=pos.line) (j:=pos.col) (t:=0) (u:=0) (d:= .ref c') tri z;by_cases hm:(((pos.line:Int)==p.1.line&&(pos.col:Int)==p.1.col)=true)
      .rw [rB hm] at am;have hq:p.2=X.rC.qual ++ "<lambda>":=hu p hp (by
        simp only [yg,pQ] at hm ⊢;omega)
       exact .inr ⟨c',oc,vs,tq,am,u5,z3,by rw [hq];exact z4⟩
      .rw [rq hm] at am;exact .inl am
     .exact .inr ⟨d,o2,vs2,t2,Ms z,by rw [j3 (k9 od nc)];exact od,z2⟩
    .refine (I.tI b u e).stay (λd v hd q=>hx d v ?_ q) (λd q=>by rw [j3 (k9 q nc)];exact q) (λd xs q=>by rw [j3 (k9 q nc)];exact q) λd _ xs q=>by rw [j3 (k9 q nc)];exact q
     rcases hd with z|z
     .rw [z];exact hb2
     .intro q;rw [q,hT] at z;cases z
  have I':=I.un (t':=tk) un tI;have ncf:c'≠h'.objs.size:=yG hlt;have sz:s.heap.objs.size<=h'.objs.size:=yj hge (uJ hlt);have nf:z9 H c' (.frz oc (.own Pt)) h'.objs.size=none:=by rw [j3 (Ne.symm ncf)];exact I.tI.fresh sz
  have kp:∀ b o,h'.get? b=some o->(h'.push (pP "<lambda>" (X.rC.qual ++ "<lambda>") params body scope clos ((X.mg "__name__").getD .none) c' ctv)).get? b=some o:=λb o e=>yW _ e;have J:=I'.un (t':=tk) (Un.kept kp) (I'.tI.kept kp);have f1:=yz (h:=h') (o:=pP "<lambda>" (X.rC.qual ++ "<lambda>") params body scope clos ((X.mg "__name__").getD .none) c' ctv) rfl;refine h _ c' oc vs tq ctv _ _ tk (sS.trackN (o:= .frz (pP "<lambda>" (X.rC.qual ++ "<lambda>") params body scope clos ((X.mg "__name__").getD .none) c' ctv) (.own Pt)) I' nf J ⟨f1,_,f1⟩) (λb o e=>?_) (λb n n'=>?_) u5 (by rw [j3 ncf];exact u5) z3 z4
  .have n1:b≠c':=k9 e nc;have e':z9 H c' (.frz oc (.own Pt)) b=some o:=by rw [j3 n1];exact e
   rw [j3 (k9 e' nf)];exact e'
  .by_cases hb:b=h'.objs.size
   .rw [hb];exact yb sz
   .rw [j3 hb] at n';by_cases hb2:b=c'
    .rw [hb2];exact yb hge
    .rw [j3 hb2] at n';exact rp n n'
 .refine PySem.W.kla_makeFunctionHit (mg:=X.mg) hcl I.ok.glob hgs hcode (C.keeps I.bk) eP tri hf hB λctv h' tk hk hsz=>?_;have I':=I.un (t':=tk) (Un.kept hk) (I.tI.kept hk);have kp:∀ b o,h'.get? b=some o->(h'.push (pP "<lambda>" (X.rC.qual ++ "<lambda>") params body scope clos ((X.mg "__name__").getD .none) cc ctv)).get? b=some o:=λb o e=>yW _ e;have nf:H h'.objs.size=none:=I.tI.fresh hsz;have J:=I'.un (t':=tk) (Un.kept kp) (I'.tI.kept kp);have f1:=yz (h:=h') (o:=pP "<lambda>" (X.rC.qual ++ "<lambda>") params body scope clos ((X.mg "__name__").getD .none) cc ctv) rfl;refine h _ cc o1 vs1 t1 ctv _ _ tk (sS.trackN (o:= .frz (pP "<lambda>" (X.rC.qual ++ "<lambda>") params body scope clos ((X.mg "__name__").getD .none) cc ctv) (.own Pt)) I' nf J ⟨f1,_,f1⟩) (λb o e=>by rw [j3 (k9 e nf)];exact e) (λb n n'=>?_) u5 (by rw [j3 (k9 oc nf)];exact oc) e2 e3;by_cases hb:b=h'.objs.size
  .rw [hb];exact yb hsz
  .rw [j3 hb] at n';exact rp n n'
def Jc (P:G3)(w:G5)(K:Fg)(mg:AB)(tM:Heap)(N:C7)(qual:Str)(scope:Scope)(f c':Addr)(clos:EM)(A:G4)(tL:EK)(s:G2)(H:Hp):Cx where
 rD:=P
 w:=w
 K:=K
 mg:=mg
 tM:=tM
 A:=A.deeper (PySem.W.envX qual scope s.heap.objs.size f (.ref c') clos)
 N:=N
 s₀:=s
 H₀:=H
 rC:=PySem.W.envX qual scope s.heap.objs.size f (.ref c') clos
 tL:=tL
 stack:=PySem.W.envX qual scope s.heap.objs.size f (.ref c') clos::tL
 ex:=[]
 calm:=true
 fn:=λ_=>false
 pn:=[]
 xe:=λ_ _=>False
structure Ge (ps fr:C7)(scope:Scope):Prop where
 co:scope.isCoroutine=false
 gen:scope.isGenerator=false
 kind:scope.kind = .function
 nocell:∀ x∈scope.names,x.2 ≠ .cell
 par:∀ x∈ps,scope.names.lookup x=some .local
 fre:∀ x,scope.names.lookup x=some .free->x∈fr
 nd:ps.Nodup
theorem Mm:∀{ps:C7}{us:C8}{i:Nat}{x:Str}{u:G1},ps.Nodup->ps[i]?=some x->us[i]?=some u->(ps.zip us).reverse.lookup x=some u
 |[],_,i,x,u,_,h,_=>by simp at h
 |_::_,[],i,x,u,_,_,h=>by simp at h
 |p::ps,v::us,0,x,u,nd,h1,h2=>by
  simp at h1 h2;subst h1;subst h2;rw [List.zip_cons_cons,List.reverse_cons,List.lookup_append];have n:(ps.zip us).reverse.lookup p=none:=by rw [List.lookup_eq_none_iff];intro q hq;have hq':=List.mem_reverse.mp hq;obtain ⟨a,b⟩:=q;have:=(uz hq').1;simp only [bne_iff_ne,ne_eq,re];intro e;subst e;exact (yn.mp nd).1 this
  rw [n];simp
 |p::ps,v::us,i+1,x,u,nd,h1,h2=>by
  rw [List.zip_cons_cons,List.reverse_cons,List.lookup_append,Mm (i:=i) (yn.mp nd).2 (by simpa using h1) (by simpa using h2)];rfl
section
variable{ps fr:C7}{Q:VK}{E:XK}
def Hu (S:Ge ps fr scope)(hdp:A.depth<recursionLimit)(hhd:A.handled=none)(e0:Env0 P w K mg tM A tL s H)(hf:s.heap.get? f=some (pP "<lambda>" qual params body scope clos pm c' ctv))(hcd:s.heap.CodeRec (.ref c') qual)(hbind:bindArgs (PySem.W.kla_fn "<lambda>" qual params body scope clos pm (.ref c') ctv) ⟨us,[]⟩=pure (ps.zip us))(hl:vs.length=ps.length)(r:sP vs us)(inj:∀ x y c,clos.lookup x=some c->clos.lookup y=some c->x=y)(hc:∀ x c,clos.lookup x=some c->(∃ v,s.heap.IsCell c v)/\H c=none)(hlc:cv.length=fr.length)(hcv:∀ (i:Nat) (x:Str) (v:V),fr[i]?=some x->cv[i]?=some v->scope.names.lookup x=some .free/\∃ c u,clos.lookup x=some c/\s.heap.IsCell c (some u)/\sO v u)(hb:PE (Jc P w K mg tM (ps++fr) qual scope f c' clos A tL s H) body t)(hq:t ((vs++cv).map some) H Q):codeAny (model P w) A (.call (.ref f) ⟨us,[]⟩) (CR v8 tL P w H s Q E) s:=by
 have lim:s.heap.NoLimit:=e0.mod.nolimit.keeps λb o e=>(e0.bs b o e).1;refine PySem.W.kla_callFunE hdp hf rfl S.co S.gen rfl hcd ?_;rw [hbind];refine yI (wpAny_newFunctionEnv S.nocell (λy hy=>S.par _ (uz (show (y.1,y.2)∈ps.zip us from hy)).1) (λh₁ hns hsb=>⟨lim.fresh _ hsb,?_⟩) S.kind);show codeAny _ _ (.expr body (PySem.W.envX qual scope s.heap.objs.size f (.ref c') clos)) _ _;have hk₁:∀ b o,s.heap.get? b=some o->h₁.get? b=some o:=λb o e=>hsb.extBut b o (yG (yN e)) (yW _ e);have noA:∀ b:Addr,b∉(Jc P w K mg tM (ps++fr) qual scope f c' clos A tL s H).ex:=λb z=>rp (show b∈([]:EC) from z) (by simp);have cellK:∀{c:Addr}{v:EW},s.heap.IsCell c v->h₁.IsCell c v:=λ{c v} ⟨o,e,d⟩=>⟨o,hk₁ _ _ e,d⟩;have I:sS (Jc P w K mg tM (ps++fr) qual scope f c' clos A tL s H) [] ((vs++cv).map some) H { s with heap:=h₁,toks:=s.toks+(ps.zip us).length }:=by
  refine ⟨⟨e0.mod,S.kind,rfl,rfl,yP _,inj,λx hx=>?_,λx c z=>rp (show false=true from z) (by decide),λ_=>hhd,Around.frames_deeper e0.frames,.inr ⟨rfl,rfl⟩,λb z=>rp z (noA b),e0.bs,e0.bsz,λb _ _=>noA b,λb z=>rp z (noA b),e0.funs,e0.frf,e0.tbs⟩,
   rfl,e0.bare,Un.kept hk₁,⟨_,hns,λi x v h1 h2 h3=>?_⟩,λx c e=>?_,e0.tI.fresh (yP _),λx c e=>(hc x c e).2,λp hp=>rp (show p∈([]:C4) from hp) (by simp),e0.tI.kept hk₁,?_⟩
  .have hx:scope.names.lookup x=some .cell∨scope.names.lookup x=some .free:=hx;rcases hx with z|z
   .exact rp rfl (S.nocell _ (pZ z))
   .obtain ⟨i,hi,e⟩:=uD (S.fre x z);have hic:i<cv.length:=by omega
    obtain ⟨_,c,u,e1,_⟩:=hcv i x cv[i] (by rw [yS hi,e]) (yS hic);exact ⟨c,e1⟩
  .have h1':(ps++fr)[i]?=some x:=h1;rw [yM] at h2;obtain ⟨v',e1,e2⟩:=yC.mp h2;cases e2;by_cases hi:i<ps.length
   .rw [uU hi] at h1';rw [uU (by omega)] at e1;obtain ⟨u,hu,rv⟩:=r.get e1;exact ⟨u,rv,.inl ⟨S.par x (yu h1'),Mm S.nd h1' hu⟩⟩
   .rw [uQ (by omega)] at h1';rw [uQ (by omega),hl] at e1;obtain ⟨k,c,u,a1,a2,a3⟩:=hcv _ x _ h1' e1;exact ⟨u,a3,.inr ⟨.inr k,c,a1,cellK a2⟩⟩
  .obtain ⟨⟨v,z⟩,_⟩:=hc x c e;exact ⟨v,cellK z⟩
  .show ((vs++cv).map some).length=(ps++fr).length;rw [yZ,yV,yV,hl,hlc]
 refine PySem.W.kla_codeExpr (pM (hb [] _ _ H Q I hq) (λu s' z=>?_) λe s' z=>z.elim);obtain ⟨v,H',J,rv,q⟩:=z;exact ⟨v,H',J.os,J.bare,J.tM,J.tI,rv,q⟩
end
end L2
namespace Ka
open PySem.W PyProof.Rows
variable{a b j n nrem:Nat}{p:EQ}
def ev {α:Type}(ans:AF):KasT α->α
 | .ret a=>a
 | .ask i j k=>ev ans (k (ans i j))
theorem Qv {α β:Type}{ans:AF}{f:α->KasT β}:∀ t:KasT α,ev ans (t.bind f)=ev ans (f (ev ans t))
 | .ret _=>rfl
 | .ask i j k=>Qv (k (ans i j))
structure Ord (lt:AF):Prop where
 irr:∀ a,lt a a=false
 tr:∀ a b c,lt a b=true->lt b c=true->lt a c=true
 neg:∀ a b c,lt a c=true->lt a b=true∨lt b c=true
section
variable{lt:AF}(O:Ord lt)
def le (lt:AF)(a b:Nat):Prop:=lt b a=false
include O in
def le_refl (a:Nat):le lt a a:=O.irr a
include O in
def le_trans {c:Nat}(h:le lt a b)(k:le lt b c):le lt a c:=by
 unfold le at *
 cases e:lt c a with
 |false=>rfl
 |true =>
  rcases O.neg c b a e with z|z
  .rw [k] at z;cases z
  .rw [h] at z;cases z
include O in
def le_of_lt (h:lt a b=true):le lt a b:=by
 unfold le;cases e:lt b a with
 |false=>rfl
 |true=>have:=O.tr a b a h e;rw [O.irr] at this;cases this
def g (p:EQ)(i:Nat):Nat:=p.getD i 0
def XH {q:EQ}{i:Nat}(h:p[i]?=q[j]?):g p i=g q j:=by unfold g;rw [py,py,h]
def Up (lt:AF)(p:EQ)(k:Nat):Prop:=∀ i j,i<=j->j<k->le lt (g p i) (g p j)
def jB (lt:AF)(p:EQ)(k:Nat):Prop:=∀ i j,i<=j->j<k->le lt (g p j) (g p i)
def Eqs (lt:AF)(p:EQ)(a b:Nat):Prop:=∀ i j,a<=i->i<b->a<=j->j<b->le lt (g p i) (g p j)
include O in
def Ov (p:EQ):Up lt p 1:=λi j h k=>by
 have:i=j:=by omega
 subst this;exact le_refl O _
include O in
def Ou (h1:1<=n)(h:Up lt p n)(k:le lt (g p (n-1)) (g p n)):Up lt p (n+1):=λi j hij hj=>by
 by_cases e:j=n
 .subst e;by_cases e2:i=j
  .subst e2;exact le_refl O _
  .exact le_trans O (h i (j-1) (by omega) (by omega)) k
 .exact h i j hij (by omega)
include O in
def Jj (h1:1<=n)(h:jB lt p n)(k:le lt (g p n) (g p (n-1))):jB lt p (n+1):=λi j hij hj=>by
 by_cases e:j=n
 .subst e;by_cases e2:i=j
  .subst e2;exact le_refl O _
  .exact le_trans O k (h i (j-1) (by omega) (by omega))
 .exact h i j hij (by omega)
def XI {i:Nat}(hj:j<=p.size)(k:Nat):g (kas_rev p i j) k=if i<=k/\k<j then g p (i+j-1-k) else g p k:=by
 have e:=getElem?_mirror_all (xs:=p) (i:=i) hj k;unfold kas_rev;split
 .rename_i h;rw [rB h] at e;exact XH e
 .rename_i h;rw [rq h] at e;exact XH e
def wV {i:Nat}:(kas_rev p i j).size=p.size:=mirror_size _ _ _ _
def sZ {i:Nat}:(kas_rev p i j).Perm p:=mirror_perm _ _ _ _
include O in
theorem Vx {p:EQ}:∀(f n:Nat),1<=n->Up lt p n -> n<=ev lt (kas_asc p f n)/\ev lt (kas_asc p f n)<=n+f/\Up lt p (ev lt (kas_asc p f n))/\(ev lt (kas_asc p f n)=n+f∨lt (g p (ev lt (kas_asc p f n))) (g p (ev lt (kas_asc p f n)-1))=true)
 |0,n,_,h=>⟨yP _,yP _,h,.inl rfl⟩
 |f+1,n,h1,h=>by
  have e:ev lt (kas_asc p (f+1) n)=ev lt (if lt (g p n) (g p (n-1))=true then KasT.ret n else kas_asc p f (n+1)):=rfl;cases c:lt (g p n) (g p (n-1)) with
  |true=>rw [c,rB rfl] at e;rw [e];exact ⟨yP _,by show n<=_;omega,h,.inr c⟩
  |false=>rw [c,rq (by simp)] at e;rw [e];obtain ⟨a1,a2,a3,a4⟩:=Vx f (n+1) (by omega) (Ou O h1 h c);exact ⟨by omega,by omega,a3,by rcases a4 with z|z;exact .inl (by omega);exact .inr z⟩
include O in
def VP (ha:a<=n)(hn:n<=p.size)(h:jB lt p n)(q:Eqs lt p a n):jB lt (kas_rev p a n) n/\∀ i,i<n->le lt (g p (n-1)) (g (kas_rev p a n) i):=by
 have eqv:∀ i,i<n->le lt (g (kas_rev p a n) i) (g p i)/\le lt (g p i) (g (kas_rev p a n) i):=λi hi=>by
  rw [XI hn];split
  .rename_i z;exact ⟨q _ _ (by omega) (by omega) (by omega) (by omega),q _ _ (by omega) (by omega) (by omega) (by omega)⟩
  .exact ⟨le_refl O _,le_refl O _⟩
 refine ⟨λi j hij hj=>?_,λi hi=>?_⟩
 .exact le_trans O (le_trans O (eqv j hj).1 (h i j hij hj)) (eqv i (by omega)).2
 .exact le_trans O (h i (n-1) (by omega) (by omega)) (eqv i hi).2
include O in
theorem Ji:∀(f:Nat)(p:EQ)(n q:Nat),q+1<=n->n+f<=p.size->jB lt p n->Eqs lt p (n-(q+1)) n -> ∃ p' n' q',ev lt (kas_desc f p n q)=(p',n',q')/\p'.Perm p/\p'.size=p.size/\n<=n'/\n'<=n+f/\jB lt p' n'/\q'+1<=n'/\Eqs lt p' (n'-(q'+1)) n'
 |0,p,n,q,hq,_,h,e=>⟨p,n,q,rfl,.refl _,rfl,yP _,yP _,h,hq,e⟩
 |f+1,p,n,q,hq,hs,h,he=>by
  have ee:ev lt (kas_desc (f+1) p n q)=ev lt (if lt (g p n) (g p (n-1))=true then (if q > 0 then kas_desc f (kas_rev p (n-(q+1)) n) (n+1) 0 else kas_desc f p (n+1) 0) else KasT.ask (g p (n-1)) (g p n) λd=>if d=true then .ret (p,n,q) else kas_desc f p (n+1) (q+1)):=rfl;cases c:lt (g p n) (g p (n-1)) with
  |true =>
   rw [c,rB rfl] at ee;by_cases hq0:q > 0
   .rw [rB hq0] at ee;obtain ⟨d1,d2⟩:=VP O (a:=n-(q+1)) (by omega) (by omega) h he;have gn:g (kas_rev p (n-(q+1)) n) n=g p n:=by rw [XI (by omega),rq (by omega)]
    have dn:jB lt (kas_rev p (n-(q+1)) n) (n+1):=Jj O (by omega) d1 (by rw [gn];exact le_trans O (le_of_lt O c) (d2 (n-1) (by omega)));obtain ⟨p',n',q',a1,a2,a3,a4,a5,a6⟩:=Ji f (kas_rev p (n-(q+1)) n) (n+1) 0 (by omega) (by rw [wV];omega) dn (λi j i1 i2 j1 j2=>(show i=j by omega)▸le_refl O _);exact ⟨p',n',q',ee.trans a1,a2.trans sZ,a3.trans wV,by omega,by omega,a6⟩
   .rw [rq hq0] at ee;obtain ⟨p',n',q',a1,a2,a3,a4,a5,a6⟩:=Ji f p (n+1) 0 (by omega) (by omega) (Jj O (by omega) h (le_of_lt O c)) (λi j i1 i2 j1 j2=>(show i=j by omega)▸le_refl O _);exact ⟨p',n',q',ee.trans a1,a2,a3,by omega,by omega,a6⟩
  |false =>
   rw [c,rq (by simp)] at ee;have e2:ev lt (kas_desc (f+1) p n q)=ev lt (if lt (g p (n-1)) (g p n)=true then KasT.ret (p,n,q) else kas_desc f p (n+1) (q+1)):=ee;cases d:lt (g p (n-1)) (g p n) with
   |true=>rw [d,rB rfl] at e2;exact ⟨p,n,q,e2,.refl _,rfl,yP _,by omega,h,hq,he⟩
   |false =>
    rw [d,rq (by simp)] at e2;have dn:=Jj O (by omega) h (show le lt (g p n) (g p (n-1)) from d);obtain ⟨p',n',q',a1,a2,a3,a4,a5,a6⟩:=Ji f p (n+1) (q+1) (by omega) (by omega) dn (λi j i1 i2 j1 j2=>by
     have lo:∀ k,n-(q+1)<=k->k<n+1->le lt (g p k) (g p (n-1))/\le lt (g p (n-1)) (g p k):=λk k1 k2=>by
      by_cases hk:k=n
      .subst hk;exact ⟨d,c⟩
      .exact ⟨he _ _ (by omega) (by omega) (by omega) (by omega),he _ _ (by omega) (by omega) (by omega) (by omega)⟩
     exact le_trans O (lo i (by omega) i2).1 (lo j (by omega) j2).2)
    exact ⟨p',n',q',e2.trans a1,a2,a3,by omega,by omega,a6⟩
include O in
def Dw (h1:1<=n)(hn:n<=nrem)(hs:nrem<=p.size)(h:jB lt p n):∃ m p',ev lt (kas_tail3 n nrem p)=(m,p')/\p'.Perm p/\p'.size=p.size/\1<=m/\m<=nrem/\Up lt p' m:=by
 unfold kas_tail3;rw [Qv];have up:Up lt (kas_rev p 0 n) n:=λi j hij hj=>by
  rw [XI (by omega),XI (by omega),rB (by omega),rB (by omega)];exact h _ _ (by omega) (by omega)
 obtain ⟨a1,a2,a3,_⟩:=Vx O (nrem-n) n h1 up;exact ⟨_,_,rfl,sZ,wV,by omega,by omega,a3⟩
include O in
def Bc (hn:n+1<=nrem)(hs:nrem<=p.size)(h:jB lt p (n+1)):∃ m p',ev lt (kas_descPart n nrem p)=(m,p')/\p'.Perm p/\p'.size=p.size/\1<=m/\m<=nrem/\Up lt p' m:=by
 unfold kas_descPart;rw [Qv];obtain ⟨p',n',q',a1,a2,a3,a4,a5,a6,a7,a8⟩:=Ji O (nrem-(n+1)) p (n+1) 0 (by omega) (by omega) h (λi j i1 i2 j1 j2=>(show i=j by omega)▸le_refl O _);rw [a1]
 dsimp only
 split
 .obtain ⟨d1,_⟩:=VP O (a:=n'-(q'+1)) (by omega) (by omega) a6 a8;obtain ⟨m,p2,b1,b2,b3,b4⟩:=Dw O (nrem:=nrem) (by omega) (by omega) (by rw [wV];omega) d1;exact ⟨m,p2,b1,b2.trans (sZ.trans a2),by rw [b3,wV,a3],b4⟩
 .obtain ⟨m,p2,b1,b2,b3,b4⟩:=Dw O (nrem:=nrem) (by omega) (by omega) (by omega) a6;exact ⟨m,p2,b1,b2.trans a2,by rw [b3,a3],b4⟩
include O in
def Lz (h0:1<=nrem)(hs:nrem<=p.size):∃ m p',ev lt (kas_count nrem p)=(m,p')/\p'.Perm p/\p'.size=p.size/\1<=m/\m<=nrem/\Up lt p' m:=by
 unfold kas_count;rw [Qv];obtain ⟨a1,a2,a3,a4⟩:=Vx O (p:=p) (nrem-1) 1 (yP _) (Ov O p);generalize hm:ev lt (kas_asc p (nrem-1) 1)=m at a1 a2 a3 a4 ⊢;by_cases e1:(m==nrem)=true
 .rw [rB e1];exact ⟨m,p,rfl,.refl _,rfl,a1,by omega,a3⟩
 .rw [rq e1];have ne:m≠nrem:=λz=>e1 (by rw [z];exact pR _);have c:lt (g p m) (g p (m-1))=true:=by
   rcases a4 with z|z
   ·omega
   ·exact z
  by_cases e2:m > 1
  .rw [rB e2];have ee:ev lt (KasT.ask (p.getD 0 0) (p.getD (m-1) 0) λc=>if c=true then KasT.ret (m,p) else kas_descPart m nrem (kas_rev p 0 m))=ev lt (if lt (g p 0) (g p (m-1))=true then KasT.ret (m,p) else kas_descPart m nrem (kas_rev p 0 m)):=rfl;rw [ee];cases d:lt (g p 0) (g p (m-1)) with
   |true=>rw [rB rfl];exact ⟨m,p,rfl,.refl _,rfl,a1,by omega,a3⟩
   |false =>
    rw [rq (by simp)];have all:Eqs lt p 0 m:=λi j _ i2 _ j2=>le_trans O (le_trans O (a3 i (m-1) (by omega) (by omega)) (show le lt (g p (m-1)) (g p 0) from d)) (a3 0 j (by omega) j2);obtain ⟨d1,d2⟩:=VP O (a:=0) (by omega) (by omega) (λi j hij hj=>all _ _ (by omega) (by omega) (by omega) (by omega)) all;have gm:g (kas_rev p 0 m) m=g p m:=by rw [XI (by omega),rq (by omega)]
    have dn:jB lt (kas_rev p 0 m) (m+1):=Jj O (by omega) d1 (by rw [gm];exact le_trans O (le_of_lt O c) (d2 (m-1) (by omega)));obtain ⟨m2,p2,b1,b2,b3,b4⟩:=Bc O (nrem:=nrem) (by omega) (by rw [wV];omega) dn;exact ⟨m2,p2,b1,b2.trans sZ,by rw [b3,wV],b4⟩
  .rw [rq e2];have e3:m=1:=by omega
   subst e3;exact Bc O (by omega) hs (λi j hij hj=>by
    by_cases z:i=j
    .subst z;exact le_refl O _
    .have z1:i=0:=by omega
     have z2:j=1:=by omega
     subst z1 z2;exact le_of_lt O c)
include O in
theorem WR {p:EQ}{k:Nat}(up:Up lt p k):∀(f l r:Nat),r-l<=f->l<=r->r<=k->(∀ i,i<l->le lt (g p i) (g p k))->(∀ i,r<=i->i<k->le lt (g p k) (g p i)) -> ev lt (kas_place p k f l r)<=k/\(∀ i,i<ev lt (kas_place p k f l r)->le lt (g p i) (g p k))/\∀ i,ev lt (kas_place p k f l r)<=i->i<k->le lt (g p k) (g p i)
 |0,l,r,hf,hl,hr,h1,h2=>by
  have e:l=r:=by omega
  subst e;exact ⟨hr,h1,h2⟩
 |f+1,l,r,hf,hl,hr,h1,h2=>by
  have e:ev lt (kas_place p k (f+1) l r)=ev lt (if l >= r then KasT.ret l else KasT.ask (p.getD k 0) (p.getD ((l+r) / 2) 0) λc=>if c=true then kas_place p k f l ((l+r) / 2) else kas_place p k f ((l+r) / 2+1) r):=rfl;by_cases c:l >= r
  .rw [rB c] at e;have e':l=r:=by omega
   subst e';rw [e];exact ⟨hr,h1,h2⟩
  .rw [rq c] at e;have e2:ev lt (kas_place p k (f+1) l r)=ev lt (if lt (g p k) (g p ((l+r) / 2))=true then kas_place p k f l ((l+r) / 2) else kas_place p k f ((l+r) / 2+1) r):=e;cases d:lt (g p k) (g p ((l+r) / 2)) with
   |true=>rw [d,rB rfl] at e2;rw [e2];exact WR up f l ((l+r) / 2) (by omega) (by omega) (by omega) h1 λi i1 i2=>le_trans O (le_of_lt O d) (up _ _ i1 i2)
   |false=>rw [d,rq (by simp)] at e2;rw [e2];exact WR up f ((l+r) / 2+1) r (by omega) (by omega) hr (λi hi=>le_trans O (up i ((l+r) / 2) (by omega) (by omega)) d) h2
include O in
theorem Kw:∀(f:Nat)(p:EQ)(k:Nat),k+f<=p.size->Up lt p k->∃ p',ev lt (kas_bin f p k)=p'/\p'.Perm p/\p'.size=p.size/\Up lt p' (k+f)
 |0,p,k,_,h=>⟨p,rfl,.refl _,rfl,h⟩
 |f+1,p,k,hs,h=>by
  have e:ev lt (kas_bin (f+1) p k)=ev lt ((kas_place p k k 0 k).bind λl=>kas_bin f (bubble p k (k-l)) (k+1)):=rfl;rw [Qv] at e;obtain ⟨a1,a2,a3⟩:=WR O h k 0 k (by omega) (by omega) (yP _) (λi hi=>rp hi (by omega)) λi i1 i2=>rp i1 (by omega);generalize ev lt (kas_place p k k 0 k)=l at e a1 a2 a3;have gb:∀ i,g (bubble p k (k-l)) i=if i=l then g p k else if l<i/\i<=k then g p (i-1) else g p i:=λi=>by
   have z:=getElem?_bubble (xs:=p) (src:=k) (by omega) (k-l) (by omega) i;have el:k-(k-l)=l:=by omega
   rw [el] at z;split
   .rename_i q;rw [rB q] at z;exact XH z
   .rename_i q;rw [rq q] at z;split
    .rename_i q2;rw [rB q2] at z;exact XH z
    .rename_i q2;rw [rq q2] at z;exact XH z
  have up:Up lt (bubble p k (k-l)) (k+1):=λi j hij hj=>by
   by_cases e0:i=j
   .subst e0;exact le_refl O _
   rw [gb,gb];by_cases i1:i=l
   .rw [rB i1,rq (by omega),rB (by omega)];exact a3 _ (by omega) (by omega)
   .rw [rq i1];by_cases j1:j=l
    .rw [rq (by omega),rB j1];exact a2 _ (by omega)
    .rw [rq j1];by_cases i2:l<i/\i<=k
     .rw [rB i2,rB (by omega)];exact h _ _ (by omega) (by omega)
     .rw [rq i2];by_cases j2:l<j/\j<=k
      .rw [rB j2];exact h _ _ (by omega) (by omega)
      .rw [rq j2];exact h _ _ (by omega) (by omega)
  obtain ⟨p',b1,b2,b3,b4⟩:=Kw f (bubble p k (k-l)) (k+1) (by rw [bubble_size];omega) up;exact ⟨p',e.trans b1,b2.trans (bubble_perm _ _ _),by rw [b3,bubble_size],by rw [show k+1+f=k+(f+1) by omega] at b4;exact b4⟩
include O in
def FJ (h:1<=n):∃ p,ev lt (kas_sort n)=p/\p.Perm (List.toArray (List.range n))/\p.size=n/\Up lt p n:=by
 unfold kas_sort;rw [Qv];obtain ⟨m,p,a1,a2,a3,a4,a5,a6⟩:=Lz O (p:=List.toArray (List.range n)) (nrem:=n) h (by simp);have hp:p.size=n:=by rw [a3];simp
 rw [a1]
 dsimp only
 split
 .have mx:max m 1=m:=by omega
  rw [mx];obtain ⟨p',b1,b2,b3,b4⟩:=Kw O (n-m) p m (by omega) a6;exact ⟨p',b1,b2.trans a2,by omega,by rw [show m+(n-m)=n by omega] at b4;exact b4⟩
 .have e:m=n:=by omega
  subst e;exact ⟨p,rfl,a2,hp,a6⟩
end
end Ka
namespace Ka
open PySem PySem.W PyProof.Rows
variable{m n r:Nat}{p:EQ}
def Bd {α:Type}(n:Nat):KasT α->Prop
 | .ret _=>True
 | .ask i j k=>i<n/\j<n/\∀ b,Bd n (k b)
def BdP {α:Type}(n:Nat)(R:α->Prop):KasT α->Prop
 | .ret a=>R a
 | .ask i j k=>i<n/\j<n/\∀ b,BdP n R (k b)
theorem Qr {α β:Type}{n:Nat}{R:α->Prop}{S:β->Prop}{f:α->KasT β}:∀{t:KasT α},BdP n R t->(∀ a,R a->BdP n S (f a))->BdP n S (t.bind f)
 | .ret a,h,k=>k a h
 | .ask _ _ _,⟨a,b,c⟩,k=>⟨a,b,λx=>Qr (c x) k⟩
def Lo (n:Nat)(p:EQ):Prop:=1<=n/\∀ x∈p.toList,x<n
def Lo.g (h:Lo n p)(i:Nat):p.getD i 0<n:=by
 rw [py];cases e:p[i]? with
 |none=>exact h.1
 |some x=>exact h.2 x (by rw [<- tR] at e;exact yu e)
def Lo.perm {q:EQ}(h:Lo n p)(k:q.Perm p):Lo n q:=⟨h.1,λx hx=>h.2 x ((Array.perm_iff_toList_perm.mp k).mem_iff.mp hx)⟩
theorem Vz {p:EQ}(h:Lo n p):∀ f m,BdP n (λ_=>True) (kas_asc p f m)
 |0,_=>trivial
 |f+1,m=>⟨h.g _,h.g _,λb=>by
  cases b with
  |true=>exact trivial
  |false=>exact Vz h f (m+1)⟩
theorem ZZ:∀(f:Nat){p:EQ}(m q:Nat),Lo n p->BdP n (λr=>Lo n r.1) (kas_desc f p m q)
 |0,_,_,_,h=>h
 |f+1,p,m,q,h=>⟨h.g _,h.g _,λb=>by
  cases b with
  |true =>
   show BdP n _ (if q > 0 then kas_desc f (kas_rev p (m-(q+1)) m) (m+1) 0 else kas_desc f p (m+1) 0);split
   .exact ZZ f _ _ (h.perm sZ)
   .exact ZZ f _ _ h
  |false=>exact ⟨h.g _,h.g _,λd=>by
    cases d with
    |true=>exact h
    |false=>exact ZZ f _ _ h⟩⟩
def Kt (h:Lo n p):BdP n (λq=>Lo n q.2) (kas_tail3 m r p):=Qr (Vz (h.perm sZ) _ _) λ_ _=>h.perm sZ
def Ks (h:Lo n p):BdP n (λq=>Lo n q.2) (kas_descPart m r p):=Qr (ZZ _ _ _ h) λa ha=>by
 split
 .exact Kt (ha.perm sZ)
 .exact Kt ha
def MC (h:Lo n p):BdP n (λq=>Lo n q.2) (kas_count r p):=Qr (Vz h _ _) λm _=>by
 split
 .exact h
 .split
  .exact ⟨h.g _,h.g _,λb=>by
    cases b with
    |true=>exact h
    |false=>exact Ks (h.perm sZ)⟩
  .exact Ks h
theorem VA {p:EQ}{k:Nat}(h:Lo n p):∀ f l r,BdP n (λ_=>True) (kas_place p k f l r)
 |0,_,_=>trivial
 |f+1,l,r=>by
  show BdP n _ (if l >= r then _ else _);split
  .exact trivial
  .exact ⟨h.g _,h.g _,λb=>by
    cases b with
    |true=>exact VA h f _ _
    |false=>exact VA h f _ _⟩
theorem Kr:∀(f:Nat){p:EQ}(k:Nat),Lo n p->BdP n (λ_=>True) (kas_bin f p k)
 |0,_,_,_=>trivial
 |f+1,p,k,h=>Qr (VA h _ _ _) λ_ _=>Kr f _ (h.perm (bubble_perm _ _ _))
def MD (h:1<=n):BdP n (λ_=>True) (kas_sort n):=Qr (MC ⟨h,λx hx=>by simpa using hx⟩) λr hr=>by
 split
 .exact Kr _ _ hr
 .exact trivial
theorem DV {α:Type}{cmp:Nat->Nat->(C0)->G2->Prop}{lt:AF}{s:G2}{R:α->Prop}{G:α->G2->Prop}(hc:∀ i j (C:C0),i<n->j<n->C (lt i j) s->cmp i j C s):∀{t:KasT α},BdP n R t->G (ev lt t) s->t.kasWp cmp G s
 | .ret _,_,h=>h
 | .ask i j k,⟨a,b,c⟩,h=>hc i j _ a b (DV hc (c (lt i j)) h)
def sort_wp {cmp:Nat->Nat->(C0)->G2->Prop}{lt:AF}{s:G2}{G:EQ->G2->Prop}(O:Ord lt)(h:1<=n)(hc:∀ i j (C:C0),i<n->j<n->C (lt i j) s->cmp i j C s)(hG:∀ p:EQ,p.Perm (List.toArray (List.range n))->p.size=n->(∀ i j,i<=j->j<n->lt (p.getD j 0) (p.getD i 0)=false)->G p s):(kas_sort n).kasWp cmp G s:=by obtain ⟨p,e,a1,a2,a3⟩:=FJ O h;refine DV hc (MD h) ?_;rw [e];exact hG p a1 a2 λi j hij hj=>a3 i j hij hj
end Ka
namespace L2
open PySem PySem.Spec PyProof.Rows
variable{prog:G3}{w:G5}{A A2:G4}{E:AA}{s:G2}{X:Cx}{tN:C4}{σ:St}{h':Heap}{D a b f kS:Addr}{e1:Nat}{xs:EB}{us:C8}{kf:Nat->Int×Str}{P:PySem.Fin->G2->Prop}{Q:VK}{e n:Nat}{H H1:Hp}{ks:C8}{s1:G2}
def qg (p q:Int×Str):Bool:=decide (p.1<q.1) || (p.1==q.1&&decide (p.2.cps.toList<q.2.cps.toList))
def tf {p q:Int×Str}:qg p q=true↔p.1<q.1∨(p.1=q.1/\p.2.cps.toList<q.2.cps.toList):=by unfold qg;simp only [Bool.or_eq_true,yg,decide_eq_true_eq,pQ]
def Ws (kf:Nat->Int×Str):Ka.Ord λi j=>qg (kf i) (kf j) where
 irr a:=by
  cases e:qg (kf a) (kf a) with
  |false=>rfl
  |true =>
   rcases tf.mp e with z|⟨_,z⟩
   .omega
   .exact rp z (List.lt_irrefl _)
 tr a b c h k:=by
  refine tf.mpr ?_;rcases tf.mp h with z|⟨z1,z2⟩<;>rcases tf.mp k with y|⟨y1,y2⟩
  .exact .inl (by omega)
  .exact .inl (by omega)
  .exact .inl (by omega)
  .exact .inr ⟨by omega,List.lt_trans z2 y2⟩
 neg a b c h:=by
  rcases tf.mp h with z|⟨z1,z2⟩
  .by_cases q:(kf a).1<(kf b).1
   .exact .inl (tf.mpr (.inl q))
   .exact .inr (tf.mpr (.inl (by omega)))
  .by_cases q:(kf a).1<(kf b).1
   .exact .inl (tf.mpr (.inl q))
   .by_cases q2:(kf b).1<(kf c).1
    .exact .inr (tf.mpr (.inl q2))
    .by_cases q3:(kf a).2.cps.toList<(kf b).2.cps.toList
     .exact .inl (tf.mpr (.inr ⟨by omega,q3⟩))
     .exact .inr (tf.mpr (.inr ⟨by omega,List.lt_of_le_of_lt (tV.mp q3) z2⟩))
def FZ {x y:Addr}{ox oy:Obj}{i j:Int}{a b:Str}{t u t' u':Tok}{k:Nat}{Q:C0}(hx:s.heap.get? x=some ox)(dx:ox.data = .seq #[.int i t,.str a u] n)(hy:s.heap.get? y=some oy)(dy:oy.data = .seq #[.int j t',.str b u'] k)(h:Q (qg (i,a) (j,b)) s):wpAny (model prog w) A (keyLt' (tuples' true) (.ref x) (.ref y)) Q E s:=by
 refine PySem.W.kat_lt hx dx hy dy ?_;show PySem.W.KatLex prog w A true _ Q [(.int i t,.int j t'),(.str a u,.str b u')] 0 s;refine PySem.W.kat_cons (wpAny_eqBool_int ?_);by_cases e:i=j
 .subst e;rw [pR];refine PySem.W.kat_yes (PySem.W.kat_cons (wpAny_eqBool_str ?_));by_cases e2:a=b
  .subst e2;rw [yt rfl];refine PySem.W.kat_yes (PySem.W.kat_nil ?_);have z:qg (i,a) (i,a)=false:=(Ws λ_=>(i,a)).irr 0;rw [z] at h;exact h
  .rw [yA e2];refine PySem.W.kat_no (PySem.W.kat_one _ _ (PyProof.Rows.lt_str ?_));have z:qg (i,a) (i,b)=decide (a.cps.toList<b.cps.toList):=by unfold qg;simp
   rw [z] at h;exact h
 .have e':(i==j)=false:=by simpa using e
  rw [e'];refine PySem.W.kat_no ?_;show wpAny _ _ (oneLt' true (.int i t) (.int j t')) Q _ s;refine oneLt_int ?_;have z:qg (i,a) (j,b)=decide (i<j):=by unfold qg;simp [e']
  rw [z] at h;exact h
def Grow (H H':Hp):Prop:=∀ b o,H b=some o->H' b=some o
def Grow.refl :Grow H H:=λ_ _ e=>e
def Grow.trans {H2:Hp}(a:Grow H H1)(b:Grow H1 H2):Grow H H2:=λc o e=>b c o (a c o e)
structure KeysIn (kf:Nat->Int×Str)(H:Hp)(xs:EB)(ks:C8):Prop where
 len:ks.length=xs.length
 at_:∀(i:Nat)(x:V),xs[i]?=some x->∃ p,ks[i]?=some (.ref p)/\H p=some (.tup [.int (kf i).1,.str (kf i).2])
def KeysIn.nil {kf:Nat->Int×Str}{H:Hp}:KeysIn kf H [] []:=⟨rfl,λi x e=>by simp at e⟩
def KeysIn.snoc {H':Hp}{x:V}{p:Addr}(h:KeysIn kf H xs ks)(g:Grow H H')(e:H' p=some (.tup [.int (kf xs.length).1,.str (kf xs.length).2])):KeysIn kf H' (xs++[x]) (ks++[.ref p]):=by
 refine ⟨by rw [yV,yV,h.len];rfl,λi y q=>?_⟩;by_cases hi:i<xs.length
 .rw [uU hi] at q;obtain ⟨a,e1,e2⟩:=h.at_ i y q;exact ⟨a,by rw [uU (by rw [h.len];exact hi)];exact e1,g _ _ e2⟩
 .rw [uQ (by omega)] at q;have hz:i-xs.length=0:=by
   cases hd:i-xs.length with
   |zero=>rfl
   |succ k=>rw [hd] at q;simp at q
  rw [hz] at q;simp at q;have hi':i=xs.length:=by omega
  refine ⟨p,?_,by rw [hi'];exact e⟩;rw [uQ (by rw [h.len];omega),h.len,hz];rfl
structure jW (X:Cx)(tN:C4)(b:Addr):Prop where
 s0:X.s₀.heap.objs.size<=b
 nL:b≠X.rC.locals
 nC:∀ x c,X.rC.cells.lookup x=some c->c≠b
 nP:∀ p∈X.pn++tN,p.1≠b
 nS:b∉t9 X.stack
def sS.mine (I:sS X tN σ H s)(h:s.heap.objs.size<=b):jW X tN b where
 s0:=yj I.sz h
 nL:=ug (yx I.lt h)
 nC:=λx c e=>by
  obtain ⟨v,o,e1,_⟩:=I.cell x c e;exact yG (yx (yN e1) h)
 nP:=λp hp=>yG (yx (yN (I.pin p hp).1) h)
 nS:=λz=>by
  rcases yL.mp (I.stkSub b z) with q|q
  .exact rp q (ug (yx I.lt h))
  .exact I.nofs h q
def sS.turn {t':Nat}(I:sS X tN σ H s)(m:jW X tN b)(hn:H b=none)(k:∀ c o,c≠b->s.heap.get? c=some o->h'.get? c=some o):sS X tN σ H { s with heap:=h',toks:=t' } :=
 I.turned k hn m.nL (.inr m.s0) m.nC m.nP
def Xf {h:Heap}{c:Addr}{g:C2}{o:Obj}(n:c≠a)(e:h.get? c=some o):(h.update a (Obj.mapSeq g)).get? c=some o:=(pi _ _ _ _ n).trans e
def Gj (X:Cx)(tN:C4)(σ:St)(H:Hp)(kf:Nat->Int×Str)(D:Addr)(xs:EB)(R:G2->Prop):Prop:=∀(l:EI)(out:C8)(H':Hp)(s':G2)(e':Nat),sS X tN σ H' s'->Grow H H'->H' D=none ->
 s'.heap.get? D=some (seqObj "list" out.toArray e')->l.Perm (List.range xs.length)->sP (l.map λi=>xs.getD i .non) out->l.Pairwise (λa b=>qg (kf b) (kf a)=false)->R s'
def Dx {st:SortSt}{out:C8}(I:sS X tN σ H1 s1)(mD:jW X tN D)(mK:jW X tN kS)(ne:D≠kS)(nD:H1 D=none)(nK:H1 kS=none)(hD:s1.heap.get? D=some (seqObj "list" #[] e1))(hk:s1.heap.get? kS=some (seqObj "list" ks.toArray e))(hout:(arrOf st).map (·.2)=out.toArray)(hz:out.length<64)(hkz:ks.length<64)(hf:failedOf st=none)(h:∀ (h':Heap) (e':Nat),sS X tN σ H1 { s1 with heap:=h' }->h'.get? D=some (seqObj "list" out.toArray e')->P (.done (.ret .none)) { s1 with heap:=h' }):wpAny (model X.rD X.w) A2 (ksk_tail D false e1 (.ref kS) st) P E s1:=by
 have hD1:(s1.heap.update kS (Obj.mapSeq λ_=>(#[]:ED))).get? D=some (seqObj "list" #[] e1):=Xf ne hD;obtain ⟨c2,hc2⟩:∃ c2,((s1.heap.update kS (Obj.mapSeq λ_=>(#[]:ED))).update D (Obj.mapSeq λ_=>out.toArray)).get? D=some (seqObj "list" out.toArray c2):=⟨_,get?_update_seq hD1 λ_=>out.toArray⟩;have I1:=I.turn (t':=s1.toks) mK nK (h':=s1.heap.update kS (Obj.mapSeq λ_=>(#[]:ED))) λc o n q=>Xf n q;have I2:=I1.turn (t':=s1.toks) mD nD (h':=(s1.heap.update kS (Obj.mapSeq λ_=>(#[]:ED))).update D (Obj.mapSeq λ_=>out.toArray)) λc o n q=>Xf n q;unfold ksk_tail
 dsimp only
 rw [hout];refine yY (listUpdate_at hk rfl ?_ (by rw [yT,ra];omega) (yd _));refine yY (oM ?_);refine yY (seqEpoch_at hD1 rfl ?_);refine yY (listUpdate_at hD1 rfl ?_ (yd _) (by show out.toArray.size<=_;rw [yT,ra];omega));rw [hf];simp only [bne_self_eq_false,uF,if_false];exact yI (h _ c2 I2 hc2)
theorem UT:∀{xs:EB}{us:C8}{i:Nat},sP xs us->i<xs.length->sO (xs.getD i .non) (us.getD i Value.none)
 |_,_,i,.nil,h=>by simp at h
 |_,_,0,.cons r _,_=>r
 |_,_,i+1,.cons _ q,h=>by
  have:=UT (i:=i) q (by simpa using h);simpa using this
theorem DP {xs:EB}{us:C8}(rv:sP xs us):∀{l:EI},(∀ i∈l,i<xs.length)->sP (l.map λi=>xs.getD i .non) (l.map λi=>us.getD i Value.none)
 |[],_=> .nil
 |i::l,h=> .cons (UT rv (h i yR)) (DP rv λj hj=>h j (yO _ hj))
def Wv {α:Type}{d:α}:∀ xs:List α,(List.range xs.length).map (λi=>xs.getD i d)=xs:=λxs=>by
 apply List.ext_getElem?;intro i;rw [yM];by_cases h:i<xs.length
 .rw [List.getElem?_range h,yS h];simp [h]
 .rw [uH (by simpa using h),uH (by simpa using h)];rfl
def end_K (I:sS X tN σ H1 s1)(mD:jW X tN D)(mK:jW X tN kS)(ne:D≠kS)(nD:H1 D=none)(nK:H1 kS=none)(hD:s1.heap.get? D=some (seqObj "list" #[] e1))(hk:s1.heap.get? kS=some (seqObj "list" ks.toArray e))(rv:sP xs us)(hK:KeysIn kf H1 xs ks)(h64:xs.length<64)(h:∀ (l:EI) (out:C8) (h':Heap) (e':Nat),sS X tN σ H1 { s1 with heap:=h' }->h'.get? D=some (seqObj "list" out.toArray e')->l.Perm (List.range xs.length)->sP (l.map λi=>xs.getD i .non) out->l.Pairwise (λa b=>qg (kf b) (kf a)=false)->P (.done (.ret .none)) { s1 with heap:=h' }):wpAny (model X.rD X.w) A2 (ksk_end D false us.toArray e1 (.ref kS) ks.toArray) P E s1:=by
 have hul:us.length=xs.length:=rv.length.symm;have hkl:ks.length=us.length:=by rw [hK.len,hul]
 unfold ksk_end
 dsimp only
 simp only [uF,if_false];by_cases h2:us.toArray.size<2
 .rw [rB h2,rB h2];refine yY (yI ?_);refine yY (yI ?_);refine Dx (out:=us) (ks:=ks) I mD mK ne nD nK hD hk ?_ (by omega) (by omega) rfl λh' e' I' hd=>h (List.range xs.length) us h' e' I' hd (.refl _) (by rw [Wv];exact rv) ?_
  .show ((ks.toArray.zip us.toArray)).map (·.2)=us.toArray;apply oP.mp;rw [Array.toList_map,ksk_zip];exact List.map_snd_zip (by simp;omega)
  .have hx:xs.length<2:=by rw [yT] at h2;omega
   have hr:xs.length=0∨xs.length=1:=by omega
   rcases hr with z|z
   .rw [z];exact List.Pairwise.nil
   .rw [z];exact List.pairwise_singleton _ _
 .rw [rq h2,rq h2];have h2':2<=us.length:=by rw [yT] at h2;omega
  have tup:∀ i,i<xs.length->∃ p ox t u n,ks.getD i Value.none = .ref p/\s1.heap.get? p=some ox/\ox.cls = .type "tuple"/\ox.data = .seq #[.int (kf i).1 t,.str (kf i).2 u] n:=λi hi=>by
   obtain ⟨p,a1,a2⟩:=hK.at_ i (xs.getD i .non) (by rw [yS hi];simp [hi]);obtain ⟨_,its,r,o,e1,e2,n,e3⟩:=I.tI p _ a2;obtain ⟨u1,u2,rfl,z1,z2⟩:=US r;obtain ⟨t,rfl⟩:∃ t,u1 = .int (kf i).1 t:=z1;obtain ⟨u,rfl⟩:∃ u,u2 = .str (kf i).2 u:=z2;exact ⟨p,o,t,u,n,by simp [a1],e1,e2,e3⟩
  have kt:∀{l:EI},(∀ i∈l,i<xs.length)->∃ fs,PySem.W.KatTups s1.heap (l.map λi=>ks.getD i Value.none) fs/\fs.length=l.length/\∀ v∈fs,∃ i t,v=Value.int i t:=λ{l}=>by
   induction l with
   |nil=>exact λ_=>⟨[],.nil,rfl,λv hv=>by simp at hv⟩
   |cons i l ih =>
    intro hl;obtain ⟨fs,b1,b2,b3⟩:=ih λj hj=>hl j (yO _ hj);obtain ⟨p,ox,t,u,n,c1,c2,c3,c4⟩:=tup i (hl i yR);refine ⟨Value.int (kf i).1 t::fs,?_,by rw [yJ,yJ,b2],λv hv=>?_⟩
    .rw [yH,c1];exact .cons c2 c3 c4 rfl b1
    .rcases yL.mp hv with z|z
     .exact ⟨_,_,z⟩
     .exact b3 v z
  obtain ⟨fs,f1,f2,f3⟩:=kt (l:=List.range ks.length) λi hi=>by rw [uP,hK.len] at hi;exact hi
  rw [Wv] at f1;rw [uf] at f2;refine yY (PySem.W.kat_kind (T:= .type "int") f1 (by omega) (λv hv=>?_) rfl ?_)
  .obtain ⟨i,t,rfl⟩:=f3 v hv;exact .now
  have O:=Ws λi=>kf i;refine yY (pM (PySem.W.kat_run (vs:=us) (ks:=ks) (Q:=λst' s'=>s'=s1/\∃ p:EQ,p.Perm (List.toArray (List.range us.length))/\p.size=us.length/\(∀ i j,i<=j->j<us.length->qg (kf (p.getD j 0)) (kf (p.getD i 0))=false)/\arrOf st'=p.map (PySem.W.kas_item (ks.toArray.zip us.toArray))/\failedOf st'=none)
   (G:=λp s'=>s'=s1/\p.Perm (List.toArray (List.range us.length))/\p.size=us.length/\∀ i j,i<=j->j<us.length->qg (kf (p.getD j 0)) (kf (p.getD i 0))=false) hkl h2' (by omega)
   (λp st' s' z1 z2 z3 z4=>⟨z4.1,p,z4.2.1,z4.2.2.1,z4.2.2.2,z2,z3⟩)
   (Ka.sort_wp O (by omega) (λi j C hi hj hC=>?_) λp z1 z2 z3=>⟨rfl,z1,z2,z3⟩)) (λr s' hr=>?_) λ_ _ z=>z)
  .obtain ⟨p,ox,t,u,n,c1,c2,c3,c4⟩:=tup i (by omega);obtain ⟨q,oy,t',u',m,d1,d2,d3,d4⟩:=tup j (by omega);show wpAny _ _ (keyLt' _ (ks.getD i Value.none) (ks.getD j Value.none)) C _ _;rw [c1,d1];exact FZ c2 c4 d2 d4 hC
  .obtain ⟨⟨⟩,st⟩:=r;obtain ⟨rfl,p,q1,q2,q3,q4,q5⟩:=hr
   dsimp only
   have pl:p.toList.Perm (List.range us.length):=Array.perm_iff_toList_perm.mp q1;have lo:∀ i∈p.toList,i<xs.length:=λi hi=>by
    have:=pl.mem_iff.mp hi;rw [uP] at this;omega
   refine Dx (out:=p.toList.map λi=>us.getD i Value.none) (ks:=ks) I mD mK ne nD nK hD hk (PySem.W.kat_snds hkl q4) (by rw [yZ,ub,q2];omega) (by omega) q5 λh' e' I' hd=>h p.toList _ h' e' I' hd (by rw [<- hul];exact pl) (DP rv lo) ?_;rw [List.pairwise_iff_getElem];intro i j hi hj hij;rw [ub,q2] at hi hj;have:=q3 i j (by omega) hj;have gi:∀ k,(hk:k<p.size)->p.getD k 0=p[k]:=λk hk=>by simp [Array.getD,hk]
   rw [gi i (by omega),gi j (by omega)] at this;simpa using this
def Vt (X:Cx)(tN:C4)(σ:St)(H:Hp)(A2:G4)(f:Addr)(kf:Nat->Int×Str)(xs:EB):Prop:=∀(H':Hp)(s':G2)(i:Nat)(x:V)(u:G1),xs[i]?=some x->sO x u->sS X tN σ H' s'->Grow H H' ->
 wpAny (model X.rD X.w) A2 (call (.ref f) [u]) (λu' s''=>CE X.stack X.rD X.w H' s' (λv H''=>Grow H' H''/\∃ p,v = .ref p/\H'' p=some (.tup [.int (kf i).1,.str (kf i).2])) u' s'') (λ_ _=>False) s'
def Il (I:sS X tN σ H s)(mD:jW X tN D)(mK:jW X tN kS)(ne:D≠kS)(nD:H D=none)(nK:H kS=none)(hD:s.heap.get? D=some (seqObj "list" #[] e1))(hk:s.heap.get? kS=some (seqObj "list" #[] 0))(rv:sP xs us)(h64:xs.length<64)(hkey:Vt X tN σ H A2 f kf xs)(h:Gj X tN σ H kf D xs λs'=>P (.done (.ret .none)) s'):wpAny (model X.rD X.w) A2 (ksk_rest D (.ref f) false us.toArray e1 (.ref kS)) P E s:=by
 have hul:us.length=xs.length:=rv.length.symm;unfold ksk_rest;refine yY (wpAny_rule ?_)
 first
  |rw [List.forIn_toArray]
  |(rw [<- Array.forIn_toList];simp only [List.toList_toArray])
 refine yY (ksk_fold (λj s'=>∃ (H':Hp) (ks:C8) (e:Nat),sS X tN σ H' s'/\Grow H H'/\H' D=none/\H' kS=none/\s'.heap.get? D=some (seqObj "list" #[] e1)/\s'.heap.get? kS=some (seqObj "list" ks.toArray e)/\KeysIn kf H' (xs.take j) ks) us 0 s
  ⟨H,[],0,I,.refl,nD,nK,hD,hk,by rw [List.take_zero];exact .nil⟩ (λj u s' hu hI=>?_) λs' hI=>?_)
 .rw [Nat.zero_add] at hI ⊢;obtain ⟨H',ks,e,I',g,n1,n2,d1,d2,kk⟩:=hI;have hj:j<us.length:=by
   rcases Nat.lt_or_ge j us.length with z|z
   ·exact z
   ·rw [uH z] at hu;cases hu
  obtain ⟨x,hx,rx⟩:∃ x,xs[j]?=some x/\sO x u:=by
   have z:=UT (i:=j) rv (by omega);refine ⟨xs.getD j .non,by rw [yS (by omega)];simp [show j<xs.length by omega],?_⟩;have e2:us.getD j Value.none=u:=by simp [hu]
   rw [e2] at z;exact z
  have lk:ks.length<64:=by rw [kk.len,uZ];omega
  refine yY (wpAny_attempt (pM (hkey H' s' j x u hx rx I' g) (λu' s'' ce=>?_) λ_ _ z=>z.elim));have ep:=I'.after ce;obtain ⟨v,H'',os,bare,un,tI,r,g2,p,rfl,hp⟩:=ce;obtain rfl:u'=Value.ref p:=r;have I'':sS X tN σ H'' s'':=by obtain ⟨hh,gg,dd,tt,os'⟩:=s'';obtain rfl:os'=s'.os:=os;exact I'.call (h':=hh) (g':=gg) (d':=dd) (t':=tt) (ch:=[]) un tI bare (λb z=>rp z (by simp))
  have d1':=un.keep D _ d1 n1 mD.nS (by simp);have d2':=un.keep kS _ d2 n2 mK.nS (by simp);have n1':=un.free D _ d1 n1 (by simp);have n2':=un.free kS _ d2 n2 (by simp);have ea:ks.toArray.push (.ref p)=(ks++[Value.ref p]).toArray:=by simp
  obtain ⟨c2,hc2⟩:∃ c2,(s''.heap.update kS (Obj.mapSeq (·.push (Value.ref p)))).get? kS=some (seqObj "list" (ks++[Value.ref p]).toArray c2):=⟨_,by rw [<- ea];exact get?_update_seq d2' (·.push (Value.ref p))⟩
  dsimp only
  refine yY (listUpdate_at d2' rfl ?_ (by rw [yT,ra];omega) (by show (ks.toArray.push (Value.ref p)).size<=_;rw [Array.size_push,yT,ra];omega));refine yI ⟨rfl,H'',ks++[Value.ref p],c2,I''.turn (t':=s''.toks) mK n2' λc o n q=>Xf n q,g.trans g2,n1',n2',Xf ne d1',hc2,?_⟩;have et:xs.take (j+1)=xs.take j++[x]:=by rw [oQ,hx];rfl
  rw [et];exact kk.snoc g2 (by rw [uZ,oY (by omega)];exact hp)
 .rw [Nat.zero_add] at hI;obtain ⟨H',ks,e,I',g,n1,n2,d1,d2,kk⟩:=hI;rw [hul,tP] at kk;refine yY (listItems_at d2 rfl ?_);exact end_K I' mD mK ne n1 n2 d1 d2 rv kk h64 λl out h' e' J hd p r q=>h l out H' _ e' J g n1 hd p r q
def FV (I:sS X tN σ H s)(mD:jW X tN D)(nD:H D=none)(hD:s.heap.get? D=some (seqObj "list" us.toArray n))(rv:sP xs us)(h64:xs.length<64)(hkey:Vt X tN σ H A2 f kf xs)(h:Gj X tN σ H kf D xs λs'=>P (.done (.ret .none)) s'):wpAny (model X.rD X.w) A2 (ksk_tree D (.ref f) false) P E s:=by have hul:us.length=xs.length:=rv.length.symm;obtain ⟨e1,hD1⟩:∃ e1,(s.heap.update D (Obj.mapSeq λ_=>(#[]:ED))).get? D=some (seqObj "list" #[] e1):=⟨_,get?_update_seq hD λ_=>#[]⟩;have I1:=I.turn (t':=s.toks) mD nD (h':=s.heap.update D (Obj.mapSeq λ_=>(#[]:ED))) λc o n q=>Xf n q;have k2:∀ b o,(s.heap.update D (Obj.mapSeq λ_=>(#[]:ED))).get? b=some o->((s.heap.update D (Obj.mapSeq λ_=>(#[]:ED))).push (seqObj "tuple" us.toArray 0)).get? b=some o:=λb o e=>yW _ e;have I2:=I1.kept (t':=s.toks) k2;have k3:∀ b o,((s.heap.update D (Obj.mapSeq λ_=>(#[]:ED))).push (seqObj "tuple" us.toArray 0)).get? b=some o->(((s.heap.update D (Obj.mapSeq λ_=>(#[]:ED))).push (seqObj "tuple" us.toArray 0)).push (seqObj "list" #[] 0)).get? b=some o:=λb o e=>yW _ e;have I3:=I2.kept (t':=s.toks) k3;have mK:=I2.mine (b:=((s.heap.update D (Obj.mapSeq λ_=>(#[]:ED))).push (seqObj "tuple" us.toArray 0)).objs.size) (yP _);have nK:=I2.tI.fresh (a:=((s.heap.update D (Obj.mapSeq λ_=>(#[]:ED))).push (seqObj "tuple" us.toArray 0)).objs.size) (yP _);unfold ksk_tree;refine yY (listItems_at hD rfl ?_);refine yY (listUpdate_at hD rfl ?_ (by rw [yT,ra];omega) (yd _));refine yY (seqEpoch_at hD1 rfl ?_);refine yY (wpAny_newTuple ?_ (by show us.length<=_;rw [ra];omega));refine yY (wpAny_newList ?_ (yd _));refine rh ?_;exact Il (s:={ s with heap:=((s.heap.update D (Obj.mapSeq λ_=>(#[]:ED))).push (seqObj "tuple" us.toArray 0)).push (seqObj "list" #[] 0) }) I3 mD mK (yG (yN (k2 _ _ hD1))) nD nK (k3 _ _ (k2 _ _ hD1)) (yz _ rfl) rv h64 hkey h
def Ll (I:sS X tN σ H s)(hl:sK X.K H a xs)(h64:xs.length<64)(hkey:Vt X tN σ H X.A.in1.in1 f kf xs)(h:∀ (D:Addr) (l:EI) (H':Hp),Grow H H'->H' D=none->l.Perm (List.range xs.length)->l.Pairwise (λa b=>qg (kf b) (kf a)=false)->Q (.ref D) (z9 H' D (.lst (l.map λi=>xs.getD i .non)))):wpAny (model X.rD X.w) X.A (call (.builtin "sorted") [.ref a] [(Str.ofString "key",.ref f)]) (EP X tN σ Q) E s:=by
 obtain ⟨us,rv,p,hz⟩:=I.list hl;have hul:us.length=xs.length:=rv.length.symm;refine call_function_entry_kw kind_sorted plain_sorted entry_sorted (ksk_s1 _ _) ?_;unfold Builtin.«sorted»;refine yY (m:=checkCount "sorted" 1 1 _) (yI ?_);refine yY (collect_list p.isList ?_ (by rw [ra];omega));refine yY (wpAny_newList ?_ (by rw [ra];omega));have keep:∀ b o,s.heap.get? b=some o->((s.heap.push (seqObj "list" #[] 0)).update s.heap.objs.size (Obj.mapSeq (·++us.toArray))).get? b=some o:=λb o q=>by
  rw [pi _ _ _ _ (yG (yN q))];exact yW _ q
 have I1:=I.kept (t':=s.toks) keep;have k2:∀ b o,((s.heap.push (seqObj "list" #[] 0)).update s.heap.objs.size (Obj.mapSeq (·++us.toArray))).get? b=some o->(((s.heap.push (seqObj "list" #[] 0)).update s.heap.objs.size (Obj.mapSeq (·++us.toArray))).push (seqObj "list" us.toArray 0)).get? b=some o:=λb o e=>yW _ e;have I2:=I1.kept (t':=s.toks) k2;have mD:=I1.mine (b:=((s.heap.push (seqObj "list" #[] 0)).update s.heap.objs.size (Obj.mapSeq (·++us.toArray))).objs.size) (yP _);have nD:=I1.tI.fresh (a:=((s.heap.push (seqObj "list" #[] 0)).update s.heap.objs.size (Obj.mapSeq (·++us.toArray))).objs.size) (yP _);have hoL:(((s.heap.push (seqObj "list" #[] 0)).update s.heap.objs.size (Obj.mapSeq (·++us.toArray))).push (seqObj "list" us.toArray 0)).get? ((s.heap.push (seqObj "list" #[] 0)).update s.heap.objs.size (Obj.mapSeq (·++us.toArray))).objs.size=some (seqObj "list" us.toArray 0):=yz _ rfl;refine yY (rh (wpAny_call_entry_kw slot_list_sort (s:={ s with heap:=((s.heap.push (seqObj "list" #[] 0)).update s.heap.objs.size (Obj.mapSeq (·++us.toArray))).push (seqObj "list" us.toArray 0) }) ⟨_,hoL,rfl⟩ entry_list_sort ?body (ksk_l1 _ _)));show wpAny (model X.rD X.w) X.A.in1.in1 (Builtin.«list.sort» ⟨[.ref _],[(Str.ofString "key",.ref f)]⟩) _ _ _;rw [ksk_t1];refine FV (s:={ s with heap:=((s.heap.push (seqObj "list" #[] 0)).update s.heap.objs.size (Obj.mapSeq (·++us.toArray))).push (seqObj "list" us.toArray 0) }) (kf:=kf) I2 mD nD hoL rv h64 hkey λl out H' s' e' J g n hd pm r pw=>⟨_,rfl,yI ⟨_,rfl,.ref _,_,J.track mD.s0 n mD.nL mD.nC mD.nP (o:= .lst (l.map λi=>xs.getD i .non)) ?_,rfl,h _ l H' g n pm pw⟩⟩;exact ⟨by rw [yZ,pm.length_eq,uf];exact hz,out,e',r,hd⟩
end L2
namespace L2
open PySem PySem.Spec PySem.Calls PyProof.Rows
variable{P:G3}{w:G5}{mg:AB}{tM:Heap}{X:Cx}{x:Str}{K:Fg}
def Fun.okC {qual:Str}{st:Stmt}{f:Addr}{fd:FuncData}{N ps:C7}{k:Nat}{sp:Sp}(F:Fun K x qual st f fd)(S:y8 N ps (j4 st))(len:∀ vs H Q E,sp vs H Q E->vs.length=ps.length)(hbody:∀(A:G4)(tL:EK)(s:G2)(H:Hp)(vs:EB)(Q:VK)(E:XK),Room k (A.deeper (envOfC qual (j4 st) s.heap.objs.size f fd.code))->sp vs H Q E -> ∃ t,PSs (qy v8 P w K mg tM N qual (j4 st) f fd.code A tL s H E).nox (qf st) t/\t { nx:=λ_ H'=>Q .non H',rt:=Q } (start N vs) H):sQ P w K mg tM v8 (k+1) f fd ps sp:=by obtain ⟨oc,od,kV,doc,pm,an,tH,ct,osl,rfl,lk,hcd⟩:=F.ex;refine Ju lk hcd S len λA tL s H vs Q E hr hsp=>?_;obtain ⟨t,h,q⟩:=hbody A tL s H vs Q E hr hsp;exact ⟨t,h.nox,q⟩
def sK.grow {H H':Hp}{a:Addr}{xs:EB}(h:sK K H a xs)(g:Grow H H'):sK K H' a xs:=by
 rcases h with (h|⟨o,h⟩)|h
 .exact .inl (.inl (g _ _ h))
 .exact .inl (.inr ⟨o,g _ _ h⟩)
 .exact .inr h
def Ds (K:Fg)(fi:EI)(t:TA)(tb:TE):TE:=λσ H Q=>t σ H λvs H1=>∃(a:Addr)(xs:EB)(kf:Nat->Int×Str)(cv:EB),vs=[.ref a]/\(fi.map λi=>σ[i]?)=cv.map (λv=>some (some v))/\sK K H1 a xs/\xs.length<64 /\
 (∀(i:Nat)(x:V),xs[i]?=some x->∀(H':Hp)(Q':VK),Grow H1 H'->(∀ p H'',Grow H' H''->H'' p=some (.tup [.int (kf i).1,.str (kf i).2])->Q' (.ref p) H'')->tb (([x]++cv).map some) H' Q') /\
 ∀(D:Addr)(l:EI)(H':Hp),Grow H1 H'->H' D=none->l.Perm (List.range xs.length)->l.Pairwise (λa b=>qg (kf b) (kf a)=false)->Q (.ref D) (z9 H' D (.lst (l.map λi=>xs.getD i .non)))
structure Mn (X:Cx)(scope:Scope)(clos:EM)(fr:C7)(fi:EI):Prop where
 len:fi.length=fr.length
 at_:∀(j:Nat)(y:Str)(i:Nat),fr[j]?=some y->fi[j]?=some i->X.N[i]?=some y/\X.rC.kindOf y=some .cell/\scope.names.lookup y=some .free/\Vis X.rC.scope y
 sub:∀ y c,clos.lookup y=some c->X.rC.cells.lookup y=some c
 has:∀ y c,y∈fr->X.rC.cells.lookup y=some c->clos.lookup y=some c
def So {e body:Expr}{t:TA}{tb:TE}{p pos kp lp:Pos}{params:Arguments}{scope:Scope}{c Pt:Addr}{ps:ED}{wt:F8}{k:Nat}{clos:EM}{fr:C7}{fi:EI}(hK:X.K=K)(hr:Room (k+3) X.A)(hg:Gl X "sorted")(hm:X.mg "sorted"=none)(ha:PA X [e] t)(hP:(Pt,ps,wt)∈TABS)(hw:(lp,X.rC.qual ++ "<lambda>")∈wt)(hu:∀ p∈wt,(p.1.line==lp.line&&p.1.col==lp.col)=true->p.2=X.rC.qual ++ "<lambda>")(hcode:X.rC.code = .ref c)(hC:∀ h:Heap,X.K.In h->PySem.W.CodeHd h c Pt)(S:Ge [x] fr scope)(LF:Mn X scope clos fr fi)(hb:∀ (f c':Addr) (s:G2) (H:Hp),Room k (X.A.in1.in1.deeper (PySem.W.envX (X.rC.qual ++ "<lambda>") scope s.heap.objs.size f (.ref c') clos))->PE (Jc X.rD X.w X.K X.mg X.tM ([x]++fr) (X.rC.qual ++ "<lambda>") scope f c' clos X.A.in1.in1 X.stack s H) body tb)(hbd:∀ (qual:Str) (pm tH ctv u:G1),bindArgs (PySem.W.kla_fn "<lambda>" qual params body scope clos pm tH ctv) ⟨[u],[]⟩=pure [(x,u)])(hcl:closureFor scope X.rC=pure clos:=by rfl)(hdef:defaultsOf params X.rC=([],[]):=by rfl)(hs:backTo pos (starEach [e] X.rC)=(false,eval e X.rC)::backTo pos (starEach [] X.rC):=by rfl)(hpl:(backTo pos (starEach [e] X.rC)).any (·.1)=false:=by rfl):PE X (.Call (.Name "sorted" p) [e] [⟨some "key",.Lambda params body scope lp,kp⟩] pos) (Ds K fi t tb):=by
 subst hK;intro tN s σ H Q I h;refine pX (jL I hg hm KE ?_ (by decide) (by decide));refine pd (j7 (ha pos tN s σ H _ I h) λus s1 ⟨vs,H1,I1,r1,q1⟩=>?_) hs hpl;obtain ⟨a,xs,kf,cv,rfl,hcv,hq,h64,qk,qe⟩:=q1;obtain ⟨u,rfl,ru⟩:=zk r1;obtain rfl:u=Value.ref a:=ru;refine PyProof.Rows.kws_cons (Hv I1 hP hw hu hcode (hC _ I1.mod.kin) hcl hdef λf c' oc vs tq ctv H' h' tk I2 g _ hf hc hd hv=>PyProof.Rows.kws_nil ?_);show wpAny _ _ (call (.builtin "sorted") [.ref a] [(Str.ofString "key",Value.ref f)]) _ _ _;refine Ll I2 (hq.grow g) h64 (kf:=kf) (λH3 s3 i3 x3 u3 hx rx I3 g3=>?_) λD l H3 g3 n pm pw=>qe D l H3 (Grow.trans g g3) n pm pw;obtain ⟨hf3,_⟩:=I3.tI f _ (g3 _ _ hf);obtain ⟨hc3,_⟩:=I3.tI c' _ (g3 _ _ hc);have room:=hr.in1.in1;have lcv:cv.length=fr.length:=by have z:=pL List.length hcv;rw [yZ,yZ] at z;rw [<- z,LF.len]
 refine pp (pG (Hu (vs:=[x3]) (cv:=cv) (t:=tb) (E:=λ_ _ _=>False) (Q:=λv H''=>Grow H3 H''/\∃ p,v = .ref p/\H'' p=some (.tup [.int (kf i3).1,.str (kf i3).2])) S room.depth room.hd I3.env0.in1.in1 hf3 ⟨c',oc,vs,tq,rfl,hc3,hd,hv⟩ (hbd _ _ _ _ _) rfl (.cons rx .nil)
  (λy z d e1 e2=>I3.ok.inj y z d (LF.sub y d e1) (LF.sub z d e2)) (λy d e1=>⟨I3.cell y d (LF.sub y d e1),I3.freeC y d (LF.sub y d e1)⟩) lcv
  (λj y v e1 e2=>?_) (hb f c' s3 H3 (room.deeper _)) (qk i3 x3 hx H3 _ (Grow.trans g g3) λp H'' g4 hp=>⟨g4,p,rfl,hp⟩)) λr s' z=>?_)
 .have hj:j<fi.length:=by
   rw [LF.len];rcases Nat.lt_or_ge j fr.length with q|q
   ·exact q
   ·rw [uH q] at e1;cases e1
  obtain ⟨n1,n2,n3,n4⟩:=LF.at_ j y fi[j] e1 (yS hj);have es:σ[fi[j]]?=some (some v):=by have z:=pL (λl=>l[j]?) hcv;simp only [yM,e2,yS hj,ux,Option.some.injEq] at z;exact z
  obtain ⟨m,_,lk⟩:=I3.loc;obtain ⟨u,rv,look⟩:=lk fi[j] y v n1 es n4;refine ⟨n3,?_⟩;rcases look with ⟨q,_⟩|⟨_,d,q1,q2⟩
  .rw [n2] at q;cases q
  .exact ⟨d,u,LF.has y d (yu e1) q1,q2,rv⟩
 .cases r with
  |error e=>exact z.elim
  |ok fl =>
   cases fl with
   |ret u=>exact z
   |next=>exact False.elim z
   |brk=>exact False.elim z
   |cont=>exact False.elim z
end L2
namespace Mi
open PySem L2
variable{K:Fg}{t:TA}{tb:TE}{as:MA}{kb:M}
def Wi:PV->Option (Int×Str)
 | .tup [.at (.int i),.at (.str n)]=>some (i,n)
 |_=>none
def Hg {y:PV}{k:Int×Str}(h:Wi y=some k):y = .tup [.at (.int k.1),.at (.str k.2)]:=by
 unfold Wi at h;split at h
 .cases h;rfl
 .cases h
def wz (kb:AM):C5->Option ER
 |[]=>some []
 |x::xs=>((kb x).bind Wi).bind λk=>(wz kb xs).map (k::·)
theorem BR {kb:AM}:∀{xs:C5}{ks:ER},wz kb xs=some ks->ks.length=xs.length
 |[],ks,h=>by cases h;rfl
 |x::xs,ks,h=>by
  obtain ⟨k,_,h2⟩:=uE.mp h;obtain ⟨r,h3,rfl⟩:=yC.mp h2;rw [yJ,yJ,BR h3]
theorem BQ {kb:AM}:∀{xs:C5}{ks:ER}{i:Nat}{x:PV},wz kb xs=some ks->xs[i]?=some x->∃ k,ks[i]?=some k/\kb x=some (.tup [.at (.int k.1),.at (.str k.2)])
 |[],_,_,_,_,e=>by simp at e
 |y::xs,ks,0,x,h,e=>by
  obtain ⟨k,h1,h2⟩:=uE.mp h;obtain ⟨r,h3,rfl⟩:=yC.mp h2;obtain ⟨z,h4,h5⟩:=uE.mp h1;simp at e;subst e;exact ⟨k,rfl,by rw [h4,Hg h5]⟩
 |y::xs,ks,i+1,x,h,e=>by
  obtain ⟨k,h1,h2⟩:=uE.mp h;obtain ⟨r,h3,rfl⟩:=yC.mp h2;obtain ⟨k',a,b⟩:=BQ (i:=i) h3 (by simpa using e);exact ⟨k',by simpa using a,b⟩
def xl (ks:ER)(i:Nat):Int×Str:=ks.getD i (0, "")
def leI (ks:ER)(a b:Nat):Bool:=!qg (xl ks b) (xl ks a)
def vZ (ks:ER):EI:=(List.range ks.length).mergeSort (leI ks)
def ZB (ks:ER):(vZ ks).Perm (List.range ks.length):=List.mergeSort_perm _ _
def Da (ks:ER):(vZ ks).Pairwise λa b=>qg (xl ks b) (xl ks a)=false:=by
 have O:=Ws (xl ks);have:=List.pairwise_mergeSort (le:=leI ks) (λa b c h1 h2=>by
  unfold leI at h1 h2 ⊢;simp only [Bool.not_eq_true'] at h1 h2 ⊢;exact Ka.le_trans (lt:=λi j=>qg (xl ks i) (xl ks j)) O (a:=a) (b:=b) (c:=c) h1 h2) (λa b=>by
  unfold leI;cases h:qg (xl ks b) (xl ks a) with
  |false=>rfl
  |true =>
   have h2:qg (xl ks a) (xl ks b)=false:=Ka.le_of_lt (lt:=λi j=>qg (xl ks i) (xl ks j)) O (a:=b) (b:=a) h;rw [h2];rfl) (List.range ks.length)
 exact this.imp λh=>by unfold leI at h;simpa using h
def HK {p q:Int×Str}(h1:qg p q=false)(h2:qg q p=false):p=q:=by
 have n1:¬ (p.1<q.1∨(p.1=q.1/\p.2.cps.toList<q.2.cps.toList)):=λz=>by rw [tf.mpr z] at h1;cases h1
 have n2:¬ (q.1<p.1∨(q.1=p.1/\q.2.cps.toList<p.2.cps.toList)):=λz=>by rw [tf.mpr z] at h2;cases h2
 have e1:p.1=q.1:=by omega
 have e2:p.2.cps.toList=q.2.cps.toList:=List.le_antisymm (tV.mp λz=>n2 (.inr ⟨e1.symm,z⟩)) (tV.mp λz=>n1 (.inr ⟨e1,z⟩));obtain ⟨i,⟨s⟩⟩:=p;obtain ⟨j,⟨t⟩⟩:=q;cases e1;cases oP.mp e2;rfl
def FH {ks:ER}(nd:ks.Nodup){l:EI}(p:l.Perm (List.range ks.length))(u:l.Pairwise λa b=>qg (xl ks b) (xl ks a)=false):l=vZ ks :=
 List.Perm.eq_of_pairwise (λa b ha hb h1 h2=>by
  have la:a<ks.length:=uP.mp (p.mem_iff.mp ha);have lb:b<ks.length:=uP.mp ((ZB ks).mem_iff.mp hb);have e:=HK h2 h1;unfold xl at e;simp only [yy,yS la,yS lb,oO] at e;have nd':=List.pairwise_iff_getElem.mp nd;rcases Nat.lt_trichotomy a b with z|z|z
  .exact rp e (nd' a b la lb z)
  .exact z
  .exact rp e.symm (nd' b a lb la z)) u (Da ks) (p.trans (ZB ks).symm)
def WI (kb:AM):C5->Option PV
 |[.lst xs]=>(wz kb xs).bind λks=>if xs.length<64/\ks.Nodup then some (.lst ((vZ ks).map λi=>xs.getD i (.at .non))) else none
 |_=>none
theorem CL {H:Hp}{xs:C5}{vs:EB}(r:sR H xs vs):∀{l:EI},(∀ i∈l,i<xs.length)->sR H (l.map λi=>xs.getD i (.at .non)) (l.map λi=>vs.getD i .non)
 |[],_=> .nil
 |i::l,h=>by
  have hi:=h i yR;obtain ⟨v,e1,e2⟩:=r.get (i:=i) (x:=xs.getD i (.at .non)) (by rw [yS hi];simp [hi]);refine .cons ?_ (CL r λj hj=>h j (yO _ hj));have:vs.getD i .non=v:=by simp [e1]
  show Rep H (xs.getD i (.at .non)) (vs.getD i .non);rw [this];exact e2
def shs (ε:ME):EI->Option C5
 |[]=>some []
 |i::l=>match ε[i]? with
  |some (.sh x)=>(shs ε l).map (x::·)
  |_=>none
theorem CZ {Hs0 H0 Hs H:Hp}{σ:St}{ε:ME}(r:RS Hs0 H0 Hs H σ ε):∀{l:EI}{cs:C5},shs ε l=some cs->∃ cv,(l.map λi=>σ[i]?)=cv.map (λv=>some (some v))/\sR Hs cs cv
 |[],_,h=>by cases h;exact ⟨[],rfl,.nil⟩
 |i::l,cs,h=>by
  unfold shs at h;split at h
  .rename_i x hx;obtain ⟨r',h2,rfl⟩:=yC.mp h;obtain ⟨v,e1,e2⟩:=r.sh i x hx;obtain ⟨cv,e3,e4⟩:=CZ r h2;exact ⟨v::cv,by rw [yH,yH,e1,e3],.cons e2 e4⟩
  .cases h
def Ba (fi:EI)(as:MA)(kb:M):M:=λε=>(shs ε fi).bind λcs=>(as ε).bind (WI λx=>kb (.sh x::cs.map .sh))
instance {fi:EI}[sa:xi t as][sb:SemE tb kb]:xJ (Ds K fi t tb) (Ba fi as kb) where
 h:=λ{ε y} h {Hs0 H0 Hs H σ} rs {Q} q=>by
  obtain ⟨cs,h0,h⟩:=uE.mp h;obtain ⟨ys,h1,h2⟩:=uE.mp h;unfold WI at h2;split at h2
  .rename_i xs;obtain ⟨ks,h3,h4⟩:=uE.mp h2;split at h4
   .rename_i hc;cases h4;obtain ⟨cv,ec,rc⟩:=CZ rs h0;refine sa.h h1 rs λvs tG H1 x1 r1=>?_;obtain ⟨v,w,rfl,p1,p2⟩:=tz.mp r1;cases tu.mp p2;obtain ⟨a,xv,rfl,e1,e2⟩:=tj.mp p1;have lx:xv.length=xs.length:=e2.length;have lk:ks.length=xs.length:=BR h3;refine ⟨a,xv,xl ks,cv,rfl,ec,sK.of (x1.s3 _ _ e1),by omega,λi x hx H' Q' g hq=>?_,λD l H' g n pm pw=>?_⟩
    .have hi:i<xs.length:=by
      rcases Nat.lt_or_ge i xv.length with z|z
      ·omega
      ·rw [uH z] at hx;cases hx
     obtain ⟨x',e3,e4⟩:=e2.get (i:=i) (x:=xs[i]) (yS hi);rw [hx] at e3;cases e3;obtain ⟨k,e5,e6⟩:=BQ h3 (yS hi);have ek:xl ks i=k:=by unfold xl;simp [e5]
     have st:=zL (N:=List.replicate (([x]++cv).length) "") (xs:=xs[i]::cs) (vs:=x::cv) (show sL tG H' from λb o e=>g b o (x1.s3 b o e)) (.cons e4 (rc.mono x1.s1));have lc:cv.length=cs.length:=rc.length;refine sb.h e6 (σ:=([x]++cv).map some) (Hs0:=tG) (H0:=H') (Hs:=tG) ?_ λv tF H2 x2 r2=>?_
     .simpa [L2.start,lc] using st
     .obtain ⟨p,us,rfl,e7,e8⟩:=sY.mp r2;have e9:=e8;rw [show [PV.at (.int k.1),PV.at (.str k.2)]=[V.int k.1,V.str k.2].map .at from rfl] at e9;cases sR.ats e9;exact hq p H2 (λb o e=>x2.s2 b o e) (by rw [ek];exact x2.s3 _ _ e7)
    .have el:l=vZ ks:=FH hc.2 (by rw [lk,<- lx];exact pm) pw;subst el;have nH1:H1 D=none:=by
      cases z:H1 D with
      |none=>rfl
      |some o=>rw [g D o z] at n;cases n
     have nH:H D=none:=x1.s2.free nH1;have nS:tG D=none:=x1.s3.free nH1;refine q D tG _ (x1.trans ⟨.refl _,λb o e=>?_,λb o e=>?_,λ_ _ z=>z⟩) nH nS ⟨_,u5,CL e2 λi hi=>?_⟩
     .rw [j3 (k9 (g b o e) n)];exact g b o e
     .have e':=g b o (x1.s3 b o e);rw [j3 (k9 e' n)];exact e'
     .have:=uP.mp ((ZB ks).mem_iff.mp hi);omega
   .cases h4
  .cases h2
end Mi
namespace Mi
open PySem L2 PyProof.Rows
variable{P:G3}{w:G5}{K:Fg}{mg:AB}{tM:Heap}
def okOC {x qual:Str}{st:Stmt}{f:Addr}{fd:FuncData}{N ps:C7}{k:Nat}{b:MS}{m:AC}(F:Fun K x qual st f fd)(S:y8 N ps (j4 st))(hm:m=qG N.length ps.length b)(hb:∀(A:G4)(tL:EK)(s:G2)(H:Hp)(E:XK),Room k (A.deeper (envOfC qual (j4 st) s.heap.objs.size f fd.code)) -> ∃ t,PSs (qy v8 P w K mg tM N qual (j4 st) f fd.code A tL s H E).nox (qf st) t/\i0 true t b):sQ P w K mg tM v8 (k+1) f fd ps (qa m):=by
 subst hm;refine F.okC S (λvs H Q E h=>?_) (λA tL s H vs Q E hr h=>?_)
 .obtain ⟨Hs,xs,y,_,r,e,_⟩:=h;unfold qG at e;split at e
  .rename_i hl;rw [r.length];exact hl
  .cases e
 .obtain ⟨Hs,xs,y,sm,r,e,q⟩:=h;obtain ⟨t,ht,sem⟩:=hb A tL s H E hr;refine ⟨t,ht,?_⟩;unfold qG at e;split at e
  .rename_i hl;obtain ⟨o,eo,e1⟩:=tE e;refine sem.h eo (by rw [<- hl];exact zL sm r) ?_;cases o with
   |rt z=>cases e1;exact λa Hs' H' x n n' t=>q a Hs' H' x n n' t
   |nx ε=>cases e1
   |bk ε=>cases e1
   |ct ε=>cases e1
  .cases e
end Mi
namespace Mi
open PySem L2
variable {fr:Bool}
def pLtP:PV->PV->Option PV
 | .tup [.at (.int i),.at (.str x)],.tup [.at (.int j),.at (.str y)]=>some (.at (.bl (qg (i,x) (j,y))))
 |_,_=>none
def pRep:PV->PV->Option PV
 | .lst xs,.at (.int k)=>if -(lim:Int)<=k/\k<=lim/\xs.length*k.toNat<=lim then some (.lst (List.replicate k.toNat xs).flatten) else none
 |_,_=>none
theorem sR.rep {H:Hp}{xs:C5}{vs:EB}(r:sR H xs vs):∀ k:Nat,sR H (List.replicate k xs).flatten (List.replicate k vs).flatten
 |0=> .nil
 |k+1=>by
  rw [uw,uw,yq,yq];exact r.append (sR.rep r k)
instance:Gh rRep pRep where
 h:=λ{x y z} e {Hs H v w} s a b {Q} q=>by
  unfold pRep at e;split at e
  .split at e
   .rename_i xs k hl;cases e;obtain ⟨p,vs,rfl,e1,r1⟩:=qj s a;cases c9 b;have hlim:(lim:Int)=1000000:=rfl;exact ⟨p,k,vs,rfl,rfl,e1,by omega,by omega,xL (by rw [r1.length];exact hl.2.2),λl hl=>q l _ _ (.newO s hl) hl (s.free hl) ⟨_,u5,r1.rep _⟩⟩
   .cases e
  .cases e
end Mi
namespace L2
open PySem PySem.Spec PySem.Calls PyProof.Rows
variable{X:Cx}{K:Fg}{P:G3}{w:G5}{A:G4}{R:AH}{I S l z:Addr}{fp wr:EC}{n:Nat}{Pp:C3}{E:AA}{s:G2}{x:Str}{e:Expr}{te:TE}{p pos:Pos}{es:EN}{t:TA}{h0:Heap}
def u8 {N P:C7}{sc:Scope}(h1:sc.kind = .function:=by rfl)(h2:sc.isCoroutine=false:=by rfl)(h3:sc.isGenerator=false:=by rfl)(h4:N.Nodup:=by decide +kernel)(h5:N.take P.length=P:=by rfl)(h6:∀ x∈P,sc.names.lookup x=some .local∨sc.names.lookup x=some .cell:=by decide +kernel)(h7:∀ y∈sc.names,y.2 ≠ .free:=by decide +kernel):y8 N P sc:=⟨h1,h2,h3,h4,h5,h6,h7⟩
def sW (i:Nat){pos':Pos}(hN:X.N.Nodup)(he:PE X e te)(hi:X.N[i]?=some x:=by rfl)(hx:Loc X.rC.scope x:=by first|exact Or.inl rfl|exact Or.inr rfl)(hs:swapsWith e (some (.Name x pos')) pos.line X.rC=pure false:=by rfl)(hf:X.fn x=true∨X.rC.scope.names.lookup x=some .local:=by first|exact .inl rfl|exact .inr rfl):PS X (.Assign [.Name x pos'] e pos) (jw te (xE i)):=qq hN hi hx he hs hf
def aW (ha:PE X e te)(hs:starEach [e] X.rC=(false,eval e X.rC)::starEach [] X.rC:=by rfl):PA X [e] (qv te qL):=z8 ha w9 hs
def aC (ha:PE X e te)(hr:PA X es t)(hs:starEach (e::es) X.rC=(false,eval e X.rC)::starEach es X.rC:=by rfl):PA X (e::es) (qv te t):=z8 ha hr hs
def iW (K:Fg){a b:Expr}{ta tb:TE}(hK:X.K=K)(ha:PE X a ta)(hb:PE X b tb)(hs:Gf b:=by exact λ_ _=>rfl):PE X (.Subscript a b pos) (tOp (rIx K) ta tb):=JZ (He hK) ha hb hs
def fW {ps:C7}{sp:Sp}{k j:Nat}(c:Fn X.rD X.w X.K X.mg X.tM k x ps sp)(hr:Room j X.A)(ha:PA X (e::es) t)(hj:k<=j:=by decide)(hg:Gl X x:=by rfl)(hdb:(x==("__debug__":Str))=false:=by decide)(he:starEach (e::es) X.rC=(false,eval e X.rC)::starEach es X.rC:=by rfl)(hpl:(backTo pos (starEach es X.rC)).any (·.1)=false:=by rfl):PE X (.Call (.Name x p) (e::es) [] pos) (xT sp [] E0 t):=qR c hr hj hg ha hdb he hpl
def gW (i:Nat)(hN:X.N.Nodup)(hi:X.N[i]?=some x:=by rfl)(hx:Loc X.rC.scope x:=by first|exact Or.inl rfl|exact Or.inr rfl)(hf:X.fn x=true∨X.rC.scope.names.lookup x=some .local:=by first|exact .inl rfl|exact .inr rfl):PG X (.Name x pos) (xE i):=m5 hN hi hx hf
section
variable{St:AZ}
def Lr (W:Walks P w A.in1 I fp wr n Pp St)(its:Nat->C8)(hSf:S∉fp)(lo:h0.objs.size<=S)(hw:∀ b∈wr,h0.get? b=none)(lv:∀ i h,St i h->∀ b∈wr,b<h.objs.size)(hv:∀ i v,Pp i v->∃ b c,v = .ref b/\IsL h0 b (its i).toArray c):∀ (m i:Nat) (s:G2) (t c ct:Nat) (acc:C8),n-i=m->i<=n->St i s.heap->(∀ b o,h0.get? b=some o->s.heap.get? b=some o) -> s.heap.get? S=some { cls:= .type "list",dict:=none,data:= .seq #[.ref t] c,slots:=#[] }->IsL s.heap t acc.toArray ct->t∉wr->t≠S->h0.objs.size<=t -> acc.length+((List.range' i (n-i)).flatMap its).length<=sizeLine -> (∀ h' tk t' c',(∀ b o,h0.get? b=some o->h'.get? b=some o)->IsL h' t' (acc++(List.range' i (n-i)).flatMap its).toArray c'->h0.objs.size<=t'->R (.ok (.ret (.ref t'))) { s with heap:=h',toks:=tk }) -> codeAny (model P w) A (.builtin "sum.loop" ⟨[.ref I,.ref S,rawInt 2,rawInt 0],[]⟩) R s:=by
 have hSw:S∉wr:=λz=>hSf (W.sub _ z);have new:∀ b o,h0.get? b=some o->b≠S:=λb o e z=>uT _ (yx (z▸yN e) lo);intro m
 induction m with
 |zero =>
  intro i s t c ct acc hm hi st k0 hS ht tw tS lt sz hR;have hin:i=n:=by omega
  subst hin;refine pV PySem.F.entry_sum_loop ?_;rw [rb pC _];show wpAny _ A.in1 (seqItems? (.ref S) >>= _) _ _ s;refine yY (pk hS rfl ?_);show wpAny _ A.in1 (tryCatch (pyNext (.ref I)) _ >>= _) _ _ s;refine yY (pK (W.done s _ _ st λh' tk kk=>?_));refine yI (hR h' tk t ct (λb o e=>kk b o (λz=>by rw [hw b z] at e;cases e) (k0 b o e)) ?_ lt);rw [Nat.sub_self];simp only [List.range'_zero,List.flatMap_nil,yp];exact kk t _ tw ht
 |succ m ih =>
  intro i s t c ct acc hm hi st k0 hS ht tw tS lt sz hR;have hlt:i<n:=by omega
  have er:List.range' i (n-i)=i::List.range' (i+1) (n-(i+1)):=by rw [show n-i=(n-(i+1))+1 by omega];rfl
  rw [er,List.flatMap_cons] at sz hR;rw [yV] at sz;refine pV PySem.F.entry_sum_loop ?_;rw [rb pC _];show wpAny _ A.in1 (seqItems? (.ref S) >>= _) _ _ s;refine yY (pk hS rfl ?_);show wpAny _ A.in1 (tryCatch (pyNext (.ref I)) _ >>= _) _ _ s;refine yY (pK (W.item i s _ _ hlt st λv h' tk hP st' kk=>?_));obtain ⟨b,cb,rfl,hb⟩:=hv i v hP;have hS':=kk S _ hSw hS;have ht':=kk t _ tw ht;have k1:∀ b o,h0.get? b=some o->h'.get? b=some o:=λb o e=>kk b o (λz=>by rw [hw b z] at e;cases e) (k0 b o e);show wpAny _ A.in1 ((holding [Value.ref b] (binaryOp .Add (.ref t) (.ref b))).attempt >>= _) _ _ _;refine yY (wpAny_attempt (rh (PySem.P.add_list ht' (k1 _ _ hb) ?_ (by rw [yT,yT];omega))));have hS1:=yW { cls:= .type "list",data:= .seq (acc.toArray++(its i).toArray) } hS';show wpAny _ A.in1 (updateSeq S (λ_=>#[Value.ref h'.objs.size]) >>= _) _ _ _;refine yY (oZ hS1 rfl ?_);have hS2:=uI (Obj.mapSeq λ_=>#[Value.ref h'.objs.size]) hS1 rfl;refine yY (oM ?_);have ne:h'.objs.size≠S:=ug (yN hS');have hlo:h0.objs.size<=h'.objs.size:=uJ (oV lo (yN hS'));have oth:∀ b o,b≠S->h'.get? b=some o->(((h'.push { cls:= .type "list",data:= .seq (acc.toArray++(its i).toArray) }).update S (Obj.mapSeq λ_=>#[Value.ref h'.objs.size])).update S (Obj.mapSeq λ_=>#[Value.ref h'.objs.size])).get? b=some o:=λb o nb e=>by
   rw [ym _ _ (Ne.symm nb),ym _ _ (Ne.symm nb)];exact yW _ e
  refine yY (oZ hS2 rfl (yI ⟨pN pC _,ih (i+1) _ h'.objs.size _ 0 (acc++its i) (by omega) hlt (W.frame _ _ _ st' λb z o e=>oth b o (λq=>hSf (q▸z)) e) (λb o e=>oth b o (new b o e) (k1 b o e)) (uI _ hS2 rfl) ?_ (λz=>uT _ (lv _ _ st' _ z)) ne hlo (by rw [yV];omega) λh2 tk2 t2 c2 k2 l2 lo2=>?_⟩))
  .show (((h'.push { cls:= .type "list",data:= .seq (acc.toArray++(its i).toArray) }).update S _).update S _).get? h'.objs.size=_;rw [ym _ _ (Ne.symm ne),ym _ _ (Ne.symm ne),yz _ rfl,List.append_toArray]
  .rw [uW] at l2;exact hR h2 tk2 t2 c2 k2 l2 lo2
end
section
variable{bs:EC}
def Mv (v u:G1):argsOk "sum" ⟨[v],[(Str.ofString "start",u)]⟩:=by unfold argsOk;kernel_rfl
def MV (u:G1):Builtin.Builtins.bindParams "sum" ["start"] 0 ⟨[],[(Str.ofString "start",u)]⟩=pure [some u]:=by kernel_rfl
def Nd:∀(its:List (List G1)),(List.range' 0 its.length).flatMap (λi=>its.getD i [])=its.flatten:=λits=>by
 have go:∀(m i:Nat),its.length-i=m->i<=its.length->(List.range' i m).flatMap (λi=>its.getD i [])=(its.drop i).flatten:=by
  intro m
  induction m with
  |zero=>intro i h hi;rw [List.drop_of_length_le (by omega)];rfl
  |succ m ih =>
   intro i h hi;have hl:i<its.length:=by omega
   rw [List.range'_succ,List.flatMap_cons,ih (i+1) (by omega) hl,yk hl,yq,yy,yS hl];rfl
 exact go its.length 0 rfl (yd _)
def FQ:isSubtype (.type "list") (.type "bytearray")=pure false:=by rw [isSubtype_type];kernel_rfl
def FR {Q:AA}{its:List (List G1)}{cz:Nat}(hh:A.handled=none)(k0:∀ b o,h0.get? b=some o->s.heap.get? b=some o)(hl:s.heap.IsList l (bs.map Value.ref).toArray)(hz:IsL s.heap z #[] cz)(lz:h0.objs.size<=z)(hb:∀ (i:Nat) (b:Addr),bs[i]?=some b->∃ c,IsL h0 b (its.getD i []).toArray c)(el:its.length=bs.length)(sz:its.flatten.length<=sizeLine)(h:∀ h' tk t' c',(∀ b o,h0.get? b=some o->h'.get? b=some o)->IsL h' t' its.flatten.toArray c'->h0.objs.size<=t'->Q (.ref t') { s with heap:=h',toks:=tk }):wpAny (model P w) A (call (.builtin "sum") [.ref l] [(Str.ofString "start",Value.ref z)]) Q E s:=by
 have hTz:s.TypeIs (.ref z) "list":=⟨_,hz,rfl⟩;refine kmb_tree PySem.F.kind_sum PySem.F.plain_sum PySem.F.entry_sum (Mv _ _) ?_;show wpAny _ A.in1 (Builtin.Builtins.bindParams "sum" ["start"] 0 ⟨[],[(Str.ofString "start",Value.ref z)]⟩ >>= _) _ _ s;refine yY (wpAny_of_eq (MV _) ?_);have hlt:l<s.heap.objs.size:=by obtain ⟨_,e,_⟩:=hl;exact yN e
 refine yY (pz hl ?_);refine yY (yI ?_);have hz1:=yW { cls:= .type "list_iterator",data:= .fields #[.ref l,.int 0 0] } hz;have hT1:Shared.TypeIs { s with heap:=s.heap.push { cls:= .type "list_iterator",data:= .fields #[.ref l,.int 0 0] } } (.ref z) "list":=⟨_,hz1,rfl⟩;simp only [List.forIn_cons,List.forIn_nil];refine yY (yY (yY (wpAny_isInstance (b:=false) hT1 PySem.F.sub_list_str ?_)));simp only [uF,if_false];refine yI (yY (yY (wpAny_isInstance (b:=false) hT1 PySem.F.sub_list_bytes ?_)));simp only [uF,if_false];refine yI (yY (yY (wpAny_isInstance (b:=false) hT1 FQ ?_)));simp only [uF,if_false];refine yI (yI (yY (oR ?_)));have hI:l≠s.heap.objs.size:=yG hlt;have hlo:h0.objs.size<=s.heap.objs.size:=yj lz (uJ (yN hz));have zz:z<s.heap.objs.size:=yN hz;have sp:(s.heap.push { cls:= .type "list_iterator",data:= .fields #[.ref l,.int 0 0] }).objs.size=s.heap.objs.size+1:=uB _ _;have en:(bs.map Value.ref).toArray.size=its.length:=by rw [yT,yZ,el]
 have ef:(List.range' 0 ((bs.map Value.ref).toArray.size-0)).flatMap (λi=>its.getD i [])=its.flatten:=by rw [en];exact Nd its
 refine yI ⟨pN pC _,Lr (h0:=h0) (S:=(s.heap.push { cls:= .type "list_iterator",data:= .fields #[.ref l,.int 0 0] }).objs.size) (Walks.list (A:=A.in1) hh s.heap.objs.size l hI (bs.map Value.ref).toArray) (λi=>its.getD i []) (λq=>?_) (by rw [sp];exact Nat.le_succ_of_le hlo) (λb hb=>?_) (λi h st b hb=>?_) (λi v hv=>?_) _ 0 _ z _ cz [] rfl (yd _) ⟨⟨_,yW _ (yz _ rfl),rfl,rfl⟩,(hl.push _).push _⟩ (λb o e=>yW _ (yW _ (k0 b o e))) (yz _ rfl) (yW _ hz1) (λq=>?_) (λq=>?_) lz (by rw [ef];simpa using sz) λh' tk t' c' k l' lo'=>?_⟩
 .rcases yL.mp q with q|q
  .rw [sp] at q;exact rp q (Nat.succ_ne_self _)
  .have q:=yU.mp q;rw [sp] at q;exact uT _ (Nat.lt_trans (uq _) (q▸hlt))
 .rw [yU.mp hb];exact yb hlo
 .rw [yU.mp hb];obtain ⟨⟨o,e,_⟩,_⟩:=st;exact yN e
 .rw [List.getElem?_toArray,yM] at hv;obtain ⟨b,e1,rfl⟩:=yC.mp hv;obtain ⟨c,e2⟩:=hb i b e1;exact ⟨b,c,rfl,e2⟩
 .exact uT _ (yU.mp q▸zz)
 .rw [sp] at q;exact uT _ (Nat.lt_trans (uq _) (q▸zz))
 .rw [ef,List.nil_append] at l';exact h h' tk t' c' k l' lo'
end
theorem CF:∀{bs:EC}{us:C8},sP (bs.map V.ref) us->us=bs.map Value.ref
 |[],us,r=>by cases r;rfl
 |b::bs,us,r=>by
  cases r with
  |cons r1 r2=>rw [CF r2,show _=Value.ref b from r1];rfl
theorem Pc {tN:C4}{σ:St}{H:Hp}{s:G2}(I:sS X tN σ H s):∀{bs:EC}{xss:List (List V)},xss.length=bs.length->(∀(i:Nat)(b:Addr),bs[i]?=some b->H b=some (.lst (xss.getD i []))) -> ∃ iss:List (List G1),iss.length=bs.length/\sP xss.flatten iss.flatten/\∀(i:Nat)(b:Addr),bs[i]?=some b->∃ c,IsL s.heap b (iss.getD i []).toArray c
 |[],[],_,_=>⟨[],rfl,.nil,λi b z=>by simp at z⟩
 |b::bs,xs::xss,hl,h=>by
  obtain ⟨iss,e1,e2,e3⟩:=Pc I (bs:=bs) (xss:=xss) (by simpa using hl) λi b e=>h (i+1) b e;obtain ⟨z,its,n,r,hz,e⟩:=I.lstM (h 0 b rfl);refine ⟨its::iss,by simp [e1],r.append e2,λi b' q=>?_⟩;cases i with
  |zero=>cases q;exact ⟨n,e⟩
  |succ i=>exact e3 i b' q
def Dt (K:Fg)(t:TA):TE:=λσ H Q=>t σ H λvs H1=>∃(a:Addr)(bs:EC)(xss:List (List V)),vs=[.ref a]/\sK K H1 a (bs.map V.ref)/\(∀(i:Nat)(b:Addr),bs[i]?=some b->H1 b=some (.lst (xss.getD i [])))/\xss.length=bs.length/\xss.flatten.length<=sizeLine/\∀ p,H1 p=none->Q (.ref p) (z9 H1 p (.lst xss.flatten))
def Sq {kp lp:Pos}(hK:X.K=K)(hc:X.calm=true)(hg:Gl X "sum")(hm:X.mg "sum"=none)(ha:PA X [e] t)(hs:backTo pos (starEach [e] X.rC)=(false,eval e X.rC)::backTo pos (starEach [] X.rC):=by rfl)(hpl:(backTo pos (starEach [e] X.rC)).any (·.1)=false:=by rfl):PE X (.Call (.Name "sum" p) [e] [⟨some "start",.List [] lp,kp⟩] pos) (Dt K t):=by subst hK;intro tN s σ H Q I h;refine pX (jL I hg hm VC ?_ (by decide) (by decide));refine pd (j7 (ha pos tN s σ H _ I h) λus s1 ⟨vs,H1,I1,r1,q1⟩=>?_) hs hpl;refine PyProof.Rows.kws_cons (wpAny_List_spliced ?_);obtain ⟨a,bs,xss,rfl,hq,hb,el,sz,q⟩:=q1;obtain ⟨u,rfl,ru⟩:=zk r1;obtain rfl:u=Value.ref a:=ru;obtain ⟨its,rv,pl,hz⟩:=I1.list hq;have ei:its=bs.map Value.ref:=CF rv;subst ei;obtain ⟨iss,e1,e2,e3⟩:=Pc I1 el hb;have hl:s1.heap.IsList a (bs.map Value.ref).toArray:=pl.isList;refine Calls.spliced_nil ⟨yd _,PyProof.Rows.kws_nil ?_⟩;show wpAny _ _ (call (.builtin "sum") [.ref a] [(Str.ofString "start",Value.ref s1.heap.objs.size)]) _ _ _;refine FR (its:=iss) (bs:=bs) (h0:=s1.heap) (cz:=0) (I1.ok.hd hc) (λb o e=>yW _ e) (hl.push _) (yz _ rfl) (yP _) e3 e1 (by rw [<- e2.length];exact sz) λh' tk t' c' k l' lo'=>?_;exact ⟨.ref t',_,I1.laid (o:= .lst xss.flatten) (t':=tk) k lo' ⟨sz,_,c',e2,l'⟩,rfl,q t' (I1.tI.fresh lo')⟩
end L2
namespace Mi
open PySem L2
variable{a:M}
def zb:C5->Option EF
 |[]=>some []
 | .lst ys::xs=>(zb xs).map (ys::·)
 |_::_=>none
theorem Pk {Hs:Hp}:∀{xs:C5}{yss:EF}{ws:EB},zb xs=some yss->sR Hs xs ws->∃(bs:EC)(xss:List (List V)),ws=bs.map V.ref/\xss.length=bs.length/\(∀(i:Nat)(b:Addr),bs[i]?=some b->Hs b=some (.lst (xss.getD i [])))/\sR Hs yss.flatten xss.flatten
 |[],yss,ws,h,r=>by
  cases h;cases tu.mp r;exact ⟨[],[],rfl,rfl,λi b z=>by simp at z,.nil⟩
 |x::xs,yss,ws,h,r=>by
  unfold zb at h;split at h
  .rename_i e;cases e
  .rename_i ys xs' e;injection e with e1 e2;subst e1 e2;obtain ⟨zss,hz,rfl⟩:=yC.mp h;obtain ⟨w,ws',rfl,p,q⟩:=tz.mp r;obtain ⟨b,us,rfl,hb,ru⟩:=tj.mp p;obtain ⟨bs,xss,rfl,e1,e2,e3⟩:=Pk hz q;refine ⟨b::bs,us::xss,rfl,by simp [e1],λi b' z=>?_,ru.append e3⟩;cases i with
   |zero=>cases z;exact hb
   |succ i=>exact e2 i b' z
  .cases h
def vJ (a:M):M:=λε=>(a ε).bind λx=>match x with
 | .lst xs=>(zb xs).bind λyss=>if yss.flatten.length<=lim then some (.lst yss.flatten) else none
 |_=>none
instance {K:Fg}{te:TE}[sa:qd te a]:xJ (Dt K (qv te qL)) (vJ a) where
 h:=λe _ _ _ _ _ rs _ q=>by
  obtain ⟨x,ex,e1⟩:=tE e;split at e1
  .obtain ⟨yss,ey,e2⟩:=tE e1;split at e2
   .rename_i hl;cases e2;refine sa.h ex rs λv tG H1 x1 r1=>?_;obtain ⟨p,ws,rfl,ep,r2⟩:=qj x1.s3 r1;obtain ⟨bs,xss,rfl,a1,a2,a3⟩:=Pk ey r2;exact ⟨p,bs,xss,rfl,sK.of ep,λi b z=>x1.s3 _ _ (a2 i b z),a1,xL (by rw [a3.length];exact hl),λp' hp=>q _ _ _ (x1.trans (.newO x1.s3 hp)) (x1.s2.free hp) (x1.s3.free hp) ⟨_,u5,a3⟩⟩
   .cases e2
  .cases e1
def Bx {ε:ME}{xs:C5}{yss:EF}(h:a ε=some (.lst xs))(k:zb xs=some yss)(l:yss.flatten.length<=lim):vJ a ε=some (.lst yss.flatten):=by unfold vJ;rw [h];show (zb xs).bind _=_;rw [k];exact rB l
end Mi
namespace L2
open PySem PySem.Spec PyProof.Rows
variable{A:G4}{E:XK}{s:G2}{tM h0:Heap}{env:Env}{tL:EK}{L e f:Addr}{dx:EG}{a0 cd cls:G1}{Q:AE}{Er:AA}{H:Hp}{P:G3}{w:G5}{K:Fg}{mg:AB}{N ps:C7}{qual x:Str}{scope:Scope}{X:Cx}{j:Nat}{sp:Sp}{es:EN}{t:TA}{p pos:Pos}{σ:St}{oe:Obj}{vs:ED}{l:EK}{h h1:Heap}
def LK (o:Obj)(f:C2):(o.mapFields f).dict=o.dict:=by obtain ⟨c,d,dt,sl⟩:=o;cases dt<;>rfl
structure jV (tM h:Heap)(l:EK)(e:Addr)(cls a0 fl:G1)(dx:EG):Prop where
 st:tM.StaysIn h
 new:tM.get? e=none
 fun_:h.FunFrames tM l
 ex:∃ oe vs T oT ts,h.get? e=some oe/\oe.cls=cls/\oe.dict=dx/\vs[0]?=some a0/\oe.data = .fields vs/\vs[1]?=some (.ref T)/\tM.get? T=none/\T≠e/\h.get? T=some oT/\oT.data = .fields ts/\ts[3]?=some fl
section
variable{M:Model}{E:AA}{fl:G1}
def Ps {head:G1}{had:Bool}(fr:A.frames=some (env::tL))(ff:s.heap.FunFrames tM (env::tL))(hf:env.frame=some L)
  (he:s.heap.get? e=some oe) (st:tM.StaysIn s.heap) (ne:tM.get? e=none) (hd:oe.data = .fields vs) (sz:1<vs.size) (h0:vs[0]?=some a0)
  (h:∀ h',jV tM h' (env::tL) e oe.cls a0 (rawInt L) oe.dict->s.heap.UpToSlots h'->Q () { s with heap:=h' }) :
  wpAny M A (do let a <- frameOf env;let pl <- entryPlaceOf L had;let b <- EntryCells.newEntry head a .none (rawInt L) .none pl;setField (.ref e) 1 b) Q E s:=by
 have out:e∉(env::tL).filterMap (·.frame):=λz=>by
  obtain ⟨_,o,z1,z2⟩:=ff.mem z;rw [he] at z1;cases z1;exact z2 vs hd
 refine yY (wpAny_frameOf_fun fr ff hf λh1 s1=>yY (wpAny_entryPlaceOf λpl hpl=>?_));unfold EntryCells.newEntry newFields;refine yY (oR ?_ (hpl.sizeOk5 _ _ _ _ _));have e1:h1.get? e=some oe:=(s1.2.1 e out).trans he;have k1:tM.StaysIn h1:=λb o q=>(s1.2.1 b λz=>by rw [(ff.mem z).1] at q;cases q).trans (st b o q);generalize hob:({ cls:= .type "traceback",dict:=none,data:= .fields ([head,.ref L,.none,rawInt L,.none]++(if pl.isEmpty then List.replicate 6 Value.none else pl)).toArray }:Obj)=ob;have e2:=yW (h:=h1) ob e1;refine wpAny_setField e2 hd sz (h _ ?_ ?_)
 .have nT:h1.objs.size≠e:=ug (yN e1);have d3:=Obj.data_mapFields hd (·.setIfInBounds 1 (Value.ref h1.objs.size));have e3:=uI (Obj.mapFields (·.setIfInBounds 1 (Value.ref h1.objs.size))) e2 (Obj.isFreed_of_fields d3);have eT:=(ym (h1.push ob) (Obj.mapFields (·.setIfInBounds 1 (Value.ref h1.objs.size))) (Ne.symm nT)).trans (yz h1 (by subst hob;rfl));have keep:∀ b o,b≠e->h1.get? b=some o->((h1.push ob).update e (Obj.mapFields (·.setIfInBounds 1 (Value.ref h1.objs.size)))).get? b=some o:=λb o nb q=>by
   rw [ym _ _ (Ne.symm nb)];exact yW _ q
  refine ⟨λb o q=>keep b o (λz=>by rw [z,ne] at q;cases q) (k1 b o q),ne,ff.of_keeps λb o q nf=>?_,?_⟩
  .obtain ⟨sl,q1⟩:=s1.2.2 b o q;exact ⟨_,keep b _ (λz=>by rw [z,he] at q;cases q;exact nf vs hd) q1,rfl⟩
  .refine ⟨_,_,h1.objs.size,_,_,e3,Obj.cls_mapFields _ _,LK _ _,by rw [Array.getElem?_setIfInBounds_ne (by decide)];exact h0,d3,by simp [sz],k1.fresh,nT,eT,by subst hob;rfl,?_⟩
   first|(simp;done)|(rcases hpl with rfl|⟨_,_,_,_,_,_,_,rfl⟩<;>simp)
 .intro b o q nf;obtain ⟨sl,q1⟩:=s1.2.2 b o q;refine ⟨sl,?_⟩;show ((h1.push ob).update e _).get? b=_;rw [ym _ _ (λz:e=b=>by rw [<- z,he] at q;cases q;exact nf vs hd)];exact yW _ q1
def JQ (F:jV tM s.heap l e cls a0 fl dx)(h:∀ h',jV tM h' l e cls a0 .none dx->s.heap.UpToSlots h'->Q () { s with heap:=h' }):wpAny M A (setFlight (.ref e) none) Q E s:=by
 obtain ⟨st,ne,ff,oe,vs,T,oT,ts,q1,q2,q3,q4,q5,q6,q7,q8,q9,q10,q11⟩:=F;have s3:3<ts.size:=(ut.mp q11).1;have oth:∀ b,b≠T->(s.heap.update T (Obj.mapFields (·.setIfInBounds 3 ((none:EG).elim Value.none λf=>rawInt f)))).get? b=s.heap.get? b:=λb nb=>ym _ _ (Ne.symm nb);have nT:∀ b o,s.heap.get? b=some o->(∀ vs,o.data ≠ .fields vs)->b≠T:=λb o q nf z=>by
  rw [z,q9] at q;cases q;exact nf ts q10
 unfold setFlight;refine yY (wpAny_field q1 q5 q6 ?_);rw [rB (show (Value.ref T != Value.none)=true from by simp)];refine wpAny_setField q9 q10 s3 (h _ ⟨λb o q=>(oth b λz=>by rw [z,q7] at q;cases q).trans (st b o q),ne,ff.of_keeps λb o q nf=>⟨o,(oth b (nT b o q nf)).trans q,rfl⟩,?_⟩ λb o q nf=>⟨o.slots,(oth b (nT b o q nf)).trans q⟩);exact ⟨oe,vs,T,_,_,(oth e (Ne.symm q8)).trans q1,q2,q3,q4,q5,q6,q7,q8,uI _ q9 (Obj.isFreed_of_fields (Obj.data_mapFields q10 _)),Obj.data_mapFields q10 _,by simp [s3]⟩
def UpTo.trans {h2 h3:Heap}(a:h1.UpToSlots h2)(b:h2.UpToSlots h3):h1.UpToSlots h3:=Heap.UpToSlots.trans a b
def Pz (fr:A.frames=some (env::tL))(hf:env.frame=some L)(F:jV tM s.heap (env::tL) e cls a0 .none dx)(h:∀ h',jV tM h' (env::tL) e cls a0 (rawInt L) dx->s.heap.UpToSlots h'->Q () { s with heap:=h' }):wpAny M A (noteFrame (.ref e) env) Q E s:=by
 obtain ⟨st,ne,ff,oe,vs,T,oT,ts,q1,q2,q3,q4,q5,q6,q7,q8,q9,q10,q11⟩:=F;subst q2 q3;unfold noteFrame;simp only [hf];refine yY (wpAny_field q1 q5 q6 ?_);rw [rB (show (Value.ref T != Value.none)=true from by simp)];refine yY (wpAny_field q9 q10 q11 ?_);rw [rq (show ¬ ((Value.none==rawInt L)=true) from by simp [rawInt])];refine yY (wpAny_setField q9 q10 (ut.mp q11).1 ?_);have oth:∀ b,b≠T->(s.heap.update T (Obj.mapFields (·.setIfInBounds 3 Value.none))).get? b=s.heap.get? b:=λb nb=>ym _ _ (Ne.symm nb);have nT:∀ b o,s.heap.get? b=some o->(∀ vs,o.data ≠ .fields vs)->b≠T:=λb o q nf z=>by
  rw [z,q9] at q;cases q;exact nf ts q10
 refine Ps fr (ff.of_keeps λb o q nf=>⟨o,(oth b (nT b o q nf)).trans q,rfl⟩) hf ((oth e (Ne.symm q8)).trans q1) (λb o q=>(oth b λz=>by rw [z,q7] at q;cases q).trans (st b o q)) ne q5 (ut.mp q6).1 q4 λh' F' up=>h h' F' λb o q nf=>?_;exact up b o ((oth b (nT b o q nf)).trans q) nf
def HC (fr:A.frames=some (env::tL))(hf:env.frame=some L)(F:jV tM s.heap (env::tL) e cls a0 .none dx)(h:∀ h',jV tM h' tL e cls a0 .none dx->s.heap.UpToSlots h'->Q () { s with heap:=h' }):wpAny M A (leaving env (.ref e)) Q E s:=by unfold leaving;refine yY (Pz fr hf F λh1 F1 u1=>?_);refine JQ F1 λh2 F2 u2=>h h2 ⟨F2.st,F2.new,F2.fun_.2.2,F2.ex⟩ (UpTo.trans u1 u2)
def HA (fr:A.frames=some (env::tL))(ff:s.heap.FunFrames tM (env::tL))(hf:env.frame=some L)(he:s.heap.get? e=some oe)(st:tM.StaysIn s.heap)(ne:tM.get? e=none)(hd:oe.data = .fields vs)(h1:vs[1]?=some .none)(h0:vs[0]?=some a0)(h:∀ h',jV tM h' tL e oe.cls a0 .none oe.dict->s.heap.UpToSlots h'->Q () { s with heap:=h' }):wpAny M A (leaving env (.ref e)) Q E s:=by unfold leaving noteFrame;simp only [hf];refine yY (yY (wpAny_field he hd h1 ?_));rw [rq (by decide)];refine Ps fr ff hf he st ne hd (ut.mp h1).1 h0 λh1 F1 u1=>?_;refine JQ F1 λh2 F2 u2=>h h2 ⟨F2.st,F2.new,F2.fun_.2.2,F2.ex⟩ (UpTo.trans u1 u2)
end
structure Fly2 (h0 h:Heap)(H:Hp)(e:Addr)(cls:G1)(dx:EG):Prop where
 ex:∃ oe vs T oT ts a0,h.get? e=some oe/\oe.cls=cls/\oe.dict=dx/\vs[0]?=some a0/\oe.data = .fields vs/\vs[1]?=some (.ref T)/\T≠e/\h.get? T=some oT/\oT.data = .fields ts/\ts[3]?=some .none/\H T=none/\h0.get? T=none
 free:H e=none
 new:h0.get? e=none
def qN (P:G3)(w:G5):CXT:=λtL H s E e s'=>∃ ea cls dx H',e = .ref ea/\s'.os=s.os/\AllBare s'.gens/\Un (t9 tL) [] H H' s.heap s'.heap/\sE P w H' s'.heap/\Fly2 s.heap s'.heap H' ea cls dx/\E cls dx H'
def Fly2.weak (F:Fly2 h1 h H e cls dx)(k:∀ b o,h0.get? b=some o->∃ o',h1.get? b=some o'):Fly2 h0 h H e cls dx:=by
 have d:∀ b,h1.get? b=none->h0.get? b=none:=λb n=>by
  cases z:h0.get? b with
  |none=>rfl
  |some o=>obtain ⟨o',z2⟩:=k b o z;rw [n] at z2;cases z2
 obtain ⟨⟨oe,vs,T,oT,ts,a0,e1,e2,e2',e3,e4,e5,e6,e7,e8,e9,e10,e11⟩,e12,e13⟩:=F;exact ⟨⟨oe,vs,T,oT,ts,a0,e1,e2,e2',e3,e4,e5,e6,e7,e8,e9,e10,d T e11⟩,e12,d e e13⟩
section
variable{M:Model}
def Fly2.hid (fr:h.FunFrames tM l)(F:Fly2 h0 h H e cls dx):∃ T a0,T≠e/\H T=none/\h0.get? T=none/\(∃ o,h.get? T=some o)/\jV (PySem.W.hideAll h ([e,T]++t9 l)) h l e cls a0 .none dx:=by obtain ⟨⟨oe,vs,T,oT,ts,a0,e1,e2,e2',e3,e4,e5,e6,e7,e8,e9,e10,e11⟩,e12,e13⟩:=F;have hin:∀ x∈l,∀ b,x.frame=some b->b∈[e,T]++t9 l:=λx hx b hb=>yw _ (Wx hx hb);exact ⟨T,a0,e6,e10,e11,⟨_,e7⟩,⟨λb o q=>PySem.W.of_hideAll _ q,pq _ (yo _ (by simp)),PySem.W.funFrames_hide fr hin,oe,vs,T,oT,ts,e1,e2,e2',e3,e4,e5,pq _ (yo _ (by simp)),e6,e7,e8,e9⟩⟩
def DC {h':Heap}(fr:h.FunFrames tM l)(up:h.UpToSlots h'):∀ b o,b∈t9 l->h.get? b=some o->∃ z,h'.get? b=some { o with slots:=z }:=λb o hb q=>up b o q (by
 obtain ⟨_,o2,z3,z4⟩:=fr.mem hb;rw [q] at z3;cases z3;exact z4)
def HB (hfr:A.frames=some (env::tL))(hf:env.frame=some L)(fr:s.heap.FunFrames tM (env::tL))(tI:sE P w H s.heap)(hp:∀ b o,h0.get? b=some o->∃ o',s.heap.get? b=some o')(F:Fly2 h0 s.heap H e cls dx)(hQ:∀ h' S,(∀ b∈S,H b=none/\(h0.get? b=none))->Qg (S++t9 (env::tL)) (env::tL) s.heap h'->Fly2 h0 h' H e cls dx->Q () { s with heap:=h' }):wpAny M A (leaving env (.ref e)) Q Er s:=by
 obtain ⟨T,a0,eT,e10,e11,_,fl⟩:=F.hid fr;have e12:=F.free;have e13:=F.new;refine HC hfr hf fl λh' x up=>?_;obtain ⟨f1,f2,f3,oe',vs',T',oT',ts',g1,g2,g2',g3,g4,g5,g6,g7,g8,g9,g10⟩:=x;have sl:=DC fr up;have hS:∀ b∈[e,T],H b=none/\h0.get? b=none:=λb hb=>by
  have c:b=e∨b=T:=by simpa using hb
  rcases c with rfl|rfl
  .exact ⟨e12,e13⟩
  .exact ⟨e10,e11⟩
 obtain ⟨n1,n2⟩:=Bk (S:=[e,T]) tI hp fr rfl sl g6 g8 g9 (hS T');exact hQ h' [e,T] hS ⟨λb o nb q=>f1 b o (pD _ q nb),sl⟩ ⟨⟨oe',vs',T',oT',ts',a0,g1,g2,g2',g3,g4,g5,g7,g8,g9,g10,n1,n2⟩,e12,e13⟩
def Hz (hfr:A.frames=some (env::tL))(hf:env.frame=some L)(fr:s.heap.FunFrames tM (env::tL))(tI:sE P w H s.heap)(hp:∀ b o,h0.get? b=some o->∃ o',s.heap.get? b=some o')(he:s.heap.get? e=some oe)(hd:oe.data = .fields vs)(v1:vs[1]?=some .none)(v0:vs[0]?=some a0)(e12:H e=none)(e13:h0.get? e=none)(hQ:∀ h',Qg ([e]++t9 (env::tL)) (env::tL) s.heap h'->Fly2 h0 h' H e oe.cls oe.dict->Q () { s with heap:=h' }):wpAny M A (leaving env (.ref e)) Q Er s:=by have hin:∀ x∈env::tL,∀ b,x.frame=some b->b∈[e]++t9 (env::tL):=λx hx b hb=>yw _ (Wx hx hb);refine HA (tM:=PySem.W.hideAll s.heap ([e]++t9 (env::tL))) hfr (PySem.W.funFrames_hide fr hin) hf he (λb o q=>PySem.W.of_hideAll _ q) (pq _ (yo _ (by simp))) hd v1 v0 λh' x up=>?_;obtain ⟨f1,f2,f3,oe',vs',T',oT',ts',g1,g2,g2',g3,g4,g5,g6,g7,g8,g9,g10⟩:=x;have sl:=DC fr up;obtain ⟨n1,n2⟩:=Bk (S:=[e]) tI hp fr rfl sl g6 g8 g9 (λz=>by rw [yU.mp z];exact ⟨e12,e13⟩);exact hQ h' ⟨λb o nb q=>f1 b o (pD _ q nb),sl⟩ ⟨⟨oe',vs',T',oT',ts',_,g1,g2,g2',g3,g4,g5,g7,g8,g9,g10,n1,n2⟩,e12,e13⟩
end
def Vv (X:Cx)(E:XK):Prop:=∀(tN:C4)(σ:St)(H:Hp)(s:G2)(ea C:Addr)(oe:Obj)(vs:ED)(a0:G1),sS X tN σ H s->s.heap.get? ea=some oe->oe.cls = .ref C->oe.data = .fields vs->vs[1]?=some .none->vs[0]?=some a0->H ea=none->X.s₀.heap.get? ea=none->E (.ref C) oe.dict H->X.xe (.ref ea) s
def UI:Vv (qy (qN P w) P w K mg tM N qual scope f cd A tL s H E) E:=by
 intro tN σ H1 s1 ea C oe vs a0 I he hc hd v1 v0 n1 n0 q;refine Hz (h0:=s.heap) (H:=H1) (P:=P) (w:=w) (tM:=tM) (L:=s.heap.objs.size) I.ok.frames rfl I.stack I.tI (λb o e=>I.tM.there b o e (λz=>nomatch z)) he hd v1 v0 n1 n0 λh2 k F=>?_;refine ⟨ea,_,_,H1,rfl,I.os,I.bare,Un.off (S:=[ea]++t9 (envOfC qual scope s.heap.objs.size f cd::tL)) I.tM k.keep (λb hb=>?_) (λb o hb e=>k.slot b o (uK.mpr ?_) e),I.tI.off k.keep (λb hb=>?_),F,by rw [hc];exact q⟩
 .rcases yF.mp hb with z|z
  .rw [yU.mp z];exact .inr n0
  .rcases yL.mp (I.stkSub b z) with z|z
   .refine .inr ?_;rw [z];exact yb (yP _)
   .exact .inl z
 .obtain ⟨x,hx,hf⟩:=uK.mp hb;exact ⟨x,yO _ hx,hf⟩
 .rcases yF.mp hb with z|z
  .rw [yU.mp z];exact n1
  .exact I.stkFree b z
def QU:jX (qN P w) (qy (qN P w) P w K mg tM N qual scope f cd A tL s H E) E:=by
 intro tN σ H1 s1 e s' I h;obtain ⟨ea,cls,dx,H',rfl,os,bare,un,tI,F,q⟩:=h;have I':=I.call' (ch:=[]) os un tI bare (λb z=>nomatch z);have there:∀ b o,s.heap.get? b=some o->∃ o',s1.heap.get? b=some o':=λb o e=>I.tM.there b o e (λz=>nomatch z);refine HB (h0:=s.heap) (H:=H') (P:=P) (w:=w) (tM:=tM) (L:=s.heap.objs.size) I'.ok.frames rfl I'.stack tI (λb o e=>I'.tM.there b o e (λz=>nomatch z)) (F.weak there) λh2 S hS k F2=>?_;refine ⟨ea,cls,dx,H',rfl,I'.os,I'.bare,Un.off (S:=S++t9 (envOfC qual scope s.heap.objs.size f cd::tL)) I'.tM k.keep (λb hb=>?_) (λb o hb e=>k.slot b o (uK.mpr ?_) e),tI.off k.keep (λb hb=>?_),F2,q⟩
 .rcases yF.mp hb with z|z
  .exact .inr (hS b z).2
  .rcases yL.mp (I'.stkSub b z) with z|z
   .refine .inr ?_;rw [z];exact yb (yP _)
   .exact .inl z
 .obtain ⟨x,hx,hf⟩:=uK.mp hb;exact ⟨x,yO _ hx,hf⟩
 .rcases yF.mp hb with z|z
  .exact (hS b z).1
  .exact I'.stkFree b z
def Fun.ok2 {st:Stmt}{fd:FuncData}{k:Nat}(F:Fun K x qual st f fd)(S:y8 N ps (j4 st))(len:∀ vs H Q E,sp vs H Q E->vs.length=ps.length)(hbody:∀(tH:G1)(A:G4)(tL:EK)(s:G2)(H:Hp)(vs:EB)(Q:VK)(E:XK),Room k (A.deeper (envOfC qual (j4 st) s.heap.objs.size f tH))->sp vs H Q E -> ∃ t,PSs (qy (qN P w) P w K mg tM N qual (j4 st) f tH A tL s H E) (qf st) t/\t { nx:=λ_ H'=>Q .non H',rt:=Q } (start N vs) H):sQ P w K mg tM (qN P w) (k+1) f fd ps sp:=by obtain ⟨oc,od,kV,doc,pm,an,tH,ct,osl,rfl,lk,hcd⟩:=F.ex;exact Ju lk hcd S len λA tL s H vs Q E hr hsp=>hbody tH A tL s H vs Q E hr hsp
structure Fy (P:G3)(w:G5)(K:Fg)(mg:AB)(tM:Heap)(k:Nat)(x:Str)(ps:C7)(sp:Sp):Prop where
 ex:∃ f fd,sQ P w K mg tM (qN P w) k f fd ps sp/\mg x=some (.ref f)/\PySem.W.keepIn K (.ref f)=true/\Binds K fd ps []
section
variable{k:Nat}{e:Expr}
def QV (c:Fy X.rD X.w X.K X.mg X.tM k x ps sp)(hr:Room j X.A)(hj:k<=j)(hx:jX (qN X.rD X.w) X E)(hg:Gl X x)(ha:PA X (e::es) t)(hdb:(x==("__debug__":Str))=false:=by decide)(he:starEach (e::es) X.rC=(false,eval e X.rC)::starEach es X.rC:=by rfl)(hpl:(backTo pos (starEach es X.rC)).any (·.1)=false:=by rfl):PE X (.Call (.Name x p) (e::es) [] pos) (xT sp [] E t):=by obtain ⟨f,fd,F,hm,hk,hb⟩:=c.ex;exact PX F (hr.mono hj) hg hm hk hb .nil hx ha hdb he hpl
def wR (c:Fy X.rD X.w X.K X.mg X.tM k x ps sp)(hr:Room j X.A)(hj:k<=j)(hx:Xo (qN X.rD X.w) X σ E)(hg:Gl X x)(ha:PA X (e::es) t)(hdb:(x==("__debug__":Str))=false:=by decide)(he:starEach (e::es) X.rC=(false,eval e X.rC)::starEach es X.rC:=by rfl)(hpl:(backTo pos (starEach es X.rC)).any (·.1)=false:=by rfl):PEa X σ (.Call (.Name x p) (e::es) [] pos) (xT sp [] E t):=by obtain ⟨f,fd,F,hm,hk,hb⟩:=c.ex;intro tN s H Q I h;refine pX (wA I hg hm ?_ hdb);refine oX (h₀:=X.tM) I.ok.mod.kin hk (j7 (ha pos tN s σ H _ I h) λus s1 ⟨vs,H1,I1,r,q⟩=>⟨I1.kIn,?_⟩) he hpl;exact Iy F (hr.mono hj) hb hx I1 r q
end
end L2
namespace L2
open PySem PySem.Spec PyProof.Rows PySem.W Builtin Builtin.ObjectAttr
variable{prog:G3}{w:G5}{A:G4}{E:AA}{s:G2}{K:Frag}{C N R e:Addr}{oe:Obj}{cd:ClassData}{name nm q:Str}{v:G1}{vs:ED}{Q:AE}{h:Heap}{d:Drawn}{t:Nat}{os:OsState}{bm bmB bmN:C8}{ab hdct:Bool}{sn:C7}{col:Option Bool}{dd:EG}{k0 k1 k2 k3 k5:EW}{B Bn inN initId newId nid:String}{mN:AB}{rest:C8}{fI:Addr}{oI:Obj}
def xset (X:K.In s.heap)(he:s.heap.get? e=some oe)(hc:oe.cls = .ref C)(hdn:oe.dict=none)(hdf:oe.data = .fields vs)(hcd:clsIn K C=some cd)(hmro:cd.mro = .ref C:: .ref R::veMro)(hhd:cd.hasDict=true)(hs:findIn K (.ref C) "__setattr__"=some (some (.builtin "object.__setattr__")))(hn:findIn K (.ref C) name=some none)(h:∀ h' dx tk,h'.get? e=some { oe with dict:=some dx }->h'.Ns1 dx (λy=>if y=name then some v else none)->s.heap.objs.size<=dx->(∀ b o,b≠e->s.heap.get? b=some o->h'.get? b=some o)->Q () { s with heap:=h',toks:=tk }):wpAny (model prog w) A (setAttr (.ref e) name v) Q E s:=by
 have I:InstAt s.heap e oe C none:=⟨he,hc,by unfold notCls;rw [hdf],by rw [hdn];trivial⟩;refine set_plain X I hs ?_;obtain ⟨hp,gs,dr,tk,os⟩:=s;show codeAny _ _ _ _ (⟨hp,gs,dr,tk+1,os⟩:G2)
 change K.In hp at X
 change hp.get? e=some oe at he
 change InstAt hp e oe C none at I
 have SF:=PySem.F.store_object;have sub:Looks (model prog w) hp (isInstance (.ref e) (.type "object")) true:=I.type.andThen (looks_mroIn X (by unfold mroIn;rw [hcd,yD,hmro];rfl));refine pE SF.slot.plain SF.entry (@check_slot (model prog w) _ _ _ "object.__setattr__" "object" "__setattr__" (.ref e) [.str name tk,v] [] _ SF.kind SF.split sub (SF.args (.ref e) (.str name tk) v) ?_);have hm:Looks (model prog w) hp (mroOf (.ref C)) cd.mro:=(looks_clsIn X hcd).andThen .now;rw [osa_eq,refuse_eq];refine yY (yY (I.type.here (yY (hm.here ?_))));rw [hmro,refuseLoop_ref,refuseLoop_ref,show veMro=[.type "ValueError",.type "Exception",.type "BaseException",.type "object"] from rfl,PySem.F.store_ValueError.passes];refine yI (yY (I.type.here (yY ((looks_findIn X hn).here (yY (yI ?_))))));show wpAny _ _ (storeInOwnDict (.ref e) (.ref C) (.str name tk) name v false) _ _ _;unfold storeInOwnDict ownDictForStores instanceDict;have he':(⟨hp,gs,dr,tk+1,os⟩:G2).heap.get? e=some oe:=he;refine yY (yI (yY (yY (wpAny_loadPart he' ?_))));obtain ⟨ocl,odi,oda,osl⟩:=oe
 dsimp only at hc hdn hdf
 subst hc hdn hdf;refine yY ((looks_clsIn X hcd).here ?_);rw [hhd];have hx1:(hp.push { cls:= .type "dict",data:= .dict #[] }).get? e=some ⟨.ref C,none,.fields vs,osl⟩:=yW _ he;have hxs:e≠hp.objs.size:=yG (yN he);refine yY (wpAny_alloc' (yY (wpAny_update' hx1 (yI ?_))));have hg:((hp.push { cls:= .type "dict",data:= .dict #[] }).update e λo=>{ cls:=o.cls,dict:=some hp.objs.size,data:=o.data,slots:=o.slots }).get? hp.objs.size=some { cls:= .type "dict",data:= .dict #[] }:=(pi _ _ _ _ hxs.symm).trans (Heap.get?_push_at rfl rfl);show wpAny _ _ (storeInDict hp.objs.size (.str name tk) name v) _ _ _;unfold storeInDict newKeyGuard;have hnd:((hp.push { cls:= .type "dict",data:= .dict #[] }).update e λo=>{ cls:=o.cls,dict:=some hp.objs.size,data:=o.data,slots:=o.slots }).Ns hp.objs.size (λ_=>none):=⟨_,#[],_,hg,rfl,λe he=>rp he (by simp),λ_=>rfl⟩;refine yY (yI (yY (wpAny_nsSet1 (Heap.Ns1.of_empty hnd) λh' hn' hs'=>?_)));obtain ⟨oD,esD,epD,hoD,hdD,hcD⟩:=hn'.count (Within.cons name v Within.nil);refine yY (wpAny_lookBehind hoD (by rw [hdD];exact pastItsLine_dict (yj hcD (by rw [yJ,pb,ra];omega))) ?_);refine yI (h h' hp.objs.size _ ?_ hn' (yP _) λb o nb q=>?_)
 .refine (hs'.2 e hxs).trans (uI _ hx1 rfl)
 .exact (hs'.2 b (yG (yN q))).trans ((pi _ _ _ _ nb).trans (yW _ q))
section
variable{g:G0}{bs:C8}{sub:C8}
def FT (Fn:ExcBaseFacts Bn newId inN bmN)(hBn:bmB.contains (.type Bn)=true)(F:ExcBaseFacts B nid initId bmB)(T:OwnTail h bmB bm){Q:PySem.Fin->G2->Prop}(hC:h.get? C=some (excClassObj nm q C N bs bm hdct sn sub ab col dd k0 k1 k2 k3 k5 newId))(hn:h.Ns N mN)(hi:mN "__init__"=some (.ref fI))(hfI:h.get? fI=some oI)(hfc:oI.cls = .type "function")(hq:∀ h' e,Heap.MadeExcOf h h' e (.ref C) rest->h.objs.size<=e->wpAny (model prog w) A (call (.ref fI) (.ref e::rest)) (λr s'=>r = .none/\Q (.done (.ret (.ref e))) s') E ⟨h',g,d,t,os⟩)(hrest:rest.length<=sizeLine):wpAny (model prog w) A (Builtin.«type.__call__» ⟨.ref C::rest,[]⟩) Q E ⟨h,g,d,t,os⟩:=by
 repeat (first|with_reducible refine pr hC ?_|with_reducible refine wpAny_madeBy_exc hC ?_|wp_step)
 refine codeAny_call_builtin_code (oU _ Fn.quiet) (wpAny_check_new_subU Fn hBn T hC (codeAny_exc_new_subU Fn hBn F T hC ?_ hrest));show wpAny _ _ _ _ _ _;have up:∀ b o,h.get? b=some o->((h.push { cls:= .type "tuple",data:= .seq rest.toArray }).push { cls:= .ref C,data:= .fields #[.ref h.objs.size,.none,.none,.none,.bool false,.none] }).get? b=some o:=λb o z=>yW _ (yW _ z);have ge:((h.push { cls:= .type "tuple",data:= .seq rest.toArray }).push { cls:= .ref C,data:= .fields #[.ref h.objs.size,.none,.none,.none,.bool false,.none] }).get? (h.objs.size+1)=some { cls:= .ref C,data:= .fields #[.ref h.objs.size,.none,.none,.none,.bool false,.none] }:=by heap_get
 have n1:((h.push { cls:= .type "tuple",data:= .seq rest.toArray }).push { cls:= .ref C,data:= .fields #[.ref h.objs.size,.none,.none,.none,.bool false,.none] }).Ns N mN:=let ⟨o,es,ep,z,r⟩:=hn;⟨o,es,ep,up _ _ z,r⟩
 have hcC:(Value.ref C::bm).contains (.ref C)=true:=by simp
 have T1:=T.keeps up;unfold isInstance
 repeat (first|with_reducible refine pr ge ?_|(with_reducible refine wpAny_isSubtype_exc (up _ _ hC) ?_;rw [hcC])|wp_step)
 show wpAny _ _ (typeLookup (.ref C) _) _ _ _;refine wpAny_typeLookup_tail (up _ _ hC) n1 T1 F.mroIs F.init.lookup ?_;rw [hi];refine rh (yY ?_);unfold bindSpecial;refine yY (wpAny_typeOf (T:="function") ⟨_,up _ _ hfI,hfc⟩ ?_);rw [rB (by decide)];refine yI (yY (pM (hq _ (h.objs.size+1) ⟨up,yb (uh _),h.objs.size,ge,yb (yP _),yW _ (Heap.get?_push_at rfl rfl)⟩ (uh _)) (λr s' hr=>?_) λ_ _ x=>x));obtain ⟨rfl,hQ⟩:=hr
 wp_walk
 exact hQ
def MY (Fn:ExcBaseFacts Bn newId inN bmN)(hBn:bmB.contains (.type Bn)=true)(F:ExcBaseFacts B nid initId bmB)(T:OwnTail h bmB bm){Q:AA}(hC:h.get? C=some (excClassObj nm q C N bs bm hdct sn sub ab col dd k0 k1 k2 k3 k5 newId))(hn:h.Ns N mN)(hi:mN "__init__"=some (.ref fI))(hfI:h.get? fI=some oI)(hfc:oI.cls = .type "function")(hq:∀ h' e,Heap.MadeExcOf h h' e (.ref C) rest->h.objs.size<=e->wpAny (model prog w) (A.under (.builtin "type.__call__" ⟨.ref C::rest,[]⟩)) (call (.ref fI) (.ref e::rest)) (λr s'=>r = .none/\Q (.ref e) s') E ⟨h',g,d,t,os⟩)(hrest:rest.length<=sizeLine):wpAny (model prog w) A (call (.ref C) rest) Q E ⟨h,g,d,t,os⟩:=by
 have f1:=tc_lookup;have f2:=tc_bind (.ref C);have hT:(⟨h,g,d,t,os⟩:G2).TypeIs (.ref C) "type":=⟨_,hC,rfl⟩;refine pp (codeAny_of_tree ?_);show wpAny _ _ (callAny (.ref C) _) _ _ _
 repeat (any_goals (first|assumption|with_reducible refine pr hC ?_|wp_step))
 refine ⟨rfl,codeAny_call_builtin_at (oU _ (by decide +kernel)) entry_typeCall (wpAny_check_type_call_sub hC (FT Fn hBn F T hC hn hi hfI hfc (λh' e hm hz=>?_) hrest))⟩;exact hq h' e hm hz
end
end L2
namespace L2
open PySem PySem.Spec PyProof.Rows PySem.W
variable{X:Cx}{o value:Expr}{f:Str}{pos pos':Pos}{ta tv:TE}{R fI:Addr}{K:Frag}{h:Heap}{C dx e:Addr}{P:G3}{w:G5}{H:Hp}{tN:C4}{σ:St}{s:G2}
def jU (K:Frag)(C R fI:Addr):Bool:=match K.lookup C with
 |some ⟨.type "type",_,.cls cd,sl⟩=>(match cd.mro,sl.toList with
  | .ref C':: .ref R'::bm,[_,_,_,_,some (.builtin n),_]=>C'==C&&R'==R&&bm==veMro&&n == "ValueError.__new__" && !cd.hasDel&&cd.hasDict&&tailIn K veMro (.ref R::veMro)&&nsOkIn K cd.ns&&nsIn K cd.ns "__init__" == some (some (.ref fI))
  |_,_=>false)
 |_=>false
def Rk {N:Addr}{mg:AB}{n:Str}{v:G1}(X:K.In h)(G:h.Ns N mg)(e:nsIn K N n=some (some v)):mg n=some v:=by
 obtain ⟨o,es,ep,ho,hd,_,hf⟩:=G;unfold nsIn at e;split at e
 next a b es' c lk =>
  have:=X _ _ lk;rw [ho] at this;cases this;cases hd;split at e
  .rename_i en he;cases e;rw [<- hf];unfold nsFind findBy;rw [<- Array.find?_toList,he];rfl
  .split at e<;>cases e
 next=>cases e
structure XCls (h:Heap)(K:Frag)(C R fI:Addr):Prop where
 ob:∃ nm q N bs sn sub ab col dd k0 k1 k2 k3 k5 mN,h.get? C=some (excClassObj nm q C N bs (.ref R::veMro) true sn sub ab col dd k0 k1 k2 k3 k5 "ValueError.__new__")/\h.Ns N mN/\mN "__init__"=some (.ref fI)
 tl:OwnTail h veMro (.ref R::veMro)
 cl:∃ cd,clsIn K C=some cd/\cd.mro = .ref C:: .ref R::veMro/\cd.hasDict=true
def UX (X:K.In h)(q:jU K C R fI=true):XCls h K C R fI:=by
 unfold jU at q;split at q
 next dA cA sA lk =>
  split at q
  next D R' bm s0 s1 s2 s3 nw s5 em es =>
   simp only [yg,pQ,Bool.not_eq_true'] at q;obtain ⟨⟨⟨⟨⟨⟨⟨⟨q1,q2⟩,q3⟩,q4⟩,q5⟩,q6⟩,q7⟩,q8⟩,q9⟩:=q;subst q1 q2 q3 q4;have cl:clsIn K D=some cA:=by unfold clsIn;rw [lk]
   refine ⟨?_,tail_of_in X q7,cA,cl,em,q6⟩;cases cA with
   |mk f1 f2 f3 f4 f5 f6 f7 f8 f9 f10 f11 =>
    have em':f3 = .ref D:: .ref R'::veMro:=em;have q5':f11=false:=q5;have q6':f6=true:=q6;have es':sA=#[s0,s1,s2,s3,some (.builtin "ValueError.__new__"),s5]:=by
     cases sA with
     |mk l=>exact pL Array.mk es
    subst em' q5' q6' es';have G:=Heap.Ns.of_isNs (isNs_of_in X (show nsOkIn K f4=true from q8));exact ⟨f1,f5,f4,f2,f7,f8,f9,f10,dA,s0,s1,s2,s3,s5,_,X _ _ lk,G,Rk X G q9⟩
  next=>cases q
 next=>cases q
def XB (C e:Addr):Heap->Prop:=λh=>∃ t,h.get? e=some { cls:= .ref C,data:= .fields #[.ref t,.none,.none,.none,.bool false,.none] }
def XD (C e dx:Addr):Heap->Prop:=λh=>∃ t,h.get? e=some { cls:= .ref C,dict:=some dx,data:= .fields #[.ref t,.none,.none,.none,.bool false,.none] }
def xb_ok (x:XB C e h):sJ P w H h e (.ext (XB C e)):=⟨x,let ⟨_,q⟩:=x;⟨_,q⟩,λ_ _ ⟨t,q⟩ k=>⟨t,k _ q⟩⟩
def xd_ok (x:XD C e dx h):sJ P w H h e (.ext (XD C e dx)):=⟨x,let ⟨_,q⟩:=x;⟨_,q⟩,λ_ _ ⟨t,q⟩ k=>⟨t,k _ q⟩⟩
def Ow {a b c:HO}(n:dx≠e):z9 (z9 (z9 H e a) dx b) e c=z9 (z9 H dx b) e c:=by
 funext y
 by_cases h1:y=e
 .subst h1;rw [u5,u5]
 .rw [j3 h1,j3 h1];by_cases h2:y=dx
  .subst h2;rw [u5,u5]
  .rw [j3 h2,j3 h2,j3 h1]
def Xc (C:Addr)(f:Str):Sp:=λvs H Q _=>∃ e v,vs=[.ref e,v]/\H e=some (.ext (XB C e))/\∀ dx,H dx=none->dx≠e->Q .non (z9 (z9 H dx (.xd [(f,v)])) e (.ext (XD C e dx)))
def sFldX (C:Addr)(f:Str)(ta tv:TE):TS:=λD σ H=>tv σ H λy H1=>ta σ H1 λx H2=>∃ e,x = .ref e/\H2 e=some (.ext (XB C e))/\∀ dx,H2 dx=none->dx≠e->D.nx σ (z9 (z9 H2 dx (.xd [(f,y)])) e (.ext (XD C e dx)))
def SL (q:jU X.K C R fI=true)(hs:findIn X.K (.ref C) "__setattr__"=some (some (.builtin "object.__setattr__")))(hn:findIn X.K (.ref C) f=some none)(ha:PE X o ta)(hv:PE X value tv)(hw:swapsWith value (some (.Attribute o f pos')) pos.line X.rC=pure false):PS X (.Assign [.Attribute o f pos'] value pos) (sFldX C f ta tv):=by
 intro tN s σ H D I h;refine plainObj_wpAny_Assign_Attribute (j7 (hv tN s σ H _ I h) λu s1 ⟨y,H1,I1,ry,q1⟩=>j7 (ha tN s1 σ H1 _ I1 q1) λov s2 ⟨x,H2,I2,rx,e,ex,ee,q2⟩=>?_) hw;subst ex;obtain rfl:ov=Value.ref e:=rx;obtain ⟨⟨t,he⟩,_,_⟩:=(show sJ X.rD X.w H2 s2.heap e (.ext (XB C e)) from I2.tI e _ ee);obtain ⟨cd,c1,c2,c3⟩:=(UX I2.kIn q).cl;refine xset I2.kIn he rfl rfl rfl c1 c2 c3 hs hn λh' dx tk g1 g2 g3 g4=>?_;have nd:dx≠e:=λz=>by rw [z] at g3;exact uT _ (yx (yN he) g3)
 have fd:H2 dx=none:=I2.tI.fresh g3;refine ⟨σ,_,?_,q2 dx fd nd⟩;have oth:∀{b:Addr}{u:HO},b≠e->b≠dx->(z9 (z9 H2 dx (.xd [(f,y)])) e (.ext (XD C e dx)) b=some u↔H2 b=some u):=λ{b u} h1 h2=>by rw [j3 h1,j3 h2]
 have old:∀{b:Addr}{u:HO},H2 b=some u->b≠dx:=λ{b u} z1 z2=>by rw [z2,fd] at z1;cases z1
 refine I2.un ⟨λb u z n _ _=>g4 b u (λy=>by rw [y,ee] at n;cases n) z,λb u z n _ _=>⟨u.slots,g4 b u (λy=>by rw [y,ee] at n;cases n) z⟩,λb u z n _=>?_,λb u z _=>?_,λb xs z=>(oth (λy=>by rw [y,ee] at z;cases z) (old z)).mpr z,λb o u z=>(oth (λy=>by rw [y,ee] at z;cases z) (old z)).mpr z,λb ps q z=>(oth (λy=>by rw [y,ee] at z;cases z) (old z)).mpr z⟩ λb u z=>?_
 .rw [j3 (λy=>by rw [y,ee] at n;cases n),j3 (λy=>by rw [y] at z;exact uT _ (yx (yN z) g3))];exact n
 .by_cases hb:b=e
  .rw [hb];exact ⟨_,g1⟩
  .exact ⟨_,g4 b u hb z⟩
 .by_cases hb:b=e
  .subst hb;rw [u5] at z;cases z;exact xd_ok ⟨t,g1⟩
  .by_cases hd:b=dx
   .subst hd;rw [j3 hb,u5] at z;cases z;refine ⟨_,g2,λg=>?_⟩;by_cases hg:g=f
    .subst hg;rw [rB rfl];show RelO (List.lookup g [(g,y)]) _;rw [uN,pR];exact ry
    .rw [rq hg];show RelO (List.lookup g [(f,y)]) _;rw [uN,show (g==f)=false from re.mpr hg];exact True.intro
   .rw [oth hb hd] at z;refine (I2.tI b u z).stay (λc v hc e1=>g4 c v (λy=>?_) e1) (λc e1=>(oth (λy=>by rw [y,ee] at e1;cases e1) (old e1)).mpr e1) (λc xs e1=>(oth (λy=>by rw [y,ee] at e1;cases e1) (old e1)).mpr e1) λc o u e1=>(oth (λy=>by rw [y,ee] at e1;cases e1) (old e1)).mpr e1;rcases hc with hc|hc
    .exact hb (hc.symm.trans y)
    .rw [y,ee] at hc;cases hc
structure XMk (P:G3)(w:G5)(K:Frag)(mg:AB)(tM:Heap)(k:Nat)(x:Str)(C:Addr)(f:Str):Prop where
 ex:∃ R fI fd ps,jU K C R fI=true/\isFn K (.ref fI)=true/\keepIn K (.ref C)=true/\mg x=some (.ref C)/\sQ P w K mg tM v8 k fI fd ps (Xc C f)/\Binds K fd ps []
def IA {W:AA}{k:Nat}{fd:FuncData}{ps:C7}{u:G1}{v:V}(q:jU X.K C R fI=true)(hf:isFn X.K (.ref fI)=true)(F:sQ X.rD X.w X.K X.mg X.tM v8 k fI fd ps (Xc C f))(hr:Room (k+1) X.A)(hb:Binds X.K fd ps [])(I:sS X tN σ H s)(r:sO v u)(h:∀ e dx s',s.heap.objs.size<=e->H e=none->H dx=none->dx≠e->sS X tN σ (z9 (z9 H dx (.xd [(f,v)])) e (.ext (XD C e dx))) s'->W (.ref e) s'):wpAny (model X.rD X.w) X.A (call (.ref C) [u]) W X.xe s:=by
 obtain ⟨⟨nm,qn,N,bs,sn,sub,ab,col,dd,k0,k1,k2,k3,k5,mN,hC,hN,hi⟩,tl,_⟩:=UX I.kIn q;have hfn:∃ oI,s.heap.get? fI=some oI/\oI.cls = .type "function":=by have z:typeIn X.K (.ref fI)=some (.type "function"):=pQ.mp hf;unfold typeIn at z;obtain ⟨oI,z1,z2⟩:=yC.mp z;exact ⟨oI,I.kIn _ _ z1,z2⟩
 obtain ⟨oI,hI,hIc⟩:=hfn;obtain ⟨hp,gs,dr,tk,os⟩:=s;refine MY pJ (by decide) pJ tl hC hN hi hI hIc (λh' e mk ge=>?_) (by show 1<=sizeLine;rw [ra];decide);obtain ⟨t,m1,m2,m3⟩:=mk.there;have ne:H e=none:=I.tI.fresh ge;have I2:sS X tN σ (z9 H e (.ext (XB C e))) ⟨h',gs,dr,tk,os⟩:=I.laid (s:=⟨hp,gs,dr,tk,os⟩) (t':=tk) mk.keeps ge (xb_ok ⟨t,m1⟩);have r2:sP [V.ref e,v] [Value.ref e,u]:= .cons rfl (.cons r .nil);have hq:Xc C f [V.ref e,v] (z9 H e (.ext (XB C e))) (λx H2=>x = .non/\∃ dx,H dx=none/\dx≠e/\H2=z9 (z9 H dx (.xd [(f,v)])) e (.ext (XD C e dx))) E0:=⟨e,v,rfl,u5,λdx n1 n2=>⟨rfl,dx,by rwa [j3 n2] at n1,n2,Ow n2⟩⟩;have hl:([Value.ref e,u]++[]).length=ps.length:=by rw [<- F.len _ _ _ _ hq];rfl
 refine pp (pG (F.run _ X.stack _ _ ⟨[Value.ref e,u],[]⟩ ([Value.ref e,u]++[]) [V.ref e,v] _ E0 (hr.make C [u] []) (I2.env0.make C [u] []) (hb _ [Value.ref e,u] I2.kIn hl) (by rw [yp];exact r2) hq) λr s' hq'=>?_);cases r with
 |error e=>exact hq'.elim
 |ok fl =>
  cases fl with
  |ret u=>obtain ⟨v,H',I3,rv,ev,dx,n1,n2,rfl⟩:=I2.after hq';subst ev;exact ⟨rv,h e dx _ ge ne n1 n2 I3⟩
  |next=>exact False.elim hq'
  |brk=>exact False.elim hq'
  |cont=>exact False.elim hq'
def sS.forget {φ:Heap->Prop}(I:sS X tN σ H s)(h:H e=some (.ext φ))(n0:X.s₀.heap.get? e=none):sS X tN σ (λb=>if b=e then none else H b) s:=by
 have g:∀{b:Addr}{u:HO},b≠e->((if b=e then none else H b)=some u↔H b=some u):=λ{b u} nb=>by rw [rq nb]
 have f:∀{b:Addr},H b=none->(if b=e then none else H b)=none:=λ{b} z=>by split;rfl;exact z
 have tup:∀{b:Addr}{xs:EB},H b=some (.tup xs)->(if b=e then none else H b)=some (.tup xs):=λ{b xs} z=>(g (λy=>by rw [y,h] at z;cases z)).mpr z;have frz:∀{b:Addr}{o:Obj}{u:HO},H b=some (.frz o u)->(if b=e then none else H b)=some (.frz o u):=λ{b o u} z=>(g (λy=>by rw [y,h] at z;cases z)).mpr z;refine ⟨I.ok,I.os,I.bare,⟨I.tM.keep,I.tM.slot,λb o z n hx=>f (I.tM.free b o z n hx),I.tM.there,λb xs z=>tup (I.tM.tups b xs z),λb o u z=>frz (I.tM.frzs b o u z),λb ps q z=>(g (λy=>by have:=I.tM.tbls b ps q z;rw [y,h] at this;cases this)).mpr (I.tM.tbls b ps q z)⟩,I.loc,I.cell,f I.free,λx c z=>f (I.freeC x c z),λp hp=>let ⟨a,b,c⟩:=I.pin p hp;⟨a,f b,c⟩,λb u z=>?_,I.len⟩;by_cases hb:b=e
 .rw [rB hb] at z;cases z
 .exact (I.tI b u ((g hb).mp z)).stay (λ_ _ _ z=>z) (λc z=>(g (λy=>by rw [y,h] at z;cases z)).mpr z) (λc xs z=>tup z) λc o u z=>frz z
def UF (C:Addr)(f:Str)(E:XK)(t:TA):TS:=λ_ σ H=>t σ H λvs H1=>∃ v,vs=[v]/\∀ dx,H1 dx=none->E (.ref C) (some dx) (z9 H1 dx (.xd [(f,v)]))
def SM {E:XK}{k j:Nat}{x:Str}{np cpos:Pos}{e:Expr}{t:TA}(hc:X.calm=true)(hex:X.ex=[])(c:XMk X.rD X.w X.K X.mg X.tM k x C f)(hr:Room j X.A)(hj:k+1<=j)(hg:Gl X x)(ha:PA X [e] t)(ht:Vv X E)(hdb:(x==("__debug__":Str))=false:=by decide)(he:starEach [e] X.rC=(false,eval e X.rC)::starEach [] X.rC:=by rfl)(hpl:(backTo cpos (starEach [] X.rC)).any (·.1)=false:=by rfl):PS X (.Raise (some (.Call (.Name x np) [e] [] cpos)) none pos) (UF C f E t):=by
 obtain ⟨R,fI,fd,ps,q,hf,hk,hm,F,hb⟩:=c.ex;intro tN s σ H D I h;rw [arm_exec_Raise];refine yY (oN ?_);unfold raiseStmt;refine yY (yY (pX (wA I hg hm ?_ hdb)));refine callWith_K (h₀:=X.tM) I.ok.mod.kin hk (j7 (ha cpos tN s σ H _ I h) λus s1 ⟨vs,H1,I1,r,v,ev,q1⟩=>⟨I1.kIn,?_⟩) he hpl;subst ev;obtain ⟨u,rfl,ru⟩:=zk r;refine IA q hf F (hr.mono hj) hb I1 ru λea dx s' ge n1 n2 n3 I2=>?_;refine yY (oN (yI ?_));have n0:X.s₀.heap.get? ea=none:=by
  cases z:X.s₀.heap.get? ea with
  |none=>rfl
  |some o=>obtain ⟨o',z2⟩:=I1.tM.there ea o z (by rw [hex];exact λz=>nomatch z);rw [yb ge] at z2;cases z2
 have I3:=sS.forget I2 u5 n0;obtain ⟨⟨tt,hE⟩,_,_⟩:=(show sJ X.rD X.w _ s'.heap ea (.ext (XD C ea dx)) from I2.tI ea _ u5);have eH:(λb=>if b=ea then none else z9 (z9 H1 dx (.xd [(f,v)])) ea (.ext (XD C ea dx)) b)=z9 H1 dx (.xd [(f,v)]):=by
  funext b
  by_cases hb:b=ea
  .rw [rB hb,hb,j3 (Ne.symm n3)];exact n1.symm
  .rw [rq hb,j3 hb]
 rw [eH] at I3;have fin:X.xe (.ref ea) s':=ht tN σ _ s' ea C _ _ _ I3 hE rfl rfl rfl rfl (by rw [j3 (Ne.symm n3)];exact n1) n0 (q1 dx n2);obtain ⟨⟨nm,qn,N,bs,sn,sub,ab,col,dd,k0,k1,k2,k3,k5,mN,hC,hN,hi⟩,tl,_⟩:=UX I2.kIn q;have hcB:(Value.ref C:: .ref R::veMro).contains (.type "BaseException")=true:=by rw [List.contains_cons,List.contains_cons,show veMro.contains (.type "BaseException")=true by decide,Bool.or_true,Bool.or_true]
 obtain ⟨hp,gs,dr,tk,os⟩:=s'
 repeat (first|with_reducible refine pr hE ?_|with_reducible refine pr hC ?_|(with_reducible refine wpAny_isSubtype_exc hC ?_;rw [hcB])|wp_step)
 exact wpAny_raiseNew_none (I.ok.hd hc) fin
end L2
namespace L2
open PySem PySem.Spec PyProof.Rows PySem.W Builtin Builtin.ObjectAttr
variable{X:Cx}{K:Frag}{n x:Str}{D0:Addr}{cs:EC}{body:F3}{b₀:Stmt}{tb:XK->TS}{ts:AS}{hpos np pos:Pos}
def UH (K:Frag)(D0:Addr)(cs:EC)(i:Nat)(tb:XK->TS)(ts:AS):TS:=λD σ H=>∃ E:XK,(∀ cls dx H',E cls dx H'->∃ c,c∈cs/\cls = .ref c/\exmOne K cls (.ref D0)=some true)/\tb E D σ H /\
 ∀(ea c:Addr)(dx:EG)(H':Hp),E (.ref c) dx H'->ts ea c dx { nx:=λσ2 H2=>D.nx (σ2.set i none) H2,rt:=D.rt,bk:=λσ2 H2=>D.bk (σ2.set i none) H2,ct:=λσ2 H2=>D.ct (σ2.set i none) H2 } (σ.set i (some (.ref ea))) H'
section
variable{i:Nat}{suite:F3}
def SN (hK:X.K=K)(hex:X.ex=[])(hst:X.stack=X.rC::X.tL)(hf:X.rC.frame=some X.rC.locals)(hgx:Gl X x)(hmx:X.mg x=some (.ref D0))(hN:X.N.Nodup)(hi:X.N[i]?=some n)(hl:X.rC.kindOf n=some .local)(hfn:X.fn n=true)(hb:∀ (E:XK) (σ:St) (pn:C4) (W:AA),Xo (qN X.rD X.w) (X.tried pn W) σ E->Xn (X.tried pn W) σ body (tb E))(hs:∀ (pn:C4) (ea:Addr) (oe:Obj) (vs:ED) (c:Addr),oe.cls = .ref c->oe.data = .fields vs->c∈cs->(ea,oe)∈pn->PSs (X.suite pn ea) (b₀::suite) (ts ea c oe.dict))(hd:(x==("__debug__":Str))=false:=by decide):PS X (.Try body [.ExceptHandler (some (.Name x np)) (some n) (b₀::suite) hpos] [] [] pos) (UH K D0 cs i tb ts):=by
 subst hK;intro tN s σ H D I h;obtain ⟨E,hm,h1,h2⟩:=h
 let W:G1->G2->Prop:=λe s'=>∃(H' H1:Hp)(s1:G2)(ea:Addr)(cls:G1)(dx:EG),e = .ref ea/\sS X tN σ H' s'/\Fly2 s1.heap s'.heap H' ea cls dx/\sS X tN σ H1 s1/\E cls dx H'
 have ps:Xo (qN X.rD X.w) (X.tried (X.pn++tN) W) σ E:=by intro p2 H1 s1 e s' I1 q;obtain ⟨ea,cls,dx,H',rfl,os,bare,un,tI,F,q⟩:=q;have I0:sS X tN σ H1 s1:=I1.untried I.ok;exact ⟨H',H1,s1,ea,cls,dx,rfl,I0.call' (ch:=[]) os un tI bare (λb z=>nomatch z),F,I0,q⟩
 refine wpAny_Try_except (pM (hb E σ _ W ps [] s H D (I.tried W) h1) (λf s1 q=>?_) λe s1 q=>?_)
 .have q':=SP.untried I.ok q;cases f with
  |next=>exact pA q'
  |brk=>exact q'
  |cont=>exact q'
  |ret u=>exact q'
 obtain ⟨H',H1,s0,ea,cls,dx,rfl,I',F,I0,q⟩:=q;obtain ⟨c,hcs,rfl,hexm⟩:=hm cls dx H' q;have fr:=I'.stack;obtain ⟨T,a0,eT,e10,e11,_,fl⟩:=F.hid fr;have e12:=F.free;have apE:=I0.apart hex F.new;have apT:=I0.apart hex e11;have hS:∀ c∈[ea,T],H' c=none/\Vs X tN c:=λc hc=>by
  have z:c=ea∨c=T:=by simpa using hc
  rcases z with rfl|rfl
  .exact ⟨e12,apE⟩
  .exact ⟨e10,apT⟩
 have fr':X.A.frames=some (X.rC::X.tL):=by rw [<- hst];exact I'.ok.frames
 rw [hst] at fl;refine Pz (tL:=X.tL) fr' hf fl λh4 F4 up4=>JQ F4 λh5 F5 up5=>?_;rw [<- hst] at F5;have up45:=Heap.UpToSlots.trans up4 up5;have K5:Qg ([ea,T]++t9 X.stack) X.stack s1.heap h5:=Dd fr (by rw [hst] at F5 ⊢;exact F5.st) up45;have I5:=I'.flown hf hst hS K5;obtain ⟨oe5,vs5,T5,oT5,ts5,g1,g2,g2',g3,g4,gR⟩:=F5.ex;have J5:=I5.suite g1 e12 apE.loc apE.fs (λv z=>by rw [g4] at z;cases z);refine wpAny_handleBy_cons (codeAny_handlers_test (wA J5 hgx hmx ?_ hd)) (by intro z;cases z);have LT:Looks (model X.rD X.w) h5 (typeOf (.ref ea)) (.ref c):=g2▸(Looks.ld g1).andThen .now;refine (exm_one I5.kIn LT hexm).here ?_;refine codeAny_handlers_suite_as (JQ F5 λh6 F6 up6=>?_);have K6:Qg ([ea,T]++t9 X.stack) X.stack s1.heap h6:=Dd fr (by rw [hst] at F6 ⊢;exact F6.st) (Heap.UpToSlots.trans up45 up6);have I6:=I'.flown hf hst hS K6;obtain ⟨oe6,vs6,T6,oT6,ts6,k1,k2,k2',k3,k4,kR⟩:=F6.ex;have J6:=I6.suite k1 e12 apE.loc apE.fs (λv z=>by rw [k4] at z;cases z);refine UA (X:=X.suite (X.pn++tN++[(ea,oe6)]) ea) J6 hN hi (.inl hl) (v:= .ref ea) rfl (λs7 I7=>?_) (.inl hfn);have hrun:=hs _ ea oe6 vs6 c k2 k4 hcs (yw _ (by simp)) [] s7 _ H' _ I7 (by rw [k2'];exact h2 ea c dx H' q);refine pM hrun (λf s8 q8=>?_) (λ_ _ z=>z.elim);cases f with
 |next=>obtain ⟨σ8,H8,I8,q⟩:=q8;exact sS.goes (I8.unsuite I.ok) hN hi hl λs9 I9=>⟨_,_,I9,q⟩
 |brk=>obtain ⟨σ8,H8,I8,q⟩:=q8;exact sS.goes (I8.unsuite I.ok) hN hi hl λs9 I9=>⟨_,_,I9,q⟩
 |cont=>obtain ⟨σ8,H8,I8,q⟩:=q8;exact sS.goes (I8.unsuite I.ok) hN hi hl λs9 I9=>⟨_,_,I9,q⟩
 |ret u=>obtain ⟨v,σ8,H8,I8,r,q⟩:=q8;exact sS.goes (I8.unsuite I.ok) hN hi hl λs9 I9=>⟨v,_,_,I9,r,q⟩
end
end L2
namespace L2
open PySem PySem.Spec PyProof.Rows PySem.W
def Cd {X:Cx}{x:Str}{C:Addr}{E:XK}{np cpos pos:Pos}(hc:X.calm=true)(hex:X.ex=[])(hg:Gl X x)(hm:X.mg x=some (.ref C))(q:excIn X.K C veMro "ValueError.__new__"=true)(ht:Vv X E)(hd:(x==("__debug__":Str))=false:=by decide):PS X (.Raise (some (.Call (.Name x np) [] [] cpos)) none pos) (UE C E):=by
 intro tN s σ H D I h;obtain ⟨tl,N,nm,qn,bs,hdct,sn,sub,ab,col,dd,k0,k1,k2,k3,k5,mN,hC,hN,hni,TL⟩:=(Sc (mg:=X.mg) I.kIn hm q).obj;refine wpAny_Raise_call_subU (C:=C) (nm:=nm) (q:=qn) (N:=N) (bs:=bs) (bm:=tl) (hdct:=hdct) (sn:=sn) (sub:=sub) (ab:=ab) (col:=col) (dd:=dd) (k0:=k0) (k1:=k1) (k2:=k2) (k3:=k3) (k5:=k5) pJ (by decide) pJ (mN:=mN) (TL.hasType pJ.hasBase) (I.ok.hd hc) rfl hni (wA I hg hm ⟨rfl,?_⟩ hd);refine evalArgs_empty ⟨rfl,yd _,hC,hN,TL,λh' ea mk=>?_⟩;obtain ⟨t,m1,_,_⟩:=mk.there;refine ht tN σ H _ ea C _ _ _ (I.kept (t':=s.toks) mk.keeps) m1 rfl rfl rfl rfl (I.tI.gone mk.new) ?_ h;cases z:X.s₀.heap.get? ea with
 |none=>rfl
 |some o=>obtain ⟨o',z2⟩:=I.tM.there ea o z (by rw [hex];exact λz=>nomatch z);rw [mk.new] at z2;cases z2
end L2
namespace Mi
open PySem L2
variable{as:MA}{P:G3}{w:G5}{K:Fg}{mg:AB}{tM:Heap}{E:XK}{c:MB}{Hs:Hp}{C ea:Addr}{te:TE}{t:TT}{ta tb:TS}{qual:Str}{st:Stmt}{fd:FuncData}{N ps:C7}{b:MS}{m:AC}{dx:EG}
abbrev XV:=Option (Str×V)
abbrev AR:=List PV->Addr->XV->Prop
variable{y:XV}{x:AR}
def EOK (E:XK)(c:Addr)(y:XV)(Hs H:Hp):Prop:=match y with
 |none=>∀ Hs' H',Ext Hs H Hs' H'->E (.ref c) none H'
 |some p=>∀ Hs' H' dx,Ext Hs H Hs' H'->H dx=none->H' dx=some (.xd [p])->E (.ref c) (some dx) H'
def EOK.ext {c:Addr}{H tG H1:Hp}(q:EOK E c y Hs H)(x:Ext Hs H tG H1):EOK E c y tG H1:=by
 cases y with
 |none=>exact λHs' H' e=>q Hs' H' (x.trans e)
 |some p=>exact λHs' H' dx e n h=>q Hs' H' dx (x.trans e) (x.s2.free n) h
abbrev YM:=ME->Addr->XV->Prop
variable{f xa xb:YM}
class Xs (E:XK)(te:TE)(f:YM):Prop where
 h:∀{ε c y},f ε c y->∀{Hs0 H0 Hs H σ},RS Hs0 H0 Hs H σ ε->EOK E c y Hs H->∀{Q:VK},te σ H Q
class Xr (E:XK)(ts:TS)(f:YM):Prop where
 h:∀{ε c y},f ε c y->∀{Hs0 H0 Hs H σ},RS Hs0 H0 Hs H σ ε->EOK E c y Hs H->∀{D:xy},ts D σ H
class xV (E:XK)(ts:TS)(f:YM):Prop where
 h:∀{ε c y},f ε c y->∀{Hs0 H0 Hs H σ},RS Hs0 H0 Hs H σ ε->EOK E c y Hs0 H0->∀{D:xy},ts D σ H
def yNo:YM:=λ_ _ _=>False
instance (priority:=2000){ts:TS}:xV E ts yNo where
 h:=λh=>h.elim
def UZ (C:Addr):YM:=λ_ c y=>c=C/\y=none
instance :xV E (UE C E) (UZ C) where
 h:=λh _ _ _ _ _ rs q _=>by
  obtain ⟨rfl,rfl⟩:=h;exact q _ _ rs.ext
def Ga (C:Addr)(f:Str)(a:M):YM:=λε c y=>c=C/\∃ v,a ε=some (.at v)/\y=some (f,v)
instance {f:Str}{a:M}[sa:SemE te a]:xV E (UF C f E (qv te qL)) (Ga C f a) where
 h:=λh _ _ _ _ _ rs q _=>by
  obtain ⟨rfl,v,ea,rfl⟩:=h;refine sa.h ea rs λu tG H1 x1 r1=>⟨u,rfl,λdx hd=>?_⟩;rw [tD.mp r1];exact q _ _ dx (rs.ext.trans (x1.trans (.newO x1.s3 hd))) (rs.ext.s2.free (x1.s2.free hd)) u5
instance {fr:Bool}{f:Str}{t:TA}:i0 fr (UF C f E t) qz where
 h:=λe=>by cases e
def ja (fr:Bool)(a:MS)(xa xr:YM):YM:=λε c y=>xa ε c y∨∃ ε',a ε=some (.nx ε')/\xr ε' c y
instance {fr:Bool}{t u:TS}{a:MS}{xr:YM}[sa:i0 fr t a][s1:xV E t xa][s2:xV E u xr]:xV E (tSeq t u) (ja fr a xa xr) where
 h:=λh _ _ _ _ _ rs q D=>by
  rcases h with h|⟨ε',e,h⟩
  .exact s1.h h rs q
  .exact sa.h e rs λHs H σ r=>s2.h h r q
def yIf (c:MB)(xa xb:YM):YM:=λε k y=>∃ b,c ε=some b/\if b=true then xa ε k y else xb ε k y
instance [sc:qV t c][sa:xV E ta xa][sb:xV E tb xb]:xV E (Xe t ta tb) (yIf c xa xb) where
 h:=λh _ _ _ _ _ rs q _=>by
  obtain ⟨b,e,h⟩:=h;refine sc.h e rs λtG H1 x1=>?_;cases b with
  |true=>exact za (sa.h (by simpa using h) (rs.go x1) q)
  |false=>exact xZ (sb.h (by simpa using h) (rs.go x1) q)
instance [sc:qV t c][sa:Xr E ta xa][sb:Xr E tb xb]:Xr E (Xe t ta tb) (yIf c xa xb) where
 h:=λh _ _ _ _ _ rs q _=>by
  obtain ⟨b,e,h⟩:=h;refine sc.h e rs λtG H1 x1=>?_;cases b with
  |true=>exact za (sa.h (by simpa using h) (rs.go x1) (q.ext x1))
  |false=>exact xZ (sb.h (by simpa using h) (rs.go x1) (q.ext x1))
def yX (f:YM):YM:=f
instance [s:Xs E te f]:Xr E (jx te) (yX f) where
 h:=λh _ _ _ _ _ rs q _=>s.h h rs q
instance [s:Xs E te f]:xV E (jx te) (yX f) where
 h:=λh _ _ _ _ _ rs q _=>s.h h rs (q.ext rs.ext)
instance {g:TG}[s:Xs E te f]:xV E (jw te g) (yX f) where
 h:=λh _ _ _ _ _ rs q _=>s.h h rs (q.ext rs.ext)
def ZQ (g:MG)(f:MS)(xf:YM):C5->YM
 |[]=>λ_ _ _=>False
 |x::xs=>λε c y=>∃ ε1,g x ε=some ε1/\(xf ε1 c y∨∃ ε2,(f ε1=some (.nx ε2)∨f ε1=some (.ct ε2))/\ZQ g f xf xs ε2 c y)
def yFor (fr:Bool)(i:MA)(g:MG)(f:MS)(xf:YM):YM:=λε c y=>∃ xs,i ε=some xs/\ZQ g f xf xs ε c y
instance {fr:Bool}{wi:TI}{tg:TG}{ts:EI}{i:MA}{g:MG}{f:MS}{xf:YM}[si:jc wi i][sg:vE tg ts g][sf:i0 fr tb f][sx:xV E tb xf]:xV E (tFor wi tg tb) (yFor fr i g f xf) where
 h:=λ{ε0 c y} e Hs0 H0 _ _ _ rs q D=>by
  obtain ⟨xs,ex,e1⟩:=e;refine si.h ex rs λJ tG H1 x1 ok=>?_;have rs1:=rs.go x1;have q1:EOK E c y tG H0:=by
   cases y with
   |none=>exact λHs' H' z=>q Hs' H' (rs1.ext.unbase z)
   |some p=>exact λHs' H' dx z n h=>q Hs' H' dx (rs1.ext.unbase z) n h
  refine ⟨λk m σ H=>m=xs.length-k/\k<=xs.length/\∃ Hs ε,RS tG H0 Hs H σ ε/\ZQ g f xf (xs.drop k) ε c y,⟨xs.length,by simp,yd _,tG,_,rs1.rebase,e1⟩,?_⟩;rintro k m σ H ⟨rfl,hk,Hs,ε,r,el⟩;by_cases hlt:k<xs.length
  .have hd:xs.drop k=xs[k]::xs.drop (k+1):=yk hlt;rw [hd] at el;obtain ⟨ε1,eg,el2⟩:=el;obtain ⟨go,yl⟩:=ok.go k xs[k] Hs H (by simp [hlt]) r.ext.s1 r.ext.s3;refine .inr ⟨go,λσ' H'=>k+1<=xs.length/\∃ Hs ε,RS tG H0 Hs H' σ' ε/\ZQ g f xf (xs.drop (k+1)) ε c y,λσ' H' p=>⟨xs.length-(k+1),by omega,rfl,p.1,p.2⟩,λv H2 y'=>?_⟩;obtain ⟨tF,x2,r2⟩:=yl v H2 y';refine sg.h eg (r.go x2) r2 λσ2 rs2 _=>?_;rcases el2 with el2|⟨ε2,eo|eo,el2⟩
   .exact sx.h el2 rs2 q1
   .exact sf.h eo rs2 λHs3 H3 σ3 r3=>⟨hlt,Hs3,ε2,r3,el2⟩
   .exact sf.h eo rs2 λHs3 H3 σ3 r3=>⟨hlt,Hs3,ε2,r3,el2⟩
  .have ek:k=xs.length:=by omega
   subst ek;rw [uo] at el;exact el.elim
def qZ (m:AC)(x:AR):Sp:=λvs H Q E=>∃ Hs xs,sL Hs H/\sR Hs xs vs/\((∃ y,m xs=some y/\∀ v Hs' H',Ext Hs H Hs' H'->Rep Hs' y v->Q v H')∨∃ c y,x xs c y/\EOK E c y Hs H)
def ju (m:AC)(x:AR):Sp:=λvs H Q E=>∃ Hs xs,sL Hs H/\sR Hs xs vs/\((∃ y,m xs=some y/\∀ a Hs' H',Ext Hs H Hs' H'->H a=none->Hs' a=none->Top Hs' H' a y->Q (.ref a) H')∨∃ c y,x xs c y/\EOK E c y Hs H)
def zn (x:AR)(as:MA):YM:=λε c y=>∃ xs,as ε=some xs/\x xs c y
section
variable{ta:TA}
instance [sa:xi ta as]:SemE (xT (qZ m x) [] E ta) (z0 m as) where
 h:=λe _ _ _ _ _ rs _ q=>by
  obtain ⟨xs,ex,e1⟩:=tE e;exact sa.h ex rs λvs tG H1 x1 r1=>⟨tG,xs,x1.s3,by rw [yp];exact r1,.inl ⟨_,e1,λv Hs' H' x r=>q v _ _ (x1.trans x) r⟩⟩
instance [sa:xi ta as]:xJ (xT (ju m x) [] E ta) (z0 m as) where
 h:=λe _ _ _ _ _ rs _ q=>by
  obtain ⟨xs,ex,e1⟩:=tE e;exact sa.h ex rs λvs tG H1 x1 r1=>⟨tG,xs,x1.s3,by rw [yp];exact r1,.inl ⟨_,e1,λa Hs' H' x n n' r=>q a _ _ (x1.trans x) (x1.s2.free n) n' r⟩⟩
instance [sa:xi ta as]:Xs E (xT (qZ m x) [] E ta) (zn x as) where
 h:=λh _ _ _ _ _ rs q _=>by
  obtain ⟨xs,ex,h⟩:=h;exact sa.h ex rs λvs tG H1 x1 r1=>⟨tG,xs,x1.s3,by rw [yp];exact r1,.inr ⟨_,_,h,q.ext x1⟩⟩
instance [sa:xi ta as]:Xs E (xT (ju m x) [] E ta) (zn x as) where
 h:=λh _ _ _ _ _ rs q _=>by
  obtain ⟨xs,ex,h⟩:=h;exact sa.h ex rs λvs tG H1 x1 r1=>⟨tG,xs,x1.s3,by rw [yp];exact r1,.inr ⟨_,_,h,q.ext x1⟩⟩
end
def yFn (n k:Nat)(f:YM):C5->Addr->XV->Prop:=λxs c y=>xs.length=k/\f (xs.map .sh++List.replicate (n-k) .no) c y
def Zg {y:Str}{f:Addr}{k:Nat}(F:Fun K y qual st f fd)(S:y8 N ps (j4 st))(hm:m=p8 N.length ps.length b)(hx:x=yFn N.length ps.length xb)(hb:∀(tH:G1)(A:G4)(tL:EK)(s:G2)(H:Hp)(E:XK),Room k (A.deeper (PyProof.Rows.envOfC qual (j4 st) s.heap.objs.size f tH)) -> ∃ t,PSs (qy (qN P w) P w K mg tM N qual (j4 st) f tH A tL s H E) (qf st) t/\i0 false t b/\xV E t xb):sQ P w K mg tM (qN P w) (k+1) f fd ps (qZ m x):=by
 subst hm;subst hx;refine F.ok2 S (λvs H Q E h=>?_) (λtH A tL s H vs Q E hr h=>?_)
 .obtain ⟨Hs,xs,_,r,⟨y,e,_⟩|⟨c,y,h,_⟩⟩:=h
  .rw [r.length];unfold p8 at e;split at e
   .rename_i hl;exact hl
   .cases e
  .rw [r.length];exact h.1
 .obtain ⟨Hs,xs,sm,r,h⟩:=h;obtain ⟨t,ht,sem,semx⟩:=hb tH A tL s H E hr;refine ⟨t,ht,?_⟩;rcases h with ⟨y,e,q⟩|⟨c,y,h,q⟩
  .unfold p8 at e;split at e
   .rename_i hl;obtain ⟨o,eo,e1⟩:=tE e;refine sem.h eo (by rw [<- hl];exact zL sm r) ?_;cases o with
    |rt z=>cases e1;exact λv Hs' H' x rv=>q v Hs' H' x rv
    |nx ε=>cases e1;exact λHs' H' σ rs=>q _ Hs' H' rs.ext (tD.mpr rfl)
    |bk ε=>cases e1
    |ct ε=>cases e1
   .cases e
  .exact semx.h h.2 (by rw [<- h.1];exact zL sm r) q
def okOY {y:Str}{f:Addr}{k:Nat}(F:Fun K y qual st f fd)(S:y8 N ps (j4 st))(hm:m=qG N.length ps.length b)(hx:x=yFn N.length ps.length xb)(hb:∀(tH:G1)(A:G4)(tL:EK)(s:G2)(H:Hp)(E:XK),Room k (A.deeper (PyProof.Rows.envOfC qual (j4 st) s.heap.objs.size f tH)) -> ∃ t,PSs (qy (qN P w) P w K mg tM N qual (j4 st) f tH A tL s H E) (qf st) t/\i0 true t b/\xV E t xb):sQ P w K mg tM (qN P w) (k+1) f fd ps (ju m x):=by
 subst hm;subst hx;refine F.ok2 S (λvs H Q E h=>?_) (λtH A tL s H vs Q E hr h=>?_)
 .obtain ⟨Hs,xs,_,r,⟨y,e,_⟩|⟨c,y,h,_⟩⟩:=h
  .rw [r.length];unfold qG at e;split at e
   .rename_i hl;exact hl
   .cases e
  .rw [r.length];exact h.1
 .obtain ⟨Hs,xs,sm,r,h⟩:=h;obtain ⟨t,ht,sem,semx⟩:=hb tH A tL s H E hr;refine ⟨t,ht,?_⟩;rcases h with ⟨y,e,q⟩|⟨c,y,h,q⟩
  .unfold qG at e;split at e
   .rename_i hl;obtain ⟨o,eo,e1⟩:=tE e;refine sem.h eo (by rw [<- hl];exact zL sm r) ?_;cases o with
    |rt z=>cases e1;exact λa Hs' H' x n n' t=>q a Hs' H' x n n' t
    |nx ε=>cases e1
    |bk ε=>cases e1
    |ct ε=>cases e1
   .cases e
  .exact semx.h h.2 (by rw [<- h.1];exact zL sm r) q
def exV (ea:Addr)(y:XV)(dx:EG):Hp->V->Prop:=λH u=>u = .ref ea/\match y,dx with
 |some p,some d=>H d=some (.xd [p])
 |none,none=>True
 |_,_=>False
open Classical in
noncomputable def zB (ea:Addr)(y:XV)(dx:EG)(i:Nat):M:=λε=>if ε[i]?=some (.sh (.op (exV ea y dx))) then some (.at (.ref ea)) else none
def Ik {v:V}(h:Rep Hs (.op (exV ea y dx)) v):v = .ref ea/\match y,dx with
 |some p,some d=>Hs d=some (.xd [p])
 |none,none=>True
 |_,_=>False:=by
 obtain ⟨H',s,e,h⟩:=rep_op.mp h;refine ⟨e,?_⟩;split at h
 .exact s _ _ h
 .trivial
 .exact h.elim
instance {i:Nat}:SemE (qM i) (zB ea y dx i) where
 h:=λe _ _ _ _ _ r _ q=>by
  unfold zB at e;split at e
  .rename_i hi;cases e;obtain ⟨v,h1,h2⟩:=r.sh i _ hi;obtain ⟨rfl,_⟩:=Ik h2;exact ⟨_,h1,q _ _ _ (.refl r.sub) (tD.mpr rfl)⟩
  .cases e
open Classical in
variable {fr:Bool}
def Cw (K:Fg)(D0:Addr)(cs:EC)(i:Nat)(b:MS)(xb:YM)(s:Addr->Addr->XV->EG->MS):RM:=λε o=>b ε=some o∨∃ c y,c∈cs/\PySem.W.exmOne K (.ref c) (.ref D0)=some true/\xb ε c y/\∀(ea:Addr)(dx:EG),dx.isSome=y.isSome->∃ o',s ea c y dx (ε.set i (.sh (.op (exV ea y dx))))=some o'/\clr i o'=o
instance {D0:Addr}{cs:EC}{i:Nat}{tb:XK->TS}{ts:AS}{s:Addr->Addr->XV->EG->MS}[sb:∀ E,i0 fr (tb E) b][sx:∀ E,Xr E (tb E) xb][ss:∀ ea c y dx,i0 fr (ts ea c dx) (s ea c y dx)]:Qp fr (UH K D0 cs i tb ts) (Cw K D0 cs i b xb s) where
 h:=λ{ε o} h Hs0 H0 Hs H σ rs D q=>by
  rcases h with h|⟨c,y,hc,hm,hx,hs⟩
  .exact ⟨E0,λ_ _ _ z=>z.elim,(sb E0).h h rs q,λ_ _ _ _ z=>z.elim⟩
  .refine ⟨λcls dx H'=>cls = .ref c/\dx.isSome=y.isSome/\∃ Hs',Ext Hs H Hs' H'/\match y,dx with|some p,some d=>H d=none/\H' d=some (.xd [p])|none,none=>True|_,_=>False,λcls dx H' z=>⟨c,hc,z.1,by rw [z.1];exact hm⟩,(sx _).h hx rs ?_,λea c' dx H' z=>?_⟩
   .cases y with
    |none=>exact λHs' H' x=>⟨rfl,rfl,Hs',x,trivial⟩
    |some p=>exact λHs' H' d x n h=>⟨rfl,rfl,Hs',x,n,h⟩
   .obtain ⟨z1,z2,Hs',x,z3⟩:=z;cases z1;obtain ⟨o',e',rfl⟩:=hs ea dx z2;have ⟨tF,x2,h2⟩:∃ tF,Ext Hs H tF H'/\exV ea y dx tF (.ref ea):=by
     cases y with
     |none =>
      cases dx with
      |none=>exact ⟨Hs',x,rfl,trivial⟩
      |some d=>exact z3.elim
     |some p =>
      cases dx with
      |none=>exact z3.elim
      |some d =>
       cases hd:Hs' d with
       |none=>exact ⟨_,x.share z3.1 hd z3.2,rfl,u5⟩
       |some o=>have:=x.s3 _ _ hd;rw [z3.2] at this;cases this;exact ⟨Hs',x,rfl,hd⟩
    refine (ss ea c y dx).h e' ((rs.go x2).put (i:=i) (x:= .op (exV ea y dx)) (v:= .ref ea) (rep_op.mpr ⟨tF,.refl _,h2⟩)) ?_;cases o' with
    |nx ε2=>exact λtF H2 σ2 r2=>q _ _ _ (r2.drop i)
    |bk ε2=>exact λtF H2 σ2 r2=>q _ _ _ (r2.drop i)
    |ct ε2=>exact λtF H2 σ2 r2=>q _ _ _ (r2.drop i)
    |rt y=>exact q
end Mi
namespace L2
open PySem PySem.Spec PyProof.Rows PySem.W
variable{X:Cx}{K:Frag}{n x:Str}{D0:Addr}{cs:EC}{body:F3}{b₀:Stmt}{tb:XK->TS}{ts:AS}{hpos np pos:Pos}
section
variable{i:Nat}{suite:F3}
def SO (hK:X.K=K)(hex:X.ex=[])(hst:X.stack=X.rC::X.tL)(hf:X.rC.frame=some X.rC.locals)(hgx:Gl X x)(hmx:X.mg x=some (.ref D0))(hN:X.N.Nodup)(hi:X.N[i]?=some n)(hl:X.rC.kindOf n=some .local)(hfn:X.fn n=true)(hb:∀ (E:XK) (σ:St) (pn:C4) (W:AA),Xo (qN X.rD X.w) (X.tried pn W) σ E->Xn (X.tried pn W) σ body (tb E))(hs:∀ (pn:C4) (ea:Addr) (oe:Obj) (vs:ED) (c:Addr) (dx:EG),oe.cls = .ref c->oe.data = .fields vs->oe.dict=dx->c∈cs->(ea,oe)∈pn->PSs (X.suite pn ea) (b₀::suite) (ts ea c dx))(hd:(x==("__debug__":Str))=false:=by decide):PS X (.Try body [.ExceptHandler (some (.Name x np)) (some n) (b₀::suite) hpos] [] [] pos) (UH K D0 cs i tb ts) :=
 SN hK hex hst hf hgx hmx hN hi hl hfn hb (λpn ea oe vs c h1 h2 h3 h4=>hs pn ea oe vs c _ h1 h2 rfl h3 h4) hd
end
def okXI {P:G3}{w:G5}{mg:AB}{tM:Heap}{qual:Str}{st:Stmt}{f fI C R:Addr}{fd:FuncData}{a b g:Str}{value:Expr}{o:Expr}{pos':Pos}(F:Fun K x qual st f fd)(S:y8 [a,b] [a,b] (j4 st))(hb:qf st=[.Assign [.Attribute o g pos'] value pos])(q:jU K C R fI=true)(hs:findIn K (.ref C) "__setattr__"=some (some (.builtin "object.__setattr__")))(hn:findIn K (.ref C) g=some none)(h:∀ (tH:G1) (A:G4) (tL:EK) (s:G2) (H:Hp) (E:XK),PE (qy v8 P w K mg tM [a,b] qual (j4 st) f tH A tL s H E).nox o (qM 0)/\PE (qy v8 P w K mg tM [a,b] qual (j4 st) f tH A tL s H E).nox value (qM 1) /\ swapsWith value (some (.Attribute o g pos')) pos.line (qy v8 P w K mg tM [a,b] qual (j4 st) f tH A tL s H E).nox.rC=pure false):sQ P w K mg tM v8 1 f fd [a,b] (Xc C g):=by
 refine F.ok (k:=0) S (λvs H Q E h=>?_) (λtH A tL s H vs Q E hr h'=>?_)
 .obtain ⟨e,v,rfl,_⟩:=h;rfl
 .obtain ⟨h1,h2,h3⟩:=h tH A tL s H E;obtain ⟨e,v,rfl,he,q'⟩:=h';refine ⟨_,by rw [hb];exact j9 (SL q hs hn h1 h2 h3),?_⟩;exact ⟨_,rfl,_,rfl,e,rfl,he,q'⟩
end L2
namespace Mi
open PySem L2
variable{H Hs Hs':Hp}{b:Addr}{j n:Nat}{f x:M}{ε:ME}{K:Fg}{ts:EI}{te:TE}{it:MA}{c:MB}
def Tops (Hs H:Hp):EC->C5->Prop
 |[],[]=>True
 |a::as,w::ws=>Top Hs H a w/\Tops Hs H as ws
 |_,_=>False
theorem Tops.mono {H':Hp}(s1:sL Hs Hs')(s2:sL H H'):∀{as:EC}{ws:C5},Tops Hs H as ws->Tops Hs' H' as ws
 |[],[],_=>trivial
 |_::_,_::_,h=>⟨h.1.mono s1 λo z=>s2 _ _ z,h.2.mono s1 s2⟩
 |[],_::_,h=>h.elim
 |_::_,[],h=>h.elim
theorem Tops.snoc {a:Addr}{w:PV}(t:Top Hs H a w):∀{as:EC}{ws:C5},Tops Hs H as ws->Tops Hs H (as++[a]) (ws++[w])
 |[],[],_=>⟨t,trivial⟩
 |_::_,_::_,h=>⟨h.1,h.2.snoc t⟩
 |[],_::_,h=>h.elim
 |_::_,[],h=>h.elim
theorem Tops.mem :∀{as:EC}{ws:C5},Tops Hs H as ws->b∈as->H b≠none
 |a::as,w::ws,h,hb=>by
  rcases yL.mp hb with rfl|z
  .exact h.1.there
  .exact h.2.mem z
 |[],_,_,hb=>nomatch hb
 |_::_,[],h,_=>h.elim
theorem Tops.at {Hs H:Hp}{l:C5}:∀{as:EC}{ls:EF}{j:Nat},Tops Hs H as (ls.map .lst)->ls[j]?=some l->∃ b,as[j]?=some b/\Top Hs H b (.lst l)
 |a::as,x::ls,0,h,e=>by cases e;exact ⟨a,rfl,h.1⟩
 |a::as,x::ls,j+1,h,e=>Tops.at (as:=as) (ls:=ls) (j:=j) h.2 (by simpa using e)
 |_,[],_,_,e=>by simp at e
 |[],_::_,_,h,_=>h.elim
theorem Pg:∀{ys:C5}{ls:EF},zb ys=some ls->ys=ls.map .lst
 |[],ls,h=>by cases h;rfl
 |y::ys,ls,h=>by
  unfold zb at h;split at h
  .rename_i e;cases e
  .rename_i e;cases e;obtain ⟨zs,hz,rfl⟩:=yC.mp h;rw [Pg hz];rfl
  .cases h
theorem Ph:∀ ls:EF,zb (ls.map .lst)=some ls
 |[]=>rfl
 |l::ls=>by
  show (zb (ls.map .lst)).map (l::·)=_;rw [Ph ls];rfl
def Tops.share {v:V}{x:PV}{vs:EB}(s1:sL Hs Hs')(hx:Rep Hs x v)(hb:H b=some (.lst vs)):∀{as:EC}{ls:EF},Tops Hs H as (ls.map .lst)->as.Nodup->as[j]?=some b->(∀ a∈as,Hs' a=if a=b then some (.lst (vs++[v])) else H a) -> sR Hs' ((ls.set j (ls.getD j []++[x])).map .lst) (as.map V.ref):=by
 have no:∀{as:EC}{ls:EF},Tops Hs H as (ls.map .lst)->b∉as->(∀ a∈as,Hs' a=if a=b then some (.lst (vs++[v])) else H a)->sR Hs' (ls.map .lst) (as.map V.ref):=by
  intro as
  induction as with
  |nil =>
   intro ls t _ _;cases ls with
   |nil=>exact .nil
   |cons _ _=>exact t.elim
  |cons a as ih =>
   intro ls t nb h;cases ls with
   |nil=>exact t.elim
   |cons l ls=>obtain ⟨⟨ws,h1,h2⟩,t2⟩:=t;have ab:a≠b:=λz=>nb (z▸yR);refine .cons (tj.mpr ⟨a,ws,rfl,?_,h2.mono s1⟩) (ih t2 (λz=>nb (yO _ z)) λc hc=>h c (yO _ hc));rw [h a yR,rq ab];exact h1
 intro as
 induction as generalizing j with
 |nil=>intro ls t _ e;simp at e
 |cons a as ih =>
  intro ls t nd e h;cases ls with
  |nil=>exact t.elim
  |cons l ls =>
   obtain ⟨⟨ws,h1,h2⟩,t2⟩:=t;obtain ⟨na,nd2⟩:=yn.mp nd;cases j with
   |zero=>obtain rfl:a=b:=Option.some.inj e;rw [h1] at hb;cases hb;refine .cons (tj.mpr ⟨a,_,rfl,?_,(h2.mono s1).snoc (hx.mono s1)⟩) (no t2 na λc hc=>h c (yO _ hc));rw [h a yR,rB rfl]
   |succ j =>
    have e':as[j]?=some b:=by simpa using e
    have ab:a≠b:=λz=>na (z▸yu e');refine .cons (tj.mpr ⟨a,ws,rfl,?_,h2.mono s1⟩) (ih t2 nd2 e' λc hc=>h c (yO _ hc));rw [h a yR,rq ab];exact h1
def RS.hide {Hs0 H0:Hp}{σ:St}(r:RS Hs0 H0 Hs H σ ε)(i:Nat)(v:EY):RS Hs0 H0 Hs H (σ.set i v) (ε.set i .no):=by
 have dn:∀(j:Nat)(s:sN),(ε.set i .no)[j]?=some s->s = .no∨(i≠j/\ε[j]?=some s):=λj s q=>by
  rw [yr] at q;split at q
  .split at q
   .cases q;exact .inl rfl
   .cases q
  .rename_i h;exact .inr ⟨h,q⟩
 have up:∀(j:Nat),i≠j->(σ.set i v)[j]?=σ[j]?:=λj h=>yh h;refine ⟨r.ext,λj x q=>?_,λj x q=>?_,λj k x y a h1 h2 h3 h4=>?_,by rw [yc,yc,r.len],λj x q=>?_⟩
 .rcases dn j _ q with z|⟨h,q⟩
  .cases z
  .rw [up j h];exact r.sh j x q
 .rcases dn j _ q with z|⟨h,q⟩
  .cases z
  .rw [up j h];exact r.ow j x q
 .rcases dn j _ h1 with z|⟨g1,q1⟩
  .cases z
  .rcases dn k _ h2 with z|⟨g2,q2⟩
   .cases z
   .rw [up j g1] at h3;rw [up k g2] at h4;exact r.nd j k x y a q1 q2 h3 h4
 .rcases dn j _ q with z|⟨h,q⟩
  .cases z
  .rw [up j h];exact r.bo j x q
def Xy (i:Nat)(tK:C9)(ts:EI)(it:MA)(g:MG)(c:MB)(f k x:M):MS:=λε=>(it ε).bind λxs=>if zA tK ts=true/\xs.length<=lim/\i<ε.length then (qO g c f (o6 tK ε) xs).bind λys=>(zb ys).bind λls=>(k (ε.set i .no)).bind λkv=>match kv with
 | .at (.int n)=>(x (ε.set i .no)).bind λy=>if 0<=n/\n<ls.length/\(ls.getD n.toNat []).length<=lim then some (.nx (ε.set i (.ow (.lst ((ls.set n.toNat (ls.getD n.toNat []++[y])).map .lst))))) else none
 |_=>none else none
variable {fr:Bool}
instance (priority:=2000){wi:TI}{tg:TG}{tt:TT}{tk tx:TE}{tK:C9}{g:MG}{k:M}{u:TS}{r:MS}[si:jc wi it][sg:vE tg ts g][sc:qV tt c][sf:xJ te f][sk:SemE tk k][sx:SemE tx x][sr:i0 fr u r]:i0 fr (tSeq (jw (Xd wi tg tt te tK) (xE n)) (tSeq (jx (tBM K "list" Vh (tOp (rIx K) (qM n) tk) (qv tx qL))) u)) (y9 (Xy n tK ts it g c f k x) r) where
 h:=λ{ε o} e Hs0 H0 Hs H σ rs D q=>by
  obtain ⟨o1,e1,e2⟩:=tE e;unfold Xy at e1;obtain ⟨xs,ex,e1⟩:=tE e1;split at e1
  rotate_left
  .cases e1
  rename_i hcl;obtain ⟨hcap,hl,hn⟩:=hcl;unfold zA at hcap;rw [yg] at hcap;obtain ⟨ys,ey,e1⟩:=tE e1;obtain ⟨ls,el,e1⟩:=tE e1;obtain ⟨kv,ek,e1⟩:=tE e1;split at e1
  rotate_left
  .cases e1
  rename_i kk;obtain ⟨y,exx,e1⟩:=tE e1;split at e1
  rotate_left
  .cases e1
  rename_i hk;obtain ⟨k0,k1,k2⟩:=hk;cases e1;cases Pg el;refine si.h ex rs λJ tG H1 x1 ok=>?_;have rc:=((rs.go x1).tK (uS hcap.1)).rebase;have wk:∀ i∈ts,(m9 tK σ)[i]?=some none:=λi hi=>by
   unfold m9;rw [yM,uS (uY.mp hcap.2 i hi)];rfl
  refine ⟨λk m zs H=>m=xs.length-k/\k<=xs.length/\∃ tF as ws,zs=as.map V.ref/\Ext tG H1 tF H/\RS tG H0 tF H (m9 tK σ) (o6 tK _)/\Tops tF H as ws/\as.Nodup/\(∀ b∈as,H1 b=none/\tF b=none)/\as.length<=k/\∃ rest,qO g c f (o6 tK _) (xs.drop k)=some rest/\ls.map PV.lst=ws++rest,
   ⟨xs.length,by simp,yd _,tG,[],[],rfl,.refl x1.s3,rc,trivial,.nil,(λ_ z=>nomatch z),yP _,_,ey,rfl⟩,?_⟩
  rintro k m zs H2 ⟨rfl,hk,tF,as,ws,rfl,x2,r2,tp,nd,nw,hw,rest,er,eys⟩;refine ⟨xL (by rw [yZ];omega),?_⟩;by_cases hlt:k<xs.length
  .have hd:xs.drop k=xs[k]::xs.drop (k+1):=yk hlt;rw [hd] at er;unfold qO at er;obtain ⟨ε1,eg,er1⟩:=tE er;obtain ⟨b,eb,er2⟩:=tE er1;obtain ⟨go,yl⟩:=ok.go k xs[k] tF H2 (by simp [hlt]) x2.s1 x2.s3;refine .inr ⟨go,λv H3 y=>?_⟩;obtain ⟨Hs3,x3,r3⟩:=yl v H3 y;refine sg.h eg (r2.go x3) r3 λσ2 rs2 bt=>⟨bt.wk wk,sc.h eb rs2 λHs4 H4 x4=>?_⟩;cases b with
   |true =>
    rw [rB rfl] at er2;obtain ⟨z,ez,er3⟩:=tE er2;obtain ⟨rest',er4,er5⟩:=tE er3;cases er5;refine za (sf.h ez (rs2.go x4) λa Hs5 H5 x5 na ns t5=>⟨xs.length-(k+1),by omega,rfl,hlt,Hs5,as++[a],ws++[z],by rw [yE];rfl,x2.trans (x3.trans (x4.trans x5)),((r2.go x3).go x4).go x5,(tp.mono (x3.s1.trans (x4.s1.trans x5.s1)) (x3.s2.trans (x4.s2.trans x5.s2))).snoc t5,?_,?_,?_,rest',er4,?_⟩)
    .refine uL.mpr ⟨nd,by simp,λb hb c hc z=>?_⟩;rw [yU.mp hc] at z;subst z;exact Uw (x3.s2.trans x4.s2) (tp.mem hb) na
    .intro b hb;rcases yF.mp hb with hb|hb
     .exact ⟨(nw b hb).1,(x3.trans (x4.trans x5)).s4 b (tp.mem hb) (nw b hb).2⟩
     .rw [yU.mp hb];exact ⟨(x2.s2.trans (x3.s2.trans x4.s2)).free na,ns⟩
    .rw [yV];simp;omega
    .rw [uW];exact eys
   |false=>rw [rq yQ] at er2;exact xZ ⟨xs.length-(k+1),by omega,rfl,hlt,Hs4,as,ws,rfl,x2.trans (x3.trans x4),(r2.go x3).go x4,tp.mono (x3.s1.trans x4.s1) (x3.s2.trans x4.s2),nd,λb hb=>⟨(nw b hb).1,(x3.trans x4).s4 b (tp.mem hb) (nw b hb).2⟩,by omega,rest,er2,eys⟩
  .have ek':k=xs.length:=by omega
   subst ek';rw [uo] at er;unfold qO at er;cases er;refine .inl ⟨ok.stop tF H2 x2.s1 x2.s3,λF hF=>?_⟩;rw [yp] at eys;subst eys;have x12:=x1.trans x2;have xF:Ext tF H2 tF (z9 H2 F (.lst (as.map V.ref))):= .newO x2.s3 hF;have hFl:z9 H2 F (.lst (as.map V.ref)) F=some (.lst (as.map V.ref)):=u5;generalize z9 H2 F (.lst (as.map V.ref))=H3 at xF hFl ⊢;have rs1:=(rs.go (x12.trans xF)).hide n (some (.ref F));have hnσ:(σ.set n (some (V.ref F)))[n]?=some (some (.ref F)):=uu (by rw [rs.len];exact hn);obtain ⟨l,hj⟩:∃ l,ls[kk.toNat]?=some l:=⟨_,yS (by omega)⟩;have gl:ls.getD kk.toNat []=l:=by rw [yy,hj];rfl
   obtain ⟨b,hb,vs,hv,rv⟩:=tp.at hj;have bm:=yu hb;have bF:b≠F:=λz=>by rw [z,hF] at hv;cases hv
   refine ⟨_,hnσ,sk.h ek rs1 λv Hs3 H4 x3 r3=>?_⟩;have ev:v = .int kk:=tD.mp r3;subst ev;have h4F:=x3.s2 _ _ hFl;have h4b:=x3.s2 _ _ (xF.s2 _ _ hv);refine .inl ⟨F,as.map V.ref,kk,.ref b,rfl,rfl,sK.of h4F,?_,.inl ⟨rfl,vs,sK.of h4b⟩,sx.h exx (rs1.go x3) λv Hs4 H5 x4 r4=>?_⟩
   .have:kk=((kk.toNat:Nat):Int):=by omega
    rw [this];exact zy (by rw [yM,hb];rfl)
   have h5F:=x4.s2 _ _ h4F;have h5b:=x4.s2 _ _ h4b;rw [gl] at k2;refine ⟨b,vs,v,rfl,rfl,h5b,XO (by rw [rv.length];exact k2),?_⟩;have x25:=xF.trans (x3.trans x4);have xA:=x12.trans x25;have asH:∀ a∈as,H a=none:=λa ha=>x1.s2.free (nw a ha).1;have as5:∀ a∈as,Hs4 a=none:=λa ha=>x25.s4 a (tp.mem ha) (nw a ha).2;have Fa:F∉as:=λz=>tp.mem z hF
   open Classical in
   let Hs6:Hp:=λa=>if a∈as then z9 H5 b (.lst (vs++[v])) a else Hs4 a
   have hin:∀ a,a∈as->Hs6 a=z9 H5 b (.lst (vs++[v])) a:=λa ha=>rB ha;have hout:∀ a,a∉as->Hs6 a=Hs4 a:=λa ha=>rq ha
   clear_value Hs6
   have s46:sL Hs4 Hs6:=λa w z=>by
    rw [hout a (λy=>by rw [as5 a y] at z;cases z)];exact z
   have xB:Ext Hs H Hs6 (z9 H5 b (.lst (vs++[v]))):=by
    refine ⟨xA.s1.trans s46,λa w z=>?_,λa w z=>?_,λa h1 h2=>?_⟩
    .rw [j3 (λy=>by rw [y,asH b bm] at z;cases z)];exact xA.s2 _ _ z
    .by_cases ha:a∈as
     .rw [hin a ha] at z;exact z
     .rw [hout a ha] at z;rw [j3 (λy=>ha (by rw [y];exact bm))];exact xA.s3 _ _ z
    .rw [hout a (λy=>h1 (asH a y))];exact xA.s4 a h1 h2
   refine sr.h e2 ((rs.go xB).putO (i:=n) (a:=F) ⟨rs.ext.s2.free (x12.s2.free hF),?_,as.map V.ref,?_,?_⟩ λj w hj2 z=>?_) q
   .rw [hout F Fa];exact (x3.trans x4).s4 F (by rw [hFl];exact λz=>nomatch z) (x2.s3.free hF)
   .rw [j3 bF.symm];exact h5F
   .refine Tops.share (Hs:=Hs4) (H:=H5) s46 r4 h5b (tp.mono (x3.s1.trans x4.s1) x25.s2) nd hb λa ha=>?_;rw [hin a ha];rfl
   .obtain ⟨b',hb',_,_,tb⟩:=rs.ow j w hj2;rw [z] at hb';injection hb' with hb';injection hb' with hb';injection hb' with hb';subst hb';exact tb.there (x12.s2.free hF)
def LU {tK:C9}{g:MG}{k:M}{xs:C5}{ls:EF}{y:PV}(h:it ε=some xs)(hc:zA tK ts=true)(hl:xs.length<=lim)(hn:n<ε.length)(hd:qO g c f (o6 tK ε) xs=some (ls.map .lst))(hk:k (ε.set n .no)=some (.at (.int (j:Int))))(hx:x (ε.set n .no)=some y)(hj:j<ls.length)(h2:(ls.getD j []).length<=lim):Xy n tK ts it g c f k x ε=some (.nx (ε.set n (.ow (.lst ((ls.set j (ls.getD j []++[y])).map .lst))))):=by unfold Xy;rw [h,yD,rB ⟨hc,hl,hn⟩,hd,yD,Ph,yD,hk,yD];show (x (ε.set n .no)).bind _=_;rw [hx,yD,uA];exact rB ⟨by omega,by omega,h2⟩
def wItL (a:W):WA:=λε Q=>a ε λx ε1=>∃ xs,x = .lst xs/\Q xs ε1
instance {a:W}[sa:SemW te a]:SemWI (XJ K te) (wItL a) where
 h:=λh _ _ _ _ _ _ rd _ k=>sa.h h rd λx ε1 v tG H1 h1 rd1 g1 r1=>by
  obtain ⟨xs,rfl,h2⟩:=h1;obtain ⟨p,vs,rfl,hp,r⟩:=tj.mp r1;exact ⟨p,rfl,⟨vs,sK.of (rd1.s3 _ _ hp)⟩,k xs ε1 _ tG H1 h2 rd1 g1 (BN hp r)⟩
end Mi
namespace Lw
open PySem L2 Mi
variable{CM CN CP:Addr}{L U:EF}{o:Option Out}{xa xb:YM}{tJ:EJ}{h to:Nat}{α β:Type}{a b:M}{H:Hp}{A3 A7 Av Aw Ax C R fI p:Addr}{j n:Int}{l r:EH}{vs:EB}{Q:VK}{E:XK}{ε:ME}{E4 J0 N5 S6:Tok}{q qual s x:Str}{xs:C5}{ks:ER}{x1 x2 y z:PV}{σ:St}{u:V}{m:Str×Int}{ps ss:C7}{ms:EX}{sp:Sp}{st:Stmt}{cd ct dc oc pm:G1}{an od:EG}{sl:EO}
variable {P:G3}{w:G5}{K:Fg}{mg:AB}{tM:Heap}{f:Addr}{fd:FuncData}
def l0:0<=lim:=by decide
def l1:1<=lim:=by decide
def l2:2<=lim:=by decide
def l3:3<=lim:=by decide
def l4:4<=lim:=by decide
def l5:5<=lim:=by decide
def l6:6<=lim:=by decide
def l7:7<=lim:=by decide
def l8:8<=lim:=by decide
def l9:9<=lim:=by decide
structure xO (h:Nat)(tJ:EJ):Prop where
 len:tJ.length=h+1
 row:∀ r∈tJ,r.length=h/\∀ v∈r,0<=v/\v<10 ^ 30
def rin (tJ:EJ)(f g:Int):Int:=((atI tJ f).bind λr=>atI r g).getD 0
def jz (tJ:EJ):Int->EH->Int
 |_,[]=>0
 |f,h::r=>rin tJ f h+jz tJ h r
def Im (e:tJ.length=h+1)(g:Int):rin tJ (-1) g=rin tJ (h:Int) g:=by
 unfold rin atI;rw [e];have e1:ixN (h+1) (-1)=some h:=by
  unfold ixN;rw [rq (by decide),rB (by omega)]
  congr 1
  omega
 have e2:ixN (h+1) (h:Int)=some h:=by
  unfold ixN;rw [rB (by omega),rB (by omega)]
  congr 1
 rw [e1,e2]
abbrev Wy:=Int×List Int
abbrev EZ:=List (List Wy)
variable{T:EZ}{onw ws:List Wy}
def jM (a b:Wy):Wy:=if b.1<a.1 then b else a
def ji (a b:Wy):Wy:=(a.1+b.1,a.2++b.2)
def thr (ws:List Wy)(k:Nat)(onw:List Wy):List Wy:=List.zipWith (λw m=>jM w (ji (ws.getD k (0,[])) m)) ws onw
def xD (T:EZ)(k:Nat):EZ:=T.map λrow=>thr row k (T.getD k [])
def jv (row:EH):List Wy:=row.mapIdx λi v=>(v,[(i:Int)])
def qm (tJ:EJ):Nat->List (List Wy)
 |0=>tJ.map jv
 |k+1=>xD (qm tJ k) k
def k8 (T:EZ)(f g:Nat):Wy:=(T.getD f []).getD g (0,[])
def wC (tJ:EJ)(h:Nat):EJ:=(qm tJ h).map λrow=>row.map (·.1)
structure Shp (h:Nat)(T:EZ):Prop where
 len:T.length=h+1
 row:∀ r∈T,r.length=h
def qo {l:List α}{i:Nat}{d:α}(h:i<l.length):l.getD i d=l[i]:=by rw [yy,yS h];rfl
def Shp.rowAt (S:Shp h T){f:Nat}(hf:f<=h):(T.getD f []).length=h:=by
 have hl:f<T.length:=by have:=S.len;omega
 rw [qo hl];exact S.row _ (yf hl)
def Dy {k:Nat}(h:ws.length=onw.length):(thr ws k onw).length=ws.length:=by unfold thr;rw [List.length_zipWith,h,Nat.min_self]
def Shp.step (S:Shp h T){k:Nat}(hk:k<h):Shp h (xD T k):=by refine ⟨by unfold xD;rw [yZ];exact S.len,λr hr=>?_⟩;unfold xD at hr;obtain ⟨row,hm,rfl⟩:=yB.mp hr;have e1:=S.row row hm;rw [Dy (by rw [e1,S.rowAt (by omega)]),e1]
def Qu (S:Shp h T){k f g:Nat}(hk:k<h)(hf:f<=h)(hg:g<h):k8 (xD T k) f g=jM (k8 T f g) (ji (k8 T f k) (k8 T k g)):=by
 have hl:f<T.length:=by have:=S.len;omega
 have hl2:f<(xD T k).length:=by unfold xD;rw [yZ];exact hl
 have e1:(xD T k).getD f []=thr (T.getD f []) k (T.getD k []):=by unfold xD;rw [qo (by rw [yZ];exact hl),List.getElem_map,qo hl]
 have r1:=S.rowAt hf;have r2:=S.rowAt (f:=k) (by omega);unfold k8;rw [e1,qo (by rw [Dy (by rw [r1,r2])];omega),qo (l:=T.getD f []) (i:=g) (by omega),qo (l:=T.getD k []) (i:=g) (by omega)];unfold thr;rw [List.getElem_zipWith]
def Shp.start (G:xO h tJ):Shp h (qm tJ 0):=by refine ⟨by show (tJ.map jv).length=_;rw [yZ];exact G.len,λr hr=>?_⟩;obtain ⟨row,hm,rfl⟩:=yB.mp hr;unfold jv;rw [List.length_mapIdx];exact (G.row row hm).1
theorem Shp.all {h:Nat}{tJ:EJ}(G:xO h tJ):∀ k,k<=h->Shp h (qm tJ k)
 |0,_=>Shp.start G
 |k+1,hk=>(Shp.all G k (by omega)).step (by omega)
def Vi (G:xO h tJ){f g:Nat}(hf:f<=h)(hg:g<h):rin tJ (f:Int) (g:Int)=(tJ.getD f []).getD g 0:=by
 have hl:f<tJ.length:=by have:=G.len;omega
 have e1:atI tJ (f:Int)=some tJ[f]:=zy (yS hl);have hg2:g<tJ[f].length:=by rw [(G.row _ (yf hl)).1];exact hg
 have e2:atI tJ[f] (g:Int)=some tJ[f][g]:=zy (yS hg2);unfold rin;rw [e1];show (atI tJ[f] (g:Int)).getD 0=_;rw [e2,qo hl,qo hg2];rfl
def Jl (G:xO h tJ){f g:Nat}(hf:f<=h)(hg:g<h):k8 (qm tJ 0) f g=(rin tJ (f:Int) (g:Int),[(g:Int)]):=by
 have hl:f<tJ.length:=by have:=G.len;omega
 have hl2:f<(tJ.map jv).length:=by rw [yZ];exact hl
 have hg2:g<tJ[f].length:=by rw [(G.row _ (yf hl)).1];exact hg
 rw [Vi G hf hg];unfold k8;show ((tJ.map jv).getD f []).getD g (0,[])=_;rw [qo hl2,List.getElem_map,qo (by unfold jv;rw [List.length_mapIdx];exact hg2),qo hl,qo hg2];unfold jv;rw [List.getElem_mapIdx]
def Io (G:xO h tJ){f g:Nat}(hf:f<=h)(hg:g<h):0<=rin tJ (f:Int) (g:Int):=by
 have hl:f<tJ.length:=by have:=G.len;omega
 have hg2:g<tJ[f].length:=by rw [(G.row _ (yf hl)).1];exact hg
 rw [Vi G hf hg,qo hl,qo hg2];exact ((G.row _ (yf hl)).2 _ (yf hg2)).1
theorem DW {tJ:EJ}:∀{xs ys:EH}{f g:Int},xs.getLast?=some g->jz tJ f (xs++ys)=jz tJ f xs+jz tJ g ys
 |[],_,_,_,e=>by simp at e
 |[x],ys,f,g,e=>by
  have e':x=g:=by simpa using e
  subst e';show rin tJ f x+jz tJ x ys=rin tJ f x+0+jz tJ x ys;omega
 |x::y::r,ys,f,g,e=>by
  have q:=DW (tJ:=tJ) (xs:=y::r) (ys:=ys) (f:=x) (g:=g) (by simpa [List.getLast?_cons_cons] using e);show rin tJ f x+jz tJ x (y::r++ys)=rin tJ f x+jz tJ x (y::r)+jz tJ g ys;rw [q];omega
structure WayOk (tJ:EJ)(h:Nat)(f g:Nat)(w:Wy):Prop where
 sum:w.1=jz tJ (f:Int) w.2
 last:w.2.getLast?=some (g:Int)
 ok:∀ x∈w.2,0<=x/\x<(h:Int)
structure FW (tJ:EJ)(h k:Nat)(T:EZ):Prop where
 way:∀ f g,f<=h->g<h->WayOk tJ h f g (k8 T f g)
 pos:∀ f g,f<=h->g<h->0<=(k8 T f g).1
 le:∀ f g,f<=h->g<h->(k8 T f g).1<=rin tJ (f:Int) (g:Int)
 tri:∀ j f g,j<k->f<=h->g<h->(k8 T f g).1<=(k8 T f j).1+(k8 T j g).1
 len:∀ f g,f<=h->g<h->(k8 T f g).2.length<=2 ^ k
def QB (a b:Wy):(jM a b=a/\a.1<=b.1)∨(jM a b=b/\b.1<a.1):=by
 unfold jM;by_cases h:b.1<a.1
 .rw [rB h];exact .inr ⟨rfl,h⟩
 .rw [rq h];exact .inl ⟨rfl,by omega⟩
def HF (a b:Wy):(jM a b).1<=a.1/\(jM a b).1<=b.1:=by
 rcases QB a b with ⟨e,q⟩|⟨e,q⟩
 .rw [e];exact ⟨Int.le_refl _,q⟩
 .rw [e];exact ⟨Int.le_of_lt q,Int.le_refl _⟩
def WayOk.join {f k g:Nat}{a b:Wy}(x:WayOk tJ h f k a)(y:WayOk tJ h k g b):WayOk tJ h f g (ji a b):=by
 refine ⟨?_,?_,λz hz=>?_⟩
 .show a.1+b.1=jz tJ f (a.2++b.2);rw [DW x.last,x.sum,y.sum]
 .show (a.2++b.2).getLast?=_;rw [List.getLast?_append,y.last];rfl
 .rcases yF.mp hz with q|q
  .exact x.ok z q
  .exact y.ok z q
def FW.start (G:xO h tJ):FW tJ h 0 (qm tJ 0):=by
 refine ⟨λf g hf hg=>?_,λf g hf hg=>?_,λf g hf hg=>?_,λj f g hj=>rp hj (by omega),λf g hf hg=>?_⟩
 .rw [Jl G hf hg];refine ⟨?_,rfl,λx hx=>?_⟩
  .show rin tJ f g=rin tJ f g+0;omega
  .have e:x=(g:Int):=by simpa using hx
   rw [e];omega
 .rw [Jl G hf hg];exact Io G hf hg
 .rw [Jl G hf hg];exact Int.le_refl _
 .rw [Jl G hf hg];exact yP 1
def FW.step {k:Nat}(S:Shp h T)(x:FW tJ h k T)(hk:k<h):FW tJ h (k+1) (xD T k):=by
 have kl:k<=h:=by omega
 have toK:∀ f,f<=h->(k8 (xD T k) f k).1=(k8 T f k).1:=λf hf=>by
  rw [Qu S hk hf hk];rcases QB (k8 T f k) (ji (k8 T f k) (k8 T k k)) with ⟨e,q⟩|⟨e,q⟩
  .rw [e]
  .have p:=x.pos k k kl hk;have q':(k8 T f k).1+(k8 T k k).1<(k8 T f k).1:=q;omega
 have ofK:∀ g,g<h->(k8 (xD T k) k g).1=(k8 T k g).1:=λg hg=>by
  rw [Qu S hk kl hg];rcases QB (k8 T k g) (ji (k8 T k k) (k8 T k g)) with ⟨e,q⟩|⟨e,q⟩
  .rw [e]
  .have p:=x.pos k k kl hk;have q':(k8 T k k).1+(k8 T k g).1<(k8 T k g).1:=q;omega
 have bound:∀ f g,f<=h->g<h->(k8 (xD T k) f g).1<=(k8 T f g).1/\(k8 (xD T k) f g).1<=(k8 T f k).1+(k8 T k g).1:=λf g hf hg=>by
  rw [Qu S hk hf hg];exact HF _ _
 have alt:∀ f g,f<=h->g<h->(k8 (xD T k) f g).1=(k8 T f g).1∨(k8 (xD T k) f g).1=(k8 T f k).1+(k8 T k g).1:=λf g hf hg=>by
  rw [Qu S hk hf hg];rcases QB (k8 T f g) (ji (k8 T f k) (k8 T k g)) with ⟨e,q⟩|⟨e,q⟩
  .rw [e];exact .inl rfl
  .rw [e];exact .inr rfl
 refine ⟨λf g hf hg=>?_,λf g hf hg=>?_,λf g hf hg=>Int.le_trans (bound f g hf hg).1 (x.le f g hf hg),λj f g hj hf hg=>?_,λf g hf hg=>?_⟩
 .rw [Qu S hk hf hg];rcases QB (k8 T f g) (ji (k8 T f k) (k8 T k g)) with ⟨e,_⟩|⟨e,_⟩
  .rw [e];exact x.way f g hf hg
  .rw [e];exact (x.way f k hf hk).join (x.way k g kl hg)
 .rcases alt f g hf hg with e|e
  .rw [e];exact x.pos f g hf hg
  .rw [e];have p1:=x.pos f k hf hk;have p2:=x.pos k g kl hg;omega
 .by_cases hjk:j=k
  .subst hjk;rw [toK f hf,ofK g hg];exact (bound f g hf hg).2
  .have hj':j<k:=by omega
   have jl:j<=h:=by omega
   have jh:j<h:=by omega
   have b:=bound f g hf hg;have t1:=x.tri j f g hj' hf hg;have t2:=x.tri j f k hj' hf hk;have t3:=x.tri j k g hj' kl hg;have t4:=x.pos k j kl jh;have t5:=x.pos j k jl hk;rcases alt f j hf jh with e1|e1<;>rcases alt j g jl hg with e2|e2<;>rw [e1,e2]<;>omega
 .rw [Qu S hk hf hg];have e:2 ^ (k+1)=2 ^ k+2 ^ k:=by rw [Nat.pow_succ];omega
  rcases QB (k8 T f g) (ji (k8 T f k) (k8 T k g)) with ⟨q,_⟩|⟨q,_⟩
  .rw [q];have:=x.len f g hf hg;omega
  .rw [q];have a1:=x.len f k hf hk;have a2:=x.len k g kl hg;show ((k8 T f k).2++(k8 T k g).2).length<=_;rw [yV];omega
theorem FW.all {h:Nat}{tJ:EJ}(G:xO h tJ):∀ k,k<=h->FW tJ h k (qm tJ k)
 |0,_=>FW.start G
 |k+1,hk=>FW.step (Shp.all G k (by omega)) (FW.all G k (by omega)) (by omega)
def Wr (G:xO h tJ):xO h (wC tJ h):=by
 have S:=Shp.all G h (yP _);have F:=FW.all G h (yP _);refine ⟨by unfold wC;rw [yZ];exact S.len,λr hr=>?_⟩;unfold wC at hr;obtain ⟨row,hm,rfl⟩:=yB.mp hr;refine ⟨by rw [yZ];exact S.row row hm,λv hv=>?_⟩;obtain ⟨w,hw,rfl⟩:=yB.mp hv;obtain ⟨f,hf,rfl⟩:=uD hm;obtain ⟨g,hg,rfl⟩:=uD hw;have hf':f<=h:=by have:=S.len;omega
 have hg':g<h:=by rw [<- S.row _ hm];exact hg
 have e:k8 (qm tJ h) f g=(qm tJ h)[f][g]:=by unfold k8;rw [qo hf,qo hg]
 have p:=F.pos f g hf' hg';have l:=F.le f g hf' hg';rw [e] at p l;refine ⟨p,Int.lt_of_le_of_lt l ?_⟩;have hl:f<tJ.length:=by have:=G.len;omega
 have hg2:g<tJ[f].length:=by rw [(G.row _ (yf hl)).1];exact hg'
 rw [Vi G hf' hg',qo hl,qo hg2];exact ((G.row _ (yf hl)).2 _ (yf hg2)).2
theorem Py {α:Type}[DecidableEq α]:∀{ms left:List α},ms.Nodup->(∀ x∈ms,x∈left)->ms.length<=left.length
 |[],_,_,_=>yd _
 |x::r,left,hn,hs=>by
  have hn':=yn.mp hn;have q:=Py (ms:=r) (left:=left.erase x) hn'.2 (λy hy=>(List.mem_erase_of_ne (λe=>hn'.1 (by rw [e] at hy;exact hy))).mpr (hs y (yO _ hy)));have hx:=hs x yR;rw [List.length_erase_of_mem hx] at q;have pos:0<left.length:=List.length_pos_of_mem hx;show r.length+1<=_;omega
def top (i:Nat):Stmt:=PySem.Challenge.pw_rinsework_k64_no_trayed_plans.main.body.getD i (.Pass ⟨0,0,0,0⟩)
abbrev YS:Stmt:=top 67
abbrev Vl:Stmt:=top 68
abbrev Yx:Stmt:=top 69
def Ut (h:H p=none)(o:HO):sL H (z9 H p o):=λb u q=>by rw [j3 (k9 q h)];exact q
def sizes {n:Nat}(h:n<=1000):n<=sizeLine:=uJ (Xb h)
def Uz:Sp:=λvs H Q _=>∃ c k:Int,vs=[.int c,.int k]/\0<=k/\k<=100/\∀ v:Int,0<=v->v<2147483648->Q (.int v) H
def Dc (K:Fg):Sp:=λvs H Q _=>∃(a:Addr)(ns:EH)(k:Int),vs=[.ref a,.int k]/\sK K H a (ns.map V.int)/\ns.length<=63/\0<=k/\k<=12 /\
 ∀(r:Addr)(n:Int)(H':Hp),H r=none->sL H H'->H' r=some (.lst [.int n])->Q (.ref r) H'
def sj:y8 ["row","many","digit"] ["row","many"] (j4 Yx):=u8
def RL (F:Fun K "_law_digit" "_law_digit" Yx f fd):sQ P w K mg tM v8 1 f fd ["row","many"] jT:=by
 refine F.ok sj (λvs H Q E h=>?_) (λtH A tL s H vs Q E hr h=>?_)
 .obtain ⟨a,n,m,rfl,_⟩:=h;rfl
 obtain ⟨a,n,m,rfl,hH,hm,q⟩:=h;refine ⟨_,(j6 (qq (i:=2) sj.nd rfl (Or.inl rfl) (u4 wK (JZ (Wh K) (pv 0) z7 (λ_ _=>rfl)) (pv 1)))
  (j6 (SI (u4 PL (JZ (Wh K) (pv 0) z7 (λ_ _=>rfl)) (pv 1)) (Ss (pv 0) z7 Fz))
  (j9 (u6 (pv 2))))),?_⟩
 refine ⟨_,rfl,a,_,0,_,rfl,rfl,sK.of hH,rfl,_,rfl,n,m,rfl,rfl,hm.1,?_⟩;refine ⟨_,rfl,a,_,0,_,rfl,rfl,sK.of hH,rfl,_,rfl,n,m,rfl,rfl,hm,?_⟩;refine ⟨_,rfl,a,_,0,0,rfl,rfl,hH,rfl,?_⟩;exact ⟨_,rfl,q⟩
def rX:y8 ["cell","k","stir"] ["cell","k"] (j4 YS):=u8
def Ti (F:Fun K "_law_mixed" "_law_mixed" YS f fd):sQ P w K mg tM v8 1 f fd ["cell","k"] Uz:=by
 refine F.ok rX (λvs H Q E h=>?_) (λtH A tL s H vs Q E hr h=>?_)
 .obtain ⟨c,k,rfl,_⟩:=h;rfl
 obtain ⟨c,k,rfl,k0,k1,q⟩:=h;refine ⟨_,(j6 (qq (i:=2) rX.nd rfl (Or.inl rfl) (u4 wK (u4 QP (u4 op_add (u4 op_add (u4 wK (pv 0) z7) (u4 QP z7 (pv 1))) z7) z7) z7))
  (j9 (u6 (u4 wK (u4 QP (u4 wK (u4 QP (pv 2) (pv 2)) z7) z7) z7)))),?_⟩
 refine ⟨_,rfl,_,_,rfl,rfl,(by show (0:Int)<1000000007;decide),_,rfl,_,_,rfl,rfl,.inl ⟨by decide,by decide⟩,_,_,rfl,rfl,_,_,rfl,rfl,_,_,rfl,rfl,.inr ⟨by decide,by decide⟩,_,_,rfl,rfl,(by show (0:Int)<2147483647;decide),?_⟩;generalize hone:(c % 1000000007+7919*k+1)*48271 % 2147483647=one;have o0:0<=one:=by rw [<- hone];exact ya _ (by decide)
 have o1:one<2147483647:=by rw [<- hone];exact yi _ (by decide)
 refine ⟨_,rfl,_,rfl,_,_,rfl,rfl,.inl ⟨by omega,by omega⟩,_,_,rfl,rfl,(by show (0:Int)<2147483629;decide),_,_,rfl,rfl,.inr ⟨by decide,by decide⟩,_,_,rfl,rfl,(by show (0:Int)<2147483647;decide),?_⟩;exact q _ (ya _ (by decide)) (Int.lt_trans (yi _ (by decide)) (by decide))
def MM:Int:=10 ^ (60:Int).toNat
def ZS:0<MM:=by decide +kernel
def KS:vB 10 60:=⟨by decide,by decide,by decide⟩
def KR:vB 10 18:=⟨by decide,by decide,by decide⟩
def MH:Builtin.Int.intBits MM<=2 ^ 20:=by decide +kernel
def FN {M c r:Int}{i:Nat}(hM:0<M)(h0:0<=c)(h:c<M ^ i)(r0:0<=r)(r1:r<M):0<=c*M+r/\c*M+r<M ^ (i+1):=by
 have e:M ^ (i+1)=M ^ i*M:=Int.pow_succ M i;have h1:(c+1)*M<=M ^ i*M:=uj (by omega) (Int.le_of_lt hM);have h2:(c+1)*M=c*M+M:=by rw [Int.add_mul,Int.one_mul]
 have h3:0<=c*M:=Int.mul_nonneg h0 (Int.le_of_lt hM);rw [e];omega
def Mo:∀ i:_root_.Fin 14,(MM ^ (i:Nat)).toNat<2 ^ 2700:=by decide +kernel
def MI {c:Int}{i:Nat}(hi:i<=13)(h0:0<=c)(h:c<MM ^ i):Builtin.Int.intBits c<=2 ^ 20:=by
 obtain ⟨n,rfl⟩:=uV h0;have q:=Mo ⟨i,by omega⟩;have q2:n<2 ^ 2700:=by have q':(MM ^ i).toNat<2 ^ 2700:=q;omega
 exact yj (PyProof.Rows.intBits_le (by rw [Int.natAbs_natCast];exact q2)) (by decide)
def Iw:∀ i:_root_.Fin 13,∀ j:_root_.Fin 64,Builtin.Range.small ((i:Nat):Int) ((j:Nat):Int) 5=true:=by decide +kernel
def Ye {i:Int}:Builtin.Range.rangeSize i j 5=if i<j then (j-i-1) / 5+1 else 0:=rfl
def Iu {i:Int}(h0:0<=i)(h1:i<=12)(h2:0<=j)(h3:j<=63):0<=Builtin.Range.rangeSize i j 5/\Builtin.Range.small i j 5=true/\vx i j 5<=13/\∀ t:Nat,t<vx i j 5->i+t*5<j:=by
 refine ⟨?_,?_,?_,λt ht=>?_⟩
 .rw [Ye];split<;>omega
 .have q:=Iw ⟨i.toNat,by omega⟩ ⟨j.toNat,by omega⟩;have e1:((i.toNat:Nat):Int)=i:=by omega
  have e2:((j.toNat:Nat):Int)=j:=by omega
  have q':Builtin.Range.small ((i.toNat:Nat):Int) ((j.toNat:Nat):Int) 5=true:=q;rw [e1,e2] at q';exact q'
 .unfold vx;rw [Ye];split<;>omega
 .unfold vx at ht;rw [Ye] at ht;split at ht<;>omega
def Mx {ns:EH}{k:Int}(h0:0<=k)(h:k<(ns.length:Int)):∃ v:Int,atI (ns.map V.int) k=some (.int v):=by
 have hk:k.toNat<ns.length:=by omega
 have ek:k=((k.toNat:Nat):Int):=by omega
 have q:atI (ns.map V.int) ((k.toNat:Nat):Int)=some (.int ns[k.toNat]):=zy (by rw [yM,yS hk]<;>rfl);rw [<- ek] at q;exact ⟨_,q⟩
def rN:y8 ["script","k","cell","j","found"] ["script","k"] (j4 Vl):=u8
def Tw (F:Fun K "_law_stream" "_law_stream" Vl f fd)(Q3:Fn P w K mg tM 1 "_law_mixed" ["cell","k"] Uz)(Az:mg "len"=none)(A4:mg "range"=none)(N1:mg "sum"=none):sQ P w K mg tM v8 2 f fd ["script","k"] (Dc K):=by
 refine F.ok rN (λvs H Q E h=>?_) (λtH A tL s H vs Q E hr h=>?_)
 .obtain ⟨a,ns,k,rfl,_⟩:=h;rfl
 obtain ⟨a,ns,k,rfl,hS,h63,k0,k1,q⟩:=h;refine ⟨_,(j6 (qq (i:=2) rN.nd rfl (Or.inl rfl) z7)
  (j6 (zi PassesOwn.never rfl (Sx rfl A4 (z8 (pv 1) (z8 (p7 (KH K) rfl Az rl (z8 (pv 0) w9)) (z8 z7 w9)))) (gW 3 rN.nd)
   (j9 (qq (i:=2) rN.nd rfl (Or.inl rfl) (u4 op_add (u4 JV (pv 2) (u4 QR z7 z7)) (u4 wK (JZ (Wh K) (pv 0) (pv 3) (λ_ _=>rfl)) (u4 QR z7 z7))))))
  (j6 (qb (qc JU (pv 2) (u4 QR z7 z7) (m7 _)) (j9 (u6 (m8 (z8 (pv 2) w9)))) qi)
  (j6 (qq (i:=2) rN.nd rfl (Or.inl rfl) (u4 op_add (pv 2) (p7 (Lm (K:=K) rfl rfl) rfl N1 VC (z8 (qu (N':=["one"]) (tK:=[none]) (t6 rfl rfl rfl) rfl (i7 (K:=K) rfl (pv 0)) (λ_ _ _ _ _ _=>(tO (i:=0) ["one"])) (λ_ _ _ _ _ _=>i9) (λ_ _ _ _ _ _=>(u4 wK (pv 0) (u4 QR z7 z7)))) w9))))
  (j6 (qq (i:=4) rN.nd rfl (Or.inl rfl) z7)
  (j6 (zi PassesOwn.never rfl (vq rfl A4 (z8 z7 w9)) (gW 3 rN.nd)
   (j9 (qq (i:=4) rN.nd rfl (Or.inl rfl) (u4 op_add (u4 QP (pv 4) z7) (fW Q3 hr (z8 (u4 op_add (u4 op_add (pv 2) (u4 QP z7 (pv 1))) (p7 (KH K) rfl Az rl (z8 (pv 0) w9))) (z8 (pv 3) w9)))))))
  (j9 (u6 (m8 (z8 (u4 PL (pv 4) z7) w9)))))))))),?_⟩
 have hl:(((ns.map V.int).length:Nat):Int)=(ns.length:Int):=by rw [yZ]
 obtain ⟨z1,z2,z3,z4⟩:=Iu (i:=k) (j:=(((ns.map V.int).length:Nat):Int)) k0 k1 (by omega) (by omega);refine ⟨_,rfl,_,rfl,a,_,rfl,.inl hS,k,_,5,rfl,⟨by decide,by decide⟩,z1,z2,Nf (λi σ H2=>∃(c:Int)(j:EY),σ=[some (.ref a),some (.int k),some (.int c),j,none]/\H2=H/\0<=c/\c<MM ^ i)
  ⟨0,none,rfl,rfl,Int.le_refl 0,by decide⟩ ?_ ?_⟩
 .rintro i σ H2 hi ⟨c,j,rfl,rfl,c0,c1⟩;obtain ⟨v,hv⟩:=Mx (ns:=ns) (k:=k+i*5) (by omega) (by have:=z4 i hi;omega);refine ⟨_,rfl,_,_,rfl,rfl,KS,_,_,rfl,rfl,⟨MI (by omega) c0 c1,MH⟩,_,rfl,_,rfl,a,_,_,_,rfl,rfl,hS,hv,
   _,_,rfl,rfl,KS,_,_,rfl,rfl,ZS,_,_,rfl,rfl,?_⟩
  have sb:=FN (i:=i) ZS c0 c1 (ya v (Ne.symm (Int.ne_of_lt ZS))) (yi v ZS);exact ⟨_,_,rfl,rfl,sb.1,sb.2⟩
 .rintro σ H2 ⟨c,j,rfl,rfl,c0,c1⟩;refine ⟨_,rfl,_,_,rfl,rfl,KR,_,_,rfl,rfl,_,rfl,ite2 (λ_=>?_) (λ_=>?_)⟩
  .refine ⟨_,rfl,(by show 1<=sizeLine;decide),λp hp=>?_⟩;exact q p c _ hp (Ut hp _) u5
  .refine ⟨_,rfl,_,rfl,a,rfl,⟨_,hS⟩,KQ (K:=K) (a:=a) (xs:=ns.map V.int) (λi ys H3=>H3=H2/\∃ ms:EH,ys=ms.map V.int/\ms.length=i) ⟨rfl,[],rfl,rfl⟩ ?_ ?_ ?_ ?_⟩
   .rintro i ys H3 hi ⟨_,ms,rfl,rfl⟩;rw [yZ] at hi ⊢;exact sizes (by omega)
   .rintro i ys H3 hi ⟨rfl,_⟩;exact hS
   .rintro i x ys H3 R hx ⟨rfl,ms,rfl,rfl⟩ hR;rw [yM] at hx;obtain ⟨v,hv,rfl⟩:=yC.mp hx;refine ⟨Wk.one rfl,⟨_,rfl,_,_,rfl,rfl,KR,_,_,rfl,rfl,(by show (0:Int)<10 ^ (18:Int).toNat;decide),?_⟩⟩;exact hR _ _ ⟨rfl,ms++[_],by rw [yE];rfl,by rw [yV];rfl⟩
   .rintro ys H3 ⟨rfl,ms,rfl,_⟩ D hD;refine ⟨D,ms,rfl,sK.of u5,_,_,rfl,rfl,?_⟩;have g1:sL H3 (z9 H3 D (.lst (ms.map V.int))):=Ut hD _;refine ⟨12,rfl,by decide,by decide,BD (n:=12) (λi σ H4=>∃(f:Int)(j:EY),σ=[some (.ref a),some (.int k),some (.int (c+ms.sum)),j,some (.int f)]/\H4=z9 H3 D (.lst (ms.map V.int))) ⟨0,_,rfl,rfl⟩ ?_ ?_⟩
    .rintro i σ H4 hi ⟨f,j,rfl,rfl⟩;refine ⟨_,rfl,_,_,rfl,rfl,.inr ⟨by decide,by decide⟩,_,rfl,_,rfl,_,_,rfl,rfl,.inl ⟨by decide,by decide⟩,_,_,rfl,rfl,_,rfl,a,_,rfl,.inl (g1.seq hS),_,_,rfl,rfl,_,rfl,_,_,rfl,by omega,by omega,λv v0 v1=>?_⟩;exact ⟨_,_,rfl,rfl,_,_,rfl,rfl⟩
    .rintro σ H4 ⟨f,j,rfl,rfl⟩;refine ⟨_,rfl,_,_,rfl,rfl,⟨by decide,by decide +kernel⟩,(by show 1<=sizeLine;decide),λp hp=>?_⟩;exact q p (f / 64) _ (g1.free hp) (g1.trans (Ut hp _)) u5
def wS (K:Fg):C5->Prop:=λxs=>∃(ns:EH)(k:Int),xs=[scr K ns,.at (.int k)]/\ns.length<=63/\0<=k/\k<=12
def we:C5->PV->Prop:=λ_ y=>∃ n:Int,y = .lst [.at (.int n)]
def FO (h:spN (wS K) we vs H Q E):Dc K vs H Q E:=by obtain ⟨Hs,xs,sm,r,⟨ns,k,rfl,h63,k0,k1⟩,q⟩:=h;obtain ⟨v,w,rfl,p1,p2⟩:=tz.mp r;obtain ⟨u,z,rfl,p3,p4⟩:=tz.mp p2;cases tu.mp p4;cases tD.mp p3;obtain ⟨a,rfl,hS⟩:=Fu sm p1;exact ⟨a,ns,k,rfl,hS,h63,k0,k1,λb n H' nb g e=>q _ b Hs H' ⟨n,rfl⟩ ⟨.refl _,g,sm.trans g,λ_ _ z=>z⟩ nb (sm.free nb) ⟨_,e,.one (tD.mpr rfl)⟩⟩
def Tv (F:Fun K "_law_stream" "_law_stream" Vl f fd)(Q3:Fn P w K mg tM 1 "_law_mixed" ["cell","k"] Uz)(Az:mg "len"=none)(A4:mg "range"=none)(N1:mg "sum"=none):sQ P w K mg tM v8 2 f fd ["script","k"] (spN (wS K) we):=(Tw F Q3 Az A4 N1).imp λ_ _ _ _ h=>FO h
def qF:Int:=10 ^ 30
def HI {k:Int}(h0:0<=k)(h1:k<=2*qF):k.natAbs.log2<9000:=by
 have hb:(2*qF).toNat<2 ^ 9000:=yx (show (2*qF).toNat<2 ^ 110 by decide +kernel) (Nat.pow_le_pow_right (by decide) (by decide));have:k.natAbs<2 ^ 9000:=by omega
 by_cases hz:k.natAbs=0
 .rw [hz];decide
 .exact (Nat.log2_lt hz).mpr this
def vH {k:Int}(h0:0<k)(h1:k<=2*qF):Xj n k:=⟨h0,HI (by omega) h1⟩
def Qe:(1000:Int)<=qF:=by decide +kernel
def qK (tJ:EJ):PV:= .lst (tJ.map λr=> .lst (r.map λn=> .at (.int n)))
def wW {a:MA}{k:Nat}(h:a ε=some [.at (.int (k:Int))])(hk:k<=lim):zQ a ε=some (zK 0 k):=by have hlim:(lim:Int)=1000000:=rfl;have hl:lim=1000000:=rfl;unfold zQ;rw [h];show (if -(lim:Int)<=(k:Int)/\(k:Int)<=(lim:Int) then some (zK 0 (k:Int).toNat) else none)=_;rw [rB ⟨by omega,by omega⟩,uA]
def y6 (ss:C7):C5:=ss.map λs=> .at (.str s)
def xx (ss:C7):(y6 ss).length=ss.length:=yZ _
def Low (x:Str):Prop:=∀ c∈x.cps.toList,97<=c/\c<=122
structure Qi (x:Str):Prop where
 low:Low x
 one:1<=x.length
 eight:x.length<=8
 nq:x ≠ "qx"
theorem Xv:∀ ss:C7,ats (y6 ss)=some (ss.map V.str)
 |[]=>rfl
 |s::ss=>by
  show (ats (y6 ss)).map (V.str s::·)=_;rw [Xv ss];rfl
theorem BI (x:Str):∀ ss:C7,inV (.str x) (ss.map V.str)=decide (x∈ss)
 |[]=>by simp [inV]
 |s::ss=>by
  have ih:=BI x ss;unfold inV at ih ⊢;rw [yH,ph,ih];have e:ql (.str s) (.str x)=decide (s=x):=rfl;rw [e];by_cases h:s=x
  .subst h;simp
  .simp [h,Ne.symm h]
def Jt (ss:C7):(ss.map V.str).all p5=true:=by rw [uY];intro v hv;obtain ⟨s,_,rfl⟩:=yB.mp hv;rfl
def Wf (neg:Bool)(x:Str)(ss:C7):pIn neg (.at (.str x)) (.lst (y6 ss))=some (.at (.bl (if neg then !decide (x∈ss) else decide (x∈ss)))):=by show (ats (y6 ss)).bind _=_;rw [Xv,yD,rB ⟨rfl,Jt ss⟩,BI]
structure Cl where
 name:Str
 hue:Nat
 len:Int
 due:Int
 wt:Int
abbrev C6:=List (List Cl)
variable{A B D:C6}
abbrev EE:=List Cl
variable{t1 t2:EE}{c:Cl}{cs ns t:EE}{T':C6}
def Cl.pv (c:Cl):PV:= .tup [.at (.str c.name),.at (.int c.hue),.at (.int c.len),.at (.int c.due),.at (.int c.wt)]
structure Cl.Ok (h:Nat)(c:Cl):Prop where
 nm:Qi c.name
 hu:c.hue<h
 l1:1<=c.len
 l2:c.len<=qF
 d1:-qF<=c.due
 d2:c.due<=qF
 w1:1<=c.wt
 w2:c.wt<=qF
theorem Pl {α β:Type}{f:α->β}(hf:∀ x y,f x=f y->x=y):∀{a b:List α},a.map f=b.map f->a=b
 |[],[],_=>rfl
 |[],_::_,h=>by cases h
 |_::_,[],h=>by cases h
 |x::a,y::b,h=>by
  rw [yH,yH] at h;injection h with h1 h2;rw [hf x y h1,Pl hf h2]
theorem VT {α β:Type}(f:α->β):∀(l:List α)(i:Nat),(l.map f).eraseIdx i=(l.eraseIdx i).map f
 |[],_=>rfl
 |_::_,0=>rfl
 |x::l,i+1=>by simp [VT f l i]
theorem WO {α:Type}:∀{ss:List α}{j:Nat}(h:j<ss.length),(ss[j]::ss.eraseIdx j).Perm ss
 |x::ss,0,_=>List.Perm.refl _
 |x::ss,j+1,h=>by
  have hj:j<ss.length:=by simpa using h
  have ih:=WO hj;show (ss[j]::x::ss.eraseIdx j).Perm (x::ss);exact (List.Perm.swap _ _ _).trans (ih.cons x)
structure Dr where
 h:Nat
 tJ:List EH
 cls:List Cl
 last:Int
 time:Int
variable{d e:Dr}
def Dr.pv (d:Dr):PV:= .tup [qK d.tJ,.lst (d.cls.map Cl.pv),.at (.int d.last),.at (.int d.time)]
structure Dr.Ok (d:Dr):Prop where
 h1:1<=d.h
 h4:d.h<=4
 rin:xO d.h d.tJ
 ten:d.cls.length<=10
 cl:∀ c∈d.cls,c.Ok d.h
 nd:(d.cls.map Cl.name).Nodup
 l1:-1<=d.last
 l2:d.last<d.h
 t1:0<=d.time
 t2:d.time<60*qF
def SU {a b:Cl}(h:a.pv=b.pv):a=b:=by cases a;cases b;unfold Cl.pv at h;injection h with h;simp only [List.cons.injEq,PV.at.injEq,V.str.injEq,V.int.injEq] at h;obtain ⟨h1,h2,h3,h4,h5,_⟩:=h;have h2:=Int.ofNat.inj h2;subst h1 h2 h3 h4 h5;rfl
def Bg (h:d.pv=e.pv):d.cls=e.cls:=by unfold Dr.pv at h;injection h with h;injection h with _ h;injection h with h _;injection h with h;exact Pl (λ_ _=>SU) h
def T26:Int:=10 ^ 26
def T27:Int:=10 ^ 27
def Ts:T27=10*T26/\qF=1000*T27/\1000<T26:=by decide +kernel
def pow26:pPow (.at (.int 10)) (.at (.int 26))=some (.at (.int T26)):=by show (if vB 10 26 then some (V.int (10 ^ (26:Int).toNat)) else none).map PV.at=_;rw [rB ⟨by decide,by decide,by decide⟩];rfl
def pow27:pPow (.at (.int 10)) (.at (.int 27))=some (.at (.int T27)):=by show (if vB 10 27 then some (V.int (10 ^ (27:Int).toNat)) else none).map PV.at=_;rw [rB ⟨by decide,by decide,by decide⟩];rfl
def KB (h0:-qF<=n)(h1:n<=qF):Builtin.Int.intBits n<=2 ^ 20:=by
 have hb:qF<2 ^ 120:=by decide +kernel
 exact yj (PyProof.Rows.intBits_le (k:=120) (by omega)) (by decide)
def WC {a b:Int}(a0:-qF<=a)(a1:a<=qF)(b0:-qF<=b)(b1:b<=qF):Zl (.at (.int a)) (.at (.int b))=some (.at (.int (a*b))):=by show (if Xk a b then some (V.int (a*b)) else none).map PV.at=_;rw [rB ⟨KB a0 a1,KB b0 b1⟩];rfl
def zW:C5->Prop:=λxs=>∃ b:Bool,xs=[.at (.bl b)]
def jb:C5->PV->Prop:=λ_ y=>∃ n:Int,y = .at (.int n)/\0<=n/\n<10*T27
abbrev YX:Stmt:=top 70
abbrev GX (K:Fg):WS:=(sH (qw 2 (xg 0 (wP (dC (.int 10)))))
  (sH (zO (wPT (r9 (x9 1))) (qw 2 (xU b9 (wP (z5 Zl (x9 2) (z5 pPow (dC (.int 10)) (dC (.int 27))))) (xg 0 (wP (dC (.int 3)))))) jy)
  (zm (wP (x6 2)))))
def rT:y8 ["row","great","number"] ["row","great"] (j4 YX):=u8
def Nt:∀ xs,zW xs->xs.length+1=(["row","great"]:C7).length:=by rintro xs ⟨b,rfl⟩;rfl
def NC :∀ xs n,zW xs->GX K (m6 n::xs.map .sh++List.replicate ((["row","great","number"]:C7).length-(xs.length+1)) .no) (λ_=>False) λy ε=>jb xs y/\zN 0 ε:=by
 rintro xs n ⟨b,rfl⟩;have hB:=Qe;obtain ⟨t1,t2,t3⟩:=Ts;refine ⟨⟨n,rfl⟩,_,rfl,n,10,rfl,rfl,⟨by decide,by decide⟩,?_⟩;have a0:0<=n % 10:=ya _ (by decide);have a1:n % 10<10:=yi _ (by decide);cases b with
 |false=>exact wc rfl ⟨_,rfl,⟨_,rfl,a0,by omega⟩,_,rfl⟩
 |true =>
  have b0:0<=n / 10 % 3:=ya _ (by decide);have b1:n / 10 % 3<3:=yi _ (by decide);refine Xi rfl ⟨_,y7 rfl (y7 rfl rfl pow27) (WC (a:=n % 10) (b:=T27) (by omega) (by omega) (by omega) (by omega)),⟨_,rfl⟩,_,rfl,n / 10,3,rfl,rfl,⟨by decide,by decide⟩,_,rfl,_,rfl,⟨_,rfl,?_,?_⟩,_,rfl⟩
  .generalize n % 10=p at a0 a1 ⊢;have:=Int.mul_nonneg a0 (show 0<=T27 by omega);omega
  .generalize n % 10=p at a0 a1 ⊢;have:p*T27<=9*T27:=uj (by omega) (by omega);omega
def Tn (F:Fun K "_law_number" "_law_number" YX f fd)(A0:Fn P w K mg tM 1 "_law_digit" ["row","many"] jT):sQ P w K mg tM v8 2 f fd ["row","great"] (spD zW jb) :=
 okD (k:=1) (b:=GX K) F rT Nt (λtH A tL s H E hr=>⟨_,(@j6 _ _ _ _ _ (@qq _ _ 2 _ _ _ _ rT.nd rfl (Or.inl rfl) (qR A0 hr (by decide) rfl (@z8 _ _ _ _ _ (pv 0) (@z8 _ _ _ _ _ z7 w9 (by rfl)) (by rfl))) (by rfl) (.inl rfl))
  (@j6 _ _ _ _ _ (qb (xq K rfl (pv 1) (λ_=>rfl)) (@j9 _ _ _ (@qq _ _ 2 _ _ _ _ rT.nd rfl (Or.inl rfl) (u4 (t0 K) (u4 (JV) (pv 2) (u4 (QR) z7 z7)) (qR A0 hr (by decide) rfl (@z8 _ _ _ _ _ (pv 0) (@z8 _ _ _ _ _ z7 w9 (by rfl)) (by rfl)))) (by rfl) (.inl rfl))) qi)
  (@j9 _ _ _ (u6 (pv 2))))),
  (by repeat' first|infer_instance|(refine @Mi.instSemWSTSeqWSeq _ _ _ _ ?_ ?_)|(apply @Mi.instSemWSTForWForOfSemWIOfSemWG))⟩) NC
def jS (r:EH):PV:= .lst (r.map λn=> .at (.int n))
def Zv:C5->Prop:=λxs=>∃(h:Nat)(b:Bool),xs=[.at (.int h),.at (.bl b)]/\1<=h/\h<=4
def Ql:C5->PV->Prop:=λxs y=>∃(h:Nat)(b:Bool)(tJ:EJ),xs=[.at (.int h),.at (.bl b)]/\y=qK tJ/\xO h tJ
abbrev Ub:Stmt:=top 71
abbrev Kc (K:Fg):WS:=(sH (qw 3 (xg 0 (wP (dC (.int 4)))))
  (sH (Vq 4 (p6 x8))
  (sH (wFor (wIp (zQ (q0 (z5 b9 (x9 1) (dC (.int 1))) x8))) (w6 5) (sH (qw 6 (wa [none,some 0,some 2] [0] (wIp (zQ (q0 (x6 1) x8))) (w6 0) vz (zw 1 zW jb (p0 (wP (x6 2)) qS))))
  (sH (zO (wPT (dT (z5 i5 (x9 3) (dC (.int 0))))) (qw 6 (wP (z5 pRep (p6 (q0 (dC (.int 0)) x8)) (x9 1)))) jy)
  (sH (zO (wPT (dT (z5 i5 (x9 3) (dC (.int 1))))) (qw 6 (wa [none,some 0] [0] (wIp (b8 (x6 6))) (w6 0) vz (xU Zl (wP (x6 0)) (xg 1 (wP (dC (.int 2))))))) jy)
  (zM 4 (wP (x6 6)))))))
  (wFz 4 (zm (wP (x6 4)))))))
def rO:y8 ["row","hues","great","way","found","first","numbers"] ["row","hues","great"] (j4 Ub):=u8
def Nw:∀ xs,Zv xs->xs.length+1=(["row","hues","great"]:C7).length:=by rintro xs ⟨h,b,rfl,_⟩;rfl
structure Qn (h:Nat)(r:EH):Prop where
 len:r.length=h
 lo:∀ v∈r,0<=v/\v<10 ^ 30
def NF :∀ xs n,Zv xs->Kc K (m6 n::xs.map .sh++List.replicate ((["row","hues","great","way","found","first","numbers"]:C7).length-(xs.length+1)) .no) (λ_=>False) λy ε=>Ql xs y/\zN 0 ε:=by
 rintro xs n ⟨h,b,rfl,h1,h4⟩;have hl:lim=1000000:=rfl;obtain ⟨t1,t2,t3⟩:=Ts;have eB:qF=10 ^ 30:=rfl;refine ⟨⟨n,rfl⟩,_,rfl,n,4,rfl,rfl,⟨by decide,by decide⟩,_,rfl,?_⟩;generalize n % 4=way;generalize n / 4=n1;refine ⟨zK 0 (h+1),wW rfl (by omega),?_⟩;refine QD (λrest ε=>∃(m:Int)(tJ:EJ)(s5 s6:sN),tJ.length+rest.length=h+1/\(∀ r∈tJ,Qn h r)/\ε=[m6 m,.sh (.at (.int (h:Int))),.sh (.at (.bl b)),.sh (.at (.int way)),.ow (.lst (tJ.map jS)),s5,s6]) ?_ ?_ _ _ ⟨n1,[],_,_,by rw [vY];simp,(λ_ z=>nomatch z),rfl⟩
 .rintro ε ⟨m,tJ,s5,s6,e1,e2,rfl⟩;exact ⟨_,rfl,⟨h,b,tJ,rfl,rfl,by simpa using e1,λr hr=>⟨(e2 r hr).len,(e2 r hr).lo⟩⟩,m,rfl⟩
 .rintro x rest ε ⟨m,tJ,s5,s6,e1,e2,rfl⟩;simp only [yJ] at e1;refine ⟨_,rfl,zK 0 h,wW rfl (by omega),rfl,by rw [vY];omega,?_⟩;have app:∀(m:Int)(r:EH),Qn h r->zM 4 (wP (x6 6)) [m6 m,.sh (.at (.int (h:Int))),.sh (.at (.bl b)),.sh (.at (.int way)),.ow (.lst (tJ.map jS)),.sh x,.sh (jS r)] (λε=>∃(m:Int)(tJ:EJ)(s5 s6:sN),tJ.length+rest.length=h+1/\(∀ r∈tJ,Qn h r)/\ε=[m6 m,.sh (.at (.int (h:Int))),.sh (.at (.bl b)),.sh (.at (.int way)),.ow (.lst (tJ.map jS)),s5,s6]) (λy ε=>Ql [.at (.int h),.at (.bl b)] y/\zN 0 ε):=by
   intro m r hr;refine ⟨⟨_,rfl⟩,_,rfl,_,rfl,by rw [yZ];omega,m,tJ++[r],.sh x,.sh (jS r),by rw [yV];simp;omega,?_,by rw [yE];rfl⟩;intro q hq;rcases yF.mp hq with hq|hq
   ·exact e2 q hq
   ·rw [yU.mp hq];exact hr
  have if1:∀(m:Int)(r:EH),Qn h r->(sH (zO (wPT (dT (z5 i5 (x9 3) (dC (.int 1))))) (qw 6 (wa [none,some 0] [0] (wIp (b8 (x6 6))) (w6 0) vz (xU Zl (wP (x6 0)) (xg 1 (wP (dC (.int 2))))))) jy) (zM 4 (wP (x6 6)))) [m6 m,.sh (.at (.int (h:Int))),.sh (.at (.bl b)),.sh (.at (.int way)),.ow (.lst (tJ.map jS)),.sh x,.sh (jS r)] (λε=>∃(m:Int)(tJ:EJ)(s5 s6:sN),tJ.length+rest.length=h+1/\(∀ r∈tJ,Qn h r)/\ε=[m6 m,.sh (.at (.int (h:Int))),.sh (.at (.bl b)),.sh (.at (.int way)),.ow (.lst (tJ.map jS)),s5,s6]) (λy ε=>Ql [.at (.int h),.at (.bl b)] y/\zN 0 ε):=by
   intro m r hr;by_cases hw:way=1
   .subst hw;refine Xi (i8 (v:=true) rfl) ⟨_,rfl,rfl,by rw [yZ,hr.len];omega,?_⟩;refine Jb (λtodo zs ε=>∃(m:Int)(done left:EH),ε=[.no,m6 m]/\todo=left.map (λn=>PV.at (.int n))/\zs=done.map (λn=>PV.at (.int n))/\done.length+left.length=h/\(∀ v∈left,0<=v/\v<10 ^ 30)/\∀ v∈done,0<=v/\v<10 ^ 30) ?_ ?_ _ [] _ ⟨m,[],r,rfl,rfl,rfl,by rw [hr.len];simp,hr.lo,(λ_ z=>nomatch z)⟩
    .rintro zs ε ⟨m2,done,left,rfl,z,rfl,g1,g2,g3⟩;have e:left=[]:=by cases left with|nil=>rfl|cons _ _=>cases z
     subst e;exact ⟨λ_=>⟨_,rfl⟩,app _ done ⟨by simpa using g1,g3⟩⟩
    .rintro x2 rest2 zs ε ⟨m2,done,left,rfl,z,rfl,g1,g2,g3⟩;cases left with
     |nil=>cases z
     |cons v left =>
      rw [yH] at z;injection z with z1 z2;subst z1;simp only [yJ] at g1;have v0:=g2 v yR;rw [<- eB] at v0;have c0:0<=m2 % 2:=ya _ (by decide);have c1:m2 % 2<2:=yi _ (by decide);refine ⟨_,rfl,_,rfl,⟨_,rfl⟩,_,rfl,m2,2,rfl,rfl,⟨by decide,by decide⟩,_,WC (a:=v) (b:=m2 % 2) (by omega) (by omega) (by omega) (by omega),m2 / 2,done++[v*(m2 % 2)],left,rfl,z2,by rw [yE];rfl,by rw [yV];simp;omega,λw hw=>g2 w (yO _ hw),λw hw=>?_⟩;rcases yF.mp hw with hw|hw
      .exact g3 w hw
      .rw [yU.mp hw,<- eB];have:m2 % 2=0∨m2 % 2=1:=by omega
       rcases this with e|e<;>rw [e]<;>omega
   .refine wc (i8 (v:=false) ?_) (app m r hr);show some (PV.at (.bl (decide (way=1))))=_;rw [yA hw]
  refine Jb (λrest2 zs ε=>∃(m:Int)(r:EH),ε=[.no,m6 m,.sh (.at (.bl b))]/\zs=r.map (λn=>PV.at (.int n))/\r.length+rest2.length=h/\(∀ v∈r,0<=v/\v<10 ^ 30)) ?_ ?_ _ [] _ ⟨m,[],rfl,rfl,by rw [vY];simp,(λ_ z=>nomatch z)⟩
  .rintro zs ε ⟨m2,r,rfl,rfl,g1,g2⟩;have hr:Qn h r:=⟨by simpa using g1,g2⟩;refine ⟨λ_=>⟨_,rfl⟩,?_⟩;by_cases hw:way=0
   .subst hw;refine Xi (i8 (v:=true) rfl) ⟨jS (List.replicate h 0),?_,if1 m2 _ ⟨tT,λv hv=>?_⟩⟩
    .refine y7 (xP (xs:=[.at (.int 0)]) rfl l1) rfl ?_;show (if -(lim:Int)<=(h:Int)/\(h:Int)<=lim/\[PV.at (.int 0)].length*(h:Int).toNat<=lim then some (PV.lst (List.replicate (h:Int).toNat [PV.at (.int 0)]).flatten) else none)=_;rw [rB ⟨by omega,by omega,by simp;omega⟩];unfold jS;simp
    .rw [List.eq_of_mem_replicate hv];decide
   .refine wc (i8 (v:=false) ?_) (if1 m2 r hr);show some (PV.at (.bl (decide (way=0))))=_;rw [yA hw]
  .rintro x2 rest2 zs ε ⟨m2,r,rfl,rfl,g1,g2⟩;simp only [yJ] at g1;refine ⟨_,rfl,⟨_,rfl⟩,_,rfl,⟨_,rfl⟩,⟨b,rfl⟩,?_⟩;rintro y n' ⟨v,rfl,v0,v1⟩;refine ⟨n',r++[v],rfl,by rw [yE];rfl,by rw [yV];simp;omega,λq hq=>?_⟩;rcases yF.mp hq with hq|hq
   .exact g2 q hq
   .rw [yU.mp hq,<- eB];exact ⟨v0,by omega⟩
def Tr (F:Fun K "_law_rinses" "_law_rinses" Ub f fd)(A0:Fn P w K mg tM 1 "_law_digit" ["row","many"] jT)(Eh:Fn P w K mg tM 2 "_law_number" ["row","great"] (spD zW jb))(A4:mg "range"=none):sQ P w K mg tM v8 3 f fd ["row","hues","great"] (spD Zv Ql) :=
 okD (k:=2) (b:=Kc K) F rO Nw (λtH A tL s H E hr=>⟨_,(@j6 _ _ _ _ _ (@qq _ _ 3 _ _ _ _ rO.nd rfl (Or.inl rfl) (qR A0 hr (by decide) rfl (@z8 _ _ _ _ _ (pv 0) (@z8 _ _ _ _ _ z7 w9 (by rfl)) (by rfl))) (by rfl) (.inl rfl))
  (@j6 _ _ _ _ _ (@qq _ _ 4 _ _ _ _ rO.nd rfl (Or.inl rfl) (@m8 _ _ _ _ w9) (by rfl) (.inl rfl))
  (@j6 _ _ _ _ _ (zi PassesOwn.never rfl (vq rfl A4 (@z8 _ _ _ _ _ (u4 (t0 K) (pv 1) z7) w9 (by rfl))) (m5 (i:=5) rO.nd rfl (Or.inl rfl))
   (@j6 _ _ _ _ _ (jt (i:=6) (N':=["hue","row","great"]) (tK:=[none,some 0,some 2]) (t6 rfl rfl rfl) rfl rO.nd rfl rfl (vq rfl A4 (@z8 _ _ _ _ _ (pv 1) w9 (by rfl))) (λ_ _ _ _ _ _=>(tO (i:=0) ["hue","row","great"])) (λ_ _ _ _ _ _=>i9) (λ_ _ _ _ _ _=>(qR Eh hr (by decide) rfl (@z8 _ _ _ _ _ (pv 1) (@z8 _ _ _ _ _ (pv 2) w9 (by rfl)) (by rfl)))))
  (@j6 _ _ _ _ _ (qb (qc (xG K (qC hr) rfl) (pv 3) z7 (m7 _)) (@j9 _ _ _ (@qq _ _ 6 _ _ _ _ rO.nd rfl (Or.inl rfl) (u4 (PQ) (@m8 _ _ _ _ (@z8 _ _ _ _ _ z7 w9 (by rfl))) (pv 1)) (by rfl) (.inl rfl))) qi)
  (@j6 _ _ _ _ _ (qb (qc (xG K (qC hr) rfl) (pv 3) z7 (m7 _)) (@j9 _ _ _ (jt (i:=6) (N':=["number","row"]) (tK:=[none,some 0]) (t6 rfl rfl rfl) rfl rO.nd rfl rfl (@i7 _ K _ _ _ rfl (pv 6)) (λ_ _ _ _ _ _=>(tO (i:=0) ["number","row"])) (λ_ _ _ _ _ _=>i9) (λ_ _ _ _ _ _=>(u4 (JV) (pv 0) (qR A0 hr (by decide) rfl (@z8 _ _ _ _ _ (pv 1) (@z8 _ _ _ _ _ z7 w9 (by rfl)) (by rfl))))))) qi)
  (@j9 _ _ _ (xp (zg K rfl rn rk rj zT (pv 4) (z8 (pv 6) w9))))))))
  (@j9 _ _ _ (u6 (pv 4)))))),
  (by repeat' first|infer_instance|(refine @Mi.instSemWSTSeqWSeq _ _ _ _ ?_ ?_)|(apply @Mi.instSemWSTForWForOfSemWIOfSemWG))⟩) NF
def sX:C7:=["b","ab","a","abc","ba","aa","z","abcdefgh","abcdefgi","zz","abcd","bb"]
def Oi:sX.Nodup:=by decide +kernel
def Oj:∀ s∈sX,Qi s:=by
 have:∀ s∈sX,(∀ c∈s.cps.toList,97<=c/\c<=122)/\1<=s.length/\s.length<=8/\s ≠ "qx":=by decide +kernel
 exact λs hs=>⟨(this s hs).1,(this s hs).2.1,(this s hs).2.2.1,(this s hs).2.2.2⟩
def Zr:C5->Prop:=λxs=>∃ k:Nat,xs=[.at (.int k)]/\k<=12
def ZT:C5->PV->Prop:=λxs y=>∃ ss:C7,y = .lst (y6 ss)/\xs=[.at (.int ss.length)]/\ss.Nodup/\∀ s∈ss,Qi s
abbrev YU:Stmt:=top 72
abbrev GU (K:Fg):WS:=(sH (Vq 2 (p6 (q0 (dC (.str "b")) (q0 (dC (.str "ab")) (q0 (dC (.str "a")) (q0 (dC (.str "abc")) (q0 (dC (.str "ba")) (q0 (dC (.str "aa")) (q0 (dC (.str "z")) (q0 (dC (.str "abcdefgh")) (q0 (dC (.str "abcdefgi")) (q0 (dC (.str "zz")) (q0 (dC (.str "abcd")) (q0 (dC (.str "bb")) x8))))))))))))))
  (zm (wa [none,some 2,some 0] [0] (wIp (zQ (q0 (x6 1) x8))) (w6 0) vz (wPop 1 (xg 2 (wP (z0 xn (q0 (x9 1) x8))))))))
def rW:y8 ["row","many","free"] ["row","many"] (j4 YU):=u8
def Nr:∀ xs,Zr xs->xs.length+1=(["row","many"]:C7).length:=by rintro xs ⟨k,rfl,_⟩;rfl
def SG {free got all:C7}{j:Nat}(h:j<free.length)(p:(got++free).Perm all):((got++[free[j]])++free.eraseIdx j).Perm all:=by rw [uW];exact ((WO h).append_left got).trans p
def NB :∀ xs n,Zr xs->GU K (m6 n::xs.map .sh++List.replicate ((["row","many","free"]:C7).length-(xs.length+1)) .no) (λ_=>False) λy ε=>ZT xs y/\zN 0 ε:=by
 rintro xs n ⟨k,rfl,hk⟩;have hl:lim=1000000:=rfl;have hB:=Qe;refine ⟨_,rfl,?_⟩;refine ⟨zK 0 k,wW rfl (by omega),rfl,by rw [vY];omega,?_⟩;refine Jb (λrest ys ε=>∃(m:Int)(free got:C7),ε=[.no,.ow (.lst (y6 free)),m6 m]/\ys=y6 got/\got.length+rest.length=k/\(got++free).Perm sX) ?_ ?_ (zK 0 k) [] _ ⟨n,sX,[],rfl,rfl,by rw [vY];simp,.refl _⟩
 .rintro ys ε ⟨m,free,got,rfl,rfl,h1,h2⟩;have nd:(got++free).Nodup:=h2.nodup_iff.mpr Oi;refine ⟨λ_=>⟨_,rfl⟩,⟨got,rfl,?_,(uL.mp nd).1,λs hs=>Oj s (h2.mem_iff.mp (yo _ hs))⟩,m,rfl⟩;simp at h1;rw [h1]
 .rintro x rest ys ε ⟨m,free,got,rfl,rfl,h1,h2⟩;simp only [yJ] at h1;have hlen:=h2.length_eq;rw [yV,show sX.length=12 from rfl] at hlen;refine ⟨_,rfl,?_⟩;have hf:0<free.length:=by omega
  have c0:0<=m % (((y6 free).length:Nat):Int):=ya _ (by rw [xx];omega);have c1:m % (((y6 free).length:Nat):Int)<(((y6 free).length:Nat):Int):=yi _ (by rw [xx];omega);refine ⟨⟨_,rfl⟩,⟨m,rfl⟩,_,rfl,m,(((y6 free).length:Nat):Int),rfl,rfl,vH (by rw [xx];omega) (by rw [xx];omega),?_⟩;generalize hj:m % (((y6 free).length:Nat):Int)=j at c0 c1;rw [xx] at c1;have hjl:j.toNat<free.length:=by omega
  refine ⟨y6 free,j,.at (.str free[j.toNat]),rfl,rfl,c0,by rw [xx];exact c1,by rw [xx];omega,?_,?_⟩
  .unfold y6;rw [yM,yS hjl];rfl
  .refine ⟨m / (((y6 free).length:Nat):Int),free.eraseIdx j.toNat,got++[free[j.toNat]],?_,?_,?_,SG hjl h2⟩
   .show [sN.no,sN.ow (.lst ((y6 free).eraseIdx j.toNat)),m6 _]=_;unfold y6;rw [VT]
   .unfold y6;rw [yE];rfl
   .rw [yV];simp only [yJ,pb];omega
def Tk (F:Fun K "_law_names" "_law_names" YU f fd)(A0:Fn P w K mg tM 1 "_law_digit" ["row","many"] jT)(Az:mg "len"=none)(A4:mg "range"=none):sQ P w K mg tM v8 2 f fd ["row","many"] (spD Zr ZT) :=
 okD (k:=1) (b:=GU K) F rW Nr (λtH A tL s H E hr=>⟨_,(@j6 _ _ _ _ _ (@qq _ _ 2 _ _ _ _ rW.nd rfl (Or.inr rfl) (@m8 _ _ _ _ (@z8 _ _ _ _ _ qY (@z8 _ _ _ _ _ qY (@z8 _ _ _ _ _ qY (@z8 _ _ _ _ _ qY (@z8 _ _ _ _ _ qY (@z8 _ _ _ _ _ qY (@z8 _ _ _ _ _ qY (@z8 _ _ _ _ _ qY (@z8 _ _ _ _ _ qY (@z8 _ _ _ _ _ qY (@z8 _ _ _ _ _ qY (@z8 _ _ _ _ _ qY w9 (by rfl)) (by rfl)) (by rfl)) (by rfl)) (by rfl)) (by rfl)) (by rfl)) (by rfl)) (by rfl)) (by rfl)) (by rfl)) (by rfl))) (by rfl) (.inl rfl))
  (@j9 _ _ _ (u6 (qu (N':=["k","free","row"]) (tK:=[none,some 2,some 0]) (t6 rfl rfl rfl) rfl (vq rfl A4 (@z8 _ _ _ _ _ (pv 1) w9 (by rfl))) (λ_ _ _ _ _ _=>(tO (i:=0) ["k","free","row"])) (λ_ _ _ _ _ _=>i9) (λ_ _ _ _ _ _=>(zg K rfl rn PySem.F.slot_list_pop PySem.F.type_list_pop Pq (pv 1) (z8 (qR A0 hr (by decide) rfl (@z8 _ _ _ _ _ (pv 2) (@z8 _ _ _ _ _ (p7 (xj K) rfl Az rl (@z8 _ _ _ _ _ (pv 1) w9 (by rfl))) w9 (by rfl)) (by rfl))) w9))))))),
  (by repeat' first|infer_instance|(refine @Mi.instSemWSTSeqWSeq _ _ _ _ ?_ ?_)|(apply @Mi.instSemWSTForWForOfSemWIOfSemWG))⟩) NB
def QY:C5->Prop:=λxs=>∃(s:Str)(h:Nat)(b:Bool),xs=[.at (.str s),.at (.int h),.at (.bl b)]/\Qi s/\1<=h/\h<=4
def Qj:C5->PV->Prop:=λxs y=>∃(s:Str)(h:Nat)(b:Bool)(c:Cl),xs=[.at (.str s),.at (.int h),.at (.bl b)]/\y=c.pv/\c.name=s/\c.Ok h
abbrev Yv:Stmt:=top 73
abbrev Gz (K:Fg):WS:=(sH (qw 4 (xU vo (xg 0 (wP (dC (.int 40)))) (wP (dC (.int 6)))))
  (sH (zO (wPT (r9 (x9 3))) (qw 4 (xU b9 (wP (z5 Zl (x9 4) (z5 pPow (dC (.int 10)) (dC (.int 26))))) (xg 0 (wP (dC (.int 3)))))) jy)
  (zm (Xh (p0 (wP (x6 1)) (p0 (xg 0 (wP (x6 2))) (p0 (xU b9 (wP (dC (.int 1))) (zw 0 zW jb (p0 (wP (x6 3)) qS))) (p0 (wP (x6 4)) (p0 (xU b9 (wP (dC (.int 1))) (xg 0 (wP (dC (.int 9))))) qS)))))))))
def sq:y8 ["row","name","hues","great","due"] ["row","name","hues","great"] (j4 Yv):=u8
def Nq:∀ xs,QY xs->xs.length+1=(["row","name","hues","great"]:C7).length:=by rintro xs ⟨s,h,b,rfl,_⟩;rfl
def Nz :∀ xs n,QY xs->Gz K (m6 n::xs.map .sh++List.replicate ((["row","name","hues","great","due"]:C7).length-(xs.length+1)) .no) (λ_=>False) λy ε=>Qj xs y/\zN 0 ε:=by
 rintro xs n ⟨s,h,b,rfl,hs,h1,h4⟩;have hB:=Qe;obtain ⟨t1,t2,t3⟩:=Ts;have rest:∀(n due:Int),-qF<=due->due<=qF->((zm (Xh (p0 (wP (x6 1)) (p0 (xg 0 (wP (x6 2))) (p0 (xU b9 (wP (dC (.int 1))) (zw 0 zW jb (p0 (wP (x6 3)) qS))) (p0 (wP (x6 4)) (p0 (xU b9 (wP (dC (.int 1))) (xg 0 (wP (dC (.int 9))))) qS))))))):WS) [m6 n,.sh (.at (.str s)),.sh (.at (.int (h:Int))),.sh (.at (.bl b)),.sh (.at (.int due))] (λ_=>False) λy ε=>Qj [.at (.str s),.at (.int h),.at (.bl b)] y/\zN 0 ε:=by intro n due d1 d2;refine ⟨_,rfl,⟨_,rfl⟩,_,rfl,n,(h:Int),rfl,rfl,vH (by omega) (by omega),_,rfl,⟨_,rfl⟩,_,rfl,⟨_,rfl⟩,⟨b,rfl⟩,?_⟩;rintro y n' ⟨v,rfl,v0,v1⟩;have u0:0<=n % (h:Int):=ya _ (by omega);have u1:n % (h:Int)<h:=yi _ (by omega);obtain ⟨u,hu⟩:=uV u0;rw [hu] at u1 ⊢;have w0:0<=n' % 9:=ya _ (by decide);have w1:n' % 9<9:=yi _ (by decide);exact ⟨_,rfl,_,rfl,_,rfl,⟨_,rfl⟩,_,rfl,n',9,rfl,rfl,⟨by decide,by decide⟩,_,rfl,l5,⟨s,h,b,⟨s,u,1+v,due,1+n' % 9⟩,rfl,rfl,rfl,⟨hs,(show u<h by omega),(show (1:Int)<=1+v by omega),(show 1+v<=qF by omega),d1,d2,(show (1:Int)<=1+n' % 9 by omega),(show 1+n' % 9<=qF by omega)⟩⟩,_,rfl⟩
 refine ⟨⟨n,rfl⟩,_,rfl,n,40,rfl,rfl,⟨by decide,by decide⟩,_,rfl,_,rfl,?_⟩;have a0:0<=n % 40:=ya _ (by decide);have a1:n % 40<40:=yi _ (by decide);generalize n % 40=p at a0 a1 ⊢;generalize n / 40=n1;cases b with
 |false=>exact wc rfl (rest _ _ (by omega) (by omega))
 |true=>have b0:0<=n1 % 3:=ya _ (by decide);have b1:n1 % 3<3:=yi _ (by decide);have m1:(p-6)*T26<=34*T26:=uj (by omega) (by omega);have m2:-6*T26<=(p-6)*T26:=uj (by omega) (by omega);exact Xi rfl ⟨_,y7 rfl (y7 rfl rfl pow26) (WC (a:=p-6) (b:=T26) (by omega) (by omega) (by omega) (by omega)),⟨_,rfl⟩,_,rfl,n1,3,rfl,rfl,⟨by decide,by decide⟩,_,rfl,rest _ _ (by omega) (by omega)⟩
def RJ (F:Fun K "_law_cloth" "_law_cloth" Yv f fd)(A0:Fn P w K mg tM 1 "_law_digit" ["row","many"] jT)(Eh:Fn P w K mg tM 2 "_law_number" ["row","great"] (spD zW jb)):sQ P w K mg tM v8 3 f fd ["row","name","hues","great"] (spD QY Qj) :=
 okD (k:=2) (b:=Gz K) F sq Nq (λtH A tL s H E hr=>⟨_,(@j6 _ _ _ _ _ (@qq _ _ 4 _ _ _ _ sq.nd rfl (Or.inl rfl) (u4 (QS) (qR A0 hr (by decide) rfl (@z8 _ _ _ _ _ (pv 0) (@z8 _ _ _ _ _ z7 w9 (by rfl)) (by rfl))) z7) (by rfl) (.inl rfl))
  (@j6 _ _ _ _ _ (qb (xq K rfl (pv 3) (λ_=>rfl)) (@j9 _ _ _ (@qq _ _ 4 _ _ _ _ sq.nd rfl (Or.inl rfl) (u4 (t0 K) (u4 (JV) (pv 4) (u4 (QR) z7 z7)) (qR A0 hr (by decide) rfl (@z8 _ _ _ _ _ (pv 0) (@z8 _ _ _ _ _ z7 w9 (by rfl)) (by rfl)))) (by rfl) (.inl rfl))) qi)
  (@j9 _ _ _ (u6 (@zI _ _ _ _ _ (@z8 _ _ _ _ _ (pv 1) (@z8 _ _ _ _ _ (qR A0 hr (by decide) rfl (@z8 _ _ _ _ _ (pv 0) (@z8 _ _ _ _ _ (pv 2) w9 (by rfl)) (by rfl))) (@z8 _ _ _ _ _ (u4 (t0 K) z7 (qR Eh hr (by decide) rfl (@z8 _ _ _ _ _ (pv 0) (@z8 _ _ _ _ _ (pv 3) w9 (by rfl)) (by rfl)))) (@z8 _ _ _ _ _ (pv 4) (@z8 _ _ _ _ _ (u4 (t0 K) z7 (qR A0 hr (by decide) rfl (@z8 _ _ _ _ _ (pv 0) (@z8 _ _ _ _ _ z7 w9 (by rfl)) (by rfl)))) w9 (by rfl)) (by rfl)) (by rfl)) (by rfl)) (by rfl))))))),
  (by repeat' first|infer_instance|(refine @Mi.instSemWSTSeqWSeq _ _ _ _ ?_ ?_)|(apply @Mi.instSemWSTForWForOfSemWIOfSemWG))⟩) Nz
def Zu (K:Fg):C5->Prop:=λxs=>∃(ns:EH)(m:Nat),xs=[scr K ns,.at (.int m)]/\ns.length<=63/\m<=10
def Qk:C5->PV->Prop:=λxs y=>∃(d:Dr)(z:PV)(m:Nat),xs=[z,.at (.int m)]/\y=d.pv/\d.Ok/\d.cls.length<=m
abbrev YZ:Stmt:=top 74
abbrev GZ (K:Fg):WS:=(sH (Vp 2 (wS K) we (p0 (wP (x6 0)) (p0 (wP (dC (.int 0))) qS)))
  (sH (qw 3 (xU i5 (xg 2 (wP (dC (.int 6)))) (wP (dC (.int 5)))))
  (sH (qw 4 (xU b9 (wP (dC (.int 1))) (xg 2 (wP (dC (.int 4))))))
  (sH (qw 5 (zw 2 Zv Ql (p0 (wP (x6 4)) (p0 (wP (x6 3)) qS))))
  (sH (Vp 6 (wS K) we (p0 (wP (x6 0)) (p0 (wP (dC (.int 1))) qS)))
  (sH (qw 7 (zw 6 Zr ZT (p0 (xg 6 (wP (z5 b9 (x9 1) (dC (.int 1))))) qS)))
  (sH (qw 8 (wa [none,some 6,some 4,some 3] [0] (wIp (b8 (x6 7))) (w6 0) vz (zw 1 QY Qj (p0 (wP (x6 0)) (p0 (wP (x6 2)) (p0 (wP (x6 3)) qS))))))
  (zm (Xh (p0 (wP (x6 5)) (p0 (wP (x6 8)) (p0 (xU vo (xg 2 (wP (z5 b9 (x9 4) (dC (.int 1))))) (wP (dC (.int 1)))) (p0 (zw 2 zW jb (p0 (wP (x6 3)) qS)) qS)))))))))))))
def rR:y8 ["script","most","row","great","hues","rinses","more","names","cloths"] ["script","most"] (j4 YZ):=u8
def Nv :∀ xs,Zu K xs->xs.length=(["script","most"]:C7).length:=by rintro xs ⟨ns,m,rfl,_⟩;rfl
def NE :∀ xs,Zu K xs->GZ K (xs.map .sh++List.replicate ((["script","most","row","great","hues","rinses","more","names","cloths"]:C7).length-xs.length) .no) (λ_=>False) λy _=>Qk xs y:=by
 rintro xs ⟨ns,mo,rfl,h63,hmo⟩;have hB:=Qe;obtain ⟨t1,t2,t3⟩:=Ts;have hlim:lim=1000000:=rfl;refine ⟨_,rfl,_,rfl,⟨ns,0,rfl,h63,by decide,by decide⟩,?_⟩;rintro y ⟨n,rfl⟩
 -- great,hues
 refine ⟨⟨n,rfl⟩,_,rfl,n,6,rfl,rfl,⟨by decide,by decide⟩,_,rfl,_,rfl,?_⟩;generalize ql (.int (n % 6)) (.int 5)=great;generalize n / 6=n1;refine ⟨_,rfl,⟨_,rfl⟩,_,rfl,n1,4,rfl,rfl,⟨by decide,by decide⟩,_,rfl,?_⟩;have a0:0<=n1 % 4:=ya _ (by decide);have a1:n1 % 4<4:=yi _ (by decide);obtain ⟨h,hh⟩:=uV (show 0<=1+n1 % 4 by omega);generalize n1 / 4=n2;have hh1:1<=h:=by omega
 have hh4:h<=4:=by omega
 rw [hh];clear a0 a1 hh
 -- rinses
 refine ⟨⟨_,rfl⟩,_,rfl,_,rfl,⟨_,rfl⟩,⟨h,great,rfl,hh1,hh4⟩,?_⟩;rintro y n3 ⟨h',b',tJ,e,rfl,hr⟩;have e':h'=h:=by injection e with e _;injection e with e;injection e with e;omega
 subst e';have fin:∀(n3 m:Int)(z:sN)(cs:EE),cs.length<=10->cs.length<=mo->(∀ c∈cs,c.Ok h')->(cs.map Cl.name).Nodup->((zm (Xh (p0 (wP (x6 5)) (p0 (wP (x6 8)) (p0 (xU vo (xg 2 (wP (z5 b9 (x9 4) (dC (.int 1))))) (wP (dC (.int 1)))) (p0 (zw 2 zW jb (p0 (wP (x6 3)) qS)) qS)))))):WS) [.sh (scr K ns),.sh (.at (.int (mo:Int))),m6 n3,.sh (.at (.bl great)),.sh (.at (.int (h':Int))),.sh (qK tJ),m6 m,z,.sh (.lst (cs.map Cl.pv))] (λ_=>False) λy _=>Qk [scr K ns,.at (.int (mo:Int))] y:=by intro n3 m z cs l10 lmo g1 nd;have d0:0<=n3 % ((h':Int)+1):=ya _ (by omega);have d1:n3 % ((h':Int)+1)<(h':Int)+1:=yi _ (by omega);refine ⟨_,rfl,_,rfl,⟨n3,rfl⟩,_,rfl,n3,(h':Int)+1,rfl,rfl,vH (by omega) (by omega),_,rfl,_,rfl,⟨_,rfl⟩,_,rfl,⟨_,rfl⟩,⟨great,rfl⟩,?_⟩;rintro y n4 ⟨ti,rfl,ti0,ti1⟩;exact ⟨by show 4<=lim;decide,⟨h',tJ,cs,n3 % ((h':Int)+1)-1,ti⟩,scr K ns,mo,rfl,rfl,⟨hh1,hh4,hr,l10,g1,nd,(by show -1<=n3 % ((h':Int)+1)-1;omega),(by show n3 % ((h':Int)+1)-1<(h':Int);omega),ti0,(by show ti<60*qF;omega)⟩,lmo⟩
 -- cloths
 have cloths:∀(n3 q2:Int)(ss:C7)(k:Nat),ss.length=k->k<=mo->ss.Nodup->(∀ s∈ss,Qi s)->((sH (qw 8 (wa [none,some 6,some 4,some 3] [0] (wIp (b8 (x6 7))) (w6 0) vz (zw 1 QY Qj (p0 (wP (x6 0)) (p0 (wP (x6 2)) (p0 (wP (x6 3)) qS))))))
  (zm (Xh (p0 (wP (x6 5)) (p0 (wP (x6 8)) (p0 (xU vo (xg 2 (wP (z5 b9 (x9 4) (dC (.int 1))))) (wP (dC (.int 1)))) (p0 (zw 2 zW jb (p0 (wP (x6 3)) qS)) qS))))))):WS) [.sh (scr K ns),.sh (.at (.int (mo:Int))),m6 n3,.sh (.at (.bl great)),.sh (.at (.int (h':Int))),.sh (qK tJ),m6 q2,.sh (.lst (y6 ss)),.no] (λ_=>False) λy _=>Qk [scr K ns,.at (.int (mo:Int))] y:=by
  intro n3 q2 ss k el hkm nd nok;refine ⟨_,rfl,rfl,by rw [xx];omega,?_⟩;refine Jb (λrest ys ε=>∃(m:Int)(todo:C7)(cs:EE),rest=y6 todo/\ε=[.no,m6 m,.sh (.at (.int (h':Int))),.sh (.at (.bl great))]/\ys=cs.map Cl.pv/\cs.map Cl.name++todo=ss/\(∀ c∈cs,c.Ok h')) ?_ ?_ _ [] _ ⟨q2,ss,[],rfl,rfl,rfl,rfl,(λ_ z=>nomatch z)⟩
  .rintro ys ε ⟨m,todo,cs,e2,rfl,rfl,e3,g1⟩;have:todo=[]:=by
    cases todo with
    |nil=>rfl
    |cons _ _=>cases e2
   subst this;rw [yp] at e3;have cl:cs.length=k:=by rw [<- el,<- e3,yZ]
   refine ⟨(λ⟨y,e⟩=>nomatch (show some (sN.sh (scr K ns))=some (sN.ow y) from e)),?_⟩;exact fin n3 m _ cs (by omega) (by omega) g1 (by rw [e3];exact nd)
  .rintro x rest ys ε ⟨m,todo,cs,e2,rfl,rfl,e3,g1⟩;cases todo with
   |nil=>cases e2
   |cons s todo =>
    have e2':x = .at (.str s)/\rest=y6 todo:=by injection e2 with e4 e5;exact ⟨e4,e5⟩
    obtain ⟨rfl,rfl⟩:=e2';have hs:s∈ss:=by rw [<- e3];exact yw _ yR
    refine ⟨_,rfl,⟨_,rfl⟩,_,rfl,_,rfl,_,rfl,⟨_,rfl⟩,⟨s,h',great,rfl,nok s hs,hh1,hh4⟩,?_⟩;rintro y m2 ⟨s2,h2,b2,c,e4,rfl,en,ok⟩;injection e4 with e4 e5;injection e4 with e4;injection e4 with e4;injection e5 with e5 _;injection e5 with e5;injection e5 with e5;have e6:h'=h2:=by omega
    subst e4 e6;refine ⟨m2,todo,cs++[c],rfl,rfl,by rw [yE];rfl,by rw [yE,uW,<- e3];show _++(c.name::todo)=_;rw [en],λx hx=>?_⟩;rcases yF.mp hx with hx|hx
    .exact g1 x hx
    .rw [yU.mp hx];exact ok
 -- names
 refine ⟨_,rfl,_,rfl,⟨ns,1,rfl,h63,by decide,by decide⟩,?_⟩;rintro y ⟨q,rfl⟩;have c0:0<=q % ((mo:Int)+1):=ya _ (by omega);have c1:q % ((mo:Int)+1)<(mo:Int)+1:=yi _ (by omega);obtain ⟨k,hk⟩:=uV c0;refine ⟨⟨_,rfl⟩,⟨_,rfl⟩,_,rfl,q,(mo:Int)+1,rfl,rfl,vH (by omega) (by omega),⟨_,rfl⟩,⟨k,by rw [hk],by omega⟩,?_⟩;rintro y q2 ⟨ss,rfl,e1,nd,nok⟩;have el:ss.length=k:=by injection e1 with e1 _;injection e1 with e1;injection e1 with e1;rw [hk] at e1;omega
 exact cloths n3 q2 ss k el (by omega) nd nok
def Tp (F:Fun K "_law_parts" "_law_parts" YZ f fd)(U0:Fn P w K mg tM 3 "_law_cloth" ["row","name","hues","great"] (spD QY Qj))(A0:Fn P w K mg tM 1 "_law_digit" ["row","many"] jT)(T7:Fn P w K mg tM 2 "_law_names" ["row","many"] (spD Zr ZT))(Eh:Fn P w K mg tM 2 "_law_number" ["row","great"] (spD zW jb))(R0:Fn P w K mg tM 3 "_law_rinses" ["row","hues","great"] (spD Zv Ql))(Ey:Fn P w K mg tM 2 "_law_stream" ["script","k"] (spN (wS K) we)):sQ P w K mg tM v8 4 f fd ["script","most"] (spV (Zu K) Qk) :=
 okV (k:=3) (b:=GZ K) F rR Nv (λtH A tL s H E hr=>⟨_,(@j6 _ _ _ _ _ (@qq _ _ 2 _ _ _ _ rR.nd rfl (Or.inl rfl) (qR Ey hr (by decide) rfl (@z8 _ _ _ _ _ (pv 0) (@z8 _ _ _ _ _ z7 w9 (by rfl)) (by rfl))) (by rfl) (.inl rfl))
  (@j6 _ _ _ _ _ (@qq _ _ 3 _ _ _ _ rR.nd rfl (Or.inr rfl) (zU (xG K (qC hr) rfl) (qR A0 hr (by decide) rfl (@z8 _ _ _ _ _ (pv 2) (@z8 _ _ _ _ _ z7 w9 (by rfl)) (by rfl))) z7 (m7 _)) (by rfl) (.inl rfl))
  (@j6 _ _ _ _ _ (@qq _ _ 4 _ _ _ _ rR.nd rfl (Or.inr rfl) (u4 (t0 K) z7 (qR A0 hr (by decide) rfl (@z8 _ _ _ _ _ (pv 2) (@z8 _ _ _ _ _ z7 w9 (by rfl)) (by rfl)))) (by rfl) (.inl rfl))
  (@j6 _ _ _ _ _ (@qq _ _ 5 _ _ _ _ rR.nd rfl (Or.inl rfl) (qR R0 hr (by decide) rfl (@z8 _ _ _ _ _ (pv 2) (@z8 _ _ _ _ _ (pv 4) (@z8 _ _ _ _ _ (pv 3) w9 (by rfl)) (by rfl)) (by rfl))) (by rfl) (.inl rfl))
  (@j6 _ _ _ _ _ (@qq _ _ 6 _ _ _ _ rR.nd rfl (Or.inr rfl) (qR Ey hr (by decide) rfl (@z8 _ _ _ _ _ (pv 0) (@z8 _ _ _ _ _ z7 w9 (by rfl)) (by rfl))) (by rfl) (.inl rfl))
  (@j6 _ _ _ _ _ (@qq _ _ 7 _ _ _ _ rR.nd rfl (Or.inl rfl) (qR T7 hr (by decide) rfl (@z8 _ _ _ _ _ (pv 6) (@z8 _ _ _ _ _ (qR A0 hr (by decide) rfl (@z8 _ _ _ _ _ (pv 6) (@z8 _ _ _ _ _ (u4 (t0 K) (pv 1) z7) w9 (by rfl)) (by rfl))) w9 (by rfl)) (by rfl))) (by rfl) (.inl rfl))
  (@j6 _ _ _ _ _ (jt (i:=8) (N':=["name","more","hues","great"]) (tK:=[none,some 6,some 4,some 3]) (t6 rfl rfl rfl) rfl rR.nd rfl rfl (@i7 _ K _ _ _ rfl (pv 7)) (λ_ _ _ _ _ _=>(tO (i:=0) ["name","more","hues","great"])) (λ_ _ _ _ _ _=>i9) (λ_ _ _ _ _ _=>(qR U0 hr (by decide) rfl (@z8 _ _ _ _ _ (pv 1) (@z8 _ _ _ _ _ (pv 0) (@z8 _ _ _ _ _ (pv 2) (@z8 _ _ _ _ _ (pv 3) w9 (by rfl)) (by rfl)) (by rfl)) (by rfl)))))
  (@j9 _ _ _ (u6 (@zI _ _ _ _ _ (@z8 _ _ _ _ _ (pv 5) (@z8 _ _ _ _ _ (pv 8) (@z8 _ _ _ _ _ (u4 (QS) (qR A0 hr (by decide) rfl (@z8 _ _ _ _ _ (pv 2) (@z8 _ _ _ _ _ (u4 (t0 K) (pv 4) z7) w9 (by rfl)) (by rfl))) z7) (@z8 _ _ _ _ _ (qR Eh hr (by decide) rfl (@z8 _ _ _ _ _ (pv 2) (@z8 _ _ _ _ _ (pv 3) w9 (by rfl)) (by rfl))) w9 (by rfl)) (by rfl)) (by rfl)) (by rfl)))))))))))),
  (by repeat' first|infer_instance|(refine @Mi.instSemWSTSeqWSeq _ _ _ _ ?_ ?_)|(apply @Mi.instSemWSTForWForOfSemWIOfSemWG))⟩) NE
abbrev YK:Stmt:=top 4
abbrev GM:MS:=(u9 (xX (z0 qJ (q0 (x9 0) (q0 (dC (.ty "int")) x8))) (Jf (z0 qJ (q0 (x9 0) (q0 (dC (.ty "bool")) x8))))))
def vS:C5->EA:=p8 1 1 GM
def Fc:y8 ["thing"] ["thing"] (j4 YK):=u8
def Tb (F:Fun K "is_whole" "is_whole" YK f fd)(U3:mg "bool"=none)(Z0:mg "int"=none)(Ay:mg "isinstance"=none):sQ P w K mg tM v8 1 f fd ["thing"] (v7 vS) :=
 o8 (k:=0) (b:=GM) F Fc rfl λtH A tL s H E hr=>⟨_,(j9 (u6 (jQ (p7 (jC K) rfl Ay zp (aC (pv 0) (aW (jq (v:= .ty "int") rfl Z0 MN rfl)))) (vp (Sn (p7 (jC K) rfl Ay zp (aC (pv 0) (aW (jq (v:= .ty "bool") rfl U3 MK rfl))))))))),
  rA⟩
abbrev YT:Stmt:=top 7
abbrev GT:MS:=(u9 (z5 k6 (x9 0) (dC (.int 0))))
def zG:C5->EA:=p8 1 1 GT
def Fi:y8 ["cloth"] ["cloth"] (j4 YT):=u8
def Tj (F:Fun K "name_of" "name_of" YT f fd):sQ P w K mg tM v8 1 f fd ["cloth"] (v7 zG) :=
 o8 (k:=0) (b:=GT) F Fi rfl λtH A tL s H E hr=>⟨_,(j9 (u6 (iW K rfl (pv 0) z7))),
  rA⟩
abbrev YB:Stmt:=top 8
abbrev GD:MS:=(u9 (z5 k6 (x9 0) (dC (.int 1))))
def jN:C5->EA:=p8 1 1 GD
def IT:y8 ["cloth"] ["cloth"] (j4 YB):=u8
def RQ (F:Fun K "hue_of" "hue_of" YB f fd):sQ P w K mg tM v8 1 f fd ["cloth"] (v7 jN) :=
 o8 (k:=0) (b:=GD) F IT rfl λtH A tL s H E hr=>⟨_,(j9 (u6 (iW K rfl (pv 0) z7))),
  rA⟩
abbrev YQ:Stmt:=top 9
abbrev GR:MS:=(u9 (z5 k6 (x9 0) (dC (.int 2))))
def XW:C5->EA:=p8 1 1 GR
def Ff:y8 ["cloth"] ["cloth"] (j4 YQ):=u8
def Tg (F:Fun K "length_of" "length_of" YQ f fd):sQ P w K mg tM v8 1 f fd ["cloth"] (v7 XW) :=
 o8 (k:=0) (b:=GR) F Ff rfl λtH A tL s H E hr=>⟨_,(j9 (u6 (iW K rfl (pv 0) z7))),
  rA⟩
abbrev Yy:Stmt:=top 10
abbrev GB:MS:=(u9 (z5 k6 (x9 0) (dC (.int 3))))
def wG:C5->EA:=p8 1 1 GB
def IR:y8 ["cloth"] ["cloth"] (j4 Yy):=u8
def RN (F:Fun K "due_of" "due_of" Yy f fd):sQ P w K mg tM v8 1 f fd ["cloth"] (v7 wG) :=
 o8 (k:=0) (b:=GB) F IR rfl λtH A tL s H E hr=>⟨_,(j9 (u6 (iW K rfl (pv 0) z7))),
  rA⟩
abbrev Us:Stmt:=top 11
abbrev Kq:MS:=(u9 (z5 k6 (x9 0) (dC (.int 4))))
def Wt:C5->EA:=p8 1 1 Kq
def Ft:y8 ["cloth"] ["cloth"] (j4 Us):=u8
def TU (F:Fun K "weight_of" "weight_of" Us f fd):sQ P w K mg tM v8 1 f fd ["cloth"] (v7 Wt) :=
 o8 (k:=0) (b:=Kq) F Ft rfl λtH A tL s H E hr=>⟨_,(j9 (u6 (iW K rfl (pv 0) z7))),
  rA⟩
abbrev YE:Stmt:=top 12
abbrev GG:MS:=(u9 (xX (z0 vS (q0 (x6 0) x8)) (z5 pGe (x9 0) (x9 1))))
def jO:C5->EA:=p8 2 2 GG
def IW:y8 ["thing","least"] ["thing","least"] (j4 YE):=u8
def RV (F:Fun K "is_from" "is_from" YE f fd)(B6:Fn P w K mg tM 1 "is_whole" ["thing"] (v7 vS)):sQ P w K mg tM v8 2 f fd ["thing","least"] (v7 jO) :=
 o8 (k:=1) (b:=GG) F IW rfl λtH A tL s H E hr=>⟨_,(j9 (u6 (jQ (fW B6 hr (aW (pv 0))) (vp (zU (JU) (pv 0) (pv 1) (m7 _)))))),
  rA⟩
abbrev YF:Stmt:=top 3
abbrev GH:MS:=(y9 (m4 (dOr (n8 (r9 (z0 qJ (q0 (x9 0) (q0 (dC (.ty "str")) x8))))) (n8 (dT (va pLe pLe (dC (.int 1)) (z0 xn (q0 (x9 0) x8)) (dC (.int 8)))))) (u9 (dC (.bl false))) i6)
  (u9 (z0 zf (q0 (c6 [none] [0] (dItS (x6 0)) (w6 0) c7 (va pLeS pLeS (dC (.str "a")) (x9 0) (dC (.str "z")))) x8))))
def JK:C5->EA:=p8 1 1 GH
def IX:y8 ["thing"] ["thing"] (j4 YF):=u8
def RW (F:Fun K "is_name" "is_name" YF f fd)(D8:mg "all"=none)(Ay:mg "isinstance"=none)(Az:mg "len"=none)(S0:mg "str"=none)(Eu:mg "LONGEST_NAME"=some (.int 8 E4)):sQ P w K mg tM v8 1 f fd ["thing"] (v7 JK) :=
 o8 (k:=0) (b:=GH) F IX rfl λtH A tL s H E hr=>⟨_,(j6 (qb (PW.pt (vw (xw (xq K rfl (p7 (jC K) rfl Ay zp (aC (pv 0) (aW (jq (v:= .ty "str") rfl S0 KG rfl)))) (λ_=>rfl))) (wU (xw (WW (Zh) (Zh) z7 (p7 (xj K) rfl Az rl (aW (pv 0))) (wO (v:= .int 8) rfl Eu ⟨_,rfl⟩)))))) (j9 (u6 xH)) qi)
  (j9 (u6 (p7 (wo K rfl rfl) rfl D8 wn (aW (qu (N':=["sign"]) (tK:=[none]) (t6 rfl rfl rfl) rfl (Sy (pv 0)) (λ_ _ _ _ _ _=>(tO (i:=0) ["sign"])) (λ_ _ _ _ _ _=>i9) (λ_ _ _ _ _ _=>(Sg (PN) (PN) qY (pv 0) qY)))))))),
  rA⟩
abbrev YD:Stmt:=top 13
abbrev GF:MS:=(y9 (m4 (dOr (n8 (r9 (z0 qJ (q0 (x9 0) (q0 (dC (.ty "tuple")) x8))))) (dT (z5 pNe (z0 xn (q0 (x9 0) x8)) (dC (.int 5))))) (u9 (dC (.bl false))) i6)
  (y9 (m4 (dOr (n8 (r9 (z0 JK (q0 (z0 zG (q0 (x6 0) x8)) x8)))) (dOr (n8 (r9 (z0 jO (q0 (z0 jN (q0 (x6 0) x8)) (q0 (dC (.int 0)) x8))))) (dT (z5 pGe (z0 jN (q0 (x6 0) x8)) (x9 1))))) (u9 (dC (.bl false))) i6)
  (u9 (xX (z0 jO (q0 (z0 XW (q0 (x6 0) x8)) (q0 (dC (.int 1)) x8))) (xX (z0 vS (q0 (z0 wG (q0 (x6 0) x8)) x8)) (z0 jO (q0 (z0 Wt (q0 (x6 0) x8)) (q0 (dC (.int 1)) x8))))))))
def JJ:C5->EA:=p8 2 2 GF
def IV:y8 ["thing","hues"] ["thing","hues"] (j4 YD):=u8
def RU (F:Fun K "is_cloth" "is_cloth" YD f fd)(Ef:Fn P w K mg tM 1 "due_of" ["cloth"] (v7 wG))(B5:Fn P w K mg tM 1 "hue_of" ["cloth"] (v7 jN))(D7:Fn P w K mg tM 2 "is_from" ["thing","least"] (v7 jO))(Q9:Fn P w K mg tM 1 "is_name" ["thing"] (v7 JK))(B6:Fn P w K mg tM 1 "is_whole" ["thing"] (v7 vS))(Ea:Fn P w K mg tM 1 "length_of" ["cloth"] (v7 XW))(A6:Fn P w K mg tM 1 "name_of" ["cloth"] (v7 zG))(N2:Fn P w K mg tM 1 "weight_of" ["cloth"] (v7 Wt))(Ay:mg "isinstance"=none)(Az:mg "len"=none)(S5:mg "tuple"=none)(S4:mg "PARTS"=some (.int 5 S6)):sQ P w K mg tM v8 3 f fd ["thing","hues"] (v7 JJ) :=
 o8 (k:=2) (b:=GF) F IV rfl λtH A tL s H E hr=>⟨_,(j6 (qb (PW.pt (vw (xw (xq K rfl (p7 (jC K) rfl Ay zp (aC (pv 0) (aW (jq (v:= .ty "tuple") rfl S5 MR rfl)))) (λ_=>rfl))) (wU (qc (QQ K (qC hr) rfl) (p7 (xj K) rfl Az rl (aW (pv 0))) (wO (v:= .int 5) rfl S4 ⟨_,rfl⟩) (m7 _))))) (j9 (u6 xH)) qi)
  (j6 (qb (PW.pt (vw (xw (xq K rfl (fW Q9 hr (aW (fW A6 hr (aW (pv 0))))) (λ_=>rfl))) (vw (xw (xq K rfl (fW D7 hr (aC (fW B5 hr (aW (pv 0))) (aW z7))) (λ_=>rfl))) (wU (qc (JU) (fW B5 hr (aW (pv 0))) (pv 1) (m7 _)))))) (j9 (u6 xH)) qi)
  (j9 (u6 (jQ (fW D7 hr (aC (fW Ea hr (aW (pv 0))) (aW z7))) (jQ (fW B6 hr (aW (fW Ef hr (aW (pv 0))))) (vp (fW D7 hr (aC (fW N2 hr (aW (pv 0))) (aW z7)))))))))),
  rA⟩
abbrev YI:Stmt:=top 52
abbrev GK:MS:=(y9 (m4 (dOr (n8 (r9 (z0 qJ (q0 (x9 0) (q0 (dC (.ty "list")) x8))))) (dT (z5 pNe (z0 xn (q0 (x9 0) x8)) (x9 1)))) (u9 (dC (.bl false))) i6)
  (u9 (z0 zf (q0 (c6 [none] [0] (b8 (x6 0)) (w6 0) c7 (xX (z0 vS (q0 (x6 0) x8)) (z5 pGe (x9 0) (dC (.int 0))))) x8))))
def XT:C5->EA:=p8 2 2 GK
def Fb:y8 ["row","hues"] ["row","hues"] (j4 YI):=u8
def RZ (F:Fun K "is_rinse_row" "is_rinse_row" YI f fd)(B6:Fn P w K mg tM 1 "is_whole" ["thing"] (v7 vS))(D8:mg "all"=none)(Ay:mg "isinstance"=none)(Az:mg "len"=none)(A8:mg "list"=none):sQ P w K mg tM v8 2 f fd ["row","hues"] (v7 XT) :=
 o8 (k:=1) (b:=GK) F Fb rfl λtH A tL s H E hr=>⟨_,(j6 (qb (PW.pt (vw (xw (xq K rfl (p7 (jC K) rfl Ay zp (aC (pv 0) (aW (jq (v:= .ty "list") rfl A8 vF rfl)))) (λ_=>rfl))) (wU (qc (QQ K (qC hr) rfl) (p7 (xj K) rfl Az rl (aW (pv 0))) (pv 1) (m7 _))))) (j9 (u6 xH)) qi)
  (j9 (u6 (p7 (wo K rfl rfl) rfl D8 wn (aW (qu (N':=["number"]) (tK:=[none]) (t6 rfl rfl rfl) rfl (@i7 _ K _ _ _ rfl (pv 0)) (λ_ _ _ _ _ _=>(tO (i:=0) ["number"])) (λ_ _ _ _ _ _=>i9) (λ_ _ _ _ _ _=>(jQ (fW B6 hr (aW (pv 0))) (vp (zU (JU) (pv 0) z7 (m7 _))))))))))),
  rA⟩
abbrev Ys:Stmt:=top 53
abbrev Gx:MS:=(y9 (m4 (n8 (r9 (z0 qJ (q0 (x9 0) (q0 (dC (.ty "list")) x8))))) qz i6)
  (y9 (p9 1 (z5 vo (z0 xn (q0 (x9 0) x8)) (dC (.int 1))))
  (y9 (m4 (n8 (dT (va pLe pLe (dC (.int 1)) (x9 1) (dC (.int 4))))) qz i6)
  (m4 (n8 (r9 (z0 zf (q0 (c6 [none,some 1] [0] (b8 (x6 0)) (w6 0) c7 (z0 XT (q0 (x6 0) (q0 (x6 1) x8)))) x8)))) qz i6))))
def JH:C5->EA:=p8 2 1 Gx
def sw:y8 ["rinses","hues"] ["rinses"] (j4 Ys):=u8
def RG (F:Fun K "check_rinses" "check_rinses" Ys f fd)(E1:Fn P w K mg tM 2 "is_rinse_row" ["row","hues"] (v7 XT))(D8:mg "all"=none)(Ay:mg "isinstance"=none)(Az:mg "len"=none)(A8:mg "list"=none)(N3:mg "MOST_HUES"=some (.int 4 N5)):sQ P w K mg tM v8 3 f fd ["rinses"] (v7 JH) :=
 o8 (k:=2) (b:=Gx) F sw rfl λtH A tL s H E hr=>⟨_,(j6 (qb (xw (xq K rfl (p7 (jC K) rfl Ay zp (aC (pv 0) (aW (jq (v:= .ty "list") rfl A8 vF rfl)))) (λ_=>rfl))) (j9 vt) qi)
  (j6 (sW 1 sw.nd (u4 (QS) (p7 (xj K) rfl Az rl (aW (pv 0))) z7))
  (j6 (qb (xw (WW (Zh) (Zh) z7 (pv 1) (wO (v:= .int 4) rfl N3 ⟨_,rfl⟩))) (j9 vt) qi)
  (j9 (qb (xw (xq K rfl (p7 (wo K rfl rfl) rfl D8 wn (aW (qu (N':=["row","hues"]) (tK:=[none,some 1]) (t6 rfl rfl rfl) rfl (@i7 _ K _ _ _ rfl (pv 0)) (λ_ _ _ _ _ _=>(tO (i:=0) ["row","hues"])) (λ_ _ _ _ _ _=>i9) (λ_ _ _ _ _ _=>(fW E1 hr (aC (pv 0) (aW (pv 1)))))))) (λ_=>rfl))) (j9 vt) qi))))),
  rA⟩
abbrev Uc:Stmt:=top 54
abbrev Kd:MS:=(u9 (c6 [none,none] [0,1] (jE (q0 (x6 0) x8)) (zd 2 (qh (w6 0) (qh (w6 1) zc))) c7 (xu (q0 (x6 1) (q0 (p6 (q0 (x6 0) x8)) x8)))))
def XY:C5->EA:=qG 1 1 Kd
def Fk:y8 ["row"] ["row"] (j4 Uc):=u8
def Tu (F:Fun K "straight_ways" "straight_ways" Uc f fd)(A9:mg "enumerate"=none):sQ P w K mg tM v8 1 f fd ["row"] (qa XY) :=
 okO (k:=0) (b:=Kd) F Fk rfl λtH A tL s H E hr=>⟨_,(j9 (u6 (qu (N':=["hue","number"]) (tK:=[none,none]) (t6 rfl rfl rfl) rfl (WP K rfl rfl A9 (aW (pv 0))) (λ_ _ _ _ _ _=>(QW K (n:=2) rfl rfl (zV (tO (i:=0) ["hue","number"]) (zV (tO (i:=1) ["hue","number"]) QX)))) (λ_ _ _ _ _ _=>i9) (λ_ _ _ _ _ _=>(@zI _ _ _ _ _ (aC (pv 1) (aW (@m8 _ _ _ _ (aW (pv 0)))))))))),
  rA⟩
abbrev YL:Stmt:=top 55
abbrev GN:MS:=(u9 (xu (q0 (z5 b9 (z5 k6 (x9 0) (dC (.int 0))) (z5 k6 (x9 1) (dC (.int 0)))) (q0 (z5 b9 (z5 k6 (x9 0) (dC (.int 1))) (z5 k6 (x9 1) (dC (.int 1)))) x8))))
def XU:C5->EA:=p8 2 2 GN
def Fd:y8 ["way","onward"] ["way","onward"] (j4 YL):=u8
def Tc (F:Fun K "joined" "joined" YL f fd):sQ P w K mg tM v8 1 f fd ["way","onward"] (v7 XU) :=
 o8 (k:=0) (b:=GN) F Fd rfl λtH A tL s H E hr=>⟨_,(j9 (u6 (@zI _ _ _ _ _ (aC (u4 (t0 K) (iW K rfl (pv 0) z7) (iW K rfl (pv 1) z7)) (aW (u4 (t0 K) (iW K rfl (pv 0) z7) (iW K rfl (pv 1) z7))))))),
  rA⟩
abbrev YR:Stmt:=top 56
abbrev GS:MS:=(u9 (dIf (dT (z5 pLt (z5 k6 (x9 1) (dC (.int 0))) (z5 k6 (x9 0) (dC (.int 0))))) (x6 1) (x6 0)))
def XX:C5->EA:=p8 2 2 GS
def Fh:y8 ["way","other"] ["way","other"] (j4 YR):=u8
def Th (F:Fun K "lesser" "lesser" YR f fd):sQ P w K mg tM v8 1 f fd ["way","other"] (v7 XX) :=
 o8 (k:=0) (b:=GS) F Fh rfl λtH A tL s H E hr=>⟨_,(j9 (u6 (WK (qc (Zi) (iW K rfl (pv 1) z7) (iW K rfl (pv 0) z7) (m7 _)) (pv 1) (pv 0)))),
  rA⟩
abbrev Ur:Stmt:=top 57
abbrev Kp:MS:=(u9 (c6 [none,none,some 0,some 1] [0,1] (vK (q0 (x6 0) (q0 (x6 2) x8))) (zd 2 (qh (w6 0) (qh (w6 1) zc))) c7 (z0 XX (q0 (x6 0) (q0 (z0 XU (q0 (z5 k6 (x9 2) (x9 3)) (q0 (x6 1) x8))) x8)))))
def QM:C5->EA:=qG 3 3 Kp
def Fs:y8 ["ways","hue","onward"] ["ways","hue","onward"] (j4 Ur):=u8
def TR (F:Fun K "ways_through" "ways_through" Ur f fd)(R4:Fn P w K mg tM 1 "joined" ["way","onward"] (v7 XU))(R3:Fn P w K mg tM 1 "lesser" ["way","other"] (v7 XX))(Q2:mg "zip"=none):sQ P w K mg tM v8 2 f fd ["ways","hue","onward"] (qa QM) :=
 okO (k:=1) (b:=Kp) F Fs rfl λtH A tL s H E hr=>⟨_,(j9 (u6 (qu (N':=["way","more","ways","hue"]) (tK:=[none,none,some 0,some 1]) (t6 rfl rfl rfl) rfl (WQ K rfl rfl Q2 (aC (pv 0) (aW (pv 2)))) (λ_ _ _ _ _ _=>(QW K (n:=2) rfl rfl (zV (tO (i:=0) ["way","more","ways","hue"]) (zV (tO (i:=1) ["way","more","ways","hue"]) QX)))) (λ_ _ _ _ _ _=>i9) (λ_ _ _ _ _ _=>(fW R3 hr (aC (pv 0) (aW (fW R4 hr (aC (iW K rfl (pv 2) (pv 3)) (aW (pv 1))))))))))),
  rA⟩
abbrev YO:Stmt:=top 58
abbrev GQ:MS:=(y9 (p9 1 (c6 [none] [0] (b8 (x6 0)) (w6 0) c7 (z0 XY (q0 (x6 0) x8))))
  (y9 (xY (zQ (q0 (z5 vo (z0 xn (q0 (x9 0) x8)) (dC (.int 1))) x8)) (w6 2) (y9 (p9 3 (z5 k6 (x9 1) (x9 2)))
  (p9 1 (c6 [none,some 2,some 3] [0] (b8 (x6 1)) (w6 0) c7 (z0 QM (q0 (x6 0) (q0 (x6 1) (q0 (x6 2) x8))))))))
  (u9 (x6 1))))
def JM:C5->EA:=p8 4 1 GQ
def rY:y8 ["rinses","table","hue","onward"] ["rinses"] (j4 YO):=u8
def Tf (F:Fun K "least_ways" "least_ways" YO f fd)(Et:Fn P w K mg tM 1 "straight_ways" ["row"] (qa XY))(E5:Fn P w K mg tM 2 "ways_through" ["ways","hue","onward"] (qa QM))(Az:mg "len"=none)(A4:mg "range"=none):sQ P w K mg tM v8 3 f fd ["rinses"] (v7 JM) :=
 o8 (k:=2) (b:=GQ) F rY rfl λtH A tL s H E hr=>⟨_,(j6 (jt (i:=1) (N':=["row"]) (tK:=[none]) (t6 rfl rfl rfl) rfl rY.nd rfl rfl (@i7 _ K _ _ _ rfl (pv 0)) (λ_ _ _ _ _ _=>(tO (i:=0) ["row"])) (λ_ _ _ _ _ _=>i9) (λ_ _ _ _ _ _=>(fW Et hr (aW (pv 0)))))
  (j6 (zi PassesOwn.never rfl (vq rfl A4 (aW (u4 (QS) (p7 (xj K) rfl Az rl (aW (pv 0))) z7))) (gW 2 rY.nd)
   (j6 (sW 3 rY.nd (iW K rfl (pv 1) (pv 2)))
  (j9 (jt (i:=1) (N':=["ways","hue","onward"]) (tK:=[none,some 2,some 3]) (t6 rfl rfl rfl) rfl rY.nd rfl rfl (@i7 _ K _ _ _ rfl (pv 1)) (λ_ _ _ _ _ _=>(tO (i:=0) ["ways","hue","onward"])) (λ_ _ _ _ _ _=>i9) (λ_ _ _ _ _ _=>(fW E5 hr (aC (pv 0) (aC (pv 1) (aW (pv 2))))))))))
  (j9 (u6 (pv 1))))),
  rA⟩
abbrev Ud:Stmt:=top 59
abbrev Ke:MS:=(u9 (c6 [none] [0] (b8 (x6 0)) (w6 0) c7 (z5 k6 (x9 0) (dC (.int 0)))))
def JO:C5->EA:=qG 1 1 Ke
def Fl:y8 ["ways"] ["ways"] (j4 Ud):=u8
def Tx (F:Fun K "sums_of" "sums_of" Ud f fd):sQ P w K mg tM v8 1 f fd ["ways"] (qa JO) :=
 okO (k:=0) (b:=Ke) F Fl rfl λtH A tL s H E hr=>⟨_,(j9 (u6 (qu (N':=["way"]) (tK:=[none]) (t6 rfl rfl rfl) rfl (@i7 _ K _ _ _ rfl (pv 0)) (λ_ _ _ _ _ _=>(tO (i:=0) ["way"])) (λ_ _ _ _ _ _=>i9) (λ_ _ _ _ _ _=>(iW K rfl (pv 0) z7))))),
  rA⟩
abbrev YN:Stmt:=top 60
abbrev GP:MS:=(y9 (qT (z0 JH (q0 (x6 0) x8)))
  (u9 (c6 [none] [0] (b8 (z0 JM (q0 (x6 0) x8))) (w6 0) c7 (z0 JO (q0 (x6 0) x8)))))
def JL:C5->EA:=qG 1 1 GP
def Fe:y8 ["rinses"] ["rinses"] (j4 YN):=u8
def Te (F:Fun K "least_rinses" "least_rinses" YN f fd)(Ew:Fn P w K mg tM 3 "check_rinses" ["rinses"] (v7 JH))(J8:Fn P w K mg tM 3 "least_ways" ["rinses"] (v7 JM))(Q6:Fn P w K mg tM 1 "sums_of" ["ways"] (qa JO)):sQ P w K mg tM v8 4 f fd ["rinses"] (qa JL) :=
 okO (k:=3) (b:=GP) F Fe rfl λtH A tL s H E hr=>⟨_,(j6 (xp (fW Ew hr (aW (pv 0))))
  (j9 (u6 (qu (N':=["ways"]) (tK:=[none]) (t6 rfl rfl rfl) rfl (@i7 _ K _ _ _ rfl (fW J8 hr (aW (pv 0)))) (λ_ _ _ _ _ _=>(tO (i:=0) ["ways"])) (λ_ _ _ _ _ _=>i9) (λ_ _ _ _ _ _=>(fW Q6 hr (aW (pv 0)))))))),
  rA⟩
abbrev Yt:Stmt:=top 63
abbrev Gy:MS:=(y9 (m4 (Xw (dT (z5 wM (x9 0) (dC .non))) (n8 (Xw (r9 (z0 jO (q0 (x6 0) (q0 (dUn Zm (dC (.int 1))) x8)))) (dT (z5 pLt (x9 0) (x9 2)))))) qz i6)
  (m4 (n8 (r9 (z0 jO (q0 (x6 1) (q0 (dC (.int 0)) x8))))) qz i6))
def JI:C5->EA:=p8 3 3 Gy
def IN:y8 ["last","time","hues"] ["last","time","hues"] (j4 Yt):=u8
def RH (F:Fun K "check_start" "check_start" Yt f fd)(D7:Fn P w K mg tM 2 "is_from" ["thing","least"] (v7 jO)):sQ P w K mg tM v8 3 f fd ["last","time","hues"] (v7 JI) :=
 o8 (k:=2) (b:=Gy) F IN rfl λtH A tL s H E hr=>⟨_,(j6 (qb (PW.pt (Ch (qc (PP) (pv 0) vV (m7 _)) (Ci (xw (PW.pt (Ch (xq K rfl (fW D7 hr (aC (pv 0) (aW (Va Vn z7)))) (λ_=>rfl)) (Ci (qc (Zi) (pv 0) (pv 2) (m7 _))))))))) (j9 vt) qi)
  (j9 (qb (xw (xq K rfl (fW D7 hr (aC (pv 1) (aW z7))) (λ_=>rfl))) (j9 vt) qi))),
  rA⟩
abbrev Yr:Stmt:=top 64
abbrev Gw:MS:=(y9 (m4 (dT (z5 pGt (z0 xn (q0 (x9 0) x8)) (dC (.int 10)))) qz i6)
  (y9 (vI 2 KZ)
  (xY (b8 (x6 0)) (w6 3) (y9 (m4 (n8 (r9 (z0 JJ (q0 (x6 3) (q0 (x6 1) x8))))) qz i6)
  (y9 (m4 (dT (dDIn (z0 zG (q0 (x6 3) x8)) (x9 2))) qz i6)
  (dPut 2 (z0 zG (q0 (x6 3) x8)) (dC (.bl true))))))))
def JG:C5->EA:=p8 4 2 Gw
def sy:y8 ["cloths","hues","seen","cloth"] ["cloths","hues"] (j4 Yr):=u8
def RF (F:Fun K "check_cloths" "check_cloths" Yr f fd)(N7:Fn P w K mg tM 3 "is_cloth" ["thing","hues"] (v7 JJ))(A6:Fn P w K mg tM 1 "name_of" ["cloth"] (v7 zG))(Az:mg "len"=none)(Id:mg "MOST_CLOTHS"=some (.int 10 J0)):sQ P w K mg tM v8 4 f fd ["cloths","hues"] (v7 JG) :=
 o8 (k:=3) (b:=Gw) F sy rfl λtH A tL s H E hr=>⟨_,(j6 (qb (qc (WF) (p7 (xj K) rfl Az rl (aW (pv 0))) (wO (v:= .int 10) rfl Id ⟨_,rfl⟩) (m7 _)) (j9 vt) qi)
  (j6 (sW 2 sy.nd Sh)
  (j9 (zi PassesOwn.never rfl (@i7 _ K _ _ _ rfl (pv 0)) (gW 3 sy.nd)
   (j6 (qb (xw (xq K rfl (fW N7 hr (aC (pv 3) (aW (pv 1)))) (λ_=>rfl))) (j9 vt) qi)
  (j6 (qb (Ce (Se (vO hr) (fW A6 hr (aW (pv 3))) (pv 2))) (j9 vt) qi)
  (j9 (SJ (vO hr) (pv 2) (fW A6 hr (aW (pv 3))) xH rfl)))))))),
  rA⟩
abbrev Yl:Stmt:=vg (top 65) 1
abbrev Go (Av:Addr):MS:=(u9 (z5 vo (z0 xn (q0 (zq Av "least" (x6 0)) x8)) (dC (.int 1))))
def vj (Av:Addr):C5->EA:=p8 1 1 (Go Av)
def IG:y8 ["self"] ["self"] (j4 Yl):=u8
def Rw (F:Fun K "hues" "Works.hues" Yl f fd)(Az:mg "len"=none)[zP K Av][xh K Av "least"]:sQ P w K mg tM v8 1 f fd ["self"] (v7 (vj Av)) :=
 o8 (k:=0) (b:=(Go Av)) F IG rfl λtH A tL s H E hr=>⟨_,(j9 (u6 (u4 (QS) (p7 (xj K) rfl Az rl (aW (vU K rfl (pv 0) rfl))) z7))),
  rA⟩
abbrev Yo:Stmt:=vg (top 65) 4
abbrev Gr (Av:Addr):MS:=(u9 (z5 k6 (z5 k6 (zq Av "least" (x6 0)) (x9 1)) (x9 2)))
def QG (Av:Addr):C5->EA:=p8 3 3 (Gr Av)
def IK:y8 ["self","first","then"] ["self","first","then"] (j4 Yo):=u8
def RA (F:Fun K "tray_rinse" "Works.tray_rinse" Yo f fd)[zP K Av][xh K Av "least"]:sQ P w K mg tM v8 1 f fd ["self","first","then"] (v7 (QG Av)) :=
 o8 (k:=0) (b:=(Gr Av)) F IK rfl λtH A tL s H E hr=>⟨_,(j9 (u6 (iW K rfl (iW K rfl (vU K rfl (pv 0) rfl) (pv 1)) (pv 2)))),
  rA⟩
abbrev Yn:Stmt:=vg (top 65) 5
abbrev Gq (Av:Addr):MS:=(u9 (xu (q0 (zq Av "last" (x6 0)) (q0 (zq Av "time" (x6 0)) x8))))
def wF (Av:Addr):C5->EA:=p8 1 1 (Gq Av)
def IJ:y8 ["self"] ["self"] (j4 Yn):=u8
def Rz (F:Fun K "start" "Works.start" Yn f fd)[zP K Av][xh K Av "last"][xh K Av "time"]:sQ P w K mg tM v8 1 f fd ["self"] (v7 (wF Av)) :=
 o8 (k:=0) (b:=(Gq Av)) F IJ rfl λtH A tL s H E hr=>⟨_,(j9 (u6 (@zI _ _ _ _ _ (aC (vU K rfl (pv 0) rfl) (aW (vU K rfl (pv 0) rfl)))))),
  rA⟩
abbrev Ym:Stmt:=vg (top 65) 6
abbrev Gp (Av:Addr):MS:=(u9 (z0 WJ (q0 (zq Av "held" (x6 0)) x8)))
def wE (Av:Addr):C5->EA:=qG 1 1 (Gp Av)
def II:y8 ["self"] ["self"] (j4 Ym):=u8
def Ry (F:Fun K "names" "Works.names" Ym f fd)(J2:mg "sorted"=none)[zP K Av][xh K Av "held"]:sQ P w K mg tM v8 1 f fd ["self"] (qa (wE Av)) :=
 okO (k:=0) (b:=(Gp Av)) F II rfl λtH A tL s H E hr=>⟨_,(j9 (u6 (p7 (Lk (K:=K) rfl rfl) rfl J2 KE (aW (vU K rfl (pv 0) rfl))))),
  rA⟩
abbrev YV:Stmt:=top 14
abbrev GV:MS:=(u9 (c6 [none] [0] (b8 (x6 0)) (w6 0) c7 (z0 zG (q0 (x6 0) x8))))
def JN:C5->EA:=qG 1 1 GV
def Fj:y8 ["cloths"] ["cloths"] (j4 YV):=u8
def Tl (F:Fun K "names_of" "names_of" YV f fd)(A6:Fn P w K mg tM 1 "name_of" ["cloth"] (v7 zG)):sQ P w K mg tM v8 2 f fd ["cloths"] (qa JN) :=
 okO (k:=1) (b:=GV) F Fj rfl λtH A tL s H E hr=>⟨_,(j9 (u6 (qu (N':=["cloth"]) (tK:=[none]) (t6 rfl rfl rfl) rfl (@i7 _ K _ _ _ rfl (pv 0)) (λ_ _ _ _ _ _=>(tO (i:=0) ["cloth"])) (λ_ _ _ _ _ _=>i9) (λ_ _ _ _ _ _=>(fW A6 hr (aW (pv 0))))))),
  rA⟩
abbrev Vk:Stmt:=top 15
abbrev Gv:MS:=(u9 (Ba [] (q0 (x6 0) x8) (xu (q0 (z0 wG (q0 (x6 0) x8)) (q0 (z0 zG (q0 (x6 0) x8)) x8)))))
def JF:C5->EA:=qG 1 1 Gv
def IM:y8 ["cloths"] ["cloths"] (j4 Vk):=u8
def RE (F:Fun K "by_dues" "by_dues" Vk f fd)(Ef:Fn P w K mg tM 1 "due_of" ["cloth"] (v7 wG))(A6:Fn P w K mg tM 1 "name_of" ["cloth"] (v7 zG))(J2:mg "sorted"=none){c_l P_l:Addr}{p_l:ED}(l_f:fd.code = .ref c_l)(l_C:∀ h:Heap,K.In h->PySem.W.CodeHd h c_l P_l)(l_P:(P_l,p_l,[((⟨35,30,35,75⟩:Pos),("by_dues.<locals>.<lambda>":Str))])∈TABS):sQ P w K mg tM v8 6 f fd ["cloths"] (qa JF) :=
 okOC (k:=5) (b:=Gv) F IM rfl λA tL s H E hr=>⟨_,(j9 (u6 (So (K:=K) (k:=2) (x:="cloth") (fr:=[]) (fi:=[]) (clos:=[]) rfl (hr.mono (by decide)) rfl J2 (aW (pv 0)) l_P
  (by exact yU.mpr rfl) (λp hp _=>by rw [yU.mp hp];rfl) l_f l_C ⟨rfl,rfl,rfl,by decide +kernel,by decide +kernel,(λx h=>by
   exfalso
   revert h
   show ¬ (List.lookup x _=_);simp only [List.lookup]
   repeat' split
   all_goals simp),by decide +kernel⟩ ⟨rfl,(λj y i e=>by simp at e),(λy c e=>by cases e),(λy c hy=>by simp at hy)⟩
  (λf c' s H hr2=>(@zI _ _ _ _ _ (aC (fW Ef hr2 (aW (pv 0))) (aW (fW A6 hr2 (aW (pv 0)))))))
  (λ_ _ _ _ _=>rfl)))),
  rA⟩
abbrev Yj:Stmt:=vg (top 65) 8
abbrev Gm (Av:Addr):MS:=(u9 (c6 [none,some 1] [0] (dItV (zq Av "held" (x6 0))) (w6 0) (dT (z5 i5 (z0 jN (q0 (x6 0) x8)) (x9 1))) (x6 0)))
def XR (Av:Addr):C5->EA:=qG 2 2 (Gm Av)
def ID:y8 ["self","hue"] ["self","hue"] (j4 Yj):=u8
def Ru (F:Fun K "cloths_in" "Works.cloths_in" Yj f fd)(B5:Fn P w K mg tM 1 "hue_of" ["cloth"] (v7 jN))[zP K Av][xh K Av "held"]:sQ P w K mg tM v8 2 f fd ["self","hue"] (qa (XR Av)) :=
 okO (k:=1) (b:=(Gm Av)) F ID rfl λtH A tL s H E hr=>⟨_,(j9 (u6 (qu (N':=["cloth","hue"]) (tK:=[none,some 1]) (t6 rfl rfl rfl) rfl (Sz (vU K rfl (pv 0) rfl)) (λ_ _ _ _ _ _=>(tO (i:=0) ["cloth","hue"])) (λ_ _ _ _ _ _=>(Vf (qc (xG K (qC hr) rfl) (fW B5 hr (aW (pv 0))) (pv 1) (m7 _)))) (λ_ _ _ _ _ _=>(pv 0))))),
  rA⟩
abbrev Yk:Stmt:=vg (top 65) 9
abbrev Gn (Av:Addr):MS:=(u9 (z0 JN (q0 (z0 JF (q0 (xK Av "cloths_in" (XR Av) (x6 0) (q0 (x6 1) x8)) x8)) x8)))
def QE (Av:Addr):C5->EA:=qG 2 2 (Gn Av)
def IE:y8 ["self","hue"] ["self","hue"] (j4 Yk):=u8
def Rv (F:Fun K "due_row" "Works.due_row" Yk f fd)(Q8:Fn P w K mg tM 6 "by_dues" ["cloths"] (qa JF))(Q0:Fn P w K mg tM 2 "names_of" ["cloths"] (qa JN))(Eg:Mt P w K mg tM 2 Av "cloths_in" ["self","hue"] (qa (XR Av))):sQ P w K mg tM v8 7 f fd ["self","hue"] (qa (QE Av)) :=
 okO (k:=6) (b:=(Gn Av)) F IE rfl λtH A tL s H E hr=>⟨_,(j9 (u6 (fW Q0 hr (aW (fW Q8 hr (aW (Zo Eg hr (by decide) (pv 0) (aW (pv 1))))))))),
  rA⟩
abbrev Yi:Stmt:=vg (top 65) 7
abbrev Gk (Av:Addr):MS:=(y9 (m4 (dOr (n8 (r9 (z0 qJ (q0 (x9 1) (q0 (dC (.ty "str")) x8))))) (dT (Jd (x9 1) (zq Av "held" (x6 0))))) qz i6)
  (u9 (vc (zq Av "held" (x6 0)) (x9 1))))
def wD (Av:Addr):C5->EA:=p8 2 2 (Gk Av)
def IC:y8 ["self","name"] ["self","name"] (j4 Yi):=u8
def Rt (F:Fun K "cloth" "Works.cloth" Yi f fd)(Ay:mg "isinstance"=none)(S0:mg "str"=none)[zP K Av][xh K Av "held"]:sQ P w K mg tM v8 1 f fd ["self","name"] (v7 (wD Av)) :=
 o8 (k:=0) (b:=(Gk Av)) F IC rfl λtH A tL s H E hr=>⟨_,(j6 (qb (PW.pt (vw (xw (xq K rfl (p7 (jC K) rfl Ay zp (aC (pv 1) (aW (jq (v:= .ty "str") rfl S0 KG rfl)))) (λ_=>rfl))) (wU (Ce (Sf (vO hr) (pv 1) (vU K rfl (pv 0) rfl)))))) (j9 vt) qi)
  (j9 (u6 (Zn (vO hr) (vU K rfl (pv 0) rfl) (pv 1) (λ_ _=>rfl))))),
  rA⟩
abbrev Yq:Stmt:=top 27
abbrev Gu (Av:Addr):MS:=(y9 (m4 (n8 (r9 (z0 qJ (q0 (x9 1) (q0 (dC (.ty "list")) x8))))) (u9 (dC (.bl false))) i6)
  (y9 (p9 2 (xK Av "names" (wE Av) (x6 0) x8))
  (u9 (xX (z0 zf (q0 (c6 [none,some 2] [0] (b8 (x6 1)) (w6 0) c7 (z5 Zk (x9 0) (x9 1))) x8)) (z5 i5 (VN (x9 1)) (z0 xn (q0 (x9 1) x8)))))))
def QH (Av:Addr):C5->EA:=p8 3 2 (Gu Av)
def sB:y8 ["works","names","known"] ["works","names"] (j4 Yq):=u8
def RC (F:Fun K "are_names" "are_names" Yq f fd)(D8:mg "all"=none)(Ay:mg "isinstance"=none)(Az:mg "len"=none)(A8:mg "list"=none)(Z3:mg "set"=none)(B9:Mt P w K mg tM 1 Av "names" ["self"] (qa (wE Av))):sQ P w K mg tM v8 2 f fd ["works","names"] (v7 (QH Av)) :=
 o8 (k:=1) (b:=(Gu Av)) F sB rfl λtH A tL s H E hr=>⟨_,(j6 (qb (xw (xq K rfl (p7 (jC K) rfl Ay zp (aC (pv 1) (aW (jq (v:= .ty "list") rfl A8 vF rfl)))) (λ_=>rfl))) (j9 (u6 xH)) qi)
  (j6 (sW 2 sB.nd (wQ B9 hr (by decide) (pv 0)))
  (j9 (u6 (jQ (p7 (wo K rfl rfl) rfl D8 wn (aW (qu (N':=["thing","known"]) (tK:=[none,some 2]) (t6 rfl rfl rfl) rfl (@i7 _ K _ _ _ rfl (pv 1)) (λ_ _ _ _ _ _=>(tO (i:=0) ["thing","known"])) (λ_ _ _ _ _ _=>i9) (λ_ _ _ _ _ _=>(zU (TW (K:=K) (qC hr) rfl) (pv 0) (pv 1) (by with_unfolding_all rfl)))))) (vp (zU (xG K (qC hr) rfl) (p7 Ld rfl Az rl (aW (wN (Lh (K:=K) rfl rfl) rfl Z3 MQ (aW (pv 1))))) (p7 (xj K) rfl Az rl (aW (pv 1))) (m7 _)))))))),
  rA⟩
abbrev YH:Stmt:=top 28
abbrev GJ (Av:Addr):MS:=(u9 (xX (z0 (QH Av) (q0 (x6 0) (q0 (x6 1) x8))) (z5 i5 (z0 xn (q0 (x9 1) x8)) (z0 xn (q0 (xK Av "names" (wE Av) (x6 0) x8) x8)))))
def jm (Av:Addr):C5->EA:=p8 2 2 (GJ Av)
def IZ:y8 ["works","names"] ["works","names"] (j4 YH):=u8
def RY (F:Fun K "is_plan" "is_plan" YH f fd)(N4:Fn P w K mg tM 2 "are_names" ["works","names"] (v7 (QH Av)))(Az:mg "len"=none)(B9:Mt P w K mg tM 1 Av "names" ["self"] (qa (wE Av))):sQ P w K mg tM v8 3 f fd ["works","names"] (v7 (jm Av)) :=
 o8 (k:=2) (b:=(GJ Av)) F IZ rfl λtH A tL s H E hr=>⟨_,(j9 (u6 (jQ (fW N4 hr (aC (pv 0) (aW (pv 1)))) (vp (zU (xG K (qC hr) rfl) (p7 (xj K) rfl Az rl (aW (pv 1))) (p7 (xj K) rfl Az rl (aW (wQ B9 hr (by decide) (pv 0)))) (m7 _)))))),
  rA⟩
abbrev Yw:Stmt:=top 32
abbrev GA (Av:Addr):MS:=(u9 (c6 [none,some 0] [0] (b8 (x6 1)) (w6 0) c7 (xK Av "cloth" (wD Av) (x6 1) (q0 (x6 0) x8))))
def vm (Av:Addr):C5->EA:=p8 2 2 (GA Av)
def IQ:y8 ["works","tray"] ["works","tray"] (j4 Yw):=u8
def RK (F:Fun K "cloths_of" "cloths_of" Yw f fd)(D1:Mt P w K mg tM 1 Av "cloth" ["self","name"] (v7 (wD Av))):sQ P w K mg tM v8 2 f fd ["works","tray"] (v7 (vm Av)) :=
 o8 (k:=1) (b:=(GA Av)) F IQ rfl λtH A tL s H E hr=>⟨_,(j9 (u6 (qu (N':=["name","works"]) (tK:=[none,some 0]) (t6 rfl rfl rfl) rfl (@i7 _ K _ _ _ rfl (pv 1)) (λ_ _ _ _ _ _=>(tO (i:=0) ["name","works"])) (λ_ _ _ _ _ _=>i9) (λ_ _ _ _ _ _=>(Zo D1 hr (by decide) (pv 1) (aW (pv 0))))))),
  rA⟩
abbrev Ug:Stmt:=top 33
abbrev Kh (Av:Addr):MS:=(u9 (z0 jN (q0 (xK Av "cloth" (wD Av) (x6 0) (q0 (z5 k6 (x9 1) (dC (.int 0))) x8)) x8)))
def jn (Av:Addr):C5->EA:=p8 2 2 (Kh Av)
def Fo:y8 ["works","tray"] ["works","tray"] (j4 Ug):=u8
def TB (F:Fun K "tray_hue" "tray_hue" Ug f fd)(B5:Fn P w K mg tM 1 "hue_of" ["cloth"] (v7 jN))(D1:Mt P w K mg tM 1 Av "cloth" ["self","name"] (v7 (wD Av))):sQ P w K mg tM v8 2 f fd ["works","tray"] (v7 (jn Av)) :=
 o8 (k:=1) (b:=(Kh Av)) F Fo rfl λtH A tL s H E hr=>⟨_,(j9 (u6 (fW B5 hr (aW (Zo D1 hr (by decide) (pv 0) (aW (iW K rfl (pv 1) z7))))))),
  rA⟩
abbrev YG:Stmt:=top 36
abbrev GI (Av:Addr):MS:=(u9 (z0 zf (q0 (c6 [none,some 0,some 1] [0] (b8 (z0 (vm Av) (q0 (x6 0) (q0 (x6 1) x8)))) (w6 0) c7 (z5 i5 (z0 jN (q0 (x6 0) x8)) (z0 (jn Av) (q0 (x6 1) (q0 (x6 2) x8))))) x8)))
def vR (Av:Addr):C5->EA:=p8 2 2 (GI Av)
def IY:y8 ["works","tray"] ["works","tray"] (j4 YG):=u8
def RX (F:Fun K "is_of_one_hue" "is_of_one_hue" YG f fd)(B3:Fn P w K mg tM 2 "cloths_of" ["works","tray"] (v7 (vm Av)))(B5:Fn P w K mg tM 1 "hue_of" ["cloth"] (v7 jN))(B4:Fn P w K mg tM 2 "tray_hue" ["works","tray"] (v7 (jn Av)))(D8:mg "all"=none):sQ P w K mg tM v8 3 f fd ["works","tray"] (v7 (vR Av)) :=
 o8 (k:=2) (b:=(GI Av)) F IY rfl λtH A tL s H E hr=>⟨_,(j9 (u6 (p7 (wo K rfl rfl) rfl D8 wn (aW (qu (N':=["cloth","works","tray"]) (tK:=[none,some 0,some 1]) (t6 rfl rfl rfl) rfl (@i7 _ K _ _ _ rfl (fW B3 hr (aC (pv 0) (aW (pv 1))))) (λ_ _ _ _ _ _=>(tO (i:=0) ["cloth","works","tray"])) (λ_ _ _ _ _ _=>i9) (λ_ _ _ _ _ _=>(zU (xG K (qC hr) rfl) (fW B5 hr (aW (pv 0))) (fW B4 hr (aC (pv 1) (aW (pv 2)))) (m7 _)))))))),
  rA⟩
abbrev Yp:Stmt:=top 37
abbrev Gs:MS:=(u9 (xX (z0 qJ (q0 (x9 0) (q0 (dC (.ty "list")) x8))) (z0 zf (q0 (c6 [none] [0] (b8 (x6 0)) (w6 0) c7 (xX (z0 qJ (q0 (x9 0) (q0 (dC (.ty "list")) x8))) (z5 pGt (z0 xn (q0 (x9 0) x8)) (dC (.int 0))))) x8))))
def vk:C5->EA:=p8 1 1 Gs
def IL:y8 ["trays"] ["trays"] (j4 Yp):=u8
def RB (F:Fun K "are_full_lists" "are_full_lists" Yp f fd)(D8:mg "all"=none)(Ay:mg "isinstance"=none)(Az:mg "len"=none)(A8:mg "list"=none):sQ P w K mg tM v8 1 f fd ["trays"] (v7 vk) :=
 o8 (k:=0) (b:=Gs) F IL rfl λtH A tL s H E hr=>⟨_,(j9 (u6 (jQ (p7 (jC K) rfl Ay zp (aC (pv 0) (aW (jq (v:= .ty "list") rfl A8 vF rfl)))) (vp (p7 (wo K rfl rfl) rfl D8 wn (aW (qu (N':=["tray"]) (tK:=[none]) (t6 rfl rfl rfl) rfl (@i7 _ K _ _ _ rfl (pv 0)) (λ_ _ _ _ _ _=>(tO (i:=0) ["tray"])) (λ_ _ _ _ _ _=>i9) (λ_ _ _ _ _ _=>(jQ (p7 (jC K) rfl Ay zp (aC (pv 0) (aW (jq (v:= .ty "list") rfl A8 vF rfl)))) (vp (zU (WF) (p7 (xj K) rfl Az rl (aW (pv 0))) z7 (m7 _)))))))))))),
  rA⟩
abbrev Vj:Stmt:=vg (top 25) 0
def IB:y8 ["self","at"] ["self","at"] (j4 Vj):=u8
def Rs (F:Fun K "__init__" "NoMove.__init__" Vj f fd)(q:jU K C R fI=true)(hs:PySem.W.findIn K (.ref C) "__setattr__"=some (some (.builtin "object.__setattr__")))(hn:PySem.W.findIn K (.ref C) "at"=some none):sQ P w K mg tM v8 1 f fd ["self","at"] (Xc C "at") :=
 okXI F IB rfl q hs hn λtH A tL s H E=>⟨pv 0,pv 1,rfl⟩
abbrev Yu:Stmt:=top 38
abbrev ZY (Av:Addr):MS:=(y9 (m4 (dOr (n8 (r9 (z0 vk (q0 (x6 1) x8)))) (n8 (r9 (z0 (jm Av) (q0 (x6 0) (q0 (vJ (x9 1)) x8)))))) qz i6)
  (m4 (n8 (r9 (z0 zf (q0 (c6 [none,some 0] [0] (b8 (x6 1)) (w6 0) c7 (z0 (vR Av) (q0 (x6 1) (q0 (x6 0) x8)))) x8)))) qz i6))
abbrev DX (Aw:Addr)(Av:Addr):YM:=(ja false (m4 (dOr (n8 (r9 (z0 vk (q0 (x6 1) x8)))) (n8 (r9 (z0 (jm Av) (q0 (x6 0) (q0 (vJ (x9 1)) x8)))))) qz i6) (yIf (dOr (n8 (r9 (z0 vk (q0 (x6 1) x8)))) (n8 (r9 (z0 (jm Av) (q0 (x6 0) (q0 (vJ (x9 1)) x8)))))) (UZ Aw) yNo)
  (yIf (n8 (r9 (z0 zf (q0 (c6 [none,some 0] [0] (b8 (x6 1)) (w6 0) c7 (z0 (vR Av) (q0 (x6 1) (q0 (x6 0) x8)))) x8)))) (UZ Aw) yNo))
def xM (Av:Addr):C5->EA:=p8 2 2 (ZY Av)
def jA (Aw:Addr)(Av:Addr):C5->Addr->XV->Prop:=yFn 2 2 (DX Aw Av)
def IP:y8 ["works","trays"] ["works","trays"] (j4 Yu):=u8
def RI (F:Fun K "check_trays" "check_trays" Yu f fd)(Ek:Fn P w K mg tM 1 "are_full_lists" ["trays"] (v7 vk))(Em:Fn P w K mg tM 3 "is_of_one_hue" ["works","tray"] (v7 (vR Av)))(Q7:Fn P w K mg tM 3 "is_plan" ["works","names"] (v7 (jm Av)))(D8:mg "all"=none)(N1:mg "sum"=none)(E2:mg "NoPlan"=some (.ref Aw))(Q1:PySem.W.excIn K Aw veMro "ValueError.__new__"=true):sQ P w K mg tM (qN P w) 4 f fd ["works","trays"] (qZ (xM Av) (jA Aw Av)) :=
 Zg (k:=3) (b:=(ZY Av)) (xb:=(DX Aw Av)) F IP rfl rfl λtH A tL s H E hr=>⟨_,(j6 (qb (PW.pt (vw (xw (xq K rfl (fW Ek hr (aW (pv 1))) (λ_=>rfl))) (wU (xw (xq K rfl (fW Q7 hr (aC (pv 0) (aW (Sq (K:=K) rfl rfl rfl N1 (aW (pv 1)))))) (λ_=>rfl)))))) (j9 (Cd rfl rfl rfl E2 Q1 UI)) qi)
  (j9 (qb (xw (xq K rfl (p7 (wo K rfl rfl) rfl D8 wn (aW (qu (N':=["tray","works"]) (tK:=[none,some 0]) (t6 rfl rfl rfl) rfl (@i7 _ K _ _ _ rfl (pv 1)) (λ_ _ _ _ _ _=>(tO (i:=0) ["tray","works"])) (λ_ _ _ _ _ _=>i9) (λ_ _ _ _ _ _=>(fW Em hr (aC (pv 1) (aW (pv 0)))))))) (λ_=>rfl))) (j9 (Cd rfl rfl rfl E2 Q1 UI)) qi))),
  rA,rA⟩
abbrev Yz:Stmt:=top 30
abbrev GC (Av:Addr):MS:=(u9 (c6 [none,some 0] [0] (zQ (q0 (xK Av "hues" (vj Av) (x6 0) x8) x8)) (w6 0) c7 (xK Av "due_row" (QE Av) (x6 1) (q0 (x6 0) x8))))
def QI (Av:Addr):C5->EA:=qG 1 1 (GC Av)
def IS:y8 ["works"] ["works"] (j4 Yz):=u8
def RO (F:Fun K "due_rows" "due_rows" Yz f fd)(A4:mg "range"=none)(Eo:Mt P w K mg tM 7 Av "due_row" ["self","hue"] (qa (QE Av)))(B7:Mt P w K mg tM 1 Av "hues" ["self"] (v7 (vj Av))):sQ P w K mg tM v8 8 f fd ["works"] (qa (QI Av)) :=
 okO (k:=7) (b:=(GC Av)) F IS rfl λtH A tL s H E hr=>⟨_,(j9 (u6 (qu (N':=["hue","works"]) (tK:=[none,some 0]) (t6 rfl rfl rfl) rfl (vq rfl A4 (aW (wQ B7 hr (by decide) (pv 0)))) (λ_ _ _ _ _ _=>(tO (i:=0) ["hue","works"])) (λ_ _ _ _ _ _=>i9) (λ_ _ _ _ _ _=>(Zo Eo hr (by decide) (pv 1) (aW (pv 0))))))),
  rA⟩
abbrev Ua:Stmt:=top 42
abbrev Kb:MS:=(y9 (xY (jE (q0 (x6 0) x8)) (zd 2 (qh (w6 2) (qh (w6 3) zc))) (m4 (dT (z5 (pIn false) (x9 1) (x9 3))) (u9 (x6 2)) i6))
  (u9 (dC .non)))
def ze:C5->EA:=p8 4 2 Kb
def rQ:y8 ["trays","name","place","tray"] ["trays","name"] (j4 Ua):=u8
def Tq (F:Fun K "place_of" "place_of" Ua f fd)(A9:mg "enumerate"=none):sQ P w K mg tM v8 1 f fd ["trays","name"] (v7 ze) :=
 o8 (k:=0) (b:=Kb) F rQ rfl λtH A tL s H E hr=>⟨_,(j6 (zi PassesOwn.never rfl (WP K rfl rfl A9 (aW (pv 0))) (QW K (n:=2) rfl rfl (zV (gW 2 rQ.nd) (zV (gW 3 rQ.nd) QX)))
   (j9 (qb (qc (TX (K:=K) rfl) (pv 1) (pv 3) (by with_unfolding_all rfl)) (j9 (u6 (pv 2))) qi)))
  (j9 (u6 vV))),
  rA⟩
abbrev Um:Stmt:=top 43
abbrev Kn:MS:=(u9 (c6 [none,some 1] [0] (b8 (x6 0)) (w6 0) (dT (z5 pNe (x9 0) (x9 1))) (x6 0)))
def Zc:C5->EA:=qG 2 2 Kn
def Fq:y8 ["tray","name"] ["tray","name"] (j4 Um):=u8
def TM (F:Fun K "tray_without" "tray_without" Um f fd):sQ P w K mg tM v8 1 f fd ["tray","name"] (qa Zc) :=
 okO (k:=0) (b:=Kn) F Fq rfl λtH A tL s H E hr=>⟨_,(j9 (u6 (qu (N':=["other","name"]) (tK:=[none,some 1]) (t6 rfl rfl rfl) rfl (@i7 _ K _ _ _ rfl (pv 0)) (λ_ _ _ _ _ _=>(tO (i:=0) ["other","name"])) (λ_ _ _ _ _ _=>(Vf (qc (QQ K (qC hr) rfl) (pv 0) (pv 1) (m7 _)))) (λ_ _ _ _ _ _=>(pv 0))))),
  rA⟩
abbrev Uj:Stmt:=top 44
abbrev Kk:MS:=(y9 (Xy 2 [none,some 1] [0] (b8 (x6 0)) (w6 0) c7 (z0 Zc (q0 (x6 0) (q0 (z5 k6 (x9 1) (dC (.int 0))) x8))) (z5 k6 (x9 1) (dC (.int 1))) (z5 k6 (x9 1) (dC (.int 0))))
  (u9 (Xx [none] [0] (b8 (x9 2)) (w6 0) (r9 (x9 0)) (x6 0))))
def jP:C5->EA:=p8 3 2 Kk
def rK:y8 ["trays","move","found"] ["trays","move"] (j4 Uj):=u8
def TF (F:Fun K "tray_moved" "tray_moved" Uj f fd)(Ez:Fn P w K mg tM 1 "tray_without" ["tray","name"] (qa Zc)):sQ P w K mg tM v8 2 f fd ["trays","move"] (v7 jP) :=
 o8 (k:=1) (b:=Kk) F rK rfl λtH A tL s H E hr=>⟨_,(j6 (jt (i:=2) (N':=["tray","move"]) (tK:=[none,some 1]) (t6 rfl rfl rfl) rfl rK.nd rfl rfl (@i7 _ K _ _ _ rfl (pv 0)) (λ_ _ _ _ _ _=>(tO (i:=0) ["tray","move"])) (λ_ _ _ _ _ _=>i9) (λ_ _ _ _ _ _=>(fW Ez hr (aC (pv 0) (aW (iW K rfl (pv 1) z7))))))
  (j6 (xp (zg K rfl rn rk rj zT (iW K rfl (pv 2) (iW K rfl (pv 1) z7)) (z8 (iW K rfl (pv 1) z7) w9)))
  (j9 (u6 (qu (N':=["tray"]) (tK:=[none]) (t6 rfl rfl rfl) rfl (@i7 _ K _ _ _ rfl (pv 2)) (λ_ _ _ _ _ _=>(tO (i:=0) ["tray"])) (λ_ _ _ _ _ _=>(Vf (xq K rfl (pv 0) (λ_=>rfl)))) (λ_ _ _ _ _ _=>(pv 0))))))),
  rA⟩
abbrev YJ:Stmt:=top 45
abbrev GL (Av:Addr):MS:=(y9 (p9 3 (z0 ze (q0 (x6 1) (q0 (z5 k6 (x9 2) (dC (.int 0))) x8))))
  (y9 (p9 4 (z5 k6 (x9 2) (dC (.int 1))))
  (y9 (m4 (dOr (dT (z5 QT (x9 3) (dC .non))) (dOr (dT (z5 i5 (x9 3) (x9 4))) (n8 (dT (va pLe pLt (dC (.int 0)) (x9 4) (z0 xn (q0 (x9 1) x8))))))) (u9 (dC (.bl false))) i6)
  (u9 (z5 i5 (z0 (jn Av) (q0 (x6 0) (q0 (z5 k6 (x9 1) (x9 3)) x8))) (z0 (jn Av) (q0 (x6 0) (q0 (z5 k6 (x9 1) (x9 4)) x8))))))))
def zS (Av:Addr):C5->EA:=p8 5 3 (GL Av)
def sd:y8 ["works","trays","move","at","to"] ["works","trays","move"] (j4 YJ):=u8
def Ta (F:Fun K "is_tray_move" "is_tray_move" YJ f fd)(D5:Fn P w K mg tM 1 "place_of" ["trays","name"] (v7 ze))(B4:Fn P w K mg tM 2 "tray_hue" ["works","tray"] (v7 (jn Av)))(Az:mg "len"=none):sQ P w K mg tM v8 3 f fd ["works","trays","move"] (v7 (zS Av)) :=
 o8 (k:=2) (b:=(GL Av)) F sd rfl λtH A tL s H E hr=>⟨_,(j6 (sW 3 sd.nd (fW D5 hr (aC (pv 1) (aW (iW K rfl (pv 2) z7)))))
  (j6 (sW 4 sd.nd (iW K rfl (pv 2) z7))
  (j6 (qb (PW.pt (vw (qc (WG) (pv 3) vV (m7 _)) (vw (qc (xG K (qC hr) rfl) (pv 3) (pv 4) (m7 _)) (wU (xw (WW (Zh) (Zi) z7 (pv 4) (p7 (xj K) rfl Az rl (aW (pv 1))))))))) (j9 (u6 xH)) qi)
  (j9 (u6 (zU (xG K (qC hr) rfl) (fW B4 hr (aC (pv 0) (aW (iW K rfl (pv 1) (pv 3))))) (fW B4 hr (aC (pv 0) (aW (iW K rfl (pv 1) (pv 4))))) (m7 _))))))),
  rA⟩
abbrev Ul:Stmt:=top 46
abbrev Km (Av:Addr):MS:=(y9 (qT (z0 (xM Av) (q0 (x6 0) (q0 (x6 1) x8))))
  (y9 (p9 3 (c6 [none] [0] (b8 (x6 1)) (w6 0) c7 (z0 vT (q0 (x9 0) x8))))
  (y9 (xY (jE (q0 (x6 2) x8)) (zd 2 (qh (w6 4) (qh (w6 5) zc))) (y9 (m4 (n8 (r9 (z0 (zS Av) (q0 (x6 0) (q0 (x6 3) (q0 (x6 5) x8)))))) qz i6)
  (p9 3 (z0 jP (q0 (x6 3) (q0 (x6 5) x8))))))
  (u9 (x6 3)))))
abbrev Mc (Ax:Addr)(Aw:Addr)(Av:Addr):YM:=(ja false (qT (z0 (xM Av) (q0 (x6 0) (q0 (x6 1) x8)))) (yX (zn (jA Aw Av) (q0 (x6 0) (q0 (x6 1) x8))))
  (ja false (p9 3 (c6 [none] [0] (b8 (x6 1)) (w6 0) c7 (z0 vT (q0 (x9 0) x8)))) yNo
  (ja false (xY (jE (q0 (x6 2) x8)) (zd 2 (qh (w6 4) (qh (w6 5) zc))) (y9 (m4 (n8 (r9 (z0 (zS Av) (q0 (x6 0) (q0 (x6 3) (q0 (x6 5) x8)))))) qz i6)
  (p9 3 (z0 jP (q0 (x6 3) (q0 (x6 5) x8)))))) (yFor false (jE (q0 (x6 2) x8)) (zd 2 (qh (w6 4) (qh (w6 5) zc))) (y9 (m4 (n8 (r9 (z0 (zS Av) (q0 (x6 0) (q0 (x6 3) (q0 (x6 5) x8)))))) qz i6)
  (p9 3 (z0 jP (q0 (x6 3) (q0 (x6 5) x8))))) (ja false (m4 (n8 (r9 (z0 (zS Av) (q0 (x6 0) (q0 (x6 3) (q0 (x6 5) x8)))))) qz i6) (yIf (n8 (r9 (z0 (zS Av) (q0 (x6 0) (q0 (x6 3) (q0 (x6 5) x8)))))) (Ga Ax "at" (x6 4)) yNo)
  yNo))
  yNo)))
def QK (Av:Addr):C5->EA:=p8 6 3 (Km Av)
def Qc (Ax:Addr)(Aw:Addr)(Av:Addr):C5->Addr->XV->Prop:=yFn 6 3 (Mc Ax Aw Av)
def rH:y8 ["works","trays","moves","found","number","move"] ["works","trays","moves"] (j4 Ul):=u8
def TJ (F:Fun K "tray_walked" "tray_walked" Ul f fd)(A5:Fy P w K mg tM 4 "check_trays" ["works","trays"] (qZ (xM Av) (jA Aw Av)))(Ev:Fn P w K mg tM 3 "is_tray_move" ["works","trays","move"] (v7 (zS Av)))(D6:Fn P w K mg tM 2 "tray_moved" ["trays","move"] (v7 jP))(A9:mg "enumerate"=none)(A8:mg "list"=none)(R5:XMk P w K mg tM 1 "NoMove" Ax "at"):sQ P w K mg tM (qN P w) 5 f fd ["works","trays","moves"] (qZ (QK Av) (Qc Ax Aw Av)) :=
 Zg (k:=4) (b:=(Km Av)) (xb:=(Mc Ax Aw Av)) F rH rfl rfl λtH A tL s H E hr=>⟨_,(j6 (xp (QV A5 hr (by decide) QU rfl (aC (pv 0) (aW (pv 1)))))
  (j6 (jt (i:=3) (N':=["tray"]) (tK:=[none]) (t6 rfl rfl rfl) rfl rH.nd rfl rfl (@i7 _ K _ _ _ rfl (pv 1)) (λ_ _ _ _ _ _=>(tO (i:=0) ["tray"])) (λ_ _ _ _ _ _=>i9) (λ_ _ _ _ _ _=>(wN (VE K) rfl A8 vF (aW (pv 0)))))
  (j6 (zi PassesOwn.leaving rfl (WP K rfl rfl A9 (aW (pv 2))) (QW K (n:=2) rfl rfl (zV (gW 4 rH.nd) (zV (gW 5 rH.nd) QX)))
   (j6 (qb (xw (xq K rfl (fW Ev hr (aC (pv 0) (aC (pv 3) (aW (pv 5))))) (λ_=>rfl))) (j9 (SM rfl rfl R5 hr (by decide) rfl (z8 (pv 4) w9) UI)) qi)
  (j9 (sW 3 rH.nd (fW D6 hr (aC (pv 3) (aW (pv 5))))))))
  (j9 (u6 (pv 3)))))),
  rA,rA⟩
abbrev YW:Stmt:=top 47
abbrev GW (Av:Addr):MS:=(y9 (xY (b8 (z0 (QI Av) (q0 (x6 0) x8))) (w6 2) (xY (vK (q0 (x6 2) (q0 (qA (x9 2) (qp (dC (.int 1))) qX) x8))) (zd 2 (qh (w6 3) (qh (w6 4) zc))) (m4 (dT (z5 pLt (z0 ze (q0 (x6 1) (q0 (x6 4) x8))) (z0 ze (q0 (x6 1) (q0 (x6 3) x8))))) (u9 (xu (q0 (x6 4) (q0 (z0 ze (q0 (x6 1) (q0 (x6 3) x8))) x8)))) i6)))
  (u9 (dC .non)))
def vn (Av:Addr):C5->EA:=p8 5 2 (GW Av)
def rV:y8 ["works","trays","row","ahead","behind"] ["works","trays"] (j4 YW):=u8
def Tm (F:Fun K "next_move" "next_move" YW f fd)(N6:Fn P w K mg tM 8 "due_rows" ["works"] (qa (QI Av)))(D5:Fn P w K mg tM 1 "place_of" ["trays","name"] (v7 ze))(Q2:mg "zip"=none):sQ P w K mg tM v8 9 f fd ["works","trays"] (v7 (vn Av)) :=
 o8 (k:=8) (b:=(GW Av)) F rV rfl λtH A tL s H E hr=>⟨_,(j6 (zi PassesOwn.never rfl (@i7 _ K _ _ _ rfl (fW N6 hr (aW (pv 0)))) (gW 2 rV.nd)
   (j9 (zi PassesOwn.never rfl (WQ K rfl rfl Q2 (aC (pv 2) (aW (zh (zj K) (pv 2) (xR z7) zu)))) (QW K (n:=2) rfl rfl (zV (gW 3 rV.nd) (zV (gW 4 rV.nd) QX)))
   (j9 (qb (qc (Zi) (fW D5 hr (aC (pv 1) (aW (pv 4)))) (fW D5 hr (aC (pv 1) (aW (pv 3)))) (m7 _)) (j9 (u6 (@zI _ _ _ _ _ (aC (pv 4) (aW (fW D5 hr (aC (pv 1) (aW (pv 3))))))))) qi)))))
  (j9 (u6 vV))),
  rA⟩
abbrev YC:Stmt:=top 48
abbrev GE (Av:Addr):MS:=(y9 (qT (z0 (xM Av) (q0 (x6 0) (q0 (x6 1) x8))))
  (u9 (z5 QT (z0 (vn Av) (q0 (x6 0) (q0 (x6 1) x8))) (dC .non))))
abbrev DY (Aw:Addr)(Av:Addr):YM:=(ja false (qT (z0 (xM Av) (q0 (x6 0) (q0 (x6 1) x8)))) (yX (zn (jA Aw Av) (q0 (x6 0) (q0 (x6 1) x8))))
  yNo)
def XS (Av:Addr):C5->EA:=p8 2 2 (GE Av)
def ZM (Aw:Addr)(Av:Addr):C5->Addr->XV->Prop:=yFn 2 2 (DY Aw Av)
def IU:y8 ["works","trays"] ["works","trays"] (j4 YC):=u8
def RT (F:Fun K "in_tray_order" "in_tray_order" YC f fd)(A5:Fy P w K mg tM 4 "check_trays" ["works","trays"] (qZ (xM Av) (jA Aw Av)))(D4:Fn P w K mg tM 9 "next_move" ["works","trays"] (v7 (vn Av))):sQ P w K mg tM (qN P w) 10 f fd ["works","trays"] (qZ (XS Av) (ZM Aw Av)) :=
 Zg (k:=9) (b:=(GE Av)) (xb:=(DY Aw Av)) F IU rfl rfl λtH A tL s H E hr=>⟨_,(j6 (xp (QV A5 hr (by decide) QU rfl (aC (pv 0) (aW (pv 1)))))
  (j9 (u6 (zU (WG) (fW D4 hr (aC (pv 0) (aW (pv 1)))) vV (m7 _))))),
  rA,rA⟩
abbrev Uq:Stmt:=top 49
abbrev Ko (Av:Addr):MS:=(y9 (qT (z0 (xM Av) (q0 (x6 0) (q0 (x6 1) x8))))
  (y9 (p9 2 (x6 1))
  (y9 (vI 3 (p6 x8))
  (y9 (p9 4 (z0 (vn Av) (q0 (x6 0) (q0 (x6 2) x8))))
  (y9 (je (dT (z5 wM (x9 4) (dC .non))) (y9 (wp 3 (x6 4))
  (y9 (p9 2 (z0 jP (q0 (x6 2) (q0 (x6 4) x8))))
  (p9 4 (z0 (vn Av) (q0 (x6 0) (q0 (x6 2) x8)))))) 101)
  (u9 (oVar 3)))))))
abbrev Md (Aw:Addr)(Av:Addr):YM:=(ja true (qT (z0 (xM Av) (q0 (x6 0) (q0 (x6 1) x8)))) (yX (zn (jA Aw Av) (q0 (x6 0) (q0 (x6 1) x8))))
  yNo)
def QL (Av:Addr):C5->EA:=qG 5 2 (Ko Av)
def ZP (Aw:Addr)(Av:Addr):C5->Addr->XV->Prop:=yFn 5 2 (Md Aw Av)
def rE:y8 ["works","trays","found","moves","move"] ["works","trays"] (j4 Uq):=u8
def TQ (F:Fun K "trays_to_dues" "trays_to_dues" Uq f fd)(A5:Fy P w K mg tM 4 "check_trays" ["works","trays"] (qZ (xM Av) (jA Aw Av)))(D4:Fn P w K mg tM 9 "next_move" ["works","trays"] (v7 (vn Av)))(D6:Fn P w K mg tM 2 "tray_moved" ["trays","move"] (v7 jP)):sQ P w K mg tM (qN P w) 10 f fd ["works","trays"] (ju (QL Av) (ZP Aw Av)) :=
 okOY (k:=9) (b:=(Ko Av)) (xb:=(Md Aw Av)) F rE rfl rfl λtH A tL s H E hr=>⟨_,(j6 (xp (QV A5 hr (by decide) QU rfl (aC (pv 0) (aW (pv 1)))))
  (j6 (sW 2 rE.nd (pv 1))
  (j6 (sW 3 rE.nd (@m8 _ _ _ _ w9))
  (j6 (sW 4 rE.nd (fW D4 hr (aC (pv 0) (aW (pv 2)))))
  (j6 (SQ PassesOwn.leaving (qc (PP) (pv 4) vV (m7 _))
   (j6 (xp (zg K rfl rn rk rj zT (pv 3) (z8 (pv 4) w9)))
  (j6 (sW 2 rE.nd (fW D6 hr (aC (pv 2) (aW (pv 4)))))
  (j9 (sW 4 rE.nd (fW D4 hr (aC (pv 0) (aW (pv 2)))))))))
  (j9 (u6 (pv 3)))))))),
  rA,rA⟩
abbrev Ui:Stmt:=top 34
abbrev Kj (Av:Addr):MS:=(u9 (z0 pSum (q0 (c6 [none] [0] (b8 (z0 (vm Av) (q0 (x6 0) (q0 (x6 1) x8)))) (w6 0) c7 (z0 XW (q0 (x6 0) x8))) x8)))
def QJ (Av:Addr):C5->EA:=p8 2 2 (Kj Av)
def Fp:y8 ["works","tray"] ["works","tray"] (j4 Ui):=u8
def TD (F:Fun K "tray_length" "tray_length" Ui f fd)(B3:Fn P w K mg tM 2 "cloths_of" ["works","tray"] (v7 (vm Av)))(Ea:Fn P w K mg tM 1 "length_of" ["cloth"] (v7 XW))(N1:mg "sum"=none):sQ P w K mg tM v8 3 f fd ["works","tray"] (v7 (QJ Av)) :=
 o8 (k:=2) (b:=(Kj Av)) F Fp rfl λtH A tL s H E hr=>⟨_,(j9 (u6 (p7 (Lp (K:=K) rfl rfl) rfl N1 VC (aW (qu (N':=["cloth"]) (tK:=[none]) (t6 rfl rfl rfl) rfl (@i7 _ K _ _ _ rfl (fW B3 hr (aC (pv 0) (aW (pv 1))))) (λ_ _ _ _ _ _=>(tO (i:=0) ["cloth"])) (λ_ _ _ _ _ _=>i9) (λ_ _ _ _ _ _=>(fW Ea hr (aW (pv 0))))))))),
  rA⟩
abbrev Ue:Stmt:=top 35
abbrev Kf (Av:Addr):MS:=(u9 (z0 JX (q0 (c6 [none] [0] (b8 (z0 (vm Av) (q0 (x6 0) (q0 (x6 1) x8)))) (w6 0) c7 (z0 wG (q0 (x6 0) x8))) x8)))
def XZ (Av:Addr):C5->EA:=p8 2 2 (Kf Av)
def Fm:y8 ["works","tray"] ["works","tray"] (j4 Ue):=u8
def Ty (F:Fun K "tray_due" "tray_due" Ue f fd)(B3:Fn P w K mg tM 2 "cloths_of" ["works","tray"] (v7 (vm Av)))(Ef:Fn P w K mg tM 1 "due_of" ["cloth"] (v7 wG))(V7:mg "min"=none):sQ P w K mg tM v8 3 f fd ["works","tray"] (v7 (XZ Av)) :=
 o8 (k:=2) (b:=(Kf Av)) F Fm rfl λtH A tL s H E hr=>⟨_,(j9 (u6 (p7 (Lg (K:=K) rfl rfl) rfl V7 MP (aW (qu (N':=["cloth"]) (tK:=[none]) (t6 rfl rfl rfl) rfl (@i7 _ K _ _ _ rfl (fW B3 hr (aC (pv 0) (aW (pv 1))))) (λ_ _ _ _ _ _=>(tO (i:=0) ["cloth"])) (λ_ _ _ _ _ _=>i9) (λ_ _ _ _ _ _=>(fW Ef hr (aW (pv 0))))))))),
  rA⟩
abbrev Uk:Stmt:=top 39
abbrev Kl (Av:Addr):MS:=(y9 (qT (z0 (xM Av) (q0 (x6 0) (q0 (x6 1) x8))))
  (y9 (p9 2 (xK Av "start" (wF Av) (x6 0) x8))
  (y9 (p9 3 (z5 k6 (x9 2) (dC (.int 0))))
  (y9 (p9 4 (z5 k6 (x9 2) (dC (.int 1))))
  (y9 (vI 5 (p6 x8))
  (y9 (xY (b8 (x6 1)) (w6 6) (y9 (p9 7 (z0 (jn Av) (q0 (x6 0) (q0 (x6 6) x8))))
  (y9 (p9 8 (z5 b9 (x9 4) (xK Av "tray_rinse" (QG Av) (x6 0) (q0 (x6 3) (q0 (x6 7) x8)))))
  (y9 (p9 4 (z5 b9 (x9 8) (z0 (QJ Av) (q0 (x6 0) (q0 (x6 6) x8)))))
  (y9 (p9 3 (x6 7))
  (wp 5 (xu (q0 (x6 8) (q0 (x6 4) x8)))))))))
  (u9 (oVar 5))))))))
abbrev Mb (Aw:Addr)(Av:Addr):YM:=(ja true (qT (z0 (xM Av) (q0 (x6 0) (q0 (x6 1) x8)))) (yX (zn (jA Aw Av) (q0 (x6 0) (q0 (x6 1) x8))))
  yNo)
def jo (Av:Addr):C5->EA:=qG 9 2 (Kl Av)
def vA (Aw:Addr)(Av:Addr):C5->Addr->XV->Prop:=yFn 9 2 (Mb Aw Av)
def rJ:y8 ["works","trays","start","last","time","rows","tray","hue","begin"] ["works","trays"] (j4 Uk):=u8
def TH (F:Fun K "tray_rows" "tray_rows" Uk f fd)(A5:Fy P w K mg tM 4 "check_trays" ["works","trays"] (qZ (xM Av) (jA Aw Av)))(B4:Fn P w K mg tM 2 "tray_hue" ["works","tray"] (v7 (jn Av)))(E6:Fn P w K mg tM 3 "tray_length" ["works","tray"] (v7 (QJ Av)))(B8:Mt P w K mg tM 1 Av "start" ["self"] (v7 (wF Av)))(D9:Mt P w K mg tM 1 Av "tray_rinse" ["self","first","then"] (v7 (QG Av))):sQ P w K mg tM (qN P w) 5 f fd ["works","trays"] (ju (jo Av) (vA Aw Av)) :=
 okOY (k:=4) (b:=(Kl Av)) (xb:=(Mb Aw Av)) F rJ rfl rfl λtH A tL s H E hr=>⟨_,(j6 (xp (QV A5 hr (by decide) QU rfl (aC (pv 0) (aW (pv 1)))))
  (j6 (sW 2 rJ.nd (wQ B8 hr (by decide) (pv 0)))
  (j6 (sW 3 rJ.nd (iW K rfl (pv 2) z7))
  (j6 (sW 4 rJ.nd (iW K rfl (pv 2) z7))
  (j6 (sW 5 rJ.nd (@m8 _ _ _ _ w9))
  (j6 (zi PassesOwn.leaving rfl (@i7 _ K _ _ _ rfl (pv 1)) (gW 6 rJ.nd)
   (j6 (sW 7 rJ.nd (fW B4 hr (aC (pv 0) (aW (pv 6)))))
  (j6 (sW 8 rJ.nd (u4 (t0 K) (pv 4) (Zo D9 hr (by decide) (pv 0) (aC (pv 3) (aW (pv 7))))))
  (j6 (sW 4 rJ.nd (u4 (t0 K) (pv 8) (fW E6 hr (aC (pv 0) (aW (pv 6))))))
  (j6 (sW 3 rJ.nd (pv 7))
  (j9 (xp (zg K rfl rn rk rj zT (pv 5) (z8 (@zI _ _ _ _ _ (aC (pv 8) (aW (pv 4)))) w9)))))))))
  (j9 (u6 (pv 5))))))))),
  rA,rA⟩
abbrev Uf:Stmt:=top 40
abbrev Kg (Av:Addr):MS:=(y9 (p9 2 (z0 (jo Av) (q0 (x6 0) (q0 (x6 1) x8))))
  (u9 (dIf (r9 (x9 2)) (z5 k6 (z5 k6 (x9 2) (dUn Zm (dC (.int 1)))) (dC (.int 1))) (z5 k6 (xK Av "start" (wF Av) (x6 0) x8) (dC (.int 1))))))
abbrev DZ (Aw:Addr)(Av:Addr):YM:=(ja false (p9 2 (z0 (jo Av) (q0 (x6 0) (q0 (x6 1) x8)))) (yX (zn (vA Aw Av) (q0 (x6 0) (q0 (x6 1) x8))))
  yNo)
def Za (Av:Addr):C5->EA:=p8 3 2 (Kg Av)
def ZN (Aw:Addr)(Av:Addr):C5->Addr->XV->Prop:=yFn 3 2 (DZ Aw Av)
def rM:y8 ["works","trays","rows"] ["works","trays"] (j4 Uf):=u8
def Tz (F:Fun K "tray_end" "tray_end" Uf f fd)(B0:Fy P w K mg tM 5 "tray_rows" ["works","trays"] (ju (jo Av) (vA Aw Av)))(B8:Mt P w K mg tM 1 Av "start" ["self"] (v7 (wF Av))):sQ P w K mg tM (qN P w) 6 f fd ["works","trays"] (qZ (Za Av) (ZN Aw Av)) :=
 Zg (k:=5) (b:=(Kg Av)) (xb:=(DZ Aw Av)) F rM rfl rfl λtH A tL s H E hr=>⟨_,(j6 (sW 2 rM.nd (QV B0 hr (by decide) QU rfl (aC (pv 0) (aW (pv 1)))))
  (j9 (u6 (WK (xq K rfl (pv 2) (λ_=>rfl)) (iW K rfl (iW K rfl (pv 2) (Va Vn z7)) z7) (iW K rfl (wQ B8 hr (by decide) (pv 0)) z7))))),
  rA,rA⟩
abbrev Uh:Stmt:=top 41
abbrev Ki (Av:Addr):MS:=(y9 (p9 2 (z0 (jo Av) (q0 (x6 0) (q0 (x6 1) x8))))
  (u9 (Je (c6 [none,none,some 0] [0,1] (vK (q0 (x6 2) (q0 (x6 1) x8))) (zd 2 (qh (w6 0) (qh (w6 1) zc))) c7 (z5 vo (z5 k6 (x9 0) (dC (.int 1))) (z0 (XZ Av) (q0 (x6 2) (q0 (x6 1) x8))))))))
abbrev Ma (Aw:Addr)(Av:Addr):YM:=(ja false (p9 2 (z0 (jo Av) (q0 (x6 0) (q0 (x6 1) x8)))) (yX (zn (vA Aw Av) (q0 (x6 0) (q0 (x6 1) x8))))
  yNo)
def Zb (Av:Addr):C5->EA:=p8 3 2 (Ki Av)
def ZO (Aw:Addr)(Av:Addr):C5->Addr->XV->Prop:=yFn 3 2 (Ma Aw Av)
def rL:y8 ["works","trays","rows"] ["works","trays"] (j4 Uh):=u8
def TC (F:Fun K "tray_lateness" "tray_lateness" Uh f fd)(N9:Fn P w K mg tM 3 "tray_due" ["works","tray"] (v7 (XZ Av)))(B0:Fy P w K mg tM 5 "tray_rows" ["works","trays"] (ju (jo Av) (vA Aw Av)))(V9:mg "max"=none)(Q2:mg "zip"=none):sQ P w K mg tM (qN P w) 6 f fd ["works","trays"] (qZ (Zb Av) (ZO Aw Av)) :=
 Zg (k:=5) (b:=(Ki Av)) (xb:=(Ma Aw Av)) F rL rfl rfl λtH A tL s H E hr=>⟨_,(j6 (sW 2 rL.nd (QV B0 hr (by decide) QU rfl (aC (pv 0) (aW (pv 1)))))
  (j9 (u6 (Sk (K:=K) rfl rfl rfl V9 (aW (qu (N':=["row","tray","works"]) (tK:=[none,none,some 0]) (t6 rfl rfl rfl) rfl (WQ K rfl rfl Q2 (aC (pv 2) (aW (pv 1)))) (λ_ _ _ _ _ _=>(QW K (n:=2) rfl rfl (zV (tO (i:=0) ["row","tray","works"]) (zV (tO (i:=1) ["row","tray","works"]) QX)))) (λ_ _ _ _ _ _=>i9) (λ_ _ _ _ _ _=>(u4 (QS) (iW K rfl (pv 0) z7) (fW N9 hr (aC (pv 2) (aW (pv 1)))))))))))),
  rA,rA⟩
abbrev wY:Stmt:=vg (top 65) 0
abbrev ZX (Av:Addr):MS:=(y9 (jG Av "least" (z0 JL (q0 (x6 1) x8)))
  (y9 (qT (z0 JI (q0 (x6 3) (q0 (x6 4) (q0 (Qt Av "hues" (vj Av) 0 x8) x8)))))
  (y9 (qT (z0 JG (q0 (x6 2) (q0 (Qt Av "hues" (vj Av) 0 x8) x8))))
  (y9 (jG Av "given" (c6 [none] [0] (b8 (x6 1)) (w6 0) c7 (z0 vT (q0 (x9 0) x8))))
  (y9 (jG Av "held" (z0 wL (q0 (c6 [none] [0] (b8 (x6 2)) (w6 0) c7 (xu (q0 (z0 zG (q0 (x6 0) x8)) (q0 (x6 0) x8)))) x8)))
  (y9 (jG Av "last" (dIf (dT (z5 QT (x9 3) (dC .non))) (dUn Zm (dC (.int 1))) (x6 3)))
  (jG Av "time" (x6 4))))))))
def QF (Av:Addr):C5->EA:=Xz 5 5 Av (ZX Av)
def IH:y8 ["self","rinses","cloths","last","time"] ["self","rinses","cloths","last","time"] (j4 wY):=u8
def Rx (F:FunD K "__init__" "Works.__init__" wY f fd)(Ex:Fn P w K mg tM 4 "check_cloths" ["cloths","hues"] (v7 JG))(E8:Fn P w K mg tM 3 "check_start" ["last","time","hues"] (v7 JI))(E3:Fn P w K mg tM 4 "least_rinses" ["rinses"] (qa JL))(A6:Fn P w K mg tM 1 "name_of" ["cloth"] (v7 zG))(J7:mg "dict"=none)(A8:mg "list"=none)[zP K Av][xh K Av "given"][xh K Av "held"][xh K Av "last"][xh K Av "least"][xh K Av "time"](B7:Mt P w K mg tM 1 Av "hues" ["self"] (v7 (vj Av))):sQ P w K mg tM v8 5 f fd ["self","rinses","cloths","last","time"] (spI Av (QF Av)) :=
 okID (k:=4) (b:=ZX Av) F IH rfl (λtH A tL s H E hr=>⟨_,(j6 (Zw K rfl (pv 0) (fW E3 hr (aW (pv 1))))
  (j6 (xp (fW E8 hr (aC (pv 3) (aC (pv 4) (aW (wQ B7 hr (by decide) (pv 0)))))))
  (j6 (xp (fW Ex hr (aC (pv 2) (aW (wQ B7 hr (by decide) (pv 0))))))
  (j6 (Zw K rfl (pv 0) (qu (N':=["row"]) (tK:=[none]) (t6 rfl rfl rfl) rfl (@i7 _ K _ _ _ rfl (pv 1)) (λ_ _ _ _ _ _=>(tO (i:=0) ["row"])) (λ_ _ _ _ _ _=>i9) (λ_ _ _ _ _ _=>(wN (VE K) rfl A8 vF (aW (pv 0))))))
  (j6 (Zw K rfl (pv 0) (wN (VD K rfl rfl) rfl J7 VB (aW (qu (N':=["cloth"]) (tK:=[none]) (t6 rfl rfl rfl) rfl (@i7 _ K _ _ _ rfl (pv 2)) (λ_ _ _ _ _ _=>(tO (i:=0) ["cloth"])) (λ_ _ _ _ _ _=>i9) (λ_ _ _ _ _ _=>(@zI _ _ _ _ _ (aC (fW A6 hr (aW (pv 0))) (aW (pv 0)))))))))
  (j6 (Zw K rfl (pv 0) (WK (qc (WG) (pv 3) vV (m7 _)) (Va Vn z7) (pv 3)))
  (j9 (Zw K rfl (pv 0) (pv 4))))))))),
  (by repeat' first|infer_instance|(refine @Mi.Fx _ _ _ _ ?_ ?_))⟩)
abbrev YA:Stmt:=top 76
abbrev Cy (K:Fg)(Ax:Addr)(A7:Addr)(Aw:Addr)(A3:Addr)(Av:Addr):RM:=(rSeq (rP (p9 3 (p6 x8)))
  (rSeq (Cw K A3 [Aw,Ax] 4 (m4 (dT (z5 i5 (x9 2) (dC (.int 0)))) (qT (z0 (jo Av) (q0 (x6 0) (q0 (x6 1) x8)))) (m4 (dT (z5 i5 (x9 2) (dC (.int 1)))) (qT (z0 (Za Av) (q0 (x6 0) (q0 (x6 1) x8)))) (m4 (dT (z5 i5 (x9 2) (dC (.int 2)))) (qT (z0 (Zb Av) (q0 (x6 0) (q0 (x6 1) x8)))) (m4 (dT (z5 i5 (x9 2) (dC (.int 3)))) (qT (z0 (XS Av) (q0 (x6 0) (q0 (x6 1) x8)))) (m4 (dT (z5 i5 (x9 2) (dC (.int 4)))) (qT (z0 (QK Av) (q0 (x6 0) (q0 (x6 1) (q0 (p6 x8) x8))))) (m4 (dT (z5 i5 (x9 2) (dC (.int 5)))) (qT (z0 (QK Av) (q0 (x6 0) (q0 (x6 1) (q0 (p6 (q0 (xu (q0 (dC (.str "q")) (q0 (dUn Zm (dC (.int 1))) x8))) x8)) x8))))) (qT (z0 (QL Av) (q0 (x6 0) (q0 (x6 1) x8)))))))))) (yIf (dT (z5 i5 (x9 2) (dC (.int 0)))) (yX (zn (vA Aw Av) (q0 (x6 0) (q0 (x6 1) x8)))) (yIf (dT (z5 i5 (x9 2) (dC (.int 1)))) (yX (zn (ZN Aw Av) (q0 (x6 0) (q0 (x6 1) x8)))) (yIf (dT (z5 i5 (x9 2) (dC (.int 2)))) (yX (zn (ZO Aw Av) (q0 (x6 0) (q0 (x6 1) x8)))) (yIf (dT (z5 i5 (x9 2) (dC (.int 3)))) (yX (zn (ZM Aw Av) (q0 (x6 0) (q0 (x6 1) x8)))) (yIf (dT (z5 i5 (x9 2) (dC (.int 4)))) (yX (zn (Qc Ax Aw Av) (q0 (x6 0) (q0 (x6 1) (q0 (p6 x8) x8))))) (yIf (dT (z5 i5 (x9 2) (dC (.int 5)))) (yX (zn (Qc Ax Aw Av) (q0 (x6 0) (q0 (x6 1) (q0 (p6 (q0 (xu (q0 (dC (.str "q")) (q0 (dUn Zm (dC (.int 1))) x8))) x8)) x8))))) (yX (zn (ZP Aw Av) (q0 (x6 0) (q0 (x6 1) x8))))))))))
   (λea c y dx=>(y9 (p9 3 (p6 (q0 (z0 (jp K ea c) (q0 (zB ea y dx 4) (q0 (dC (.ref Aw)) x8))) (q0 (z0 (jp K ea c) (q0 (zB ea y dx 4) (q0 (dC (.ty "ValueError")) x8))) x8))))
  (p9 3 (z5 b9 (x9 3) (p6 (q0 (z0 (jp K ea c) (q0 (zB ea y dx 4) (q0 (dC (.ref Ax)) x8))) (q0 (z0 (jp K ea c) (q0 (zB ea y dx 4) (q0 (dC (.ref A7)) x8))) x8))))))))
  (rP (u9 (x6 3)))))
def se:y8 ["works","trays","way","signs","e"] ["works","trays","way"] (j4 YA):=u8
def UO (n:Int):vS [.at (.int n)]=some (.at (.bl true)):=n9 rfl (c8 (zr (z6 rfl NO) (LX (v:=false) (z6 rfl NP))))
def OG (n k:Int):jO [.at (.int n),.at (.int k)]=some (.at (.bl (decide (k<=n)))):=n9 rfl (c8 (zr (z6 rfl (UO n)) rfl))
def ZJ {k:Int}(h:k<=n):jO [.at (.int n),.at (.int k)]=some (.at (.bl true)):=(OG n k).trans (by rw [yt h])
def OO (h:Qi s):JK [.at (.str s)]=some (.at (.bl true)):=by
 have hl:lim=1000000:=rfl;have l1:=h.one;have l8:=h.eight;have ln:xn [.at (.str s)]=some (.at (.int s.length)):=rB (by omega);refine n9 rfl (u7 (qB (jF (qP (qQ (z6 rfl BL))) (qP (i8 (VU (r:=true) rfl (z6 rfl ln) ?_ rfl ?_)))) xC) (c8 (z6 (v6 (o9 (λc:Nat=>PV.at (.str ⟨#[c]⟩)) (λ_=>PV.at (.bl true)) s.cps.toList rfl rfl ?_ ?_) rfl) (wj _))))
 .show some (PV.at (.bl (decide ((1:Int)<=(s.length:Int)))))=_;rw [yt (by omega)]
 .show some (PV.at (.bl (decide ((s.length:Int)<=8))))=_;rw [yt (by omega)]
 .have:s.cps.toList.length=s.length:=by simp [Str.length]
  omega
 .intro c hc;obtain ⟨c1,c2⟩:=h.low c hc;refine ⟨_,rfl,VU rfl rfl ?_ rfl ?_⟩
  .show some (PV.at (.bl (!decide ([c]<("a":Str).cps.toList))))=_;have e:¬ ([c]<[97]):=by rw [List.cons_lt_cons_iff];simp;omega
   rw [show ("a":Str).cps.toList=[97] by decide +kernel,yA e];rfl
  .show some (PV.at (.bl (!decide (("z":Str).cps.toList<[c]))))=_;have e:¬ ([122]<[c]):=by rw [List.cons_lt_cons_iff];simp;omega
   rw [show ("z":Str).cps.toList=[122] by decide +kernel,yA e];rfl
def OM (ok:c.Ok h):JJ [c.pv,.at (.int h)]=some (.at (.bl true)):=by refine n9 rfl (u7 (qB (jF (qP (qQ (z6 rfl NQ))) (i8 (v:=false) rfl)) xC) (u7 (qB (jF (qP (qQ (z6 (v6 (z6 rfl rfl) rfl) (OO ok.nm)))) (jF (qP (qQ (z6 (v6 (z6 rfl rfl) rfl) (ZJ (n:=(c.hue:Int)) (k:=0) (by omega))))) (i8 (v:=false) (y7 (z6 rfl rfl) rfl ?_)))) xC) (c8 (zr (z6 (v6 (z6 rfl rfl) rfl) (ZJ ok.l1)) (zr (z6 (v6 (z6 rfl rfl) rfl) (UO _)) (z6 (v6 (z6 rfl rfl) rfl) (ZJ ok.w1)))))));show some (PV.at (.bl (decide ((h:Int)<=(c.hue:Int)))))=_;have:=ok.hu;rw [yA (by omega)]
def OB {l t:Int}(h1:-1<=l)(h2:l<(h:Int))(h3:0<=t):JI [.at (.int l),.at (.int t),.at (.int h)]=some (.at .non):=by refine Jo rfl (u7 (qB (KW (v:=false) (i8 (v:=true) rfl) (qP (KW (v:=true) (qQ (z6 rfl (ZJ h1))) (i8 (v:=true) ?_)))) xC) (qB (qP (qQ (z6 rfl (ZJ h3)))) xC));show some (PV.at (.bl (decide (l<(h:Int)))))=_;rw [yt h2]
def sU (cs:EE):List j5:=cs.map λc=>Sum.inr c.name
theorem Pe {x:Str}{α:Type}(f:Cl->PV):∀{cs:EE},x∉cs.map Cl.name->xm (.inr x) (sU cs) (cs.map f)=none
 |[],_=>rfl
 |c::cs,h=>by
  rw [yH] at h;show (if (Sum.inr c.name:j5) = .inr x then _ else xm (.inr x) (sU cs) (cs.map f))=_;rw [rq (λe=>h (by injection e with e;rw [e];exact yR)),Pe (α:=α) f λz=>h (yO _ z)]
theorem Wp (f:Cl->PV):∀{cs:EE},(cs.map Cl.name).Nodup->∀ c∈cs,xm (.inr c.name) (sU cs) (cs.map f)=some (f c)
 |[],_,_,h=>nomatch h
 |d::cs,nd,c,h=>by
  rw [yH] at nd;have nd':=yn.mp nd;show (if (Sum.inr d.name:j5) = .inr c.name then some (f d) else xm (.inr c.name) (sU cs) (cs.map f))=_;rcases yL.mp h with rfl|h
  .rw [rB rfl]
  .rw [rq (λe=>nd'.1 (by injection e with e;rw [e];exact yB.mpr ⟨c,h,rfl⟩)),Wp f nd'.2 c h]
def Oz {cls:EE}(tI:∀ c∈cls,c.Ok h)(nd:(cls.map Cl.name).Nodup)(ten:cls.length<=10):JG [.lst (cls.map Cl.pv),.at (.int h)]=some (.at .non):=by
 have hl:lim=1000000:=rfl;refine Jo rfl (u7 (qB (i8 (v:=false) (y7 (z6 rfl rfl) rfl ?_)) xC) (u7 (XG rfl) (jH rfl (JE Cl.pv (λl ε=>∃(done:EE)(s3:sN),done++l=cls/\ε=[.sh (.lst (cls.map Cl.pv)),.sh (.at (.int h)),.ow (.dk (sU done) (done.map λ_=>PV.at (.bl true))),s3]) ?_ cls _ ⟨[],.no,rfl,rfl⟩).choose_spec.1)))
 .show some (PV.at (.bl (decide ((10:Int)<((cls.map Cl.pv).length:Int)))))=_;rw [yZ,yA (by omega)]
 .rintro c l ε ⟨done,s3,e,rfl⟩;have hc:c∈cls:=by rw [<- e];exact yw _ yR
  have hn:c.name∉done.map Cl.name:=λz=>by
   rw [<- e,yE,yH] at nd;exact (uL.mp nd).2.2 _ z _ yR rfl
  have ln:=Pe (α:=Unit) (λ_=>PV.at (.bl true)) hn;have hd:done.length<=10:=by rw [<- e] at ten;rw [yV] at ten;omega
  refine ⟨_,_,rfl,u7 (qB (qP (qQ (z6 rfl (OM (tI c hc))))) xC) (u7 (qB (i8 (v:=false) ?_) xC) ?_),done++[c],.sh c.pv,by rw [<- e,uW];rfl,rfl⟩
  .show some (PV.at (.bl (xm (.inr c.name) (sU done) (done.map λ_=>PV.at (.bl true))).isSome))=_;rw [ln];rfl
  .show (if (sU done).length<=lim then some (Out.nx [_,_,.ow (Vg (.inr c.name) (.at (.bl true)) (sU done) (done.map λ_=>PV.at (.bl true))),_]) else none)=_;unfold Vg;rw [rB (by unfold sU;rw [yZ];omega),ln];simp only [Option.isSome_none,uF,if_false];unfold sU;rw [yE,yE];rfl
def vh (n:Int):PV:= .at (.int n)
def qU (r:EH):PV:= .lst (r.map vh)
def wyP (w:Wy):PV:= .tup [.at (.int w.1),.lst (w.2.map vh)]
def xt (ws:List Wy):PV:= .lst (ws.map wyP)
def OY (hl:r.length=h)(h4:h<=4)(hv:∀ v∈r,0<=v):XT [qU r,.at (.int h)]=some (.at (.bl true)):=by
 have hlim:lim=1000000:=rfl;refine n9 rfl (u7 (qB (jF (qP (qQ (z6 rfl XM))) (i8 (v:=false) (y7 (z6 rfl rfl) rfl ?_))) xC) (c8 (z6 (v6 (o9 vh (λ_=>PV.at (.bl true)) r rfl rfl (by omega) λv hvm=>?_) rfl) (wj _))))
 .show (peq 6 (.at (.int ((r.map vh).length:Int))) (.at (.int (h:Int)))).bind _=_;rw [yZ,hl];exact WH (x:= .at (.int (h:Int))) rfl
 .refine ⟨_,rfl,zr (z6 rfl (UO v)) ?_⟩;show some (PV.at (.bl (decide ((0:Int)<=v))))=_;rw [yt (hv v hvm)]
def OA (G:xO h tJ)(h1:1<=h)(h4:h<=4):JH [qK tJ]=some (.at .non):=by
 have hlim:lim=1000000:=rfl;have hlen:=G.len;have eh:((tJ.map qU).length:Int)-1=(h:Int):=by rw [yZ,hlen];omega
 have step:∀(k:Int),k=(h:Int)->y9 (m4 (n8 (dT (va pLe pLe (dC (.int 1)) (x9 1) (dC (.int 4))))) qz i6)
  (m4 (n8 (r9 (z0 zf (q0 (c6 [none,some 1] [0] (b8 (x6 0)) (w6 0) c7 (z0 XT (q0 (x6 0) (q0 (x6 1) x8)))) x8)))) qz i6) [.sh (qK tJ),.sh (.at (.int k))]=some (.nx [.sh (qK tJ),.sh (.at (.int k))]):=by
  rintro k rfl;refine u7 (qB (qP (i8 (VU (r:=true) rfl rfl ?_ rfl ?_))) xC) (qB (qP (qQ (z6 (v6 (o9 qU (λ_=>PV.at (.bl true)) tJ rfl rfl (by omega) λr hr=>⟨_,rfl,z6 rfl (OY (G.row r hr).1 h4 λv hv=>((G.row r hr).2 v hv).1)⟩) rfl) (wj _)))) xC)
  .show some (PV.at (.bl (decide ((1:Int)<=(h:Int)))))=_;rw [yt (by omega)]
  .show some (PV.at (.bl (decide ((h:Int)<=4))))=_;rw [yt (by omega)]
 exact Jo rfl (u7 (qB (qP (qQ (z6 rfl XM))) xC) (u7 (o7 rfl) (step _ eh)))
theorem Bo {α:Type}(f:α->PV):∀(l:List α)(n:Nat),qW n (l.map f)=(l.zipIdx n).map λp=>PV.tup [.at (.int ((p.2:Nat):Int)),f p.1]
 |[],_=>rfl
 |x::l,n=>by
  rw [yH,List.zipIdx_cons,yH];show PV.tup [.at (.int n),f x]::qW (n+1) (l.map f)=_;rw [Bo f l (n+1)]
def Aa (h:r.length<=4):XY [qU r]=some (xt (jv r)):=by
 have hlim:lim=1000000:=rfl;refine zE rfl (c8 ?_);have e:=o9 (tK:=[none,none]) (ts:=[0,1]) (it:=jE (q0 (x6 0) x8)) (g:=zd 2 (qh (w6 0) (qh (w6 1) zc))) (f:=xu (q0 (x6 1) (q0 (p6 (q0 (x6 0) x8)) x8))) (ε:=[.sh (qU r)])
  (λp:Int×Nat=>PV.tup [.at (.int ((p.2:Nat):Int)),vh p.1]) (λp:Int×Nat=>wyP (p.1,[(p.2:Int)])) (r.zipIdx 0) (by show some (qW 0 (r.map vh))=_;rw [Bo]) rfl (by rw [List.length_zipIdx];omega) λp _=>⟨_,rfl,rfl⟩
 refine e.trans ?_;unfold xt jv;rw [List.mapIdx_eq_zipIdx_map,yv];rfl
def OP {a b:Wy}(h:a.2.length+b.2.length<=1000):XU [wyP a,wyP b]=some (wyP (ji a b)):=by have hlim:lim=1000000:=rfl;refine n9 rfl (c8 (jJ (v6 (y7 rfl rfl rfl) (v6 (y7 rfl rfl (JW (by rw [yZ,yZ];omega))) rfl)) (by first|decide|(show 1<=lim;decide)|(show 2<=lim;decide)|(show 3<=lim;decide))) |>.trans ?_);unfold wyP ji;rw [yE]
def OT (a b:Wy):XX [wyP a,wyP b]=some (wyP (jM a b)):=by
 unfold jM;by_cases h:b.1<a.1
 .rw [rB h];exact n9 rfl (c8 (Bv (i8 (v:=true) (y7 rfl rfl (show some (PV.at (.bl (decide (b.1<a.1))))=_ by rw [yt h]))) rfl))
 .rw [rq h];exact n9 rfl (c8 (VV (i8 (v:=false) (y7 rfl rfl (show some (PV.at (.bl (decide (b.1<a.1))))=_ by rw [yA h]))) rfl))
theorem Mh {α β:Type}(f:α->PV)(g:β->PV):∀(l:List α)(m:List β),qE (l.map f) (m.map g)=(l.zip m).map λp=>PV.tup [f p.1,g p.2]
 |[],_=>by cases ‹List β›<;>rfl
 |_::_,[]=>rfl
 |x::l,y::m=>by
  show PV.tup [f x,g y]::qE (l.map f) (m.map g)=_;rw [Mh f g l m];rfl
theorem Mj {α β γ:Type}(f:α->β->γ):∀(l:List α)(m:List β),List.zipWith f l m=(l.zip m).map λp=>f p.1 p.2
 |[],_=>by simp
 |_::_,[]=>rfl
 |x::l,y::m=>by
  show f x y::List.zipWith f l m=_;rw [Mj f l m];rfl
def Ad {k:Nat}(hk:k<ws.length)(h4:ws.length<=4)(l1:∀ w∈ws,w.2.length<=100)(l2:∀ w∈onw,w.2.length<=100):QM [xt ws,.at (.int (k:Int)),xt onw]=some (xt (thr ws k onw)):=by
 have hlim:lim=1000000:=rfl;have hg:ws.getD k (0,[])=ws[k]:=qo hk;have hw:=yf hk;refine zE rfl (c8 ?_);have e:=o9 (tK:=[none,none,some 0,some 1]) (ts:=[0,1]) (it:=vK (q0 (x6 0) (q0 (x6 2) x8))) (g:=zd 2 (qh (w6 0) (qh (w6 1) zc))) (f:=z0 XX (q0 (x6 0) (q0 (z0 XU (q0 (z5 k6 (x9 2) (x9 3)) (q0 (x6 1) x8))) x8))) (ε:=[.sh (xt ws),.sh (.at (.int (k:Int))),.sh (xt onw)])
  (λp:Wy×Wy=>PV.tup [wyP p.1,wyP p.2]) (λp:Wy×Wy=>wyP (jM p.1 (ji ws[k] p.2))) (ws.zip onw) (by show some (qE (ws.map wyP) (onw.map wyP))=_;rw [Mh]) rfl (by rw [List.length_zip];omega) λp hp=>⟨_,rfl,z6 (v6 rfl (v6 (z6 (v6 (y7 rfl rfl (zy (v:=wyP ws[k]) (by rw [yM,yS hk];rfl))) (v6 rfl rfl)) (OP (by
   have q1:=l1 _ hw;have q2:=l2 p.2 (uz hp).2;omega))) rfl)) (OT _ _)⟩
 refine e.trans ?_;unfold xt thr;rw [hg,Mj,yv];rfl
def Am {k:Nat}(G:xO h tJ)(hk:k<=h)(h4:h<=4):∀ r∈qm tJ k,∀ w∈r,w.2.length<=100:=by
 intro r hr w hw;have S:=Shp.all G k hk;have F:=FW.all G k hk;obtain ⟨f,hf,rfl⟩:=uD hr;obtain ⟨g,hg,rfl⟩:=uD hw;have hf':f<=h:=by have:=S.len;omega
 have hg':g<h:=by rw [<- S.row _ hr];exact hg
 have e:k8 (qm tJ k) f g=(qm tJ k)[f][g]:=by unfold k8;rw [qo hf,qo hg]
 have q:=F.len f g hf' hg';rw [e] at q;have:2 ^ k<=2 ^ 4:=Nat.pow_le_pow_right (by decide) (by omega);omega
def ZG (T:EZ):PV:= .lst (T.map xt)
def OS (G:xO h tJ)(h1:1<=h)(h4:h<=4):JM [qK tJ]=some (ZG (qm tJ h)):=by
 have hlim:lim=1000000:=rfl;have hlimI:(lim:Int)=1000000:=rfl;have hlen:=G.len;have st:c6 [none] [0] (b8 (x6 0)) (w6 0) c7 (z0 XY (q0 (x6 0) x8)) [.sh (qK tJ),.no,.no,.no]=some (ZG (qm tJ 0)):=by refine (o9 qU (λr=>xt (jv r)) tJ rfl rfl (by omega) λr hr=>⟨_,rfl,z6 rfl (Aa (by rw [(G.row r hr).1];exact h4))⟩).trans ?_;show _=some (PV.lst ((tJ.map jv).map xt));rw [yv];rfl
 have rg:zQ (q0 (z5 vo (z0 xn (q0 (x9 0) x8)) (dC (.int 1))) x8) [.sh (qK tJ),.sh (ZG (qm tJ 0)),.no,.no]=some ((List.range h).map λ(i:Nat)=>PV.at (.int ((0:Int)+i))):=by refine wW (k:=h) (v6 (y7 (z6 rfl rfl) rfl ?_) rfl) (by omega);show some (PV.at (.int (((tJ.map qU).length:Int)-1)))=_;rw [yZ,hlen,show ((h+1:Nat):Int)-1=(h:Int) by omega]
 have lp:=JE (g:=w6 2) (f:=y9 (p9 3 (z5 k6 (x9 1) (x9 2))) (p9 1 (c6 [none,some 2,some 3] [0] (b8 (x6 1)) (w6 0) c7 (z0 QM (q0 (x6 0) (q0 (x6 1) (q0 (x6 2) x8)))))))
  (λ(i:Nat)=>PV.at (.int ((0:Int)+i))) (λl ε=>∃(k:Nat)(s2 s3:sN),l=(List.range h).drop k/\k<=h/\ε=[.sh (qK tJ),.sh (ZG (qm tJ k)),s2,s3]) (by
   rintro i l ε ⟨k,s2,s3,el,hk,rfl⟩;have hkl:k<h:=by
    have e5:(i::l).length=((List.range h).drop k).length:=by rw [<- el]
    rw [uO,uf,yJ] at e5;omega
   have ei:i=k:=by
    have:((List.range h).drop k)[0]?=some i:=by rw [<- el];rfl
    rw [oS,List.getElem?_range (by omega)] at this;simpa using this.symm
   have er:l=(List.range h).drop (k+1):=by
    have:((List.range h).drop k).tail=l:=by rw [<- el];rfl
    rw [<- this,List.tail_drop]
   subst ei;have S:=Shp.all G i hk;have hT:i<(qm tJ i).length:=by rw [S.len];omega
   have gD:(qm tJ i).getD i []=(qm tJ i)[i]:=qo hT;have wl:=Am G hk h4;refine ⟨_,_,rfl,u7 (o7 (x:=xt (qm tJ i)[i]) (y7 rfl rfl ?_)) (o7 (x:=ZG (qm tJ (i+1))) ?_),i+1,_,_,er,hkl,rfl⟩
   .show atI ((qm tJ i).map xt) (0+(i:Int))=_;rw [Int.zero_add];exact zy (by rw [yM,yS hT];rfl)
   .refine (o9 xt (λrow=>xt (thr row i (qm tJ i)[i])) (qm tJ i) rfl rfl (by rw [S.len];omega) λrow hr=>⟨_,rfl,z6 rfl ?_⟩).trans ?_
    .show QM [xt row,.at (.int (0+(i:Int))),xt (qm tJ i)[i]]=_;rw [Int.zero_add];exact Ad (by rw [S.row row hr];exact hkl) (by rw [S.row row hr];exact h4) (wl row hr) (wl _ (yf hT))
    .show _=some (PV.lst ((xD (qm tJ i) i).map xt));unfold xD;rw [yv,gD];rfl) (List.range h) _ ⟨0,.no,.no,rfl,yd _,rfl⟩
 obtain ⟨ε',e',k,s2,s3,el,hk,rfl⟩:=lp;have ek:k=h:=by have:=pL List.length el;rw [uO,uf] at this;simp at this;omega
 subst ek;exact n9 rfl (u7 (o7 st) (u7 (jH rg e') (c8 rfl)))
def Ab (h4:ws.length<=4):JO [xt ws]=some (qU (ws.map (·.1))):=by have hlim:lim=1000000:=rfl;refine zE rfl (c8 ((o9 wyP (λw=>vh w.1) ws rfl rfl (by omega) λw _=>⟨_,rfl,rfl⟩).trans ?_));unfold qU;rw [yv];rfl
def OR (G:xO h tJ)(h1:1<=h)(h4:h<=4):JL [qK tJ]=some (qK (wC tJ h)):=by have hlim:lim=1000000:=rfl;have S:=Shp.all G h (yP _);refine zE rfl (u7 (zt (z6 rfl (OA G h1 h4))) (c8 ((o9 xt (λws=>qU (ws.map (·.1))) (qm tJ h) (jI (z6 rfl (OS G h1 h4))) rfl (by rw [S.len];omega) λws hw=>⟨_,rfl,z6 rfl (Ab (by rw [S.row ws hw];exact h4))⟩).trans ?_)));show _=some (PV.lst ((wC tJ h).map qU));unfold wC;rw [yv];rfl
def Dr.low (d:Dr):EJ:=wC d.tJ d.h
def Nb:C7:=["least","given","held","last","time"]
def Dr.ob (C:Addr)(d:Dr):PV:= .ob C Nb [qK d.low,qK d.tJ,.fk (sU d.cls) (d.cls.map Cl.pv),.at (.int d.last),.at (.int d.time)]
def Dr.names (d:Dr):C7:=d.cls.map Cl.name
def OK (ok:d.Ok):vj C [d.ob C]=some (.at (.int d.h)):=by have G:=Wr ok.rin;refine n9 rfl (c8 (y7 (z6 (v6 (vd rfl rfl) rfl) rfl) rfl ?_));show some (PV.at (.int (((d.low.map qU).length:Int)-1)))=_;rw [yZ,show d.low.length=d.h+1 from G.len,show ((d.h+1:Nat):Int)-1=(d.h:Int) by omega]
def DL:wF C [d.ob C]=some (.tup [.at (.int d.last),.at (.int d.time)]):=n9 rfl (c8 (jJ (v6 (vd rfl rfl) (v6 (vd rfl rfl) rfl)) (by first|decide|(show 1<=lim;decide)|(show 2<=lim;decide)|(show 3<=lim;decide))))
def Br {i:Nat}{x:PV}(h1:a ε=some x)(h2:ε[i]?=some (.ow (.lst xs)))(h3:xs.length<=lim):wp i a ε=some (.nx (ε.set i (.ow (.lst (xs++[x]))))):=by unfold wp;rw [h1];show (match ε[i]? with|some (.ow (.lst xs))=>if xs.length<=lim then some (Out.nx (ε.set i (.ow (.lst (xs++[x]))))) else none|_=>none)=_;rw [h2];exact rB h3
def Bu {ks:List j5}{k:j5}(h1:a ε=some (.fk ks xs))(h2:b ε=some y)(h3:jj y=some k)(h4:xm k ks xs=some z):vc a b ε=some z:=by unfold vc;rw [h1,h2];show (jj y).bind _=_;rw [h3];exact h4
def LV {ks:List j5}{k:j5}{o:EA}(h1:a ε=some (.fk ks xs))(h2:b ε=some y)(h3:jj y=some k)(h4:xm k ks xs=o):Jd b a ε=some (.at (.bl (!o.isSome))):=by unfold Jd;rw [h1,h2];show (jj y).bind _=_;rw [h3,<- h4];rfl
def DE (ok:d.Ok)(hc:c∈d.cls):wD C [d.ob C,.at (.str c.name)]=some c.pv:=by
 have lk:=Wp Cl.pv ok.nd c hc;refine n9 rfl (u7 (qB (jF (qP (qQ (z6 rfl BL))) (i8 (v:=false) ?_)) xC) (c8 ?_))
 .exact LV (vd rfl rfl) rfl rfl lk
 .exact Bu (vd rfl rfl) rfl rfl lk
def Ix (G:xO h tJ){f:Int}{g:Nat}(f0:-1<=f)(f1:f<(h:Int))(hg:g<h):∃ r:EH,atI (tJ.map qU) f=some (qU r)/\atI (r.map vh) (g:Int)=some (.at (.int (rin tJ f (g:Int)))):=by
 have main:∀ n:Nat,n<=h->∃ r:EH,(tJ.map qU)[n]?=some (qU r)/\tJ[n]?=some r/\atI (r.map vh) (g:Int)=some (.at (.int (rin tJ (n:Int) (g:Int)))):=by
  intro n hn;have hl:n<tJ.length:=by have:=G.len;omega
  have hgl:g<tJ[n].length:=by rw [(G.row _ (yf hl)).1];exact hg
  refine ⟨tJ[n],by rw [yM,yS hl];rfl,yS hl,?_⟩;rw [Vi G hn hg,qo hl,qo hgl];exact zy (by rw [yM,yS hgl];rfl)
 by_cases hf:f=-1
 .subst hf;obtain ⟨r,e1,e2,e3⟩:=main h (yP _);refine ⟨r,?_,?_⟩
  .have hlen:(tJ.map qU).length=h+1:=by rw [yZ];exact G.len
   have e:atI (tJ.map qU) (h:Int)=some (qU r):=zy e1;rw [<- e];unfold atI;rw [hlen];have i1:ixN (h+1) (-1)=some h:=by
    unfold ixN;rw [rq (by decide),rB (by omega)]
    congr 1
    omega
   have i2:ixN (h+1) (h:Int)=some h:=by
    unfold ixN;rw [rB (by omega),rB (by omega)]
    congr 1
   rw [i1,i2]
  .rw [Im G.len];exact e3
 .obtain ⟨n,rfl⟩:=uV (show 0<=f by omega);obtain ⟨r,e1,e2,e3⟩:=main n (by omega);exact ⟨r,zy e1,e3⟩
def Ag (ok:d.Ok){f:Int}{g:Nat}(f0:-1<=f)(f1:f<(d.h:Int))(hg:g<d.h):QG C [d.ob C,.at (.int f),.at (.int (g:Int))]=some (.at (.int (rin d.low f (g:Int)))):=by obtain ⟨r,e1,e2⟩:=Ix (Wr ok.rin) f0 f1 hg;exact n9 rfl (c8 (y7 (y7 (vd rfl rfl) rfl e1) rfl e2))
def jf (a b:Int):i5 (.at (.int a)) (.at (.int b))=some (.at (.bl (decide (a=b)))):=by show some (PV.at (.bl (ql (.int a) (.int b))))=_;have:ql (.int a) (.int b)=decide (a=b):=rfl;rw [this]
def Rg (a b:Int):pNe (.at (.int a)) (.at (.int b))=some (.at (.bl (!decide (a=b)))):=by show some (PV.at (.bl (!ql (.int a) (.int b))))=_;have:ql (.int a) (.int b)=decide (a=b):=rfl;rw [this]
structure Lst (d:Dr)(ns:EE):Prop where
 sub:∀ c∈ns,c∈d.cls
 nd:(ns.map Cl.name).Nodup
def v9 (cs:EE):PV:= .lst (y6 (cs.map Cl.name))
def Lst.len (ok:d.Ok)(L:Lst d ns):ns.length<=10:=by
 have:=Py L.nd (left:=d.cls.map Cl.name) λx hx=>by
  obtain ⟨c,hc,rfl⟩:=yB.mp hx;exact yB.mpr ⟨c,L.sub c hc,rfl⟩
 rw [yZ,yZ] at this;have:=ok.ten;omega
def HD {R:AX}{i:Nat}{xs:EB}(hi:σ[i]?=some (some (.ref p)))(hp:sK K H p xs)(hl:xs.length<=1000)(q:R (Itr 0 xs.length) H):Jx (qv (tCB (Xa K) (qv (qM i) qL)) qL) σ H R :=
 ⟨_,hi,.inl ⟨_,_,rfl,.inl ⟨xs,hp,rfl⟩,(xs.length:Int),rfl,by omega,by omega,by rw [uA];exact q⟩⟩
structure Tray (t:EE):Prop where
 ne:t≠[]
 one:∀ c∈t,∀ e∈t,c.hue=e.hue
structure sM (d:Dr)(T:C6):Prop where
 perm:T.flatten.Perm d.cls
 each:∀ t∈T,Tray t
def Vd:C5->Prop:=λxs=>∃ d:Dr,xs=[d.pv]/\d.Ok
def ZU:C5->PV->Prop:=λxs y=>∃(d:Dr)(T:C6),xs=[d.pv]/\y = .lst (T.map v9)/\sM d T
def No (h:spD Vd ZU vs H Q E):vs.length=(["row","parts"]:C7).length:=by obtain ⟨Hs,a,n,xs,ws,rfl,_,_,_,r,⟨d,rfl,_⟩,_⟩:=h;rw [yJ,r.length];rfl
def qt (cs:EE):EB:=cs.map λc=>V.str c.name
def Zf (cs:EE):(qt cs).length=cs.length:=yZ _
def Px (cs:EE):y6 (cs.map Cl.name)=(qt cs).map PV.at:=by unfold y6 qt;rw [yv,yv];rfl
structure TI (H3:Hp)(a fr F:Addr)(H:Hp)(n:Int)(free:EE)(as:EC)(T:C6):Prop where
 row:H a=some (.lst [.int n])
 fre:H fr=some (.lst (qt free))
 top:H F=some (.lst (as.map V.ref))
 len:as.length=T.length
 tr:∀(i:Nat)(b:Addr)(t:EE),as[i]?=some b->T[i]?=some t->H b=some (.lst (qt t))
 nd:(a::fr::F::as).Nodup
 new:∀ b∈as,H3 b=none
 kp:∀ b o,b≠a->b≠fr->b≠F->H3 b=some o->H b=some o
section
variable {H3 H:Hp}{a fr F p:Addr}{n m:Int}{free fre2:EE}{as:EC}{T:C6}{o:HO}
def TI.ne (x:TI H3 a fr F H n free as T):a≠fr/\a≠F/\a∉as/\fr≠F/\fr∉as/\F∉as/\as.Nodup:=by obtain ⟨h1,h2⟩:=yn.mp x.nd;obtain ⟨h3,h4⟩:=yn.mp h2;obtain ⟨h5,h6⟩:=yn.mp h4;simp only [yL,not_or] at h1 h3;exact ⟨h1.1,h1.2.1,h1.2.2,h3.1,h3.2,h5,h6⟩
def TI.nb (x:TI H3 a fr F H n free as T){b:Addr}(hb:b∈as):b≠a/\b≠fr/\b≠F:=by obtain ⟨_,_,n3,_,n5,n6,_⟩:=x.ne;exact ⟨λz=>n3 (z▸hb),λz=>n5 (z▸hb),λz=>n6 (z▸hb)⟩
def TI.mem (x:TI H3 a fr F H n free as T){b:Addr}(hb:b∈as):∃(i:Nat)(t:EE),as[i]?=some b/\T[i]?=some t:=by obtain ⟨i,hi,e⟩:=List.mem_iff_getElem.mp hb;exact ⟨i,T[i]'(by rw [<- x.len];exact hi),by rw [yS hi,e],yS _⟩
def TI.setRow (x:TI H3 a fr F H n free as T):TI H3 a fr F (z9 H a (.lst [.int m])) m free as T:=by obtain ⟨n1,n2,n3,n4,n5,n6,_⟩:=x.ne;refine ⟨u5,by rw [j3 n1.symm];exact x.fre,by rw [j3 n2.symm];exact x.top,x.len,λi b t hb ht=>?_,x.nd,x.new,λb u h1 h2 h3 e=>by rw [j3 h1];exact x.kp b u h1 h2 h3 e⟩;rw [j3 (x.nb (yu hb)).1];exact x.tr i b t hb ht
def TI.setFre (x:TI H3 a fr F H n free as T):TI H3 a fr F (z9 H fr (.lst (qt fre2))) n fre2 as T:=by obtain ⟨n1,n2,n3,n4,n5,n6,_⟩:=x.ne;refine ⟨by rw [j3 n1];exact x.row,u5,by rw [j3 n4.symm];exact x.top,x.len,λi b t hb ht=>?_,x.nd,x.new,λb u h1 h2 h3 e=>by rw [j3 h2];exact x.kp b u h1 h2 h3 e⟩;rw [j3 (x.nb (yu hb)).2.1];exact x.tr i b t hb ht
def TI.lay (x:TI H3 a fr F H n free as T)(hp:H p=none):TI H3 a fr F (z9 H p o) n free as T:=by
 have k:∀{b:Addr}{u:HO},H b=some u->z9 H p o b=some u:=λ{b u} e=>by rw [j3 (k9 e hp)];exact e
 exact ⟨k x.row,k x.fre,k x.top,x.len,λi b t hb ht=>k (x.tr i b t hb ht),x.nd,x.new,λb u h1 h2 h3 e=>k (x.kp b u h1 h2 h3 e)⟩
def TI.app (x:TI H3 a fr F H n free as T){i:Nat}{b:Addr}(hb:as[i]?=some b)(ht:T[i]?=some t):TI H3 a fr F (z9 H b (.lst (qt (t++[c])))) n free as (T.set i (t++[c])):=by
 obtain ⟨n1,n2,n3,n4,n5,n6,nd⟩:=x.ne;have bm:=yu hb;have hi:i<T.length:=(yK.mp ht).1;refine ⟨by rw [j3 (x.nb bm).1.symm];exact x.row,by rw [j3 (x.nb bm).2.1.symm];exact x.fre,by rw [j3 (x.nb bm).2.2.symm];exact x.top,by rw [yc];exact x.len,λj e u he hu=>?_,x.nd,x.new,λe u h1 h2 h3 z=>?_⟩
 .by_cases hj:i=j
  .subst hj;rw [hb] at he;cases he;rw [uu hi] at hu;cases hu;exact u5
  .rw [yh hj] at hu;rw [j3 (λz=>?_)]
   .exact x.tr j e u he hu
   .subst z;obtain ⟨q1,e1⟩:=yK.mp hb;obtain ⟨q2,e2⟩:=yK.mp he;exact hj ((List.getElem_inj (h₀:=q1) (h₁:=q2) nd).mp (e1.trans e2.symm))
 .rw [j3 (λy=>by rw [y,x.new b bm] at z;cases z)];exact x.kp e u h1 h2 h3 z
def ww {l:List α}{j i:Nat}{y b:α}(hj:j<=l.length)(h:(l.take j++y::l.drop j)[i]?=some b):(i<j/\l[i]?=some b)∨(i=j/\b=y)∨(j<i/\l[i-1]?=some b):=by
 rw [List.getElem?_append] at h;have tl:(l.take j).length=j:=by rw [uZ];omega
 split at h
 .rename_i hi;rw [tl] at hi;rw [List.getElem?_take_of_lt hi] at h;exact .inl ⟨hi,h⟩
 .rename_i hi;rw [tl] at hi h;cases hk:i-j with
  |zero=>rw [hk] at h;cases h;exact .inr (.inl ⟨by omega,rfl⟩)
  |succ k=>rw [hk,List.getElem?_cons_succ,oS] at h;refine .inr (.inr ⟨by omega,?_⟩);rw [show i-1=j+k by omega];exact h
def TI.ins (x:TI H3 a fr F H n free as T)(hp:H p=none)(h3:H3 p=none){c:Cl}{j:Nat}(hj:j<=as.length):TI H3 a fr F (z9 (z9 H p (.lst (qt [c]))) F (.lst ((as.take j++p::as.drop j).map V.ref))) n free (as.take j++p::as.drop j) (T.take j++[c]::T.drop j):=by
 obtain ⟨n1,n2,n3,n4,n5,n6,nd⟩:=x.ne;have k:∀{b:Addr}{u:HO},H b=some u->z9 H p (.lst (qt [c])) b=some u:=λ{b u} e=>by rw [j3 (k9 e hp)];exact e
 have pa:p≠a:=λz=>by rw [z,x.row] at hp;cases hp
 have pf:p≠fr:=λz=>by rw [z,x.fre] at hp;cases hp
 have pF:p≠F:=λz=>by rw [z,x.top] at hp;cases hp
 have ps:p∉as:=λz=>by
  obtain ⟨i,t,h1,h2⟩:=x.mem z;rw [x.tr i p t h1 h2] at hp;cases hp
 have pm:(as.take j++p::as.drop j).Perm (p::as):=by have:=um (a:=p) (l₁:=as.take j) (l₂:=as.drop j);rwa [uG] at this
 have hT:j<=T.length:=by rw [<- x.len];exact hj
 refine ⟨by rw [j3 n2];exact k x.row,by rw [j3 n4];exact k x.fre,u5,by simp [x.len],λi b t hb ht=>?_,?_,λb hb=>?_,λb u h1 h2 h4 e=>by rw [j3 h4];exact k (x.kp b u h1 h2 h4 e)⟩
 .have fb:b≠F:=λz=>by
   have:=pm.mem_iff.mp (yu hb);rw [z] at this;rcases yL.mp this with h|h
   ·exact pF h.symm
   ·exact n6 h
  rw [j3 fb];rcases ww hj hb with ⟨q1,q2⟩|⟨q1,rfl⟩|⟨q1,q2⟩<;>rcases ww hT ht with ⟨w1,w2⟩|⟨w1,rfl⟩|⟨w1,w2⟩<;>first|omega|exact k (x.tr _ b t q2 w2)|exact u5
 .have:(a::fr::F::(as.take j++p::as.drop j)).Perm (p::a::fr::F::as):=by refine (((pm.cons F).cons fr).cons a).trans ?_;exact (((List.Perm.swap p F as).cons fr).cons a).trans ((List.Perm.swap p fr (F::as)).cons a |>.trans (List.Perm.swap p a (fr::F::as)))
  refine this.nodup_iff.mpr (yn.mpr ⟨?_,x.nd⟩);simp only [yL,not_or];exact ⟨pa,pf,pF,ps⟩
 .rcases yL.mp (pm.mem_iff.mp hb) with rfl|h
  .exact h3
  .exact x.new b h
end
section
variable{i:Nat}{a:Addr}{xs:EB}{m:Int}
def WZ (hi:σ[i]?=some (some (.ref p)))(hp:H p=some (.lst xs))(q:Q (.int xs.length) H):tCB (Xa K) (qv (qM i) qL) σ H Q:=⟨_,hi,.inl ⟨_,_,rfl,.inl ⟨xs,sK.of hp,rfl⟩,q⟩⟩
def CB (K:Fg)(hi:σ[i]?=some (some (.ref p)))(hp:H p=some (.lst xs))(q:Q (.int (xs.length+1)) H):tOp (WY K) (tCB (Xa K) (qv (qM i) qL)) (tC (.int 1)) σ H Q:=WZ hi hp (.inl ⟨_,_,rfl,rfl,q⟩)
def Ya {te:TE}(hi:σ[0]?=some (some (.ref a)))(ha:H a=some (.lst [.int n]))(h:∀{R:VK},R (.int m) H->te σ H R)(hc:Xj n m)(q:Q (.int (n % m)) (z9 H a (.lst [.int (n / m)]))):xT jT [] E0 (qv (qM 0) (qv te qL)) σ H Q :=
 ⟨_,hi,h ⟨a,n,m,rfl,ha,hc,q⟩⟩
end
def UJ {xs:EB}(h:H p=some (.lst xs)):tyV K "list" (.ref p) H:= .inl ⟨rfl,xs,sK.of h⟩
theorem BV:∀{kvs:EL}{cs:EE},kvs.map (·.1)=sU cs->(kvs.map (·.2)=cs.map λc=>V.int c.hue)->kvs=cs.map λc=>((Sum.inr c.name:j5),V.int c.hue)
 |[],[],_,_=>rfl
 |[],_::_,h,_=>by cases h
 |_::_,[],h,_=>by cases h
 |(k,v)::kvs,c::cs,h1,h2=>by
  injection h1 with a1 b1;injection h2 with a2 b2;rw [BV b1 b2,yH]
  congr 1
  exact Prod.ext a1 a2
theorem WV (f:Cl->PV):∀ cs:EE,js (cs.map λc=>PV.tup [.at (.str c.name),f c])=some (cs.map λc=>((.inr c.name:j5),f c))
 |[]=>rfl
 |c::cs=>by
  show Option.bind (some (Sum.inr c.name:j5)) (λkk=>(js (cs.map λc=>PV.tup [.at (.str c.name),f c])).map ((kk,f c)::·))=_;rw [WV f cs];rfl
theorem Js {α:Type}:∀{T:List (List α)},(∀ t∈T,t≠[])->T.length<=T.flatten.length
 |[],_=>yP _
 |t::T,h=>by
  rw [yq,yV,yJ];have:=Js (T:=T) λx hx=>h x (yO _ hx);have:=ui.mpr (h t yR);omega
theorem Jr {α:Type}:∀{T:List (List α)}{t:List α},t∈T->t.length<=T.flatten.length
 |x::T,t,h=>by
  rw [yq,yV];rcases yL.mp h with rfl|h
  .omega
  .have:=Jr h;omega
theorem VZ {α:Type}:∀{T:List (List α)}{i:Nat}{t:List α}{c:α},T[i]?=some t->(T.set i (t++[c])).flatten.Perm (c::T.flatten)
 |[],i,_,_,h=>by simp at h
 |x::T,0,t,c,h=>by
  cases h;rw [List.set_cons_zero,yq,yq,uW];exact um
 |x::T,i+1,t,c,h=>by
  rw [List.set_cons_succ,yq,yq];exact ((VZ (T:=T) (c:=c) (by simpa using h)).append_left x).trans um
def Nc (T:List (List α))(j:Nat)(c:α):(T.take j++[c]::T.drop j).flatten.Perm (c::T.flatten):=by
 rw [uR,yq];have:T.flatten=(T.take j).flatten++(T.drop j).flatten:=by rw [<- uR,uG]
 rw [this];exact um
def sV (h:(cs.map Cl.name).Nodup):(sU cs).Nodup:=by
 have e:sU cs=(cs.map Cl.name).map λs=>(Sum.inr s:j5):=by unfold sU;rw [yv];rfl
 rw [e];exact List.Pairwise.map _ (λa b hab z=>hab (Sum.inr.inj z)) h
def nine {l:List α}(h:l.length=9):∃ a b c d e f g i j,l=[a,b,c,d,e,f,g,i,j]:=by
 match l,h with
 |[a,b,c,d,e,f,g,i,j],_=>exact ⟨a,b,c,d,e,f,g,i,j,rfl⟩
def BF (nd:(cs.map Cl.name).Nodup)(hc:c∈cs):qr (cs.map λc=>((Sum.inr c.name:j5),V.int c.hue)) (Sum.inr c.name)=some (.int c.hue):=by
 unfold L2.qr
 induction cs with
 |nil=>cases hc
 |cons x cs ih =>
  rw [yH,yn] at nd;rw [yH,uy];rcases yL.mp hc with rfl|hc
  .simp
  .have:x.name≠c.name:=λe=>nd.1 (e▸yB.mpr ⟨c,hc,rfl⟩);rw [show decide ((Sum.inr x.name:j5)=Sum.inr c.name)=false by simp [this]];exact ih nd.2 hc
def sT {t u:TS}{f:MS}[sf:i0 false t f]{ε':ME}{Hs0 H0 Hs:Hp}{D:xy}(e:f ε=some (.nx ε'))(rs:RS Hs0 H0 Hs H σ ε)(k:∀ Hs H σ,RS Hs0 H0 Hs H σ ε'->u D σ H):tSeq t u D σ H:=sf.h e rs k
abbrev Uo:Stmt:=top 75
def rG:y8 ["row","parts","hues","free","found","k","name","same","pick"] ["row","parts"] (j4 Uo):=u8
def TN (F:Fun K "_law_trays" "_law_trays" Uo f fd)(A0:Fn P w K mg tM 1 "_law_digit" ["row","many"] jT)(J7:mg "dict"=none)(Az:mg "len"=none)(A4:mg "range"=none):sQ P w K mg tM v8 2 f fd ["row","parts"] (spD Vd ZU):=by
 refine F.ok (k:=1) rG (λvs H Q E h=>No h) (λtH A tL s H vs Q E hr h=>⟨_,(j6 (sW 2 rG.nd (wN (VD K rfl rfl) rfl J7 VB (aW (qu (N':=["cloth"]) (tK:=[none]) (t6 rfl rfl rfl) rfl (@i7 _ K _ _ _ rfl (iW K rfl (pv 1) z7)) (λ_ _ _ _ _ _=>(tO (i:=0) ["cloth"])) (λ_ _ _ _ _ _=>i9) (λ_ _ _ _ _ _=>(@zI _ _ _ _ _ (aC (iW K rfl (pv 0) z7) (aW (iW K rfl (pv 0) z7)))))))))
  (j6 (jt (i:=3) (N':=["cloth"]) (tK:=[none]) (t6 rfl rfl rfl) rfl rG.nd rfl rfl (@i7 _ K _ _ _ rfl (iW K rfl (pv 1) z7)) (λ_ _ _ _ _ _=>(tO (i:=0) ["cloth"])) (λ_ _ _ _ _ _=>i9) (λ_ _ _ _ _ _=>(iW K rfl (pv 0) z7)))
  (j6 (sW 4 rG.nd (@m8 _ _ _ _ w9))
  (j6 (zi PassesOwn.never rfl (vq rfl A4 (aW (p7 (xj K) rfl Az rl (aW (pv 3))))) (gW 5 rG.nd)
   (j6 (sW 6 rG.nd (zg K rfl rn PySem.F.slot_list_pop PySem.F.type_list_pop Pq (pv 3) (z8 (fW A0 hr (aC (pv 0) (aW (p7 (xj K) rfl Az rl (aW (pv 3)))))) w9)))
  (j6 (jt (i:=7) (N':=["tray","hues","name"]) (tK:=[none,some 2,some 6]) (t6 rfl rfl rfl) rfl rG.nd rfl rfl (@i7 _ K _ _ _ rfl (pv 4)) (λ_ _ _ _ _ _=>(tO (i:=0) ["tray","hues","name"])) (λ_ _ _ _ _ _=>(Vf (qc (xG K (qC hr) rfl) (Zn (vO hr) (pv 1) (iW K rfl (pv 0) z7) (λ_ _=>rfl)) (Zn (vO hr) (pv 1) (pv 2) (λ_ _=>rfl)) (m7 _)))) (λ_ _ _ _ _ _=>(pv 0)))
  (j6 (sW 8 rG.nd (fW A0 hr (aC (pv 0) (aW (u4 (t0 K) (p7 (xj K) rfl Az rl (aW (pv 7))) z7)))))
  (j9 (qb (qc (Zi) (pv 8) (p7 (xj K) rfl Az rl (aW (pv 7))) (m7 _)) (j9 (xp (zg K rfl rn rk rj zT (iW K rfl (pv 7) (pv 8)) (z8 (pv 6) w9)))) (j9 (xp (zg K rfl rn PySem.F.slot_list_insert PySem.F.type_list_insert HZ (pv 4) (z8 (fW A0 hr (aC (pv 0) (aW (u4 (t0 K) (p7 (xj K) rfl Az rl (aW (pv 4))) z7)))) (z8 (@m8 _ _ _ _ (aW (pv 6))) w9)))))))))))
  (j9 (u6 (pv 4))))))),?_⟩)
 obtain ⟨Hs,a,n,xs,ws,rfl,sm,na,ha,r,⟨d,rfl,ok⟩,q⟩:=h;obtain ⟨v1,rr,rfl,p1,p2⟩:=tz.mp r;cases tu.mp p2;have hlim:lim=1000000:=rfl;have ten:=ok.ten;have rs0:RS Hs H Hs H _ _:=zL (N:=["row","parts","hues","free","found","k","name","same","pick"]) (xs:=[.op λ_ v=>v = .ref a,d.pv]) (vs:=[.ref a,v1]) sm (.cons (rep_op.mpr ⟨Hs,.refl _,rfl⟩) (.one p1));have e1:p9 2 (z0 wL (q0 (c6 [none] [0] (b8 (z5 k6 (x9 1) (dC (.int 1)))) (w6 0) c7 (xu (q0 (z5 k6 (x9 0) (dC (.int 0))) (q0 (z5 k6 (x9 0) (dC (.int 1))) x8)))) x8)) [.sh (.op λ_ v=>v = .ref a),.sh d.pv,.no,.no,.no,.no,.no,.no,.no]=some (.nx [.sh (.op λ_ v=>v = .ref a),.sh d.pv,.sh (.fk (sU d.cls) (d.cls.map λc=> .at (.int c.hue))),.no,.no,.no,.no,.no,.no]):=by
  refine o7 (z6 (v6 (o9 Cl.pv (λc=>PV.tup [.at (.str c.name),.at (.int c.hue)]) d.cls (jI (y7 rfl rfl rfl)) rfl (by omega) λc _=>⟨_,rfl,jJ (v6 (y7 rfl rfl rfl) (v6 (y7 rfl rfl rfl) rfl)) l2⟩) rfl) ?_);show (js (d.cls.map λc=>PV.tup [.at (.str c.name),.at (.int c.hue)])).bind _=_;have q1:(d.cls.map λc=>((.inr c.name:j5),PV.at (.int c.hue))).map (·.1)=sU d.cls:=by rw [yv];rfl
  have q2:(d.cls.map λc=>((.inr c.name:j5),PV.at (.int c.hue))).map (·.2)=d.cls.map λc=>PV.at (.int c.hue):=by rw [yv];rfl
  rw [WV,yD,q1,q2];exact rB ⟨sV ok.nd,by rw [yZ];omega⟩
 have e2:vI 3 (c6 [none] [0] (b8 (z5 k6 (x9 1) (dC (.int 1)))) (w6 0) c7 (z5 k6 (x9 0) (dC (.int 0)))) [.sh (.op λ_ v=>v = .ref a),.sh d.pv,.sh (.fk (sU d.cls) (d.cls.map λc=> .at (.int c.hue))),.no,.no,.no,.no,.no,.no]=some (.nx [.sh (.op λ_ v=>v = .ref a),.sh d.pv,.sh (.fk (sU d.cls) (d.cls.map λc=> .at (.int c.hue))),.ow (.lst (d.cls.map λc=> .at (.str c.name))),.no,.no,.no,.no,.no]) :=
  XG (o9 Cl.pv (λc=>PV.at (.str c.name)) d.cls (jI (y7 rfl rfl rfl)) rfl (by omega) λc _=>⟨_,rfl,y7 rfl rfl rfl⟩)
 have e3:vI 4 (p6 x8) [.sh (.op λ_ v=>v = .ref a),.sh d.pv,.sh (.fk (sU d.cls) (d.cls.map λc=> .at (.int c.hue))),.ow (.lst (d.cls.map λc=> .at (.str c.name))),.no,.no,.no,.no,.no]=some (.nx [.sh (.op λ_ v=>v = .ref a),.sh d.pv,.sh (.fk (sU d.cls) (d.cls.map λc=> .at (.int c.hue))),.ow (.lst (d.cls.map λc=> .at (.str c.name))),.ow (.lst []),.no,.no,.no,.no]):=XG (xP rfl l0);refine sT e1 rs0 λtG H1 σ1 r1=>sT e2 r1 λtF H2 σ2 r2=>sT e3 r2 λHs3 H3 σ3 r3=>?_;clear r1 r2 e1 e2 e3 rs0;obtain ⟨w0,g0,c0⟩:=r3.sh 0 _ rfl;obtain ⟨_,_,rfl⟩:=rep_op.mp c0;obtain ⟨w1,g1,c1⟩:=r3.sh 1 _ rfl;obtain ⟨w2,g2,c2⟩:=r3.sh 2 _ rfl;obtain ⟨hu,oo,kvs,rfl,hk,k1,k2⟩:=rep_fk.mp c2;obtain ⟨fr,g3,n3,s3,fv,hf,rf⟩:=r3.ow 3 _ rfl;obtain ⟨F0,g4,n4,s4,ov,hF,rF⟩:=r3.ow 4 _ rfl;cases tu.mp rF;have ffr:fr≠F0:=λz=>by
  subst z;exact rp (r3.nd 3 4 _ _ fr rfl rfl g3 g4) (by decide)
 have efv:fv=qt d.cls:=by
  have:sR Hs3 ((qt d.cls).map PV.at) fv:=by rw [<- Px];unfold y6;rw [yv];exact rf
  exact this.ats
 subst efv;have a3:H3 a=some (.lst [.int n]):=r3.ext.s2 _ _ ha;have sa:Hs3 a=none:=r3.ext.s4 a (by rw [ha];exact λz=>nomatch z) na;have anf:a≠fr:=λz=>by rw [<- z,ha] at n3;cases n3
 have anF:a≠F0:=λz=>by rw [<- z,ha] at n4;cases n4
 have ekv:kvs=d.cls.map λc=>((Sum.inr c.name:j5),V.int c.hue):=by
  have k3:kvs.map (·.2)=d.cls.map λc=>V.int c.hue:=by
   have:sR Hs3 ((d.cls.map λc=>V.int c.hue).map PV.at) (kvs.map (·.2)):=by rw [yv];exact k2
   exact this.ats
  exact BV k1 k3
 have T0:TI H3 a fr F0 H3 n d.cls [] []:=⟨a3,hf,hF,rfl,(λi b t z=>by simp at z),by simp [anf,anF,ffr],(λ_ z=>nomatch z),λ_ _ _ _ _ e=>e⟩;obtain ⟨x0,x1,x2,x3,x4,s5,s6,s7,s8,rfl⟩:=nine r3.len;obtain rfl:x0=some (.ref a):=Option.some.inj g0;obtain rfl:x1=some w1:=Option.some.inj g1;obtain rfl:x2=some (.ref hu):=Option.some.inj g2;obtain rfl:x3=some (.ref fr):=Option.some.inj g3;obtain rfl:x4=some (.ref F0):=Option.some.inj g4;show tFor (Jx (qv (tCB (Xa K) (qv (qM 3) qL)) qL)) (xE 5) _ _ [some (.ref a),some w1,some (.ref hu),some (.ref fr),some (.ref F0),s5,s6,s7,s8] _;refine HD (K:=K) (i:=3) (p:=fr) (xs:=qt d.cls) (σ:=[some (.ref a),some w1,some (.ref hu),some (.ref fr),some (.ref F0),s5,s6,s7,s8]) rfl (sK.of hf) (by rw [Zf];omega) ?_;rw [Zf];have hua:hu≠a:=λz=>by rw [z,sa] at hk;cases hk
 have huf:hu≠fr:=λz=>by rw [z,s3] at hk;cases hk
 have huF:hu≠F0:=λz=>by rw [z,s4] at hk;cases hk
 have BT:=Qe;refine BD (λi σ H2=>∃(n:Int)(free:EE)(as:EC)(T:C6)(s5 s6 s7 s8:EY),σ=[some (.ref a),some w1,some (.ref hu),some (.ref fr),some (.ref F0),s5,s6,s7,s8]/\TI H3 a fr F0 H2 n free as T/\free.length+i=d.cls.length/\(T.flatten++free).Perm d.cls/\∀ t∈T,Tray t) ⟨n,d.cls,[],[],_,_,_,_,rfl,T0,rfl,.refl _,(λ_ z=>nomatch z)⟩ ?_ ?_
 .rintro i σ H2 hi ⟨n2,free,as,T,s5,s6,s7,s8,rfl,X,fl,pm,tr⟩;have hfl:0<free.length:=by omega
  have tl:T.length<=10:=by have:=Js λt ht=>(tr t ht).ne;have:=pm.length_eq;rw [yV] at this;omega
  have c0:0<=n2 % (free.length:Int):=ya _ (by omega);have c1:n2 % (free.length:Int)<(free.length:Int):=yi _ (by omega);obtain ⟨j,hj⟩:=uV c0;have jl:j<free.length:=by omega
  refine ⟨_,rfl,UJ X.fre,Ya (m:=(free.length:Int)) rfl X.row (λ{R} z=>WZ (K:=K) (i:=3) rfl X.fre (by rw [Zf];exact z)) (vH (by omega) (by omega)) ?_⟩;have X1:=X.setRow (m:=n2 / (free.length:Int));refine ⟨fr,qt free,_,j,.str free[j].name,rfl,rfl,X1.fre,by omega,by omega,?_,?_,?_⟩
  .rw [hj,PySem.StrLaws.seqIndex_nonneg (by omega) (by rw [Zf];omega),uA]
  .unfold qt;rw [yM,yS jl];rfl
  have X2:=X1.setFre (fre2:=free.eraseIdx j);rw [show (qt free).eraseIdx j=qt (free.eraseIdx j) from VT _ _ _];generalize z9 (z9 H2 a (.lst [.int (n2 / (free.length:Int))])) fr (.lst (qt (free.eraseIdx j)))=Ha at X2 ⊢;clear X X1;have pe:=WO jl;generalize hc:free[j]=c at pe ⊢;have cm:c∈d.cls:=pm.mem_iff.mp (yw _ (hc▸yf jl));have lf:(free.eraseIdx j).length+(i+1)=d.cls.length:=by rw [List.length_eraseIdx_of_lt jl];omega
  have pm2:(T.flatten++c::free.eraseIdx j).Perm d.cls:=(pe.append_left _).trans pm;have hd:Rd Ha hu (.dK kvs):= .inr ⟨oo,X2.kp hu _ hua huf huF (r3.ext.s3 _ _ hk)⟩;have tm:∀ t∈T,∀ e∈t,e∈d.cls:=λt ht e he=>pm.mem_iff.mp (yo _ (uM.mpr ⟨t,ht,he⟩));have al:(as.map V.ref).length<=10:=by rw [yZ,X2.len];exact tl
  refine ⟨_,rfl,F0,rfl,⟨_,sK.of X2.top⟩,KQ (xs:=as.map V.ref) (λi ys H=>H=Ha/\ys.length<=i/\∀ y∈ys,∃(k:Nat)(b:Addr)(t:EE),as[k]?=some b/\T[k]?=some t/\y = .ref b/\∀ e∈t,e.hue=c.hue) ⟨rfl,yP _,(λ_ z=>nomatch z)⟩ (λi ys H hi h=>xL (by have:=h.2.1;omega)) (λi ys H _ h=>h.1▸sK.of X2.top) ?_ ?_⟩
  .rintro k x ys _ R hx ⟨rfl,hl,hy⟩ hR;rw [yM] at hx;obtain ⟨b,hb,rfl⟩:=yC.mp hx;obtain ⟨kl,_⟩:=yK.mp hb;have kT:k<T.length:=by rw [<- X2.len];exact kl
   have ht:=yS kT;generalize T[k]=t at ht;have mt:=yu ht;have Tt:=tr t mt;have hH:=X2.tr k b t hb ht;obtain ⟨e0,t',rfl⟩:=ur Tt.ne;have em:e0∈d.cls:=tm _ mt e0 yR;refine ⟨Wk.one rfl,⟨_,rfl,⟨_,rfl,.inl ⟨b,qt (e0::t'),0,.str e0.name,rfl,rfl,sK.of hH,zy (j:=0) (show (qt (e0::t'))[0]?=_ from rfl),⟨hu,.int e0.hue,rfl,.inl ⟨kvs,.inr e0.name,hd,rfl,by rw [ekv];exact (BF ok.nd em).symm⟩,⟨_,rfl,⟨_,rfl,⟨hu,.int c.hue,rfl,.inl ⟨kvs,.inr c.name,hd,rfl,by rw [ekv];exact (BF ok.nd cm).symm⟩,⟨ql (.int e0.hue) (.int c.hue),.inl ⟨rfl,rfl,rfl⟩,⟨_,rfl,?_⟩⟩⟩⟩⟩⟩⟩⟩⟩⟩;have ev:ql (.int e0.hue) (.int c.hue)=decide ((e0.hue:Int)=c.hue):=rfl;show (if ql (.int e0.hue) (.int c.hue)=true then _ else _);rw [ev];by_cases he:(e0.hue:Int)=c.hue
   .rw [rB (yt he)];refine ⟨_,rfl,hR _ _ ⟨rfl,by rw [yV];simp;omega,λy hm=>?_⟩⟩;rcases yF.mp hm with hm|hm
    .exact hy y hm
    .exact ⟨k,b,_,hb,ht,yU.mp hm,λe h=>by have:=Tt.one e h e0 yR;omega⟩
   .rw [rq (by rw [yA he];exact yQ)];exact hR _ _ ⟨rfl,by omega,hy⟩
  rintro ys Ha ⟨rfl,hl,hy⟩ S hS;have X3:=X2.lay (o:= .lst ys) hS;have hSl:z9 Ha S (.lst ys) S=some (.lst ys):=u5;have Sa:S≠a:=λz=>by rw [z,X2.row] at hS;cases hS
  generalize z9 Ha S (.lst ys)=Hb at X3 hSl ⊢;clear X2 hd hS;refine Ya (m:=(ys.length:Int)+1) rfl X3.row (λ{R} z=>CB K (i:=7) rfl hSl z) (vH (by omega) (by omega)) ?_;generalize n2 / (free.length:Int)=n3 at X3 ⊢;have X4:=X3.setRow (m:=n3 / ((ys.length:Int)+1));have d0:0<=n3 % ((ys.length:Int)+1):=ya _ (by omega);have d1:n3 % ((ys.length:Int)+1)<(ys.length:Int)+1:=yi _ (by omega);obtain ⟨k,hk2⟩:=uV d0;rw [hk2];have hS2:z9 Hb a (.lst [.int (n3 / ((ys.length:Int)+1))]) S=some (.lst ys):=by rw [j3 Sa];exact hSl
  generalize n3 / ((ys.length:Int)+1)=n4 at X4 hS2 ⊢;generalize z9 Hb a (.lst [.int n4])=Hc at X4 hS2 ⊢;clear X3 hSl;refine ⟨_,rfl,WZ (K:=K) (i:=7) rfl hS2 ⟨_,_,rfl,rfl,⟨_,rfl,?_⟩⟩⟩;by_cases hp:(k:Int)<(ys.length:Int)
  .refine Eq.mpr (rB (yt hp)) ?_;have kl:k<ys.length:=by omega
   obtain ⟨i2,b,t,hb,ht,ey,hh⟩:=hy ys[k] (yf kl);have mt:=yu ht;have tl2:(qt t).length<sizeLine:=XO (by
    have:=Jr mt;have:=pm.length_eq;rw [yV] at this;rw [Zf];omega)
   have hH:=X4.tr i2 b t hb ht;refine ⟨_,rfl,_,rfl,.inl ⟨S,ys,(k:Int),.ref b,rfl,rfl,sK.of hS2,zy (by rw [yS kl,ey]),UJ hH,_,rfl,b,qt t,_,rfl,rfl,hH,tl2,?_⟩⟩;have X5:=X4.app (c:=c) hb ht;rw [show qt t++[V.str c.name]=qt (t++[c]) by unfold qt;rw [yE];rfl];refine ⟨n4,free.eraseIdx j,as,T.set i2 (t++[c]),_,_,_,_,rfl,X5,lf,?_,λu hu2=>?_⟩
   .refine ((VZ ht).append_right _).trans (List.Perm.trans ?_ pm2);exact um.symm
   .rcases List.mem_or_eq_of_mem_set hu2 with h|rfl
    .exact tr u h
    .refine ⟨by simp,λx hx e he=>?_⟩;have hx':x.hue=c.hue:=by
      rcases yF.mp hx with h|h
      ·exact hh x h
      ·rw [yU.mp h]
     have he':e.hue=c.hue:=by
      rcases yF.mp he with h|h
      .exact hh e h
      .rw [yU.mp h]
     rw [hx',he']
  .refine Eq.mpr (rq (by rw [yA hp];exact yQ)) ?_;have al2:(as.map V.ref).length=as.length:=yZ _;refine ⟨_,rfl,UJ X4.top,Ya (m:=((as.map V.ref).length:Int)+1) rfl X4.row (λ{R} z=>CB K (i:=4) rfl X4.top z) (vH (by omega) (by omega)) ?_⟩;have X5:=X4.setRow (m:=n4 / (((as.map V.ref).length:Int)+1));have f0:0<=n4 % (((as.map V.ref).length:Int)+1):=ya _ (by omega);have f1:n4 % (((as.map V.ref).length:Int)+1)<((as.map V.ref).length:Int)+1:=yi _ (by omega);obtain ⟨z,hz⟩:=uV f0;rw [hz];generalize n4 / (((as.map V.ref).length:Int)+1)=n5 at X5 ⊢;generalize z9 Hc a (.lst [.int n5])=Hd at X5 ⊢;clear X4 hS2;refine ⟨_,rfl,(by show 1<=sizeLine;exact xL l1),λp hp2=>⟨F0,as.map V.ref,(z:Int),.ref p,rfl,rfl,?_,by omega,by omega,by omega,?_⟩⟩
   .exact (X5.lay hp2).top
   have h3p:H3 p=none:=by
    cases hq:H3 p with
    |none=>rfl
    |some o =>
     by_cases h1:p=a
     .rw [h1,X5.row] at hp2;cases hp2
     .by_cases h2:p=fr
      .rw [h2,X5.fre] at hp2;cases hp2
      .by_cases h3:p=F0
       .rw [h3,X5.top] at hp2;cases hp2
       .rw [X5.kp p o h1 h2 h3 hq] at hp2;cases hp2
   have X6:=X5.ins hp2 h3p (c:=c) (j:=z) (by omega);rw [uA];rw [show (as.map V.ref).take z++V.ref p::(as.map V.ref).drop z=(as.take z++p::as.drop z).map V.ref by rw [yE,yH,tY,tX]];refine ⟨n5,free.eraseIdx j,_,_,_,_,_,_,rfl,X6,lf,?_,λu hu2=>?_⟩
   .exact ((Nc T z c).append_right _).trans (um.symm.trans pm2)
   .rcases yF.mp hu2 with h|h
    .exact tr u (pj h)
    .rcases yL.mp h with rfl|h
     .exact ⟨by simp,λx hx e he=>by rw [yU.mp hx,yU.mp he]⟩
     .exact tr u (ud h)
 .rintro σ H2 ⟨n2,free,as,T,s5,s6,s7,s8,rfl,X,fl,pm,tr⟩;have f0:free=[]:=List.eq_nil_of_length_eq_zero (by omega);subst f0;rw [yp] at pm;have nn:∀ b,b=F0∨b∈as->H b=none:=λb hb=>by
   rcases hb with rfl|hb
   ·exact n4
   ·have:=X.new b hb;cases z:H b with
    |none=>rfl
    |some o=>rw [r3.ext.s2 _ _ z] at this;cases this
  have sn:∀ b,b=F0∨b∈as->Hs3 b=none:=λb hb=>by
   rcases hb with rfl|hb
   .exact s4
   .have:=X.new b hb;cases z:Hs3 b with
    |none=>rfl
    |some o=>rw [r3.ext.s3 _ _ z] at this;cases this
  have sm3:sL Hs3 H2:=λb o z=>X.kp b o (λy=>by rw [y,sa] at z;cases z) (λy=>by rw [y,s3] at z;cases z) (λy=>by rw [y,s4] at z;cases z) (r3.ext.s3 _ _ z)
  open Classical in
  let Hs':Hp:=λb=>if b=F0∨b∈as then H2 b else Hs3 b
  have hin:∀ b,(b=F0∨b∈as)->Hs' b=H2 b:=λb hb=>rB hb;have hout:∀ b,¬ (b=F0∨b∈as)->Hs' b=Hs3 b:=λb hb=>rq hb
  clear_value Hs'
  have ao:¬ (a=F0∨a∈as):=λy=>by rw [nn a y] at ha;cases ha
  refine ⟨_,rfl,q (.lst (T.map v9)) (.ref F0) n2 Hs' H2 ⟨d,T,rfl,rfl,pm,tr⟩ ⟨λb o z=>?_,λb o z nb=>?_,λb o z=>?_,λb hb z=>?_⟩ (by rw [hout a ao];exact sa) X.row (tj.mpr ⟨F0,as.map V.ref,rfl,by rw [hin F0 (.inl rfl)];exact X.top,?_⟩)⟩
  .have z1:=r3.ext.s1 _ _ z;rw [hout b (λy=>by rw [sn b y] at z1;cases z1)];exact z1
  .have z1:=r3.ext.s2 _ _ z;exact X.kp b o nb (λy=>by rw [y,n3] at z;cases z) (λy=>by rw [y,n4] at z;cases z) z1
  .by_cases hb:b=F0∨b∈as
   .rw [hin b hb] at z;exact z
   .rw [hout b hb] at z;exact sm3 _ _ z
  .rw [hout b (λy=>hb (nn b y))];exact r3.ext.s4 b hb z
  .have go:∀(as2:EC)(T2:C6),as2.length=T2.length->(∀(i:Nat)(b:Addr)(t:EE),as2[i]?=some b->T2[i]?=some t->Hs' b=some (.lst (qt t)))->sR Hs' (T2.map v9) (as2.map V.ref):=by
    intro as2
    induction as2 with
    |nil =>
     intro T2 hl _;cases T2 with
     |nil=>exact .nil
     |cons _ _=>cases hl
    |cons b as2 ih =>
     intro T2 hl hr;cases T2 with
     |nil=>cases hl
     |cons t T2=>refine .cons (tj.mpr ⟨b,qt t,rfl,hr 0 b t rfl rfl,?_⟩) (ih T2 (by simpa using hl) λi e u he hu=>hr (i+1) e u he hu);rw [Px];exact sR.ofAts _
   exact go as T X.len λi b t hb ht=>by rw [hin b (.inr (yu hb))];exact X.tr i b t hb ht
def XF {f:Str}{ns:C7}(h1:a ε=some y)(h0:ε[0]?=some (.ow (.ob C ns xs)))(hf:f∉ns)(hl:ns.length<1000):jG C f a ε=some (.nx (ε.set 0 (.ow (.ob C (ns++[f]) (xs++[y]))))):=by unfold jG;rw [h1,yD,h0];exact rB ⟨rfl,hf,hl⟩
def Bw {nm:Str}{m:AC}{i:Nat}{as:MA}{ns:C7}{fs:C5}(h0:ε[i]?=some (.ow (.ob C ns fs)))(hn:nm∉ns)(k:as ε=some xs)(e:m (.ob C ns fs::xs)=some (.at u)):Qt C nm m i as ε=some (.at u):=by unfold Qt;rw [h0];show (if C=C/\nm∉ns then _ else _)=_;rw [rB ⟨rfl,hn⟩,k,yD,e];rfl
def DG (ok:d.Ok):vj C [.ob C ["least"] [qK d.low]]=some (.at (.int d.h)):=by have G:=Wr ok.rin;refine n9 rfl (c8 (y7 (z6 (v6 (vd rfl rfl) rfl) rfl) rfl ?_));show some (PV.at (.int (((d.low.map qU).length:Int)-1)))=_;rw [yZ,show d.low.length=d.h+1 from G.len,show ((d.h+1:Nat):Int)-1=(d.h:Int) by omega]
theorem Cc:∀ cs:EE,js (cs.map λc=>PV.tup [.at (.str c.name),c.pv])=some (cs.map λc=>((.inr c.name:j5),c.pv))
 |[]=>rfl
 |c::cs=>by
  show Option.bind (some (Sum.inr c.name)) (λkk=>(js (cs.map λc=>PV.tup [.at (.str c.name),c.pv])).map ((kk,c.pv)::·))=_;rw [yD,Cc cs];rfl
def Ho (h:(cs.map Cl.name).Nodup):(sU cs).Nodup:=by
 induction cs with
 |nil=>exact List.nodup_nil
 |cons c cs ih=>rw [yH] at h;have h':=yn.mp h;refine yn.mpr ⟨λz=>?_,ih h'.2⟩;obtain ⟨y,hy,e⟩:=yB.mp z;injection e with e;exact h'.1 (yB.mpr ⟨y,hy,e⟩)
def OL (ok:d.Ok):QF C [qK d.tJ,.lst (d.cls.map Cl.pv),.at (.int d.last),.at (.int d.time)]=some (d.ob C):=by
 have hlim:lim=1000000:=rfl;have ten:=ok.ten;have glen:=ok.rin.len;have h4:=ok.h4;have cp:∀(s0 s2 s3 s4:sN),c6 [none] [0] (b8 (x6 1)) (w6 0) c7 (z0 vT (q0 (x9 0) x8)) [s0,.sh (qK d.tJ),s2,s3,s4]=some (qK d.tJ):=λs0 s2 s3 s4 =>
  o9 qU qU d.tJ rfl rfl (by omega) λr _=>⟨_,rfl,rfl⟩
 have dk:∀(s0 s1 s3 s4:sN),z0 wL (q0 (c6 [none] [0] (b8 (x6 2)) (w6 0) c7 (xu (q0 (z0 zG (q0 (x6 0) x8)) (q0 (x6 0) x8)))) x8) [s0,s1,.sh (.lst (d.cls.map Cl.pv)),s3,s4]=some (.fk (sU d.cls) (d.cls.map Cl.pv)):=λs0 s1 s3 s4=>by
  refine z6 (v6 (o9 Cl.pv (λc=>PV.tup [.at (.str c.name),c.pv]) d.cls rfl rfl (by omega) λc _=>⟨_,rfl,jJ (v6 (z6 rfl rfl) (v6 rfl rfl)) l2⟩) rfl) ?_;show (js (d.cls.map λc=>PV.tup [.at (.str c.name),c.pv])).bind _=_;have k1:(d.cls.map λc=>((.inr c.name:j5),c.pv)).map (·.1)=sU d.cls:=by rw [yv];rfl
  have k2:(d.cls.map λc=>((.inr c.name:j5),c.pv)).map (·.2)=d.cls.map Cl.pv:=by rw [yv];rfl
  rw [Cc,yD,k1,k2];exact rB ⟨Ho ok.nd,by rw [yZ];omega⟩
 have run:ZX C [.ow (.ob C [] []),.sh (qK d.tJ),.sh (.lst (d.cls.map Cl.pv)),.sh (.at (.int d.last)),.sh (.at (.int d.time))]=some (.nx [.ow (d.ob C),.sh (qK d.tJ),.sh (.lst (d.cls.map Cl.pv)),.sh (.at (.int d.last)),.sh (.at (.int d.time))]) :=
  u7 (XF (z6 rfl (OR ok.rin ok.h1 ok.h4)) rfl (by decide) (by decide)) (u7 (zt (z6 (v6 rfl (v6 rfl (v6 (Bw rfl (by decide) rfl (DG ok)) rfl))) (OB ok.l1 ok.l2 ok.t1)))
   (u7 (zt (z6 (v6 rfl (v6 (Bw rfl (by decide) rfl (DG ok)) rfl)) (Oz ok.cl ok.nd ok.ten)))
   (u7 (XF (cp _ _ _ _) rfl (by decide) (by decide)) (u7 (XF (dk _ _ _ _) rfl (by decide) (by decide)) (u7 (XF (y:= .at (.int d.last)) (f:="last") (ns:=["least","given","held"]) (VV (i8 (v:=false) (y7 rfl rfl rfl)) rfl) rfl (by decide) (by decide)) (XF (y:= .at (.int d.time)) (f:="time") (ns:=["least","given","held","last"]) (xs:=[qK d.low,qK d.tJ,.fk (sU d.cls) (d.cls.map Cl.pv),.at (.int d.last)]) rfl rfl (by decide) (by decide)))))))
 unfold QF Xz;refine (rB rfl).trans ?_;show (ZX C [.ow (.ob C [] []),.sh (qK d.tJ),.sh (.lst (d.cls.map Cl.pv)),.sh (.at (.int d.last)),.sh (.at (.int d.time))]).bind _=_;rw [run];rfl
def Hn (cs:EE):vQ (sU cs)=some (cs.map Cl.name):=by
 induction cs with
 |nil=>rfl
 |cons c cs ih=>show (vQ (sU cs)).map (c.name::·)=_;rw [ih];rfl
def Dg (ss:C7):vy (y6 ss)=some ss:=by
 induction ss with
 |nil=>rfl
 |cons s ss ih=>show (vy (y6 ss)).map (s::·)=_;rw [ih];rfl
def ZK (ok:d.Ok):wE C [d.ob C]=some (.lst (y6 (zY d.names))):=by refine zE rfl (c8 (z6 (v6 (vd rfl rfl) rfl) ?_));show (vQ (sU d.cls)).bind _=_;rw [Hn,yD,rB (by rw [yZ];have:=ok.ten;omega)];rfl
theorem CV {ss:C7}(h:ss.Nodup):∀ i,i<=ss.length->h8 (λi=>(Sum.inr (ss.getD i ⟨#[]⟩):j5)) i=(ss.take i).map Sum.inr
 |0,_=>rfl
 |i+1,hi=>by
  have ih:=CV h i (by omega);have hl:i<ss.length:=by omega
  have eg:ss.getD i ⟨#[]⟩=ss[i]:=qo hl;have hn:ss[i]∉ss.take i:=λz=>by
   have e:ss=ss.take i++ss[i]::ss.drop (i+1):=by rw [<- yk hl,uG]
   rw [e] at h;exact (uL.mp h).2.2 _ z _ yR rfl
  unfold h8;rw [ih,eg,rq (λz=>hn (by
   obtain ⟨y,hy,e⟩:=yB.mp z;injection e with e;rw [<- e];exact hy)),oQ,yS hl,yE]
  rfl
def HQ (h:ss.Nodup):Zd ss=ss.length:=by unfold Zd;rw [CV h _ (yP _),yZ,tP]
def DD (ok:d.Ok)(L:Lst d ns):QH C [d.ob C,v9 ns]=some (.at (.bl true)):=by
 have hlim:lim=1000000:=rfl;have l10:=L.len ok;have en:y6 (ns.map Cl.name)=(ns.map Cl.name).map λs=>PV.at (.str s):=rfl;refine n9 rfl (u7 (qB (qP (qQ (z6 rfl XM))) xC) (u7 (o7 (zF rfl (by decide) rfl (ZK ok))) (c8 (zr (z6 (v6 (o9 (λs:Str=>PV.at (.str s)) (λ_=>PV.at (.bl true)) (ns.map Cl.name) rfl rfl (by rw [yZ];omega) λs hs=>⟨_,rfl,y7 rfl rfl ((Wf false s _).trans ?_)⟩) rfl) (wj _)) (y7 (y:= .at (.int (ns.length:Int))) (x:= .at (.int (ns.length:Int))) ?_ ?_ (PR rfl))))))
 .obtain ⟨c,hc,rfl⟩:=yB.mp hs;have:c.name∈zY d.names:=(ZC d.names).mem_iff.mpr (yB.mpr ⟨c,L.sub c hc,rfl⟩);simp [this]
 .show (vy (y6 (ns.map Cl.name))).bind _=_;rw [Dg,yD,rB (by rw [yZ];omega),HQ L.nd,yZ]
 .refine z6 rfl ?_;show some (PV.at (.int ((y6 (ns.map Cl.name)).length:Int)))=_;rw [xx,yZ]
def vW (d0:α)(ks:ER)(xs:List α):List α:=(vZ ks).map λi=>xs.getD i d0
def Ux {i:Nat}(h:i∈vZ ks):i<ks.length:=uP.mp ((ZB ks).mem_iff.mp h)
def SC (d0:α){xs:List α}(h:ks.length=xs.length):(vW d0 ks xs).Perm xs:=by have:=(ZB ks).map λi=>xs.getD i d0;rw [h,Wv] at this;exact this
def Wb (f:α->β)(d0:α)(e0:β){xs:List α}{i:Nat}(h:i<xs.length):(xs.map f).getD i e0=f (xs.getD i d0):=by rw [yy,yy,yM,yS h];rfl
def SB (f:α->β)(d0:α)(e0:β){xs:List α}(h:ks.length=xs.length):(vZ ks).map (λi=>(xs.map f).getD i e0)=(vW d0 ks xs).map f:=by unfold vW;rw [yv];exact List.map_congr_left λi hi=>Wb f d0 e0 (h▸Ux hi)
def SD (d0:α)(key:α->Int×Str)(xs:List α):(vW d0 (xs.map key) xs).Pairwise λa b=>qg (key b) (key a)=false:=by unfold vW;rw [List.pairwise_map];refine (Da (xs.map key)).imp_of_mem λ{a b} ha hb h=>?_;have la:=Ux ha;have lb:=Ux hb;rw [yZ] at la lb;unfold xl at h;rw [Wb key d0 _ la,Wb key d0 _ lb] at h;exact h
theorem BS {kb:AM}(f:α->PV)(key:α->Int×Str):∀{xs:List α},(∀ x∈xs,kb (f x)=some (.tup [.at (.int (key x).1),.at (.str (key x).2)]))->wz kb (xs.map f)=some (xs.map key)
 |[],_=>rfl
 |x::xs,h=>by
  rw [yH];unfold wz;rw [h x yR,BS f key λy hy=>h y (yO _ hy)];rfl
def OZ (d0:α){kb:AM}(f:α->PV)(key:α->Int×Str){xs:List α}(h:∀ x∈xs,kb (f x)=some (.tup [.at (.int (key x).1),.at (.str (key x).2)]))(l:xs.length<64)(nd:(xs.map key).Nodup):WI kb [.lst (xs.map f)]=some (.lst ((vW d0 (xs.map key) xs).map f)):=by show (wz kb (xs.map f)).bind _=_;rw [BS f key h,yD,rB ⟨by rw [yZ];exact l,nd⟩,SB f d0 _ (yZ _)]
def Rf (f:α->β){l:List α}(h:(l.map f).Nodup):l.Nodup:=List.Pairwise.of_map f (λ_ _ h e=>h (pL f e)) h
def Re {xs:EE}{g:Cl->Int}(nd:(xs.map Cl.name).Nodup):(xs.map λc=>(g c,c.name)).Nodup:=by refine Rf Prod.snd ?_;rw [yv];exact nd
def c0:Cl:=⟨"",0,0,0,0⟩
def vL (c:Cl):Int×Str:=(c.due,c.name)
def Oy {xs:EE}(nd:(xs.map Cl.name).Nodup)(l:xs.length<=10):JF [.lst (xs.map Cl.pv)]=some (.lst ((vW c0 (xs.map vL) xs).map Cl.pv)) :=
 zE rfl (c8 (OZ c0 Cl.pv vL (λc _=>jJ (v6 (z6 rfl rfl) (v6 (z6 rfl rfl) rfl)) l2) (by omega) (Re nd)))
def OV {xs:EE}(l:xs.length<=10):JN [.lst (xs.map Cl.pv)]=some (.lst (y6 (xs.map Cl.name))):=by have hlim:lim=1000000:=rfl;refine zE rfl (c8 ((o9 Cl.pv (λc=>PV.at (.str c.name)) xs rfl rfl (by omega) λc _=>⟨_,rfl,z6 rfl rfl⟩).trans ?_));unfold y6;rw [yv];rfl
def Dr.inH (d:Dr)(h:Nat):EE:=d.cls.filter λc=>decide (c.hue=h)
def BH (ok:d.Ok):(d.inH h).length<=10:=yj (List.length_filter_le _ _) ok.ten
def NH (hc:c∈d.inH h):c∈d.cls:=(uk.mp hc).1
def NG (ok:d.Ok):((d.inH h).map Cl.name).Nodup:=ok.nd.sublist (List.filter_sublist.map _)
def OC (ok:d.Ok)(h:Nat):XR C [d.ob C,.at (.int h)]=some (.lst ((d.inH h).map Cl.pv)):=by
 have hlim:lim=1000000:=rfl;have:=ok.ten;refine zE rfl (c8 (Bs Cl.pv Cl.pv (λc=>decide (c.hue=h)) d.cls ?_ rfl (by omega) λc _=>⟨_,rfl,i8 (y7 (z6 rfl rfl) rfl ((jf _ _).trans ?_)),λ_=>rfl⟩))
 .show (zq C "held" (x6 0) _).bind _=_;rw [vd rfl rfl];rfl
 .rw [show decide ((c.hue:Int)=(h:Int))=decide (c.hue=h) by rw [decide_eq_decide];omega]
def Dr.dueR (d:Dr)(h:Nat):EE:=vW c0 ((d.inH h).map vL) (d.inH h)
def VQ (h:Nat):(d.dueR h).Perm (d.inH h):=SC c0 (yZ _)
def OD (ok:d.Ok)(h:Nat):QE C [d.ob C,.at (.int h)]=some (.lst (y6 ((d.dueR h).map Cl.name))) :=
 zE rfl (c8 (z6 (v6 (z6 (v6 (zF rfl (by decide) rfl (OC ok h)) rfl) (Oy (NG ok) (BH ok))) rfl) (OV (by have:=(VQ (d:=d) h).length_eq;have:=BH ok (h:=h);show (d.dueR h).length<=10;omega))))
def nm_F (l:EE):y6 (l.map Cl.name)=l.map λc=>PV.at (.str c.name):=by unfold y6;rw [yv];rfl
def WD :(y6 (ns.map Cl.name)).length=ns.length:=by rw [xx,yZ]
def Mw {xs:List α}{x:α}(h:xs.getLast?=some x):atI xs (-1)=some x:=by
 have hl:xs≠[]:=λz=>by rw [z] at h;cases h
 have hp:0<xs.length:=ui.mpr hl;rw [List.getLast?_eq_getElem?] at h;unfold atI ixN;rw [rq (by decide),rB (by omega)];show xs[((-1:Int)+(xs.length:Int)).toNat]?=_;rw [show ((-1:Int)+(xs.length:Int)).toNat=xs.length-1 by omega];exact h
def c5:EE->Nat
 |[]=>0
 |c::_=>c.hue
def k7 (T:C6):PV:= .lst (T.map v9)
section
variable {C:Addr}{d:Dr}{T:C6}{t:EE}
def sM.sub (x:sM d T)(ht:t∈T):∀ c∈t,c∈d.cls:=λc hc=>x.perm.mem_iff.mp (uM.mpr ⟨t,ht,hc⟩)
def sM.fl (x:sM d T)(ok:d.Ok):T.flatten.length<=10:=by rw [x.perm.length_eq];exact ok.ten
def sM.len (x:sM d T)(ok:d.Ok):T.length<=10:=yj (Js λt ht=>(x.each t ht).ne) (x.fl ok)
def sM.tl (x:sM d T)(ok:d.Ok)(ht:t∈T):t.length<=10:=yj (Jr ht) (x.fl ok)
def sM.lst (x:sM d T)(ok:d.Ok):Lst d T.flatten:=⟨λc h=>x.perm.mem_iff.mp h,(x.perm.map Cl.name).nodup_iff.mpr ok.nd⟩
def Vo (ok:d.Ok)(h:∀ c∈t,c∈d.cls)(hl:t.length<=10):vm C [d.ob C,v9 t]=some (.lst (t.map Cl.pv)):=by have hlim:lim=1000000:=rfl;exact n9 rfl (c8 (o9 (λc:Cl=>PV.at (.str c.name)) Cl.pv t (by show some (y6 (t.map Cl.name))=_;rw [nm_F]) rfl (by omega) λc hc=>⟨_,rfl,zF rfl (by decide) rfl (DE ok (h c hc))⟩))
def ix0 (c:Cl)(t:EE):k6 (v9 (c::t)) (.at (.int 0))=some (.at (.str c.name)):=zy (xs:=y6 ((c::t).map Cl.name)) (j:=0) rfl
def ZL (ok:d.Ok)(h:∀ c∈t,c∈d.cls)(ne:t≠[]):jn C [d.ob C,v9 t]=some (.at (.int (c5 t))):=by
 cases t with
 |nil=>exact rp rfl ne
 |cons c t=>exact n9 rfl (c8 (z6 (v6 (zF rfl (by decide) (v6 (y7 rfl rfl (ix0 c t)) rfl) (DE ok (h c yR))) rfl) rfl))
def Tray.hue (x:Tray t):∀ c∈t,c.hue=c5 t:=λc hc=>by
 cases t with
 |nil=>cases hc
 |cons e t=>exact x.one c hc e yR
def v_one (ok:d.Ok)(h:∀ c∈t,c∈d.cls)(hl:t.length<=10)(x:Tray t):vR C [d.ob C,v9 t]=some (.at (.bl true)):=by have hlim:lim=1000000:=rfl;refine n9 rfl (c8 (z6 (v6 (o9 Cl.pv (λ_=>PV.at (.bl true)) t (jI (z6 rfl (Vo ok h hl))) rfl (by omega) λc hc=>⟨_,rfl,y7 (x:= .at (.int c.hue)) (z6 rfl rfl) (z6 rfl (ZL ok h x.ne)) ?_⟩) rfl) (wj _)));rw [x.hue c hc];exact (jf _ _).trans (by rw [yt rfl])
def JC (xs:C5):qJ [.lst xs,.at (.ty "list")]=some (.at (.bl true)):=by unfold qJ tyP;rfl
def OH (ok:d.Ok)(x:sM d T):vk [k7 T]=some (.at (.bl true)):=by have hlim:lim=1000000:=rfl;have tl:=x.len ok;refine n9 rfl (c8 (zr (z6 rfl (JC _)) (z6 (v6 (o9 v9 (λ_=>PV.at (.bl true)) T rfl rfl (by omega) λt ht=>⟨_,rfl,zr (z6 rfl (JC _)) (y7 (x:= .at (.int (t.length:Int))) (z6 rfl (by show some (PV.at (.int ((y6 (t.map Cl.name)).length:Int)))=_;rw [WD])) rfl ?_)⟩) rfl) (wj _))));have:=ui.mpr (x.each t ht).ne;show some (PV.at (.bl (decide ((0:Int)<(t.length:Int)))))=_;rw [yt (by omega)]
def DJ (ok:d.Ok)(L:Lst d ns)(p:ns.Perm d.cls):jm C [d.ob C,v9 ns]=some (.at (.bl true)):=by refine n9 rfl (c8 (zr (z6 rfl (DD ok L)) (y7 (x:= .at (.int (ns.length:Int))) (y:= .at (.int (ns.length:Int))) (z6 rfl (by show some (PV.at (.int ((y6 (ns.map Cl.name)).length:Int)))=_;rw [WD])) (z6 (v6 (zF rfl (by decide) rfl (ZK ok)) rfl) ?_) ((jf _ _).trans (by rw [yt rfl])))));show some (PV.at (.int ((y6 (zY d.names)).length:Int)))=_;rw [xx,(ZC _).length_eq,p.length_eq];unfold Dr.names;rw [yZ]
theorem Pj:∀ T:C6,zb (T.map v9)=some (T.map λt=>y6 (t.map Cl.name))
 |[]=>rfl
 |t::T=>by
  show (zb (T.map v9)).map (y6 (t.map Cl.name)::·)=_;rw [Pj T];rfl
def Qx (T:C6):(T.map λt=>y6 (t.map Cl.name)).flatten=y6 (T.flatten.map Cl.name):=by unfold y6;rw [List.map_flatten,List.map_flatten,yv];rfl
def Xg (ok:d.Ok)(x:sM d T):xM C [d.ob C,k7 T]=some (.at .non):=by have hlim:lim=1000000:=rfl;have tl:=x.len ok;have fl:=x.fl ok;refine Jo rfl (u7 (qB (jF (qP (qQ (z6 rfl (OH ok x)))) (qP (qQ (z6 (v6 rfl (v6 ((Bx rfl (Pj T) ?_).trans (by rw [Qx];rfl)) rfl)) (DJ ok (x.lst ok) x.perm))))) xC) (qB (qP (qQ (z6 (v6 (o9 v9 (λ_=>PV.at (.bl true)) T rfl rfl (by omega) λt ht=>⟨_,rfl,z6 rfl (v_one ok (x.sub ht) (x.tl ok ht) (x.each t ht))⟩) rfl) (wj _)))) xC));rw [Qx,WD];omega
def hasN (s:Str)(t:EE):Bool:=decide (s∈t.map Cl.name)
def xo:C6->Str->Option Nat
 |[],_=>none
 |t::T,s=>if hasN s t=true then some 0 else (xo T s).map (·+1)
def SE :xo (t::T) s=if hasN s t=true then some 0 else (xo T s).map (·+1):=rfl
def plP:Option Nat->PV
 |some k=> .at (.int k)
 |none=> .at .non
theorem Zq {s:Str}:∀{T:C6}{k:Nat},xo T s=some k->∃ t,T[k]?=some t/\s∈t.map Cl.name
 |[],k,h=>by cases h
 |t::T,k,h=>by
  unfold xo at h;split at h
  .rename_i h1;cases h;exact ⟨t,rfl,uS h1⟩
  .obtain ⟨j,hj,rfl⟩:=yC.mp h;obtain ⟨u,h1,h2⟩:=Zq hj;exact ⟨u,by simpa using h1,h2⟩
theorem WU {s:Str}:∀{T:C6}{t:EE},t∈T->s∈t.map Cl.name->∃ k,xo T s=some k
 |u::T,t,ht,hs=>by
  unfold xo;split
  .exact ⟨0,rfl⟩
  .rename_i h1;rcases yL.mp ht with rfl|ht
   .exact rp (yt hs) h1
   .obtain ⟨k,hk⟩:=WU ht hs;exact ⟨k+1,by rw [hk];rfl⟩
abbrev plG:MG:=zd 2 (qh (w6 2) (qh (w6 3) zc))
abbrev plB:MS:=m4 (dT (z5 (pIn false) (x9 1) (x9 3))) (u9 (x6 2)) i6
theorem PZ {x0:PV}{s:Str}:∀{T:C6}{k:Nat}{u v:sN},(∃ j,xo T s=some j/\qH plG plB (qW k (T.map v9)) [.sh x0,.sh (.at (.str s)),u,v]=some (.rt (.at (.int ((k+j:Nat):Int)))))∨(xo T s=none/\∃ u' v',qH plG plB (qW k (T.map v9)) [.sh x0,.sh (.at (.str s)),u,v]=some (.nx [.sh x0,.sh (.at (.str s)),u',v']))
 |[],k,u,v=> .inr ⟨rfl,u,v,rfl⟩
 |t::T,k,u,v=>by
  have c1:dT (z5 (pIn false) (x9 1) (x9 3)) [.sh x0,.sh (.at (.str s)),.sh (.at (.int k)),.sh (v9 t)]=some (hasN s t):=i8 (y7 rfl rfl (Wf false s (t.map Cl.name)));cases h:hasN s t with
  |true=>refine .inl ⟨0,by unfold xo;rw [h];rfl,?_⟩;have b1:plB [.sh x0,.sh (.at (.str s)),.sh (.at (.int k)),.sh (v9 t)]=some (.rt (.at (.int k))):=vM (c1.trans (by rw [h])) rfl;show Option.bind (plB [.sh x0,.sh (.at (.str s)),.sh (.at (.int k)),.sh (v9 t)]) _=_;rw [b1];rfl
  |false =>
   have b1:plB [.sh x0,.sh (.at (.str s)),.sh (.at (.int k)),.sh (v9 t)]=some (.nx [.sh x0,.sh (.at (.str s)),.sh (.at (.int k)),.sh (v9 t)]):=qB (c1.trans (by rw [h])) rfl;have st:qH plG plB (qW k ((t::T).map v9)) [.sh x0,.sh (.at (.str s)),u,v]=qH plG plB (qW (k+1) (T.map v9)) [.sh x0,.sh (.at (.str s)),.sh (.at (.int k)),.sh (v9 t)]:=by show Option.bind (plB [.sh x0,.sh (.at (.str s)),.sh (.at (.int k)),.sh (v9 t)]) _=_;rw [b1];rfl
   have ep:xo (t::T) s=(xo T s).map (·+1):=by rw [SE,h];rfl
   rcases PZ (x0:=x0) (s:=s) (T:=T) (k:=k+1) (u:= .sh (.at (.int k))) (v:= .sh (v9 t)) with ⟨j,e1,e2⟩|⟨e1,u',v',e2⟩
   .refine .inl ⟨j+1,by rw [ep,e1];rfl,?_⟩;rw [st,e2,show k+1+j=k+(j+1) by omega]
   .exact .inr ⟨by rw [ep,e1];rfl,u',v',by rw [st,e2]⟩
def DI :ze [k7 T,.at (.str s)]=some (plP (xo T s)):=by
 rcases PZ (x0:=k7 T) (s:=s) (T:=T) (k:=0) (u:= .no) (v:= .no) with ⟨j,e1,e2⟩|⟨e1,u',v',e2⟩
 .rw [e1];refine n9 rfl ?_;show y9 (xY (jE (q0 (x6 0) x8)) plG plB) _ _=_;have:xY (jE (q0 (x6 0) x8)) plG plB [.sh (k7 T),.sh (.at (.str s)),.no,.no]=some (.rt (.at (.int ((0+j:Nat):Int)))):=jH (xs:=qW 0 (T.map v9)) rfl e2;unfold y9;show Option.bind (xY (jE (q0 (x6 0) x8)) plG plB [.sh (k7 T),.sh (.at (.str s)),.no,.no]) _=_;rw [this,Nat.zero_add];rfl
 .rw [e1];exact n9 rfl (u7 (jH (xs:=qW 0 (T.map v9)) rfl e2) rfl)
def qD (m:Str×Int):PV:= .tup [.at (.str m.1),.at (.int m.2)]
def mvB (T:C6)(m:Str×Int):Bool:=match xo T m.1 with
 |none=>false
 |some k=>!decide ((k:Int)=m.2)&&(decide (0<=m.2/\m.2<T.length)&&decide (c5 (T.getD k [])=c5 (T.getD m.2.toNat [])))
def ZH {k:Nat}(h:T[k]?=some t):k6 (k7 T) (.at (.int (k:Int)))=some (v9 t):=zy (xs:=T.map v9) (by rw [yM,h];rfl)
def ON (ok:d.Ok)(x:sM d T):zS C [d.ob C,k7 T,qD m]=some (.at (.bl (mvB T m))):=by
 obtain ⟨s,to⟩:=m;have e0:z0 ze (q0 (x6 1) (q0 (z5 k6 (x9 2) (dC (.int 0))) x8)) [.sh (d.ob C),.sh (k7 T),.sh (qD (s,to)),.no,.no]=some (plP (xo T s)):=z6 (v6 rfl (v6 (y7 rfl rfl rfl) rfl)) DI;unfold mvB;cases hp:xo T s with
 |none=>rw [hp] at e0;refine n9 rfl (u7 (o7 e0) (u7 (o7 (x:= .at (.int to)) (y7 rfl rfl rfl)) (Jp (vM (VO rfl) rfl))))
 |some k =>
  rw [hp] at e0;obtain ⟨t,ht,hs⟩:=Zq hp;have tl:=(yK.mp ht).1;have gk:T.getD k []=t:=by rw [yy,ht];rfl
  have en:dT (z5 QT (x9 3) (dC .non)) [.sh (d.ob C),.sh (k7 T),.sh (qD (s,to)),.sh (.at (.int k)),.sh (.at (.int to))]=some false:=rfl;have ee:dT (z5 i5 (x9 3) (x9 4)) [.sh (d.ob C),.sh (k7 T),.sh (qD (s,to)),.sh (.at (.int k)),.sh (.at (.int to))]=some (decide ((k:Int)=to)):=i8 (y7 rfl rfl (jf _ _));have ec:dT (va pLe pLt (dC (.int 0)) (x9 4) (z0 xn (q0 (x9 1) x8))) [.sh (d.ob C),.sh (k7 T),.sh (qD (s,to)),.sh (.at (.int k)),.sh (.at (.int to))]=some (decide (0<=to/\to<T.length)):=by
   refine i8 ?_;show Option.bind (some (decide ((0:Int)<=to))) (λc=>if c=true then some (PV.at (.bl (decide (to<((T.map v9).length:Int))))) else some (.at (.bl false)))=_;rw [yZ];by_cases h:(0:Int)<=to
   .rw [yt h,yD,rB rfl];have:decide (to<(T.length:Int))=decide (0<=to/\to<(T.length:Int)):=by simp [h]
    rw [this]
   .rw [yA h,yD,rq yQ];have:decide (0<=to/\to<(T.length:Int))=false:=by simp [h]
    rw [this]
  refine n9 rfl (u7 (o7 e0) (u7 (o7 (x:= .at (.int to)) (y7 rfl rfl rfl)) ?_));show y9 _ _ _=some (Out.rt (.at (.bl (!decide ((k:Int)=to)&&(decide (0<=to/\to<(T.length:Int))&&decide (c5 (T.getD k [])=c5 (T.getD to.toNat [])))))));by_cases h1:(k:Int)=to
  .rw [yt h1] at ee ⊢;exact Jp (vM (Jh en (VO ee)) rfl)
  .rw [yA h1] at ee ⊢;by_cases h2:0<=to/\to<T.length
   .rw [yt h2] at ec ⊢;obtain ⟨j,rfl⟩:=uV h2.1;have jl:j<T.length:=by omega
    have hj:=yS jl;have gj:T.getD j []=T[j]:=by rw [yy,hj];rfl
    have mt:=yu ht;have mj:=yf jl;refine u7 (qB (jF en (jF ee (qP ec))) rfl) (c8 (y7 (z6 (v6 rfl (v6 (y7 rfl rfl (ZH ht)) rfl)) (ZL ok (x.sub mt) (x.each t mt).ne)) (z6 (v6 rfl (v6 (y7 rfl rfl (ZH hj)) rfl)) (ZL ok (x.sub mj) (x.each _ mj).ne)) ?_));rw [jf];show _=some (PV.at (.bl (!false&&(true&&decide (c5 (T.getD k [])=c5 (T.getD ((j:Int)).toNat []))))));rw [uA,gk,gj];simp;omega
   .rw [yA h2] at ec ⊢;exact Jp (vM (Jh en (Jh ee (Jg ec))) rfl)
end
def QA (t:EE):Int:=(t.map Cl.len).sum
def dueT (t:EE):Int:=wI (t.map Cl.due)
section
variable{T:C6}
def Ae (ok:d.Ok)(h:∀ c∈t,c∈d.cls)(hl:t.length<=10):QJ C [d.ob C,v9 t]=some (.at (.int (QA t))):=by
 have hlim:lim=1000000:=rfl;refine n9 rfl (c8 (z6 (v6 (o9 Cl.pv (λc=>PV.at (.int c.len)) t (jI (z6 rfl (Vo ok h hl))) rfl (by omega) λc hc=>⟨_,rfl,z6 rfl rfl⟩) rfl) ?_));have e:(t.map λc=>PV.at (.int c.len))=(t.map Cl.len).map λb=>PV.at (.int b):=by rw [yv];rfl
 rw [e,FS];rfl
def OU (h:l≠[]):JX [.lst (l.map λb=>PV.at (.int b))]=some (.at (.int (wI l))):=by show (jg (l.map λb=>PV.at (.int b))).bind _=_;rw [JA,yD,rq h]
def Ac (ok:d.Ok)(h:∀ c∈t,c∈d.cls)(hl:t.length<=10)(ne:t≠[]):XZ C [d.ob C,v9 t]=some (.at (.int (dueT t))):=by
 have hlim:lim=1000000:=rfl;refine n9 rfl (c8 (z6 (v6 (o9 Cl.pv (λc=>PV.at (.int c.due)) t (jI (z6 rfl (Vo ok h hl))) rfl (by omega) λc hc=>⟨_,rfl,z6 rfl rfl⟩) rfl) ?_));have e:(t.map λc=>PV.at (.int c.due))=(t.map Cl.due).map λb=>PV.at (.int b):=by rw [yv];rfl
 rw [e,OU (by simpa using ne)];rfl
def Dr.trs (d:Dr):Int->Int->C6->List (Int×Int)
 |_,_,[]=>[]
 |l,s,t::T=>(s+rin d.low l (c5 t),s+rin d.low l (c5 t)+QA t)::d.trs (c5 t) (s+rin d.low l (c5 t)+QA t) T
def rwT (r:Int×Int):PV:= .tup [.at (.int r.1),.at (.int r.2)]
def Ny (ok:d.Ok)(x:sM d T)(ht:t∈T):c5 t<d.h:=by have X:=x.each t ht;obtain ⟨c,t',rfl⟩:=ur X.ne;exact (ok.cl c (x.sub ht c yR)).hu
abbrev eR (C:Addr)(d:Dr)(T:C6)(a b:Int)(z:C5)(s6 s7 s8:sN):ME:=[.sh (d.ob C),.sh (k7 T),.sh (.tup [.at (.int d.last),.at (.int d.time)]),.sh (.at (.int a)),.sh (.at (.int b)),.ow (.lst z),s6,s7,s8]
def UN (ok:d.Ok)(x:sM d T):jo C [d.ob C,k7 T]=some (.lst ((d.trs d.last d.time T).map rwT)):=by
 have hlim:lim=1000000:=rfl;have tl:=x.len ok;obtain ⟨ε',e',rest⟩:=JE (g:=w6 6) (f:=y9 (p9 7 (z0 (jn C) (q0 (x6 0) (q0 (x6 6) x8))))
  (y9 (p9 8 (z5 b9 (x9 4) (xK C "tray_rinse" (QG C) (x6 0) (q0 (x6 3) (q0 (x6 7) x8)))))
  (y9 (p9 4 (z5 b9 (x9 8) (z0 (QJ C) (q0 (x6 0) (q0 (x6 6) x8)))))
  (y9 (p9 3 (x6 7))
  (wp 5 (xu (q0 (x6 8) (q0 (x6 4) x8)))))))) v9
  (λl ε=>∃(la ti:Int)(done:List (Int×Int))(s6 s7 s8:sN),done++d.trs la ti l=d.trs d.last d.time T/\(∀ t∈l,t∈T)/\done.length+l.length=T.length/\-1<=la/\la<(d.h:Int)/\ε=eR C d T la ti (done.map rwT) s6 s7 s8) (by
   rintro t l ε ⟨la,ti,done,s6,s7,s8,q1,q2,q3,q4,q5,rfl⟩;have ht:=q2 t yR;have hh:=Ny ok x ht;simp only [yJ] at q3;have v1:=ZL (C:=C) ok (x.sub ht) (x.each t ht).ne;have v2:=Ag (C:=C) ok q4 q5 hh;have v3:=Ae (C:=C) ok (x.sub ht) (x.tl ok ht);refine ⟨_,eR C d T (c5 t) (ti+rin d.low la (c5 t)+QA t) ((done++[(ti+rin d.low la (c5 t),ti+rin d.low la (c5 t)+QA t)]).map rwT) (.sh (v9 t)) (.sh (.at (.int (c5 t)))) (.sh (.at (.int (ti+rin d.low la (c5 t))))),rfl,u7 (o7 (z6 rfl v1)) (u7 (o7 (x:= .at (.int (ti+rin d.low la (c5 t)))) (y7 rfl (zF rfl (by decide) rfl v2) rfl)) (u7 (o7 (x:= .at (.int (ti+rin d.low la (c5 t)+QA t))) (y7 rfl (z6 rfl v3) rfl)) (u7 (o7 rfl) ?_))),(c5 t:Int),_,_,_,_,_,by rw [uW];exact q1,λu hu=>q2 u (yO _ hu),by rw [yV];simp;omega,by omega,by omega,rfl⟩;rw [yE];exact Br (jJ rfl l2) rfl (by rw [yZ];omega)) T (eR C d T d.last d.time [] .no .no .no) ⟨d.last,d.time,[],.no,.no,.no,rfl,λt h=>h,by simp,ok.l1,ok.l2,rfl⟩
 obtain ⟨la,ti,done,s6,s7,s8,q1,_,_,_,_,rfl⟩:=rest;have q2:done=d.trs d.last d.time T:=by have:done++[]=d.trs d.last d.time T:=q1;rwa [yp] at this
 subst q2;exact zE rfl (u7 (zt (z6 rfl (Xg ok x))) (u7 (o7 (zF rfl (by decide) rfl DL)) (u7 (o7 (x:= .at (.int d.last)) (y7 rfl rfl rfl)) (u7 (o7 (x:= .at (.int d.time)) (y7 rfl rfl rfl)) (u7 (XG (xP rfl l0)) (u7 (jH rfl e') rfl))))))
def Wm {α:Type}(a:α)(l:List α):α:=(a::l).getLast (by simp)
def Bi (d:Dr)(T:C6):Int:=(Wm (0,d.time) (d.trs d.last d.time T)).2
def Hw {f:α->PV}{a:α}{l:List α}:((a::l).map f).getLast?=some (f (Wm a l)):=by rw [List.getLast?_map,List.getLast?_eq_some_getLast (by simp)];rfl
def v_end (ok:d.Ok)(x:sM d T):Za C [d.ob C,k7 T]=some (.at (.int (Bi d T))):=by
 refine n9 rfl (u7 (o7 (z6 rfl (UN ok x))) (c8 ?_));unfold Bi;generalize hr:d.trs d.last d.time T=rs;cases rs with
 |nil=>exact VV rfl (y7 (zF rfl (by decide) rfl DL) rfl rfl)
 |cons r rs=>refine Bv rfl (y7 (y7 rfl rfl (Mw Hw)) rfl ?_);unfold Wm;rw [List.getLast_cons_cons (a:=(0,d.time))];rfl
def BW (d:Dr)(T:C6):EH:=(T.zip (d.trs d.last d.time T)).map λz=>z.2.2-dueT z.1
def Wn (l:EH):PV:=if l=[] then .at .non else .at (.int (wH l))
def LW (h:a ε=some (.lst (l.map λb=>PV.at (.int b)))):Je a ε=some (Wn l):=by unfold Je Wn;rw [h];show (jg (l.map λb=>PV.at (.int b))).bind _=_;rw [JA];show (if l=[] then _ else _)=_;split<;>rfl
theorem Ml:∀(T:C6)(rs:List (Int×Int)),qE (rs.map rwT) (T.map v9)=(T.zip rs).map λz=>PV.tup [rwT z.2,v9 z.1]
 |[],[]=>rfl
 |[],_::_=>rfl
 |_::_,[]=>rfl
 |t::T,r::rs=>by
  show PV.tup [rwT r,v9 t]::qE (rs.map rwT) (T.map v9)=_;rw [Ml T rs];rfl
def As (T:C6)(rs:List (Int×Int)):(T.zip rs).length<=T.length:=by rw [List.length_zip];omega
def OQ (ok:d.Ok)(x:sM d T):Zb C [d.ob C,k7 T]=some (Wn (BW d T)):=by
 have hlim:lim=1000000:=rfl;have tl:=x.len ok;have zl:=As T (d.trs d.last d.time T);refine n9 rfl (u7 (o7 (z6 rfl (UN ok x))) (c8 (LW ((o9 (λz:EE×Int×Int=>PV.tup [rwT z.2,v9 z.1]) (λz=>PV.at (.int (z.2.2-dueT z.1))) (T.zip (d.trs d.last d.time T)) ?_ rfl (by omega) λz hz=>⟨_,rfl,y7 (y7 rfl rfl rfl) (z6 rfl (Ac ok (x.sub (uz hz).1) (x.tl ok (uz hz).1) (x.each _ (uz hz).1).ne)) rfl⟩).trans ?_))))
 .show some (qE ((d.trs d.last d.time T).map rwT) (T.map v9))=_;rw [Ml]
 .unfold BW;rw [yv];rfl
end
section
variable{T:C6}
def rm (s:Str)(t:EE):EE:=t.filter λe=>!decide (e.name=s)
def xQ (T:C6)(c:Cl)(to:Nat):C6:=((T.map (rm c.name)).set to ((T.map (rm c.name)).getD to []++[c])).filter λt=>!t.isEmpty
def Rh (a b:Str):pNe (.at (.str a)) (.at (.str b))=some (.at (.bl (!decide (a=b)))):=by show some (PV.at (.bl (!ql (.str a) (.str b))))=_;have:ql (.str a) (.str b)=decide (a=b):=rfl;rw [this]
def Ip (hl:t.length<=10):c6 [none,some 1] [0] (b8 (x6 0)) (w6 0) (dT (z5 pNe (x9 0) (x9 1))) (x6 0) [.sh (v9 t),.sh (.at (.str s))]=some (v9 (rm s t)):=by have hlim:lim=1000000:=rfl;refine (Bs (λc:Cl=>PV.at (.str c.name)) (λc:Cl=>PV.at (.str c.name)) (λe=>!decide (e.name=s)) t (by show some (y6 (t.map Cl.name))=_;rw [nm_F]) rfl (by omega) λc _=>⟨_,rfl,i8 (y7 rfl rfl (Rh _ _)),λ_=>rfl⟩).trans ?_;unfold v9 rm;rw [nm_F]
def Ai (hl:t.length<=10):Zc [v9 t,.at (.str s)]=some (v9 (rm s t)):=zE rfl (c8 (Ip hl))
abbrev nmL (T:C6):EF:=T.map λt=>y6 (t.map Cl.name)
def Pu (T:C6):(nmL T).map PV.lst=T.map v9:=by rw [yv];rfl
def Pw (T:C6)(j:Nat):(nmL T).getD j []=y6 ((T.getD j []).map Cl.name):=by rw [yy,yy,yM];cases T[j]?<;>rfl
def Ri (T:C6)(j:Nat)(c:Cl):((nmL T).set j ((nmL T).getD j []++[.at (.str c.name)])).map PV.lst=(T.set j (T.getD j []++[c])).map v9:=by
 rw [List.map_set,List.map_set,Pu,Pw]
 congr 1
 unfold v9 y6;rw [yE,yE];rfl
def Yd (e:Cl)(h:e∈rm s t):e∈t/\e.name≠s:=by obtain ⟨h1,h2⟩:=uk.mp h;exact ⟨h1,by simpa using h2⟩
def Iq:(rm s t).length<=t.length:=List.length_filter_le _ _
def DH (ok:d.Ok)(x:sM d T)(hto:to<T.length):jP [k7 T,qD (c.name,(to:Int))]=some (k7 (xQ T c to)):=by
 have hlim:lim=1000000:=rfl;have tl:=x.len ok;have e1:=LU (n:=2) (tK:=[none,some 1]) (ts:=[0]) (it:=b8 (x6 0)) (g:=w6 0) (c:=c7) (f:=z0 Zc (q0 (x6 0) (q0 (z5 k6 (x9 1) (dC (.int 0))) x8))) (k:=z5 k6 (x9 1) (dC (.int 1))) (x:=z5 k6 (x9 1) (dC (.int 0))) (ε:=[.sh (k7 T),.sh (qD (c.name,(to:Int))),.no]) (xs:=T.map v9) (ls:=nmL (T.map (rm c.name))) (j:=to) (y:= .at (.str c.name)) rfl rfl (by rw [yZ];omega) (by show 2<3;decide)
  (by rw [Pu,yv];exact VJ v9 (λt=>v9 (rm c.name t)) T λt ht=>⟨_,rfl,z6 (v6 rfl (v6 (y7 rfl rfl rfl) rfl)) (Ai (x.tl ok ht))⟩) rfl rfl (by rw [yZ,yZ];exact hto) (by
   rw [Pw,xx,yZ,yy,yM,yS hto];have:=Iq (s:=c.name) (t:=T[to]);have:=x.tl ok (yf hto);show (rm c.name T[to]).length<=lim;omega)
 rw [Ri] at e1;refine n9 rfl (u7 e1 (c8 ?_));have hl2:((T.map (rm c.name)).set to ((T.map (rm c.name)).getD to []++[c])).length=T.length:=by rw [yc,yZ]
 show Xx [none] [0] (b8 (x9 2)) (w6 0) (r9 (x9 0)) (x6 0) _=some (k7 (xQ T c to));unfold k7 xQ;generalize (T.map (rm c.name)).set to ((T.map (rm c.name)).getD to []++[c])=T2 at hl2 ⊢;refine LS (xs:=T2.map v9) rfl rfl (by rw [yZ];omega) ?_;refine VH v9 v9 (λt=>!t.isEmpty) T2 λt _=>⟨_,rfl,?_,λ_=>rfl⟩;show (some (v9 t)).bind pTru=_;show some (!(y6 (t.map Cl.name)).isEmpty)=_;cases t<;>rfl
theorem VY {α:Type}:∀ T:List (List α),(T.filter λt=>!t.isEmpty).flatten=T.flatten
 |[]=>rfl
 |[]::T=>by rw [uc];exact VY T
 |(a::t)::T=>by
  show ((a::t)::T.filter λt=>!t.isEmpty).flatten=_;rw [yq,yq,VY T]
theorem BA (s:Str):∀ T:C6,(T.map (rm s)).flatten=rm s T.flatten
 |[]=>rfl
 |t::T=>by
  rw [yH,yq,yq,BA s T];unfold rm;rw [List.filter_append]
theorem Yc:∀{l:EE},(l.map Cl.name).Nodup->c∈l->(c::rm c.name l).Perm l
 |e::l,nd,hc=>by
  obtain ⟨h1,h2⟩:=yn.mp nd;by_cases he:e.name=c.name
  .have ec:e=c:=by
    rcases yL.mp hc with z|z
    ·exact z.symm
    ·exact rp (he▸yB.mpr ⟨c,z,rfl⟩) h1
   subst ec;have:rm e.name (e::l)=l:=by unfold rm;rw [uc,rq (by simp)];refine List.filter_eq_self.mpr λa ha=>?_;have:a.name≠e.name:=λz=>h1 (z▸yB.mpr ⟨a,ha,rfl⟩);simp [this]
   rw [this]
  .have hc':c∈l:=by
    rcases yL.mp hc with z|z
    ·exact rp (by rw [z]) he
    ·exact z
   have:rm c.name (e::l)=e::rm c.name l:=by unfold rm;rw [uc,rB (by simp [he])]
   rw [this];exact (List.Perm.swap e c _).trans ((Yc h2 hc').cons e)
def sM.mov (ok:d.Ok)(x:sM d T)(hc:c∈d.cls)(hto:to<T.length)(hh:c.hue=c5 (T.getD to [])):sM d (xQ T c to):=by
 have hL:to<(T.map (rm c.name)).length:=by rw [yZ];exact hto
 have gt:T.getD to []=T[to]:=by rw [yy,yS hto];rfl
 have g1:(T.map (rm c.name))[to]?=some (rm c.name T[to]):=by rw [yM,yS hto];rfl
 have g2:(T.map (rm c.name)).getD to []=rm c.name T[to]:=by rw [yy,g1];rfl
 rw [gt] at hh;have mt:=yf hto;refine ⟨?_,λu hu=>?_⟩
 .unfold xQ;rw [VY,g2];refine (VZ g1).trans ?_;rw [BA];exact (Yc (x.lst ok).nd (x.perm.mem_iff.mpr hc)).trans x.perm
 .unfold xQ at hu;rw [g2] at hu;obtain ⟨h1,h2⟩:=uk.mp hu;refine ⟨(λz=>by rw [z] at h2;cases h2),?_⟩;rcases List.mem_or_eq_of_mem_set h1 with h|rfl
  .obtain ⟨w,hw,rfl⟩:=yB.mp h;exact λa ha b hb=>(x.each w hw).one a (Yd a ha).1 b (Yd b hb).1
  .have hu2:∀ a∈rm c.name T[to]++[c],a.hue=c.hue:=λa ha=>by
    rcases yF.mp ha with h|h
    ·rw [hh];exact (x.each _ mt).hue a (Yd a h).1
    ·rw [yU.mp h]
   exact λa ha b hb=>by rw [hu2 a ha,hu2 b hb]
end
section
variable{T:C6}
theorem VW:∀{l:EE}{c:Cl},(l.map Cl.name).Nodup->c∈l->l.filter (λe=>decide (e.name=c.name))=[c]
 |e::l,c,nd,hc=>by
  obtain ⟨h1,h2⟩:=yn.mp nd;rw [uc];by_cases he:e.name=c.name
  .have ec:e=c:=by
    rcases yL.mp hc with z|z
    ·exact z.symm
    ·exact rp (he▸yB.mpr ⟨c,z,rfl⟩) h1
   subst ec;rw [rB (yt rfl),List.filter_eq_nil_iff.mpr λa ha=>?_];have:a.name≠e.name:=λz=>h1 (z▸yB.mpr ⟨a,ha,rfl⟩);simp [this]
  .have hc':c∈l:=by
    rcases yL.mp hc with z|z
    ·exact rp (by rw [z]) he
    ·exact z
   rw [rq (by simp [he]),VW h2 hc']
def Rb (h:¬ (0<=m.2/\m.2<(T.length:Int))):mvB T m=false:=by
 unfold mvB;split
 .rfl
 .rw [yA h,Bool.false_and,Bool.and_false]
def Lx (x:sM d T)(ok:d.Ok)(hc:c∈d.cls){k:Nat}(h:xo T c.name=some k):k<T.length/\c5 (T.getD k [])=c.hue:=by
 obtain ⟨t,h1,h2⟩:=Zq h;have mt:=yu h1;obtain ⟨e,he,en⟩:=yB.mp h2;have:e=c:=by have p:=VW ok.nd hc;have q:e∈d.cls.filter (λe=>decide (e.name=c.name)):=uk.mpr ⟨x.sub mt e he,yt en⟩;rw [p] at q;exact yU.mp q
 subst this;refine ⟨(yK.mp h1).1,?_⟩;rw [yy,h1];exact ((x.each t mt).hue e he).symm
def Lv (x:sM d T)(hc:c∈d.cls):∃ k,xo T c.name=some k:=by obtain ⟨t,ht,hct⟩:=uM.mp (x.perm.mem_iff.mpr hc);exact WU ht (yB.mpr ⟨c,hct,rfl⟩)
end
section
variable{T:C6}
structure Xm (d:Dr)(T:C6)(c:Cl)(to:Nat):Prop where
 mem:c∈d.cls
 lt:to<T.length
 hue:c.hue=c5 (T.getD to [])
 yes:mvB T (c.name,(to:Int))=true
inductive Walk (d:Dr):C6->EX->C6->Prop
 |nil {T:C6}:Walk d T [] T
 |cons {T T':C6} {c:Cl} {to:Nat} {ms:EX}:Xm d T c to->Walk d (xQ T c to) ms T'->Walk d T ((c.name,(to:Int))::ms) T'
abbrev twG:MG:=zd 2 (qh (w6 4) (qh (w6 5) zc))
abbrev twC (C:Addr):MB:=n8 (r9 (z0 (zS C) (q0 (x6 0) (q0 (x6 3) (q0 (x6 5) x8)))))
abbrev twB (C:Addr):MS:=y9 (m4 (twC C) qz i6) (p9 3 (z0 jP (q0 (x6 3) (q0 (x6 5) x8))))
abbrev twY (CM C:Addr):YM:=ja false (m4 (twC C) qz i6) (yIf (twC C) (Ga CM "at" (x6 4)) yNo) yNo
abbrev twE (C:Addr)(d:Dr)(x1 x2:PV)(T:C6)(u v:sN):ME:=[.sh (d.ob C),.sh x1,.sh x2,.sh (k7 T),u,v]
def DA (ok:d.Ok)(x:sM d T){u:sN}:twC C (twE C d x1 x2 T u (.sh (qD m)))=some (!mvB T m):=by have e1:z0 (zS C) (q0 (x6 0) (q0 (x6 3) (q0 (x6 5) x8))) (twE C d x1 x2 T u (.sh (qD m)))=some (.at (.bl (mvB T m))):=z6 (v6 rfl (v6 rfl (v6 rfl rfl))) (ON ok x);show Option.bind (Option.bind (z0 (zS C) (q0 (x6 0) (q0 (x6 3) (q0 (x6 5) x8))) (twE C d x1 x2 T u (.sh (qD m)))) pTru) _=_;rw [e1];rfl
def Og (ok:d.Ok)(x:sM d T){u:sN}(h:Xm d T c to):twB C (twE C d x1 x2 T u (.sh (qD (c.name,(to:Int)))))=some (.nx (twE C d x1 x2 (xQ T c to) u (.sh (qD (c.name,(to:Int)))))):=by refine u7 (ε1:=twE C d x1 x2 T u (.sh (qD (c.name,(to:Int))))) (qB (by rw [DA ok x,h.yes];rfl) rfl) ?_;exact o7 (z6 (v6 rfl (v6 rfl rfl)) (DH ok x h.lt))
def Oh (ok:d.Ok){b:Str×Int}{rest:C5}(w:Walk d T ms T')(hb:mvB T' b=false):∀ {k:Nat} {u v:sN},sM d T->ZQ twG (twB C) (twY CM C) (qW k (ms.map qD++qD b::rest)) (twE C d x1 x2 T u v) CM (some (("at":Str),V.int ((k+ms.length:Nat):Int))):=by
 induction w with
 |nil=>intro k u v x;refine ⟨twE C d x1 x2 _ (.sh (.at (.int k))) (.sh (qD b)),rfl,.inl (.inl ⟨true,by rw [DA ok x,hb];rfl,rfl,_,rfl,rfl⟩)⟩
 |@cons T0 T1 c to ms m _ ih=>intro k u v x;have:=ih hb (k:=k+1) (u:= .sh (.at (.int k))) (v:= .sh (qD (c.name,(to:Int)))) (x.mov ok m.mem m.lt m.hue);rw [show k+1+ms.length=k+(ms.length+1) by omega] at this;exact ⟨twE C d x1 x2 _ (.sh (.at (.int k))) (.sh (qD (c.name,(to:Int)))),rfl,.inr ⟨_,.inl (Og ok x m),this⟩⟩
def mv_ok (ok:d.Ok)(x:sM d T)(hc:c∈d.cls){k:Nat}(hk:T[k]?=some t)(h1:(c5 t:Int)=(c.hue:Int))(h2:c.name∉t.map Cl.name):Xm d T c k:=by
 have kl:=(yK.mp hk).1;have gk:T.getD k []=t:=by rw [yy,hk];rfl
 obtain ⟨j,hj⟩:=Lv x hc;obtain ⟨jl,hh⟩:=Lx x ok hc hj;have jk:j≠k:=λz=>by
  subst z;obtain ⟨u,e1,e2⟩:=Zq hj;rw [hk] at e1;cases e1;exact h2 e2
 refine ⟨hc,kl,by rw [gk];omega,?_⟩;unfold mvB;rw [hj];show (!decide ((j:Int)=k)&&(decide (0<=(k:Int)/\(k:Int)<T.length)&&decide (c5 (T.getD j [])=c5 (T.getD ((k:Int)).toNat []))))=true;rw [uA,hh,gk,yA (by omega),yt (show 0<=(k:Int)/\(k:Int)<T.length from ⟨by omega,by omega⟩),yt (show c.hue=c5 t by omega)];rfl
end
section
variable{T:C6}
def pl (T:C6)(c:Cl):Nat:=(xo T c.name).getD 0
def hasP (x:sM d T)(hc:c∈d.cls):∃ k,xo T c.name=some k:=by obtain ⟨t,ht,hct⟩:=uM.mp (x.perm.mem_iff.mpr hc);exact WU ht (yB.mpr ⟨c,hct,rfl⟩)
def v_pl (x:sM d T)(hc:c∈d.cls):ze [k7 T,.at (.str c.name)]=some (.at (.int (pl T c))):=by obtain ⟨k,hk⟩:=hasP x hc;rw [DI,hk];unfold pl;rw [hk];rfl
def nxR (T:C6):EE->Option (Cl×Cl)
 |a::b::r=>if pl T b<pl T a then some (a,b) else nxR T (b::r)
 |_=>none
def nxA (T:C6):C6->Option (Cl×Cl)
 |[]=>none
 |r::R=>match nxR T r with
  |some p=>some p
  |none=>nxA T R
def mvO (T:C6):Option (Cl×Cl)->PV
 |none=> .at .non
 |some p=>qD (p.2.name,(pl T p.1:Int))
abbrev nxG:MG:=zd 2 (qh (w6 3) (qh (w6 4) zc))
abbrev nxB:MS:=m4 (dT (z5 pLt (z0 ze (q0 (x6 1) (q0 (x6 4) x8))) (z0 ze (q0 (x6 1) (q0 (x6 3) x8))))) (u9 (xu (q0 (x6 4) (q0 (z0 ze (q0 (x6 1) (q0 (x6 3) x8))) x8)))) i6
abbrev nxE (C:Addr)(d:Dr)(T:C6)(r u v:sN):ME:=[.sh (d.ob C),.sh (k7 T),r,u,v]
theorem PF (x:sM d T){s2:sN}:∀{r:EE}{u v:sN},(∀ c∈r,c∈d.cls) -> (∃ p,nxR T r=some p/\qH nxG nxB (qE (y6 (r.map Cl.name)) ((y6 (r.map Cl.name)).drop 1)) (nxE C d T s2 u v)=some (.rt (mvO T (some p))))∨(nxR T r=none/\∃ u' v',qH nxG nxB (qE (y6 (r.map Cl.name)) ((y6 (r.map Cl.name)).drop 1)) (nxE C d T s2 u v)=some (.nx (nxE C d T s2 u' v')))
 |[],u,v,_=> .inr ⟨rfl,u,v,rfl⟩
 |[a],u,v,_=> .inr ⟨rfl,u,v,rfl⟩
 |a::b::r,u,v,h=>by
  have ha:=v_pl x (h a yR);have hb:=v_pl x (h b (yO _ yR));have c1:dT (z5 pLt (z0 ze (q0 (x6 1) (q0 (x6 4) x8))) (z0 ze (q0 (x6 1) (q0 (x6 3) x8)))) (nxE C d T s2 (.sh (.at (.str a.name))) (.sh (.at (.str b.name))))=some (decide ((pl T b:Int)<pl T a)):=i8 (y7 (z6 rfl hb) (z6 rfl ha) rfl);have st:∀ o,nxB (nxE C d T s2 (.sh (.at (.str a.name))) (.sh (.at (.str b.name))))=some o->qH nxG nxB (qE (y6 ((a::b::r).map Cl.name)) ((y6 ((a::b::r).map Cl.name)).drop 1)) (nxE C d T s2 u v)=(match o with
   | .nx ε'=>qH nxG nxB (qE (y6 ((b::r).map Cl.name)) ((y6 ((b::r).map Cl.name)).drop 1)) ε'
   | .ct ε'=>qH nxG nxB (qE (y6 ((b::r).map Cl.name)) ((y6 ((b::r).map Cl.name)).drop 1)) ε'
   | .bk ε'=>some (.nx ε')
   | .rt y=>some (.rt y)):=λo e=>by
   show Option.bind (nxB (nxE C d T s2 (.sh (.at (.str a.name))) (.sh (.at (.str b.name))))) _=_;rw [e];cases o<;>rfl
  by_cases hl:pl T b<pl T a
  .refine .inl ⟨(a,b),by unfold nxR;rw [rB hl],?_⟩;rw [yt (by omega)] at c1;rw [st _ (vM c1 (c8 (jJ (v6 rfl (v6 (z6 rfl ha) rfl)) l2)))];rfl
  .rw [yA (by omega)] at c1;have en:nxR T (a::b::r)=nxR T (b::r):=by show (if pl T b<pl T a then some (a,b) else nxR T (b::r))=_;rw [rq hl]
   rw [en,st _ (qB c1 rfl)];exact PF x (r:=b::r) (λc hc=>h c (yO _ hc))
def VL (xs:C5)(a:Nat):jd xs (some (a:Int)) none=xs.drop a:=by
 unfold jd;rw [HT.sIx_nat,HT.sIx_none];by_cases h:a<=xs.length
 .rw [oY h,tW (by rw [uO];omega)]
 .rw [Nat.min_eq_right (by omega),uo,List.take_nil,List.drop_of_length_le (by omega)]
def Iv {a:MA}{k:Nat}(h:a ε=some [.at (.int (k:Int))])(hk:k<=1000):zQ a ε=some ((List.range k).map λ(i:Nat)=>PV.at (.int ((0:Int)+i))):=wW h (by have:lim=1000000:=rfl;omega)
def Dr.rows (d:Dr):C6:=(List.range d.h).map d.dueR
def OE (ok:d.Ok):QI C [d.ob C]=some (.lst (d.rows.map v9)):=by
 have hlim:lim=1000000:=rfl;have h4:=ok.h4;refine zE rfl (c8 ((o9 (λ(i:Nat)=>PV.at (.int ((0:Int)+i))) (λi=>v9 (d.dueR i)) (List.range d.h) (Iv (v6 (zF rfl (by decide) rfl (OK ok)) rfl) (by omega)) rfl (by rw [uf];omega) λi _=>⟨_,rfl,zF rfl (by decide) rfl ?_⟩).trans ?_))
 .show QE C [d.ob C,.at (.int ((0:Int)+i))]=_;rw [Int.zero_add];exact OD ok i
 .unfold Dr.rows;rw [yv];rfl
abbrev nxF:MS:=xY (vK (q0 (x6 2) (q0 (qA (x9 2) (qp (dC (.int 1))) qX) x8))) nxG nxB
theorem PH (x:sM d T):∀{R:C6}{s2 u v:sN},(∀ r∈R,∀ c∈r,c∈d.cls) -> (∃ p,nxA T R=some p/\qH (w6 2) nxF (R.map v9) (nxE C d T s2 u v)=some (.rt (mvO T (some p))))∨(nxA T R=none/\∃ s2' u' v',qH (w6 2) nxF (R.map v9) (nxE C d T s2 u v)=some (.nx (nxE C d T s2' u' v')))
 |[],s2,u,v,_=> .inr ⟨rfl,s2,u,v,rfl⟩
 |r::R,s2,u,v,h=>by
  have ez:vK (q0 (x6 2) (q0 (qA (x9 2) (qp (dC (.int 1))) qX) x8)) (nxE C d T (.sh (v9 r)) u v)=some (qE (y6 (r.map Cl.name)) ((y6 (r.map Cl.name)).drop 1)):=by unfold vK;rw [v6 rfl (v6 (Qw (xs:=y6 (r.map Cl.name)) rfl rfl rfl) rfl),yD];show some (qE (y6 (r.map Cl.name)) (jd (y6 (r.map Cl.name)) (some ((1:Nat):Int)) none))=_;rw [VL]
  rcases PF (C:=C) x (s2:= .sh (v9 r)) (r:=r) (u:=u) (v:=v) (h r yR) with ⟨p,e1,e2⟩|⟨e1,u',v',e2⟩
  .refine .inl ⟨p,by unfold nxA;rw [e1],?_⟩;have e3:nxF (nxE C d T (.sh (v9 r)) u v)=some (.rt (mvO T (some p))):=jH ez e2;show Option.bind (nxF (nxE C d T (.sh (v9 r)) u v)) _=_;rw [e3];rfl
  .have e3:nxF (nxE C d T (.sh (v9 r)) u v)=some (.nx (nxE C d T (.sh (v9 r)) u' v')):=jH ez e2;have en:nxA T (r::R)=nxA T R:=by show (match nxR T r with|some p=>some p|none=>nxA T R)=_;rw [e1]
   have st:qH (w6 2) nxF ((r::R).map v9) (nxE C d T s2 u v)=qH (w6 2) nxF (R.map v9) (nxE C d T (.sh (v9 r)) u' v'):=by show Option.bind (nxF (nxE C d T (.sh (v9 r)) u v)) _=_;rw [e3];rfl
   rw [en,st];exact PH x λq hq=>h q (yO _ hq)
def Yf:∀ r∈d.rows,∀ c∈r,c∈d.cls:=λr hr c hc=>by
 obtain ⟨h,_,rfl⟩:=yB.mp hr;exact NH ((VQ h).mem_iff.mp hc)
def UM (ok:d.Ok)(x:sM d T):vn C [d.ob C,k7 T]=some (mvO T (nxA T d.rows)):=by
 have er:b8 (z0 (QI C) (q0 (x6 0) x8)) (nxE C d T .no .no .no)=some (d.rows.map v9):=jI (z6 rfl (OE ok));rcases PH (C:=C) x (R:=d.rows) (s2:= .no) (u:= .no) (v:= .no) Yf with ⟨p,e1,e2⟩|⟨e1,s2,u,v,e2⟩
 .rw [e1];exact n9 rfl (Jp (jH er e2))
 .rw [e1];exact n9 rfl (u7 (jH er e2) rfl)
theorem PD:∀{r:EE}{p:Cl×Cl},nxR T r=some p->p.1∈r/\p.2∈r/\pl T p.2<pl T p.1/\∃ l m,r=l++p.1::p.2::m
 |a::b::r,p,h=>by
  have h':(if pl T b<pl T a then some (a,b) else nxR T (b::r))=some p:=h;split at h'
  .rename_i hl;cases h';exact ⟨by simp,by simp,hl,[],r,rfl⟩
  .obtain ⟨h1,h2,h3,l,m,e⟩:=PD h';exact ⟨yO _ h1,yO _ h2,h3,a::l,m,by rw [e];rfl⟩
 |[],_,h=>by cases h
 |[_],_,h=>by cases h
theorem PB:∀{R:C6}{p:Cl×Cl},nxA T R=some p->∃ r∈R,nxR T r=some p
 |r::R,p,h=>by
  unfold nxA at h;split at h
  .rename_i q e;cases h;exact ⟨r,yR,e⟩
  .obtain ⟨q,hq,e⟩:=PB h;exact ⟨q,yO _ hq,e⟩
 |[],_,h=>by cases h
end
section
variable{T:C6}{a b:Cl}
def Rc (ok:d.Ok){e:Cl}(hc:c∈d.cls)(he:e∈d.cls)(h:e.name=c.name):e=c:=by have p:=VW ok.nd hc;have q:e∈d.cls.filter (λe=>decide (e.name=c.name)):=uk.mpr ⟨he,yt h⟩;rw [p] at q;exact yU.mp q
def rm_no (h:s∉t.map Cl.name):rm s t=t:=List.filter_eq_self.mpr λe he=>by
 have:e.name≠s:=λz=>h (z▸yB.mpr ⟨e,he,rfl⟩);simp [this]
theorem Wu {s:Str}:∀{A:C6},(∀ t∈A,s∉t.map Cl.name)->A.map (rm s)=A
 |[],_=>rfl
 |t::A,h=>by rw [yH,rm_no (h t yR),Wu λu hu=>h u (yO _ hu)]
theorem CY {α:Type}(v:α):∀(X:List α)(y:α)(D:List α),(X++y::D).set X.length v=X++v::D
 |[],_,_=>rfl
 |x::X,y,D=>by
  show x::(X++y::D).set X.length v=_;rw [CY v X y D];rfl
theorem BE {α:Type}:∀(X:List α)(y:α)(D:List α),(X++y::D)[X.length]?=some y
 |[],_,_=>rfl
 |x::X,y,D=>BE X y D
def By:∀{A:C6},(∀ t∈A,t≠[])->(A.filter λt=>!t.isEmpty)=A:=λ{A} h=>List.filter_eq_self.mpr λt ht=>by
 cases t with
 |nil=>exact rp rfl (h _ ht)
 |cons _ _=>rfl
def nw (t:EE)(X:C6):C6:=if t=[] then X else t::X
structure Spl (d:Dr)(T:C6)(a b:Cl)(A:C6)(t1:EE)(B:C6)(t2:EE)(D:C6):Prop where
 eT:T=A++t1::(B++t2::D)
 b1:b∈t1
 a2:a∈t2
 eN:xQ T b (pl T a)=A++nw (rm b.name t1) (B++(t2++[b])::D)
 nb:b.name∉t2.map Cl.name
 ta:T[pl T a]?=some t2
def PY (x:sM d T)(ok:d.Ok)(hc:c∈d.cls):∃ t,T[pl T c]?=some t/\c∈t:=by
 obtain ⟨k,hk⟩:=hasP x hc;obtain ⟨t,h1,h2⟩:=Zq hk;have e:pl T c=k:=by unfold pl;rw [hk];rfl
 obtain ⟨f,hf,en⟩:=yB.mp h2;have:=Rc ok hc (x.sub (yu h1) f hf) en;subst this;exact ⟨t,by rw [e];exact h1,hf⟩
def FL (ok:d.Ok)(x:sM d T)(ha:a∈d.cls)(hb:b∈d.cls)(hl:pl T b<pl T a):∃ A t1 B t2 D,Spl d T a b A t1 B t2 D:=by
 obtain ⟨t2,e2,a2⟩:=PY x ok ha;obtain ⟨t1,e1,b1⟩:=PY x ok hb;generalize hj:pl T a=j at hl e2;generalize hi:pl T b=i at hl e1;obtain ⟨jl,e2'⟩:=yK.mp e2;obtain ⟨il,e1'⟩:=yK.mp e1;have s1:T=T.take i++t1::T.drop (i+1):=by rw [<- e1',<- yk il,uG]
 have e3:(T.drop (i+1))[j-(i+1)]?=some t2:=by rw [oS,show i+1+(j-(i+1))=j by omega];exact e2
 obtain ⟨kl,e3'⟩:=yK.mp e3;have s2:T.drop (i+1)=(T.drop (i+1)).take (j-(i+1))++t2::(T.drop (i+1)).drop (j-(i+1)+1):=by rw [<- e3',<- yk kl,uG]
 have lA:(T.take i).length=i:=by rw [uZ];omega
 have lB:((T.drop (i+1)).take (j-(i+1))).length=j-(i+1):=by rw [uZ];omega
 have s3:T=T.take i++t1::((T.drop (i+1)).take (j-(i+1))++t2::(T.drop (i+1)).drop (j-(i+1)+1)):=by rw [<- s2];exact s1
 generalize T.take i=A at lA s3;generalize (T.drop (i+1)).take (j-(i+1))=B at lB s3;generalize (T.drop (i+1)).drop (j-(i+1)+1)=D at s3;have ta:=e2;rw [<- hj] at ta
 suffices q:xQ T b (pl T a)=A++nw (rm b.name t1) (B++(t2++[b])::D)/\b.name∉t2.map Cl.name from ⟨A,t1,B,t2,D,s3,b1,a2,q.1,q.2,ta⟩
 clear ta;rw [hj];clear s1 s2 e3 e3' e1 e2 e1' e2' hj hi;have nd:=(x.lst ok).nd;have ne:=λt ht=>(x.each t ht).ne;subst s3;rw [uR,yq,yE,yE] at nd;have bn:b.name∈t1.map Cl.name:=yB.mpr ⟨b,b1,rfl⟩;obtain ⟨_,nd2,nd3⟩:=uL.mp nd;obtain ⟨_,_,nd4⟩:=uL.mp nd2;have nA:∀ t∈A,b.name∉t.map Cl.name:=λt ht z=>by
  obtain ⟨f,hf,en⟩:=yB.mp z;exact nd3 b.name (yB.mpr ⟨f,uM.mpr ⟨t,ht,hf⟩,en⟩) b.name (yo _ bn) rfl
 have nR:∀ t∈B++t2::D,b.name∉t.map Cl.name:=λt ht z=>by
  obtain ⟨f,hf,en⟩:=yB.mp z;exact nd4 b.name bn b.name (yB.mpr ⟨f,uM.mpr ⟨t,ht,hf⟩,en⟩) rfl
 have em:(A++t1::(B++t2::D)).map (rm b.name)=(A++rm b.name t1::B)++t2::D:=by rw [yE,yH,Wu nA,Wu nR,uW];rfl
 have lj:(A++rm b.name t1::B).length=j:=by rw [yV,yJ,lA,lB];omega
 refine ⟨?_,nR t2 (by simp)⟩;unfold xQ;rw [em,<- lj,yy,BE,CY,uW];show List.filter _ (A++rm b.name t1::(B++(t2++[b])::D))=_;rw [List.filter_append,By λt ht=>ne t (yo _ ht),uc];have fR:((B++(t2++[b])::D).filter λt=>!t.isEmpty)=B++(t2++[b])::D:=By λt ht=>by
  rcases yF.mp ht with z|z
  .exact ne t (by simp [z])
  .rcases yL.mp z with rfl|z
   .simp
   .exact ne t (by simp [z])
 rw [fR];unfold nw;cases rm b.name t1<;>rfl
end
section
variable{T:C6}{a b:Cl}
def Bh (hc:c∈d.dueR h):c.hue=h:=uS (uk.mp ((VQ h).mem_iff.mp hc)).2
structure Pair (d:Dr)(T:C6)(a b:Cl):Prop where
 a1:a∈d.cls
 b1:b∈d.cls
 hue:a.hue=b.hue
 due:a.due<=b.due
 lt:pl T b<pl T a
def Rl {p:Cl×Cl}(h:nxA T d.rows=some p):Pair d T p.1 p.2:=by
 obtain ⟨r,hr,e⟩:=PB h;obtain ⟨h1,h2,h3,l,m,el⟩:=PD e;have s1:=Yf r hr _ h1;have s2:=Yf r hr _ h2;obtain ⟨g,_,rfl⟩:=yB.mp hr;refine ⟨s1,s2,by rw [Bh h1,Bh h2],?_,h3⟩;have pw:(d.dueR g).Pairwise λa b=>qg (vL b) (vL a)=false:=SD c0 vL (d.inH g);rw [el] at pw;have q:=(List.pairwise_cons.mp (List.pairwise_append.mp pw).2.1).1 p.2 yR;have:¬ (p.2.due<p.1.due):=λz=>by
  have:qg (vL p.2) (vL p.1)=true:=tf.mpr (.inl z);rw [this] at q;cases q
 omega
def Spl.ok (S:Spl d T a b A t1 B t2 D)(ok:d.Ok)(x:sM d T)(P:Pair d T a b):Xm d T b (pl T a):=by have m2:=yu S.ta;exact mv_ok ok x P.b1 S.ta (by rw [<- P.hue,(x.each t2 m2).hue a S.a2]) S.nb
def mu:C6->Nat
 |[]=>0
 |t::T=>t.length*T.length+mu T
theorem Ze:∀(A X:C6),mu (A++X)=mu A+A.flatten.length*X.length+mu X
 |[],X=>by show mu X=0+0*X.length+mu X;omega
 |t::A,X=>by
  show t.length*(A++X).length+mu (A++X)=t.length*A.length+mu A+(t++A.flatten).length*X.length+mu X;rw [Ze A X,yV,yV,Nat.mul_add,Nat.add_mul];omega
def Spl.less (S:Spl d T a b A t1 B t2 D)(ok:d.Ok)(x:sM d T):mu (xQ T b (pl T a))<mu T:=by
 have eT:=S.eT;have m1:t1∈T:=by rw [eT];simp
 have p1:=Yc (List.Nodup.sublist ((List.sublist_flatten_of_mem m1).map Cl.name) (x.lst ok).nd) S.b1;have l1:=p1.length_eq;rw [yJ] at l1;rw [S.eN,eT,Ze,Ze];generalize rm b.name t1=u at l1;have e1:mu (B++(t2++[b])::D)=mu (B++t2::D)+D.length:=by have m1:mu ((t2++[b])::D)=(t2++[b]).length*D.length+mu D:=rfl;have m2:mu (t2::D)=t2.length*D.length+mu D:=rfl;have m3:([b]:EE).length*D.length=D.length:=Nat.one_mul _;rw [Ze,Ze,m1,m2,yV,Nat.add_mul,m3,yJ,yJ];omega
 have e2:mu (t1::(B++t2::D))=t1.length*(B++t2::D).length+mu (B++t2::D):=rfl;have e3:(B++(t2++[b])::D).length=(B++t2::D).length:=by rw [yV,yV,yJ,yJ]
 have e4:D.length<(B++t2::D).length:=by rw [yV,yJ];omega
 have e5:t1.length*(B++t2::D).length=u.length*(B++t2::D).length+(B++t2::D).length:=by rw [<- l1,Nat.add_mul,Nat.one_mul]
 unfold nw;split
 .rename_i hu;have e6:A.flatten.length*(B++(t2++[b])::D).length<=A.flatten.length*(t1::(B++t2::D)).length:=Nat.mul_le_mul_left _ (by rw [e3,yJ];omega);rw [e1,e2,e5];omega
 .have e6:A.flatten.length*(u::(B++(t2++[b])::D)).length=A.flatten.length*(t1::(B++t2::D)).length:=by rw [yJ,yJ,e3]
  have e7:mu (u::(B++(t2++[b])::D))=u.length*(B++(t2++[b])::D).length+mu (B++(t2++[b])::D):=rfl;rw [e6,e7,e3,e1,e2,e5];omega
theorem Pr:∀ T:C6,mu T<=T.flatten.length*(T.length-1)
 |[]=>yP _
 |t::T=>by
  have:=Pr T;have e:(t::T).flatten.length=t.length+T.flatten.length:=by rw [yq,yV]
  show t.length*T.length+mu T<=(t::T).flatten.length*(T.length+1-1);rw [e,Nat.add_sub_cancel,Nat.add_mul];have:T.flatten.length*(T.length-1)<=T.flatten.length*T.length:=Nat.mul_le_mul_left _ (by omega);omega
inductive Led (d:Dr):C6->EX->C6->Prop
 |nil {T:C6}:nxA T d.rows=none->Led d T [] T
 |cons {T T':C6} {p:Cl×Cl} {ms:EX}:nxA T d.rows=some p->Led d (xQ T p.2 (pl T p.1)) ms T'->Led d T ((p.2.name,(pl T p.1:Int))::ms) T'
def De (ok:d.Ok)(x:sM d T){p:Cl×Cl}(h:nxA T d.rows=some p):Xm d T p.2 (pl T p.1)/\sM d (xQ T p.2 (pl T p.1))/\mu (xQ T p.2 (pl T p.1))<mu T:=by have P:=Rl h;obtain ⟨A,t1,B,t2,D,S⟩:=FL ok x P.a1 P.b1 P.lt;have m:=S.ok ok x P;exact ⟨m,x.mov ok m.mem m.lt m.hue,S.less ok x⟩
theorem BX (ok:d.Ok):∀(n:Nat)(T:C6),sM d T->mu T<=n->∃ ms T',Led d T ms T'/\ms.length<=n
 |n,T,x,h=>by
  cases e:nxA T d.rows with
  |none=>exact ⟨[],T,.nil e,yd _⟩
  |some p =>
   obtain ⟨_,x',l⟩:=De ok x e;cases n with
   |zero=>omega
   |succ n=>obtain ⟨ms,T',w,hl⟩:=BX ok n _ x' (by omega);exact ⟨_,T',.cons e w,by rw [yJ];omega⟩
def Ra (ok:d.Ok)(x:sM d T):mu T<=90:=by have h1:=Pr T;have h2:=x.fl ok;have h3:=x.len ok;have:T.flatten.length*(T.length-1)<=10*9:=Nat.mul_le_mul h2 (by omega);omega
abbrev tdB (C:Addr):MS:=y9 (wp 3 (x6 4)) (y9 (p9 2 (z0 jP (q0 (x6 2) (q0 (x6 4) x8)))) (p9 4 (z0 (vn C) (q0 (x6 0) (q0 (x6 2) x8)))))
abbrev tdE (C:Addr)(d:Dr)(T0 T:C6)(ms:EX):ME:=[.sh (d.ob C),.sh (k7 T0),.sh (k7 T),.ow (.lst (ms.map qD)),.sh (mvO T (nxA T d.rows))]
def FU (ok:d.Ok){T0:C6}(w:Led d T ms T'):∀{n:Nat}{done:EX},sM d T->done.length+ms.length<=1000->ms.length<n->je (dT (z5 wM (x9 4) (dC .non))) (tdB C) n (tdE C d T0 T done)=some (.nx (tdE C d T0 T' (done++ms))):=by
 have hlim:lim=1000000:=rfl
 induction w with
 |@nil T e =>
  intro n done x _ hn;cases n with
  |zero=>omega
  |succ n =>
   have c1:dT (z5 wM (x9 4) (dC .non)) (tdE C d T0 T done)=some false:=by refine i8 (y7 rfl rfl ?_);rw [e];rfl
   unfold je;rw [c1,yp];rfl
 |@cons T T' p ms e _ ih =>
  intro n done x hl hn;rw [yJ] at hl hn;obtain ⟨m,x',_⟩:=De ok x e;cases n with
  |zero=>omega
  |succ n =>
   have c1:dT (z5 wM (x9 4) (dC .non)) (tdE C d T0 T done)=some true:=by refine i8 (y7 rfl rfl ?_);rw [e];rfl
   have b1:tdB C (tdE C d T0 T done)=some (.nx (tdE C d T0 (xQ T p.2 (pl T p.1)) (done++[(p.2.name,(pl T p.1:Int))]))):=by
    have em:mvO T (nxA T d.rows)=qD (p.2.name,(pl T p.1:Int)):=by rw [e];rfl
    unfold tdE;rw [em,yE];exact u7 (Br rfl rfl (by rw [yZ];omega)) (u7 (o7 (z6 (v6 rfl (v6 rfl rfl)) (DH ok x m.lt))) (o7 (z6 (v6 rfl (v6 rfl rfl)) (UM ok x'))))
   have:=ih (n:=n) (done:=done++[(p.2.name,(pl T p.1:Int))]) x' (by rw [yV];simp;omega) (by omega);unfold je;rw [c1,yD,rB rfl,b1,yD];show je _ _ n _=_;rw [this,uW];rfl
def Af (ok:d.Ok)(x:sM d T)(w:Led d T ms T')(hl:ms.length<=90):QL C [d.ob C,k7 T]=some (.lst (ms.map qD)):=by have e:=FU (C:=C) ok (T0:=T) w (n:=101) (done:=[]) x (by simp;omega) (by omega);exact zE rfl (u7 (zt (z6 rfl (Xg ok x))) (u7 (o7 rfl) (u7 (XG rfl) (u7 (o7 (z6 rfl (UM ok x))) (u7 e rfl)))))
end
def sC (x:PV):Prop:=(∃ s,x = .at (.str s))∨(∃ i,x = .at (.int i))∨x = .at .non∨(∃ b,x = .at (.bl b))∨(∃ zs,x = .lst zs/\∀ z∈zs,jR 3 z)∨(∃ zs,x = .tup zs/\∀ z∈zs,jR 3 z)
def sC.plain {x:PV}(h:sC x):jR 4 x:=by
 rcases h with ⟨s,rfl⟩|⟨i,rfl⟩|rfl|⟨b,rfl⟩|⟨zs,rfl,h⟩|⟨zs,rfl,h⟩
 .rfl
 .rfl
 .rfl
 .rfl
 .exact h
 .exact h
def itK (ks:C7):PV->Bool
 | .at (.str s)=>decide (s∈ks)
 |_=>false
def NI (ks:C7)(h:∀ s,ql (.str s) u=false):inV u (ks.map V.str)=false:=by unfold inV;rw [List.any_eq_false];intro x hx;obtain ⟨s,_,rfl⟩:=yB.mp hx;rw [h s];exact yQ
def We (ks:C7)(f:p5 u=true)(h:∀ s,ql (.str s) u=false):pIn false (.at u) (.lst (y6 ks))=some (.at (.bl false)):=by show (ats (y6 ks)).bind _=_;rw [Xv,yD,rB ⟨f,Jt ks⟩,NI ks h];rfl
def NJ {x:PV}(h:sC x)(ks:C7):Zk x (.lst (y6 ks))=some (.at (.bl (itK ks x))):=by
 rcases h with ⟨s,rfl⟩|⟨i,rfl⟩|rfl|⟨b,rfl⟩|⟨zs,rfl,h⟩|⟨zs,rfl,h⟩
 .exact Wf false s ks
 .exact We ks rfl λ_=>rfl
 .exact We ks rfl λ_=>rfl
 .exact We ks rfl λ_=>rfl
 .show (ats (y6 ks)).bind _=_;rw [Xv,yD,rB (Jt ks)];rfl
 .show (ats (y6 ks)).bind _=_;rw [Xv,yD,rB (Jt ks)];rfl
theorem CU {ss:C7}:∀ i,i<=ss.length->∀ s∈ss.take i,(Sum.inr s:j5)∈h8 (λi=>(Sum.inr (ss.getD i ⟨#[]⟩):j5)) i
 |0,_,s,h=>by simp at h
 |i+1,hi,s,h=>by
  have hl:i<ss.length:=by omega
  have eg:ss.getD i ⟨#[]⟩=ss[i]:=qo hl;rw [oQ,yS hl] at h;unfold h8;rcases yF.mp h with h|h
  .have ih:=CU i (by omega) s h;split
   .exact ih
   .exact yo _ ih
  .have e:s=ss[i]:=by simpa using h
   subst e;rw [eg];split
   .rename_i hm;exact hm
   .exact yw _ (yU.mpr rfl)
theorem CT {ss:C7}:∀ i,i<=ss.length->(h8 (λi=>(Sum.inr (ss.getD i ⟨#[]⟩):j5)) i).length=i->(ss.take i).Nodup
 |0,_,_=>by simp
 |i+1,hi,h=>by
  have hl:i<ss.length:=by omega
  have eg:ss.getD i ⟨#[]⟩=ss[i]:=qo hl;have le:=Uu (λi=>(Sum.inr (ss.getD i ⟨#[]⟩):j5)) i;unfold h8 at h;rw [eg] at h;split at h
  .omega
  .rename_i hn;rw [yV,uC] at h;have h':(h8 (λi=>(Sum.inr (ss.getD i ⟨#[]⟩):j5)) i).length=i:=by omega
   have ih:=CT i (by omega) h';rw [oQ,yS hl];refine uL.mpr ⟨ih,by simp,λa ha b hb e=>?_⟩;have e2:b=ss[i]:=by simpa using hb
   subst e2;subst e;exact hn (CU i (by omega) _ ha)
def HP (h:¬ ss.Nodup):Zd ss≠ss.length:=λe=>h (by
 have:=CT (ss:=ss) ss.length (yP _) e;rwa [tP] at this)
structure BadL (d:Dr)(l:C5):Prop where
 len:l.length<=1000
 th:∀ x∈l,sC x
 bad:(∃ x∈l,itK d.names x=false)∨∃ ss:C7,l=y6 ss/\¬ ss.Nodup
def NS {a b:C7}(p:a.Perm b)(x:PV):itK a x=itK b x:=by
 unfold itK;split
 .exact decide_eq_decide.mpr p.mem_iff
 .rfl
section
variable{l:C5}
def Ox (ok:d.Ok)(B:BadL d l):QH C [d.ob C,.lst l]=some (.at (.bl false)):=by
 have hlim:lim=1000000:=rfl;have hl:=B.len;have cm:∀ s2:sN,z0 zf (q0 (c6 [none,some 2] [0] (b8 (x6 1)) (w6 0) c7 (z5 Zk (x9 0) (x9 1))) x8) [.sh (d.ob C),.sh (.lst l),.sh (.lst (y6 (zY d.names)))]=some (.at (.bl (l.all (itK d.names)))):=λ_=>by
  refine z6 (v6 (o9 (λx:PV=>x) (λx=>PV.at (.bl (itK d.names x))) l (by show some l=_;rw [List.map_id']) rfl (by omega) λx hx=>⟨_,rfl,y7 rfl rfl ((NJ (B.th x hx) _).trans (by rw [NS (ZC d.names)]))⟩) rfl) ?_;rw [show (l.map λx=>PV.at (.bl (itK d.names x)))=(l.map (itK d.names)).map λb=>PV.at (.bl b) by rw [yv];rfl,Xt,List.all_map];rfl
 by_cases ha:l.all (itK d.names)=true
 .have cm':=cm .no;rw [ha] at cm';refine n9 rfl (u7 (qB (qP (qQ (z6 rfl XM))) xC) (u7 (o7 (zF rfl (by decide) rfl (ZK ok))) (c8 (zr cm' ?_))));rcases B.bad with ⟨x,hx,z⟩|⟨ss,rfl,nd⟩
  .rw [uY] at ha;rw [ha x hx] at z;cases z
  .have e1:VN (x9 1) [.sh (d.ob C),.sh (.lst (y6 ss)),.sh (.lst (y6 (zY d.names)))]=some (.at (.int (Zd ss:Int))):=by show (vy (y6 ss)).bind _=_;rw [Dg,yD,rB (by rw [xx] at hl;omega)]
   refine y7 e1 (z6 rfl rfl) ((jf _ _).trans ?_);rw [yA];rw [xx];intro z;exact HP nd (by omega)
 .have cm':=cm .no;rw [Bool.eq_false_iff.mpr ha] at cm';exact n9 rfl (u7 (qB (qP (qQ (z6 rfl XM))) xC) (u7 (o7 (zF rfl (by decide) rfl (ZK ok))) (c8 (Bq cm'))))
def DK (ok:d.Ok)(B:BadL d l):jm C [d.ob C,.lst l]=some (.at (.bl false)):=n9 rfl (c8 (Bq (z6 rfl (Ox ok B))))
def OX (ok:d.Ok)(L:Lst d ns)(h:ns.length≠d.cls.length):jm C [d.ob C,v9 ns]=some (.at (.bl false)):=by
 refine n9 rfl (c8 (zr (z6 rfl (DD ok L)) (y7 (z6 rfl rfl) (z6 (v6 (zF rfl (by decide) rfl (ZK ok)) rfl) rfl) ((jf _ _).trans ?_))));have e:(zY d.names).length=d.cls.length:=by rw [(ZC d.names).length_eq];unfold Dr.names;rw [yZ]
 rw [xx,xx,yZ,e,yA λz=>h (by omega)]
end
def b7 (L:EF):PV:= .lst (L.map PV.lst)
def Odd (d:Dr)(L:EF):Prop:=[]∈L∨((∀ l∈L,l≠[])/\((∃ x∈L.flatten,itK d.names x=false)∨(∃ ss:C7,L.flatten=y6 ss/\¬ ss.Nodup)∨(∃ ns,Lst d ns/\L.flatten=y6 (ns.map Cl.name)/\ns.length≠d.cls.length)∨∃ T:C6,L=(T.map λt=>y6 (t.map Cl.name))/\T.flatten.Perm d.cls/\(∀ t∈T,t≠[])/\∃ t∈T,∃ c∈t,c.hue≠c5 t))
structure sG (d:Dr)(L:EF):Prop where
 len:L.flatten.length<=1000
 many:L.length<=100
 th:∀ l∈L,∀ x∈l,sC x
 odd:Odd d L
section
variable{T:C6}
def OI (hl:L.length<=100):vk [b7 L]=some (.at (.bl (L.all λl=>!l.isEmpty))):=by
 have hlim:lim=1000000:=rfl;refine n9 rfl (c8 (zr (z6 rfl (JC _)) (z6 (v6 (o9 PV.lst (λl=>PV.at (.bl (!l.isEmpty))) L rfl rfl (by omega) λl _=>⟨_,rfl,zr (z6 rfl (JC _)) (y7 (x:= .at (.int (l.length:Int))) (z6 rfl rfl) rfl ?_)⟩) rfl) ?_)))
 .show some (PV.at (.bl (decide ((0:Int)<(l.length:Int)))))=_;cases l with
  |nil=>rfl
  |cons a l=>rw [yt (by rw [yJ];omega)];rfl
 .rw [show (L.map λl=>PV.at (.bl (!l.isEmpty)))=(L.map λl=>!l.isEmpty).map λb=>PV.at (.bl b) by rw [yv];rfl,Xt,List.all_map];rfl
theorem Pi:∀ L:EF,zb (L.map PV.lst)=some L
 |[]=>rfl
 |l::L=>by
  show (zb (L.map PV.lst)).map (l::·)=_;rw [Pi L];rfl
def OW (ok:d.Ok)(h:∀ c∈t,c∈d.cls)(hl:t.length<=10)(ne:t≠[]):vR C [d.ob C,v9 t]=some (.at (.bl (t.all λc=>decide (c.hue=c5 t)))):=by
 have hlim:lim=1000000:=rfl;refine n9 rfl (c8 (z6 (v6 (o9 Cl.pv (λc=>PV.at (.bl (decide (c.hue=c5 t)))) t (jI (z6 rfl (Vo ok h hl))) rfl (by omega) λc hc=>⟨_,rfl,y7 (x:= .at (.int c.hue)) (z6 rfl rfl) (z6 rfl (ZL ok h ne)) ?_⟩) rfl) ?_))
 .rw [jf]
  congr 3
  exact decide_eq_decide.mpr ⟨λz=>by omega,λz=>by omega⟩
 .rw [show (t.map λc=>PV.at (.bl (decide (c.hue=c5 t))))=(t.map λc=>decide (c.hue=c5 t)).map λb=>PV.at (.bl b) by rw [yv];rfl,Xt,List.all_map];rfl
abbrev ck1 (C:Addr):MB:=dOr (n8 (r9 (z0 vk (q0 (x6 1) x8)))) (n8 (r9 (z0 (jm C) (q0 (x6 0) (q0 (vJ (x9 1)) x8)))))
abbrev ck2 (C:Addr):MB:=n8 (r9 (z0 zf (q0 (c6 [none,some 0] [0] (b8 (x6 1)) (w6 0) c7 (z0 (vR C) (q0 (x6 1) (q0 (x6 0) x8)))) x8)))
def PJ (ok:d.Ok)(O:sG d L):ck1 C [.sh (d.ob C),.sh (b7 L)]=some true∨(ck1 C [.sh (d.ob C),.sh (b7 L)]=some false/\ck2 C [.sh (d.ob C),.sh (b7 L)]=some true):=by
 have hlim:lim=1000000:=rfl;have ln:=O.len;have ten:=ok.ten;have vf:=OI O.many;have es:vJ (x9 1) [.sh (d.ob C),.sh (b7 L)]=some (.lst L.flatten):=Bx rfl (Pi L) (by omega);rcases O.odd with h|⟨hf,h⟩
 .refine .inl (VO (Jg (qQ (z6 rfl (vf.trans ?_)))));rw [List.all_eq_false.mpr ⟨[],h,by decide⟩]
 have fl:vk [b7 L]=some (.at (.bl true)):=vf.trans (by
  rw [uY.mpr λl hl=>?_];cases l with
  |nil=>exact rp rfl (hf _ hl)
  |cons _ _=>rfl)
 have bad:jm C [d.ob C,.lst L.flatten]=some (.at (.bl false))->ck1 C [.sh (d.ob C),.sh (b7 L)]=some true:=λz =>
  Jh (qP (qQ (z6 rfl fl))) (Jg (qQ (z6 (v6 rfl (v6 es rfl)) z)))
 have th:∀ x∈L.flatten,sC x:=λx hx=>by
  obtain ⟨l,hl,hx⟩:=uM.mp hx;exact O.th l hl x hx
 rcases h with h|h|⟨ns,hn,e,hl⟩|⟨T,rfl,pm,ne,t,ht,c,hc,hh⟩
 .exact .inl (bad (DK ok ⟨ln,th,.inl h⟩))
 .exact .inl (bad (DK ok ⟨ln,th,.inr h⟩))
 .exact .inl (bad (by rw [e];exact OX ok hn hl))
 .have sb:∀ u∈T,∀ c∈u,c∈d.cls:=λu hu c hc=>pm.mem_iff.mp (uM.mpr ⟨u,hu,hc⟩);have ul:∀ u∈T,u.length<=10:=λu hu=>yj (Jr hu) (by rw [pm.length_eq];exact ten);have tl:T.length<=10:=yj (Js ne) (by rw [pm.length_eq];exact ten);have Ln:Lst d T.flatten:=⟨λc h=>pm.mem_iff.mp h,(pm.map Cl.name).nodup_iff.mpr ok.nd⟩;rw [Qx] at es;have eP:b7 (T.map λt=>y6 (t.map Cl.name))=k7 T:=by unfold b7 k7;rw [yv];rfl
  rw [eP] at es fl ⊢;refine .inr ⟨jF (qP (qQ (z6 rfl fl))) (qP (qQ (z6 (v6 rfl (v6 es rfl)) (DJ ok Ln pm)))),Jg (qQ (z6 (v6 (o9 v9 (λu=>PV.at (.bl (u.all λc=>decide (c.hue=c5 u)))) T rfl rfl (by omega) λu hu=>⟨_,rfl,z6 rfl (OW ok (sb u hu) (ul u hu) (ne u hu))⟩) rfl) ?_))⟩;rw [show (T.map λu=>PV.at (.bl (u.all λc=>decide (c.hue=c5 u))))=(T.map λu=>u.all λc=>decide (c.hue=c5 u)).map λb=>PV.at (.bl b) by rw [yv];rfl,Xt,List.all_map];rw [List.all_eq_false.mpr ⟨t,ht,?_⟩];show ¬ (t.all λc=>decide (c.hue=c5 t))=true;rw [uY];intro z;exact hh (uS (z c hc))
def Lu (ok:d.Ok)(O:sG d L):xM C [d.ob C,b7 L]=none:=by
 have e:ZY C [.sh (d.ob C),.sh (b7 L)]=none:=by
  rcases PJ (C:=C) ok O with h|⟨h1,h2⟩
  .have:m4 (ck1 C) qz i6 [.sh (d.ob C),.sh (b7 L)]=none:=vM h rfl;show Option.bind (m4 (ck1 C) qz i6 [.sh (d.ob C),.sh (b7 L)]) _=_;rw [this];rfl
  .exact u7 (qB h1 rfl) (vM h2 rfl)
 show Option.bind (ZY C [.sh (d.ob C),.sh (b7 L)]) _=_;rw [e];rfl
def Vr (ok:d.Ok)(O:sG d L):jA CP C [d.ob C,b7 L] CP none:=by
 rcases PJ (C:=C) ok O with h|⟨h1,h2⟩
 .exact ⟨rfl,.inl ⟨true,h,rfl,rfl⟩⟩
 .exact ⟨rfl,.inr ⟨_,qB h1 rfl,true,h2,rfl,rfl⟩⟩
def UY (ok:d.Ok)(O:sG d L):vA CP C [d.ob C,b7 L] CP none:=⟨rfl,.inl ⟨_,rfl,Vr ok O⟩⟩
def Ao (ok:d.Ok)(O:sG d L):ZN CP C [d.ob C,b7 L] CP none:=⟨rfl,.inl ⟨_,rfl,UY ok O⟩⟩
def Ap (ok:d.Ok)(O:sG d L):ZO CP C [d.ob C,b7 L] CP none:=⟨rfl,.inl ⟨_,rfl,UY ok O⟩⟩
def Ar (ok:d.Ok)(O:sG d L):ZM CP C [d.ob C,b7 L] CP none:=⟨rfl,.inl ⟨_,rfl,Vr ok O⟩⟩
def Me (ok:d.Ok)(O:sG d L){x:PV}:Qc CM CP C [d.ob C,b7 L,x] CP none:=⟨rfl,.inl ⟨_,rfl,Vr ok O⟩⟩
def An (ok:d.Ok)(O:sG d L):ZP CP C [d.ob C,b7 L] CP none:=⟨rfl,.inl ⟨_,rfl,Vr ok O⟩⟩
end
def sgP (a b c e:Bool):PV:= .lst [.at (.bl a),.at (.bl b),.at (.bl c),.at (.bl e)]
open Classical in
noncomputable def zR (C:Addr):C5->EA:=λxs=>match xs with
 |[w,t,.at (.int j)]=>if (xM C [w,t]).isSome=true then (if ∃(d:Dr)(T:C6),d.Ok/\sM d T/\w=d.ob C/\t=k7 T then some (if j=5 then sgP false true true false else .lst []) else none) else (if ∃(d:Dr)(L:EF),d.Ok/\sG d L/\w=d.ob C/\t=b7 L then some (sgP true true false false) else none)
 |_=>none
section
variable{CR:Addr}{T:C6}{a b:MS}{c:Addr}{y:XV}
def Qy (hj:x9 2 ε=some (.at (.int j)))(h1:j=n->a ε=o)(h2:j≠n->b ε=o):m4 (dT (z5 i5 (x9 2) (dC (.int n)))) a b ε=o:=by
 have e:dT (z5 i5 (x9 2) (dC (.int n))) ε=some (decide (j=n)):=i8 (y7 hj rfl (jf _ _));by_cases h:j=n
 .rw [yt h] at e;exact vM e (h1 h)
 .rw [yA h] at e;exact qB e (h2 h)
def Qd (hj:x9 2 ε=some (.at (.int j)))(h1:xa ε c y)(h2:j≠n->xb ε c y):yIf (dT (z5 i5 (x9 2) (dC (.int n)))) xa xb ε c y:=by
 have e:dT (z5 i5 (x9 2) (dC (.int n))) ε=some (decide (j=n)):=i8 (y7 hj rfl (jf _ _));refine ⟨_,e,?_⟩;by_cases h:j=n
 .rw [rB (yt h)];exact h1
 .rw [rq (by rw [yA h];exact yQ)];exact h2 h
def ZR (hj:x9 2 ε=some (.at (.int j)))(h:j≠n)(h2:xb ε c y):yIf (dT (z5 i5 (x9 2) (dC (.int n)))) xa xb ε c y:=by have e:dT (z5 i5 (x9 2) (dC (.int n))) ε=some (decide (j=n)):=i8 (y7 hj rfl (jf _ _));refine ⟨_,e,?_⟩;rw [rq (by rw [yA h];exact yQ)];exact h2
def DB (ok:d.Ok)(x:sM d T)(h:x6 1 ε=some (k7 T)):c6 [none] [0] (b8 (x6 1)) (w6 0) c7 (z0 vT (q0 (x9 0) x8)) ε=some (k7 T):=by have hlim:lim=1000000:=rfl;have tl:=x.len ok;exact o9 v9 v9 T (jI h) rfl (by omega) λt _=>⟨_,rfl,z6 rfl rfl⟩
def Ah (ok:d.Ok)(x:sM d T):QK C [d.ob C,k7 T,.lst []]=some (k7 T) :=
 n9 rfl (u7 (zt (z6 rfl (Xg ok x))) (u7 (o7 (DB ok x rfl)) (u7 (jH (xs:=qW 0 []) rfl rfl) rfl)))
def Aq (ok:d.Ok)(x:sM d T):Qc CM CP C [d.ob C,k7 T,.lst [qD ("q",-1)]] CM (some (("at":Str),V.int 0)):=by have:=Oh (C:=C) (CM:=CM) ok (x1:=k7 T) (x2:= .lst [qD ("q",-1)]) (rest:=[]) (ms:=[]) (b:=("q",-1)) .nil (Rb (by show ¬ ((0:Int)<=-1/\_);omega)) (k:=0) (u:= .no) (v:= .no) x;exact ⟨rfl,.inr ⟨_,zt (z6 rfl (Xg ok x)),.inr ⟨_,o7 (DB ok x rfl),.inl ⟨qW 0 [qD ("q",-1)],rfl,this⟩⟩⟩⟩
def v_ord (ok:d.Ok)(x:sM d T):∃ z,XS C [d.ob C,k7 T]=some z:=by refine ⟨.at (.bl (nxA T d.rows).isNone),n9 rfl (u7 (zt (z6 rfl (Xg ok x))) (c8 (y7 (z6 rfl (UM ok x)) rfl ?_)))⟩;cases nxA T d.rows<;>rfl
def OF (ok:d.Ok)(x:sM d T):∃ z,QL C [d.ob C,k7 T]=some z:=by obtain ⟨ms,T',w,hl⟩:=BX ok 90 T x (Ra ok x);exact ⟨_,Af ok x w hl⟩
def OJ (ok:d.Ok)(O:sG d L):zR C [d.ob C,b7 L,.at (.int j)]=some (sgP true true false false):=by unfold zR;show (if _ then _ else _)=_;rw [Lu ok O,rq (by exact yQ),rB ⟨d,L,ok,O,rfl,rfl⟩]
def DF (ok:d.Ok)(x:sM d T):zR C [d.ob C,k7 T,.at (.int j)]=some (if j=5 then sgP false true true false else .lst []):=by unfold zR;show (if _ then _ else _)=_;rw [Xg ok x,rB (by rfl),rB ⟨d,T,ok,x,rfl,rfl⟩]
def suite {b1 b2 b3 b4:Bool}{ea:Addr}{dx:EG}{x0 x1 x2 x3:sN}(h1:PySem.W.kitOne K (.ref c) (.ref CP)=some b1)(h2:PySem.W.kitOne K (.ref c) (.type "ValueError")=some b2)(h3:PySem.W.kitOne K (.ref c) (.ref CM)=some b3)(h4:PySem.W.kitOne K (.ref c) (.ref CN)=some b4):(y9 (p9 3 (p6 (q0 (z0 (jp K ea c) (q0 (zB ea y dx 4) (q0 (dC (.ref CP)) x8))) (q0 (z0 (jp K ea c) (q0 (zB ea y dx 4) (q0 (dC (.ty "ValueError")) x8))) x8)))) (p9 3 (z5 b9 (x9 3) (p6 (q0 (z0 (jp K ea c) (q0 (zB ea y dx 4) (q0 (dC (.ref CM)) x8))) (q0 (z0 (jp K ea c) (q0 (zB ea y dx 4) (q0 (dC (.ref CN)) x8))) x8)))))) [x0,x1,x2,x3,.sh (.op (exV ea y dx))]=some (.nx [x0,x1,x2,.sh (sgP b1 b2 b3 b4),.sh (.op (exV ea y dx))]):=by
 have dE:∀ p:sN,zB ea y dx 4 [x0,x1,x2,p,.sh (.op (exV ea y dx))]=some (.at (.ref ea)):=λp=>by
  unfold zB;exact rB rfl
 have is1:∀{d:V}{dv:G1}{t:Bool},qr d=some dv->PySem.W.kitOne K (.ref c) dv=some t->∀ p:sN,z0 (jp K ea c) (q0 (zB ea y dx 4) (q0 (dC d) x8)) [x0,x1,x2,p,.sh (.op (exV ea y dx))]=some (.at (.bl t)):=λ{d dv t} h1 h2 p=>by
  refine z6 (v6 (dE p) (v6 rfl rfl)) ?_;show (if ea=ea then (qr d).bind λd=>(PySem.W.kitOne K (.ref c) d).bind λb=>some (PV.at (.bl b)) else none)=_;rw [rB rfl,h1,yD,h2];rfl
 refine u7 (o7 (x:= .lst [.at (.bl b1),.at (.bl b2)]) (xP (v6 (is1 rfl h1 _) (v6 (is1 rfl h2 _) rfl)) l2)) (o7 (x:=sgP b1 b2 b3 b4) (y7 rfl (xP (v6 (is1 rfl h3 _) (v6 (is1 rfl h4 _) rfl)) l2) ((JW (by exact (by decide:4<=lim))).trans rfl)))
def Np (v1:PySem.W.exmOne K (.ref Aw) (.ref A3)=some true)(v2:PySem.W.kitOne K (.ref Aw) (.ref Aw)=some true)(v3:PySem.W.kitOne K (.ref Aw) (.type "ValueError")=some true)(v4:PySem.W.kitOne K (.ref Aw) (.ref Ax)=some false)(v5:PySem.W.kitOne K (.ref Aw) (.ref A7)=some false)(w1:PySem.W.exmOne K (.ref Ax) (.ref A3)=some true)(w2:PySem.W.kitOne K (.ref Ax) (.ref Aw)=some false)(w3:PySem.W.kitOne K (.ref Ax) (.type "ValueError")=some true)(w4:PySem.W.kitOne K (.ref Ax) (.ref Ax)=some true)(w5:PySem.W.kitOne K (.ref Ax) (.ref A7)=some false):∀ xs z,zR Av xs=some z->rFn 5 3 (Cy K Ax A7 Aw A3 Av) xs z:=by
 intro xs z h;unfold zR at h;split at h
 .rename_i w t j;split at h
  .split at h
   .rename_i hx;obtain ⟨d,T,ok,x,rfl,rfl⟩:=hx;have e0:p9 3 (p6 x8) [.sh (d.ob Av),.sh (k7 T),.sh (.at (.int j)),.no,.no]=some (.nx [.sh (d.ob Av),.sh (k7 T),.sh (.at (.int j)),.sh (.lst []),.no]):=o7 (xP rfl l0);by_cases h5:j=5
    .rw [rB h5] at h;cases h;refine ⟨rfl,.rt (sgP false true true false),.inl ⟨_,e0,.inl ⟨[.sh (d.ob Av),.sh (k7 T),.sh (.at (.int j)),.sh (sgP false true true false),.no],.inr ⟨Ax,some ("at",.int 0),by simp,w1,?_,λea dx _=>⟨_,suite w2 w3 w4 w5,rfl⟩⟩,rfl⟩⟩,rfl⟩;subst h5;exact ZR rfl (by decide) (ZR rfl (by decide) (ZR rfl (by decide) (ZR rfl (by decide) (ZR rfl (by decide) (Qd rfl ⟨_,v6 rfl (v6 rfl (v6 (xP (v6 (jJ (v6 rfl (v6 rfl rfl)) l2) rfl) l1) rfl)),Aq ok x⟩ λz=>rp rfl z)))))
    .rw [rq h5] at h;cases h;obtain ⟨z1,e1⟩:=v_ord (C:=Av) ok x;obtain ⟨z2,e2⟩:=OF (C:=Av) ok x;refine ⟨rfl,.rt (.lst []),.inl ⟨_,e0,.inl ⟨[.sh (d.ob Av),.sh (k7 T),.sh (.at (.int j)),.sh (.lst []),.no],.inl ?_,rfl⟩⟩,rfl⟩;exact Qy rfl (λ_=>zt (z6 rfl (UN ok x))) λ_=>Qy rfl (λ_=>zt (z6 rfl (v_end ok x))) λ_=>Qy rfl (λ_=>zt (z6 rfl (OQ ok x))) λ_=>Qy rfl (λ_=>zt (z6 rfl e1)) λ_=>Qy rfl (λ_=>zt (z6 (v6 rfl (v6 rfl (v6 (xP rfl l0) rfl))) (Ah ok x))) λ_=>Qy rfl (λz=>rp z h5) λ_=>zt (z6 rfl e2)
   .cases h
  .split at h
   .rename_i hx;obtain ⟨d,L,ok,O,rfl,rfl⟩:=hx;cases h;have e0:p9 3 (p6 x8) [.sh (d.ob Av),.sh (b7 L),.sh (.at (.int j)),.no,.no]=some (.nx [.sh (d.ob Av),.sh (b7 L),.sh (.at (.int j)),.sh (.lst []),.no]):=o7 (xP rfl l0);refine ⟨rfl,.rt (sgP true true false false),.inl ⟨_,e0,.inl ⟨[.sh (d.ob Av),.sh (b7 L),.sh (.at (.int j)),.sh (sgP true true false false),.no],.inr ⟨Aw,none,by simp,v1,?_,λea dx _=>⟨_,suite v2 v3 v4 v5,rfl⟩⟩,rfl⟩⟩,rfl⟩;exact Qd rfl ⟨_,rfl,UY ok O⟩ λ_=>Qd rfl ⟨_,rfl,Ao ok O⟩ λ_=>Qd rfl ⟨_,rfl,Ap ok O⟩ λ_=>Qd rfl ⟨_,rfl,Ar ok O⟩ λ_=>Qd rfl ⟨_,v6 rfl (v6 rfl (v6 (xP rfl l0) rfl)),Me ok O⟩ λ_=>Qd rfl ⟨_,v6 rfl (v6 rfl (v6 (xP (v6 (jJ (v6 rfl (v6 rfl rfl)) l2) rfl) l1) rfl)),Me ok O⟩ λ_=>⟨_,rfl,An ok O⟩
   .cases h
 .cases h
end
def RP (F:Fun K "_law_heard" "_law_heard" YA f fd)(En:Fy P w K mg tM 10 "in_tray_order" ["works","trays"] (qZ (XS Av) (ZM Aw Av)))(N8:Fy P w K mg tM 6 "tray_end" ["works","trays"] (qZ (Za Av) (ZN Aw Av)))(Es:Fy P w K mg tM 6 "tray_lateness" ["works","trays"] (qZ (Zb Av) (ZO Aw Av)))(B0:Fy P w K mg tM 5 "tray_rows" ["works","trays"] (ju (jo Av) (vA Aw Av)))(El:Fy P w K mg tM 5 "tray_walked" ["works","trays","moves"] (qZ (QK Av) (Qc Ax Aw Av)))(Ep:Fy P w K mg tM 10 "trays_to_dues" ["works","trays"] (ju (QL Av) (ZP Aw Av)))(J4:mg "ValueError"=none)(Ay:mg "isinstance"=none)(Q4:mg "NoMove"=some (.ref Ax))(R1:mg "NoName"=some (.ref A7))(E2:mg "NoPlan"=some (.ref Aw))(N0:mg "RinseError"=some (.ref A3))(J3:zx K Ax)(J1:zx K Aw)(D2:PySem.W.exmOne K (.ref Aw) (.ref A3)=some true)(Ee:PySem.W.kitOne K (.ref Aw) (.ref Aw)=some true)(E9:PySem.W.kitOne K (.ref Aw) (.type "ValueError")=some true)(Eb:PySem.W.kitOne K (.ref Aw) (.ref Ax)=some false)(Ei:PySem.W.kitOne K (.ref Aw) (.ref A7)=some false)(D3:PySem.W.exmOne K (.ref Ax) (.ref A3)=some true)(Ec:PySem.W.kitOne K (.ref Ax) (.ref Aw)=some false)(E7:PySem.W.kitOne K (.ref Ax) (.type "ValueError")=some true)(Ej:PySem.W.kitOne K (.ref Ax) (.ref Ax)=some true)(Ed:PySem.W.kitOne K (.ref Ax) (.ref A7)=some false):sQ P w K mg tM v8 11 f fd ["works","trays","way"] (v7 (zR Av)) :=
 okT (k:=10) (r:=Cy K Ax A7 Aw A3 Av) F se (Np D2 Ee E9 Eb Ei D3 Ec E7 Ej Ed) λtH A tL s H E hr=>⟨_,(j6 (sW 3 se.nd (@m8 _ _ _ _ w9))
  (j6 (SO (K:=K) (cs:=[Aw,Ax]) (i:=4) rfl rfl rfl rfl rfl N0 se.nd rfl rfl rfl (λE _ _ _ hp=>(zJ (QZ (qc (xG K (qC hr) rfl) (pv 2) z7 (m7 _)) (zJ (wT (wR B0 hr (by decide) hp rfl (aC (pv 0) (aW (pv 1)))))) (zJ (QZ (qc (xG K (qC hr) rfl) (pv 2) z7 (m7 _)) (zJ (wT (wR N8 hr (by decide) hp rfl (aC (pv 0) (aW (pv 1)))))) (zJ (QZ (qc (xG K (qC hr) rfl) (pv 2) z7 (m7 _)) (zJ (wT (wR Es hr (by decide) hp rfl (aC (pv 0) (aW (pv 1)))))) (zJ (QZ (qc (xG K (qC hr) rfl) (pv 2) z7 (m7 _)) (zJ (wT (wR En hr (by decide) hp rfl (aC (pv 0) (aW (pv 1)))))) (zJ (QZ (qc (xG K (qC hr) rfl) (pv 2) z7 (m7 _)) (zJ (wT (wR El hr (by decide) hp rfl (aC (pv 0) (aC (pv 1) (aW (@m8 _ _ _ _ w9))))))) (zJ (QZ (qc (xG K (qC hr) rfl) (pv 2) z7 (m7 _)) (zJ (wT (wR El hr (by decide) hp rfl (aC (pv 0) (aC (pv 1) (aW (@m8 _ _ _ _ (aW (@zI _ _ _ _ _ (aC qY (aW (Va Vn z7)))))))))))) (zJ (wT (wR Ep hr (by decide) hp rfl (aC (pv 0) (aW (pv 1)))))))))))))))))))
   (λpn ea oe vs c dx hc hf hd hE hm=>(j6 (sW 3 se.nd (@m8 _ _ _ _ (aC (p7 (Ja K rfl hm hc ((vN J1 (vN J3 Jq)) c hE)) rfl Ay zp (aC (pv 4) (aW (wO (v:= .ref Aw) rfl E2 rfl)))) (aW (p7 (Ja K rfl hm hc ((vN J1 (vN J3 Jq)) c hE)) rfl Ay zp (aC (pv 4) (aW (jq (v:= .ty "ValueError") rfl J4 MJ rfl))))))))
  (j9 (sW 3 se.nd (u4 (t0 K) (pv 3) (@m8 _ _ _ _ (aC (p7 (Ja K rfl hm hc ((vN J1 (vN J3 Jq)) c hE)) rfl Ay zp (aC (pv 4) (aW (wO (v:= .ref Ax) rfl Q4 rfl)))) (aW (p7 (Ja K rfl hm hc ((vN J1 (vN J3 Jq)) c hE)) rfl Ay zp (aC (pv 4) (aW (wO (v:= .ref A7) rfl R1 rfl)))))))))))))
  (j9 (u6 (pv 3))))),
  rA⟩
def Zs:C5->Prop:=λxs=>∃(d:Dr)(T:C6),xs=[d.pv,k7 T]/\d.Ok/\sM d T
def Xp:C5->PV->Prop:=λxs y=>∃(d:Dr)(T:C6)(Ls:List EF),xs=[d.pv,k7 T]/\y = .lst (Ls.map b7)/\d.Ok/\sM d T/\∀ L∈Ls,sG d L
abbrev YY:Stmt:=top 77
abbrev GY (K:Fg):WS:=(sH (Vq 3 (p6 (q0 (z5 b9 (p6 (q0 (p6 x8) x8)) (x9 2)) x8)))
  (sH (wFor (wIp (b8 (p6 (q0 (p6 x8) (q0 (p6 (q0 (dC (.str "qx")) x8)) (q0 (p6 (q0 (dC (.int 7)) x8)) (q0 (p6 (q0 (dC .non) (q0 (dC (.str "qx")) x8))) (q0 (p6 (q0 (p6 (q0 (dC (.str "q")) x8)) x8)) (q0 (p6 (q0 (xu (q0 (dC (.str "q")) x8)) x8)) (q0 (p6 (q0 (dC (.bl true)) x8)) x8)))))))))) (w6 4) (zM 3 (wP (z5 b9 (x9 2) (p6 (q0 (x6 4) x8))))))
  (sH (zO (wPT (dT (z5 pGt (z0 xn (q0 (x9 2) x8)) (dC (.int 0))))) (sH (qw 5 (xg 0 (wP (z0 xn (q0 (x9 2) x8)))))
  (sH (qw 4 (wP (z5 k6 (x9 2) (x9 5))))
  (sH (zM 3 (wP (z5 b9 (qA (x9 2) qX (qp (x6 5))) (qA (x9 2) (qp (z5 b9 (x9 5) (dC (.int 1)))) qX))))
  (sH (zM 3 (wP (z5 b9 (x9 2) (p6 (q0 (qA (x9 4) qX (qp (dC (.int 1)))) x8)))))
  (sH (zM 3 (wP (z5 b9 (z5 b9 (qA (x9 2) qX (qp (x6 5))) (p6 (q0 (z5 b9 (x9 4) (qA (x9 4) qX (qp (dC (.int 1))))) x8))) (qA (x9 2) (qp (z5 b9 (x9 5) (dC (.int 1)))) qX))))
  (sH (zM 3 (wP (z5 b9 (z5 b9 (qA (x9 2) qX (qp (x6 5))) (p6 (q0 (z5 b9 (x9 4) (p6 (q0 (dC (.str "qx")) x8))) x8))) (qA (x9 2) (qp (z5 b9 (x9 5) (dC (.int 1)))) qX))))
  (sH (zM 3 (wP (z5 b9 (z5 b9 (qA (x9 2) qX (qp (x6 5))) (p6 (q0 (z5 b9 (p6 (q0 (dC (.str "qx")) x8)) (qA (x9 4) (qp (dC (.int 1))) qX)) x8))) (qA (x9 2) (qp (z5 b9 (x9 5) (dC (.int 1)))) qX))))
  (sH (qw 6 (wP (z0 wL (q0 (c6 [none] [0] (b8 (z5 k6 (x9 1) (dC (.int 1)))) (w6 0) c7 (xu (q0 (z5 k6 (x9 0) (dC (.int 0))) (q0 (z5 k6 (x9 0) (dC (.int 1))) x8)))) x8))))
  (wFor (wIp (zQ (q0 (x6 5) x8))) (w6 7) (zO (wPT (dT (z5 pNe (vc (x9 6) (z5 k6 (z5 k6 (x9 2) (x9 7)) (dC (.int 0)))) (vc (x9 6) (z5 k6 (x9 4) (dC (.int 0))))))) (sH (qw 8 (wP (z5 b9 (z5 b9 (qA (x9 2) qX (qp (x6 7))) (qA (x9 2) (qp (z5 b9 (x9 7) (dC (.int 1)))) (qp (x6 5)))) (qA (x9 2) (qp (z5 b9 (x9 5) (dC (.int 1)))) qX))))
  (zM 3 (wP (z5 b9 (x9 8) (p6 (q0 (z5 b9 (z5 k6 (x9 2) (x9 7)) (x9 4)) x8)))))) jy)))))))))) jy)
  (wFz 3 (zm (wP (x6 3)))))))
def rS:y8 ["row","parts","trays","found","tray","k","hues","j","rest"] ["row","parts","trays"] (j4 YY):=u8
def Nu:∀ xs,Zs xs->xs.length+1=(["row","parts","trays"]:C7).length:=by rintro xs ⟨d,T,rfl,_,_⟩;rfl
def j8 (t:EE):C5:=y6 (t.map Cl.name)
def JP (T:C6):T.map v9=(T.map j8).map PV.lst:=by rw [yv];rfl
def tr_ls (T:C6):k7 T=b7 (T.map j8):=by unfold k7 b7;rw [JP]
def Mp {A B:EF}(h:A.length+B.length<=lim):b9 (b7 A) (b7 B)=some (b7 (A++B)):=by refine (JW (by rw [yZ,yZ];exact h)).trans ?_;rw [<- yE];rfl
theorem Bz {a:Nat}:∀{L:EF},(∀ l∈L,l.length<=a)->L.flatten.length<=a*L.length
 |[],_=>yd _
 |l::L,h=>by
  have h1:=h l yR;have h2:=Bz λx hx=>h x (yO _ hx);rw [yq,yV,yJ,Nat.mul_succ];omega
def Inn (l:C5):Prop:=l.length<=20/\∀ x∈l,sC x
def Jy (h:t.length<=20):Inn (j8 t):=⟨by unfold j8;rw [xx,yZ];exact h,λx hx=>by
 obtain ⟨s,_,rfl⟩:=yB.mp hx;exact .inl ⟨s,rfl⟩⟩
section
variable{T:C6}{A B:EF}{k j i:Nat}{y:C5}
def wJ (hM:∀ l∈U,Inn l)(hl:L.length<=12)(hm:∀ l∈L,l∈U∨Inn l)(o:Odd d L):sG d L:=by have hi:∀ l∈L,Inn l:=λl h=>(hm l h).elim (hM l) id;refine ⟨?_,by omega,λl h=>(hi l h).2,o⟩;have:=Bz (a:=20) λl h=>(hi l h).1;have:20*L.length<=20*12:=Nat.mul_le_mul_left _ hl;omega
def Pm (h:k<U.length):((U.take k++[y])++U.drop (k+1)).length=U.length:=by rw [yV,yV,uZ,uO];show min k U.length+1+(U.length-(k+1))=_;omega
def JS {l:C5}(h:l∈(U.take k++[y])++U.drop (k+1)):l∈U∨l=y:=by
 rcases yF.mp h with h|h
 .rcases yF.mp h with h|h
  .exact .inl (pj h)
  .exact .inr (yU.mp h)
 .exact .inl (ud h)
def Ve {z:Int}(h:a ε=some (.at (.int z))):qp a ε=some (some z):=by unfold qp;rw [h];rfl
def KU (xs:C5)(a:Nat):jd xs none (some (a:Int))=xs.take a:=by
 unfold jd;rw [HT.sIx_nat,HT.sIx_none,List.drop_zero,Nat.sub_zero];by_cases h:a<=xs.length
 .rw [oY h]
 .rw [Nat.min_eq_right (by omega),tP,tW (by omega)]
def LB (xs:C5){a b:Nat}(h1:a<=b)(h2:b<=xs.length):jd xs (some (a:Int)) (some (b:Int))=(xs.drop a).take (b-a):=by unfold jd;rw [HT.sIx_nat,HT.sIx_nat,oY h2,oY (yj h1 h2)]
def XE (h2:x9 2 ε=some (k7 T))(h5:x6 i ε=some (.at (.int (k:Int)))):qA (x9 2) qX (qp (x6 i)) ε=some (b7 ((T.map j8).take k)):=by refine (Qw (xs:=T.map v9) h2 rfl (Ve h5)).trans ?_;rw [KU,JP,<- tY];rfl
def XC (h2:x9 2 ε=some (k7 T))(h5:x9 i ε=some (.at (.int (k:Int)))):qA (x9 2) (qp (z5 b9 (x9 i) (dC (.int 1)))) qX ε=some (b7 ((T.map j8).drop (k+1))):=by refine (Qw (xs:=T.map v9) (lo:=some ((k+1:Nat):Int)) h2 (Ve (y7 h5 rfl rfl)) rfl).trans ?_;rw [VL,JP,<- tX];rfl
def e_mid (h2:x9 2 ε=some (k7 T))(h7:x9 7 ε=some (.at (.int (j:Int))))(h5:x6 5 ε=some (.at (.int (k:Int))))(hj:j<k)(hk:k<=T.length):qA (x9 2) (qp (z5 b9 (x9 7) (dC (.int 1)))) (qp (x6 5)) ε=some (b7 (((T.map j8).drop (j+1)).take (k-(j+1)))):=by refine (Qw (xs:=T.map v9) (lo:=some ((j+1:Nat):Int)) h2 (Ve (y7 h7 rfl rfl)) (Ve h5)).trans ?_;rw [LB _ (by omega) (by rw [yZ];exact hk),JP,<- tX,<- tY];rfl
def VR (h2:x9 2 ε=some (k7 T)):x9 2 ε=some (b7 (T.map j8)):=by rw [<- tr_ls];exact h2
def wu (h:a ε=some (.lst y)):p6 (q0 a x8) ε=some (b7 [y]):=xP (v6 h rfl) l1
def zD (ha:a ε=some (b7 A))(hb:b ε=some (b7 B))(h:A.length+B.length<=1000):z5 b9 a b ε=some (b7 (A++B)):=y7 ha hb (Mp (by have:lim=1000000:=rfl;omega))
def Jk {u v:C5}(ha:a ε=some (.lst u))(hb:b ε=some (.lst v))(h:u.length+v.length<=1000):z5 b9 a b ε=some (.lst (u++v)):=y7 ha hb (JW (by have:lim=1000000:=rfl;omega))
def wm {E:M}{Ls:List EF}{N:ME->Prop}{R:AW}(h3:ε[3]?=some (.ow (.lst (Ls.map b7))))(hl:Ls.length<=900)(he:E ε=some (b7 L))(k:N (ε.set 3 (.ow (.lst ((Ls++[L]).map b7))))):zM 3 (wP E) ε N R:=by
 refine ⟨⟨_,h3⟩,_,he,_,h3,?_,?_⟩
 .have:lim=1000000:=rfl;rw [yZ];omega
 .rw [yE] at k;exact k
def Ol (A B C:List α)(a b:α):((A++B++C)++[a,b]).Perm (A++a::(B++b::C)):=by refine List.perm_append_comm.trans ?_;show (a::b::(A++B++C)).Perm _;refine List.Perm.trans ?_ um.symm;refine List.Perm.cons a ?_;rw [<- uW];exact um.symm
def cut2 {T:List α}{a b:α}(hj:T[j]?=some a)(hk:T[k]?=some b)(h:j<k):T=T.take j++a::((T.drop (j+1)).take (k-(j+1))++b::T.drop (k+1)):=by
 obtain ⟨jl,ej⟩:=yK.mp hj;obtain ⟨kl,ek⟩:=yK.mp hk;have e3:(T.drop (j+1))[k-(j+1)]?=some b:=by rw [oS,show j+1+(k-(j+1))=k by omega];exact hk
 obtain ⟨ml,e3'⟩:=yK.mp e3;have s2:T.drop (j+1)=(T.drop (j+1)).take (k-(j+1))++b::(T.drop (j+1)).drop (k-(j+1)+1):=by rw [<- e3',<- yk ml,uG]
 rw [List.drop_drop,show j+1+(k-(j+1)+1)=k+1 by omega] at s2;rw [<- s2,<- ej,<- yk jl,uG]
def cut1 {T:List α}{b:α}(hk:T[k]?=some b):T=T.take k++b::T.drop (k+1):=by obtain ⟨kl,ek⟩:=yK.mp hk;rw [<- ek,<- yk kl,uG]
def Nx {u:EE}(h:t≠[]):c5 (t++u)=c5 t:=by
 cases t with
 |nil=>exact rp rfl h
 |cons _ _=>rfl
def LJ (ok:d.Ok)(f:Cl->PV):wL [.lst (d.cls.map λc=>PV.tup [.at (.str c.name),f c])]=some (.fk (sU d.cls) (d.cls.map f)):=by
 have ten:=ok.ten;show (js (d.cls.map λc=>PV.tup [.at (.str c.name),f c])).bind _=_;have q1:(d.cls.map λc=>((.inr c.name:j5),f c)).map (·.1)=sU d.cls:=by rw [yv];rfl
 have q2:(d.cls.map λc=>((.inr c.name:j5),f c)).map (·.2)=d.cls.map f:=by rw [yv];rfl
 rw [WV,yD,q1,q2];exact rB ⟨sV ok.nd,by rw [yZ];omega⟩
def WX (ok:d.Ok):itK d.names (.at (.str "qx"))=false:=yA λz=>by
 obtain ⟨c,hc,e⟩:=yB.mp z;exact (ok.cl c hc).nm.nq e
def Rp (x:sM d T)(ok:d.Ok)(hM:∀ l∈T.map j8,Inn l)(hk:T[k]?=some t):sG d ((T.map j8).take k++(T.map j8).drop (k+1)):=by
 have tl:=x.len ok;have kl:=(yK.mp hk).1;have c1:=cut1 hk;have eL:(T.map j8).take k++(T.map j8).drop (k+1)=(T.take k++T.drop (k+1)).map j8:=by rw [yE,tY,tX]
 have ef:T.flatten=(T.take k).flatten++(t++(T.drop (k+1)).flatten):=by rw [<- yq,<- uR,<- c1]
 have sb:((T.take k++T.drop (k+1)).flatten).Sublist T.flatten:=by rw [ef,uR];exact List.Sublist.append (List.Sublist.refl _) (List.sublist_append_right _ _)
 refine wJ hM ?_ (λl h=>?_) (.inr ⟨λl h=>?_,.inr (.inr (.inl ⟨(T.take k++T.drop (k+1)).flatten,⟨λc hc=>x.perm.mem_iff.mp (sb.subset hc),(sb.map Cl.name).nodup (x.lst ok).nd⟩,?_,?_⟩))⟩)
 .rw [eL,yZ,yV,uZ,uO];omega
 .rcases yF.mp h with h|h
  .exact .inl (pj h)
  .exact .inl (ud h)
 .rw [eL] at h;obtain ⟨u,hu,rfl⟩:=yB.mp h;have hu':u∈T:=by
   rcases yF.mp hu with h|h
   ·exact pj h
   ·exact ud h
  have:=(x.each u hu').ne;intro z;exact this (by cases u with|nil=>rfl|cons _ _=>cases z)
 .rw [eL];exact Qx _
 .have h1:=x.perm.length_eq;rw [ef] at h1;rw [yV,yV] at h1;have h2:=ui.mpr (x.each t (yu hk)).ne;rw [uR,yV];omega
def QO (x:sM d T){l:C5}(h:l∈T.map j8):l≠[]:=by obtain ⟨u,hu,rfl⟩:=yB.mp h;have:=(x.each u hu).ne;intro z;exact this (by cases u with|nil=>rfl|cons _ _=>cases z)
def Rn (x:sM d T)(ok:d.Ok)(hM:∀ l∈T.map j8,Inn l)(hy:Inn y)(h:y=[]∨∃ x∈y,itK d.names x=false):sG d (T.map j8++[y]):=by
 have tl:=x.len ok;refine wJ hM (by rw [yV,yZ];show T.length+1<=12;omega) (λl h=>?_) ?_
 .rcases yF.mp h with h|h
  .exact .inl h
  .exact .inr (by rw [yU.mp h];exact hy)
 .rcases h with rfl|⟨z,hz,e⟩
  .exact .inl (yw _ (yU.mpr rfl))
  .refine .inr ⟨λl h=>?_,.inl ⟨z,uM.mpr ⟨y,yw _ (yU.mpr rfl),hz⟩,e⟩⟩;rcases yF.mp h with h|h
   .exact QO x h
   .rw [yU.mp h];exact λq=>by rw [q] at hz;cases hz
def PK (x:sM d T)(ok:d.Ok)(hM:∀ l∈T.map j8,Inn l)(hk:T[k]?=some t)(hy:Inn y)(hz:z∈y)(e:itK d.names z=false):sG d (((T.map j8).take k++[y])++(T.map j8).drop (k+1)):=by
 have tl:=x.len ok;have kl:=(yK.mp hk).1;refine wJ hM (by rw [Pm (by rw [yZ];exact kl),yZ];omega) (λl h=>(JS h).imp id λq=>by rw [q];exact hy) (.inr ⟨λl h=>?_,.inl ⟨z,uM.mpr ⟨y,yo _ (yw _ (yU.mpr rfl)),hz⟩,e⟩⟩);rcases JS h with h|rfl
 .exact QO x h
 .exact λq=>by rw [q] at hz;cases hz
def Rm (x:sM d T)(ok:d.Ok)(hM:∀ l∈T.map j8,Inn l)(hk:T[k]?=some t):sG d (T.map j8++[(j8 t).take 1])/\sG d (((T.map j8).take k++[j8 t++(j8 t).take 1])++(T.map j8).drop (k+1)):=by
 have tl:=x.len ok;have kl:=(yK.mp hk).1;have mt:=yu hk;have l10:=x.tl ok mt;obtain ⟨c,t',rfl⟩:=ur (x.each t mt).ne;have e1:(j8 (c::t')).take 1=j8 [c]:=rfl;have e2:j8 (c::t')++j8 [c]=j8 (c::t'++[c]):=by unfold j8 y6;rw [yE,yE]
 rw [e1,e2];have i1:Inn (j8 [c]):=Jy (by show 1<=20;decide);have i2:Inn (j8 (c::t'++[c])):=Jy (by rw [yV];show _+1<=20;omega);constructor
 .refine wJ hM (by rw [yV,yZ];show T.length+1<=12;omega) (λl h=>?_) (.inr ⟨λl h=>?_,.inr (.inl ⟨(T++[[c]]).flatten.map Cl.name,?_,λnd=>?_⟩)⟩)
  .rcases yF.mp h with h|h
   .exact .inl h
   .exact .inr (by rw [yU.mp h];exact i1)
  .rcases yF.mp h with h|h
   .exact QO x h
   .rw [yU.mp h];exact λq=>by cases q
  .have:T.map j8++[j8 [c]]=(T++[[c]]).map j8:=by rw [yE];rfl
   rw [this];exact Qx _
  .rw [uR,yE] at nd;exact (uL.mp nd).2.2 c.name (yB.mpr ⟨c,uM.mpr ⟨_,mt,yR⟩,rfl⟩) c.name (yB.mpr ⟨c,uM.mpr ⟨[c],yU.mpr rfl,yU.mpr rfl⟩,rfl⟩) rfl
 .refine wJ hM (by rw [Pm (by rw [yZ];exact kl),yZ];omega) (λl h=>(JS h).imp id λq=>by rw [q];exact i2) (.inr ⟨λl h=>?_,.inr (.inl ⟨((T.take k++[c::t'++[c]])++T.drop (k+1)).flatten.map Cl.name,?_,λnd=>?_⟩)⟩)
  .rcases JS h with h|rfl
   .exact QO x h
   .exact λq=>by cases q
  .have:(T.map j8).take k++[j8 (c::t'++[c])]++(T.map j8).drop (k+1)=((T.take k++[c::t'++[c]])++T.drop (k+1)).map j8:=by rw [yE,yE,tY,tX];rfl
   rw [this];exact Qx _
  .rw [uR,yE,uR,yE] at nd;have n2:=(uL.mp (uL.mp nd).1).2.1;have e3:([c::t'++[c]]:C6).flatten.map Cl.name=(c::t').map Cl.name++[c.name]:=by rw [yq,List.flatten_nil,yp,yE];rfl
   rw [e3] at n2;exact (uL.mp n2).2.2 c.name (yB.mpr ⟨c,yR,rfl⟩) c.name (yU.mpr rfl) rfl
def Ro (x:sM d T)(ok:d.Ok)(hM:∀ l∈T.map j8,Inn l){u:EE}(hj:T[j]?=some u)(hk:T[k]?=some t)(h:j<k)(hh:c5 u≠c5 t):sG d (((T.map j8).take j++((T.map j8).drop (j+1)).take (k-(j+1))++(T.map j8).drop (k+1))++[j8 u++j8 t]):=by
 have tl:=x.len ok;have kl:=(yK.mp hk).1;have mj:=yu hj;have mk:=yu hk;have l1:=x.tl ok mj;have l2:=x.tl ok mk;have c2:=cut2 hj hk h;have e2:j8 u++j8 t=j8 (u++t):=by unfold j8 y6;rw [yE,yE]
 have eL:((T.map j8).take j++((T.map j8).drop (j+1)).take (k-(j+1))++(T.map j8).drop (k+1))++[j8 u++j8 t]=(((T.take j++(T.drop (j+1)).take (k-(j+1))++T.drop (k+1))++[u++t]).map λt=>y6 (t.map Cl.name)):=by rw [e2,yE,yE,yE,tY,tY,tX,tX];rfl
 have tm:=Ol (T.take j) ((T.drop (j+1)).take (k-(j+1))) (T.drop (k+1)) u t;rw [<- c2] at tm;have ml:(T.take j++(T.drop (j+1)).take (k-(j+1))++T.drop (k+1)).length<=10:=by have:=tm.length_eq;rw [yV] at this;omega
 have sub:∀ v∈T.take j++(T.drop (j+1)).take (k-(j+1))++T.drop (k+1),v∈T:=λv hv=>tm.mem_iff.mp (yo _ hv);rw [eL];generalize T.take j++(T.drop (j+1)).take (k-(j+1))++T.drop (k+1)=X at ml sub tm;refine wJ hM (by rw [yZ,yV];show X.length+1<=12;omega) (λl h=>?_) (.inr ⟨λl h=>?_,.inr (.inr (.inr ⟨X++[u++t],rfl,?_,λv hv=>?_,u++t,yw _ (yU.mpr rfl),?_⟩))⟩)
 .obtain ⟨v,hv,rfl⟩:=yB.mp h;rcases yF.mp hv with hv|hv
  .exact .inl (yB.mpr ⟨v,sub v hv,rfl⟩)
  .rw [yU.mp hv];exact .inr (Jy (by rw [yV];omega))
 .obtain ⟨v,hv,rfl⟩:=yB.mp h;rcases yF.mp hv with hv|hv
  .exact QO x (yB.mpr ⟨v,sub v hv,rfl⟩)
  .rw [yU.mp hv,<- show j8 (u++t)=y6 ((u++t).map Cl.name) from rfl,<- e2];exact λz=>QO x (yB.mpr ⟨u,mj,rfl⟩) (List.append_eq_nil_iff.mp z).1
 .have:(X++[u++t]).flatten=(X++[u,t]).flatten:=by rw [uR,uR];simp
  rw [this];exact tm.flatten.trans x.perm
 .rcases yF.mp hv with hv|hv
  .exact (x.each v (sub v hv)).ne
  .rw [yU.mp hv];exact λz=>(x.each u mj).ne (List.append_eq_nil_iff.mp z).1
 .have X2:=x.each t mk;obtain ⟨c,t',rfl⟩:=ur X2.ne;exact ⟨c,yw _ yR,by rw [Nx (x.each u mj).ne];exact λz=>hh z.symm⟩
end
abbrev odE (d:Dr)(T:C6)(m:Int)(Ls:List EF)(s4 s5 s6 s7 s8:sN):ME:=[m6 m,.sh d.pv,.sh (k7 T),.ow (.lst (Ls.map b7)),s4,s5,s6,s7,s8]
def ND :∀ xs n,Zs xs->GY K (m6 n::xs.map .sh++List.replicate ((["row","parts","trays","found","tray","k","hues","j","rest"]:C7).length-(xs.length+1)) .no) (λ_=>False) λy ε=>Xp xs y/\zN 0 ε:=by
 rintro xs n ⟨d,T,rfl,ok,x⟩;have hlim:lim=1000000:=rfl;have ten:=ok.ten;have BT:=Qe;have tl:=x.len ok;have hM:∀ l∈T.map j8,Inn l:=λl hl=>by
  obtain ⟨t,ht,rfl⟩:=yB.mp hl;exact Jy (yj (x.tl ok ht) (by decide))
 have ml:(T.map j8).length=T.length:=yZ _;have fin:∀ m Ls s4 s5 s6 s7 s8,(∀ L∈Ls,sG d L)->wFz 3 (zm (wP (x6 3))) (odE d T m Ls s4 s5 s6 s7 s8) (λ_=>False) (λy ε=>Xp [d.pv,k7 T] y/\zN 0 ε):=λm Ls s4 s5 s6 s7 s8 h=>⟨_,rfl,⟨d,T,Ls,rfl,rfl,ok,x,h⟩,m,rfl⟩;have more:∀{Ls:List EF}{L:EF},(∀ L∈Ls,sG d L)->sG d L->∀ L'∈Ls++[L],sG d L':=λ{Ls L} h o L' hL=>by
  rcases yF.mp hL with z|z
  .exact h L' z
  .rw [yU.mp z];exact o
 refine ⟨.lst ([[]::T.map j8].map b7),xP (v6 (zD (A:=[[]]) (B:=T.map j8) (wu (y:=[]) (xP rfl l0)) (VR rfl) (by rw [ml];show 1+_<=1000;omega)) rfl) l1,?_⟩;refine ⟨[.lst [],.lst [.at (.str "qx")],.lst [.at (.int 7)],.lst [.at .non,.at (.str "qx")],.lst [.lst [.at (.str "q")]],.lst [.tup [.at (.str "q")]],.lst [.at (.bl true)]],rfl,?_⟩;refine QD (λrest ε=>(∀ y∈rest,∃ l:C5,y = .lst l/\Inn l/\(l=[]∨∃ x∈l,itK d.names x=false))/\∃ (Ls:List EF) (s4:sN),(∀ L∈Ls,sG d L)/\Ls.length+rest.length<=8/\ε=odE d T n Ls s4 .no .no .no .no) ?_ ?_ _ _ ⟨λy hy=>?_,[[]::T.map j8],.no,λL hL=>?_,by show 1+7<=8;decide,rfl⟩
 .rintro ε ⟨_,Ls,s4,hL,hl,rfl⟩;rw [pb] at hl;by_cases h0:T.length=0
  .refine wc (i8 (y7 (z6 rfl rfl) rfl (show _=some (PV.at (.bl (decide ((0:Int)<((T.map v9).length:Int))))) from rfl) |>.trans ?_)) (fin _ _ _ _ _ _ _ hL);rw [yZ,yA (by omega)]
  refine Xi (i8 (y7 (z6 rfl rfl) rfl (show _=some (PV.at (.bl (decide ((0:Int)<((T.map v9).length:Int))))) from rfl) |>.trans ?_)) ?_
  .rw [yZ,yt (by omega)]
  have gl:((T.map v9).length:Int)=T.length:=by rw [yZ]
  have c0:0<=n % ((T.map v9).length:Int):=ya _ (by omega);have c1:n % ((T.map v9).length:Int)<((T.map v9).length:Int):=yi _ (by omega);obtain ⟨k,hk0⟩:=uV c0;have kl:k<T.length:=by omega
  have hk:=yS kl;generalize T[k]=t at hk;have mt:=yu hk;have t10:=x.tl ok mt;have nl:(j8 t).length=t.length:=by unfold j8;rw [xx,yZ]
  refine ⟨⟨n,rfl⟩,_,rfl,n,_,rfl,rfl,vH (by omega) (by omega),?_⟩;rw [hk0];generalize n / ((T.map v9).length:Int)=m;refine ⟨v9 t,y7 rfl rfl (ZH hk),?_⟩;obtain ⟨o2,o3⟩:=Rm x ok hM hk;have tk1:((j8 t).take 1).length<=1:=by rw [uZ];omega
  have tkl:((T.map j8).take k).length<=10:=by rw [uZ];omega
  have drl:((T.map j8).drop (k+1)).length<=10:=by rw [uO];omega
  have e41:∀ ε:ME,x9 4 ε=some (v9 t)->qA (x9 4) qX (qp (dC (.int 1))) ε=some (.lst ((j8 t).take 1)):=λε h=>by
   refine (Qw (xs:=j8 t) (hi:=some ((1:Nat):Int)) h rfl rfl).trans ?_;rw [KU]
  have e4d:∀ ε:ME,x9 4 ε=some (v9 t)->qA (x9 4) (qp (dC (.int 1))) qX ε=some (.lst ((j8 t).drop 1)):=λε h=>by
   refine (Qw (xs:=j8 t) (lo:=some ((1:Nat):Int)) h rfl rfl).trans ?_;rw [VL]
  have i4:=hM (j8 t) (yB.mpr ⟨t,mt,rfl⟩);have q4:Inn [.at (.str "qx")]:=⟨by show 1<=20;decide,λx hx=>by rw [yU.mp hx];exact .inl ⟨_,rfl⟩⟩;refine wm rfl (by omega) (zD (XE rfl rfl) (XC rfl rfl) (by omega)) ?_;refine wm rfl (by rw [yV];show _+1<=900;omega) (zD (VR rfl) (wu (e41 _ rfl)) (by rw [ml];show _+1<=1000;omega)) ?_;refine wm rfl (by simp only [yV,uC];omega) (zD (zD (XE rfl rfl) (wu (Jk (u:=j8 t) rfl (e41 _ rfl) (by omega))) (by show _+1<=1000;omega)) (XC rfl rfl) (by rw [yV];show _+1+_<=1000;omega)) ?_;refine wm rfl (by simp only [yV,uC];omega) (zD (zD (XE rfl rfl) (wu (Jk (u:=j8 t) (v:=[.at (.str "qx")]) rfl rfl (by show _+1<=1000;omega))) (by show _+1<=1000;omega)) (XC rfl rfl) (by rw [yV];show _+1+_<=1000;omega)) ?_;refine wm rfl (by simp only [yV,uC];omega) (zD (zD (XE rfl rfl) (wu (Jk (u:=[.at (.str "qx")]) (v:=(j8 t).drop 1) rfl (e4d _ rfl) (by rw [uO];show 1+_<=1000;omega))) (by show _+1<=1000;omega)) (XC rfl rfl) (by rw [yV];show _+1+_<=1000;omega)) ?_;have h1:=more (more (more (more (more hL (Rp x ok hM hk)) o2) o3) (PK x ok hM hk (y:=j8 t++[.at (.str "qx")]) ⟨by rw [yV];show _+1<=20;omega,λz hz=>by
   rcases yF.mp hz with hz|hz
   .exact i4.2 z hz
   .exact q4.2 z hz⟩ (yw _ (yU.mpr rfl)) (WX ok))) (PK x ok hM hk (y:=[.at (.str "qx")]++(j8 t).drop 1) ⟨by rw [yV,uO];show 1+_<=20;omega,λz hz=>by
   rcases yF.mp hz with hz|hz
   .exact q4.2 z hz
   .exact i4.2 z (ud hz)⟩ (yo _ (yU.mpr rfl)) (WX ok))
  have hl2:(((((Ls++[(T.map j8).take k++(T.map j8).drop (k+1)])++[T.map j8++[(j8 t).take 1]])++[((T.map j8).take k++[j8 t++(j8 t).take 1])++(T.map j8).drop (k+1)])++[((T.map j8).take k++[j8 t++[PV.at (.str "qx")]])++(T.map j8).drop (k+1)])++[((T.map j8).take k++[[PV.at (.str "qx")]++(j8 t).drop 1])++(T.map j8).drop (k+1)]).length<=13:=by simp only [yV,uC];omega
  generalize (((((Ls++[(T.map j8).take k++(T.map j8).drop (k+1)])++[T.map j8++[(j8 t).take 1]])++[((T.map j8).take k++[j8 t++(j8 t).take 1])++(T.map j8).drop (k+1)])++[((T.map j8).take k++[j8 t++[PV.at (.str "qx")]])++(T.map j8).drop (k+1)])++[((T.map j8).take k++[[PV.at (.str "qx")]++(j8 t).drop 1])++(T.map j8).drop (k+1)])=Ls2 at h1 hl2 ⊢;refine ⟨.fk (sU d.cls) (d.cls.map λc=> .at (.int c.hue)),z6 (v6 (o9 Cl.pv (λc=>PV.tup [.at (.str c.name),.at (.int c.hue)]) d.cls (jI (y7 rfl rfl rfl)) rfl (by omega) λc _=>⟨_,rfl,jJ (v6 (y7 rfl rfl rfl) (v6 (y7 rfl rfl rfl) rfl)) l2⟩) rfl) (LJ ok λc=> .at (.int c.hue)),?_⟩;refine ⟨zK 0 k,wW (k:=k) rfl (by omega),?_⟩;refine QD (λrest ε=>(∀ y∈rest,∃ j:Nat,j<k/\y = .at (.int (j:Int)))/\∃ (Ls:List EF) (s7 s8:sN),(∀ L∈Ls,sG d L)/\Ls.length+rest.length<=30/\ε=odE d T m Ls (.sh (v9 t)) (.sh (.at (.int (k:Int)))) (.sh (.fk (sU d.cls) (d.cls.map λc=> .at (.int c.hue)))) s7 s8) ?_ ?_ _ _ ⟨λy hy=>(by
   obtain ⟨j,hj,rfl⟩:=yB.mp hy;exact ⟨j,uP.mp hj,by rw [Int.zero_add]⟩),Ls2,.no,.no,h1,by rw [vY];omega,rfl⟩
  .rintro ε ⟨_,Ls,s7,s8,hL,_,rfl⟩;exact fin _ _ _ _ _ _ _ hL
  .rintro y rest ε ⟨hy,Ls,s7,s8,hL,hl,rfl⟩;obtain ⟨j,hj,rfl⟩:=hy y yR;rw [yJ] at hl;have jl:j<T.length:=by omega
   have hjT:=yS jl;generalize T[j]=u at hjT;have mj:=yu hjT;have u10:=x.tl ok mj;have ul:(j8 u).length=u.length:=by unfold j8;rw [xx,yZ]
   refine ⟨odE d T m Ls (.sh (v9 t)) (.sh (.at (.int (k:Int)))) (.sh (.fk (sU d.cls) (d.cls.map λc=> .at (.int c.hue)))) (.sh (.at (.int (j:Int)))) s8,rfl,?_⟩;have hu:∀(v:EE)(a:M)(ε:ME),v∈T->x9 6 ε=some (.fk (sU d.cls) (d.cls.map λc=> .at (.int c.hue)))->a ε=some (v9 v)->vc (x9 6) (z5 k6 a (dC (.int 0))) ε=some (.at (.int (c5 v))):=λv a ε hv h6 ha=>by
    obtain ⟨c,v',rfl⟩:=ur (x.each v hv).ne;exact Bu (k:= .inr c.name) h6 (y7 ha rfl (ix0 c v')) rfl (Wp (λc=>PV.at (.int c.hue)) ok.nd c (x.sub hv c yR))
   have cd:dT (z5 pNe (vc (x9 6) (z5 k6 (z5 k6 (x9 2) (x9 7)) (dC (.int 0)))) (vc (x9 6) (z5 k6 (x9 4) (dC (.int 0))))) (odE d T m Ls (.sh (v9 t)) (.sh (.at (.int (k:Int)))) (.sh (.fk (sU d.cls) (d.cls.map λc=> .at (.int c.hue)))) (.sh (.at (.int (j:Int)))) s8)=some (!decide ((c5 u:Int)=(c5 t:Int))) :=
    i8 (y7 (hu u _ _ mj rfl (y7 rfl rfl (ZH hjT))) (hu t _ _ mt rfl rfl) (Rg _ _))
   have keep:∀ y∈rest,∃ j:Nat,j<k/\y = .at (.int (j:Int)):=λy hy'=>hy y (yO _ hy');by_cases h:(c5 u:Int)=(c5 t:Int)
   .rw [yt h] at cd;exact wc cd ⟨keep,Ls,_,_,hL,by omega,rfl⟩
   .rw [yA h] at cd;have t1:((T.map j8).take j).length<=10:=by rw [uZ];omega
    have t2:(((T.map j8).drop (j+1)).take (k-(j+1))).length<=10:=by rw [uZ,uO];omega
    refine Xi cd ⟨_,zD (zD (XE rfl rfl) (e_mid rfl rfl rfl hj (by omega)) (by omega)) (XC rfl rfl) (by rw [yV];omega),?_⟩;refine wm rfl (by omega) (zD rfl (wu (Jk (u:=j8 u) (v:=j8 t) (y7 rfl rfl (ZH hjT)) rfl (by omega))) (by rw [yV,yV];show _+1<=1000;omega)) ?_;exact ⟨keep,_,_,_,more hL (Ro x ok hM hjT hk hj λz=>h (by rw [z])),by rw [yV];show _+1+_<=30;omega,rfl⟩
 .rintro y rest ε ⟨hy,Ls,s4,hL,hl,rfl⟩;obtain ⟨l,rfl,hi,ho⟩:=hy y yR;rw [yJ] at hl;refine ⟨odE d T n Ls (.sh (.lst l)) .no .no .no .no,rfl,?_⟩;refine wm rfl (by omega) (zD (VR rfl) (wu (y:=l) rfl) (by rw [ml];show _+1<=1000;omega)) ?_;exact ⟨λy hy'=>hy y (yO _ hy'),_,_,more hL (Rn x ok hM hi ho),by rw [yV];show _+1+_<=8;omega,rfl⟩
 .simp only [yL,ye,or_false] at hy;have one:∀ {z:PV},sC z->Inn [z]:=λ{z} h=>⟨by show 1<=20;decide,λx hx=>by rw [yU.mp hx];exact h⟩;have q1:sC (.at (.str "qx")):= .inl ⟨_,rfl⟩;rcases hy with rfl|rfl|rfl|rfl|rfl|rfl|rfl
  .exact ⟨[],rfl,⟨by decide,λx hx=>nomatch hx⟩,.inl rfl⟩
  .exact ⟨_,rfl,one q1,.inr ⟨_,yU.mpr rfl,WX ok⟩⟩
  .exact ⟨_,rfl,one (.inr (.inl ⟨7,rfl⟩)),.inr ⟨_,yU.mpr rfl,rfl⟩⟩
  .exact ⟨_,rfl,⟨by show 2<=20;decide,λx hx=>by
    rcases yL.mp hx with rfl|hx
    ·exact .inr (.inr (.inl rfl))
    ·rw [yU.mp hx];exact q1⟩,.inr ⟨_,yR,rfl⟩⟩
  .exact ⟨_,rfl,one (.inr (.inr (.inr (.inr (.inl ⟨_,rfl,λz hz=>by rw [yU.mp hz];exact rfl⟩))))),.inr ⟨_,yU.mpr rfl,rfl⟩⟩
  .exact ⟨_,rfl,one (.inr (.inr (.inr (.inr (.inr ⟨_,rfl,λz hz=>by rw [yU.mp hz];exact rfl⟩))))),.inr ⟨_,yU.mpr rfl,rfl⟩⟩
  .exact ⟨_,rfl,one (.inr (.inr (.inr (.inl ⟨true,rfl⟩)))),.inr ⟨_,yU.mpr rfl,rfl⟩⟩
 .rw [yU.mp hL];refine wJ hM (by rw [yJ,ml];omega) (λl h=>?_) (.inl yR);rcases yL.mp h with rfl|h
  .exact .inr ⟨by decide,λx hx=>nomatch hx⟩
  .exact .inl h
def To (F:Fun K "_law_odd" "_law_odd" YY f fd)(A0:Fn P w K mg tM 1 "_law_digit" ["row","many"] jT)(J7:mg "dict"=none)(Az:mg "len"=none)(A4:mg "range"=none):sQ P w K mg tM v8 2 f fd ["row","parts","trays"] (spD Zs Xp) :=
 okD (k:=1) (b:=GY K) F rS Nu (λtH A tL s H E hr=>⟨_,(@j6 _ _ _ _ _ (@qq _ _ 3 _ _ _ _ rS.nd rfl (Or.inl rfl) (@m8 _ _ _ _ (@z8 _ _ _ _ _ (u4 (t0 K) (@m8 _ _ _ _ (@z8 _ _ _ _ _ (@m8 _ _ _ _ w9) w9 (by rfl))) (pv 2)) w9 (by rfl))) (by rfl) (.inl rfl))
  (@j6 _ _ _ _ _ (@zi _ _ _ _ _ _ _ _ PassesOwn.never rfl (@i7 _ K _ _ _ rfl (@m8 _ _ _ _ (@z8 _ _ _ _ _ (@m8 _ _ _ _ w9) (@z8 _ _ _ _ _ (@m8 _ _ _ _ (@z8 _ _ _ _ _ qY w9 (by rfl))) (@z8 _ _ _ _ _ (@m8 _ _ _ _ (@z8 _ _ _ _ _ z7 w9 (by rfl))) (@z8 _ _ _ _ _ (@m8 _ _ _ _ (@z8 _ _ _ _ _ vV (@z8 _ _ _ _ _ qY w9 (by rfl)) (by rfl))) (@z8 _ _ _ _ _ (@m8 _ _ _ _ (@z8 _ _ _ _ _ (@m8 _ _ _ _ (@z8 _ _ _ _ _ qY w9 (by rfl))) w9 (by rfl))) (@z8 _ _ _ _ _ (@m8 _ _ _ _ (@z8 _ _ _ _ _ (@zI _ _ _ _ _ (@z8 _ _ _ _ _ qY w9 (by rfl))) w9 (by rfl))) (@z8 _ _ _ _ _ (@m8 _ _ _ _ (@z8 _ _ _ _ _ xH w9 (by rfl))) w9 (by rfl)) (by rfl)) (by rfl)) (by rfl)) (by rfl)) (by rfl)) (by rfl)))) (m5 (i:=4) rS.nd rfl (Or.inl rfl))
   (@j9 _ _ _ (xp (zg K rfl rn rk rj zT (pv 3) (z8 (u4 (t0 K) (pv 2) (@m8 _ _ _ _ (@z8 _ _ _ _ _ (pv 4) w9 (by rfl)))) w9)))) (by intro _;rfl))
  (@j6 _ _ _ _ _ (qb (qc (WF) (p7 (xj K) rfl Az rl (@z8 _ _ _ _ _ (pv 2) w9 (by rfl))) z7 (m7 _)) (@j6 _ _ _ _ _ (@qq _ _ 5 _ _ _ _ rS.nd rfl (Or.inl rfl) (qR A0 hr (by decide) rfl (@z8 _ _ _ _ _ (pv 0) (@z8 _ _ _ _ _ (p7 (xj K) rfl Az rl (@z8 _ _ _ _ _ (pv 2) w9 (by rfl))) w9 (by rfl)) (by rfl))) (by rfl) (.inl rfl))
  (@j6 _ _ _ _ _ (@qq _ _ 4 _ _ _ _ rS.nd rfl (Or.inl rfl) (iW K rfl (pv 2) (pv 5)) (by rfl) (.inl rfl))
  (@j6 _ _ _ _ _ (xp (zg K rfl rn rk rj zT (pv 3) (z8 (u4 (t0 K) (zh (zj K) (pv 2) zu (xR (pv 5))) (zh (zj K) (pv 2) (xR (u4 (t0 K) (pv 5) z7)) zu)) w9)))
  (@j6 _ _ _ _ _ (xp (zg K rfl rn rk rj zT (pv 3) (z8 (u4 (t0 K) (pv 2) (@m8 _ _ _ _ (@z8 _ _ _ _ _ (zh (zj K) (pv 4) zu (xR z7)) w9 (by rfl)))) w9)))
  (@j6 _ _ _ _ _ (xp (zg K rfl rn rk rj zT (pv 3) (z8 (u4 (t0 K) (u4 (t0 K) (zh (zj K) (pv 2) zu (xR (pv 5))) (@m8 _ _ _ _ (@z8 _ _ _ _ _ (u4 (t0 K) (pv 4) (zh (zj K) (pv 4) zu (xR z7))) w9 (by rfl)))) (zh (zj K) (pv 2) (xR (u4 (t0 K) (pv 5) z7)) zu)) w9)))
  (@j6 _ _ _ _ _ (xp (zg K rfl rn rk rj zT (pv 3) (z8 (u4 (t0 K) (u4 (t0 K) (zh (zj K) (pv 2) zu (xR (pv 5))) (@m8 _ _ _ _ (@z8 _ _ _ _ _ (u4 (t0 K) (pv 4) (@m8 _ _ _ _ (@z8 _ _ _ _ _ qY w9 (by rfl)))) w9 (by rfl)))) (zh (zj K) (pv 2) (xR (u4 (t0 K) (pv 5) z7)) zu)) w9)))
  (@j6 _ _ _ _ _ (xp (zg K rfl rn rk rj zT (pv 3) (z8 (u4 (t0 K) (u4 (t0 K) (zh (zj K) (pv 2) zu (xR (pv 5))) (@m8 _ _ _ _ (@z8 _ _ _ _ _ (u4 (t0 K) (@m8 _ _ _ _ (@z8 _ _ _ _ _ qY w9 (by rfl))) (zh (zj K) (pv 4) (xR z7) zu)) w9 (by rfl)))) (zh (zj K) (pv 2) (xR (u4 (t0 K) (pv 5) z7)) zu)) w9)))
  (@j6 _ _ _ _ _ (@qq _ _ 6 _ _ _ _ rS.nd rfl (Or.inl rfl) (wN (VD K rfl rfl) rfl J7 VB (@z8 _ _ _ _ _ (qu (N':=["cloth"]) (tK:=[none]) (t6 rfl rfl rfl) rfl (@i7 _ K _ _ _ rfl (iW K rfl (pv 1) z7)) (λ_ _ _ _ _ _=>(tO (i:=0) ["cloth"])) (λ_ _ _ _ _ _=>i9) (λ_ _ _ _ _ _=>(@zI _ _ _ _ _ (@z8 _ _ _ _ _ (iW K rfl (pv 0) z7) (@z8 _ _ _ _ _ (iW K rfl (pv 0) z7) w9 (by rfl)) (by rfl))))) w9 (by rfl))) (by rfl) (.inl rfl))
  (@j9 _ _ _ (zi PassesOwn.never rfl (vq rfl A4 (@z8 _ _ _ _ _ (pv 5) w9 (by rfl))) (m5 (i:=7) rS.nd rfl (Or.inl rfl))
   (@j9 _ _ _ (qb (qc (QQ K (qC hr) rfl) (Zn (vO hr) (pv 6) (iW K rfl (iW K rfl (pv 2) (pv 7)) z7) (λ_ _=>rfl)) (Zn (vO hr) (pv 6) (iW K rfl (pv 4) z7) (λ_ _=>rfl)) (m7 _)) (@j6 _ _ _ _ _ (@qq _ _ 8 _ _ _ _ rS.nd rfl (Or.inl rfl) (u4 (t0 K) (u4 (t0 K) (zh (zj K) (pv 2) zu (xR (pv 7))) (zh (zj K) (pv 2) (xR (u4 (t0 K) (pv 7) z7)) (xR (pv 5)))) (zh (zj K) (pv 2) (xR (u4 (t0 K) (pv 5) z7)) zu)) (by rfl) (.inl rfl))
  (@j9 _ _ _ (xp (zg K rfl rn rk rj zT (pv 3) (z8 (u4 (t0 K) (pv 8) (@m8 _ _ _ _ (@z8 _ _ _ _ _ (u4 (t0 K) (iW K rfl (pv 2) (pv 7)) (pv 4)) w9 (by rfl)))) w9))))) qi)))))))))))) qi)
  (@j9 _ _ _ (u6 (pv 3)))))),
  (by repeat' first|infer_instance|(refine @Mi.instSemWSTSeqWSeq _ _ _ _ ?_ ?_)|(apply @Mi.instSemWSTForWForOfSemWIOfSemWG))⟩) ND
def sG.of_cls (h:e.cls=d.cls)(o:sG e L):sG d L:=by
 obtain ⟨o1,o2,o3,o4⟩:=o;have hn:e.names=d.names:=by unfold Dr.names;rw [h]
 refine ⟨o1,o2,o3,?_⟩;rcases o4 with o4|⟨o4,o5⟩
 .exact .inl o4
 .refine .inr ⟨o4,?_⟩;rw [hn] at o5;rcases o5 with o5|o5|⟨ns,q,o5⟩|⟨T,q1,q2,q3⟩
  .exact .inl o5
  .exact .inr (.inl o5)
  .exact .inr (.inr (.inl ⟨ns,⟨h▸q.sub,q.nd⟩,h▸o5⟩))
  .exact .inr (.inr (.inr ⟨T,q1,h▸q2,q3⟩))
def Ca (a b c e:Bool):jR 6 (sgP a b c e):=λx hx=>by
 simp only [yL,ye,or_false] at hx;rcases hx with rfl|rfl|rfl|rfl<;>exact rfl
abbrev wZ:Stmt:=top 78
abbrev GO (K:Fg)(Av:Addr):WS:=(sH (qw 1 (DR (Zu K) Qk (p0 (wP (x6 0)) (p0 (wP (dC (.int 6))) qS))))
  (sH (qw 2 (wP (z0 (QF Av) (q0 (z5 k6 (x9 1) (dC (.int 0))) (q0 (z5 k6 (x9 1) (dC (.int 1))) (q0 (z5 k6 (x9 1) (dC (.int 2))) (q0 (z5 k6 (x9 1) (dC (.int 3))) x8)))))))
  (sH (Vp 3 (wS K) we (p0 (wP (x6 0)) (p0 (wP (dC (.int 2))) qS)))
  (sH (qw 4 (zw 3 Vd ZU (p0 (wP (x6 1)) qS)))
  (sH (wFor (wItL (zw 3 Zs Xp (p0 (wP (x6 1)) (p0 (wP (x6 4)) qS)))) (w6 5) (sH (qw 6 (wP (c6 [none] [0] (b8 (x6 5)) (w6 0) c7 (z0 vT (q0 (x9 0) x8)))))
  (sH (wFor (wIp (zQ (q0 (dC (.int 7)) x8))) (w6 7) (zO (wPT (dT (z5 pNe (z0 (zR Av) (q0 (x6 2) (q0 (x6 6) (q0 (x6 7) x8)))) (p6 (q0 (dC (.bl true)) (q0 (dC (.bl true)) (q0 (dC (.bl false)) (q0 (dC (.bl false)) x8)))))))) (zm (wP (dC (.bl false)))) jy))
  (zO (wPT (dT (z5 pNe (x9 6) (x9 5)))) (zm (wP (dC (.bl false)))) jy))))
  (sH (qw 8 (wP (c6 [none,some 2,some 4] [0] (b8 (p6 (q0 (dC (.int 0)) (q0 (dC (.int 1)) (q0 (dC (.int 2)) (q0 (dC (.int 3)) (q0 (dC (.int 4)) (q0 (dC (.int 6)) x8)))))))) (w6 0) c7 (z0 (zR Av) (q0 (x6 1) (q0 (x6 2) (q0 (x6 0) x8)))))))
  (zm (wP (xX (z5 i5 (x9 8) (z5 pRep (p6 (q0 (p6 x8) x8)) (dC (.int 6)))) (z5 i5 (z0 (zR Av) (q0 (x6 2) (q0 (x6 4) (q0 (dC (.int 5)) x8)))) (p6 (q0 (dC (.bl false)) (q0 (dC (.bl true)) (q0 (dC (.bl true)) (q0 (dC (.bl false)) x8)))))))))))))))
def rZ:y8 ["script","parts","works","row","trays","some","handed","way","good"] ["script"] (j4 wZ):=u8
def NA :∀ ns:EH,ns.length<=63->GO K Av (.sh (scr K ns)::List.replicate ((["script","parts","works","row","trays","some","handed","way","good"]:C7).length-1) .no) (λ_=>False) λy _=>y = .at (.bl true):=by
 intro ns h63;have hlim:lim=1000000:=rfl;refine ⟨_,rfl,_,rfl,⟨ns,6,rfl,h63,by decide⟩,?_⟩;rintro _ ⟨d,z,m,_,rfl,ok,_⟩;refine ⟨d.ob Av,z6 (v6 (y7 rfl rfl rfl) (v6 (y7 rfl rfl rfl) (v6 (y7 rfl rfl rfl) (v6 (y7 rfl rfl rfl) rfl)))) (OL ok),?_⟩;refine ⟨_,rfl,_,rfl,⟨ns,2,rfl,h63,by decide,by decide⟩,?_⟩;rintro _ ⟨n,rfl⟩;refine ⟨⟨n,rfl⟩,_,rfl,⟨n,rfl⟩,⟨d,rfl,ok⟩,?_⟩;rintro _ n1 ⟨e,T,he,rfl,X0⟩;have X:sM d T:=by injection he with he _;exact ⟨by rw [Bg he];exact X0.perm,X0.each⟩
 have tl:=X.len ok;refine ⟨⟨n1,rfl⟩,_,rfl,_,rfl,⟨n1,rfl⟩,⟨d,T,rfl,ok,X⟩,?_⟩;rintro _ n2 ⟨e2,T2,Ls,he2,rfl,_,_,hL⟩;have ec:e2.cls=d.cls:=by injection he2 with h1 _;exact (Bg h1).symm
 refine ⟨Ls.map b7,rfl,?_⟩;refine QD (λrest ε=>(∀ x∈rest,∃ L,sG d L/\x=b7 L)/\∃(s5 s6 s7 s8:sN),ε=[.sh (scr K ns),.sh d.pv,.sh (d.ob Av),m6 n2,.sh (k7 T),s5,s6,s7,s8]) ?_ ?_ _ _ ⟨λx hx=>(by
  obtain ⟨L,h,rfl⟩:=yB.mp hx;exact ⟨L,(hL L h).of_cls ec,rfl⟩),_,_,_,_,rfl⟩
 .rintro ε ⟨_,s5,s6,s7,s8,rfl⟩;refine ⟨.lst (List.replicate 6 (.lst [])),?_,?_⟩
  .exact o9 (λi:Int=>PV.at (.int i)) (λ_=>PV.lst []) [0,1,2,3,4,6] rfl rfl l6 λi hi=>⟨_,rfl,z6 rfl ((DF ok X).trans (by
    simp only [yL,ye,or_false] at hi;rw [rq (by omega)]))⟩
  .refine ⟨.at (.bl true),zr (y7 rfl rfl ?_) (y7 (z6 rfl (DF ok X)) (xP rfl l4) ?_),rfl⟩
   .exact rfl
   .rw [rB rfl];exact PR (Ca _ _ _ _)
 .rintro x rest ε ⟨hx,s5,s6,s7,s8,rfl⟩;obtain ⟨L,o,rfl⟩:=hx x yR;have lm:=o.many;have keep:∀ x∈rest,∃ L,sG d L/\x=b7 L:=λx hx'=>hx x (yO _ hx');have pl:jR 6 (b7 L):=λy hy=>by
   obtain ⟨l,hl,rfl⟩:=yB.mp hy;exact λx hx=>(o.th l hl x hx).plain
  refine ⟨_,rfl,b7 L,o9 PV.lst PV.lst L rfl rfl (by omega) λl _=>⟨_,rfl,z6 rfl rfl⟩,?_⟩;refine ⟨_,wW (k:=7) rfl (by decide),?_⟩;refine QD (λrest ε=>(∀ x∈rest,∃ j:Int,x = .at (.int j))/\∃(s7:sN),ε=[.sh (scr K ns),.sh d.pv,.sh (d.ob Av),m6 n2,.sh (k7 T),.sh (b7 L),.sh (b7 L),s7,s8]) ?_ ?_ _ _ ⟨λx hx=>(by
   obtain ⟨j,_,rfl⟩:=yB.mp hx;exact ⟨_,rfl⟩),_,rfl⟩
  .rintro ε ⟨_,s7,rfl⟩;exact wc (i8 (v:=false) (y7 rfl rfl (WH pl))) ⟨keep,_,_,_,_,rfl⟩
  .rintro x rest ε ⟨hx,s7,rfl⟩;obtain ⟨j,rfl⟩:=hx x yR;refine ⟨_,rfl,wc (i8 (v:=false) (y7 (z6 rfl (OJ ok o)) (xP rfl l4) (WH (Ca _ _ _ _)))) ⟨λx hx'=>hx x (yO _ hx'),_,rfl⟩⟩
def Td (F:Fun K "law" "law" wZ f fd)(Q5:Fn P w K mg tM 11 "_law_heard" ["works","trays","way"] (v7 (zR Av)))(Z2:Fn P w K mg tM 2 "_law_odd" ["row","parts","trays"] (spD Zs Xp))(T9:Fn P w K mg tM 4 "_law_parts" ["script","most"] (spV (Zu K) Qk))(Ey:Fn P w K mg tM 2 "_law_stream" ["script","k"] (spN (wS K) we))(S1:Fn P w K mg tM 2 "_law_trays" ["row","parts"] (spD Vd ZU))(A8:mg "list"=none)(A4:mg "range"=none)(T4:mg "Works"=some (.ref Av))(T8:Mkr P w K mg tM 5 Av ["self","rinses","cloths","last","time"] (spI Av (QF Av))):sQ P w K mg tM v8 12 f fd ["script"] (ZD K) :=
 okL (k:=11) (b:=GO K Av) F rZ (λtH A tL s H E hr=>⟨_,(j6 (sW 1 rZ.nd (fW T9 hr (aC (pv 0) (aW z7))))
  (j6 (sW 2 rZ.nd (pe_mk T8 hr (by decide) rfl T4 (aC (iW K rfl (pv 1) z7) (aC (iW K rfl (pv 1) z7) (aC (iW K rfl (pv 1) z7) (aW (iW K rfl (pv 1) z7)))))))
  (j6 (sW 3 rZ.nd (fW Ey hr (aC (pv 0) (aW z7))))
  (j6 (sW 4 rZ.nd (fW S1 hr (aC (pv 3) (aW (pv 1)))))
  (j6 (zi PassesOwn.never rfl (@i7 _ K _ _ _ rfl (fW Z2 hr (aC (pv 3) (aC (pv 1) (aW (pv 4)))))) (gW 5 rZ.nd)
   (j6 (jt (i:=6) (N':=["tray"]) (tK:=[none]) (t6 rfl rfl rfl) rfl rZ.nd rfl rfl (@i7 _ K _ _ _ rfl (pv 5)) (λ_ _ _ _ _ _=>(tO (i:=0) ["tray"])) (λ_ _ _ _ _ _=>i9) (λ_ _ _ _ _ _=>(wN (VE K) rfl A8 vF (aW (pv 0)))))
  (j6 (zi PassesOwn.never rfl (vq rfl A4 (aW z7)) (gW 7 rZ.nd)
   (j9 (qb (qc (QQ K (qC hr) rfl) (fW Q5 hr (aC (pv 2) (aC (pv 6) (aW (pv 7))))) (@m8 _ _ _ _ (aC xH (aC xH (aC xH (aW xH))))) (m7 _)) (j9 (u6 xH)) qi)))
  (j9 (qb (qc (QQ K (qC hr) rfl) (pv 6) (pv 5) (m7 _)) (j9 (u6 xH)) qi)))))
  (j6 (jt (i:=8) (N':=["way","works","trays"]) (tK:=[none,some 2,some 4]) (t6 rfl rfl rfl) rfl rZ.nd rfl rfl (@i7 _ K _ _ _ rfl (@m8 _ _ _ _ (aC z7 (aC z7 (aC z7 (aC z7 (aC z7 (aW z7)))))))) (λ_ _ _ _ _ _=>(tO (i:=0) ["way","works","trays"])) (λ_ _ _ _ _ _=>i9) (λ_ _ _ _ _ _=>(fW Q5 hr (aC (pv 1) (aC (pv 2) (aW (pv 0)))))))
  (j9 (u6 (jQ (zU (xG K (qC hr) rfl) (pv 8) (u4 (PQ) (@m8 _ _ _ _ (aW (@m8 _ _ _ _ w9))) z7) (m7 _)) (vp (zU (xG K (qC hr) rfl) (fW Q5 hr (aC (pv 2) (aC (pv 4) (aW z7)))) (@m8 _ _ _ _ (aC xH (aC xH (aC xH (aW xH))))) (m7 _)))))))))))),
  (by repeat' first|infer_instance|(refine @Mi.instSemWSTSeqWSeq _ _ _ _ ?_ ?_)|(apply @Mi.instSemWSTForWForOfSemWIOfSemWG))⟩) NA
def Be (h:PySem.W.hasDictIn K C=true):(PySem.W.clsIn K C).isSome=true:=by
 unfold PySem.W.hasDictIn at h;cases e:PySem.W.clsIn K C with
 |none=>rw [e] at h;cases h
 |some cd=>rfl
def MF {T:Addr}{ob:Obj}{items:ED}{n:Nat}(hd:fd.defaults = .ref T)(q:K.lookup T=some ob)(hs:ob.data = .seq items n)(h:∀ us:C8,us.length=ps.length->∃ k:Option ED->Sem ET,bindArgs fd ⟨us,[]⟩=seqItems? fd.defaults >>= k/\k (some items)=pure (ps.zip us)):Binds K fd ps []:=λs us X hl=>by
 rw [yp] at hl ⊢;obtain ⟨k,e1,e2⟩:=h us hl;exact BindsTo.of_defaults hd (X _ _ q) hs e1 e2
abbrev so (f:Addr):Option (Option G1):=some (some (.ref f))
abbrev fO (oc:G1)(od:EG)(x q:Str)(st:Stmt)(dV kV dc pm:G1)(an:EG)(cd ct:G1)(sl:EO):Option Obj:=some ⟨oc,od,.func (PySem.W.fnOf x q (zC st) (qf st) (j4 st) dV kV dc pm an cd ct),sl⟩
def fnM (P:G3)(w:G5)(tM:Heap){k:Nat}(h:sQ P w K mg tM v8 k f fd ps sp)(a:mg x=some (.ref f))(kp:PySem.W.keepIn K (.ref f)=true)(b:Binds K fd ps []):Fn P w K mg tM k x ps sp:=⟨f,fd,h,a,kp,b⟩
def bi1 {p:Str}(F:Fun K x qual st f fd)(h:∀(kV doc pm:G1)(an:EG)(tH ct u:G1),bindArgs (PySem.W.fnOf x qual (zC st) (qf st) (j4 st) .none kV doc pm an tH ct) ⟨[u],[]⟩=pure [(p,u)]):Binds K fd [p] []:=F.binds λa b c d e g us hl=>match us,hl with|[_],_=>h a b c d e g _
def bi2 {p:Str}(F:Fun K x qual st f fd)(h:∀(kV doc pm:G1)(an:EG)(tH ct u v:G1),bindArgs (PySem.W.fnOf x qual (zC st) (qf st) (j4 st) .none kV doc pm an tH ct) ⟨[u,v],[]⟩=pure [(p,u),(q,v)]):Binds K fd [p,q] []:=F.binds λa b c d e g us hl=>match us,hl with|[_,_],_=>h a b c d e g _ _
structure Zt (P:G3)(w:G5)(K:Fg)(mg:AB)(tM h:Heap):Prop where
 X:K.In h
 G:h.Ns mainGlobals mg
def FG (K:Fg)(x:Str)(st:Stmt):Prop:=∃ f oc od kV dc pm an cd ct sl,PySem.W.nsIn K mainGlobals x=so f/\K.lookup f=fO oc od x x st .none kV dc pm an cd ct sl/\PySem.W.codeIn K cd x=true/\PySem.W.keepIn K (.ref f)=true
def FG.i {kV:G1}(a:PySem.W.nsIn K mainGlobals x=so f)(l:K.lookup f=fO oc od x x st .none kV dc pm an cd ct sl)(c:PySem.W.codeIn K cd x=true)(k:PySem.W.keepIn K (.ref f)=true):FG K x st:=⟨_,_,_,_,_,_,_,_,_,_,a,l,c,k⟩
def FM (K:Fg)(C:Addr)(x q:Str)(st:Stmt):Prop:=∃ f oc od kV dc pm an cd ct sl,PySem.W.findIn K (.ref C) x=so f/\PySem.W.isFn K (.ref f)=true/\K.lookup f=fO oc od x q st .none kV dc pm an cd ct sl/\PySem.W.codeIn K cd q=true/\PySem.W.keepIn K (.ref f)=true
def FM.i {kV:G1}(a:PySem.W.findIn K (.ref C) x=so f)(i:PySem.W.isFn K (.ref f)=true)(l:K.lookup f=fO oc od x q st .none kV dc pm an cd ct sl)(c:PySem.W.codeIn K cd q=true)(k:PySem.W.keepIn K (.ref f)=true):FM K C x q st:=⟨_,_,_,_,_,_,_,_,_,_,a,i,l,c,k⟩
abbrev BdA (x q:Str)(st:Stmt)(ps:C7):Prop:=∀(kV doc pm:G1)(an:EG)(tH ct:G1)(us:C8),us.length=ps.length->bindArgs (PySem.W.fnOf x q (zC st) (qf st) (j4 st) .none kV doc pm an tH ct) ⟨us,[]⟩=pure (ps.zip us)
section
variable{h:Heap}{k:Nat}
def fG (Z:Zt P w K mg tM h)(a:FG K x st)(H:∀{f fd},Fun K x x st f fd->sQ P w K mg tM v8 k f fd ps sp)(b:BdA x x st ps:=by intro _ _ _ _ _ _ us hl;first|exact (match us,hl with|[_],_=>rfl)|exact (match us,hl with|[_,_],_=>rfl)|exact (match us,hl with|[_,_,_],_=>rfl)|exact (match us,hl with|[_,_,_,_],_=>rfl)|exact (match us,hl with|[_,_,_,_,_],_=>rfl)):Fn P w K mg tM k x ps sp:=by obtain ⟨f,oc,od,kV,dc,pm,an,cd,ct,sl,a,l,c,kp⟩:=a;exact ⟨f,_,H (jK l c kp),PySem.W.mg_of Z.X Z.G a,kp,(jK l c kp).binds b⟩
def fM (Z:Zt P w K mg tM h)(kc:zP K C)(a:FM K C x q st)(H:∀{f fd},Fun K x q st f fd->sQ P w K mg tM v8 k f fd ps sp)(b:BdA x q st ps:=by intro _ _ _ _ _ _ us hl;first|exact (match us,hl with|[_],_=>rfl)|exact (match us,hl with|[_,_],_=>rfl)|exact (match us,hl with|[_,_,_],_=>rfl)|exact (match us,hl with|[_,_,_,_],_=>rfl)|exact (match us,hl with|[_,_,_,_,_],_=>rfl)):Mt P w K mg tM k C x ps sp:=by obtain ⟨f,oc,od,kV,dc,pm,an,cd,ct,sl,a,i,l,c,kp⟩:=a;exact ⟨f,_,H (jK l c kp),⟨a,i,kp⟩,kc.c,(jK l c kp).binds b⟩
end
def fGY {h:Heap}{k:Nat}(Z:Zt P w K mg tM h)(a:FG K x st)(H:∀{f fd},Fun K x x st f fd->sQ P w K mg tM (qN P w) k f fd ps sp)(b:BdA x x st ps:=by intro _ _ _ _ _ _ us hl;first|exact (match us,hl with|[_],_=>rfl)|exact (match us,hl with|[_,_],_=>rfl)|exact (match us,hl with|[_,_,_],_=>rfl)|exact (match us,hl with|[_,_,_,_],_=>rfl)|exact (match us,hl with|[_,_,_,_,_],_=>rfl)):Fy P w K mg tM k x ps sp:=by obtain ⟨f,oc,od,kV,dc,pm,an,cd,ct,sl,a,l,c,kp⟩:=a;exact ⟨f,_,H (jK l c kp),PySem.W.mg_of Z.X Z.G a,kp,(jK l c kp).binds b⟩
def FXI (K:Fg)(C R:Addr)(f q:Str)(st:Stmt):Prop:=∃ fI oc od kV dc pm an cd ct sl,PySem.W.findIn K (.ref C) "__init__"=so fI/\K.lookup fI=fO oc od "__init__" q st .none kV dc pm an cd ct sl/\PySem.W.codeIn K cd q=true/\PySem.W.keepIn K (.ref fI)=true/\PySem.W.isFn K (.ref fI)=true/\PySem.W.keepIn K (.ref C)=true/\PySem.W.findIn K (.ref C) "__setattr__"=some (some (.builtin "object.__setattr__"))/\PySem.W.findIn K (.ref C) f=some none/\jU K C R fI=true
def FXI.i {f:Str}{kV:G1}(a:PySem.W.findIn K (.ref C) "__init__"=so fI)(l:K.lookup fI=fO oc od "__init__" q st .none kV dc pm an cd ct sl)(c:PySem.W.codeIn K cd q=true)(k:PySem.W.keepIn K (.ref fI)=true)(i:PySem.W.isFn K (.ref fI)=true)(k2:PySem.W.keepIn K (.ref C)=true)(s:PySem.W.findIn K (.ref C) "__setattr__"=some (some (.builtin "object.__setattr__")))(n:PySem.W.findIn K (.ref C) f=some none)(x:jU K C R fI=true):FXI K C R f q st:=⟨_,_,_,_,_,_,_,_,_,_,a,l,c,k,i,k2,s,n,x⟩
def fXI {h:Heap}{f:Str}(Z:Zt P w K mg tM h)(g:mg x=some (.ref C))(a:FXI K C R f q st)(H:∀ {fI fd},Fun K "__init__" q st fI fd->jU K C R fI=true->PySem.W.findIn K (.ref C) "__setattr__"=some (some (.builtin "object.__setattr__"))->PySem.W.findIn K (.ref C) f=some none->sQ P w K mg tM v8 1 fI fd ps (Xc C f))(b:BdA "__init__" q st ps:=by intro _ _ _ _ _ _ us hl;first|exact (match us,hl with|[_],_=>rfl)|exact (match us,hl with|[_,_],_=>rfl)|exact (match us,hl with|[_,_,_],_=>rfl)|exact (match us,hl with|[_,_,_,_],_=>rfl)|exact (match us,hl with|[_,_,_,_,_],_=>rfl)):XMk P w K mg tM 1 x C f:=by obtain ⟨fI,oc,od,kV,dc,pm,an,cd,ct,sl,a,l,c,kp,i,k2,s,n,q⟩:=a;exact ⟨R,fI,_,_,q,i,k2,g,H (jK l c kp) q s n,(jK l c kp).binds b⟩
def all_mk {l:PySem.W.OpenLaw}{h:Heap}{fa f33 f58 f62:Addr}{od33 od58 od62 an33 an58 an62:EG}{sl33 sl58 sl62:EO}{oc33 oc58 oc62 kV33 kV58 kV62 dc33 dc58 dc62 pm33 pm58 pm62 ct33 ct58 ct62 cd58 cd62:G1}{cc33:Addr}{T58:Addr}{qc58 qv58_0 qv58_1:G1}{qd58:EG}{qn58:Nat}{qs58:EO}(X:K.In h)(TT:∀ P∈[89],h.get? P=some (PySem.W.tabObj #[]))(hTB:TABS=[(89,#[],[((⟨35,30,35,75⟩:Pos),("by_dues.<locals>.<lambda>":Str))])])(G:h.Ns mainGlobals mg)(hfa:mg "law"=some (.ref fa))(Y1:W.nsIn K mainGlobals "NoMove"=some (some (.ref Ax)))(Y3:W.nsIn K mainGlobals "NoName"=some (some (.ref A7)))(V8:W.nsIn K mainGlobals "NoPlan"=some (some (.ref Aw)))(S3:W.nsIn K mainGlobals "RinseError"=some (some (.ref A3)))(Z8:W.nsIn K mainGlobals "Works"=some (some (.ref Av)))(V6:FXI K Ax A3 "at" "NoMove.__init__" Vj)(Y6:PySem.W.plainGet K Av Str.empty=true)(Y4:PySem.W.hasDictIn K Av=true)(Y9:PySem.W.plainOver K Av=true)(Y8:W.findIn K (.ref Av) "__setattr__"=some (some (.builtin "object.__setattr__")))(Y7:PySem.W.makesIn K Av=true)(Z1:W.keepIn K (.ref Av)=true)(R9:W.findIn K (.ref Av) "given"=some none)(S9:W.findIn K (.ref Av) "held"=some none)(T3:W.findIn K (.ref Av) "last"=some none)(R7:W.findIn K (.ref Av) "least"=some none)(S2:W.findIn K (.ref Av) "time"=some none)(a0:FG K "_law_mixed" YS)(a1:FG K "_law_digit" Yx)(a2:FG K "_law_stream" Vl)(a3:FG K "_law_number" YX)(a4:FG K "_law_rinses" Ub)(a5:FG K "_law_names" YU)(a6:FG K "_law_cloth" Yv)(a7:FG K "_law_parts" YZ)(a8:FG K "is_whole" YK)(a9:FG K "name_of" YT)(a10:FG K "hue_of" YB)(a11:FG K "length_of" YQ)(a12:FG K "due_of" Yy)(a13:FG K "weight_of" Us)(a14:FG K "is_from" YE)(a15:FG K "is_name" YF)(a16:FG K "is_cloth" YD)(a17:FG K "is_rinse_row" YI)(a18:FG K "check_rinses" Ys)(a19:FG K "straight_ways" Uc)(a20:FG K "joined" YL)(a21:FG K "lesser" YR)(a22:FG K "ways_through" Ur)(a23:FG K "least_ways" YO)(a24:FG K "sums_of" Ud)(a25:FG K "least_rinses" YN)(a26:FG K "check_start" Yt)(a27:FG K "check_cloths" Yr)(a28:FM K Av "hues" "Works.hues" Yl)(a29:FM K Av "tray_rinse" "Works.tray_rinse" Yo)(a30:FM K Av "start" "Works.start" Yn)(a31:FM K Av "names" "Works.names" Ym)(a32:FG K "names_of" YV)(a33:W.nsIn K mainGlobals "by_dues"=so f33)(l33:K.lookup f33=fO oc33 od33 "by_dues" "by_dues" Vk .none kV33 dc33 pm33 an33 (.ref cc33) ct33 sl33)(c33:W.codeIn K (.ref cc33) "by_dues"=true)(k33:W.keepIn K (.ref f33)=true)(a34:FM K Av "cloths_in" "Works.cloths_in" Yj)(a35:FM K Av "due_row" "Works.due_row" Yk)(a36:FM K Av "cloth" "Works.cloth" Yi)(a37:FG K "are_names" Yq)(a38:FG K "is_plan" YH)(a39:FG K "cloths_of" Yw)(a40:FG K "tray_hue" Ug)(a41:FG K "is_of_one_hue" YG)(a42:FG K "are_full_lists" Yp)(a43:FG K "check_trays" Yu)(a44:FG K "due_rows" Yz)(a45:FG K "place_of" Ua)(a46:FG K "tray_without" Um)(a47:FG K "tray_moved" Uj)(a48:FG K "is_tray_move" YJ)(a49:FG K "tray_walked" Ul)(a50:FG K "next_move" YW)(a51:FG K "in_tray_order" YC)(a52:FG K "trays_to_dues" Uq)(a53:FG K "tray_length" Ui)(a54:FG K "tray_due" Ue)(a55:FG K "tray_rows" Uk)(a56:FG K "tray_end" Uf)(a57:FG K "tray_lateness" Uh)(a58:W.findIn K (.ref Av) "__init__"=so f58)(i58:W.isFn K (.ref f58)=true)(l58:K.lookup f58=fO oc58 od58 "__init__" "Works.__init__" wY (.ref T58) kV58 dc58 pm58 an58 cd58 ct58 sl58)(c58:W.codeIn K cd58 "Works.__init__"=true)(k58:W.keepIn K (.ref f58)=true)(q58:K.lookup T58=some ⟨qc58,qd58,.seq #[qv58_0,qv58_1] qn58,qs58⟩)(a59:FG K "_law_trays" Uo)(a60:FG K "_law_heard" YA)(a61:FG K "_law_odd" YY)(a62:W.nsIn K mainGlobals "law"=so f62)(l62:K.lookup f62=fO oc62 od62 "law" "law" wZ .none kV62 dc62 pm62 an62 cd62 ct62 sl62)(c62:W.codeIn K cd62 "law"=true)(k62:W.keepIn K (.ref f62)=true)(S8:W.nsIn K mainGlobals "ValueError"=some none)(Aae:W.nsIn K mainGlobals "all"=some none)(Aac:W.nsIn K mainGlobals "bool"=some none)(Aad:W.nsIn K mainGlobals "dict"=some none)(U2:W.nsIn K mainGlobals "enumerate"=some none)(Aaj:W.nsIn K mainGlobals "int"=some none)(S7:W.nsIn K mainGlobals "isinstance"=some none)(Aai:W.nsIn K mainGlobals "len"=some none)(Aab:W.nsIn K mainGlobals "list"=some none)(Aal:W.nsIn K mainGlobals "max"=some none)(Aah:W.nsIn K mainGlobals "min"=some none)(Z7:W.nsIn K mainGlobals "range"=some none)(Aag:W.nsIn K mainGlobals "set"=some none)(Y0:W.nsIn K mainGlobals "sorted"=some none)(Aaf:W.nsIn K mainGlobals "str"=some none)(Aam:W.nsIn K mainGlobals "sum"=some none)(Aaa:W.nsIn K mainGlobals "tuple"=some none)(Aak:W.nsIn K mainGlobals "zip"=some none)(R6:W.nsIn K mainGlobals "LONGEST_NAME"=some (some (.int 8 E4)))(R8:W.nsIn K mainGlobals "MOST_CLOTHS"=some (some (.int 10 J0)))(U1:W.nsIn K mainGlobals "MOST_HUES"=some (some (.int 4 N5)))(Z9:W.nsIn K mainGlobals "PARTS"=some (some (.int 5 S6)))(Q1:PySem.W.excIn K Aw [.type "ValueError",.type "Exception",.type "BaseException",.type "object"] "ValueError.__new__"=true)(V5:PySem.W.hasDictIn K Ax=true)(U4:W.findIn K (.ref Ax) "__getattribute__"=some (some (.builtin "BaseException.__getattribute__")))(V1:W.findIn K (.ref Ax) "__getattr__"=some none)(U8:W.findIn K (.ref Ax) "__class__"=some (some (.builtin "object.__class__")))(V0:PySem.W.mroIn K Ax (.type "object")=some true)(U5:PySem.W.mroIn K Ax (.type "BaseException")=some true)(V4:PySem.W.hasDictIn K Aw=true)(U9:W.findIn K (.ref Aw) "__getattribute__"=some (some (.builtin "BaseException.__getattribute__")))(U7:W.findIn K (.ref Aw) "__getattr__"=some none)(V3:W.findIn K (.ref Aw) "__class__"=some (some (.builtin "object.__class__")))(V2:PySem.W.mroIn K Aw (.type "object")=some true)(U6:PySem.W.mroIn K Aw (.type "BaseException")=some true)(usp:PySem.W.specialIn K (.builtin "object.__class__") "__get__"=some (some (.builtin "getset_descriptor.__get__")))(utk:PySem.W.takesIn K (.builtin "object.__class__")=some true)(D2:PySem.W.exmOne K (.ref Aw) (.ref A3)=some true)(Ee:PySem.W.kitOne K (.ref Aw) (.ref Aw)=some true)(E9:PySem.W.kitOne K (.ref Aw) (.type "ValueError")=some true)(Eb:PySem.W.kitOne K (.ref Aw) (.ref Ax)=some false)(Ei:PySem.W.kitOne K (.ref Aw) (.ref A7)=some false)(D3:PySem.W.exmOne K (.ref Ax) (.ref A3)=some true)(Ec:PySem.W.kitOne K (.ref Ax) (.ref Aw)=some false)(E7:PySem.W.kitOne K (.ref Ax) (.type "ValueError")=some true)(Ej:PySem.W.kitOne K (.ref Ax) (.ref Ax)=some true)(Ed:PySem.W.kitOne K (.ref Ax) (.ref A7)=some false)(hC33:PySem.W.codeHdIn K cc33 89=true)(o33:K.lookup 89=none):∃ fd:FuncData,(∀ (s:G2) (v:G1),BindsTo s fd ⟨[v],[]⟩ [("script",v)])/\Qq K h/\∀ tM:Heap,K.In tM->tM.Ns mainGlobals mg->sQ l.prog w K mg tM v8 12 fa fd ["script"] (ZD K):=by
 have e:=hfa.symm.trans (oJ X G a62);cases e;have J4:=oK X G S8;have D8:=oK X G Aae;have U3:=oK X G Aac;have J7:=oK X G Aad;have A9:=oK X G U2;have Z0:=oK X G Aaj;have Ay:=oK X G S7;have Az:=oK X G Aai;have A8:=oK X G Aab;have V9:=oK X G Aal;have V7:=oK X G Aah;have A4:=oK X G Z7;have Z3:=oK X G Aag;have J2:=oK X G Y0;have S0:=oK X G Aaf;have N1:=oK X G Aam;have S5:=oK X G Aaa;have Q2:=oK X G Aak;have Eu:=oJ X G R6;have Id:=oJ X G R8;have N3:=oJ X G U1;have S4:=oJ X G Z9;have Q4:=oJ X G Y1;have R1:=oJ X G Y3;have E2:=oJ X G V8;have N0:=oJ X G S3;have T4:=oJ X G Z8;have J3:zx K Ax:=⟨Be V5,U4,V1,U8,usp,utk,V0,U5⟩;have J1:zx K Aw:=⟨Be V4,U9,U7,V3,usp,utk,V2,U6⟩;have J9:zP K Av:=⟨⟨Y6,Y4,Y9,Y8⟩⟩;have Y5:xh K Av "given":=⟨R9⟩;have Z5:xh K Av "held":=⟨S9⟩;have Z6:xh K Av "last":=⟨T3⟩;have Y2:xh K Av "least":=⟨R7⟩;have Z4:xh K Av "time":=⟨S2⟩;have F33:=jK (st:=Vk) l33 c33 k33;have F58:=Ng (st:=wY) l58 c58 k58;have F62:=jK (st:=wZ) l62 c62 k62;have b33:=bi1 (p:="cloths") F33 λ_ _ _ _ _ _ _=>rfl;have b58:Binds K (W.fnOf "__init__" "Works.__init__" (zC wY) (qf wY) (j4 wY) (.ref T58) kV58 dc58 pm58 an58 cd58 ct58) ["self","rinses","cloths","last","time"] []:=MF (T:=T58) rfl q58 rfl λus hl=>match us,hl with|[_,_,_,_,_],_=>⟨_,rfl,rfl⟩
 have tB33:(89,#[],[((⟨35,30,35,75⟩:Pos),("by_dues.<locals>.<lambda>":Str))])∈TABS:=by rw [hTB];simp
 have TK:Qq K h:=by
  have hd33:=PySem.W.codeHd_of_K X hC33;refine ⟨λp hp=>?_,λp hp=>?_,λp hp q hq=>?_,λp hp=>?_,λp hp q hq e=>?_,λp hp=>?_⟩<;>rw [hTB] at hp<;>(try rw [hTB] at hq)<;>simp only [yL,ye,or_false] at hp
  .rcases hp with rfl
   .exact TT 89 (by simp)
  .rcases hp with rfl
   .exact trivial
  .rcases hp with rfl
   .rfl
  .rcases hp with rfl
   .exact (hd33.tab (TT 89 (by simp))).isCodeTable
  .simp only [yL,ye,or_false] at hq;rcases hp with rfl<;>rcases hq with rfl<;>first|rfl|exact rp e (by decide)
  .rcases hp with rfl
   .exact o33
 refine ⟨W.fnOf "law" "law" (zC wZ) (qf wZ) (j4 wZ) .none kV62 dc62 pm62 an62 cd62 ct62,λs v=> .of_eq rfl,TK,λtM _ _=>?_⟩;have Z:Zt l.prog w K mg tM h:=⟨X,G⟩;have R5:XMk l.prog w K mg tM 1 "NoMove" Ax "at":=fXI (st:=Vj) Z Q4 V6 λF q s n=>Rs F q s n;have Q3:=fG Z a0 λF=>Ti F;have A0:=fG Z a1 λF=>RL F;have Ey:=fG Z a2 λF=>Tv F Q3 Az A4 N1;have Eh:=fG Z a3 λF=>Tn F A0;have R0:=fG Z a4 λF=>Tr F A0 Eh A4;have T7:=fG Z a5 λF=>Tk F A0 Az A4;have U0:=fG Z a6 λF=>RJ F A0 Eh;have T9:=fG Z a7 λF=>Tp F U0 A0 T7 Eh R0 Ey;have B6:=fG Z a8 λF=>Tb F U3 Z0 Ay;have A6:=fG Z a9 λF=>Tj F;have B5:=fG Z a10 λF=>RQ F;have Ea:=fG Z a11 λF=>Tg F;have Ef:=fG Z a12 λF=>RN F;have N2:=fG Z a13 λF=>TU F;have D7:=fG Z a14 λF=>RV F B6;have Q9:=fG Z a15 λF=>RW F D8 Ay Az S0 Eu;have N7:=fG Z a16 λF=>RU F Ef B5 D7 Q9 B6 Ea A6 N2 Ay Az S5 S4;have E1:=fG Z a17 λF=>RZ F B6 D8 Ay Az A8;have Ew:=fG Z a18 λF=>RG F E1 D8 Ay Az A8 N3;have Et:=fG Z a19 λF=>Tu F A9;have R4:=fG Z a20 λF=>Tc F;have R3:=fG Z a21 λF=>Th F;have E5:=fG Z a22 λF=>TR F R4 R3 Q2;have J8:=fG Z a23 λF=>Tf F Et E5 Az A4;have Q6:=fG Z a24 λF=>Tx F;have E3:=fG Z a25 λF=>Te F Ew J8 Q6;have E8:=fG Z a26 λF=>RH F D7;have Ex:=fG Z a27 λF=>RF F N7 A6 Az Id;have B7:=fM (sp:=(v7 (vj Av))) Z J9 a28 λF=>Rw F Az;have D9:=fM (sp:=(v7 (QG Av))) Z J9 a29 λF=>RA F;have B8:=fM (sp:=(v7 (wF Av))) Z J9 a30 λF=>Rz F;have B9:=fM (sp:=(qa (wE Av))) Z J9 a31 λF=>Ry F J2;have Q0:=fG Z a32 λF=>Tl F A6;have Q8:=fnM l.prog w tM (RE F33 Ef A6 J2 rfl (λ_ X2=>PySem.W.codeHd_of_K X2 hC33) tB33) (oJ X G a33) k33 b33;have Eg:=fM (sp:=(qa (XR Av))) Z J9 a34 λF=>Ru F B5;have Eo:=fM (sp:=(qa (QE Av))) Z J9 a35 λF=>Rv F Q8 Q0 Eg;have D1:=fM (sp:=(v7 (wD Av))) Z J9 a36 λF=>Rt F Ay S0;have N4:=fG (sp:=(v7 (QH Av))) Z a37 λF=>RC F D8 Ay Az A8 Z3 B9;have Q7:=fG (sp:=(v7 (jm Av))) Z a38 λF=>RY F N4 Az B9;have B3:=fG (sp:=(v7 (vm Av))) Z a39 λF=>RK F D1;have B4:=fG (sp:=(v7 (jn Av))) Z a40 λF=>TB F B5 D1;have Em:=fG (sp:=(v7 (vR Av))) Z a41 λF=>RX F B3 B5 B4 D8;have Ek:=fG Z a42 λF=>RB F D8 Ay Az A8;have A5:=fGY (sp:=(qZ (xM Av) (jA Aw Av))) Z a43 λF=>RI F Ek Em Q7 D8 N1 E2 Q1;have N6:=fG (sp:=(qa (QI Av))) Z a44 λF=>RO F A4 Eo B7;have D5:=fG Z a45 λF=>Tq F A9;have Ez:=fG Z a46 λF=>TM F;have D6:=fG Z a47 λF=>TF F Ez;have Ev:=fG (sp:=(v7 (zS Av))) Z a48 λF=>Ta F D5 B4 Az;have El:=fGY (sp:=(qZ (QK Av) (Qc Ax Aw Av))) Z a49 λF=>TJ F A5 Ev D6 A9 A8 R5;have D4:=fG (sp:=(v7 (vn Av))) Z a50 λF=>Tm F N6 D5 Q2;have En:=fGY (sp:=(qZ (XS Av) (ZM Aw Av))) Z a51 λF=>RT F A5 D4;have Ep:=fGY (sp:=(ju (QL Av) (ZP Aw Av))) Z a52 λF=>TQ F A5 D4 D6;have E6:=fG (sp:=(v7 (QJ Av))) Z a53 λF=>TD F B3 Ea N1;have N9:=fG (sp:=(v7 (XZ Av))) Z a54 λF=>Ty F B3 Ef V7;have B0:=fGY (sp:=(ju (jo Av) (vA Aw Av))) Z a55 λF=>TH F A5 B4 E6 B8 D9;have N8:=fGY (sp:=(qZ (Za Av) (ZN Aw Av))) Z a56 λF=>Tz F B0 B8;have Es:=fGY (sp:=(qZ (Zb Av) (ZO Aw Av))) Z a57 λF=>TC F N9 B0 V9 Q2;have T8:Mkr l.prog w K mg tM _ Av _ (spI Av (QF Av)):=⟨_,_,Rx F58 Ex E8 E3 A6 J7 A8 B7,⟨Y7,a58,i58,Z1⟩,b58⟩;have S1:=fG Z a59 λF=>TN F A0 J7 Az A4;have Q5:=fG (sp:=(v7 (zR Av))) Z a60 λF=>RP F En N8 Es B0 El Ep J4 Ay Q4 R1 E2 N0 J3 J1 D2 Ee E9 Eb Ei D3 Ec E7 Ej Ed;have Z2:=fG Z a61 λF=>To F A0 J7 Az A4;exact Td F62 Q5 Z2 T9 Ey S1 A8 A4 T4 T8
def walk {l:PySem.W.OpenLaw}{q:G3}{loose:C7}{XP:(AB)->Heap->Prop}{YP:G5->Heap->Prop}{d:DefRec}{K:Params->Fg}(hn:l.most=some 63)(hdf:d.params.defaults=[])(hY:∀ (w:G5) (h:Heap),YP w h->(K w.params).In h)(F:∀ (w:G5) (mg:AB) (fa:Addr) (h:Heap),YP w h->(K w.params).In h->h.Ns mainGlobals mg->mg d.name=some (.ref fa) -> ∃ fd:FuncData,(∀ (s:G2) (u:G1),BindsTo s fd ⟨[u],[]⟩ [("script",u)])/\Qq (K w.params) h/\∀ tM:Heap,(K w.params).In tM->tM.Ns mainGlobals mg->sQ l.prog w (K w.params) mg tM v8 12 fa fd ["script"] (ZD (K w.params))):PySem.W.WalkO q loose XP YP l.row.toRowW d [] (λf vs=>PySem.call f vs) :=
 L2.Al (n:=63) (k:=12) (x:="script") (CX:=λ_=>v8) (sp:=λw=>ZD (K w.params)) hn (by decide) hdf ⟨rfl,by decide,by decide⟩ hY F (λ_ _ a ns hl _ hS=>⟨a,ns,rfl,hS,hl,λ_=>rfl⟩) λ_ _ _ _ _ z=>z
end Lw
open PySem PySem.W PyProof.Rows
set_option maxRecDepth 100000 in
set_option maxHeartbeats 0 in
theorem PySem.Challenge.cw_rinsework_k64_no_trayed_plans_holds : PySem.Challenge.rw_rinsework_k64_no_trayed_plans.Holds := by
  w_on; o_law; k_head; (case hw => w_witness2)
  k_fill
  refine Lw.walk (l := PySem.Challenge.rw_rinsework_k64_no_trayed_plans) rfl rfl (λw h Y => PySem.W.km_in_of Y) ?F
  case F =>
    intro w mg fa h Y KX G hmg
    apply Lw.all_mk KX (PySem.W.km_tabs_of Y) rfl G hmg
    iterate 5 k_is
    iterate 1 (apply Lw.FXI.i;(iterate 8 k_is);kernel_rfl)
    iterate 11 k_is
    iterate 28 (apply Lw.FG.i;iterate 4 k_is)
    iterate 4 (apply Lw.FM.i;iterate 5 k_is)
    iterate 1 (apply Lw.FG.i;iterate 4 k_is)
    iterate 4 k_is
    iterate 3 (apply Lw.FM.i;iterate 5 k_is)
    iterate 21 (apply Lw.FG.i;iterate 4 k_is)
    iterate 6 k_is
    iterate 3 (apply Lw.FG.i;iterate 4 k_is)
    iterate 26 k_is
    iterate 1 k_exc
    iterate 14 k_is
    iterate 1 kts_exm
    iterate 4 kit_is
    iterate 1 kts_exm
    iterate 4 kit_is
    iterate 2 kernel_rfl
