import PyProof.Rows.All
import Wide.All
import OpenK.AllK
import Wide.FinOn
import Lean
import PyProof.EqAt
import PyProof.EqKinds
import PyProof.TupleCall
import PyProof.Rows.SetFrom
import PyProof.SetRoads
import PyProof.TableTree
import PyProof.FactsTree
import KE.KDictSum
import PyProof.WalksMore
import PyProof.Rows.SortStr
import PyProof.DictUpdate
import PyProof.ZipIter
import PyProof.Draws
import PyProof.Rows.FactsT2
import PyProof.EnumMake
import PyProof.Rows.EnumRows
import KE.KTupSum
import PyProof.Rows.SumAny
import PyProof.DictItemsLoops
import KE.KPairComp
import KE.KEqDict
import PyProof.Rows.Range3
import PyProof.TupleOfSeq
import PyProof.AttrMissSeq
import KE.KDictOf
import PyProof.Rows.StrJoin2
import PyProof.Rows.StrOrd
import PyProof.Rows.StrInSeq3
import PyProof.Rows.StrNews
import PyProof.Rows.StrSplit
import PyProof.Rows.StrSplitAre
import PyProof.StrCalls
import PyProof.Rows.StrNews2
import PyProof.Rows.FStrParts
import PyProof.ListStr
import KE.KRevIter
import PyProof.ListRange
import PyProof.ListMulAny
import PyProof.ExcClass3
import PyProof.ExcInit
import PyProof.StationsW
import OpenK.KMake
import PyProof.InstStore
import PyProof.ExcArgsOwn
import OpenK.KOwn
import PyProof.ExcBaseAll.ValueError
import PyProof.InstStoreFacts
import PyProof.NsDelKeeps
import PyProof.IsiH_list
import KE.KIsAll
import KE.RegKIsAll
import PyProof.Rows.StrSplitCount
import PyProof.Rows.StrLawsPart
import PyProof.StrLawsTight
import PyProof.StrLawsLast
import PySem.Challenge.RW_cuebook_k73_rows_refused
set_option Elab.async false
set_option linter.all false
set_option maxRecDepth 100000
noncomputable section
local macro_rules
|`(nofun)=>`(by decide)
|`(⋯)=>`(by omega)
abbrev OA:=PySem.Value->PySem.Shared->Prop
abbrev OC:=List (PySem.Addr×PySem.Obj)
abbrev OD:=List PySem.Str
abbrev OE:=PySem.W.Frag
abbrev OH:=List PySem.Value
abbrev OI:=PySem.Str->Option PySem.Value
abbrev OJ:=List Nat
abbrev OM:=Array PySem.Value
abbrev OP:=List PySem.Expr
abbrev OT:=List PySem.Addr
abbrev OU:=Unit->PySem.Shared->Prop
abbrev OV:=List PySem.Stmt
abbrev OZ:=List PySem.Env
abbrev Oq:=Option Int
abbrev Ou:=Nat->PySem.Addr
abbrev Ow:=List Int
abbrev Ox:=List (PySem.Str×PySem.Value)
abbrev Oy:=Option PySem.Addr
abbrev O0:=List Bool
abbrev O5:=List (PySem.Str×PySem.NameKind)
abbrev O6:=List (Bool×PySem.Addr)
abbrev PB:=Option PySem.Value
abbrev PH:=PySem.Str->Option PySem.NameKind
abbrev PJ:=Array (Option PySem.Value)
abbrev PL:=Option PySem.Value->PySem.Shared->Prop
abbrev PM:=List (PySem.Str×Int)
abbrev PP:=Option Bool
abbrev PR:=List (PySem.Str×PySem.Addr)
abbrev Jm:=@List.length_map
abbrev Jn:=@PySem.wpAny_bind
abbrev Jo:=@List.length_append
abbrev Jp:=@PySem.Heap.get?_push_of_some
abbrev Jq:=@List.mem_cons_self
abbrev Jr:=@List.getElem?_eq_getElem
abbrev Js:=@Option.some.inj
abbrev Jt:=@List.mem_cons_of_mem
abbrev Ju:=@PySem.Heap.lt_size
abbrev Jv:=@PySem.wpAny_pure
abbrev Jw:=@Nat.le_refl
abbrev Jx:=@PySem.Heap.get?_push_size
abbrev Jy:=@Nat.le_trans
abbrev Jz:=@List.size_toArray
abbrev JA:=@decide_eq_false
abbrev JB:=@List.mem_append_right
abbrev JC:=@List.getElem?_set_ne
abbrev JD:=@decide_eq_true
abbrev JE:=@List.length_drop
abbrev JF:=@Bool.false_ne_true
abbrev JG:=@Bool.and_eq_true
abbrev JH:=@List.getElem?_map
abbrev JI:=@Nat.ne_of_lt
abbrev JJ:=@List.length_singleton
abbrev JK:=@List.getElem?_set
abbrev JL:=@Nat.lt_of_lt_of_le
abbrev JM:=@PySem.wpAny_mono
abbrev JN:=@PySem.wpAny_loadPart_at
abbrev JO:=@PySem.Heap.get?_update_other
abbrev JP:=@List.lookup_cons
abbrev JQ:=@List.length_take
abbrev JR:=@congrArg
abbrev JS:=@Classical.byContradiction
abbrev JT:=@List.map_append
abbrev JU:=@List.mem_append_left
abbrev JV:=@List.length_range
abbrev JW:=@PySem.Heap.get?_update_self
abbrev JX:=@List.mem_of_mem_take
abbrev JY:=@List.mem_of_getElem?
abbrev JZ:=@List.append_nil
abbrev J8:=@Int.emod_lt_of_pos
abbrev J9:=@Bool.false_eq_true
abbrev J_:=@PySem.wpAny_field
abbrev Ka:=@List.not_mem_nil
abbrev Kb:=@Int.emod_nonneg
abbrev Kc:=@List.mem_of_mem_drop
abbrev Kd:=@PySem.W.kia_one
abbrev Ke:=@List.length_set
abbrev Kf:=@List.getElem_mem
abbrev Kg:=@List.append_assoc
abbrev Kh:=@Array.getElem?_setIfInBounds_ne
abbrev Ki:=@List.getElem?_append_right
abbrev Kj:=@List.getD_eq_getElem?_getD
abbrev Kk:=@List.map_map
abbrev Kl:=@List.all_cons
abbrev Km:=@PySem.wpAny_newObj_type
abbrev Kn:=@List.mem_cons
abbrev Ko:=@List.take_of_length_le
abbrev Kq:=@Array.length_toList
abbrev Kr:=@List.getElem?_append_left
abbrev Ks:=@Nat.zero_le
abbrev Kt:=@List.all_eq_true
abbrev Ku:=@PySem.wpAny_passesOwn
abbrev Kv:=@PyProof.Rows.callWith_type1
abbrev Kw:=@Prod.mk.inj
abbrev Kx:=@List.filterMap_cons
abbrev Ky:=@PySem.F.plainAttrs_str
abbrev Kz:=@PySem.F.excBase_ValueError
abbrev KA:=@Nat.le_succ
abbrev KB:=@of_decide_eq_true
abbrev KC:=@PySem.wpAny_holding
abbrev KD:=@PySem.wpAny_Call_Name_kw
abbrev KF:=@PyProof.Rows.slot_tuple_getitem
abbrev KG:=@Nat.le_of_lt
abbrev KI:=@Nat.lt_irrefl
abbrev KJ:=@PySem.wpAny_truthy_bool
abbrev KK:=@PySem.PassesOwn.never
abbrev KL:=@List.set_cons_zero
abbrev KM:=@List.set_cons_succ
abbrev KN:=@PySem.wpAny_standAt
abbrev KO:=@PySem.wpAny_callSpecial?_slot
abbrev KP:=@PySem.Heap.size_push
abbrev KQ:=@decide_eq_true_eq
abbrev KR:=@PySem.W.kitx_dict
abbrev KS:=@Int.toNat_natCast
abbrev KU:=@PySem.F.excAttr_ValueError
abbrev KW:=@PySem.wpAny_execs_nil
abbrev KY:=@PySem.sizeLine_eq
abbrev KZ:=@List.drop_eq_getElem_cons
abbrev K0:=@Array.getElem?_eq_getElem
abbrev K1:=@PySem.mem_of_lookup
abbrev K2:=@List.map_congr_left
abbrev K3:=@PySem.F.slot_tuple_iterator_next
abbrev K4:=@or_false
abbrev K5:=@PySem.wpAny_setField
abbrev K6:=@List.pairwise_singleton
abbrev K7:=@List.map_take
abbrev K8:=@List.find?_cons
abbrev K9:=@List.any_cons
abbrev K_:=@PySem.wpAny_call_entry
abbrev La:=@PySem.codeAny_mono
abbrev Lb:=@PySem.AutoSeq1.wpAny_loadPart'
abbrev Lc:=@List.getElem?_set_self
abbrev Ld:=@Bool.false_and
abbrev Le:=@PySem.codeAny_builtin
abbrev Lf:=@PySem.Obj.data_mapFields
abbrev Lg:=@List.map_id'
abbrev Lh:=@List.all_map
abbrev Li:=@Classical.choose_spec
abbrev Lj:=@PySem.wpAny_execs_cons
abbrev Lk:=@PySem.codeAny_call_builtin
abbrev Ll:=@PySem.W.callWith_K
abbrev Lm:=@Int.zero_add
abbrev Ln:=@List.take_succ
abbrev Lo:=@PySem.typeIs_str
abbrev Lp:=@PySem.W.kitx_list
abbrev Lq:=@PySem.F.args_tuple_add_2
abbrev Lr:=@Nat.lt_succ_of_lt
abbrev Ls:=@List.reverse_cons
abbrev Lu:=@List.flatten_cons
abbrev Lv:=@Bool.not_eq_true'
abbrev Lw:=@Array.size_setIfInBounds
abbrev Lx:=@decide_eq_false_iff_not
abbrev Ly:=@PySem.F.entry_tuple_add
abbrev Lz:=@List.map_drop
abbrev LA:=@Int.le_refl
abbrev LB:=@Bool.true_and
abbrev LC:=@beq_self_eq_true
abbrev LD:=@PySem.wpAny_typeOf
abbrev LF:=@PySem.wpAny_setField_rec
abbrev LG:=@PySem.Code.quiet_builtin
abbrev LH:=@List.drop_length
abbrev LI:=@PySem.wpAny_seqItems
abbrev LJ:=@PySem.W.cellsFrom_some
abbrev LK:=@PySem.F.slot_tuple_add
abbrev LL:=@List.drop_eq_nil_of_le
abbrev LM:=@PySem.wpAny_pyIter_list
abbrev LN:=@Nat.ne_of_gt
abbrev LO:=@Nat.min_eq_left
abbrev LP:=@List.take_append_drop
abbrev LQ:=@List.of_mem_zip
abbrev LR:=@List.length_replicate
abbrev LS:=@Bool.eq_iff_iff
abbrev LU:=@Array.getElem?_toList
abbrev LV:=@List.drop_zero
abbrev LW:=@List.drop_left
abbrev LX:=@List.zipIdx_map_fst
abbrev LY:=@List.replicate_succ
abbrev LZ:=@List.length_reverse
abbrev L0:=@if_false
abbrev L1:=@PySem.StrLaws.glued_eq_join
abbrev L3:=@PySem.Obj.isFreed_of_fields
abbrev L4:=@PySem.F.typeOf_object_class
abbrev L5:=@Nat.lt_of_le_of_lt
abbrev L6:=@List.set_eq_take_append_cons_drop
abbrev L7:=@List.getElem_range
abbrev L8:=@List.contains_cons
abbrev L9:=@List.cons.inj
abbrev L_:=@Bool.not_true
abbrev Ma:=@PySem.call_meets
abbrev Mb:=@beq_iff_eq
abbrev Mc:=@PySem.Around.under_plainId
abbrev Me:=@PySem.wpAny_isSubtype_exc
abbrev Mf:=@PySem.Heap.SameBut.update
abbrev Mg:=@PySem.tupleKind_room_in1
abbrev Mh:=@PySem.F.args_str_split_2
abbrev Mi:=@PySem.wpAny_rule
abbrev Mj:=@PySem.wpAny_call
abbrev Mk:=@PySem.F.entry_str_split
universe u v
theorem Jc{α:Type u}{a:α}{l:List α}:(a::l)[0]?=some a:=rfl
theorem Jd{α:Type u}{β:Type v}(a:α)(f:α->Option β):(some a).bind f=f a:=rfl
variable{i:Nat}
theorem Je{α:Type u}{a:α}{l:List α}:(a::l)[i+1]?=l[i]?:=rfl
theorem Jf{α:Type u}{β:Type v}(a:α)(f:α->β):(some a).map f=some (f a):=rfl
theorem Jg{α:Type u}{a:α}{as:List α}:(a::as).length=as.length+1:=rfl
theorem Jh{α:Type u}:([]:List α).length=0:=rfl
theorem Ji{α:Type u}{β:Type v}{f:α->β}{a:α}{l:List α}:(a::l).map f=f a::l.map f:=rfl
theorem Jj{α:Type u}{β:Type v}{f:α->β}:[].map f=([]:List β):=rfl
theorem Jk{α:Type u}{a:α}{as bs:List α}:a::as++bs=a::(as++bs):=rfl
theorem Jl{α:Type u}(as:List α):[]++as=as:=rfl
namespace L2
open PySem PySem.Spec PyProof.Rows
open PySem PySem.Spec PyProof.Rows
open PySem PySem.Spec PyProof.Rows
open PySem PySem.Spec PyProof.Rows
open PySem PySem.Spec PyProof.Rows
open PySem PySem.Spec PyProof.Rows
open PySem PySem.Spec PyProof.Rows
open PySem PySem.Spec PyProof.Rows
open PySem PySem.Spec PyProof.Rows
open PySem PySem.Spec PyProof.Rows
open PySem PyProof.Rows
open PySem.SeqAt
open PySem.AutoSeq1
open PySem.MeetsSeq PySem.MeetsSeq2 PySem.MeetsSeq3
open PySem PySem.Spec PyProof.Rows
open PySem PySem.Spec PyProof.Rows
open PySem PySem.Spec PyProof.Rows
open PySem PySem.W PySem.Calls PyProof.Rows
open PySem PySem.Spec PyProof.Rows
open PySem PySem.Spec PyProof.Rows
open PySem PySem.Spec PyProof.Rows
def kd(s:Stmt)(j:Nat):Stmt:=match s with
 |.ClassDef _ _ _ body _ _ _ _ _ _ _=>body.getD j (.Pass ⟨0,0,0,0⟩)
 |_=>.Pass ⟨0,0,0,0⟩
def md(s:Stmt):Arguments:=match s with
 |.FunctionDef _ a _ _ _ _ _ _ _ _=>a
 |_=>{ posonlyargs:=[],args:=[],vararg:=none,kwonlyargs:=[],kw_defaults:=[],kwarg:=none,defaults:=[] }
def ei(s:Stmt):List Stmt:=match s with
 |.FunctionDef _ _ b _ _ _ _ _ _ _=>b
 |_=>[]
def ak(s:Stmt):Scope:=match s with
 |.FunctionDef _ _ _ _ _ _ sc _ _ _=>sc
 |_=>{ kind:=.function,names:=[],isGenerator:=false,isCoroutine:=false }
end L2
namespace L2.Cu
open PySem PySem.W PySem.Calls PyProof.Rows PySem.Spec
abbrev wC(p q:Program)(loose:OD)(Xt:Shared->Bool){α:Type}(Yf:Shared->α)(a:α)(N:Nat):Prop:=∀(w:World) (os:OsState),
 (PySem.W.Fast.tw14082659384304107361 PySem.W.Fast.tw14364793385576792824 p w 11 (some (.ref 6)) N ⟨boot_heap w.params,Array.mk [],boot_drawn,boot_toks,os⟩ (topStub p)).map
  (fun s=>(staticsOk (importedModules p.main.body) (boot_heap w.params) s.heap && namesBound p s.heap && gensDone s && laidKept (boot_heap w.params) s.heap,
   PySem.W.Fast.tw4187177175401517315 q loose (importedModules p.main.body) Xt true s,Yf s))=some (true,openGood q loose,a)
def KH(h:Heap):Frag:=(List.range h.objs.size).filterMap fun a=>match h.get? a with
 |some o=>if o.cls == Value.type "list" then none else some (a,o)
 |none=>none
def dP(s:Stmt):Str:=match s with
 |.FunctionDef n _ _ _ _ _ _ _ _ _=>n
 |_ => ""
abbrev ff(p:Program)(i:Nat):Stmt:=p.main.body.getD i (.Pass ⟨0,0,0,0⟩)
def EJ(fd:FuncData):FuncData:={ fd with kwdefaults:=.none,doc:=.none,pyModule:=.none,annotations:=none,code:=.none,closureTuple:=.none }
def DL(K:Frag)(qual:Str)(f:Addr):Option (FuncData×Bool×Bool):=match K.lookup f with
 |some ⟨_,_,.func fd,_⟩=>some (EJ fd,codeIn K fd.code qual,keepIn K (.ref f))
 |_=>none
def BG(K:Frag)(st:Stmt):Option (FuncData×Bool×Bool):=match nsIn K mainGlobals (dP st) with
 |some (some (.ref f))=>DL K (dP st) f
 |_=>none
abbrev BH(x qual:Str)(st:Stmt):Option (FuncData×Bool×Bool):=some (fnOf x qual (md st) (ei st) (ak st) .none .none .none .none none .none .none,true,true)
def GO:Option (Option Value)->Option (Option Value)
 |some (some (.int n _))=>some (some (.int n 0))
 |x=>x
abbrev l7(p:Program)(ds:OJ)(zs:OD)(cs:PM){β:Type}(mo:Frag->β)(K:Frag):=(ds.map fun i=>BG K (ff p i),zs.map (nsIn K mainGlobals),(cs.map fun c=>GO (nsIn K mainGlobals c.1)),mo K)
abbrev uW(p:Program)(ds:OJ)(zs:OD)(cs:PM){β:Type}(mb:β):=((ds.map fun i=>BH (dP (ff p i)) (dP (ff p i)) (ff p i)),(zs.map fun _=>some none:List (Option (Option Value))),(cs.map fun c=>(some (some (.int c.2 0)):Option (Option Value))),mb)
abbrev kR(p:Program):List Str:=(p.main.scope.names.map (·.1)).filter fun x => !(x == ("law" : Str))
end L2.Cu
namespace L2
open PySem PySem.Spec PyProof.Rows
def bmV:List Value:=[.type "ValueError",.type "Exception",.type "BaseException",.type "object"]
def nD(K:OE)(C fI:Addr):Bool:=match K.lookup C with
 |some ⟨.type "type",_,.cls cd,sl⟩=>(match cd.mro,sl.toList with
  |.ref C' :: bm,[_,_,_,_,some (.builtin n),_]=>C' == C && (n == "ValueError.__new__" && (!cd.hasDel && (PySem.W.tailIn K bmV bm && (PySem.W.nsOkIn K cd.ns && PySem.W.nsIn K cd.ns "__init__" == some (some (.ref fI))))))
  |_,_=>false)
 |_=>false
end L2
namespace L2.Cu
open PySem PySem.Spec PyProof.Rows PySem.W
def ma:List Value->List Value
 |.ref _ :: r=>ma r
 |l=>l
def zB(K:Frag)(C:Addr):Bool:=match clsIn K C with
 |some cd=>ma cd.mro == bmV && (cd.hasDict && (findIn K (.ref C) "__setattr__" == some (some (.builtin "object.__setattr__")) && (findIn K (.ref C) "__getattribute__" == some (some (.builtin "BaseException.__getattribute__")) && findIn K (.ref C) "__getattr__" == some none)))
 |none=>false
def cD(K:Frag)(x:Str):Addr:=match nsIn K mainGlobals x with
 |some (some (.ref a))=>a
 |_=>0
def lW(K:Frag)(C:Addr):Addr:=match findIn K (.ref C) "__init__" with
 |some (some (.ref a))=>a
 |_=>0
def Gy(K:Frag)(x:Str):Bool:=nsIn K mainGlobals x == some (some (.ref (cD K x)))
def Gv(K:Frag)(x f:Str):Bool:=Gy K x && (nD K (cD K x) (lW K (cD K x)) && (isFn K (.ref (lW K (cD K x))) && (keepIn K (.ref (cD K x)) && (zB K (cD K x) && (findIn K (.ref (cD K x)) f == some none && findIn K (.ref (cD K x)) "__class__" == some (some (.builtin "object.__class__")))))))
end L2.Cu
namespace L2
open PySem PySem.Spec PyProof.Rows
def s_(K:OE)(C C':Addr):Bool:=(match K.lookup C' with
 |some ⟨.type "type",_,.cls _,_⟩=>true
 |_=>false) && (PySem.W.mroIn K C' (.type "BaseException") == some true && PySem.W.mroIn K C (.ref C') == some true)
end L2
namespace L2.Cu
open PySem PySem.Spec PyProof.Rows PySem.W
abbrev sC(K:Frag)(x f qual b:Str)(ys:OD):=(DL K qual (lW K (cD K x)),Gv K x f && (s_ K (cD K x) (cD K b) && (b :: ys).all (Gy K)),ys.map (fun y=>kitOne K (.ref (cD K x)) (.ref (cD K y))),kitOne K (.ref (cD K x)) (.type "ValueError"))
abbrev sD(qual:Str)(st:Stmt)(bs:O0):=(BH "__init__" qual st,true,bs.map some,some true)
end L2.Cu
namespace L2.Cu.Wk
open PySem PySem.Spec PyProof.Rows
def cj(i:Nat):Stmt:=PySem.Challenge.pw_cuebook_k73_rows_refused.main.body.getD i (.Pass ⟨0,0,0,0⟩)
abbrev kY:List Str:=["NoText","Apart","Meets","NoBooks","NoCast","NoCounts","NoLine","NoPlay","TooFew","Unknown"]
abbrev kZ:List Bool:=[true,false,false,false,false,false,false,false,false,false]
abbrev moK(K:OE):=(sC K "NoPlay" "place" "NoPlay.__init__" "CueError" [],sC K "NoText" "row" "NoText.__init__" "CueError" kY)
abbrev moB:=(sD "NoPlay.__init__" (kd (cj 2) 0) [],sD "NoText.__init__" (kd (cj 9) 0) kZ)
abbrev ds:List Nat:=[40,41,38,42,43,39,45,44,46,51,50,52,53,54,55,56,57,16,17,19,20,22,23,18,21,24,25,27,26,28,33,35,34,30,31,36,58,59,60]
abbrev zs:List Str:=["ValueError","all","any","bool","enumerate","int","isinstance","len","list","min","ord","range","sorted","str","tuple","zip"]
abbrev cs:List (Str×Int):=[("NAME_LETTERS",8),("SPEECH_NAMES",8),("WORD_LETTERS",12)]
open PySem PySem.W PyProof.Rows
set_option maxHeartbeats 0 in
theorem Im:wC PySem.Challenge.pw_cuebook_k73_rows_refused (view PySem.Challenge.pw_cuebook_k73_rows_refused [60]) (kR PySem.Challenge.pw_cuebook_k73_rows_refused) (fun s=>xlAt (view PySem.Challenge.pw_cuebook_k73_rows_refused [60]) [] s && recOk [] s) (fun s=>l7 PySem.Challenge.pw_cuebook_k73_rows_refused ds zs cs moK (KH s.heap)) (uW PySem.Challenge.pw_cuebook_k73_rows_refused ds zs cs moB) 20000:=fun w os=>by kernel_rfl
set_option maxHeartbeats 0 in
theorem G9:PySem.W.Fast.tw9446332074065402090 PySem.Challenge.rw_cuebook_k73_rows_refused=true:=by kernel_rfl
end L2.Cu.Wk
namespace L2
open PySem PySem.Spec PyProof.Rows
abbrev Key:=Sum (Option Int) Str
def lQ:Key->Value->Bool
 |.inl (some k),v=>Value.isInt k v
 |.inl none,v=>match v with |.none=>true |_=>false
 |.inr x,v=>Value.isStrOf x v
def Iy(w:World):Key->Int
 |.inl (some k)=>hashInt k
 |.inl none=>reduceHash 0xFCA86420
 |.inr x=>hashStr w x
theorem bZ:∀{k:Key}{v:Value},lQ k v=true->(∃i t,k=Sum.inl (some i)/\v=Value.int i t)\/(∃x t,k=Sum.inr x/\v=Value.str x t)\/(k=Sum.inl none/\v=Value.none)
 |.inl (some i),v,h=>by
  obtain⟨t,e⟩:=Value.isInt_shape (k:=i) (v:=v) h
  exact .inl ⟨i,t,rfl,e⟩
 |.inl none,v,h=>by
  cases v <;> first |exact .inr (.inr ⟨rfl,rfl⟩) |exact absurd h nofun | (simp[lQ]at h)
 |.inr x,v,h=>by
  obtain⟨t,e⟩:=Value.isStrOf_shape (x:=x) (v:=v) h
  exact .inr (.inl ⟨x,t,rfl,e⟩)
theorem yS(i:Int)(t:Tok):lQ (.inl (some i)) (.int i t)=true:=by simp[lQ,Value.isInt]
theorem yQ(x:Str)(t:Tok):lQ (.inr x) (.str x t)=true:=by simp[lQ,Value.isStrOf]
theorem yR:lQ (.inl none) .none=true:=rfl
theorem F8(a b:Int):decide ((Sum.inl (some a):Key)=Sum.inl (some b))=(a == b):=by
 by_cases e:a=b
 ·subst e;simp
 ·have h:¬(Sum.inl (some a):Key)=Sum.inl (some b):=fun q=>e (Js (Sum.inl.inj q))
  rw[JA h]
  exact(beq_eq_false_iff_ne.mpr e).symm
theorem FZ(a b:Str):decide ((Sum.inr a:Key)=Sum.inr b)=decide (a=b):=by
 by_cases e:a=b
 ·subst e;simp
 ·have h:¬(Sum.inr a:Key)=Sum.inr b:=fun q=>e (Sum.inr.inj q)
  rw[JA h,JA e]
theorem Bp(a:Oq)(b:Str):decide ((Sum.inl a:Key)=Sum.inr b)=false:=JA (fun q=>nomatch q)
theorem Bo(a:Str)(b:Oq):decide ((Sum.inr a:Key)=Sum.inl b)=false:=JA (fun q=>nomatch q)
theorem F7(a:Int):decide ((Sum.inl (some a):Key)=Sum.inl none)=false:=JA (fun q=>nomatch q)
theorem F0(a:Int):decide ((Sum.inl none:Key)=Sum.inl (some a))=false:=JA (fun q=>nomatch q)
variable{s:Shared}{E:OA}{A:Around}{w:World}
theorem yZ{prog:Program}{Q:Int->Shared->Prop}(h:Q (reduceHash 0xFCA86420) { s with toks:=s.toks + 1 }):wpAny (model prog w) A (pyHash .none) Q E s:=by
 exact PySem.W.pyHash_slot (T := "NoneType") rfl F.slot_NoneType_hash F.entry_NoneType_hash (F.args_NoneType_hash_1 _) (PySem.beq_builtin_none _) (.inl rfl) (Jn (Jv (Jn (wpAny_mkInt (Jv ⟨_,_,rfl,h⟩)))))
def dl(prog:Program)(w:World):PySem.KeyKind prog w Key where
 is:=lQ
 hash:=Iy w
 inj:=fun v a b ha hb=>by
  rcases bZ ha with⟨i,t,rfl,rfl⟩ |⟨x,t,rfl,rfl⟩ |⟨rfl,rfl⟩ <;> rcases bZ hb with⟨j,u,rfl,e⟩ |⟨y,u,rfl,e⟩ |⟨rfl,e⟩ <;> first |rfl | (injection e with e1 _;rw[e1];done) | (cases e;done)
 byValue:=fun k v h=>by
  rcases bZ h with⟨i,t,rfl,rfl⟩ |⟨x,t,rfl,rfl⟩ |⟨rfl,rfl⟩ <;> rfl
 pyHash:=fun hv h=>by
  rcases bZ hv with⟨i,t,rfl,rfl⟩ |⟨x,t,rfl,rfl⟩ |⟨rfl,rfl⟩
  ·exact wpAny_pyHash_int h
  ·exact wpAny_pyHash_str h
  ·exact yZ h
 eqBool:=fun hu hv h=>by
  rcases bZ hu with⟨i,t,rfl,rfl⟩ |⟨x,t,rfl,rfl⟩ |⟨rfl,rfl⟩
  ·rcases bZ hv with⟨j,u,rfl,rfl⟩ |⟨y,u,rfl,rfl⟩ |⟨rfl,rfl⟩
   ·rw[F8]at h;exact wpAny_eqBool_int h
   ·rw[Bp]at h;exact SeqAt.EqAt.int_str i t y u _ _ _ _ h
   ·rw[F7]at h;exact SeqAt.EqAt.int_none i t _ _ _ _ h
  ·rcases bZ hv with⟨j,u,rfl,rfl⟩ |⟨y,u,rfl,rfl⟩ |⟨rfl,rfl⟩
   ·rw[Bo]at h;exact SeqAt.EqAt.str_int x t j u _ _ _ _ h
   ·rw[FZ]at h;exact wpAny_eqBool_str h
   ·rw[Bo]at h;exact SeqAt.EqAt.str_none x t _ _ _ _ h
  ·rcases bZ hv with⟨j,u,rfl,rfl⟩ |⟨y,u,rfl,rfl⟩ |⟨rfl,rfl⟩
   ·rw[F0]at h;exact SeqAt.EqAt.none_int j u _ _ _ _ h
   ·rw[Bp]at h;exact SeqAt.EqAt.none_str y u _ _ _ _ h
   ·rw[JD rfl]at h;exact SeqAt.EqAt.same _ _ _ _ _ h
 «strs»:=fun k x t v h=>by
  rcases bZ h with⟨i,u,rfl,e⟩ |⟨y,u,rfl,e⟩ |⟨rfl,e⟩
  ·exact nomatch e
  ·injection e with e1 _
   subst e1
   cases v <;> rfl
  ·exact nomatch e
theorem ut(prog:Program)(w:World)(i:Int)(t:Tok):(dl prog w).is (.inl (some i)) (.int i t)=true:=yS i t
theorem uq(prog:Program)(w:World)(x:Str)(t:Tok):(dl prog w).is (.inr x) (.str x t)=true:=yQ x t
inductive V where
 |non |bl (b:Bool) |int (i:Int) |str (x:Str) |byt (b:Array UInt8) |flt (b:UInt64) |ref (a:Addr) |ty (n:String)
 deriving DecidableEq
def bi:V->Value->Prop
 |.non,u=>u=Value.none
 |.bl b,u=>u=Value.bool b
 |.int i,u=>∃t,u=Value.int i t
 |.str x,u=>∃t,u=Value.str x t
 |.byt b,u=>∃t,u=Value.bytes b t
 |.flt b,u=>∃t,u=Value.float b t
 |.ref a,u=>u=Value.ref a
 |.ty n,u=>u=Value.type n
abbrev aW:List V->List Value->Prop:=Paired bi
abbrev ON:=List V
theorem aW.length{xs:ON}{us:OH}(r:aW xs us):xs.length=us.length:=Paired.length r
theorem aW.get:∀{xs:ON}{us:OH}{i:Nat}{x:V},aW xs us->xs[i]? = some x->∃u,us[i]? = some u/\bi x u
 := fun {xs us i x} r e=>by
  cases r with
  |nil=>cases e
  |cons r t =>
   cases i with
   |zero=>cases e;exact⟨_,rfl,r⟩
   |succ i=>exact aW.get (i:=i) t e
theorem aW.set{x:V}{u:Value}(r:bi x u):∀{xs:ON}{us:OH} (i:Nat),aW xs us->aW (xs.set i x) (us.set i u)
 |_,_,_,.nil=>.nil
 |_,_,0,.cons _ t=>.cons r t
 |_,_,i + 1,.cons q t=>.cons q (aW.set r i t)
theorem aW.append:∀{xs ys:ON}{us ws:OH},aW xs us->aW ys ws->aW (xs ++ ys) (us ++ ws)
 := fun r s=>by
  cases r with
  |nil=>exact s
  |cons r t=>exact .cons r (aW.append t s)
theorem aW.take:∀{xs:ON}{us:OH} (n:Nat),aW xs us->aW (xs.take n) (us.take n)
 := fun n r=>by
  cases n with
  |zero=>exact .nil
  |succ n =>
   cases r with
   |nil=>exact .nil
   |cons r t=>exact .cons r (aW.take n t)
theorem aW.drop:∀{xs:ON}{us:OH} (n:Nat),aW xs us->aW (xs.drop n) (us.drop n)
 := fun n r=>by
  cases n with
  |zero=>exact r
  |succ n =>
   cases r with
   |nil=>exact .nil
   |cons _ t=>exact aW.drop n t
theorem aW.none_of:∀{xs:ON}{us:OH}{i:Nat},aW xs us->xs[i]? = none->us[i]? = none:=fun {xs us i} r e=>by
 have h1:=r.length
 have h2:xs.length<=i:=List.getElem?_eq_none_iff.mp e
 exact List.getElem?_eq_none_iff.mpr ⋯
def iu:Option V->Option Value->Prop
 |some v,some u=>bi v u
 |none,none=>True
 |_,_=>False
def KV{κ:Type}:List (κ×V)->List (κ×Value)->Prop:=Paired fun(p:κ×V) (q:κ×Value)=>p.1=q.1/\bi p.2 q.2
def kV:Key->V
 |.inl (some i)=>.int i
 |.inl none=>.non
 |.inr x=>.str x
abbrev OW:=List (Str×V)
abbrev OY:=List (Key×V)
abbrev PD:=List (List Key×V)
inductive HO where
 |lst (xs:ON)
 |tup (xs:ON)
 |dK (kvs:OY) |dT (kvs:PD)
 |set (S:Int->Bool) (n:Nat)
 |ins (C dx:Addr) (fs:OW)
 |own (x:Addr)
 |xd (fs:OW)
 |met (f x:Addr)
 |rng (lo hi:Int)
 |frz (o:Obj) (u:HO)
 |tbl (ps:OM)
 |ext (φ:Heap->Prop)
abbrev Hp:=Addr->Option HO
def upd(H:Hp)(a:Addr)(o:HO):Hp:=fun b=>if b=a then some o else H b
variable{o:HO}{a:Addr}{H:Hp}
theorem ax:upd H a o a=some o:=by unfold upd;rw[if_pos rfl]
variable{b:Addr}
theorem ap(h:b ≠ a):upd H a o b=H b:=by unfold upd;rw[if_neg h]
theorem bV(h:H a=some o)(h':H b=none):a ≠ b:=by
 intro e;subst e;rw[h]at h';cases h'
section
variable (P:Program) (w:World)
def cP(H:Hp)(h:Heap)(a:Addr):HO->Prop
 |.lst xs=>xs.length<=sizeLine/\∃(its:OH) (n:Nat),aW xs its/\h.get? a=some { cls:=.type "list",data:=.seq its.toArray n }
 |.tup xs=>xs.length<=sizeLine/\∃its:List Value,aW xs its/\IsTup h a its.toArray
 |.dK kvs=>kvs.length<=sizeLine/\(a == sysModules)=false/\∃vs,KV kvs vs/\h.DictOf (dl P w) a vs
 |.dT kvs=>kvs.length<=sizeLine/\(a == sysModules)=false/\∃xs:List (List Key×Addr×Value),
   Paired (fun(p:List Key×V) (q:List Key×Addr×Value)=>p.1=q.1/\H q.2.1=some (.tup (p.1.map kV))/\bi p.2 q.2.2) kvs xs /\
   ∃o es ep,h.get? a=some o/\o.ExactDict/\o.data=.dict es ep/\es.toList=xs.map (entryOfKey (tupleKind (dl P w)))/\(xs.map (·.1)).Nodup
 |.set S n=>h.SetOf (intKind P w) a S n
 |.ins C dx fs=>H dx=some (.own a)/\fs.length<=1000/\dx ≠ a/\h.get? a=some (PySem.W.instObj C dx) /\
   ∃mA,h.Ns1 dx mA/\(∀f,iu (fs.lookup f) (mA f))/\PySem.Within mA (fs.map (·.1))
 |.own _=>∃o,h.get? a=some o
 |.xd fs=>∃mA,h.Ns1 a mA/\∀f,iu (fs.lookup f) (mA f)
 |.rng lo hi=>∃t u v,h.get? a=some { cls:=.type "range",data:=.fields #[.int lo t,.int hi u,.int 1 v] }
 |.frz o u=>h.get? a=some o/\cP H h a u
 |.tbl ps=>h.get? a=some { cls:=.none,data:=.fields ps }
 |.met f x=>h.get? a=some (PySem.W.methodObj (.ref f) (.ref x))
 |.ext φ=>φ h/\(∃o,h.get? a=some o)/\∀h1 h2:Heap,φ h1->(∀o,h1.get? a=some o->h2.get? a=some o)->φ h2
def HOk(H:Hp)(h:Heap):Prop:=∀a o,H a=some o->cP P w H h a o
end
section
variable {P:Program}{w:World}{H H':Hp}{h h':Heap}{a:Addr}{o:HO}
theorem cP.lt(x:cP P w H h a o):a < h.objs.size:=by
 cases o with
 |lst xs=>obtain⟨_,_,_,_,e⟩:=x;exact Ju e
 |tup xs=>obtain⟨_,_,_,p⟩:=x;exact p.lt
 |dK kvs=>obtain⟨_,_,_,_,o,_,_,e,_⟩:=x;exact Ju e
 |dT kvs=>obtain⟨_,_,_,_,o,_,_,e,_⟩:=x;exact Ju e
 |set S n=>obtain⟨o,_,_,_,e,_⟩:=x;exact Ju e
 |ins C dx fs=>obtain⟨_,_,_,e,_⟩:=x;exact Ju e
 |own y=>obtain⟨_,e⟩:=x;exact Ju e
 |xd fs=>obtain⟨_,⟨_,_,_,e,_⟩,_⟩:=x;exact Ju e
 |rng lo hi=>obtain⟨_,_,_,e⟩:=x;exact Ju e
 |frz ob u=>obtain⟨e,_⟩:=x;exact Ju e
 |tbl ps=>exact Ju (show h.get? a=some _ from x)
 |met f y=>exact Ju (show h.get? a=some _ from x)
 |ext φ=>obtain⟨_,⟨_,e⟩,_⟩:=x;exact Ju e
theorem Paired.mapP{α β:Type}{F G:α->β->Prop}:∀{l₁:List α}{l₂:List β},Paired F l₁ l₂->(∀a b,F a b->G a b)->Paired G l₁ l₂
 := fun r f=>by
  cases r with
  |nil=>exact .nil
  |cons r t=>exact .cons (f _ _ r) (Paired.mapP t f)
theorem cP.stay(x:cP P w H h a o)(k:∀b u,(b=a\/H b=some (.own a))->h.get? b=some u->h'.get? b=some u)
  (ho:∀b,H b=some (.own a)->H' b=some (.own a)) (ht:∀b xs,H b=some (.tup xs)->H' b=some (.tup xs)):cP P w H' h' a o:=by
 induction o with
 |lst xs=>obtain⟨z,its,n,r,e⟩:=x;exact⟨z,its,n,r,k _ _ (.inl rfl) e⟩
 |tup xs=>obtain⟨z,its,r,ob,e,c⟩:=x;exact⟨z,its,r,ob,k _ _ (.inl rfl) e,c⟩
 |dK kvs=>obtain⟨z,y,vs,r,ob,es,ep,e,c⟩:=x;exact⟨z,y,vs,r,ob,es,ep,k _ _ (.inl rfl) e,c⟩
 |dT kvs =>
  obtain⟨z,y,xs,r,ob,es,ep,e,c⟩:=x
  exact⟨z,y,xs,Paired.mapP r fun p q z=>⟨z.1,ht _ _ z.2.1,z.2.2⟩,ob,es,ep,k _ _ (.inl rfl) e,c⟩
 |set S n=>obtain⟨ob,es,ep,t,e,c⟩:=x;exact⟨ob,es,ep,t,k _ _ (.inl rfl) e,c⟩
 |ins C dx fs =>
  obtain⟨d,z,ne,e,mA,⟨od,es,ep,e2,c⟩,r⟩:=x
  exact⟨ho _ d,z,ne,k _ _ (.inl rfl) e,mA,⟨od,es,ep,k _ _ (.inr d) e2,c⟩,r⟩
 |own y=>obtain⟨ob,e⟩:=x;exact⟨ob,k _ _ (.inl rfl) e⟩
 |xd fs=>obtain⟨mA,⟨od,es,ep,e,c⟩,r⟩:=x;exact⟨mA,⟨od,es,ep,k _ _ (.inl rfl) e,c⟩,r⟩
 |rng lo hi=>obtain⟨t,u,v,e⟩:=x;exact⟨t,u,v,k _ _ (.inl rfl) e⟩
 |frz ob u ih=>obtain⟨e,q⟩:=x;exact⟨k _ _ (.inl rfl) e,ih q⟩
 |tbl ps =>
  have e:h.get? a=some { cls:=.none,data:=.fields ps }:=x
  show h'.get? a=some { cls:=.none,data:=.fields ps }
  exact k a _ (.inl rfl) e
 |met f y =>
  have e:h.get? a=some (PySem.W.methodObj (.ref f) (.ref y)):=x
  show h'.get? a=some (PySem.W.methodObj (.ref f) (.ref y))
  exact k a _ (.inl rfl) e
 |ext φ=>obtain⟨p,⟨o,e⟩,st⟩:=x;exact⟨st _ _ p fun o q=>k _ _ (.inl rfl) q,⟨o,k _ _ (.inl rfl) e⟩,st⟩
theorem HOk.lt(x:HOk P w H h)(e:H a=some o):a < h.objs.size:=(x a o e).lt
theorem HOk.fresh(x:HOk P w H h)(e:h.objs.size<=a):H a=none:=by
 cases q:H a with
 |none=>rfl
 |some u=>exact absurd (JL (x.lt q) e) (KI _)
theorem HOk.kept(x:HOk P w H h)(k:∀b u,h.get? b=some u->h'.get? b=some u):HOk P w H h':=fun a o e =>
 (x a o e).stay (fun b u _ q=>k b u q) (fun _ q=>q) fun _ _ q=>q
theorem HOk.laid(x:HOk P w H h)(k:∀b u,h.get? b=some u->h'.get? b=some u)(hp:h.objs.size<=a)(new:cP P w (upd H a o) h' a o):HOk P w (upd H a o) h':=fun b u e=>by
 have hn:=x.fresh hp
 by_cases hb:b=a
 ·subst hb;rw[ax]at e;cases e;exact new
 ·rw[ap hb]at e
  exact(x b u e).stay (fun c v _ q=>k c v q) (fun c q=>by rw[ap (bV q hn)];exact q) fun c xs q=>by rw[ap (bV q hn)];exact q
end
def Rd(H:Hp)(a:Addr)(u:HO):Prop:=H a=some u\/∃o,H a=some (.frz o u)
variable{h:Heap}{P:Program}
theorem Rd.ok{u:HO}(r:Rd H a u)(x:HOk P w H h):cP P w H h a u:=by
 rcases r with r |⟨o,r⟩
 ·exact x a u r
 ·obtain⟨_,q⟩:=x a _ r
  exact q
def Mut:Option HO->Prop
 |some (.lst _)=>True
 |some (.dK _)=>True
 |some (.dT _)=>True
 |some (.set _ _)=>True
 |some (.ins _ _ _)=>True
 |some (.ext _)=>True
 |_=>False
section
variable {P:Program}{w:World}{H:Hp}{h h':Heap}{x e:Addr}{o':HO}
theorem HOk.write(ok:HOk P w H h)(mu:Mut (H x))(he:e=x\/H e=some (.own x))(k:∀b u,b ≠ e->h.get? b=some u->h'.get? b=some u)(heo:∃u,h'.get? e=some u)
  (new:cP P w (upd H x o') h' x o'):HOk P w (upd H x o') h':=fun b u q=>by
 have nown:∀c y,H c=some (.own y)->c ≠ x:=fun c y r z=>by subst z;rw[r]at mu;exact mu
 have ntup:∀c xs,H c=some (.tup xs)->c ≠ x:=fun c xs r z=>by subst z;rw[r]at mu;exact mu
 by_cases hb:b=x
 ·subst hb;rw[ax]at q;cases q;exact new
 ·rw[ap hb]at q
  by_cases hbe:b=e
  ·have q':H b=some (.own x):=by
    rcases he with z |z
    ·exact absurd (hbe.trans z) hb
    ·rw[hbe];exact z
   rw[q]at q';cases q'
   obtain⟨v,hv⟩:=heo
   exact⟨v,by rw[hbe];exact hv⟩
  ·refine(ok b u q).stay (fun c v hc r=>k c v ?_ r) (fun c r=>by rw[ap (nown c b r)];exact r) fun c xs r=>by rw[ap (ntup c xs r)];exact r
   rcases hc with rfl |hc
   ·exact hbe
   ·rintro rfl
    rcases he with z |z
    ·exact nown c b hc z
    ·rw[hc]at z;cases z;exact hb rfl
end
structure Un (fs ex:OT) (H H':Hp) (h h':Heap):Prop where
 keep:∀b o,h.get? b=some o->H b=none->b ∉ fs->b ∉ ex->h'.get? b=some o
 slot:∀b o,h.get? b=some o->H b=none->b ∈ fs->b ∉ ex->∃sl,h'.get? b=some { o with slots:=sl }
 free:∀b o,h.get? b=some o->H b=none->b ∉ ex->H' b=none
 there:∀b o,h.get? b=some o->b ∉ ex->∃o',h'.get? b=some o'
 tups:∀b xs,H b=some (.tup xs)->H' b=some (.tup xs)
 frzs:∀b o u,H b=some (.frz o u)->H' b=some (.frz o u)
 tbls:∀b ps,H b=some (.tbl ps)->∃more,H' b=some (.tbl (ps ++ more))
section
variable {fs fs' ex ex':OT}{H H1 H2:Hp}{h h1 h2 h':Heap}{a x e:Addr}{o:HO}
theorem Un.any(u:Un fs ex H H1 h h1){ob:Obj}(q:h.get? b=some ob)(n:H b=none)(hx:b ∉ ex):∃sl,h1.get? b=some { ob with slots:=sl }:=by
 by_cases hb:b ∈ fs
 ·exact u.slot b ob q n hb hx
 ·exact⟨ob.slots,u.keep b ob q n hb hx⟩
theorem Un.kept(k:∀b u,h.get? b=some u->h'.get? b=some u):Un fs ex H H h h' :=
 ⟨fun b ob q _ _ _=>k b ob q,fun b ob q _ _ _=>⟨ob.slots,k b ob q⟩,fun _ _ _ n _=>n,fun b ob q _=>⟨ob,k b ob q⟩,fun _ _ q=>q,fun _ _ _ q=>q,fun _ ps q=>⟨#[],by rw[q];simp⟩⟩
theorem Un.refl:Un fs ex H H h h:=Un.kept fun _ _ q=>q
theorem Un.laid(k:∀b u,h.get? b=some u->h'.get? b=some u)(hp:h.objs.size<=a)(hn:H a=none):Un fs ex H (upd H a o) h h' where
 keep:=fun b u q _ _ _=>k b u q
 slot:=fun b u q _ _ _=>⟨u.slots,k b u q⟩
 free:=fun b u q n _=>by rw[ap (JI (JL (Ju q) hp))];exact n
 there:=fun b u q _=>⟨u,k b u q⟩
 tups:=fun b xs q=>by rw[ap (bV q hn)];exact q
 frzs:=fun b u xs q=>by rw[ap (bV q hn)];exact q
 tbls:=fun b ps q=>⟨#[],by rw[ap (bV q hn),q];simp⟩
theorem Un.write(mu:Mut (H x))(he:e=x\/H e=some (.own x))(k:∀b u,b ≠ e->h.get? b=some u->h'.get? b=some u)(heo:∃u,h'.get? e=some u):Un fs ex H (upd H x o) h h':=by
 have hx:∀b,H b=none->b ≠ x:=fun b n z=>by subst z;rw[n]at mu;exact mu
 have hb:∀b,H b=none->b ≠ e:=fun b n z=>by
  subst z
  rcases he with r |r
  ·exact hx b n r
  ·rw[n]at r;cases r
 have hm:∀b u,H b=some u->¬Mut (some u)->b ≠ x:=fun b u q nm z=>by subst z;rw[q]at mu;exact nm mu
 refine⟨fun b u q n _ _=>k b u (hb b n) q,fun b u q n _ _=>⟨u.slots,k b u (hb b n) q⟩,fun b u q n _=>by rw[ap (hx b n)];exact n,fun b u q _=>?_,
  fun b xs q=>by rw[ap (hm b _ q fun z=>z)];exact q,fun b u xs q=>by rw[ap (hm b _ q fun z=>z)];exact q,fun b ps q=>⟨#[],by rw[ap (hm b _ q fun z=>z),q];simp⟩⟩
 by_cases hbe:b=e
 ·subst hbe;exact heo
 ·exact⟨u,k b u hbe q⟩
end
def trk(h:Heap)(H:Hp):List Addr:=(List.range h.objs.size).filter fun a=>(H a).isSome
def sv(h:Heap)(H:Hp):Heap:=PySem.W.hideAll h (trk h H)
theorem yY(h:Heap)(H:Hp):(sv h H).objs.size=h.objs.size:=PySem.W.hideAll_size _ _
theorem BA{o:Obj}(e:h.get? b=some o)(n:H b=none):(sv h H).get? b=some o :=
 PySem.W.hideAll_get _ e fun hm=>by
  have q:(H b).isSome=true:=(List.mem_filter.mp hm).2
  rw[n]at q;simp at q
theorem De{o:Obj}(e:(sv h H).get? b=some o):h.get? b=some o/\H b=none:=by
 have e':h.get? b=some o:=PySem.W.of_hideAll (trk h H) e
 refine⟨e',?_⟩
 cases q:H b with
 |none=>rfl
 |some x =>
  have hm:b ∈ trk h H:=List.mem_filter.mpr ⟨List.mem_range.mpr (Ju e'),by simp[q]⟩
  have z:(sv h H).get? b=none:=PySem.W.hideAll_none (trk h H) hm
  rw[z]at e;cases e
def D7(g h:Heap)(L:Addr):List (Addr×Obj):=(List.range h.objs.size).filterMap fun a=>if a=L\/(g.get? a).isSome=true then none else(h.get? a).map fun o=>(a,o)
def rest(g h:Heap)(L d:Addr):List (Addr×Obj):=(D7 g h L).filter fun p=>decide (p.1 ≠ d)
structure Mod (K:OE) (mg:OI) (base:Heap):Prop where
 kin:K.In base
 glob:base.Ns mainGlobals mg
 blt:∃mb,base.Ns builtinsNs mb/\∀x:Str,x ≠ "__name__"->mb x=bootBuiltins x
 nolimit:base.NoLimit
structure Cx where
 prog:Program
 w:World
 K:PySem.W.Frag
 mg:Str->Option Value
 base:Heap
 A:Around
 N:List Str
 s₀:Shared
 H₀:Hp
 env:Env
 outer:List Env
 stack:List Env
 ex:List Addr
 fn:Str->Bool
 calm:Bool
 pn:List (Addr×Obj)
 xe:Value->Shared->Prop
def frs(l:OZ):List Addr:=l.filterMap (·.frame)
abbrev Cx.fs(X:Cx):List Addr:=frs X.outer
def Vis(sc:Scope)(x:Str):Prop:=sc.names.lookup x=some .local\/sc.names.lookup x=some .cell\/sc.names.lookup x=some .free
def Loc(sc:Scope)(x:Str):Prop:=sc.names.lookup x=some .local\/sc.names.lookup x=some .cell
def I_(env:Env)(h:Heap)(m:OI)(x:Str)(u:Value):Prop :=
 (env.kindOf x=some .local/\m x=some u)\/((env.kindOf x=some .cell\/env.kindOf x=some .free)/\∃c,env.cells.lookup x=some c/\h.IsCell c (some u))
structure Cx.Ok (X:Cx):Prop where
 mod:Mod X.K X.mg X.base
 kind:X.env.scope.kind=.function
 glob:X.env.globals=mainGlobals
 blt:X.env.builtins=builtinsNs
 above:X.s₀.heap.objs.size<=X.env.locals
 inj:∀x y c,X.env.cells.lookup x=some c->X.env.cells.lookup y=some c->x=y
 has:∀x,(X.env.kindOf x=some .cell\/X.env.kindOf x=some .free)->∃c,X.env.cells.lookup x=some c
 cab:∀x c,X.fn x=true->X.env.cells.lookup x=some c->X.s₀.heap.objs.size<=c
 hd:X.calm=true->X.A.handled=none
 frames:X.A.frames=some X.stack
 stk:X.stack=X.outer\/(X.stack=X.env :: X.outer/\X.env.frame=some X.env.locals)
 exf:∀b ∈ X.ex,b ≠ X.env.locals/\∀x c,X.env.cells.lookup x=some c->c ≠ b
 bs:∀b o,X.base.get? b=some o->X.s₀.heap.get? b=some o/\X.H₀ b=none
 bsz:X.base.objs.size<=X.s₀.heap.objs.size
 noex:∀b o,X.base.get? b=some o->b ∉ X.ex
 exfs:∀b ∈ X.ex,b ∉ X.fs
 funs:X.s₀.heap.FunFrames X.base X.outer
 frf:∀b ∈ X.fs,X.H₀ b=none
structure Inv (X:Cx) (Ml:OC) (σ:List (Option V)) (H:Hp) (s:Shared):Prop where
 ok:X.Ok
 os:s.os=X.s₀.os
 bare:AllBare s.gens
 base:Un X.fs X.ex X.H₀ H X.s₀.heap s.heap
 loc:∃m,s.heap.Ns X.env.locals m/\∀(i:Nat) (x:Str) (v:V),X.N[i]? = some x->σ[i]? = some (some v)->Vis X.env.scope x->∃u,bi v u/\I_ X.env s.heap m x u
 cell:∀x c,X.env.cells.lookup x=some c->∃v,s.heap.IsCell c v
 free:H X.env.locals=none
 freeC:∀x c,X.env.cells.lookup x=some c->H c=none
 pin:∀p ∈ X.pn ++ Ml,s.heap.get? p.1=some p.2/\H p.1=none/\p.1 ≠ X.env.locals/\p.1 ∉ X.fs/\∀v,p.2.data ≠ .cell v
 hok:HOk X.prog X.w H s.heap
 len:σ.length=X.N.length
section
variable {X:Cx}{Ml:OC} {σ:List (Option V)} {H H':Hp}{s:Shared}{h':Heap}
theorem Cx.Ok.nofr(ok:X.Ok){o:Obj}(e:X.base.get? b=some o):b ∉ X.fs:=fun hb=>by
 have:=(ok.funs.mem hb).1
 rw[e]at this;cases this
theorem Inv.bs(I:Inv X Ml σ H s):∀b o,X.base.get? b=some o->s.heap.get? b=some o/\H b=none:=fun b o e =>
 ⟨I.base.keep b o (I.ok.bs b o e).1 (I.ok.bs b o e).2 (I.ok.nofr e) (I.ok.noex b o e),I.base.free b o (I.ok.bs b o e).1 (I.ok.bs b o e).2 (I.ok.noex b o e)⟩
theorem Inv.bk(I:Inv X Ml σ H s):∀b o,X.base.get? b=some o->s.heap.get? b=some o:=fun b o e=>(I.bs b o e).1
theorem Inv.mod(I:Inv X Ml σ H s):Mod X.K X.mg X.base:=I.ok.mod
theorem Inv.kIn(I:Inv X Ml σ H s):X.K.In s.heap:=I.ok.mod.kin.keeps I.bk
theorem Inv.lt(I:Inv X Ml σ H s):X.env.locals < s.heap.objs.size:=let ⟨_,hn,_⟩:=I.loc;hn.lt
theorem Inv.sz(I:Inv X Ml σ H s):X.s₀.heap.objs.size<=s.heap.objs.size:=Jy I.ok.above (KG I.lt)
theorem Inv.nofs(I:Inv X Ml σ H s)(h:s.heap.objs.size<=a):a ∉ X.fs:=fun hb=>by
 obtain⟨_,o,ho,_⟩:=I.ok.funs.mem hb
 exact absurd (JL (Ju ho) (Jy I.sz h)) (KI _)
theorem Inv.cne(I:Inv X Ml σ H s):∀x c,X.env.cells.lookup x=some c->c ≠ X.env.locals:=fun x c e z=>by
 obtain⟨v,o,ho,hd⟩:=I.cell x c e
 obtain⟨m,⟨o',es,ep,ho',hd',_⟩,_⟩:=I.loc
 rw[z,ho']at ho;cases ho;rw[hd']at hd;cases hd
theorem Inv.funs(I:Inv X Ml σ H s):s.heap.FunFrames X.base X.outer:=by
 have all:∀(l:OZ),(∀b ∈ frs l,b ∈ X.fs)->X.s₀.heap.FunFrames X.base l->s.heap.FunFrames X.base l:=by
  intro l
  induction l with
  |nil=>intro _ _;trivial
  |cons env r ih =>
   intro hs hl
   obtain⟨hk,⟨L,o,hf,hn,ho,hd⟩,hr⟩:=hl
   have hL:L ∈ X.fs:=hs L (by unfold frs;rw[Kx,hf];exact Jq)
   obtain⟨sl,e⟩:=I.base.slot L o ho (I.ok.frf L hL) hL fun z=>I.ok.exfs L z hL
   exact⟨hk,⟨L,_,hf,hn,e,hd⟩,ih (fun b hb=>hs b (by unfold frs;rw[Kx,hf];exact Jt _ hb)) hr⟩
 exact all X.outer (fun _ hb=>hb) I.ok.funs
theorem Inv.stack(I:Inv X Ml σ H s):s.heap.FunFrames X.base X.stack:=by
 rcases I.ok.stk with e |⟨e,hf⟩
 ·rw[e];exact I.funs
 ·rw[e]
  obtain⟨m,hn,_⟩:=I.loc
  refine .cons (by rw[I.ok.kind];decide) hf hn ?_ I.funs
  exact Heap.get?_none_of_le (Jy I.ok.bsz I.ok.above)
theorem Inv.stkSub(I:Inv X Ml σ H s):∀b ∈ frs X.stack,b ∈ X.env.locals :: X.fs:=fun b hb=>by
 rcases I.ok.stk with e |⟨e,hf⟩
 ·rw[e]at hb;exact Jt _ hb
 ·rw[e]at hb
  unfold frs at hb
  rw[Kx,hf]at hb
  exact hb
theorem Inv.stkFree(I:Inv X Ml σ H s):∀b ∈ frs X.stack,H b=none:=fun b hb=>by
 rcases List.mem_cons.mp (I.stkSub b hb) with e |hb
 ·rw[e];exact I.free
 ·obtain⟨_,o,ho,_⟩:=I.ok.funs.mem hb
  exact I.base.free b o ho (I.ok.frf b hb) fun z=>I.ok.exfs b z hb
theorem Inv.step{g':Array GenState}{t':Nat}{d':Drawn}{ch:OT}(I:Inv X Ml σ H s)
  (hch:∀b ∈ ch,(b ∈ X.ex\/X.s₀.heap.objs.size<=b)/\b ≠ X.env.locals/\(∀x c,X.env.cells.lookup x=some c->c ≠ b)/\∀p ∈ X.pn ++ Ml,p.1 ≠ b)
  (keep:∀b o,b ≠ X.env.locals->b ∉ X.fs->b ∉ ch->s.heap.get? b=some o->H b=none->h'.get? b=some o)
  (slot:∀b o,b ≠ X.env.locals->b ∈ X.fs->b ∉ ch->s.heap.get? b=some o->H b=none->∃sl,h'.get? b=some { o with slots:=sl }) (free:∀b o,b ∉ ch->s.heap.get? b=some o->H b=none->H' b=none)
  (there:∀b o,b ∉ ch->s.heap.get? b=some o->∃o',h'.get? b=some o')
  (tups:∀b xs,H b=some (.tup xs)->H' b=some (.tup xs)) (frzs:∀b o u,H b=some (.frz o u)->H' b=some (.frz o u)) (tbls:∀b ps,H b=some (.tbl ps)->∃more,H' b=some (.tbl (ps ++ more)))
  (ns:∀m,s.heap.Ns X.env.locals m->h'.Ns X.env.locals m) (hok:HOk X.prog X.w H' h') (hg:AllBare g') :
  Inv X Ml σ H' { s with heap:=h',gens:=g',drawn:=d',toks:=t' }:=by
 have neL:∀b o,X.s₀.heap.get? b=some o->b ≠ X.env.locals:=fun b o e=>JI (JL (Ju e) I.ok.above)
 have neC:∀b o,X.s₀.heap.get? b=some o->b ∉ X.ex->b ∉ ch:=fun b o e hx hb=>by
  rcases(hch b hb).1 with z |z
  ·exact hx z
  ·exact absurd (JL (Ju e) z) (KI _)
 have cellK:∀x c,X.env.cells.lookup x=some c->∀v,s.heap.IsCell c v->h'.IsCell c v:=fun x c e v zz1_0=>by
  obtain⟨o,ho,hd⟩:=zz1_0
  have nch:c ∉ ch:=fun z=>(hch c z).2.2.1 x c e rfl
  by_cases hc:c ∈ X.fs
  ·obtain⟨sl,q⟩:=slot c o (I.cne x c e) hc nch ho (I.freeC x c e)
   exact⟨_,q,hd⟩
  ·exact⟨o,keep c o (I.cne x c e) hc nch ho (I.freeC x c e),hd⟩
 refine⟨I.ok,I.os,hg,⟨fun b o e n hb hx=>?_,fun b o e n hb hx=>?_,fun b o e n hx=>?_,fun b o e hx=>?_,fun b xs e=>tups b xs (I.base.tups b xs e),fun b o xs e=>frzs b o xs (I.base.frzs b o xs e),fun b ps e=>?_⟩,?_,fun x c e=>?_,?_,fun x c e=>?_,fun p hp=>?_,hok,I.len⟩
 ·exact keep b o (neL b o e) hb (neC b o e hx) (I.base.keep b o e n hb hx) (I.base.free b o e n hx)
 ·obtain⟨sl,e1⟩:=I.base.slot b o e n hb hx
  obtain⟨sl',e2⟩:=slot b _ (neL b o e) hb (neC b o e hx) e1 (I.base.free b o e n hx)
  exact⟨sl',e2⟩
 ·obtain⟨o',e1⟩:=I.base.there b o e hx
  exact free b o' (neC b o e hx) e1 (I.base.free b o e n hx)
 ·obtain⟨o',e1⟩:=I.base.there b o e hx
  exact there b o' (neC b o e hx) e1
 ·obtain⟨m1,e1⟩:=I.base.tbls b ps e
  obtain⟨m2,e2⟩:=tbls b _ e1
  exact⟨m1 ++ m2,by rw[e2,Array.append_assoc]⟩
 ·obtain⟨m,hn,hl⟩:=I.loc
  refine⟨m,ns m hn,fun i x v e1 e2 e3=>?_⟩
  obtain⟨u,r,l⟩:=hl i x v e1 e2 e3
  refine⟨u,r,?_⟩
  rcases l with l |⟨k,c,e,z⟩
  ·exact .inl l
  ·exact .inr ⟨k,c,e,cellK x c e _ z⟩
 ·obtain⟨v,z⟩:=I.cell x c e
  exact⟨v,cellK x c e v z⟩
 ·obtain⟨m,⟨o,_,_,ho,_⟩,_⟩:=I.loc
  exact free _ o (fun z=>(hch _ z).2.1 rfl) ho I.free
 ·obtain⟨v,o,ho,hd⟩:=I.cell x c e
  exact free c o (fun z=>(hch c z).2.2.1 x c e rfl) ho (I.freeC x c e)
 ·obtain⟨e,n,ne,nf,d⟩:=I.pin p hp
  have nch:p.1 ∉ ch:=fun z=>(hch p.1 z).2.2.2 p hp rfl
  exact⟨keep p.1 p.2 ne nf nch e n,free p.1 p.2 nch e n,ne,nf,d⟩
variable{t':Nat}
theorem Inv.un(I:Inv X Ml σ H s)(u:Un X.fs [] H H' s.heap h')(hok:HOk X.prog X.w H' h'):Inv X Ml σ H' { s with heap:=h',toks:=t' }:=by
 obtain⟨m,⟨o,es,ep,ho,r⟩,_⟩:=id I.loc
 obtain⟨sl,hL⟩:=u.any ho I.free (by simp)
 exact I.step (g':=s.gens) (d':=s.drawn) (ch:=[]) (fun _ z=>nomatch z) (fun b o _ hb _ e n=>u.keep b o e n hb (by simp)) (fun b o _ hb _ e n=>u.slot b o e n hb (by simp)) (fun b o _ e n=>u.free b o e n (by simp)) (fun b o _ e=>u.there b o e (by simp)) u.tups u.frzs u.tbls (fun m' hm=>by
  obtain⟨o',es',ep',ho',r'⟩:=hm
  rw[ho]at ho';cases ho'
  exact⟨_,es',ep',hL,r'⟩) hok I.bare
theorem Inv.call{g':Array GenState}{t':Nat}{d':Drawn}{ch:OT}(I:Inv X Ml σ H s)(u:Un (frs X.stack) ch H H' s.heap h')(hok:HOk X.prog X.w H' h')(hg:AllBare g')
  (hch:∀b ∈ ch,(b ∈ X.ex\/X.s₀.heap.objs.size<=b)/\b ≠ X.env.locals/\(∀x c,X.env.cells.lookup x=some c->c ≠ b)/\∀p ∈ X.pn ++ Ml,p.1 ≠ b) :
  Inv X Ml σ H' { s with heap:=h',gens:=g',drawn:=d',toks:=t' }:=by
 obtain⟨m,⟨o,es,ep,ho,r⟩,_⟩:=id I.loc
 obtain⟨sl,hL⟩:=u.any ho I.free fun z=>(hch _ z).2.1 rfl
 exact I.step (ch:=ch) hch (fun b o hL hb hc e n=>u.keep b o e n (fun z=>(List.mem_cons.mp (I.stkSub b z)).elim hL hb) hc) (fun b o _ _ hc e n=>u.any e n hc) (fun b o hc e n=>u.free b o e n hc) (fun b o hc e=>u.there b o e hc) u.tups u.frzs u.tbls (fun m' hm=>by
  obtain⟨o',es',ep',ho',r'⟩:=hm
  rw[ho]at ho';cases ho'
  exact⟨_,es',ep',hL,r'⟩) hok hg
theorem Inv.turned{t':Nat}{it:Addr}(I:Inv X Ml σ H s)(k:∀b o,b ≠ it->s.heap.get? b=some o->h'.get? b=some o)(hn:H it=none)(hL:it ≠ X.env.locals)
  (h1:it ∈ X.ex\/X.s₀.heap.objs.size<=it) (h2:∀x c,X.env.cells.lookup x=some c->c ≠ it) (h3:∀p ∈ X.pn ++ Ml,p.1 ≠ it):Inv X Ml σ H { s with heap:=h',toks:=t' }:=by
 have nit:∀b u,H b=some u->b ≠ it:=fun b u e z=>by rw[z,hn]at e;cases e
 refine I.step (g':=s.gens) (d':=s.drawn) (ch:=[it]) (fun b hb=>?_) (fun b o _ _ hc e _=>k b o (fun z=>hc (by simp[z])) e) (fun b o _ _ hc e _=>⟨o.slots,k b o (fun z=>hc (by simp[z])) e⟩) (fun _ _ _ _ n=>n)
  (fun b o hc e=>⟨o,k b o (fun z=>hc (by simp[z])) e⟩) (fun _ _ e=>e) (fun _ _ _ e=>e) (fun b ps e=>⟨#[],by rw[e];simp⟩) (fun m hm=>?_) (fun b u e=>?_) I.bare
 ·have e:b=it:=by simpa using hb
  subst e
  exact⟨h1,hL,h2,h3⟩
 ·obtain⟨o,es,ep,ho,r⟩:=hm
  exact⟨o,es,ep,k _ o (Ne.symm hL) ho,r⟩
 ·refine(I.hok b u e).stay (fun c v hc q=>k c v ?_ q) (fun _ q=>q) fun _ _ q=>q
  rcases hc with z |z
  ·rw[z];exact nit b u e
  ·exact nit c _ z
theorem Inv.tok(I:Inv X Ml σ H s)(t:Nat):Inv X Ml σ H { s with toks:=t }:=I.un (h':=s.heap) (t':=t) Un.refl I.hok
theorem Inv.kept{t':Nat}(I:Inv X Ml σ H s)(k:∀b u,s.heap.get? b=some u->h'.get? b=some u):Inv X Ml σ H { s with heap:=h',toks:=t' }:=I.un (Un.kept k) (I.hok.kept k)
theorem Inv.laid{a:Addr}{o:HO}{t':Nat}(I:Inv X Ml σ H s)(k:∀b u,s.heap.get? b=some u->h'.get? b=some u)(hp:s.heap.objs.size<=a)(new:cP X.prog X.w (upd H a o) h' a o) :
  Inv X Ml σ (upd H a o) { s with heap:=h',toks:=t' }:=I.un (Un.laid k hp (I.hok.fresh hp)) (I.hok.laid k hp new)
theorem Inv.write{x e:Addr}{o:HO}{t':Nat}(I:Inv X Ml σ H s)(mu:Mut (H x))(he:e=x\/H e=some (.own x))(k:∀b u,b ≠ e->s.heap.get? b=some u->h'.get? b=some u)(heo:∃u,h'.get? e=some u)
  (new:cP X.prog X.w (upd H x o) h' x o):Inv X Ml σ (upd H x o) { s with heap:=h',toks:=t' }:=I.un (Un.write mu he k heo) (I.hok.write mu he k heo new)
theorem Inv.pins_of{pins':OC}(I:Inv X Ml σ H s)(h:∀p ∈ pins',s.heap.get? p.1=some p.2/\H p.1=none/\p.1 ≠ X.env.locals/\p.1 ∉ X.fs/\∀v,p.2.data ≠ .cell v):Inv X pins' σ H s :=
 ⟨I.ok,I.os,I.bare,I.base,I.loc,I.cell,I.free,I.freeC,fun p hp=>(List.mem_append.mp hp).elim (fun z=>I.pin p (JU _ z)) (h p),I.hok,I.len⟩
variable{x:Str}
theorem oE{N:OD}(hN:N.Nodup){j:Nat}(a:N[i]? = some x)(b:N[j]? = some x):i=j:=by
 obtain⟨h1,e1⟩:=List.getElem?_eq_some_iff.mp a
 obtain⟨h2,e2⟩:=List.getElem?_eq_some_iff.mp b
 exact(List.getElem_inj hN).mp (e1.trans e2.symm)
theorem xX{M:Model}{A:Around}{E:OA}{v:V}{u:Value}{Q:OU}(I:Inv X Ml σ H s)(hN:X.N.Nodup)(hi:X.N[i]? = some x)(hx:Loc X.env.scope x)(r:bi v u)
  (h:∀s',Inv X Ml (σ.set i (some v)) H s'->(∃a,Heap.SameBut a s.heap s'.heap/\(a=X.env.locals\/X.env.cells.lookup x=some a))->Q () s') (hf:X.fn x=true\/X.env.scope.names.lookup x=some .local:=by first |exact .inl rfl |exact .inr rfl |assumption):wpAny M A (storeName X.env x u) Q E s:=by
 obtain⟨m,hn,hl⟩:=id I.loc
 have MJ:(X.env.scope.kind == .class || (X.env.scope.kind == .module && X.env.locals != X.env.globals))=false:=by rw[I.ok.kind];rfl
 have hiσ:i < σ.length:=by rw[I.len];exact(List.getElem?_eq_some_iff.mp hi).1
 have cne:=I.cne
 have tracked:∀{a:Addr}{h':Heap},(∃o,s.heap.get? a=some o/\H a=none)->Heap.SameBut a s.heap h'->HOk X.prog X.w H h':=fun {a h'} ha hs b ob e=>by
  obtain⟨_,_,Mu⟩:=ha
  refine(I.hok b ob e).stay (fun c w' hc q=>(hs.2 c ?_).trans q) (fun _ q=>q) fun _ _ q=>q
  rintro rfl
  rcases hc with rfl |hc
  ·rw[Mu]at e;cases e
  ·rw[Mu]at hc;cases hc
 rcases hx with hk |hk
 ·refine wpAny_storeName_local hk hn (fun h' hn' hs=>?_) MJ
  obtain⟨oL,_,_,hoL,_⟩:=id hn
  refine h _ ⟨I.ok,I.os,I.bare,⟨fun b o e n hb hx=>?_,fun b o e n hb hx=>?_,I.base.free,fun b o e hx=>?_,I.base.tups,I.base.frzs,I.base.tbls⟩,⟨_,hn',fun j y v' e1 e2 e3=>?_⟩,fun y c e=>?_,I.free,I.freeC,fun p hp=>?_,tracked ⟨oL,hoL,I.free⟩ hs,by simpa using I.len⟩ ⟨_,hs,.inl rfl⟩
  ·exact(hs.2 b (JI (JL (Ju e) I.ok.above))).trans (I.base.keep b o e n hb hx)
  ·obtain⟨sl,e1⟩:=I.base.slot b o e n hb hx
   exact⟨sl,(hs.2 b (JI (JL (Ju e) I.ok.above))).trans e1⟩
  ·obtain⟨o',e1⟩:=I.base.there b o e hx
   exact⟨o',(hs.2 b (JI (JL (Ju e) I.ok.above))).trans e1⟩
  ·by_cases hj:j=i
   ·subst hj
    rw[hi]at e1;cases e1
    rw[Lc hiσ]at e2
    cases e2
    exact⟨u,r,.inl ⟨hk,by simp⟩⟩
   ·rw[JC (Ne.symm hj)]at e2
    obtain⟨u',r',q⟩:=hl j y v' e1 e2 e3
    refine⟨u',r',?_⟩
    rcases q with⟨k,e⟩ |⟨k,c,e,z⟩
    ·refine .inl ⟨k,?_⟩
     have:y ≠ x:=fun e=>hj (oE hN e1 (e ▸ hi))
     simp[this,e]
    ·exact .inr ⟨k,c,e,z.sameBut hs (cne y c e)⟩
  ·obtain⟨w',z⟩:=I.cell y c e
   exact⟨w',z.sameBut hs (cne y c e)⟩
  ·obtain⟨e,n,ne,nf,d⟩:=I.pin p hp
   exact⟨(hs.2 p.1 ne).trans e,n,ne,nf,d⟩
 ·have hfn:X.fn x=true:=by
   rcases hf with z |z
   ·exact z
   ·rw[z]at hk;cases hk
  obtain⟨c,hc⟩:=I.ok.has x (.inl hk)
  obtain⟨w',z⟩:=I.cell x c hc
  refine wpAny_storeName_cell I.ok.kind hk hc z (fun h' hc' hs=>?_)
  obtain⟨oc,hoc,NQ⟩:=id z
  refine h { s with heap:=h' } ⟨I.ok,I.os,I.bare,⟨fun b o e n hb hx=>?_,fun b o e n hb hx=>?_,I.base.free,fun b o e hx=>?_,I.base.tups,I.base.frzs,I.base.tbls⟩,⟨m,hn.sameBut hs (Ne.symm (cne x c hc)),fun j y v' e1 e2 e3=>?_⟩,fun y c' e=>?_,I.free,I.freeC,fun p hp=>?_,tracked ⟨oc,hoc,I.freeC x c hc⟩ hs,by simpa using I.len⟩ ⟨c,hs,.inr hc⟩
  ·exact(hs.2 b (JI (JL (Ju e) (I.ok.cab x c hfn hc)))).trans (I.base.keep b o e n hb hx)
  ·obtain⟨sl,e1⟩:=I.base.slot b o e n hb hx
   exact⟨sl,(hs.2 b (JI (JL (Ju e) (I.ok.cab x c hfn hc)))).trans e1⟩
  ·obtain⟨o',e1⟩:=I.base.there b o e hx
   exact⟨o',(hs.2 b (JI (JL (Ju e) (I.ok.cab x c hfn hc)))).trans e1⟩
  ·by_cases hj:j=i
   ·subst hj
    rw[hi]at e1;cases e1
    rw[Lc hiσ]at e2
    cases e2
    exact⟨u,r,.inr ⟨.inl hk,c,hc,hc'⟩⟩
   ·rw[JC (Ne.symm hj)]at e2
    obtain⟨u',r',q⟩:=hl j y v' e1 e2 e3
    refine⟨u',r',?_⟩
    rcases q with q |⟨k,c',e,z'⟩
    ·exact .inl q
    ·refine .inr ⟨k,c',e,z'.sameBut hs ?_⟩
     rintro rfl
     exact hj (oE hN e1 (I.ok.inj _ _ _ e hc ▸ hi))
  ·by_cases hcc:c'=c
   ·subst hcc;exact⟨_,hc'⟩
   ·obtain⟨w2,z2⟩:=I.cell y c' e
    exact⟨w2,z2.sameBut hs hcc⟩
  ·obtain⟨e,n,ne,nf,d⟩:=I.pin p hp
   refine⟨(hs.2 p.1 ?_).trans e,n,ne,nf,d⟩
   intro q
   rw[q,hoc]at e
   have q':oc=p.2:=Js e
   exact d w' (by rw[<-q'];exact NQ)
theorem gE{M:Model}{A:Around}{E:OA}{v:V}{u:Value}{Q:OU}(I:Inv X Ml σ H s)(hN:X.N.Nodup)(hi:X.N[i]? = some x)(hx:Loc X.env.scope x)(r:bi v u)
  (h:∀s',Inv X Ml (σ.set i (some v)) H s'->Q () s') (hf:X.fn x=true\/X.env.scope.names.lookup x=some .local:=by first |exact .inl rfl |exact .inr rfl |assumption):wpAny M A (storeName X.env x u) Q E s :=
 xX I hN hi hx r (fun s' I' _=>h s' I') hf
theorem Inv.call'{s':Shared}{ch:OT}(I:Inv X Ml σ H s)(ho:s'.os=s.os)(u:Un (frs X.stack) ch H H' s.heap s'.heap)(hok:HOk X.prog X.w H' s'.heap)(hg:AllBare s'.gens)
  (hch:∀b ∈ ch,(b ∈ X.ex\/X.s₀.heap.objs.size<=b)/\b ≠ X.env.locals/\(∀x c,X.env.cells.lookup x=some c->c ≠ b)/\∀p ∈ X.pn ++ Ml,p.1 ≠ b):Inv X Ml σ H' s':=by
 obtain⟨h',g',d',t',o'⟩:=s'
 have e:o'=s.os:=ho
 subst e
 exact I.call (g':=g') (t':=t') (d':=d') u hok hg hch
end
abbrev XK:=Value->Option Addr->Hp->Prop
abbrev St:=List (Option V)
abbrev VK:=V->Hp->Prop
abbrev TE:=St->Hp->VK->Prop
abbrev TT:=St->Hp->(Bool->Hp->Prop)->Prop
abbrev TA:=St->Hp->(List V->Hp->Prop)->Prop
structure fe where
 nx:St->Hp->Prop
 rt:VK
 bk:St->Hp->Prop:=fun _ _=>False
 ct:St->Hp->Prop:=fun _ _=>False
abbrev TS:=fe->St->Hp->Prop
def EP(X:Cx)(Ml:OC)(σ:St)(Q:VK)(u:Value)(s':Shared):Prop:=∃v H',Inv X Ml σ H' s'/\bi v u/\Q v H'
abbrev PF:=Bool->Hp->Prop
def TP(X:Cx)(Ml:OC)(σ:St)(Q:PF)(b:Bool)(s':Shared):Prop:=∃H',Inv X Ml σ H' s'/\Q b H'
def AP(X:Cx)(Ml:OC)(σ:St)(Q:List V->Hp->Prop)(us:OH)(s':Shared):Prop:=∃vs H',Inv X Ml σ H' s'/\aW vs us/\Q vs H'
def SP(X:Cx)(Ml:OC)(D:fe)(f:Flow)(s':Shared):Prop :=
 match f with
 |.next=>∃σ' H',Inv X Ml σ' H' s'/\D.nx σ' H'
 |.brk=>∃σ' H',Inv X Ml σ' H' s'/\D.bk σ' H'
 |.cont=>∃σ' H',Inv X Ml σ' H' s'/\D.ct σ' H'
 |.ret u=>∃v σ' H',Inv X Ml σ' H' s'/\bi v u/\D.rt v H'
def PE(X:Cx)(e:Expr)(t:TE):Prop :=
 ∀(Ml:OC) (s:Shared) (σ:St) (H:Hp) (Q:VK),Inv X Ml σ H s->t σ H Q->wpAny (model X.prog X.w) X.A (eval e X.env) (EP X Ml σ Q) X.xe s
def PT(X:Cx)(e:Expr)(t:TT):Prop :=
 ∀(Ml:OC) (s:Shared) (σ:St) (H:Hp) (Q:PF),Inv X Ml σ H s->t σ H Q->wpAny (model X.prog X.w) X.A (isTrue e X.env (eval e X.env)) (TP X Ml σ Q) X.xe s
def PW(X:Cx)(e:Expr)(t:TT):Prop :=
 ∀(whole:Sem Value) (Ml:OC) (s:Shared) (σ:St) (H:Hp) (Q:PF),Inv X Ml σ H s->t σ H Q->wpAny (model X.prog X.w) X.A (isTrue e X.env whole) (TP X Ml σ Q) X.xe s
def PA(X:Cx)(es:OP)(t:TA):Prop :=
 ∀(pos:Pos) (Ml:OC) (s:Shared) (σ:St) (H:Hp) (Q:List V->Hp->Prop),Inv X Ml σ H s->t σ H Q->wpAny (model X.prog X.w) X.A (spliced (backTo pos (starEach es X.env))) (AP X Ml σ Q) X.xe s
def PS(X:Cx)(st:Stmt)(t:TS):Prop :=
 ∀(Ml:OC) (s:Shared) (σ:St) (H:Hp) (D:fe),Inv X Ml σ H s->t D σ H->wpAny (model X.prog X.w) X.A (exec st X.env) (SP X Ml D) X.xe s
def PSs(X:Cx)(st:OV)(t:TS):Prop :=
 ∀(Ml:OC) (s:Shared) (σ:St) (H:Hp) (D:fe),Inv X Ml σ H s->t D σ H->wpAny (model X.prog X.w) X.A (execs st X.env) (SP X Ml D) X.xe s
theorem thn{α:Type}{t:Sem α}{Q Q':α->Shared->Prop}{M:Model}(h:wpAny M A t Q E s)(hQ:∀a s,Q a s->Q' a s):wpAny M A t Q' E s:=JM h hQ fun _ _ x=>x
section
variable {X:Cx}
def nY(i:Nat):TE:=fun σ H Q=>∃v,σ[i]? = some (some v)/\Q v H
def tC(v:V):TE:=fun _ H Q=>Q v H
variable{pos:Pos}{x:Str}
theorem kQ(hN:X.N[i]? = some x)(hv:Vis X.env.scope x)(hd:(x == ("__debug__" : Str))=false:=by decide)(hcd:(x == ("__classdict__" : Str))=false:=by decide):PE X (.Name x pos) (nY i):=by
 intro Ml s σ H Q I h
 obtain⟨v,e,h⟩:=h
 obtain⟨m,hn,hl⟩:=I.loc
 obtain⟨u,r,l⟩:=hl i x v hN e hv
 have fin:EP X Ml σ Q u s:=⟨v,H,I,r,h⟩
 rcases l with⟨hk,hm⟩ |⟨hk,c,hc,M6⟩
 ·exact wpAny_Name (wpAny_loadName_local I.ok.kind hk hn hm fin) hd
 ·rcases hk with hk |hk
  ·exact wpAny_Name (wpAny_loadName_cell I.ok.kind hk hc M6 fin) hd
  ·exact wpAny_Name (wpAny_loadName_free I.ok.kind hk hc M6 fin hcd) hd
theorem AF{i j pos}:PE X (.Constant (.int i) j pos) (tC (.int i)):=fun _ _ _ H _ I h=>wpAny_Constant_int ⟨.int i,H,I.tok _,⟨_,rfl⟩,h⟩
theorem Hs{b j pos}:PE X (.Constant (.bool b) j pos) (tC (.bl b)):=fun _ _ _ H _ I h=>Constant_bool ⟨.bl b,H,I,rfl,h⟩
theorem vH{j pos}:PE X (.Constant .none j pos) (tC .non):=fun _ _ _ H _ I h=>Constant_none ⟨.non,H,I,rfl,h⟩
theorem Fz{x j pos}:PE X (.Constant (.str x) j pos) (tC (.str x)):=fun _ _ _ H _ I h=>Calls.Constant_str ⟨.str x,H,I.tok _,⟨_,rfl⟩,h⟩
def Gl(X:Cx)(x:Str):Prop:=X.env.kindOf x=some .globalImplicit
variable{u:Value}
theorem ja{E:OA}{Ml:OC}{σ:St}{pos:Pos}{Q:OA}(I:Inv X Ml σ H s)(hg:Gl X x)(hm:X.mg x=some u)(h:Q u s)
  (hd:(x == ("__debug__" : Str))=false:=by decide):wpAny (model X.prog X.w) X.A (eval (.Name x pos) X.env) Q E s :=
 Calls.Name_function_global I.ok.kind hg (Calls.loadGlobal_global (by rw[I.ok.glob];exact I.mod.glob.keeps I.bk) hm h) hd
theorem kS{E:OA}{Ml:OC}{σ:St}{pos:Pos}{Q:OA}(I:Inv X Ml σ H s)(hg:Gl X x)(hm:X.mg x=none)(hv:bootBuiltins x=some u)(h:Q u s)
  (hn:x ≠ "__name__" := by decide) (hd:(x == ("__debug__" : Str))=false:=by decide):wpAny (model X.prog X.w) X.A (eval (.Name x pos) X.env) Q E s:=by
 obtain⟨mb,h1,h2⟩:=I.mod.blt
 exact Calls.Name_function_global I.ok.kind hg (Calls.loadGlobal_builtin (by rw[I.ok.glob];exact I.mod.glob.keeps I.bk) hm (by rw[I.ok.blt];exact h1.keeps I.bk) ((h2 x hn).trans hv) h) hd
theorem rJ{v:V}(hg:Gl X x)(hm:X.mg x=some u)(r:bi v u)(hd:(x == ("__debug__" : Str))=false:=by decide):PE X (.Name x pos) (tC v) :=
 fun _ _ _ H _ I h=>ja I hg hm ⟨v,H,I,r,h⟩ hd
theorem nL{v:V}(hg:Gl X x)(hm:X.mg x=none)(hv:bootBuiltins x=some u)(r:bi v u)(hn:x ≠ "__name__" := by decide)(hd:(x == ("__debug__" : Str))=false:=by decide):PE X (.Name x pos) (tC v) :=
 fun _ _ _ H _ I h=>kS I hg hm hv ⟨v,H,I,r,h⟩ hn hd
variable {a b:Expr}{ta tb:TE}{pos:Pos}
def PC(X:Cx)(op:CmpOp)(a b:Expr)(t:TE):Prop :=
 ∀(Ml:OC) (s:Shared) (σ:St) (H:Hp) (Q:VK),Inv X Ml σ H s->t σ H Q ->
  wpAny (model X.prog X.w) X.A (eval a X.env) (fun v s₁=>wpAny (model X.prog X.w) X.A (eval b X.env) (fun u s₂=>wpAny (model X.prog X.w) X.A (compareOp op v u) (EP X Ml σ Q) X.xe s₂) X.xe s₁) X.xe s
variable{op:CmpOp}
theorem uk(b:Expr)(h:op ≠ .In)(h2:op ≠ .NotIn):behindInMarks op b=false:=by
 have e1:(op == CmpOp.In)=false:=by cases op <;> first |rfl |exact absurd rfl h
 have e2:(op == CmpOp.NotIn)=false:=by cases op <;> first |rfl |exact absurd rfl h2
 cases b <;> simp[behindInMarks,e1,e2]
def tB(t:TE):TT:=fun σ H Q=>t σ H fun x H1=>∃c,x=.bl c/\Q c H1
variable{t:TE}
theorem FD(h:PC X op a b t)(h1:behindInMarks op b=false:=by first |exact uk _ nofun nofun |rfl):PE X (.Compare a [op] [b] pos) t:=fun Ml s σ H Q I hw=>wpAny_Compare1 (h Ml s σ H Q I hw) h1
theorem Am(h:PC X op a b t)(h1:behindInMarks op b=false:=by first |exact uk _ nofun nofun |rfl):PT X (.Compare a [op] [b] pos) (tB t):=by
 intro Ml s σ H Q I hw
 refine wpAny_isTrue_Compare1 (thn (h Ml s σ H _ I hw) fun v s1 h1=>thn h1 fun u s2 h2=>thn h2 fun c s3 zz2_0=>?_) h1
 obtain⟨x,H1,I1,r1,q1⟩:=zz2_0
 obtain⟨d,rfl,q⟩:=q1
 cases r1
 exact KJ ⟨H1,I1,q⟩
theorem Fo{e:Expr}(h:PE X e t)(he:∀whole,isTrue e X.env whole=(do let v <-whole;standAt e.pos;holding [v] (truthy v)):=by intro _;rfl):PT X e (tB t):=by
 intro Ml s σ H Q I hw
 refine isTrue_plain (thn (h Ml s σ H _ I hw) fun v s1 zz3_0=>?_) (he _)
 obtain⟨x,H1,I1,r1,q1⟩:=zz3_0
 obtain⟨d,rfl,q⟩:=q1
 cases r1
 exact KJ ⟨H1,I1,q⟩
variable {tA tB':TT}{rest:OP}
def Il(t u:TT):TT:=fun σ H Q=>t σ H fun c H1=>if c=true then u σ H1 Q else Q false H1
def tOr(t u:TT):TT:=fun σ H Q=>t σ H fun c H1=>if c=true then Q true H1 else u σ H1 Q
def Ie(t:TT):TT:=fun σ H Q=>t σ H fun c H1=>Q (!c) H1
theorem CS(ha:PT X a tA):PW X (.BoolOp .And [a] pos) tA:=by
 intro wh Ml s σ H Q I h
 refine isTrue_and (thn (ha Ml s σ H Q I h) fun c s1 e=>?_)
 cases c with
 |true=>exact isTrue_and_nil e
 |false=>exact e
theorem Fl(ha:PT X a tA):PW X (.BoolOp .Or [a] pos) tA:=by
 intro wh Ml s σ H Q I h
 refine isTrue_or (thn (ha Ml s σ H Q I h) fun c s1 e=>?_)
 cases c with
 |false=>exact isTrue_or_nil e
 |true=>exact e
theorem Fm(ha:PT X a tA)(hb:PW X (.BoolOp .And (b :: rest) pos) tB'):PW X (.BoolOp .And (a :: b :: rest) pos) (Il tA tB'):=by
 intro wh Ml s σ H Q I h
 refine isTrue_and (thn (ha Ml s σ H _ I h) fun c s1 zz4_0=>?_)
 obtain⟨H1,I1,q1⟩:=zz4_0
 cases c with
 |true=>exact hb wh Ml s1 σ H1 Q I1 q1
 |false=>exact⟨H1,I1,q1⟩
theorem Hm(ha:PT X a tA)(hb:PW X (.BoolOp .Or (b :: rest) pos) tB'):PW X (.BoolOp .Or (a :: b :: rest) pos) (tOr tA tB'):=by
 intro wh Ml s σ H Q I h
 refine isTrue_or (thn (ha Ml s σ H _ I h) fun c s1 zz5_0=>?_)
 obtain⟨H1,I1,q1⟩:=zz5_0
 cases c with
 |true=>exact⟨H1,I1,q1⟩
 |false=>exact hb wh Ml s1 σ H1 Q I1 q1
theorem Fp(ha:PT X a tA):PT X (.UnaryOp .Not a pos) (Ie tA):=by
 intro Ml s σ H Q I h
 exact isTrue_not (ha Ml s σ H (fun c H1=>Q (!c) H1) I h)
def G6(ta tb:TE):TE:=fun σ H Q=>ta σ H fun x H1=>∃c,x=.bl c/\if c=true then tb σ H1 Q else Q (.bl false) H1
def GY(ta:TE):TE:=fun σ H Q=>ta σ H fun x H1=>∃c,x=.bl c/\Q (.bl (!c)) H1
theorem FA{op}(h:PE X a t):PE X (.BoolOp op [a] pos) t:=fun Ml s σ H Q I hw=>BoolOp_one (h Ml s σ H Q I hw)
theorem FF(ha:PE X a ta)(hb:PE X (.BoolOp .And (b :: rest) pos) tb):PE X (.BoolOp .And (a :: b :: rest) pos) (G6 ta tb):=by
 intro Ml s σ H Q I h
 refine BoolOp_and (thn (ha Ml s σ H _ I h) fun v s1 zz6_0=>?_)
 obtain⟨x,H1,I1,r1,q1⟩:=zz6_0
 obtain⟨c,rfl,q1⟩:=q1
 cases r1
 refine KJ ?_
 cases c with
 |true=>exact hb Ml s1 σ H1 Q I1 q1
 |false=>exact⟨.bl false,H1,I1,rfl,q1⟩
theorem FB(ha:PE X a ta):PE X (.UnaryOp .Not a pos) (GY ta):=by
 intro Ml s σ H Q I h
 refine UnaryOp_ (thn (ha Ml s σ H _ I h) fun v s1 zz7_0=>?_)
 obtain⟨x,H1,I1,r1,q1⟩:=zz7_0
 obtain⟨c,rfl,q1⟩:=q1
 cases r1
 exact not_of (KJ ⟨.bl (!c),H1,I1,rfl,q1⟩)
def tIf(t:TT)(ta tb:TE):TE:=fun σ H Q=>t σ H fun c H1=>if c=true then ta σ H1 Q else tb σ H1 Q
theorem AG{c:Expr}(hc:PT X c tA)(ha:PE X a ta)(hb:PE X b tb):PE X (.IfExp c a b pos) (tIf tA ta tb):=by
 intro Ml s σ H Q I h
 refine wpAny_IfExp (thn (hc Ml s σ H _ I h) fun d s1 zz8_0=>?_)
 obtain⟨H1,I1,q1⟩:=zz8_0
 cases d with
 |true=>exact ha Ml s1 σ H1 Q I1 q1
 |false=>exact hb Ml s1 σ H1 Q I1 q1
end
def SqL(K:OE)(H:Hp)(a:Addr)(xs:ON):Prop :=
 Rd H a (.lst xs) \/
  ∃(o:Obj) (its:OM) (n:Nat),K.lookup a=some o/\o.cls=.type "list"/\o.dict=none/\o.data=.seq its n/\its.size<=sizeLine/\aW xs its.toList
def SqT(K:OE)(H:Hp)(a:Addr)(xs:ON):Prop :=
 Rd H a (.tup xs) \/
  ∃(o:Obj) (its:OM) (n:Nat),K.lookup a=some o/\o.cls=.type "tuple"/\o.data=.seq its n/\its.size<=sizeLine/\aW xs its.toList
def I9:Value->Option V
 |.none=>some .non
 |.bool b=>some (.bl b)
 |.int i _=>some (.int i)
 |.str x _=>some (.str x)
 |.bytes b _=>some (.byt b)
 |.float b _=>some (.flt b)
 |.ref a=>some (.ref a)
 |.type n=>some (.ty n)
 |_=>none
variable{u:Value}{x:V}
theorem bi.abs(r:bi x u):I9 u=some x:=by
 cases x with
 |non=>cases r;rfl
 |bl _=>cases r;rfl
 |int _=>obtain⟨t,rfl⟩:=r;rfl
 |str _=>obtain⟨t,rfl⟩:=r;rfl
 |byt _=>obtain⟨t,rfl⟩:=r;rfl
 |flt _=>obtain⟨t,rfl⟩:=r;rfl
 |ref _=>cases r;rfl
 |ty _=>cases r;rfl
theorem bi.inj{x y:V}{u:Value}(r:bi x u)(q:bi y u):x=y:=Js (r.abs.symm.trans q.abs)
theorem aW.inj:∀{xs ys:ON}{us:OH},aW xs us->aW ys us->xs=ys
 := by
  intro xs ys us h
  revert ys
  induction h with
  |nil =>
   intro ys k
   cases k
   rfl
  |cons r t ih =>
   intro ys k
   cases k with
   |cons r' t'=>rw[r.inj r',ih t']
section
variable {X:Cx}{Ml:OC} {σ:St}{H:Hp}{s:Shared}{a:Addr}{xs ys:ON}
theorem SqL.of{K:OE}(h:H a=some (.lst xs)):SqL K H a xs:=.inl (.inl h)
theorem SqT.of{K:OE}(h:H a=some (.tup xs)):SqT K H a xs:=.inl (.inl h)
theorem Inv.list(I:Inv X Ml σ H s)(h:SqL X.K H a xs):∃its:List Value,aW xs its/\PlainL s.heap a its.toArray/\xs.length<=sizeLine:=by
 rcases h with h |⟨o,its,n,hk,hc,hd,hs,hz,r⟩
 ·obtain⟨z,its,n,r,e⟩:=h.ok I.hok
  exact⟨its,r,⟨_,n,e,rfl,rfl,rfl⟩,z⟩
 ·refine⟨its.toList,r,⟨o,n,I.kIn a o hk,hc,hd,by simpa using hs⟩,?_⟩
  have e:=r.length
  simp only[Kq]at e
  omega
theorem Inv.tuple(I:Inv X Ml σ H s)(h:SqT X.K H a xs):∃its:List Value,aW xs its/\IsTup s.heap a its.toArray/\xs.length<=sizeLine:=by
 rcases h with h |⟨o,its,n,hk,hc,hs,hz,r⟩
 ·obtain⟨z,its,r,p⟩:=h.ok I.hok
  exact⟨its,r,p,z⟩
 ·refine⟨its.toList,r,⟨o,I.kIn a o hk,hc,n,by simpa using hs⟩,?_⟩
  have e:=r.length
  simp only[Kq]at e
  omega
theorem Inv.list_inj(I:Inv X Ml σ H s)(h:SqL X.K H a xs)(h':SqL X.K H a ys):xs=ys:=by
 obtain⟨its,r,⟨o,n,e,_,_,d⟩,_⟩:=I.list h
 obtain⟨its',r',⟨o',n',e',_,_,d'⟩,_⟩:=I.list h'
 rw[e]at e';cases e'
 rw[d]at d'
 injection d' with d1 _
 have:its=its':=by simpa using JR Array.toList d1
 subst this
 exact r.inj r'
theorem Inv.tuple_inj(I:Inv X Ml σ H s)(h:SqT X.K H a xs)(h':SqT X.K H a ys):xs=ys:=by
 obtain⟨its,r,⟨o,e,_,n,d⟩,_⟩:=I.tuple h
 obtain⟨its',r',⟨o',e',_,n',d'⟩,_⟩:=I.tuple h'
 rw[e]at e';cases e'
 rw[d]at d'
 injection d' with d1 _
 have:its=its':=by simpa using JR Array.toList d1
 subst this
 exact r.inj r'
end
abbrev Cx.wish(X:Cx)(E:OA):Cx:={ X with xe:=E }
abbrev Cx.nox(X:Cx):Cx:=X.wish fun _ _=>False
theorem Cx.Ok.wish{X:Cx}(ok:X.Ok)(E:OA):(X.wish E).Ok :=
 ⟨ok.mod,ok.kind,ok.glob,ok.blt,ok.above,ok.inj,ok.has,ok.cab,ok.hd,ok.frames,ok.stk,ok.exf,ok.bs,ok.bsz,ok.noex,ok.exfs,ok.funs,ok.frf⟩
theorem Cx.Ok.unwish{X:Cx}(ok:(X.wish E).Ok):X.Ok :=
 ⟨ok.mod,ok.kind,ok.glob,ok.blt,ok.above,ok.inj,ok.has,ok.cab,ok.hd,ok.frames,ok.stk,ok.exf,ok.bs,ok.bsz,ok.noex,ok.exfs,ok.funs,ok.frf⟩
section
variable {X:Cx}{Ml:OC} {σ:St}{H:Hp}{s:Shared}{E:OA}
theorem Inv.wish(I:Inv X Ml σ H s)(E:OA):Inv (X.wish E) Ml σ H s:=⟨I.ok.wish E,I.os,I.bare,I.base,I.loc,I.cell,I.free,I.freeC,I.pin,I.hok,I.len⟩
theorem Inv.unwish(I:Inv (X.wish E) Ml σ H s):Inv X Ml σ H s:=⟨I.ok.unwish,I.os,I.bare,I.base,I.loc,I.cell,I.free,I.freeC,I.pin,I.hok,I.len⟩
theorem SP.unwish{D:fe}{f:Flow}{s':Shared}(h:SP (X.wish E) Ml D f s'):SP X Ml D f s':=by
 cases f with
 |next=>obtain⟨σ',H',I,q⟩:=h;exact⟨σ',H',I.unwish,q⟩
 |brk=>obtain⟨σ',H',I,q⟩:=h;exact⟨σ',H',I.unwish,q⟩
 |cont=>obtain⟨σ',H',I,q⟩:=h;exact⟨σ',H',I.unwish,q⟩
 |ret u=>obtain⟨v,σ',H',I,r,q⟩:=h;exact⟨v,σ',H',I.unwish,r,q⟩
theorem PSs.nox{st:OV}{t:TS}(h:PSs X.nox st t):PSs X st t:=fun Ml s σ H D I hw =>
 JM (h Ml s σ H D (I.wish _) hw) (fun _ _ q=>q.unwish) fun _ _ z=>False.elim z
end
section
variable {X:Cx}{st:Stmt}{rest:OV}{t u:TS}{e:Expr}{te:TE}{pos:Pos}
def G0:TS:=fun D σ H=>D.nx σ H
def GQ(t u:TS):TS:=fun D σ H=>t { D with nx:=u D } σ H
theorem CZ:PSs X [] G0:=fun _ _ σ H _ I h=>KW ⟨σ,H,I,h⟩
theorem Ap(h1:PS X st t)(h2:PSs X rest u):PSs X (st :: rest) (GQ t u):=by
 intro Ml s σ H D I h
 refine Lj (thn (h1 Ml s σ H { D with nx:=u D } I h) fun f s1 q=>?_)
 cases f with
 |next =>
  obtain⟨σ',H',I',q⟩:=q
  exact h2 Ml s1 σ' H' D I' q
 |ret v=>exact q
 |brk=>exact q
 |cont=>exact q
theorem rH(h1:PS X st t):PSs X [st] t:=by
 intro Ml s σ H D I h
 refine Lj (thn (h1 Ml s σ H D I h) fun f s1 q=>?_)
 cases f with
 |next=>exact KW q
 |ret v=>exact q
 |brk=>exact q
 |cont=>exact q
theorem Inv.quiet{Ml:OC}{σ:St}(I:Inv X Ml σ H s):interactive X.env=false:=by simp[interactive,I.ok.kind]
def G2(te:TE):TS:=fun D σ H=>te σ H fun _ H1=>D.nx σ H1
theorem C1(he:PE X e te)(hs:swapsWith e none pos.line X.env=pure false:=by rfl):PS X (.Expr e pos) (G2 te):=by
 intro Ml s σ H D I h
 exact wpAny_Expr_any (thn (he Ml s σ H _ I h) fun v s1 zz9_0=>by obtain⟨x,H1,I1,r1,q1⟩:=zz9_0;exact⟨σ,H1,I1,q1⟩) I.quiet hs
def Ib(te:TE):TS:=fun D σ H=>te σ H D.rt
theorem Ft(he:PE X e te):PS X (.Return (some e) pos) (Ib te):=by
 intro Ml s σ H D I h
 exact wpAny_Return_some (thn (he Ml s σ H _ I h) fun v s1 zz10_0=>by obtain⟨x,H1,I1,r1,q1⟩:=zz10_0;exact⟨x,σ,H1,I1,r1,q1⟩)
def Ii(c:TT)(t u:TS):TS:=fun D σ H=>c σ H fun b H1=>if b=true then t D σ H1 else u D σ H1
theorem Hn{c:Expr}{a b:OV}{tc:TT}(hc:PT X c tc)(ha:PSs X a t)(hb:PSs X b u):PS X (.If c a b pos) (Ii tc t u):=by
 intro Ml s σ H D I h
 refine wpAny_If (thn (hc Ml s σ H _ I h) fun d s1 zz11_0=>?_)
 obtain⟨H1,I1,q1⟩:=zz11_0
 cases d with
 |true=>exact ha Ml s1 σ H1 D I1 q1
 |false=>exact hb Ml s1 σ H1 D I1 q1
def zN:TS:=fun _ _ _=>False
theorem Aq:PS X st zN:=fun _ _ _ _ _ _ h=>h.elim
theorem yo{sts:OV}:PSs X sts zN:=fun _ _ _ _ _ _ h=>h.elim
end
abbrev TG:=V->St->Hp->(St->Hp->Prop)->Prop
abbrev TGs:=List V->St->Hp->(St->Hp->Prop)->Prop
def PG(X:Cx)(target:Expr)(t:TG):Prop :=
 ∀(Ml:OC) (s:Shared) (σ:St) (H:Hp) (v:V) (u:Value) (Q:St->Hp->Prop),Inv X Ml σ H s->bi v u->t v σ H Q ->
  wpAny (model X.prog X.w) X.A (assign target X.env u) (fun _ s'=>∃σ' H',Inv X Ml σ' H' s'/\Q σ' H') X.xe s
def PGs(X:Cx)(ts:OP)(t:TGs):Prop :=
 ∀(Ml:OC) (s:Shared) (σ:St) (H:Hp) (vs:ON) (us:OH) (Q:St->Hp->Prop),Inv X Ml σ H s->aW vs us->t vs σ H Q ->
  wpAny (model X.prog X.w) X.A (assignInOrder ((assignEach ts X.env).map (·.2)) us) (fun _ s'=>∃σ' H',Inv X Ml σ' H' s'/\Q σ' H') X.xe s
abbrev GD:=V->V->V->Hp->(Hp->Prop)->Prop
def HW(X:Cx)(t:GD):Prop :=
 ∀(Ml:OC) (s:Shared) (σ:St) (H:Hp) (o i v:V) (ov iv u:Value) (Q:Hp->Prop),Inv X Ml σ H s->bi o ov->bi i iv->bi v u->t o i v H Q ->
  wpAny (model X.prog X.w) X.A (setItem ov iv u) (fun _ s'=>∃H',Inv X Ml σ H' s'/\Q H') X.xe s
section
variable {X:Cx}{pos:Pos}
def qJ(i:Nat):TG:=fun v σ H Q=>Q (σ.set i (some v)) H
theorem C7{x:Str}(hN:X.N.Nodup)(hi:X.N[i]? = some x)(hx:Loc X.env.scope x)(hf:X.fn x=true\/X.env.scope.names.lookup x=some .local:=by first |exact .inl rfl |exact .inr rfl |assumption):PG X (.Name x pos) (qJ i):=by
 intro Ml s σ H v u Q I r h
 exact wpAny_assign_Name (gE I hN hi hx r (fun s' I'=>⟨_,H,I',h⟩) hf)
def IW:TGs:=fun vs σ H Q=>vs=[]/\Q σ H
def HK(t:TG)(u:TGs):TGs:=fun vs σ H Q=>∃v r,vs=v :: r/\t v σ H fun σ' H'=>u r σ' H' Q
theorem C6:PGs X [] IW:=by
 intro Ml s σ H vs us Q I r h
 obtain⟨e,h⟩:=h
 subst e
 cases r
 exact assignInOrder_nil ⟨σ,H,I,h⟩
variable{e:Expr}
theorem AB{es:OP}{t:TG}{u:TGs}(h1:PG X e t)(h2:PGs X es u)
  (hs:(assignEach (e :: es) X.env).map (·.2)=assign e X.env :: (assignEach es X.env).map (·.2):=by rfl):PGs X (e :: es) (HK t u):=by
 intro Ml s σ H vs us Q I r h
 obtain⟨v,vr,e1,h⟩:=h
 subst e1
 cases r with
 |cons r rr =>
  rw[hs]
  refine assignInOrder_cons (thn (h1 Ml s σ H _ _ _ I r h) fun _ s1 zz12_0=>?_)
  obtain⟨σ1,H1,I1,q1⟩:=zz12_0
  exact h2 Ml s1 σ1 H1 _ _ Q I1 rr q1
def IU(K:OE)(n:Nat)(t:TGs):TG:=fun v σ H Q=>∃a xs,v=.ref a/\SqT K H a xs/\xs.length=n/\t xs σ H Q
theorem Fx{es:OP}{k:Nat}{t:TGs}{n:Nat}(hc:X.calm=true)(h:PGs X es t)
  (hn:(assignEach es X.env).length=n:=by rfl) (hst:(assignEach es X.env).findIdx? (·.1)=none:=by rfl):PG X (.Tuple es k pos) (IU X.K n t):=by
 intro Ml s σ H v u Q I r hw
 obtain⟨a,xs,e1,hq,hl,hw⟩:=hw
 subst e1
 cases r
 obtain⟨its,rv,ht,hz⟩:=I.tuple hq
 refine assign_Tuple_tuple (I.ok.hd hc) ht (by simp[hn,<-hl,rv.length]) hst fun h' hx=>?_
 have I1:Inv X Ml σ H { s with heap:=h' }:=I.kept (t':=s.toks) fun b o e=>hx b o (JI (Ju e)) e
 exact h Ml _ σ H xs _ Q I1 (by simpa using rv) hw
def IV(to ti:TE)(t:GD):TG:=fun v σ H Q=>to σ H fun o H1=>ti σ H1 fun i H2=>t o i v H2 fun H3=>Q σ H3
theorem Fy{o i:Expr}{to ti:TE}{t:GD}(ho:PE X o to)(hi:PE X i ti)(hs:HW X t)
  (ha:∀v,assign (.Subscript o i pos) X.env v=(do
   let ov <-holding [v] (eval o X.env)
   let iv <-holding [v,ov] (eval i X.env)
   standAt pos
   holding [v,ov,iv] (setItem ov iv v)
   release [v,ov,iv] []):=by intro _;rfl):PG X (.Subscript o i pos) (IV to ti t):=by
 intro Ml s σ H v u Q I r h
 rw[ha]
 refine Jn (KC (thn (ho Ml s σ H _ I h) fun ov s1 zz13_0=>?_))
 obtain⟨x,H1,I1,r1,q1⟩:=zz13_0
 refine Jn (KC (thn (hi Ml s1 σ H1 _ I1 q1) fun iv s2 zz14_0=>?_))
 obtain⟨y,H2,I2,r2,q2⟩:=zz14_0
 refine Jn (KN (Jn (KC (thn (hs Ml s2 σ H2 x y v ov iv u _ I2 r1 r2 r q2) fun _ s3 zz15_0=>?_))))
 obtain⟨H3,I3,q3⟩:=zz15_0
 exact wpAny_release ⟨σ,H3,I3,q3⟩
def zQ(te:TE)(g:TG):TS:=fun D σ H=>te σ H fun x H1=>g x σ H1 D.nx
theorem Ar{tg:Expr}{te:TE}{g:TG}(he:PE X e te)(hg:PG X tg g)(hs:swapsWithSole [tg] e pos.line X.env=pure false:=by rfl)(hw:swappedStores [tg] e X.env=pure none:=by rfl)
  (h1:(assignEach [tg] X.env).map (·.2)=[assign tg X.env]:=by rfl):PS X (.Assign [tg] e pos) (zQ te g):=by
 intro Ml s σ H D I h
 refine wpAny_Assign_stores (thn (he Ml s σ H _ I h) fun v s1 zz16_0=>?_) hs hw
 obtain⟨x,H1,I1,r1,q1⟩:=zz16_0
 rw[h1]
 exact thn (hg Ml s1 σ H1 x v _ I1 r1 q1) fun _ s2 q=>q
theorem vE{x:Str}{te:TE}{pos':Pos}(hN:X.N.Nodup)(hi:X.N[i]? = some x)(hx:Loc X.env.scope x)(he:PE X e te)(hs:swapsWith e (some (.Name x pos')) pos.line X.env=pure false:=by rfl)(hf:X.fn x=true\/X.env.scope.names.lookup x=some .local:=by first |exact .inl rfl |exact .inr rfl |assumption) :
  PS X (.Assign [.Name x pos'] e pos) (zQ te (qJ i)):=by
 intro Ml s σ H D I h
 refine wpAny_Assign_Name (thn (he Ml s σ H _ I h) fun v s1 zz17_0=>?_) hs
 obtain⟨y,H1,I1,r1,q1⟩:=zz17_0
 exact gE I1 hN hi hx r1 (fun s2 I2=>⟨_,H1,I2,q1⟩) hf
def Ic(i j:Nat)(ta:TA):TS:=fun D σ H=>ta σ H fun vs H1=>∃v w,vs=[v,w]/\D.nx ((σ.set i (some v)).set j (some w)) H1
theorem Fu{j:Nat}{x y:Str}{a b:Expr}{ta:TA}{px py pt:Pos}{kt k2 pt2}(hc:X.calm=true)(hN:X.N.Nodup)(hi:X.N[i]? = some x)(hj:X.N[j]? = some y)(hij:i ≠ j)
  (hx:X.env.scope.names.lookup x=some .local) (hy:X.env.scope.names.lookup y=some .local) (ha:PA X [a,b] ta)
  (hw:swappedStores [.Tuple [.Name x px,.Name y py] kt pt] (.Tuple [a,b] k2 pt2) X.env=pure (some [x,y]))
  (hs:swapsWithSole [.Tuple [.Name x px,.Name y py] kt pt] (.Tuple [a,b] k2 pt2) pos.line X.env=pure false:=by rfl) :
  PS X (.Assign [.Tuple [.Name x px,.Name y py] kt pt] (.Tuple [a,b] k2 pt2) pos) (Ic i j ta):=by
 intro Ml s σ H D I h
 rw[exec_Assign_arm]
 refine Jn (KN ?_)
 rw[hs]
 refine Jn (Jv ?_)
 rw[if_neg nofun]
 refine Jn (Tuple_ (thn (ha _ Ml s σ H _ I h) fun us s1 zz18_0=>?_))
 obtain⟨vs,H1,I1,r1,q1⟩:=zz18_0
 obtain⟨v,w,e1,q1⟩:=q1
 subst e1
 obtain⟨u1,u2,rfl,rv,rw'⟩:∃u1 u2,us=[u1,u2]/\bi v u1/\bi w u2:=by
  cases r1 with
  |cons p q =>
   cases q with
   |cons p' q' =>
    cases q'
    exact⟨_,_,rfl,p,p'⟩
 refine Km ?_ (by show 2<=sizeLine;decide)
 have I2:Inv X Ml σ H1 { s1 with heap:=s1.heap.push { cls:=.type "tuple",data:=.seq [u1,u2].toArray } }:=I1.kept (t':=s1.toks) fun b o e=>Jp _ e
 rw[hw]
 refine Jn (Jv ?_)
 show wpAny (model X.prog X.w) X.A (do rule "assign.swapped-stores";let items <-unpackItems (.ref s1.heap.objs.size) 2 none;assignInOrder [fun v=>bindName X.env y v,fun v=>bindName X.env x v] items.reverse;pure Flow.next) _ _ _
 refine Jn (Mi (Jn (unpackItems_tuple (items:=#[u1,u2]) (I.ok.hd hc) (IsTup.new s1.heap _) fun h' hx'=>?_)))
 have I3:=I2.kept (h':=h') (t':=s1.toks) fun b o e=>hx' b o (JI (Ju e)) e
 show wpAny _ _ (assignInOrder [fun v=>bindName X.env y v,fun v=>bindName X.env x v] [u2,u1] >>= fun _=>pure Flow.next) _ _ _
 refine Jn (assignInOrder_cons (wpAny_bindName (gE I3 hN hj (.inl hy) rw' (fun s2 I4=>?_) (.inr hy))))
 refine assignInOrder_cons (wpAny_bindName (gE I4 hN hi (.inl hx) rv (fun s3 I5=>assignInOrder_nil (Jv ?_)) (.inr hx)))
 rw[List.set_comm _ _ (Ne.symm hij)]at I5
 exact⟨_,H1,I5,q1⟩
end
structure It where
 go:Nat->Hp->Prop
 yld:Nat->Hp->V->Hp->Prop
 stop:Nat->Hp->Prop
def kx(X:Cx)(Ml:OC)(H:Hp)(b:Addr):Prop :=
 H b=none/\b ≠ X.env.locals/\b ∉ X.fs/\(b ∈ X.ex\/X.s₀.heap.objs.size<=b)/\(∀x c,X.env.cells.lookup x=some c->c ≠ b)/\∀p ∈ X.pn ++ Ml,p.1 ≠ b
variable{σ:St}{Ml:OC}
theorem Inv.fpOk{X:Cx}{H':Hp}(I:Inv X Ml σ H s)(hb:s.heap.objs.size<=b)(hn:H' b=none):kx X Ml H' b:=by
 refine⟨hn,LN (JL I.lt hb),I.nofs hb,.inr (Jy I.sz hb),fun x c e z=>?_,fun p hp z=>?_⟩
 ·obtain⟨v,q⟩:=I.cell x c e
  exact absurd (JL q.lt (by rw[z];exact hb)) (KI _)
 ·exact absurd (JL (Ju (I.pin p hp).1) (by rw[z];exact hb)) (KI _)
structure vc (P:Program) (w:World) (K:OE) (tg:Expr) (J:It) (fp:OT) (it:Addr) (tn:Nat->Heap->Prop):Prop where
 mem:it ∈ fp
 obj:∀i h,tn i h->∀b ∈ fp,∃o,h.get? b=some o/\∀v,o.data ≠ .cell v
 keep:∀i h h',tn i h->(∀b ∈ fp,∀o,h.get? b=some o->h'.get? b=some o)->tn i h'
 item:∀(X:Cx),X.prog=P->X.w=w->X.K=K->X.calm=true->∀(i:Nat) (Ml:OC) (s:Shared) (σ:St) (H:Hp) (E:OA),Inv X Ml σ H s->(∀b ∈ fp,kx X Ml H b)->tn i s.heap->J.go i H ->
  wpAny (model P w) X.A (pyNext (.ref it)) (fun r s1=>∃u,r=some u /\
   wpAny (model P w) X.A (letOwnedTupleGo tg (.ref it) u) (fun _ s2=>∃x H',Inv X Ml σ H' s2/\bi x u/\J.yld i H x H'/\tn (i + 1) s2.heap/\∀b ∈ fp,H' b=none) E s1) E s
 done:∀(X:Cx),X.prog=P->X.w=w->X.K=K->X.calm=true->∀(i:Nat) (Ml:OC) (s:Shared) (σ:St) (H:Hp) (E:OA),Inv X Ml σ H s->(∀b ∈ fp,kx X Ml H b)->tn i s.heap->J.stop i H ->
  wpAny (model P w) X.A (pyNext (.ref it)) (fun r s1=>r=none/\Inv X Ml σ H s1) E s
 self:∀(A:Around) (i:Nat) (s:Shared) (Q:OA) (E:OA),tn i s.heap->Q (.ref it) s->wpAny (model P w) A (pyIter (.ref it)) Q E s
abbrev TI:=St->Hp->(It->Hp->Prop)->Prop
def PIE(X:Cx)(Ml:OC)(σ:St)(tg:Expr)(R:It->Hp->Prop)(itv:Value)(s2:Shared):Prop :=
 ∃(it:Addr) (fp:OT) (tn:Nat->Heap->Prop) (J:It) (H':Hp),itv=.ref it/\Inv X Ml σ H' s2/\vc X.prog X.w X.K tg J fp it tn/\tn 0 s2.heap/\(∀b ∈ fp,kx X Ml H' b)/\R J H'
def PI(X:Cx)(tg Mo:Expr)(wi:TI):Prop :=
 ∀(Ml:OC) (s:Shared) (σ:St) (H:Hp) (R:It->Hp->Prop),Inv X Ml σ H s->wi σ H R ->
  wpAny (model X.prog X.w) X.A (eval Mo X.env) (fun v s1=>wpAny (model X.prog X.w) X.A (pyIter v) (PIE X Ml σ tg R) X.xe s1) X.xe s
theorem BE {M:Model}{A:Around}{E:Value→Shared→Prop}{tg:Expr}{it:Addr}{u:Value}{o:Obj}{n:String}{vs:OM}{Q:Unit→Shared→Prop} (ho:s.heap.get? it=some o) (hc:o.cls=.type n) (hd:o.data=.fields vs)
    (hn:["enumerate","zip","dict_itemiterator","dict_reverseitemiterator","odict_iterator","itertools.zip_longest","itertools.pairwise"].contains n=false) (hQ:Q () s):wpAny M A (letOwnedTupleGo tg (.ref it) u) Q E s:=by
  unfold letOwnedTupleGo
  cases tg <;> first
    |exact Jv hQ
    | (cases u <;> first
        |exact Jv hQ
        | (refine Jn (wpAny_load ho ?_)
           rw[hc,hd]
           show wpAny M A (if(["enumerate","zip","dict_itemiterator","dict_reverseitemiterator","odict_iterator","itertools.zip_longest","itertools.pairwise"].contains n && vs[0]? == some (rawInt _))=true then _ else _) Q E s
           rw[if_neg (by intro h;rw[hn,Ld]at h;cases h)]
           exact Jv hQ))
def Itl(K:OE)(a:Addr):It :=
 ⟨fun i H=>∃xs x,SqL K H a xs/\xs[i]? = some x,fun i H x H'=>H'=H/\∀xs,SqL K H a xs->xs[i]? = some x,fun i H=>∃xs,SqL K H a xs/\xs.length<=i⟩
def Itt(K:OE)(a:Addr):It :=
 ⟨fun i H=>∃xs x,SqT K H a xs/\xs[i]? = some x,fun i H x H'=>H'=H/\∀xs,SqT K H a xs->xs[i]? = some x,fun i H=>∃xs,SqT K H a xs/\xs.length<=i⟩
def Itr(lo:Int)(n:Nat):It:=⟨fun i _=>i < n,fun i H x H'=>H'=H/\x=.int (lo + i),fun i _=>n<=i⟩
variable{tg:Expr}{K:OE}
theorem xU(a it:Addr):vc P w K tg (Itl K a) [it] it (fun i h=>h.IsListIter it a i) where
 mem:=by simp
 obj:=fun i h st b hb=>by
  have e:b=it:=by simpa using hb
  subst e
  obtain⟨o,e,c,d⟩:=st
  exact⟨o,e,fun v z=>by rw[d]at z;cases z⟩
 keep:=fun i h h' st k=>st.at fun o e=>k it (by simp) o e
 item:=by
  intro X hP hw hK hc i Ml s σ H E I hf st hg
  subst hP hw hK
  obtain⟨xs,x,hq,hx⟩:=hg
  obtain⟨its,rv,p,hz⟩:=I.list hq
  obtain⟨u,hu,ru⟩:=rv.get hx
  obtain⟨f0,f1,f2,f3,f4,f5⟩:=hf it (by simp)
  refine wpAny_pyNext_list_item st p.isList (x:=u) (by simpa using hu) fun h' st' sb=>?_
  have I1:Inv X Ml σ H { s with heap:=h' }:=I.turned (t':=s.toks) (fun b o hb e=>(sb.2 b hb).trans e) f0 f1 f3 f4 f5
  obtain⟨o,e,c,d⟩:=id st'
  exact⟨u,rfl,BE (s:={ s with heap:=h' }) e c d nofun ⟨x,H,I1,ru,⟨rfl,fun ys hy=>by rw[I.list_inj hy hq];exact hx⟩,st',fun b hb=>(hf b hb).1⟩⟩
 done:=by
  intro X hP hw hK hc i Ml s σ H E I hf st hg
  subst hP hw hK
  obtain⟨xs,hq,hx⟩:=hg
  obtain⟨its,rv,p,hz⟩:=I.list hq
  obtain⟨f0,f1,f2,f3,f4,f5⟩:=hf it (by simp)
  have hl:=rv.length
  exact wpAny_pyNext_list_end (I.ok.hd hc) st p.isList (by simp;omega) fun h' eb=>⟨rfl,I.turned (t':=s.toks) (fun b o hb e=>eb b o hb e) f0 f1 f3 f4 f5⟩
 self:=fun _ _ _ _ _ st h=>wpAny_pyIter_listiter st h
theorem vi(a it:Addr):vc P w K tg (Itt K a) [it] it (fun i h=>h.IsTupleIter it a i) where
 mem:=by simp
 obj:=fun i h st b hb=>by
  have e:b=it:=by simpa using hb
  subst e
  obtain⟨o,e,c,d⟩:=st
  exact⟨o,e,fun v z=>by rw[d]at z;cases z⟩
 keep:=fun i h h' st k=>st.at fun o e=>k it (by simp) o e
 item:=by
  intro X hP hw hK hc i Ml s σ H E I hf st hg
  subst hP hw hK
  obtain⟨xs,x,hq,hx⟩:=hg
  obtain⟨its,rv,p,hz⟩:=I.tuple hq
  obtain⟨u,hu,ru⟩:=rv.get hx
  obtain⟨f0,f1,f2,f3,f4,f5⟩:=hf it (by simp)
  refine wpAny_pyNext_tuple_item st (show s.heap.IsTuple a its.toArray from p) (x:=u) (by simpa using hu) fun h' st' sb=>?_
  have I1:Inv X Ml σ H { s with heap:=h' }:=I.turned (t':=s.toks) (fun b o hb e=>(sb.2 b hb).trans e) f0 f1 f3 f4 f5
  obtain⟨o,e,c,d⟩:=id st'
  exact⟨u,rfl,BE (s:={ s with heap:=h' }) e c d nofun ⟨x,H,I1,ru,⟨rfl,fun ys hy=>by rw[I.tuple_inj hy hq];exact hx⟩,st',fun b hb=>(hf b hb).1⟩⟩
 done:=by
  intro X hP hw hK hc i Ml s σ H E I hf st hg
  subst hP hw hK
  obtain⟨xs,hq,hx⟩:=hg
  obtain⟨its,rv,p,hz⟩:=I.tuple hq
  obtain⟨f0,f1,f2,f3,f4,f5⟩:=hf it (by simp)
  have hl:=rv.length
  exact wpAny_pyNext_tuple_end (I.ok.hd hc) st (show s.heap.IsTuple a its.toArray from p) (by simp;omega) fun h' eb=>⟨rfl,I.turned (t':=s.toks) (fun b o hb e=>eb b o hb e) f0 f1 f3 f4 f5⟩
 self:=fun _ _ _ _ _ st h=>wpAny_pyIter_tupleiter st h
theorem vj(it:Addr)(lo:Int)(n:Nat):vc P w K tg (Itr lo n) [it] it (fun i h=>IsRangeIter h it (lo + (i:Nat) * 1) ((n:Int) - (i:Nat)) 1) where
 mem:=by simp
 obj:=fun i h st b hb=>by
  have e:b=it:=by simpa using hb
  subst e
  exact⟨_,st,fun v z=>by
   have z':Data.fields _=Data.cell v:=z
   cases z'⟩
 keep:=fun i h h' st k=>k it (by simp) _ st
 item:=by
  intro X hP hw hK hc i Ml s σ H E I hf st hg
  subst hP hw hK
  obtain⟨f0,f1,f2,f3,f4,f5⟩:=hf it (by simp)
  have W:=Walks.range (prog:=X.prog) (w:=X.w) (I.ok.hd hc) it lo 1 n
  refine W.item i s _ _ hg st fun v h' tk hv st' kk=>?_
  obtain⟨t,rfl⟩:=hv
  have I1:Inv X Ml σ H { s with heap:=h',toks:=tk }:=I.turned (fun b o hb e=>kk b o (by simpa using hb) e) f0 f1 f3 f4 f5
  refine⟨_,rfl,BE (s:={ s with heap:=h',toks:=tk }) (n := "range_iterator") st' rfl rfl nofun ⟨.int (lo + i),H,I1,⟨t,?_⟩,⟨rfl,rfl⟩,st',fun b hb=>(hf b hb).1⟩⟩
  rw[Int.mul_one]
 done:=by
  intro X hP hw hK hc i Ml s σ H E I hf st hg
  subst hP hw hK
  obtain⟨f0,f1,f2,f3,f4,f5⟩:=hf it (by simp)
  exact wpAny_pyNext_range_end (I.ok.hd hc) st (by have:n<=i:=hg;omega) fun h' eb=>⟨rfl,I.turned (t':=s.toks) (fun b o hb e=>eb b o hb e) f0 f1 f3 f4 f5⟩
 self:=fun _ _ _ _ _ st h=>wpAny_pyIter_rangeiter st h
section
variable {X:Cx}{tg:Expr}
def HH(K:OE)(tl:TE):TI:=fun σ H R=>tl σ H fun x H1=>∃a,x=.ref a/\(∃xs,SqL K H1 a xs)/\R (Itl K a) H1
def IS(K:OE)(tl:TE):TI:=fun σ H R=>tl σ H fun x H1=>∃a,x=.ref a/\(∃xs,SqT K H1 a xs)/\R (Itt K a) H1
theorem w5{l:Expr}{tl:TE}(hl:PE X l tl):PI X tg l (HH X.K tl):=by
 intro Ml s σ H R I h
 refine thn (hl Ml s σ H _ I h) fun v s1 zz19_0=>?_
 obtain⟨x,H1,I1,r1,q1⟩:=zz19_0
 obtain⟨a,e,⟨xs,hq⟩,q⟩:=q1
 subst e
 cases r1
 obtain⟨its,rv,p,hz⟩:=I1.list hq
 refine LM p.isList ?_
 refine⟨s1.heap.objs.size,[s1.heap.objs.size],_,_,H1,rfl,I1.kept (t':=s1.toks) fun b o e=>Jp _ e,xU a _,⟨_,Jx _ rfl,rfl,rfl⟩,fun b hb=>?_,q⟩
 have e:b=s1.heap.objs.size:=by simpa using hb
 subst e
 exact I1.fpOk (Jw _) (I1.hok.fresh (Jw _))
theorem AA{l:Expr}{tl:TE}(hl:PE X l tl):PI X tg l (IS X.K tl):=by
 intro Ml s σ H R I h
 refine thn (hl Ml s σ H _ I h) fun v s1 zz20_0=>?_
 obtain⟨x,H1,I1,r1,q1⟩:=zz20_0
 obtain⟨a,e,⟨xs,hq⟩,q⟩:=q1
 subst e
 cases r1
 obtain⟨its,rv,p,hz⟩:=I1.tuple hq
 refine wpAny_pyIter_tuple (show s1.heap.IsTuple a its.toArray from p) ?_
 refine⟨s1.heap.objs.size,[s1.heap.objs.size],_,_,H1,rfl,I1.kept (t':=s1.toks) fun b o e=>Jp _ e,vi a _,⟨_,Jx _ rfl,rfl,rfl⟩,fun b hb=>?_,q⟩
 have e:b=s1.heap.objs.size:=by simpa using hb
 subst e
 exact I1.fpOk (Jw _) (I1.hok.fresh (Jw _))
theorem Ak{R:It->Hp->Prop}{E:OA}{lo hi:Int}{t u v:Tok}{tk:Nat}(I:Inv X Ml σ H s)(h1 : -(2 ^ 62)<=lo)(h2:lo < 2 ^ 62)(h3 : -(2 ^ 62)<=hi)(h4:hi < 2 ^ 62)
  (q:R (Itr lo (hi - lo).toNat) H):wpAny (model X.prog X.w) X.A (pyIter (.ref s.heap.objs.size)) (PIE X Ml σ tg R) E { s with heap:=s.heap.push { cls:=.type "range",data:=.fields #[.int lo t,.int hi u,.int 1 v] },toks:=tk }:=by
 refine wpAny_pyIter_range (IsRange.new ..) (small_one h1 h2 h3 h4) ?_
 have I1:Inv X Ml σ H { s with heap:=s.heap.push { cls:=.type "range",data:=.fields #[.int lo t,.int hi u,.int 1 v] },toks:=tk }:=I.kept fun b o e=>Jp _ e
 refine⟨(s.heap.push { cls:=.type "range",data:=.fields #[.int lo t,.int hi u,.int 1 v] }).objs.size,[(s.heap.push { cls:=.type "range",data:=.fields #[.int lo t,.int hi u,.int 1 v] }).objs.size],_,_,H,rfl,
  I1.kept (t':=tk) fun b o e=>Jp _ e,vj _ lo (hi - lo).toNat,?_,fun b hb=>?_,q⟩
 ·have e1:lo + ((0:Nat):Int) * 1=lo:=by simp
  have e2:(((hi - lo).toNat:Nat):Int) - ((0:Nat):Int)=Builtin.Range.rangeSize lo hi 1:=by rw[rangeSize_one];split <;> omega
  show IsRangeIter _ _ (lo + ((0:Nat):Int) * 1) ((((hi - lo).toNat:Nat):Int) - ((0:Nat):Int)) 1
  rw[e1,e2]
  exact Jx _ rfl
 ·have e:b=(s.heap.push { cls:=.type "range",data:=.fields #[.int lo t,.int hi u,.int 1 v] }).objs.size:=by simpa using hb
  subst e
  exact I1.fpOk (Jw _) (I1.hok.fresh (Jw _))
def HG(ta:TA):TI:=fun σ H R=>ta σ H fun vs H1=>∃j:Int,vs=[.int j]/\-(2 ^ 62)<=j/\j < 2 ^ 62/\R (Itr 0 j.toNat) H1
theorem yt{a:Expr}{ta:TA}{p pos:Pos}(hg:Gl X "range")(hm:X.mg "range" = none)(ha:PA X [a] ta)(hs:starEach [a] X.env=[(false,eval a X.env)]:=by rfl):PI X tg (.Call (.Name "range" p) [a] [] pos) (HG ta):=by
 intro Ml s σ H R I h
 refine Call_ (kS I hg hm boot_range (Kv (thn (ha pos Ml s σ H _ I h) fun us s1 zz21_0=>?_) hs rfl))
 obtain⟨vs,H1,I1,r1,q1⟩:=zz21_0
 obtain⟨j,e,q1,q2,q⟩:=q1
 subst e
 cases r1 with
 |cons r rr =>
  cases rr
  obtain⟨t,rfl⟩:=r
  exact call_range_1 (Ak I1 ⋯ ⋯ q1 q2 (by simpa using q))
def Ij(wi:TI)(g:TG)(tb:TS):TS:=fun D σ H=>wi σ H fun J H1=>∃W:Nat->Nat->St->Hp->Prop,(∃m,W 0 m σ H1)/\∀i m σ H,W i m σ H ->
 (J.stop i H/\D.nx σ H)\/(J.go i H/\∃N:St->Hp->Prop,(∀σ' H',N σ' H'->∃m',m' < m/\W (i + 1) m' σ' H')/\∀x H',J.yld i H x H'->g x σ H' fun σ2 H2=>tb { D with nx:=N,ct:=N,bk:=D.nx } σ2 H2)
def mF(fp:OT)(h:Heap):List (Addr×Obj):=fp.filterMap fun b=>(h.get? b).map fun o=>(b,o)
variable{fp:OT}
theorem fu{o:Obj}(hb:b ∈ fp)(e:h.get? b=some o):(b,o) ∈ mF fp h:=List.mem_filterMap.mpr ⟨b,hb,by rw[e];rfl⟩
theorem yE{p:Addr×Obj}(hp:p ∈ mF fp h):p.1 ∈ fp/\h.get? p.1=some p.2:=by
 obtain⟨b,hb,e⟩:=List.mem_filterMap.mp hp
 cases q:h.get? b with
 |none=>rw[q]at e;cases e
 |some o =>
  rw[q]at e
  have e':(b,o)=p:=Js e
  subst e'
  exact⟨hb,q⟩
theorem Inv.pinned(I:Inv X Ml σ H s)(hf:∀b ∈ fp,kx X Ml H b)(ho:∀b ∈ fp,∃o,s.heap.get? b=some o/\∀v,o.data ≠ .cell v):Inv X (Ml ++ mF fp s.heap) σ H s :=
 I.pins_of fun p hp=>(List.mem_append.mp hp).elim (fun z=>I.pin p (JB _ z)) fun z=>by
  obtain⟨hb,e⟩:=yE z
  obtain⟨f0,f1,f2,_⟩:=hf p.1 hb
  obtain⟨o,e',d⟩:=ho p.1 hb
  rw[e]at e';cases e'
  exact⟨e,f0,f1,f2,d⟩
theorem Inv.unpinned{pl:OC}(I:Inv X (Ml ++ pl) σ H s):Inv X Ml σ H s:=I.pins_of fun p hp=>I.pin p (JB _ (JU _ hp))
theorem Fv{Mo:Expr}{body:OV}{wi:TI}{g:TG}{tb:TS}{pos:Pos}(hp:PassesOwn (model X.prog X.w) X.A X.env X.xe)(hc:X.calm=true)(hi:PI X tg Mo wi)(hg:PG X tg g)(hb:PSs X body tb)
  (hs:∀x,foldedSetIterable Mo X.env x=pure x:=by intro _;rfl):PS X (.For tg Mo body [] pos) (Ij wi g tb):=by
 intro Ml s σ H D I h
 refine wpAny_For (thn (hi Ml s σ H _ I h) fun v s1 h1=>thn h1 fun itv s2 h2=>?_) hs
 obtain⟨it,fp,tn,J,H2,e,I2,T,st2,f2,W,⟨m0,w0⟩,turn⟩:=h2
 subst e
 have stat:∀{H':Hp},(∀b ∈ fp,H' b=none)->∀b ∈ fp,kx X Ml H' b:=fun hn b hb=>⟨hn b hb,(f2 b hb).2⟩
 refine codeAny_forLoop_any (fun n s'=>∃i σ' H',Inv X Ml σ' H' s'/\tn i s'.heap/\(∀b ∈ fp,H' b=none)/\W i n σ' H') ?_ m0 ⟨0,σ,H2,I2,st2,fun b hb=>(f2 b hb).1,w0⟩
 rintro n s3 ⟨i,σ3,H3,I3,st3,fr3,w3⟩
 rcases turn i n σ3 H3 w3 with⟨stop,qn⟩ |⟨go,N,hN,step⟩
 ·refine Ku hp (thn (T.done X rfl rfl rfl hc i Ml s3 σ3 H3 X.xe I3 (stat fr3) st3 stop) fun r s4 zz22_0=>?_)
  obtain⟨hr,I4⟩:=zz22_0
  subst hr
  exact KW ⟨σ3,H3,I4,qn⟩
 ·refine Ku hp (thn (T.item X rfl rfl rfl hc i Ml s3 σ3 H3 X.xe I3 (stat fr3) st3 go) fun r s4 zz23_0=>?_)
  obtain⟨u,hr,h4⟩:=zz23_0
  subst hr
  refine Ku hp (thn h4 fun _ s5 zz24_0=>?_)
  obtain⟨x,H5,I5,r5,y5,st5,fr5⟩:=zz24_0
  have I5':=I5.pinned (stat fr5) (T.obj _ _ st5)
  refine Ku hp (thn (hg _ s5 σ3 H5 x u _ I5' r5 (step x H5 y5)) fun _ s6 zz25_0=>?_)
  obtain⟨σ6,H6,I6,q6⟩:=zz25_0
  refine Ku hp (thn (hb _ s6 σ6 H6 _ I6 q6) fun f s7 q7=>?_)
  have again:∀{σ7:St}{H7:Hp},Inv X (Ml ++ mF fp s5.heap) σ7 H7 s7->N σ7 H7->∃m,m < n/\∃i σ' H',Inv X Ml σ' H' s7/\tn i s7.heap/\(∀b ∈ fp,H' b=none)/\W i m σ' H':=fun {σ7 H7} I7 n7=>by
   obtain⟨m',hm,w7⟩:=hN σ7 H7 n7
   refine⟨m',hm,i + 1,σ7,H7,I7.unpinned,T.keep _ _ _ st5 fun b hb o e=>(I7.pin (b,o) (JB _ (JB _ (fu hb e)))).1,fun b hb=>?_,w7⟩
   obtain⟨o,e,d⟩:=T.obj _ _ st5 b hb
   exact(I7.pin (b,o) (JB _ (JB _ (fu hb e)))).2.1
  cases f with
  |next=>obtain⟨σ7,H7,I7,n7⟩:=q7;exact again I7 n7
  |cont=>obtain⟨σ7,H7,I7,n7⟩:=q7;exact again I7 n7
  |brk=>obtain⟨σ7,H7,I7,q7⟩:=q7;exact⟨σ7,H7,I7.unpinned,q7⟩
  |ret v=>obtain⟨x7,σ7,H7,I7,r7,q7⟩:=q7;exact⟨x7,σ7,H7,I7.unpinned,r7,q7⟩
end
abbrev R2:=V->V->Hp->VK->Prop
def OpR(X:Cx)(f:Value->Value->Sem Value)(r:R2):Prop :=
 ∀(Ml:OC) (s:Shared) (σ:St) (H:Hp) (x y:V) (v u:Value) (Q:VK),Inv X Ml σ H s->bi x v->bi y u->r x y H Q ->
  wpAny (model X.prog X.w) X.A (f v u) (EP X Ml σ Q) X.xe s
def UnR(X:Cx)(f:Value->Sem Value)(r:V->Hp->VK->Prop):Prop :=
 ∀(Ml:OC) (s:Shared) (σ:St) (H:Hp) (x:V) (v:Value) (Q:VK),Inv X Ml σ H s->bi x v->r x H Q ->
  wpAny (model X.prog X.w) X.A (f v) (EP X Ml σ Q) X.xe s
abbrev Os:=List V->Hp->VK->Prop
def dc(X:Cx)(f:Value)(r:Os):Prop :=
 ∀(Ml:OC) (s:Shared) (σ:St) (H:Hp) (xs:ON) (us:OH) (Q:VK),Inv X Ml σ H s->aW xs us->r xs H Q ->
  wpAny (model X.prog X.w) X.A (call f us) (EP X Ml σ Q) X.xe s
def tOp(r:R2)(ta tb:TE):TE:=fun σ H Q=>ta σ H fun x H1=>tb σ H1 fun y H2=>r x y H2 Q
def tUn(r:V->Hp->VK->Prop)(ta:TE):TE:=fun σ H Q=>ta σ H fun x H1=>r x H1 Q
def rI(C:Int->Int->Prop)(g:Int->Int->V):R2:=fun x y H Q=>∃i j,x=.int i/\y=.int j/\C i j/\Q (g i j) H
def rI0(g:Int->Int->V):R2:=fun x y H Q=>∃i j,x=.int i/\y=.int j/\Q (g i j) H
def rU(g:Int->V):V->Hp->VK->Prop:=fun x H Q=>∃i,x=.int i/\Q (g i) H
section
variable {X:Cx}{a b c:Expr}{ta tb tc:TE}{pos:Pos}
theorem GA(ha:PE X a ta)(hb:PE X b tb){R:V->V->Hp->Prop}(I:Inv X Ml σ H s)
  (h:ta σ H fun x H1=>tb σ H1 fun y H2=>R x y H2) {Q:OA}{f:Value->Value->Sem Value}
  (hf:∀v u s2 x y H2,Inv X Ml σ H2 s2->bi x v->bi y u->R x y H2->wpAny (model X.prog X.w) X.A (f v u) Q X.xe s2) :
  wpAny (model X.prog X.w) X.A (eval a X.env) (fun v s₁=>wpAny (model X.prog X.w) X.A (eval b X.env) (fun u s₂=>wpAny (model X.prog X.w) X.A (f v u) Q X.xe s₂) X.xe s₁) X.xe s:=by
 refine thn (ha Ml s σ H _ I h) fun v s1 zz26_0=>?_
 obtain⟨x,H1,I1,r1,q1⟩:=zz26_0
 refine thn (hb Ml s1 σ H1 _ I1 q1) fun u s2 zz27_0=>?_
 obtain⟨y,H2,I2,r2,q2⟩:=zz27_0
 exact hf v u s2 x y H2 I2 r1 r2 q2
theorem Hq{op:Operator}{r:R2}(ho:OpR X (binaryOp op) r)(ha:PE X a ta)(hb:PE X b tb):PE X (.BinOp a op b pos) (tOp r ta tb):=by
 intro Ml s σ H Q I h
 exact wpAny_BinOp (GA ha hb I h fun v u s2 x y H2 I2 rx ry q=>ho Ml s2 σ H2 x y v u Q I2 rx ry q)
theorem Ho{op:UnaryOp}{r:V->Hp->VK->Prop}(ho:UnR X (unaryOp op) r)(ha:PE X a ta):PE X (.UnaryOp op a pos) (tUn r ta):=by
 intro Ml s σ H Q I h
 exact UnaryOp_ (thn (ha Ml s σ H _ I h) fun v s1 zz28_0=>by obtain⟨x,H1,I1,r1,q1⟩:=zz28_0;exact ho Ml s1 σ H1 x v Q I1 r1 q1)
theorem opI{f:Value->Value->Sem Value}{C:Int->Int->Prop}{g:Int->Int->Int}
  (rule:∀(i j:Int) (t u:Tok) (s:Shared) (Q:OA) (E:OA),C i j->Q (.int (g i j) s.toks) { s with toks:=s.toks + 1 }->wpAny (model X.prog X.w) X.A (f (.int i t) (.int j u)) Q E s) :
  OpR X f (rI C fun i j=>.int (g i j)):=by
 intro Ml s σ H x y v u Q I rx ry h
 obtain⟨i,j,rfl,rfl,hc,q⟩:=h
 obtain⟨t,rfl⟩:=rx
 obtain⟨t',rfl⟩:=ry
 exact rule i j t t' s _ _ hc ⟨.int (g i j),H,I.tok _,⟨_,rfl⟩,q⟩
theorem Hx{f:Value->Value->Sem Value}{g:Int->Int->Int}
  (rule:∀(i j:Int) (t u:Tok) (s:Shared) (Q:OA) (E:OA),Q (.int (g i j) s.toks) { s with toks:=s.toks + 1 }->wpAny (model X.prog X.w) X.A (f (.int i t) (.int j u)) Q E s) :
  OpR X f (rI0 fun i j=>.int (g i j)):=by
 intro Ml s σ H x y v u Q I rx ry h
 obtain⟨i,j,rfl,rfl,q⟩:=h
 obtain⟨t,rfl⟩:=rx
 obtain⟨t',rfl⟩:=ry
 exact rule i j t t' s _ _ ⟨.int (g i j),H,I.tok _,⟨_,rfl⟩,q⟩
theorem FO{f:Value->Value->Sem Value}{g:Int->Int->Bool}
  (rule:∀(i j:Int) (t u:Tok) (s:Shared) (Q:OA) (E:OA),Q (.bool (g i j)) s->wpAny (model X.prog X.w) X.A (f (.int i t) (.int j u)) Q E s) :
  OpR X f (rI0 fun i j=>.bl (g i j)):=by
 intro Ml s σ H x y v u Q I rx ry h
 obtain⟨i,j,rfl,rfl,q⟩:=h
 obtain⟨t,rfl⟩:=rx
 obtain⟨t',rfl⟩:=ry
 exact rule i j t t' s _ _ ⟨.bl (g i j),H,I,rfl,q⟩
def H8(i j:Int):Prop:=0<=j/\j<=1000000/\i.natAbs < 2 ^ 64
theorem FN:OpR X (binaryOp .Add) (rI0 fun i j=>.int (i + j)):=Hx fun _ _ _ _ _ _ _ q=>add_int q
theorem FI:OpR X (binaryOp .Sub) (rI0 fun i j=>.int (i - j)):=Hx fun _ _ _ _ _ _ _ q=>sub_int q
theorem FK:OpR X (binaryOp .Mod) (rI (fun _ j=>0 < j) fun i j=>.int (i % j)):=opI fun i j _ _ _ _ _ hc q=>by
 have h1:(0:Int) < j:=hc
 exact mod_int' ⋯ (by rw[Int.fmod_eq_emod_of_nonneg i ⋯];exact q)
theorem FJ:OpR X (binaryOp .Pow) (rI H8 fun i j=>.int (i ^ j.toNat)):=opI fun _ _ _ _ _ _ _ hc q=>pow_int_small hc.1 hc.2.1 hc.2.2 q
theorem unI{f:Value->Sem Value}{g:Int->Int}
  (rule:∀(i:Int) (t:Tok) (s:Shared) (Q:OA) (E:OA),Q (.int (g i) s.toks) { s with toks:=s.toks + 1 }->wpAny (model X.prog X.w) X.A (f (.int i t)) Q E s) :
  UnR X f (rU fun i=>.int (g i)):=by
 intro Ml s σ H x v Q I rx h
 obtain⟨i,rfl,q⟩:=h
 obtain⟨t,rfl⟩:=rx
 exact rule i t s _ _ ⟨.int (g i),H,I.tok _,⟨_,rfl⟩,q⟩
theorem EO:UnR X (unaryOp .USub) (rU fun i=>.int (-i)):=unI fun _ _ _ _ _ q=>neg_int q
end
def G8:V->V->Bool
 |.non,.non=>true |.non,.int _=>true |.int _,.non=>true |.non,.bl _=>true |.bl _,.non=>true |.non,.str _=>true |.str _,.non=>true
 |.int _,.int _=>true |.bl _,.bl _=>true |.str _,.str _=>true |.byt _,.byt _=>true
 |.int _,.str _=>true |.str _,.int _=>true |.bl _,.str _=>true |.str _,.bl _=>true
 |_,_=>false
def rEq:R2:=fun x y H Q=>G8 x y=true/\Q (.bl (decide (x=y))) H
def rNe:R2:=fun x y H Q=>G8 x y=true/\Q (.bl (!decide (x=y))) H
theorem xG{i j:Int}:decide (V.int i=V.int j)=(i == j):=by
 rw[LS]
 simp
theorem B6{i j:Bool}:decide (V.bl i=V.bl j)=(i == j):=by
 rw[LS]
 simp
theorem xE{i j:Str}:decide (V.str i=V.str j)=(i == j):=by
 rw[LS]
 simp
theorem xH{i j:Array UInt8}:decide (V.byt i=V.byt j)=(i.toList == j.toList):=by
 rw[LS]
 cases i
 cases j
 simp
section
variable {X:Cx}{a b c:Expr}{ta tb tc:TE}{pos:Pos}
theorem bg{Q:VK}{k k':Bool}(I:Inv X Ml σ H s)(q:Q (.bl k) H)(e:k=k'):EP X Ml σ Q (.bool k') s:=by
 subst e
 exact⟨.bl k,H,I,rfl,q⟩
theorem Ey:OpR X (compareOp .Eq) rEq:=by
 intro Ml s σ H x y v u Q I rx ry h
 obtain⟨hs,q⟩:=h
 cases x with
 |non =>
  cases rx
  cases y with
  |non=>cases ry;exact PySem.EqNone.eq_none_none (bg I q (by simp))
  |bl j=>cases ry;exact PySem.EqNone.eq_none_bool (bg I q (by simp))
  |int j=>obtain⟨t',rfl⟩:=ry;exact PySem.EqNone.eq_none_int (bg I q (by simp))
  |str j=>obtain⟨t',rfl⟩:=ry;exact PySem.EqNone.eq_none_str (bg I q (by simp))
  |_=>exact absurd (show false=true from hs) JF
 |bl i =>
  cases rx
  cases y with
  |non=>cases ry;exact PySem.EqNone.eq_bool_none (bg I q (by simp))
  |bl j=>cases ry;exact eq_bool (bg I q B6)
  |str j=>obtain⟨t',rfl⟩:=ry;exact PySem.EqMixed.eq_bool_str (bg I q (by simp))
  |_=>exact absurd (show false=true from hs) JF
 |int i =>
  obtain⟨t,rfl⟩:=rx
  cases y with
  |non=>cases ry;exact PySem.EqNone.eq_int_none (bg I q (by simp))
  |int j=>obtain⟨t',rfl⟩:=ry;exact eq_int (bg I q xG)
  |str j=>obtain⟨t',rfl⟩:=ry;exact PySem.EqMixed.eq_int_str (bg I q (by simp))
  |_=>exact absurd (show false=true from hs) JF
 |str i =>
  obtain⟨t,rfl⟩:=rx
  cases y with
  |non=>cases ry;exact PySem.EqNone.eq_str_none (bg I q (by simp))
  |bl j=>cases ry;exact PySem.EqMixed.eq_str_bool (bg I q (by simp))
  |int j=>obtain⟨t',rfl⟩:=ry;exact PySem.EqMixed.eq_str_int (bg I q (by simp))
  |str j=>obtain⟨t',rfl⟩:=ry;exact eq_str (bg I q xE)
  |_=>exact absurd (show false=true from hs) JF
 |byt i =>
  obtain⟨t,rfl⟩:=rx
  cases y with
  |byt j=>obtain⟨t',rfl⟩:=ry;exact PySem.W.eq_bytes (bg I q xH)
  |_=>exact absurd (show false=true from hs) JF
 |_=>cases y <;> exact absurd (show false=true from hs) JF
theorem Hu:OpR X (compareOp .NotEq) rNe:=by
 intro Ml s σ H x y v u Q I rx ry h
 obtain⟨hs,q⟩:=h
 cases x with
 |non =>
  cases rx
  cases y with
  |non=>cases ry;exact PySem.EqNone.ne_none_none (bg I q (by simp))
  |bl j=>cases ry;exact PySem.EqNone.ne_none_bool (bg I q (by simp))
  |int j=>obtain⟨t',rfl⟩:=ry;exact PySem.EqNone.ne_none_int (bg I q (by simp))
  |str j=>obtain⟨t',rfl⟩:=ry;exact PySem.EqNone.ne_none_str (bg I q (by simp))
  |_=>exact absurd (show false=true from hs) JF
 |bl i =>
  cases rx
  cases y with
  |non=>cases ry;exact PySem.EqNone.ne_bool_none (bg I q (by simp))
  |bl j=>cases ry;exact ne_bool (bg I q (JR not B6))
  |str j=>obtain⟨t',rfl⟩:=ry;exact PySem.EqMixed.ne_bool_str (bg I q (by simp))
  |_=>exact absurd (show false=true from hs) JF
 |int i =>
  obtain⟨t,rfl⟩:=rx
  cases y with
  |non=>cases ry;exact PySem.EqNone.ne_int_none (bg I q (by simp))
  |int j=>obtain⟨t',rfl⟩:=ry;exact ne_int (bg I q (JR not xG))
  |str j=>obtain⟨t',rfl⟩:=ry;exact PySem.EqMixed.ne_int_str (bg I q (by simp))
  |_=>exact absurd (show false=true from hs) JF
 |str i =>
  obtain⟨t,rfl⟩:=rx
  cases y with
  |non=>cases ry;exact PySem.EqNone.ne_str_none (bg I q (by simp))
  |bl j=>cases ry;exact PySem.EqMixed.ne_str_bool (bg I q (by simp))
  |int j=>obtain⟨t',rfl⟩:=ry;exact PySem.EqMixed.ne_str_int (bg I q (by simp))
  |str j=>obtain⟨t',rfl⟩:=ry;exact ne_str (bg I q (JR not xE))
  |_=>exact absurd (show false=true from hs) JF
 |byt i =>
  obtain⟨t,rfl⟩:=rx
  cases y with
  |byt j=>obtain⟨t',rfl⟩:=ry;exact PySem.W.ne_bytes (bg I q (JR not xH))
  |_=>exact absurd (show false=true from hs) JF
 |_=>cases y <;> exact absurd (show false=true from hs) JF
theorem Hv:OpR X (compareOp .Lt) (rI0 fun i j=>.bl (decide (i < j))):=FO fun _ _ _ _ _ _ _ q=>lt_int q
theorem Hw:OpR X (compareOp .LtE) (rI0 fun i j=>.bl (decide (i<=j))):=FO fun _ _ _ _ _ _ _ q=>le_int q
theorem Ex:OpR X (compareOp .Gt) (rI0 fun i j=>.bl (decide (j < i))):=FO fun _ _ _ _ _ _ _ q=>gt_int q
theorem yy:OpR X (compareOp .Lt) (fun x y H Q=>∃i j,x=.str i/\y=.str j/\Q (.bl (decide (i.cps.toList < j.cps.toList))) H):=by
 intro Ml s σ H x y v u Q I rx ry h
 obtain⟨i,j,rfl,rfl,q⟩:=h
 obtain⟨t,rfl⟩:=rx
 obtain⟨t',rfl⟩:=ry
 exact lt_str (bg I q rfl)
theorem qt:OpR X (compareOp .In) (fun x y H Q=>∃i j,x=.str i/\y=.str j/\Q (.bl (!(Builtin.Str.occurrences j i 0 j.length 1).isEmpty)) H):=by
 intro Ml s σ H x y v u Q I rx ry h
 obtain⟨i,j,rfl,rfl,q⟩:=h
 obtain⟨t,rfl⟩:=rx
 obtain⟨t',rfl⟩:=ry
 exact in_str (bg I q rfl)
theorem FL:OpR X (compareOp .Is) (fun x y H Q=>y=.non/\Q (.bl (decide (x=.non))) H):=by
 intro Ml s σ H x y v u Q I rx ry h
 obtain⟨rfl,q⟩:=h
 cases ry
 refine is_none_gen (bg I q ?_)
 cases x <;> first
  | (cases rx;rfl)
  | (obtain⟨t,rfl⟩:=rx;rfl)
theorem Db:OpR X (compareOp .IsNot) (fun x y H Q=>y=.non/\Q (.bl (!decide (x=.non))) H):=by
 intro Ml s σ H x y v u Q I rx ry h
 obtain⟨rfl,q⟩:=h
 cases ry
 refine isnot_none_gen (bg I q ?_)
 cases x <;> first
  | (cases rx;rfl)
  | (obtain⟨t,rfl⟩:=rx;rfl)
theorem rK:OpR X (compareOp .NotIn) (fun x y H Q=>∃i j,x=.str i/\y=.str j/\Q (.bl (!(!(Builtin.Str.occurrences j i 0 j.length 1).isEmpty))) H):=by
 intro Ml s σ H x y v u Q I rx ry h
 obtain⟨i,j,rfl,rfl,q⟩:=h
 obtain⟨t,rfl⟩:=rx
 obtain⟨t',rfl⟩:=ry
 exact notIn_str (bg I q rfl)
variable{r:R2}
theorem OpR.or{f:Value->Value->Sem Value}{r':R2}(h:OpR X f r)(h':OpR X f r'):OpR X f (fun x y H Q=>r x y H Q\/r' x y H Q):=by
 intro Ml s σ H x y v u Q I rx ry q
 rcases q with q |q
 ·exact h Ml s σ H x y v u Q I rx ry q
 ·exact h' Ml s σ H x y v u Q I rx ry q
variable{op:CmpOp}
theorem i_(b:Expr)(h:op ≠ .In:=by decide)(h2:op ≠ .NotIn:=by decide):behindInMarks op b=false:=by
 have e1:(op == CmpOp.In)=false:=by cases op <;> first |rfl |exact absurd rfl h
 have e2:(op == CmpOp.NotIn)=false:=by cases op <;> first |rfl |exact absurd rfl h2
 cases b <;> simp[behindInMarks,e1,e2]
theorem w6(ho:OpR X (compareOp op) r)(ha:PE X a ta)(hb:PE X b tb)(hm:behindInMarks op b=false):PE X (.Compare a [op] [b] pos) (tOp r ta tb):=by
 intro Ml s σ H Q I h
 exact wpAny_Compare1 (GA ha hb I h fun v u s2 x y H2 I2 rx ry q=>ho Ml s2 σ H2 x y v u Q I2 rx ry q) hm
def GP(t:TE):TT:=fun σ H Q=>t σ H fun x H'=>∃k,x=.bl k/\Q k H'
theorem lF(ho:OpR X (compareOp op) r)(ha:PE X a ta)(hb:PE X b tb)(hm:behindInMarks op b=false):PT X (.Compare a [op] [b] pos) (GP (tOp r ta tb)):=by
 intro Ml s σ H Q I h
 refine wpAny_isTrue_Compare1 (thn (ha Ml s σ H _ I h) fun v s1 ⟨x,H1,I1,r1,q1⟩=>thn (hb Ml s1 σ H1 _ I1 q1) fun u s2 ⟨y,H2,I2,r2,q2⟩ =>
  thn (ho Ml s2 σ H2 x y v u _ I2 r1 r2 q2) fun c s3 ⟨z,H3,I3,r3,k,e,q3⟩=>?_) hm
 subst e
 cases r3
 exact KJ ⟨H3,I3,q3⟩
def zP(r r':R2)(ta tb tc:TE):TE:=fun σ H Q=>ta σ H fun x H1=>tb σ H1 fun y H2=>r x y H2 fun z H3=>∃k,z=.bl k /\
 (if k=true then tc σ H3 fun w' H4=>r' y w' H4 Q else Q (.bl false) H3)
theorem AI{op':CmpOp}{r':R2}(ho:OpR X (compareOp op) r)(ho':OpR X (compareOp op') r')(ha:PE X a ta)(hb:PE X b tb)(hc:PE X c tc)
  (hm:lastMarks [op,op'] [b,c]=false:=by with_unfolding_all rfl):PE X (.Compare a [op,op'] [b,c] pos) (zP r r' ta tb tc):=by
 intro Ml s σ H Q I h
 refine Compare_chain (thn (ha Ml s σ H _ I h) fun v s1 ⟨x,H1,I1,r1,q1⟩=>chain_link (thn (hb Ml s1 σ H1 _ I1 q1) fun u s2 ⟨y,H2,I2,r2,q2⟩ =>
  thn (ho Ml s2 σ H2 x y v u _ I2 r1 r2 q2) fun d s3 ⟨z,H3,I3,r3,k,e,q3⟩=>?_)) hm
 subst e
 cases r3
 refine KJ ?_
 cases k with
 |false=>exact ite_ff ⟨.bl false,H3,I3,rfl,q3⟩
 |true=>exact ite_tt (chain_last (thn (hc Ml s3 σ H3 _ I3 q3) fun w' s4 zz35_0=>by obtain⟨z',H4,I4,r4,q4⟩:=zz35_0;exact ho' Ml s4 σ H4 y z' u w' Q I4 r2 r4 q4))
theorem oN:(sizeLine:Nat) < 2 ^ 63:=by rw[KY];decide
theorem vK:OpR X (binaryOp .Add) (fun x y H Q=>∃i j,x=.str i/\y=.str j/\i.length + j.length<=sizeLine/\Q (.str (i ++ j)) H):=by
 intro Ml s σ H x y v u Q I rx ry h
 obtain⟨i,j,rfl,rfl,hz,q⟩:=h
 obtain⟨t,rfl⟩:=rx
 obtain⟨t',rfl⟩:=ry
 exact add_str (fun t' tk=>⟨.str (i ++ j),H,I.tok _,⟨_,rfl⟩,q⟩) hz
theorem jw{us:OH}(r:aW [x] us):∃u,us=[u]/\bi x u:=by
 cases r with
 |cons r1 r2=>cases r2;exact⟨_,rfl,r1⟩
theorem zE{y:V}{us:OH}(r:aW [x,y] us):∃u w',us=[u,w']/\bi x u/\bi y w':=by
 cases r with
 |cons r1 r2 =>
  cases r2 with
  |cons r3 r4=>cases r4;exact⟨_,_,rfl,r1,r3⟩
theorem zi(hc:X.calm=true):dc X (.builtin "min") (fun xs H Q=>∃i j,xs=[.int i,.int j]/\Q (.int (if j < i then j else i)) H):=by
 intro Ml s σ H xs us Q I r h
 obtain⟨i,j,rfl,q⟩:=h
 obtain⟨u,w',rfl,⟨t,rfl⟩,⟨t',rfl⟩⟩:=zE r
 refine min_two_ints (I.ok.hd hc) fun h' tk k=>⟨_,H,I.kept k,?_,q⟩
 by_cases hj:j < i
 ·rw[if_pos hj,if_pos hj];exact⟨_,rfl⟩
 ·rw[if_neg hj,if_neg hj];exact⟨_,rfl⟩
theorem zk:dc X (.type "int") (fun xs H Q=>(∃i,xs=[.int i]/\Q (.int i) H)\/∃k,xs=[.bl k]/\Q (.int (if k then 1 else 0)) H):=by
 intro Ml s σ H xs us Q I r h
 rcases h with⟨i,rfl,q⟩ |⟨k,rfl,q⟩
 ·obtain⟨u,rfl,t,rfl⟩:=jw r
  exact call_int_int ⟨.int i,H,I,⟨_,rfl⟩,q⟩
 ·obtain⟨u,rfl,r1⟩:=jw r
  cases r1
  exact call_int_bool ⟨.int (if k then 1 else 0),H,I.tok _,⟨_,rfl⟩,q⟩
def GH(K:OE)(x:V)(H:Hp)(n:Nat):Prop :=
 match x with
 |.str y=>y.length<=sizeLine/\n=y.length
 |.byt y=>y.size<=sizeLine/\n=y.size
 |.ref p=>(∃xs,SqL K H p xs/\n=xs.length)\/∃xs,SqT K H p xs/\n=xs.length
 |_=>False
theorem B8:dc X (.builtin "len") (fun xs H Q=>∃x n,xs=[x]/\GH X.K x H n/\Q (.int n) H):=by
 intro Ml s σ H xs us Q I r h
 obtain⟨x,n,rfl,e,q⟩:=h
 obtain⟨u,rfl,rx⟩:=jw r
 have hl:=oN
 have hs:sizeLine=16777216:=KY
 cases x with
 |str y =>
  obtain⟨t,rfl⟩:=rx
  obtain⟨hy,e'⟩:y.length<=sizeLine/\n=y.length:=e
  subst e'
  exact len_str ⋯ ⟨.int _,H,I.tok _,⟨_,rfl⟩,q⟩
 |byt y =>
  obtain⟨t,rfl⟩:=rx
  obtain⟨hy,e'⟩:y.size<=sizeLine/\n=y.size:=e
  subst e'
  exact PySem.W.len_bytes ⋯ ⟨.int _,H,I.tok _,⟨_,rfl⟩,q⟩
 |ref p =>
  cases rx
  have e':(∃xs,SqL X.K H p xs/\n=xs.length)\/∃xs,SqT X.K H p xs/\n=xs.length:=e
  rcases e' with⟨xs,hx,e'⟩ |⟨xs,hx,e'⟩
  ·subst e'
   obtain⟨its,r',pl,hz⟩:=I.list hx
   have Mp:=r'.length
   exact Calls.call_len_list pl.isList (by simp only[Jz];omega) ⟨.int xs.length,H,I.tok _,⟨_,by simp only[Jz];rw[Mp]⟩,q⟩
  ·subst e'
   obtain⟨its,r',pl,hz⟩:=I.tuple hx
   have Mp:=r'.length
   exact len_tuple pl (by simp only[Jz];omega) ⟨.int xs.length,H,I.tok _,⟨_,by simp only[Jz];rw[Mp]⟩,q⟩
 |_=>exact(show False from e).elim
end
structure GG (h:Heap) (x dx C:Addr) (mA:OI):Prop where
 obj:h.get? x=some (PySem.W.instObj C dx)
 ns:h.Ns1 dx mA
 ne:dx ≠ x
theorem yL{dx:Addr}{mA:OI}(n:h.Ns1 dx mA):∃od,h.get? dx=some od/\∀name,PySem.W.lookIn name od=some (mA name):=by
 obtain⟨o,es,ep,ho,hd,hk,_,hm⟩:=n
 refine⟨o,ho,fun name=>?_⟩
 have e:=hm name
 unfold nsFind findBy at e
 rw[<-Array.find?_toList]at e
 unfold PySem.W.lookIn
 rw[hd]
 dsimp only
 split
 ·rename_i y q
  rw[q]at e
  exact JR some e
 ·rename_i q
  rw[q]at e
  have a:es.toList.any (·.refKey)=false:=by
   rw[List.any_eq_false]
   intro y hy
   obtain⟨z,t,NU⟩:=hk y (Array.mem_toList_iff.mp hy)
   simp[DictEntry.refKey,NU]
  have a':¬es.toList.any (·.refKey)=true:=by rw[a];exact JF
  rw[if_neg a']
  exact JR some e
variable{C:Addr}
theorem GG.look{x dx:Addr}{mA:OI}(I:GG h x dx C mA):∃od,PySem.W.InstAt h x (PySem.W.instObj C dx) C (some od)/\∀name,PySem.W.lookIn name od=some (mA name) :=
 let ⟨od,ho,hl⟩:=yL I.ns
 ⟨od,⟨I.obj,rfl,rfl,ho⟩,hl⟩
theorem iu.some_of{v:V}{o:PB}(r:iu (some v) o):∃u,o=some u/\bi v u:=by
 cases o with
 |none=>exact(show False from r).elim
 |some u=>exact⟨u,rfl,r⟩
theorem iu.none_of{o:PB}(r:iu none o):o=none:=by
 cases o with
 |none=>rfl
 |some u=>exact(show False from r).elim
theorem qI{v:V}(r:bi v u):PySem.W.handedIn u=true:=by
 cases v with
 |non=>cases(show u=Value.none from r);rfl
 |bl b=>cases(show u=Value.bool b from r);rfl
 |int i=>obtain⟨t,e⟩:=(show ∃t,u=Value.int i t from r);cases e;rfl
 |str x=>obtain⟨t,e⟩:=(show ∃t,u=Value.str x t from r);cases e;rfl
 |byt b=>obtain⟨t,e⟩:=(show ∃t,u=Value.bytes b t from r);cases e;rfl
 |flt b=>obtain⟨t,e⟩:=(show ∃t,u=Value.float b t from r);cases e;rfl
 |ref a=>cases(show u=Value.ref a from r);rfl
 |ty n=>cases(show u=Value.type n from r);rfl
section
variable {P:Program}{w:World}{H H':Hp}{h h':Heap}{a C dx:Addr}{fs fs':OW}
theorem xp(hok:HOk P w H h)(e:H a=some (.ins C dx fs)):∃mA,GG h a dx C mA/\(∀f,iu (fs.lookup f) (mA f))/\PySem.Within mA (fs.map (·.1))/\fs.length<=1000/\H dx=some (.own a):=by
 obtain⟨d,z,ne,ob,mA,n,r,q⟩:=(show cP P w H h a (.ins C dx fs) from hok a _ e)
 exact⟨mA,⟨ob,n,ne⟩,r,q,z,d⟩
end
structure Cls (K:OE) (C:Addr):Prop where
 pg:PySem.W.plainGet K C Str.empty=true
 hd:PySem.W.hasDictIn K C=true
 po:PySem.W.plainOver K C=true
 sa:PySem.W.findIn K (.ref C) "__setattr__" = some (some (.builtin "object.__setattr__"))
theorem Cls.get(c:Cls K C)(f:Str):PySem.W.plainGet K C f=true:=c.pg
section
variable {X:Cx}{Ml:OC} {σ:St}{H:Hp}{s:Shared}{a C dx:Addr}{fs:OW} {f:Str}{v:V}{A:Around}{E:OA}
theorem xL{prog:Program}{w:World}{env:Env}{e:Expr}{f:Str}{pos:Pos}{s:Shared}{Q:OA}(hb:attributeBase e f env (eval e env)=eval e env)
  (h:wpAny (model prog w) A (eval e env) (fun o s₁=>wpAny (model prog w) A (getAttr o f true) Q E s₁) E s):wpAny (model prog w) A (eval (.Attribute e f pos) env) Q E s :=
 Attribute_any_ h (by rw[arm_eval_Attribute,hb])
end
section
variable {X:Cx}{Ml:OC} {σ:St}{H:Hp}{s:Shared}{A:Around}{E:OA}{Q:OA}{c:Value}{b:Bool}
inductive jY (K:OE) (H:Hp):V->Value->Prop where
 |non:jY K H .non (.type "NoneType")
 |bl (x:Bool):jY K H (.bl x) (.type "bool")
 |int (i:Int):jY K H (.int i) (.type "int")
 |str (x:Str):jY K H (.str x) (.type "str")
 |flt (x:UInt64):jY K H (.flt x) (.type "float")
 |lst {a:Addr}{xs:ON} (e:H a=some (.lst xs)):jY K H (.ref a) (.type "list")
 |frz {a:Addr}{o:Obj}{xs:ON} (e:H a=some (.frz o (.lst xs))):jY K H (.ref a) (.type "list")
 |tup {a:Addr}{xs:ON} (e:H a=some (.tup xs)):jY K H (.ref a) (.type "tuple")
 |dK {a:Addr}{kvs:OY} (e:H a=some (.dK kvs)):jY K H (.ref a) (.type "dict")
 |dT {a:Addr}{kvs:PD} (e:H a=some (.dT kvs)):jY K H (.ref a) (.type "dict")
 |frzD {a:Addr}{o:Obj}{kvs:OY} (e:H a=some (.frz o (.dK kvs))):jY K H (.ref a) (.type "dict")
 |ins {a C dx:Addr}{fs:OW} (e:H a=some (.ins C dx fs)) (cl:Cls K C) (ha:PySem.W.findIn K (.ref C) "__class__" = some (some (.builtin "object.__class__")))
   (hn:PySem.W.specialIn K (.builtin "object.__class__") "__get__" = some (some (.builtin "getset_descriptor.__get__"))) (htk:PySem.W.takesIn K (.builtin "object.__class__")=some true)
   (hm:PySem.W.mroIn K C (.type "object")=some true):jY K H (.ref a) (.ref C)
theorem yT{t:Value}(I:Inv X Ml σ H s)(rx:bi x u)(ty:jY X.K H x t)(e:PySem.W.kitOne X.K t c=some b)(h:∀tk,Q (.bool b) { s with toks:=tk }) :
  wpAny (model X.prog X.w) A (call (.builtin "isinstance") [u,c]) Q E s:=by
 cases ty with
 |non=>cases(show u=Value.none from rx);exact Kd PySem.W.kitx_none I.kIn True.intro e (fun z=>nomatch z) h
 |bl y=>cases(show u=Value.bool y from rx);exact Kd PySem.W.kitx_bool I.kIn True.intro e (fun z=>nomatch z) h
 |int i=>obtain⟨t,q⟩:=(show ∃t,u=Value.int i t from rx);cases q;exact Kd PySem.W.kitx_int I.kIn True.intro e (fun z=>nomatch z) h
 |str y=>obtain⟨t,q⟩:=(show ∃t,u=Value.str y t from rx);cases q;exact Kd PySem.W.kitx_str I.kIn True.intro e (fun z=>nomatch z) h
 |flt y=>obtain⟨t,q⟩:=(show ∃t,u=Value.float y t from rx);cases q;exact Kd PySem.W.kitx_float I.kIn True.intro e (fun z=>nomatch z) h
 |@lst a xs ea =>
  cases(show u=Value.ref a from rx)
  obtain⟨_,_,n,_,h1⟩:=(show cP X.prog X.w H s.heap a (.lst xs) from I.hok a _ ea)
  exact Kd Lp I.kIn ⟨_,h1,rfl⟩ e (fun z=>nomatch z) h
 |@frz a ob xs ea =>
  cases(show u=Value.ref a from rx)
  obtain⟨_,_,_,n,_,h1⟩:=(show cP X.prog X.w H s.heap a (.frz ob (.lst xs)) from I.hok a _ ea)
  exact Kd Lp I.kIn ⟨_,h1,rfl⟩ e (fun z=>nomatch z) h
 |@tup a xs ea =>
  cases(show u=Value.ref a from rx)
  obtain⟨_,_,_,p⟩:=(show cP X.prog X.w H s.heap a (.tup xs) from I.hok a _ ea)
  obtain⟨o,h1,h2,_⟩:=p
  exact Kd PySem.W.kitx_tuple I.kIn ⟨o,h1,h2⟩ e (fun z=>nomatch z) h
 |@dK a kvs ea =>
  cases(show u=Value.ref a from rx)
  obtain⟨_,_,vs,_,p⟩:=(show cP X.prog X.w H s.heap a (.dK kvs) from I.hok a _ ea)
  obtain⟨o,es,ep,h1,h2,_⟩:=p
  exact Kd KR I.kIn ⟨o,h1,h2.1⟩ e (fun z=>nomatch z) h
 |@frzD a ob kvs ea =>
  cases(show u=Value.ref a from rx)
  obtain⟨_,_,_,vs,_,p⟩:=(show cP X.prog X.w H s.heap a (.frz ob (.dK kvs)) from I.hok a _ ea)
  obtain⟨o,es,ep,h1,h2,_⟩:=p
  exact Kd KR I.kIn ⟨o,h1,h2.1⟩ e (fun z=>nomatch z) h
 |@dT a kvs ea =>
  cases(show u=Value.ref a from rx)
  obtain⟨_,_,xs,_,o,es,ep,h1,h2,_⟩:=(show cP X.prog X.w H s.heap a (.dT kvs) from I.hok a _ ea)
  exact Kd KR I.kIn ⟨o,h1,h2.1⟩ e (fun z=>nomatch z) h
 |@ins a C dx fs ea cl ha hn htk hm =>
  cases(show u=Value.ref a from rx)
  obtain⟨mA,O,_⟩:=xp I.hok ea
  obtain⟨od,J,_⟩:=O.look
  exact Kd (PySem.W.kitx_own (cl.get _) cl.hd ha hn htk hm) I.kIn J e (fun z=>nomatch z) h
end
structure dj (k:Nat) (A:Around):Prop where
 hd:A.handled=none
 dp:A.depth + 3 * k + 5 < recursionLimit
 un:A.units + 16 * k + 200 < cLine
theorem dj.mono{j k:Nat}(r:dj k A)(h:j<=k):dj j A:=⟨r.hd,by have:=r.dp;omega,by have:=r.un;omega⟩
theorem dj.deeper{k:Nat}{A:Around}(r:dj (k + 1) A)(env:Env):dj k (A.deeper env) :=
 ⟨r.hd,by have:=r.dp;show A.depth + 1 + 3 * k + 5 < _;omega,by have:=r.un;show A.units + 3 + 16 * k + 200 < _;omega⟩
variable{us:OH}
theorem oK{kw:Ox}:(A.under (.builtin "type.__call__" ⟨.ref C :: us,kw⟩)).depth=A.depth + 1:=by
 first |rfl |simp[Around.under,Code.weight,Code.isCreation,Code.isGuard,Code.isCaller,Code.frames,Code.isFrame,guardIds]
theorem oJ{kw:Ox}:(A.under (.builtin "type.__call__" ⟨.ref C :: us,kw⟩)).units=A.units + 1:=by
 first |rfl |simp[Around.under,Code.cUnits,Code.frames,Code.isFrame]
theorem dj.make{k:Nat}(r:dj (k + 1) A)(C:Addr)(us:OH)(kw:Ox):dj k (A.under (.builtin "type.__call__" ⟨.ref C :: us,kw⟩)) :=
 ⟨r.hd,by have:=r.dp;rw[oK];omega,by have:=r.un;rw[oJ];omega⟩
theorem dj.depth{k:Nat}{A:Around}(r:dj k A):A.depth < recursionLimit:=by have:=r.dp;omega
theorem dj.units{k:Nat}{A:Around}(r:dj k A):A.units + 64 < cLine:=by have:=r.un;omega
def GZ:TA:=fun _ H Q=>Q [] H
def Ee(ta:TE)(tr:TA):TA:=fun σ H Q=>ta σ H fun x H1=>tr σ H1 fun xs H2=>Q (x :: xs) H2
section
variable {X:Cx}{e:Expr}{es:OP}{te:TE}{t:TA}{pos:Pos}
theorem ek:PA X [] GZ:=fun _ _ _ _ H Q I h=>Calls.spliced_nil ⟨[],H,I,.nil,h⟩
theorem bR(ha:PE X e te)(hr:PA X es t)(hs:starEach (e :: es) X.env=(false,eval e X.env) :: starEach es X.env:=by rfl):PA X (e :: es) (Ee te t):=by
 intro pos Ml s σ H Q I h
 rw[hs]
 show wpAny _ _ (spliced ((false,eval e X.env) :: backTo pos (starEach es X.env))) _ _ s
 refine Calls.spliced_cons (thn (ha Ml s σ H _ I h) fun u s1 zz36_0=>?_)
 obtain⟨x,H1,I1,r1,q1⟩:=zz36_0
 exact thn (hr pos Ml s1 σ H1 _ I1 q1) fun us s2 zz37_0=>by obtain⟨xs,H2,I2,r2,q2⟩:=zz37_0;exact⟨x :: xs,H2,I2,.cons r1 r2,q2⟩
def Ia(t:TA):TE:=fun σ H Q=>t σ H fun xs H1=>xs.length<=sizeLine/\∀p,H1 p=none->Q (.ref p) (upd H1 p (.tup xs))
def Ig(t:TA):TE:=fun σ H Q=>t σ H fun xs H1=>xs.length<=sizeLine/\∀p,H1 p=none->Q (.ref p) (upd H1 p (.lst xs))
theorem vG{x1}(h:PA X es t):PE X (.Tuple es x1 pos) (Ia t):=by
 intro Ml s σ H Q I hq
 refine wpAny_Tuple_spliced (thn (h pos Ml s σ H _ I hq) fun us s1 ⟨xs,H1,I1,r,z,q⟩=>⟨by rw[<-r.length];exact z,?_⟩)
 have hf:H1 s1.heap.objs.size=none:=I1.hok.fresh (Jw _)
 refine⟨.ref s1.heap.objs.size,upd H1 s1.heap.objs.size (.tup xs),I1.laid (t':=s1.toks) (fun b u e=>Jp _ e) (Jw _) ?_,rfl,q _ hf⟩
 exact⟨z,us,r,⟨_,Jx _ rfl,rfl,_,rfl⟩⟩
theorem FC(h:PA X es t):PE X (.List es pos) (Ig t):=by
 intro Ml s σ H Q I hq
 refine wpAny_List_spliced (thn (h pos Ml s σ H _ I hq) fun us s1 ⟨xs,H1,I1,r,z,q⟩=>⟨by rw[<-r.length];exact z,?_⟩)
 have hf:H1 s1.heap.objs.size=none:=I1.hok.fresh (Jw _)
 refine⟨.ref s1.heap.objs.size,upd H1 s1.heap.objs.size (.lst xs),I1.laid (t':=s1.toks) (fun b u e=>Jp _ e) (Jw _) ?_,rfl,q _ hf⟩
 exact⟨z,us,0,r,Jx _ rfl⟩
end
abbrev Sp:=List V->Hp->VK->XK->Prop
abbrev CXT:=List Env->Hp->Shared->XK->Value->Shared->Prop
structure sT (P:Program) (w:World) (K:OE) (mg:OI) (base:Heap) (A:Around) (outer:OZ) (s:Shared) (H:Hp):Prop where
 frames:A.frames=some outer
 mod:Mod K mg base
 bs:∀b o,base.get? b=some o->s.heap.get? b=some o/\H b=none
 bsz:base.objs.size<=s.heap.objs.size
 funs:s.heap.FunFrames base outer
 frf:∀b ∈ frs outer,H b=none
 hok:HOk P w H s.heap
 bare:AllBare s.gens
def CE(outer:OZ)(P:Program)(w:World)(H:Hp)(s:Shared)(Q:VK)(u:Value)(s':Shared):Prop :=
 ∃v H',s'.os=s.os/\AllBare s'.gens/\Un (frs outer) [] H H' s.heap s'.heap/\HOk P w H' s'.heap/\bi v u/\Q v H'
def CR(CX:CXT)(outer:OZ)(P:Program)(w:World)(H:Hp)(s:Shared)(Q:VK)(E:XK)(r:Result)(s':Shared):Prop :=
 match r with
 |.ok (.ret u)=>CE outer P w H s Q u s'
 |.ok _=>False
 |.error e=>CX outer H s E e s'
structure aX (P:Program) (w:World) (K:OE) (mg:OI) (base:Heap) (CX:CXT) (k:Nat) (f:Addr) (fd:FuncData) (ps:OD) (sp:Sp):Prop where
 len:∀vs H Q E,sp vs H Q E->vs.length=ps.length
 run:∀(A:Around) (outer:OZ) (s:Shared) (H:Hp) (args:Args) (us:OH) (vs:ON) (Q:VK) (E:XK),dj k A->sT P w K mg base A outer s H->BindsTo s fd args (ps.zip us)->aW vs us->sp vs H Q E ->
  codeAny (model P w) A (.call (.ref f) args) (CR CX outer P w H s Q E) s
variable{base:Heap}{mg:OI}
theorem sT.make{outer:OZ}(e:sT P w K mg base A outer s H)(C:Addr)(us:OH)(kw:Ox) :
  sT P w K mg base (A.under (.builtin "type.__call__" ⟨.ref C :: us,kw⟩)) outer s H:=⟨by first |exact e.frames | (simpa[Around.under,Code.envs,Code.isFrame,pushEnvs] using e.frames),e.mod,e.bs,e.bsz,e.funs,e.frf,e.hok,e.bare⟩
section
variable {X:Cx}{Ml:OC} {σ:St}{H:Hp}{s s':Shared}
theorem Inv.env0(I:Inv X Ml σ H s):sT X.prog X.w X.K X.mg X.base X.A X.stack s H :=
 ⟨I.ok.frames,I.ok.mod,I.bs,Jy I.ok.bsz I.sz,I.stack,I.stkFree,I.hok,I.bare⟩
theorem Inv.after{Q:VK}(I:Inv X Ml σ H s)(h:CE X.stack X.prog X.w H s Q u s'):EP X Ml σ Q u s':=by
 obtain⟨v,H',os,bare,un,hok,r,q⟩:=h
 obtain⟨hh,g,d,t,os'⟩:=s'
 obtain rfl:os'=s.os:=os
 exact⟨v,H',I.call (h':=hh) (g':=g) (d':=d) (t':=t) (ch:=[]) un hok bare (fun b z=>absurd z (by simp)),r,q⟩
end
def G5(sp:Sp)(dvs:ON)(E:XK)(t:TA):TE:=fun σ H Q=>t σ H fun vs H1=>sp (vs ++ dvs) H1 Q E
def fj(K:OE)(fd:FuncData)(ps:OD)(ds:OH):Prop :=
 ∀(s:Shared) (us:OH),K.In s.heap->(us ++ ds).length=ps.length->BindsTo s fd ⟨us,[]⟩ (ps.zip (us ++ ds))
theorem fj.all{fd:FuncData}{ps:OD}(h:∀us:List Value,us.length=ps.length->bindArgs fd ⟨us,[]⟩=pure (ps.zip us)):fj K fd ps []:=fun s us _ hl=>by
 rw[JZ]at hl ⊢
 exact .of_eq (h us hl)
def wB(CX:CXT)(X:Cx)(E:XK):Prop:=∀(Ml:OC) (σ:St) (H:Hp) (s:Shared) (e:Value) (s':Shared),Inv X Ml σ H s->CX X.stack H s E e s'->X.xe e s'
section
variable {X:Cx}{CX:CXT}{k:Nat}{f C:Addr}{fd:FuncData}{ps:OD}{sp:Sp}{dvs:ON}{ds:OH}{E:XK}{x m:Str}{p pos apos:Pos}{e o:Expr}{es:OP}{ta:TE}{t:TA}
theorem EZ{Ml:OC}{σ:St}{H:Hp}{s:Shared}{Q:VK}{us:OH}{vs:ON}(F:aX X.prog X.w X.K X.mg X.base CX k f fd ps sp)(hr:dj k X.A)(hb:fj X.K fd ps ds)(hd:aW dvs ds)(hx:wB CX X E)
  (I:Inv X Ml σ H s) (r:aW vs us) (h:sp (vs ++ dvs) H Q E):wpAny (model X.prog X.w) X.A (call (.ref f) us) (EP X Ml σ Q) X.xe s:=by
 have r2:aW (vs ++ dvs) (us ++ ds):=r.append hd
 have hl:(us ++ ds).length=ps.length:=by rw[<-r2.length];exact F.len _ _ _ _ h
 refine Mj (La (F.run X.A X.stack s H ⟨us,[]⟩ (us ++ ds) (vs ++ dvs) Q E hr I.env0 (hb s us I.kIn hl) r2 h) fun r s' hq=>?_)
 cases r with
 |error e=>exact hx Ml σ H s e s' I hq
 |ok fl =>
  cases fl with
  |ret u=>exact I.after hq
  |next=>exact False.elim hq
  |brk=>exact False.elim hq
  |cont=>exact False.elim hq
theorem w8(F:aX X.prog X.w X.K X.mg X.base CX k f fd ps sp)(hr:dj k X.A)(hg:Gl X x)(hm:X.mg x=some (.ref f))(hk:PySem.W.keepIn X.K (.ref f)=true)(hb:fj X.K fd ps ds)(hd:aW dvs ds)(hx:wB CX X E)
  (ha:PA X (e :: es) t) (hdb:(x == ("__debug__" : Str))=false:=by decide) (he:starEach (e :: es) X.env=(false,eval e X.env) :: starEach es X.env:=by rfl) (hpl:(backTo pos (starEach es X.env)).any (·.1)=false:=by rfl) :
  PE X (.Call (.Name x p) (e :: es) [] pos) (G5 sp dvs E t):=by
 intro Ml s σ H Q I h
 refine KD (ja I hg hm ?_ hdb)
 refine Ll (h₀:=X.base) I.ok.mod.kin hk (thn (ha pos Ml s σ H _ I h) fun us s1 ⟨vs,H1,I1,r,q⟩=>⟨I1.kIn,?_⟩) he hpl
 exact EZ F hr hb hd hx I1 r q
end
structure aE (N P:OD) (sc:Scope):Prop where
 kind:sc.kind=.function
 co:sc.isCoroutine=false
 gen:sc.isGenerator=false
 nd:N.Nodup
 pre:N.take P.length=P
 par:∀x ∈ P,sc.names.lookup x=some .local\/sc.names.lookup x=some .cell
 nofree:∀y ∈ sc.names,y.2 ≠ .free
theorem qY{kindOf:PH}{x:Str}:∀{binds:Ox} {m:OI},(∀v,(x,v) ∉ binds)->bindL kindOf binds m x=m x
 | [],_,_=>rfl
 | (n,v) :: r,m,h=>by
  unfold bindL
  rw[qY fun w hw=>h w (Jt _ hw)]
  split
  ·have:x ≠ n:=by rintro rfl;exact h v Jq
   simp[this]
  ·rfl
theorem q8{kindOf:PH}{x:Str}:∀{binds:Ox} {m:OI},(∀v,(x,v) ∉ binds)->bindC kindOf binds m x=m x
 | [],_,_=>rfl
 | (n,v) :: r,m,h=>by
  unfold bindC
  rw[q8 fun w hw=>h w (Jt _ hw)]
  split
  ·rfl
  ·have:x ≠ n:=by rintro rfl;exact h v Jq
   simp[this]
theorem qZ{kindOf:PH}{x:Str}{v:Value}:∀{P:OD}{vs:OH}{i:Nat}{m:OI},P.Nodup->P[i]? = some x->vs[i]? = some v->kindOf x=some .local ->
  bindL kindOf (P.zip vs) m x=some v
 | [],_,_,_,_,h,_,_=>by simp at h
 |_ :: _,[],_,_,_,_,h,_=>by simp at h
 |p :: P,w :: vs,0,m,nd,h1,h2,hk=>by
  simp at h1 h2;subst h1;subst h2
  show bindL kindOf ((p,w) :: P.zip vs) m p=_
  unfold bindL
  rw[qY fun v hv=>(List.nodup_cons.mp nd).1 (LQ hv).1,if_pos hk]
  simp
 |p :: P,w :: vs,i + 1,m,nd,h1,h2,hk=>by
  show bindL kindOf ((p,w) :: P.zip vs) m x=_
  unfold bindL
  exact qZ (i:=i) (List.nodup_cons.mp nd).2 (by simpa using h1) (by simpa using h2) hk
theorem q9{kindOf:PH}{x:Str}{v:Value}:∀{P:OD}{vs:OH}{i:Nat}{m:OI},P.Nodup->P[i]? = some x->vs[i]? = some v->kindOf x ≠ some .local ->
  bindC kindOf (P.zip vs) m x=some v
 | [],_,_,_,_,h,_,_=>by simp at h
 |_ :: _,[],_,_,_,_,h,_=>by simp at h
 |p :: P,w :: vs,0,m,nd,h1,h2,hk=>by
  simp at h1 h2;subst h1;subst h2
  show bindC kindOf ((p,w) :: P.zip vs) m p=_
  unfold bindC
  rw[q8 fun v hv=>(List.nodup_cons.mp nd).1 (LQ hv).1,if_neg hk]
  simp
 |p :: P,w :: vs,i + 1,m,nd,h1,h2,hk=>by
  show bindC kindOf ((p,w) :: P.zip vs) m x=_
  unfold bindC
  exact q9 (i:=i) (List.nodup_cons.mp nd).2 (by simpa using h1) (by simpa using h2) hk
def start(N:OD)(vs:ON):St:=vs.map some ++ List.replicate (N.length - vs.length) none
def jN(CX:CXT)(P:Program)(w:World)(K:OE)(mg:OI)(base:Heap)(N:OD)(qual:Str)(scope:Scope)(f:Addr)(cd:Value)(A:Around)(outer:OZ)(s:Shared)(H:Hp)(E:XK):Cx where
 prog:=P
 w:=w
 K:=K
 mg:=mg
 base:=base
 A:=A.deeper (envOfC qual scope s.heap.objs.size f cd)
 N:=N
 s₀:=s
 H₀:=H
 env:=envOfC qual scope s.heap.objs.size f cd
 outer:=outer
 stack:=envOfC qual scope s.heap.objs.size f cd :: outer
 ex:=[]
 calm:=true
 fn:=fun _=>true
 pn:=[]
 xe:=fun e s'=>wpAny (model P w) (A.deeper (envOfC qual scope s.heap.objs.size f cd)) (leaving (envOfC qual scope s.heap.objs.size f cd) e) (fun _ s''=>CX outer H s E e s'') (fun e' s''=>CX outer H s E e' s'') s'
theorem u7{sc:Scope}{n:Nat}{x:Str}(h:sc.names.lookup x=some .cell):∃c,(cellsFrom n sc.names []).lookup x=some c:=by
 have q:=LJ sc.names n [] (.inl h)
 exact Option.isSome_iff_exists.mp q
theorem qF{CX:CXT}{P:Program}{w:World}{K:OE}{mg:OI}{base:Heap}{N ps:OD}{qual:Str}{scope:Scope}{f:Addr}{cd:Value}{A:Around}{outer:OZ}{s s1:Shared}{H:Hp}{E:XK}{us:OH}{vs:ON}
  (S:aE N ps scope) (hd:A.handled=none) (e0:sT P w K mg base A outer s H) (hl:vs.length=ps.length) (r:aW vs us)
  (x:InCallC s s.heap.objs.size (bindL (envOfC qual scope s.heap.objs.size f cd).kindOf (ps.zip us) fun _=>none) (cellsFrom (s.heap.objs.size + 1) scope.names []) (bindC (envOfC qual scope s.heap.objs.size f cd).kindOf (ps.zip us) fun _=>none) s1) :
  Inv (jN CX P w K mg base N qual scope f cd A outer s H E) [] (start N vs) H s1:=by
 have hpl:ps.length<=N.length:=by have:=JR List.length S.pre;rw[JQ]at this;omega
 obtain⟨h1,tk,rfl,hk⟩:=x.done
 have noA:∀b:Addr,b ∉ (jN CX P w K mg base N qual scope f cd A outer s H E).ex:=fun b z=>absurd (show b ∈ ([]:OT) from z) (by simp)
 refine⟨⟨e0.mod,S.kind,rfl,rfl,Jw _,fun y z c h1 h2=>?_,fun y hy=>?_,fun y c _ h=>?_,fun _=>hd,Around.frames_deeper e0.frames,.inr ⟨rfl,rfl⟩,fun b z=>absurd z (noA b),e0.bs,e0.bsz,fun b _ _=>noA b,fun b z=>absurd z (noA b),e0.funs,e0.frf⟩,
  rfl,e0.bare,Un.kept hk,⟨_,x.toInCall.ns,fun i y v h1 h2 h3=>?_⟩,fun y c h=>⟨_,x.cell y c h⟩,e0.hok.fresh (Jw _),fun y c h=>?_,fun p hp=>absurd (show p ∈ ([]:OC) from hp) (by simp),e0.hok.kept hk,?_⟩
 ·exact name_of_addr x.apart (K1 h1) (K1 h2)
 ·have hy:scope.names.lookup y=some .cell\/scope.names.lookup y=some .free:=hy
  rcases hy with hy |hy
  ·exact u7 hy
  ·exact absurd rfl (S.nofree _ (K1 hy))
 ·exact KG (x.above y c (K1 h))
 ·have hi:i < vs.length:=by
   unfold start at h2
   by_cases hi:i < vs.length
   ·exact hi
   ·rw[Ki (by simpa using hi)]at h2
    rw[List.getElem?_replicate]at h2
    split at h2 <;> cases h2
  have ha:vs[i]? = some v:=by
   unfold start at h2
   rw[Kr (by simpa using hi),JH]at h2
   cases e:vs[i]? with
   |none=>rw[e]at h2;cases h2
   |some a=>rw[e]at h2;cases h2;rfl
  obtain⟨u,hu,rv⟩:=r.get ha
  have hp:ps[i]? = some y:=by
   rw[<-S.pre,List.getElem?_take_of_lt ⋯];exact h1
  have ndP:ps.Nodup:=by rw[<-S.pre];exact S.nd.sublist (List.take_sublist _ _)
  refine⟨u,rv,?_⟩
  rcases S.par y (JY hp) with k |k
  ·exact .inl ⟨k,qZ ndP hp hu k⟩
  ·obtain⟨c,e⟩:=u7 (n:=s.heap.objs.size + 1) k
   refine .inr ⟨.inl k,c,e,?_⟩
   have q:=x.cell y c e
   rw[q9 ndP hp hu (by show scope.names.lookup y ≠ _;rw[k];decide)]at q
   exact q
 ·exact e0.hok.fresh (KG (x.above y c (K1 h)))
 ·unfold start
  show _=N.length
  rw[Jo,Jm,LR]
  omega
theorem EB{CX:CXT}{P:Program}{w:World}{K:OE}{mg:OI}{base:Heap}{k:Nat}{f:Addr}{name qual:Str}{params:Arguments}{body:OV}{scope:Scope}{dV kV doc pm cdv ct oc:Value}{an od:Oy}
  {osl:PJ} {N ps:OD}{sp:Sp} (lk:K.lookup f=some ⟨oc,od,.func (PySem.W.fnOf name qual params body scope dV kV doc pm an cdv ct),osl⟩) (hcd:PySem.W.codeIn K cdv qual=true) (S:aE N ps scope)
  (len:∀vs H Q E,sp vs H Q E->vs.length=ps.length)
  (Mt:∀(A:Around) (outer:OZ) (s:Shared) (H:Hp) (vs:ON) (Q:VK) (E:XK),dj k (A.deeper (envOfC qual scope s.heap.objs.size f cdv))->sp vs H Q E ->
   ∃t,PSs (jN CX P w K mg base N qual scope f cdv A outer s H E) body t/\t { nx:=fun _ H'=>Q .non H',rt:=Q } (start N vs) H) :
  aX P w K mg base CX (k + 1) f (PySem.W.fnOf name qual params body scope dV kV doc pm an cdv ct) ps sp:=by
 refine⟨len,fun A outer s H args us vs Q E hr e0 hb r hsp=>?_⟩
 have hl:=len _ _ _ _ hsp
 have KX:K.In s.heap:=e0.mod.kin.keeps fun b o e=>(e0.bs b o e).1
 have lim:s.heap.NoLimit:=e0.mod.nolimit.keeps fun b o e=>(e0.bs b o e).1
 have MY:∀y ∈ ps.zip us,scope.names.lookup y.1=some .local\/(scope.names.lookup y.1=some .cell/\((cellsFrom (s.heap.objs.size + 1) scope.names []).lookup y.1).isSome=true):=fun zz41_0 hy=>by
  obtain⟨n,v⟩:=zz41_0
  rcases S.par n (LQ hy).1 with q |q
  ·exact .inl q
  ·exact .inr ⟨q,LJ _ _ _ (.inl q)⟩
 refine codeAny_call_function hr.depth (KX _ _ lk) rfl S.co S.gen rfl (PySem.W.codeRec_of KX hcd) (hb _ _ _ _ ?_)
 refine wpAny_newFunctionEnv_cells S.kind MY fun env he s1 x=>?_
 subst he
 refine⟨lim.keeps x.toInCall.keep,codeAny_func ?_⟩
 obtain⟨t,ht,hq⟩:=Mt A outer s H vs Q E (hr.deeper _) hsp
 have I:Inv (jN CX P w K mg base N qual scope f cdv A outer s H E) [] (start N vs) H s1:=qF S hr.hd e0 hl r x
 refine JM (ht [] s1 (start N vs) H _ I hq) (fun fl s' hs=>?_) fun e s' hs=>hs
 have fin:∀{σ':St}{H':Hp}{v:V}{u:Value},Inv (jN CX P w K mg base N qual scope f cdv A outer s H E) [] σ' H' s'->bi v u->Q v H'->CE outer P w H s Q u s' :=
  fun {σ' H' v u} J rv q=>⟨v,H',J.os,J.bare,J.base,J.hok,rv,q⟩
 cases fl with
 |ret u =>
  obtain⟨v,σ',H',J,rv,q⟩:=hs
  exact fin J rv q
 |next =>
  obtain⟨σ',H',J,q⟩:=hs
  exact fin (v:=V.non) (u:=Value.none) J rfl q
 |brk =>
  obtain⟨_,_,_,q⟩:=hs
  exact False.elim q
 |cont =>
  obtain⟨_,_,_,q⟩:=hs
  exact False.elim q
section
variable {X:Cx}{x:Str}{p pos:Pos}{e:Expr}{es:OP}{t:TA}{id T:String}{r:Os}
def tCB(r:Os)(t:TA):TE:=fun σ H Q=>t σ H fun vs H1=>r vs H1 Q
theorem iA(hc:dc X (.builtin id) r)(hg:Gl X x)(hm:X.mg x=none)(hv:bootBuiltins x=some (.builtin id))(ha:PA X (e :: es) t)(hn:x ≠ "__name__" := by decide)(hdb:(x == ("__debug__" : Str))=false:=by decide)
  (he:starEach (e :: es) X.env=(false,eval e X.env) :: starEach es X.env:=by rfl) (hpl:(backTo pos (starEach es X.env)).any (·.1)=false:=by rfl):PE X (.Call (.Name x p) (e :: es) [] pos) (tCB r t):=by
 intro Ml s σ H Q I h
 refine KD (kS I hg hm hv ?_ hn hdb)
 exact PyProof.Rows.callWith_builtin1 (thn (ha pos Ml s σ H _ I h) fun us s1 zz42_0=>by obtain⟨vs,H1,I1,r1,q1⟩:=zz42_0;exact hc Ml s1 σ H1 vs us Q I1 r1 q1) he hpl
theorem yu(hc:dc X (.type T) r)(hg:Gl X x)(hm:X.mg x=none)(hv:bootBuiltins x=some (.type T))(ha:PA X (e :: es) t)(hn:x ≠ "__name__" := by decide)(hdb:(x == ("__debug__" : Str))=false:=by decide)
  (he:starEach (e :: es) X.env=(false,eval e X.env) :: starEach es X.env:=by rfl) (hpl:(backTo pos (starEach es X.env)).any (·.1)=false:=by rfl):PE X (.Call (.Name x p) (e :: es) [] pos) (tCB r t):=by
 intro Ml s σ H Q I h
 refine KD (kS I hg hm hv ?_ hn hdb)
 exact Kv (thn (ha pos Ml s σ H _ I h) fun us s1 zz43_0=>by obtain⟨vs,H1,I1,r1,q1⟩:=zz43_0;exact hc Ml s1 σ H1 vs us Q I1 r1 q1) he hpl
end
end L2
namespace HT
open PySem PyProof.Rows
section
open PySem.SeqAt
open PySem.AutoSeq1 (wpAny_loadPart')
open PySem.MeetsSeq PySem.MeetsSeq2 PySem.MeetsSeq3
end
section
variable {prog:Program}{w:World}{A:Around}{E:OA}{s:Shared}
theorem cat_tup{t b:Addr}{vs ws:OH}{Q:OA}(ht:IsTup s.heap t vs.toArray)(hb:IsTup s.heap b ws.toArray)(hv:vs ≠ [])
  (h1:ws=[]->Q (.ref t) s) (h2:ws ≠ []->Q (.ref s.heap.objs.size) { s with heap:=s.heap.push { cls:=.type "tuple",data:=.seq (vs ++ ws).toArray } })
  (hsz:vs.length + ws.length<=sizeLine):wpAny (model prog w) A (binaryOp .Add (.ref t) (.ref b)) Q E s:=by
 obtain⟨⟨cls,dd,data,sl⟩,ho,hc,n,hd⟩:=id ht
 obtain⟨⟨cls2,dd2,data2,sl2⟩,ho2,hc2,n2,hd2⟩:=id hb
 simp only at hc hd hc2 hd2
 subst hc hd hc2 hd2
 have e:vs.toArray ++ ws.toArray=(vs ++ ws).toArray:=by simp
 by_cases hw:ws=[]
 ·exact concat_meets ⟨_,ho,rfl⟩ ⟨_,ho2,rfl⟩ noFill_tuple_add seq_tuple_add LK Ly (Lq _ _)
   (tuple_addW1 t b vs.toArray ws.toArray n n2 dd dd2 sl sl2 (by simpa using hv) (by simp[hw])) ⟨ho,ho2,h1 hw⟩
 ·refine concat_meets ⟨_,ho,rfl⟩ ⟨_,ho2,rfl⟩ noFill_tuple_add seq_tuple_add LK Ly (Lq _ _)
   (tuple_addW2 t b vs.toArray ws.toArray n n2 dd dd2 sl sl2 (by simpa using hv) (by simpa using hw) (by rw[Jz,Jz];exact hsz)) ⟨ho,ho2,?_⟩
  rw[e]
  exact h2 hw
def sIx(n d:Nat):Option Int->Nat
 |none=>d
 |some v=>if v < 0 then(v + (n:Int)).toNat else min v.toNat n
theorem sIx_none(n d:Nat):sIx n d none=d:=rfl
theorem sIx_nat(n d k:Nat):sIx n d (some (k:Int))=min k n:=by
 show(if(k:Int) < 0 then((k:Int) + (n:Int)).toNat else min (k:Int).toNat n)=min k n
 rw[if_neg ⋯,KS]
theorem sIx_le(n d:Nat)(hd:d<=n)(o:Oq):sIx n d o<=n:=by
 cases o with
 |none=>exact hd
 |some v =>
  show(if v < 0 then(v + (n:Int)).toNat else min v.toNat n)<=n
  by_cases hv:v < 0
  ·rw[if_pos hv];omega
  ·rw[if_neg hv];exact Nat.min_le_right _ _
theorem clip_eq(v:Int)(n d:Nat):(if v < 0 then max (v + (n:Int)) 0 else min v (n:Int))=((sIx n d (some v):Nat):Int):=by
 show(if v < 0 then max (v + (n:Int)) 0 else min v (n:Int))=(((if v < 0 then(v + (n:Int)).toNat else min v.toNat n):Nat):Int)
 by_cases hv:v < 0
 ·simp only[if_pos hv];omega
 ·simp only[if_neg hv];omega
theorem wA(lo hi:Oq)(n:Nat):Builtin.Slice.sliceAdjust lo hi 1 (n:Int)=(((sIx n 0 lo:Nat):Int),((sIx n n hi:Nat):Int)):=by
 have h1:¬((1:Int) < 0):=by omega
 unfold Builtin.Slice.sliceAdjust
 simp only[h1,L0]
 refine Prod.ext ?_ ?_
 ·cases lo with
  |none=>rfl
  |some v=>exact clip_eq v n 0
 ·cases hi with
  |none=>rfl
  |some v=>exact clip_eq v n n
theorem vF(i j:Nat):Builtin.Slice.slicePlaces (i:Int) (j:Int) 1=j - i:=by
 unfold Builtin.Slice.slicePlaces
 have h1:(1:Int) > 0:=by omega
 simp only[h1,if_true,Int.ediv_one]
 split <;> omega
theorem n9{v:Value}{o:Oq}{Q:Option Int->Shared->Prop}(p:IsPart v o)(h:Q o s):wpAny (model prog w) A (Builtin.Slice.slicePartIndex v) Q E s:=by
 cases p with
 |none=>exact slicePart_none h
 |int i t=>exact slicePart_int h
theorem sliceApplied_gen{sl:Addr}{vl vu:Value}{lo hi:Oq}{n:Nat}{Q:Int×Int×Nat->Shared->Prop}(hs:s.heap.IsSliceOf sl vl vu .none)(pl:IsPart vl lo)(pu:IsPart vu hi)
  (h:Q (((sIx n 0 lo:Nat):Int),1,sIx n n hi - sIx n 0 lo) s):wpAny (model prog w) A (Builtin.Slice.sliceApplied (.ref sl) (pure (n:Int))) Q E s:=by
 obtain⟨os,hos,hcs,hds⟩:=id hs
 unfold Builtin.Slice.sliceApplied Builtin.Slice.sliceFields
 refine Jn (Jn (J_ hos hds (x:=vl) rfl (Jn (J_ hos hds (x:=vu) rfl (Jn (J_ hos hds (x:=.none) rfl (Jv ?_)))))))
 refine Jn (slicePart_none ?_)
 show wpAny _ _ (if((1:Int) == 0)=true then _ else _) _ _ s
 rw[if_neg nofun]
 refine Jn (n9 pl (Jn (n9 pu (Jn (Jv ?_)))))
 show wpAny _ _ (match Builtin.Slice.sliceAdjust lo hi 1 (n:Int) with | (lo,hi)=>pure (lo,(1:Int),Builtin.Slice.slicePlaces lo hi 1)) _ _ s
 rw[wA lo hi n]
 show wpAny _ _ (pure (((sIx n 0 lo:Nat):Int),(1:Int),Builtin.Slice.slicePlaces ((sIx n 0 lo:Nat):Int) ((sIx n n hi:Nat):Int) 1)) _ _ s
 rw[vF]
 exact Jv h
theorem Az(xs:OM)(i k:Nat):((List.range k).filterMap fun(m:Nat)=>xs[((i:Int) + (m:Int) * 1).toNat]?).toArray=((xs.toList.drop i).take k).toArray:=by
 have e:(fun(m:Nat)=>xs[((i:Int) + (m:Int) * 1).toNat]?)=fun m=>xs[i + m]?:=by
  funext m
  have:((i:Int) + (m:Int) * 1).toNat=i + m:=by omega
  rw[this]
 rw[e]
 have:=pick_run xs i k
 rw[List.filterMap_map]at this
 have e2:((fun x=>xs[x]?) ∘ fun x=>i + x)=fun m=>xs[i + m]?:=rfl
 rw[e2]at this
 rw[this]
theorem getItem_tuple_cut{t sl:Addr}{items:OM}{vl vu:Value}{lo hi:Oq}{Q:OA}(ht:IsTup s.heap t items)(hs:s.heap.IsSliceOf sl vl vu .none)(pl:IsPart vl lo)(pu:IsPart vu hi)
  (hw:¬(sIx items.size 0 lo=0/\sIx items.size items.size hi=items.size))
  (h:Q (.ref s.heap.objs.size) { s with heap:=s.heap.push { cls:=.type "tuple",data:=.seq ((items.toList.drop (sIx items.size 0 lo)).take (sIx items.size items.size hi - sIx items.size 0 lo)).toArray } })
  (hsz:items.size<=sizeLine):wpAny (model prog w) A (getItem (.ref t) (.ref sl)) Q E s:=by
 have MT:sizeOk (.seq ((items.toList.drop (sIx items.size 0 lo)).take (sIx items.size items.size hi - sIx items.size 0 lo)).toArray):=by
  show((items.toList.drop (sIx items.size 0 lo)).take (sIx items.size items.size hi - sIx items.size 0 lo)).toArray.size<=sizeLine
  rw[Jz,JQ,JE,Kq]
  omega
 have hj:sIx items.size items.size hi<=items.size:=sIx_le _ _ (Jw _) hi
 obtain⟨os,hos,hcs,hds⟩:=id hs
 have hTs:s.TypeIs (.ref sl) "slice" := ⟨os,hos,hcs⟩
 unfold getItem
 try with_reducible refine KC ?_
 first |refine Jn (Jv ?_) |skip
 refine Jn (wpAny_sequenceKey ht.typeIs nofun ?_)
 refine Jn (KO (name:=Str.ofString "__getitem__") ht.typeIs KF
  (K_ KF ht.typeIs entry_tuple_getitem ?_ (args_tuple_getitem _ _)))
 show wpAny _ _ (Builtin.Tuple.tupleItemsOf (.ref t) >>= _) _ _ s
 refine Jn (tupleItemsOf_ ht ?_)
 refine Jn (LD hTs ?_)
 rw[if_pos nofun]
 refine Jn (sliceApplied_gen hs pl pu ?_)
 have hno:¬((((sIx items.size 0 lo:Nat):Int) == 0 && (1:Int) == 1 && (sIx items.size items.size hi - sIx items.size 0 lo) == items.size)=true):=by
  intro q
  rw[JG,JG]at q
  have q1:((sIx items.size 0 lo:Nat):Int)=0:=eq_of_beq q.1.1
  have q2:sIx items.size items.size hi - sIx items.size 0 lo=items.size:=eq_of_beq q.2
  exact hw ⟨⋯,⋯⟩
 show wpAny _ _ (if(((sIx items.size 0 lo:Nat):Int) == 0 && (1:Int) == 1 && (sIx items.size items.size hi - sIx items.size 0 lo) == items.size)=true then _ else _) _ _ s
 rw[if_neg hno,Az]
 first
  |exact Jn (m:=Builtin.Tuple.tupleExact _) (Km (Jv ⟨_,rfl,Jv h⟩) MT)
  |exact Jn (m:=Builtin.Tuple.tupleExact _) (Km (Jn (Jv (Jv ⟨_,rfl,Jv h⟩))) MT)
  |exact Jn (Jn (m:=Builtin.Tuple.tupleExact _) (Km (Jv (Jv ⟨_,rfl,Jv h⟩)) MT))
  |exact Jn (Jn (m:=Builtin.Tuple.tupleExact _) (Km (Jv ⟨_,rfl,Jv h⟩) MT))
end
end HT
namespace L2
open PySem PySem.Spec PyProof.Rows
abbrev TO:=St->Hp->(Option Int->Hp->Prop)->Prop
def PO(X:Cx)(e:Option Expr)(t:TO):Prop :=
 ∀(Ml:OC) (s:Shared) (σ:St) (H:Hp) (Q:Option Int->Hp->Prop),Inv X Ml σ H s->t σ H Q ->
  wpAny (model X.prog X.w) X.A (evalPart e X.env) (fun u s'=>∃o H',Inv X Ml σ H' s'/\IsPart u o/\Q o H') X.xe s
def Cw:TO:=fun _ H Q=>Q none H
def GX(t:TE):TO:=fun σ H Q=>t σ H fun x H1=>∃i,x=.int i/\Q (some i) H1
section
variable {X:Cx}{e:Expr}{te:TE}{lo hi:Option Expr}{tl th:TO}{pos p2:Pos}
theorem C3:PO X none Cw:=by
 intro Ml s σ H Q I h
 rw[evalPart_none]
 exact Jv ⟨none,H,I,.none,h⟩
theorem w4(h:PE X e te):PO X (some e) (GX te):=by
 intro Ml s σ H Q I hw
 rw[evalPart_some]
 refine thn (h Ml s σ H _ I hw) fun u s1 zz44_0=>?_
 obtain⟨x,H1,I1,r1,q1⟩:=zz44_0
 obtain⟨i,rfl,q⟩:=q1
 obtain⟨t,rfl⟩:=r1
 exact⟨some i,H1,I1,.int i t,q⟩
abbrev Ov:=V->Option Int->Option Int->Hp->VK->Prop
def SlR(X:Cx)(r:Ov):Prop :=
 ∀(Ml:OC) (s:Shared) (σ:St) (H:Hp) (x:V) (v vl vu:Value) (lo hi:Oq) (sl:Addr) (Q:VK),Inv X Ml σ H s->bi x v->s.heap.IsSliceOf sl vl vu .none->IsPart vl lo->IsPart vu hi->r x lo hi H Q ->
  ∃T id,typeLookup (.type T) "__getitem__" = pure (some (.builtin id))/\s.TypeIs v T/\wpAny (model X.prog X.w) X.A (getItem v (.ref sl)) (EP X Ml σ Q) X.xe s
theorem SlR.or{r r':Ov}(h:SlR X r)(h':SlR X r'):SlR X (fun x lo hi H Q=>r x lo hi H Q\/r' x lo hi H Q):=by
 intro Ml s σ H x v vl vu lo hi sl Q I rx hs pl pu q
 rcases q with q |q
 ·exact h Ml s σ H x v vl vu lo hi sl Q I rx hs pl pu q
 ·exact h' Ml s σ H x v vl vu lo hi sl Q I rx hs pl pu q
def tSl(r:Ov)(te:TE)(tl th:TO):TE:=fun σ H Q=>te σ H fun x H1=>tl σ H1 fun l H2=>th σ H2 fun u H3=>r x l u H3 Q
theorem AD{r:Ov}(hr:SlR X r)(he:PE X e te)(hl:PO X lo tl)(hu:PO X hi th):PE X (.Subscript e (.Slice lo hi none p2) pos) (tSl r te tl th):=by
 intro Ml s σ H Q I h
 refine Subscript_ (thn (he Ml s σ H _ I h) fun v s1 zz45_0=>?_)
 obtain⟨x,H1,I1,r1,q1⟩:=zz45_0
 refine wpAny_Slice (thn (hl Ml s1 σ H1 _ I1 q1) fun vl s2 ⟨l,H2,I2,pl,q2⟩=>thn (hu Ml s2 σ H2 _ I2 q2) fun vu s3 zz47_0=>?_)
 obtain⟨u,H3,I3,pu,q3⟩:=zz47_0
 rw[evalPart_none]
 refine Jv ?_
 have I4:Inv X Ml σ H3 { s3 with heap:=s3.heap.push { cls:=.type "slice",data:=.fields #[vl,vu,.none] } }:=I3.kept (t':=s3.toks) fun b ob q=>Jp _ q
 obtain⟨T,id,hT,ht,hg⟩:=hr Ml { s3 with heap:=s3.heap.push { cls:=.type "slice",data:=.fields #[vl,vu,.none] } } σ H3 x v vl vu l u s3.heap.objs.size Q I4 r1 (Heap.IsSliceOf.new ..) pl pu q3
 show wpAny (model X.prog X.w) X.A (subscriptTail e (.Slice lo hi none p2) v (.ref s3.heap.objs.size)) (EP X Ml σ Q) X.xe { s3 with heap:=s3.heap.push { cls:=.type "slice",data:=.fields #[vl,vu,.none] } }
 exact tail_any (ops:=[.ref s3.heap.objs.size,v]) ht hT hg (by with_unfolding_all rfl)
def nE(xs:ON)(lo hi:Oq):List V:=(xs.drop (HT.sIx xs.length 0 lo)).take (HT.sIx xs.length xs.length hi - HT.sIx xs.length 0 lo)
theorem nz(xs:ON)(lo hi:Oq):(nE xs lo hi).length<=xs.length:=by
 unfold nE
 rw[JQ,JE]
 omega
def Hc(K:OE):V->Option Int->Option Int->Hp->VK->Prop:=fun x lo hi H Q=>∃a xs,x=.ref a/\SqT K H a xs /\
 ¬(HT.sIx xs.length 0 lo=0/\HT.sIx xs.length xs.length hi=xs.length)/\∀p,H p=none->Q (.ref p) (upd H p (.tup (nE xs lo hi)))
theorem ET:SlR X (Hc X.K):=by
 intro Ml s σ H x v vl vu lo hi sl Q I rx hs pl pu h
 obtain⟨a,xs,rfl,hx,hw,q⟩:=h
 cases rx
 obtain⟨its,r,ht,hz⟩:=I.tuple hx
 have Mp:its.toArray.size=xs.length:=by rw[Jz];exact r.length.symm
 refine⟨"tuple",_,PyProof.Rows.slot_tuple_getitem.lookup,ht.typeIs,?_⟩
 refine HT.getItem_tuple_cut ht hs pl pu (by rw[Mp];exact hw) ?_ (by rw[Mp];exact hz)
 rw[Mp]
 refine⟨.ref s.heap.objs.size,_,I.laid (t':=s.toks) (o:=.tup (nE xs lo hi)) (fun b ob q=>Jp _ q) (Jw _) ?_,rfl,q _ (I.hok.fresh (Jw _))⟩
 exact⟨Jy (nz xs lo hi) hz,_,(r.drop (HT.sIx xs.length 0 lo)).take (HT.sIx xs.length xs.length hi - HT.sIx xs.length 0 lo),IsTup.new _ _⟩
def Eo(K:OE):R2:=fun x y H Q=>∃a b xs ys,x=.ref a/\y=.ref b/\SqT K H a xs/\SqT K H b ys/\xs ≠ []/\xs.length + ys.length<=sizeLine /\
 (ys=[]->Q (.ref a) H)/\(ys ≠ []->∀p,H p=none->Q (.ref p) (upd H p (.tup (xs ++ ys))))
theorem aW.nil_iff{xs:ON}{us:OH}(r:aW xs us):us=[] ↔ xs=[]:=by
 cases r with
 |nil=>simp
 |cons _ _=>simp
theorem Dd:OpR X (binaryOp .Add) (Eo X.K):=by
 intro Ml s σ H x y v u Q I rx ry h
 obtain⟨a,b,xs,ys,rfl,rfl,ha,hb,hx,hz,q1,q2⟩:=h
 cases rx
 cases ry
 obtain⟨its,r1,p1,_⟩:=I.tuple ha
 obtain⟨its2,r2,p2,_⟩:=I.tuple hb
 refine HT.cat_tup p1 p2 (fun z=>hx (r1.nil_iff.mp z)) (fun z=>⟨.ref a,H,I,rfl,q1 (r2.nil_iff.mp z)⟩) (fun z=>?_) (by rw[<-r1.length,<-r2.length];exact hz)
 refine⟨.ref s.heap.objs.size,_,I.laid (t':=s.toks) (o:=.tup (xs ++ ys)) (fun b ob q=>Jp _ q) (Jw _) ?_,rfl,q2 (fun w=>z (r2.nil_iff.mpr w)) _ (I.hok.fresh (Jw _))⟩
 exact⟨by rw[Jo];exact hz,_,r1.append r2,IsTup.new _ _⟩
end
def ixN(n:Nat)(i:Int):Option Nat:=if 0<=i then(if i < n then some i.toNat else none) else if -(n:Int)<=i then some (i + n).toNat else none
def atI{α:Type}(xs:List α)(i:Int):Option α:=(ixN xs.length i).bind fun j=>xs[j]?
variable{n:Nat}
theorem xm{i:Int}{j:Nat}(h:ixN n i=some j):seqIndex? i n=some j/\j < n/\-(n:Int)<=i/\i < n:=by
 unfold ixN at h
 by_cases h0:0<=i
 ·rw[if_pos h0]at h
  by_cases h1:i < n
  ·rw[if_pos h1]at h
   have e:i.toNat=j:=Js h
   exact⟨by rw[seqIndex_of h0 h1,e],⋯,⋯,h1⟩
  ·rw[if_neg h1]at h;cases h
 ·rw[if_neg h0]at h
  by_cases h1 : -(n:Int)<=i
  ·rw[if_pos h1]at h
   have e:(i + n).toNat=j:=Js h
   exact⟨by rw[seqIndex_neg ⋯ h1,e],⋯,h1,⋯⟩
  ·rw[if_neg h1]at h;cases h
theorem sR{α:Type}{xs:List α}{i:Int}{v:α}(h:atI xs i=some v):∃j,seqIndex? i xs.length=some j/\xs[j]? = some v/\j < xs.length/\-(xs.length:Int)<=i/\i < xs.length:=by
 unfold atI at h
 cases e:ixN xs.length i with
 |none=>rw[e]at h;cases h
 |some j =>
  rw[e]at h
  obtain⟨h1,h2,h3,h4⟩:=xm e
  exact⟨j,h1,h,h2,h3,h4⟩
theorem Cd{α:Type}(xs:List α)(v:α):atI (xs ++ [v]) (-1)=some v:=by
 have hl:(xs ++ [v]).length=xs.length + 1:=by simp
 have e:ixN (xs ++ [v]).length (-1)=some xs.length:=by
  unfold ixN
  rw[hl,if_neg nofun,if_pos ⋯]
  congr 1
  omega
 unfold atI
 rw[e]
 show(xs ++ [v])[xs.length]? = some v
 simp
def xO(b:Expr):Prop:=∀o i,subscripted b false o i=operate [o,i] (getItem o i)
def IxR(X:Cx)(r:R2):Prop :=
 ∀(value slice:Expr) (Ml:OC) (s:Shared) (σ:St) (H:Hp) (x y:V) (v u:Value) (Q:VK),Inv X Ml σ H s->bi x v->bi y u->r x y H Q ->
  subscripted slice false v u=operate [v,u] (getItem v u)->wpAny (model X.prog X.w) X.A (subscriptTail value slice v u) (EP X Ml σ Q) X.xe s
abbrev O3:=V->List V->Hp->VK->Prop
def MtR(X:Cx)(id:String)(r:O3):Prop :=
 ∀(Ml:OC) (s:Shared) (σ:St) (H:Hp) (x:V) (xs:ON) (v:Value) (us:OH) (Q:VK),Inv X Ml σ H s->bi x v->aW xs us->r x xs H Q ->
  wpAny (model X.prog X.w) X.A (call (.builtin id) (v :: us)) (EP X Ml σ Q) X.xe s
section
variable {X:Cx}{a b:Expr}{ta tb:TE}{pos:Pos}
theorem IxR.or{r r':R2}(h:IxR X r)(h':IxR X r'):IxR X (fun x y H Q=>r x y H Q\/r' x y H Q):=by
 intro value slice Ml s σ H x y v u Q I rx ry q hs
 rcases q with q |q
 ·exact h value slice Ml s σ H x y v u Q I rx ry q hs
 ·exact h' value slice Ml s σ H x y v u Q I rx ry q hs
theorem Hr{r:R2}(hr:IxR X r)(ha:PE X a ta)(hb:PE X b tb)(hs:xO b):PE X (.Subscript a b pos) (tOp r ta tb):=by
 intro Ml s σ H Q I h
 exact Subscript_ (GA ha hb I h fun v u s2 x y H2 I2 rx ry q=>hr a b Ml s2 σ H2 x y v u Q I2 rx ry q (hs _ _))
def Hk(K:OE):R2:=fun x y H Q=>∃p xs i v,x=.ref p/\y=.int i/\SqL K H p xs/\atI xs i=some v/\Q v H
def Hi(K:OE):R2:=fun x y H Q=>∃p xs i v,x=.ref p/\y=.int i/\SqT K H p xs/\atI xs i=some v/\Q v H
def Hj:R2:=fun x y H Q=>∃z i c,x=.str z/\y=.int i/\z.length<=sizeLine/\atI z.cps.toList i=some c/\Q (.str ⟨#[c]⟩) H
theorem Dz:IxR X (Hk X.K):=by
 intro value slice Ml s σ H x y v u Q I rx ry h hs
 obtain⟨p,xs,i,z,rfl,rfl,hq,he,q⟩:=h
 cases rx
 obtain⟨t,rfl⟩:=ry
 obtain⟨its,r,pl,hz⟩:=I.list hq
 obtain⟨j,h1,h2,h3,h4,h5⟩:=sR he
 obtain⟨w,ew,rw'⟩:=r.get h2
 have hl:=r.length
 have hn:=oN
 have fin:EP X Ml σ Q w s:=⟨z,H,I,rw',q⟩
 by_cases h0:0<=i
 ·have hj:i.toNat=j:=by
   rw[seqIndex_of h0 h5]at h1
   exact Js h1
  exact item_listR pl.isList h0 ⋯ (by rw[hj];simpa using ew) fin hs
 ·have hj:(i + (its.toArray.size:Int)).toNat=j:=by
   rw[seqIndex_neg ⋯ h4]at h1
   rw[Jz,<-hl]
   exact Js h1
  exact subscriptTail_builtinR (x:=w) pl.isList.typeIs slot_list_getitem.lookup
   (wpAny_getItem_list_neg (Q:=fun r s'=>r=w/\EP X Ml σ Q r s') pl.isList ⋯ (by rw[Jz] <;> omega) ⋯ (by rw[hj];simpa using ew) ⟨rfl,fin⟩) hs
theorem Ga:IxR X (Hi X.K):=by
 intro value slice Ml s σ H x y v u Q I rx ry h hs
 obtain⟨p,xs,i,z,rfl,rfl,hq,he,q⟩:=h
 cases rx
 obtain⟨t,rfl⟩:=ry
 obtain⟨its,r,pl,hz⟩:=I.tuple hq
 obtain⟨j,h1,h2,h3,h4,h5⟩:=sR he
 obtain⟨w,ew,rw'⟩:=r.get h2
 have hl:=r.length
 have hn:=oN
 have fin:EP X Ml σ Q w s:=⟨z,H,I,rw',q⟩
 exact subscriptTail_builtinR (x:=w) pl.typeIs slot_tuple_getitem.lookup
  (getItem_tuple (j:=j) (Q:=fun r s'=>r=w/\EP X Ml σ Q r s') pl ⋯ ⋯ (by rw[Jz,<-hl];exact h1) (by simpa using ew) ⟨rfl,fin⟩) hs
theorem Gb:IxR X Hj:=by
 intro value slice Ml s σ H x y v u Q I rx ry h hs
 obtain⟨z,i,c,rfl,rfl,hz,he,q⟩:=h
 obtain⟨t,rfl⟩:=rx
 obtain⟨t',rfl⟩:=ry
 obtain⟨j,h1,h2,h3,h4,h5⟩:=sR he
 have hl:z.cps.toList.length=z.length:=by simp[Str.length]
 rw[hl]at h1 h4 h5
 have hn:=oN
 exact tail_any (Lo s z t) slot_str_getitem.lookup (getItem_str (c:=c) (by
  have e1:decide (i < -(2 ^ 63:Int))=false:=JA ⋯
  have e2:decide (i ≥ 2 ^ 63)=false:=JA ⋯
  rw[e1,e2,Bool.or_false]) (by rw[h1];simpa using h2) ⟨.str ⟨#[c]⟩,H,I.tok _,⟨_,rfl⟩,q⟩) hs
def rIx(K:OE):R2:=fun x y H Q=>Hk K x y H Q\/Hi K x y H Q\/Hj x y H Q
theorem Gc:IxR X (rIx X.K):=Dz.or (Ga.or Gb)
theorem vU(its:OH)(n j:Nat)(u:Value):Obj.mapSeq (·.setIfInBounds j u) { cls:=.type "list",data:=.seq its.toArray n }={ cls:=.type "list",data:=.seq (its.set j u).toArray n }:=by
 simp[Obj.mapSeq]
theorem Inv.lst{Ml:OC}{σ:St}{H:Hp}{s:Shared}{p:Addr}{xs:ON}(I:Inv X Ml σ H s)(h:H p=some (.lst xs)) :
  ∃(its:OH) (n:Nat),aW xs its/\s.heap.get? p=some { cls:=.type "list",data:=.seq its.toArray n }/\xs.length<=sizeLine:=by
 obtain⟨z,its,n,r,e⟩:=I.hok p _ h
 exact⟨its,n,r,e,z⟩
variable{s:Shared}
theorem Inv.lstUpd{Ml:OC}{σ:St}{H:Hp}{p:Addr}{xs ys:ON}{its its':OH}{n n':Nat}{f:Obj->Obj}(I:Inv X Ml σ H s)(h:H p=some (.lst xs))
  (ho:s.heap.get? p=some { cls:=.type "list",data:=.seq its.toArray n }) (hf:f { cls:=.type "list",data:=.seq its.toArray n }={ cls:=.type "list",data:=.seq its'.toArray n' }) (r:aW ys its') (hz:ys.length<=sizeLine) (t:Nat) :
  Inv X Ml σ (upd H p (.lst ys)) { s with heap:=s.heap.update p f,toks:=t }:=by
 have e:(s.heap.update p f).get? p=some { cls:=.type "list",data:=.seq its'.toArray n' }:=by
  rw[JW f ho (by rw[hf] <;> rfl),hf]
 refine I.write (x:=p) (e:=p) (by rw[h];trivial) (.inl rfl) (fun b u hb q=>(JO _ _ (Ne.symm hb)).trans q) ⟨_,e⟩ ?_
 exact⟨hz,its',n',r,e⟩
def Hf:V->V->V->Hp->(Hp->Prop)->Prop:=fun o i v H Q=>∃p xs k j,o=.ref p/\i=.int k/\H p=some (.lst xs)/\ixN xs.length k=some j/\Q (upd H p (.lst (xs.set j v)))
theorem zY:HW X Hf:=by
 intro Ml s σ H o i v ov iv u Q I ro ri rv h
 obtain⟨p,xs,k,j,rfl,rfl,hp,hj,q⟩:=h
 cases ro
 obtain⟨t,rfl⟩:=ri
 obtain⟨its,n,r,ho,hz⟩:=I.lst hp
 obtain⟨h1,h2,h3,h4⟩:=xm hj
 have hl:=r.length
 have hn:=oN
 have I':Inv X Ml σ (upd H p (.lst (xs.set j v))) { s with heap:=s.heap.update p (Obj.mapSeq (·.setIfInBounds j u)) } :=
  I.lstUpd hp ho (vU its n j u) (r.set rv j) (by rw[Ke];exact hz) s.toks
 by_cases h0:0<=k
 ·have hk:k.toNat=j:=by
   rw[seqIndex_of h0 h4]at h1
   exact Js h1
  exact PySem.W.ki_setAt ho h0 ⋯ (by rw[Jz,<-hl];exact h4) (by rw[hk];exact⟨_,I',q⟩)
 ·have hk:(k + (its.toArray.size:Int)).toNat=j:=by
   rw[seqIndex_neg ⋯ h3]at h1
   rw[Jz,<-hl]
   exact Js h1
  exact PySem.W.ki_setBack ho ⋯ (by rw[Jz,<-hl];exact h3) ⋯ (by rw[hk];exact⟨_,I',q⟩)
theorem rA(lo hi:Oq)(n:Nat):(sliceBounds lo hi none n).1=((HT.sIx n 0 lo:Nat):Int)/\(sliceBounds lo hi none n).2.1=((HT.sIx n n hi:Nat):Int)/\(sliceBounds lo hi none n).2.2=1:=by
 refine⟨?_,?_,rfl⟩
 ·cases lo with
  |none=>simp[sliceBounds,HT.sIx]
  |some i =>
   simp only[sliceBounds,HT.sIx,Option.getD_none,show(1:Int) > 0 by decide,if_true]
   by_cases h:i < 0
   ·simp only[h,if_true] <;> omega
   ·simp only[h,L0] <;> omega
 ·cases hi with
  |none=>simp[sliceBounds,HT.sIx]
  |some i =>
   simp only[sliceBounds,HT.sIx,Option.getD_none,show(1:Int) > 0 by decide,if_true]
   by_cases h:i < 0
   ·simp only[h,if_true] <;> omega
   ·simp only[h,L0] <;> omega
theorem pO(its:OH)(lo hi:Oq):slicePick its.toArray lo hi none=((its.drop (HT.sIx its.length 0 lo)).take (HT.sIx its.length its.length hi - HT.sIx its.length 0 lo)).toArray:=by
 obtain⟨h1,h2,h3⟩:=rA lo hi its.toArray.size
 unfold slicePick
 rw[h1,h2,h3]
 simp only[sliceRange_one,pick_run,Jz] <;> rfl
def He(K:OE):V->Option Int->Option Int->Hp->VK->Prop:=fun x lo hi H Q=>∃a xs,x=.ref a/\SqL K H a xs/\∀p,H p=none->Q (.ref p) (upd H p (.lst (nE xs lo hi)))
theorem CD:SlR X (He X.K):=by
 intro Ml s σ H x v vl vu lo hi sl Q I rx hs pl pu h
 obtain⟨a,xs,rfl,hx,q⟩:=h
 cases rx
 obtain⟨its,r,ht,hz⟩:=I.list hx
 have Mp:=r.length
 refine⟨"list",_,slot_list_getitem.lookup,ht.isList.typeIs,?_⟩
 refine wpAny_getItem_list_slice ht.isList hs pl pu .none (by simp) ?_ (by rw[Jz] <;> omega)
 rw[pO,<-Mp]
 refine⟨.ref s.heap.objs.size,_,I.laid (t':=s.toks) (o:=.lst (nE xs lo hi)) (fun b ob q=>Jp _ q) (Jw _) ?_,rfl,q _ (I.hok.fresh (Jw _))⟩
 exact⟨Jy (nz xs lo hi) hz,_,0,(r.drop (HT.sIx xs.length 0 lo)).take (HT.sIx xs.length xs.length hi - HT.sIx xs.length 0 lo),Jx _ rfl⟩
def jJ:V->Bool
 |.non=>true
 |.bl _=>true
 |.int _=>true
 |.str _=>true
 |_=>false
def eqV:V->V->Bool
 |.non,.non=>true
 |.bl a,.bl b=>a == b
 |.bl a,.int b=>(if a then 1 else 0) == b
 |.int a,.bl b=>a == (if b then 1 else 0)
 |.int a,.int b=>a == b
 |.str a,.str b=>a == b
 |_,_=>false
variable{x:V}
theorem Gx{A:Around}{y:V}{u v:Value}(ry:bi y u)(rx:bi x v)(fy:jJ y=true)(fx:jJ x=true):SeqAt.EqAt A s u v (eqV y x):=by
 cases y with
 |non =>
  cases ry
  cases x with
  |non=>cases rx;exact SeqAt.EqAt.same _
  |bl b=>cases rx;exact SeqAt.EqAt.none_bool b
  |int b=>obtain⟨t,rfl⟩:=rx;exact SeqAt.EqAt.none_int b t
  |str b=>obtain⟨t,rfl⟩:=rx;exact SeqAt.EqAt.none_str b t
  |_=>exact absurd (show false=true from fx) JF
 |bl a =>
  cases ry
  cases x with
  |non=>cases rx;exact SeqAt.EqAt.bool_none a
  |bl b=>cases rx;exact SeqAt.EqAt.bool_bool a b
  |int b=>obtain⟨t,rfl⟩:=rx;exact SeqAt.EqAt.bool_int a b t
  |str b=>obtain⟨t,rfl⟩:=rx;exact SeqAt.EqAt.bool_str a b t
  |_=>exact absurd (show false=true from fx) JF
 |int a =>
  obtain⟨t',rfl⟩:=ry
  cases x with
  |non=>cases rx;exact SeqAt.EqAt.int_none a t'
  |bl b=>cases rx;exact SeqAt.EqAt.int_bool a t' b
  |int b=>obtain⟨t,rfl⟩:=rx;exact SeqAt.EqAt.int_int a t' b t
  |str b=>obtain⟨t,rfl⟩:=rx;exact SeqAt.EqAt.int_str a t' b t
  |_=>exact absurd (show false=true from fx) JF
 |str a =>
  obtain⟨t',rfl⟩:=ry
  cases x with
  |non=>cases rx;exact SeqAt.EqAt.str_none a t'
  |bl b=>cases rx;exact SeqAt.EqAt.str_bool a t' b
  |int b=>obtain⟨t,rfl⟩:=rx;exact SeqAt.EqAt.str_int a t' b t
  |str b=>obtain⟨t,rfl⟩:=rx;exact SeqAt.EqAt.str_str a t' b t
  |_=>exact absurd (show false=true from fx) JF
 |_=>exact absurd (show false=true from fy) JF
def eqU(x:V)(u:Value):Bool:=match u with
 |.none=>eqV .non x
 |.bool b=>eqV (.bl b) x
 |.int i _=>eqV (.int i) x
 |.str z _=>eqV (.str z) x
 |_=>false
theorem BY{y:V}{u:Value}(r:bi y u)(f:jJ y=true):eqU x u=eqV y x:=by
 cases y with
 |non=>cases r;rfl
 |bl b=>cases r;rfl
 |int i=>obtain⟨t,rfl⟩:=r;rfl
 |str z=>obtain⟨t,rfl⟩:=r;rfl
 |_=>exact absurd (show false=true from f) JF
theorem ml{x:V}:∀{xs:ON}{us:OH},aW xs us->xs.all jJ=true->us.any (eqU x)=xs.any fun y=>eqV y x
 |_,_,.nil,_=>rfl
 |y :: xs,u :: us,.cons r t,f=>by
  rw[Kl,JG]at f
  rw[K9,K9,BY r f.1,ml t f.2]
theorem jF{A:Around}{s:Shared}{x:V}{v:Value}(rx:bi x v)(fx:jJ x=true):∀{xs:ON}{us:OH},aW xs us->xs.all jJ=true->∀u ∈ us,SeqAt.EqAt A s u v (eqU x u)
 |_,_,.nil,_=>fun u hu=>by cases hu
 |y :: xs,u :: us,.cons r t,f=>fun u' hu=>by
  rw[Kl,JG]at f
  rcases List.mem_cons.mp hu with rfl |hu
  ·rw[BY r f.1];exact Gx r rx f.1 fx
  ·exact jF rx fx t f.2 u' hu
def inV(x:V)(xs:ON):Bool:=xs.any fun y=>eqV y x
def rIn(K:OE)(neg:Bool):R2:=fun x y H Q=>∃p xs,y=.ref p/\(SqL K H p xs\/SqT K H p xs)/\jJ x=true/\xs.all jJ=true/\Q (.bl (if neg then !inV x xs else inV x xs)) H
theorem qu:OpR X (compareOp .In) (rIn X.K false):=by
 intro Ml s σ H x y v u Q I rx ry h
 obtain⟨p,xs,rfl,hq,fx,fs,q⟩:=h
 cases ry
 rcases hq with hq |hq
 ·obtain⟨its,r,pl,hz⟩:=I.list hq
  refine SeqAt.in_listAt (eqU x) pl.isList (fun w hw=>jF rx fx r fs w (by simpa using hw)) ⟨.bl _,H,I,rfl,?_⟩
  rw[show its.toArray.any (eqU x)=its.any (eqU x) by simp,ml r fs]
  exact q
 ·obtain⟨its,r,pl,hz⟩:=I.tuple hq
  refine SeqAt.in_tupleAt (eqU x) pl (fun w hw=>jF rx fx r fs w (by simpa using hw)) ⟨.bl _,H,I,rfl,?_⟩
  rw[show its.toArray.any (eqU x)=its.any (eqU x) by simp,ml r fs]
  exact q
theorem rL:OpR X (compareOp .NotIn) (rIn X.K true):=by
 intro Ml s σ H x y v u Q I rx ry h
 obtain⟨p,xs,rfl,hq,fx,fs,q⟩:=h
 cases ry
 rcases hq with hq |hq
 ·obtain⟨its,r,pl,hz⟩:=I.list hq
  refine SeqAt.notIn_listAt (eqU x) pl.isList (fun w hw=>jF rx fx r fs w (by simpa using hw)) ⟨.bl _,H,I,rfl,?_⟩
  rw[show its.toArray.any (eqU x)=its.any (eqU x) by simp,ml r fs]
  exact q
 ·obtain⟨its,r,pl,hz⟩:=I.tuple hq
  refine SeqAt.notIn_tupleAt (eqU x) pl (fun w hw=>jF rx fx r fs w (by simpa using hw)) ⟨.bl _,H,I,rfl,?_⟩
  rw[show its.toArray.any (eqU x)=its.any (eqU x) by simp,ml r fs]
  exact q
theorem sK:dc X (.type "list") (fun xs H Q=>∃p ys,xs=[.ref p]/\(SqL X.K H p ys\/SqT X.K H p ys)/\∀l,H l=none->Q (.ref l) (upd H l (.lst ys))):=by
 intro Ml s σ H xs us Q I r h
 obtain⟨p,ys,rfl,hq,q⟩:=h
 obtain⟨u,rfl,rx⟩:=jw r
 cases rx
 have fin:∀(its:OH),aW ys its->ys.length<=sizeLine->∀(h':Heap) (c':Nat),(∀b o',s.heap.get? b=some o'->h'.get? b=some o') ->
   h'.get? s.heap.objs.size=some { cls:=.type "list",dict:=none,data:=.seq its.toArray c',slots:=#[] }->EP X Ml σ Q (.ref s.heap.objs.size) { s with heap:=h' }:=fun its r' hz h' c' kp e =>
  ⟨.ref s.heap.objs.size,_,I.laid (t':=s.toks) kp (Jw _) (show cP X.prog X.w _ h' _ (.lst ys) from⟨hz,its,c',r',e⟩),rfl,q _ (I.hok.fresh (Jw _))⟩
 rcases hq with hq |hq
 ·obtain⟨its,r',pl,hz⟩:=I.list hq
  have Mp:=r'.length
  obtain⟨o,ho,hc,n,hd⟩:=pl.isList
  exact call_list_seq p (.inl rfl) ho hc hd (fun h' c' kp e=>fin its r' hz h' c' kp e) (by simp only[Jz] <;> omega)
 ·obtain⟨its,r',pl,hz⟩:=I.tuple hq
  have Mp:=r'.length
  obtain⟨o,ho,hc,n,hd⟩:=pl
  exact call_list_seq p (.inr rfl) ho hc hd (fun h' c' kp e=>fin its r' hz h' c' kp e) (by simp only[Jz] <;> omega)
theorem p8:dc X (.type "tuple") (fun xs H Q=>∃p ys,xs=[.ref p]/\((SqL X.K H p ys/\∀l,H l=none->Q (.ref l) (upd H l (.tup ys)))\/(SqT X.K H p ys/\Q (.ref p) H))):=by
 intro Ml s σ H xs us Q I r h
 obtain⟨p,ys,rfl,h⟩:=h
 obtain⟨u,rfl,rx⟩:=jw r
 cases rx
 rcases h with⟨hq,q⟩ |⟨hq,q⟩
 ·obtain⟨its,r',pl,hz⟩:=I.list hq
  have Mp:=r'.length
  refine call_tuple_list pl.isList (fun h' kp=>?_) (by simp only[Jz] <;> omega)
  have I1:Inv X Ml σ H { s with heap:=h' }:=I.kept (t':=s.toks) kp
  have I2:Inv X Ml σ (upd H h'.objs.size (.tup ys)) { s with heap:=h'.push { cls:=.type "tuple",data:=.seq its.toArray } } :=
   I1.laid (t':=s.toks) (fun b o e=>Jp _ e) (Jw _) (show cP X.prog X.w _ _ _ (.tup ys) from⟨hz,its,r',IsTup.new _ _⟩)
  exact⟨.ref h'.objs.size,_,I2,rfl,q _ (I1.hok.fresh (Jw _))⟩
 ·obtain⟨its,r',pl,hz⟩:=I.tuple hq
  exact call_tuple_same pl ⟨.ref p,H,I,rfl,q⟩
def tyV(K:OE)(T:String)(x:V)(H:Hp):Prop:=match x with
 |.str _=>T = "str"
 |.int _=>T = "int"
 |.ref p=>(T = "list"/\∃xs,SqL K H p xs)\/(T = "tuple"/\∃o,K.lookup p=some o/\o.cls=.type "tuple"/\o.dict=none) \/
   (T = "dict"/\((∃kvs,H p=some (.dK kvs))\/∃kvs,H p=some (.dT kvs)))\/(T = "set"/\∃S n,H p=some (.set S n))
 |_=>False
theorem zG{Ml:OC}{σ:St}{H:Hp}{T:String}{v:Value}(I:Inv X Ml σ H s)(r:bi x v)(ty:tyV X.K T x H) :
  s.TypeIs v T/\∀a,v=.ref a->∃ob,s.heap.get? a=some ob/\ob.dict=none:=by
 cases x with
 |str z =>
  obtain⟨t,rfl⟩:=r
  cases(show T = "str" from ty)
  exact⟨Lo s z t,fun _ e=>nomatch e⟩
 |int i =>
  obtain⟨t,rfl⟩:=r
  cases(show T = "int" from ty)
  exact⟨typeIs_int s i t,fun _ e=>nomatch e⟩
 |ref p =>
  cases r
  rcases ty with⟨rfl,xs,hq⟩ |⟨rfl,o,hk,hc,hd⟩ |⟨rfl,hk⟩ |⟨rfl,S,n,hk⟩
  ·obtain⟨its,_,pl,_⟩:=I.list hq
   refine⟨pl.isList.typeIs,fun a e=>?_⟩
   cases e
   obtain⟨o,n,e,c,hd,_⟩:=pl
   exact⟨o,e,hd⟩
  ·refine⟨⟨o,I.kIn p o hk,hc⟩,fun a e=>?_⟩
   cases e
   exact⟨o,I.kIn _ o hk,hd⟩
  ·have z:∃o,s.heap.get? p=some o/\o.ExactDict:=by
    rcases hk with⟨kvs,hk⟩ |⟨kvs,hk⟩
    ·obtain⟨_,_,_,_,o,_,_,e,ex,_⟩:=I.hok p _ hk
     exact⟨o,e,ex⟩
    ·obtain⟨_,_,_,_,o,_,_,e,ex,_⟩:=I.hok p _ hk
     exact⟨o,e,ex⟩
   obtain⟨o,e,ex⟩:=z
   refine⟨⟨o,e,ex.1⟩,fun a e2=>?_⟩
   cases e2
   exact⟨o,e,ex.2.1⟩
  ·obtain⟨o,_,_,_,e,ex,_⟩:=I.hok p _ hk
   refine⟨⟨o,e,ex.1⟩,fun a e2=>?_⟩
   cases e2
   exact⟨o,e,ex.2.1⟩
 |_=>exact False.elim ty
def Ik(K:OE)(T:String)(r:O3)(to:TE):TE:=fun σ H Q=>to σ H fun x H1=>tyV K T x H1/\r x [] H1 Q
def tBM(K:OE)(T:String)(r:O3)(to:TE)(t:TA):TE:=fun σ H Q=>to σ H fun x H1=>tyV K T x H1/\t σ H1 fun xs H2=>r x xs H2 Q
variable {o e:Expr}{es:OP}{to:TE}{t:TA}{name:Str}{apos Mn:Pos}{T id:String}{r:O3}
theorem FE(pa:PlainAttrs T)(slot:Slot T name id)(hty:typeOf (.builtin id)=pure (.type "method_descriptor"))(hm:MtR X id r)(ho:PE X o to)
  (Mq:attributeBase o name X.env (eval o X.env)=eval o X.env:=by rfl) (Mr:(apos.endLine == Mn.line)=true:=by rfl):PE X (.Call (.Attribute o name apos) [] [] Mn) (Ik X.K T r to):=by
 intro Ml s σ H Q I h
 refine wpAny_Call_method0_late Mq Mr (thn (ho Ml s σ H _ I h) fun v s1 zz48_0=>?_)
 obtain⟨x,H1,I1,r1,ty,q1⟩:=zz48_0
 obtain⟨h1,h2⟩:=zG I1 r1 ty
 exact⟨T,id,pa,slot,hty,h1,h2,Calls.callWith_builtin rfl (PySem.evalArgs_none (hm Ml s1 σ H1 x [] v [] Q I1 r1 .nil q1))⟩
theorem qr(pa:PlainAttrs T)(slot:Slot T name id)(hty:typeOf (.builtin id)=pure (.type "method_descriptor"))(hm:MtR X id r)(ho:PE X o to)(ha:PA X (e :: es) t)
  (Mq:attributeBase o name X.env (eval o X.env)=eval o X.env:=by rfl)
  (MB:((backTo Mn (starEach (e :: es) X.env)).all (fun x => !x.1) && (backToKw Mn (keywordEach [] X.env)).all (fun x=>x.1.isSome)
   && decide ((e :: es).length + ([]:List Keyword).length + (if([]:List Keyword).isEmpty then 0 else 1) < 30))=true:=by rfl)
  (Mr:(apos.endLine == Mn.line)=true:=by rfl) (hs:starEach (e :: es) X.env=(false,eval e X.env) :: starEach es X.env:=by rfl) (Nb:(backTo Mn (starEach es X.env)).any (·.1)=false:=by rfl) :
  PE X (.Call (.Attribute o name apos) (e :: es) [] Mn) (tBM X.K T r to t):=by
 intro Ml s σ H Q I h
 refine wpAny_Call_method_late Mq MB Mr rfl (thn (ho Ml s σ H _ I h) fun v s1 zz49_0=>?_)
 obtain⟨x,H1,I1,r1,ty,q1⟩:=zz49_0
 obtain⟨h1,h2⟩:=zG I1 r1 ty
 refine⟨T,id,pa,slot,hty,h1,h2,?_⟩
 have hA:=ha Mn Ml s1 σ H1 _ I1 q1
 rw[hs]at hA ⊢
 refine Calls.callWith_builtin (by show(false || (backTo Mn (starEach es X.env)).any (·.1))=false;rw[Nb] <;> rfl) (Calls.evalArgs_plain ?_)
 exact thn hA fun us s2 zz50_0=>by obtain⟨vs,H2,I2,r2,q2⟩:=zz50_0;exact hm Ml s2 σ H2 x vs v us Q I2 r1 r2 q2
end
def MtM(X:Cx)(id:String)(r:O3):Prop :=
 ∀(Ml:OC) (s:Shared) (σ:St) (H:Hp) (x:V) (xs:ON) (v:Value) (us:OH) (Q:VK),Inv X Ml σ H s->bi x v->aW xs us->r x xs H Q ->
  wpAny (model X.prog X.w) X.A (call (.builtin id) (v :: us)) (EP X Ml σ Q) X.xe s
theorem aW.one:∀{x:V}{us:OH},aW [x] us->∃u,us=[u]/\bi x u:=by
 intro x us h
 cases h with
 |cons r h=>cases h;exact⟨_,rfl,r⟩
theorem aW.two:∀{x y:V}{us:OH},aW [x,y] us->∃u v,us=[u,v]/\bi x u/\bi y v:=by
 intro x y us h
 cases h with
 |cons r h=>cases h with
  |cons q h=>cases h;exact⟨_,_,rfl,r,q⟩
theorem aW.zero:∀{us:OH},aW [] us->us=[]
 |_,.nil=>rfl
theorem aW.reverse{xs:ON}{us:OH}(h:aW xs us):aW xs.reverse us.reverse:=by
 induction h with
 |nil=>exact .nil
 |cons r t ih=>rw[Ls,Ls];exact aW.append ih (.cons r .nil)
section
variable {X:Cx}{Ml:OC} {σ:St}{H:Hp}{s:Shared}{l b:Addr}{xs ys zs:ON}
theorem Inv.lset{its its':OH}{n:Nat}{f:Array Value->Array Value}{t':Nat}(I:Inv X Ml σ H s)(hH:H l=some (.lst xs))
  (e:s.heap.get? l=some { cls:=.type "list",data:=.seq its.toArray n }) (hf:f its.toArray=its'.toArray) (hv:aW ys its') (hz:ys.length<=sizeLine) :
  Inv X Ml σ (upd H l (.lst ys)) { s with heap:=s.heap.update l (Obj.mapSeq f),toks:=t' }:=by
 have q:=PySem.IsL.update e f
 rw[hf]at q
 refine I.write (x:=l) (e:=l) (by rw[hH];exact trivial) (.inl rfl) (fun b' u hb hu=>(JO s.heap (Obj.mapSeq f) (Ne.symm hb)).trans hu) ⟨_,q⟩ ?_
 exact⟨hz,its',_,hv,q⟩
theorem Inv.lnew{its:OH}{t':Nat}(I:Inv X Ml σ H s)(hv:aW ys its)(hz:ys.length<=sizeLine) :
  Inv X Ml σ (upd H s.heap.objs.size (.lst ys)) { s with heap:=s.heap.push { cls:=.type "list",data:=.seq its.toArray },toks:=t' } :=
 I.laid (fun _ _ q=>Jp _ q) (Jw _) ⟨hz,its,0,hv,Jx _ rfl⟩
theorem Inv.fresh(I:Inv X Ml σ H s):H s.heap.objs.size=none:=I.hok.fresh (Jw _)
theorem Inv.lstM(I:Inv X Ml σ H s)(hH:H l=some (.lst xs)):xs.length<=sizeLine/\∃(its:OH) (n:Nat),aW xs its/\xs.length=its.length/\s.heap.get? l=some { cls:=.type "list",data:=.seq its.toArray n }:=by
 obtain⟨z,its,n,r,e⟩:=I.hok l _ hH
 exact⟨z,its,n,r,r.length,e⟩
end
section
variable {X:Cx}
def CQ:V->List V->Hp->VK->Prop:=fun x vs H Q=>∃l xs y,x=.ref l/\vs=[y]/\H l=some (.lst xs)/\xs.length < sizeLine/\Q .non (upd H l (.lst (xs ++ [y])))
theorem qy:MtM X "list.append" CQ:=by
 intro Ml s σ H x vs v us Q I rx rv h
 obtain⟨l,xs,y,rfl,rfl,hH,hz,q⟩:=h
 cases rx
 obtain⟨u,rfl,ru⟩:=rv.one
 obtain⟨z,its,n,r,hl,e⟩:=I.lstM hH
 refine Ma F.slot_list_append ⟨_,e,rfl⟩ F.entry_list_append (F.args_list_append_2 _ _) (PySem.list_append l its.toArray n u (by rw[Jz];omega)) ⟨e,?_⟩
 refine⟨.non,_,I.lset (its':=its ++ [u]) hH e (by simp) (r.append (.cons ru .nil)) ?_,rfl,q⟩
 rw[Jo,JJ]
 omega
def Hl:R2:=fun x y H Q=>∃l b xs zs,x=.ref l/\y=.ref b/\H l=some (.lst xs)/\H b=some (.lst zs)/\xs.length + zs.length<=sizeLine/\∀p,H p=none->Q (.ref p) (upd H p (.lst (xs ++ zs)))
theorem FM:OpR X (binaryOp .Add) Hl:=by
 intro Ml s σ H x y v u Q I rx ry h
 obtain⟨l,b,xs,zs,rfl,rfl,hH,hB,hz,q⟩:=h
 cases rx
 cases ry
 obtain⟨z,its,n,r,hl,e⟩:=I.lstM hH
 obtain⟨z2,its2,n2,r2,hl2,e2⟩:=I.lstM hB
 refine PySem.P.add_list e e2 ?_ (by rw[Jz,Jz];omega)
 have ea:its.toArray ++ its2.toArray=(its ++ its2).toArray:=by simp
 rw[ea]
 exact⟨.ref _,_,I.lnew (t':=s.toks) (r.append r2) (by rw[Jo];omega),rfl,q _ I.fresh⟩
theorem Dv{α:Type}(xs:List α)(k:Nat):(List.replicate k xs).flatten.length=k * xs.length:=by
 induction k with
 |zero=>simp
 |succ k ih=>rw[LY,Lu,Jo,ih,Nat.succ_mul,Nat.add_comm]
end
end L2
namespace Att
open PySem PySem.W PySem.Calls PyProof.Rows
theorem nC{P:Params}{h:Heap}:∀(ns:Ow) (vs:OH),WellAll P h vs (ns.map WData.int)->IntsAre vs ns:=by
 intro ns
 induction ns with
 |nil =>
  intro vs w
  rw[Jj]at w
  cases w
  exact .nil
 |cons n ns ih =>
  intro vs w
  rw[Ji]at w
  cases w with
  |cons a b =>
   cases a
   exact .cons _ _ (ih _ b)
theorem yb{l:OpenLaw}{n:Nat}(hn:l.most=some n){P:Params}{h:Heap}{args:List WData}{vals:OH}
  (MM:l.row.toRowW.claim.pre args=true) (hwl:WellAll P h vals args) :
  ∃a vs ns,vals=[Value.ref a]/\args=[WData.list (ns.map WData.int)]/\h.get? a=some { cls:=.type "list",data:=.seq vs.toArray }/\IntsAre vs ns/\ns.length<=n:=by
 have hsh:WShape.hasAll [] args [.list .int]=true:=(pre_splitW MM).1
 have hc:l.pre.holds [] { args:=args }=true:=(pre_splitW MM).2
 obtain⟨d,r,rfl,h1,h2⟩:=hasAllW_cons hsh
 obtain rfl:=hasAllW_nil h2
 obtain⟨xs,rfl,h3⟩:=hasW_list h1
 obtain⟨ns,rfl⟩:=items_int h3
 have Mp:ns.length<=n:=by
  unfold OpenLaw.pre at hc
  have h4:(WTm.not (.lt (.lit (.int (n:Int))) (.len (.arg 0)))).holds [] { args:=[.list (ns.map .int)] }=true:=by
   have h4:=(holds_andW hc).1
   rw[hn]at h4
   exact h4
  have h5:=condW_of h4 (w_not (w_lt w_lit (w_len_list (w_arg rfl))))
  rw[Jm]at h5
  refine Nat.le_of_not_lt fun q=>?_
  have q':(n:Int) < ((ns.length:Nat):Int):=by omega
  first
   | (rw[JD q']at h5;exact absurd h5 nofun)
   | (simp at h5;omega)
 cases hwl with
 |cons w1 w2 =>
  cases w2
  cases w1 with
  |list ho MU=>exact⟨_,_,ns,rfl,rfl,ho,nC ns _ MU,Mp⟩
theorem yq(l:OpenLaw)(args:List WData):l.row.toRowW.claim.post args (.bool true) args=true :=
 postW_of (r:=l.row.toRowW) (X:=(true == true))
  (show WShape.has [] (.bool true) .bool=true by first |rfl |decide |simp[WShape.has,WShape.arms,WShape.armsAll])
  (show(WTm.eq .res (.lit (.bool true))).value [] { args:=args,res:=some (.bool true),after:=args }=some (.bool (true == true)) from w_eq_bool (w_res rfl) w_lit) rfl
end Att
namespace L2
open PySem PySem.Spec PyProof.Rows
theorem qc:∀{vs:OH}{ns:Ow},IntsAre vs ns->aW (ns.map V.int) vs
 |_,_,.nil=>.nil
 |_,_,.cons n t h=>.cons ⟨t,rfl⟩ (qc h)
def GF(H:Hp):Prop:=∀b,H b=none\/∃o xs,H b=some (.frz o (.lst xs))
theorem Bk{P:Program}{w:World}{K:OE}{mg mb:OI}{CX:CXT}{k:Nat}{fa a:Addr}{fd:FuncData}{x:Str}{sp:Sp}{s₁:Shared}{vs:OH}{ns:Ow}
  (KX:K.In s₁.heap) (hns:s₁.heap.Ns mainGlobals mg) (hb:s₁.heap.Ns builtinsNs mb) (hbb:∀x:Str,x ≠ "__name__"->mb x=bootBuiltins x) (NY:s₁.heap.NoLimit) (hg:s₁.gens=#[])
  (ha:s₁.heap.get? a=some { cls:=.type "list",data:=.seq vs.toArray }) (hi:IntsAre vs ns) (hl:ns.length<=sizeLine) (hr:dj k callerA)
  (F:∀base:Heap,K.In base->base.Ns mainGlobals mg->aX P w K mg base CX k fa fd [x] sp) (Ny:∀(s:Shared) (u:Value),BindsTo s fd ⟨[u],[]⟩ [(x,u)])
  (hsp:∀H:Hp,GF H->SqL K H a (ns.map V.int)->sp [.ref a] H (fun v _=>v=.bl true) fun _ _ _=>False)
  (hCX:∀H e s',CX [] H s₁ (fun _ _ _=>False) e s'->False) :
  codeAny (model P w) callerA (.call (.ref fa) ⟨[.ref a],[]⟩) (fun r s'=>r=.ok (.ret (.bool true))/\OldK s₁.heap s'.heap/\s'.os=s₁.os/\AllBare s'.gens) s₁:=by
 have rv:=qc hi
 have lenV:=hi.length
 have core:∀H:Hp,GF H->SqL K H a (ns.map V.int)->HOk P w H s₁.heap->(∀b,H b ≠ none->b=a)->(H a ≠ none->K.lookup a=none) ->
   codeAny (model P w) callerA (.call (.ref fa) ⟨[.ref a],[]⟩) (fun r s'=>r=.ok (.ret (.bool true))/\OldK s₁.heap s'.heap/\s'.os=s₁.os/\AllBare s'.gens) s₁:=by
  intro H hO hS hok hA hK
  have base_of:∀{b:Addr}{o:Obj},s₁.heap.get? b=some o->H b=none->(sv s₁.heap H).get? b=some o:=fun e n=>BA e n
  have noA:∀{b:Addr}{o:Obj}{es:Array DictEntry}{ep:Nat},s₁.heap.get? b=some o->o.data=.dict es ep->H b=none:=fun {b o es ep} e d=>by
   cases q:H b with
   |none=>rfl
   |some u =>
    have e':b=a:=hA b (by rw[q];simp)
    subst e'
    rw[ha]at e;cases e
    have d':Data.seq vs.toArray _=Data.dict es ep:=d
    cases d'
  have nsK:∀{b:Addr}{m:OI},s₁.heap.Ns b m->(sv s₁.heap H).Ns b m:=fun {b m} zz51_0=>by obtain⟨o,es,ep,e,d,r⟩:=zz51_0;exact⟨o,es,ep,base_of e (noA e d),d,r⟩
  have hKb:K.In (sv s₁.heap H):=fun b o e=>base_of (KX b o e) (by
   cases q:H b with
   |none=>rfl
   |some u =>
    have e':b=a:=hA b (by rw[q];simp)
    subst e'
    rw[hK (by rw[q];simp)]at e;cases e)
  have hM:Mod K mg (sv s₁.heap H):=⟨hKb,nsK hns,⟨mb,nsK hb,hbb⟩,let ⟨mc,h1,h2⟩:=NY; ⟨mc,nsK h1,h2⟩⟩
  have e0:sT P w K mg (sv s₁.heap H) callerA [] s₁ H:=⟨rfl,hM,fun b o e=>De e,Nat.le_of_eq (yY _ _),trivial,fun b hb=>absurd (show b ∈ ([]:OT) from hb) (by simp),hok,.of_eq hg⟩
  refine La ((F _ hKb (nsK hns)).run callerA [] s₁ H ⟨[.ref a],[]⟩ [.ref a] [.ref a] _ _ hr e0 (Ny s₁ (.ref a)) (.cons rfl .nil) (hsp H hO hS)) fun r s' h=>?_
  cases r with
  |error e=>exact(hCX H e s' h).elim
  |ok fl =>
   cases fl with
   |next=>exact False.elim h
   |brk=>exact False.elim h
   |cont=>exact False.elim h
   |ret u =>
    obtain⟨v,H',os,bare,un,NR,r',q⟩:=h
    have q':v=.bl true:=q
    subst q'
    obtain rfl:u=Value.bool true:=r'
    refine⟨rfl,OldK.of_keep fun b o e=>?_,os,bare⟩
    cases q:H b with
    |none=>exact un.keep b o e q (by intro z;exact absurd (show b ∈ ([]:OT) from z) (by simp)) (by simp)
    |some u =>
     rcases hO b with z |⟨ob,xs,z⟩
     ·rw[q]at z;cases z
     ·have z2:=un.frzs b ob _ z
      obtain⟨e1,_⟩:=hok b _ z
      obtain⟨e2,_⟩:=NR b _ z2
      rw[e]at e1;cases e1
      exact e2
 cases hk:K.lookup a with
 |some o =>
  have e:=KX a o hk
  rw[ha]at e
  cases e
  refine core (fun _=>none) (fun _=>.inl rfl) (.inr ⟨_,vs.toArray,_,hk,rfl,rfl,rfl,by rw[Jz,lenV];exact hl,by simpa using rv⟩) (fun b u z=>by have z':(none:Option HO)=some u:=z;cases z') (fun b z=>absurd rfl z) fun z=>absurd rfl z
 |none =>
  refine core (fun b=>if b=a then some (.frz { cls:=.type "list",data:=.seq vs.toArray } (.lst (ns.map V.int))) else none) (fun b=>?_) (.inl (.inr ⟨{ cls:=.type "list",data:=.seq vs.toArray },if_pos rfl⟩)) (fun b u z=>?_) (fun b z=>?_) fun _=>hk
  ·by_cases hb:b=a
   ·exact .inr ⟨_,_,if_pos hb⟩
   ·exact .inl (if_neg hb)
  ·by_cases hb:b=a
   ·have z':=(if_pos hb).symm.trans z
    cases z'
    subst hb
    exact⟨ha,by rw[Jm];exact hl,vs,_,rv,ha⟩
   ·have z':=(if_neg hb).symm.trans z
    cases z'
  ·by_cases hb:b=a
   ·exact hb
   ·exact absurd (if_neg hb) z
abbrev CX0:CXT:=fun _ _ _ _ _ _=>False
abbrev E0:XK:=fun _ _ _=>False
theorem Eu{X:Cx}:wB CX0 X E0:=fun _ _ _ _ _ _ _ h=>h.elim
structure Fun (K:OE) (x qual:Str) (st:Stmt) (f:Addr) (fd:FuncData):Prop where
 ex:∃(oc:Value) (od:Oy) (kV doc pm:Value) (an:Oy) (cdv ct:Value) (osl:PJ),
  fd=PySem.W.fnOf x qual (md st) (ei st) (ak st) .none kV doc pm an cdv ct/\K.lookup f=some ⟨oc,od,.func fd,osl⟩/\PySem.W.codeIn K cdv qual=true
 kp:PySem.W.keepIn K (.ref f)=true
section
variable {P:Program}{w:World}{K:OE}{mg:OI}{base:Heap}
theorem Fun.ok{x qual:Str}{st:Stmt}{f:Addr}{fd:FuncData}{N ps:OD}{k:Nat}{sp:Sp}(F:Fun K x qual st f fd)(S:aE N ps (ak st))(len:∀vs H Q E,sp vs H Q E->vs.length=ps.length)
  (Mt:∀(cdv:Value) (A:Around) (outer:OZ) (s:Shared) (H:Hp) (vs:ON) (Q:VK) (E:XK),dj k (A.deeper (envOfC qual (ak st) s.heap.objs.size f cdv))->sp vs H Q E ->
   ∃t,PSs (jN CX0 P w K mg base N qual (ak st) f cdv A outer s H E).nox (ei st) t/\t { nx:=fun _ H'=>Q .non H',rt:=Q } (start N vs) H):aX P w K mg base CX0 (k + 1) f fd ps sp:=by
 obtain⟨oc,od,kV,doc,pm,an,cdv,ct,osl,rfl,lk,hcd⟩:=F.ex
 refine EB lk hcd S len fun A outer s H vs Q E hr hsp=>?_
 obtain⟨t,h,q⟩:=Mt cdv A outer s H vs Q E hr hsp
 exact⟨t,h.nox,q⟩
theorem Fun.binds{x qual:Str}{st:Stmt}{f:Addr}{fd:FuncData}{ps:OD}(F:Fun K x qual st f fd)
  (h:∀(kV doc pm:Value) (an:Oy) (cdv ct:Value) (us:OH),us.length=ps.length->bindArgs (PySem.W.fnOf x qual (md st) (ei st) (ak st) .none kV doc pm an cdv ct) ⟨us,[]⟩=pure (ps.zip us)):fj K fd ps []:=by
 obtain⟨oc,od,kV,doc,pm,an,cdv,ct,osl,rfl,lk,hcd⟩:=F.ex
 exact .all (h kV doc pm an cdv ct)
end
section
variable {X:Cx}
theorem pv(i:Nat){x:Str}{pos:Pos}(hN:X.N[i]? = some x:=by rfl)(hv:Vis X.env.scope x:=by first |exact Or.inl rfl |exact Or.inr (Or.inl rfl) |exact Or.inr (Or.inr rfl))(hd:(x == ("__debug__" : Str))=false:=by decide)
  (hcd:(x == ("__classdict__" : Str))=false:=by decide):PE X (.Name x pos) (nY i):=kQ hN hv hd hcd
end
theorem uC{A B:Prop}(h:B):if false=true then A else B:=by
 rw[if_neg JF]
 exact h
theorem uB{A B:Prop}(h:A):if true=true then A else B:=by
 rw[if_pos rfl]
 exact h
def HV(H H':Hp):Prop:=∀b o,H b=some o->H' b=some o
variable{H:Hp}
theorem HV.free{H':Hp}(e:HV H H'){l:Addr}(h:H' l=Option.none):H l=Option.none:=by
 cases q:H l with
 |none=>rfl
 |some o =>
  rw[e l o q]at h
  cases h
section
variable {κ:Type} [DecidableEq κ]
def iw(kvs:List (κ×V))(k:κ):Option V:=(kvs.find? fun kv=>decide (kv.1=k)).map (·.2)
theorem sW{p:κ×V}{r:List (κ×V)}{k:κ}(e:p.1=k):iw (p :: r) k=some p.2:=by simp[iw,K8,e]
theorem sX{p:κ×V}{r:List (κ×V)}{k:κ}(e:¬p.1=k):iw (p :: r) k=iw r k:=by simp[iw,K8,e]
theorem iu.isSome_eq{o:Option V}{u:PB}(r:iu o u):o.isSome=u.isSome:=by
 cases o with
 |none=>cases u with
  |none=>rfl
  |some _=>exact(show False from r).elim
 |some _=>cases u with
  |none=>exact(show False from r).elim
  |some _=>rfl
theorem KV.val{kvs:List (κ×V)}{vs:List (κ×Value)}(r:KV kvs vs)(k:κ):iu (iw kvs k) (valueAt vs k):=by
 unfold KV at r
 induction r with
 |nil=>exact True.intro
 |@cons p q ps qs h t ih =>
  obtain⟨h1,h2⟩:=h
  by_cases e:p.1=k
  ·have e':q.1=k:=h1.symm.trans e
   have b:valueAt (q :: qs) k=some q.2:=by simp[valueAt,K8,e']
   rw[sW e,b];exact h2
  ·have e':¬q.1=k:=fun z=>e (h1.trans z)
   have b:valueAt (q :: qs) k=valueAt qs k:=by simp[valueAt,K8,e']
   rw[sX e,b];exact ih
theorem KV.any{kvs:List (κ×V)}{vs:List (κ×Value)}(r:KV kvs vs)(k:κ):(kvs.any fun kv=>decide (kv.1=k))=vs.any fun kv=>decide (kv.1=k):=by
 unfold KV at r
 induction r with
 |nil=>rfl
 |cons h t ih=>rw[K9,K9,ih,h.1]
theorem KV.keys{kvs:List (κ×V)}{vs:List (κ×Value)}(r:KV kvs vs):kvs.map (·.1)=vs.map (·.1):=by
 unfold KV at r
 induction r with
 |nil=>rfl
 |cons h t ih=>rw[Ji,Ji,ih,h.1]
theorem KV.length{kvs:List (κ×V)}{vs:List (κ×Value)}(r:KV kvs vs):kvs.length=vs.length:=Paired.length r
end
variable{w:World}
theorem xk{P:Program}{k:Key}{u:Value}(r:bi (kV k) u):(dl P w).is k u=true:=by
 match k,r with
 |.inl (some i),r=>obtain⟨t,e⟩:=(show ∃t,u=Value.int i t from r);subst e;exact ut P w i t
 |.inl none,r=>cases(show u=Value.none from r);exact yR
 |.inr x,r=>obtain⟨t,e⟩:=(show ∃t,u=Value.str x t from r);subst e;exact uq P w x t
theorem qE{P:Program}{w:World}:∀{ks:List Key}{us:OH},aW (ks.map kV) us->ItemsAre (dl P w) ks us
 | [],_,r=>by rw[Jj]at r;cases r;exact .nil
 |k :: ks,_,r=>by
  rw[Ji]at r
  cases r with
  |cons h t=>exact .cons (xk h) (qE t)
abbrev KT(H:Hp):List (List Key×V)->List (List Key×Addr×Value)->Prop:=Paired fun p q=>p.1=q.1/\H q.2.1=some (.tup (p.1.map kV))/\bi p.2 q.2.2
theorem KT.val{kvs:PD}{xs:List (List Key×Addr×Value)}(r:KT H kvs xs)(k:List Key):iu (iw kvs k) ((atKey xs k).map (·.2)):=by
 induction r with
 |nil=>exact True.intro
 |@cons p q ps qs h t ih =>
  obtain⟨h1,_,h2⟩:=h
  by_cases e:p.1=k
  ·have e':q.1=k:=h1.symm.trans e
   have b:atKey (q :: qs) k=some q.2:=by simp[atKey,K8,e']
   rw[sW e,b];exact h2
  ·have e':¬q.1=k:=fun z=>e (h1.trans z)
   have b:atKey (q :: qs) k=atKey qs k:=by simp[atKey,K8,e']
   rw[sX e,b];exact ih
section
variable {P:Program}{w:World}{H:Hp}{h:Heap}{a:Addr}
theorem Ej{u:HO}(ok:HOk P w H h)(e:Rd H a u):cP P w H h a u:=e.ok ok
theorem qV{kvs:OY}(ok:HOk P w H h)(e:Rd H a (.dK kvs)):kvs.length<=sizeLine/\(a == sysModules)=false/\∃vs,KV kvs vs/\h.DictOf (dl P w) a vs :=
 show cP P w H h a (.dK kvs) from Ej ok e
theorem sf{ks:List Key}(ok:HOk P w H h)(e:H a=some (.tup (ks.map kV))):(tupleKind (dl P w)).is h ks a:=by
 obtain⟨_,its,r,o,h1,h2,n,h3⟩:=(show cP P w H h a (.tup (ks.map kV)) from ok a _ e)
 exact⟨o,its.toArray,n,h1,h2,h3,by simpa using qE r⟩
theorem xD{kvs:PD}(ok:HOk P w H h)(e:Rd H a (.dT kvs)):kvs.length<=sizeLine/\(a == sysModules)=false /\
  ∃xs,KT H kvs xs/\h.DictOfH (tupleKind (dl P w)) a xs:=by
 obtain⟨z,y,xs,r,o,es,ep,h1,h2,h3,h4,h5⟩:=(show cP P w H h a (.dT kvs) from Ej ok e)
 refine⟨z,y,xs,r,o,es,ep,h1,h2,h3,h4,fun x hx=>?_,h5⟩
 have all:∀{l:PD} {m:List (List Key×Addr×Value)},KT H l m->∀x ∈ m,(tupleKind (dl P w)).is h x.1 x.2.1:=by
  intro l m q
  induction q with
  |nil=>intro x hx;exact nomatch hx
  |@cons p q ps qs hq t ih =>
   intro x hx
   rcases List.mem_cons.mp hx with e |hx
   ·subst e
    exact sf ok (by rw[<-hq.1];exact hq.2.1)
   ·exact ih x hx
 exact all r x hx
end
def vf(H:Hp)(a:Addr)(y:V)(r:Option V):Prop :=
 (∃kvs k,Rd H a (.dK kvs)/\y=kV k/\r=iw kvs k)\/∃kvs k b,Rd H a (.dT kvs)/\y=.ref b/\H b=some (.tup (k.map kV))/\r=iw kvs k
section
variable {X:Cx}{Ml:OC} {σ:St}{H:Hp}{s:Shared}{a:Addr}{y v:V}{u r:Value}{o:Option V}{A:Around}{E:OA}
theorem Inv.big(I:Inv X Ml σ H s):sysModules < s.heap.objs.size:=by
 have h:mainGlobals < s.heap.objs.size:=(I.mod.glob.keeps I.bk).lt
 exact Nat.lt_trans nofun h
variable{Q:OA}
theorem ze(hu:A.units + 1 < cLine)(I:Inv X Ml σ H s)(g:vf H a y (some v))(ry:bi y u)(h:∀w' s',Inv X Ml σ H s'->bi v w'->Q w' s') :
  wpAny (model X.prog X.w) A (getItem (.ref a) u) Q E s:=by
 rcases g with⟨kvs,k,e,ey,l⟩ |⟨kvs,k,b,e,ey,eb,l⟩
 ·subst ey
  obtain⟨z,hd,vs,rel,dd⟩:=qV I.hok e
  obtain⟨w',hw,rw'⟩:=iu.some_of (v:=v) (o:=valueAt vs k) (by rw[l];exact rel.val k)
  exact wpAny_getItem_of (xk ry) dd.mapOf hw (h w' _ (I.tok _) rw')
 ·subst ey
  cases(show u=Value.ref b from ry)
  obtain⟨z,hd,xs,rel,dd⟩:=xD I.hok e
  obtain⟨w',hw,rw'⟩:=iu.some_of (v:=v) (o:=(atKey xs k).map (·.2)) (by rw[l];exact rel.val k)
  obtain⟨p,hp,hp2⟩:=Option.map_eq_some_iff.mp hw
  refine wpAny_getItem_heap (Mg hu) (sf I.hok eb) dd hp ?_
  rw[hp2]
  exact h w' _ (I.tok _) rw'
theorem IZ(hu:A.units + 1 < cLine)(I:Inv X Ml σ H s)(g:vf H a y o)(ry:bi y u)(h:∀s',Inv X Ml σ H s'->Q (.bool o.isSome) s') :
  wpAny (model X.prog X.w) A (compareOp .In u (.ref a)) Q E s:=by
 rcases g with⟨kvs,k,e,ey,l⟩ |⟨kvs,k,b,e,ey,eb,l⟩
 ·subst ey
  obtain⟨z,hd,vs,rel,dd⟩:=qV I.hok e
  refine wpAny_in_of (xk ry) hd dd.mapOf ?_
  rw[<-(rel.val k).isSome_eq,<-l]
  exact h _ (I.tok _)
 ·subst ey
  cases(show u=Value.ref b from ry)
  obtain⟨z,hd,xs,rel,dd⟩:=xD I.hok e
  refine wpAny_in_heap (Mg hu) (sf I.hok eb) hd dd ?_
  have q:=(rel.val k).isSome_eq
  rw[Option.isSome_map]at q
  rw[<-q,<-l]
  exact h _ (I.tok _)
theorem D0(hu:A.units + 1 < cLine)(I:Inv X Ml σ H s)(g:vf H a y o)(ry:bi y u)(h:∀s',Inv X Ml σ H s'->Q (.bool (!o.isSome)) s') :
  wpAny (model X.prog X.w) A (compareOp .NotIn u (.ref a)) Q E s:=by
 rcases g with⟨kvs,k,e,ey,l⟩ |⟨kvs,k,b,e,ey,eb,l⟩
 ·subst ey
  obtain⟨z,hd,vs,rel,dd⟩:=qV I.hok e
  refine wpAny_notIn_of (xk ry) hd dd.mapOf ?_
  rw[<-(rel.val k).isSome_eq,<-l]
  exact h _ (I.tok _)
 ·subst ey
  cases(show u=Value.ref b from ry)
  obtain⟨z,hd,xs,rel,dd⟩:=xD I.hok e
  refine wpAny_notIn_heap (Mg hu) (sf I.hok eb) hd dd ?_
  have q:=(rel.val k).isSome_eq
  rw[Option.isSome_map]at q
  rw[<-q,<-l]
  exact h _ (I.tok _)
end
section
variable {X:Cx}{Ml:OC} {σ:St}{H:Hp}{s:Shared}{a:Addr}{kvs:OY} {k:Key}{u:Value}{A:Around}{E:OA}
theorem HP{Q:OA}(I:Inv X Ml σ H s)(e:Rd H a (.dK kvs))(h:∀t s',Inv X Ml σ H s'->Q (.int kvs.length t) s'):wpAny (model X.prog X.w) A (call (.builtin "len") [.ref a]) Q E s:=by
 obtain⟨z,hd,vs,rel,dd⟩:=qV I.hok e
 refine call_len_dict hd dd (by rw[<-rel.length];rw[KY]at z;omega) ?_
 rw[<-rel.length]
 exact h _ _ (I.tok _)
end
def HY(i:Expr):Prop:=∀ov iv,subscripted i false ov iv=operate [ov,iv] (getItem ov iv)
theorem CA{prog:Program}{w:World}{A:Around}{E:OA}{s:Shared}{env:Env}{value slice:Expr}{pos:Pos}{T id:String}{Q:OA}
  (hl:typeLookup (.type T) "__getitem__" = pure (some (.builtin id))) (hs:HY slice)
  (h:wpAny (model prog w) A (eval value env) (fun o s₁=>wpAny (model prog w) A (eval slice env) (fun i s₂=>s₂.TypeIs o T/\wpAny (model prog w) A (getItem o i) Q E s₂) E s₁) E s) :
  wpAny (model prog w) A (eval (.Subscript value slice pos) env) Q E s:=by
 refine Subscript_ (JM h (fun o s₁ h₁=>JM h₁ (fun i s₂ h₂=>?_) fun _ _ x=>x) fun _ _ x=>x)
 obtain⟨hT,h₂⟩:=h₂
 unfold subscriptTail
 refine Jn ?_
 rw[getitemInPython_of_ne hT.not_modules]
 refine Jn (wpAny_specialOf hT hl ?_)
 have fin:wpAny (model prog w) A (subscripted slice false o i) (fun r s₃=>wpAny (model prog w) A (letTemporaryGo value o r >>= fun _=>pure r) Q E s₃) E s₂:=by
  rw[hs o i]
  exact wpAny_operating (JM h₂ (fun r s₃ h₃=>Jn (wpAny_letTemporaryGo (Jv h₃))) fun _ _ x=>x)
 first
  |exact Jv (Jn fin)
  |exact Jn (Jv (Jn fin))
  |exact Jn fin
theorem uX{X:Cx}{Ml:OC}{σ:St}{s:Shared}{a:Addr}{y:V}{o:Option V}(I:Inv X Ml σ H s)(g:vf H a y o):s.TypeIs (.ref a) "dict" := by
 rcases g with⟨kvs,k,e,_,_⟩ |⟨kvs,k,b,e,_,_,_⟩
 ·obtain⟨_,_,vs,_,dd⟩:=qV I.hok e
  exact dd.typeIs
 ·obtain⟨_,_,xs,_,dd⟩:=xD I.hok e
  exact dd.typeIs
def G4(td ty:TE):TE:=fun σ H Q=>td σ H fun x H1=>ty σ H1 fun y H2=>∃a v,x=.ref a/\vf H2 a y (some v)/\Q v H2
def G3(ty td:TE):TE:=fun σ H Q=>ty σ H fun y H1=>td σ H1 fun x H2=>∃a o,x=.ref a/\vf H2 a y o/\Q (.bl o.isSome) H2
def wM(ty td:TE):TE:=fun σ H Q=>ty σ H fun y H1=>td σ H1 fun x H2=>∃a o,x=.ref a/\vf H2 a y o/\Q (.bl (!o.isSome)) H2
section
variable {X:Cx}{o i e value:Expr}{pos pos' tpos:Pos}{td ty tv:TE}
theorem C_(hu:X.A.units + 1 < cLine)(ho:PE X o td)(hi:PE X i ty)(hs:HY i):PE X (.Subscript o i pos) (G4 td ty):=by
 intro Ml s σ H Q I h
 refine CA PySem.F.slot_dict_getitem.lookup hs (thn (ho Ml s σ H _ I h) fun u s1 ⟨x,H1,I1,rx,q1⟩=>thn (hi Ml s1 σ H1 _ I1 q1) fun iv s2 zz53_0=>?_)
 obtain⟨y,H2,I2,ry,a,v,ex,g,q2⟩:=zz53_0
 subst ex
 obtain rfl:u=Value.ref a:=rx
 exact⟨uX I2 g,ze hu I2 g ry fun w' s3 I3 rw'=>⟨v,H2,I3,rw',q2⟩⟩
theorem AJ(hu:X.A.units + 1 < cLine)(hi:PE X i ty)(ho:PE X o td):PC X .In i o (G3 ty td):=by
 intro Ml s σ H Q I h
 refine thn (hi Ml s σ H _ I h) fun iv s1 ⟨y,H1,I1,ry,q1⟩=>thn (ho Ml s1 σ H1 _ I1 q1) fun u s2 zz55_0=>?_
 obtain⟨x,H2,I2,rx,a,ov,ex,g,q2⟩:=zz55_0
 subst ex
 obtain rfl:u=Value.ref a:=rx
 exact IZ hu I2 g ry fun s3 I3=>⟨.bl ov.isSome,H2,I3,rfl,q2⟩
theorem yv(hu:X.A.units + 1 < cLine)(hi:PE X i ty)(ho:PE X o td):PC X .NotIn i o (wM ty td):=by
 intro Ml s σ H Q I h
 refine thn (hi Ml s σ H _ I h) fun iv s1 ⟨y,H1,I1,ry,q1⟩=>thn (ho Ml s1 σ H1 _ I1 q1) fun u s2 zz57_0=>?_
 obtain⟨x,H2,I2,rx,a,ov,ex,g,q2⟩:=zz57_0
 subst ex
 obtain rfl:u=Value.ref a:=rx
 exact D0 hu I2 g ry fun s3 I3=>⟨.bl (!ov.isSome),H2,I3,rfl,q2⟩
end
theorem B5{P:Program}(h:Heap)(hb:sysModules < h.objs.size):cP P w H (h.push { cls:=.type "dict",data:=.dict #[] }) h.objs.size (.dK []) :=
 ⟨Ks _,beq_eq_false_iff_ne.mpr (Ne.symm (JI hb)),[],.nil,Heap.DictOf.new h⟩
def ER:TE:=fun _ H Q=>∀p,H p=none->Q (.ref p) (upd H p (.dK []))
section
variable {X:Cx}{pos:Pos}
theorem AH:PE X (.Dict [] [] pos) ER:=fun Ml s σ H Q I h =>
 wpAny_Dict_empty ⟨.ref s.heap.objs.size,_,I.laid (a:=s.heap.objs.size) (o:=.dK []) (t':=s.toks) (fun _ _ q=>Jp _ q) (Jw _) (B5 s.heap I.big),rfl,h _ (I.hok.fresh (Jw _))⟩
end
end L2
set_option maxHeartbeats 4000000
namespace L2
open PySem PySem.Spec PyProof.Rows
structure jq (k:Nat) (A:Around):Prop where
 dp:A.depth + 3 * k + 5 < recursionLimit
 un:A.units + 16 * k + 200 < cLine
theorem jq.depth{k:Nat}{A:Around}(r:jq k A):A.depth < recursionLimit:=by have:=r.dp;omega
theorem jq.deeper{k:Nat}{A:Around}(r:jq (k + 1) A)(env:Env):jq k (A.deeper env) :=
 ⟨by have:=r.dp;show A.depth + 1 + 3 * k + 5 < _;omega,by have:=r.un;show A.units + 3 + 16 * k + 200 < _;omega⟩
variable{A:Around}
theorem dj.toH{k:Nat}{v:PB}(r:dj k A):jq k (A.mark v):=⟨r.dp,r.un⟩
def Cx.un(X:Cx):Cx:={ X with calm:=false }
theorem v7{CX:CXT}{P:Program}{w:World}{K:OE}{mg:OI}{base:Heap}{N ps:OD}{qual:Str}{scope:Scope}{f:Addr}{cd:Value}{A:Around}{outer:OZ}{s s1:Shared}{H:Hp}{E:XK}{us:OH}{vs:ON}
  (S:aE N ps scope) (e0:sT P w K mg base A outer s H) (hl:vs.length=ps.length) (r:aW vs us)
  (x:InCallC s s.heap.objs.size (bindL (envOfC qual scope s.heap.objs.size f cd).kindOf (ps.zip us) fun _=>none) (cellsFrom (s.heap.objs.size + 1) scope.names []) (bindC (envOfC qual scope s.heap.objs.size f cd).kindOf (ps.zip us) fun _=>none) s1) :
  Inv (jN CX P w K mg base N qual scope f cd A outer s H E).un [] (start N vs) H s1:=by
 have I:=qF (CX:=CX) (E:=E) (A:={ A with handled:=none }) S rfl ⟨e0.frames,e0.mod,e0.bs,e0.bsz,e0.funs,e0.frf,e0.hok,e0.bare⟩ hl r x
 exact⟨⟨I.ok.mod,I.ok.kind,I.ok.glob,I.ok.blt,I.ok.above,I.ok.inj,I.ok.has,I.ok.cab,fun z=>(by cases z),I.ok.frames,I.ok.stk,I.ok.exf,I.ok.bs,I.ok.bsz,I.ok.noex,I.ok.exfs,I.ok.funs,I.ok.frf⟩,I.os,I.bare,I.base,I.loc,I.cell,I.free,I.freeC,I.pin,I.hok,I.len⟩
structure ve (P:Program) (w:World) (K:OE) (mg:OI) (base:Heap) (CX:CXT) (k:Nat) (f:Addr) (fd:FuncData) (ps:OD) (sp:Sp):Prop where
 len:∀vs H Q E,sp vs H Q E->vs.length=ps.length
 run:∀(A:Around) (outer:OZ) (s:Shared) (H:Hp) (args:Args) (us:OH) (vs:ON) (Q:VK) (E:XK),jq k A->sT P w K mg base A outer s H->BindsTo s fd args (ps.zip us)->aW vs us->sp vs H Q E ->
  codeAny (model P w) A (.call (.ref f) args) (CR CX outer P w H s Q E) s
theorem Gk{CX:CXT}{P:Program}{w:World}{K:OE}{mg:OI}{base:Heap}{k:Nat}{f:Addr}{name qual:Str}{params:Arguments}{body:OV}{scope:Scope}{dV kV doc pm cdv ct oc:Value}{an od:Oy}
  {osl:PJ} {N ps:OD}{sp:Sp} (lk:K.lookup f=some ⟨oc,od,.func (PySem.W.fnOf name qual params body scope dV kV doc pm an cdv ct),osl⟩) (hcd:PySem.W.codeIn K cdv qual=true) (S:aE N ps scope)
  (len:∀vs H Q E,sp vs H Q E->vs.length=ps.length)
  (Mt:∀(A:Around) (outer:OZ) (s:Shared) (H:Hp) (vs:ON) (Q:VK) (E:XK),jq k (A.deeper (envOfC qual scope s.heap.objs.size f cdv))->sp vs H Q E ->
   ∃t,PSs (jN CX P w K mg base N qual scope f cdv A outer s H E).un body t/\t { nx:=fun _ H'=>Q .non H',rt:=Q } (start N vs) H) :
  ve P w K mg base CX (k + 1) f (PySem.W.fnOf name qual params body scope dV kV doc pm an cdv ct) ps sp:=by
 refine⟨len,fun A outer s H args us vs Q E hr e0 hb r hsp=>?_⟩
 have hl:=len _ _ _ _ hsp
 have KX:K.In s.heap:=e0.mod.kin.keeps fun b o e=>(e0.bs b o e).1
 have lim:s.heap.NoLimit:=e0.mod.nolimit.keeps fun b o e=>(e0.bs b o e).1
 have MY:∀y ∈ ps.zip us,scope.names.lookup y.1=some .local\/(scope.names.lookup y.1=some .cell/\((cellsFrom (s.heap.objs.size + 1) scope.names []).lookup y.1).isSome=true):=fun zz58_0 hy=>by
  obtain⟨n,v⟩:=zz58_0
  rcases S.par n (LQ hy).1 with q |q
  ·exact .inl q
  ·exact .inr ⟨q,LJ _ _ _ (.inl q)⟩
 refine codeAny_call_function hr.depth (KX _ _ lk) rfl S.co S.gen rfl (PySem.W.codeRec_of KX hcd) (hb _ _ _ _ ?_)
 refine wpAny_newFunctionEnv_cells S.kind MY fun env he s1 x=>?_
 subst he
 refine⟨lim.keeps x.toInCall.keep,codeAny_func ?_⟩
 obtain⟨t,ht,hq⟩:=Mt A outer s H vs Q E (hr.deeper _) hsp
 have I:Inv (jN CX P w K mg base N qual scope f cdv A outer s H E).un [] (start N vs) H s1:=v7 S e0 hl r x
 refine JM (ht [] s1 (start N vs) H _ I hq) (fun fl s' hs=>?_) fun e s' hs=>hs
 have fin:∀{σ':St}{H':Hp}{v:V}{u:Value},Inv (jN CX P w K mg base N qual scope f cdv A outer s H E).un [] σ' H' s'->bi v u->Q v H'->CE outer P w H s Q u s' :=
  fun {σ' H' v u} J rv q=>⟨v,H',J.os,J.bare,J.base,J.hok,rv,q⟩
 cases fl with
 |ret u =>
  obtain⟨v,σ',H',J,rv,q⟩:=hs
  exact fin J rv q
 |next =>
  obtain⟨σ',H',J,q⟩:=hs
  exact fin (v:=V.non) (u:=Value.none) J rfl q
 |brk =>
  obtain⟨_,_,_,q⟩:=hs
  exact False.elim q
 |cont =>
  obtain⟨_,_,_,q⟩:=hs
  exact False.elim q
def kJ(env:Env):List (Str×NameKind)->List (Str×Addr)->List (Str×Addr)
 | [],acc=>acc
 |p :: r,acc=>kJ env r (if p.2=NameKind.free then(p.1,(env.cells.lookup p.1).getD 0) :: acc else acc)
theorem pe{env:Env}(body:Str×NameKind->List (Str×Addr)->Sem (ForInStep (List (Str×Addr))))
  (hb:∀x cs,(x.2=NameKind.free->(env.cells.lookup x.1).isSome=true)->body x cs=pure (ForInStep.yield (if x.2=NameKind.free then(x.1,(env.cells.lookup x.1).getD 0) :: cs else cs))) :
  ∀(l:O5) (acc:PR),(∀x ∈ l,x.2=NameKind.free->(env.cells.lookup x.1).isSome=true)->(forIn l acc body:Sem (List (Str×Addr)))=pure (kJ env l acc)
 | [],acc,_=>by rw[List.forIn_nil];rfl
 |x :: l,acc,h=>by
  rw[List.forIn_cons,hb x acc (h x Jq),pure_bind]
  exact pe body hb l _ fun y hy=>h y (Jt _ hy)
theorem xI{scope:Scope}{env:Env}(h:∀x ∈ scope.names,x.2=NameKind.free->(env.cells.lookup x.1).isSome=true):closureFor scope env=pure (kJ env scope.names []):=by
 simp only[closureFor]
 rw[pe (env:=env) _ ?_ scope.names [] h]
 ·rfl
 ·intro x cs hx
  obtain⟨n,k⟩:=x
  by_cases hk:k=NameKind.free
  ·subst hk
   obtain⟨c,hc⟩:=Option.isSome_iff_exists.mp (hx rfl)
   have hc':env.cells.lookup n=some c:=hc
   simp[cellOf,hc']
  ·have e:(k == NameKind.free)=false:=by simpa using hk
   simp[e,hk]
theorem pf{env:Env}:∀(l:O5) (acc:PR) (x:Str) (c:Addr),(∀y ∈ l,y.2=NameKind.free->(env.cells.lookup y.1).isSome=true) ->
  (kJ env l acc).lookup x=some c->acc.lookup x=some c\/env.cells.lookup x=some c
 | [],acc,x,c,_,h=>.inl h
 |p :: l,acc,x,c,hs,h=>by
  rcases pf l _ x c (fun y hy=>hs y (Jt _ hy)) h with q |q
  ·by_cases hk:p.2=NameKind.free
   ·rw[if_pos hk,JP]at q
    cases hx:x == p.1 with
    |false=>rw[hx]at q;exact .inl q
    |true =>
     rw[hx]at q
     have ex:x=p.1:=by simpa using hx
     obtain⟨c',hc⟩:=Option.isSome_iff_exists.mp (hs p Jq hk)
     rw[hc]at q
     right
     rw[ex,hc]
     exact q
   ·rw[if_neg hk]at q;exact .inl q
  ·exact .inr q
theorem ph{env:Env}:∀(l:O5) (acc:PR) (x:Str),(acc.lookup x).isSome=true->((kJ env l acc).lookup x).isSome=true
 | [],acc,x,h=>h
 |p :: l,acc,x,h=>by
  refine ph l _ x ?_
  by_cases hk:p.2=NameKind.free
  ·rw[if_pos hk,JP]
   cases x == p.1
   ·exact h
   ·rfl
  ·rw[if_neg hk];exact h
theorem lf{env:Env}:∀(l:O5) (acc:PR) (x:Str),(x,NameKind.free) ∈ l->((kJ env l acc).lookup x).isSome=true
 |p :: l,acc,x,h=>by
  rcases List.mem_cons.mp h with e |h
  ·refine ph l _ x ?_
   subst e
   simp[JP]
  ·exact lf l _ x h
theorem fG{env:Env}{x:Str}:∀{l:O5},(l.map fun(p:Str×NameKind)=>match p with | (n,k)=>if(k == NameKind.free && env.scope.kind == .function && env.kindOf n == some .cell)=true then(n,NameKind.cell) else(n,k)).lookup x=some NameKind.local->l.lookup x=some NameKind.local
 | [],h=>by simp at h
 | (n,k) :: r,h=>by
  rw[Ji,JP]at h
  rw[JP]
  by_cases hc:(k == NameKind.free && env.scope.kind == .function && env.kindOf n == some .cell)=true
  ·simp only[hc,if_true]at h
   cases hx:x == n with
   |true=>rw[hx]at h;simp at h
   |false=>rw[hx]at h;exact fG h
  ·simp only[hc,J9,L0]at h
   cases hx:x == n with
   |true=>rw[hx]at h;simpa using h
   |false=>rw[hx]at h;exact fG (by simpa using h)
theorem fF {env:Env}{x:Str}:∀ {l:O5},(∀ y ∈ l,y.2 ≠ NameKind.cell) →
    ((l.map fun(p:Str×NameKind)=>match p with | (n,k)=>if(k == NameKind.free && env.scope.kind == .function && env.kindOf n == some .cell)=true then(n,NameKind.cell) else(n,k)).lookup x=some NameKind.cell \/
     (l.map fun(p:Str×NameKind)=>match p with | (n,k)=>if(k == NameKind.free && env.scope.kind == .function && env.kindOf n == some .cell)=true then(n,NameKind.cell) else(n,k)).lookup x=some NameKind.free)->(x,NameKind.free) ∈ l
  | [],_,h=>by simp at h
  | (n,k) :: r,hn,h=>by
    rw[Ji,JP]at h
    by_cases hc:(k == NameKind.free && env.scope.kind == .function && env.kindOf n == some .cell)=true
    · simp only[hc,if_true]at h
      have hk:k=NameKind.free:=by
        have:=(Bool.and_eq_true_iff.mp (Bool.and_eq_true_iff.mp hc).1).1
        simpa using this
      cases hx:x == n with
      |true =>
        have ex:x=n:=by simpa using hx
        rw[ex,hk];exact Jq
      |false=>rw[hx]at h;exact Jt _ (fF (fun y hy=>hn y (Jt _ hy)) h)
    · simp only[hc,J9,L0]at h
      cases hx:x == n with
      |true =>
        have ex:x=n:=by simpa using hx
        rw[hx]at h
        have h':k=NameKind.cell\/k=NameKind.free:=by simpa using h
        rcases h' with e |e
        · exact absurd e (hn (n,k) Jq)
        · rw[ex,e];exact Jq
      |false=>rw[hx]at h;exact Jt _ (fF (fun y hy=>hn y (Jt _ hy)) (by simpa using h))
def maskS(js:OJ)(σ:St):St:=js.foldl (fun a j=>a.set j none) σ
theorem yI(js:OJ):∀σ:St,(maskS js σ).length=σ.length:=by
 induction js with
 |nil=>intro σ;rfl
 |cons j r ih=>intro σ;show(maskS r (σ.set j none)).length=_;rw[ih,Ke]
theorem yJ(js:OJ):∀(σ:St) (i:Nat) (v:V),(maskS js σ)[i]? = some (some v)->σ[i]? = some (some v)/\i ∉ js:=by
 induction js with
 |nil=>intro σ i v h;exact⟨h,by simp⟩
 |cons j r ih =>
  intro σ i v h
  obtain⟨h1,h2⟩:=ih (σ.set j none) i v h
  have nij:i ≠ j:=by
   rintro rfl
   rw[JK]at h1
   split at h1
   ·split at h1 <;> simp at h1
   ·contradiction
  rw[JC (Ne.symm nij)]at h1
  exact⟨h1,by simp[nij,h2]⟩
structure Blk (X:Cx) (scope:Scope) (js:OJ):Prop where
 kind:scope.kind=.function
 nocell:∀y ∈ scope.names,y.2 ≠ NameKind.cell
 names:∀y ∈ scope.names,y.2=NameKind.local->scope.names.lookup y.1=some .local
 free:∀y ∈ scope.names,y.2=NameKind.free->X.env.kindOf y.1=some .cell\/X.env.kindOf y.1=some .free
 own:∀(i:Nat) x,X.N[i]? = some x->scope.names.lookup x=some .local->i ∈ js
def cS(X:Cx)(scope:Scope)(C:Addr)(fp:OT)(s₂:Shared)(H₂:Hp):Cx :=
 { X with s₀:=s₂,H₀:=H₂,env:=compEnvC scope (kJ X.env scope.names []) C X.env,outer:=X.stack,ex:=fp,fn:=fun _=>false,pn:=[],xe:=fun _ _=>False }
section
variable {X:Cx}{scope:Scope}{js:OJ}{Ml:OC} {σ:St}{H:Hp}{s:Shared}
theorem Blk.has(b:Blk X scope js)(ok:X.Ok):∀y ∈ scope.names,y.2=NameKind.free->(X.env.cells.lookup y.1).isSome=true:=fun y hy hk=>by
 obtain⟨c,e⟩:=ok.has y.1 (b.free y hy hk)
 rw[e];rfl
theorem Blk.cell(b:Blk X scope js)(ok:X.Ok){x:Str}{c:Addr}(h:(kJ X.env scope.names []).lookup x=some c):X.env.cells.lookup x=some c:=by
 rcases pf scope.names [] x c (b.has ok) h with q |q
 ·simp at q
 ·exact q
theorem Blk.start(b:Blk X scope js)(I:Inv X Ml σ H s){fp:OT}(hf:∀a ∈ fp,kx X Ml H a){h₁:Heap}{tk:Nat}(hn:h₁.Ns s.heap.objs.size fun _=>none)
  (hk:∀a o,s.heap.get? a=some o->h₁.get? a=some o) (hfs:∀a ∈ fp,a < s.heap.objs.size):Inv (cS X scope s.heap.objs.size fp s H) [] (maskS js σ) H { s with heap:=h₁,toks:=tk }:=by
 have ok:=I.ok
 have hC:H s.heap.objs.size=none:=I.hok.fresh (Jw _)
 refine⟨⟨ok.mod,b.kind,ok.glob,ok.blt,Jw _,fun x y c h1 h2=>ok.inj x y c (b.cell ok h1) (b.cell ok h2),fun x hx=>?_,fun x c hx _=>Bool.noConfusion hx,ok.hd,ok.frames,.inl rfl,fun a ha=>⟨JI (hfs a ha),fun x c h=>(hf a ha).2.2.2.2.1 x c (b.cell ok h)⟩,
  I.bs,Jy ok.bsz I.sz,fun a o e ha=>?_,fun a ha hx=>?_,I.stack,I.stkFree⟩,rfl,I.bare,Un.kept hk,⟨_,hn,fun i x v h1 h2 h3=>?_⟩,fun x c h=>?_,hC,fun x c h=>I.freeC x c (b.cell ok h),fun p hp=>absurd hp (by simp[cS]),I.hok.kept hk,?_⟩
 ·exact Option.isSome_iff_exists.mp (lf scope.names [] x (fF b.nocell hx))
 ·rcases(hf a ha).2.2.2.1 with q |q
  ·exact ok.noex a o e q
  ·exact absurd (JL (Ju e) (Jy ok.bsz q)) (KI _)
 ·rcases List.mem_cons.mp (I.stkSub a hx) with q |q
  ·exact(hf a ha).2.1 q
  ·exact(hf a ha).2.2.1 q
 ·obtain⟨h2,h4⟩:=yJ js σ i v h2
  have hfr:(x,NameKind.free) ∈ scope.names:=by
   rcases h3 with q |q
   ·exact absurd (b.own i x h1 (fG q)) h4
   ·exact fF b.nocell q
  obtain⟨c,hc⟩:=Option.isSome_iff_exists.mp (lf (env:=X.env) scope.names [] x hfr)
  have hc':=b.cell ok hc
  have hv:=b.free _ hfr rfl
  obtain⟨m,_,hl⟩:=I.loc
  obtain⟨u,r,lk⟩:=hl i x v h1 h2 (.inr hv)
  refine⟨u,r,.inr ⟨?_,c,hc,?_⟩⟩
  ·rcases h3 with q |q
   ·exact absurd (b.own i x h1 (fG q)) h4
   ·exact q
  ·rcases lk with⟨z,_⟩ |⟨_,c2,e2,o,ho,hd⟩
   ·have hv':X.env.kindOf x=some .cell\/X.env.kindOf x=some .free:=hv
    rw[z]at hv'
    rcases hv' with q |q <;> cases q
   ·rw[hc']at e2
    cases e2
    exact⟨o,hk _ _ ho,hd⟩
 ·obtain⟨v,o,ho,hd⟩:=I.cell x c (b.cell ok h)
  exact⟨v,o,hk _ _ ho,hd⟩
 ·rw[yI];exact I.len
theorem Blk.back(I:Inv X Ml σ H s){fp:OT}(hf:∀a ∈ fp,kx X Ml H a){σ':St}{H':Hp}{s':Shared}(J:Inv (cS X scope s.heap.objs.size fp s H) [] σ' H' s'){h':Heap}
  (hs:Heap.SameBut s.heap.objs.size s'.heap h'):Inv X Ml σ H' { s' with heap:=h' }:=by
 have hC:H' s.heap.objs.size=none:=J.free
 refine I.call' (ch:=fp) J.os ?_ ?_ J.bare fun a ha=>⟨(hf a ha).2.2.2.1,(hf a ha).2.1,(hf a ha).2.2.2.2.1,(hf a ha).2.2.2.2.2⟩
 ·have u:Un (frs X.stack) fp H H' s.heap s'.heap:=J.base
  have ne:∀a o,s.heap.get? a=some o->a ≠ s.heap.objs.size:=fun a o e=>JI (Ju e)
  exact⟨fun a o e n h1 h2=>hs.extBut a _ (ne a o e) (u.keep a o e n h1 h2),fun a o e n h1 h2=>(let ⟨sl,q⟩:=u.slot a o e n h1 h2; ⟨sl,hs.extBut a _ (ne a o e) q⟩),u.free,fun a o e h=>(let ⟨o',q⟩:=u.there a o e h; ⟨o',hs.extBut a _ (ne a o e) q⟩),u.tups,u.frzs,u.tbls⟩
 ·intro a o e
  refine(J.hok a o e).stay (fun b u hb q=>hs.extBut b u ?_ q) (fun _ q=>q) fun _ _ q=>q
  rintro rfl
  rcases hb with q |q
  ·rw[q,e]at hC;cases hC
  ·rw[q]at hC;cases hC
end
def zO(js:OJ)(wi:TI)(g:TG)(tc:TT)(te:TE):TE:=fun σ H Q=>wi σ H fun J H1=>∀D,H1 D=none ->
 ∃W:Nat->Nat->St->Hp->Prop,(∃m,W 0 m (maskS js σ) (upd H1 D (.lst [])))/\∀i m σ' H',W i m σ' H' ->
  (J.stop i H'/\Q (.ref D) H')\/(J.go i H'/\∀x H2,J.yld i H' x H2->g x σ' H2 fun σ3 H3=>tc σ3 H3 fun c H4 =>
   if c=true then te σ3 H4 fun v H5=>∃vs,H5 D=some (.lst vs)/\vs.length < sizeLine/\∃m',m' < m/\W (i + 1) m' σ3 (upd H5 D (.lst (vs ++ [v]))) else ∃m',m' < m/\W (i + 1) m' σ3 H4)
def zv(X:Cx)(ifs:OP)(tc:TT):Prop :=
 ∀(Ml:OC) (s:Shared) (σ:St) (H:Hp) (Q:PF),Inv X Ml σ H s->tc σ H Q ->
  wpAny (model X.prog X.w) X.A (forIn ifs true fun c r=>if r=true then do let ok <-isTrue c X.env (eval c X.env);pure (ForInStep.yield ok) else pure (ForInStep.yield r)) (TP X Ml σ Q) X.xe s
def Ed:TT:=fun _ H Q=>Q true H
theorem Ax{X:Cx}:zv X [] Ed:=fun _ _ _ H _ I h=>wpAny_tests_nil ⟨H,I,h⟩
theorem Aw{X:Cx}{c:Expr}{tc:TT}(h:PT X c tc):zv X [c] tc:=fun Ml s σ H Q I q=>wpAny_tests_one (h Ml s σ H Q I q)
theorem sG{prog:Program}{w:World}{A:Around}{R:Result->Shared->Prop}{s:Shared}{elt tg Mo:Expr}{ifs:OP}{scope:Scope}{pos:Pos}{it acc:Value}{env:Env}(Iv:Nat->Shared->Prop)
  (turn:∀n s,Iv n s->wpAny (model prog w) A (pyNext it) (fun r s1=>match r with
   |none=>R (.ok .next) s1
   |some v=>wpAny (model prog w) A (letOwnedTupleGo tg it v) (fun _ s2=>wpAny (model prog w) A (assign tg env v) (fun _ s3 =>
     wpAny (model prog w) A (forIn ifs true fun c r=>if r=true then do let ok <-isTrue c env (eval c env);pure (ForInStep.yield ok) else pure (ForInStep.yield r)) (fun ok s4 =>
      if ok=true then wpAny (model prog w) A (eval elt env) (fun x s5=>wpAny (model prog w) A (call (.builtin "list.append") [acc,x]) (fun _ s6=>∃m,m < n/\Iv m s6) (fun _ _=>False) s5) (fun _ _=>False) s4
      else ∃m,m < n/\Iv m s4) (fun _ _=>False) s3) (fun _ _=>False) s2) (fun _ _=>False) s1) (fun _ _=>False) s)
  (n:Nat) (h:Iv n s):codeAny (model prog w) A (.compLoop (.ListComp elt [⟨tg,Mo,ifs,0⟩] scope pos) 0 it acc env) R s:=by
 refine codeAny_loop rfl Iv (fun k t hI=>?_) n h
 show wpAny _ A ((compTurn (.ListComp elt [⟨tg,Mo,ifs,0⟩] scope pos) 0 it acc env).onRaise _) _ _ t
 refine wpAny_noted ?_
 rw[compTurn_list]
 have no:∀{E:OA} (e:Value) (z:Shared),(fun(_:Value) (_:Shared)=>False) e z->E e z:=fun _ _ f=>f.elim
 refine Jn (KN (Jn (JM (turn k t hI) (fun r s1 q1=>?_) no)))
 cases r with
 |none=>exact Jv q1
 |some v =>
  refine Jn (JM q1 (fun _ s2 q2=>?_) no)
  refine Jn (JM q2 (fun _ s3 q3=>?_) no)
  refine Jn (JM q3 (fun ok s4 q4=>?_) no)
  cases ok with
  |false=>exact Jv ⟨rfl,by simpa using q4⟩
  |true =>
   have q4':=q4
   simp only[if_true]at q4'
   refine Jn (Jn (JM q4' (fun x s5 q5=>?_) no))
   exact Jn (JM q5 (fun _ s6 q6=>Jv (Jv ⟨rfl,q6⟩)) no)
section
variable {X:Cx}{scope:Scope}{js:OJ}{elt tg Mo:Expr}{ifs:OP}{pos:Pos}{wi:TI}{g:TG}{tc:TT}{te:TE}
theorem xK(b:Blk X scope js)(hc:X.calm=true){Ml:OC}{σ:St}{H2:Hp}{s2:Shared}{Q:VK}{it:Addr}{fp:OT}{tn:Nat->Heap->Prop}{J:It}
  (I2:Inv X Ml σ H2 s2) (T:vc X.prog X.w X.K tg J fp it tn) (st:tn 0 s2.heap) (hf:∀a ∈ fp,kx X Ml H2 a)
  (hg:∀C fp s0 H0,PG (cS X scope C fp s0 H0) tg g) (hi:∀C fp s0 H0,zv (cS X scope C fp s0 H0) ifs tc) (he:∀C fp s0 H0,PE (cS X scope C fp s0 H0) elt te)
  (hq:∀D,H2 D=none->∃W:Nat->Nat->St->Hp->Prop,(∃m,W 0 m (maskS js σ) (upd H2 D (.lst [])))/\∀i m σ' H',W i m σ' H' ->
   (J.stop i H'/\Q (.ref D) H')\/(J.go i H'/\∀x H3,J.yld i H' x H3->g x σ' H3 fun σ3 H3=>tc σ3 H3 fun c H4 =>
    if c=true then te σ3 H4 fun v H5=>∃vs,H5 D=some (.lst vs)/\vs.length < sizeLine/\∃m',m' < m/\W (i + 1) m' σ3 (upd H5 D (.lst (vs ++ [v]))) else ∃m',m' < m/\W (i + 1) m' σ3 H4))
  {E:OA}{RR:Value->Addr->Result->Shared->Prop}
  (hR:∀(D C:Addr) (s3:Shared) (H3:Hp) (σ':St) (H':Hp) (s':Shared),C=s3.heap.objs.size->Inv X Ml σ H3 s3->(∀a ∈ fp,kx X Ml H3 a)->Inv (cS X scope C fp s3 H3) [] σ' H' s'->Q (.ref D) H'->RR (.ref D) C (.ok .next) s') :
  wpAny (model X.prog X.w) X.A (newList []) (fun acc s3=>wpAny (model X.prog X.w) X.A (newFunctionEnv scope X.env.globals (kJ X.env scope.names []) [] X.env.qual none .none (some X.env)) (fun cenv s4 =>
   codeAny (model X.prog X.w) X.A (.compStart (.ListComp elt [⟨tg,Mo,ifs,0⟩] scope pos) 0 (.ref it) acc { cenv with scope:=relabel scope X.env }) (RR acc cenv.locals) s4) E s3) E s2:=by
 refine Km ?_
 have hD:H2 s2.heap.objs.size=none:=I2.hok.fresh (Jw _)
 have I3:=I2.lnew (ys:=[]) (its:=[]) (t':=s2.toks) .nil (Ks _)
 obtain⟨W,⟨m0,w0⟩,turn⟩:=hq _ hD
 have fpLt:∀a ∈ fp,a < s2.heap.objs.size:=fun a ha=>by
  obtain⟨o,e,_⟩:=T.obj _ _ st a ha
  exact Ju e
 generalize hs3:({ s2 with heap:=s2.heap.push { cls:=.type "list",dict:=none,data:=.seq ([]:OH).toArray } }:Shared)=s3
 have I3':Inv X Ml σ (upd H2 s2.heap.objs.size (.lst [])) s3:=by rw[<-hs3];exact I3
 have st3:tn 0 s3.heap:=T.keep _ _ _ st fun a _ o e=>by rw[<-hs3];exact Jp _ e
 have sz3:s3.heap.objs.size=s2.heap.objs.size + 1:=by rw[<-hs3];exact KP ..
 have hf3:∀a ∈ fp,kx X Ml (upd H2 s2.heap.objs.size (.lst [])) a:=fun a ha=>⟨by rw[ap (JI (fpLt a ha))];exact(hf a ha).1,(hf a ha).2⟩
 refine wpAny_newFunctionEnv b.nocell (by intro y hy;simp at hy) (fun h₁ hns hsb=>?_) b.kind
 have keep:∀a o,s3.heap.get? a=some o->h₁.get? a=some o:=fun a o e=>hsb.extBut a o (JI (Ju e)) (Jp _ e)
 have J0:=b.start I3' hf3 (tk:=s3.toks + ([]:Ox).length) (by simpa using hns) keep fun a ha=>by rw[sz3];exact Lr (fpLt a ha)
 have st4:tn 0 h₁:=T.keep _ _ _ st3 fun a _ o e=>keep a o e
 have loop:∀s4:Shared,s4={ s3 with heap:=h₁,toks:=s3.toks + ([]:Ox).length }->codeAny (model X.prog X.w) X.A (.compLoop (.ListComp elt [⟨tg,Mo,ifs,0⟩] scope pos) 0 (.ref it) (.ref s2.heap.objs.size) (compEnvC scope (kJ X.env scope.names []) s3.heap.objs.size X.env))
   (RR (.ref s2.heap.objs.size) s3.heap.objs.size) s4:=by
  rintro s4 rfl
  refine sG (fun n t=>∃i σ' H',Inv (cS X scope s3.heap.objs.size fp s3 (upd H2 s2.heap.objs.size (.lst []))) [] σ' H' t/\tn i t.heap/\(∀a ∈ fp,H' a=none)/\W i n σ' H') ?_ m0 ⟨0,_,_,J0,st4,fun a ha=>(hf3 a ha).1,w0⟩
  rintro n t ⟨i,σ',H',J1,st',fr,w'⟩
  have stat:∀{H':Hp},(∀a ∈ fp,H' a=none)->∀a ∈ fp,kx (cS X scope s3.heap.objs.size fp s3 (upd H2 s2.heap.objs.size (.lst []))) [] H' a:=fun hn a ha =>
   ⟨hn a ha,JI (by rw[sz3];exact Lr (fpLt a ha)),fun hx=>(by
    rcases List.mem_cons.mp (I2.stkSub a hx) with q |q
    ·exact(hf a ha).2.1 q
    ·exact(hf a ha).2.2.1 q),.inl ha,fun x c h=>(hf a ha).2.2.2.2.1 x c (b.cell I2.ok h),fun p hp=>absurd hp (by simp[cS])⟩
  rcases turn i n σ' H' w' with⟨stop,qn⟩ |⟨go,step⟩
  ·refine thn (T.done (cS X scope s3.heap.objs.size fp s3 (upd H2 s2.heap.objs.size (.lst []))) rfl rfl rfl hc i [] t σ' H' _ J1 (stat fr) st' stop) fun r t1 zz59_0=>?_
   obtain⟨hr,J2⟩:=zz59_0
   subst hr
   exact hR _ _ s3 _ σ' H' t1 rfl I3' hf3 J2 qn
  ·refine thn (T.item (cS X scope s3.heap.objs.size fp s3 (upd H2 s2.heap.objs.size (.lst []))) rfl rfl rfl hc i [] t σ' H' _ J1 (stat fr) st' go) fun r t1 zz60_0=>?_
   obtain⟨u,hr,q1⟩:=zz60_0
   subst hr
   refine thn q1 fun _ t2 zz61_0=>?_
   obtain⟨x,H3,J3,r3,y3,st3',fr3⟩:=zz61_0
   have J3':=J3.pinned (stat fr3) (T.obj _ _ st3')
   have again:∀{σ7:St}{H7:Hp}{t7:Shared},Inv (cS X scope s3.heap.objs.size fp s3 (upd H2 s2.heap.objs.size (.lst []))) ([] ++ mF fp t2.heap) σ7 H7 t7->(∃m',m' < n/\W (i + 1) m' σ7 H7) ->
     ∃m,m < n/\∃i σ' H',Inv (cS X scope s3.heap.objs.size fp s3 (upd H2 s2.heap.objs.size (.lst []))) [] σ' H' t7/\tn i t7.heap/\(∀a ∈ fp,H' a=none)/\W i m σ' H':=fun {σ7 H7 t7} J7 w7=>by
    obtain⟨m',hm,w7⟩:=w7
    refine⟨m',hm,i + 1,σ7,H7,J7.unpinned,T.keep _ _ _ st3' fun a ha o e=>(J7.pin (a,o) (JB _ (JB _ (fu ha e)))).1,fun a ha=>?_,w7⟩
    obtain⟨o,e,_⟩:=T.obj _ _ st3' a ha
    exact(J7.pin (a,o) (JB _ (JB _ (fu ha e)))).2.1
   refine thn (hg _ _ _ _ _ t2 σ' H3 x u _ J3' r3 (step x H3 y3)) fun _ t3 zz62_0=>?_
   obtain⟨σ4,H4,J4,q4⟩:=zz62_0
   refine thn (hi _ _ _ _ _ t3 σ4 H4 _ J4 q4) fun ok t4 zz63_0=>?_
   obtain⟨H5,J5,q5⟩:=zz63_0
   cases ok with
   |false=>exact again J5 (by simpa using q5)
   |true =>
    simp only[if_true]at q5 ⊢
    refine thn (he _ _ _ _ _ t4 σ4 H5 _ J5 q5) fun y t5 zz64_0=>?_
    obtain⟨v,H6,J6,r6,vs,hl,hz,q6⟩:=zz64_0
    refine thn (qy _ t5 σ4 H6 (.ref s2.heap.objs.size) [v] (.ref s2.heap.objs.size) [y] (fun _ H7=>∃m',m' < n/\W (i + 1) m' σ4 H7) J6 rfl (.cons r6 .nil) ⟨_,vs,v,rfl,rfl,hl,hz,q6⟩) fun _ t6 zz65_0=>?_
    obtain⟨_,H7,J7,_,q7⟩:=zz65_0
    exact again J7 q7
 refine codeAny_compStart_list (loop _ rfl) (T.self _ 0 _ _ _ st4 (loop _ rfl))
theorem Da(b:Blk X scope js)(hc:X.calm=true)(hI:PI X tg Mo wi)
  (hg:∀C fp s0 H0,PG (cS X scope C fp s0 H0) tg g) (hi:∀C fp s0 H0,zv (cS X scope C fp s0 H0) ifs tc) (he:∀C fp s0 H0,PE (cS X scope C fp s0 H0) elt te)
  (hs:∀x,foldedSetIterable Mo X.env x=pure x:=by intro _;rfl):PE X (.ListComp elt [⟨tg,Mo,ifs,0⟩] scope pos) (zO js wi g tc te):=by
 intro Ml s σ H Q I h
 rw[eval_ListComp]
 refine wpAny_comprehension_free (use:=none) rfl hs (xI (b.has I.ok)) b.kind b.names (thn (hI Ml s σ H _ I h) fun v s1 q1=>thn q1 fun itv s2 q2=>?_)
 obtain⟨it,fp,tn,J,H2,rfl,I2,T,st,hf,hq⟩:=q2
 refine xK b hc I2 T st hf hg hi he hq fun D C s3 H3 σ' H' s' hC I3 hf3 J3 q3=>?_
 subst hC
 obtain⟨m,hn,_⟩:=J3.loc
 exact⟨m,hn,fun h' hs'=>⟨.ref D,H',Blk.back I3 hf3 J3 hs',rfl,q3⟩⟩
theorem C2{x:Str}{px:Pos}{spos:Pos}(hN:X.N.Nodup)(hix:X.N[i]? = some x)(hx:Loc X.env.scope x)(b:Blk X scope js)(hc:X.calm=true)(hI:PI X tg Mo wi)
  (hg:∀C fp s0 H0,PG (cS X scope C fp s0 H0) tg g) (hi:∀C fp s0 H0,zv (cS X scope C fp s0 H0) ifs tc) (he:∀C fp s0 H0,PE (cS X scope C fp s0 H0) elt te)
  (hsw:swapsWith (.ListComp elt [⟨tg,Mo,ifs,0⟩] scope pos) (some (.Name x px)) spos.line X.env=pure true)
  (hfn:X.fn x=true\/X.env.scope.names.lookup x=some .local:=by first |exact .inl rfl |exact .inr rfl |assumption) (hs:∀x,foldedSetIterable Mo X.env x=pure x:=by intro _;rfl) :
  PS X (.Assign [.Name x px] (.ListComp elt [⟨tg,Mo,ifs,0⟩] scope pos) spos) (zQ (zO js wi g tc te) (qJ i)):=by
 intro Ml s σ H D I h
 rw[exec_Assign_Name_used _ _ _ _ hsw]
 refine Jn (KN (Jn ?_))
 show wpAny _ _ (do let _ <-comprehension (.ListComp elt [⟨tg,Mo,ifs,0⟩] scope pos) scope X.env _ (newList []) false (eval Mo X.env) (some (assign (.Name x px) X.env))) _ _ s
 refine Jn (JM (wpAny_comprehension_free (use:=some (assign (.Name x px) X.env)) (Q:=fun _ s'=>SP X Ml D .next s') rfl hs (xI (b.has I.ok)) b.kind b.names
  (thn (hI Ml s σ H _ I h) fun v s1 q1=>thn q1 fun itv s2 q2=>?_)) (fun _ s' q=>Jv (Jv q)) fun _ _ e=>e)
 obtain⟨it,fp,tn,J,H2,rfl,I2,T,st,hf,hq⟩:=q2
 refine xK (Q:=fun y H1=>qJ i y σ H1 D.nx) b hc I2 T st hf hg hi he hq fun A C s3 H3 σ' H' s' hC I3 hf3 J3 q3=>?_
 subst hC
 obtain⟨m,hn,_⟩:=J3.loc
 obtain⟨oC,es,ep,hoC,hdC,hrC⟩:=id hn
 have hJf:H' s3.heap.objs.size=none:=J3.free
 have I4:Inv X Ml σ H' s':=Blk.back I3 hf3 J3 (Heap.SameBut.refl _ _)
 have neL:s3.heap.objs.size ≠ X.env.locals:=LN I3.lt
 have nfs:s3.heap.objs.size ∉ X.fs:=I3.nofs (Jw _)
 have ncell:∀y c,X.env.cells.lookup y=some c->c ≠ s3.heap.objs.size:=fun y c e z=>by
  obtain⟨v,o,ho,_⟩:=I3.cell y c e
  rw[z]at ho
  exact absurd (Ju ho) (KI _)
 have npin:∀p ∈ X.pn ++ Ml,p.1 ≠ s3.heap.objs.size:=fun p hp z=>by
  have ho:=(I3.pin p hp).1
  rw[z]at ho
  exact absurd (Ju ho) (KI _)
 have I5:Inv X (Ml ++ [(s3.heap.objs.size,oC)]) σ H' s':=I4.pins_of fun p hp=>(List.mem_append.mp hp).elim (fun z=>I4.pin p (JB _ z)) fun z=>by
  have e:p=(s3.heap.objs.size,oC):=by simpa using z
  subst e
  exact⟨hoC,hJf,neL,nfs,fun v z=>by rw[hdC]at z;cases z⟩
 show wpAny _ _ (assign (.Name x px) X.env (.ref A)) _ _ s'
 refine wpAny_assign_Name (gE (i:=i) (v:=.ref A) I5 hN hix hx rfl (fun s5 I6=>?_) hfn)
 obtain⟨p1,p2,_⟩:=I6.pin (s3.heap.objs.size,oC) (JB _ (JB _ (by simp)))
 refine⟨m,⟨oC,es,ep,p1,hdC,hrC⟩,fun h' hs'=>?_⟩
 have I7:Inv X Ml (σ.set i (some (.ref A))) H' { s5 with heap:=h',toks:=s5.toks }:=Inv.turned (it:=s3.heap.objs.size) I6.unpinned (fun a o ha e=>hs'.extBut a o ha e) p2 neL (.inr (Jy I3.sz (Jw _))) ncell npin
 exact⟨_,H',I7,q3⟩
end
end L2
namespace L2.Cu
open PySem PySem.Spec PyProof.Rows
inductive D where
 |non |bl (b:Bool) |int (i:Int) |str (x:Str) |tup (xs:List D) |lst (xs:List D) |dic (kvs:List (Key×D)) |scr (ns:Ow)
mutual
inductive Rep (F:Hp):V->D->Prop
 |non:Rep F .non .non
 |bl (b:Bool):Rep F (.bl b) (.bl b)
 |int (i:Int):Rep F (.int i) (.int i)
 |str (x:Str):Rep F (.str x) (.str x)
 |tup {a:Addr}{vs:ON}{ds:List D}:F a=some (.tup vs)->Reps F vs ds->Rep F (.ref a) (.tup ds)
 |lst {a:Addr}{vs:ON}{ds:List D}:F a=some (.lst vs)->Reps F vs ds->Rep F (.ref a) (.lst ds)
 |dic {a:Addr}{ob:Obj}{vs:OY} {ds:List (Key×D)}:F a=some (.frz ob (.dK vs))->RepK F vs ds->Rep F (.ref a) (.dic ds)
 |scr {a:Addr}{o:Obj}{ns:Ow}:F a=some (.frz o (.lst (ns.map V.int)))->Rep F (.ref a) (.scr ns)
inductive Reps (F:Hp):List V->List D->Prop
 |nil:Reps F [] []
 |cons {v:V}{d:D}{vs:ON}{ds:List D}:Rep F v d->Reps F vs ds->Reps F (v :: vs) (d :: ds)
inductive RepK (F:Hp):List (Key×V)->List (Key×D)->Prop
 |nil:RepK F [] []
 |cons {k:Key}{v:V}{d:D}{vs:OY} {ds:List (Key×D)}:Rep F v d->RepK F vs ds->RepK F ((k,v) :: vs) ((k,d) :: ds)
end
section
variable {F F':Hp}
mutual
theorem Rep.mono(h:∀a o,F a=some o->F' a=some o):∀{v:V}{d:D},Rep F v d->Rep F' v d
 := fun r=>by
  cases r with
  |non=>exact .non
  |bl b=>exact .bl b
  |int i=>exact .int i
  |str x=>exact .str x
  |tup e r=>exact .tup (h _ _ e) (Reps.mono h r)
  |lst e r=>exact .lst (h _ _ e) (Reps.mono h r)
  |dic e r=>exact .dic (h _ _ e) (RepK.mono h r)
  |scr e=>exact .scr (h _ _ e)
theorem Reps.mono(h:∀a o,F a=some o->F' a=some o):∀{vs:ON}{ds:List D},Reps F vs ds->Reps F' vs ds:=fun r=>by
 cases r with
 |nil=>exact .nil
 |cons r t=>exact .cons (Rep.mono h r) (Reps.mono h t)
theorem RepK.mono(h:∀a o,F a=some o->F' a=some o):∀{vs:OY} {ds:List (Key×D)},RepK F vs ds->RepK F' vs ds
 := fun r=>by
  cases r with
  |nil=>exact .nil
  |cons r t=>exact .cons (Rep.mono h r) (RepK.mono h t)
end
abbrev OK:=List D
theorem Reps.c1{vs:ON}{d:D}{ds:OK}(r:Reps F vs (d :: ds)):∃v ws,vs=v :: ws/\Rep F v d/\Reps F ws ds:=by
 cases r with
 |cons a b=>exact⟨_,_,rfl,a,b⟩
theorem Reps.c0{vs:ON}(r:Reps F vs []):vs=[]:=by
 cases r
 rfl
theorem Reps.length:∀{vs:ON}{ds:OK},Reps F vs ds->vs.length=ds.length:=fun r=>by
 cases r with
 |nil=>rfl
 |cons _ t=>exact JR Nat.succ (Reps.length t)
theorem Reps.append:∀{vs ws:ON}{ds es:OK},Reps F vs ds->Reps F ws es->Reps F (vs ++ ws) (ds ++ es)
 := fun r s=>by
  cases r with
  |nil=>exact s
  |cons r t=>exact .cons r (Reps.append t s)
theorem Reps.get:∀{vs:ON}{ds:OK}{i:Nat}{d:D},Reps F vs ds->ds[i]? = some d->∃v,vs[i]? = some v/\Rep F v d
 := fun {vs ds i d} r e=>by
  cases r with
  |nil=>cases e
  |cons r t =>
   cases i with
   |zero=>cases e;exact⟨_,rfl,r⟩
   |succ i=>exact Reps.get (i:=i) t e
theorem Reps.drop:∀{vs:ON}{ds:OK} (n:Nat),Reps F vs ds->Reps F (vs.drop n) (ds.drop n)
 := fun n r=>by
  cases n with
  |zero=>exact r
  |succ n =>
   cases r with
   |nil=>exact .nil
   |cons _ t=>exact Reps.drop n t
theorem Reps.take:∀{vs:ON}{ds:OK} (n:Nat),Reps F vs ds->Reps F (vs.take n) (ds.take n)
 := fun n r=>by
  cases n with
  |zero=>exact .nil
  |succ n =>
   cases r with
   |nil=>exact .nil
   |cons r t=>exact .cons r (Reps.take n t)
theorem Reps.set{v:V}{d:D}(r:Rep F v d):∀{vs:ON}{ds:OK} (i:Nat),Reps F vs ds->Reps F (vs.set i v) (ds.set i d)
 |_,_,_,.nil=>.nil
 |_,_,0,.cons _ t=>.cons r t
 |_,_,i + 1,.cons q t=>.cons q (Reps.set r i t)
theorem Reps.reverse{vs:ON}{ds:OK}(h:Reps F vs ds):Reps F vs.reverse ds.reverse:=by
 induction vs generalizing ds with
 |nil=>cases h;exact .nil
 |cons v vs ih =>
  cases h with
  |cons r t=>rw[Ls,Ls];exact(ih t).append (.cons r .nil)
theorem Reps.ints:∀(ns:Ow),Reps F (ns.map V.int) (ns.map D.int)
 | []=>.nil
 |n :: ns=>.cons (.int n) (Reps.ints ns)
theorem Reps.bls:∀{vs:ON}{bs:O0},Reps F vs (bs.map D.bl)->vs=bs.map V.bl
 := fun {vs bs} r=>by
  cases bs with
  |nil=>cases r;rfl
  |cons b bs =>
   cases r with
   |cons r t=>cases r;rw[Reps.bls t];rfl
end
inductive FS where
 |v (d:D) |l (d:D)
structure OSt where
 C:Addr
 ia:Option Addr
 fs:List (Str×FS)
inductive Sl where
 |no |val (d:D) |own (d:D) |obj (s:OSt) |rob (s:OSt)
abbrev DE:=List Sl
def jr(F:Hp):HO->D->Prop
 |.lst vs,.lst ds=>Reps F vs ds
 |.dK vs,.dic ds=>RepK F vs ds
 |_,_=>False
theorem jr.mono{F F':Hp}(h:∀a o,F a=some o->F' a=some o){o:HO}{d:D}(r:jr F o d):jr F' o d:=by
 cases o <;> cases d <;> first |exact Reps.mono h r |exact RepK.mono h r |exact r
def fzO(ob:Obj):HO->HO
 |.dK vs=>.frz ob (.dK vs)
 |o=>o
variable{d:D}{o:HO}{a:Addr}{F:Hp}
theorem jr.rep{ob:Obj}(r:jr F o d)(h:F a=some (fzO ob o)):Rep F (.ref a) d:=by
 cases o <;> cases d <;> first |exact .lst h r |exact .dic h r |exact False.elim r
variable{H:Hp}
theorem EM(h:H a=some o):upd H a o=H:=by
 funext b
 by_cases hb:b=a
 ·subst hb;rw[ax,h]
 ·rw[ap hb]
variable{σ:St}{X:Cx}
theorem EA{Ml:OC}{s:Shared}(I:Inv X Ml σ H s)(e:H a=some o):∃ob,Inv X Ml σ (upd H a (fzO ob o)) s:=by
 cases o with
 |dK vs =>
  have z:=I.hok a _ e
  obtain⟨h1,h2,us,h3,h4⟩:=id z
  obtain⟨ob,es,ep,h5,h6⟩:=id h4
  exact⟨ob,I.write (t':=s.toks) (x:=a) (e:=a) (h':=s.heap) (by rw[e];exact trivial) (.inl rfl) (fun _ _ _ q=>q) ⟨ob,h5⟩ ⟨h5,h1,h2,us,h3,h4⟩⟩
 |_=>exact⟨default,by
   unfold fzO
   rw[EM e];exact I⟩
inductive j7 (F H:Hp):List (Str×V)->List (Str×FS)->List Addr->Prop
 |nil:j7 F H [] [] []
 |val {f:Str}{v:V}{d:D}{vs:OW} {xs:List (Str×FS)} {ps:OT}:Rep F v d->j7 F H vs xs ps->j7 F H ((f,v) :: vs) ((f,.v d) :: xs) ps
 |own {f:Str}{p:Addr}{o:HO}{d:D}{vs:OW} {xs:List (Str×FS)} {ps:OT}:H p=some o->jr F o d->j7 F H vs xs ps->j7 F H ((f,.ref p) :: vs) ((f,.l d) :: xs) (p :: ps)
def pI(F H:Hp)(s:OSt)(fp:OT):Prop:=∃a ps dx fs,fp=a :: ps/\(∀b,s.ia=some b->a=b)/\H a=some (.ins s.C dx fs)/\j7 F H fs s.fs ps
variable{F' H':Hp}
theorem j7.move(hf:∀a o,F a=some o->F' a=some o):∀{vs:OW} {xs:List (Str×FS)} {ps:OT},j7 F H vs xs ps->(∀p ∈ ps,∀o,H p=some o->H' p=some o)->j7 F' H' vs xs ps
 := fun r=>by
  induction r with
  |nil=>exact fun _=>.nil
  |val r t ih=>exact fun h=>.val (Rep.mono hf r) (ih h)
  |own e r t ih=>exact fun h=>.own (h _ Jq _ e) (r.mono hf) (ih fun q hq=>h q (Jt _ hq))
theorem j7.dom:∀{vs:OW} {xs:List (Str×FS)} {ps:OT},j7 F H vs xs ps->∀p ∈ ps,H p ≠ none
 := fun r=>by
  induction r with
  |nil=>exact fun p h=>nomatch h
  |val r t ih=>exact ih
  |own e r t ih=>exact fun p h=>(List.mem_cons.mp h).elim (fun z q=>by rw[z,e]at q;cases q) (ih p)
theorem pI.move{F H F' H':Hp}{s:OSt}{fp:OT}(hf:∀a o,F a=some o->F' a=some o)(h:∀p ∈ fp,∀o,H p=some o->H' p=some o)(r:pI F H s fp):pI F' H' s fp:=by
 obtain⟨a,ps,dx,fs,rfl,h0,h1,h2⟩:=r
 exact⟨a,ps,dx,fs,rfl,h0,h a Jq _ h1,h2.move hf fun p hp=>h p (Jt _ hp)⟩
theorem pI.dom{F H:Hp}{s:OSt}{fp:OT}(r:pI F H s fp):∀p ∈ fp,H p ≠ none:=by
 obtain⟨a,ps,dx,fs,rfl,h0,h1,h2⟩:=r
 intro p hp
 rcases List.mem_cons.mp hp with z |z
 ·rw[z,h1];simp
 ·exact h2.dom p z
structure Ext (F H F' H':Hp):Prop where
 same:∀a o,H a=some o->H' a=some o
 fr:∀a o,F a=some o->F' a=some o
 sub:∀a o,F' a=some o->H' a=some o
 new:∀a,F a=none->H a ≠ none->F' a=none
theorem Ext.refl(h:∀a o,F a=some o->H a=some o):Ext F H F H:=⟨fun _ _ e=>e,fun _ _ e=>e,h,fun _ e _=>e⟩
theorem Ext.trans{F1 H1 F2 H2:Hp}(a:Ext F H F1 H1)(b:Ext F1 H1 F2 H2):Ext F H F2 H2 :=
 ⟨fun c o e=>b.same c o (a.same c o e),fun c o e=>b.fr c o (a.fr c o e),b.sub,fun c e n=>b.new c (a.new c e n) fun z=>n (by
  cases q:H c with
  |none=>rfl
  |some o=>rw[a.same c o q]at z;cases z)⟩
variable{p:Addr}
theorem Ext.freeze(h:∀a o,F a=some o->H a=some o)(hp:H p=none):Ext F H (upd F p o) (upd H p o) where
 same:=fun a u e=>by rw[ap (bV e hp)];exact e
 fr:=fun a u e=>by rw[ap (bV (h a u e) hp)];exact e
 sub:=fun a u e=>by
  by_cases ha:a=p
  ·subst ha;rw[ax]at e ⊢;exact e
  ·rw[ap ha]at e ⊢;exact h a u e
 new:=fun a e n=>by
  have ha:a ≠ p:=fun z=>n (by rw[z];exact hp)
  rw[ap ha];exact e
theorem Ext.lay(h:∀a o,F a=some o->H a=some o)(hp:H p=none):Ext F H F (upd H p o) where
 same:=fun a u e=>by rw[ap (bV e hp)];exact e
 fr:=fun _ _ e=>e
 sub:=fun a u e=>by rw[ap (bV (h a u e) hp)];exact h a u e
 new:=fun _ e _=>e
theorem Ext.nofree(x:Ext F H F' H')(h:H' p=none):H p=none:=by
 cases q:H p with
 |none=>rfl
 |some o=>rw[x.same p o q]at h;cases h
theorem nofr(h:∀a o,F a=some o->H a=some o)(hp:H p=none):F p=none:=by
 cases q:F p with
 |none=>rfl
 |some o=>rw[h p o q]at hp;cases hp
abbrev O8:=Hp×Hp
structure OkF (fp:Nat->List Addr) (B:O8) (F H:Hp) (σ:St) (E:DE):Prop where
 at_:∀(i:Nat) s,E[i]? = some (.obj s)->(∃a,(fp i).head? = some a/\σ[i]? = some (some (.ref a)))/\pI F H s (fp i)/\(fp i).Nodup/\∀x ∈ fp i,F x=none/\B.2 x=none
 sep:∀(i j:Nat) s d b,E[i]? = some (.obj s)->E[j]? = some (.own d)->σ[j]? = some (some (.ref b))->b ∉ fp i
 two:∀(i j:Nat) s t,i ≠ j->E[i]? = some (.obj s)->E[j]? = some (.obj t)->∀x ∈ fp i,x ∉ fp j
 rob:∀(i:Nat) s,E[i]? = some (.rob s)->(∃a ps,σ[i]? = some (some (.ref a))/\pI F F s (a :: ps))\/(s.fs=[]/\∃a,s.ia=some a/\σ[i]? = some (some (.ref a)))
def HX(B:O8)(F H:Hp)(σ:St)(E:DE):Prop:=∃fp,OkF fp B F H σ E
variable{E:DE}{B:O8}
theorem OkF.to{fp:Nat->List Addr}{B':O8}{H':Hp}{σ':St}{E':DE}(k:OkF fp B F H σ E)(hf:∀a o,F a=some o->F' a=some o)(ho:∀(i:Nat) s,E'[i]? = some (.obj s)->E[i]? = some (.obj s)/\σ'[i]? = σ[i]?)
  (hr:∀(i:Nat) s,E'[i]? = some (.rob s)->E[i]? = some (.rob s)/\σ'[i]? = σ[i]?)
  (hp:∀(i:Nat) s,E'[i]? = some (.obj s)->∀x ∈ fp i,(∀o,H x=some o->H' x=some o)/\F' x=none/\B'.2 x=none)
  (hs:∀(i j:Nat) s d b,E'[i]? = some (.obj s)->E'[j]? = some (.own d)->σ'[j]? = some (some (.ref b))->b ∉ fp i):OkF fp B' F' H' σ' E' where
 at_:=fun i s h=>by
  obtain⟨h1,h2⟩:=ho i s h
  obtain⟨a1,a2,a3,a4⟩:=k.at_ i s h1
  exact⟨by rw[h2];exact a1,a2.move hf fun p hpp=>(hp i s h p hpp).1,a3,fun x hx=>(hp i s h x hx).2⟩
 sep:=hs
 two:=fun i j s t hij h1 h2=>k.two i j s t hij (ho i s h1).1 (ho j t h2).1
 rob:=fun i s h=>by
  obtain⟨h1,h2⟩:=hr i s h
  rcases k.rob i s h1 with⟨a,ps,q1,q2⟩ |⟨q0,a,q1,q2⟩
  ·exact .inl ⟨a,ps,by rw[h2];exact q1,q2.move hf fun p _ o e=>hf p o e⟩
  ·exact .inr ⟨q0,a,q1,by rw[h2];exact q2⟩
theorem OkF.ext{fp:Nat->List Addr}(q:OkF fp B F H σ E)(x:Ext F H F' H'):OkF fp B F' H' σ E :=
 q.to x.fr (fun i s h=>⟨h,rfl⟩) (fun i s h=>⟨h,rfl⟩) (fun i s h y hy=>⟨fun o e=>x.same y o e,x.new y ((q.at_ i s h).2.2.2 y hy).1 ((q.at_ i s h).2.1.dom y hy),((q.at_ i s h).2.2.2 y hy).2⟩) q.sep
structure Ok (B:O8) (F H:Hp) (σ:St) (E:DE):Prop where
 ent:Ext B.1 B.2 F H
 len:σ.length=E.length
 val:∀(i:Nat) d,E[i]? = some (.val d)->∃v,σ[i]? = some (some v)/\Rep F v d
 own:∀(i:Nat) d,E[i]? = some (.own d)->∃a o,σ[i]? = some (some (.ref a))/\H a=some o/\F a=none/\B.2 a=none/\jr F o d
 sep:∀(i j:Nat) d e a,i ≠ j->E[i]? = some (.own d)->E[j]? = some (.own e)->σ[i]? = some (some (.ref a))->σ[j]? ≠ some (some (.ref a))
 ob:HX B F H σ E
section
variable {B:O8}{F H F' H':Hp} {σ:St}{E:DE}
theorem Ok.sub(k:Ok B F H σ E):∀a o,F a=some o->H a=some o:=k.ent.sub
theorem Ok.ext(k:Ok B F H σ E)(x:Ext F H F' H'):Ok B F' H' σ E :=
 ⟨k.ent.trans x,k.len,fun i d e=>(let ⟨v,h1,h2⟩:=k.val i d e; ⟨v,h1,h2.mono x.fr⟩),
  fun i d e=>(let ⟨a,o,h1,h2,h3,h4,h5⟩:=k.own i d e; ⟨a,o,h1,x.same a o h2,x.new a h3 (by rw[h2];simp),h4,h5.mono x.fr⟩),k.sep,
  let ⟨fp,q⟩:=k.ob; ⟨fp,q.ext x⟩⟩
theorem Ok.set_val(k:Ok B F H σ E){v:V}(r:Rep F v d)(i:Nat):Ok B F H (σ.set i (some v)) (E.set i (.val d)):=by
 have hl:=k.len
 have nown:∀(j:Nat) e,(E.set i (.val d))[j]? = some (.own e)->i ≠ j/\E[j]? = some (.own e):=fun j e h=>by
  rw[JK]at h
  split at h
  ·split at h <;> simp at h
  ·exact⟨by assumption,h⟩
 refine⟨k.ent,by rw[Ke,Ke];exact hl,fun j e h=>?_,fun j e h=>?_,fun j l d' e' a hjl h1 h2 h3 h4=>?_,?_⟩
 ·rw[JK]at h
  rw[JK]
  split at h
  ·subst_vars
   split at h
   ·simp at h;subst h
    rename_i hlt
    exact⟨v,by simp[hl,hlt],r⟩
   ·simp at h
  ·rename_i hne
   rw[if_neg hne]
   exact k.val j e h
 ·obtain⟨hne,h⟩:=nown j e h
  rw[JC hne]
  exact k.own j e h
 ·obtain⟨n1,h1⟩:=nown j d' h1
  obtain⟨n2,h2⟩:=nown l e' h2
  rw[JC n1]at h3
  rw[JC n2]at h4
  exact k.sep j l d' e' a hjl h1 h2 h3 h4
 ·have bk:∀(j:Nat) z,(∀q,z ≠ Sl.val q)->(E.set i (.val d))[j]? = some z->i ≠ j/\E[j]? = some z:=fun j z hz h=>by
   rw[JK]at h
   split at h
   ·split at h
    ·simp at h;exact absurd h.symm (hz d)
    ·simp at h
   ·exact⟨by assumption,h⟩
  obtain⟨fp,q⟩:=k.ob
  exact⟨fp,q.to (fun _ _ e=>e) (fun j s h=>⟨(bk j _ (by simp) h).2,JC (bk j _ (by simp) h).1⟩) (fun j s h=>⟨(bk j _ (by simp) h).2,JC (bk j _ (by simp) h).1⟩)
   (fun j s h x hx=>⟨fun _ e=>e,(q.at_ j s (bk j _ (by simp) h).2).2.2.2 x hx⟩) (fun j l s e b h1 h2 h3=>by
    obtain⟨n2,h2⟩:=bk l _ (by simp) h2
    rw[JC n2]at h3
    exact q.sep j l s e b (bk j _ (by simp) h1).2 h2 h3)⟩
theorem Ok.put_own(k:Ok B F H σ E)(i:Nat)(hn:F a=none)(hb:B.2 a=none)(r:jr F o d)
  (Mu:∀(j:Nat) e,j ≠ i->E[j]? = some (.own e)->σ[j]? ≠ some (some (.ref a))) (MD:∃fp,OkF fp B F H σ E/\∀(j:Nat) s,E[j]? = some (.obj s)->a ∉ fp j):Ok B F (upd H a o) (σ.set i (some (.ref a))) (E.set i (.own d)):=by
 have hl:=k.len
 have oth:∀(j:Nat) s,i ≠ j->(E.set i (.own d))[j]? = some s->E[j]? = some s:=fun j s hne h=>by rw[JC hne]at h;exact h
 refine⟨⟨fun b u e=>?_,k.ent.fr,fun b u e=>?_,k.ent.new⟩,by rw[Ke,Ke];exact hl,fun j e h=>?_,fun j e h=>?_,fun j l d' e' b hjl h1 h2 h3 h4=>?_,?_⟩
 ·have:b ≠ a:=fun z=>by rw[z,hb]at e;cases e
  rw[ap this];exact k.ent.same b u e
 ·have:b ≠ a:=fun z=>by rw[z,hn]at e;cases e
  rw[ap this];exact k.sub b u e
 ·rw[JK]at h
  split at h
  ·split at h <;> simp at h
  ·rename_i hne
   rw[JC hne]
   exact k.val j e h
 ·rw[JK]at h
  rw[JK]
  split at h
  ·rename_i hij
   subst hij
   split at h
   ·rename_i hlt
    simp at h;subst h
    exact⟨a,o,by simp[hl,hlt],ax,hn,hb,r⟩
   ·simp at h
  ·rename_i hne
   rw[if_neg hne]
   obtain⟨b,u,h1,h2,h3,h4,h5⟩:=k.own j e h
   have nba:b ≠ a:=fun z=>Mu j e (Ne.symm hne) h (by rw[h1,z])
   exact⟨b,u,h1,by rw[ap nba];exact h2,h3,h4,h5⟩
 ·have key:∀(p q:Nat) (dp dq:D),p ≠ q->(E.set i (.own d))[p]? = some (.own dp)->(E.set i (.own d))[q]? = some (.own dq)->(σ.set i (some (.ref a)))[p]? = some (some (.ref b))->(σ.set i (some (.ref a)))[q]? = some (some (.ref b))->i ≠ p->False:=by
   intro p q dp dq hpq g1 g2 g3 g4 hip
   rw[JC hip]at g3
   have g1':=oth p _ hip g1
   by_cases hiq:i=q
   ·subst hiq
    rw[JK]at g4
    rw[if_pos rfl]at g4
    split at g4
    ·simp at g4;subst g4
     exact Mu p dp (Ne.symm hip) g1' g3
    ·simp at g4
   ·rw[JC hiq]at g4
    exact k.sep p q dp dq b hpq g1' (oth q _ hiq g2) g3 g4
  by_cases hij:i=j
  ·exact key l j e' d' (Ne.symm hjl) h2 h1 h4 h3 (fun z=>hjl (by rw[<-hij,z]))
  ·exact key j l d' e' hjl h1 h2 h3 h4 hij
 ·have bk:∀(j:Nat) z,(∀q,z ≠ Sl.own q)->(E.set i (.own d))[j]? = some z->i ≠ j/\E[j]? = some z:=fun j z hz h=>by
   rw[JK]at h
   split at h
   ·split at h
    ·simp at h;exact absurd h.symm (hz d)
    ·simp at h
   ·exact⟨by assumption,h⟩
  obtain⟨fp,q,MD⟩:=MD
  refine⟨fp,q.to (fun _ _ e=>e) (fun j s h=>⟨(bk j _ (by simp) h).2,JC (bk j _ (by simp) h).1⟩) (fun j s h=>⟨(bk j _ (by simp) h).2,JC (bk j _ (by simp) h).1⟩)
   (fun j s h x hx=>⟨fun _ e=>?_,(q.at_ j s (bk j _ (by simp) h).2).2.2.2 x hx⟩) (fun j l s e c h1 h2 h3=>?_)⟩
  ·rw[ap (fun z=>MD j s (bk j _ (by simp) h).2 (by rw[<-z];exact hx))];exact e
  ·have h1':=(bk j _ (by simp) h1).2
   by_cases hil:i=l
   ·subst hil
    rw[JK,if_pos rfl]at h3
    split at h3
    ·simp at h3;subst h3;exact MD j s h1'
    ·simp at h3
   ·rw[JC hil]at h2 h3
    exact q.sep j l s e c h1' h2 h3
end
def fzE(i:Nat)(E:DE):DE:=match E[i]? with
 |some (.own d)=>E.set i (.val d)
 |_=>E
variable{o':HO}
theorem Ok.fzG(k:Ok B F H σ E)(h:E[i]? = some (.own d))(h1:σ[i]? = some (some (.ref a)))(h3:F a=none)(h4:B.2 a=none)(hr:Rep (upd F a o') (.ref a) d):Ok B (upd F a o') (upd H a o') σ (E.set i (.val d)):=by
 have up:∀b u,F b=some u->(upd F a o') b=some u:=fun b u e=>by rw[ap (fun z=>by rw[z,h3]at e;cases e)];exact e
 have nown:∀(j:Nat) e,(E.set i (.val d))[j]? = some (.own e)->i ≠ j/\E[j]? = some (.own e):=fun j e q=>by
  rw[JK]at q
  split at q
  ·split at q <;> simp at q
  ·exact⟨by assumption,q⟩
 refine⟨⟨fun b u e=>?_,fun b u e=>up b u (k.ent.fr b u e),fun b u e=>?_,fun b e n=>?_⟩,by rw[Ke];exact k.len,fun j e q=>?_,fun j e q=>?_,fun j l d' e' b hjl g1 g2=>k.sep j l d' e' b hjl (nown j d' g1).2 (nown l e' g2).2,?_⟩
 ·have:b ≠ a:=fun z=>by rw[z,h4]at e;cases e
  rw[ap this];exact k.ent.same b u e
 ·by_cases hb:b=a
  ·subst hb;rw[ax]at e ⊢;exact e
  ·rw[ap hb]at e ⊢;exact k.sub b u e
 ·have hb:b ≠ a:=fun z=>n (by rw[z];exact h4)
  rw[ap hb];exact k.ent.new b e n
 ·rw[JK]at q
  split at q
  ·rename_i hij
   subst hij
   split at q
   ·simp at q;subst q
    exact⟨_,h1,hr⟩
   ·simp at q
  ·obtain⟨v,r1,r2⟩:=k.val j e q
   exact⟨v,r1,r2.mono up⟩
 ·obtain⟨hne,q⟩:=nown j e q
  obtain⟨b,u,r1,r2,r3,r4,r5⟩:=k.own j e q
  have nba:b ≠ a:=fun z=>k.sep j i e d a (Ne.symm hne) q h (by rw[r1,z]) h1
  exact⟨b,u,r1,by rw[ap nba];exact r2,by rw[ap nba];exact r3,r4,r5.mono up⟩
 ·have bk:∀(j:Nat) z,(∀q,z ≠ Sl.val q)->(E.set i (.val d))[j]? = some z->i ≠ j/\E[j]? = some z:=fun j z hz h=>by
   rw[JK]at h
   split at h
   ·split at h
    ·simp at h;exact absurd h.symm (hz d)
    ·simp at h
   ·exact⟨by assumption,h⟩
  obtain⟨fp,m⟩:=k.ob
  have nfp:∀(j:Nat) s,(E.set i (.val d))[j]? = some (.obj s)->∀x ∈ fp j,x ≠ a:=fun j s q x hx z=>m.sep j i s d a (bk j _ (by simp) q).2 h h1 (by rw[<-z];exact hx)
  refine⟨fp,m.to up (fun j s q=>⟨(bk j _ (by simp) q).2,rfl⟩) (fun j s q=>⟨(bk j _ (by simp) q).2,rfl⟩) (fun j s q x hx=>⟨fun _ e=>?_,?_,((m.at_ j s (bk j _ (by simp) q).2).2.2.2 x hx).2⟩) (fun j l s e c g1 g2=>m.sep j l s e c (bk j _ (by simp) g1).2 (bk l _ (by simp) g2).2)⟩
  ·rw[ap (nfp j s q x hx)];exact e
  ·rw[ap (nfp j s q x hx)]
   exact((m.at_ j s (bk j _ (by simp) q).2).2.2.2 x hx).1
theorem Ok.fz{Ml:OC}{s:Shared}(I:Inv X Ml σ H s)(k:Ok B F H σ E)(i:Nat):∃F' H',Inv X Ml σ H' s/\Ok B F' H' σ (fzE i E)/\∀a o,F a=some o->F' a=some o:=by
 unfold fzE
 cases h:E[i]? with
 |none=>exact⟨F,H,I,k,fun _ _ e=>e⟩
 |some z =>
  cases z with
  |no=>exact⟨F,H,I,k,fun _ _ e=>e⟩
  |val d=>exact⟨F,H,I,k,fun _ _ e=>e⟩
  |obj z=>exact⟨F,H,I,k,fun _ _ e=>e⟩
  |rob z=>exact⟨F,H,I,k,fun _ _ e=>e⟩
  |own d =>
   obtain⟨a,o,h1,h2,h3,h4,h5⟩:=k.own i d h
   obtain⟨ob,I'⟩:=EA I h2
   have up:∀b u,F b=some u->(upd F a (fzO ob o)) b=some u:=fun b u e=>by rw[ap (fun z=>by rw[z,h3]at e;cases e)];exact e
   exact⟨upd F a (fzO ob o),_,I',k.fzG h h1 h3 h4 ((h5.mono up).rep ax),up⟩
inductive Md where
 |V |O |F
def rM:Md->Hp->Hp->Hp->V->D->Prop
 |.V,_,F,_,v,d=>Rep F v d
 |.O,_,F,H,v,d=>Rep F v d\/∃a o,v=.ref a/\H a=some o/\jr F o d
 |.F,H0,F,H,v,d=>∃a o,v=.ref a/\H0 a=none/\H a=some o/\F a=none/\jr F o d
abbrev OB(F H:Hp)(v:V)(d:D):Prop:=Rep F v d\/∃a o,v=.ref a/\H a=some o/\jr F o d
variable{v:V}
theorem OB.ext(x:Ext F H F' H')(r:OB F H v d):OB F' H' v d:=by
 rcases r with r |⟨a,o,h1,h2,h3⟩
 ·exact .inl (r.mono x.fr)
 ·exact .inr ⟨a,o,h1,x.same a o h2,h3.mono x.fr⟩
variable{m:Md}
theorem rM.anti{H0 H1:Hp}(h:∀p,H1 p=none->H0 p=none)(r:rM m H1 F H v d):rM m H0 F H v d:=by
 cases m with
 |V=>exact r
 |O=>exact r
 |F=>obtain⟨a,o,h1,h2,h3,h4,h5⟩:=r;exact⟨a,o,h1,h a h2,h3,h4,h5⟩
theorem rM.ob{H0:Hp}(r:rM m H0 F H v d):OB F H v d:=by
 cases m with
 |V=>exact .inl r
 |O=>exact r
 |F=>obtain⟨a,o,h1,h2,h3,h4,h5⟩:=r;exact .inr ⟨a,o,h1,h3,h5⟩
abbrev OF:=DE->Option D
def tM(m:Md)(f:OF):TE:=fun σ H Q=>∃B F E d,Ok B F H σ E/\f E=some d/\∀v F' H',Ext F H F' H'->rM m H F' H' v d->Q v H'
abbrev OL:=DE->Option Bool
def tT(f:OL):TT:=fun σ H Q=>∃B F E b,Ok B F H σ E/\f E=some b/\∀F' H',Ext F H F' H'->Q b H'
abbrev OG:=DE->Option (List D)
def tL(f:OG):TA:=fun σ H Q=>∃B F E ds,Ok B F H σ E/\f E=some ds/\∀vs F' H',Ext F H F' H'->Reps F' vs ds->Q vs H'
structure Ev (X:Cx) (m:Md) (e:Expr) (f:OF):Prop where
 h:PE X e (tM m f)
structure Et (X:Cx) (e:Expr) (f:OL):Prop where
 h:PT X e (tT f)
structure Ea (X:Cx) (es:OP) (f:OG):Prop where
 h:PA X es (tL f)
inductive Out where
 |nx (E:DE) |rt (d:D) |bk (E:DE) |ct (E:DE)
abbrev Fr(F F':Hp):Prop:=∀a o,F a=some o->F' a=some o
def p_(B:O8)(F:Hp)(Z:fe):Out->Prop
 |.nx E=>∀σ F' H,Ok B F' H σ E->Fr F F'->Z.nx σ H
 |.rt d=>∀v F' H,Ext B.1 B.2 F' H->Rep F' v d->Z.rt v H
 |.bk E=>∀σ F' H,Ok B F' H σ E->Fr F F'->Z.bk σ H
 |.ct E=>∀σ F' H,Ok B F' H σ E->Fr F F'->Z.ct σ H
theorem p_.mono{F1:Hp}{Z:fe}{r:Out}(h:p_ B F Z r)(x:Fr F F1):p_ B F1 Z r:=by
 cases r with
 |nx E=>exact fun σ F' H k y=>h σ F' H k fun a o e=>y a o (x a o e)
 |rt d=>exact h
 |bk E=>exact fun σ F' H k y=>h σ F' H k fun a o e=>y a o (x a o e)
 |ct E=>exact fun σ F' H k y=>h σ F' H k fun a o e=>y a o (x a o e)
abbrev OO:=DE->Option Out
def tS(f:OO):TS:=fun Z σ H=>∃B F E r,Ok B F H σ E/\f E=some r/\p_ B F Z r
structure Es (X:Cx) (st:Stmt) (f:OO):Prop where
 h:PS X st (tS f)
structure Ess (X:Cx) (st:OV) (f:OO):Prop where
 h:PSs X st (tS f)
section
variable {X:Cx}{e a b c:Expr}{pos:Pos}
variable{f:OF}
theorem PE.by{t:TE}(h:PE X e t)(w:∀σ H Q,tM m f σ H Q->t σ H Q):Ev X m e f:=⟨fun Ml s σ H Q I q=>h Ml s σ H Q I (w σ H Q q)⟩
theorem PT.by{t:TT}{f:OL}(h:PT X e t)(w:∀σ H Q,tT f σ H Q->t σ H Q):Et X e f:=⟨fun Ml s σ H Q I q=>h Ml s σ H Q I (w σ H Q q)⟩
variable{es:OP}
theorem PA.by{t:TA}{f:OG}(h:PA X es t)(w:∀σ H Q,tL f σ H Q->t σ H Q):Ea X es f:=⟨fun pos Ml s σ H Q I q=>h pos Ml s σ H Q I (w σ H Q q)⟩
theorem PS.by{st:Stmt}{t:TS}{f:OO}(h:PS X st t)(w:∀Z σ H,tS f Z σ H->t Z σ H):Es X st f:=⟨fun Ml s σ H Z I q=>h Ml s σ H Z I (w Z σ H q)⟩
theorem PSs.by{st:OV}{t:TS}{f:OO}(h:PSs X st t)(w:∀Z σ H,tS f Z σ H->t Z σ H):Ess X st f:=⟨fun Ml s σ H Z I q=>h Ml s σ H Z I (w Z σ H q)⟩
theorem Ev.frz{f:OF}(h:Ev X .F e f):Ev X .V e f:=⟨fun Ml s σ H Q I zz66_0=>by
 obtain⟨B,F,E,d,k,q,w⟩:=zz66_0
 refine thn (h.h Ml s σ H (fun v H1=>∃a o,v=.ref a/\H1 a=some o/\∀ob,Q v (upd H1 a (fzO ob o))) I ⟨B,F,E,d,k,q,fun v F' H' x r=>?_⟩) fun u s1 ⟨x,H1,I1,r1,a,o,e1,e2,q1⟩=>?_
 ·obtain⟨p,o,h1,h2,h3,h4,h5⟩:=r
  subst h1
  refine⟨p,o,rfl,h3,fun ob=>?_⟩
  have up:∀c u,F' c=some u->(upd F' p (fzO ob o)) c=some u:=fun c u z=>by rw[ap (fun y=>by rw[y,h4]at z;cases z)];exact z
  refine w _ (upd F' p (fzO ob o)) _ ⟨fun c u z=>?_,fun c u z=>up c u (x.fr c u z),fun c u z=>?_,fun c z n=>?_⟩ ((h5.mono up).rep ax)
  ·have hc:c ≠ p:=fun y=>by rw[y,h2]at z;cases z
   rw[ap hc];exact x.same c u z
  ·by_cases hc:c=p
   ·subst hc;rw[ax]at z ⊢;exact z
   ·rw[ap hc]at z ⊢;exact x.sub c u z
  ·have hc:c ≠ p:=fun y=>n (by rw[y];exact h2)
   rw[ap hc];exact x.new c z n
 ·obtain⟨ob,I2⟩:=EA I1 e2
  exact⟨x,_,I2,r1,q1 ob⟩⟩
theorem Ev.obs(h:Ev X m e f):Ev X .O e f:=PE.by h.h fun σ H Q zz68_0=>by obtain⟨B,F,E,d,k,q,w⟩:=zz68_0;exact⟨B,F,E,d,k,q,fun v F' H' x r=>w v F' H' x r.ob⟩
def var(i:Nat)(E:DE):Option D:=match E[i]? with
 |some (.val d)=>some d
 |_=>none
def ae(i:Nat)(E:DE):Option D:=match E[i]? with
 |some (.val d)=>some d
 |some (.own d)=>some d
 |_=>none
theorem Gm(i:Nat)(h:PE X e (nY i)):Ev X .V e (var i):=PE.by h fun σ H Q zz69_0=>by
 obtain⟨B,F,E,d,k,q,w⟩:=zz69_0
 unfold var at q
 split at q
 ·rename_i d' hd
  cases q
  obtain⟨v,h1,h2⟩:=k.val i d hd
  exact⟨v,h1,w v F H (Ext.refl k.sub) h2⟩
 ·cases q
theorem DP(i:Nat)(h:PE X e (nY i)):Ev X .O e (ae i):=PE.by h fun σ H Q zz70_0=>by
 obtain⟨B,F,E,d,k,q,w⟩:=zz70_0
 unfold ae at q
 split at q
 ·rename_i d' hd
  cases q
  obtain⟨v,h1,h2⟩:=k.val i d hd
  exact⟨v,h1,w v F H (Ext.refl k.sub) (.inl h2)⟩
 ·rename_i d' hd
  cases q
  obtain⟨p,o,h1,h2,h3,h4,h5⟩:=k.own i d hd
  exact⟨_,h1,w _ F H (Ext.refl k.sub) (.inr ⟨p,o,rfl,h2,h5⟩)⟩
 ·cases q
def cst(d:D)(_:DE):Option D:=some d
theorem o6(h:PE X e (tC v))(r:∀F,Rep F v d):Ev X .V e (cst d):=PE.by h fun σ H Q zz71_0=>by
 obtain⟨B,F,E,d',k,q,w⟩:=zz71_0
 cases q
 exact w v F H (Ext.refl k.sub) (r F)
theorem af{i:Int}{j pos}:Ev X .V (.Constant (.int i) j pos) (cst (.int i)):=o6 AF fun _=>.int i
theorem uR{i:Bool}{j pos}:Ev X .V (.Constant (.bool i) j pos) (cst (.bl i)):=o6 Hs fun _=>.bl i
theorem gP{j pos}:Ev X .V (.Constant .none j pos) (cst .non):=o6 vH fun _=>.non
theorem av{i:Str}{j pos}:Ev X .V (.Constant (.str i) j pos) (cst (.str i)):=o6 Fz fun _=>.str i
abbrev O1:=D->D->Option D
def gq(m:Md)(r:R2)(o:O1):Prop:=∀(F H:Hp) (v w:V) (x y d:D) (Q:VK),(∀a u,F a=some u->H a=some u)->OB F H v x->OB F H w y->o x y=some d ->
 (∀u F' H',Ext F H F' H'->rM m H F' H' u d->Q u H')->r v w H Q
def bin(o:O1)(f g:OF)(E:DE):Option D:=(f E).bind fun x=>(g E).bind fun y=>o x y
variable{g:OF}{r:R2}
theorem iR{o:O1}(hr:gq m r o)(σ:St)(H:Hp)(Q:VK)(h:tM m (bin o f g) σ H Q):tOp r (tM .O f) (tM .O g) σ H Q:=by
 obtain⟨B,F,E,d,k,q,w⟩:=h
 unfold bin at q
 cases hf:f E with
 |none=>rw[hf]at q;cases q
 |some x =>
  rw[hf]at q
  cases hg:g E with
  |none=>rw[hg]at q;cases q
  |some y =>
   rw[hg]at q
   refine⟨B,F,E,x,k,hf,fun v F1 H1 x1 r1=>⟨B,F1,E,y,k.ext x1,hg,fun u F2 H2 x2 r2=>?_⟩⟩
   exact hr F2 H2 v u x y d Q x2.sub (OB.ext x2 r1) r2 q fun z F3 H3 x3 r3=>w z F3 H3 ((x1.trans x2).trans x3) (rM.anti (fun p hp=>(x1.trans x2).nofree hp) r3)
theorem k9{op:Operator}{o:O1}(ho:OpR X (binaryOp op) r)(hr:gq m r o)(ha:Ev X .O a f)(hb:Ev X .O b g):Ev X m (.BinOp a op b pos) (bin o f g) :=
 PE.by (Hq ho ha.h hb.h) (iR hr)
variable{op:CmpOp}
theorem wg{o:O1}(ho:OpR X (compareOp op) r)(hr:gq .V r o)(ha:Ev X .O a f)(hb:Ev X .O b g)(hm:behindInMarks op b=false):Ev X .V (.Compare a [op] [b] pos) (bin o f g) :=
 PE.by (w6 ho ha.h hb.h hm) (iR hr)
def asB:D->Option Bool
 |.bl b=>some b
 |_=>none
def tst(f:OF)(E:DE):Option Bool:=(f E).bind asB
theorem iy(σ:St)(H:Hp)(Q:PF)(h:tT (tst f) σ H Q):tM .V f σ H fun x H'=>∃k,x=.bl k/\Q k H':=by
 obtain⟨B,F,E,b,k,q,w⟩:=h
 unfold tst at q
 cases hf:f E with
 |none=>rw[hf]at q;cases q
 |some x =>
  rw[hf]at q
  refine⟨B,F,E,x,k,hf,fun v F' H' x1 r1=>?_⟩
  cases x with
  |bl c =>
   cases q
   cases(show Rep F' v (.bl b) from r1)
   exact⟨b,rfl,w F' H' x1⟩
  |_=>cases q
theorem sB{o:O1}(ho:OpR X (compareOp op) r)(hr:gq .V r o)(ha:Ev X .O a f)(hb:Ev X .O b g)(hm:behindInMarks op b=false):Et X (.Compare a [op] [b] pos) (tst (bin o f g)) :=
 PT.by (lF ho ha.h hb.h hm) fun σ H Q h=>iR hr σ H _ (iy σ H Q h)
theorem bN(h:Ev X .V e f)(he:∀whole,isTrue e X.env whole=(do let v <-whole;standAt e.pos;holding [v] (truthy v)):=by intro _;rfl):Et X e (tst f) :=
 PT.by (Fo h.h he) fun σ H Q q=>iy σ H Q q
def dA(f:OL)(E:DE):Option Bool:=(f E).map (!·)
theorem di{f:OL}(h:Et X a f):Et X (.UnaryOp .Not a pos) (dA f):=PT.by (Fp h.h) fun σ H Q zz72_0=>by
 obtain⟨B,F,E,b,k,q,w⟩:=zz72_0
 unfold dA at q
 cases hf:f E with
 |none=>rw[hf]at q;cases q
 |some c =>
  rw[hf]at q
  cases q
  exact⟨B,F,E,c,k,hf,w⟩
def li(f g:OL)(E:DE):Option Bool:=(f E).bind fun c=>if c=true then g E else some false
def orT(f g:OL)(E:DE):Option Bool:=(f E).bind fun c=>if c=true then some true else g E
structure Ew (X:Cx) (e:Expr) (f:OL):Prop where
 h:PW X e (tT f)
theorem PW.by{t:TT}{f:OL}(h:PW X e t)(w:∀σ H Q,tT f σ H Q->t σ H Q):Ew X e f:=⟨fun whole Ml s σ H Q I q=>h whole Ml s σ H Q I (w σ H Q q)⟩
theorem kh{f:OL}(h:Et X a f):Ew X (.BoolOp .And [a] pos) f:=⟨CS h.h⟩
theorem gO{f:OL}(h:Et X a f):Ew X (.BoolOp .Or [a] pos) f:=⟨Fl h.h⟩
theorem k7{rest:OP}{f g:OL}(h:Et X a f)(h2:Ew X (.BoolOp .And (b :: rest) pos) g):Ew X (.BoolOp .And (a :: b :: rest) pos) (li f g):=PW.by (Fm h.h h2.h) fun σ H Q zz73_0=>by
 obtain⟨B,F,E,d,k,q,w⟩:=zz73_0
 unfold li at q
 cases hf:f E with
 |none=>rw[hf]at q;cases q
 |some c =>
  rw[hf]at q
  refine⟨B,F,E,c,k,hf,fun F1 H1 x1=>?_⟩
  cases c with
  |false=>cases q;exact uC (w F1 H1 x1)
  |true=>exact uB ⟨B,F1,E,d,k.ext x1,q,fun F2 H2 x2=>w F2 H2 (x1.trans x2)⟩
theorem iK{rest:OP}{f g:OL}(h:Et X a f)(h2:Ew X (.BoolOp .Or (b :: rest) pos) g):Ew X (.BoolOp .Or (a :: b :: rest) pos) (orT f g):=PW.by (Hm h.h h2.h) fun σ H Q zz74_0=>by
 obtain⟨B,F,E,d,k,q,w⟩:=zz74_0
 unfold orT at q
 cases hf:f E with
 |none=>rw[hf]at q;cases q
 |some c =>
  rw[hf]at q
  refine⟨B,F,E,c,k,hf,fun F1 H1 x1=>?_⟩
  cases c with
  |true=>cases q;exact uB (w F1 H1 x1)
  |false=>exact uC ⟨B,F1,E,d,k.ext x1,q,fun F2 H2 x2=>w F2 H2 (x1.trans x2)⟩
theorem Ew.et{f:OL}(h:Ew X e f):Et X e f:=⟨h.h _⟩
def gR(f g:OF)(E:DE):Option D:=(f E).bind fun x=>(asB x).bind fun c=>if c=true then g E else some (.bl false)
def Dj(f:OF)(E:DE):Option D:=(f E).bind fun x=>(asB x).map fun c=>.bl (!c)
theorem pD{x:D}{c:Bool}(h:asB x=some c):x=.bl c:=by cases x <;> simp[asB]at h;rw[h]
theorem k8{op}(h:Ev X .V a f):Ev X .V (.BoolOp op [a] pos) f:=⟨FA h.h⟩
theorem dU{rest:OP}(h:Ev X .V a f)(h2:Ev X .V (.BoolOp .And (b :: rest) pos) g):Ev X .V (.BoolOp .And (a :: b :: rest) pos) (gR f g):=PE.by (FF h.h h2.h) fun σ H Q zz75_0=>by
 obtain⟨B,F,E,d,k,q,w⟩:=zz75_0
 unfold gR at q
 cases hf:f E with
 |none=>rw[hf]at q;cases q
 |some x =>
  rw[hf]at q
  refine⟨B,F,E,x,k,hf,fun v F1 H1 x1 r1=>?_⟩
  cases hx:asB x with
  |none=>simp[hx]at q
  |some c =>
   have ex:=pD hx
   subst ex
   simp only[Jd,hx]at q
   cases(show Rep F1 v (.bl c) from r1)
   refine⟨c,rfl,?_⟩
   cases c with
   |false=>cases q;exact uC (w _ F1 H1 x1 (.bl false))
   |true=>exact uB ⟨B,F1,E,d,k.ext x1,q,fun u F2 H2 x2 r2=>w u F2 H2 (x1.trans x2) r2⟩
theorem Go(h:Ev X .V a f):Ev X .V (.UnaryOp .Not a pos) (Dj f):=PE.by (L2.FB h.h) fun σ H Q zz76_0=>by
 obtain⟨B,F,E,d,k,q,w⟩:=zz76_0
 unfold Dj at q
 cases hf:f E with
 |none=>rw[hf]at q;cases q
 |some x =>
  rw[hf]at q
  refine⟨B,F,E,x,k,hf,fun v F1 H1 x1 r1=>?_⟩
  cases hx:asB x with
  |none=>simp[hx]at q
  |some c =>
   have ex:=pD hx
   subst ex
   simp only[Jd,hx,Jf]at q
   cases q
   cases(show Rep F1 v (.bl c) from r1)
   exact⟨c,rfl,w _ F1 H1 x1 (.bl _)⟩
def ifV(c:OL)(f g:OF)(E:DE):Option D:=(c E).bind fun b=>if b=true then f E else g E
theorem EF{cf:OL}(hc:Et X c cf)(ha:Ev X m a f)(hb:Ev X m b g):Ev X m (.IfExp c a b pos) (ifV cf f g):=PE.by (AG hc.h ha.h hb.h) fun σ H Q zz77_0=>by
 obtain⟨B,F,E,d,k,q,w⟩:=zz77_0
 unfold ifV at q
 cases hf:cf E with
 |none=>rw[hf]at q;cases q
 |some x =>
  rw[hf]at q
  refine⟨B,F,E,x,k,hf,fun F1 H1 x1=>?_⟩
  cases x with
  |true=>exact uB ⟨B,F1,E,d,k.ext x1,q,fun u F2 H2 x2 r2=>w u F2 H2 (x1.trans x2) (rM.anti (fun p hp=>x1.nofree hp) r2)⟩
  |false=>exact uC ⟨B,F1,E,d,k.ext x1,q,fun u F2 H2 x2 r2=>w u F2 H2 (x1.trans x2) (rM.anti (fun p hp=>x1.nofree hp) r2)⟩
def mh(o o':O1)(f g h:OF)(E:DE):Option D:=(f E).bind fun x=>(g E).bind fun y=>(o x y).bind fun z=>(asB z).bind fun k=>if k=true then(h E).bind fun w=>o' y w else some (.bl false)
theorem wq{r':R2}{o o':O1}{h:OF}(hr:gq .V r o)(hr':gq .V r' o')(σ:St)(H:Hp)(Q:VK)(q:tM .V (mh o o' f g h) σ H Q):zP r r' (tM .O f) (tM .O g) (tM .O h) σ H Q:=by
 obtain⟨B,F,E,d,k,q,w⟩:=q
 unfold mh at q
 cases hf:f E with
 |none=>simp[hf]at q
 |some x =>
  cases hg:g E with
  |none=>simp[hf,hg]at q
  |some y =>
   cases ho:o x y with
   |none=>simp[hf,hg,ho]at q
   |some z =>
    cases hz:asB z with
    |none=>simp[hf,hg,ho,hz]at q
    |some c =>
     simp only[hf,hg,ho,hz,Jd]at q
     refine⟨B,F,E,x,k,hf,fun v F1 H1 x1 r1=>⟨B,F1,E,y,k.ext x1,hg,fun u F2 H2 x2 r2=>?_⟩⟩
     refine hr F2 H2 v u x y z _ x2.sub (OB.ext x2 r1) r2 ho fun t F3 H3 x3 r3=>?_
     have ez:=pD hz
     subst ez
     cases(show Rep F3 t (.bl c) from r3)
     refine⟨c,rfl,?_⟩
     have x13:=(x1.trans x2).trans x3
     cases c with
     |false=>cases q;exact uC (w _ F3 H3 x13 (.bl false))
     |true =>
      refine uB ?_
      cases hh:h E with
      |none=>simp[hh]at q
      |some e =>
       simp only[hh,Jd,if_true]at q
       refine⟨B,F3,E,e,k.ext x13,hh,fun p F4 H4 x4 r4=>?_⟩
       exact hr' F4 H4 u p y e d Q x4.sub (OB.ext (x3.trans x4) r2) r4 q fun t F5 H5 x5 r5=>w t F5 H5 ((x13.trans x4).trans x5) r5
theorem BR{op':CmpOp}{r':R2}{o o':O1}{h:OF}(ho:OpR X (compareOp op) r)(hr:gq .V r o)(ho':OpR X (compareOp op') r')(hr':gq .V r' o')(ha:Ev X .O a f)(hb:Ev X .O b g)(hc:Ev X .O c h)
  (hm:lastMarks [op,op'] [b,c]=false:=by with_unfolding_all rfl):Ev X .V (.Compare a [op,op'] [b,c] pos) (mh o o' f g h):=PE.by (AI ho ho' ha.h hb.h hc.h hm) (wq hr hr')
def aO:Expr->Bool
 |.Starred _ _=>false
 |_=>true
theorem aD(e:Expr)(es:OP)(env:Env)(h:aO e=true):starEach (e :: es) env=(false,eval e env) :: starEach es env:=by
 cases e <;> first |rfl |cases h
theorem dN(pos:Pos)(env:Env):∀es:List Expr,es.all aO=true->(backTo pos (starEach es env)).any (·.1)=false
 | [],_=>rfl
 |e :: es,h=>by
  rw[Kl,JG]at h
  rw[aD e es env h.1]
  show(false || (backTo pos (starEach es env)).any (·.1))=false
  rw[dN pos env es h.2];rfl
def aj(_:DE):Option (List D):=some []
def aa(f:OF)(g:OG)(E:DE):Option (List D):=(f E).bind fun x=>(g E).map fun xs=>x :: xs
theorem ah:Ea X [] aj:=PA.by ek fun σ H Q ⟨B,F,E,d,k,q,w⟩=>by cases q;exact w [] F H (Ext.refl k.sub) .nil
theorem ac{g:OG}(h:Ev X .V e f)(h2:Ea X es g)(hs:aO e=true:=by rfl):Ea X (e :: es) (aa f g) :=
 PA.by (bR h.h h2.h (aD e es X.env hs)) fun σ H Q zz79_0=>by
  obtain⟨B,F,E,d,k,q,w⟩:=zz79_0
  unfold aa at q
  cases hf:f E with
  |none=>simp[hf]at q
  |some x =>
   cases hg:g E with
   |none=>simp[hf,hg]at q
   |some xs =>
    simp only[hf,hg,Jd,Jf]at q
    cases q
    exact⟨B,F,E,x,k,hf,fun v F1 H1 x1 r1=>⟨B,F1,E,xs,k.ext x1,hg,fun vs F2 H2 x2 r2=>w _ F2 H2 (x1.trans x2) (.cons (r1.mono x2.fr) r2)⟩⟩
def fc(f:OG)(E:DE):Option D:=(f E).bind fun xs=>if xs.length<=sizeLine then some (.tup xs) else none
def bu(f:OG)(E:DE):Option D:=(f E).bind fun xs=>if xs.length<=sizeLine then some (.lst xs) else none
theorem dF{x1}{f:OG}(h:Ea X es f):Ev X .V (.Tuple es x1 pos) (fc f):=PE.by (vG h.h) fun σ H Q zz80_0=>by
 obtain⟨B,F,E,d,k,q,w⟩:=zz80_0
 unfold fc at q
 cases hf:f E with
 |none=>simp[hf]at q
 |some xs =>
  simp only[hf,Jd]at q
  split at q
  ·rename_i hz
   cases q
   refine⟨B,F,E,xs,k,hf,fun vs F1 H1 x1 r1=>⟨by rw[r1.length];exact hz,fun p hp=>?_⟩⟩
   have x2:=Ext.freeze (o:=HO.tup vs) x1.sub hp
   exact w _ _ _ (x1.trans x2) (.tup ax (r1.mono x2.fr))
  ·cases q
theorem aV{f:OG}(h:Ea X es f):Ev X .F (.List es pos) (bu f):=PE.by (FC h.h) fun σ H Q zz81_0=>by
 obtain⟨B,F,E,d,k,q,w⟩:=zz81_0
 unfold bu at q
 cases hf:f E with
 |none=>simp[hf]at q
 |some xs =>
  simp only[hf,Jd]at q
  split at q
  ·rename_i hz
   cases q
   refine⟨B,F,E,xs,k,hf,fun vs F1 H1 x1 r1=>⟨by rw[r1.length];exact hz,fun p hp=>?_⟩⟩
   have x2:=Ext.lay (o:=HO.lst vs) x1.sub hp
   exact w _ _ _ (x1.trans x2) ⟨p,_,rfl,x1.nofree hp,ax,nofr x1.sub hp,r1⟩
  ·cases q
abbrev OR:=List D->Option D
def spD(n:Nat)(g:OR):Sp:=fun vs H Q _=>∃F ds d,(∀a o,F a=some o->H a=some o)/\Reps F vs ds/\ds.length=n/\g ds=some d/\∀v F' H',Ext F H F' H'->Rep F' v d->Q v H'
def aq(n:Nat)(g:OR)(f:OG)(E:DE):Option D:=(f E).bind fun ds=>if ds.length=n then g ds else none
variable{x:Str}
theorem DR{k:Nat}{fa:Addr}{fd:FuncData}{ps:OD}{p:Pos}{es:OP}{n:Nat}{g:OR}{f:OG}(Fn:aX X.prog X.w X.K X.mg X.base CX0 k fa fd ps (spD n g))(hr:dj k X.A)(hg:Gl X x)
  (hm:X.mg x=some (.ref fa)) (hk:PySem.W.keepIn X.K (.ref fa)=true) (hb:fj X.K fd ps []) (ha:Ea X (e :: es) f) (hdb:(x == ("__debug__" : Str))=false:=by decide)
  (he:aO e=true:=by rfl) (hpl:es.all aO=true:=by rfl):Ev X .V (.Call (.Name x p) (e :: es) [] pos) (aq n g f) :=
 PE.by (w8 Fn hr hg hm hk hb .nil Eu ha.h hdb (aD e es X.env he) (dN pos X.env es hpl)) fun σ H Q zz82_0=>by
  obtain⟨B,F,E,d,k,q,w⟩:=zz82_0
  unfold aq at q
  cases hf:f E with
  |none=>simp[hf]at q
  |some ds =>
   simp only[hf,Jd]at q
   split at q
   ·rename_i hn
    refine⟨B,F,E,ds,k,hf,fun vs F1 H1 x1 r1=>⟨F1,ds,d,x1.sub,by rw[JZ];exact r1,hn,q,fun v F2 H2 x2 r2=>w v F2 H2 (x1.trans x2) r2⟩⟩
   ·cases q
def RdC(m:Md)(r:Os)(o:OR):Prop:=∀(F H:Hp) (vs:ON) (ds:OK) (d:D) (Q:VK),(∀a u,F a=some u->H a=some u)->Reps F vs ds->o ds=some d ->
 (∀u F' H',Ext F H F' H'->rM m H F' H' u d->Q u H')->r vs H Q
def wv(o:OR)(f:OG)(E:DE):Option D:=(f E).bind o
theorem Ce{r:Os}{o:OR}{f:OG}(hr:RdC m r o)(σ:St)(H:Hp)(Q:VK)(h:tM m (wv o f) σ H Q):tCB r (tL f) σ H Q:=by
 obtain⟨B,F,E,d,k,q,w⟩:=h
 unfold wv at q
 cases hf:f E with
 |none=>simp[hf]at q
 |some ds =>
  simp only[hf,Jd]at q
  exact⟨B,F,E,ds,k,hf,fun vs F1 H1 x1 r1=>hr F1 H1 vs ds d Q x1.sub r1 q fun u F2 H2 x2 r2=>w u F2 H2 (x1.trans x2) (rM.anti (fun p hp=>x1.nofree hp) r2)⟩
def m3(m:Md)(r:Os)(o:D->Option D):Prop:=∀(F H:Hp) (v:V) (x:D) (d:D) (Q:VK),(∀a u,F a=some u->H a=some u)->OB F H v x->o x=some d ->
 (∀u F' H',Ext F H F' H'->rM m H F' H' u d->Q u H')->r [v] H Q
def un(o:D->Option D)(f:OF)(E:DE):Option D:=(f E).bind o
theorem wK{r:Os}{o:D->Option D}(hr:m3 m r o)(σ:St)(H:Hp)(Q:VK)(h:tM m (un o f) σ H Q):tCB r (Ee (tM .O f) GZ) σ H Q:=by
 obtain⟨B,F,E,d,k,q,w⟩:=h
 unfold un at q
 cases hf:f E with
 |none=>simp[hf]at q
 |some x =>
  simp only[hf,Jd]at q
  exact⟨B,F,E,x,k,hf,fun v F1 H1 x1 r1=>hr F1 H1 v x d Q x1.sub r1 q fun u F2 H2 x2 r2=>w u F2 H2 (x1.trans x2) (rM.anti (fun p hp=>x1.nofree hp) r2)⟩
theorem l_{p:Pos}{id:String}{r:Os}{o:D->Option D}{f:OF}(hc:dc X (.builtin id) r)(hr:m3 m r o)(hg:Gl X x)(hm:X.mg x=none)(hv:bootBuiltins x=some (.builtin id))
  (ha:Ev X .O e f) (hn:x ≠ "__name__" := by decide) (hdb:(x == ("__debug__" : Str))=false:=by decide) (he:aO e=true:=by rfl):Ev X m (.Call (.Name x p) [e] [] pos) (un o f) :=
 PE.by (iA hc hg hm hv (bR ha.h ek (aD e [] X.env he)) hn hdb (aD e [] X.env he) rfl) (wK hr)
theorem we{p:Pos}{T:String}{r:Os}{o:D->Option D}{f:OF}(hc:dc X (.type T) r)(hr:m3 m r o)(hg:Gl X x)(hm:X.mg x=none)(hv:bootBuiltins x=some (.type T))
  (ha:Ev X .O e f) (hn:x ≠ "__name__" := by decide) (hdb:(x == ("__debug__" : Str))=false:=by decide) (he:aO e=true:=by rfl):Ev X m (.Call (.Name x p) [e] [] pos) (un o f) :=
 PE.by (yu hc hg hm hv (bR ha.h ek (aD e [] X.env he)) hn hdb (aD e [] X.env he) rfl) (wK hr)
end
section
variable {X:Cx}{e:Expr}{pos:Pos}{st:Stmt}{rest:OV}
def bf(E:DE):Option Out:=some (.nx E)
def aw(f g:OO)(E:DE):Option Out:=(f E).bind fun r=>match r with
 |.nx E'=>g E'
 |r=>some r
theorem aL:Ess X [] bf:=PSs.by CZ fun Z σ H ⟨B,F,E,r,k,q,w⟩=>by cases q;exact w σ F H k fun _ _ e=>e
variable{f:OO}
theorem am(h:Es X st f):Ess X [st] f:=⟨rH h.h⟩
theorem ag{g:OO}(h:Es X st f)(h2:Ess X rest g):Ess X (st :: rest) (aw f g):=PSs.by (Ap h.h h2.h) fun Z σ H zz84_0=>by
 obtain⟨B,F,E,r,k,q,w⟩:=zz84_0
 unfold aw at q
 cases hf:f E with
 |none=>simp[hf]at q
 |some r1 =>
  rw[hf]at q
  cases r1 with
  |nx E'=>exact⟨B,F,E,.nx E',k,hf,fun σ' F' H' k' y=>⟨B,F',E',r,k',q,w.mono y⟩⟩
  |rt d=>cases q;exact⟨B,F,E,.rt d,k,hf,w⟩
  |bk E'=>cases q;exact⟨B,F,E,.bk E',k,hf,w⟩
  |ct E'=>cases q;exact⟨B,F,E,.ct E',k,hf,w⟩
theorem qP(i:Nat)(h:Es X st f):Es X st (fun E=>f (fzE i E)):=⟨fun Ml s σ H Z I zz85_0=>by
 obtain⟨B,F,E,r,k,q,w⟩:=zz85_0
 obtain⟨F',H',I',k',y⟩:=Ok.fz I k i
 exact h.h Ml s σ H' Z I' ⟨B,F',fzE i E,r,k',q,w.mono y⟩⟩
def ba(f:OF)(E:DE):Option Out:=(f E).map Out.rt
theorem aK{f:OF}(h:Ev X .V e f):Es X (.Return (some e) pos) (ba f):=PS.by (Ft h.h) fun Z σ H zz86_0=>by
 obtain⟨B,F,E,r,k,q,w⟩:=zz86_0
 unfold ba at q
 cases hf:f E with
 |none=>simp[hf]at q
 |some d =>
  simp only[hf,Jf]at q
  cases q
  exact⟨B,F,E,d,k,hf,fun v F' H' x r=>w v F' H' (k.ent.trans x) r⟩
def ifS(c:OL)(f g:OO)(E:DE):Option Out:=(c E).bind fun b=>if b=true then f E else g E
theorem bp{c:Expr}{a b:OV}{cf:OL}{g:OO}(hc:Et X c cf)(ha:Ess X a f)(hb:Ess X b g):Es X (.If c a b pos) (ifS cf f g):=PS.by (Hn hc.h ha.h hb.h) fun Z σ H zz87_0=>by
 obtain⟨B,F,E,r,k,q,w⟩:=zz87_0
 unfold ifS at q
 cases hf:cf E with
 |none=>simp[hf]at q
 |some x =>
  rw[hf]at q
  refine⟨B,F,E,x,k,hf,fun F1 H1 x1=>?_⟩
  cases x with
  |true=>exact uB ⟨B,F1,E,r,k.ext x1,q,w.mono x1.fr⟩
  |false=>exact uC ⟨B,F1,E,r,k.ext x1,q,w.mono x1.fr⟩
def aT(i:Nat)(f:OF)(E:DE):Option Out:=(f E).map fun d=>.nx (E.set i (.val d))
def gj(i:Nat)(f:OF)(E:DE):Option Out:=(f E).map fun d=>.nx (E.set i (.own d))
theorem tz{f:OF}(Z:fe)(σ:St)(H:Hp)(h:tS (aT i f) Z σ H):zQ (tM .V f) (qJ i) Z σ H:=by
 obtain⟨B,F,E,r,k,q,w⟩:=h
 unfold aT at q
 cases hf:f E with
 |none=>simp[hf]at q
 |some d =>
  simp only[hf,Jf]at q
  cases q
  exact⟨B,F,E,d,k,hf,fun v F' H' x r=>w _ F' H' ((k.ext x).set_val r i) x.fr⟩
theorem AL{f:OF}(Z:fe)(σ:St)(H:Hp)(h:tS (gj i f) Z σ H):zQ (tM .F f) (qJ i) Z σ H:=by
 obtain⟨B,F,E,r,k,q,w⟩:=h
 unfold gj at q
 cases hf:f E with
 |none=>simp[hf]at q
 |some d =>
  simp only[hf,Jf]at q
  cases q
  refine⟨B,F,E,d,k,hf,fun v F' H' x r=>?_⟩
  obtain⟨a,o,rfl,h2,h3,h4,h5⟩:=r
  have k':=k.ext x
  have hb:B.2 a=none:=k.ent.nofree h2
  have hfr:∃fp,OkF fp B F' H' σ E/\∀(j:Nat) s,E[j]? = some (.obj s)->a ∉ fp j:=by
   obtain⟨fp,m⟩:=k.ob
   exact⟨fp,m.ext x,fun j t hj hm=>(m.at_ j t hj).2.1.dom a hm h2⟩
  have z:=k'.put_own (a:=a) (o:=o) i h4 hb h5 fun j e hj he hs=>by
   obtain⟨b,u,g1,g2,_⟩:=k.own j e he
   rw[g1]at hs
   cases hs
   rw[h2]at g2
   cases g2
  have z:=z hfr
  have eu:upd H' a o=H':=by
   funext c
   unfold upd
   split
   ·rename_i hc;rw[hc,h3]
   ·rfl
  rw[eu]at z
  exact w _ F' H' z x.fr
theorem il{x:Str}{pos':Pos}{f:OF}(hN:X.N.Nodup)(hi:X.N[i]? = some x)(hx:Loc X.env.scope x)(he:Ev X .V e f)(hs:swapsWith e (some (.Name x pos')) pos.line X.env=pure false:=by rfl)
  (hf:X.fn x=true\/X.env.scope.names.lookup x=some .local:=by first |exact .inl rfl |exact .inr rfl |assumption):Es X (.Assign [.Name x pos'] e pos) (aT i f):=PS.by (vE hN hi hx he.h hs hf) tz
theorem Gs{x:Str}{pos':Pos}{f:OF}(hN:X.N.Nodup)(hi:X.N[i]? = some x)(hx:Loc X.env.scope x)(he:Ev X .F e f)(hs:swapsWith e (some (.Name x pos')) pos.line X.env=pure false:=by rfl)
  (hf:X.fn x=true\/X.env.scope.names.lookup x=some .local:=by first |exact .inl rfl |exact .inr rfl |assumption):Es X (.Assign [.Name x pos'] e pos) (gj i f):=PS.by (vE hN hi hx he.h hs hf) AL
end
def wD(F:Hp)(J:It)(xs:OK):Prop:=∀(i:Nat) (F2 H2:Hp),Fr F F2->(∀a o,F2 a=some o->H2 a=some o) ->
 (xs.length=i->J.stop i H2)/\∀d,xs[i]? = some d->J.go i H2/\∀x H',J.yld i H2 x H'->∃F3,Ext F2 H2 F3 H'/\Rep F3 x d
def tIt(f:OG):TI:=fun σ H R=>∃B F E xs,Ok B F H σ E/\f E=some xs/\∀J F' H',Ext F H F' H'->wD F' J xs->R J H'
structure Ei (X:Cx) (tg Mo:Expr) (f:OG):Prop where
 h:PI X tg Mo (tIt f)
abbrev OQ:=D->DE->Option DE
def tG(gf:OQ):TG:=fun v σ H Q=>∃B F E d E',Ok B F H σ E/\Rep F v d/\gf d E=some E'/\∀σ' F' H',Ok B F' H' σ' E'->Ext F H F' H'->Q σ' H'
structure Eg (X:Cx) (tg:Expr) (gf:OQ):Prop where
 h:PG X tg (tG gf)
section
variable {X:Cx}{pos:Pos}
variable{tg:Expr}
theorem PI.by{Mo:Expr}{wi:TI}{f:OG}(h:PI X tg Mo wi)(w:∀σ H R,tIt f σ H R->wi σ H R):Ei X tg Mo f:=⟨fun Ml s σ H R I q=>h Ml s σ H R I (w σ H R q)⟩
theorem PI.or{Mo:Expr}{wi wi':TI}(h:PI X tg Mo wi)(h':PI X tg Mo wi'):PI X tg Mo (fun σ H R=>wi σ H R\/wi' σ H R):=fun Ml s σ H R I q=>q.elim (h Ml s σ H R I) (h' Ml s σ H R I)
theorem PG.by{t:TG}{gf:OQ}(h:PG X tg t)(w:∀v σ H Q,tG gf v σ H Q->t v σ H Q):Eg X tg gf:=⟨fun Ml s σ H v u Q I r q=>h Ml s σ H v u Q I r (w v σ H Q q)⟩
def nmG(i:Nat)(d:D)(E:DE):Option DE:=some (E.set i (.val d))
theorem nS{x:Str}(hN:X.N.Nodup)(hi:X.N[i]? = some x)(hx:Loc X.env.scope x)(hf:X.fn x=true\/X.env.scope.names.lookup x=some .local:=by first |exact .inl rfl |exact .inr rfl |assumption):Eg X (.Name x pos) (nmG i) :=
 PG.by (C7 hN hi hx hf) fun v σ H Q ⟨B,F,E,d,E',k,r,q,w⟩=>by cases q;exact w _ F H (k.set_val r i) (Ext.refl k.sub)
abbrev Ot:=List D->DE->Option DE
def tGs(gf:Ot):TGs:=fun vs σ H Q=>∃B F E ds E',Ok B F H σ E/\Reps F vs ds/\gf ds E=some E'/\∀σ' F' H',Ok B F' H' σ' E'->Ext F H F' H'->Q σ' H'
structure Egs (X:Cx) (ts:OP) (gf:Ot):Prop where
 h:PGs X ts (tGs gf)
def f_(ds:OK)(E:DE):Option DE:=match ds with
 | []=>some E
 |_=>none
def a_(g:OQ)(gs:Ot)(ds:OK)(E:DE):Option DE:=match ds with
 |d :: r=>(g d E).bind fun E'=>gs r E'
 |_=>none
theorem dm:Egs X [] f_:=⟨fun Ml s σ H vs us Q I r zz89_0=>by
 obtain⟨B,F,E,ds,E',k,rd,q,w⟩:=zz89_0
 cases ds with
 |nil=>cases q;cases rd;exact C6 Ml s σ H [] us Q I r ⟨rfl,w σ F H k (Ext.refl k.sub)⟩
 |cons _ _=>cases q⟩
theorem aQ{e:Expr}{es:OP}{g:OQ}{gs:Ot}(h1:Eg X e g)(h2:Egs X es gs)
  (he:(assignEach (e :: es) X.env).map (·.2)=assign e X.env :: (assignEach es X.env).map (·.2):=by rfl):Egs X (e :: es) (a_ g gs):=⟨fun Ml s σ H vs us Q I r zz90_0=>by
 obtain⟨B,F,E,ds,E',k,rd,q,w⟩:=zz90_0
 cases ds with
 |nil=>cases q
 |cons d ds =>
  cases rd with
  |@cons v _ vs _ r1 r2 =>
   unfold a_ at q
   cases hg:g d E with
   |none=>simp[hg]at q
   |some E1 =>
    simp only[hg,Jd]at q
    refine AB h1.h h2.h he Ml s σ H _ us Q I r ⟨v,vs,rfl,B,F,E,d,E1,k,r1,hg,fun σ1 F1 H1 k1 x1=>⟨B,F1,E1,ds,E',k1,r2.mono x1.fr,q,fun σ2 F2 H2 k2 x2=>w σ2 F2 H2 k2 (x1.trans x2)⟩⟩⟩
def f9(n:Nat)(gs:Ot)(d:D)(E:DE):Option DE:=match d with
 |.tup ds=>if ds.length=n then gs ds E else none
 |_=>none
theorem e8{es:OP}{kk:Nat}{gs:Ot}{n:Nat}(hc:X.calm=true)(h:Egs X es gs)(hn:(assignEach es X.env).length=n:=by rfl)(hst:(assignEach es X.env).findIdx? (·.1)=none:=by rfl) :
  Eg X (.Tuple es kk pos) (f9 n gs):=PG.by (Fx hc h.h hn hst) fun v σ H Q zz91_0=>by
 obtain⟨B,F,E,d,E',k,r,q,w⟩:=zz91_0
 cases d with
 |tup ds =>
  have q':(if ds.length=n then gs ds E else none)=some E':=q
  by_cases hl:ds.length=n
  ·rw[if_pos hl]at q'
   cases r with
   |@tup a vs _ e rs=>exact⟨a,vs,rfl,SqT.of (k.sub _ _ e),by rw[rs.length];exact hl,B,F,E,ds,E',k,rs,q',w⟩
  ·rw[if_neg hl]at q';cases q'
 |_=>cases q
end
def kF(body:D->DE->Option Out):List D->DE->Option Out
 | [],E=>some (.nx E)
 |x :: xs,E=>(body x E).bind fun r=>match r with
  |.nx E'=>kF body xs E'
  |.ct E'=>kF body xs E'
  |.bk E'=>some (.nx E')
  |.rt d=>some (.rt d)
def ij(fi:OG)(gf:OQ)(fb:OO)(E:DE):Option Out:=(fi E).bind fun xs=>kF (fun x E1=>(gf x E1).bind fb) xs E
section
variable {X:Cx}{pos:Pos}
theorem jM{tg Mo:Expr}{body:OV}{fi:OG}{gf:OQ}{fb:OO}(hp:PassesOwn (model X.prog X.w) X.A X.env X.xe)(hc:X.calm=true)(hi:Ei X tg Mo fi)(hg:Eg X tg gf)(hb:Ess X body fb)
  (hs:∀x,foldedSetIterable Mo X.env x=pure x:=by intro _;rfl):Es X (.For tg Mo body [] pos) (ij fi gf fb):=PS.by (Fv hp hc hi.h hg.h hb.h hs) fun Z σ H zz92_0=>by
 obtain⟨B,F,E,r,k,q,w⟩:=zz92_0
 unfold ij at q
 cases hf:fi E with
 |none=>simp[hf]at q
 |some xs =>
  simp only[hf,Jd]at q
  refine⟨B,F,E,xs,k,hf,fun J F1 H1 x1 it=>?_⟩
  refine⟨fun i m σ' H'=>∃F' E',Ok B F' H' σ' E'/\Fr F1 F'/\i<=xs.length/\m=xs.length - i/\kF (fun x E1=>(gf x E1).bind fb) (xs.drop i) E'=some r,⟨_,F1,E,k.ext x1,fun _ _ e=>e,Ks _,rfl,q⟩,?_⟩
  rintro i m σ' H' ⟨F',E',k',y,hi,rfl,ql⟩
  have fitF:p_ B F' Z r:=w.mono fun a o e=>y a o (x1.fr a o e)
  obtain⟨st,gn⟩:=it i F' H' y k'.sub
  by_cases hlt:i < xs.length
  ·right
   have hx:xs[i]? = some xs[i]:=by simp[hlt]
   obtain⟨go,yl⟩:=gn _ hx
   rw[KZ hlt]at ql
   unfold kF at ql
   refine⟨go,fun σ2 H2=>∃F2 E2,Ok B F2 H2 σ2 E2/\Fr F1 F2/\kF (fun x E1=>(gf x E1).bind fb) (xs.drop (i + 1)) E2=some r,?_,?_⟩
   ·rintro σ2 H2 ⟨F2,E2,k2,y2,q2⟩
    exact⟨xs.length - (i + 1),⋯,F2,E2,k2,y2,hlt,rfl,q2⟩
   ·intro x H2 hy
    obtain⟨F3,x3,r3⟩:=yl x H2 hy
    cases hgf:gf xs[i] E' with
    |none=>simp[hgf]at ql
    |some E3 =>
     cases hfb:fb E3 with
     |none=>simp[hgf,hfb]at ql
     |some r1 =>
      simp only[hgf,hfb,Jd]at ql
      have k3:=k'.ext x3
      refine⟨B,F3,E',xs[i],E3,k3,r3,hgf,fun σ4 F4 H4 k4 x4=>⟨B,F4,E3,r1,k4,hfb,?_⟩⟩
      have y4:Fr F1 F4:=fun a o e=>x4.fr a o (x3.fr a o (y a o e))
      have f4:Fr F' F4:=fun a o e=>x4.fr a o (x3.fr a o e)
      cases r1 with
      |nx E5=>exact fun σ5 F5 H5 k5 y5=>⟨F5,E5,k5,fun a o e=>y5 a o (y4 a o e),ql⟩
      |ct E5=>exact fun σ5 F5 H5 k5 y5=>⟨F5,E5,k5,fun a o e=>y5 a o (y4 a o e),ql⟩
      |bk E5 =>
       simp only at ql
       cases ql
       exact fun σ5 F5 H5 k5 y5=>fitF σ5 F5 H5 k5 fun a o e=>y5 a o (f4 a o e)
      |rt d =>
       simp only at ql
       cases ql
       exact fitF
  ·left
   have e:i=xs.length:=by omega
   subst e
   refine⟨st rfl,?_⟩
   rw[LH]at ql
   cases ql
   exact fitF σ' F' H' k' fun _ _ e=>e
end
def ci(js:OJ)(E:DE):DE:=js.foldl (fun a j=>a.set j .no) E
theorem Ok.no{B:O8}{F H:Hp}{σ:St}{E:DE}(k:Ok B F H σ E)(i:Nat):Ok B F H σ (E.set i .no):=by
 have bk:∀(j:Nat) s,s ≠ Sl.no->(E.set i .no)[j]? = some s->E[j]? = some s:=fun j s hs h=>by
  rw[JK]at h
  split at h
  ·split at h
   ·simp at h;exact absurd h.symm hs
   ·simp at h
  ·exact h
 exact⟨k.ent,by rw[Ke];exact k.len,fun j d h=>k.val j d (bk j _ (by simp) h),fun j d h=>k.own j d (bk j _ (by simp) h),fun j l d e a hjl h1 h2=>k.sep j l d e a hjl (bk j _ (by simp) h1) (bk l _ (by simp) h2),
  let ⟨fp,q⟩:=k.ob; ⟨fp,q.to (fun _ _ e=>e) (fun j s h=>⟨bk j _ (by simp) h,rfl⟩) (fun j s h=>⟨bk j _ (by simp) h,rfl⟩) (fun j s h x hx=>⟨fun _ e=>e,(q.at_ j s (bk j _ (by simp) h)).2.2.2 x hx⟩) (fun j l s d b h1 h2=>q.sep j l s d b (bk j _ (by simp) h1) (bk l _ (by simp) h2))⟩⟩
theorem Ok.noS(k:Ok B F H σ E)(i:Nat):Ok B F H (σ.set i none) (E.set i .no):=by
 have bk:∀(j:Nat) s,s ≠ Sl.no->(E.set i .no)[j]? = some s->i ≠ j/\E[j]? = some s:=fun j s hs h=>by
  rw[JK]at h
  split at h
  ·split at h
   ·simp at h;exact absurd h.symm hs
   ·simp at h
  ·exact⟨by assumption,h⟩
 refine⟨k.ent,by rw[Ke,Ke];exact k.len,fun j d h=>?_,fun j d h=>?_,fun j l d e a hjl h1 h2 h3 h4=>?_,?_⟩
 ·obtain⟨n,h⟩:=bk j _ (by simp) h
  rw[JC n];exact k.val j d h
 ·obtain⟨n,h⟩:=bk j _ (by simp) h
  rw[JC n];exact k.own j d h
 ·obtain⟨n1,h1⟩:=bk j _ (by simp) h1
  obtain⟨n2,h2⟩:=bk l _ (by simp) h2
  rw[JC n1]at h3
  rw[JC n2]at h4
  exact k.sep j l d e a hjl h1 h2 h3 h4
 ·obtain⟨fp,q⟩:=k.ob
  exact⟨fp,q.to (fun _ _ e=>e) (fun j s h=>⟨(bk j _ (by simp) h).2,JC (bk j _ (by simp) h).1⟩) (fun j s h=>⟨(bk j _ (by simp) h).2,JC (bk j _ (by simp) h).1⟩)
   (fun j s h x hx=>⟨fun _ e=>e,(q.at_ j s (bk j _ (by simp) h).2).2.2.2 x hx⟩) (fun j l s e b h1 h2 h3=>by
    obtain⟨n2,h2⟩:=bk l _ (by simp) h2
    rw[JC n2]at h3
    exact q.sep j l s e b (bk j _ (by simp) h1).2 h2 h3)⟩
theorem Ok.mask(js:OJ):∀{E:DE},Ok B F H σ E->Ok B F H σ (ci js E):=by
 induction js with
 |nil=>intro E k;exact k
 |cons j r ih=>intro E k;exact ih (k.no j)
theorem Ok.maskS{B:O8}{F H:Hp}(js:OJ):∀{σ:St}{E:DE},Ok B F H σ E->Ok B F H (L2.maskS js σ) (ci js E):=by
 induction js with
 |nil=>intro σ E k;exact k
 |cons j r ih=>intro σ E k;exact ih (k.noS j)
theorem Ok.withD(k:Ok B F H σ E)(hp:H p=none):Ok (B.1,upd B.2 p o) F (upd H p o) σ E:=by
 have nb:∀a u,B.2 a=some u->a ≠ p:=fun a u e z=>by rw[z]at e;rw[k.ent.same p u e]at hp;cases hp
 obtain⟨fp,m⟩:=k.ob
 have np:∀(i:Nat) s,E[i]? = some (.obj s)->∀x ∈ fp i,x ≠ p:=fun i s h x hx z=>(m.at_ i s h).2.1.dom x hx (by rw[z];exact hp)
 refine⟨⟨fun a u e=>?_,k.ent.fr,fun a u e=>?_,fun a e n=>?_⟩,k.len,k.val,fun i d h=>?_,k.sep,
  fp,m.to (fun _ _ e=>e) (fun i s h=>⟨h,rfl⟩) (fun i s h=>⟨h,rfl⟩) (fun i s h x hx=>⟨fun u e=>by rw[ap (np i s h x hx)];exact e,((m.at_ i s h).2.2.2 x hx).1,by show upd B.2 p o x=none;rw[ap (np i s h x hx)];exact((m.at_ i s h).2.2.2 x hx).2⟩) m.sep⟩
 ·by_cases ha:a=p
  ·subst ha
   have e':upd B.2 a o a=some u:=e
   rw[ax]at e' ⊢;exact e'
  ·have e':upd B.2 p o a=some u:=e
   rw[ap ha]at e' ⊢;exact k.ent.same a u e'
 ·rw[ap (bV (k.sub a u e) hp)];exact k.sub a u e
 ·by_cases ha:a=p
  ·subst ha;exact nofr k.sub hp
  ·refine k.ent.new a e fun z=>n ?_
   show upd B.2 p o a=none
   rw[ap ha];exact z
 ·obtain⟨a,u,h1,h2,h3,h4,h5⟩:=k.own i d h
  have ha:a ≠ p:=bV h2 hp
  exact⟨a,u,h1,by rw[ap ha];exact h2,h3,by show upd B.2 p o a=none;rw[ap ha];exact h4,h5⟩
theorem Ok.stepD{B1 B2:Hp}(k:Ok (B1,upd B2 p o) F H σ E)(hb:B1 p=none):Ok (B1,upd B2 p o') F (upd H p o') σ E:=by
 have fp:F p=none:=k.ent.new p hb (by show upd B2 p o p ≠ none;rw[ax];simp)
 obtain⟨fq,m⟩:=k.ob
 have np:∀(i:Nat) s,E[i]? = some (.obj s)->∀x ∈ fq i,x ≠ p:=fun i s h x hx z=>by
  have q:upd B2 p o x=none:=((m.at_ i s h).2.2.2 x hx).2
  rw[z,ax]at q;cases q
 refine⟨⟨fun a u e=>?_,k.ent.fr,fun a u e=>?_,fun a e n=>?_⟩,k.len,k.val,fun i d h=>?_,k.sep,
  fq,m.to (fun _ _ e=>e) (fun i s h=>⟨h,rfl⟩) (fun i s h=>⟨h,rfl⟩) (fun i s h x hx=>⟨fun u e=>by rw[ap (np i s h x hx)];exact e,((m.at_ i s h).2.2.2 x hx).1,by
   have q:upd B2 p o x=none:=((m.at_ i s h).2.2.2 x hx).2
   rw[ap (np i s h x hx)]at q
   show upd B2 p o' x=none
   rw[ap (np i s h x hx)];exact q⟩) m.sep⟩
 ·by_cases ha:a=p
  ·subst ha
   have e':upd B2 a o' a=some u:=e
   rw[ax]at e' ⊢;exact e'
  ·have e':upd B2 p o' a=some u:=e
   rw[ap ha]at e' ⊢
   exact k.ent.same a u (by show upd B2 p o a=some u;rw[ap ha];exact e')
 ·rw[ap (fun z=>by rw[z,fp]at e;cases e)];exact k.sub a u e
 ·by_cases ha:a=p
  ·subst ha;exact fp
  ·have n':upd B2 p o' a ≠ none:=n
   rw[ap ha]at n'
   exact k.ent.new a e (by show upd B2 p o a ≠ none;rw[ap ha];exact n')
 ·obtain⟨a,u,h1,h2,h3,h4,h5⟩:=k.own i d h
  have ha:a ≠ p:=fun z=>by
   have h4':upd B2 p o a=none:=h4
   rw[z,ax]at h4';cases h4'
  have h4':upd B2 p o a=none:=h4
  rw[ap ha]at h4'
  exact⟨a,u,h1,by rw[ap ha];exact h2,h3,by show upd B2 p o' a=none;rw[ap ha];exact h4',h5⟩
theorem Ext.stepD(x:Ext F (upd H p o) F' H')(hf:F p=none):Ext F (upd H p o') F' (upd H' p o'):=by
 have fp:F' p=none:=x.new p hf (by rw[ax];simp)
 refine⟨fun a u e=>?_,x.fr,fun a u e=>?_,fun a e n=>?_⟩
 ·by_cases ha:a=p
  ·subst ha;rw[ax]at e ⊢;exact e
  ·rw[ap ha]at e ⊢;exact x.same a u (by rw[ap ha];exact e)
 ·rw[ap (fun z=>by rw[z,fp]at e;cases e)];exact x.sub a u e
 ·by_cases ha:a=p
  ·subst ha;exact fp
  ·rw[ap ha]at n
   exact x.new a e (by rw[ap ha];exact n)
def bJ(gf:OQ)(cf:OL)(ef:OF)(E:DE):List D->Option (List D)
 | []=>some []
 |x :: xs=>(gf x E).bind fun E1=>(cf E1).bind fun b=>if b=true then(ef E1).bind fun y=>(bJ gf cf ef E xs).map fun ys=>y :: ys else bJ gf cf ef E xs
def bO(js:OJ)(fi:OG)(gf:OQ)(cf:OL)(ef:OF)(E:DE):Option D :=
 (fi E).bind fun xs=>if xs.length<=sizeLine then(bJ gf cf ef (ci js E) xs).map D.lst else none
def pH(js:OJ)(gf:OQ):Prop:=∀d E E1,gf d (ci js E)=some E1->ci js E1=ci js E
theorem qW{js:OJ}{fi:OG}{gf:OQ}{cf:OL}{ef:OF}(hj:pH js gf)(σ:St)(H:Hp)(Q:VK)
  (h:tM .F (bO js fi gf cf ef) σ H Q):zO js (tIt fi) (tG gf) (tT cf) (tM .V ef) σ H Q:=by
 refine JS fun hn=>?_
 obtain⟨B,F,E,d,k,q,w⟩:=h
 unfold bO at q
 cases hf:fi E with
 |none=>simp[hf]at q
 |some xs =>
  simp only[hf,Jd]at q
  split at q
  ·rename_i hz
   cases hq:bJ gf cf ef (ci js E) xs with
   |none=>simp[hq]at q
   |some ys =>
    rw[hq]at q
    cases q
    refine hn ⟨B,F,E,xs,k,hf,fun J F1 H1 x1 it p hp=>?_⟩
    have k1:=k.ext x1
    have f1p:F1 p=none:=nofr x1.sub hp
    have b1p:B.1 p=none:=by
     cases z:B.1 p with
     |none=>rfl
     |some u=>rw[k1.ent.fr p u z]at f1p;cases f1p
    refine⟨fun i m σ' H'=>∃F' vs dn rs,Ok (B.1,upd B.2 p (.lst vs)) F' H' σ' (ci js E)/\Ext F1 (upd H1 p (.lst vs)) F' H'/\Reps F' vs dn/\i<=xs.length/\m=xs.length - i/\vs.length<=i/\bJ gf cf ef (ci js E) (xs.drop i)=some rs/\ys=dn ++ rs,
     ⟨_,F1,[],[],ys,((k1.maskS js).withD hp),Ext.refl fun a o e=>by rw[ap (bV (x1.sub a o e) hp)];exact x1.sub a o e,.nil,Ks _,rfl,Jw _,hq,rfl⟩,?_⟩
    intro i m σ' H' hw
    refine JS fun hn=>?_
    obtain⟨F',vs,dn,rs,k',x',rp,hi,rfl,hvi,hl,rfl⟩:=hw
    obtain⟨st,gn⟩:=it i F' H' x'.fr x'.sub
    have hHp:H' p=some (.lst vs):=x'.same p _ ax
    by_cases hlt:i < xs.length
    ·have hx:xs[i]? = some xs[i]:=by simp[hlt]
     obtain⟨go,yl⟩:=gn _ hx
     refine hn (.inr ⟨go,fun x H2 hy=>?_⟩)
     clear hn
     refine JS fun hn=>?_
     obtain⟨F3,x3,r3⟩:=yl x H2 hy
     rw[KZ hlt]at hl
     unfold bJ at hl
     cases h1:gf xs[i] (ci js E) with
     |none=>simp[h1]at hl
     |some E1 =>
      cases h2:cf E1 with
      |none=>simp[h1,h2]at hl
      |some b =>
       simp only[h1,h2,Jd]at hl
       refine hn ⟨_,F3,_,xs[i],E1,k'.ext x3,r3,h1,fun σ4 F4 H4 k4 x4=>⟨_,F4,E1,b,k4,h2,fun F5 H5 x5=>?_⟩⟩
       clear hn
       refine JS fun hn=>?_
       have x45:=(x3.trans x4).trans x5
       cases b with
       |false =>
        simp only[J9,L0]at hl
        refine hn (uC ⟨xs.length - (i + 1),⋯,F5,vs,dn,rs,?_,x'.trans x45,rp.mono x45.fr,hlt,rfl,⋯,hl,rfl⟩)
        have kk:=(k4.ext x5).mask js
        rw[hj _ _ _ h1]at kk
        exact kk
       |true =>
        cases h3:ef E1 with
        |none=>simp[h3]at hl
        |some y =>
         cases h4:bJ gf cf ef (ci js E) (xs.drop (i + 1)) with
         |none=>simp[h3,h4]at hl
         |some zs =>
          simp only[h3,h4,Jd,if_true,Jf]at hl
          cases hl
          refine hn (uB ⟨_,F5,E1,y,k4.ext x5,h3,fun v F6 H6 x6 r6=>⟨vs,(x45.trans x6).same p _ hHp,⋯,xs.length - (i + 1),⋯,F6,vs ++ [v],dn ++ [y],zs,?_,?_,?_,hlt,rfl,by rw[Jo];simp;omega,h4,by simp⟩⟩)
          ·have kk:=((k4.ext x5).ext x6).mask js
           rw[hj _ _ _ h1]at kk
           exact kk.stepD b1p
          ·exact(x'.trans (x45.trans x6)).stepD f1p
          ·exact(rp.mono (x45.trans x6).fr).append (.cons r6 .nil)
    ·have e:i=xs.length:=by omega
     subst e
     refine hn (.inl ⟨st rfl,?_⟩)
     rw[LH]at hl
     cases hl
     refine w _ F' H' (x1.trans ((Ext.lay x1.sub hp).trans x')) ⟨p,_,rfl,x1.nofree hp,hHp,x'.new p f1p (by rw[ax];simp),?_⟩
     rw[JZ]
     exact rp
  ·cases q
def noT(_:DE):Option Bool:=some true
theorem yF(σ:St)(H:Hp)(Q:PF)(h:tT noT σ H Q):Ed σ H Q:=by
 obtain⟨B,F,E,b,k,q,w⟩:=h
 cases q
 exact w F H (Ext.refl k.sub)
structure D_ (X:Cx) (ifs:OP) (f:OL):Prop where
 h:zv X ifs (tT f)
theorem bE:D_ X [] noT:=⟨fun Ml s σ H Q I h=>Ax Ml s σ H Q I (yF σ H Q h)⟩
theorem pb{c:Expr}{f:OL}(h:Et X c f):D_ X [c] f:=⟨Aw h.h⟩
section
variable {X:Cx}{scope:Scope}{js:OJ}{elt tg Mo:Expr}{ifs:OP}{pos:Pos}{fi:OG} {gf:OQ}{cf:OL}{ef:OF}
theorem bS(b:Blk X scope js)(hc:X.calm=true)(hI:Ei X tg Mo fi)(hj:pH js gf)(hg:∀C fp s0 H0,Eg (cS X scope C fp s0 H0) tg gf)(hi:∀C fp s0 H0,D_ (cS X scope C fp s0 H0) ifs cf)
  (he:∀C fp s0 H0,Ev (cS X scope C fp s0 H0) .V elt ef) (hs:∀x,foldedSetIterable Mo X.env x=pure x:=by intro _;rfl):Ev X .F (.ListComp elt [⟨tg,Mo,ifs,0⟩] scope pos) (bO js fi gf cf ef) :=
 PE.by (Da b hc hI.h (fun C fp s0 H0=>(hg C fp s0 H0).h) (fun C fp s0 H0=>(hi C fp s0 H0).h) (fun C fp s0 H0=>(he C fp s0 H0).h) hs) (qW hj)
end
def EI(sc:Scope)(N:OD)(scope:Scope)(js:OJ):Bool :=
 decide (scope.kind=.function) && scope.names.all (fun y=>decide (y.2 ≠ NameKind.cell)) && scope.names.all (fun y=>decide (y.2=NameKind.local->scope.names.lookup y.1=some NameKind.local)) &&
 scope.names.all (fun y=>decide (y.2=NameKind.free->sc.names.lookup y.1=some NameKind.cell\/sc.names.lookup y.1=some NameKind.free)) &&
 (List.range N.length).all (fun i=>decide (((N[i]?).bind fun x=>scope.names.lookup x)=some NameKind.local->i ∈ js))
theorem Blk.of{sc:Scope}{N:OD}{scope:Scope}{js:OJ}(h:EI sc N scope js=true)(h1:X.env.scope=sc)(h2:X.N=N):Blk X scope js:=by
 unfold EI at h
 simp only[JG,Kt,KQ]at h
 obtain⟨⟨⟨⟨a,b⟩,c⟩,d⟩,e⟩:=h
 refine⟨a,b,c,fun y hy hk=>?_,fun i x hi hx=>?_⟩
 ·show X.env.scope.names.lookup y.1=_\/X.env.scope.names.lookup y.1=_
  rw[h1];exact d y hy hk
 ·rw[h2]at hi
  refine e i (List.mem_range.mpr (List.getElem?_eq_some_iff.mp hi).1) ?_
  rw[hi];exact hx
theorem bj:pH [i] (nmG i):=fun d E E1 h=>by
 cases h
 show(((E.set i .no).set i (.val d)).set i .no)=E.set i .no
 rw[List.set_set,List.set_set]
end L2.Cu
namespace L2
open PySem PySem.Spec PyProof.Rows
def Its(x:Str):It:=⟨fun i _=>i < x.cps.size,fun i H v H'=>H'=H/\∃c,x.cps[i]? = some c/\v=.str ⟨#[c]⟩,fun i _=>i=x.cps.size⟩
theorem sY{P:Program}{w:World}{K:OE}{y:Str}{py:Pos}{x:Str}{t:Tok}{ty:String}{it:Addr}
  (W:∀A:Around,A.handled=none->Walks P w A it [it] [it] x.cps.size (SignAt x) (fun i h=>h.IsStrIter it ty x t i)) (MV:∀(A:Around) (i:Nat) (s:Shared) (Q:OA) (E:OA),s.heap.IsStrIter it ty x t i->Q (.ref it) s->wpAny (model P w) A (pyIter (.ref it)) Q E s) :
  vc P w K (.Name y py) (Its x) [it] it (fun i h=>h.IsStrIter it ty x t i) where
 mem:=by simp
 obj:=fun i h st b hb=>by
  have e:b=it:=by simpa using hb
  subst e
  obtain⟨o,ho,_,hd⟩:=st
  exact⟨o,ho,fun v z=>by rw[hd]at z;cases z⟩
 keep:=fun i h h' st k=>by
  obtain⟨o,ho,r⟩:=st
  exact⟨o,k it (by simp) o ho,r⟩
 item:=by
  intro X hP hw hK hc i Ml s σ H E I hf st hg
  subst hP hw hK
  obtain⟨f0,f1,f2,f3,f4,f5⟩:=hf it (by simp)
  refine(W _ (I.ok.hd hc)).item i s _ _ hg st fun v h' tk hv st' kk=>?_
  obtain⟨c,u,hcc,rfl⟩:=hv
  have I1:Inv X Ml σ H { s with heap:=h',toks:=tk }:=I.turned (fun b o hb e=>kk b o (by simpa using hb) e) f0 f1 f3 f4 f5
  exact⟨_,rfl,Jv ⟨.str ⟨#[c]⟩,H,I1,⟨u,rfl⟩,⟨rfl,c,hcc,rfl⟩,st',fun b hb=>(hf b hb).1⟩⟩
 done:=by
  intro X hP hw hK hc i Ml s σ H E I hf st hg
  subst hP hw hK
  obtain⟨f0,f1,f2,f3,f4,f5⟩:=hf it (by simp)
  have hi:i=x.cps.size:=hg
  subst hi
  exact(W _ (I.ok.hd hc)).done s _ _ st fun h' tk kk=>⟨rfl,I.turned (fun b o hb e=>kk b o (by simpa using hb) e) f0 f1 f3 f4 f5⟩
 self:=MV
def IT(tl:TE):TI:=fun σ H R=>tl σ H fun v H1=>∃x,v=.str x/\R (Its x) H1
theorem Fw{X:Cx}{y:Str}{py:Pos}{l:Expr}{tl:TE}(hl:PE X l tl):PI X (.Name y py) l (IT tl):=by
 intro Ml s σ H R I h
 refine thn (hl Ml s σ H _ I h) fun u s1 zz93_0=>?_
 obtain⟨v,H1,I1,r1,x,e,q⟩:=zz93_0
 subst e
 obtain⟨t,rfl⟩:=r1
 have ht:H1 s1.heap.objs.size=none:=I1.hok.fresh (Jw _)
 cases ha:x.cps.all (· < 128)
 ·refine wpAny_pyIter_wide ha ?_
  refine⟨s1.heap.objs.size,[s1.heap.objs.size],_,Its x,H1,rfl,I1.kept (t':=s1.toks) fun b o e=>Jp _ e,sY (t:=t) (ty := "str_iterator") (fun A hA=>Walks.strWide hA _ x t) (fun A i s Q E st hQ=>wpAny_pyIter_striter_wide st hQ),⟨_,Jx _ rfl,rfl,rfl⟩,fun b hb=>?_,q⟩
  have e:b=s1.heap.objs.size:=by simpa using hb
  subst e
  exact I1.fpOk (Jw _) ht
 ·refine wpAny_pyIter_ascii ha ?_
  refine⟨s1.heap.objs.size,[s1.heap.objs.size],_,Its x,H1,rfl,I1.kept (t':=s1.toks) fun b o e=>Jp _ e,sY (t:=t) (ty := "str_ascii_iterator") (fun A hA=>Walks.strAscii hA _ x t) (fun A i s Q E st hQ=>wpAny_pyIter_striter_ascii st hQ),⟨_,Jx _ rfl,rfl,rfl⟩,fun b hb=>?_,q⟩
  have e:b=s1.heap.objs.size:=by simpa using hb
  subst e
  exact I1.fpOk (Jw _) ht
section
variable {X:Cx}
theorem Dc:OpR X (binaryOp .Mult) (rI (fun i j=>Builtin.Int.intBits i<=2 ^ 20/\Builtin.Int.intBits j<=2 ^ 20) fun i j=>.int (i * j)):=opI fun _ _ _ _ _ _ _ hc q=>mul_int q (IntMulOk.of_bits hc.1 hc.2)
theorem AR:OpR X (binaryOp .FloorDiv) (rI (fun _ j=>0 < j/\j.natAbs.log2 < 9000) fun i j=>.int (i / j)):=opI fun i j _ _ _ _ _ hc q=>by
 refine floordiv_int ⋯ ?_ (.inl (PyProof.noPylong_of_log2 hc.2))
 rw[Int.fdiv_eq_ediv_of_nonneg _ ⋯]
 exact q
theorem yz:OpR X (compareOp .LtE) (fun x y H Q=>∃i j,x=.str i/\y=.str j/\Q (.bl (!decide (j.cps.toList < i.cps.toList))) H):=by
 intro Ml s σ H x y v u Q I rx ry h
 obtain⟨i,j,rfl,rfl,q⟩:=h
 obtain⟨t,rfl⟩:=rx
 obtain⟨t',rfl⟩:=ry
 exact PySem.P.le_str ⟨.bl _,H,I,rfl,q⟩
theorem EU:SlR X (fun x lo hi H Q=>∃z,x=.str z/\z.length<=sizeLine/\Q (.str (Txt.slice z lo hi)) H):=by
 intro Ml s σ H x v vl vu lo hi sl Q I rx hs pl pu h
 obtain⟨z,rfl,hz,q⟩:=h
 obtain⟨t,rfl⟩:=rx
 refine⟨"str",_,F.slot_str_getitem.lookup,Lo _ _ _,?_⟩
 have fin:∀(l u:Option (Int×Tok)),l.map (·.1)=lo->u.map (·.1)=hi->s.heap.IsSlice sl l u none->wpAny (model X.prog X.w) X.A (getItem (.str z t) (.ref sl)) (EP X Ml σ Q) X.xe s:=by
  intro l u hl hu hsl
  refine wpAny_getItem_str_slice hsl rfl ?_
  unfold sliceMade slicePicked
  rw[hl,hu]
  have e:Txt.slice z lo hi=if((1:Int) == 1 && (Builtin.Str.strSliceIndices lo hi 1 z.length).length == z.length)=true then z else⟨((Builtin.Str.strSliceIndices lo hi 1 z.length).filterMap (z.cps[·]?)).toArray⟩:=rfl
  rw[e]at q
  show(if((1:Int) == 1 && (Builtin.Str.strSliceIndices lo hi 1 z.length).length == z.length)=true then Made.val (.str z t) else Made.str ⟨((Builtin.Str.strSliceIndices lo hi 1 z.length).filterMap (z.cps[·]?)).toArray⟩).post _ s
  by_cases hc:((1:Int) == 1 && (Builtin.Str.strSliceIndices lo hi 1 z.length).length == z.length)=true
  ·rw[if_pos hc]at q ⊢
   exact⟨.str z,H,I,⟨t,rfl⟩,q⟩
  ·rw[if_neg hc]at q ⊢
   have Mp:(⟨((Builtin.Str.strSliceIndices lo hi 1 z.length).filterMap (z.cps[·]?)).toArray⟩:Str).length<=sizeLine:=by
    show((Builtin.Str.strSliceIndices lo hi 1 z.length).filterMap (z.cps[·]?)).toArray.size<=sizeLine
    rw[Jz]
    exact Jy (List.length_filterMap_le _ _) (Jy (sliceIndices_le lo hi z.length) hz)
   refine⟨Mp,?_⟩
   exact⟨.str _,H,I.tok _,⟨_,rfl⟩,q⟩
 obtain⟨o,ho,hc,hd⟩:=hs
 cases pl with
 |none =>
  cases pu with
  |none=>exact fin none none rfl rfl ⟨o,ho,hc,hd⟩
  |int j u=>exact fin none (some (j,u)) rfl rfl ⟨o,ho,hc,hd⟩
 |int i t' =>
  cases pu with
  |none=>exact fin (some (i,t')) none rfl rfl ⟨o,ho,hc,hd⟩
  |int j u=>exact fin (some (i,t')) (some (j,u)) rfl rfl ⟨o,ho,hc,hd⟩
theorem zK(A:Around)(its:OM)(bs:O0)(h:its.toList=bs.map Value.bool)(prog:Program)(w:World):TruthOf prog w A (fun i v=>its[i]? = some v) (fun i=>bs.getD i false):=by
 intro i v s Q E hv hq
 have e:its.toList[i]? = some v:=by simpa using hv
 rw[h,JH]at e
 cases hb:bs[i]? with
 |none=>rw[hb]at e;cases e
 |some b =>
  rw[hb]at e
  cases e
  have:bs.getD i false=b:=by rw[Kj,hb];rfl
  have hq':Q (bs.getD i false) s:=hq
  rw[this]at hq'
  exact KJ hq'
theorem yk(bs:O0):(List.range bs.length).all (fun i=>bs.getD i false)=bs.all id:=by
 have e:(List.range bs.length).map (fun i=>bs.getD i false)=bs:=by
  refine List.ext_getElem (by simp) fun i h1 h2=>?_
  simp[Jr h2]
 have:=JR (fun l=>l.all id) e
 simpa[Lh,Function.comp_def] using this
theorem yj(bs:O0):(List.range bs.length).any (fun i=>bs.getD i false)=bs.any id:=by
 have e:(List.range bs.length).map (fun i=>bs.getD i false)=bs:=by
  refine List.ext_getElem (by simp) fun i h1 h2=>?_
  simp[Jr h2]
 have:=JR (fun l=>l.any id) e
 simpa[List.any_map,Function.comp_def] using this
theorem nX:∀{bs:O0}{its:OH},aW (bs.map V.bl) its->its=bs.map Value.bool
 := fun {bs its} z=>by
  cases bs with
  |nil=>cases z;rfl
  |cons b bs =>
   cases z with
   |cons r t =>
    have e:_=Value.bool b:=r
    rw[e,nX t];rfl
theorem B_(hc:X.calm=true):dc X (.builtin "all") (fun xs H Q=>∃(a:Addr) (bs:O0),xs=[.ref a]/\H a=some (.lst (bs.map V.bl))/\Q (.bl (bs.all id)) H):=by
 intro Ml s σ H xs us Q I r h
 obtain⟨a,bs,rfl,ha,q⟩:=h
 obtain⟨u,rfl,ru⟩:=jw r
 obtain rfl:u=Value.ref a:=ru
 obtain⟨z,its,n,rv,hl,e⟩:=I.lstM ha
 have hit:=nX rv
 have hL:s.heap.IsList a its.toArray:=⟨_,e,rfl,n,rfl⟩
 have hlt:a < s.heap.objs.size:=Ju e
 have hh:X.A.in1.handled=none:=I.ok.hd hc
 have st0:(s.heap.push { cls:=.type "list_iterator",data:=.fields #[.ref a,.int 0 0] }).IsListIter s.heap.objs.size a 0/\(s.heap.push { cls:=.type "list_iterator",data:=.fields #[.ref a,.int 0 0] }).IsList a its.toArray:=⟨⟨_,Jx _ rfl,rfl,rfl⟩,⟨_,Jp _ e,rfl,n,rfl⟩⟩
 refine call_all_walk (LM hL ⟨_,_,_,_,_,_,_,rfl,Walks.list (A:=X.A.in1) hh _ a (JI hlt) its.toArray,st0,zK _ its.toArray bs (by simpa using hit) _ _,fun h' tk hk=>?_⟩)
 have hn:its.toArray.size=bs.length:=by rw[Jz,<-hl,Jm]
 rw[hn,yk]
 exact⟨.bl _,H,I.kept (t':=tk) fun b o eo=>hk b o (by simpa using JI (Ju eo)) (Jp _ eo),rfl,q⟩
theorem B9(hc:X.calm=true):dc X (.builtin "any") (fun xs H Q=>∃(a:Addr) (bs:O0),xs=[.ref a]/\H a=some (.lst (bs.map V.bl))/\Q (.bl (bs.any id)) H):=by
 intro Ml s σ H xs us Q I r h
 obtain⟨a,bs,rfl,ha,q⟩:=h
 obtain⟨u,rfl,ru⟩:=jw r
 obtain rfl:u=Value.ref a:=ru
 obtain⟨z,its,n,rv,hl,e⟩:=I.lstM ha
 have hit:=nX rv
 have hL:s.heap.IsList a its.toArray:=⟨_,e,rfl,n,rfl⟩
 have hlt:a < s.heap.objs.size:=Ju e
 have hh:X.A.in1.handled=none:=I.ok.hd hc
 have st0:(s.heap.push { cls:=.type "list_iterator",data:=.fields #[.ref a,.int 0 0] }).IsListIter s.heap.objs.size a 0/\(s.heap.push { cls:=.type "list_iterator",data:=.fields #[.ref a,.int 0 0] }).IsList a its.toArray:=⟨⟨_,Jx _ rfl,rfl,rfl⟩,⟨_,Jp _ e,rfl,n,rfl⟩⟩
 refine call_any_walk (LM hL ⟨_,_,_,_,_,_,_,rfl,Walks.list (A:=X.A.in1) hh _ a (JI hlt) its.toArray,st0,zK _ its.toArray bs (by simpa using hit) _ _,fun h' tk hk=>?_⟩)
 have hn:its.toArray.size=bs.length:=by rw[Jz,<-hl,Jm]
 rw[hn,yj]
 exact⟨.bl _,H,I.kept (t':=tk) fun b o eo=>hk b o (by simpa using JI (Ju eo)) (Jp _ eo),rfl,q⟩
theorem u9:dc X (.builtin "isinstance") (fun xs H Q=>∃x T t b,xs=[x,.ty T]/\jY X.K H x t/\PySem.W.kitOne X.K t (.type T)=some b/\Q (.bl b) H):=by
 intro Ml s σ H xs us Q I r h
 obtain⟨x,T,t,b,rfl,ty,e,q⟩:=h
 obtain⟨u,w',rfl,ru,rw'⟩:=zE r
 obtain rfl:w'=Value.type T:=rw'
 exact yT I ru ty e fun tk=>⟨.bl b,H,I.tok tk,rfl,q⟩
end
end L2
namespace L2.Cu
open PySem PySem.Spec PyProof.Rows
section
variable {F H:Hp}{v:V}
theorem OB.int{i:Int}(r:OB F H v (.int i)):v=.int i:=by
 rcases r with r |⟨a,o,h1,h2,h3⟩
 ·cases r;rfl
 ·cases o <;> exact False.elim h3
theorem OB.bl{i:Bool}(r:OB F H v (.bl i)):v=.bl i:=by
 rcases r with r |⟨a,o,h1,h2,h3⟩
 ·cases r;rfl
 ·cases o <;> exact False.elim h3
theorem OB.str{i:Str}(r:OB F H v (.str i)):v=.str i:=by
 rcases r with r |⟨a,o,h1,h2,h3⟩
 ·cases r;rfl
 ·cases o <;> exact False.elim h3
theorem OB.non(r:OB F H v .non):v=.non:=by
 rcases r with r |⟨a,o,h1,h2,h3⟩
 ·cases r;rfl
 ·cases o <;> exact False.elim h3
theorem OB.lst{ds:OK}(s:∀a u,F a=some u->H a=some u)(r:OB F H v (.lst ds)):∃a vs,v=.ref a/\H a=some (.lst vs)/\Reps F vs ds:=by
 rcases r with r |⟨a,o,h1,h2,h3⟩
 ·cases r with
  |lst e rs=>exact⟨_,_,rfl,s _ _ e,rs⟩
 ·cases o with
  |lst vs=>exact⟨a,vs,h1,h2,h3⟩
  |_=>exact False.elim h3
theorem Ff{H H':Hp}{a:Addr}{u:HO}(h:∀a o,H a=some o->H' a=some o)(r:Rd H a u):Rd H' a u:=r.elim (fun e=>.inl (h _ _ e)) fun zz94_0=>by obtain⟨o,e⟩:=zz94_0;exact .inr ⟨o,h _ _ e⟩
theorem sF{H:Hp}{a:Addr}{kvs:OY}{k:Key}(e:Rd H a (.dK kvs)):vf H a (kV k) (iw kvs k):=.inl ⟨kvs,k,e,rfl,rfl⟩
abbrev OX:=List (Key×D)
theorem OB.dic{ds:OX}(s:∀a u,F a=some u->H a=some u)(r:OB F H v (.dic ds)):∃a vs,v=.ref a/\Rd H a (.dK vs)/\RepK F vs ds:=by
 rcases r with r |⟨a,o,h1,h2,h3⟩
 ·cases r with
  |dic e rs=>exact⟨_,_,rfl,.inr ⟨_,s _ _ e⟩,rs⟩
 ·cases o with
  |dK vs=>exact⟨a,vs,h1,.inl h2,h3⟩
  |_=>exact False.elim h3
theorem OB.tup{ds:OK}(r:OB F H v (.tup ds)):∃a vs,v=.ref a/\F a=some (.tup vs)/\Reps F vs ds:=by
 rcases r with r |⟨a,o,h1,h2,h3⟩
 ·cases r with
  |tup e rs=>exact⟨_,_,rfl,e,rs⟩
 ·cases o <;> exact False.elim h3
theorem OB.scr{ns:Ow}(r:OB F H v (.scr ns)):∃a o,v=.ref a/\F a=some (.frz o (.lst (ns.map V.int))):=by
 rcases r with r |⟨a,o,h1,h2,h3⟩
 ·cases r with
  |scr e=>exact⟨_,_,rfl,e⟩
 ·cases o <;> exact False.elim h3
end
def eW:D->Option (List D)
 |.lst xs=>some xs
 |.tup xs=>some xs
 |_=>none
def gG(x:Str):List D:=x.cps.toList.map fun c=>.str ⟨#[c]⟩
def cJ:D->Option (List D)
 |.lst xs=>some xs
 |.tup xs=>some xs
 |.str x=>some (gG x)
 |_=>none
def f8(o:D->Option (List D))(f:OF)(E:DE):Option (List D):=(f E).bind o
section
variable {X:Cx}{e:Expr}{pos:Pos}
variable{F:Hp}
theorem Bs{K:OE}{a:Addr}{vs:ON}{ds:OK}(h:F a=some (.lst vs))(r:Reps F vs ds):wD F (Itl K a) ds:=by
 intro i F2 H2 y s
 have q:SqL K H2 a vs:=SqL.of (s _ _ (y _ _ h))
 refine⟨fun hl=>⟨vs,q,by rw[r.length,hl];exact Jw _⟩,fun d hd=>?_⟩
 obtain⟨v,hv,rv⟩:=r.get hd
 refine⟨⟨vs,v,q,hv⟩,fun x H' yl=>?_⟩
 obtain⟨rfl,yl⟩:=yl
 have e2:=yl vs q
 rw[hv]at e2
 cases e2
 exact⟨F2,Ext.refl s,rv.mono y⟩
theorem Br{K:OE}{a:Addr}{vs:ON}{ds:OK}(h:F a=some (.tup vs))(r:Reps F vs ds):wD F (Itt K a) ds:=by
 intro i F2 H2 y s
 have q:SqT K H2 a vs:=SqT.of (s _ _ (y _ _ h))
 refine⟨fun hl=>⟨vs,q,by rw[r.length,hl];exact Jw _⟩,fun d hd=>?_⟩
 obtain⟨v,hv,rv⟩:=r.get hd
 refine⟨⟨vs,v,q,hv⟩,fun x H' yl=>?_⟩
 obtain⟨rfl,yl⟩:=yl
 have e2:=yl vs q
 rw[hv]at e2
 cases e2
 exact⟨F2,Ext.refl s,rv.mono y⟩
theorem Ge(x:Str):wD F (Its x) (gG x):=by
 intro i F2 H2 y s
 have hl:(gG x).length=x.cps.size:=by simp[gG]
 refine⟨fun h=>by rw[hl]at h;exact h.symm,fun d hd=>?_⟩
 unfold gG at hd
 rw[JH]at hd
 cases hc:x.cps.toList[i]? with
 |none=>rw[hc]at hd;cases hd
 |some c =>
  rw[hc]at hd
  cases hd
  have hlt:i < x.cps.size:=by
   have:=(List.getElem?_eq_some_iff.mp hc).1
   simpa using this
  have hc':x.cps[i]? = some c:=by simpa using hc
  refine⟨hlt,fun z H' yl=>?_⟩
  obtain⟨rfl,c',h1,h2⟩:=yl
  rw[hc']at h1
  cases h1
  subst h2
  exact⟨F2,Ext.refl s,.str _⟩
theorem B4{tg:Expr}{f:OF}(h:Ev X .V e f):Ei X tg e (f8 eW f):=PI.by (PI.or (w5 h.h) (AA h.h)) fun σ H R zz95_0=>by
 obtain⟨B,F,E,xs,k,q,w⟩:=zz95_0
 unfold f8 at q
 cases hf:f E with
 |none=>simp[hf]at q
 |some d =>
  simp only[hf,Jd]at q
  cases d with
  |lst ds =>
   cases q
   refine .inl ⟨B,F,E,_,k,hf,fun v F' H' x r=>?_⟩
   cases r with
   |lst e rs=>exact⟨_,rfl,⟨_,SqL.of (x.sub _ _ e)⟩,w _ F' H' x (Bs e rs)⟩
  |tup ds =>
   cases q
   refine .inr ⟨B,F,E,_,k,hf,fun v F' H' x r=>?_⟩
   cases r with
   |tup e rs=>exact⟨_,rfl,⟨_,SqT.of (x.sub _ _ e)⟩,w _ F' H' x (Br e rs)⟩
  |_=>cases q
theorem eZ{y:Str}{py:Pos}{f:OF}(h:Ev X .V e f):Ei X (.Name y py) e (f8 cJ f):=PI.by (PI.or (Fw h.h) (PI.or (w5 h.h) (AA h.h))) fun σ H R zz96_0=>by
 obtain⟨B,F,E,xs,k,q,w⟩:=zz96_0
 unfold f8 at q
 cases hf:f E with
 |none=>simp[hf]at q
 |some d =>
  simp only[hf,Jd]at q
  cases d with
  |str z =>
   cases q
   refine .inl ⟨B,F,E,_,k,hf,fun v F' H' x r=>?_⟩
   cases r with
   |str=>exact⟨z,rfl,w _ F' H' x (Ge z)⟩
  |lst ds =>
   cases q
   refine .inr (.inl ⟨B,F,E,_,k,hf,fun v F' H' x r=>?_⟩)
   cases r with
   |lst e rs=>exact⟨_,rfl,⟨_,SqL.of (x.sub _ _ e)⟩,w _ F' H' x (Bs e rs)⟩
  |tup ds =>
   cases q
   refine .inr (.inr ⟨B,F,E,_,k,hf,fun v F' H' x r=>?_⟩)
   cases r with
   |tup e rs=>exact⟨_,rfl,⟨_,SqT.of (x.sub _ _ e)⟩,w _ F' H' x (Br e rs)⟩
  |_=>cases q
def eS(lo:Int)(n:Nat):List D:=(List.range n).map fun i=>.int (lo + (i:Nat))
def gc(ds:OK):Option (List D):=match ds with
 | [.int j]=>@ite _ (-(2 ^ 62)<=j/\j < 2 ^ 62) (Classical.propDecidable _) (some (eS 0 j.toNat)) none
 |_=>none
def Eh(ds:OK):Option (List D):=match ds with
 | [.int i,.int j]=>@ite _ ((-(2 ^ 62)<=i/\i < 2 ^ 62)/\(-(2 ^ 62)<=j/\j < 2 ^ 62)) (Classical.propDecidable _) (some (eS i (j - i).toNat)) none
 |_=>none
def jt(f:OG)(E:DE):Option (List D):=(f E).bind gc
def Io(f:OG)(E:DE):Option (List D):=(f E).bind Eh
theorem vA{ds xs:OK}(h:gc ds=some xs):∃j,ds=[.int j]:=by
 unfold gc at h
 split at h
 ·exact⟨_,rfl⟩
 ·cases h
theorem Gf(lo:Int)(n:Nat):wD F (Itr lo n) (eS lo n):=by
 intro i F2 H2 y s
 have hl:(eS lo n).length=n:=by simp[eS]
 refine⟨fun h=>by rw[hl]at h;exact Nat.le_of_eq h,fun d hd=>?_⟩
 unfold eS at hd
 rw[JH]at hd
 cases hc:(List.range n)[i]? with
 |none=>rw[hc]at hd;cases hd
 |some c =>
  rw[hc]at hd
  cases hd
  obtain⟨hlt,rfl⟩:=List.getElem?_eq_some_iff.mp hc
  rw[JV]at hlt
  refine⟨hlt,fun z H' yl=>?_⟩
  obtain⟨rfl,rfl⟩:=yl
  rw[L7]
  exact⟨F2,Ext.refl s,.int _⟩
theorem b9{tg a:Expr}{f:OG}{p:Pos}(hg:Gl X "range")(hm:X.mg "range" = none)(ha:Ea X [a] f)(hs:aO a=true:=by rfl):Ei X tg (.Call (.Name "range" p) [a] [] pos) (jt f) :=
 PI.by (yt hg hm ha.h (aD a [] X.env hs)) fun σ H R zz97_0=>by
  obtain⟨B,F,E,xs,k,q,w⟩:=zz97_0
  unfold jt at q
  cases hf:f E with
  |none=>simp[hf]at q
  |some ds =>
   rw[hf]at q
   refine⟨B,F,E,ds,k,hf,fun vs F' H' x r=>?_⟩
   obtain⟨j,rfl⟩:=vA q
   obtain⟨v1,ws,rfl,r1,r⟩:=r.c1
   obtain rfl:=r.c0
   cases r1
   ·have q':@ite _ (-(2 ^ 62)<=j/\j < 2 ^ 62) (Classical.propDecidable _) (some (eS 0 j.toNat)) none=some xs:=q
    by_cases hj : -(2 ^ 62)<=j/\j < 2 ^ 62
    ·rw[if_pos hj]at q'
     cases q'
     exact⟨j,rfl,hj.1,hj.2,w _ F' H' x (Gf 0 _)⟩
    ·rw[if_neg hj]at q';cases q'
end
def i2(g:Int->Int->Option D):D->D->Option D
 |.int i,.int j=>g i j
 |_,_=>none
variable{x y d:D}
theorem ke{g:Int->Int->Option D}(h:i2 g x y=some d):∃i j,x=.int i/\y=.int j/\g i j=some d:=by
 cases x <;> cases y <;> simp[i2]at h
 exact⟨_,_,rfl,rfl,h⟩
def vn:D->D->Option D:=i2 fun i j=>some (.int (i - j))
theorem E6:gq .V (rI0 fun i j=>.int (i - j)) vn:=fun F H v w x y d Q s rx ry h q=>by
 obtain⟨i,j,rfl,rfl,h'⟩:=ke h
 cases h'
 exact⟨i,j,rx.int,ry.int,q _ F H (Ext.refl s) (.int _)⟩
def Do:D->D->Option D:=i2 fun i j=>if Builtin.Int.intBits i<=2 ^ 20/\Builtin.Int.intBits j<=2 ^ 20 then some (.int (i * j)) else none
theorem Fa:gq .V (rI (fun i j=>Builtin.Int.intBits i<=2 ^ 20/\Builtin.Int.intBits j<=2 ^ 20) fun i j=>.int (i * j)) Do:=fun F H v w x y d Q s rx ry h q=>by
 obtain⟨i,j,rfl,rfl,h'⟩:=ke h
 split at h'
 ·rename_i hc
  cases h'
  exact⟨i,j,rx.int,ry.int,hc,q _ F H (Ext.refl s) (.int _)⟩
 ·cases h'
def a9:D->D->Option D:=i2 fun i j=>if 0 < j then some (.int (i % j)) else none
theorem Fb:gq .V (rI (fun _ j=>0 < j) fun i j=>.int (i % j)) a9:=fun F H v w x y d Q s rx ry h q=>by
 obtain⟨i,j,rfl,rfl,h'⟩:=ke h
 split at h'
 ·rename_i hc
  cases h'
  exact⟨i,j,rx.int,ry.int,hc,q _ F H (Ext.refl s) (.int _)⟩
 ·cases h'
def aS:D->D->Option D:=i2 fun i j=>if 0 < j/\j.natAbs.log2 < 9000 then some (.int (i / j)) else none
theorem CO:gq .V (rI (fun _ j=>0 < j/\j.natAbs.log2 < 9000) fun i j=>.int (i / j)) aS:=fun F H v w x y d Q s rx ry h q=>by
 obtain⟨i,j,rfl,rfl,h'⟩:=ke h
 split at h'
 ·rename_i hc
  cases h'
  exact⟨i,j,rx.int,ry.int,hc,q _ F H (Ext.refl s) (.int _)⟩
 ·cases h'
def lG:D->D->Option D:=i2 fun i j=>if 0<=j/\j<=1000000/\i.natAbs < 2 ^ 64 then some (.int (i ^ j.toNat)) else none
theorem E7:gq .V (rI H8 fun i j=>.int (i ^ j.toNat)) lG:=fun F H v w x y d Q s rx ry h q=>by
 obtain⟨i,j,rfl,rfl,h'⟩:=ke h
 split at h'
 ·rename_i hc
  cases h'
  exact⟨i,j,rx.int,ry.int,hc,q _ F H (Ext.refl s) (.int _)⟩
 ·cases h'
def FG(pi:Int->Int->Bool)(ps:List Nat->List Nat->Bool):D->D->Option D
 |.int i,.int j=>some (.bl (pi i j))
 |.str i,.str j=>some (.bl (ps i.cps.toList j.cps.toList))
 |_,_=>none
def ltD:D->D->Option D:=FG (fun i j=>decide (i < j)) fun i j=>decide (i < j)
def leD:D->D->Option D:=FG (fun i j=>decide (i<=j)) fun i j => !decide (j < i)
def gtD:D->D->Option D:=i2 fun i j=>some (.bl (decide (j < i)))
theorem uc{pi:Int->Int->Bool}{ps:List Nat->List Nat->Bool}(h:FG pi ps x y=some d) :
  (∃i j,x=.int i/\y=.int j/\d=.bl (pi i j))\/∃i j,x=.str i/\y=.str j/\d=.bl (ps i.cps.toList j.cps.toList):=by
 match x,y,h with
 |.int i,.int j,h=>exact .inl ⟨i,j,rfl,rfl,(Js h).symm⟩
 |.str i,.str j,h=>exact .inr ⟨i,j,rfl,rfl,(Js h).symm⟩
theorem Ek:gq .V (fun x y H Q=>(rI0 fun i j=>.bl (decide (i < j))) x y H Q\/∃i j,x=.str i/\y=.str j/\Q (.bl (decide (i.cps.toList < j.cps.toList))) H) ltD:=fun F H v w x y d Q s rx ry h q=>by
 rcases uc h with⟨i,j,rfl,rfl,rfl⟩ |⟨i,j,rfl,rfl,rfl⟩
 ·exact .inl ⟨_,_,rx.int,ry.int,q _ F H (Ext.refl s) (.bl _)⟩
 ·exact .inr ⟨_,_,rx.str,ry.str,q _ F H (Ext.refl s) (.bl _)⟩
theorem El:gq .V (fun x y H Q=>(rI0 fun i j=>.bl (decide (i<=j))) x y H Q\/∃i j,x=.str i/\y=.str j/\Q (.bl (!decide (j.cps.toList < i.cps.toList))) H) leD:=fun F H v w x y d Q s rx ry h q=>by
 rcases uc h with⟨i,j,rfl,rfl,rfl⟩ |⟨i,j,rfl,rfl,rfl⟩
 ·exact .inl ⟨_,_,rx.int,ry.int,q _ F H (Ext.refl s) (.bl _)⟩
 ·exact .inr ⟨_,_,rx.str,ry.str,q _ F H (Ext.refl s) (.bl _)⟩
theorem Em:gq .V (rI0 fun i j=>.bl (decide (j < i))) gtD:=fun F H v w x y d Q s rx ry h q=>by
 obtain⟨i,j,rfl,rfl,h'⟩:=ke h
 cases h'
 exact⟨i,j,rx.int,ry.int,q _ F H (Ext.refl s) (.bl _)⟩
section
variable {X:Cx}{a b:Expr}{pos:Pos}{f g:OF}
theorem BN(ha:Ev X .O a f)(hb:Ev X .O b g):Ev X .V (.BinOp a .Sub b pos) (bin vn f g):=k9 FI E6 ha hb
theorem aN(ha:Ev X .O a f)(hb:Ev X .O b g):Ev X .V (.BinOp a .Mod b pos) (bin a9 f g):=k9 FK Fb ha hb
theorem aU(ha:Ev X .O a f)(hb:Ev X .O b g):Ev X .V (.BinOp a .FloorDiv b pos) (bin aS f g):=k9 AR CO ha hb
theorem mP(ha:Ev X .O a f)(hb:Ev X .O b g):Ev X .V (.BinOp a .Pow b pos) (bin lG f g):=k9 FJ E7 ha hb
theorem AO:OpR X (compareOp .Lt) (fun x y H Q=>(rI0 fun i j=>.bl (decide (i < j))) x y H Q\/∃i j,x=.str i/\y=.str j/\Q (.bl (decide (i.cps.toList < j.cps.toList))) H):=OpR.or Hv yy
theorem AQ:OpR X (compareOp .LtE) (fun x y H Q=>(rI0 fun i j=>.bl (decide (i<=j))) x y H Q\/∃i j,x=.str i/\y=.str j/\Q (.bl (!decide (j.cps.toList < i.cps.toList))) H):=OpR.or Hw yz
end
mutual
def toP:D->PyData
 |.non=>.none
 |.bl b=>.bool b
 |.int i=>.int i
 |.str x=>.str x
 |.tup xs=>.tuple (toPs xs)
 |.lst xs=>.list (toPs xs)
 |.dic _=>.dict []
 |.scr _=>.dict []
def toPs:List D->List PyData
 | []=>[]
 |x :: xs=>toP x :: toPs xs
end
section
variable {X:Cx}{Ml:OC} {σ:St}{F H:Hp}{s:Shared}
mutual
theorem Rep.reads(I:Inv X Ml σ H s)(hs:∀a o,F a=some o->H a=some o):∀{v:V}{d:D}{u:Value},Rep F v d->bi v u->(toP d).canLay0=true->∃as,Reads s.heap u (toP d) as
 := fun {v d u} q r c=>by
  refine JS fun hn=>?_
  cases q with
  |non=>cases r;exact hn ⟨_,.none⟩
  |bl b=>cases r;exact hn ⟨_,.bool b⟩
  |int i=>obtain⟨t,rfl⟩:=r;exact hn ⟨_,.int i t⟩
  |str x=>obtain⟨t,rfl⟩:=r;exact hn ⟨_,.str x t⟩
  |@tup a vs ds e rs =>
   cases r
   obtain⟨its,rv,ht,hz⟩:=I.tuple (SqT.of (hs _ _ e))
   obtain⟨o,ho,hc,n,hd⟩:=ht
   have c':PyData.canLayAll0 (toPs ds)=true:=by simpa[toP,PyData.canLay0] using c
   obtain⟨as,ra⟩:=Reps.reads I hs rs rv c'
   exact hn ⟨_,by rw[toP];exact .tuple ho hc hd (by simpa using ra)⟩
  |@lst a vs ds e rs =>
   cases r
   obtain⟨z,its,n,rv,hl,ho⟩:=I.lstM (hs _ _ e)
   have c':PyData.canLayAll0 (toPs ds)=true:=by simpa[toP,PyData.canLay0] using c
   obtain⟨as,ra⟩:=Reps.reads I hs rs rv c'
   exact hn ⟨_,by rw[toP];exact .list ho rfl rfl (by simpa using ra)⟩
  |dic _ _=>simp[toP,PyData.canLay0]at c
  |scr _=>simp[toP,PyData.canLay0]at c
theorem Reps.reads(I:Inv X Ml σ H s)(hs:∀a o,F a=some o->H a=some o):∀{vs:ON}{ds:OK}{us:OH},Reps F vs ds->aW vs us->PyData.canLayAll0 (toPs ds)=true->∃as,ReadsAll s.heap us (toPs ds) as
 := fun {vs ds us} z w c=>by
  refine JS fun hn=>?_
  cases z with
  |nil=>cases w;exact hn ⟨_,.nil⟩
  |@cons v d vs ds r rs =>
   cases w with
   |cons q qs =>
    have c':(toP d).canLay0=true/\PyData.canLayAll0 (toPs ds)=true:=by simpa[toPs,PyData.canLayAll0] using c
    obtain⟨as,h1⟩:=Rep.reads I hs r q c'.1
    obtain⟨bs,h2⟩:=Reps.reads I hs rs qs c'.2
    exact hn ⟨_,by rw[toPs];exact .cons h1 h2⟩
end
theorem OB.reads(I:Inv X Ml σ H s)(hs:∀a o,F a=some o->H a=some o){v:V}{d:D}{u:Value}(r:OB F H v d)(q:bi v u)(c:(toP d).canLay0=true):∃as,Reads s.heap u (toP d) as:=by
 rcases r with r |⟨a,o,rfl,h2,h3⟩
 ·exact Rep.reads I hs r q c
 ·cases q
  cases o with
  |lst vs =>
   cases d with
   |lst ds =>
    obtain⟨z,its,n,rv,hl,ho⟩:=I.lstM h2
    have c':PyData.canLayAll0 (toPs ds)=true:=by simpa[toP,PyData.canLay0] using c
    obtain⟨as,ra⟩:=Reps.reads I hs (show Reps F vs ds from h3) rv c'
    exact⟨_,by rw[toP];exact .list ho rfl rfl (by simpa using ra)⟩
   |_=>exact False.elim h3
  |dK vs =>
   cases d with
   |dic ds=>simp[toP,PyData.canLay0]at c
   |_=>exact False.elim h3
  |_=>exact False.elim h3
end
def wZ(neg:Bool)(u:Nat):R2:=fun v w H Q=>∃F x y,(∀a o,F a=some o->H a=some o)/\OB F H v x/\OB F H w y/\(toP x).canLay0=true/\(toP y).canLay0=true/\u + min (toP x).depth (toP y).depth < cLine /\
 Q (.bl (if neg then !PyData.eqv (toP x) (toP y) else PyData.eqv (toP x) (toP y))) H
section
variable {X:Cx}
theorem qv:OpR X (compareOp .Eq) (wZ false X.A.units):=by
 intro Ml s σ H v w u z Q I rv rw h
 obtain⟨F,x,y,hs,ox,oy,cx,cy,hu,q⟩:=h
 obtain⟨as,ra⟩:=ox.reads I hs rv cx
 obtain⟨bs,rb⟩:=oy.reads I hs rw cy
 exact SeqAt.rcAt_reads ra rb cx cy hu X.prog X.w X.xe _ ⟨.bl _,H,I,rfl,q⟩
theorem yx:OpR X (compareOp .NotEq) (wZ true X.A.units):=by
 intro Ml s σ H v w u z Q I rv rw h
 obtain⟨F,x,y,hs,ox,oy,cx,cy,hu,q⟩:=h
 obtain⟨as,ra⟩:=ox.reads I hs rv cx
 obtain⟨bs,rb⟩:=oy.reads I hs rw cy
 exact SeqAt.compareNe_reads ra rb cx cy hu ⟨.bl _,H,I,rfl,q⟩
end
def scD:D->D->Option Bool
 |.str x,.str y=>some (decide (x=y))
 |.int x,.int y=>some (decide (x=y))
 |.bl x,.bl y=>some (decide (x=y))
 |_,_=>none
def gb(x:D):Bool:=(toP x).canLay0 && decide ((toP x).depth<=60)
def eqD(x y:D):Option Bool:=match scD x y with
 |some b=>some b
 |none=>if gb x && gb y then some (PyData.eqv (toP x) (toP y)) else none
def eqO(x y:D):Option D:=(eqD x y).map D.bl
def neO(x y:D):Option D:=(eqD x y).map fun b=>.bl (!b)
theorem qQ{b:Bool}(h:eqD x y=some b):(∃i j,x=.str i/\y=.str j/\b=decide (i=j))\/(∃i j,x=.int i/\y=.int j/\b=decide (i=j))\/(∃i j,x=.bl i/\y=.bl j/\b=decide (i=j)) \/
  (gb x=true/\gb y=true/\b=PyData.eqv (toP x) (toP y)):=by
 unfold eqD at h
 cases hs:scD x y with
 |some c =>
  rw[hs]at h
  cases h
  match x,y,hs with
  |.str i,.str j,hs=>exact .inl ⟨i,j,rfl,rfl,(Js hs).symm⟩
  |.int i,.int j,hs=>exact .inr (.inl ⟨i,j,rfl,rfl,(Js hs).symm⟩)
  |.bl i,.bl j,hs=>exact .inr (.inr (.inl ⟨i,j,rfl,rfl,(Js hs).symm⟩))
 |none =>
  rw[hs]at h
  have h':(if(gb x && gb y)=true then some (PyData.eqv (toP x) (toP y)) else none)=some b:=h
  split at h'
  ·rename_i hc
   obtain⟨h1,h2⟩:=Bool.and_eq_true_iff.mp hc
   exact .inr (.inr (.inr ⟨h1,h2,(Js h').symm⟩))
  ·cases h'
theorem Aj(u:Nat)(hu:u + 64 < cLine):gq .V (fun x y H Q=>rEq x y H Q\/wZ false u x y H Q) eqO:=fun F H v w x y d Q s rx ry h q=>by
 unfold eqO at h
 cases he:eqD x y with
 |none=>rw[he]at h;cases h
 |some b =>
  rw[he]at h
  cases h
  have fin:=q (.bl b) F H (Ext.refl s) (.bl b)
  rcases qQ he with⟨i,j,rfl,rfl,rfl⟩ |⟨i,j,rfl,rfl,rfl⟩ |⟨i,j,rfl,rfl,rfl⟩ |⟨h1,h2,rfl⟩
  ·left;cases rx.str;cases ry.str;exact⟨rfl,by simpa using fin⟩
  ·left;cases rx.int;cases ry.int;exact⟨rfl,by simpa using fin⟩
  ·left;cases rx.bl;cases ry.bl;exact⟨rfl,by simpa using fin⟩
  ·right
   obtain⟨a1,a2⟩:=Bool.and_eq_true_iff.mp h1
   obtain⟨b1,b2⟩:=Bool.and_eq_true_iff.mp h2
   have:=KB a2
   exact⟨F,x,y,s,rx,ry,a1,b1,⋯,fin⟩
theorem E_(u:Nat)(hu:u + 64 < cLine):gq .V (fun x y H Q=>rNe x y H Q\/wZ true u x y H Q) neO:=fun F H v w x y d Q s rx ry h q=>by
 unfold neO at h
 cases he:eqD x y with
 |none=>rw[he]at h;cases h
 |some b =>
  rw[he]at h
  cases h
  have fin:=q (.bl (!b)) F H (Ext.refl s) (.bl (!b))
  rcases qQ he with⟨i,j,rfl,rfl,rfl⟩ |⟨i,j,rfl,rfl,rfl⟩ |⟨i,j,rfl,rfl,rfl⟩ |⟨h1,h2,rfl⟩
  ·left;cases rx.str;cases ry.str;exact⟨rfl,by simpa using fin⟩
  ·left;cases rx.int;cases ry.int;exact⟨rfl,by simpa using fin⟩
  ·left;cases rx.bl;cases ry.bl;exact⟨rfl,by simpa using fin⟩
  ·right
   obtain⟨a1,a2⟩:=Bool.and_eq_true_iff.mp h1
   obtain⟨b1,b2⟩:=Bool.and_eq_true_iff.mp h2
   have:=KB a2
   exact⟨F,x,y,s,rx,ry,a1,b1,⋯,fin⟩
def da:D->Bool
 |.non |.bl _ |.int _ |.str _=>true
 |_=>false
def toV:D->V
 |.bl b=>.bl b
 |.int i=>.int i
 |.str x=>.str x
 |_=>.non
theorem uK{F:Hp}{v:V}(r:Rep F v d)(h:da d=true):v=toV d/\jJ v=true:=by
 cases r <;> first |exact⟨rfl,rfl⟩ |cases h
theorem iI{F:Hp}:∀{vs:ON}{ds:OK},Reps F vs ds->ds.all da=true->vs=ds.map toV/\vs.all jJ=true
 := fun z h=>by
  cases z with
  |nil=>exact⟨rfl,rfl⟩
  |cons r t =>
   rw[Kl,JG]at h
   obtain⟨e1,f1⟩:=uK r h.1
   obtain⟨e2,f2⟩:=iI t h.2
   subst e1 e2
   exact⟨rfl,by rw[Kl,f1,f2];rfl⟩
def inD(x y:D):Option Bool:=match x,y with
 |.str i,.str j=>some (!(Builtin.Str.occurrences j i 0 j.length 1).isEmpty)
 |x,.tup ds=>if da x && ds.all da then some (inV (toV x) (ds.map toV)) else none
 |x,.lst ds=>if da x && ds.all da then some (inV (toV x) (ds.map toV)) else none
 |_,_=>none
theorem qG{b:Bool}(h:inD x y=some b):(∃i j,x=.str i/\y=.str j/\b = !(Builtin.Str.occurrences j i 0 j.length 1).isEmpty) \/
  (∃ds,(y=.tup ds\/y=.lst ds)/\da x=true/\ds.all da=true/\b=inV (toV x) (ds.map toV)):=by
 cases y with
 |str j =>
  cases x with
  |str i=>exact .inl ⟨i,j,rfl,rfl,(Js h).symm⟩
  |_=>cases h
 |tup ds =>
  have h':(if da x && ds.all da then some (inV (toV x) (ds.map toV)) else none)=some b:=by cases x <;> exact h
  split at h'
  ·rename_i hc
   obtain⟨h1,h2⟩:=Bool.and_eq_true_iff.mp hc
   exact .inr ⟨ds,.inl rfl,h1,h2,(Js h').symm⟩
  ·cases h'
 |lst ds =>
  have h':(if da x && ds.all da then some (inV (toV x) (ds.map toV)) else none)=some b:=by cases x <;> exact h
  split at h'
  ·rename_i hc
   obtain⟨h1,h2⟩:=Bool.and_eq_true_iff.mp hc
   exact .inr ⟨ds,.inr rfl,h1,h2,(Js h').symm⟩
  ·cases h'
 |_=>cases x <;> cases h
theorem xu{F H:Hp}{v:V}(r:OB F H v d)(h:da d=true):v=toV d/\jJ v=true:=by
 rcases r with r |⟨a,o,h1,h2,h3⟩
 ·exact uK r h
 ·cases o <;> cases d <;> first |exact False.elim h3 |cases h
def inO(x y:D):Option D:=(inD x y).map D.bl
def Dk(x y:D):Option D:=(inD x y).map fun b=>.bl (!b)
variable{K:OE}
theorem Hb:gq .V (fun x y H Q=>(∃i j,x=.str i/\y=.str j/\Q (.bl (!(Builtin.Str.occurrences j i 0 j.length 1).isEmpty)) H)\/rIn K false x y H Q) inO:=fun F H v w x y d Q s rx ry h q=>by
 unfold inO at h
 cases he:inD x y with
 |none=>rw[he]at h;cases h
 |some b =>
  rw[he]at h
  cases h
  have fin:=q (.bl b) F H (Ext.refl s) (.bl b)
  rcases qG he with⟨i,j,rfl,rfl,rfl⟩ |⟨ds,hy,h1,h2,rfl⟩
  ·exact .inl ⟨i,j,rx.str,ry.str,fin⟩
  ·right
   obtain⟨ex,fx⟩:=xu rx h1
   rcases hy with rfl |rfl
   ·obtain⟨a,vs,rfl,ha,rs⟩:=ry.tup
    obtain⟨e2,f2⟩:=iI rs h2
    subst e2
    exact⟨a,_,rfl,.inr (SqT.of (s _ _ ha)),fx,f2,by rw[ex];exact fin⟩
   ·obtain⟨a,vs,rfl,ha,rs⟩:=OB.lst s ry
    obtain⟨e2,f2⟩:=iI rs h2
    subst e2
    exact⟨a,_,rfl,.inl (SqL.of ha),fx,f2,by rw[ex];exact fin⟩
theorem E9:gq .V (fun x y H Q=>(∃i j,x=.str i/\y=.str j/\Q (.bl (!(!(Builtin.Str.occurrences j i 0 j.length 1).isEmpty))) H)\/rIn K true x y H Q) Dk:=fun F H v w x y d Q s rx ry h q=>by
 unfold Dk at h
 cases he:inD x y with
 |none=>rw[he]at h;cases h
 |some b =>
  rw[he]at h
  cases h
  have fin:=q (.bl (!b)) F H (Ext.refl s) (.bl (!b))
  rcases qG he with⟨i,j,rfl,rfl,rfl⟩ |⟨ds,hy,h1,h2,rfl⟩
  ·exact .inl ⟨i,j,rx.str,ry.str,fin⟩
  ·right
   obtain⟨ex,fx⟩:=xu rx h1
   rcases hy with rfl |rfl
   ·obtain⟨a,vs,rfl,ha,rs⟩:=ry.tup
    obtain⟨e2,f2⟩:=iI rs h2
    subst e2
    exact⟨a,_,rfl,.inr (SqT.of (s _ _ ha)),fx,f2,by rw[ex];exact fin⟩
   ·obtain⟨a,vs,rfl,ha,rs⟩:=OB.lst s ry
    obtain⟨e2,f2⟩:=iI rs h2
    subst e2
    exact⟨a,_,rfl,.inl (SqL.of ha),fx,f2,by rw[ex];exact fin⟩
def ixD(x y:D):Option D:=match x,y with
 |.lst xs,.int i=>atI xs i
 |.tup xs,.int i=>atI xs i
 |.str z,.int i=>if z.length<=sizeLine then(atI z.cps.toList i).map fun c=>.str ⟨#[c]⟩ else none
 |.scr ns,.int i=>(atI ns i).map D.int
 |_,_=>none
theorem Reps.atI{F:Hp}{vs:ON}{ds:OK}(r:Reps F vs ds){i:Int}{d:D}(h:L2.atI ds i=some d):∃v,L2.atI vs i=some v/\Rep F v d:=by
 unfold L2.atI at h ⊢
 rw[r.length]
 cases hx:ixN ds.length i with
 |none=>rw[hx]at h;cases h
 |some j=>rw[hx]at h;exact r.get h
theorem Ha:gq .V (rIx K) ixD:=fun F H v w x y d Q s rx ry h q=>by
 cases y with
 |int i =>
  cases ry.int
  cases x with
  |lst xs =>
   obtain⟨a,vs,rfl,ha,rs⟩:=OB.lst s rx
   obtain⟨u,hu,ru⟩:=rs.atI (show atI xs i=some d from h)
   exact .inl ⟨a,vs,i,u,rfl,rfl,SqL.of ha,hu,q u F H (Ext.refl s) ru⟩
  |tup xs =>
   obtain⟨a,vs,rfl,ha,rs⟩:=rx.tup
   obtain⟨u,hu,ru⟩:=rs.atI (show atI xs i=some d from h)
   exact .inr (.inl ⟨a,vs,i,u,rfl,rfl,SqT.of (s _ _ ha),hu,q u F H (Ext.refl s) ru⟩)
  |str z =>
   cases rx.str
   have h':(if z.length<=sizeLine then(atI z.cps.toList i).map (fun c=>D.str ⟨#[c]⟩) else none)=some d:=h
   split at h'
   ·rename_i hz
    cases hc:atI z.cps.toList i with
    |none=>rw[hc]at h';cases h'
    |some c =>
     rw[hc]at h'
     cases h'
     exact .inr (.inr ⟨z,i,c,rfl,rfl,hz,hc,q _ F H (Ext.refl s) (.str _)⟩)
   ·cases h'
  |scr ns =>
   obtain⟨a,o,rfl,ha⟩:=rx.scr
   have h':(atI ns i).map D.int=some d:=h
   cases hc:atI ns i with
   |none=>rw[hc]at h';cases h'
   |some c =>
    rw[hc]at h'
    cases h'
    refine .inl ⟨a,_,i,.int c,rfl,rfl,.inl (.inr ⟨o,s _ _ ha⟩),?_,q _ F H (Ext.refl s) (.int _)⟩
    unfold atI at hc ⊢
    rw[Jm]
    cases hx:ixN ns.length i with
    |none=>rw[hx]at hc;cases hc
    |some j =>
     rw[hx]at hc
     show(ns.map V.int)[j]? = _
     have hc':ns[j]? = some c:=hc
     rw[JH,hc'];rfl
  |_=>cases h
 |_=>cases x <;> cases h
def cN{α:Type}(xs:List α)(lo hi:Oq):List α:=(xs.drop (HT.sIx xs.length 0 lo)).take (HT.sIx xs.length xs.length hi - HT.sIx xs.length 0 lo)
def noP(_:DE):Option (Option Int):=some none
def cE(f:OF)(E:DE):Option (Option Int):=(f E).bind fun d=>match d with
 |.int i=>some (some i)
 |_=>none
abbrev O4:=DE->Option (Option Int)
def tP(f:O4):TO:=fun σ H Q=>∃B F E o,Ok B F H σ E/\f E=some o/\∀F' H',Ext F H F' H'->Q o H'
structure Ep (X:Cx) (e:Option Expr) (f:O4):Prop where
 h:PO X e (tP f)
variable{X:Cx}
theorem PO.by{e:Option Expr}{t:TO}{f:O4}(h:PO X e t)(w:∀σ H Q,tP f σ H Q->t σ H Q):Ep X e f:=⟨fun Ml s σ H Q I q=>h Ml s σ H Q I (w σ H Q q)⟩
theorem cA:Ep X none noP:=PO.by C3 fun σ H Q ⟨B,F,E,o,k,q,w⟩=>by cases q;exact w F H (Ext.refl k.sub)
theorem bY{e:Expr}{f:OF}(h:Ev X .V e f):Ep X (some e) (cE f):=PO.by (w4 h.h) fun σ H Q zz99_0=>by
 obtain⟨B,F,E,o,k,q,w⟩:=zz99_0
 unfold cE at q
 cases hf:f E with
 |none=>simp[hf]at q
 |some d =>
  rw[hf]at q
  cases d with
  |int i =>
   cases q
   exact⟨B,F,E,_,k,hf,fun v F' H' x r=>⟨i,by cases r;rfl,w F' H' x⟩⟩
  |_=>cases q
def slD(x:D)(lo hi:Oq):Option D:=match x with
 |.lst xs=>some (.lst (cN xs lo hi))
 |.scr ns=>some (.lst ((cN ns lo hi).map D.int))
 |.tup xs=>some (.tup (cN xs lo hi))
 |.str z=>if z.length<=sizeLine then some (.str (Txt.slice z lo hi)) else none
 |_=>none
def bG(f:OF)(l h:O4)(E:DE):Option D:=(f E).bind fun x=>(l E).bind fun lo=>(h E).bind fun hi=>slD x lo hi
theorem B7{α β:Type}(g:α->β)(xs:List α)(lo hi:Oq):cN (xs.map g) lo hi=(cN xs lo hi).map g:=by
 unfold cN
 rw[Jm,K7,Lz]
theorem vp:SlR X (fun x lo hi H Q=>∃a xs,x=.ref a/\SqT X.K H a xs/\(HT.sIx xs.length 0 lo=0/\HT.sIx xs.length xs.length hi=xs.length)/\Q (.ref a) H):=by
 intro Ml s σ H x v vl vu lo hi sl Q I rx hs pl pu h
 obtain⟨a,xs,rfl,hx,⟨hw1,hw2⟩,q⟩:=h
 cases rx
 obtain⟨its,r,ht,hz⟩:=I.tuple hx
 have Mp:its.toArray.size=xs.length:=by rw[Jz];exact r.length.symm
 refine⟨"tuple",_,PyProof.Rows.slot_tuple_getitem.lookup,ht.typeIs,?_⟩
 obtain⟨os,hos,hcs,hds⟩:=id hs
 have hTs:s.TypeIs (.ref sl) "slice" := ⟨os,hos,hcs⟩
 unfold getItem
 try with_reducible refine KC ?_
 first |refine Jn (Jv ?_) |skip
 refine Jn (wpAny_sequenceKey ht.typeIs nofun ?_)
 refine Jn (KO (name:=Str.ofString "__getitem__") ht.typeIs KF (K_ KF ht.typeIs entry_tuple_getitem ?_ (args_tuple_getitem _ _)))
 show wpAny _ _ (Builtin.Tuple.tupleItemsOf (.ref a) >>= _) _ _ s
 refine Jn (tupleItemsOf_ ht ?_)
 refine Jn (LD hTs ?_)
 rw[if_pos nofun]
 refine Jn (HT.sliceApplied_gen hs pl pu ?_)
 rw[Mp,hw1,hw2]
 dsimp only
 rw[if_pos (by simp)]
 refine Jn (m:=Builtin.Tuple.tupleIsExact (.ref a)) ?_
 unfold Builtin.Tuple.tupleIsExact
 refine Jn (LD ht.typeIs (Jv ?_))
 rw[if_pos nofun]
 exact Jn (Mi (Jv ⟨_,rfl,Jv ⟨.ref a,H,I,rfl,q⟩⟩))
end L2.Cu
namespace L2
open PySem PySem.Spec PyProof.Rows
theorem AS{X:Cx}:OpR X (binaryOp .Add) (fun x y H Q=>∃a b ys,x=.ref a/\y=.ref b/\SqT X.K H a []/\SqT X.K H b ys/\Q (.ref b) H):=by
 intro Ml s σ H x y v u Q I rx ry h
 obtain⟨a,b,ys,rfl,rfl,ha,hb,q⟩:=h
 cases rx
 cases ry
 obtain⟨its,r1,p1,_⟩:=I.tuple ha
 obtain⟨its2,r2,p2,_⟩:=I.tuple hb
 have e0:its=[]:=r1.nil_iff.mpr rfl
 subst e0
 obtain⟨⟨cls,dd,data,sl⟩,ho,hc,n,hd⟩:=id p1
 obtain⟨⟨cls2,dd2,data2,sl2⟩,ho2,hc2,n2,hd2⟩:=id p2
 simp only at hc hd hc2 hd2
 subst hc hd hc2 hd2
 exact concat_meets ⟨_,ho,rfl⟩ ⟨_,ho2,rfl⟩ noFill_tuple_add seq_tuple_add LK Ly (Lq _ _)
  (tuple_addW0 a b [].toArray its2.toArray n n2 dd dd2 sl sl2 (by simp)) ⟨ho,ho2,⟨.ref b,H,I,rfl,q⟩⟩
end L2
namespace L2.Cu
open PySem PySem.Spec PyProof.Rows
section
variable {X:Cx}{a b e:Expr}{pos p2:Pos}{f g:OF}
def ay(x y:D):Option D:=match x,y with
 |.int i,.int j=>some (.int (i + j))
 |.str i,.str j=>if i.length + j.length<=sizeLine then some (.str (i ++ j)) else none
 |.tup i,.tup j=>if i.length + j.length<=sizeLine then some (.tup (i ++ j)) else none
 |.lst i,.lst j=>if i.length + j.length<=sizeLine then some (.lst (i ++ j)) else none
 |_,_=>none
def Al(K:OE):R2:=fun x y H Q=>(((rI0 fun i j=>.int (i + j)) x y H Q\/∃i j,x=.str i/\y=.str j/\i.length + j.length<=sizeLine/\Q (.str (i ++ j)) H)\/(Eo K x y H Q\/∃a b ys,x=.ref a/\y=.ref b/\SqT K H a []/\SqT K H b ys/\Q (.ref b) H))\/Hl x y H Q
theorem xb:OpR X (binaryOp .Add) (Al X.K):=OpR.or (OpR.or (OpR.or FN vK) (OpR.or Dd AS)) FM
variable{K:OE}
theorem Fi:gq .V (Al K) ay:=fun F H v w x y d Q s rx ry h q=>by
 match x,y,h with
 |.int i,.int j,h =>
  cases Js h
  exact .inl (.inl (.inl ⟨i,j,rx.int,ry.int,q _ F H (Ext.refl s) (.int _)⟩))
 |.str i,.str j,h =>
  have h':(if i.length + j.length<=sizeLine then some (D.str (i ++ j)) else none)=some d:=h
  split at h'
  ·rename_i hz
   cases Js h'
   exact .inl (.inl (.inr ⟨i,j,rx.str,ry.str,hz,q _ F H (Ext.refl s) (.str _)⟩))
  ·cases h'
 |.tup i,.tup j,h =>
  have h':(if i.length + j.length<=sizeLine then some (D.tup (i ++ j)) else none)=some d:=h
  split at h'
  ·rename_i hz
   cases Js h'
   obtain⟨p,vs,rfl,hp,rp⟩:=rx.tup
   obtain⟨r,ws,rfl,hr,rr⟩:=ry.tup
   by_cases he:vs=[]
   ·subst he
    cases rp
    exact .inl (.inr (.inr ⟨p,r,ws,rfl,rfl,SqT.of (s _ _ hp),SqT.of (s _ _ hr),q _ F H (Ext.refl s) (.tup hr rr)⟩))
   ·refine .inl (.inr (.inl ⟨p,r,vs,ws,rfl,rfl,SqT.of (s _ _ hp),SqT.of (s _ _ hr),he,by rw[rp.length,rr.length];exact hz,fun hw=>?_,fun _ c hc=>?_⟩))
    ·subst hw
     cases rr
     exact q _ F H (Ext.refl s) (.tup hp (by rw[JZ];exact rp))
    ·have x2:=Ext.freeze (o:=HO.tup (vs ++ ws)) s hc
     exact q _ _ _ x2 (.tup ax ((rp.append rr).mono x2.fr))
  ·cases h'
 |.lst i,.lst j,h =>
  have h':(if i.length + j.length<=sizeLine then some (D.lst (i ++ j)) else none)=some d:=h
  split at h'
  ·rename_i hz
   cases Js h'
   obtain⟨p,vs,rfl,hp,rp⟩:=OB.lst s rx
   obtain⟨r,ws,rfl,hr,rr⟩:=OB.lst s ry
   refine .inr ⟨p,r,vs,ws,rfl,rfl,hp,hr,by rw[rp.length,rr.length];exact hz,fun c hc=>?_⟩
   have x2:=Ext.freeze (o:=HO.lst (vs ++ ws)) s hc
   exact q _ _ _ x2 (.lst ax ((rp.append rr).mono x2.fr))
  ·cases h'
theorem ar(ha:Ev X .O a f)(hb:Ev X .O b g):Ev X .V (.BinOp a .Add b pos) (bin ay f g):=k9 xb Fi ha hb
theorem uP(hr:X.A.units + 64 < cLine)(ha:Ev X .O a f)(hb:Ev X .O b g):Ev X .V (.Compare a [.Eq] [b] pos) (bin eqO f g):=wg (OpR.or Ey qv) (Aj _ hr) ha hb (i_ _)
theorem cM(hr:X.A.units + 64 < cLine)(ha:Ev X .O a f)(hb:Ev X .O b g):Et X (.Compare a [.Eq] [b] pos) (tst (bin eqO f g)):=sB (OpR.or Ey qv) (Aj _ hr) ha hb (i_ _)
theorem uS(hr:X.A.units + 64 < cLine)(ha:Ev X .O a f)(hb:Ev X .O b g):Et X (.Compare a [.NotEq] [b] pos) (tst (bin neO f g)):=sB (OpR.or Hu yx) (E_ _ hr) ha hb (i_ _)
theorem HN(ha:Ev X .O a f)(hb:Ev X .O b g):Ev X .V (.Compare a [.Lt] [b] pos) (bin ltD f g):=wg AO Ek ha hb (i_ _)
theorem BS(ha:Ev X .O a f)(hb:Ev X .O b g):Et X (.Compare a [.Lt] [b] pos) (tst (bin ltD f g)):=sB AO Ek ha hb (i_ _)
theorem EH(ha:Ev X .O a f)(hb:Ev X .O b g):Et X (.Compare a [.Gt] [b] pos) (tst (bin gtD f g)):=sB Ex Em ha hb (i_ _)
theorem EG(ha:Ev X .O a f)(hb:Ev X .O b g):Ev X .V (.Compare a [.Gt] [b] pos) (bin gtD f g):=wg Ex Em ha hb (i_ _)
theorem sw{c:Expr}{h:OF}(ha:Ev X .O a f)(hb:Ev X .O b g)(hc:Ev X .O c h)(hm:lastMarks [.LtE,.LtE] [b,c]=false:=by with_unfolding_all rfl):Ev X .V (.Compare a [.LtE,.LtE] [b,c] pos) (mh leD leD f g h):=BR AQ El AQ El ha hb hc hm
def Ip(K:OE):V->Option Int->Option Int->Hp->VK->Prop:=fun x lo hi H Q=>(He K x lo hi H Q\/∃z,x=.str z/\z.length<=sizeLine/\Q (.str (Txt.slice z lo hi)) H) \/
 (Hc K x lo hi H Q\/∃a xs,x=.ref a/\SqT K H a xs/\(HT.sIx xs.length 0 lo=0/\HT.sIx xs.length xs.length hi=xs.length)/\Q (.ref a) H)
theorem EV:SlR X (Ip X.K):=SlR.or (SlR.or CD EU) (SlR.or ET vp)
theorem Reps.cut{F:Hp}{vs:ON}{ds:OK}(r:Reps F vs ds)(lo hi:Oq):Reps F (nE vs lo hi) (cN ds lo hi):=by
 unfold nE cN
 rw[r.length]
 exact(r.drop _).take _
theorem bD{lo hi:Option Expr}{l h:O4}(ha:Ev X .O e f)(hl:Ep X lo l)(hh:Ep X hi h):Ev X .V (.Subscript e (.Slice lo hi none p2) pos) (bG f l h):=PE.by (AD EV ha.h hl.h hh.h) fun σ H Q zz100_0=>by
 obtain⟨B,F,E,d,k,q,w⟩:=zz100_0
 unfold bG at q
 cases h1:f E with
 |none=>simp[h1]at q
 |some x =>
  cases h2:l E with
  |none=>simp[h1,h2]at q
  |some lo =>
   cases h3:h E with
   |none=>simp[h1,h2,h3]at q
   |some hi =>
    simp only[h1,h2,h3,Jd]at q
    refine⟨B,F,E,x,k,h1,fun v F1 H1 x1 r1=>⟨B,F1,E,lo,k.ext x1,h2,fun F2 H2 x2=>⟨B,F2,E,hi,(k.ext x1).ext x2,h3,fun F3 H3 x3=>?_⟩⟩⟩
    have x13:=(x1.trans x2).trans x3
    have r3:OB F3 H3 v x:=OB.ext (x2.trans x3) r1
    have s:=x3.sub
    cases x with
    |lst xs =>
     cases Js q
     obtain⟨p,vs,rfl,hp,rp⟩:=OB.lst s r3
     refine .inl (.inl ⟨p,vs,rfl,SqL.of hp,fun c hc=>?_⟩)
     have x4:=Ext.freeze (o:=HO.lst (nE vs lo hi)) s hc
     exact w _ _ _ (x13.trans x4) (.lst ax ((rp.cut lo hi).mono x4.fr))
    |scr ns =>
     cases Js q
     obtain⟨p,o,rfl,hp⟩:=r3.scr
     refine .inl (.inl ⟨p,_,rfl,.inl (.inr ⟨o,s _ _ hp⟩),fun c hc=>?_⟩)
     have x4:=Ext.freeze (o:=HO.lst (nE (ns.map V.int) lo hi)) s hc
     refine w _ _ _ (x13.trans x4) (.lst ax ?_)
     have e1:nE (ns.map V.int) lo hi=(cN ns lo hi).map V.int:=B7 V.int ns lo hi
     rw[e1]
     exact Reps.ints _
    |tup xs =>
     cases Js q
     obtain⟨p,vs,rfl,hp,rp⟩:=r3.tup
     by_cases hw:HT.sIx vs.length 0 lo=0/\HT.sIx vs.length vs.length hi=vs.length
     ·refine .inr (.inr ⟨p,vs,rfl,SqT.of (s _ _ hp),hw,?_⟩)
      refine w _ F3 H3 x13 ?_
      have:cN xs lo hi=xs:=by
       unfold cN
       rw[<-rp.length,hw.1,hw.2,rp.length]
       simp
      rw[this]
      exact .tup hp rp
     ·refine .inr (.inl ⟨p,vs,rfl,SqT.of (s _ _ hp),hw,fun c hc=>?_⟩)
      have x4:=Ext.freeze (o:=HO.tup (nE vs lo hi)) s hc
      exact w _ _ _ (x13.trans x4) (.tup ax ((rp.cut lo hi).mono x4.fr))
    |str z =>
     have q':(if z.length<=sizeLine then some (D.str (Txt.slice z lo hi)) else none)=some d:=q
     split at q'
     ·rename_i hz
      cases Js q'
      exact .inl (.inr ⟨z,r3.str,hz,w _ F3 H3 x13 (.str _)⟩)
     ·cases q'
    |_=>cases q
def FV:D->Option D
 |.lst xs=>some (.int xs.length)
 |.tup xs=>some (.int xs.length)
 |.scr xs=>some (.int xs.length)
 |.str x=>if x.length<=sizeLine then some (.int x.length) else none
 |_=>none
theorem Fd:m3 .V (fun xs H Q=>∃x n,xs=[x]/\GH K x H n/\Q (.int n) H) FV:=fun F H v x d Q s rx h q=>by
 match x,h with
 |.lst xs,h =>
  cases Js h
  obtain⟨p,vs,rfl,hp,rp⟩:=OB.lst s rx
  exact⟨_,xs.length,rfl,.inl ⟨vs,SqL.of hp,rp.length.symm⟩,q _ F H (Ext.refl s) (.int _)⟩
 |.tup xs,h =>
  cases Js h
  obtain⟨p,vs,rfl,hp,rp⟩:=rx.tup
  exact⟨_,xs.length,rfl,.inr ⟨vs,SqT.of (s _ _ hp),rp.length.symm⟩,q _ F H (Ext.refl s) (.int _)⟩
 |.scr ns,h =>
  cases Js h
  obtain⟨p,o,rfl,hp⟩:=rx.scr
  exact⟨_,ns.length,rfl,.inl ⟨_,.inl (.inr ⟨o,s _ _ hp⟩),by rw[Jm]⟩,q _ F H (Ext.refl s) (.int _)⟩
 |.str z,h =>
  have h':(if z.length<=sizeLine then some (D.int z.length) else none)=some d:=h
  split at h'
  ·rename_i hz
   cases Js h'
   cases rx.str
   exact⟨_,z.length,rfl,⟨hz,rfl⟩,q _ F H (Ext.refl s) (.int _)⟩
  ·cases h'
def nF:List D->Option (List Bool)
 | []=>some []
 |.bl b :: r=>(nF r).map fun bs=>b :: bs
 |_=>none
theorem mT:∀{ds:OK}{bs:O0},nF ds=some bs->ds=bs.map D.bl
 | [],bs,h=>by cases h;rfl
 |.bl b :: r,bs,h=>by
  unfold nF at h
  cases hr:nF r with
  |none=>rw[hr]at h;cases h
  |some cs =>
   rw[hr]at h
   cases h
   rw[mT hr];rfl
def wy:D->Option D
 |.lst xs=>(nF xs).map fun bs=>.bl (bs.all id)
 |_=>none
def D5:D->Option D
 |.lst xs=>(nF xs).map fun bs=>.bl (bs.any id)
 |_=>none
theorem Fh:m3 .V (fun xs H Q=>∃(a:Addr) (bs:O0),xs=[.ref a]/\H a=some (.lst (bs.map V.bl))/\Q (.bl (bs.all id)) H) wy:=fun F H v x d Q s rx h q=>by
 match x,h with
 |.lst xs,h =>
  have h':((nF xs).map fun bs=>D.bl (bs.all id))=some d:=h
  cases hb:nF xs with
  |none=>rw[hb]at h';cases h'
  |some bs =>
   rw[hb]at h'
   cases h'
   obtain⟨p,vs,rfl,hp,rp⟩:=OB.lst s rx
   rw[mT hb]at rp
   rw[Reps.bls rp]at hp
   exact⟨p,bs,rfl,hp,q _ F H (Ext.refl s) (.bl _)⟩
theorem Fg:m3 .V (fun xs H Q=>∃(a:Addr) (bs:O0),xs=[.ref a]/\H a=some (.lst (bs.map V.bl))/\Q (.bl (bs.any id)) H) D5:=fun F H v x d Q s rx h q=>by
 match x,h with
 |.lst xs,h =>
  have h':((nF xs).map fun bs=>D.bl (bs.any id))=some d:=h
  cases hb:nF xs with
  |none=>rw[hb]at h';cases h'
  |some bs =>
   rw[hb]at h'
   cases h'
   obtain⟨p,vs,rfl,hp,rp⟩:=OB.lst s rx
   rw[mT hb]at rp
   rw[Reps.bls rp]at hp
   exact⟨p,bs,rfl,hp,q _ F H (Ext.refl s) (.bl _)⟩
variable{p:Pos}
theorem sy(hc:X.calm=true)(hg:Gl X "all")(hm:X.mg "all" = none)(hv:bootBuiltins "all" = some (.builtin "all"))(ha:Ev X .O e f)(he:aO e=true:=by rfl):Ev X .V (.Call (.Name "all" p) [e] [] pos) (un wy f) :=
 l_ (B_ hc) Fh hg hm hv ha nofun nofun he
theorem Gq(hc:X.calm=true)(hg:Gl X "any")(hm:X.mg "any" = none)(hv:bootBuiltins "any" = some (.builtin "any"))(ha:Ev X .O e f)(he:aO e=true:=by rfl):Ev X .V (.Call (.Name "any" p) [e] [] pos) (un D5 f) :=
 l_ (B9 hc) Fg hg hm hv ha nofun nofun he
def tyN:D->String
 |.non => "NoneType" |.bl _ => "bool" |.int _ => "int" |.str _ => "str" |.tup _ => "tuple" |.lst _ => "list" |.dic _ => "dict" |.scr _ => "list"
def jH(t T:String):Bool:=t == T || (t == "bool" && T == "int")
def kT(T:String):Bool:=T == "str" || T == "int" || T == "bool" || T == "tuple" || T == "list" || T == "dict"
theorem Ec{F H:Hp}{v:V}{d:D}(s:∀a u,F a=some u->H a=some u)(r:OB F H v d):jY K H v (.type (tyN d)):=by
 cases d with
 |non=>rw[r.non];exact .non
 |bl b=>rw[r.bl];exact .bl b
 |int i=>rw[r.int];exact .int i
 |str x=>rw[r.str];exact .str x
 |tup xs=>obtain⟨p,vs,rfl,hp,_⟩:=r.tup;exact .tup (s _ _ hp)
 |lst xs=>obtain⟨p,vs,rfl,hp,_⟩:=OB.lst s r;exact .lst hp
 |dic xs=>obtain⟨p,vs,rfl,hp,_⟩:=OB.dic s r;exact hp.elim (fun h=>.dK h) fun zz101_0=>by obtain⟨_,h⟩:=zz101_0;exact .frzD h
 |scr ns=>obtain⟨p,o,rfl,hp⟩:=r.scr;exact .frz (s _ _ hp)
theorem se(K:OE)(d:D){T:String}(h:kT T=true):PySem.W.kitOne K (.type (tyN d)) (.type T)=some (jH (tyN d) T):=by
 have hT:T = "str"\/T = "int"\/T = "bool"\/T = "tuple"\/T = "list"\/T = "dict" := by simpa[kT,or_assoc] using h
 rcases hT with rfl |rfl |rfl |rfl |rfl |rfl <;> cases d <;> rfl
def isF(T:String)(f:OF)(E:DE):Option D:=(f E).map fun d=>.bl (jH (tyN d) T)
theorem cL{p px:Pos}{x:Str}{T:String}(hT:kT T=true)(hg:Gl X "isinstance")(hm:X.mg "isinstance" = none)(hv:bootBuiltins "isinstance" = some (.builtin "isinstance"))(hgx:Gl X x)(hmx:X.mg x=none)(hvx:bootBuiltins x=some (.type T))
  (ha:Ev X .O e f) (hn:x ≠ "__name__" := by decide) (hd:(x == ("__debug__" : Str))=false:=by decide) (he:aO e=true:=by rfl):Ev X .V (.Call (.Name "isinstance" p) [e,.Name x px] [] pos) (isF T f) :=
 PE.by (iA u9 hg hm hv (bR ha.h (bR (nL hgx hmx hvx (v:=.ty T) rfl hn hd) ek (aD _ [] X.env rfl)) (aD e [.Name x px] X.env he)) nofun nofun (aD e [.Name x px] X.env he) (dN pos X.env [.Name x px] rfl)) fun σ H Q zz102_0=>by
  obtain⟨B,F,E,d,k,q,w⟩:=zz102_0
  unfold isF at q
  cases hf:f E with
  |none=>simp[hf]at q
  |some x =>
   simp only[hf,Jf]at q
   cases q
   exact⟨B,F,E,x,k,hf,fun v F' H' x1 r1=>⟨v,T,_,_,rfl,Ec x1.sub r1,se X.K x hT,w _ F' H' x1 (.bl _)⟩⟩
def bU:D->Option D
 |.lst xs=>some (.tup xs)
 |.tup xs=>some (.tup xs)
 |_=>none
def jG:D->Option D
 |.lst xs=>some (.lst xs)
 |.tup xs=>some (.lst xs)
 |_=>none
theorem Ah:m3 .V (fun xs H Q=>∃p ys,xs=[.ref p]/\((SqL K H p ys/\∀l,H l=none->Q (.ref l) (upd H l (.tup ys)))\/(SqT K H p ys/\Q (.ref p) H))) bU:=fun F H v x d Q s rx h q=>by
 match x,h with
 |.lst xs,h =>
  cases Js h
  obtain⟨p,vs,rfl,hp,rp⟩:=OB.lst s rx
  refine⟨p,vs,rfl,.inl ⟨SqL.of hp,fun c hc=>?_⟩⟩
  have x4:=Ext.freeze (o:=HO.tup vs) s hc
  exact q _ _ _ x4 (.tup ax (rp.mono x4.fr))
 |.tup xs,h =>
  cases Js h
  obtain⟨p,vs,rfl,hp,rp⟩:=rx.tup
  exact⟨p,vs,rfl,.inr ⟨SqT.of (s _ _ hp),q _ F H (Ext.refl s) (.tup hp rp)⟩⟩
theorem CM:m3 .F (fun xs H Q=>∃p ys,xs=[.ref p]/\(SqL K H p ys\/SqT K H p ys)/\∀l,H l=none->Q (.ref l) (upd H l (.lst ys))) jG:=fun F H v x d Q s rx h q=>by
 match x,h with
 |.lst xs,h =>
  cases Js h
  obtain⟨p,vs,rfl,hp,rp⟩:=OB.lst s rx
  exact⟨p,vs,rfl,.inl (SqL.of hp),fun c hc=>q _ F _ (Ext.lay s hc) ⟨c,_,rfl,hc,ax,nofr s hc,rp⟩⟩
 |.tup xs,h =>
  cases Js h
  obtain⟨p,vs,rfl,hp,rp⟩:=rx.tup
  exact⟨p,vs,rfl,.inr (SqT.of (s _ _ hp)),fun c hc=>q _ F _ (Ext.lay s hc) ⟨c,_,rfl,hc,ax,nofr s hc,rp⟩⟩
theorem cK(hg:Gl X "tuple")(hm:X.mg "tuple" = none)(hv:bootBuiltins "tuple" = some (.type "tuple"))(ha:Ev X .O e f)(he:aO e=true:=by rfl):Ev X .V (.Call (.Name "tuple" p) [e] [] pos) (un bU f) :=
 we p8 Ah hg hm hv ha nofun nofun he
theorem ki(hg:Gl X "list")(hm:X.mg "list" = none)(hv:bootBuiltins "list" = some (.type "list"))(ha:Ev X .O e f)(he:aO e=true:=by rfl):Ev X .F (.Call (.Name "list" p) [e] [] pos) (un jG f) :=
 we sK CM hg hm hv ha nofun nofun he
end
variable{gf:OQ}
theorem zg{js:OJ}{fi:OG}{cf:OL}{ef:OF}:∀E d,bO js fi gf cf ef E=some d->∃xs,d=.lst xs:=fun E d h=>by
 unfold bO at h
 cases h1:fi E with
 |none=>rw[h1]at h;cases h
 |some xs =>
  rw[h1]at h
  have h':(if xs.length<=sizeLine then(bJ gf cf ef (ci js E) xs).map D.lst else none)=some d:=h
  split at h'
  ·cases h2:bJ gf cf ef (ci js E) xs with
   |none=>rw[h2]at h';cases h'
   |some ys=>rw[h2]at h';cases h';exact⟨_,rfl⟩
  ·cases h'
theorem BF{f:OF}(hl:∀E d,f E=some d->∃xs,d=.lst xs)(σ:St)(H:Hp)(Q:VK)(h:tM .V f σ H Q):tM .F f σ H Q:=by
 obtain⟨B,F,E,d,k,q,w⟩:=h
 refine⟨B,F,E,d,k,q,fun v F' H' x r=>?_⟩
 obtain⟨p,o,h1,h2,h3,h4,h5⟩:=r
 have up:∀c u,F' c=some u->(upd F' p o) c=some u:=fun c u z=>by rw[ap (fun y=>by rw[y,h4]at z;cases z)];exact z
 subst h1
 obtain⟨xs,rfl⟩:=hl E d q
 have hfz:fzO default o=o:=by
  cases o <;> first |rfl |exact False.elim h5
 refine w _ (upd F' p o) H' ⟨x.same,fun c u z=>up c u (x.fr c u z),fun c u z=>?_,fun c z n=>?_⟩ ((h5.mono up).rep (ob:=default) (by rw[hfz];exact ax))
 ·by_cases hc:c=p
  ·subst hc;rw[ax]at z;cases z;exact h3
  ·rw[ap hc]at z;exact x.sub c u z
 ·have hc:c ≠ p:=fun y=>n (by rw[y];exact h2)
  rw[ap hc];exact x.new c z n
variable{x:Str}{X:Cx}
theorem BV{scope:Scope}{js:OJ}{elt tg Mo:Expr}{ifs:OP}{pos:Pos}{fi:OG}{cf:OL}{ef:OF}{px:Pos}{spos:Pos}(hN:X.N.Nodup)(hix:X.N[i]? = some x)(hx:Loc X.env.scope x)(b:Blk X scope js)(hc:X.calm=true)(hI:Ei X tg Mo fi)(hj:pH js gf)
  (hg:∀C fp s0 H0,Eg (cS X scope C fp s0 H0) tg gf) (hi:∀C fp s0 H0,D_ (cS X scope C fp s0 H0) ifs cf) (he:∀C fp s0 H0,Ev (cS X scope C fp s0 H0) .V elt ef)
  (hsw:swapsWith (.ListComp elt [⟨tg,Mo,ifs,0⟩] scope pos) (some (.Name x px)) spos.line X.env=pure true)
  (hfn:X.fn x=true\/X.env.scope.names.lookup x=some .local:=by first |exact .inl rfl |exact .inr rfl |assumption) (hs:∀x,foldedSetIterable Mo X.env x=pure x:=by intro _;rfl) :
  Es X (.Assign [.Name x px] (.ListComp elt [⟨tg,Mo,ifs,0⟩] scope pos) spos) (aT i (bO js fi gf cf ef)):=PS.by (C2 hN hix hx b hc hI.h (fun C fp s0 H0=>(hg C fp s0 H0).h) (fun C fp s0 H0=>(hi C fp s0 H0).h) (fun C fp s0 H0=>(he C fp s0 H0).h) hsw hfn hs) fun Z σ H h=>qW hj σ H _ (BF zg σ H _ (tz Z σ H h))
variable{pos:Pos}{d:D}{v:V}
theorem sx{u:Value}(hg:Gl X x)(hm:X.mg x=some u)(r:bi v u)(rd:∀F,Rep F v d)(hd:(x == ("__debug__" : Str))=false:=by decide):Ev X .V (.Name x pos) (cst d):=o6 (rJ hg hm r hd) rd
def ck(n m:Nat)(b:OO)(ds:OK):Option D:=if ds.length=n then(b (ds.map Sl.val ++ List.replicate (m - n) Sl.no)).bind fun r=>match r with
 |.rt d=>some d
 |.nx _=>some .non
 |_=>none
 else none
variable{N:OD}{F H:Hp}
theorem ug{vs:ON}{ds:OK}(s:∀a o,F a=some o->H a=some o)(r:Reps F vs ds):Ok (F,H) F H (start N vs) (ds.map Sl.val ++ List.replicate (N.length - ds.length) Sl.no):=by
 have noown:∀(i:Nat) d,(ds.map Sl.val ++ List.replicate (N.length - ds.length) Sl.no)[i]? = some (.own d)->False:=fun i d h=>by
  have:=JY h
  rcases List.mem_append.mp this with q |q
  ·obtain⟨x,_,e⟩:=List.mem_map.mp q;cases e
  ·have:=(List.mem_replicate.mp q).2;cases this
 refine⟨Ext.refl s,?_,fun i d h=>?_,fun i d h=>(noown i d h).elim,fun i j d e a _ h=>(noown i d h).elim,?_⟩
 ·unfold start
  rw[Jo,Jo,Jm,Jm,LR,LR,r.length]
 ·have hl:=r.length
  by_cases hi:i < ds.length
  ·rw[Kr (by simpa using hi),JH]at h
   cases hd:ds[i]? with
   |none=>rw[hd]at h;cases h
   |some d' =>
    rw[hd]at h
    cases h
    obtain⟨v,h1,h2⟩:=r.get hd
    refine⟨v,?_,h2⟩
    unfold start
    rw[Kr (by simpa[hl] using hi),JH,h1];rfl
  ·rw[Ki (by simpa using hi)]at h
   have:=JY h
   have:=(List.mem_replicate.mp this).2
   cases this
 ·have no:∀(i:Nat) z,(ds.map Sl.val ++ List.replicate (N.length - ds.length) Sl.no)[i]? = some z->(∃d,z=.val d)\/z=.no:=fun i z h=>by
   rcases List.mem_append.mp (JY h) with q |q
   ·obtain⟨x,_,e⟩:=List.mem_map.mp q;exact .inl ⟨x,e.symm⟩
   ·exact .inr (List.mem_replicate.mp q).2
  have n1:∀(i:Nat) t,(ds.map Sl.val ++ List.replicate (N.length - ds.length) Sl.no)[i]? = some (.obj t)->False:=fun i t h=>by rcases no i _ h with⟨d,e⟩ |e <;> cases e
  exact⟨fun _=>[],fun i t h=>(n1 i t h).elim,fun i j t d b h=>(n1 i t h).elim,fun i j t u _ h=>(n1 i t h).elim,fun i t h=>by rcases no i _ h with⟨d,e⟩ |e <;> cases e⟩
variable{st:Stmt}{K:OE}
theorem fnD{P:Program}{w:World}{mg:OI}{base:Heap}{qual:Str}{f:Addr}{fd:FuncData}{ps:OD}{k:Nat}{b:OO}(Fn:Fun K x qual st f fd)(S:aE N ps (ak st))
  (Mt:∀(cdv:Value) (A:Around) (outer:OZ) (s:Shared) (H:Hp) (E:XK),dj k (A.deeper (envOfC qual (ak st) s.heap.objs.size f cdv)) ->
   Ess (jN CX0 P w K mg base N qual (ak st) f cdv A outer s H E).nox (ei st) b):aX P w K mg base CX0 (k + 1) f fd ps (spD ps.length (ck ps.length N.length b)):=by
 refine Fn.ok S (fun vs H Q E h=>?_) (fun cdv A outer s H vs Q E hr h=>?_)
 ·obtain⟨F,ds,d,_,r,hl,_⟩:=h
  rw[r.length,hl]
 ·obtain⟨F,ds,d,hs,r,hl,hg,q⟩:=h
  refine⟨_,(Mt cdv A outer s H E hr).h,?_⟩
  unfold ck at hg
  rw[if_pos hl]at hg
  cases hb:b (ds.map Sl.val ++ List.replicate (N.length - ps.length) Sl.no) with
  |none=>rw[hb]at hg;cases hg
  |some rr =>
   rw[hb]at hg
   have k0:=ug (N:=N) hs r
   rw[hl]at k0
   refine⟨(F,H),F,_,rr,k0,hb,?_⟩
   cases rr with
   |rt d'=>cases hg;exact fun v F' H' x r'=>q v F' H' x r'
   |nx E'=>cases hg;exact fun σ' F' H' k' _=>q .non F' H' k'.ent .non
   |bk E'=>cases hg
   |ct E'=>cases hg
open PySem.W in
theorem D4{ns:Ow}(h:WData.layableAll [WData.list (ns.map WData.int)]=true):∀n ∈ ns,Builtin.Int.intBits n<=2 ^ 20:=by
 have h1:(WData.list (ns.map WData.int)).layable=true:=by
  have:=h
  simp only[WData.layableAll,Kl,List.all_nil,Bool.and_true]at this
  exact this
 intro n hn
 have h2:=layableW_item h1 (WData.int n) (List.mem_map.mpr ⟨n,hn,rfl⟩)
 have h3:=(layableW_iff.mp h2).2.2
 exact h3
def rX(K:OE):Bool:=K.all fun p => !(p.2.cls == Value.type "list")
theorem ul(h:rX K=true){a:Addr}{o:Obj}(e:K.lookup a=some o):o.cls ≠ Value.type "list" := by
 intro hc
 have hm:(a,o) ∈ K:=by
  clear h
  induction K with
  |nil=>cases e
  |cons p r ih =>
   obtain⟨b,u⟩:=p
   rw[JP]at e
   cases hb:a == b with
   |true =>
    rw[hb]at e
    have e1:a=b:=by simpa using hb
    have e2:u=o:=by simpa using e
    rw[e1,e2];exact Jq
   |false=>rw[hb]at e;exact Jt _ (ih e)
 have:=List.all_eq_true.mp h (a,o) hm
 rw[hc]at this
 simp at this
theorem FW{a:Addr}{ns:Ow}{g:OR}(hK:∀o,K.lookup a=some o->o.cls ≠ Value.type "list")(hS:SqL K H a (ns.map V.int))(hO:GF H)(law:g [.scr ns]=some (.bl true)) :
  spD 1 g [.ref a] H (fun v _=>v=.bl true) fun _ _ _=>False:=by
 rcases hS with hS |⟨o,its,n,hl,hc,_⟩
 ·have e:∃o,H a=some (.frz o (.lst (ns.map V.int))):=by
   rcases hS with hS |hS
   ·rcases hO a with z |⟨o,xs,z⟩
    ·rw[hS]at z;cases z
    ·rw[hS]at z;cases z
   ·exact hS
  obtain⟨o,e⟩:=e
  refine⟨H,[.scr ns],.bl true,fun _ _ q=>q,.cons (.scr e) .nil,rfl,law,fun v F' H' x r=>?_⟩
  cases r
  rfl
 ·exact absurd hc (hK o hl)
section
variable {X:Cx}{a b e:Expr}{pos:Pos}{f g:OF}
def oR:D->Option Key
 |.int i=>some (.inl (some i))
 |.non=>some (.inl none)
 |.str x=>some (.inr x)
 |_=>none
theorem oQ{k:Key}(h:oR d=some k)(r:OB F H v d):v=kV k:=by
 match d,h with
 |.int i,h=>cases h;rw[r.int];rfl
 |.non,h=>cases h;rw[r.non];rfl
 |.str x,h=>cases h;rw[r.str];rfl
def sE(_:DE):Option D:=some (.dic [])
theorem xA:Ev X .F (.Dict [] [] pos) sE:=PE.by AH fun σ H Q zz103_0=>by
 obtain⟨B,F,E,d,k,q,w⟩:=zz103_0
 cases q
 intro p hp
 exact w _ F _ (Ext.lay k.sub hp) ⟨p,_,rfl,hp,ax,nofr k.sub hp,RepK.nil⟩
end
theorem fnG{P:Program}{w:World}{mg:OI}{base:Heap}{qual:Str}{f:Addr}{fd:FuncData}{ps:OD}{k k1 n m:Nat}{b:OO}{g:OR}(Fn:Fun K x qual st f fd)(S:aE N ps (ak st))
  (hn:ps.length=n) (hm:N.length=m) (hk:k + 1=k1) (hg:g=ck n m b)
  (Mt:∀(cdv:Value) (A:Around) (outer:OZ) (s:Shared) (H:Hp) (E:XK),dj k (A.deeper (envOfC qual (ak st) s.heap.objs.size f cdv)) ->
   Ess (jN CX0 P w K mg base N qual (ak st) f cdv A outer s H E).nox (ei st) b):aX P w K mg base CX0 k1 f fd ps (spD n g):=by
 subst hn hm hk hg
 exact fnD Fn S Mt
section
variable {X:Cx}
theorem aF(i:Nat){pos:Pos}(hN:X.N[i]? = some x:=by rfl)(hv:Vis X.env.scope x:=by first |exact Or.inl rfl |exact Or.inr (Or.inl rfl) |exact Or.inr (Or.inr rfl))(hd:(x == ("__debug__" : Str))=false:=by decide)
  (hcd:(x == ("__classdict__" : Str))=false:=by decide):Ev X .V (.Name x pos) (var i):=Gm i (kQ hN hv hd hcd)
theorem ai(i:Nat){pos:Pos}(hN:X.N[i]? = some x:=by rfl)(hv:Vis X.env.scope x:=by first |exact Or.inl rfl |exact Or.inr (Or.inl rfl) |exact Or.inr (Or.inr rfl))(hd:(x == ("__debug__" : Str))=false:=by decide)
  (hcd:(x == ("__classdict__" : Str))=false:=by decide):Ev X .O (.Name x pos) (ae i):=DP i (kQ hN hv hd hcd)
end
section
variable {X:Cx}{a b e:Expr}{pos apos Mn spos:Pos}{f g:OF}
theorem zX{α:Type}{l:List α}{x:α}(h:l[i]? = some x):l.set i x=l:=by
 obtain⟨hi,rfl⟩:=List.getElem?_eq_some_iff.mp h
 exact List.set_getElem_self hi
theorem Ok.rewrite{B:O8}{σ:St}{E:DE}(k:Ok B F H σ E){d':D}{p:Addr}{o':HO}(h:E[i]? = some (.own d))(hs:σ[i]? = some (some (.ref p)))(r:jr F o' d'):Ok B F (upd H p o') σ (E.set i (.own d')):=by
 obtain⟨q,o,h1,h2,h3,h4,h5⟩:=k.own i d h
 have e:p=q:=by rw[hs]at h1;cases h1;rfl
 subst e
 have z:=k.put_own i h3 h4 r (fun j e' hj he hq=>k.sep j i e' d p hj he h hq hs) (let ⟨fp,m⟩:=k.ob; ⟨fp,m,fun j t hb=>m.sep j i t d p hb h hs⟩)
 rwa [zX hs]at z
def ir(i:Nat)(f:OF)(E:DE):Option Out:=match E[i]? with
 |some (.own (.lst ds))=>(f E).bind fun d=>if ds.length < sizeLine then some (.nx (E.set i (.own (.lst (ds ++ [d]))))) else none
 |_=>none
theorem xa{B:O8}{σ:St}{E:DE}(k:Ok B F H σ E){ds:OK}(h:E[i]? = some (.own (.lst ds))):∃p vs,σ[i]? = some (some (.ref p))/\H p=some (.lst vs)/\F p=none/\Reps F vs ds:=by
 obtain⟨q,o,h1,h2,h3,h4,h5⟩:=k.own i _ h
 cases o with
 |lst vs=>exact⟨q,vs,h1,h2,h3,h5⟩
 |_=>exact False.elim h5
theorem de{o:Expr}(ho:PE X o (nY i))(he:Ev X .V e f)(Mq:attributeBase o "append" X.env (eval o X.env)=eval o X.env:=by rfl)
  (MB:((backTo Mn (starEach [e] X.env)).all (fun x => !x.1) && (backToKw Mn (keywordEach [] X.env)).all (fun x=>x.1.isSome) && decide (([e]:OP).length + ([]:List Keyword).length + (if([]:List Keyword).isEmpty then 0 else 1) < 30))=true:=by rfl)
  (Mr:(apos.endLine == Mn.line)=true:=by rfl) (hns:aO e=true:=by rfl) (hs:swapsWith (.Call (.Attribute o "append" apos) [e] [] Mn) none spos.line X.env=pure false:=by rfl) :
  Es X (.Expr (.Call (.Attribute o "append" apos) [e] [] Mn) spos) (ir i f) :=
 PS.by (C1 (qr PySem.F.plainAttrs_list PySem.F.slot_list_append PySem.F.type_list_append qy ho (bR he.h ek (aD e [] X.env hns)) Mq MB Mr (aD e [] X.env hns) rfl) hs) fun Z σ H zz104_0=>by
  obtain⟨B,F,E,r,k,q,w⟩:=zz104_0
  unfold ir at q
  split at q
  ·rename_i ds hd
   cases hf:f E with
   |none=>simp[hf]at q
   |some d =>
    simp only[hf,Jd]at q
    split at q
    ·rename_i hz
     cases q
     obtain⟨p,vs,h1,h2,h3,h4⟩:=xa k hd
     refine⟨.ref p,h1,.inl ⟨rfl,vs,SqL.of h2⟩,B,F,E,d,k,hf,fun v F' H' x rv=>⟨p,vs,v,rfl,rfl,x.same _ _ h2,by rw[h4.length];exact hz,?_⟩⟩
     exact w σ F' _ ((k.ext x).rewrite hd h1 (o':=.lst (vs ++ [v])) ((h4.mono x.fr).append (.cons rv .nil))) x.fr
    ·cases q
  ·cases q
def m9:D->Option (List D)
 |.lst xs=>some xs
 |.tup xs=>some xs
 |_=>none
def IX(i:Nat)(f:OF)(E:DE):Option Out:=match E[i]? with
 |some (.own (.lst ds))=>(f E).bind fun d=>(m9 d).bind fun es=>if ds.length + es.length<=sizeLine then some (.nx (E.set i (.own (.lst (ds ++ es))))) else none
 |_=>none
def I8(i:Nat)(f:OF)(E:DE):Option Out:=match E[i]? with
 |some (.val (.int n))=>(f E).bind fun d=>match d with
  |.int m=>some (.nx (E.set i (.val (.int (n + m)))))
  |_=>none
 |_=>none
def dk(f:OF)(gf:OQ)(E:DE):Option Out:=(f E).bind fun d=>(gf d E).map Out.nx
theorem fC{tg:Expr}(he:Ev X .V e f)(hg:Eg X tg gf)(hs:swapsWithSole [tg] e pos.line X.env=pure false:=by rfl)(hw:swappedStores [tg] e X.env=pure none:=by rfl)
  (h1:(assignEach [tg] X.env).map (·.2)=[assign tg X.env]:=by rfl):Es X (.Assign [tg] e pos) (dk f gf):=PS.by (Ar he.h hg.h hs hw h1) fun Z σ H zz105_0=>by
 obtain⟨B,F,E,r,k,q,w⟩:=zz105_0
 unfold dk at q
 cases hf:f E with
 |none=>simp[hf]at q
 |some d =>
  simp only[hf,Jd]at q
  cases hg:gf d E with
  |none=>simp[hg]at q
  |some E' =>
   simp only[hg,Jf]at q
   cases q
   exact⟨B,F,E,d,k,hf,fun v F1 H1 x1 r1=>⟨B,F1,E,d,E',k.ext x1,r1,hg,fun σ2 F2 H2 k2 x2=>w σ2 F2 H2 k2 fun a o e=>x2.fr a o (x1.fr a o e)⟩⟩
def ix(kvs:OX)(k:Key):Option D:=(kvs.find? fun p=>decide (p.1=k)).map (·.2)
theorem RepK.val{F:Hp}{k:Key}:∀{vs:OY} {ds:OX},RepK F vs ds->(∀d,ix ds k=some d->∃v,iw vs k=some v/\Rep F v d)/\(ix ds k=none->iw vs k=none)
 |_,_,.nil=>⟨fun d h=>(by cases h),fun _=>rfl⟩
 |_,_,@RepK.cons _ k' v d vs ds r t=>by
  obtain⟨h1,h2⟩:=RepK.val (k:=k) t
  by_cases e:k'=k
  ·have e1:ix ((k',d) :: ds) k=some d:=by simp[ix,e]
   have e2:iw ((k',v) :: vs) k=some v:=by simp[iw,e]
   refine⟨fun d' h=>?_,fun h=>?_⟩
   ·rw[e1]at h;cases h;exact⟨v,e2,r⟩
   ·rw[e1]at h;cases h
  ·have e1:ix ((k',d) :: ds) k=ix ds k:=by simp[ix,e]
   have e2:iw ((k',v) :: vs) k=iw vs k:=by simp[iw,e]
   rw[e1,e2]
   exact⟨h1,h2⟩
theorem RepK.length{F:Hp}:∀{vs:OY} {ds:OX},RepK F vs ds->vs.length=ds.length
 |_,_,.nil=>rfl
 |_,_,.cons _ t=>by simp[RepK.length t]
theorem su(h:X.A.units + 64 < cLine):X.A.units + 1 < cLine:=by omega
def ju:D->Option D
 |.non=>some (.bl true)
 |_=>some (.bl false)
def d_:D->Option D
 |.non=>some (.bl false)
 |_=>some (.bl true)
theorem wY(r:Rep F v d):ju d=some (.bl (decide (v=.non)))/\d_ d=some (.bl (!decide (v=.non))):=by
 cases r <;> exact⟨by simp[ju],by simp[d_]⟩
theorem Bu(σ:St)(H:Hp)(Q:VK)(h:tM .V (un ju f) σ H Q):tOp (fun x y H Q=>y=.non/\Q (.bl (decide (x=.non))) H) (tM .V f) (tC .non) σ H Q:=by
 obtain⟨B,F,E,d,k,q,w⟩:=h
 unfold un at q
 cases hf:f E with
 |none=>simp[hf]at q
 |some x =>
  simp only[hf,Jd]at q
  refine⟨B,F,E,x,k,hf,fun v F1 H1 x1 r1=>⟨rfl,?_⟩⟩
  rw[(wY r1).1]at q
  cases q
  exact w _ F1 H1 x1 (.bl _)
theorem uD(σ:St)(H:Hp)(Q:VK)(h:tM .V (un d_ f) σ H Q):tOp (fun x y H Q=>y=.non/\Q (.bl (!decide (x=.non))) H) (tM .V f) (tC .non) σ H Q:=by
 obtain⟨B,F,E,d,k,q,w⟩:=h
 unfold un at q
 cases hf:f E with
 |none=>simp[hf]at q
 |some x =>
  simp only[hf,Jd]at q
  refine⟨B,F,E,x,k,hf,fun v F1 H1 x1 r1=>⟨rfl,?_⟩⟩
  rw[(wY r1).2]at q
  cases q
  exact w _ F1 H1 x1 (.bl _)
theorem mQ{j p}(h:Ev X .V e f):Et X (.Compare e [.Is] [.Constant .none j p] pos) (tst (un ju f)):=PT.by (lF FL h.h vH (i_ _)) fun σ H Q q=>Bu σ H _ (iy σ H Q q)
theorem y_{j p}(h:Ev X .V e f):Et X (.Compare e [.IsNot] [.Constant .none j p] pos) (tst (un d_ f)):=PT.by (lF Db h.h vH (i_ _)) fun σ H Q q=>uD σ H _ (iy σ H Q q)
def nv:List D->Option D
 | [.int i,.int j]=>some (.int (if j < i then j else i))
 |_=>none
theorem vT{ds:OK}(h:nv ds=some d):∃i j,ds=[.int i,.int j]/\d=.int (if j < i then j else i):=by
 unfold nv at h
 split at h
 ·cases h
  exact⟨_,_,rfl,rfl⟩
 ·cases h
theorem Fc:RdC .V (fun xs H Q=>∃i j,xs=[V.int i,.int j]/\Q (.int (if j < i then j else i)) H) nv:=fun F H vs ds d Q s r h q=>by
 obtain⟨i,j,rfl,rfl⟩:=vT h
 obtain⟨v1,ws,rfl,r1,r⟩:=r.c1
 obtain⟨v2,ws,rfl,r2,r⟩:=r.c1
 obtain rfl:=r.c0
 cases r1
 cases r2
 exact⟨i,j,rfl,q _ F H (Ext.refl s) (.int _)⟩
theorem Gp{p:Pos}{f:OG}(hc:X.calm=true)(hg:Gl X "min")(hm:X.mg "min" = none)(hv:bootBuiltins "min" = some (.builtin "min"))(ha:Ea X [a,b] f)(h1:aO a=true:=by rfl)(h2:aO b=true:=by rfl) :
  Ev X .V (.Call (.Name "min" p) [a,b] [] pos) (wv nv f) :=
 PE.by (iA (zi hc) hg hm hv ha.h nofun nofun (aD a [b] X.env h1) (dN pos X.env [b] (by rw[Kl,h2];rfl))) (Ce Fc)
def yU:D->Option D
 |.int i=>some (.int i)
 |.bl k=>some (.int (if k then 1 else 0))
 |_=>none
theorem Fe:m3 .V (fun xs H Q=>(∃i,xs=[V.int i]/\Q (.int i) H)\/∃k,xs=[V.bl k]/\Q (.int (if k then 1 else 0)) H) yU:=fun F H v x d Q s rx h q=>by
 match x,h with
 |.int i,h=>cases Js h;cases rx.int;exact .inl ⟨i,rfl,q _ F H (Ext.refl s) (.int _)⟩
 |.bl k,h=>cases Js h;cases rx.bl;exact .inr ⟨k,rfl,q _ F H (Ext.refl s) (.int _)⟩
theorem xy{p:Pos}(hg:Gl X "int")(hm:X.mg "int" = none)(hv:bootBuiltins "int" = some (.type "int"))(ha:Ev X .O e f)(he:aO e=true:=by rfl):Ev X .V (.Call (.Name "int" p) [e] [] pos) (un yU f) :=
 we zk Fe hg hm hv ha nofun nofun he
theorem o5{n:Int}{j p pos}:Ev X .V (.UnaryOp .USub (.Constant (.int n) j p) pos) (cst (.int (-n))):=PE.by (Ho EO AF) fun σ H Q zz106_0=>by
 obtain⟨B,F,E,d,k,q,w⟩:=zz106_0
 cases q
 exact⟨n,rfl,w _ F H (Ext.refl k.sub) (.int _)⟩
end
def noS(_:DE):Option Out:=none
theorem jL:Es X st noS:=PS.by Aq fun Z σ H ⟨B,F,E,r,k,q,w⟩=>by cases q
theorem za{sts:OV}:Ess X sts noS:=PSs.by yo fun Z σ H ⟨B,F,E,r,k,q,w⟩=>by cases q
theorem qz{js:OJ}{s:Sl}(hi:i ∈ js):∀E:DE,ci js (E.set i s)=ci js E:=by
 induction js with
 |nil=>cases hi
 |cons j r ih =>
  intro E
  show ci r ((E.set i s).set j .no)=ci r (E.set j .no)
  by_cases h:i=j
  ·subst h;rw[List.set_set]
  ·rw[List.set_comm _ _ h]
   rcases List.mem_cons.mp hi with e |e
   ·exact absurd e h
   ·exact ih e _
theorem uu(js:OJ)(E:DE):ci js (ci js E)=ci js E:=by
 have key:∀(ks:OJ) (E:DE),(∀k ∈ ks,k ∈ js)->ci js (ci ks E)=ci js E:=by
  intro ks
  induction ks with
  |nil=>intro E _;rfl
  |cons k r ih =>
   intro E h
   show ci js (ci r (E.set k .no))=_
   rw[ih _ fun x hx=>h x (Jt _ hx),qz (h k Jq)]
 exact key js E fun _ h=>h
def lj(js:OJ)(gf:OQ):Prop:=∀d E E1,gf d E=some E1->ci js E1=ci js E
theorem lj.js{js:OJ}{gf:OQ}(h:lj js gf):pH js gf:=fun d E E1 e=>by rw[h d _ E1 e,uu]
theorem nM{js:OJ}(h:i ∈ js):lj js (nmG i):=fun d E E1 e=>by
 cases e;exact qz h E
def nU(js:OJ)(gf:Ot):Prop:=∀ds E E1,gf ds E=some E1->ci js E1=ci js E
theorem ue{js:OJ}:nU js f_:=fun ds E E1 e=>by
 cases ds with
 |nil=>cases e;rfl
 |cons _ _=>cases e
theorem j_{js:OJ}{g:OQ}{gs:Ot}(h1:lj js g)(h2:nU js gs):nU js (a_ g gs):=fun ds E E1 e=>by
 cases ds with
 |nil=>cases e
 |cons d r =>
  have e':(g d E).bind (fun E'=>gs r E')=some E1:=e
  cases hg:g d E with
  |none=>rw[hg]at e';cases e'
  |some E2 =>
   rw[hg]at e'
   rw[h2 r E2 E1 e',h1 d E E2 hg]
theorem ud{js:OJ}{n:Nat}{gs:Ot}(h:nU js gs):lj js (f9 n gs):=fun d E E1 e=>by
 cases d with
 |tup ds =>
  have e':(if ds.length=n then gs ds E else none)=some E1:=e
  split at e'
  ·exact h ds E E1 e'
  ·cases e'
 |_=>cases e
variable{us:OH}
theorem ul1(hl:us.length=1):∃a,us=[a]:=List.length_eq_one_iff.mp hl
theorem ul2(hl:us.length=2):∃a b,us=[a,b]:=by
 cases us with
 |nil=>cases hl
 |cons a us =>
  obtain⟨b,rfl⟩:=ul1 (Nat.succ.inj hl)
  exact⟨a,b,rfl⟩
theorem ul3(hl:us.length=3):∃a b c,us=[a,b,c]:=by
 cases us with
 |nil=>cases hl
 |cons a us =>
  obtain⟨b,c,rfl⟩:=ul2 (Nat.succ.inj hl)
  exact⟨a,b,c,rfl⟩
end L2.Cu
namespace L2
open PySem PySem.Spec PyProof.Rows
section
variable {prog:Program}{w:World}{A:Around}{E:OA}{s:Shared}
def xN(prog:Program)(w:World)(s:Shared)(S:Addr)(Pv:List Value->Prop)(itv:Value)(s1:Shared):Prop :=
 ∃(it:Addr) (fp:OT) (n:Nat) (P:Nat->Value->Prop) (St:Nat->Heap->Prop) (h1:Heap) (d1:Drawn),itv=.ref it/\s1={ s with heap:=h1,drawn:=d1 }/\(∀b o,s.heap.get? b=some o->h1.get? b=some o) /\
  (∀b ∈ fp,b=S\/s.heap.objs.size<=b)/\s.heap.objs.size<=it/\(∀A:Around,A.handled=none->Walks prog w A it fp [it] n P St)/\St 0 h1/\n<=sizeLine/\∀acc:Array Value,ItemsOf P acc n->Pv acc.toList
theorem tj{T:String}{S:Addr}{o:Obj}{Pv:List Value->Prop}{R:List Value->Shared->Prop}(hh:A.handled=none)(ho:s.heap.get? S=some o)(hc:o.cls=.type T)(hT1:(Value.type T == Value.type "list")=false)(hT2:(Value.type T == Value.type "tuple")=false)
  (Ob:∀(A:Around) (E:OA) (s':Shared) (Q:Bool->Shared->Prop),s'.TypeIs (.ref S) T->Q false s'->wpAny (model prog w) A (Builtin.List.listLengthHint (.ref S)) Q E s')
  (Mo:∀(A:Around) (E:OA) (s':Shared) (Q:OA),(∀o,s.heap.get? S=some o->s'.heap.get? S=some o)->(∀itv s1,xN prog w s' S Pv itv s1->Q itv s1)->wpAny (model prog w) A (pyIter (.ref S)) Q E s')
  (h:∀(h':Heap) (d':Drawn) (tk:Nat) (vs:OH),(∀b o,s.heap.get? b=some o->h'.get? b=some o)->s.heap.objs.size<=h'.objs.size->Pv vs->R vs { s with heap:=h',drawn:=d',toks:=tk }) :
  wpAny (model prog w) A (collect (.ref S)) R E s:=by
 have hSlt:S < s.heap.objs.size:=Ju ho
 let RR:Result->Shared->Prop:=fun r s'=>∃(h':Heap) (d':Drawn) (tk:Nat) (acc:OM) (c:Nat),r=.ok (.ret (.ref s.heap.objs.size))/\s'={ s with heap:=h',drawn:=d',toks:=tk } /\
  (∀b o,s.heap.get? b=some o->h'.get? b=some o)/\h'.get? s.heap.objs.size=some { cls:=.type "list",dict:=none,data:=.seq acc c,slots:=#[] }/\Pv acc.toList
 have ext:wpAny (model prog w) A.in1 (Builtin.List.listExtendWith (.ref s.heap.objs.size) (.ref S) (.ref s.heap.objs.size))
   (fun fin s'=>match fin with |.done f=>RR (.ok f) s' |.again c'=>c'.quiet=true/\codeAny (model prog w) A c' RR s') (fun e s'=>RR (.error e) s') { s with heap:=s.heap.push { cls:=.type "list",data:=.seq ([]:OH).toArray } }:=by
  have hL1:(s.heap.push { cls:=.type "list",data:=.seq ([]:OH).toArray }).get? s.heap.objs.size=some { cls:=.type "list",data:=.seq #[] }:=Jx _ rfl
  have sz1:(s.heap.push { cls:=.type "list",data:=.seq ([]:OH).toArray }).objs.size=s.heap.objs.size + 1:=KP ..
  have hSL:s.heap.objs.size ≠ S:=LN hSlt
  unfold Builtin.List.listExtendWith
  refine Jn (LD (T:=T) ⟨o,Jp _ ho,hc⟩ ?_)
  have e1:Builtin.List.listSameRef (.ref s.heap.objs.size) (.ref S)=false:=by simp[Builtin.List.listSameRef,hSL]
  rw[if_neg (by rw[e1,hT1,hT2];decide)]
  refine Jn (Mo _ _ _ _ (fun o e=>Jp _ e) fun itv s2 came=>?_)
  obtain⟨it,fp,n,P,St,h1,d1,rfl,rfl,kp,hfp,hit,hW,hst,hn,NC⟩:=came
  have hL2:h1.get? s.heap.objs.size=some { cls:=.type "list",data:=.seq #[] }:=kp _ _ hL1
  have hLf:s.heap.objs.size ∉ fp:=fun hb=>by
   rcases hfp _ hb with e |e
   ·exact hSL e
   ·have e':s.heap.objs.size + 1<=s.heap.objs.size:=by rw[<-sz1];exact e
    exact absurd e' (Nat.not_succ_le_self _)
  refine Jn (KC (Ob _ _ _ _ ⟨o,kp _ _ (Jp _ ho),hc⟩ ?_))
  have key:∀(h:Heap) (c₁:Nat),St 0 h->(∀b o,b ≠ s.heap.objs.size->h1.get? b=some o->h.get? b=some o)->h.get? s.heap.objs.size=some { cls:=.type "list",data:=.seq #[] c₁ } ->
    codeAny (model prog w) A (.builtin "list.extend.loop" ⟨[.ref s.heap.objs.size,.ref it,.ref s.heap.objs.size],[]⟩) RR { s with heap:=h,drawn:=d1 }:=by
   intro h c₁ st hk hL
   refine codeAny_extend_loopS (hW A.in1 hh).toS hn s.heap.objs.size hLf _ n 0 _ #[] c₁ rfl (Ks _) st hL (ItemsOf.nil _) fun s' acc' c' hm hS' NK=>?_
   refine⟨s'.heap,d1,s'.toks,acc',c',rfl,Moved.eq_with hm,fun b o' e=>?_,hS',NC acc' NK⟩
   have hb:b < s.heap.objs.size:=Ju e
   refine hm.heap b o' (fun ME=>?_) (hk b o' (JI hb) (kp b o' (Jp _ e)))
   rcases List.mem_cons.mp ME with e' |ME
   ·exact absurd e' (JI hb)
   ·have e2:=List.mem_singleton.mp ME
    have e3:s.heap.objs.size + 1<=it:=by rw[<-sz1];exact hit
    rw[e2]at hb
    exact absurd e3 (Nat.not_le.mpr (Lr hb))
  refine wpAny_ite_split (fun _=>?_) (fun _=>Jv ⟨plainId_quiet PySem.F.plain_extend_loop _,key h1 0 hst (fun _ _ _ e=>e) hL2⟩)
  refine Jn (Mi ?_)
  refine Jn ?_
  show wpAny _ _ (updateSeq s.heap.objs.size (·.push .none) >>= fun _=>updateSeq s.heap.objs.size (·.pop)) _ _ _
  refine Jn (wpAny_updateSeq hL2 rfl ?_)
  have hS2:=JW (Obj.mapSeq (·.push Value.none)) hL2 rfl
  refine wpAny_updateSeq (hz:=by seq_fits) hS2 rfl ?_
  have hS3:=JW (Obj.mapSeq (·.pop)) hS2 rfl
  have oth:∀b o,b ≠ s.heap.objs.size->h1.get? b=some o->((h1.update s.heap.objs.size (Obj.mapSeq (·.push Value.none))).update s.heap.objs.size (Obj.mapSeq (·.pop))).get? b=some o:=fun b o hb e=>(JO _ _ (Ne.symm hb)).trans ((JO _ _ (Ne.symm hb)).trans e)
  exact Jv ⟨plainId_quiet PySem.F.plain_extend_loop _,key _ _ ((hW A.in1 hh).frame 0 _ _ hst fun b hb o e=>oth b o (fun z=>hLf (by rw[<-z];exact hb)) e) oth hS3⟩
 unfold collect
 refine Jn (wpAny_runValue (Le entry_proto_collect' ?_))
 rw[Mc PySem.F.plain_proto_collect _]
 show wpAny _ A.in1 (newList [] >>= fun l=>again (.builtin "list.__iadd__" ⟨[l,.ref S],[]⟩)) _ _ s
 refine Jn (Km ?_)
 refine Jv ⟨plainId_quiet PySem.F.plain_list_iadd _,Le entry_list_iadd' ?_⟩
 rw[Mc PySem.F.plain_list_iadd _]
 show wpAny _ A.in1 (Builtin.List.listExtendWith (.ref s.heap.objs.size) (.ref S) (.ref s.heap.objs.size)) _ _ _
 refine JM ext (fun fin s' x=>?_) fun e s' x=>?_
 ·cases fin with
  |done f =>
   obtain⟨h',d',tk,acc',c',e,rfl,hk,hS',a1⟩:=x
   cases e
   show wpAny _ A (load s.heap.objs.size >>= _) _ _ _
   refine Jn (wpAny_load hS' ?_)
   exact Jv (h h' d' tk _ hk (KG (Ju hS')) a1)
  |again c₁ =>
   refine⟨x.1,La x.2 fun q s₂ y=>?_⟩
   obtain⟨h',d',tk,acc',c',rfl,rfl,hk,hS',a1⟩:=y
   show wpAny _ A (load s.heap.objs.size >>= _) _ _ _
   refine Jn (wpAny_load hS' ?_)
   exact Jv (h h' d' tk _ hk (KG (Ju hS')) a1)
 ·obtain⟨_,_,_,_,_,e',_⟩:=x
  cases e'
end
def leS(a b:Str):Bool:=!decide (b.cps.toList < a.cps.toList)
def bQ(ss:OD):List Str:=ss.mergeSort leS
theorem yO{a b c:OJ}(h1:¬b < a)(h2:¬c < b):¬c < a:=by
 have h1':a<=b:=List.not_lt.mp h1
 have h2':b<=c:=List.not_lt.mp h2
 exact List.not_lt.mpr (List.le_trans h1' h2')
theorem qB(a b c:Str)(h1:leS a b=true)(h2:leS b c=true):leS a c=true:=by
 unfold leS at *
 simp only[Lv,Lx]at *
 exact yO h1 h2
theorem yP(a b:Str):(leS a b || leS b a)=true:=by
 unfold leS
 rcases List.le_total a.cps.toList b.cps.toList with h |h
 ·rw[JA (List.not_lt.mpr h)];rfl
 ·rw[JA (p:=a.cps.toList < b.cps.toList) (List.not_lt.mpr h)];simp
theorem rl{a b:Str}(h:a.cps.toList=b.cps.toList):a=b:=by
 cases a;cases b
 congr 1
 exact Array.toList_inj.mp h
theorem Bh{a b:Str}(h1:leS a b=true)(h2:leS b a=true):a=b:=by
 unfold leS at *
 simp only[Lv,Lx]at *
 exact rl (List.le_antisymm (List.not_lt.mp h1) (List.not_lt.mp h2))
theorem dB(ss:OD):(bQ ss).Perm ss:=List.mergeSort_perm ss leS
theorem n8(ss:OD):(bQ ss).Pairwise (fun a b=>leS a b=true):=List.pairwise_mergeSort qB yP ss
theorem rz{ss ts:OD}(hp:ts.Perm ss)(hs:ts.Pairwise (fun a b=>leS a b=true)):ts=bQ ss :=
 List.Perm.eq_of_pairwise (fun a b _ _ h1 h2=>Bh h1 h2) hs (n8 ss) (hp.trans (dB ss).symm)
theorem nn:∀(p:Str) (l:OD),risingS p l=true->(p :: l).Pairwise (fun a b=>leS a b=true)
 |p,[],_=>K6 _ _
 |p,x :: r,h=>by
  have h':(!ltCps x.cps.toList p.cps.toList && risingS x r)=true:=h
  rw[JG]at h'
  have ih:=nn x r h'.2
  have hpx:leS p x=true:=by unfold leS;rw[<-ltCps_eq];exact h'.1
  refine List.pairwise_cons.mpr ⟨fun y hy=>?_,ih⟩
  rcases List.mem_cons.mp hy with rfl |hy
  ·exact hpx
  ·exact qB _ _ _ hpx ((List.pairwise_cons.mp ih).1 y hy)
theorem rq:∀(l:OD),sortedS l=true->l.Pairwise (fun a b=>leS a b=true)
 | [],_=>.nil
 |x :: r,h=>nn x r h
section
variable {prog:Program}{w:World}{A:Around}{E:OA}{s:Shared}
theorem u6{T:String}{l:Addr}{o:Obj}{vs:OH}{n:Nat}{Q:List Value->Shared->Prop}(ho:s.heap.get? l=some o)(hc:o.cls=.type T)(hd:o.data=.seq vs.toArray n)(hT:T = "list"\/T = "tuple")(hsz:vs.length<=sizeLine)
  (h:∀h',(∀b o,s.heap.get? b=some o->h'.get? b=some o)->s.heap.objs.size<=h'.objs.size->Q vs { s with heap:=h' }):wpAny (model prog w) A (collect (.ref l)) Q E s:=by
 unfold collect
 refine Jn (wpAny_runValue (Le entry_proto_collect' ?_))
 show wpAny _ _ (do again (.builtin "list.__iadd__" ⟨[<-newList [],.ref l],[]⟩)) _ _ s
 refine Jn (wpAny_newList (Jv ⟨LG _ (by decide +kernel),Le entry_list_iadd' ?_⟩))
 show wpAny _ _ (Builtin.List.listExtendWith (.ref s.heap.objs.size) (.ref l) (.ref s.heap.objs.size)) _ _ { s with heap:=s.heap.push (seqObj "list" #[] 0) }
 unfold Builtin.List.listExtendWith
 have ho':(s.heap.push (seqObj "list" #[] 0)).get? l=some o:=Jp _ ho
 refine Jn (LD (T:=T) ⟨o,ho',hc⟩ ?_)
 rw[if_pos (by rcases hT with rfl |rfl <;> simp)]
 refine Jn (listItems_at ho' hd ?_)
 refine Jn (listItems_at (xs:=#[]) (n:=0) (Jx _ rfl) rfl ?_)
 rw[if_neg (by simp)]
 refine Jn (listUpdate_at (xs:=#[]) (n:=0) (Jx _ rfl) rfl ?_ (Ks _) (by show(#[] ++ vs.toArray).size<=sizeLine + 1;simp only[Array.size_append,Jz,Jh];omega))
 refine Jv ?_
 show wpAny (model prog w) A (do
   let o <-load s.heap.objs.size
   match o.data with
   |.seq xs _=>pure xs.toList
   |_=>unsupported "internal:collect") Q E { s with heap:=(s.heap.push (seqObj "list" #[] 0)).update s.heap.objs.size (Obj.mapSeq (· ++ vs.toArray)) }
 refine Jn (wpAny_load (get?_update_seq (Jx _ rfl) _) ?_)
 show wpAny _ _ (pure ((#[]:OM) ++ vs.toArray).toList) Q E _
 rw[show((#[]:OM) ++ vs.toArray).toList=vs by simp]
 exact Jv (h _ (fun b o e=>(JO _ _ (LN (Ju e))).trans (Jp _ e)) (by rw[Heap.size_update,size_push'];exact KA _))
theorem m7{r:Addr}{ss0:OD}{Q:OA}(h64:ss0.length < 64)
  (hc:∀R:List Value->Shared->Prop,(∀(h':Heap) (d':Drawn) (tk:Nat) (vs:OH) (ss:OD),(∀b o,s.heap.get? b=some o->h'.get? b=some o)->s.heap.objs.size<=h'.objs.size->StrsAre vs ss->ss.Perm ss0->R vs { s with heap:=h',drawn:=d',toks:=tk })->wpAny (model prog w) A.in1 (collect (.ref r)) R E s)
  (h:∀(D:Addr) (h':Heap) (d':Drawn) (tk:Nat) (its:OH) (e:Nat),(∀b o,s.heap.get? b=some o->h'.get? b=some o)->s.heap.objs.size<=D->h'.get? D=some { cls:=.type "list",data:=.seq its.toArray e }->StrsAre its (bQ ss0)->Q (.ref D) { s with heap:=h',drawn:=d',toks:=tk }) :
  wpAny (model prog w) A (call (.builtin "sorted") [.ref r]) Q E s:=by
 refine Calls.call_function_entry kind_sorted plain_sorted entry_sorted (args_sorted1 _) ?_
 unfold Builtin.«sorted»
 refine Jn (m:=checkCount "sorted" 1 1 _) (Jv ?_)
 refine Jn (hc _ fun h' d' tk vs ss kp hD hS hp=>?_)
 have Mp:vs.length=ss0.length:=by rw[StrsAre.length hS,hp.length_eq]
 refine Jn (wpAny_newList ?_ (by rw[Mp];exact Jy (KG h64) nofun))
 have hoL:(h'.push (seqObj "list" vs.toArray 0)).get? h'.objs.size=some (seqObj "list" vs.toArray 0):=Jx _ rfl
 show wpAny _ _ _ _ _ { s with heap:=h'.push (seqObj "list" vs.toArray 0),drawn:=d',toks:=tk }
 refine Jn (KC (K_ slot_list_sort ⟨_,hoL,rfl⟩ entry_list_sort (list_sort_treeK strKind_oneLt hoL hS.keysOf (fun v₁ v₂ rest e=>keyKind_strs (by rw[<-e];exact hS)) (by rw[Mp];exact h64) fun st' a1 a2=>⟨_,rfl,?_⟩) (args_list_sort _)))
 obtain⟨ss',b1,b2,b3⟩:=sorted_out_str hS a1 a2
 obtain⟨e,he⟩:=sortedHeap_at (out:=(arrOf st').map (·.2)) hoL
 have hlt:∀b o,s.heap.get? b=some o->(sortedHeap (h'.push (seqObj "list" vs.toArray 0)) h'.objs.size vs ((arrOf st').map (·.2))).get? b=some o:=fun b o eb=>by
  have e1:=kp b o eb
  have e2:=Ju e1
  rw[sortedHeap_old (JI e2) (by rw[size_push'];exact Lr e2)]
  exact Jp _ e1
 refine Jv ⟨_,rfl,h _ _ d' tk ((arrOf st').map (·.2)).toList e hlt hD (by rw[Array.toArray_toList];exact he) ?_⟩
 rw[<-rz (b2.trans hp) (rq ss' b3)]
 exact b1
end
theorem qb:∀{ss:OD}{its:OH},StrsAre its ss->aW (ss.map V.str) its
 := fun h=>by
  cases h with
  |nil=>exact .nil
  |cons _ t h=>exact .cons ⟨t,rfl⟩ (qb h)
theorem j9:∀{ss:OD}{its:OH},aW (ss.map V.str) its->StrsAre its ss
 := fun {ss its} z=>by
  cases ss with
  |nil=>cases z;exact .nil
  |cons x ss =>
   cases z with
   |cons r h=>obtain⟨t,e⟩:=r;subst e;exact .cons x t (j9 h)
section
variable {X:Cx}
theorem Inv.laidS{Ml:OC}{σ:St}{H:Hp}{s:Shared}(I:Inv X Ml σ H s){h':Heap}{d':Drawn}{tk:Nat}{D:Addr}{its:OH}{e:Nat}{ss:OD}(kp:∀b o,s.heap.get? b=some o->h'.get? b=some o)(hD:s.heap.objs.size<=D)
  (hl:h'.get? D=some { cls:=.type "list",data:=.seq its.toArray e }) (hS:StrsAre its ss) (hz:ss.length<=sizeLine):Inv X Ml σ (upd H D (.lst (ss.map V.str))) { s with heap:=h',drawn:=d',toks:=tk }:=by
 have I1:Inv X Ml σ (upd H D (.lst (ss.map V.str))) { s with heap:=h',toks:=tk }:=I.laid kp hD ⟨by rw[Jm];exact hz,its,e,qb hS,hl⟩
 exact⟨I1.ok,I1.os,I1.bare,I1.base,I1.loc,I1.cell,I1.free,I1.freeC,I1.pin,I1.hok,I1.len⟩
def rG(K:OE):List V->Hp->VK->Prop:=fun xs H Q=>∃p ss,xs=[.ref p]/\(SqL K H p (ss.map V.str)\/SqT K H p (ss.map V.str))/\ss.length < 64/\∀l,H l=none->Q (.ref l) (upd H l (.lst ((bQ ss).map V.str)))
theorem u8:dc X (.builtin "sorted") (rG X.K):=by
 intro Ml s σ H xs us Q I r h
 obtain⟨p,ss,rfl,hq,h64,q⟩:=h
 obtain⟨u,rfl,ru⟩:=jw r
 cases ru
 have hz:ss.length<=sizeLine:=Jy (KG h64) nofun
 obtain⟨T,o,its,n,ho,hc,hd,hT,rv⟩:∃T o its n,s.heap.get? p=some o/\o.cls=.type T/\o.data=.seq (List.toArray its) n/\(T = "list"\/T = "tuple")/\aW (ss.map V.str) its:=by
  rcases hq with hq |hq
  ·obtain⟨its,rv,pl,_⟩:=I.list hq
   obtain⟨o,n,e,c,hd,Mx⟩:=pl
   exact⟨"list",o,its,_,e,c,Mx,.inl rfl,rv⟩
  ·obtain⟨its,rv,⟨o,e,c,n,hd⟩,_⟩:=I.tuple hq
   exact⟨"tuple",o,its,n,e,c,hd,.inr rfl,rv⟩
 have hS:=j9 rv
 refine m7 (ss0:=ss) h64 (fun R hR=>u6 ho hc hd hT (by rw[StrsAre.length hS];exact hz) fun h' kp hsz=>?_) fun D h' d' tk its' e kp hD hl hS'=>?_
 ·have z:=hR h' s.drawn s.toks its ss kp hsz hS (.refl _)
  exact z
 ·exact⟨.ref D,_,I.laidS kp hD hl hS' (by rw[(dB ss).length_eq];exact hz),rfl,q D (I.hok.fresh hD)⟩
end
end L2
namespace L2.Cu
open PySem PySem.Spec PyProof.Rows
def gW:List D->Option (List Str)
 | []=>some []
 |.str x :: r=>(gW r).map fun xs=>x :: xs
 |_=>none
theorem nZ:∀{ds:OK}{ss:OD},gW ds=some ss->ds=ss.map D.str
 | [],ss,h=>by cases h;rfl
 |.str x :: r,ss,h=>by
  unfold gW at h
  cases hr:gW r with
  |none=>rw[hr]at h;cases h
  |some cs =>
   rw[hr]at h
   cases h
   rw[nZ hr];rfl
theorem qe(ss:OD):gW (ss.map D.str)=some ss:=by
 induction ss with
 |nil=>rfl
 |cons x r ih=>show(gW (r.map D.str)).map _=_;rw[ih];rfl
theorem Reps.strs{F:Hp}:∀{vs:ON}{ss:OD},Reps F vs (ss.map D.str)->vs=ss.map V.str
 := fun {vs ss} z=>by
  cases ss with
  |nil=>cases z;rfl
  |cons x ss =>
   cases z with
   |cons r t=>cases r;rw[Reps.strs t];rfl
theorem Reps.ofStrs{F:Hp}:∀(ss:OD),Reps F (ss.map V.str) (ss.map D.str)
 | []=>.nil
 |x :: ss=>.cons (.str x) (Reps.ofStrs ss)
def zT(d:D):Option D:=(m9 d).bind fun ds=>(gW ds).bind fun ss=>if ss.length < 64 then some (.lst ((bQ ss).map D.str)) else none
section
variable {X:Cx}{e:Expr}{p p2 pos pos2:Pos}{f:OF}
theorem zZ{K:OE}{F H:Hp}{v:V}{d:D}{ds:OK}{ss:OD}(s:∀a u,F a=some u->H a=some u)(r:OB F H v d)(h:m9 d=some ds)(h2:gW ds=some ss):∃a,v=.ref a/\(SqL K H a (ss.map V.str)\/SqT K H a (ss.map V.str)):=by
 have e2:=nZ h2
 subst e2
 cases d with
 |lst xs =>
  cases h
  obtain⟨a,vs,rfl,ha,rs⟩:=OB.lst s r
  rw[Reps.strs rs]at ha
  exact⟨a,rfl,.inl (SqL.of ha)⟩
 |tup xs =>
  cases h
  obtain⟨a,vs,rfl,ha,rs⟩:=r.tup
  rw[Reps.strs rs]at ha
  exact⟨a,rfl,.inr (SqT.of (s _ _ ha))⟩
 |_=>cases h
theorem yi{K:OE}:m3 .F (rG K) zT:=fun F H v x d Q s rx h q=>by
 unfold zT at h
 cases h1:m9 x with
 |none=>simp[h1]at h
 |some ds =>
  cases h2:gW ds with
  |none=>simp[h1,h2]at h
  |some ss =>
   simp only[h1,h2,Jd]at h
   split at h
   ·rename_i h64
    cases h
    obtain⟨a,rfl,hq⟩:=zZ (K:=K) s rx h1 h2
    exact⟨a,ss,rfl,hq,h64,fun l hl=>q _ F _ (Ext.lay s hl) ⟨l,_,rfl,hl,ax,nofr s hl,Reps.ofStrs _⟩⟩
   ·cases h
end
end L2.Cu
namespace L2
open PySem PySem.Spec PyProof.Rows
section
variable {X:Cx}
def tX(x:Str)(n:Int):Str:=⟨(List.replicate n.toNat x.cps.toList).flatten.toArray⟩
theorem tW(a:OJ):∀(k:Nat) (acc:OJ),List.foldl (fun x1 x2=>x1 ++ x2) acc.toArray (List.replicate k a.toArray)=(acc ++ (List.replicate k a).flatten).toArray
 | 0,acc=>by simp
 |k + 1,acc=>by
  have e:acc.toArray ++ a.toArray=(acc ++ a).toArray:=by simp
  have e2:(acc ++ a) ++ (List.replicate k a).flatten=acc ++ (List.replicate (k + 1) a).flatten:=by rw[LY,Lu,Kg]
  rw[LY,List.foldl_cons,e,tW a k (acc ++ a),e2]
theorem vJ:OpR X (binaryOp .Mult) (fun x y H Q=>∃z n,x=.str z/\y=.int n/\0<=n/\n < 2 ^ 20/\z.length * n.toNat<=sizeLine/\Q (.str (tX z n)) H):=by
 intro Ml s σ H x y v u Q I rx ry h
 obtain⟨z,n,rfl,rfl,h0,h1,hz,q⟩:=h
 obtain⟨t,rfl⟩:=rx
 obtain⟨t',rfl⟩:=ry
 have hzl:z.length * n.toNat<=2 ^ 24:=hz
 refine PySem.P.mul_str ?_ (fun hn hb=>?_) (fun hn hb=>?_) ?_
 ·rw[JA ⋯,JA ⋯];rfl
 ·have hn1:1<=n:=by omega
  have hzn:(z.length:Int)<=2 ^ 24:=by
   have h2:z.length * 1<=z.length * n.toNat:=Nat.mul_le_mul_left _ ⋯
   omega
  have Om:(2 ^ 63 - 1) / 2 ^ 20<=(2 ^ 63 - 1) / n:=by
   refine Int.le_ediv_of_mul_le ⋯ ?_
   have h3:(2 ^ 63 - 1) / 2 ^ 20 * n<=(2 ^ 63 - 1) / 2 ^ 20 * 2 ^ 20:=Int.mul_le_mul_of_nonneg_left ⋯ nofun
   omega
  omega
 ·unfold Builtin.Str.tooLong
  exact JA (by have:sizeLine=2 ^ 24:=rfl;omega)
 ·have e0:(List.replicate n.toNat z.cps).foldl (· ++ ·) #[]=(List.replicate n.toNat z.cps.toList).flatten.toArray:=by
   have:=tW z.cps.toList n.toNat []
   simpa using this
  by_cases hn:n < 1
  ·rw[if_pos hn]
   refine⟨nofun,?_⟩
   have e:tX z n=Str.empty:=by
    have:n.toNat=0:=by omega
    unfold tX;rw[this];rfl
   rw[e]at q
   exact⟨.str _,H,I.tok _,⟨_,rfl⟩,q⟩
  ·rw[if_neg hn]
   by_cases hb:(n == 1 || z.length == 0)=true
   ·rw[if_pos hb]
    have e:tX z n=z:=by
     unfold tX
     rcases Bool.or_eq_true_iff.mp hb with hb |hb
     ·have:n=1:=by simpa using hb
      subst this
      simp
     ·have hl:z.cps.size=0:=(by simpa using hb:z.length=0)
      have:z.cps=#[]:=Array.eq_empty_of_size_eq_zero hl
      cases z
      simp only at this
      subst this
      simp
    rw[e]at q
    exact⟨.str z,H,I,⟨t,rfl⟩,q⟩
   ·rw[if_neg hb,e0]
    refine⟨?_,⟨.str _,H,I.tok _,⟨_,rfl⟩,q⟩⟩
    show((List.replicate n.toNat z.cps.toList).flatten.toArray).size<=sizeLine
    rw[Jz,Dv,Kq,Nat.mul_comm]
    exact hz
end
end L2
namespace L2.Cu
open PySem PySem.Spec PyProof.Rows
section
variable {X:Cx}{a b e:Expr}{pos apos Mn spos dpos pos':Pos}{f g:OF}
theorem PE.or{e:Expr}{t t':TE}(h:PE X e t)(h':PE X e t'):PE X e (fun σ H Q=>t σ H Q\/t' σ H Q):=fun Ml s σ H Q I q=>q.elim (h Ml s σ H Q I) (h' Ml s σ H Q I)
theorem PT.or{e:Expr}{t t':TT}(h:PT X e t)(h':PT X e t'):PT X e (fun σ H Q=>t σ H Q\/t' σ H Q):=fun Ml s σ H Q I q=>q.elim (h Ml s σ H Q I) (h' Ml s σ H Q I)
def mL(x y:D):Option D:=match x,y with
 |.str z,.int n=>if 0<=n/\n < 2 ^ 20/\z.length * n.toNat<=sizeLine then some (.str (tX z n)) else none
 |x,y=>Do x y
theorem CL:gq .V (fun x y H Q=>(rI (fun i j=>Builtin.Int.intBits i<=2 ^ 20/\Builtin.Int.intBits j<=2 ^ 20) fun i j=>.int (i * j)) x y H Q\/∃z n,x=V.str z/\y=V.int n/\0<=n/\n < 2 ^ 20/\z.length * n.toNat<=sizeLine/\Q (.str (tX z n)) H) mL:=fun F H v w x y d Q s rx ry h q=>by
 have onI:Do x y=some d->(rI (fun i j=>Builtin.Int.intBits i<=2 ^ 20/\Builtin.Int.intBits j<=2 ^ 20) fun i j=>V.int (i * j)) v w H Q:=fun h=>Fa F H v w x y d Q s rx ry h q
 cases x with
 |str z =>
  cases y with
  |int n =>
   have h':(if 0<=n/\n < 2 ^ 20/\z.length * n.toNat<=sizeLine then some (D.str (tX z n)) else none)=some d:=h
   split at h'
   ·rename_i hc
    cases h'
    exact .inr ⟨z,n,rx.str,ry.int,hc.1,hc.2.1,hc.2.2,q _ F H (Ext.refl s) (.str _)⟩
   ·cases h'
  |_=>exact .inl (onI h)
 |_=>exact .inl (onI h)
theorem jd(ha:Ev X .O a f)(hb:Ev X .O b g):Ev X .V (.BinOp a .Mult b pos) (bin mL f g):=k9 (OpR.or Dc vJ) CL ha hb
def Ir(kvs:OX)(k:Key)(v:D):List (Key×D):=if(kvs.any fun kv=>decide (kv.1=k))=true then kvs.map (fun kv=>if kv.1=k then(kv.1,v) else kv) else kvs ++ [(k,v)]
theorem RepK.any{F:Hp}{k:Key}:∀{vs:OY} {ds:OX},RepK F vs ds->(vs.any fun kv=>decide (kv.1=k))=ds.any fun kv=>decide (kv.1=k)
 := fun r=>by
  cases r with
  |nil=>rfl
  |cons _ t=>rw[K9,K9,RepK.any t]
def Jb(i:Nat)(fk fv:OF)(E:DE):Option Out:=match E[i]? with
 |some (.own (.dic kvs))=>(fk E).bind fun x=>(oR x).bind fun k=>(fv E).bind fun v=>if kvs.length < sizeLine then some (.nx (E.set i (.own (.dic (Ir kvs k v))))) else none
 |_=>none
def ixE(x y:D):Option D:=match x with
 |.dic kvs=>(oR y).bind fun k=>ix kvs k
 |x=>ixD x y
theorem aC(hu:X.A.units + 64 < cLine)(ha:Ev X .O a f)(hb:Ev X .O b g)(hs:xO b):Ev X .V (.Subscript a b pos) (bin ixE f g) :=
 PE.by (PE.or (Hr Gc ha.h hb.h hs) (C_ (su hu) ha.h hb.h hs)) fun σ H Q h=>by
  obtain⟨B,F,E,d,k,q,w⟩:=h
  have q0:=q
  unfold bin at q
  cases hf:f E with
  |none=>rw[hf]at q;cases q
  |some x =>
   rw[hf]at q
   cases hg:g E with
   |none=>rw[hg]at q;cases q
   |some y =>
    rw[hg]at q
    have seq:ixD x y=some d->tOp (rIx X.K) (tM .O f) (tM .O g) σ H Q:=fun hq=>iR (m:=.V) Ha σ H Q ⟨B,F,E,d,k,by unfold bin;rw[hf,hg];exact hq,w⟩
    cases x with
    |dic kvs =>
     right
     have q':(oR y).bind (fun k=>ix kvs k)=some d:=q
     cases hk:oR y with
     |none=>rw[hk]at q';cases q'
     |some ky =>
      rw[hk]at q'
      have q2:ix kvs ky=some d:=q'
      refine⟨B,F,E,_,k,hf,fun v F1 H1 x1 r1=>⟨B,F1,E,y,k.ext x1,hg,fun u F2 H2 x2 r2=>?_⟩⟩
      obtain⟨p,vs,rfl,hp,rk⟩:=OB.dic x1.sub r1
      have eu:u=kV ky:=oQ hk r2
      obtain⟨v',e',r'⟩:=(RepK.val (k:=ky) (rk.mono x2.fr)).1 d q2
      refine⟨p,v',rfl,?_,w v' F2 H2 (x1.trans x2) r'⟩
      rw[eu,<-e']
      exact sF (Ff x2.same hp)
    |_=>exact .inl (seq q)
def inE(x y:D):Option D:=match y with
 |.dic kvs=>(oR x).map fun k=>.bl (ix kvs k).isSome
 |y=>inO x y
def vR(x y:D):Option D:=match y with
 |.dic kvs=>(oR x).map fun k=>.bl (!(ix kvs k).isSome)
 |y=>Dk x y
theorem oV{F:Hp}{vs:OY}{ds:OX}{k:Key}(r:RepK F vs ds):(iw vs k).isSome=(ix ds k).isSome:=by
 obtain⟨h1,h2⟩:=RepK.val (k:=k) r
 cases h:ix ds k with
 |some d=>obtain⟨v,e,_⟩:=h1 d h;rw[e];rfl
 |none=>rw[h2 h];rfl
variable{K:OE}
theorem uH(σ:St)(H:Hp)(Q:VK)(h:tM .V (bin inE f g) σ H Q):tOp (fun x y H Q=>(∃i j,x=V.str i/\y=V.str j/\Q (.bl (!(Builtin.Str.occurrences j i 0 j.length 1).isEmpty)) H)\/rIn K false x y H Q) (tM .O f) (tM .O g) σ H Q\/G3 (tM .O f) (tM .O g) σ H Q:=by
 obtain⟨B,F,E,d,k,q,w⟩:=h
 unfold bin at q
 cases hf:f E with
 |none=>rw[hf]at q;cases q
 |some x =>
  rw[hf]at q
  cases hg:g E with
  |none=>rw[hg]at q;cases q
  |some y =>
   rw[hg]at q
   have seq:inO x y=some d->tOp (fun x y H Q=>(∃i j,x=V.str i/\y=V.str j/\Q (.bl (!(Builtin.Str.occurrences j i 0 j.length 1).isEmpty)) H)\/rIn K false x y H Q) (tM .O f) (tM .O g) σ H Q:=fun hq=>iR (m:=.V) Hb σ H Q ⟨B,F,E,d,k,by unfold bin;rw[hf,hg];exact hq,w⟩
   cases y with
   |dic kvs =>
    right
    have q':(oR x).map (fun k=>D.bl (ix kvs k).isSome)=some d:=q
    cases hk:oR x with
    |none=>rw[hk]at q';cases q'
    |some ky =>
     rw[hk]at q'
     cases q'
     refine⟨B,F,E,x,k,hf,fun v F1 H1 x1 r1=>⟨B,F1,E,_,k.ext x1,hg,fun u F2 H2 x2 r2=>?_⟩⟩
     obtain⟨p,vs,rfl,hp,rk⟩:=OB.dic x2.sub r2
     have eu:v=kV ky:=oQ hk r1
     refine⟨p,iw vs ky,rfl,by rw[eu];exact sF hp,?_⟩
     rw[oV rk]
     exact w _ F2 H2 (x1.trans x2) (.bl _)
   |_=>exact .inl (seq q)
theorem yG(σ:St)(H:Hp)(Q:VK)(h:tM .V (bin vR f g) σ H Q):tOp (fun x y H Q=>(∃i j,x=V.str i/\y=V.str j/\Q (.bl (!(!(Builtin.Str.occurrences j i 0 j.length 1).isEmpty))) H)\/rIn K true x y H Q) (tM .O f) (tM .O g) σ H Q\/wM (tM .O f) (tM .O g) σ H Q:=by
 obtain⟨B,F,E,d,k,q,w⟩:=h
 unfold bin at q
 cases hf:f E with
 |none=>rw[hf]at q;cases q
 |some x =>
  rw[hf]at q
  cases hg:g E with
  |none=>rw[hg]at q;cases q
  |some y =>
   rw[hg]at q
   have seq:Dk x y=some d->tOp (fun x y H Q=>(∃i j,x=V.str i/\y=V.str j/\Q (.bl (!(!(Builtin.Str.occurrences j i 0 j.length 1).isEmpty))) H)\/rIn K true x y H Q) (tM .O f) (tM .O g) σ H Q:=fun hq=>iR (m:=.V) E9 σ H Q ⟨B,F,E,d,k,by unfold bin;rw[hf,hg];exact hq,w⟩
   cases y with
   |dic kvs =>
    right
    have q':(oR x).map (fun k=>D.bl (!(ix kvs k).isSome))=some d:=q
    cases hk:oR x with
    |none=>rw[hk]at q';cases q'
    |some ky =>
     rw[hk]at q'
     cases q'
     refine⟨B,F,E,x,k,hf,fun v F1 H1 x1 r1=>⟨B,F1,E,_,k.ext x1,hg,fun u F2 H2 x2 r2=>?_⟩⟩
     obtain⟨p,vs,rfl,hp,rk⟩:=OB.dic x2.sub r2
     have eu:v=kV ky:=oQ hk r1
     refine⟨p,iw vs ky,rfl,by rw[eu];exact sF hp,?_⟩
     rw[oV rk]
     exact w _ F2 H2 (x1.trans x2) (.bl _)
   |_=>exact .inl (seq q)
theorem BQ(hu:X.A.units + 64 < cLine)(ha:Ev X .O a f)(hb:Ev X .O b g)(hm:behindInMarks .In b=false):Ev X .V (.Compare a [.In] [b] pos) (bin inE f g) :=
 PE.by (PE.or (w6 (OpR.or qt qu) ha.h hb.h hm) (FD (AJ (su hu) ha.h hb.h) hm)) uH
theorem Gr(hu:X.A.units + 64 < cLine)(ha:Ev X .O a f)(hb:Ev X .O b g)(hm:behindInMarks .In b=false):Et X (.Compare a [.In] [b] pos) (tst (bin inE f g)) :=
 PT.by (PT.or (lF (OpR.or qt qu) ha.h hb.h hm) (Am (AJ (su hu) ha.h hb.h) hm)) fun σ H Q q=>uH σ H _ (iy σ H Q q)
theorem xB(hu:X.A.units + 64 < cLine)(ha:Ev X .O a f)(hb:Ev X .O b g)(hm:behindInMarks .NotIn b=false):Et X (.Compare a [.NotIn] [b] pos) (tst (bin vR f g)) :=
 PT.by (PT.or (lF (OpR.or rK rL) ha.h hb.h hm) (Am (yv (su hu) ha.h hb.h) hm)) fun σ H Q q=>yG σ H _ (iy σ H Q q)
def bh(x:D):Option D:=match x with
 |.dic kvs=>some (.int kvs.length)
 |x=>FV x
theorem dc.or{f:Value}{r r':Os}(h:dc X f r)(h':dc X f r'):dc X f (fun xs H Q=>r xs H Q\/r' xs H Q):=fun Ml s σ H xs us Q I rv q=>q.elim (h Ml s σ H xs us Q I rv) (h' Ml s σ H xs us Q I rv)
theorem CN:m3 .V (fun xs H Q=>(∃x n,xs=[x]/\GH K x H n/\Q (.int n) H)\/∃a kvs,xs=[V.ref a]/\Rd H a (.dK kvs)/\Q (.int kvs.length) H) bh:=fun F H v x d Q s rx h q=>by
 cases x with
 |dic kvs =>
  cases Js h
  obtain⟨p,vs,rfl,hp,rk⟩:=OB.dic s rx
  refine .inr ⟨p,vs,rfl,hp,?_⟩
  rw[rk.length]
  exact q _ F H (Ext.refl s) (.int _)
 |_=>exact .inl (Fd F H v _ d Q s rx h q)
theorem zj:dc X (.builtin "len") (fun xs H Q=>∃a kvs,xs=[V.ref a]/\Rd H a (.dK kvs)/\Q (.int kvs.length) H):=by
 intro Ml s σ H xs us Q I r h
 obtain⟨a,kvs,rfl,ha,q⟩:=h
 obtain⟨u,rfl,ru⟩:=jw r
 cases ru
 exact HP I ha fun t s' I'=>⟨.int kvs.length,H,I',⟨t,rfl⟩,q⟩
theorem aR{p:Pos}(hg:Gl X "len")(hm:X.mg "len" = none)(ha:Ev X .O e f)(he:aO e=true:=by rfl):Ev X .V (.Call (.Name "len" p) [e] [] pos) (un bh f) :=
 l_ (dc.or B8 zj) CN hg hm PySem.boot_len ha nofun nofun he
def vZ:List (Key×D)->Option (List Str)
 | []=>some []
 | (.inr x,_) :: r=>(vZ r).map fun xs=>x :: xs
 |_=>none
def tZ:List V->Hp->VK->Prop:=fun xs H Q=>∃p kvs ss,xs=[.ref p]/\Rd H p (.dK kvs)/\kvs.map (·.1)=ss.map (Sum.inr:Str->Key)/\ss.length < 64/\∀l,H l=none->Q (.ref l) (upd H l (.lst ((bQ ss).map V.str)))
theorem qD:∀{ds:OX} {ss:OD},vZ ds=some ss->ds.map (·.1)=ss.map (Sum.inr:Str->Key)
 | [],ss,h=>by cases h;rfl
 | (.inr x,d) :: r,ss,h=>by
  unfold vZ at h
  cases hr:vZ r with
  |none=>rw[hr]at h;cases h
  |some xs=>rw[hr]at h;cases h;rw[Ji,qD hr];rfl
theorem RepK.keys{F:Hp}:∀{vs:OY} {ds:OX},RepK F vs ds->vs.map (·.1)=ds.map (·.1)
 := fun r=>by
  cases r with
  |nil=>rfl
  |cons _ t=>rw[Ji,Ji,RepK.keys t]
end
end L2.Cu
namespace L2
open PySem PySem.Spec PyProof.Rows
abbrev PK:=List (Key×Value)
theorem zd{prog:Program}{w:World}{A:Around}{E:OA}{s:Shared}{d:Addr}{kvs:PK}{ep:Nat}{Pv:List Value->Prop}{Q:OA}(lo:(d == sysModules)=false)(hm:s.heap.DictAt (dl prog w) d kvs ep)(hz:kvs.length<=sizeLine)
  (hP:∀vs:List Value,vs.length=kvs.length->(∀(i:Nat) v,vs[i]? = some v->∃k x,kvs[i]? = some (k,x)/\(dl prog w).is k v=true)->Pv vs) (h:∀itv s1,xN prog w s d Pv itv s1->Q itv s1):wpAny (model prog w) A (pyIter (.ref d)) Q E s:=by
 refine wpAny_pyIter_dict lo hm (h _ _ ⟨_,[s.heap.objs.size,d],kvs.length,_,_,_,s.drawn,rfl,rfl,fun b o e=>Jp _ e,fun b hb=>?_,Jw _,fun A hA=>Walks.dictKeys (knd:=dl prog w) hA _ d (JI hm.lt_size) kvs ep,⟨⟨_,Jx _ rfl,rfl,rfl⟩,hm.push _⟩,hz,fun acc NC=>?_⟩)
 ·rcases List.mem_cons.mp hb with rfl |hb
  ·exact .inr (Jw _)
  ·exact .inl (List.mem_singleton.mp hb)
 ·exact hP _ (by rw[Kq];exact NC.1) fun i v e=>NC.2 i v (by rw[<-LU];exact e)
theorem qd{P:Program}{w:World}:∀{ss:OD}{kvs:PK} {vs:OH},kvs.map (·.1)=ss.map (Sum.inr:Str->Key)->vs.length=kvs.length->(∀(i:Nat) v,vs[i]? = some v->∃k x,kvs[i]? = some (k,x)/\(dl P w).is k v=true)->StrsAre vs ss
 | [],kvs,vs,hk,hl,h=>by
  have e1:kvs=[]:=List.map_eq_nil_iff.mp hk
  subst e1
  have e2:vs=[]:=List.length_eq_zero_iff.mp hl
  subst e2
  exact .nil
 |x :: ss,[],vs,hk,hl,h=>by simp at hk
 |x :: ss,(k,y) :: kvs,[],hk,hl,h=>by simp at hl
 |x :: ss,(k,y) :: kvs,v :: vs,hk,hl,h=>by
  rw[Ji,Ji]at hk
  injection hk with hk1 hk2
  obtain⟨k',x',e,hi⟩:=h 0 v rfl
  cases e
  have NP:k=Sum.inr x:=hk1
  subst NP
  rcases bZ (show lQ (Sum.inr x) v=true from hi) with⟨i,t,e,_⟩ |⟨z,t,e,rfl⟩ |⟨e,_⟩
  ·cases e
  rotate_left
  ·cases e
  ·cases e
   exact .cons x t (qd hk2 (by simpa using hl) fun i v hv=>by simpa using h (i + 1) v (by simpa using hv))
theorem sJ{X:Cx}(hc:X.calm=true):dc X (.builtin "sorted") Cu.tZ:=by
 intro Ml s σ H xs us Q I r h
 obtain⟨p,kvs,ss,rfl,hp,hk,h64,q⟩:=h
 obtain⟨u,rfl,ru⟩:=jw r
 cases ru
 obtain⟨z,hd,vs,rel,dd⟩:=qV I.hok hp
 obtain⟨ep,hat⟩:=dd.dictAt
 have hz:ss.length<=sizeLine:=Jy (KG h64) nofun
 have hks:=rel.keys.symm.trans hk
 obtain⟨o,es,ho,hx,_⟩:=id hat
 refine m7 (ss0:=ss) h64 (fun R hR=>?_) fun D h' d' tk its' e kp hD hl hS'=>?_
 ·refine tj (T := "dict") (Pv:=fun us=>StrsAre us ss) (show X.A.in1.handled=none from I.ok.hd hc) ho hx.1 nofun nofun (fun A E s' Q hT hq=>PySem.W.kdl_hint_dict hT hq) (fun A E s' Q kp hq=>zd hd (hat.at' kp) (by rw[<-rel.length];exact z) (fun us h1 h2=>qd hks h1 h2) hq) fun h' d' tk us kp hsz hS=>hR h' d' tk us ss kp hsz hS (.refl _)
 ·exact⟨.ref D,_,I.laidS kp hD hl hS' (by rw[(dB ss).length_eq];exact hz),rfl,q D (I.hok.fresh hD)⟩
end L2
namespace L2.Cu
open PySem PySem.Spec PyProof.Rows
section
variable {X:Cx}{a b e:Expr}{p pos:Pos}{f g:OF}
def m8(x:D):Option D:=match x with
 |.dic kvs=>(vZ kvs).bind fun ss=>if ss.length < 64 then some (.lst ((bQ ss).map D.str)) else none
 |x=>zT x
theorem Ai{K:OE}:m3 .F (fun xs H Q=>rG K xs H Q\/tZ xs H Q) m8:=fun F H v x d Q s rx h q=>by
 cases x with
 |dic kvs =>
  have h':(vZ kvs).bind (fun ss=>if ss.length < 64 then some (D.lst ((bQ ss).map D.str)) else none)=some d:=h
  cases hk:vZ kvs with
  |none=>rw[hk]at h';cases h'
  |some ss =>
   simp only[hk,Jd]at h'
   split at h'
   ·rename_i h64
    cases h'
    obtain⟨c,vs,rfl,hc,rk⟩:=OB.dic s rx
    exact .inr ⟨c,vs,ss,rfl,hc,rk.keys.trans (qD hk),h64,fun l hl=>q _ F _ (Ext.lay s hl) ⟨l,_,rfl,hl,ax,nofr s hl,Reps.ofStrs _⟩⟩
   ·cases h'
 |_=>exact .inl (yi F H v _ d Q s rx h q)
theorem o4(hc:X.calm=true)(hg:Gl X "sorted")(hm:X.mg "sorted" = none)(hv:bootBuiltins "sorted" = some (.builtin "sorted"))(ha:Ev X .O e f)(he:aO e=true:=by rfl):Ev X .F (.Call (.Name "sorted" p) [e] [] pos) (un m8 f) :=
 l_ (dc.or u8 (sJ hc)) Ai hg hm hv ha nofun nofun he
end
end L2.Cu
namespace L2
open PySem PySem.Spec PyProof.Rows
def RIt(b:Bool)(h:Heap)(it a:Addr)(i:Nat):Prop:=match b with
 |true=>h.IsListIter it a i
 |false=>h.IsTupleIter it a i
def RSq(b:Bool)(h:Heap)(a:Addr)(vs:OM):Prop:=match b with
 |true=>h.IsList a vs
 |false=>h.IsTuple a vs
variable{it a:Addr}{h h':Heap}{b:Bool}
theorem RIt.keep(x:RIt b h it a i)(k:∀o,h.get? it=some o->h'.get? it=some o):RIt b h' it a i:=by
 cases b <;> exact let ⟨o,e,r⟩:=x; ⟨o,k o e,r⟩
variable{vs:OM}
theorem RSq.keep(x:RSq b h a vs)(k:∀o,h.get? a=some o->h'.get? a=some o):RSq b h' a vs:=by
 cases b <;> exact let ⟨o,e,r⟩:=x; ⟨o,k o e,r⟩
theorem RIt.obj(x:RIt b h it a i):∃o,h.get? it=some o/\∃vs,o.data=.fields vs:=by
 cases b <;> exact let ⟨o,e,_,r⟩:=x; ⟨o,e,_,r⟩
section
variable {prog:Program}{w:World}{A:Around}{E:OA}{s:Shared}
variable{t:Addr}
theorem zL{x:Value}{Q:OA}(st:s.heap.IsTupleIter it t i)(ht:s.heap.IsTuple t vs)(hx:vs[i]? = some x)
  (q:∀h',h'.IsTupleIter it t (i + 1)->Heap.SameBut it s.heap h'->Q x { s with heap:=h' }):wpAny (model prog w) A (Builtin.SmallTypes.nextOf (.ref it)) Q E s:=by
 obtain⟨o,ho,hc,hd⟩:=id st
 obtain⟨p,hp,_,n,hn⟩:=ht
 unfold Builtin.SmallTypes.nextOf
 refine Jn (KO (name:=Str.ofString "__next__") st.typeIs K3 (K_ K3 st.typeIs F.entry_tuple_iterator_next ?_ (F.args_tuple_iterator_next_1 _)))
 show wpAny _ _ (field (.ref it) 0 >>= _) _ _ s
 refine Jn (J_ ho hd (x:=.ref t) rfl ?_)
 show wpAny _ _ (if(Value.ref t == Value.none)=true then _ else field (.ref it) 1 >>= _) _ _ s
 rw[if_neg (show ¬(Value.ref t == Value.none)=true from JF)]
 refine Jn (J_ ho hd (x:=.int i 0) rfl (Jn (LI hp hn ?_)))
 simp only[KS,hx]
 exact Jn (K5 ho hd (by simp) (Jv ⟨x,rfl,Jv (q _ ⟨_,JW _ ho (L3 (Lf hd _)),(Obj.cls_mapFields ..).trans hc,by rw[Lf hd];simp[rawInt]⟩ (Mf ..))⟩))
theorem Ct{Q:OA}(hh:A.handled=none)(st:s.heap.IsTupleIter it t i)(ht:s.heap.IsTuple t vs)(hx:vs[i]? = none)
  (q:∀h' e,Heap.ExtBut it s.heap h'->(∃o,h'.get? e=some o/\o.cls=.type "StopIteration")->E (.ref e) { s with heap:=h' }):wpAny (model prog w) A (Builtin.SmallTypes.nextOf (.ref it)) Q E s:=by
 obtain⟨o,ho,hc,hd⟩:=id st
 obtain⟨p,hp,_,n,hn⟩:=ht
 unfold Builtin.SmallTypes.nextOf
 refine Jn (KO (name:=Str.ofString "__next__") st.typeIs K3 (K_ K3 st.typeIs F.entry_tuple_iterator_next ?_ (F.args_tuple_iterator_next_1 _)))
 show wpAny _ _ (field (.ref it) 0 >>= _) _ _ s
 refine Jn (J_ ho hd (x:=.ref t) rfl ?_)
 show wpAny _ _ (if(Value.ref t == Value.none)=true then _ else field (.ref it) 1 >>= _) _ _ s
 rw[if_neg (show ¬(Value.ref t == Value.none)=true from JF)]
 refine Jn (J_ ho hd (x:=.int i 0) rfl (Jn (LI hp hn ?_)))
 simp only[KS,hx]
 refine Jn (Mi (Jn (K5 ho hd (by simp) ?_)))
 show wpAny _ _ (newExc (.type "StopIteration") [] >>= _) _ _ _
 refine Jn ?_
 simp only[newExc,newTuple]
 refine Jn (Km (Jn (m:=firstArgMember _ _) (wpAny_of_eq (a:=Value.none) (by first |rfl | (simp only[firstArgMember];rfl)) (Km ?_ (by size_fits)))) (by size_fits))
 simp only[raiseNew]
 refine Jn (wpAny_handled ?_)
 rw[show A.in1.handled=none from hh]
 exact Jn (Jv (wpAny_throw (q _ _ (((Mf ..).extBut.push _).push _) ⟨_,Jx _ rfl,rfl⟩)))
theorem tR{x:Value}{Q:OA}(st:RIt b s.heap it t i)(ht:RSq b s.heap t vs)(hx:vs[i]? = some x)
  (q:∀h',RIt b h' it t (i + 1)->Heap.SameBut it s.heap h'->Q x { s with heap:=h' }):wpAny (model prog w) A (Builtin.SmallTypes.nextOf (.ref it)) Q E s:=by
 cases b with
 |true=>exact wpAny_nextOf_list_item st ht hx q
 |false=>exact zL st ht hx q
theorem wT{Q:OA}(hh:A.handled=none)(st:RIt b s.heap it t i)(ht:RSq b s.heap t vs)(hx:vs[i]? = none)
  (q:∀h' e,Heap.ExtBut it s.heap h'->(∃o,h'.get? e=some o/\o.cls=.type "StopIteration")->E (.ref e) { s with heap:=h' }):wpAny (model prog w) A (Builtin.SmallTypes.nextOf (.ref it)) Q E s:=by
 cases b with
 |true=>exact wpAny_nextOf_list_end hh st ht hx q
 |false=>exact Ct hh st ht hx q
def cR(b:Bool)(a:Addr):Obj:=match b with
 |true=>{ cls:=.type "list_iterator",data:=.fields #[.ref a,.int 0 0] }
 |false=>{ cls:=.type "tuple_iterator",data:=.fields #[.ref a,.int 0 0] }
theorem rF(e:h.get? it=some (cR b a)):RIt b h it a 0:=by
 cases b <;> exact⟨_,e,rfl,rfl⟩
theorem tU{Q:OA}(h:RSq b s.heap a vs)(q:Q (.ref s.heap.objs.size) { s with heap:=s.heap.push (cR b a) }):wpAny (model prog w) A (pyIter (.ref a)) Q E s:=by
 cases b with
 |true=>exact LM h q
 |false=>exact wpAny_pyIter_tuple h q
end
theorem cQ{a b:Nat}(h:a ≠ b):@Ne Addr a b:=h
structure ZSt (so:O6) (m:Nat) (f0:Value) (i:Nat->Nat) (ws:OH) (h:Heap):Prop where
 its:∀(k:Nat) (b:Bool) (a:Addr),so[k]? = some (b,a)->RIt b h (m + k) a (i k)
 ti:h.get? (m + so.length)=some { cls:=.type "tuple",data:=.seq ((List.range so.length).map fun k=>Value.ref (m + k)).toArray }
 to:h.get? (m + so.length + 1)=some { cls:=.type "tuple",data:=.seq ws.toArray }
 lw:ws.length=so.length
 z:IsZip h (m + so.length + 2) (m + so.length) (m + so.length + 1) f0
section
variable {prog:Program}{w:World}{A:Around}{E:OA}{s:Shared}
variable{ws:OH}
theorem CH{T:Addr}{x:Value}{k:Nat}{Q:OU}(hn:ws.length<=sizeLine)(hT:s.heap.get? T=some { cls:=.type "tuple",data:=.seq ws.toArray })
  (h:∀h',h'.get? T=some { cls:=.type "tuple",data:=.seq (ws.set k x).toArray }->Heap.SameBut T s.heap h'->Q () { s with heap:=h' }) :
  wpAny (model prog w) A (updateSeq T (·.setIfInBounds k x)) Q E s:=by
 refine wpAny_updateSeq hT rfl (h _ ?_ (Mf ..)) (by simpa using hn) (by simp;omega)
 rw[JW _ hT rfl]
 simp[Obj.mapSeq]
theorem zW{α:Type _}(xs ws:List α)(k:Nat)(x:α)(hx:xs[k]? = some x)(hk:k < ws.length):(xs.take k ++ ws.drop k).set k x=xs.take (k + 1) ++ ws.drop (k + 1):=by
 have hk':k < xs.length:=(List.getElem?_eq_some_iff.mp hx).1
 rw[List.set_append_right _ _ (by simp;omega)]
 have e:k - (xs.take k).length=0:=by simp;omega
 rw[e,KZ hk,KL,Ln,hx]
 simp
variable{m:Nat}{so:O6}
theorem Ck{K:Nat}{xs:OH}{Q:OA}(hh:A.handled=none)(hn:so.length<=sizeLine)(h0:so ≠ [])(hlt:∀p ∈ so,p.2 < m)(st:ZSt so m .none (fun _=>i) ws s.heap)
  (hl:xs.length=K) (hK:K<=so.length) (hv:∀(k:Nat) (b:Bool) (a:Addr),so[k]? = some (b,a)->∃vs,RSq b s.heap a vs/\(k < K->vs[i]? = xs[k]?)/\(k=K->vs[i]? = none))
  (hQ:K=so.length->∀h',ZSt so m (rawInt s.heap.objs.size) (fun _=>i + 1) xs h'->h'.get? s.heap.objs.size=some { cls:=.type "tuple",data:=.seq xs.toArray }->h'.objs.size=s.heap.objs.size + 1 ->
   (∀(c:Nat) o,(c < m\/m + so.length + 2 < c)->s.heap.get? c=some o->h'.get? c=some o)->Q (.ref s.heap.objs.size) { s with heap:=h' })
  (hE:K < so.length->∀h' e,(∀(c:Nat) o,(c < m\/m + so.length + 2 < c)->s.heap.get? c=some o->h'.get? c=some o)->(∃o,h'.get? e=some o/\o.cls=.type "StopIteration")->E (.ref e) { s with heap:=h' }) :
  wpAny (model prog w) A (Builtin.«zip.__next__» ⟨[.ref (m + so.length + 2)],[]⟩) (fun fin s'=>∃v,fin=.done (.ret v)/\Q v s') E s:=by
 have hz:=st.z
 show wpAny _ _ (field (.ref _) 2 >>= _) _ _ _
 refine Jn (J_ hz rfl (x:=.bool false) rfl ?_)
 show wpAny _ _ (field (.ref _) 3 >>= _) _ _ _
 refine Jn (J_ hz rfl (x:=.ref (m + so.length)) rfl ?_)
 refine Jn (LI st.ti rfl ?_)
 have he:((List.range so.length).map fun k=>Value.ref (m + k)).toArray.isEmpty=false:=by
  cases so with
  |nil=>exact absurd rfl h0
  |cons _ _=>simp
 simp only[he,J9,L0]
 refine Jn ?_
 unfold Builtin.SmallTypes.ownedTupleIsFree
 refine Jn (J_ hz rfl (x:=.none) rfl (Jv ?_))
 simp only[if_true]
 refine Jn (Mi ?_)
 refine Jn (J_ hz rfl (x:=.ref (m + so.length + 1)) rfl ?_)
 refine Jn (LF hz (by simp) fun h₁ hz₁ hs₁=>?_)
 replace hz₁:IsZip h₁ (m + so.length + 2) (m + so.length) (m + so.length + 1) .ellipsis:=hz₁
 have k₁:∀c o,c ≠ m + so.length + 2->s.heap.get? c=some o->h₁.get? c=some o:=fun c o hc e=>hs₁.extBut _ _ hc e
 refine Jn (wpAny_forIn_list _ (fun rest b s'=>∃k h',k<=K/\rest=(((List.range so.length).map fun k=>Value.ref (m + k)).toArray.toList.zipIdx).drop k/\b=(none,())/\s'={ s with heap:=h' } /\
  ZSt so m .ellipsis (fun j=>if j < k then i + 1 else i) (xs.take k ++ ws.drop k) h'/\h'.objs.size=s.heap.objs.size/\∀(c:Nat) o,(c < m\/m + so.length + 2 < c)->s.heap.get? c=some o->h'.get? c=some o) _ ?_ ?_ _ _ ?_)
 ·intro x rest b s' hI
  refine JS fun hno=>?_
  obtain⟨k,h',hk,hr,hb,hs,Z,hz',kk⟩:=hI
  subst hb hs
  apply hno
  clear hno
  have hkn:k < so.length:=by
   have:=JR List.length hr
   simp at this
   omega
  have hx0:(((List.range so.length).map fun k=>Value.ref (m + k)).toArray.toList.zipIdx)[k]? = some x:=by
   have:=JR (fun l=>l[0]?) hr
   simpa using this.symm
  have hx1:x=(.ref (m + k),k):=by
   simp[List.getElem?_zipIdx,hkn]at hx0
   exact hx0.symm
  have hr1:rest=(((List.range so.length).map fun k=>Value.ref (m + k)).toArray.toList.zipIdx).drop (k + 1):=by
   have:=JR List.tail hr
   simpa[List.tail_drop] using this
  subst hx1
  obtain⟨⟨b,a⟩,hba⟩:∃p,so[k]? = some p:=⟨so[k],Jr hkn⟩
  have ham:(a:Nat) < m:=hlt (b,a) (JY hba)
  obtain⟨vs,r0,v1,v2⟩:=hv k b a hba
  have r1:RSq b h' a vs:=r0.keep fun o e=>kk a o (.inl ham) e
  have i1:RIt b h' (m + k) a i:=by have:=Z.its k b a hba;simpa using this
  refine Jn (wpAny_onRaise ?_)
  show wpAny _ _ (Builtin.SmallTypes.nextOf (.ref (m + k)) >>= _) _ _ _
  rcases Nat.lt_or_ge k K with hlk |hge
  ·have hxk:vs[i]? = some xs[k]:=by rw[v1 hlk];exact Jr ⋯
   refine Jn (tR (s:={ s with heap:=h' }) i1 r1 hxk fun h2 i2 s2=>Jv ?_)
   have t2:=s2.extBut _ _ (show m + so.length + 1 ≠ m + k by first |omega |exact cQ ⋯) Z.to
   refine Jn (LI t2 rfl ?_)
   refine Jn (CH (s:={ s with heap:=h2 }) (by rw[Z.lw];exact hn) t2 fun h3 t3 s3=>?_)
   refine Jn (wpAny_letGo (Jv ?_))
   refine⟨k + 1,h3,⋯,hr1,rfl,rfl,⟨?_,?_,?_,?_,?_⟩,?_,?_⟩
   ·intro j b' a' hj
    have hjn:j < so.length:=(List.getElem?_eq_some_iff.mp hj).1
    have up:∀c o,c ≠ m + k->c ≠ m + so.length + 1->h'.get? c=some o->h3.get? c=some o:=fun c o c1 c2 e=>s3.extBut _ _ c2 (s2.extBut _ _ c1 e)
    by_cases ejk:j=k
    ·subst ejk
     rw[hba]at hj
     cases hj
     rw[if_pos (Nat.lt_succ_self _)]
     exact i2.keep fun o e=>s3.extBut _ _ (by first |omega |exact cQ ⋯) e
    ·have q:=Z.its j b' a' hj
     have ee:(if j < k + 1 then i + 1 else i)=if j < k then i + 1 else i:=by
      by_cases h:j < k
      ·rw[if_pos h,if_pos ⋯]
      ·rw[if_neg h,if_neg ⋯]
     show RIt b' h3 (m + j) a' (if j < k + 1 then i + 1 else i)
     rw[ee]
     exact q.keep fun o e=>up _ o (by first |omega |exact cQ ⋯) (by first |omega |exact cQ ⋯) e
   ·exact s3.extBut _ _ (by first |omega |exact cQ ⋯) (s2.extBut _ _ (by first |omega |exact cQ ⋯) Z.ti)
   ·rw[<-zW xs ws k xs[k] (Jr ⋯) (by rw[st.lw];exact hkn)]
    exact t3
   ·have:=st.lw
    simp
    omega
   ·exact s3.extBut _ _ (by first |omega |exact cQ ⋯) (s2.extBut _ _ (by first |omega |exact cQ ⋯) Z.z)
   ·rw[s3.1,s2.1];exact hz'
   ·exact fun c o hc e=>s3.extBut _ _ (by first |omega |exact cQ ⋯) (s2.extBut _ _ (by first |omega |exact cQ ⋯) (kk c o hc e))
  ·have hkK:k=K:=by omega
   refine Jn (wT (s:={ s with heap:=h' }) hh i1 r1 (v2 hkK) fun h2 e s2 he=>?_)
   obtain⟨oe,hoe,hce⟩:=he
   have hz2:IsZip h2 (m + so.length + 2) (m + so.length) (m + so.length + 1) .ellipsis:=s2 _ _ (by first |omega |exact cQ ⋯) Z.z
   have hez:e ≠ m + so.length + 2:=fun x=>by subst x;rw[hz2]at hoe;cases hoe;simp at hce
   exact LF (s:={ s with heap:=h2 }) hz2 (by simp) fun h3 _ s3=>hE ⋯ h3 e (fun c o hc x=>s3.extBut _ _ (by first |omega |exact cQ ⋯) (s2 _ _ (by first |omega |exact cQ ⋯) (kk c o hc x))) ⟨oe,s3.extBut _ _ hez hoe,hce⟩
 ·intro b s' hI
  refine JS fun hno=>?_
  obtain⟨k,h',hk,hr,hb,hs,Z,hz',kk⟩:=hI
  subst hb hs
  apply hno
  clear hno
  have hkn:so.length<=k:=by
   have:=JR List.length hr
   simp at this
   omega
  have hKn:K=so.length:=by omega
  have e1:xs.take k ++ ws.drop k=xs:=by rw[Ko ⋯,LL (by rw[st.lw];exact hkn),JZ]
  have e2:∀(j:Nat) (b:Bool) (a:Addr),so[j]? = some (b,a)->RIt b h' (m + j) a (i + 1):=fun j b a hj=>by
   have hjn:j < so.length:=(List.getElem?_eq_some_iff.mp hj).1
   have:=Z.its j b a hj
   rwa [if_pos (show j < k by omega)]at this
  have t1:=Z.to
  rw[e1]at t1
  refine Jn (LI t1 rfl ?_)
  refine Jn (wpAny_newTuple ?_ (by simp;omega))
  show wpAny _ _ (Builtin.SmallTypes.ownedTupleHandOut _ (.ref h'.objs.size) >>= _) _ _ _
  refine Jn ?_
  unfold Builtin.SmallTypes.ownedTupleHandOut
  have z3:=Jp { cls:=.type "tuple",data:=.seq xs.toArray } Z.z
  refine Jn (LF (s:={ s with heap:=h'.push { cls:=.type "tuple",data:=.seq xs.toArray } }) z3 (by simp) fun h4 z4 s4=>?_)
  replace z4:IsZip h4 (m + so.length + 2) (m + so.length) (m + so.length + 1) (rawInt h'.objs.size):=z4
  refine LF (s:={ s with heap:=h4 }) z4 (by simp) fun h5 z5 s5=>?_
  replace z5:IsZip h5 (m + so.length + 2) (m + so.length) (m + so.length + 1) (rawInt h'.objs.size):=z5
  have up:∀(c:Nat) o,c ≠ m + so.length + 2->h'.get? c=some o->h5.get? c=some o:=fun c o hc e=>s5.extBut _ _ hc (s4.extBut _ _ hc (Jp _ e))
  have hzl:m + so.length + 2 < h'.objs.size:=Ju Z.z
  have t5:=s5.extBut _ _ (show h'.objs.size ≠ m + so.length + 2 by first |omega |exact cQ ⋯) (s4.extBut _ _ (show h'.objs.size ≠ m + so.length + 2 by first |omega |exact cQ ⋯) (Jx _ rfl))
  have z8:h5.objs.size=h'.objs.size + 1:=by rw[s5.1,s4.1,KP]
  refine Jv ⟨_,rfl,?_⟩
  show Q (.ref h'.objs.size) _
  rw[hz']at z5 t5 z8 ⊢
  exact hQ hKn h5 ⟨fun j b a hj=>(e2 j b a hj).keep fun o e=>by
   have hjn:j < so.length:=(List.getElem?_eq_some_iff.mp hj).1
   exact up _ o (by first |omega |exact cQ ⋯) e,up _ _ (by first |omega |exact cQ ⋯) Z.ti,up _ _ (by first |omega |exact cQ ⋯) t1,⋯,z5⟩ (by simpa using t5) z8 fun c o hc e=>up c o (by first |omega |exact cQ ⋯) (kk c o hc e)
 ·refine⟨0,h₁,Ks _,rfl,rfl,rfl,⟨?_,?_,?_,?_,?_⟩,hs₁.1,fun c o hc e=>k₁ c o (by first |omega |exact cQ ⋯) e⟩
  ·intro j b a hj
   have hjn:j < so.length:=(List.getElem?_eq_some_iff.mp hj).1
   exact(st.its j b a hj).keep fun o e=>k₁ _ o (by first |omega |exact cQ ⋯) e
  ·exact k₁ _ _ (by first |omega |exact cQ ⋯) st.ti
  ·exact k₁ _ _ (by first |omega |exact cQ ⋯) st.to
  ·exact st.lw
  ·exact hz₁
theorem GK{T:Addr}{i:Nat->Nat}{elts:OP}{x1}{pos:Pos}{Q:OU}(st:ZSt so m (rawInt T) i ws s.heap)
  (q:∀h',ZSt so m .none i ws h'->Heap.SameBut (m + so.length + 2) s.heap h'->Q () { s with heap:=h' }):wpAny (model prog w) A (letOwnedTupleGo (.Tuple elts x1 pos) (.ref (m + so.length + 2)) (.ref T)) Q E s :=
 wpAny_letOwnedTupleGo_zip st.z fun h' z' s'=>q h' ⟨fun j b a hj=>(st.its j b a hj).keep fun o e=>by
  have hjn:j < so.length:=(List.getElem?_eq_some_iff.mp hj).1
  exact s'.extBut _ _ (by first |omega |exact cQ ⋯) e,s'.extBut _ _ (by first |omega |exact cQ ⋯) st.ti,s'.extBut _ _ (by first |omega |exact cQ ⋯) st.to,st.lw,z'⟩ s'
theorem wG{K:Nat}{xs:OH}{Q:PL}(hh:A.handled=none)(hn:so.length<=sizeLine)(h0:so ≠ [])(hlt:∀p ∈ so,p.2 < m)(st:ZSt so m .none (fun _=>i) ws s.heap)
  (hl:xs.length=K) (hK:K<=so.length) (hv:∀(k:Nat) (b:Bool) (a:Addr),so[k]? = some (b,a)->∃vs,RSq b s.heap a vs/\(k < K->vs[i]? = xs[k]?)/\(k=K->vs[i]? = none))
  (hQ:K=so.length->∀h',ZSt so m (rawInt s.heap.objs.size) (fun _=>i + 1) xs h'->h'.get? s.heap.objs.size=some { cls:=.type "tuple",data:=.seq xs.toArray }->h'.objs.size=s.heap.objs.size + 1 ->
   (∀(c:Nat) o,(c < m\/m + so.length + 2 < c)->s.heap.get? c=some o->h'.get? c=some o)->Q (some (.ref s.heap.objs.size)) { s with heap:=h' })
  (hE:K < so.length->∀h',(∀(c:Nat) o,(c < m\/m + so.length + 2 < c)->s.heap.get? c=some o->h'.get? c=some o)->Q none { s with heap:=h' }) :
  wpAny (model prog w) A (pyNext (.ref (m + so.length + 2))) Q E s:=by
 have hT:s.TypeIs (.ref (m + so.length + 2)) "zip" := ⟨_,st.z,rfl⟩
 unfold pyNext
 refine Jn (wpAny_attempt (KO (name:=Str.ofString "__next__") hT F.slot_zip_next (K_ F.slot_zip_next hT F.entry_zip_next
  (Ck (A:=A.in1) hh hn h0 hlt st hl hK hv (fun e h' a1 a2 a3 a4=>Jv (hQ e h' a1 a2 a3 a4)) fun e h' x kk hx=>?_) (F.args_zip_next_1 _))))
 obtain⟨o,ho,hc⟩:=hx
 exact Jn (wpAny_isInstance (T := "StopIteration") (b:=true) ⟨o,ho,hc⟩ isSubtype_stop (Jv (hE e h' kk)))
end
def SqB(K:OE)(b:Bool)(H:Hp)(a:Addr)(xs:ON):Prop:=match b with
 |true=>SqL K H a xs
 |false=>SqT K H a xs
variable{s:Shared}{H:Hp}{σ:St}{Ml:OC}{X:Cx}
theorem Inv.sqB{xs:ON}(I:Inv X Ml σ H s)(h:SqB X.K b H a xs):∃its:List Value,aW xs its/\RSq b s.heap a its.toArray:=by
 cases b with
 |true=>obtain⟨its,r,p,_⟩:=I.list h;exact⟨its,r,p.isList⟩
 |false=>obtain⟨its,r,p,_⟩:=I.tuple h;exact⟨its,r,p⟩
theorem Inv.sqB_inj{xs ys:ON}(I:Inv X Ml σ H s)(h:SqB X.K b H a xs)(h':SqB X.K b H a ys):xs=ys:=by
 cases b with
 |true=>exact I.list_inj h h'
 |false=>exact I.tuple_inj h h'
theorem Inv.turnedN{t':Nat}{fp:OT}(I:Inv X Ml σ H s)(k:∀b o,b ∉ fp->s.heap.get? b=some o->h'.get? b=some o)(hf:∀b ∈ fp,kx X Ml H b):Inv X Ml σ H { s with heap:=h',toks:=t' }:=by
 have nit:∀b u,H b=some u->b ∉ fp:=fun b u e z=>by rw[(hf b z).1]at e;cases e
 refine I.step (g':=s.gens) (d':=s.drawn) (ch:=fp) (fun b hb=>?_) (fun b o _ _ hc e _=>k b o hc e) (fun b o _ _ hc e _=>⟨o.slots,k b o hc e⟩) (fun _ _ _ _ n=>n)
  (fun b o hc e=>⟨o,k b o hc e⟩) (fun _ _ e=>e) (fun _ _ _ e=>e) (fun b ps e=>⟨#[],by rw[e];simp⟩) (fun m hm=>?_) (fun b u e=>?_) I.bare
 ·obtain⟨_,f1,_,f3,f4,f5⟩:=hf b hb
  exact⟨f3,f1,f4,f5⟩
 ·obtain⟨o,es,ep,ho,r⟩:=hm
  exact⟨o,es,ep,k _ o (fun z=>(hf _ z).2.1 rfl) ho,r⟩
 ·refine(I.hok b u e).stay (fun c v hc q=>k c v ?_ q) (fun _ q=>q) fun _ _ q=>q
  rcases hc with z |z
  ·rw[z];exact nit b u e
  ·exact nit c _ z
def Itz(K:OE)(so:O6):It :=
  ⟨fun i H=>∃xs:List V,xs.length=so.length/\∀(k:Nat) (b:Bool) (a:Addr),so[k]? = some (b,a)->∃ys,SqB K b H a ys/\ys[i]? = xs[k]?,
   fun i H x H'=>∃(T:Addr) (xs:ON),x=.ref T/\H T=none/\H'=upd H T (.tup xs)/\xs.length=so.length/\∀(k:Nat) (b:Bool) (a:Addr),so[k]? = some (b,a)->∀ys,SqB K b H a ys->ys[i]? = xs[k]?,
   fun i H=>∃k0,k0 < so.length/\∀(k:Nat) (b:Bool) (a:Addr),so[k]? = some (b,a)->∃ys,SqB K b H a ys/\(k < k0->i < ys.length)/\(k=k0->ys.length<=i)⟩
theorem hG{α:Type _}{P:Nat->α->Prop}:∀(n:Nat),(∀k,k < n->∃u,P k u)->∃us:List α,us.length=n/\∀(k:Nat) u,us[k]? = some u->P k u
 | 0,_=>⟨[],rfl,fun k u e=>by simp at e⟩
 |n + 1,h=>by
  obtain⟨us,hl,hp⟩:=hG n fun k hk=>h k ⋯
  obtain⟨u,hu⟩:=h n ⋯
  refine⟨us ++ [u],by simp[hl],fun k v e=>?_⟩
  by_cases hk:k < us.length
  ·rw[Kr hk]at e;exact hp k v e
  ·rw[Ki ⋯]at e
   have:k - us.length=0:=by
    have:=(List.getElem?_eq_some_iff.mp e).1
    simp at this
    omega
   rw[this]at e
   cases e
   have:k=n:=by omega
   subst this
   exact hu
theorem wJ:∀{xs:ON}{us:OH},xs.length=us.length->(∀(k:Nat) x u,xs[k]? = some x->us[k]? = some u->bi x u)->aW xs us
 | [],[],_,_=>.nil
 |x :: xs,u :: us,hl,h=>.cons (h 0 x u rfl rfl) (wJ (by simpa using hl) fun k a b e1 e2=>h (k + 1) a b (by simpa using e1) (by simpa using e2))
 | [],_ :: _,hl,_=>by simp at hl
 |_ :: _,[],hl,_=>by simp at hl
abbrev zfp(so:O6)(m:Nat):List Addr:=(List.range (so.length + 3)).map (m + ·)
theorem d9{so:O6}{m:Nat}{b:Nat}:b ∈ zfp so m ↔ m<=b/\b<=m + so.length + 2:=by
 simp only[List.mem_map,List.mem_range]
 exact⟨fun⟨k,h,e⟩=>by subst e;omega,fun h=>⟨b - m,⋯,⋯⟩⟩
theorem zH{P:Program}{w:World}{K:OE}{elts:OP}{x1}{pos:Pos}(so:O6)(m:Nat)(hn:so.length<=sizeLine)(h0:so ≠ [])(hlt:∀p ∈ so,p.2 < m) :
  vc P w K (.Tuple elts x1 pos) (Itz K so) (zfp so m) (m + so.length + 2) (fun i h=>∃ws,ZSt so m .none (fun _=>i) ws h) where
 mem:=d9.mpr ⋯
 obj:=fun i h zz110_0 (b:Nat) hb=>by
  obtain⟨ws,st⟩:=zz110_0
  have hb:m<=b/\b<=m + so.length + 2:=d9.mp hb
  by_cases h1:b < m + so.length
  ·obtain⟨k,hk⟩:∃k,b=m + k:=⟨b - m,⋯⟩
   subst hk
   obtain⟨o,e,vs,d⟩:=(st.its k (so[k]'⋯).1 (so[k]'⋯).2 (Jr _)).obj
   exact⟨o,e,fun v z=>by rw[d]at z;cases z⟩
  ·by_cases h2:b=m + so.length
   ·subst h2;exact⟨_,st.ti,fun v z=>by have z':Data.seq _ _=Data.cell v:=z;cases z'⟩
   ·by_cases h3:b=m + so.length + 1
    ·subst h3;exact⟨_,st.to,fun v z=>by have z':Data.seq _ _=Data.cell v:=z;cases z'⟩
    ·have h4:b=m + so.length + 2:=by omega
     subst h4;exact⟨_,st.z,fun v z=>by have z':Data.fields _=Data.cell v:=z;cases z'⟩
 keep:=fun i h h' ⟨ws,st⟩ k=>⟨ws,fun j b a hj=>(st.its j b a hj).keep fun o e=>by
  have hjn:j < so.length:=(List.getElem?_eq_some_iff.mp hj).1
  exact k _ (d9.mpr ⋯) o e,k _ (d9.mpr ⋯) _ st.ti,k _ (d9.mpr ⋯) _ st.to,st.lw,k _ (d9.mpr ⋯) _ st.z⟩
 item:=by
  intro X hP hw hK hc i Ml s σ H E I hf ⟨ws,st⟩ hg
  subst hP hw hK
  obtain⟨xs,hxl,hx⟩:=hg
  obtain⟨us,hul,hu⟩:=hG (P:=fun k u=>∃x,xs[k]? = some x/\bi x u/\∀b a,so[k]? = some (b,a)->∃vs:Array Value,RSq b s.heap a vs/\vs[i]? = some u) so.length fun k hk=>by
   obtain⟨ys,q,e⟩:=hx k (so[k]'hk).1 (so[k]'hk).2 (Jr hk)
   obtain⟨its,rv,p⟩:=I.sqB q
   have e2:xs[k]? = some (xs[k]'⋯):=Jr _
   obtain⟨u,hu,ru⟩:=rv.get (e.trans e2)
   refine⟨u,_,e2,ru,fun b a hba=>⟨its.toArray,?_,by simpa using hu⟩⟩
   have e3:=(Jr hk).symm.trans hba
   rw[Js e3]at p
   exact p
  have NI:aW xs us:=wJ ⋯ fun k x u e1 e2=>by
   obtain⟨x',e3,r,_⟩:=hu k u e2
   rw[e1]at e3;cases e3;exact r
  refine wG (xs:=us) (K:=so.length) (I.ok.hd hc) hn h0 hlt st hul (Jw _) (fun k b a hba=>?_) (fun _ h' st' t' z' kk=>?_) (fun hlt=>absurd hlt (KI _))
  ·have hk:k < so.length:=(List.getElem?_eq_some_iff.mp hba).1
   have e2:us[k]? = some (us[k]'⋯):=Jr _
   obtain⟨x,_,_,q⟩:=hu k _ e2
   obtain⟨vs,r,e⟩:=q b a hba
   exact⟨vs,r,fun _=>by rw[e,e2],fun z=>⋯⟩
  ·refine⟨_,rfl,GK (s:={ s with heap:=h' }) st' fun h2 st2 s2=>?_⟩
   have hT:H s.heap.objs.size=none:=I.fresh
   have hfl:∀b ∈ zfp so m,b < s.heap.objs.size:=fun b hb=>L5 (d9.mp hb).2 (Ju st.z)
   have hf1:∀b ∈ zfp so m,kx X Ml (upd H s.heap.objs.size (.tup xs)) b:=fun b hb=>⟨by rw[ap (JI (hfl b hb))];exact(hf b hb).1,(hf b hb).2⟩
   have I1:Inv X Ml σ (upd H s.heap.objs.size (.tup xs)) { s with heap:=s.heap.push { cls:=.type "tuple",data:=.seq us.toArray } }:=I.laid (t':=s.toks) (fun b u e=>Jp _ e) (Jw _)
    ⟨⋯,us,NI,⟨_,Jx _ rfl,rfl,_,rfl⟩⟩
   have I2:Inv X Ml σ (upd H s.heap.objs.size (.tup xs)) { s with heap:=h2 }:=I1.turnedN (t':=s.toks) (h':=h2) (fun(b:Nat) o hb e=>by
    have hbz:b ≠ m + so.length + 2:=fun z=>hb (d9.mpr ⋯)
    refine s2.extBut _ _ hbz ?_
    rcases Heap.get?_push_cases e with⟨e1,e2⟩ |e'
    ·subst e1 e2
     exact t'
    ·exact kk b o (by have:¬(m<=b/\b<=m + so.length + 2):=mt d9.mpr hb;omega) e') hf1
   refine⟨.ref s.heap.objs.size,_,I2,rfl,⟨_,xs,rfl,hT,rfl,hxl,fun k b a hba ys hy=>?_⟩,⟨_,st2⟩,fun b hb=>(hf1 b hb).1⟩
   obtain⟨ys',q,e⟩:=hx k b a hba
   rw[I.sqB_inj hy q]
   exact e
 done:=by
  intro X hP hw hK hc i Ml s σ H E I hf ⟨ws,st⟩ hg
  subst hP hw hK
  obtain⟨k0,hk0,hx⟩:=hg
  obtain⟨us,hul,hu⟩:=hG (P:=fun k u=>∀b a,so[k]? = some (b,a)->∃vs:Array Value,RSq b s.heap a vs/\vs[i]? = some u) k0 fun k hk=>by
   obtain⟨ys,q,e,_⟩:=hx k (so[k]'⋯).1 (so[k]'⋯).2 (Jr _)
   obtain⟨its,rv,p⟩:=I.sqB q
   obtain⟨u,hu,ru⟩:=rv.get (Jr (e hk))
   refine⟨u,fun b a hba=>⟨its.toArray,?_,by simpa using hu⟩⟩
   have e3:=(Jr (show k < so.length by omega)).symm.trans hba
   rw[Js e3]at p
   exact p
  refine wG (xs:=us) (K:=k0) (I.ok.hd hc) hn h0 hlt st hul (KG hk0) (fun k b a hba=>?_) (fun z=>⋯) (fun _ h' kk=>⟨rfl,I.turnedN (t':=s.toks) (fun(b:Nat) o hb e=>kk b o (by have:¬(m<=b/\b<=m + so.length + 2):=mt d9.mpr hb;omega) e) hf⟩)
  have hk:k < so.length:=(List.getElem?_eq_some_iff.mp hba).1
  by_cases hkk:k < k0
  ·have e2:us[k]? = some (us[k]'⋯):=Jr _
   obtain⟨vs,r,e⟩:=hu k _ e2 b a hba
   exact⟨vs,r,fun _=>by rw[e,e2],fun z=>⋯⟩
  ·obtain⟨ys,q,_,e⟩:=hx k b a hba
   obtain⟨its,rv,p⟩:=I.sqB q
   exact⟨_,p,fun z=>absurd z hkk,fun z=>by
    have:=e z
    have:=rv.length
    simp
    omega⟩
 self:=fun A i s Q E zz112_0 h=>by obtain⟨ws,st⟩:=zz112_0;exact wpAny_pyIter_zip st.z h
def GI(a b:Addr):Obj:={ cls:=.type "zip",data:=.fields #[.none,.bool false,.bool false,.ref a,.ref b] }
def xP(vs:OH):Obj:={ cls:=.type "tuple",data:=.seq vs.toArray }
abbrev zn2(h:Heap)(b1 b2:Bool)(l1 l2:Addr):Heap:=((((h.push (cR b1 l1)).push (cR b2 l2)).push (xP [.ref h.objs.size,.ref (h.push (cR b1 l1)).objs.size])).push (xP [.none,.none]))
abbrev zl2(h:Heap)(b1 b2:Bool)(l1 l2:Addr):Heap:=(zn2 h b1 b2 l1 l2).push (GI ((h.push (cR b1 l1)).push (cR b2 l2)).objs.size (((h.push (cR b1 l1)).push (cR b2 l2)).push (xP [.ref h.objs.size,.ref (h.push (cR b1 l1)).objs.size])).objs.size)
theorem GJ(b1 b2:Bool)(l1 l2:Addr)(xs ys:OM) :
  Meets (Builtin.«zip.__new__» ⟨[.type "zip",.ref l1,.ref l2],[]⟩) (fun _ R s=>RSq b1 s.heap l1 xs/\RSq b2 s.heap l2 ys /\
   R (.ok (.ret (.ref (zn2 s.heap b1 b2 l1 l2).objs.size))) { s with heap:=zl2 s.heap b1 b2 l1 l2 }) :=
 .of_wp fun prog w A R s h=>by
  obtain⟨hp,g,d,tk,os⟩:=s;obtain⟨hl1,hl2,h⟩:=h
  have MQ:=sub_zip
  have hL1:RSq b1 (Shared.heap ⟨hp,g,d,tk,os⟩) l1 xs:=hl1
  have hL2:RSq b2 (Shared.heap ⟨hp.push (cR b1 l1),g,d,tk,os⟩) l2 ys:=hl2.keep fun o e=>Jp _ e
  wp_walk using tU hL1,tU hL2
  exact⟨_,rfl,h⟩
section
variable {prog:Program}{w:World}{A:Around}{E:OA}{s:Shared}
theorem EL{b1 b2:Bool}{l1 l2:Addr}{xs ys:OM}{Q:OA}(hl1:RSq b1 s.heap l1 xs)(hl2:RSq b2 s.heap l2 ys)
  (h:∀h',ZSt [(b1,l1),(b2,l2)] s.heap.objs.size .none (fun _=>0) [.none,.none] h'->(∀c o,s.heap.get? c=some o->h'.get? c=some o)->Q (.ref (s.heap.objs.size + 2 + 2)) { s with heap:=h' }) :
  wpAny (model prog w) A (call (.type "zip") [.ref l1,.ref l2]) Q E s:=by
 refine callType_new F.called_zip nofun (F.typeCall_zip_2 _ _) (F.newCall_zip_2 _ _) (fun obj=>F.args_object_init_3 obj _ _) F.entry_zip_new (GJ b1 b2 l1 l2 xs ys) ⟨hl1,hl2,?_⟩
 have up:∀{hp:Heap}{c:Addr}{o u:Obj},hp.get? c=some u->(hp.push o).get? c=some u:=fun e=>Jp _ e
 have z1:(s.heap.push (cR b1 l1)).objs.size=s.heap.objs.size + 1:=KP ..
 have z2:((s.heap.push (cR b1 l1)).push (cR b2 l2)).objs.size=s.heap.objs.size + 2:=by rw[KP,z1]
 have z3:(((s.heap.push (cR b1 l1)).push (cR b2 l2)).push (xP [.ref s.heap.objs.size,.ref (s.heap.push (cR b1 l1)).objs.size])).objs.size=s.heap.objs.size + 3:=by rw[KP,z2]
 have z4:(zn2 s.heap b1 b2 l1 l2).objs.size=s.heap.objs.size + 4:=by rw[KP,z3]
 have f1:∀b l,(cR b l).isFreed=false:=fun b l=>by cases b <;> rfl
 have g1:(zl2 s.heap b1 b2 l1 l2).get? s.heap.objs.size=some (cR b1 l1):=up (up (up (up (Jx _ (f1 _ _)))))
 have g2:(zl2 s.heap b1 b2 l1 l2).get? (s.heap.objs.size + 1)=some (cR b2 l2):=by rw[<-z1];exact up (up (up (Jx _ (f1 _ _))))
 have g3:(zl2 s.heap b1 b2 l1 l2).get? (s.heap.objs.size + 2)=some (xP [.ref s.heap.objs.size,.ref (s.heap.objs.size + 1)]):=by rw[<-z2,<-z1];exact up (up (Jx _ rfl))
 have g4:(zl2 s.heap b1 b2 l1 l2).get? (s.heap.objs.size + 3)=some (xP [.none,.none]):=by rw[<-z3];exact up (Jx _ rfl)
 have g5:(zl2 s.heap b1 b2 l1 l2).get? (s.heap.objs.size + 4)=some (GI (s.heap.objs.size + 2) (s.heap.objs.size + 3)):=by rw[<-z4,<-z3,<-z2];exact Jx _ rfl
 show _/\_
 rw[z4]
 refine⟨⟨_,g5,rfl⟩,h _ ⟨fun k b a hk=>?_,?_,g4,rfl,g5⟩ fun c o e=>up (up (up (up (up e))))⟩
 ·match k,hk with
  | 0,hk=>cases hk;exact rF g1
  | 1,hk=>cases hk;exact rF g2
 ·exact g3
end
def sqI(K:OE)(H:Hp)(p:Bool×Addr):Prop:=∃ys,SqB K p.1 H p.2 ys
def IR(K:OE)(n:Nat)(ta:TA):TI:=fun σ H R=>ta σ H fun vs H1=>∃so:List (Bool×Addr),so.length=n/\vs=so.map (fun p=>V.ref p.2)/\(∀p ∈ so,sqI K H1 p)/\R (Itz K so) H1
theorem vv(x:RSq b h a vs):a < h.objs.size:=by
 cases b <;> exact let ⟨o,e,_⟩:=x;Ju e
theorem C4{elts:OP}{x1}{tp:Pos}{a b:Expr}{ta:TA}{p pos:Pos}(hg:Gl X "zip")(hm:X.mg "zip" = none)(ha:PA X [a,b] ta)(hs:starEach [a,b] X.env=[(false,eval a X.env),(false,eval b X.env)]:=by rfl)(hs2:starEach [b] X.env=[(false,eval b X.env)]:=by rfl) :
  PI X (.Tuple elts x1 tp) (.Call (.Name "zip" p) [a,b] [] pos) (IR X.K 2 ta):=by
 intro Ml s σ H R I h
 refine Call_ (kS I hg hm boot_zip (Kv (thn (ha pos Ml s σ H _ I h) fun us s1 zz113_0=>?_) (by rw[hs,hs2]) (by rw[hs2];rfl)))
 obtain⟨vs,H1,I1,r1,q1⟩:=zz113_0
 obtain⟨so,hl,e,hq,q⟩:=q1
 match so,hl with
 | [(b1,l1),(b2,l2)],_ =>
  subst e
  obtain⟨ys1,y1⟩:=hq (b1,l1) (by simp)
  obtain⟨ys2,y2⟩:=hq (b2,l2) (by simp)
  obtain⟨i1,_,p1⟩:=I1.sqB y1
  obtain⟨i2,_,p2⟩:=I1.sqB y2
  obtain⟨u,v,e,ru,rv⟩:=aW.two r1
  subst e
  cases ru
  cases rv
  refine EL p1 p2 fun h' st kk=>wpAny_pyIter_zip (s:={ s1 with heap:=h' }) st.z ?_
  refine⟨_,zfp [(b1,l1),(b2,l2)] s1.heap.objs.size,_,_,H1,rfl,I1.kept (t':=s1.toks) kk,zH _ _ (by show 2<=sizeLine;decide) (by simp) (fun p hp=>?_),⟨_,st⟩,fun c hc=>I1.fpOk (d9.mp hc).1 (I1.hok.fresh (d9.mp hc).1),q⟩
  rcases List.mem_cons.mp hp with z |hp
  ·rw[z];exact vv p1
  ·have z:p=(b2,l2):=by simpa using hp
   rw[z];exact vv p2
end L2
namespace L2.Cu
open PySem PySem.Spec PyProof.Rows
def RpB(F:Hp)(p:Bool×Addr)(ds:OK):Prop:=∃vs,F p.2=some (bif p.1 then .lst vs else .tup vs)/\Reps F vs ds
variable{F:Hp}
theorem RpB.sq{K:OE}{H:Hp}{p:Bool×Addr}{ds:OK}(h:RpB F p ds)(s:∀a o,F a=some o->H a=some o):∃vs,SqB K p.1 H p.2 vs/\Reps F vs ds:=by
 obtain⟨vs,e,r⟩:=h
 obtain⟨b,a⟩:=p
 cases b with
 |true=>exact⟨vs,SqL.of (s _ _ e),r⟩
 |false=>exact⟨vs,SqT.of (s _ _ e),r⟩
theorem RpB.mono{F F':Hp}{p:Bool×Addr}{ds:OK}(h:RpB F p ds)(y:Fr F F'):RpB F' p ds:=by
 obtain⟨vs,e,r⟩:=h
 exact⟨vs,y _ _ e,r.mono y⟩
theorem vz{v:V}{d:D}{ds:OK}(r:Rep F v d)(h:eW d=some ds):∃b a,v=.ref a/\RpB F (b,a) ds:=by
 cases d with
 |lst xs=>cases h;cases r with |lst e rs=>exact⟨true,_,rfl,_,e,rs⟩
 |tup xs=>cases h;cases r with |tup e rs=>exact⟨false,_,rfl,_,e,rs⟩
 |_=>cases h
theorem wX{F:Hp}:∀{vs:ON}{ds:OK},vs.length=ds.length->(∀(k:Nat) v d,vs[k]? = some v->ds[k]? = some d->Rep F v d)->Reps F vs ds
 | [],[],_,_=>.nil
 |x :: xs,u :: us,hl,h=>.cons (h 0 x u rfl rfl) (wX (by simpa using hl) fun k a b e1 e2=>h (k + 1) a b (by simpa using e1) (by simpa using e2))
 | [],_ :: _,hl,_=>by simp at hl
 |_ :: _,[],hl,_=>by simp at hl
def Cg(srcs:List (List D))(xs:OK):Prop:=∀i:Nat,
 (xs.length=i->∃k0,k0 < srcs.length/\∀(k:Nat) ds,srcs[k]? = some ds->(k < k0->i < ds.length)/\(k=k0->ds.length<=i)) /\
 ∀d,xs[i]? = some d->∃row,d=.tup row/\row.length=srcs.length/\∀(k:Nat) ds,srcs[k]? = some ds->ds[i]? = row[k]?
theorem Gd{K:OE}{so:O6}{srcs:List (List D)}{xs:OK}(hl:so.length=srcs.length)(hr:∀(k:Nat) p ds,so[k]? = some p->srcs[k]? = some ds->RpB F p ds)(ok:Cg srcs xs):wD F (Itz K so) xs:=by
 intro i F2 H2 y s
 have src:∀{k:Nat}{p:Bool×Addr},so[k]? = some p->∃ds,srcs[k]? = some ds:=fun {k p} e=>⟨srcs[k]'(by have:=(List.getElem?_eq_some_iff.mp e).1;omega),Jr _⟩
 refine⟨fun hx=>?_,fun d hd=>?_⟩
 ·obtain⟨k0,h0,q⟩:=(ok i).1 hx
  refine⟨k0,⋯,fun k b a e=>?_⟩
  obtain⟨ds,e2⟩:=src e
  obtain⟨vs,sq,rs⟩:=((hr k _ ds e e2).mono y).sq (K:=K) s
  have:=rs.length
  have q:=q k ds e2
  exact⟨vs,sq,fun z=>by have:=q.1 z;omega,fun z=>by have:=q.2 z;omega⟩
 ·obtain⟨row,rfl,hrl,q⟩:=(ok i).2 d hd
  refine⟨?_,fun x H' yl=>?_⟩
  ·obtain⟨ws,hwl,hw⟩:=hG (P:=fun k v=>∀b a,so[k]? = some (b,a)->∃ys,SqB K b H2 a ys/\ys[i]? = some v) so.length fun k hk=>by
    have e:so[k]? = some so[k]:=Jr hk
    obtain⟨ds,e2⟩:=src e
    obtain⟨vs,sq,rs⟩:=((hr k _ ds e e2).mono y).sq (K:=K) s
    have e3:=q k ds e2
    rw[Jr (show k < row.length by omega)]at e3
    obtain⟨v,hv,_⟩:=rs.get e3
    refine⟨v,fun b a hba=>?_⟩
    have e4:=e.symm.trans hba
    rw[Js e4]at sq
    exact⟨vs,sq,hv⟩
   refine⟨ws,hwl,fun k b a e=>?_⟩
   have hk:k < so.length:=(List.getElem?_eq_some_iff.mp e).1
   have e5:ws[k]? = some (ws[k]'⋯):=Jr _
   obtain⟨ys,sq,z⟩:=hw k _ e5 b a e
   exact⟨ys,sq,by rw[z,e5]⟩
  ·obtain⟨T,ws,rfl,hT,rfl,hwl,hw⟩:=yl
   refine⟨upd F2 T (.tup ws),Ext.freeze s hT,?_⟩
   have X:=Ext.freeze (o:=.tup ws) s hT
   refine Rep.tup ax (wX ⋯ fun k v d ev ed=>?_)
   have hk:k < so.length:=by have:=(List.getElem?_eq_some_iff.mp ev).1;omega
   have e:so[k]? = some so[k]:=Jr hk
   obtain⟨ds,e2⟩:=src e
   obtain⟨vs,sq,rs⟩:=((hr k _ ds e e2).mono y).sq (K:=K) s
   have e3:=q k ds e2
   rw[ed]at e3
   obtain⟨v',hv',rv⟩:=rs.get e3
   have e6:=hw k _ _ e vs sq
   rw[hv',ev]at e6
   cases e6
   exact rv.mono X.fr
theorem G_(xs ys:OK):Cg [xs,ys] (List.zipWith (fun a b=>D.tup [a,b]) xs ys):=by
 intro i
 refine⟨fun h=>?_,fun d hd=>?_⟩
 ·rw[List.length_zipWith]at h
  by_cases hx:xs.length<=i
  ·exact⟨0,by simp,fun k ds e=>⟨fun z=>⋯,fun z=>by subst z;cases e;exact hx⟩⟩
  ·refine⟨1,by simp,fun k ds e=>⟨fun z=>?_,fun z=>?_⟩⟩
   ·have:k=0:=by omega
    subst this;cases e;omega
   ·subst z;cases e;omega
 ·rw[List.getElem?_zipWith]at hd
  cases hx:xs[i]? with
  |none=>rw[hx]at hd;cases hd
  |some x =>
   cases hy:ys[i]? with
   |none=>rw[hx,hy]at hd;cases hd
   |some y =>
    rw[hx,hy]at hd
    cases hd
    refine⟨[x,y],rfl,rfl,fun k ds e=>?_⟩
    match k,e with
    | 0,e=>cases e;exact hx
    | 1,e=>cases e;exact hy
def Cn(ds:OK):Option (List D):=match ds with
 | [a,b]=>(eW a).bind fun xs=>(eW b).bind fun ys=>some (List.zipWith (fun a b=>D.tup [a,b]) xs ys)
 |_=>none
theorem xQ{ds xs:OK}(h:Cn ds=some xs):∃a b,ds=[a,b]:=by
 unfold Cn at h
 split at h
 ·exact⟨_,_,rfl⟩
 ·cases h
def Cm(f:OG)(E:DE):Option (List D):=(f E).bind Cn
section
variable {X:Cx}{pos:Pos}
theorem DZ{elts:OP}{x1}{tp:Pos}{a b:Expr}{f:OG}{p:Pos}(hg:Gl X "zip")(hm:X.mg "zip" = none)(ha:Ea X [a,b] f)(hs:aO a=true:=by rfl)(hs2:aO b=true:=by rfl):Ei X (.Tuple elts x1 tp) (.Call (.Name "zip" p) [a,b] [] pos) (Cm f) :=
 PI.by (C4 hg hm ha.h (by rw[aD a [b] X.env hs,aD b [] X.env hs2];rfl) (aD b [] X.env hs2)) fun σ H R zz114_0=>by
  obtain⟨B,F,E,xs,k,q,w⟩:=zz114_0
  unfold Cm at q
  cases hf:f E with
  |none=>simp[hf]at q
  |some ds =>
   rw[hf]at q
   refine⟨B,F,E,ds,k,hf,fun vs F' H' x r=>?_⟩
   obtain⟨d1,d2,rfl⟩:=xQ q
   obtain⟨v1,ws,rfl,r1,r⟩:=r.c1
   obtain⟨v2,ws,rfl,r2,r⟩:=r.c1
   obtain rfl:=r.c0
   ·have q':((eW d1).bind fun xs=>(eW d2).bind fun ys=>some (List.zipWith (fun a b=>D.tup [a,b]) xs ys))=some xs:=q
    cases h1:eW d1 with
    |none=>rw[h1]at q';cases q'
    |some s1 =>
     cases h2:eW d2 with
     |none=>rw[h1,h2]at q';cases q'
     |some s2 =>
      rw[h1,h2]at q'
      cases q'
      obtain⟨b1,l1,rfl,p1⟩:=vz r1 h1
      obtain⟨b2,l2,rfl,p2⟩:=vz r2 h2
      refine⟨[(b1,l1),(b2,l2)],rfl,rfl,fun p hp=>?_,w _ F' H' x (Gd (srcs:=[s1,s2]) rfl (fun k p ds e1 e2=>?_) (G_ s1 s2))⟩
      ·rcases List.mem_cons.mp hp with z |hp
       ·rw[z];obtain⟨vs,sq,_⟩:=p1.sq (K:=X.K) x.sub;exact⟨vs,sq⟩
       ·have z:p=(b2,l2):=by simpa using hp
        rw[z];obtain⟨vs,sq,_⟩:=p2.sq (K:=X.K) x.sub;exact⟨vs,sq⟩
      ·match k,e1,e2 with
       | 0,e1,e2=>cases e1;cases e2;exact p1
       | 1,e1,e2=>cases e1;cases e2;exact p2
end
end L2.Cu
namespace L2
open PySem PySem.Spec PyProof.Rows
theorem qU{prog:Program}{w:World}{A:Around}(hh:A.handled=none)(b:Bool)(it a:Addr)(hne:a ≠ it)(vs:OM) :
  Draws prog w A it [it,a] vs.size (fun i v=>vs[i]? = some v) (fun i h=>RIt b h it a i/\RSq b h a vs) where
 live:=fun _ _ st=>let ⟨o,e,_⟩:=st.1.obj; ⟨o,e⟩
 frame:=fun _ _ _ st k=>⟨st.1.keep fun o e=>k it (by simp) o e,st.2.keep fun o e=>k a (by simp) o e⟩
 item:=fun i s Q E hi st q=>tR st.1 st.2 (x:=vs[i]) (K0 hi) fun h' st' sb=>q _ h' s.toks (K0 hi) ⟨st',st.2.keep fun o e=>sb.extBut _ _ hne e⟩ sb
 done:=fun s Q E st q=>wT hh st.1 st.2 (Array.getElem?_eq_none (Jw _)) q
theorem IY(b:Bool)(l:Addr)(xs:OM) :
  Meets (Builtin.«enumerate.__new__» ⟨[.type "enumerate",.ref l],[]⟩) (fun _ R s=>RSq b s.heap l xs /\
   R (.ok (.ret (.ref (s.heap.push (cR b l)).objs.size))) { s with heap:=(s.heap.push (cR b l)).push { cls:=.type "enumerate",data:=.fields #[.none,.bool false,.ref s.heap.objs.size,rawInt 0,.none,.none] } }) :=
 .of_wp fun prog w A R s h=>by
  obtain⟨hp,g,d,tk,os⟩:=s;obtain⟨hl,h⟩:=h
  have MQ:=sub_enumerate
  have hL:RSq b (Shared.heap ⟨hp,g,d,tk,os⟩) l xs:=hl
  obtain⟨o,ho⟩:∃o,(Shared.heap ⟨hp,g,d,tk,os⟩).get? l=some o:=by
   cases b <;> exact let ⟨o,e,_⟩:=hL; ⟨o,e⟩
  wp_walk using Lb ho
  refine wpAny_stack_any fun st=>Jv ?_
  split
  ·rename_i c _ _ _ _ _
   cases(c == Value.type "enumerate")
   ·wp_walk using Lb ho,tU hL
    exact⟨_,rfl,h⟩
   ·wp_walk using Lb ho,tU hL
    exact⟨_,rfl,h⟩
  ·wp_walk using Lb ho,tU hL
   exact⟨_,rfl,h⟩
def Ja(b:Bool)(a m:Addr)(i:Nat)(h:Heap):Prop:=(∃old,IsEnum h (m + 1) m i old)/\RIt b h m a i
def Ite(K:OE)(b:Bool)(a:Addr):It :=
  ⟨fun i H=>∃ys y,SqB K b H a ys/\ys[i]? = some y,
   fun i H x H'=>∃(T:Addr) (y:V),x=.ref T/\H T=none/\H'=upd H T (.tup [.int i,y])/\∀ys,SqB K b H a ys->ys[i]? = some y,
   fun i H=>∃ys,SqB K b H a ys/\ys.length=i⟩
theorem xV{P:Program}{w:World}{K:OE}{elts:OP}{x1}{pos:Pos}(b:Bool)(a m:Nat)(hlt:a < m) :
  vc P w K (.Tuple elts x1 pos) (Ite K b a) [m,m + 1] (m + 1) (fun i h=>Ja b a m i h) where
 mem:=by simp
 obj:=fun i h zz115_0 c hc=>by
  obtain⟨⟨old,st⟩,it⟩:=zz115_0
  have hc:c=m\/c=m + 1:=by simpa using hc
  rcases hc with z |z
  ·subst z
   obtain⟨o,e,vs,d⟩:=it.obj
   exact⟨o,e,fun v z=>by rw[d]at z;cases z⟩
  ·subst z;exact⟨_,st,fun v z=>by have z':Data.fields _=Data.cell v:=z;cases z'⟩
 keep:=fun i h h' ⟨⟨old,st⟩,it⟩ k=>⟨⟨old,k (m + 1) (by simp) _ st⟩,it.keep fun o e=>k m (by simp) o e⟩
 item:=by
  intro X hP hw hK hc i Ml s σ H E I hf st hg
  subst hP hw hK
  obtain⟨⟨old,he⟩,hit⟩:=st
  obtain⟨ys,y,hq,hy⟩:=hg
  obtain⟨its,rv,p⟩:=I.sqB hq
  obtain⟨u,hu,ru⟩:=rv.get hy
  have hul:i < its.toArray.size:=by
   have:=(List.getElem?_eq_some_iff.mp hu).1
   simpa using this
  have hh:X.A.in1.handled=none:=I.ok.hd hc
  refine wpAny_pyNext_enum_itemD (qU hh b m a (JI hlt) its.toArray) he ⟨hit,p⟩ hul (show(m + 1:Nat) ≠ m by omega) (fun z=>by have z:(m + 1:Nat)=m\/(m + 1:Nat)=a:=(by simpa using z);omega) fun x h' tk hP ho st' hT hsz kk=>?_
  have hxu:x=u:=by
   have e2:its.toArray[i]? = some u:=by simpa using hu
   rw[e2]at hP;cases hP;rfl
  subst hxu
  refine⟨_,rfl,wpAny_letOwnedTupleGo_enum (s:={ s with heap:=h',toks:=tk + 1 }) ho fun h2 he2 s2=>?_⟩
  have hT0:H s.heap.objs.size=none:=I.fresh
  have hml:m + 1 < s.heap.objs.size:=Ju he
  have hf1:∀c ∈ [m,m + 1],kx X Ml (upd H s.heap.objs.size (.tup [.int i,y])) c:=fun c hcm=>by
   have hcc:c=m\/c=m + 1:=by simpa using hcm
   refine⟨?_,(hf c hcm).2⟩
   rw[ap (by rcases hcc with z |z <;> (subst z;exact JI ⋯))]
   exact(hf c hcm).1
  have I1:Inv X Ml σ (upd H s.heap.objs.size (.tup [.int i,y])) { s with heap:=s.heap.push { cls:=.type "tuple",data:=.seq #[.int i tk,x] },toks:=tk + 1 }:=I.laid (t':=tk + 1) (fun c v e=>Jp _ e) (Jw _)
   ⟨by show 2<=sizeLine;decide,[.int i tk,x],.cons ⟨tk,rfl⟩ (.cons ru .nil),⟨_,Jx _ rfl,rfl,_,rfl⟩⟩
  have I2:Inv X Ml σ (upd H s.heap.objs.size (.tup [.int i,y])) { s with heap:=h2,toks:=tk + 1 }:=I1.turnedN (t':=tk + 1) (h':=h2) (fun(c:Nat) o hcn e=>by
   have h1:¬(c=m\/c=m + 1):=by simpa using hcn
   refine s2.extBut _ _ (show(c:Nat) ≠ m + 1 by omega) ?_
   rcases Heap.get?_push_cases e with⟨e1,e2⟩ |e'
   ·subst e1 e2;exact hT
   ·exact kk c o (show(c:Nat) ≠ m + 1 by omega) (show(c:Nat) ≠ m by omega) e') hf1
  refine⟨.ref s.heap.objs.size,_,I2,rfl,⟨_,y,rfl,hT0,rfl,fun zs hz=>by rw[I.sqB_inj hz hq];exact hy⟩,⟨⟨_,by simpa using he2⟩,st'.1.keep fun o e=>s2.extBut _ _ (show(m:Nat) ≠ m + 1 by omega) e⟩,fun c hcm=>(hf1 c hcm).1⟩
 done:=by
  intro X hP hw hK hc i Ml s σ H E I hf st hg
  subst hP hw hK
  obtain⟨⟨old,he⟩,hit⟩:=st
  obtain⟨ys,hq,hy⟩:=hg
  obtain⟨its,rv,p⟩:=I.sqB hq
  have hl:i=its.toArray.size:=by rw[<-hy,rv.length];simp
  have hh:X.A.in1.handled=none:=I.ok.hd hc
  subst hl
  exact wpAny_pyNext_enum_endD (qU hh b m a (JI hlt) its.toArray) he ⟨hit,p⟩ fun h' kk=>⟨rfl,I.turnedN (t':=s.toks) (fun c o hcn e=>kk c o (fun z=>hcn (by simp[z])) e) hf⟩
 self:=fun A i s Q E zz117_0 h=>by obtain⟨⟨old,st⟩,_⟩:=zz117_0;exact wpAny_pyIter_enum st h
def HI(K:OE)(ta:TA):TI:=fun σ H R=>ta σ H fun vs H1=>∃b a,vs=[.ref a]/\sqI K H1 (b,a)/\R (Ite K b a) H1
theorem C5{X:Cx}{elts:OP}{x1}{tp:Pos}{e:Expr}{ta:TA}{p pos:Pos}(hg:Gl X "enumerate")(hm:X.mg "enumerate" = none)(ha:PA X [e] ta)(hs:starEach [e] X.env=[(false,eval e X.env)]:=by rfl) :
  PI X (.Tuple elts x1 tp) (.Call (.Name "enumerate" p) [e] [] pos) (HI X.K ta):=by
 intro Ml s σ H R I h
 refine Call_ (kS I hg hm boot_enumerate (Kv (thn (ha pos Ml s σ H _ I h) fun us s1 zz118_0=>?_) hs rfl))
 obtain⟨vs,H1,I1,r1,q1⟩:=zz118_0
 obtain⟨b,a,rfl,⟨ys,hy⟩,q⟩:=q1
 obtain⟨u,rfl,ru⟩:=aW.one r1
 cases ru
 obtain⟨its,_,p1⟩:=I1.sqB hy
 refine callType_new F.called_enumerate nofun (F.typeCall_enumerate_1 _) (F.newCall_enumerate_1 _) (fun obj=>F.args_object_init_2 obj _) F.entry_enumerate_new (IY b a its.toArray) ⟨p1,?_⟩
 have hz:(s1.heap.push (cR b a)).objs.size=s1.heap.objs.size + 1:=KP ..
 have f1:(cR b a).isFreed=false:=by cases b <;> rfl
 have he:IsEnum ((s1.heap.push (cR b a)).push { cls:=.type "enumerate",data:=.fields #[.none,.bool false,.ref s1.heap.objs.size,rawInt 0,.none,.none] }) (s1.heap.objs.size + 1) s1.heap.objs.size 0 .none:=by
  rw[<-hz];exact Jx _ rfl
 show _/\_
 rw[hz]
 refine⟨⟨_,he,rfl⟩,wpAny_pyIter_enum (s:={ s1 with heap:=(s1.heap.push (cR b a)).push { cls:=.type "enumerate",data:=.fields #[.none,.bool false,.ref s1.heap.objs.size,rawInt 0,.none,.none] } }) he ?_⟩
 exact⟨_,[s1.heap.objs.size,s1.heap.objs.size + 1],_,_,H1,rfl,I1.kept (t':=s1.toks) fun c o e=>Jp _ (Jp _ e),xV b a s1.heap.objs.size (vv p1),⟨⟨_,he⟩,rF (Jp _ (Jx _ f1))⟩,fun c hc=>by
  have hcc:c=s1.heap.objs.size\/c=s1.heap.objs.size + 1:=by simpa using hc
  have hle:s1.heap.objs.size<=c:=by rcases hcc with z |z <;> (subst z;omega)
  exact I1.fpOk hle (I1.hok.fresh hle),q⟩
end L2
namespace L2.Cu
open PySem PySem.Spec PyProof.Rows
def eY:List D->Int->List D
 | [],_=>[]
 |x :: r,i=>.tup [.int i,x] :: eY r (i + 1)
theorem qR:∀(xs:OK) (i:Int),(eY xs i).length=xs.length
 | [],_=>rfl
 |_ :: r,i=>by rw[eY,Jg,qR r,Jg]
theorem qS:∀(xs:OK) (k:Int) (i:Nat),(eY xs k)[i]? = xs[i]?.map fun x=>.tup [.int (k + i),x]
 | [],_,_=>by simp[eY]
 |x :: r,k,0=>by simp[eY]
 |x :: r,k,i + 1=>by
  rw[eY,Je,Je,qS r (k + 1) i]
  congr 1
  funext y
  have:k + 1 + (i:Int)=k + ((i + 1:Nat):Int):=by omega
  rw[this]
theorem Gg{K:OE}{F:Hp}{p:Bool×Addr}{ds:OK}(h:RpB F p ds):wD F (Ite K p.1 p.2) (eY ds 0):=by
 intro i F2 H2 y s
 obtain⟨vs,sq,rs⟩:=(h.mono y).sq (K:=K) s
 refine⟨fun hl=>⟨vs,sq,by rw[rs.length,<-hl,qR]⟩,fun d hd=>?_⟩
 rw[qS]at hd
 cases hx:ds[i]? with
 |none=>rw[hx]at hd;cases hd
 |some x =>
  rw[hx]at hd
  cases hd
  obtain⟨v,hv,rv⟩:=rs.get hx
  refine⟨⟨vs,v,sq,hv⟩,fun z H' yl=>?_⟩
  obtain⟨T,w,rfl,hT,rfl,hw⟩:=yl
  have e:=hw vs sq
  rw[hv]at e
  cases e
  have X:=Ext.freeze (o:=.tup [.int i,v]) s hT
  refine⟨upd F2 T (.tup [.int i,v]),X,Rep.tup ax (.cons ?_ (.cons (rv.mono X.fr) .nil))⟩
  rw[Lm];exact .int _
def jp(ds:OK):Option (List D):=match ds with
 | [a]=>(eW a).map fun xs=>eY xs 0
 |_=>none
theorem wm{ds xs:OK}(h:jp ds=some xs):∃a,ds=[a]:=by
 unfold jp at h
 split at h
 ·exact⟨_,rfl⟩
 ·cases h
def dZ(f:OG)(E:DE):Option (List D):=(f E).bind jp
theorem nR{X:Cx}{pos:Pos}{elts:OP}{x1}{tp:Pos}{a:Expr}{f:OG}{p:Pos}(hg:Gl X "enumerate")(hm:X.mg "enumerate" = none)(ha:Ea X [a] f)(hs:aO a=true:=by rfl):Ei X (.Tuple elts x1 tp) (.Call (.Name "enumerate" p) [a] [] pos) (dZ f) :=
 PI.by (C5 hg hm ha.h (aD a [] X.env hs)) fun σ H R zz119_0=>by
  obtain⟨B,F,E,xs,k,q,w⟩:=zz119_0
  unfold dZ at q
  cases hf:f E with
  |none=>simp[hf]at q
  |some ds =>
   rw[hf]at q
   refine⟨B,F,E,ds,k,hf,fun vs F' H' x r=>?_⟩
   obtain⟨d1,rfl⟩:=wm q
   obtain⟨v1,ws,rfl,r1,r⟩:=r.c1
   obtain rfl:=r.c0
   ·have q':(eW d1).map (fun xs=>eY xs 0)=some xs:=q
    cases h1:eW d1 with
    |none=>rw[h1]at q';cases q'
    |some s1 =>
     rw[h1]at q'
     cases q'
     obtain⟨b1,l1,rfl,p1⟩:=vz r1 h1
     refine⟨b1,l1,rfl,?_,w _ F' H' x (Gg (p:=(b1,l1)) p1)⟩
     obtain⟨vs,sq,_⟩:=p1.sq (K:=X.K) x.sub
     exact⟨vs,sq⟩
end L2.Cu
namespace L2
open PySem PySem.Spec PyProof.Rows
section
variable {X:Cx}{Ml:OC} {σ:St}{H:Hp}{s:Shared}
theorem FY{x:V}{u t:Value}(I:Inv X Ml σ H s)(rx:bi x u)(ty:jY X.K H x t):∃P:Heap->Prop,PySem.W.KitX X.K u t P/\P s.heap/\u ≠ .builtin "__main__.__loader__#opaque" := by
 cases ty with
 |non=>obtain rfl:u=Value.none:=rx;exact⟨_,PySem.W.kitx_none,trivial,fun z=>nomatch z⟩
 |bl y=>obtain rfl:u=Value.bool y:=rx;exact⟨_,PySem.W.kitx_bool,trivial,fun z=>nomatch z⟩
 |int i=>obtain⟨k,rfl⟩:=rx;exact⟨_,PySem.W.kitx_int,trivial,fun z=>nomatch z⟩
 |str y=>obtain⟨k,rfl⟩:=rx;exact⟨_,PySem.W.kitx_str,trivial,fun z=>nomatch z⟩
 |flt y=>obtain⟨k,rfl⟩:=rx;exact⟨_,PySem.W.kitx_float,trivial,fun z=>nomatch z⟩
 |@lst a xs ea =>
  obtain rfl:u=Value.ref a:=rx
  obtain⟨_,_,m,_,g⟩:=I.hok a _ ea
  exact⟨_,Lp,⟨_,g,rfl⟩,fun z=>nomatch z⟩
 |@frz a ob xs ea =>
  obtain rfl:u=Value.ref a:=rx
  obtain⟨_,_,_,m,_,g⟩:=I.hok a _ ea
  exact⟨_,Lp,⟨_,g,rfl⟩,fun z=>nomatch z⟩
 |@tup a xs ea =>
  obtain rfl:u=Value.ref a:=rx
  obtain⟨_,_,_,o,g,g2,_⟩:=I.hok a _ ea
  exact⟨_,PySem.W.kitx_tuple,⟨o,g,g2⟩,fun z=>nomatch z⟩
 |@dK a kvs ea =>
  obtain rfl:u=Value.ref a:=rx
  obtain⟨_,_,vs,_,o,es,ep,g,g2,_⟩:=I.hok a _ ea
  exact⟨_,KR,⟨o,g,g2.1⟩,fun z=>nomatch z⟩
 |@frzD a ob kvs ea =>
  obtain rfl:u=Value.ref a:=rx
  obtain⟨_,_,_,vs,_,o,es,ep,g,g2,_⟩:=I.hok a _ ea
  exact⟨_,KR,⟨o,g,g2.1⟩,fun z=>nomatch z⟩
 |@dT a kvs ea =>
  obtain rfl:u=Value.ref a:=rx
  obtain⟨_,_,vs,_,o,es,ep,g,g2,_⟩:=I.hok a _ ea
  exact⟨_,KR,⟨o,g,g2.1⟩,fun z=>nomatch z⟩
 |@ins a C dx fs ea cl ha hn htk hm =>
  obtain rfl:u=Value.ref a:=rx
  obtain⟨mA,O,_⟩:=xp I.hok ea
  obtain⟨od,J,_⟩:=O.look
  exact⟨_,PySem.W.kitx_own (cl.get _) cl.hd ha hn htk hm,J,fun z=>nomatch z⟩
theorem wI:∀{Ts:List String}{its:OH},aW (Ts.map V.ty) its->its=Ts.map Value.type
 | [],_,.nil=>rfl
 |T :: Ts,_,.cons r t=>by
  rw[wI t,Ji]
  congr 1
theorem sL:dc X (.builtin "isinstance") (fun xs H Q=>∃(x:V) (tp:Addr) (Ts:List String) (t:Value) (b:Bool),xs=[x,.ref tp]/\H tp=some (.tup (Ts.map V.ty))/\jY X.K H x t/\PySem.W.kitAny X.K t (Ts.map Value.type)=some b/\Q (.bl b) H):=by
 intro Ml s σ H xs us Q I r h
 obtain⟨x,tp,Ts,t,b,rfl,htp,ty,e,q⟩:=h
 obtain⟨u,w',rfl,ru,rw'⟩:=zE r
 obtain rfl:w'=Value.ref tp:=rw'
 obtain⟨P,Z,hp,hu⟩:=FY I ru ty
 obtain⟨_,its,rv,⟨c,dd,dt,sl⟩,g,g2,n,g3⟩:=I.hok tp _ htp
 cases g2
 cases g3
 have hits:its=Ts.map Value.type:=wI rv
 subst hits
 exact PySem.W.kia_tup Z I.kIn hp g e hu fun tk=>⟨.bl b,H,I.tok tk,rfl,q⟩
end
end L2
namespace L2.Cu
open PySem PySem.Spec PyProof.Rows
section
variable {X:Cx}{e:Expr}{f:OF}{pos:Pos}
def Gi(T U:String)(f:OF)(E:DE):Option D:=(f E).map fun d=>.bl (jH (tyN d) T || jH (tyN d) U)
theorem Bm(K:OE)(d:D){T U:String}(h:kT T=true)(h':kT U=true):PySem.W.kitAny K (.type (tyN d)) ([T,U].map Value.type)=some (jH (tyN d) T || jH (tyN d) U):=by
 show PySem.W.kitAny K (.type (tyN d)) [.type T,.type U]=_
 unfold PySem.W.kitAny
 rw[se K d h]
 cases jH (tyN d) T with
 |true=>rfl
 |false =>
  show PySem.W.kitAny K (.type (tyN d)) [.type U]=_
  unfold PySem.W.kitAny
  rw[se K d h']
  cases jH (tyN d) U <;> rfl
theorem wf{p px py pt:Pos}{x y:Str}{T U:String}{kk:Nat}(hT:kT T=true)(hU:kT U=true)(hg:Gl X "isinstance")(hm:X.mg "isinstance" = none)(hv:bootBuiltins "isinstance" = some (.builtin "isinstance"))
  (hgx:Gl X x) (hmx:X.mg x=none) (hvx:bootBuiltins x=some (.type T)) (hgy:Gl X y) (hmy:X.mg y=none) (hvy:bootBuiltins y=some (.type U))
  (ha:Ev X .O e f) (hn:x ≠ "__name__" := by decide) (hd:(x == ("__debug__" : Str))=false:=by decide) (hn2:y ≠ "__name__" := by decide) (hd2:(y == ("__debug__" : Str))=false:=by decide) (he:aO e=true:=by rfl) :
  Ev X .V (.Call (.Name "isinstance" p) [e,.Tuple [.Name x px,.Name y py] kk pt] [] pos) (Gi T U f) :=
 PE.by (iA sL hg hm hv (bR ha.h (bR (vG (bR (nL hgx hmx hvx (v:=.ty T) rfl hn hd) (bR (nL hgy hmy hvy (v:=.ty U) rfl hn2 hd2) ek (aD _ [] X.env rfl)) (aD _ [.Name y py] X.env rfl))) ek (aD _ [] X.env rfl)) (aD e [.Tuple [.Name x px,.Name y py] kk pt] X.env he)) nofun nofun (aD e [.Tuple [.Name x px,.Name y py] kk pt] X.env he) (dN pos X.env [.Tuple [.Name x px,.Name y py] kk pt] rfl)) fun σ H Q zz120_0=>by
  obtain⟨B,F,E,d,k,q,w⟩:=zz120_0
  unfold Gi at q
  cases hf:f E with
  |none=>simp[hf]at q
  |some z =>
   simp only[hf,Jf]at q
   cases q
   refine⟨B,F,E,z,k,hf,fun v F' H' x1 r1=>⟨by show 2<=sizeLine;decide,fun tp htp=>?_⟩⟩
   have x2:=Ext.lay (F:=F') (o:=HO.tup [V.ty T,V.ty U]) x1.sub htp
   exact⟨v,tp,[T,U],_,_,rfl,ax,Ec x2.sub (OB.ext x2 r1),Bm X.K z hT hU,w _ F' _ (x1.trans x2) (.bl _)⟩
end
def iz(i:Nat)(fk fv:OF)(E:DE):Option Out:=match E[i]? with
 |some (.own (.lst ds))=>(fv E).bind fun v=>(fk E).bind fun x=>match x with
  |.int j=>(ixN ds.length j).map fun k=>.nx (E.set i (.own (.lst (ds.set k v))))
  |_=>none
 |_=>none
section
variable {X:Cx}{a b:Expr}{f g:OF}{pos pos':Pos}
theorem nP{o:Expr}(ho:PE X o (nY i))(ha:Ev X .V a f)(hb:Ev X .V b g)
  (N2:∀v,assign (.Subscript o a pos') X.env v=(do
   let ov <-holding [v] (eval o X.env)
   let iv <-holding [v,ov] (eval a X.env)
   standAt pos'
   holding [v,ov,iv] (setItem ov iv v)
   release [v,ov,iv] []):=by intro _;rfl) (hs:swapsWithSole [.Subscript o a pos'] b pos.line X.env=pure false:=by rfl) (hw:swappedStores [.Subscript o a pos'] b X.env=pure none:=by rfl)
  (h1:(assignEach [.Subscript o a pos'] X.env).map (·.2)=[assign (.Subscript o a pos') X.env]:=by rfl) :
  Es X (.Assign [.Subscript o a pos'] b pos) (iz i f g):=PS.by (Ar hb.h (Fy ho ha.h zY N2) hs hw h1) fun Z σ H zz121_0=>by
 obtain⟨B,F,E,r,k,q,w⟩:=zz121_0
 unfold iz at q
 split at q
 ·rename_i ds hd
  cases hgE:g E with
  |none=>simp[hgE]at q
  |some y =>
   cases hf:f E with
   |none=>simp[hgE,hf]at q
   |some x =>
    simp only[hf,hgE,Jd]at q
    match x,q with
    |.int j,q =>
     have q':(ixN ds.length j).map (fun k=>Out.nx (E.set i (.own (.lst (ds.set k y)))))=some r:=q
     cases hk:ixN ds.length j with
     |none=>rw[hk]at q';cases q'
     |some kk =>
      rw[hk]at q'
      cases q'
      obtain⟨p,vs,h1,h2,h3,h4⟩:=xa k hd
      refine⟨B,F,E,y,k,hgE,fun v F1 H1 x1 r1=>⟨.ref p,h1,B,F1,E,_,k.ext x1,hf,fun u F2 H2 x2 r2=>?_⟩⟩
      cases r2
      refine⟨p,vs,j,kk,rfl,rfl,x2.same _ _ (x1.same _ _ h2),by rw[h4.length];exact hk,?_⟩
      have z:=((k.ext x1).ext x2).rewrite hd h1 (o':=.lst (vs.set kk v)) (d':=.lst (ds.set kk y)) ((h4.mono (x1.trans x2).fr).set (r1.mono x2.fr) kk)
      exact w σ F2 _ z (x1.trans x2).fr
 ·cases q
end
end L2.Cu
namespace L2
open PySem PySem.Spec PyProof.Rows
section
variable {prog:Program}{w:World}{A:Around}{E:OA}{s:Shared}
theorem Ay(xs:OH):((List.range xs.toArray.size).filterMap fun(k:Nat)=>xs.toArray[(((xs.toArray.size:Nat):Int) - 1 + (k:Int) * (-1)).toNat]?)=xs.reverse:=by
 have h1:∀ys:List Value,(List.range ys.length).filterMap (fun k=>ys[k]?)=ys:=fun ys=>by
  have h:=pick_run ys.toArray 0 ys.length
  simpa using h
 have h2:∀(l:OJ) (f g:Nat->Option Value),(∀k ∈ l,f k=g k)->l.filterMap f=l.filterMap g:=fun l f g h=>by
  induction l with
  |nil=>rfl
  |cons x l ih=>rw[Kx,Kx,h x (Jq ..),ih fun k hk=>h k (Jt _ hk)]
 have h3:=h1 xs.reverse
 rw[LZ]at h3
 rw[Jz,<-h3]
 refine h2 _ _ _ fun k hk=>?_
 have hk:=List.mem_range.mp hk
 rw[List.getElem?_reverse hk]
 have e:((xs.length:Int) - 1 + (k:Int) * (-1)).toNat=xs.length - 1 - k:=by omega
 rw[e]
 simp
end
theorem KV.at{kvs:OY}{vs:PK}(r:KV kvs vs){i:Nat}{k:Key}{u:Value}(h:vs[i]? = some (k,u)):∃v,kvs[i]? = some (k,v)/\bi v u:=by
 induction r generalizing i with
 |nil=>simp at h
 |@cons p q _ _ h1 t ih =>
  cases i with
  |zero =>
   simp at h
   subst h
   have h3:p.1=k:=h1.1
   exact⟨p.2,by rw[<-h3];rfl,h1.2⟩
  |succ j =>
   simp at h
   obtain⟨v,e1,e2⟩:=ih h
   exact⟨v,by simpa using e1,e2⟩
end L2
namespace L2.Cu
open PySem PySem.Spec PyProof.Rows
theorem RepK.at{F:Hp}:∀{vs:OY} {ds:OX} {i:Nat}{k:Key}{v:V},RepK F vs ds->vs[i]? = some (k,v)->∃d,ds[i]? = some (k,d)/\Rep F v d
 := fun {vs ds i k v} r e=>by
  cases r with
  |nil=>cases e
  |cons r t =>
   cases i with
   |zero=>cases e;exact⟨_,rfl,r⟩
   |succ i=>exact RepK.at (i:=i) t e
section
variable {X:Cx}{a b e:Expr}{p pos:Pos}{f g:OF}
def vb(x y:D):Option D:=match x,y with
 |.lst i,.lst j=>if i.length + j.length<=sizeLine then some (.lst (i ++ j)) else none
 |_,_=>none
theorem CP{K:OE}:gq .F (Al K) vb:=fun F H v w x y d Q s rx ry h q=>by
 match x,y,h with
 |.lst i,.lst j,h =>
  have h':(if i.length + j.length<=sizeLine then some (D.lst (i ++ j)) else none)=some d:=h
  split at h'
  ·rename_i hz
   cases Js h'
   obtain⟨p,vs,rfl,hp,rp⟩:=OB.lst s rx
   obtain⟨r,ws,rfl,hr,rr⟩:=OB.lst s ry
   exact .inr ⟨p,r,vs,ws,rfl,rfl,hp,hr,by rw[rp.length,rr.length];exact hz,fun c hc=>q _ F _ (Ext.lay s hc) ⟨c,_,rfl,hc,ax,nofr s hc,rp.append rr⟩⟩
  ·cases h'
theorem sA(ha:Ev X .O a f)(hb:Ev X .O b g):Ev X .F (.BinOp a .Add b pos) (bin vb f g):=k9 xb CP ha hb
def yX(es:OX)(p:Key×D):Bool:=match ix es p.1 with
 |some y=>PyData.eqv (toP p.2) (toP y)
 |none=>false
theorem zF{es:OX}{k:Key}{y:D}(h:ix es k=some y):∃p ∈ es,p.2=y:=by
 unfold ix at h
 cases hf:es.find? fun p=>decide (p.1=k) with
 |none=>rw[hf]at h;cases h
 |some p=>rw[hf]at h;cases h;exact⟨p,List.mem_of_find?_eq_some hf,rfl⟩
theorem hits{X:Cx}{Ml:OC}{σ:St}{F H:Hp}{s:Shared}{A:Around}(I:Inv X Ml σ H s)(hs:∀a o,F a=some o->H a=some o)(hu:A.units + 62 < cLine){ws:OY}{es:OX}{kb:PK}(r2:RepK F ws es)(q2:KV ws kb)(d2:∀p ∈ es,gb p.2=true) :
  ∀{vs:OY} {ds:OX} {ka:PK},RepK F vs ds->KV vs ka->(∀p ∈ ds,gb p.2=true)->PySem.W.KeqHits A s kb ka (ds.all (yX es))
 := fun {vs ds ka} z0 z1 d1=>by
  cases z0 with
  |nil=>cases z1;exact .nil
  |@cons k v d vs ds r t =>
   cases z1 with
   |@cons _ q _ _ h q1 =>
    have ih:=hits I hs hu r2 q2 d2 t q1 fun p hp=>d1 p (.tail _ hp)
    obtain⟨k',u⟩:=q
    obtain⟨e1,e2⟩:=h
    have e1':k=k':=e1
    subst e1'
    have e2':bi v u:=e2
    obtain⟨v1,v2⟩:=RepK.val (k:=k) r2
    have rel:=q2.val k
    cases hv:ix es k with
    |none =>
     have hn:=v2 hv
     rw[hn]at rel
     have hb:yX es (k,d)=false:=by unfold yX;rw[hv]
     rw[Kl,hb,Ld]
     exact .miss (iu.none_of rel)
    |some y =>
     obtain⟨w,hw,rw'⟩:=v1 y hv
     rw[hw]at rel
     obtain⟨u',hu',ru'⟩:=iu.some_of rel
     have hb:yX es (k,d)=PyData.eqv (toP d) (toP y):=by unfold yX;rw[hv]
     rw[Kl,hb]
     obtain⟨a1,a2⟩:=Bool.and_eq_true_iff.mp (d1 (k,d) (.head _))
     obtain⟨pp,hpm,hpe⟩:=zF hv
     obtain⟨b1,b2⟩:=Bool.and_eq_true_iff.mp (hpe ▸ d2 pp hpm)
     obtain⟨as,ra⟩:=Rep.reads I hs r e2' a1
     obtain⟨bs,rb⟩:=Rep.reads I hs rw' ru' b1
     have a2':(toP d).depth<=60:=KB a2
     exact .hit hu' (SeqAt.eqAt_reads (toP d) (toP y) A s u u' as bs ra rb a1 b1 ⋯) ih
end
def wp{α:Type}(o:Option α)(P:α->Prop):Prop:=match o with
 |some a=>P a
 |none=>False
theorem bP{α:Type}{a:α}{P:α->Prop}:wp (some a) P=P a:=rfl
theorem cG{α β:Type}{o:Option α}{k:α->Option β}{P:β->Prop}:wp (o.bind k) P=wp o (fun a=>wp (k a) P):=by cases o <;> rfl
theorem nV{α β:Type}{o:Option α}{k:α->β}{P:β->Prop}:wp (o.map k) P=wp o (fun a=>P (k a)):=by cases o <;> rfl
theorem fE{α:Type}{o:Option α}{P Q:α->Prop}(h:wp o P)(w:∀a,P a->Q a):wp o Q:=by
 cases o with
 |none=>exact h
 |some a=>exact w a h
theorem aM{α:Type}{o:Option α}{a:α}(h:wp o (fun b=>b=a)):o=some a:=by
 cases o with
 |none=>exact False.elim h
 |some b=>exact JR some h
theorem b_{α:Type}{o:Option α}{P:α->Prop}:wp o P ↔ ∃a,o=some a/\P a:=by
 cases o with
 |none=>exact⟨False.elim,fun⟨_,h,_⟩=>by cases h⟩
 |some b=>exact⟨fun h=>⟨b,rfl,h⟩,fun⟨_,h,p⟩=>by cases h;exact p⟩
variable{c:Prop}
theorem jv{α:Type}[Decidable c]{a b:Option α}{P:α->Prop}(h:c)(q:wp a P):wp (if c then a else b) P:=by rw[if_pos h];exact q
variable{j:Int}
theorem bW{i:Int}(h:0 < j):a9 (.int i) (.int j)=some (.int (i % j)):=if_pos h
theorem vV(h:j<=10 ^ 200)(h0:0 < j):j.natAbs.log2 < 9000:=by
 rw[Nat.log2_lt ⋯]
 have h1:(j.natAbs:Int)<=10 ^ 200:=by omega
 have h2:((10:Nat) ^ 200:Nat) < 2 ^ 9000:=by decide
 have h3:j.natAbs<=(10:Nat) ^ 200:=by
  have:((10:Int) ^ 200)=(((10:Nat) ^ 200:Nat):Int):=by decide
  omega
 exact L5 h3 h2
theorem iJ{i:Int}(h:0 < j)(h2:j<=10 ^ 200):aS (.int i) (.int j)=some (.int (i / j)):=if_pos ⟨h,vV h2 h⟩
theorem yH{i:Int}(h:Builtin.Int.intBits i<=2 ^ 20)(h2:Builtin.Int.intBits j<=2 ^ 20):Do (.int i) (.int j)=some (.int (i * j)):=if_pos ⟨h,h2⟩
theorem nK{i:Int}(h:0<=j)(h2:j<=1000000)(h3:i.natAbs < 2 ^ 64):lG (.int i) (.int j)=some (.int (i ^ j.toNat)):=if_pos ⟨h,h2,h3⟩
theorem Dr{i:Int}:ltD (.int i) (.int j)=some (.bl (decide (i < j))):=rfl
theorem Dq{i j:Str}:ltD (.str i) (.str j)=some (.bl (decide (i.cps.toList < j.cps.toList))):=rfl
theorem Dy{i:Int}:leD (.int i) (.int j)=some (.bl (decide (i<=j))):=rfl
theorem Dx{i j:Str}:leD (.str i) (.str j)=some (.bl (!decide (j.cps.toList < i.cps.toList))):=rfl
theorem DJ{i:Int}:gtD (.int i) (.int j)=some (.bl (decide (j < i))):=rfl
theorem zR{i:Int}:vn (.int i) (.int j)=some (.int (i - j)):=rfl
theorem fJ{α:Type}{xs:List α}{i:Int}(h:0<=i)(h2:i < xs.length):atI xs i=xs[i.toNat]?:=by
 unfold atI ixN
 rw[if_pos h,if_pos h2];rfl
theorem fU{α:Type}{xs:List α}:atI xs (i:Int)=xs[i]?:=by
 unfold atI ixN
 rw[if_pos ⋯]
 by_cases h:(i:Int) < xs.length
 ·rw[if_pos h];rfl
 ·rw[if_neg h]
  exact(List.getElem?_eq_none ⋯).symm
theorem cg(x:Str):x.length=x.cps.toList.length:=by
 show x.cps.size=_
 simp
theorem DC{z:Str}{i:Int}(hz:z.length<=16777216)(h:0<=i)(h2:i < z.length):ixD (.str z) (.int i)=some (.str ⟨#[z.cps.toList.getD i.toNat 0]⟩):=by
 show(if z.length<=16777216 then(atI z.cps.toList i).map fun c=>D.str ⟨#[c]⟩ else none)=_
 rw[cg]at h2
 rw[if_pos hz,fJ h h2]
 have hlt:i.toNat < z.cps.toList.length:=by omega
 rw[Jr hlt,Kj,Jr hlt]
 rfl
theorem rm(x y:Str):(x ++ y).cps.toList=x.cps.toList ++ y.cps.toList:=by
 show(x.cps ++ y.cps).toList=_
 simp
theorem mm{i:Int}:ay (.int i) (.int j)=some (.int (i + j)):=rfl
theorem Cf{i j:Str}(h:i.length + j.length<=16777216):ay (.str i) (.str j)=some (.str (i ++ j)):=if_pos h
theorem gT{i j:OK}(h:i.length + j.length<=16777216):ay (.lst i) (.lst j)=some (.lst (i ++ j)):=if_pos h
variable{x:Str}
theorem Bg(h:x.length<=16777216):FV (.str x)=some (.int x.length):=if_pos h
variable{lo hi:Oq}{xs:OK}
theorem wS:slD (.lst xs) lo hi=some (.lst (cN xs lo hi)):=rfl
theorem CF:slD (.tup xs) lo hi=some (.tup (cN xs lo hi)):=rfl
theorem wR{xs:Ow}:slD (.scr xs) lo hi=some (.lst ((cN xs lo hi).map D.int)):=rfl
theorem CG(h:x.length<=16777216):slD (.str x) lo hi=some (.str (Txt.slice x lo hi)):=if_pos h
theorem DY{i:Int}:eqO (.int i) (.int j)=some (.bl (decide (i=j))):=rfl
theorem DX{i j:Str}:eqO (.str i) (.str j)=some (.bl (decide (i=j))):=rfl
theorem Gw{i j:Bool}:eqO (.bl i) (.bl j)=some (.bl (decide (i=j))):=rfl
theorem Dn{i:Int}:neO (.int i) (.int j)=some (.bl (!decide (i=j))):=rfl
theorem Dl{i j:Str}:neO (.str i) (.str j)=some (.bl (!decide (i=j))):=rfl
def z6(g:OO)(P:Out->Prop):Out->Prop
 |.nx E=>wp (g E) P
 |r=>P r
variable{E:DE}{P:Out->Prop}{g:OO}
theorem gh:z6 g P (.nx E)=wp (g E) P:=rfl
variable{d:D}
theorem CI:z6 g P (.rt d)=P (.rt d):=rfl
variable{f:OO}
theorem j8:wp (aw f g E) P=wp (f E) (z6 g P):=by
 unfold aw;rw[cG]
 congr 1
 funext r
 cases r <;> rfl
def ifK(f g:OO)(E:DE)(P:Out->Prop)(b:Bool):Prop:=wp (if b=true then f E else g E) P
theorem Bv:ifK f g E P true=wp (f E) P:=rfl
theorem yV:ifK f g E P false=wp (g E) P:=rfl
theorem nW{c:OL}:wp (ifS c f g E) P=wp (c E) (ifK f g E P):=by
 unfold ifS;rw[cG];rfl
theorem Bx{b:Bool}(h1:b=true->wp (f E) P)(h2:b=false->wp (g E) P):ifK f g E P b:=by
 cases b with
 |true=>exact h1 rfl
 |false=>exact h2 rfl
theorem cp[Decidable c](h1:c->wp (f E) P)(h2:¬c->wp (g E) P):ifK f g E P (decide c) :=
 Bx (fun h=>h1 (KB h)) fun h=>h2 (of_decide_eq_false h)
theorem Bw[Decidable c](h1:¬c->wp (f E) P)(h2:c->wp (g E) P):ifK f g E P (!decide c) :=
 Bx (fun h=>h1 (of_decide_eq_false (by simpa using h))) fun h=>h2 (KB (by simpa using h))
def lC(P:D->Prop):Out->Prop
 |.rt d=>P d
 |.nx _=>P .non
 |_=>False
theorem lB{P:D->Prop}:lC P (.rt d)=P d:=rfl
variable{n:Nat}
theorem lq{m:Nat}{b:OO}{ds:OK}{P:D->Prop}(h:ds.length=n):wp (ck n m b ds) P=wp (b (ds.map Sl.val ++ List.replicate (m - n) Sl.no)) (lC P):=by
 unfold ck
 rw[if_pos h,cG]
 congr 1
 funext r
 cases r <;> rfl
theorem gV(h:n<=16777216):n<=sizeLine:=h
theorem G7(h:n < 16777216):n < sizeLine:=h
theorem jo(h:n<=16777216):(n<=sizeLine)=True:=eq_true h
theorem lv(h:n < 16777216):(n < sizeLine)=True:=eq_true h
theorem Ae{f:OG}:jt f E=(f E).bind gc:=rfl
theorem Ad{f:OG}:Io f E=(f E).bind Eh:=rfl
theorem cH(h : -4000000000<=j)(h2:j<=4000000000):gc [.int j]=some (eS 0 j.toNat):=if_pos ⟨⋯,⋯⟩
def oM(gf:OQ)(fb:OO)(xs:OK)(E:DE):Option Out:=kF (fun x E1=>(gf x E1).bind fb) xs E
theorem rh{fi:OG}{gf:OQ}{fb:OO}:wp (ij fi gf fb E) P=wp (fi E) (fun xs=>wp (oM gf fb xs E) P):=by
 unfold ij;rw[cG];rfl
section
variable {α:Type} (enc:α->D) (ys:List α) (I:List α->DE->Prop) {gf:OQ}{fb:OO}{xs:OK}{E:DE}{P:Out->Prop}
theorem zC(hx:xs=ys.map enc)(h0:I [] E)
  (step:∀pre x post E,ys=pre ++ x :: post->I pre E->wp (gf (enc x) E) fun E1=>wp (fb E1) fun r=>match r with |.nx E'=>I (pre ++ [x]) E' |.ct E'=>I (pre ++ [x]) E' |.bk E'=>P (.nx E') |.rt d=>P (.rt d)) (fin:∀E',I ys E'->P (.nx E')):wp (oM gf fb xs E) P:=by
 subst hx
 have go:∀(post pre:List α) (E:DE),ys=pre ++ post->I pre E->wp (oM gf fb (post.map enc) E) P:=by
  intro post
  induction post with
  |nil=>intro pre E h i;rw[JZ]at h;subst h;exact fin E i
  |cons x post ih =>
   intro pre E h i
   show wp (((gf (enc x) E).bind fb).bind _) P
   rw[cG,cG]
   refine fE (step pre x post E h i) fun E1 q1=>fE q1 fun r q=>?_
   have nxt:∀E',I (pre ++ [x]) E'->wp (oM gf fb (post.map enc) E') P:=fun E' i'=>ih (pre ++ [x]) E' (by rw[h];simp) i'
   cases r with
   |nx E'=>exact nxt E' q
   |ct E'=>exact nxt E' q
   |bk E'=>exact q
   |rt d=>exact q
 exact go ys [] E rfl h0
theorem gU(hx:xs=ys.map enc)(h0:I [] E)
  (step:∀pre x post E,ys=pre ++ x :: post->I pre E->wp (gf (enc x) E) fun E1=>wp (fb E1) fun r=>match r with |.nx E'=>I (pre ++ [x]) E' |.ct E'=>I (pre ++ [x]) E' |_=>False) (fin:∀E',I ys E'->P (.nx E')):wp (oM gf fb xs E) P :=
 zC enc ys I hx h0 (fun pre x post E h i=>fE (step pre x post E h i) fun E1 q=>fE q fun r q=>by cases r <;> first |exact q |exact False.elim q) fin
end
theorem iN{α:Type}(enc:α->D)(f:α->D){gf:OQ}{cf:OL}{ef:OF}{E:DE}:∀(ys:List α),(∀x ∈ ys,wp (gf (enc x) E) fun E1=>cf E1=some true/\ef E1=some (f x))->bJ gf cf ef E (ys.map enc)=some (ys.map f)
 | [],_=>rfl
 |x :: ys,h=>by
  obtain⟨E1,h1,h2,h3⟩:=b_.mp (h x Jq)
  show(gf (enc x) E).bind _=_
  rw[h1]
  show(cf E1).bind _=_
  rw[h2]
  show(if true=true then(ef E1).bind (fun y=>(bJ gf cf ef E (ys.map enc)).map fun zs=>y :: zs) else bJ gf cf ef E (ys.map enc))=_
  rw[if_pos rfl,h3,iN enc f ys fun y hy=>h y (Jt _ hy)]
  rfl
theorem me{α:Type}(enc:α->D)(p:α->Bool)(f:α->D){gf:OQ}{cf:OL}{ef:OF}{E:DE}:∀(ys:List α),(∀x ∈ ys,wp (gf (enc x) E) fun E1=>cf E1=some (p x)/\(p x=true->ef E1=some (f x)))->bJ gf cf ef E (ys.map enc)=some ((ys.filter p).map f)
 | [],_=>rfl
 |x :: ys,h=>by
  obtain⟨E1,h1,h2,h3⟩:=b_.mp (h x Jq)
  have ih:=me enc p f (gf:=gf) (cf:=cf) (ef:=ef) (E:=E) ys fun y hy=>h y (Jt _ hy)
  show(gf (enc x) E).bind _=_
  rw[h1]
  show(cf E1).bind _=_
  rw[h2]
  show(if p x=true then(ef E1).bind (fun y=>(bJ gf cf ef E (ys.map enc)).map fun zs=>y :: zs) else bJ gf cf ef E (ys.map enc))=_
  cases hp:p x with
  |true =>
   rw[if_pos rfl,h3 hp,ih,List.filter_cons_of_pos hp]
   rfl
  |false =>
   rw[if_neg (by simp),ih,List.filter_cons_of_neg (by simp[hp])]
theorem iQ{α:Type}(f:α->Bool):∀ys:List α,nF (ys.map fun x=>D.bl (f x))=some (ys.map f)
 | []=>rfl
 |x :: ys=>by
  show(nF (ys.map fun x=>D.bl (f x))).map _=_
  rw[iQ f ys];rfl
def mk(l:OJ):Str:=⟨l.toArray⟩
theorem cX(l:OJ):(mk l).cps.toList=l:=by simp[mk]
theorem iE(x:Str):mk x.cps.toList=x:=by cases x;simp[mk]
theorem aY(l:OJ):(mk l).length=l.length:=by rw[cg,cX]
theorem vS(a b:OJ):mk a ++ mk b=mk (a ++ b):=rl (by rw[rm,cX,cX,cX])
theorem r8{a b:OJ}:mk a=mk b ↔ a=b:=⟨fun h=>by rw[<-cX a,h,cX],fun h=>by rw[h]⟩
theorem clip_eq(v:Oq)(n d:Nat)(hd:d<=n):(match v with |none=>(d:Int) |some i=>max (0:Int) (min (if i < 0 then i + (n:Int) else i) (n:Int)):Int)=((HT.sIx n d v:Nat):Int):=by
 cases v with
 |none=>rfl
 |some i =>
  show max 0 (min (if i < 0 then i + (n:Int) else i) n)=((if i < 0 then(i + (n:Int)).toNat else min i.toNat n:Nat):Int)
  by_cases h:i < 0
  ·rw[if_pos h,if_pos h,Int.min_eq_left (Int.add_le_of_le_sub_right (by rw[Int.sub_self];exact Int.le_of_lt h)),Int.ofNat_toNat,Int.max_comm]
  ·have h0:=Int.not_lt.mp h
   rw[if_neg h,if_neg h,Int.max_eq_right (Int.le_min.mpr ⟨h0,Int.natCast_nonneg n⟩)];omega
theorem sIx_le(v:Oq)(n d:Nat)(hd:d<=n):HT.sIx n d v<=n:=by
 cases v with
 |none=>exact hd
 |some i =>
  show(if i < 0 then(i + (n:Int)).toNat else min i.toNat n)<=n
  split <;> omega
theorem v8(lo hi:Oq)(n:Nat):Builtin.Str.strSliceIndices lo hi 1 n=(List.range (HT.sIx n n hi - HT.sIx n 0 lo)).map fun k=>HT.sIx n 0 lo + k:=by
 have e1:=clip_eq lo n 0 (Ks _)
 have e2:=clip_eq hi n n (Jw _)
 have e:Builtin.Str.strSliceIndices lo hi 1 n=sliceRange (HT.sIx n 0 lo:Nat) (HT.sIx n n hi:Nat) 1:=by
  rw[<-e1,<-e2]
  unfold Builtin.Str.strSliceIndices
  cases lo <;> cases hi <;> rfl
 rw[e]
 unfold sliceRange
 rw[if_pos nofun]
 dsimp only
 have ec:(if((HT.sIx n 0 lo:Nat):Int) < ((HT.sIx n n hi:Nat):Int) then(((HT.sIx n n hi:Nat):Int) - ((HT.sIx n 0 lo:Nat):Int) + 1 - 1) / 1 else 0).toNat=HT.sIx n n hi - HT.sIx n 0 lo:=by
  split <;> omega
 rw[ec]
 refine K2 fun k _=>?_
 omega
theorem jK{α:Type}(l:List α)(a m:Nat):((List.range m).map (fun k=>a + k)).filterMap (fun i=>l[i]?)=(l.drop a).take m:=by
 induction m with
 |zero=>simp
 |succ m ih =>
  rw[List.range_succ,JT,List.filterMap_append,ih,List.take_add_one]
  congr 1
  rw[List.getElem?_drop]
  show List.filterMap (fun i=>l[i]?) [a + m]=_
  cases h:l[a + m]? with
  |none=>simp[h]
  |some x=>simp[h]
theorem zV(l:OJ)(lo hi:Oq):Txt.slice (mk l) lo hi=mk (cN l lo hi):=by
 unfold Txt.slice
 rw[v8,aY]
 have hf:(((List.range (HT.sIx l.length l.length hi - HT.sIx l.length 0 lo)).map fun k=>HT.sIx l.length 0 lo + k).filterMap fun i=>(mk l).cps[i]?)=cN l lo hi:=by
  have e:(fun i:Nat=>(mk l).cps[i]?)=fun i=>l[i]?:=by
   funext i
   rw[<-LU,cX]
  rw[e,jK];rfl
 split
 ·rename_i hc
  have Mp:HT.sIx l.length l.length hi - HT.sIx l.length 0 lo=l.length:=by
   simpa using hc
  have h1:=sIx_le hi l.length l.length (Jw _)
  have:cN l lo hi=l:=by
   unfold cN
   rcases Nat.eq_zero_or_pos l.length with h0 |h0
   ·rw[List.length_eq_zero_iff.mp h0];simp
   ·have h2:HT.sIx l.length 0 lo=0:=by omega
    rw[Mp,h2];simp
  rw[this]
 ·show mk _=_
  rw[hf]
theorem la{α:Type}(l:List α)(k:Nat):cN l none (some (k:Int))=l.take k:=by
 unfold cN
 rw[HT.sIx_none,HT.sIx_nat]
 simp
theorem e9{α:Type}(l:List α)(k:Nat):cN l (some (k:Int)) none=l.drop k:=by
 unfold cN
 rw[HT.sIx_none,HT.sIx_nat]
 rcases Nat.le_total k l.length with h |h
 ·rw[LO h,Ko (by simp)]
 ·rw[Nat.min_eq_right h];simp[LL h]
theorem D1{α:Type}(l:List α)(a b:Nat):cN l (some (a:Int)) (some (b:Int))=(l.take b).drop a:=by
 unfold cN
 rw[HT.sIx_nat,HT.sIx_nat,List.drop_take]
 rcases Nat.le_total a l.length with h |h
 ·rw[LO h]
  rcases Nat.le_total b l.length with h2 |h2
  ·rw[LO h2]
  ·rw[Nat.min_eq_right h2,Ko (by simp),Ko (by simp;omega)]
 ·rw[Nat.min_eq_right h];simp[LL h]
theorem xn{i:Int}:ixE (.lst xs) (.int i)=atI xs i:=rfl
theorem DA{i:Int}:ixE (.tup xs) (.int i)=atI xs i:=rfl
theorem DB{xs:Ow}{i:Int}:ixE (.scr xs) (.int i)=(atI xs i).map D.int:=rfl
variable{l:OJ}
theorem v0{i:Int}(hz:l.length<=16777216)(h:0<=i)(h2:i < l.length):ixE (.str (mk l)) (.int i)=some (.str (mk [l.getD i.toNat 0])):=by
 have e:=DC (z:=mk l) (i:=i) (by rw[aY];exact hz) h (by rw[aY];exact h2)
 rw[cX]at e
 exact e
theorem uw:bh (.lst xs)=some (.int xs.length):=rfl
theorem Bb:bh (.tup xs)=some (.int xs.length):=rfl
theorem Bd{xs:Ow}:bh (.scr xs)=some (.int xs.length):=rfl
theorem Bf{xs:OX}:bh (.dic xs)=some (.int xs.length):=rfl
theorem xj(h:l.length<=16777216):bh (.str (mk l))=some (.int l.length):=by
 have e:=Bg (x:=mk l) (by rw[aY];exact h)
 rw[aY]at e
 exact e
theorem oG{i:Int}(h:Builtin.Int.intBits i<=2 ^ 20)(h2:Builtin.Int.intBits j<=2 ^ 20):mL (.int i) (.int j)=some (.int (i * j)):=yH h h2
theorem aG{a b:OJ}(h:a.length + b.length<=16777216):ay (.str (mk a)) (.str (mk b))=some (.str (mk (a ++ b))):=by
 rw[Cf (by rw[aY,aY];exact h),vS]
theorem i4(h:l.length<=16777216):slD (.str (mk l)) lo hi=some (.str (mk (cN l lo hi))):=by
 rw[CG (by rw[aY];exact h),zV]
theorem df{α:Type}(enc:α->D)(f:α->D){ef:OF}(ys:List α)(h:∀x ∈ ys,ef (E.set i (.val (enc x)))=some (f x)):bJ (nmG i) noT ef E (ys.map enc)=some (ys.map f) :=
 iN enc f ys fun x hx=>⟨rfl,h x hx⟩
theorem qK(ss:OD):(ss.map D.str).all da=true:=by
 rw[Kt]
 intro d hd
 obtain⟨x,_,rfl⟩:=List.mem_map.mp hd
 rfl
theorem DW(a b:Str):eqV (.str a) (.str b)=decide (a=b):=by
 show decide _=_
 by_cases h:a=b
 ·simp[h]
 ·simp[h]
theorem uG(x:Str)(ss:OD):inV (.str x) ((ss.map D.str).map toV)=decide (x ∈ ss):=by
 unfold inV
 induction ss with
 |nil=>rfl
 |cons y r ih =>
  rw[Ji,Ji,K9,ih]
  show(eqV (.str y) (.str x) || decide (x ∈ r))=_
  rw[DW]
  by_cases h:x=y
  ·simp[h]
  ·have h':¬y=x:=fun z=>h z.symm
   simp[h,h']
variable{ss:OD}
theorem DI:inE (.str x) (.lst (ss.map D.str))=some (.bl (decide (x ∈ ss))):=by
 show(inD (.str x) (.lst (ss.map D.str))).map D.bl=_
 show((if da (.str x) && (ss.map D.str).all da then some (inV (toV (.str x)) ((ss.map D.str).map toV)) else none):PP).map D.bl=_
 rw[qK]
 show some (D.bl (inV (.str x) ((ss.map D.str).map toV)))=_
 rw[uG]
theorem nO:inE (.str x) (.tup (ss.map D.str))=some (.bl (decide (x ∈ ss))):=DI
theorem um:vR (.str x) (.lst (ss.map D.str))=some (.bl (!decide (x ∈ ss))):=by
 show(inD (.str x) (.lst (ss.map D.str))).map (fun b=>D.bl (!b))=_
 show((if da (.str x) && (ss.map D.str).all da then some (inV (toV (.str x)) ((ss.map D.str).map toV)) else none):PP).map (fun b=>D.bl (!b))=_
 rw[qK]
 show some (D.bl (!inV (.str x) ((ss.map D.str).map toV)))=_
 rw[uG]
theorem mD(h:ss.length < 64):m8 (.lst (ss.map D.str))=some (.lst ((bQ ss).map D.str)):=by
 show(gW (ss.map D.str)).bind _=_
 rw[qe]
 exact if_pos h
theorem x_(h:ss.length < 64):m8 (.tup (ss.map D.str))=some (.lst ((bQ ss).map D.str)):=mD h
theorem vm:bU (.lst xs)=some (.tup xs):=rfl
theorem vk:bU (.tup xs)=some (.tup xs):=rfl
theorem yN:jG (.lst xs)=some (.lst xs):=rfl
theorem yM:jG (.tup xs)=some (.lst xs):=rfl
theorem gD{α:Type}(f:α->D):∀xs:List α,toPs (xs.map f)=xs.map fun x=>toP (f x)
 | []=>by rw[Jj,toPs];rfl
 |x :: xs=>by rw[Ji,toPs,gD f xs];rfl
theorem o8{α:Type}[DecidableEq α](f:α->PyData)(h:∀a b,PyData.eqv (f a) (f b)=decide (a=b)):∀xs ys:List α,PyData.eqvAll (xs.map f) (ys.map f)=decide (xs=ys)
 | [],[]=>by simp[PyData.eqvAll]
 | [],_ :: _=>by simp[PyData.eqvAll]
 |_ :: _,[]=>by simp[PyData.eqvAll]
 |x :: xs,y :: ys=>by
  rw[Ji,Ji,PyData.eqvAll,h,o8 f h xs ys]
  by_cases e:x=y
  ·by_cases e2:xs=ys
   ·simp[e,e2]
   ·simp[e2]
  ·simp[e]
theorem lg{α:Type}(f:α->PyData):∀xs:List α,(∀x ∈ xs,(f x).canLay0=true)->PyData.canLayAll0 (xs.map f)=true
 | [],_=>by simp[PyData.canLayAll0]
 |x :: xs,h=>by
  rw[Ji,PyData.canLayAll0,h x Jq,lg f xs fun y hy=>h y (Jt _ hy)];rfl
theorem jg{α:Type}(f:α->PyData)(n:Nat):∀xs:List α,(∀x ∈ xs,(f x).depth<=n)->PyData.depthAll (xs.map f)<=n
 | [],_=>by rw[Jj,PyData.depthAll];exact Ks _
 |x :: xs,h=>by
  rw[Ji,PyData.depthAll]
  exact Nat.max_le.mpr ⟨h x Jq,jg f n xs fun y hy=>h y (Jt _ hy)⟩
structure m4 (n:Nat) (d:D):Prop where
 lay:(toP d).canLay0=true
 dep:(toP d).depth<=n
theorem m4.ok(h:m4 n d)(hn:n<=60):gb d=true:=by
 unfold gb
 rw[h.lay,JD (Jy h.dep hn)];rfl
theorem l5(h:∀c ∈ x.cps.toList,c<=122):m4 0 (.str x):=by
 refine⟨?_,by rw[toP,PyData.depth];exact Jw _⟩
 rw[toP,PyData.canLay0]
 unfold PyData.strOk
 rw[<-Array.all_toList,Kt]
 intro c hc
 exact JD (L5 (h c hc) nofun)
theorem uL{α:Type}(f:α->D)(xs:List α)(h:∀x ∈ xs,m4 n (f x)):m4 (n + 1) (.lst (xs.map f)):=by
 constructor
 ·rw[toP,PyData.canLay0,gD];exact lg _ xs fun x hx=>(h x hx).lay
 ·rw[toP,PyData.depth,gD];exact Nat.succ_le_succ (jg _ n xs fun x hx=>(h x hx).dep)
theorem l4{α:Type}(f:α->D)(xs:List α)(h:∀x ∈ xs,m4 n (f x)):m4 (n + 1) (.tup (xs.map f)):=by
 constructor
 ·rw[toP,PyData.canLay0,gD];exact lg _ xs fun x hx=>(h x hx).lay
 ·rw[toP,PyData.depth,gD];exact Nat.succ_le_succ (jg _ n xs fun x hx=>(h x hx).dep)
theorem qM(xs:OK)(h:∀x ∈ xs,m4 n x):m4 (n + 1) (.tup xs):=by
 have:=l4 (fun d:D=>d) xs h
 rwa [Lg]at this
def wk(x y:D):Bool:=PyData.eqv (toP x) (toP y)
theorem BW(a b:Str):wk (.str a) (.str b)=decide (a=b):=by
 unfold wk
 rw[toP,toP,PyData.eqv]
 by_cases h:a=b
 ·simp[h]
 ·simp[h]
theorem BX{α:Type}[DecidableEq α](f:α->D)(h:∀a b,wk (f a) (f b)=decide (a=b))(xs ys:List α):wk (.lst (xs.map f)) (.lst (ys.map f))=decide (xs=ys):=by
 unfold wk
 rw[toP,toP,PyData.eqv,gD,gD]
 exact o8 _ h xs ys
theorem uT{x y:D}(hx:m4 n x)(hy:m4 n y)(hn:n<=60)(hs:scD x y=none):eqO x y=some (.bl (wk x y)):=by
 unfold eqO eqD
 rw[hs,hx.ok hn,hy.ok hn];rfl
def sS(x:Str):Prop:=∀c ∈ x.cps.toList,c<=122
theorem B0{ts:OD}(hs:∀x ∈ ss,sS x)(ht:∀x ∈ ts,sS x):eqO (.lst (ss.map D.str)) (.lst (ts.map D.str))=some (.bl (decide (ss=ts))):=by
 rw[uT (n:=1) (uL _ _ fun x hx=>l5 (hs x hx)) (uL _ _ fun x hx=>l5 (ht x hx)) nofun rfl,BX _ BW]
theorem mS(hs:∀x ∈ ss,sS x):eqO (.lst (ss.map D.str)) (.lst [])=some (.bl (decide (ss=[]))):=B0 hs (ts:=[]) fun _ h=>by cases h
abbrev Dm:=List (Key×List D)
def dv(qs:List (Key×Addr)):List (Key×V):=qs.map fun q=>(q.1,V.ref q.2)
inductive Lds (B:O8) (F H:Hp):List (Key×Addr)->Dm->Prop
 |nil:Lds B F H [] []
 |cons {k:Key}{p:Addr}{xs:ON}{ds:OK}{qs:List (Key×Addr)} {m:Dm}:H p=some (.lst xs)->F p=none->B.2 p=none->Reps F xs ds->Lds B F H qs m->Lds B F H ((k,p) :: qs) ((k,ds) :: m)
def fg(a:Addr):Sl:=.rob ⟨0,some a,[]⟩
def gd(E:DE):Prop:=(∀(j:Nat) d,E[j]? ≠ some (.own d))/\∀(j:Nat) s,E[j]? ≠ some (.obj s)
theorem gd.set{E:DE}(h:gd E)(i:Nat){z:Sl}(h1:∀d,z ≠ .own d)(h2:∀s,z ≠ .obj s):gd (E.set i z):=by
 refine⟨fun j d e=>?_,fun j s e=>?_⟩
 ·rw[JK]at e
  split at e
  ·split at e
   ·exact h1 d (Js e)
   ·cases e
  ·exact h.1 j d e
 ·rw[JK]at e
  split at e
  ·split at e
   ·exact h2 s (Js e)
   ·cases e
  ·exact h.2 j s e
structure Ok2 (i:Nat) (a:Addr) (B:O8) (F H:Hp) (σ:St) (E:DE) (m:Dm):Prop where
 ok:Ok B F H σ E
 at_:E[i]? = some (fg a)
 no:gd E
 dol:∃qs,H a=some (.dK (dv qs))/\F a=none/\B.2 a=none/\(a :: qs.map (·.2)).Nodup/\Lds B F H qs m
abbrev Fin:=Hp×Hp->Hp->fe->Out->Prop
def t2(Φ:Fin)(i:Nat)(a:Addr)(G:DE->Dm->Option Out):TS:=fun Z σ H=>∃B F E m r,Ok2 i a B F H σ E m/\G E m=some r/\Φ B F Z r
section
variable {X:Cx} {Φ:Fin}{i:Nat}{a:Addr}
def zq(G:Addr->Option Out):Option Out:=@dite _ (∃r,∀a,G a=some r) (Classical.propDecidable _) (fun h=>some (Classical.choose h)) fun _=>none
theorem D8{G:Addr->Option Out}{r:Out}(h:∀a,G a=some r):zq G=some r:=by
 unfold zq
 have hx:∃r,∀a,G a=some r:=⟨r,h⟩
 rw[dif_pos hx]
 have:=Li hx 0
 rw[h 0]at this
 exact this.symm
theorem zp{G:Addr->Option Out}{r:Out}(h:zq G=some r):∀a,G a=some r:=by
 unfold zq at h
 by_cases hx:∃r,∀a,G a=some r
 ·rw[dif_pos hx]at h
  cases h
  exact Li hx
 ·rw[dif_neg hx]at h;cases h
theorem Ok.set_raw{B:O8}{F H:Hp}{σ:St}(k:Ok B F H σ E)(hn:gd E)(i:Nat)(c:Addr):Ok B F H (σ.set i (some (.ref c))) (E.set i (fg c)):=by
 have hl:=k.len
 have hn':gd (E.set i (fg c)):=hn.set i (by intro d e;cases e) (by intro d e;cases e)
 refine⟨k.ent,by rw[Ke,Ke];exact hl,fun j d h=>?_,fun j d h=>(hn'.1 j d h).elim,fun j l d e b _ h=>(hn'.1 j d h).elim,?_⟩
 ·rw[JK]at h
  split at h
  ·split at h
   ·cases h
   ·cases h
  ·rename_i hne
   rw[JC hne];exact k.val j d h
 ·obtain⟨fp,q⟩:=k.ob
  refine⟨fp,fun j s h=>(hn'.2 j s h).elim,fun j l s d b h=>(hn'.2 j s h).elim,fun j l s t _ h=>(hn'.2 j s h).elim,fun j s h=>?_⟩
  rw[JK]at h
  split at h
  ·rename_i hij
   subst hij
   split at h
   ·rename_i hlt
    cases h
    exact .inr ⟨rfl,c,rfl,by rw[Lc ⋯]⟩
   ·cases h
  ·rename_i hne
   rw[JC hne]
   exact q.rob j s h
end
theorem A2(h:∀z ∈ E,(∀d,z ≠ .own d)/\∀s,z ≠ .obj s):gd E :=
 ⟨fun j d e=>(h _ (JY e)).1 d rfl,fun j s e=>(h _ (JY e)).2 s rfl⟩
def bkL(ns:OD)(f:Str->D):List (Key×D):=ns.map fun n=>(Sum.inr n,f n)
def bk(ns:OD)(f:Str->D):D:=.dic (bkL ns f)
def bm(ns:OD)(f:Str->List D):Dm:=ns.map fun n=>(Sum.inr n,f n)
end L2.Cu
namespace L2
open PySem PySem.Spec PyProof.Rows
theorem pN(its:OH):slicePick its.toArray none none (some (-1))=its.reverse.toArray:=by
 unfold slicePick
 have e:sliceBounds none none (some (-1)) its.toArray.size=((its.length:Int) - 1,-1,-1):=rfl
 rw[e]
 have e2:sliceRange ((its.length:Int) - 1) (-1) (-1)=(List.range its.length).map fun k:Nat=>((its.length:Int) - 1 + (-1) * (k:Int)).toNat:=by
  unfold sliceRange
  dsimp only
  rw[if_neg nofun]
  congr 2
  by_cases h:((its.length:Int) - 1) > -1
  ·rw[if_pos h,show(its.length:Int) - 1 - -1 - -1 - 1=its.length by omega,show(-(-1):Int)=1 from rfl,Int.ediv_one];omega
  ·rw[if_neg h];omega
 show((sliceRange ((its.length:Int) - 1) (-1) (-1)).filterMap _).toArray=_
 rw[e2,List.filterMap_map]
 have h:=Ay its
 rw[Jz]at h
 conv=>rhs;rw[<-h]
 congr 1
 congr 1
 funext k
 show its.toArray[((its.length:Int) - 1 + (-1) * (k:Int)).toNat]? = its.toArray[((its.length:Int) - 1 + (k:Int) * (-1)).toNat]?
 rw[Int.mul_comm]
def GS(K:OE)(te:TE)(ts:TO):TE:=fun σ H Q=>te σ H fun x H1=>ts σ H1 fun l H2=>∃a xs,x=.ref a/\l=some (-1)/\SqL K H2 a xs/\∀p,H2 p=none->Q (.ref p) (upd H2 p (.lst xs.reverse))
theorem C9{X:Cx}{e st:Expr}{te:TE}{ts:TO}{p2 pos:Pos}(he:PE X e te)(hst:PO X (some st) ts):PE X (.Subscript e (.Slice none none (some st) p2) pos) (GS X.K te ts):=by
 intro Ml s σ H Q I h
 refine Subscript_ (thn (he Ml s σ H _ I h) fun v s1 zz124_0=>?_)
 obtain⟨x,H1,I1,r1,q1⟩:=zz124_0
 refine wpAny_Slice ?_
 rw[evalPart_none]
 refine Jv (Jv (thn (hst Ml s1 σ H1 _ I1 q1) fun vs s2 zz125_0=>?_))
 obtain⟨l,H2,I2,pl,q2⟩:=zz125_0
 obtain⟨a,xs,rfl,rfl,hx,q⟩:=q2
 cases r1
 cases pl with
 |int i t =>
  have I4:Inv X Ml σ H2 { s2 with heap:=s2.heap.push { cls:=.type "slice",data:=.fields #[.none,.none,.int (-1) t] } }:=I2.kept (t':=s2.toks) fun b ob q=>Jp _ q
  obtain⟨its,r,ht,hz⟩:=I4.list hx
  show wpAny (model X.prog X.w) X.A (subscriptTail e (.Slice none none (some st) p2) (.ref a) (.ref s2.heap.objs.size)) (EP X Ml σ Q) X.xe { s2 with heap:=s2.heap.push { cls:=.type "slice",data:=.fields #[.none,.none,.int (-1) t] } }
  refine tail_any (ops:=[.ref a,.ref s2.heap.objs.size]) ht.isList.typeIs slot_list_getitem.lookup (wpAny_getItem_list_slice ht.isList (Heap.IsSliceOf.new ..) .none .none (.int (-1) t) (by simp) ?_ (by rw[Jz,<-r.length];exact hz)) (by with_unfolding_all rfl)
  rw[pN]
  exact⟨.ref _,_,I4.laid (t':=s2.toks) (o:=.lst xs.reverse) (fun b ob q=>Jp _ q) (Jw _) ⟨by rw[LZ];exact hz,_,0,r.reverse,Jx _ rfl⟩,rfl,q _ I4.fresh⟩
end L2
namespace L2.Cu
open PySem PySem.Spec PyProof.Rows
def E4(x y:D):Option D:=match x,y with
 |.lst z,.int n=>if n = -1 then some (.lst z.reverse) else none
 |_,_=>none
theorem DQ{X:Cx}{e st:Expr}{f g:OF}{p2 pos:Pos}(ha:Ev X .O e f)(hb:Ev X .V st g):Ev X .V (.Subscript e (.Slice none none (some st) p2) pos) (bin E4 f g) :=
 PE.by (C9 ha.h (w4 hb.h)) fun σ H Q zz126_0=>by
  obtain⟨B,F,E,d,k,q,w⟩:=zz126_0
  unfold bin at q
  cases h1:f E with
  |none=>simp[h1]at q
  |some x =>
   cases h2:g E with
   |none=>simp[h1,h2]at q
   |some y =>
    simp only[h1,h2,Jd]at q
    refine⟨B,F,E,x,k,h1,fun v F1 H1 x1 r1=>⟨B,F1,E,y,k.ext x1,h2,fun v2 F2 H2 x2 r2=>?_⟩⟩
    match x,y,q with
    |.lst z,.int n,q =>
     have q':(if n = -1 then some (D.lst z.reverse) else none)=some d:=q
     by_cases hn:n = -1
     ·rw[if_pos hn]at q'
      cases q'
      subst hn
      have r3:OB F2 H2 v (.lst z):=OB.ext x2 r1
      obtain⟨p,vs,rfl,hp,rp⟩:=r3.lst x2.sub
      refine⟨-1,?_,p,vs,rfl,rfl,SqL.of hp,fun c hc=>?_⟩
      ·cases r2;rfl
      ·have x3:=Ext.freeze (o:=HO.lst vs.reverse) x2.sub hc
       exact w _ _ _ ((x1.trans x2).trans x3) (.lst ax (rp.reverse.mono x3.fr))
     ·rw[if_neg hn]at q';cases q'
open L2 PySem PyProof
variable {X:Cx}
def pW(i j:Nat)(f:OG)(E:DE):Option Out:=(f E).bind fun ds=>match ds with
 | [a,b]=>some (.nx ((E.set i (.val a)).set j (.val b)))
 |_=>none
theorem BU{j:Nat}{x y:Str}{a b:Expr}{f:OG}{px py pt pos:Pos}{kt k2 pt2}(hN:X.N.Nodup)(hi:X.N[i]? = some x)(hj:X.N[j]? = some y)(hij:i ≠ j)(hx:X.env.scope.names.lookup x=some .local)(hy:X.env.scope.names.lookup y=some .local)(hc:X.calm=true)(ha:Ea X [a,b] f)
  (hw:swappedStores [.Tuple [.Name x px,.Name y py] kt pt] (.Tuple [a,b] k2 pt2) X.env=pure (some [x,y]):=by rfl)
  (hs:swapsWithSole [.Tuple [.Name x px,.Name y py] kt pt] (.Tuple [a,b] k2 pt2) pos.line X.env=pure false:=by rfl) :
  Es X (.Assign [.Tuple [.Name x px,.Name y py] kt pt] (.Tuple [a,b] k2 pt2) pos) (pW i j f):=PS.by (Fu hc hN hi hj hij hx hy ha.h hw hs) fun Z σ H zz127_0=>by
 obtain⟨B,F,E,r,k,q,w⟩:=zz127_0
 unfold pW at q
 cases hf:f E with
 |none=>rw[hf]at q;cases q
 |some ds =>
  rw[hf,Jd]at q
  match ds,q with
  | [d,e],q =>
   cases q
   refine⟨B,F,E,[d,e],k,hf,fun vs F1 H1 x1 r1=>?_⟩
   cases r1 with
   |cons p r2 =>
    cases r2 with
    |cons p' r3 =>
     cases r3
     exact⟨_,_,rfl,w _ F1 H1 (((k.ext x1).set_val p i).set_val p' j) x1.fr⟩
def EW(x:D):Bool:=gb x || match x with
 |.dic ds=>ds.all (fun p=>gb p.2) && ds.all (yX ds)
 |_=>false
open Classical in
def neL(x y:D):Option D:=if x=y/\∃xs,x=.lst xs/\xs.all EW=true then some (.bl false) else none
end L2.Cu
namespace L2
open PySem PySem.Spec PyProof.Rows
section
variable {X:Cx}
def Hh(K:OE):V->List V->Hp->VK->Prop:=fun x vs H Q=>∃sep p ss,x=.str sep/\vs=[.ref p]/\(SqL K H p (ss.map V.str)\/SqT K H p (ss.map V.str))/\(ss.map (·.length)).sum + ss.length * sep.length<=16777216/\Q (.str (Txt.join sep ss)) H
theorem Dp:MtM X "str.join" (Hh X.K):=by
 intro Ml s σ H x vs v us Q I rx rv h
 obtain⟨sep,p,ss,rfl,rfl,hq,hok,q⟩:=h
 obtain⟨t,rfl⟩:=rx
 obtain⟨u,rfl,ru⟩:=rv.one
 cases ru
 rcases hq with hq |hq
 ·obtain⟨its,r,⟨o,n,e,c,hd,Mx⟩,_⟩:=I.list hq
  exact join_list (items:=its.toArray) ⟨o,e,c,n,Mx⟩ (by rw[List.toList_toArray];exact j9 r) hok fun t' k=>⟨.str _,H,I.tok k,⟨t',rfl⟩,q⟩
 ·obtain⟨its,r,hT,_⟩:=I.tuple hq
  exact join_tuple hT (by rw[List.toList_toArray];exact j9 r) hok fun t' k=>⟨.str _,H,I.tok k,⟨t',rfl⟩,q⟩
theorem zh:dc X (.builtin "ord") (fun xs H Q=>∃x:Str,xs=[.str x]/\x.length=1/\Q (.int (x.cps.getD 0 0:Nat)) H):=by
 intro Ml s σ H xs us Q I r h
 obtain⟨x,rfl,h1,q⟩:=h
 obtain⟨u,rfl,t,rfl⟩:=jw r
 exact ord_of_one h1 ⟨.int _,H,I.tok _,⟨_,rfl⟩,q⟩
end
end L2
namespace L2.Cu
open PySem PySem.Spec PyProof.Rows
def g_(x y:D):Option D:=match x with
 |.str sep=>(m9 y).bind fun ds=>(gW ds).bind fun ss=>if(ss.map (·.length)).sum + ss.length * sep.length<=16777216 then some (.str (Txt.join sep ss)) else none
 |_=>none
theorem kX{sep:Str}{ss:OD}(h:(ss.map (·.length)).sum + ss.length * sep.length<=16777216):g_ (.str sep) (.lst (ss.map D.str))=some (.str (Txt.join sep ss)):=by
 show(gW (ss.map D.str)).bind _=_
 rw[qe]
 exact if_pos h
def AN:D->Option D
 |.str x=>if x.length=1 then some (.int (x.cps.getD 0 0:Nat)) else none
 |_=>none
theorem E8:m3 .V (fun xs H Q=>∃x:Str,xs=[V.str x]/\x.length=1/\Q (.int (x.cps.getD 0 0:Nat)) H) AN:=fun F H v x d Q s rx h q=>by
 cases x with
 |str y =>
  have h':(if y.length=1 then some (D.int (y.cps.getD 0 0:Nat)) else none)=some d:=h
  by_cases h1:y.length=1
  ·rw[if_pos h1]at h'
   cases h'
   cases OB.str rx
   exact⟨y,rfl,h1,q _ F H (Ext.refl s) (.int _)⟩
  ·rw[if_neg h1]at h'
   cases h'
 |_=>cases h
section
variable {X:Cx}{e:Expr}{f:OF}{p pos:Pos}
theorem Gn(hg:Gl X "ord")(hm:X.mg "ord" = none)(hv:bootBuiltins "ord" = some (.builtin "ord"))(ha:Ev X .O e f)(he:aO e=true:=by rfl):Ev X .V (.Call (.Name "ord" p) [e] [] pos) (un AN f) :=
 l_ zh E8 hg hm hv ha nofun nofun he
end
section
variable {X:Cx}{a:Expr}{f g:OF}{apos Mn:Pos}
theorem je{o:Expr}(ho:Ev X .O o f)(ha:Ev X .O a g)(Mq:attributeBase o "join" X.env (eval o X.env)=eval o X.env:=by rfl)
  (MB:((backTo Mn (starEach [a] X.env)).all (fun x => !x.1) && (backToKw Mn (keywordEach [] X.env)).all (fun x=>x.1.isSome) && decide (([a]:OP).length + ([]:List Keyword).length + (if([]:List Keyword).isEmpty then 0 else 1) < 30))=true:=by rfl)
  (Mr:(apos.endLine == Mn.line)=true:=by rfl) (hns:aO a=true:=by rfl):Ev X .V (.Call (.Attribute o "join" apos) [a] [] Mn) (bin g_ f g) :=
 PE.by (qr Ky PySem.F.slot_str_join PySem.F.type_str_join Dp ho.h (bR ha.h ek (aD a [] X.env hns)) Mq MB Mr (aD a [] X.env hns) rfl) fun σ H Q zz128_0=>by
  obtain⟨B,F,E,d,k,q,w⟩:=zz128_0
  unfold bin at q
  cases hf:f E with
  |none=>simp[hf]at q
  |some x =>
   cases hgE:g E with
   |none=>simp[hf,hgE]at q
   |some y =>
    simp only[hf,hgE,Jd]at q
    refine⟨B,F,E,x,k,hf,fun v F1 H1 x1 r1=>?_⟩
    cases x with
    |str sep =>
     have q':((m9 y).bind fun ds=>(gW ds).bind fun ss=>if(ss.map (·.length)).sum + ss.length * sep.length<=16777216 then some (D.str (Txt.join sep ss)) else none)=some d:=q
     cases h1:m9 y with
     |none=>rw[h1]at q';cases q'
     |some ds =>
      cases h2:gW ds with
      |none=>simp[h1,h2]at q'
      |some ss =>
       simp only[h1,h2,Jd]at q'
       split at q'
       ·rename_i hok
        cases q'
        cases OB.str r1
        refine⟨rfl,B,F1,E,_,k.ext x1,hgE,fun u F2 H2 x2 r2=>?_⟩
        obtain⟨p,rfl,hq⟩:=zZ (K:=X.K) x2.sub r2 h1 h2
        exact⟨sep,p,ss,rfl,rfl,hq,hok,w _ F2 H2 (x1.trans x2) (.str _)⟩
       ·cases q'
    |_=>cases q
end
theorem Rep.flat{F F':Hp}{v:V}{d:D}(h:da d=true)(r:Rep F v d):Rep F' v d:=by
 cases r with
 |non=>exact .non
 |bl b=>exact .bl b
 |int i=>exact .int i
 |str x=>exact .str x
 |tup _ _=>cases h
 |lst _ _=>cases h
 |dic _ _=>cases h
 |scr _=>cases h
theorem Reps.flat{F F':Hp}:∀{vs:ON}{ds:OK},ds.all da=true->Reps F vs ds->Reps F' vs ds
 |_,_,_,.nil=>.nil
 |_,_,h,.cons r t=>by
  rw[Kl,JG]at h
  exact .cons (r.flat h.1) (Reps.flat h.2 t)
def ED:D->Bool
 |.lst xs=>xs.all da
 |_=>false
def qX(n:Nat)(g:OR)(f:OG)(E:DE):Option D:=(f E).bind fun ds=>if ds.length=n/\ds.all da=true then(g ds).bind fun d=>if ED d=true then some d else none else none
section
variable {X:Cx}{e:Expr}{pos:Pos}
theorem uQ{k:Nat}{fa:Addr}{fd:FuncData}{ps:OD}{x:Str}{p:Pos}{es:OP}{n:Nat}{g:OR}{f:OG}(Fn:aX X.prog X.w X.K X.mg X.base CX0 k fa fd ps (spD n g))(hr:dj k X.A)(hg:Gl X x)
  (hm:X.mg x=some (.ref fa)) (hk:PySem.W.keepIn X.K (.ref fa)=true) (hb:fj X.K fd ps []) (ha:Ea X (e :: es) f) (hdb:(x == ("__debug__" : Str))=false:=by decide)
  (he:aO e=true:=by rfl) (hpl:es.all aO=true:=by rfl):Ev X .F (.Call (.Name x p) (e :: es) [] pos) (qX n g f) :=
 PE.by (w8 Fn hr hg hm hk hb .nil Eu ha.h hdb (aD e es X.env he) (dN pos X.env es hpl)) fun σ H Q zz129_0=>by
  obtain⟨B,F,E,d,k,q,w⟩:=zz129_0
  unfold qX at q
  cases hf:f E with
  |none=>simp[hf]at q
  |some ds =>
   simp only[hf,Jd]at q
   split at q
   ·rename_i hn
    cases hgd:g ds with
    |none=>simp[hgd]at q
    |some d' =>
     simp only[hgd,Jd]at q
     split at q
     ·rename_i hfl
      cases q
      refine⟨B,F,E,ds,k,hf,fun vs F1 H1 x1 r1=>⟨fun _=>none,ds,d,(fun a o z=>by cases z),by rw[JZ];exact r1.flat hn.2,hn.1,hgd,fun v F2 H2 x2 r2=>?_⟩⟩
      cases d with
      |lst xs =>
       cases r2 with
       |lst ea rs =>
        rename_i a us
        have h1a:H1 a=none:=by
         cases z:H1 a with
         |none=>rfl
         |some o =>
          have:=x2.new a rfl (by rw[z];simp)
          rw[this]at ea;cases ea
        have h0a:H a=none:=x1.nofree h1a
        have f1a:F1 a=none:=by
         cases z:F1 a with
         |none=>rfl
         |some o=>rw[x1.sub a o z]at h1a;cases h1a
        have x3:Ext F1 H1 F1 H2:=⟨x2.same,fun _ _ z=>z,fun c o z=>x2.same c o (x1.sub c o z),fun _ z _=>z⟩
        exact w _ F1 H2 (x1.trans x3) ⟨a,.lst us,rfl,h0a,x2.sub a _ ea,f1a,Reps.flat hfl rs⟩
      |_=>cases hfl
     ·cases q
   ·cases q
end
end L2.Cu
namespace L2
open PySem PySem.Spec PyProof.Rows PySem.Builtin PySem.Builtin.Str
section
variable {prog:Program}{w:World}{A:Around}{E:OA}{s:Shared}
theorem vo{x y:Str}{t u:Tok}{Q:OA}(hy:(y.length == 0)=false)(hsz:x.length + 2<=sizeLine)
  (h:∀(l:List (Str×Tok)) (k:Nat),l.map (·.1)=Txt.split x y->Q (.ref s.heap.objs.size) { s with heap:=s.heap.push { cls:=.type "list",data:=.seq (strValues l).toArray },toks:=k }) :
  wpAny (model prog w) A (call (.builtin "str.split") [.str x t,.str y u]) Q E s:=by
 have few:(partsBetween x (occurrences x y 0 x.length (x.length + 1)) y.length).length<=sizeLine:=by
  have:=StrLaws.occ_length_le x y 0 x.length (x.length + 1)
  rw[length_partsBetween];omega
 by_cases c1:(decide (x.length < y.length) || decide (strKind x < strKind y))=true
 ·exact Ma F.slot_str_split (Lo _ _ _) Mk (Mh _ _) (meets_str_split_cannot_occur x y t u c1) (h [(x,t)] s.toks (if_pos c1).symm)
 ·have c1':=Bool.eq_false_iff.mpr c1
  by_cases c2:(occurrences x y 0 x.length (x.length + 1)).isEmpty=true
  ·exact Ma F.slot_str_split (Lo _ _ _) Mk (Mh _ _) (meets_str_split_not_found x y t u c1' hy c2) (h [(x,t)] s.toks ((if_neg c1).trans (if_pos c2)).symm)
  ·have c2':=Bool.eq_false_iff.mpr c2
   refine Ma F.slot_str_split (Lo _ _ _) Mk (Mh _ _) (meets_str_split_sep x y t u c1' hy c2' ⋯ few) ?_
   show wants Q E _ { s with toks:=_,heap:=s.heap.push { cls:=.type "list",data:=.seq (strsFrom s.toks (partsBetween x (occurrences x y 0 x.length (x.length + 1)) y.length)).toArray } }
   rw[strsFrom_eq]
   exact h (numbered s.toks _) _ ((numbered_texts _ _).trans ((if_neg c1).trans (if_neg c2)).symm)
end
theorem m5:∀l:List (Str×Tok),aW ((l.map (·.1)).map V.str) (strValues l)
 | []=>.nil
 |p :: l=>.cons ⟨p.2,rfl⟩ (m5 l)
section
variable {X:Cx}
def Fj:V->List V->Hp->VK->Prop:=fun x vs H Q=>∃z y,x=.str z/\vs=[.str y]/\(y.length == 0)=false/\z.length + 2<=sizeLine/\∀l,H l=none->Q (.ref l) (upd H l (.lst ((Txt.split z y).map V.str)))
theorem A6:MtM X "str.split" Fj:=by
 intro Ml s σ H x vs v us Q I rx rv h
 obtain⟨z,y,rfl,rfl,hy,hz,q⟩:=h
 obtain⟨t,rfl⟩:=rx
 obtain⟨u,rfl,ru⟩:=rv.one
 obtain⟨t',rfl⟩:=ru
 refine vo hy hz fun l k hl=>?_
 have Mp:(Txt.split z y).length<=sizeLine:=by
  have hy1:1<=y.length:=by
   have:¬(y.length=0):=by simpa using hy
   omega
  have:=split_weight z y hy1
  omega
 have I1:Inv X Ml σ (upd H s.heap.objs.size (.lst ((Txt.split z y).map V.str))) { s with heap:=s.heap.push { cls:=.type "list",data:=.seq (strValues l).toArray },toks:=k } :=
  I.laid (fun b o e=>Jp _ e) (Jw _) ⟨by rw[Jm];exact Mp,strValues l,0,by rw[<-hl];exact m5 l,Jx _ rfl⟩
 exact⟨.ref s.heap.objs.size,_,I1,rfl,q _ (I.hok.fresh (Jw _))⟩
end
end L2
namespace L2.Cu
open PySem PySem.Spec PyProof.Rows
def fo(x y:D):Option D:=match x,y with
 |.str z,.str y=>if(y.length == 0)=false/\z.length + 2<=sizeLine then some (.lst ((Txt.split z y).map D.str)) else none
 |_,_=>none
section
variable {X:Cx}{a:Expr}{f g:OF}{apos Mn:Pos}
theorem iL{o:Expr}(ho:Ev X .O o f)(ha:Ev X .V a g)(Mq:attributeBase o "split" X.env (eval o X.env)=eval o X.env:=by rfl)
  (MB:((backTo Mn (starEach [a] X.env)).all (fun x => !x.1) && (backToKw Mn (keywordEach [] X.env)).all (fun x=>x.1.isSome) && decide (([a]:OP).length + ([]:List Keyword).length + (if([]:List Keyword).isEmpty then 0 else 1) < 30))=true:=by rfl)
  (Mr:(apos.endLine == Mn.line)=true:=by rfl) (hns:aO a=true:=by rfl):Ev X .F (.Call (.Attribute o "split" apos) [a] [] Mn) (bin fo f g) :=
 PE.by (qr Ky PySem.F.slot_str_split PySem.F.type_str_split A6 ho.h (bR ha.h ek (aD a [] X.env hns)) Mq MB Mr (aD a [] X.env hns) rfl) fun σ H Q zz130_0=>by
  obtain⟨B,F,E,d,k,q,w⟩:=zz130_0
  unfold bin at q
  cases hf:f E with
  |none=>simp[hf]at q
  |some x =>
   cases hgE:g E with
   |none=>simp[hf,hgE]at q
   |some y =>
    simp only[hf,hgE,Jd]at q
    refine⟨B,F,E,x,k,hf,fun v F1 H1 x1 r1=>?_⟩
    match x,y,q,hgE with
    |.str z,.str y,q,hgE =>
     have q':(if(y.length == 0)=false/\z.length + 2<=sizeLine then some (D.lst ((Txt.split z y).map D.str)) else none)=some d:=q
     by_cases hc:(y.length == 0)=false/\z.length + 2<=sizeLine
     ·rw[if_pos hc]at q'
      cases q'
      cases OB.str r1
      refine⟨rfl,B,F1,E,_,k.ext x1,hgE,fun u F2 H2 x2 r2=>?_⟩
      cases r2
      refine⟨z,y,rfl,rfl,hc.1,hc.2,fun l hl=>?_⟩
      have x3:=Ext.lay (o:=HO.lst ((Txt.split z y).map V.str)) x2.sub hl
      exact w _ F2 _ ((x1.trans x2).trans x3) ⟨l,_,rfl,(x1.trans x2).nofree hl,ax,nofr x2.sub hl,Reps.ofStrs _⟩
     ·rw[if_neg hc]at q';cases q'
end
theorem uJ{c:Nat}:∀{a b:OJ}{r t:OJ},c ∉ a->c ∉ b->a ++ c :: r=b ++ c :: t->a=b/\r=t
 | [],[],r,t,_,_,h=>⟨rfl,(L9 h).2⟩
 | [],y :: b,r,t,_,hb,h=>by
  have:=(L9 h).1
  exact absurd (by rw[this];exact Jq) hb
 |x :: a,[],r,t,ha,_,h=>by
  have:=(L9 h).1
  exact absurd (by rw[<-this];exact Jq) ha
 |x :: a,y :: b,r,t,ha,hb,h=>by
  obtain⟨h1,h2⟩:=L9 h
  obtain⟨e1,e2⟩:=uJ (fun z=>ha (.tail _ z)) (fun z=>hb (.tail _ z)) h2
  exact⟨by rw[h1,e1],e2⟩
end L2.Cu
namespace L2
open PySem PySem.Spec PyProof.Rows PySem.Builtin PySem.Builtin.Str
section
variable {prog:Program}{w:World}{A:Around}{E:OA}{s:Shared}
theorem oo{x y:Str}{t u:Tok}{Q:OA}(hy:(y.length == 0)=false)(hsz:x.length<=sizeLine)
  (h:∀(ta tb tc:Tok) (k:Nat),Q (.ref s.heap.objs.size) { s with heap:=s.heap.push { cls:=.type "tuple",data:=.seq [Value.str (Txt.partition x y).1 ta,.str (Txt.partition x y).2.1 tb,.str (Txt.partition x y).2.2 tc].toArray },toks:=k }) :
  wpAny (model prog w) A (call (.builtin "str.partition") [.str x t,.str y u]) Q E s:=by
 refine Ma F.slot_str_partition (Lo _ _ _) F.entry_str_partition (F.args_str_partition_2 _ _) (meets_str_partition x y t u hy hsz) ?_
 have h':=h
 unfold Txt.partition at h'
 revert h'
 cases occurrences x y 0 x.length 1 with
 |nil=>intro h';exact h' _ _ _ _
 |cons i r=>intro h';exact h' _ _ _ _
end
section
variable {X:Cx}
def Hg:V->List V->Hp->VK->Prop:=fun x vs H Q=>∃z y,x=.str z/\vs=[.str y]/\(y.length == 0)=false/\z.length<=sizeLine/\∀l,H l=none->Q (.ref l) (upd H l (.tup [.str (Txt.partition z y).1,.str (Txt.partition z y).2.1,.str (Txt.partition z y).2.2]))
theorem rZ:MtM X "str.partition" Hg:=by
 intro Ml s σ H x vs v us Q I rx rv h
 obtain⟨z,y,rfl,rfl,hy,hz,q⟩:=h
 obtain⟨t,rfl⟩:=rx
 obtain⟨u,rfl,ru⟩:=rv.one
 obtain⟨t',rfl⟩:=ru
 refine oo hy hz fun ta tb tc k=>?_
 refine⟨.ref s.heap.objs.size,_,I.laid (t':=k) (o:=.tup [.str (Txt.partition z y).1,.str (Txt.partition z y).2.1,.str (Txt.partition z y).2.2]) (fun b o e=>Jp _ e) (Jw _) ⟨by rw[KY];show 3<=16777216;decide,[.str (Txt.partition z y).1 ta,.str (Txt.partition z y).2.1 tb,.str (Txt.partition z y).2.2 tc],.cons ⟨_,rfl⟩ (.cons ⟨_,rfl⟩ (.cons ⟨_,rfl⟩ .nil)),IsTup.new _ _⟩,rfl,q _ (I.hok.fresh (Jw _))⟩
end
end L2
namespace L2.Cu
open PySem PySem.Spec PyProof.Rows
def pmD(p:Str->Str->D)(x y:D):Option D:=match x,y with
 |.str z,.str y=>some (p z y)
 |_,_=>none
def kD(x y:D):Option D:=match x,y with
 |.str z,.str y=>if(y.length == 0)=false/\z.length<=sizeLine then some (.tup [.str (Txt.partition z y).1,.str (Txt.partition z y).2.1,.str (Txt.partition z y).2.2]) else none
 |_,_=>none
section
variable {X:Cx}{a:Expr}{f g:OF}{apos Mn:Pos}
theorem l9{o:Expr}(ho:Ev X .O o f)(ha:Ev X .V a g)(Mq:attributeBase o "partition" X.env (eval o X.env)=eval o X.env:=by rfl)
  (MB:((backTo Mn (starEach [a] X.env)).all (fun x => !x.1) && (backToKw Mn (keywordEach [] X.env)).all (fun x=>x.1.isSome) && decide (([a]:OP).length + ([]:List Keyword).length + (if([]:List Keyword).isEmpty then 0 else 1) < 30))=true:=by rfl)
  (Mr:(apos.endLine == Mn.line)=true:=by rfl) (hns:aO a=true:=by rfl):Ev X .V (.Call (.Attribute o "partition" apos) [a] [] Mn) (bin kD f g) :=
 PE.by (qr Ky PySem.F.slot_str_partition PySem.F.type_str_partition rZ ho.h (bR ha.h ek (aD a [] X.env hns)) Mq MB Mr (aD a [] X.env hns) rfl) fun σ H Q zz131_0=>by
  obtain⟨B,F,E,d,k,q,w⟩:=zz131_0
  unfold bin at q
  cases hf:f E with
  |none=>simp[hf]at q
  |some x =>
   cases hgE:g E with
   |none=>simp[hf,hgE]at q
   |some y =>
    simp only[hf,hgE,Jd]at q
    refine⟨B,F,E,x,k,hf,fun v F1 H1 x1 r1=>?_⟩
    match x,y,q,hgE with
    |.str z,.str y,q,hgE =>
     have q':(if(y.length == 0)=false/\z.length<=sizeLine then some (D.tup [.str (Txt.partition z y).1,.str (Txt.partition z y).2.1,.str (Txt.partition z y).2.2]) else none)=some d:=q
     by_cases hc:(y.length == 0)=false/\z.length<=sizeLine
     ·rw[if_pos hc]at q'
      cases q'
      cases OB.str r1
      refine⟨rfl,B,F1,E,_,k.ext x1,hgE,fun u F2 H2 x2 r2=>?_⟩
      cases r2
      refine⟨z,y,rfl,rfl,hc.1,hc.2,fun l hl=>?_⟩
      have x3:=Ext.freeze (o:=HO.tup [.str (Txt.partition z y).1,.str (Txt.partition z y).2.1,.str (Txt.partition z y).2.2]) x2.sub hl
      exact w _ _ _ ((x1.trans x2).trans x3) (.tup ax (.cons (.str _) (.cons (.str _) (.cons (.str _) .nil))))
     ·rw[if_neg hc]at q';cases q'
end
end L2.Cu
namespace L2
open PySem PySem.Spec PyProof.Rows
section
variable {X:Cx}{body orelse:OV}{h0:ExceptHandler}{hs:List ExceptHandler}{t u:TS}{pos:Pos}
theorem C0(h1:PSs X.nox body t)(h2:PSs X orelse u):PS X (.Try body (h0 :: hs) orelse [] pos) (GQ t u):=by
 intro Ml s σ H D I h
 refine wpAny_Try_except (JM (h1 Ml s σ H { D with nx:=u D } (I.wish _) h) (fun f s1 q=>?_) fun _ _ z=>False.elim z)
 have q:=SP.unwish q
 cases f with
 |next =>
  obtain⟨σ',H',I',q⟩:=q
  exact h2 Ml s1 σ' H' D I' q
 |ret v=>exact q
 |brk=>exact q
 |cont=>exact q
end
end L2
namespace L2.Cu
open PySem PySem.Spec PyProof.Rows
theorem DU{X:Cx}{body orelse:OV}{h0:ExceptHandler}{hs:List ExceptHandler}{pos:Pos}{f g:OO}(h:Ess X.nox body f)(h2:Ess X orelse g):Es X (.Try body (h0 :: hs) orelse [] pos) (aw f g):=PS.by (C0 h.h h2.h) fun Z σ H zz132_0=>by
 obtain⟨B,F,E,r,k,q,w⟩:=zz132_0
 unfold aw at q
 cases hf:f E with
 |none=>simp[hf]at q
 |some r1 =>
  rw[hf]at q
  cases r1 with
  |nx E'=>exact⟨B,F,E,.nx E',k,hf,fun σ' F' H' k' y=>⟨B,F',E',r,k',q,w.mono y⟩⟩
  |rt d=>cases q;exact⟨B,F,E,.rt d,k,hf,w⟩
  |bk E'=>cases q;exact⟨B,F,E,.bk E',k,hf,w⟩
  |ct E'=>cases q;exact⟨B,F,E,.ct E',k,hf,w⟩
end L2.Cu
namespace L2
open PySem PySem.Spec PyProof.Rows PySem.Builtin PySem.Builtin.Str
section
variable {prog:Program}{w:World}{A:Around}{E:OA}{s:Shared}
theorem vw{x y:Str}{t u:Tok}{Q:OA}(hy:(y.length == 0)=false)(hsz:x.length<=sizeLine)
  (h:∀(ta tb tc:Tok) (k:Nat),Q (.ref s.heap.objs.size) { s with heap:=s.heap.push { cls:=.type "tuple",data:=.seq [Value.str (Txt.rpartition x y).1 ta,.str (Txt.rpartition x y).2.1 tb,.str (Txt.rpartition x y).2.2 tc].toArray },toks:=k }) :
  wpAny (model prog w) A (call (.builtin "str.rpartition") [.str x t,.str y u]) Q E s:=by
 refine Ma F.slot_str_rpartition (Lo _ _ _) F.entry_str_rpartition (F.args_str_rpartition_2 _ _) (meets_str_rpartition x y t u hy hsz) ?_
 have h':=h
 unfold Txt.rpartition at h'
 revert h'
 cases lastOccurrence x y 0 x.length with
 |none=>intro h';exact h' _ _ _ _
 |some i=>intro h';exact h' _ _ _ _
end
section
variable {X:Cx}
def Fk:V->List V->Hp->VK->Prop:=fun x vs H Q=>∃z y,x=.str z/\vs=[.str y]/\(y.length == 0)=false/\z.length<=sizeLine/\∀l,H l=none->Q (.ref l) (upd H l (.tup [.str (Txt.rpartition z y).1,.str (Txt.rpartition z y).2.1,.str (Txt.rpartition z y).2.2]))
theorem p0:MtM X "str.rpartition" Fk:=by
 intro Ml s σ H x vs v us Q I rx rv h
 obtain⟨z,y,rfl,rfl,hy,hz,q⟩:=h
 obtain⟨t,rfl⟩:=rx
 obtain⟨u,rfl,ru⟩:=rv.one
 obtain⟨t',rfl⟩:=ru
 refine vw hy hz fun ta tb tc k=>?_
 refine⟨.ref s.heap.objs.size,_,I.laid (t':=k) (o:=.tup [.str (Txt.rpartition z y).1,.str (Txt.rpartition z y).2.1,.str (Txt.rpartition z y).2.2]) (fun b o e=>Jp _ e) (Jw _) ⟨by rw[KY];show 3<=16777216;decide,[.str (Txt.rpartition z y).1 ta,.str (Txt.rpartition z y).2.1 tb,.str (Txt.rpartition z y).2.2 tc],.cons ⟨_,rfl⟩ (.cons ⟨_,rfl⟩ (.cons ⟨_,rfl⟩ .nil)),IsTup.new _ _⟩,rfl,q _ (I.hok.fresh (Jw _))⟩
def Iq:V->List V->Hp->VK->Prop:=fun x vs H Q=>∃z y i r,x=.str z/\vs=[.str y]/\occurrences z y 0 z.length 1=i :: r/\Q (.int (i:Nat)) H
theorem FT:MtM X "str.index" Iq:=by
 intro Ml s σ H x vs v us Q I rx rv h
 obtain⟨z,y,i,r,rfl,rfl,ho,q⟩:=h
 obtain⟨t,rfl⟩:=rx
 obtain⟨u,rfl,ru⟩:=rv.one
 obtain⟨t',rfl⟩:=ru
 exact SC.index ho ⟨.int _,H,I.tok _,⟨_,rfl⟩,q⟩
def rUp:V->List V->Hp->VK->Prop:=fun x vs H Q=>∃z,x=.str z/\vs=[]/\z.length<=5000/\Q (.str (Txt.upper z)) H
theorem A5:MtM X "str.upper" rUp:=by
 intro Ml s σ H x vs v us Q I rx rv h
 obtain⟨z,rfl,rfl,hz,q⟩:=h
 obtain⟨t,rfl⟩:=rx
 cases rv
 exact SC.upper (fit_upper ⋯) ⟨.str _,H,I.tok _,⟨_,rfl⟩,q⟩
end
end L2
namespace L2.Cu
open PySem PySem.Spec PyProof.Rows
def rE(x y:D):Option D:=match x,y with
 |.str z,.str y=>if(y.length == 0)=false/\z.length<=sizeLine then some (.tup [.str (Txt.rpartition z y).1,.str (Txt.rpartition z y).2.1,.str (Txt.rpartition z y).2.2]) else none
 |_,_=>none
def v9(x y:D):Option D:=match x,y with
 |.str z,.str y=>match Builtin.Str.occurrences z y 0 z.length 1 with
  |i :: _=>some (.int (i:Nat))
  | []=>none
 |_,_=>none
def upD:D->Option D
 |.str z=>if z.length<=5000 then some (.str (Txt.upper z)) else none
 |_=>none
section
variable {X:Cx}{a:Expr}{f g:OF}{apos Mn:Pos}
variable{o:Expr}
theorem BO(ho:Ev X .O o f)(ha:Ev X .V a g)(Mq:attributeBase o "rpartition" X.env (eval o X.env)=eval o X.env:=by rfl)
  (MB:((backTo Mn (starEach [a] X.env)).all (fun x => !x.1) && (backToKw Mn (keywordEach [] X.env)).all (fun x=>x.1.isSome) && decide (([a]:OP).length + ([]:List Keyword).length + (if([]:List Keyword).isEmpty then 0 else 1) < 30))=true:=by rfl)
  (Mr:(apos.endLine == Mn.line)=true:=by rfl) (hns:aO a=true:=by rfl):Ev X .V (.Call (.Attribute o "rpartition" apos) [a] [] Mn) (bin rE f g) :=
 PE.by (qr Ky PySem.F.slot_str_rpartition PySem.F.type_str_rpartition p0 ho.h (bR ha.h ek (aD a [] X.env hns)) Mq MB Mr (aD a [] X.env hns) rfl) fun σ H Q zz133_0=>by
  obtain⟨B,F,E,d,k,q,w⟩:=zz133_0
  unfold bin at q
  cases hf:f E with
  |none=>simp[hf]at q
  |some x =>
   cases hgE:g E with
   |none=>simp[hf,hgE]at q
   |some y =>
    simp only[hf,hgE,Jd]at q
    refine⟨B,F,E,x,k,hf,fun v F1 H1 x1 r1=>?_⟩
    match x,y,q,hgE with
    |.str z,.str y,q,hgE =>
     have q':(if(y.length == 0)=false/\z.length<=sizeLine then some (D.tup [.str (Txt.rpartition z y).1,.str (Txt.rpartition z y).2.1,.str (Txt.rpartition z y).2.2]) else none)=some d:=q
     by_cases hc:(y.length == 0)=false/\z.length<=sizeLine
     ·rw[if_pos hc]at q'
      cases q'
      cases OB.str r1
      refine⟨rfl,B,F1,E,_,k.ext x1,hgE,fun u F2 H2 x2 r2=>?_⟩
      cases r2
      refine⟨z,y,rfl,rfl,hc.1,hc.2,fun l hl=>?_⟩
      have x3:=Ext.freeze (o:=HO.tup [.str (Txt.rpartition z y).1,.str (Txt.rpartition z y).2.1,.str (Txt.rpartition z y).2.2]) x2.sub hl
      exact w _ _ _ ((x1.trans x2).trans x3) (.tup ax (.cons (.str _) (.cons (.str _) (.cons (.str _) .nil))))
     ·rw[if_neg hc]at q';cases q'
theorem xz(ho:Ev X .O o f)(ha:Ev X .V a g)(Mq:attributeBase o "index" X.env (eval o X.env)=eval o X.env:=by rfl)
  (MB:((backTo Mn (starEach [a] X.env)).all (fun x => !x.1) && (backToKw Mn (keywordEach [] X.env)).all (fun x=>x.1.isSome) && decide (([a]:OP).length + ([]:List Keyword).length + (if([]:List Keyword).isEmpty then 0 else 1) < 30))=true:=by rfl)
  (Mr:(apos.endLine == Mn.line)=true:=by rfl) (hns:aO a=true:=by rfl):Ev X .V (.Call (.Attribute o "index" apos) [a] [] Mn) (bin v9 f g) :=
 PE.by (qr Ky PySem.F.slot_str_index PySem.F.type_str_index FT ho.h (bR ha.h ek (aD a [] X.env hns)) Mq MB Mr (aD a [] X.env hns) rfl) fun σ H Q zz134_0=>by
  obtain⟨B,F,E,d,k,q,w⟩:=zz134_0
  unfold bin at q
  obtain⟨x,hf,q⟩:=Option.bind_eq_some_iff.mp q
  obtain⟨y,hgE,q⟩:=Option.bind_eq_some_iff.mp q
  refine⟨B,F,E,x,k,hf,fun v F1 H1 x1 r1=>?_⟩
  match x,y,q,hgE with
  |.str z,.str y,q,hgE =>
   cases ho:Builtin.Str.occurrences z y 0 z.length 1 with
   |nil =>
    unfold v9 at q
    simp only[ho]at q
    cases q
   |cons i r =>
    unfold v9 at q
    simp only[ho]at q
    cases q
    cases OB.str r1
    refine⟨rfl,B,F1,E,_,k.ext x1,hgE,fun u F2 H2 x2 r2=>?_⟩
    cases r2
    exact⟨z,y,i,r,rfl,rfl,ho,w _ F2 H2 (x1.trans x2) (.int _)⟩
theorem BM(ho:Ev X .O o f)(Mq:attributeBase o "upper" X.env (eval o X.env)=eval o X.env:=by rfl)(Mr:(apos.endLine == Mn.line)=true:=by rfl):Ev X .V (.Call (.Attribute o "upper" apos) [] [] Mn) (un upD f) :=
 PE.by (FE Ky PySem.F.slot_str_upper PySem.F.type_str_upper A5 ho.h Mq Mr) fun σ H Q zz135_0=>by
  obtain⟨B,F,E,d,k,q,w⟩:=zz135_0
  unfold un at q
  obtain⟨x,hf,q⟩:=Option.bind_eq_some_iff.mp q
  refine⟨B,F,E,x,k,hf,fun v F1 H1 x1 r1=>?_⟩
  match x,q with
  |.str z,q =>
   have q':(if z.length<=5000 then some (D.str (Txt.upper z)) else none)=some d:=q
   by_cases hc:z.length<=5000
   ·rw[if_pos hc]at q'
    cases q'
    cases OB.str r1
    exact⟨rfl,z,rfl,rfl,hc,w _ F1 H1 x1 (.str _)⟩
   ·rw[if_neg hc]at q';cases q'
end
def sgV(x:Str):List V:=x.cps.toList.map fun c=>V.str ⟨#[c]⟩
theorem xS(x:Str){acc:OM}(h:ItemsOf (SignAt x) acc x.cps.size):aW (sgV x) acc.toList:=by
 have key:∀(l:OJ) (us:OH),us.length=l.length->(∀(j c:Nat),l[j]? = some c->∃t,us[j]? = some (Value.str ⟨#[c]⟩ t))->aW (l.map fun c=>V.str ⟨#[c]⟩) us:=by
  intro l
  induction l with
  |nil=>intro us hl _;rw[List.length_eq_zero_iff.mp hl];exact .nil
  |cons c l ih =>
   intro us hl hj
   cases us with
   |nil=>cases hl
   |cons u us =>
    obtain⟨t,e⟩:=hj 0 c rfl
    have e:u=Value.str ⟨#[c]⟩ t:=Js e
    refine .cons ⟨t,e⟩ (ih us (Nat.succ.inj hl) fun j d hd=>hj (j + 1) d (by simpa using hd))
 refine key _ _ (by rw[Kq,Kq,h.1]) fun j c hc=>?_
 have hlt:j < x.cps.size:=by
  have:=(List.getElem?_eq_some_iff.mp hc).1
  simpa using this
 have hja:j < acc.size:=by rw[h.1];exact hlt
 have hs:=h.2 j acc[j] (K0 hja)
 obtain⟨c',u,h1,h2⟩:=hs
 have hc':x.cps[j]? = some c:=by simpa using hc
 rw[hc']at h1
 cases h1
 refine⟨u,?_⟩
 rw[LU,K0 hja,h2]
def EQ(te:TE):TE:=fun σ H Q=>te σ H fun x H1=>∃z,x=.str z/\z.cps.size<=sizeLine/\∀l,H1 l=none->Q (.ref l) (upd H1 l (.lst (sgV z)))
def vW:D->Option D
 |.str x=>if x.length<=5000 then some (.lst (gG x)) else none
 |_=>none
theorem Reps.signs{F:Hp}:∀(l:OJ),Reps F (l.map fun c=>V.str ⟨#[c]⟩) (l.map fun c=>D.str ⟨#[c]⟩)
 | []=>.nil
 |_ :: l=>.cons (.str _) (Reps.signs l)
section
variable {X:Cx}{e:Expr}{p pos:Pos}{te:TE}{f:OF}
theorem AE(hc:X.calm=true)(hg:Gl X "list")(hm:X.mg "list" = none)(hv:bootBuiltins "list" = some (.type "list"))(he:PE X e te)
  (hs:starEach [e] X.env=[(false,eval e X.env)]:=by rfl):PE X (.Call (.Name "list" p) [e] [] pos) (EQ te):=by
 intro Ml s σ H Q I h
 refine KD (kS I hg hm hv ?_ nofun nofun)
 refine Kv ?_ hs rfl
 rw[hs]
 show wpAny _ _ (spliced [(false,eval e X.env)]) _ _ s
 refine Calls.spliced_cons (thn (he Ml s σ H _ I h) fun u s1 ⟨x,H1,I1,r1,z,ex,hz,q⟩=>Calls.spliced_nil ?_)
 subst ex
 obtain⟨t,rfl⟩:=r1
 refine call_list_str (hn:=hz) (I1.ok.hd hc) z t fun h' tk acc c kp hS hI=>?_
 have rr:=xS z hI
 refine⟨.ref _,_,I1.laid (t':=tk) kp (Jw _) (show cP X.prog X.w _ h' _ (.lst _) from⟨?_,acc.toList,c,rr,by rw[Array.toArray_toList];exact hS⟩),rfl,q _ I1.fresh⟩
 unfold sgV
 rw[Jm,Kq];exact hz
theorem BP(hc:X.calm=true)(hg:Gl X "list")(hm:X.mg "list" = none)(hv:bootBuiltins "list" = some (.type "list"))(ha:Ev X .V e f)(he:aO e=true:=by rfl) :
  Ev X .F (.Call (.Name "list" p) [e] [] pos) (un vW f) :=
 PE.by (AE hc hg hm hv ha.h (aD e [] X.env he)) fun σ H Q zz137_0=>by
  obtain⟨B,F,E,d,k,q,w⟩:=zz137_0
  unfold un at q
  obtain⟨x,hf,q⟩:=Option.bind_eq_some_iff.mp q
  match x,hf,q with
  |.str z,hf,q =>
   have q':(if z.length<=5000 then some (D.lst (gG z)) else none)=some d:=q
   by_cases hz:z.length<=5000
   ·rw[if_pos hz]at q'
    cases q'
    refine⟨B,F,E,.str z,k,hf,fun v F1 H1 x1 r1=>?_⟩
    cases(show Rep F1 v (.str z) from r1)
    exact⟨z,rfl,Jy hz (by rw[KY];omega),fun l hl=>w _ F1 _ (x1.trans (Ext.lay x1.sub hl)) ⟨l,_,rfl,x1.nofree hl,ax,nofr x1.sub hl,Reps.signs _⟩⟩
   ·rw[if_neg hz]at q';cases q'
end
open PySem PySem.W PySem.Calls PyProof.Rows PySem.Spec Att
theorem Gz(P:Params):((boot_heap P).isNs mainGlobals,(boot_heap P).objs.size,(boot_heap P).nsMap mainGlobals "__annotations__")=(true,11,some (.ref 6)):=by kernel_rfl
theorem Dw{p q:Program}{loose:OD}{Xt:Shared->Bool}{α:Type}{Yf:Shared->α}{a:α}{N:Nat}(e:opening p=plainProg p.main.scope.names)(hN:Nat.ble 600 N=true)(f:∀s,fenceModules? p s=some s)
  (h:wC p q loose Xt Yf a N):LeftO p q loose Xt Yf (fun _=>a) N:=fun w=>by
 obtain⟨⟨hp,gs,d,k,os⟩,e1,e2⟩:=Option.map_eq_some_iff.mp (boot_open e hN f w)
 obtain⟨rfl,rfl,rfl,rfl⟩:hp=boot_heap w.params/\gs=Array.mk []/\d=boot_drawn/\k=boot_toks:=by simpa using e2
 obtain⟨s,r1,r2⟩:=Option.map_eq_some_iff.mp (h w os)
 rw[<-PySem.W.Fast.te14082659384304107361,<-PySem.W.Fast.te14364793385576792824]at r1
 rw[<-PySem.W.Fast.te4187177175401517315]at r2
 obtain⟨b1,b2⟩:=Kw (Gz w.params)
 obtain⟨b2,b3⟩:=Kw b2
 obtain⟨c1,c2⟩:=Kw r2
 have t:topFrom treeTable p w N ⟨boot_heap w.params,Array.mk [],boot_drawn,boot_toks,os⟩=some s:=by
  unfold topFrom
  dsimp only
  rw[b1,b2,b3,r1]
  show(match staticsOk (importedModules p.main.body) (boot_heap w.params) s.heap && namesBound p s.heap && gensDone s && laidKept (boot_heap w.params) s.heap with |true=>some s |false=>none)=_
  rw[c1]
 unfold openEnds
 rw[e1]
 show(topFrom treeTable p w N _).map _=_
 rw[t]
 exact JR some c2
variable{K:Frag}
theorem Ba{a:Addr}{o:Obj}:K.lookup a=some o->(a,o) ∈ K:=by
 induction K with
 |nil=>intro e;cases e
 |cons p r ih =>
  intro e
  obtain⟨b,x⟩:=p
  rw[JP]at e
  cases hb:a == b with
  |true=>rw[hb]at e;cases e;rw[beq_iff_eq.mp hb];exact .head _
  |false=>rw[hb]at e;exact .tail _ (ih e)
theorem A9{h:Heap}{a:Addr}{o:Obj}(m:(a,o) ∈ KH h):h.get? a=some o/\o.cls ≠ Value.type "list" := by
 obtain⟨b,_,e⟩:=List.mem_filterMap.mp m
 cases hb:h.get? b with
 |none=>rw[hb]at e;cases e
 |some x =>
  rw[hb]at e
  dsimp only at e
  by_cases hc:(x.cls == Value.type "list")=true
  ·rw[if_pos hc]at e;cases e
  ·rw[if_neg hc]at e;cases e;exact⟨hb,fun q=>hc (beq_iff_eq.mpr q)⟩
theorem HZ(h:Heap):(KH h).In h:=fun _ _ e=>(A9 (Ba e)).1
theorem zy(h:Heap):rX (KH h)=true:=List.all_eq_true.mpr fun p m=>by
 have:=(A9 (a:=p.1) (o:=p.2) m).2
 simpa using this
variable{x:Str}
theorem EC{qual:Str}{st:Stmt}{f:Addr}(e:DL K qual f=BH x qual st):∃fd,Fun K x qual st f fd:=by
 unfold DL at e
 split at e
 ·rename_i oc od fd sl hl
  obtain⟨e1,e2⟩:=Kw (Js e)
  obtain⟨e2,e3⟩:=Kw e2
  refine⟨fd,⟨oc,od,fd.kwdefaults,fd.doc,fd.pyModule,fd.annotations,fd.code,fd.closureTuple,sl,?_,hl,e2⟩,e3⟩
  cases fd
  simp only[EJ,FuncData.mk.injEq,true_and]at e1 ⊢
  exact e1
 ·cases e
structure TT (p:Program) (ds:OJ) (zs:OD) (cs:PM) {β:Type} (mo:Frag->β) (mb:β) (K:Frag) (mg:OI) where
 f:Nat->Addr
 fd:Nat->FuncData
 F:∀i,i ∈ ds->Fun K (dP (ff p i)) (dP (ff p i)) (ff p i) (f i) (fd i)
 m:∀i,i ∈ ds->mg (dP (ff p i))=some (.ref (f i))
 z:∀x,x ∈ zs->mg x=none
 t:Str->Tok
 c:∀y,y ∈ cs->mg y.1=some (.int y.2 (t y.1))
 o:mo K=mb
 g:∀(x:Str) (v:Value),nsIn K mainGlobals x=some (some v)->mg x=some v
theorem GM{p:Program}{ds:OJ}{zs:OD}{cs:PM}{β:Type}{mo:Frag->β}{mb:β}{h:Heap}{mg:OI}(X:K.In h)(G:h.Ns mainGlobals mg)(e:l7 p ds zs cs mo K=uW p ds zs cs mb):Nonempty (TT p ds zs cs mo mb K mg):=by
 obtain⟨e1,e⟩:=Kw e
 obtain⟨e2,e⟩:=Kw e
 obtain⟨e3,e4⟩:=Kw e
 have A:∀i,∃f fd,i ∈ ds->Fun K (dP (ff p i)) (dP (ff p i)) (ff p i) f fd/\mg (dP (ff p i))=some (.ref f):=fun i=>by
  by_cases hi:i ∈ ds
  ·have q:=List.map_inj_left.mp e1 i hi
   unfold BG at q
   split at q
   ·rename_i f hf
    obtain⟨fd,r⟩:=EC q
    exact⟨f,fd,fun _=>⟨r,mg_of X G hf⟩⟩
   ·cases q
  ·exact⟨0,default,fun q=>absurd q hi⟩
 have B:∀x,∃t,∀n,(x,n) ∈ cs->mg x=some (.int n t):=fun x=>by
  by_cases hx:∃n,(x,n) ∈ cs
  ·obtain⟨n,hn⟩:=hx
   have q:=List.map_inj_left.mp e3 _ hn
   dsimp only at q
   have u:∃n' t,nsIn K mainGlobals x=some (some (.int n' t)):=by
    unfold GO at q
    split at q
    ·rename_i n' t hh;exact⟨n',t,hh⟩
    ·rename_i hh;exact absurd q (hh n 0)
   obtain⟨n',t,hh⟩:=u
   refine⟨t,fun n₂ h₂=>?_⟩
   have q₂:=List.map_inj_left.mp e3 _ h₂
   dsimp only at q₂
   rw[hh]at q₂
   have z:=Js (Js q₂)
   injection z with z
   subst z
   exact mg_of X G hh
  ·exact⟨0,fun n hn=>absurd ⟨n,hn⟩ hx⟩
 exact⟨⟨fun i=>(A i).choose,fun i=>(A i).choose_spec.choose,fun i hi=>((A i).choose_spec.choose_spec hi).1,fun i hi=>((A i).choose_spec.choose_spec hi).2,
  fun x hx=>mg_none_of X G (List.map_inj_left.mp e2 x hx),fun x=>(B x).choose,fun y hy=>(B y.1).choose_spec y.2 hy,e4,fun x v q=>mg_of X G q⟩⟩
theorem GL{l:OpenLaw}{n k:Nat}{q:Program}{loose:OD}{XP:(Str->Option Value)->Heap->Prop}{YP:World->Heap->Prop}{d:DefRec}{x:Str}{g:OR}
  (hn:l.most=some n) (hn2:n<=sizeLine) (hdf:d.params.defaults=[]) (hr:dj k callerA)
  (F:∀(w:World) (mg:OI) (fa:Addr) (h:Heap),YP w h->h.Ns mainGlobals mg->mg d.name=some (.ref fa)->∃K:Frag,K.In h/\rX K=true /\
   ∃fd:FuncData,(∀(s:Shared) (u:Value),BindsTo s fd ⟨[u],[]⟩ [(x,u)])/\∀base:Heap,K.In base->base.Ns mainGlobals mg->aX l.prog w K mg base CX0 k fa fd [x] (spD 1 g))
  (law:∀ns:List Int,ns.length<=n->(∀i ∈ ns,Builtin.Int.intBits i<=2 ^ 20)->g [.scr ns]=some (.bl true)):WalkO q loose XP YP l.row.toRowW d [] (fun f vs=>PySem.call f vs):=by
 intro w s₀ s₁ mg mb G Y fa o pm cd doc dV kV ho hd hcd hD hmg hg args vals as MM N9 hrd hwl hlo
 obtain rfl:dV=.none:=Dflts.none hD hdf
 obtain rfl:kV=.none:=Dflts.noKw hD
 obtain⟨a,vs,ns,rfl,rfl,MD,Nt,Mp⟩:=yb hn MM hwl
 obtain⟨K,KX,hK,fd,hb,hF⟩:=F w mg fa _ Y G.T.g hmg
 have run:=Bk (CX:=CX0) (sp:=spD 1 g) KX G.T.g G.T.b G.T.builtins G.T.nolimit hg MD Nt (Jy Mp hn2) hr hF hb
  (fun H hO hS=>FW (fun o ho=>ul hK ho) hS hO (law ns Mp (D4 N9))) fun _ _ _ z=>z
 refine enter_call (La run fun r s' hq=>?_)
 obtain⟨rfl,h2,h3,h4⟩:=hq
 exact⟨.inl ⟨.bool true,.bool true,[],rfl,fun _=>rfl,.bool true,yq l _,fun _=>⟨List.Pairwise.nil,fun _ hm=>(nomatch hm)⟩⟩,h2,h3,h4⟩
theorem Ht{l:OpenLaw}{n k i N:Nat}{x:Str}{g:OR}{ds:OJ}{zs:OD}{cs:PM}{β:Type}{mo:Frag->β}{mb:β}{d:DefRec}
  (run:wC l.prog (view l.prog [i]) (kR l.prog) (fun s=>xlAt (view l.prog [i]) [] s && recOk [] s) (fun s=>l7 l.prog ds zs cs mo (KH s.heap)) (uW l.prog ds zs cs mb) N)
  (said:PySem.W.Fast.tw9446332074065402090 l=true) (e:opening l.prog=plainProg l.prog.main.scope.names) (hN:Nat.ble 600 N=true) (f:∀s,fenceModules? l.prog s=some s)
  (N5:defOf (view l.prog [i]) l.name=some (d,[])) (hp:l.prog.theDef l.name=some (d.params,d.body,d.scope)) (hk:kwWritten? d.params.kwonlyargs d.params.kw_defaults=some [])
  (ok:(chainsOk (view l.prog [i]) && opensWell l.prog && (frees l.row.toRowW && l.row.within.isEmpty))=true) (hb:l.prog.bare) (hw:l.row.toRowW.promised)
  (hn:l.most=some n) (hn2:n<=sizeLine) (hdf:d.params.defaults=[]) (hr:dj k callerA) (hnm:d.name=dP (ff l.prog i)) (hi:i ∈ ds)
  (F:∀{w:World}{K:Frag}{mg:OI} (T:TT l.prog ds zs cs mo mb K mg) (base:Heap),K.In base->base.Ns mainGlobals mg->aX l.prog w K mg base CX0 k (T.f i) (T.fd i) [x] (spD 1 g))
  (B:∀(kV doc pm:Value) (an:Oy) (cdv ct:Value) (u:Value),bindArgs (fnOf (dP (ff l.prog i)) (dP (ff l.prog i)) (md (ff l.prog i)) (ei (ff l.prog i)) (ak (ff l.prog i)) .none kV doc pm an cdv ct) ⟨[u],[]⟩=pure [(x,u)])
  (law:∀ns:List Int,ns.length<=n->(∀i ∈ ns,Builtin.Int.intBits i<=2 ^ 20)->g [.scr ns]=some (.bl true)):l.Holds:=by
 have sd:l.wellSaid=true:=by rw[PySem.W.Fast.te9446332074065402090];exact said
 refine holds_law sd fun k1=>holds_open (q:=view l.prog [i]) (loose:=kR l.prog) (Xt:=fun s=>xlAt (view l.prog [i]) [] s && recOk [] s) (XP:=XL (view l.prog [i]) []) (Yf:=fun s=>l7 l.prog ds zs cs mo (KH s.heap)) (Ya:=fun _=>uW l.prog ds zs cs mb)
  (YP:=fun _ h=>∃K:Frag,K.In h/\rX K=true/\l7 l.prog ds zs cs mo K=uW l.prog ds zs cs mb) (N:=N) (d:=d) (kwd:=[])
  (Dw e hN f run) (fun w s y=>⟨KH s.heap,HZ _,zy _,y⟩) (fun w h h' y kp=>?_) (fun s q=>xl_of s (Bool.and_eq_true_iff.mp q).1) XL.keeps N5 hp hk (fun s q=>recFacts_of (Bool.and_eq_true_iff.mp q).2) (Bool.or_true _) k1 ok hb hw ?_
 ·obtain⟨K,a,b,c⟩:=y
  exact⟨K,a.keeps kp,b,c⟩
 ·refine GL (x:=x) hn hn2 hdf hr (fun w mg fa h Y G hm=>?_) law
  obtain⟨K,a,b,c⟩:=Y
  obtain⟨T⟩:=GM (mg:=mg) a G c
  refine⟨K,a,b,T.fd i,?_,?_⟩
  ·obtain⟨oc,od,kV,doc,pm,an,cdv,ct,osl,q,_⟩:=(T.F i hi).ex
   rw[q]
   exact fun s u=>.of_eq (B kV doc pm an cdv ct u)
  ·have:=hm.symm.trans (hnm ▸ T.m i hi)
   cases this
   exact fun base kb nb=>F T base kb nb
end L2.Cu
namespace L2
open PySem
abbrev dG(C t:Addr):Obj:={ cls:=.ref C,data:=.fields #[.ref t,.none,.none,.none,.bool false,.none] }
section
variable {prog:Program}{w:World}{A:Around}{E:OA}{h:Heap}{g:Array GenState}{d:Drawn}{t:Nat}{os:OsState}
variable {nm q:Str}{C N:Addr}{bs bm bmB:OH}{hdct:Bool}{sn:OD}{sub:OH}{ab:Bool}{col:PP}{dd:Oy}{k0 k1 k2 k3 k5:PB}{B newId initId:String}
abbrev PN:=Fin->Shared->Prop
theorem p6(F:ExcBaseFacts B newId initId bmB)(T:OwnTail h bmB bm){mN:OI}{us:OH}{fI:Addr}{oI:Obj}{Q:PN}
  (hC:h.get? C=some (excClassObj nm q C N bs bm hdct sn sub ab col dd k0 k1 k2 k3 k5 newId)) (hN:h.Ns N mN) (Nh:mN "__init__" = some (.ref fI)) (Ng:h.get? fI=some oI) (MJ:oI.cls=.type "function")
  (Nc:wpAny (model prog w) A (call (.ref fI) (.ref (h.objs.size + 1) :: us)) (fun r s'=>r=.none/\Q (.done (.ret (.ref (h.objs.size + 1)))) s') E ⟨(h.push { cls:=.type "tuple",data:=.seq us.toArray }).push (dG C h.objs.size),g,d,t,os⟩)
  (hus:us.length<=sizeLine):wpAny (model prog w) A (Builtin.«type.__call__» ⟨.ref C :: us,[]⟩) Q E ⟨h,g,d,t,os⟩:=by
 let t1:Obj:={ cls:=.type "tuple",data:=.seq us.toArray }
 let e1:Obj:={ cls:=.ref C,data:=.fields #[.ref h.objs.size,.none,.none,.none,.bool false,.none] }
 have kp:∀b o,h.get? b=some o->((h.push t1).push e1).get? b=some o:=fun b o z=>Jp e1 (Jp t1 z)
 repeat (first |with_reducible refine JN hC ?_ |with_reducible refine wpAny_madeBy_exc hC ?_ |wp_step)
 refine codeAny_call_builtin_code (LG _ F.quiet) (wpAny_check_new_subT F T hC (codeAny_exc_new_subT F T hC ?_ hus))
 show wpAny _ _ _ _ _ _
 have hC1:=kp _ _ hC
 have NV:((h.push t1).push e1).get? (h.objs.size + 1)=some e1:=by heap_get
 have MV:(Value.ref C :: bm).contains (.ref C)=true:=by simp
 unfold isInstance
 repeat (first |with_reducible refine JN NV ?_ | (with_reducible refine Me hC1 ?_;rw[MV]) |wp_step)
 show wpAny _ _ (typeLookup (.ref C) _) _ _ _
 refine wpAny_typeLookup_tail hC1 (hN.keeps kp) (T.keeps kp) F.mroIs F.init.lookup ?_
 rw[Nh]
 refine KC (Jn ?_)
 unfold bindSpecial
 refine Jn (LD (T := "function") ⟨_,kp _ _ Ng,MJ⟩ ?_)
 rw[if_pos nofun]
 refine Jv (Jn (JM Nc (fun r s' z=>?_) fun _ _ z=>z))
 obtain⟨rfl,hQ⟩:=z
 wp_walk
 exact hQ
theorem uN(F:ExcBaseFacts B newId initId bmB)(T:OwnTail h bmB bm){mN:OI}{us:OH}{fI:Addr}{oI:Obj}{Q:OA}
  (hC:h.get? C=some (excClassObj nm q C N bs bm hdct sn sub ab col dd k0 k1 k2 k3 k5 newId)) (hN:h.Ns N mN) (Nh:mN "__init__" = some (.ref fI)) (Ng:h.get? fI=some oI) (MJ:oI.cls=.type "function")
  (Nc:wpAny (model prog w) (A.under (.builtin "type.__call__" ⟨.ref C :: us,[]⟩)) (call (.ref fI) (.ref (h.objs.size + 1) :: us)) (fun r s'=>r=.none/\Q (.ref (h.objs.size + 1)) s') E ⟨(h.push { cls:=.type "tuple",data:=.seq us.toArray }).push (dG C h.objs.size),g,d,t,os⟩)
  (hus:us.length<=sizeLine):wpAny (model prog w) A (call (.ref C) us) Q E ⟨h,g,d,t,os⟩:=by
 have c1:=tc_lookup
 have c2:=tc_bind (.ref C)
 have hT:(⟨h,g,d,t,os⟩:Shared).TypeIs (.ref C) "type" := ⟨_,hC,rfl⟩
 refine Mj (codeAny_of_tree ?_)
 show wpAny _ _ (callAny (.ref C) _) _ _ _
 repeat (any_goals (first |assumption |with_reducible refine JN hC ?_ |wp_step))
 refine⟨rfl,codeAny_call_builtin_at (LG _ (by decide +kernel)) entry_typeCall (wpAny_check_type_call_sub hC (p6 F T hC hN Nh Ng MJ ?_ hus))⟩
 exact Nc
end
open PySem PySem.W
open Builtin Builtin.ObjectAttr
section
variable {prog:Program}{w:World}{A:Around}{E:OA}{s:Shared}{K:Frag}{x C:Addr}{mA:OI}{cd:ClassData}{name:Str}{v:Value}
theorem oZ{R:PN}{tk:Tok}{b:Bool}{ns:OD}(X:K.In s.heap)(I:s.heap.Inst x C mA)(hc:clsIn K C=some cd)(hd:cd.hasDict=true)(hw:Within mA ns)(hz:ns.length<=1000)
  (h:∀h' tk',h'.Inst x C (fun y=>if y=name then some v else mA y) ->
   (∀b o,b ≠ x->(∀o₀ dx,s.heap.get? x=some o₀->o₀.dict=some dx->b ≠ dx)->s.heap.get? b=some o->h'.get? b=some o) ->
   (∀o₀,s.heap.get? x=some o₀->∃dx,h'.get? x=some { o₀ with dict:=some dx }/\(o₀.dict=some dx\/o₀.dict=none/\s.heap.objs.size<=dx))->R (.done (.ret .none)) { s with heap:=h',toks:=tk' }) :
  wpAny (model prog w) A (storeInOwnDict (.ref x) (.ref C) (.str name tk) name v b) R E s:=by
 obtain⟨o,hx,hcl,hnc,MK⟩:=I
 obtain⟨hh,g,dr,tt,os⟩:=s
 unfold storeInOwnDict ownDictForStores instanceDict
 refine Jn (Jv (Jn (Jn (wpAny_loadPart hx ?_))))
 rw[hcl]
 refine Jn ((looks_clsIn X hc).here ?_)
 rw[hd]
 rcases MK with⟨e0,hm0⟩ |⟨dx,e1,hne,hns⟩
 ·rw[e0,if_neg nofun]
  show wpAny _ _ (if(!true || !typeHasDict (Value.ref C))=true then pure none else _) _ _ _
  rw[if_neg (by simp[typeHasDict])]
  have hxs:x ≠ hh.objs.size:=JI (Ju hx)
  have hx1:(hh.push { cls:=.type "dict",data:=.dict #[] }).get? x=some o:=Jp _ hx
  split
  ·rename_i c hcd
   exact absurd hcd (hnc c)
  ·refine Jn (wpAny_alloc' (Jn (wpAny_update' hx1 (Jv ?_))))
   have hgd:((hh.push { cls:=.type "dict",data:=.dict #[] }).update x fun o=>{ cls:=o.cls,dict:=some hh.objs.size,data:=o.data,slots:=o.slots }).get? hh.objs.size=some { cls:=.type "dict",data:=.dict #[] } :=
    (Heap.get?_update_ne _ _ _ _ hxs.symm).trans (Heap.get?_push_at rfl rfl)
   have hnd:((hh.push { cls:=.type "dict",data:=.dict #[] }).update x fun o=>{ cls:=o.cls,dict:=some hh.objs.size,data:=o.data,slots:=o.slots }).Ns hh.objs.size (fun _=>none) :=
    ⟨_,#[],_,hgd,rfl,fun e he=>absurd he (by simp),fun _=>rfl⟩
   show wpAny _ _ (storeInDict hh.objs.size (.str name tk) name v) _ _ _
   unfold storeInDict newKeyGuard
   refine Jn (Jv (Jn (wpAny_nsSet1 (Heap.Ns1.of_empty hnd) fun h' n1 sb=>?_)))
   obtain⟨oD,esD,epD,hoD,hdD,hcD⟩:=n1.count (Within.cons name v Within.nil)
   refine Jn (wpAny_lookBehind hoD (by rw[hdD];exact pastItsLine_dict (Jy hcD (by rw[Jg,Jh,KY];omega))) ?_)
   refine Jv ?_
   have hx':h'.get? x=some { o with dict:=some hh.objs.size }:=by
    refine(sb.2 x hxs).trans (JW _ hx1 ?_)
    have hfr:=(Heap.get?_some_iff.mp hx).2
    obtain⟨oc,od,odt,osl⟩:=o
    cases odt <;> first |rfl |exact hfr
   refine h h' _ ⟨_,hx',hcl,hnc,.inr ⟨hh.objs.size,rfl,hxs.symm,?_⟩⟩ (fun b ob hbx _ hb=>?_) fun o₀ q=>?_
   ·obtain⟨o',es,ep,a1,a2,a3,au,a4⟩:=n1
    exact⟨o',es,ep,a1,a2,a3,au,fun y=>by rw[a4 y];by_cases hy:y=name <;> simp[hy,hm0]⟩
   ·exact(sb.2 b (JI (Ju hb))).trans ((Heap.get?_update_ne _ _ _ _ hbx).trans (Jp _ hb))
   ·obtain rfl:o=o₀:=Js (hx.symm.trans q)
    exact⟨hh.objs.size,hx',.inr ⟨e0,Jw _⟩⟩
 ·rw[e1,if_neg nofun]
  refine Jv ?_
  show wpAny _ _ (storeInDict dx (.str name tk) name v) _ _ _
  unfold storeInDict newKeyGuard
  refine Jn (Jv (Jn (wpAny_nsSet1 hns fun h' n1 sb=>?_)))
  obtain⟨oD,esD,epD,hoD,hdD,hcD⟩:=n1.count (Within.cons name v hw)
  refine Jn (wpAny_lookBehind hoD (by rw[hdD];exact pastItsLine_dict (Jy hcD (by rw[Jg,KY];omega))) ?_)
  refine Jv ?_
  refine h h' _ ⟨o,(sb.2 x hne.symm).trans hx,hcl,hnc,.inr ⟨dx,e1,hne,n1⟩⟩ (fun b ob _ hbd hb=>(sb.2 b (hbd o dx hx e1)).trans hb) fun o₀ q=>?_
  obtain rfl:o=o₀:=Js (hx.symm.trans q)
  refine⟨dx,?_,.inl e1⟩
  rw[show({ o with dict:=some dx }:Obj)=o by rw[<-e1]]
  exact(sb.2 x hne.symm).trans hx
theorem y7{Q:OU}{ns:OD}(X:K.In s.heap)(I:s.heap.Inst x C mA)(hc:clsIn K C=some cd)(hp:∀self,refuseLoop self "__setattr__" cd.mro=pure ())(ho:cd.mro.contains (.type "object")=true)(hd:cd.hasDict=true)
  (hs:findIn K (.ref C) "__setattr__" = some (some (.builtin "object.__setattr__"))) (hn:findIn K (.ref C) name=some none) (hw:Within mA ns) (hz:ns.length<=1000)
  (h:∀h' tk',h'.Inst x C (fun y=>if y=name then some v else mA y) ->
   (∀b o,b ≠ x->(∀o₀ dx,s.heap.get? x=some o₀->o₀.dict=some dx->b ≠ dx)->s.heap.get? b=some o->h'.get? b=some o) ->
   (∀o₀,s.heap.get? x=some o₀->∃dx,h'.get? x=some { o₀ with dict:=some dx }/\(o₀.dict=some dx\/o₀.dict=none/\s.heap.objs.size<=dx))->Q () { s with heap:=h',toks:=tk' }) :
  wpAny (model prog w) A (setAttr (.ref x) name v) Q E s:=by
 obtain⟨o,hx,hcl,hnc,MK⟩:=id I
 have hno:notCls o=true:=by
  unfold notCls
  split
  ·rename_i c q
   exact absurd q (hnc c)
  ·rfl
 obtain⟨od,IA⟩:∃od,InstAt s.heap x o C od:=by
  rcases MK with⟨e0,_⟩ |⟨dx,e1,_,hns⟩
  ·exact⟨none,hx,hcl,hno,by rw[e0];trivial⟩
  ·obtain⟨od,es,ep,e,_⟩:=hns
   exact⟨some od,hx,hcl,hno,by rw[e1];exact e⟩
 have SF:=PySem.F.store_object
 have N3:Looks (model prog w) s.heap (mroOf (.ref C)) cd.mro:=(looks_clsIn X hc).andThen .now
 have ne:cd.mro.isEmpty=false:=by
  cases q:cd.mro with
  |nil=>rw[q]at ho;cases ho
  |cons _ _=>rfl
 have sub:Looks (model prog w) s.heap (isInstance (.ref x) (.type "object")) true:=IA.type.andThen (looks_mroIn X (by unfold mroIn;rw[hc,Jd,if_neg (by rw[ne];decide),ho]))
 refine set_plain X IA hs (Lk SF.slot.plain SF.entry (@check_slot (model prog w) _ _ { s with toks:=s.toks + 1 } "object.__setattr__" "object" "__setattr__" (.ref x) [.str name s.toks,v] [] _ SF.kind SF.split sub (SF.args (.ref x) (.str name s.toks) v) ?_))
 rw[osa_eq,refuse_eq]
 refine Jn (Jn (IA.type _ _ _ _ (fun _ _ e=>e) (Jn (N3 _ _ _ _ (fun _ _ e=>e) ?_))))
 rw[hp]
 refine Jv (Jn (IA.type _ _ _ _ (fun _ _ e=>e) (Jn (looks_findIn X hn _ _ _ _ (fun _ _ e=>e) ?_))))
 refine Jn (Jv ?_)
 exact oZ (s:={ s with toks:=s.toks + 1 }) X I hc hd hw hz fun h' tk' i1 i2 i3=>h h' tk' i1 i2 i3
end
section
variable {prog:Program}{w:World}{A:Around}{E:OA}{h:Heap}{g:Array GenState}{dr:Drawn}{t:Nat}{os:OsState}{K:Frag}{x C:Addr}{mA:OI}{cd:ClassData}{name:Str}{v:Value}
theorem lkF{M:Model}{r:PB}{n:Str}{Q:PL}(X:K.In h)(e:findIn K (.ref C) n=some r)(q:Q r ⟨h,g,dr,t,os⟩):wpAny M A (typeLookup (.ref C) n) Q E ⟨h,g,dr,t,os⟩:=looks_findIn X e _ _ _ _ (fun _ _ z=>z) q
theorem lkC{M:Model}{Q:ClassData->Shared->Prop}(X:K.In h)(e:clsIn K C=some cd)(q:Q cd ⟨h,g,dr,t,os⟩):wpAny M A (classData C) Q E ⟨h,g,dr,t,os⟩:=looks_clsIn X e _ _ _ _ (fun _ _ z=>z) q
theorem o2{Q:PN}{tk:Tok}(X:K.In h)(I:h.Inst x C mA)(hc:clsIn K C=some cd)(hd:cd.hasDict=true)(hn:findIn K (.ref C) name=some none)(hv:mA name=some v)
  (q:Q (.done (.ret v)) ⟨h,g,dr,t,os⟩):wpAny (model prog w) A (Builtin.«object.__getattribute__» ⟨[.ref x,.str name tk],[]⟩) Q E ⟨h,g,dr,t,os⟩:=by
 obtain⟨o,hx,hcl,hnc,MK⟩:=I
 rcases MK with⟨_,hm0⟩ |⟨dx,e1,hne,hns⟩
 ·rw[hm0 name]at hv;cases hv
 unfold Builtin.«object.__getattribute__»
 repeat (first | (with_reducible refine JN hx ?_;rw[hcl]) |with_reducible refine lkF X hn ?_ |wp_step)
 split
 ·rename_i c hcd
  exact absurd hcd (hnc c)
 unfold instanceDict
 repeat (first | (with_reducible refine JN hx ?_;rw[hcl]) | (with_reducible refine lkC X hc ?_;rw[hd]) |wp_step)
 rw[e1]
 repeat (first | (with_reducible refine wpAny_nsGet hns.ns ?_;rw[hv]) |wp_step)
 exact q
theorem uM{Q:OA}{expr:Bool}(X:K.In h)(I:h.Inst x C mA)(hc:clsIn K C=some cd)(hd:cd.hasDict=true)(hb:cd.mro.contains (.type "BaseException")=true)
  (hga:findIn K (.ref C) "__getattribute__" = some (some (.builtin "BaseException.__getattribute__"))) (hgt:findIn K (.ref C) "__getattr__" = some none) (hn:findIn K (.ref C) name=some none) (hv:mA name=some v)
  (hh:handedOut v=pure v) (q:Q v ⟨h,g,dr,t + 1,os⟩):wpAny (model prog w) A (getAttr (.ref x) name expr) Q E ⟨h,g,dr,t,os⟩:=by
 obtain⟨o,hx,hcl,_⟩:=id I
 have hx0:(expr && onTheHeap (Value.builtin "BaseException.__getattribute__"))=false:=by cases expr <;> rfl
 have hx1:(onTheHeap (Value.ref C) && Value.builtin "BaseException.__getattribute__" == Value.builtin "object.__getattribute__")=false:=by
  rw[show(Value.builtin "BaseException.__getattribute__" == Value.builtin "object.__getattribute__")=false by decide +kernel];rfl
 have hbs:bindSpecial (.builtin "BaseException.__getattribute__") (.ref x)=pure (.builtin "BaseException.__getattribute__",[.ref x]):=(KU).ga.bind (.ref x)
 unfold getAttr getAttrBy
 repeat (first | (with_reducible refine JN hx ?_;rw[hcl]) |with_reducible refine lkF X hga ?_ |with_reducible refine lkF X hgt ?_ |wp_step)
 have IA:Looks (model prog w) h (typeOf (.ref x)) (.ref C):=(Looks.ld (part:=none) hx).andThen (by rw[hcl];exact .now)
 have ne:cd.mro.isEmpty=false:=by
  cases z:cd.mro with
  |nil=>rw[z]at hb;cases hb
  |cons _ _=>rfl
 have sub:Looks (model prog w) h (isInstance (.ref x) (.type "BaseException")) true:=IA.andThen (looks_mroIn X (by unfold mroIn;rw[hc,Jd,if_neg (by rw[ne];decide),hb]))
 have hk:builtinKind "BaseException.__getattribute__" = some .slot:=by decide +kernel
 have hsp:splitId "BaseException.__getattribute__" = some ("BaseException","__getattribute__"):=by decide +kernel
 refine Lk (KU).ga.plain PySem.F.entry_bexc_ga (@check_slot (model prog w) _ _ ⟨h,g,dr,t + 1,os⟩ "BaseException.__getattribute__" "BaseException" "__getattribute__" (.ref x) [.str name t] [] _ hk hsp sub (PySem.F.args_bexc_ga (.ref x) (.str name t)) ?_)
 refine o2 X I hc hd hn hv ?_
 show wpAny _ _ (handedOut v) _ _ _
 rw[hh]
 exact Jv q
end
structure Kp (fs xs:OT) (h h':Heap):Prop where
 keep:∀b o,b ∉ fs->b ∉ xs->h.get? b=some o->h'.get? b=some o
 slot:∀b o,b ∈ fs->b ∉ xs->h.get? b=some o->∃sl,h'.get? b=some { o with slots:=sl }
variable{h:Heap}{xs:OT}
theorem Kp.trans{fs:OT}{h1 h2:Heap}(a:Kp fs xs h h1)(b:Kp fs xs h1 h2):Kp fs xs h h2 :=
 ⟨fun c o n1 n2 e=>b.keep c o n1 n2 (a.keep c o n1 n2 e),fun c o n1 n2 e=>by
  obtain⟨sl,e1⟩:=a.slot c o n1 n2 e
  obtain⟨sl',e2⟩:=b.slot c _ n1 n2 e1
  exact⟨sl',e2⟩⟩
theorem Kp.wide{fs fs' xs':OT}{h':Heap}(a:Kp fs xs h h')(h1:∀b ∈ fs,b ∈ fs')(h2:∀b ∈ xs,b ∈ xs'):Kp fs' xs' h h' :=
 ⟨fun c o n1 n2 e=>a.keep c o (fun z=>n1 (h1 c z)) (fun z=>n2 (h2 c z)) e,fun c o n1 n2 e=>by
  by_cases hc:c ∈ fs
  ·exact a.slot c o hc (fun z=>n2 (h2 c z)) e
  ·exact⟨o.slots,a.keep c o hc (fun z=>n2 (h2 c z)) e⟩⟩
variable{base:Heap}
theorem Kp.funs{h':Heap}{l:OZ}{fs:OT}(k:Kp fs xs h h')(hl:h.FunFrames base l)(hx:∀b o,b ∈ xs->h.get? b=some o->∃vs,o.data=.fields vs):h'.FunFrames base l :=
 hl.of_keeps fun b o e hn=>by
  have hb:b ∉ xs:=fun z=>by
   obtain⟨vs,q⟩:=hx b o z e
   exact hn vs q
  by_cases hf:b ∈ fs
  ·obtain⟨sl,e'⟩:=k.slot b o hf hb e
   exact⟨_,e',rfl⟩
  ·exact⟨o,k.keep b o hf hb e,rfl⟩
def cxO(o:Obj):Option Value:=match o.data with
 |.fields ws=>ws[2]?
 |_=>none
def Fly(h:Heap)(o0:Obj)(e T:Addr)(fl:Value):Prop :=
 ∃vs oT ts,h.get? e=some { o0 with data:=.fields vs }/\vs[1]? = some (.ref T)/\T ≠ e/\h.get? T=some oT/\oT.data=.fields ts/\ts[3]? = some fl/\vs[2]? = cxO o0
section
variable {M:Model}{A:Around}{E:OA}{s:Shared}
variable{vs:OM}{e:Addr}
theorem qw{l:OZ}{o:Obj}(hl:h.FunFrames base l)(he:h.get? e=some o)(hd:o.data=.fields vs):e ∉ l.filterMap (·.frame):=fun hm=>by
 obtain⟨_,o',ho,hnf⟩:=hl.mem hm
 rw[he]at ho
 cases ho
 exact hnf vs hd
theorem o_{base:Heap}{env:Env}{outer:OZ}{L e:Addr}{o0:Obj}{vs:OM}{head:Value}{nx:Bool}{Q:OU}
  (hfr:A.frames=some (env :: outer)) (hl:s.heap.FunFrames base (env :: outer)) (hf:env.frame=some L) (he:s.heap.get? e=some { o0 with data:=.fields vs }) (hsz:1 < vs.size) (hcx:vs[2]? = cxO o0)
  (h:∀h' T,Kp ((env :: outer).filterMap (·.frame)) [e] s.heap h'->s.heap.objs.size<=T->Fly h' o0 e T (rawInt L)->Q () { s with heap:=h' }) :
  wpAny M A (do let a <-frameOf env;let pl <-entryPlaceOf L nx;let b <-EntryCells.newEntry head a .none (rawInt L) .none pl;setField (.ref e) 1 b) Q E s:=by
 have NZ:=qw hl he rfl
 refine Jn (wpAny_frameOf_fun hfr hl hf fun h1 so=>?_)
 refine Jn (wpAny_entryPlaceOf fun pl hpl=>?_)
 unfold EntryCells.newEntry newFields
 refine Jn (Km ?_ (hpl.sizeOk5 _ _ _ _ _))
 have he1:h1.get? e=some { o0 with data:=.fields vs }:=(so.2.1 e NZ).trans he
 generalize hO:({ cls:=.type "traceback",dict:=none,data:=.fields ([head,.ref L,.none,rawInt L,.none] ++ (if pl.isEmpty then List.replicate 6 Value.none else pl)).toArray }:Obj)=O
 have he2:=Jp (h:=h1) O he1
 have hne:h1.objs.size ≠ e:=LN (Ju he1)
 refine K5 he2 rfl hsz ?_
 have he3:=JW (Obj.mapFields (·.setIfInBounds 1 (Value.ref h1.objs.size))) he2 (L3 (Lf rfl _))
 have hT:((h1.push O).update e (Obj.mapFields (·.setIfInBounds 1 (Value.ref h1.objs.size)))).get? h1.objs.size=some O :=
  (JO _ _ (Ne.symm hne)).trans (Jx h1 (by rw[<-hO];rfl))
 have Nw:s.heap.objs.size<=h1.objs.size:=Nat.le_of_eq so.1.symm
 refine h _ h1.objs.size ⟨fun b o nb nx' q=>?_,fun b o hb nx' q=>?_⟩ Nw ⟨_,O,_,he3,by simp[hsz],hne,hT,by rw[<-hO],?_,?_⟩
 ·have hbe:b ≠ e:=fun z=>nx' (by simp[z])
  rw[JO _ _ (Ne.symm hbe)]
  exact Jp _ ((so.2.1 b nb).trans q)
 ·have hbe:b ≠ e:=fun z=>nx' (by simp[z])
  obtain⟨sl,q1⟩:=so.2.2 b o q
  refine⟨sl,?_⟩
  rw[JO _ _ (Ne.symm hbe)]
  exact Jp _ q1
 ·simp
 ·exact(Kh nofun).trans hcx
theorem i9{base:Heap}{env:Env}{outer:OZ}{L e:Addr}{o0:Obj}{vs:OM}{Q:OU}
  (hfr:A.frames=some (env :: outer)) (hl:s.heap.FunFrames base (env :: outer)) (hf:env.frame=some L) (he:s.heap.get? e=some { o0 with data:=.fields vs }) (h1:vs[1]? = some .none) (hcx:vs[2]? = cxO o0)
  (h:∀h' T,Kp ((env :: outer).filterMap (·.frame)) [e] s.heap h'->s.heap.objs.size<=T->Fly h' o0 e T (rawInt L)->Q () { s with heap:=h' }):wpAny M A (noteFrame (.ref e) env) Q E s:=by
 unfold noteFrame
 simp only[hf]
 refine Jn (J_ he rfl h1 ?_)
 rw[if_neg nofun]
 exact o_ hfr hl hf he (Array.getElem?_eq_some_iff.mp h1).1 hcx h
theorem kc{base:Heap}{env:Env}{outer:OZ}{L e T:Addr}{o0:Obj}{Q:OU}
  (hfr:A.frames=some (env :: outer)) (hl:s.heap.FunFrames base (env :: outer)) (hf:env.frame=some L) (he:Fly s.heap o0 e T .none)
  (h:∀h' T',Kp ((env :: outer).filterMap (·.frame)) [e,T] s.heap h'->s.heap.objs.size<=T'->Fly h' o0 e T' (rawInt L)->Q () { s with heap:=h' }):wpAny M A (noteFrame (.ref e) env) Q E s:=by
 obtain⟨vs,oT,ts,q1,q2,hTe,q3,q4,q5,q6⟩:=he
 unfold noteFrame
 simp only[hf]
 refine Jn (J_ q1 rfl q2 ?_)
 rw[if_pos (show(Value.ref T != Value.none)=true from by simp)]
 refine Jn (J_ q3 q4 q5 ?_)
 rw[if_neg (show ¬((Value.none == rawInt L)=true) from by simp[rawInt])]
 refine Jn (K5 q3 q4 (Array.getElem?_eq_some_iff.mp q5).1 ?_)
 have oth:∀b,b ≠ T->(s.heap.update T (Obj.mapFields (·.setIfInBounds 3 Value.none))).get? b=s.heap.get? b:=fun b hb=>JO _ _ (Ne.symm hb)
 have k0:Kp ((env :: outer).filterMap (·.frame)) [e,T] s.heap (s.heap.update T (Obj.mapFields (·.setIfInBounds 3 Value.none))) :=
  ⟨fun b o _ nx q=>(oth b fun z=>nx (by simp[z])).trans q,fun b o _ nx q=>⟨o.slots,(oth b fun z=>nx (by simp[z])).trans q⟩⟩
 refine o_ hfr (k0.funs hl fun b o hb q=>?_) hf ((oth e (Ne.symm hTe)).trans q1) (Array.getElem?_eq_some_iff.mp q2).1 q6 fun h' T' k1 k2 k3=>h h' T' (k0.trans (k1.wide (fun _ z=>z) fun b z=>by simp at z;simp[z])) ?_ k3
 ·rcases List.mem_cons.mp hb with rfl |hb
  ·rw[q1]at q;cases q;exact⟨vs,rfl⟩
  ·rw[List.mem_singleton.mp hb,q3]at q;cases q;exact⟨ts,q4⟩
 ·have:(s.heap.update T (Obj.mapFields (·.setIfInBounds 3 Value.none))).objs.size=s.heap.objs.size:=by simp[Heap.update]
  rw[<-this];exact k2
variable{Q:OU}{o0:Obj}{L T:Addr}{env:Env}
theorem jE(hf:env.frame=some L)(he:Fly s.heap o0 e T (rawInt L))(h:Q () s):wpAny M A (noteFrame (.ref e) env) Q E s:=by
 obtain⟨vs,oT,ts,q1,q2,hTe,q3,q4,q5,q6⟩:=he
 unfold noteFrame
 simp only[hf]
 refine Jn (J_ q1 rfl q2 ?_)
 rw[if_pos (show(Value.ref T != Value.none)=true from by simp)]
 refine Jn (J_ q3 q4 q5 ?_)
 rw[if_pos (LC _)]
 exact Jv h
theorem cU{fl:Value}{fr:Oy}{Q:OU}(he:Fly s.heap o0 e T fl)
  (h:∀h',Kp [] [T] s.heap h'->h'.objs.size=s.heap.objs.size->Fly h' o0 e T (fr.elim Value.none fun f=>rawInt f)->Q () { s with heap:=h' }):wpAny M A (setFlight (.ref e) fr) Q E s:=by
 obtain⟨vs,oT,ts,q1,q2,hTe,q3,q4,q5,q6⟩:=he
 have hz:3 < ts.size:=(Array.getElem?_eq_some_iff.mp q5).1
 have oth:∀b,b ≠ T->(s.heap.update T (Obj.mapFields (·.setIfInBounds 3 (fr.elim Value.none fun f=>rawInt f)))).get? b=s.heap.get? b:=fun b hb=>JO _ _ (Ne.symm hb)
 unfold setFlight
 refine Jn (J_ q1 rfl q2 ?_)
 rw[if_pos (show(Value.ref T != Value.none)=true from by simp)]
 refine K5 q3 q4 hz (h _ ⟨fun b o _ nx q=>(oth b fun z=>nx (by simp[z])).trans q,fun b o hb=>by cases hb⟩ (by simp[Heap.update]) ?_)
 exact⟨vs,_,_,(oth e (Ne.symm hTe)).trans q1,q2,hTe,JW _ q3 (L3 (Lf q4 _)),Lf q4 _,by simp[hz],q6⟩
theorem ux{base:Heap}{env:Env}{outer:OZ}{L e:Addr}{o0:Obj}{vs:OM}{Q:OU}
  (hfr:A.frames=some (env :: outer)) (hl:s.heap.FunFrames base (env :: outer)) (hf:env.frame=some L) (he:s.heap.get? e=some { o0 with data:=.fields vs }) (h1:vs[1]? = some .none) (hcx:vs[2]? = cxO o0)
  (h:∀h' T,Kp ((env :: outer).filterMap (·.frame)) [e] s.heap h'->s.heap.objs.size<=T->Fly h' o0 e T .none->Q () { s with heap:=h' }):wpAny M A (leaving env (.ref e)) Q E s:=by
 unfold leaving
 refine Jn (i9 hfr hl hf he h1 hcx fun h' T k1 k2 k3=>cU k3 fun h'' j1 _ j3=>h h'' T ?_ k2 j3)
 refine⟨fun b o n1 n2 q=>j1.keep b o (by simp) (fun z=>?_) (k1.keep b o n1 n2 q),fun b o n1 n2 q=>?_⟩
 ·rw[List.mem_singleton.mp z]at q
  exact absurd (Ju q) (Nat.not_lt.mpr k2)
 ·obtain⟨sl,q1⟩:=k1.slot b o n1 n2 q
  refine⟨sl,j1.keep b _ (by simp) (fun z=>?_) q1⟩
  rw[List.mem_singleton.mp z]at q
  exact absurd (Ju q) (Nat.not_lt.mpr k2)
theorem vY{base:Heap}{env:Env}{outer:OZ}{L e T:Addr}{o0:Obj}{Q:OU}
  (hfr:A.frames=some (env :: outer)) (hl:s.heap.FunFrames base (env :: outer)) (hf:env.frame=some L) (he:Fly s.heap o0 e T .none)
  (h:∀h' T',Kp ((env :: outer).filterMap (·.frame)) [e,T] s.heap h'->s.heap.objs.size<=T'->Fly h' o0 e T' .none->Q () { s with heap:=h' }):wpAny M A (leaving env (.ref e)) Q E s:=by
 unfold leaving
 refine Jn (kc hfr hl hf he fun h' T' k1 k2 k3=>cU k3 fun h'' j1 _ j3=>h h'' T' ?_ k2 j3)
 refine⟨fun b o n1 n2 q=>j1.keep b o (by simp) (fun z=>?_) (k1.keep b o n1 n2 q),fun b o n1 n2 q=>?_⟩
 ·rw[List.mem_singleton.mp z]at q
  exact absurd (Ju q) (Nat.not_lt.mpr k2)
 ·obtain⟨sl,q1⟩:=k1.slot b o n1 n2 q
  refine⟨sl,j1.keep b _ (by simp) (fun z=>?_) q1⟩
  rw[List.mem_singleton.mp z]at q
  exact absurd (Ju q) (Nat.not_lt.mpr k2)
end
open PySem PySem.Spec PyProof.Rows
section
variable {X:Cx}{Ml:OC} {σ:St}{H:Hp}{s:Shared}{h':Heap}{ch:OT}
theorem Inv.recd(I:Inv X Ml σ H s){b:Addr}{o:Obj}{vs:OM}(e:s.heap.get? b=some o)(hd:o.data=.fields vs):b ≠ X.env.locals/\(∀x c,X.env.cells.lookup x=some c->c ≠ b)/\b ∉ frs X.stack:=by
 refine⟨fun z=>?_,fun x c q z=>?_,qw I.stack e hd⟩
 ·obtain⟨m,⟨o',es,ep,ho',hd',_⟩,_⟩:=I.loc
  rw[<-z,e]at ho';cases ho';rw[hd']at hd;cases hd
 ·obtain⟨v,o',ho',hd'⟩:=I.cell x c q
  rw[z,e]at ho';cases ho';rw[hd']at hd;cases hd
theorem Inv.kp(I:Inv X Ml σ H s)(k:Kp (frs X.stack) ch s.heap h')
  (hch:∀b ∈ ch,X.s₀.heap.objs.size<=b/\(∃o vs,s.heap.get? b=some o/\o.data=.fields vs)/\(∀p ∈ X.pn ++ Ml,p.1 ≠ b)/\H b=none):Inv X Ml σ H { s with heap:=h' }:=by
 have trk:∀b o,H b ≠ none->s.heap.get? b=some o->h'.get? b=some o:=fun b o n e=>k.keep b o (fun z=>n (I.stkFree b z)) (fun z=>n (hch b z).2.2.2) e
 refine I.step (ch:=ch) (fun b hb=>?_) (fun b o n1 n2 n3 e n=>?_) (fun b o n1 n2 n3 e n=>?_) (fun _ _ _ _ n=>n) (fun b o n3 e=>?_) (fun _ _ q=>q) (fun _ _ _ q=>q) (fun _ ps q=>⟨#[],by rw[q];simp⟩) (fun m hm=>?_) (fun a o e=>?_) I.bare
 ·obtain⟨a1,⟨o,vs,a2,a3⟩,a4,a5⟩:=hch b hb
  obtain⟨b1,b2,_⟩:=I.recd a2 a3
  exact⟨.inr a1,b1,b2,a4⟩
 ·exact k.keep b o (fun z=>by rcases List.mem_cons.mp (I.stkSub b z) with q |q;exact n1 q;exact n2 q) n3 e
 ·by_cases hb:b ∈ frs X.stack
  ·exact k.slot b o hb n3 e
  ·exact⟨o.slots,k.keep b o hb n3 e⟩
 ·by_cases hb:b ∈ frs X.stack
  ·obtain⟨sl,q⟩:=k.slot b o hb n3 e
   exact⟨_,q⟩
  ·exact⟨o,k.keep b o hb n3 e⟩
 ·obtain⟨o,es,ep,e,hd,r⟩:=hm
  have nch:X.env.locals ∉ ch:=fun z=>by
   obtain⟨_,⟨o',vs,a2,a3⟩,_⟩:=hch _ z
   rw[e]at a2;cases a2;rw[hd]at a3;cases a3
  by_cases hb:X.env.locals ∈ frs X.stack
  ·obtain⟨sl,q⟩:=k.slot _ o hb nch e
   exact⟨_,es,ep,q,hd,r⟩
  ·exact⟨o,es,ep,k.keep _ o hb nch e,hd,r⟩
 ·exact(I.hok a o e).stay (fun b u hb q=>trk b u (fun z=>by
   rcases hb with rfl |hb
   ·rw[e]at z;cases z
   ·rw[hb]at z;cases z) q) (fun _ q=>q) fun _ _ q=>q
end
def Err(L:Addr)(h:Heap)(H:Hp)(z:Nat)(ps:OC)(o0:Obj)(a:Addr):Prop :=
 (∃vs,h.get? a=some { o0 with data:=.fields vs }/\vs[1]? = some .none/\vs[2]? = cxO o0)\/∃T fl,Fly h o0 a T fl/\(fl=.none\/fl=rawInt L)/\H T=none/\z<=T/\∀p ∈ ps,p.1 ≠ T
structure Ci (H:Hp) (z:Nat) (o0:Obj) (a C dx:Addr):Prop where
 cls:o0.cls=.ref C
 dict:o0.dict=some dx
 ne:dx ≠ a
 free:H a=none
 new:z<=a
 cx:∀fs,H dx=some (.xd fs)->fs.lookup ("row" : Str)=none->cxO o0=some .none
def CX1(P:Program)(w:World):CXT:=fun outer H s E e s'=>∃(a C dx T:Addr) (o0:Obj) (H':Hp),e=.ref a/\s'.os=s.os/\AllBare s'.gens/\Un (frs outer) [] H H' s.heap s'.heap/\HOk P w H' s'.heap /\
 Fly s'.heap o0 a T .none/\H' T=none/\s.heap.objs.size<=T/\Ci H' s.heap.objs.size o0 a C dx/\E (.ref C) (some dx) H'
abbrev XW:=St->Value->Option Addr->Hp->Prop
def EX(X:Cx)(Ml:OC)(W:XW)(e:Value)(s:Shared):Prop:=∃(σ:St) (a C dx:Addr) (o0:Obj) (H:Hp),e=.ref a/\Inv X Ml σ H s/\Err X.env.locals s.heap H X.s₀.heap.objs.size (X.pn ++ Ml) o0 a/\Ci H X.s₀.heap.objs.size o0 a C dx/\(∀p ∈ X.pn ++ Ml,p.1 ≠ a)/\W σ (.ref C) (some dx) H
section
variable {P:Program}{w:World}{K:OE}{mg:OI}{base:Heap}{N:OD}{qual:Str}{scope:Scope}{f:Addr}{cd:Value}{A:Around}{outer:OZ}{s₀:Shared}{H₀:Hp}{E:XK}
theorem Fly.recd{o0:Obj}{e T:Addr}{fl:Value}(x:Fly h o0 e T fl):(∃o vs,h.get? e=some o/\o.data=.fields vs)/\∃o vs,h.get? T=some o/\o.data=.fields vs:=by
 obtain⟨vs,oT,ts,q1,q2,q3,q4,q5,q6,q7⟩:=x
 exact⟨⟨_,vs,q1,rfl⟩,oT,ts,q4,q5⟩
theorem y9{Ml:OC}{e:Value}{s:Shared}(x:EX (jN (CX1 P w) P w K mg base N qual scope f cd A outer s₀ H₀ E) Ml (fun _ c d H=>E c d H) e s):(jN (CX1 P w) P w K mg base N qual scope f cd A outer s₀ H₀ E).xe e s:=by
 obtain⟨σ,a,C,dx,o0,H,rfl,I,er,eo,hp,hw⟩:=x
 have hz:s₀.heap.objs.size<=s.heap.objs.size:=I.sz
 rcases er with⟨vs,q1,q2,q3⟩ |⟨T,fl,hf,rfl |rfl,hT,hTz,hTp⟩
 ·refine ux (base:=base) I.ok.frames I.stack rfl q1 q2 q3 fun h' T k k2 k3=>?_
  have I':=I.kp (ch:=[a]) k fun b hb=>by
   rw[List.mem_singleton.mp hb]
   exact⟨eo.new,⟨_,vs,q1,rfl⟩,hp,eo.free⟩
  exact⟨a,C,dx,T,o0,H,rfl,I'.os,I'.bare,I'.base,I'.hok,k3,I.hok.fresh k2,Jy hz k2,eo,hw⟩
 ·refine vY (base:=base) I.ok.frames I.stack rfl hf fun h' T' k k2 k3=>?_
  have I':=I.kp (ch:=[a,T]) k fun b hb=>by
   rcases List.mem_cons.mp hb with rfl |hb
   ·exact⟨eo.new,hf.recd.1,hp,eo.free⟩
   ·rw[List.mem_singleton.mp hb]
    exact⟨hTz,hf.recd.2,hTp,hT⟩
  exact⟨a,C,dx,T',o0,H,rfl,I'.os,I'.bare,I'.base,I'.hok,k3,I.hok.fresh k2,Jy hz k2,eo,hw⟩
 ·show wpAny _ _ (leaving _ _) _ _ _
  unfold leaving
  refine Jn (jE rfl hf (cU hf fun h' k _ k3=>?_))
  have I':=I.kp (ch:=[T]) (k.wide (fun _ z=>by cases z) fun _ z=>z) fun b hb=>by
   rw[List.mem_singleton.mp hb]
   exact⟨hTz,hf.recd.2,hTp,hT⟩
  exact⟨a,C,dx,T,o0,H,rfl,I'.os,I'.bare,I'.base,I'.hok,k3,hT,hTz,eo,hw⟩
end
section
variable {X:Cx}{Ml:OC} {σ:St}{H:Hp}{s s':Shared}{E:XK}{W:XW}{e:Value}
theorem Inv.raised(I:Inv X Ml σ H s)(h:CX1 X.prog X.w X.stack H s E e s')(hE:∀c d H',E c d H'->W σ c d H'):EX X Ml W e s':=by
 obtain⟨a,C,dx,T,o0,H',rfl,h1,h2,h3,h4,h5,h6,h7,h8,h9⟩:=h
 have hce:CE X.stack X.prog X.w H s (fun v H''=>H''=H') .none s':=⟨.non,H',h1,h2,h3,h4,rfl,rfl⟩
 obtain⟨x,H'',I',_,rfl⟩:=I.after hce
 refine⟨σ,a,C,dx,o0,_,rfl,I',.inr ⟨T,_,h5,.inl rfl,h6,Jy I.sz h7,fun p hp z=>absurd (Ju (I.pin p hp).1) (by rw[z];exact Nat.not_lt.mpr h7)⟩,⟨h8.cls,h8.dict,h8.ne,h8.free,Jy I.sz h8.new,h8.cx⟩,fun p hp z=>?_,hE _ _ _ h9⟩
 have q:=(I.pin p hp).1
 exact absurd (Ju q) (by rw[z];exact Nat.not_lt.mpr h8.new)
end
abbrev TEX:=St->Hp->VK->XW->Prop
abbrev TSX:=fe->XW->St->Hp->Prop
def PEX(X:Cx)(e:Expr)(t:TEX):Prop :=
 ∀(Ml:OC) (s:Shared) (σ:St) (H:Hp) (Q:VK) (W:XW) (xe:OA),Inv X Ml σ H s->t σ H Q W->(∀e s',EX X Ml W e s'->xe e s')->wpAny (model X.prog X.w) X.A (eval e X.env) (EP X Ml σ Q) xe s
def PSX(X:Cx)(st:Stmt)(t:TSX):Prop :=
 ∀(Ml:OC) (s:Shared) (σ:St) (H:Hp) (D:fe) (W:XW) (xe:OA),Inv X Ml σ H s->t D W σ H->(∀e s',EX X Ml W e s'->xe e s')->wpAny (model X.prog X.w) X.A (exec st X.env) (SP X Ml D) xe s
def jZ(X:Cx)(st:OV)(t:TSX):Prop :=
 ∀(Ml:OC) (s:Shared) (σ:St) (H:Hp) (D:fe) (W:XW) (xe:OA),Inv X Ml σ H s->t D W σ H->(∀e s',EX X Ml W e s'->xe e s')->wpAny (model X.prog X.w) X.A (execs st X.env) (SP X Ml D) xe s
section
variable {X:Cx}{st:Stmt}{rest:OV}{t:TS}{e:Expr}{pos:Pos}
theorem Fq(h:PS X.nox st t):PSX X st (fun D _ σ H=>t D σ H):=fun Ml s σ H D W xe I hw _ =>
 JM (h Ml s σ H D (I.wish _) hw) (fun _ _ q=>q.unwish) fun _ _ z=>False.elim z
theorem CT(h:PSs X.nox rest t):jZ X rest (fun D _ σ H=>t D σ H):=fun Ml s σ H D W xe I hw _ =>
 JM (h Ml s σ H D (I.wish _) hw) (fun _ _ q=>q.unwish) fun _ _ z=>False.elim z
theorem ym{t u:TSX}(h1:PSX X st t)(h2:jZ X rest u):jZ X (st :: rest) (fun D W σ H=>t { D with nx:=u D W } W σ H):=by
 intro Ml s σ H D W xe I h hx
 refine Lj (thn (h1 Ml s σ H { D with nx:=u D W } W xe I h hx) fun f s1 q=>?_)
 cases f with
 |next =>
  obtain⟨σ',H',I',q⟩:=q
  exact h2 Ml s1 σ' H' D W xe I' q hx
 |ret v=>exact q
 |brk=>exact q
 |cont=>exact q
theorem An{t:TSX}(h1:PSX X st t):jZ X [st] t:=by
 intro Ml s σ H D W xe I h hx
 refine Lj (thn (h1 Ml s σ H D W xe I h hx) fun f s1 q=>?_)
 cases f with
 |next=>exact KW q
 |ret v=>exact q
 |brk=>exact q
 |cont=>exact q
theorem Fs{c:Expr}{a b:OV}{tc:TT}{t u:TSX}(hc:PT X.nox c tc)(ha:jZ X a t)(hb:jZ X b u):PSX X (.If c a b pos) (fun D W σ H=>tc σ H fun b H1=>if b=true then t D W σ H1 else u D W σ H1):=by
 intro Ml s σ H D W xe I h hx
 refine wpAny_If (JM (hc Ml s σ H _ (I.wish _) h) (fun d s1 zz138_0=>?_) fun _ _ z=>False.elim z)
 obtain⟨H1,I1,q1⟩:=zz138_0
 cases d with
 |true=>exact ha Ml s1 σ H1 D W xe I1.unwish q1 hx
 |false=>exact hb Ml s1 σ H1 D W xe I1.unwish q1 hx
theorem Ao{te:TEX}(he:PEX X e te)(hs:swapsWith e none pos.line X.env=pure false:=by rfl):PSX X (.Expr e pos) (fun D W σ H=>te σ H (fun _ H1=>D.nx σ H1) W):=by
 intro Ml s σ H D W xe I h hx
 exact wpAny_Expr_any (thn (he Ml s σ H _ W xe I h hx) fun v s1 zz139_0=>by obtain⟨x,H1,I1,r1,q1⟩:=zz139_0;exact⟨σ,H1,I1,q1⟩) I.quiet hs
theorem CV{te:TEX}(he:PEX X e te):PSX X (.Return (some e) pos) (fun D W σ H=>te σ H D.rt W):=by
 intro Ml s σ H D W xe I h hx
 exact wpAny_Return_some (thn (he Ml s σ H _ W xe I h hx) fun v s1 zz140_0=>by obtain⟨x,H1,I1,r1,q1⟩:=zz140_0;exact⟨x,σ,H1,I1,r1,q1⟩)
end
section
variable {X:Cx}{k:Nat}{f:Addr}{fd:FuncData}{ps:OD}{sp:Sp}{x:Str}{p pos:Pos}{e:Expr}{es:OP}{t:TA}
theorem t9(F:aX X.prog X.w X.K X.mg X.base (CX1 X.prog X.w) k f fd ps sp)(hr:dj k X.A)(hg:Gl X x)(hm:X.mg x=some (.ref f))(hk:PySem.W.keepIn X.K (.ref f)=true)(hb:fj X.K fd ps [])
  (ha:PA X.nox (e :: es) t) (hdb:(x == ("__debug__" : Str))=false:=by decide) (he:starEach (e :: es) X.env=(false,eval e X.env) :: starEach es X.env:=by rfl) (hpl:(backTo pos (starEach es X.env)).any (·.1)=false:=by rfl) :
  PEX X (.Call (.Name x p) (e :: es) [] pos) (fun σ H Q W=>t σ H fun vs H1=>∃E:XK,sp vs H1 Q E/\∀c d H',E c d H'->W σ c d H'):=by
 intro Ml s σ H Q W xe I h hx
 refine KD (ja I hg hm ?_ hdb)
 refine Ll (h₀:=X.base) I.ok.mod.kin hk (JM (ha pos Ml s σ H _ (I.wish _) h) (fun us s1 ⟨vs,H1,I1,r,q⟩=>⟨I1.unwish.kIn,?_⟩) fun _ _ z=>False.elim z) he hpl
 have I1:=I1.unwish
 obtain⟨E,h1,hE⟩:=q
 have hl:us.length=ps.length:=by rw[<-r.length];exact F.len _ _ _ _ h1
 have hb':=hb s1 us I1.kIn (by rw[JZ];exact hl)
 rw[JZ]at hb'
 refine Mj (La (F.run X.A X.stack s1 H1 ⟨us,[]⟩ us vs Q E hr I1.env0 hb' r h1) fun r s' hq=>?_)
 cases r with
 |error e=>exact hx e s' (I1.raised hq hE)
 |ok fl =>
  cases fl with
  |ret u=>exact I1.after hq
  |next=>exact False.elim hq
  |brk=>exact False.elim hq
  |cont=>exact False.elim hq
end
theorem Gj{P:Program}{w:World}{K:OE}{mg:OI}{base:Heap}{k:Nat}{f:Addr}{name qual:Str}{params:Arguments}{body:OV}{scope:Scope}{dV kV doc pm cdv ct oc:Value}{an od:Oy}
  {osl:PJ} {N ps:OD}{sp:Sp} (lk:K.lookup f=some ⟨oc,od,.func (PySem.W.fnOf name qual params body scope dV kV doc pm an cdv ct),osl⟩) (hcd:PySem.W.codeIn K cdv qual=true) (S:aE N ps scope)
  (len:∀vs H Q E,sp vs H Q E->vs.length=ps.length)
  (Mt:∀(A:Around) (outer:OZ) (s:Shared) (H:Hp) (vs:ON) (Q:VK) (E:XK),dj k (A.deeper (envOfC qual scope s.heap.objs.size f cdv))->sp vs H Q E ->
   ∃t,jZ (jN (CX1 P w) P w K mg base N qual scope f cdv A outer s H E) body t/\t { nx:=fun _ H'=>Q .non H',rt:=Q } (fun _ c d H'=>E c d H') (start N vs) H) :
  aX P w K mg base (CX1 P w) (k + 1) f (PySem.W.fnOf name qual params body scope dV kV doc pm an cdv ct) ps sp:=by
 refine EB lk hcd S len fun A outer s H vs Q E hr hs=>?_
 obtain⟨t,h1,h2⟩:=Mt A outer s H vs Q E hr hs
 exact⟨fun D σ H'=>t D (fun _ c d H'=>E c d H') σ H',fun Ml s' σ H' D I h=>h1 Ml s' σ H' D _ _ I h fun e s'' x=>y9 x,h2⟩
structure mn (K:OE) (C:Addr) (cd:ClassData):Prop where
 cls:PySem.W.clsIn K C=some cd
 pass:∀self,refuseLoop self "__setattr__" cd.mro=pure ()
 obj:cd.mro.contains (.type "object")=true
 exc:cd.mro.contains (.type "BaseException")=true
 hd:cd.hasDict=true
 sa:PySem.W.findIn K (.ref C) "__setattr__" = some (some (.builtin "object.__setattr__"))
 ga:PySem.W.findIn K (.ref C) "__getattribute__" = some (some (.builtin "BaseException.__getattribute__"))
 gt:PySem.W.findIn K (.ref C) "__getattr__" = some none
def er0(e C t:Addr)(h:Heap):Prop:=h.get? e=some (dG C t)
def er1(e C t dx:Addr)(h:Heap):Prop:=h.get? e=some { dG C t with dict:=some dx }
section
variable {X:Cx}{o value:Expr}{ta tv:TE}{f:Str}{pos pos':Pos}
def sXf(K:OE)(ta tv:TE)(f:Str):TS:=fun D σ H=>tv σ H fun y H1=>ta σ H1 fun x H2=>∃e C t cd,x=.ref e/\H2 e=some (.ext (er0 e C t))/\mn K C cd/\PySem.W.findIn K (.ref C) f=some none /\
 ∀dx,H2 dx=none->dx ≠ e->D.nx σ (upd (upd H2 e (.ext (er1 e C t dx))) dx (.xd [(f,y)]))
theorem Er(ha:PE X o ta)(hv:PE X value tv)(hs:swapsWith value (some (.Attribute o f pos')) pos.line X.env=pure false):PS X (.Assign [.Attribute o f pos'] value pos) (sXf X.K ta tv f):=by
 intro Ml s σ H D I h
 refine plainObj_wpAny_Assign_Attribute (thn (hv Ml s σ H _ I h) fun u s1 ⟨y,H1,I1,ry,q⟩=>thn (ha Ml s1 σ H1 _ I1 q) fun ov s2 zz143_0=>?_) hs
 obtain⟨x,H2,I2,rx,e,C,t,cd,ex,ee,c,hn,q2⟩:=zz143_0
 subst ex
 obtain rfl:ov=Value.ref e:=rx
 have he:s2.heap.get? e=some (dG C t):=(I2.hok e _ ee).1
 have hI:s2.heap.Inst e C (fun _=>none):=⟨_,he,rfl,fun c z=>(by cases z),.inl ⟨rfl,fun _=>rfl⟩⟩
 refine y7 (ns:=[]) I2.kIn hI c.cls c.pass c.obj c.hd c.sa hn Within.nil (by simp) fun h' tk' i1 i2 i3=>?_
 obtain⟨dx,e1,e2⟩:=i3 _ he
 have hdz:s2.heap.objs.size<=dx:=by
  rcases e2 with z |⟨_,z⟩
  ·cases z
  ·exact z
 have hdH:H2 dx=none:=I2.hok.fresh hdz
 have hde:dx ≠ e:=fun z=>absurd (Ju he) (by rw[<-z];exact Nat.not_lt.mpr hdz)
 have kp:∀b ob,b ≠ e->s2.heap.get? b=some ob->h'.get? b=some ob:=fun b ob hb z=>i2 b ob hb (fun o0 d0 z1 z2=>by rw[he]at z1;cases z1;cases z2) z
 have hns:h'.Ns1 dx (fun g=>if g=f then some u else none):=by
  obtain⟨o',a1,a2,a3,a4⟩:=i1
  rw[e1]at a1;cases a1
  rcases a4 with⟨z,_⟩ |⟨d',z1,z2,z3⟩
  ·cases z
  ·cases z1;exact z3
 have nd:∀b ob,H2 b=some ob->b ≠ dx:=fun b ob z w=>by rw[w,hdH]at z;cases z
 have I3:Inv X Ml σ (upd (upd H2 e (.ext (er1 e C t dx))) dx (.xd [(f,y)])) { s2 with heap:=h',toks:=tk' }:=by
  refine I2.un ⟨fun b ob z n _ _=>?_,fun b ob z n _ _=>?_,fun b ob z n _=>?_,fun b ob z _=>?_,fun b xs z=>?_,fun b ob xs z=>?_,fun b ps z=>?_⟩ fun b u' z=>?_
  ·exact kp b ob (fun w=>by rw[w,ee]at n;cases n) z
  ·exact⟨ob.slots,kp b ob (fun w=>by rw[w,ee]at n;cases n) z⟩
  ·rw[ap (JI (JL (Ju z) hdz)),ap (fun w=>by rw[w,ee]at n;cases n)];exact n
  ·by_cases hb:b=e
   ·rw[hb];exact⟨_,e1⟩
   ·exact⟨ob,kp b ob hb z⟩
  ·rw[ap (nd b _ z),ap (fun w=>by rw[w,ee]at z;cases z)];exact z
  ·rw[ap (nd b _ z),ap (fun w=>by rw[w,ee]at z;cases z)];exact z
  ·exact⟨#[],by rw[ap (nd b _ z),ap (fun w=>by rw[w,ee]at z;cases z),z];simp⟩
  ·by_cases hb:b=dx
   ·subst hb
    rw[ax]at z
    cases z
    refine⟨_,hns,fun g=>?_⟩
    show iu (List.lookup g [(f,y)]) (if g=f then some u else none)
    by_cases hg:g=f
    ·subst hg;rw[if_pos rfl];simp[iu,ry]
    ·rw[if_neg hg]
     have:(g == f)=false:=by simpa using hg
     simp[List.lookup,this,iu]
   ·rw[ap hb]at z
    by_cases hb2:b=e
    ·subst hb2
     rw[ax]at z
     cases z
     exact⟨e1,⟨_,e1⟩,fun h1 h2 z1 z2=>z2 _ z1⟩
    ·rw[ap hb2]at z
     refine(I2.hok b u' z).stay (fun c v hc w=>kp c v (fun z3=>?_) w) (fun c w=>?_) fun c xs w=>?_
     ·rcases hc with rfl |hc
      ·exact hb2 z3
      ·rw[z3,ee]at hc;cases hc
     ·rw[ap (nd c _ w),ap (fun z3=>by rw[z3,ee]at w;cases w)];exact w
     ·rw[ap (nd c _ w),ap (fun z3=>by rw[z3,ee]at w;cases w)];exact w
 exact⟨σ,_,I3,q2 dx hdH hde⟩
end
variable{K:OE}
theorem Dg{N:Addr}{m:OI}{n:Str}{v:Value}(X:K.In h)(G:h.Ns N m)(z:PySem.W.nsIn K N n=some (some v)):m n=some v:=by
 obtain⟨ob,es,ep,hob,hdt,_,NJ⟩:=G
 unfold PySem.W.nsIn at z
 split at z
 ·rename_i c d es' n' sl q
  have w:=X _ _ q
  rw[hob]at w
  cases w
  cases hdt
  split at z
  ·rename_i en hen
   cases z
   rw[<-NJ]
   unfold nsFind findBy
   rw[<-Array.find?_toList,hen];rfl
  ·split at z <;> cases z
 ·cases z
theorem l8{C fI:Addr}(X:K.In h)(q:nD K C fI=true):∃nm qn N bs bm hdct sn sub ab col dd k0 k1 k2 k3 k5 mN,h.get? C=some (excClassObj nm qn C N bs bm hdct sn sub ab col dd k0 k1 k2 k3 k5 "ValueError.__new__")/\h.Ns N mN/\mN "__init__" = some (.ref fI)/\OwnTail h bmV bm:=by
 unfold nD at q
 split at q
 ·rename_i dd cd sl ho
  split at q
  ·rename_i C' bm k0 k1 k2 k3 n k5 hm hs
   simp only[JG,Mb,Lv]at q
   obtain⟨q1,q2,Nr,ht,hok,hni⟩:=q
   subst q1 q2
   obtain⟨nm,bs,mro,ns,qn,hd,sn,sub,ab,col,del⟩:=cd
   dsimp only at hm Nr hok hni
   subst hm Nr
   have hsl:sl=#[k0,k1,k2,k3,some (.builtin "ValueError.__new__"),k5]:=by
    obtain⟨l⟩:=sl
    simp only at hs
    rw[hs]
   subst hsl
   have hN:h.Ns ns (h.nsMap ns):=.of_isNs (PySem.W.isNs_of_in X hok)
   exact⟨nm,qn,ns,bs,bm,hd,sn,sub,ab,col,dd,k0,k1,k2,k3,k5,_,X _ _ ho,hN,Dg X hN hni,PySem.W.tail_of_in X ht⟩
  ·cases q
 ·cases q
section
variable {M:Model}{A:Around}{E:OA}{env:Env}{s:Shared}
variable {nm q:Str}{C N:Addr}{bs bm:OH}{hdct:Bool}{sn:OD}{sub:OH}{ab:Bool}{col:PP}{dd:Oy}{k0 k1 k2 k3 k5:PB}{newId:String}
theorem vB{x:Sem Value}{Q:Flow->Shared->Prop}(Mq:bm.contains (.type "BaseException")=true)(hh:A.handled=none)
  (h:wpAny M A x (fun v s1=>∃e o vs,v=.ref e/\s1.heap.get? C=some (excClassObj nm q C N bs bm hdct sn sub ab col dd k0 k1 k2 k3 k5 newId)/\s1.heap.get? e=some o/\o.cls=.ref C/\o.data=.fields vs/\vs[1]? = some .none/\E (.ref e) s1) E s) :
  wpAny M A (raiseStmt env (some x) none) Q E s:=by
 have hcB:(Value.ref C :: bm).contains (.type "BaseException")=true:=by rw[L8,Mq,Bool.or_true]
 unfold raiseStmt
 refine Jn (JM h (fun v s1 z=>?_) fun _ _ z=>z)
 obtain⟨e,o,vs,rfl,hC,he,hcl,hd,h1,hE⟩:=z
 obtain⟨hp,g,d,tk,os⟩:=s1
 repeat (first | (with_reducible refine JN he ?_;rw[hcl]) |with_reducible refine JN hC ?_ | (with_reducible refine Me hC ?_;rw[hcB]) |with_reducible refine J_ he hd h1 ?_ |wp_step)
 exact wpAny_raiseNew_none hh hE
end
def rmH(H:Hp)(e:Addr):Hp:=fun b=>if b=e then none else H b
variable{e:Addr}{H:Hp}
theorem dh{b:Addr}(h:b ≠ e):rmH H e b=H b:=if_neg h
theorem fN:rmH H e e=none:=if_pos rfl
theorem Inv.untrack{X:Cx}{Ml:OC}{σ:St}{s:Shared}{φ:Heap->Prop}(I:Inv X Ml σ H s)(he:H e=some (.ext φ)):Inv X Ml σ (rmH H e) s:=by
 have ne:∀b u,H b=some u->(∀ψ,u ≠ .ext ψ)->b ≠ e:=fun b u z n w=>by rw[w,he]at z;cases z;exact n φ rfl
 have J:=I.un (t':=s.toks) (H':=rmH H e) (h':=s.heap) ⟨fun b o z _ _ _=>z,fun b o z _ _ _=>⟨o.slots,z⟩,fun b o z n _=>?_,fun b o z _=>⟨o,z⟩,fun b xs z=>?_,fun b o xs z=>?_,fun b ps z=>?_⟩ fun b u z=>?_
 ·exact J
 ·by_cases hb:b=e
  ·rw[hb];exact fN
  ·rw[dh hb];exact n
 ·rw[dh (ne b _ z fun ψ w=>by cases w)];exact z
 ·rw[dh (ne b _ z fun ψ w=>by cases w)];exact z
 ·exact⟨#[],by rw[dh (ne b _ z fun ψ w=>by cases w),z];simp⟩
 ·have hb:b ≠ e:=fun w=>by rw[w,fN]at z;cases z
  rw[dh hb]at z
  refine(I.hok b u z).stay (fun c v _ w=>w) (fun c w=>?_) fun c xs w=>?_
  ·rw[dh (ne c _ w fun ψ z=>by cases z)];exact w
  ·rw[dh (ne c _ w fun ψ z=>by cases z)];exact w
def spI(C:Addr)(f:Str):Sp:=fun vs H Q _=>∃e t v,vs=[V.ref e,v]/\H e=some (.ext (er0 e C t))/\∀dx,H dx=none->dx ≠ e->Q .non (upd (upd H e (.ext (er1 e C t dx))) dx (.xd [(f,v)]))
theorem xv{C fI:Addr}(q:nD K C fI=true):∃o,K.lookup C=some o:=by
 unfold nD at q
 split at q
 ·rename_i z;exact⟨_,z⟩
 ·cases q
section
variable {X:Cx}{k:Nat}{fI C:Addr}{fd:FuncData}{f p x:Str}{np Mn pos:Pos}{arg:Expr}{t:TA}
theorem yn(hq:nD X.K C fI=true)(F:aX X.prog X.w X.K X.mg X.base CX0 k fI fd ["self",p] (spI C f))(hb:fj X.K fd ["self",p] [])(hfn:PySem.W.isFn X.K (.ref fI)=true)(hr:dj (k + 1) X.A)(hc:X.calm=true)
  (hg:Gl X x) (hm:X.mg x=some (.ref C)) (hk:PySem.W.keepIn X.K (.ref C)=true) (ha:PA X.nox [arg] t) (hdb:(x == ("__debug__" : Str))=false:=by decide) (he:starEach [arg] X.env=(false,eval arg X.env) :: starEach [] X.env:=by rfl) (hpl:(backTo Mn (starEach [] X.env)).any (·.1)=false:=by rfl) :
  PSX X (.Raise (some (.Call (.Name x np) [arg] [] Mn)) none pos) (fun D W σ H=>t σ H fun vs H1=>∃v,vs=[v]/\∀dx,H1 dx=none->W σ (.ref C) (some dx) (upd H1 dx (.xd [(f,v)]))):=by
 intro Ml s σ H D W xe I h hx
 obtain⟨nm,qn,N,bs,bm,hdct,sn,sub,ab,col,dd,k0,k1,k2,k3,k5,mN0,hC0,_,_,T0⟩:=l8 I.kIn hq
 have Mq:bm.contains (.type "BaseException")=true:=T0.hasType (Kz).hasBase
 rw[arm_exec_Raise]
 refine Jn (KN (vB (C:=C) (nm:=nm) (q:=qn) (N:=N) (bs:=bs) (bm:=bm) (hdct:=hdct) (sn:=sn) (sub:=sub) (ab:=ab) (col:=col) (dd:=dd) (k0:=k0) (k1:=k1) (k2:=k2) (k3:=k3) (k5:=k5) (newId := "ValueError.__new__") Mq (I.ok.hd hc) ?_))
 refine Jn (JM (KD (ja I hg hm ?_ hdb)) (fun v s3 z=>Jn (KN (Jv z))) fun _ _ z=>z)
 refine Ll (h₀:=X.base) I.ok.mod.kin hk (JM (ha Mn Ml s σ H _ (I.wish _) h) (fun us s1 ⟨vs,H1,I1,r,v,hvs,q⟩=>⟨I1.unwish.kIn,?_⟩) fun _ _ z=>False.elim z) he hpl
 have I1:=I1.unwish
 subst hvs
 obtain⟨u,rv,rfl⟩:∃u,bi v u/\us=[u]:=by
  cases r with
  |cons a b=>cases b;exact⟨_,a,rfl⟩
 obtain⟨oC,hoC⟩:=xv hq
 have sameC:∀s':Shared,X.K.In s'.heap->s'.heap.get? C=s.heap.get? C:=fun s' z=>(z _ _ hoC).trans (I.kIn _ _ hoC).symm
 obtain⟨nm1,qn1,N1,bs1,bm1,Np,sn1,sub1,ab1,col1,dd1,j0,j1,j2,j3,j5,mN1,hC1,hN1,hi1,T1⟩:=l8 I1.kIn hq
 obtain⟨oI,hoI,hclI⟩:∃oI,s1.heap.get? fI=some oI/\oI.cls=.type "function" := by
  have z:PySem.W.typeIn X.K (.ref fI)=some (.type "function"):=beq_iff_eq.mp hfn
  obtain⟨o,w1,w2⟩:=Option.map_eq_some_iff.mp z
  exact⟨o,I1.kIn _ _ w1,w2⟩
 have hz:X.s₀.heap.objs.size<=s1.heap.objs.size:=I1.sz
 have M4:∀p ∈ X.pn ++ Ml,p.1 < s1.heap.objs.size:=fun p hp=>Ju (I1.pin p hp).1
 have hHe:H1 (s1.heap.objs.size + 1)=none:=I1.hok.fresh (KA _)
 obtain⟨hh,g,dr,tk,os⟩:=s1
 show wpAny _ _ (call (.ref C) [u]) _ _ _
 refine uN (Kz) T1 hC1 hN1 hi1 hoI hclI ?_ (by rw[KY];simp)
 have he2:((hh.push { cls:=.type "tuple",data:=.seq [u].toArray }).push (dG C hh.objs.size)).get? (hh.objs.size + 1)=some (dG C hh.objs.size):=by heap_get
 have I2:Inv X Ml σ (upd H1 (hh.objs.size + 1) (.ext (er0 (hh.objs.size + 1) C hh.objs.size))) ⟨(hh.push { cls:=.type "tuple",data:=.seq [u].toArray }).push (dG C hh.objs.size),g,dr,tk,os⟩:=
  I1.laid (t':=tk) (fun b o z=>Jp _ (Jp _ z)) (KA _) ⟨he2,⟨_,he2⟩,fun h1 h2 z1 z2=>z2 _ z1⟩
 have hsp:spI C f [V.ref (hh.objs.size + 1),v] (upd H1 (hh.objs.size + 1) (.ext (er0 (hh.objs.size + 1) C hh.objs.size))) (fun r H'=>r=.non/\∃dx,H1 dx=none/\dx ≠ hh.objs.size + 1/\H'=upd (upd (upd H1 (hh.objs.size + 1) (.ext (er0 (hh.objs.size + 1) C hh.objs.size))) (hh.objs.size + 1) (.ext (er1 (hh.objs.size + 1) C hh.objs.size dx))) dx (.xd [(f,v)])) E0 :=
  ⟨_,_,v,rfl,ax,fun dx z1 z2=>⟨rfl,dx,by rw[ap z2]at z1;exact z1,z2,rfl⟩⟩
 have hb':=hb ⟨(hh.push { cls:=.type "tuple",data:=.seq [u].toArray }).push (dG C hh.objs.size),g,dr,tk,os⟩ [.ref (hh.objs.size + 1),u] I2.kIn rfl
 refine Mj (La (F.run _ X.stack _ _ ⟨[.ref (hh.objs.size + 1),u],[]⟩ [.ref (hh.objs.size + 1),u] [V.ref (hh.objs.size + 1),v] _ E0 (hr.make C [u] []) (I2.env0.make C [u] []) hb' (.cons rfl (.cons rv .nil)) hsp) fun r s' hq'=>?_)
 cases r with
 |error e=>exact False.elim hq'
 |ok fl =>
  cases fl with
  |ret w =>
   obtain⟨v',H',I3,rv',ev,dx,d1,d2,eH⟩:=I2.after hq'
   subst ev
   have hHe':H' (hh.objs.size + 1)=some (.ext (er1 (hh.objs.size + 1) C hh.objs.size dx)):=by rw[eH,ap (Ne.symm d2),ax]
   have MD:s'.heap.get? (hh.objs.size + 1)=some { dG C hh.objs.size with dict:=some dx }:=(I3.hok _ _ hHe').1
   have I4:=I3.untrack hHe'
   have eR:rmH H' (hh.objs.size + 1)=upd H1 dx (.xd [(f,v)]):=by
    funext b
    by_cases hb0:b=hh.objs.size + 1
    ·rw[hb0,fN,ap (Ne.symm d2)];exact hHe.symm
    ·rw[dh hb0,eH]
     by_cases hb1:b=dx
     ·rw[hb1,ax,ax]
     ·rw[ap hb1,ap hb1,ap hb0,ap hb0]
   rw[eR]at I4
   refine⟨rv',hh.objs.size + 1,_,_,rfl,(sameC s' I3.kIn).trans hC0,MD,rfl,rfl,rfl,hx _ _ ⟨σ,hh.objs.size + 1,C,dx,{ dG C hh.objs.size with dict:=some dx },_,rfl,I4,.inl ⟨_,MD,rfl,rfl⟩,⟨rfl,rfl,d2,?_,Jy hz (KA _),fun _ _ _=>rfl⟩,fun p hp z=>?_,q dx d1⟩⟩
   ·rw[ap (Ne.symm d2)];exact hHe
   ·have:=M4 p hp
    rw[z]at this
    exact absurd this (Nat.not_lt.mpr (KA _))
  |next=>exact False.elim hq'
  |brk=>exact False.elim hq'
  |cont=>exact False.elim hq'
end
def Cx.hnd(X:Cx)(a:Addr)(oe:Obj):Cx:={ X with A:=X.A.mark (some (.ref a)),calm:=false,pn:=(a,oe) :: X.pn,xe:=fun _ _=>False }
def Cx.hnd2(X:Cx)(a:Addr)(oe:Obj)(dx:Addr)(od:Obj):Cx:={ X.hnd a oe with pn:=(a,oe) :: (dx,od) :: X.pn }
def dR(dx:Addr)(od:Obj)(vs:OW):Prop:=∃mA,(∀h:Heap,h.get? dx=some od->h.Ns1 dx mA)/\∀f,iu (vs.lookup f) (mA f)
section
variable {X:Cx}{Ml:OC} {σ:St}{H:Hp}{s:Shared}{a:Addr}{oe:Obj}
theorem Inv.untrackX{vs:OW}(I:Inv X Ml σ H s)(he:H e=some (.xd vs)):Inv X Ml σ (rmH H e) s:=by
 have ne:∀b u,H b=some u->(∀ψ,u ≠ .xd ψ)->b ≠ e:=fun b u z n w=>by rw[w,he]at z;cases z;exact n vs rfl
 have J:=I.un (t':=s.toks) (H':=rmH H e) (h':=s.heap) ⟨fun b o z _ _ _=>z,fun b o z _ _ _=>⟨o.slots,z⟩,fun b o z n _=>?_,fun b o z _=>⟨o,z⟩,fun b xs z=>?_,fun b o xs z=>?_,fun b ps z=>?_⟩ fun b u z=>?_
 ·exact J
 ·by_cases hb:b=e
  ·rw[hb];exact fN
  ·rw[dh hb];exact n
 ·rw[dh (ne b _ z fun ψ w=>by cases w)];exact z
 ·rw[dh (ne b _ z fun ψ w=>by cases w)];exact z
 ·exact⟨#[],by rw[dh (ne b _ z fun ψ w=>by cases w),z];simp⟩
 ·have hb:b ≠ e:=fun w=>by rw[w,fN]at z;cases z
  rw[dh hb]at z
  refine(I.hok b u z).stay (fun c v _ w=>w) (fun c w=>?_) fun c xs w=>?_
  ·rw[dh (ne c _ w fun ψ z=>by cases z)];exact w
  ·rw[dh (ne c _ w fun ψ z=>by cases z)];exact w
theorem Inv.hnd(I:Inv X Ml σ H s){vs:OM}(he:s.heap.get? a=some oe)(hd:oe.data=.fields vs)(hH:H a=none):Inv (X.hnd a oe) Ml σ H s:=by
 obtain⟨q1,q2,q3⟩:=I.recd he hd
 have nf:a ∉ X.fs:=fun z=>by
  obtain⟨_,o',ho,hnf⟩:=I.funs.mem z
  rw[he]at ho;cases ho
  exact hnf vs hd
 refine⟨⟨I.ok.mod,I.ok.kind,I.ok.glob,I.ok.blt,I.ok.above,I.ok.inj,I.ok.has,I.ok.cab,fun z=>(by cases z),I.ok.frames,I.ok.stk,I.ok.exf,I.ok.bs,I.ok.bsz,I.ok.noex,I.ok.exfs,I.ok.funs,I.ok.frf⟩,I.os,I.bare,I.base,I.loc,I.cell,I.free,I.freeC,fun p hp=>?_,I.hok,I.len⟩
 rcases List.mem_cons.mp hp with rfl |hp
 ·exact⟨he,hH,q1,nf,fun v z=>by rw[hd]at z;cases z⟩
 ·exact I.pin p hp
theorem Inv.hnd2(I:Inv X Ml σ H s){vs:OM}{dx:Addr}{fs:OW}(he:s.heap.get? a=some oe)(hd:oe.data=.fields vs)(hH:H a=none)(hx:H dx=some (.xd fs)):∃od,dR dx od fs/\Inv (X.hnd2 a oe dx od) Ml σ (rmH H dx) s:=by
 obtain⟨mA,⟨od,es,ep,e1,e2⟩,hr⟩:=I.hok dx _ hx
 have I2:=I.untrackX hx
 obtain⟨q1,q2,q3⟩:=I.recd he hd
 have nf:a ∉ X.fs:=fun z=>by
  obtain⟨_,o',ho,hnf⟩:=I.funs.mem z
  rw[he]at ho;cases ho
  exact hnf vs hd
 have ndx:dx ∉ X.fs:=fun z=>by
  obtain⟨_,o',ho,_⟩:=I.ok.funs.mem z
  have w:=I.base.free dx o' ho (I.ok.frf dx z) fun y=>I.ok.exfs dx y z
  rw[hx]at w;cases w
 have NX:a ≠ dx:=fun z=>by rw[<-z,hH]at hx;cases hx
 refine⟨od,⟨mA,fun h z=>⟨od,es,ep,z,e2⟩,hr⟩,?_⟩
 refine⟨⟨I.ok.mod,I.ok.kind,I.ok.glob,I.ok.blt,I.ok.above,I.ok.inj,I.ok.has,I.ok.cab,fun z=>(by cases z),I.ok.frames,I.ok.stk,I.ok.exf,I.ok.bs,I.ok.bsz,I.ok.noex,I.ok.exfs,I.ok.funs,I.ok.frf⟩,I2.os,I2.bare,I2.base,I2.loc,I2.cell,I2.free,I2.freeC,fun p hp=>?_,I2.hok,I2.len⟩
 rcases List.mem_cons.mp hp with rfl |hp
 ·exact⟨he,by rw[dh NX];exact hH,q1,nf,fun v z=>by rw[hd]at z;cases z⟩
 ·rcases List.mem_cons.mp hp with rfl |hp
  ·exact⟨e1,fN,fun z=>(by rw[show dx=X.env.locals from z,I.free]at hx;cases hx),ndx,fun v z=>by rw[e2.1]at z;cases z⟩
  ·exact I2.pin p hp
theorem Inv.unhnd2{dx:Addr}{od:Obj}(ok:X.Ok)(I:Inv (X.hnd2 a oe dx od) Ml σ H s):Inv X Ml σ H s :=
 ⟨ok,I.os,I.bare,I.base,I.loc,I.cell,I.free,I.freeC,fun p hp=>I.pin p (Jt _ (Jt _ hp)),I.hok,I.len⟩
theorem dM{M:Model}{A:Around}{E:OA}{x:Str}{pos:Pos}{Q:OU}(I:Inv X Ml σ H s)(hN:X.N.Nodup)(hi:X.N[i]? = some x)(hx:X.env.scope.names.lookup x=some .local)
  (h:∀s',Inv X Ml (σ.set i none) H s'->Q () s'):wpAny M A (do bindName X.env x .none;unbindBehindTheSuite X.env x pos) Q E s:=by
 obtain⟨m,hn,hl⟩:=id I.loc
 have MJ:(X.env.scope.kind == .class || (X.env.scope.kind == .module && X.env.locals != X.env.globals))=false:=by rw[I.ok.kind];rfl
 obtain⟨oL,_,_,hoL,_⟩:=id hn
 refine wpAny_nameGoes_keeps hx hn MJ fun h' v hn' hs=>h _ ?_
 have lt:∀b o,X.s₀.heap.get? b=some o->b ≠ X.env.locals:=fun b o e=>JI (JL (Ju e) I.ok.above)
 refine⟨I.ok,I.os,I.bare,⟨fun b o e n hb hx=>(hs.2 b (lt b o e)).trans (I.base.keep b o e n hb hx),fun b o e n hb hx=>?_,I.base.free,fun b o e hx=>?_,I.base.tups,I.base.frzs,I.base.tbls⟩,⟨_,hn',fun j y v' e1 e2 e3=>?_⟩,fun y c e=>?_,I.free,I.freeC,fun p hp=>?_,fun b ob e=>?_,by simpa using I.len⟩
 ·obtain⟨sl,e1⟩:=I.base.slot b o e n hb hx
  exact⟨sl,(hs.2 b (lt b o e)).trans e1⟩
 ·obtain⟨o',e1⟩:=I.base.there b o e hx
  exact⟨o',(hs.2 b (lt b o e)).trans e1⟩
 ·have hj:j ≠ i:=fun z=>by
   subst z
   have hlt:j < σ.length:=by rw[I.len];exact(List.getElem?_eq_some_iff.mp e1).1
   rw[Lc hlt]at e2
   cases e2
  rw[JC (Ne.symm hj)]at e2
  obtain⟨u',r',q⟩:=hl j y v' e1 e2 e3
  refine⟨u',r',?_⟩
  rcases q with⟨k,e⟩ |⟨k,c,e,z⟩
  ·refine .inl ⟨k,?_⟩
   have:y ≠ x:=fun e=>hj (oE hN e1 (e ▸ hi))
   simp[this,e]
  ·exact .inr ⟨k,c,e,z.sameBut hs (I.cne y c e)⟩
 ·obtain⟨w',z⟩:=I.cell y c e
  exact⟨w',z.sameBut hs (I.cne y c e)⟩
 ·obtain⟨e,n,ne,nf,d⟩:=I.pin p hp
  exact⟨(hs.2 p.1 ne).trans e,n,ne,nf,d⟩
 ·refine(I.hok b ob e).stay (fun c w' hc q=>(hs.2 c ?_).trans q) (fun _ q=>q) fun _ _ q=>q
  intro z
  subst z
  rcases hc with hc |hc
  ·rw[<-hc,I.free]at e;cases e
  ·rw[I.free]at hc;cases hc
end
section
abbrev PQ:=Addr->List (Str×V)->TS
variable {X:Cx}{body Ms:OV}{b₀:Stmt}{cn en:Str}{C fI:Addr}{i:Nat}{np My pos:Pos}{tb:TSX}{th:PQ}
def f7(i:Nat)(D:fe):fe:=⟨fun σ H=>D.nx (σ.set i none) H,D.rt,fun σ H=>D.bk (σ.set i none) H,fun σ H=>D.ct (σ.set i none) H⟩
theorem SP.gone{M:Model}{A:Around}{E:OA}{Ml:OC}{a dx:Addr}{oe od:Obj}{D:fe}{f:Flow}{s:Shared}(ok:X.Ok)(hN:X.N.Nodup)(hi:X.N[i]? = some en)(hl:X.env.scope.names.lookup en=some .local)
  (h:SP (X.hnd2 a oe dx od) Ml (f7 i D) f s):wpAny M A (do bindName X.env en .none;unbindBehindTheSuite X.env en pos) (fun _ s5=>SP X Ml D f s5) E s:=by
 cases f with
 |next=>obtain⟨σ',H',I,q⟩:=h;exact dM (I.unhnd2 ok) hN hi hl fun s' J=>⟨_,H',J,q⟩
 |brk=>obtain⟨σ',H',I,q⟩:=h;exact dM (I.unhnd2 ok) hN hi hl fun s' J=>⟨_,H',J,q⟩
 |cont=>obtain⟨σ',H',I,q⟩:=h;exact dM (I.unhnd2 ok) hN hi hl fun s' J=>⟨_,H',J,q⟩
 |ret u=>obtain⟨v,σ',H',I,r,q⟩:=h;exact dM (I.unhnd2 ok) hN hi hl fun s' J=>⟨v,_,H',J,r,q⟩
end
section
variable {X:Cx}{a dx C:Addr}{oe od:Obj}{vs:OM}{fs:OW} {cd:ClassData}{e:Expr}{f:Str}{ta:TE}{pos:Pos}
theorem C8(hc:oe.cls=.ref C)(hd:oe.dict=some dx)(Mx:oe.data=.fields vs)(hne:dx ≠ a)(xc:mn X.K C cd)(hn:PySem.W.findIn X.K (.ref C) f=some none)(hdh:dR dx od fs)(he:PE (X.hnd2 a oe dx od) e ta)(hb:attributeBase e f X.env (eval e X.env)=eval e X.env:=by rfl) :
  PE (X.hnd2 a oe dx od) (.Attribute e f pos) (fun σ H Q=>ta σ H fun x H1=>x=.ref a/\∃v,fs.lookup f=some v/\Q v H1):=by
 intro Ml s σ H Q I h
 refine xL hb (thn (he Ml s σ H _ I h) fun u s1 z=>?_)
 obtain⟨x,H1,I1,rx,ex,v,hl,q⟩:=z
 subst ex
 obtain rfl:u=Value.ref a:=rx
 have hp:=(I1.pin (a,oe) (Jq ..)).1
 obtain⟨mA,hns,hr⟩:=hdh
 have hns:=hns s1.heap (I1.pin (dx,od) (Jt _ (Jq ..))).1
 obtain⟨u',hu,ru⟩:=iu.some_of (v:=v) (o:=mA f) (by rw[<-hl];exact hr f)
 have hI:s1.heap.Inst a C mA:=⟨oe,hp,hc,fun c z=>(by rw[Mx]at z;cases z),.inr ⟨dx,hd,hne,hns⟩⟩
 have hk:=I1.kIn
 have MZ:∀tk,EP (X.hnd2 a oe dx od) Ml σ Q u' { s1 with toks:=tk }:=fun tk=>⟨v,H1,I1.tok tk,ru,q⟩
 obtain⟨hh,g,dr,tk,os⟩:=s1
 exact uM hk hI xc.cls xc.hd xc.exc xc.ga xc.gt hn hu (PySem.W.handedOut_of (qI ru)) (MZ _)
end
section
variable {prog:Program}{w:World}{A:Around}{E:OA}{h:Heap}{g:Array GenState}{dr:Drawn}{t:Nat}{os:OsState}{K:OE}{a C:Addr}{o:Obj}{cd:ClassData}
theorem lkS{M:Model}{base:Value}{r:Bool}{Q:Bool->Shared->Prop}(X:K.In h)(e:PySem.W.mroIn K C base=some r)(q:Q r ⟨h,g,dr,t,os⟩):wpAny M A (isSubtype (.ref C) base) Q E ⟨h,g,dr,t,os⟩:=PySem.W.looks_mroIn X e _ _ _ _ (fun _ _ z=>z) q
theorem zA{R:Result->Shared->Prop}(X:K.In h)(hx:h.get? a=some o)(hcl:o.cls=.ref C)(ho:PySem.W.mroIn K C (.type "object")=some true)(q:R (.ok (.ret (.ref C))) ⟨h,g,dr,t,os⟩) :
  codeAny (model prog w) A (.call (.builtin "getset_descriptor.__get__") ⟨[.builtin "object.__class__",.ref a,.ref C],[]⟩) R ⟨h,g,dr,t,os⟩:=by
 have hT5:(⟨h,g,dr,t,os⟩:Shared).TypeIs (.builtin "object.__class__") "getset_descriptor" := L4
 have hs:PySem.W.mroIn K C (.type (".".intercalate ("object.__class__".cutAt '.').dropLast))=some true:=by rw[F.owner_object_class];exact ho
 refine Lk F.slot_gs_get.plain F.entry_gs_get (F.slot_gs_get.check _ _ _ _ _ _ _ _ hT5 (F.args_gs_get _ _ _) ?_)
 repeat (any_goals (first |assumption | (with_reducible refine JN hx ?_;rw[hcl]) |with_reducible refine lkS X hs ?_ |wp_step))
 refine⟨LG _ (by decide +kernel),Le F.entry_object_class ?_⟩
 repeat (any_goals (first |assumption | (with_reducible refine JN hx ?_;rw[hcl]) |wp_step))
theorem vh{Q:PN}{tk:Tok}(X:K.In h)(hx:h.get? a=some o)(hcl:o.cls=.ref C)(ho:PySem.W.mroIn K C (.type "object")=some true)(hc:PySem.W.findIn K (.ref C) "__class__" = some (some (.builtin "object.__class__")))
  (q:Q (.done (.ret (.ref C))) ⟨h,g,dr,t,os⟩):wpAny (model prog w) A (Builtin.«object.__getattribute__» ⟨[.ref a,.str "__class__" tk],[]⟩) Q E ⟨h,g,dr,t,os⟩:=by
 have hT5:(⟨h,g,dr,t,os⟩:Shared).TypeIs (.builtin "object.__class__") "getset_descriptor" := L4
 have c5:=L4
 have c6:=F.slot_gs_get.lookup
 have c7:=F.slot_gs_set.lookup
 repeat (any_goals (first |assumption | (with_reducible refine JN hx ?_;rw[hcl]) |with_reducible refine lkF X hc ?_ |wp_step))
 refine zA X hx hcl ho ?_
 repeat (any_goals (first |assumption |wp_step))
theorem Cp{Q:OA}{tk:Tok}{fill expr:Bool}(X:K.In h)(hx:h.get? a=some o)(hcl:o.cls=.ref C)(ho:PySem.W.mroIn K C (.type "object")=some true)(hb:PySem.W.mroIn K C (.type "BaseException")=some true)
  (hc:PySem.W.findIn K (.ref C) "__class__" = some (some (.builtin "object.__class__"))) (hga:PySem.W.findIn K (.ref C) "__getattribute__" = some (some (.builtin "BaseException.__getattribute__"))) (hgt:PySem.W.findIn K (.ref C) "__getattr__" = some none)
  (q:Q (.ref C) ⟨h,g,dr,t,os⟩):wpAny (model prog w) A (getAttrBy (.ref a) (.str "__class__" tk) fill expr) Q E ⟨h,g,dr,t,os⟩:=by
 have hx0:(expr && onTheHeap (Value.builtin "BaseException.__getattribute__"))=false:=by cases expr <;> rfl
 have hx1:(onTheHeap (Value.ref C) && Value.builtin "BaseException.__getattribute__" == Value.builtin "object.__getattribute__")=false:=by
  rw[show(Value.builtin "BaseException.__getattribute__" == Value.builtin "object.__getattribute__")=false by decide +kernel];rfl
 have hbs:bindSpecial (.builtin "BaseException.__getattribute__") (.ref a)=pure (.builtin "BaseException.__getattribute__",[.ref a]):=(KU).ga.bind (.ref a)
 have IA:PySem.W.Looks (model prog w) h (typeOf (.ref a)) (.ref C):=(PySem.W.Looks.ld (part:=none) hx).andThen (by rw[hcl];exact .now)
 have sub:PySem.W.Looks (model prog w) h (isInstance (.ref a) (.type "BaseException")) true:=IA.andThen (PySem.W.looks_mroIn X hb)
 have hk:builtinKind "BaseException.__getattribute__" = some .slot:=by decide +kernel
 have hsp:splitId "BaseException.__getattribute__" = some ("BaseException","__getattribute__"):=by decide +kernel
 repeat (any_goals (first |assumption | (with_reducible refine JN hx ?_;rw[hcl]) |with_reducible refine lkF X hga ?_ |with_reducible refine lkF X hgt ?_ |wp_step))
 refine Lk (KU).ga.plain PySem.F.entry_bexc_ga (@PySem.W.check_slot (model prog w) _ _ ⟨h,g,dr,t,os⟩ "BaseException.__getattribute__" "BaseException" "__getattribute__" (.ref a) [.str "__class__" tk] [] _ hk hsp sub (PySem.F.args_bexc_ga (.ref a) (.str "__class__" tk)) ?_)
 refine vh X hx hcl ho hc ?_
 repeat (any_goals (first |assumption |wp_step))
theorem xR{Q:PL}(X:K.In h)(hx:h.get? a=some o)(hcl:o.cls=.ref C)(ho:PySem.W.mroIn K C (.type "object")=some true)(hb:PySem.W.mroIn K C (.type "BaseException")=some true)
  (hc:PySem.W.findIn K (.ref C) "__class__" = some (some (.builtin "object.__class__"))) (hga:PySem.W.findIn K (.ref C) "__getattribute__" = some (some (.builtin "BaseException.__getattribute__"))) (hgt:PySem.W.findIn K (.ref C) "__getattr__" = some none)
  (q:Q (some (.ref C)) ⟨h,g,dr,t + 1,os⟩):wpAny (model prog w) A (getAttr? (.ref a) "__class__") Q E ⟨h,g,dr,t,os⟩:=by
 unfold getAttr? getAttrBy?
 repeat (any_goals (first |assumption |with_reducible apply Cp X hx hcl ho hb hc hga hgt |wp_step))
theorem uy(xc:mn K C cd)(hc:PySem.W.findIn K (.ref C) "__class__" = some (some (.builtin "object.__class__"))):PySem.W.KitX K (.ref a) (.ref C) (fun h=>∃o,h.get? a=some o/\o.cls=.ref C):=by
 have ne0:cd.mro.isEmpty=false:=by
  cases z:cd.mro with
  |nil=>have w:=xc.obj;rw[z]at w;cases w
  |cons _ _=>rfl
 have ho:PySem.W.mroIn K C (.type "object")=some true:=by unfold PySem.W.mroIn;rw[xc.cls,Jd,if_neg (by rw[ne0];decide),xc.obj]
 have hb:PySem.W.mroIn K C (.type "BaseException")=some true:=by unfold PySem.W.mroIn;rw[xc.cls,Jd,if_neg (by rw[ne0];decide),xc.exc]
 have lk:∃c' d' sl',K.lookup C=some ⟨c',d',.cls cd,sl'⟩:=by
  have z:=xc.cls
  unfold PySem.W.clsIn at z
  split at z
  ·rename_i hl
   cases z
   exact⟨_,_,_,hl⟩
  ·cases z
 obtain⟨c',d',sl',hl⟩:=lk
 refine⟨fun M h X p=>?_,fun M h X p=>?_,fun h tp dd its n sl X htp=>?_,fun {prog w A E Q s} X p k=>?_⟩
 ·obtain⟨o,z1,z2⟩:=p
  exact(PySem.W.Looks.ld (part:=none) z1).andThen (by rw[z2];exact .now)
 ·intro A' Q' E' s' k q
  unfold isType loadHead
  exact Jn (wpAny_loadPart (k _ _ (X _ _ hl)) (Jv q))
 ·refine Bool.eq_false_iff.mpr fun q=>?_
  have e:C=tp:=Value.ref.inj (beq_iff_eq.mp q)
  subst e
  have z:=(X _ _ hl).symm.trans htp
  cases z
 ·obtain⟨o,z1,z2⟩:=p
  obtain⟨hh,gg,d,tt,oss⟩:=s
  exact xR X z1 z2 ho hb hc xc.ga xc.gt k
end
end L2
namespace L2.Cu
open PySem PySem.Spec PyProof.Rows
def jc:D->Bool
 |.non=>true
 |.bl _=>true
 |.int _=>true
 |.str _=>true
 |_=>false
def scV:D->V
 |.bl b=>.bl b
 |.int i=>.int i
 |.str x=>.str x
 |_=>.non
variable{d:D}{F:Hp}
theorem Ag{v:V}(r:Rep F v d)(h:jc d=true):v=scV d:=by cases r <;> first |rfl |cases h
theorem z7(h:jc d=true):Rep F (scV d) d:=by cases d <;> first |exact .non |exact .bl _ |exact .int _ |exact .str _ |cases h
abbrev Oz:=List (Str×D)
abbrev scF(fs:Oz):List (Str×V):=fs.map fun p=>(p.1,scV p.2)
inductive bF where
 |ok (r:Out) |xc (n:Nat) (fs:Oz) (E:DE)
def kK(cl:Ou)(B:O8)(F:Hp)(Z:fe)(W:XW):bF->Prop
 |.ok r=>p_ B F Z r
 |.xc n fs E=>∀σ F' H dx,Ok B F' H σ E->Fr F F'->H dx=none->W σ (.ref (cl n)) (some dx) (upd H dx (.xd (scF fs)))
theorem kK.mono{cl:Ou}{B:O8}{F F1:Hp}{Z:fe}{W:XW}{r:bF}(h:kK cl B F Z W r)(x:Fr F F1):kK cl B F1 Z W r:=by
 cases r with
 |ok r=>exact p_.mono h x
 |xc n fs E=>exact fun σ F' H dx k y=>h σ F' H dx k fun a o e=>y a o (x a o e)
def tSX(cl:Ou)(f:DE->Option bF):TSX:=fun Z W σ H=>∃B F E r,Ok B F H σ E/\f E=some r/\kK cl B F Z W r
structure EsX (X:Cx) (cl:Ou) (st:Stmt) (f:DE->Option bF):Prop where
 h:PSX X st (tSX cl f)
structure nG (X:Cx) (cl:Ou) (st:OV) (f:DE->Option bF):Prop where
 h:jZ X st (tSX cl f)
section
variable {X:Cx}{cl:Ou}{st:Stmt}{rest:OV}{pos:Pos}
variable{f:DE->Option bF}
theorem PSX.by{t:TSX}(h:PSX X st t)(w:∀Z W σ H,tSX cl f Z W σ H->t Z W σ H):EsX X cl st f:=⟨fun Ml s σ H Z W xe I q=>h Ml s σ H Z W xe I (w Z W σ H q)⟩
theorem jZ.by{t:TSX}(h:jZ X rest t)(w:∀Z W σ H,tSX cl f Z W σ H->t Z W σ H):nG X cl rest f:=⟨fun Ml s σ H Z W xe I q=>h Ml s σ H Z W xe I (w Z W σ H q)⟩
def okX(f:OO)(E:DE):Option bF:=(f E).map bF.ok
theorem ui{f:OO}{Z:fe}{W:XW}{σ:St}{H:Hp}(h:tSX cl (okX f) Z W σ H):tS f Z σ H:=by
 obtain⟨B,F,E,r,k,q,w⟩:=h
 unfold okX at q
 cases hf:f E with
 |none=>rw[hf]at q;cases q
 |some r1=>rw[hf]at q;cases q;exact⟨B,F,E,r1,k,hf,w⟩
theorem ik{f:OO}(h:Es X.nox st f):EsX X cl st (okX f):=PSX.by (Fq h.h) fun _ _ _ _ q=>ui q
theorem kj{f:OO}(h:Ess X.nox rest f):nG X cl rest (okX f):=jZ.by (CT h.h) fun _ _ _ _ q=>ui q
def dC(f g:DE->Option bF)(E:DE):Option bF:=(f E).bind fun r=>match r with
 |.ok (.nx E')=>g E'
 |r=>some r
theorem bT{g:DE->Option bF}(h:EsX X cl st f)(h2:nG X cl rest g):nG X cl (st :: rest) (dC f g):=jZ.by (ym h.h h2.h) fun Z W σ H z=>by
 obtain⟨B,F,E,r,k,q,w⟩:=z
 unfold dC at q
 cases hf:f E with
 |none=>rw[hf]at q;cases q
 |some r1 =>
  rw[hf]at q
  cases r1 with
  |xc n fs E'=>cases q;exact⟨B,F,E,_,k,hf,w⟩
  |ok r1 =>
   cases r1 with
   |nx E'=>exact⟨B,F,E,_,k,hf,fun σ' F' H' k' y=>⟨B,F',E',r,k',q,w.mono y⟩⟩
   |rt d=>cases q;exact⟨B,F,E,_,k,hf,w⟩
   |bk E'=>cases q;exact⟨B,F,E,_,k,hf,w⟩
   |ct E'=>cases q;exact⟨B,F,E,_,k,hf,w⟩
theorem cb(h:EsX X cl st f):nG X cl [st] f:=⟨An h.h⟩
def ifX(c:OL)(f g:DE->Option bF)(E:DE):Option bF:=(c E).bind fun b=>if b=true then f E else g E
theorem mR{c:Expr}{a b:OV}{cf:OL}{g:DE->Option bF}(hc:Et X.nox c cf)(ha:nG X cl a f)(hb:nG X cl b g):EsX X cl (.If c a b pos) (ifX cf f g):=PSX.by (Fs hc.h ha.h hb.h) fun Z W σ H z=>by
 obtain⟨B,F,E,r,k,q,w⟩:=z
 unfold ifX at q
 cases hf:cf E with
 |none=>rw[hf]at q;cases q
 |some x =>
  rw[hf]at q
  refine⟨B,F,E,x,k,hf,fun F1 H1 x1=>?_⟩
  cases x with
  |true=>exact uB ⟨B,F1,E,r,k.ext x1,q,w.mono x1.fr⟩
  |false=>exact uC ⟨B,F1,E,r,k.ext x1,q,w.mono x1.fr⟩
def cI(n:Nat)(fld:Str)(f:OF)(E:DE):Option bF:=(f E).bind fun d=>if jc d=true then some (.xc n [(fld,d)] E) else none
theorem iM{k:Nat}{fI C:Addr}{fd:FuncData}{fld p x:Str}{np Mn:Pos}{arg:Expr}{f:OF}{n:Nat}(hn:cl n=C)(hq:nD X.K C fI=true)(F:aX X.prog X.w X.K X.mg X.base CX0 k fI fd ["self",p] (spI C fld))(hb:fj X.K fd ["self",p] [])
  (hfn:PySem.W.isFn X.K (.ref fI)=true) (hr:dj (k + 1) X.A) (hc:X.calm=true) (hg:Gl X x) (hm:X.mg x=some (.ref C)) (hk:PySem.W.keepIn X.K (.ref C)=true) (ha:Ev X.nox .V arg f) (hdb:(x == ("__debug__" : Str))=false:=by decide) (hs:aO arg=true:=by rfl) :
  EsX X cl (.Raise (some (.Call (.Name x np) [arg] [] Mn)) none pos) (cI n fld f) :=
 PSX.by (yn hq F hb hfn hr hc hg hm hk (ac ha ah (by first |assumption |rfl)).h hdb (aD arg [] X.env hs) rfl) fun Z W σ H z=>by
  obtain⟨B,G,E,r,k,q,w⟩:=z
  unfold cI at q
  cases hf:f E with
  |none=>rw[hf]at q;cases q
  |some d =>
   rw[hf]at q
   by_cases hd:jc d=true
   ·have q':some (bF.xc n [(fld,d)] E)=some r:=by
     rw[<-q]
     show _=if jc d=true then _ else _
     rw[if_pos hd]
    cases q'
    refine⟨B,G,E,[d],k,?_,fun vs F' H' x r=>?_⟩
    ·unfold aa aj
     rw[hf];rfl
    ·obtain⟨v,ws,rfl,r1,r2⟩:=r.c1
     obtain rfl:=r2.c0
     subst hn
     obtain rfl:=Ag r1 hd
     exact⟨_,rfl,fun dx hdx=>w σ F' H' dx (k.ext x) x.fr hdx⟩
   ·have:(none:Option bF)=some r:=by
     rw[<-q]
     show _=if jc d=true then _ else _
     rw[if_neg hd]
    cases this
end
def pM(cl:Ou)(n:Nat)(g:List D->Option (Option (Nat×List (Str×D)))):Sp:=fun vs H Q E=>∃F ds r,(∀a o,F a=some o->H a=some o)/\Reps F vs ds/\ds.length=n/\g ds=some r /\
 match r with
 |none=>∀v F' H',Ext F H F' H'->Q v H'
 |some (m,fs)=>∀F' H' dx,Ext F H F' H'->H' dx=none->E (.ref (cl m)) (some dx) (upd H' dx (.xd (scF fs)))
def qT(n:Nat)(g:List D->Option (Option (Nat×List (Str×D))))(f:OG)(E:DE):Option bF:=(f E).bind fun ds=>if ds.length=n then(g ds).map fun r=>match r with
 |none=>.ok (.nx E)
 |some (m,fs)=>.xc m fs E else none
section
variable {X:Cx}{cl:Ou}
theorem BT{k:Nat}{fa:Addr}{fd:FuncData}{ps:OD}{x:Str}{p Mn pos:Pos}{e:Expr}{es:OP}{n:Nat}{g:List D->Option (Option (Nat×List (Str×D)))}{f:OG}(Fn:aX X.prog X.w X.K X.mg X.base (CX1 X.prog X.w) k fa fd ps (pM cl n g))(hr:dj k X.A)(hg:Gl X x)
  (hm:X.mg x=some (.ref fa)) (hk:PySem.W.keepIn X.K (.ref fa)=true) (hb:fj X.K fd ps []) (ha:Ea X.nox (e :: es) f) (hdb:(x == ("__debug__" : Str))=false:=by decide)
  (he:aO e=true:=by rfl) (hpl:es.all aO=true:=by rfl) (hs:swapsWith (.Call (.Name x p) (e :: es) [] Mn) none pos.line X.env=pure false:=by rfl):EsX X cl (.Expr (.Call (.Name x p) (e :: es) [] Mn) pos) (qT n g f) :=
 PSX.by (Ao (t9 Fn hr hg hm hk hb ha.h hdb (aD e es X.env he) (dN Mn X.env es hpl)) hs) fun Z W σ H z=>by
  obtain⟨B,F,E,r,k,q,w⟩:=z
  unfold qT at q
  cases hf:f E with
  |none=>rw[hf]at q;cases q
  |some ds =>
   rw[hf]at q
   by_cases hn:ds.length=n
   ·have q':(g ds).map (fun r=>match r with |none=>bF.ok (.nx E) |some (m,fs)=>.xc m fs E)=some r:=by
     have:=q
     simpa[hn] using this
    cases hgd:g ds with
    |none=>rw[hgd]at q';cases q'
    |some r0 =>
     rw[hgd]at q'
     refine⟨B,F,E,ds,k,hf,fun vs F1 H1 x1 r1=>⟨fun c d H'=>W σ c d H',⟨F1,ds,r0,x1.sub,r1,hn,hgd,?_⟩,fun _ _ _ z=>z⟩⟩
     cases r0 with
     |none =>
      cases q'
      exact fun v F2 H2 x2=>w σ F2 H2 (k.ext (x1.trans x2)) (x1.trans x2).fr
     |some mf =>
      obtain⟨m,fs⟩:=mf
      cases q'
      exact fun F2 H2 dx x2 hd=>w σ F2 H2 dx (k.ext (x1.trans x2)) (x1.trans x2).fr hd
   ·have:(none:Option bF)=some r:=by
     have:=q
     simpa[hn] using this
    cases this
end
def qp(n m:Nat)(b:DE->Option bF)(ds:OK):Option (Option (Nat×List (Str×D))):=if ds.length=n then(b (ds.map Sl.val ++ List.replicate (m - n) Sl.no)).bind fun r=>match r with
 |.ok (.nx _)=>some none
 |.ok (.rt _)=>some none
 |.xc k fs _=>some (some (k,fs))
 |_=>none else none
variable{ps:OD}{fd:FuncData}{f:Addr}{K:OE}
theorem DK{P:Program}{w:World}{mg:OI}{base:Heap}{x qual:Str}{st:Stmt}{N:OD}{k:Nat}{cl:Ou}{b:DE->Option bF}(Fn:Fun K x qual st f fd)(S:aE N ps (ak st))
  (Mt:∀(cdv:Value) (A:Around) (outer:OZ) (s:Shared) (H:Hp) (E:XK),dj k (A.deeper (envOfC qual (ak st) s.heap.objs.size f cdv)) ->
   nG (jN (CX1 P w) P w K mg base N qual (ak st) f cdv A outer s H E) cl (ei st) b):aX P w K mg base (CX1 P w) (k + 1) f fd ps (pM cl ps.length (qp ps.length N.length b)):=by
 obtain⟨oc,od,kV,doc,pm,an,cdv,ct,osl,rfl,lk,hcd⟩:=Fn.ex
 refine Gj lk hcd S (fun vs H Q E h=>?_) fun A outer s H vs Q E hr h=>?_
 ·obtain⟨F,ds,d,_,r,hl,_⟩:=h
  rw[r.length,hl]
 ·obtain⟨F,ds,r0,hs,r,hl,hg,q⟩:=h
  refine⟨_,(Mt cdv A outer s H E hr).h,?_⟩
  unfold qp at hg
  rw[if_pos hl]at hg
  cases hb:b (ds.map Sl.val ++ List.replicate (N.length - ps.length) Sl.no) with
  |none=>rw[hb]at hg;cases hg
  |some rr =>
   rw[hb]at hg
   have k0:=ug (N:=N) hs r
   rw[hl]at k0
   refine⟨(F,H),F,_,rr,k0,hb,?_⟩
   cases rr with
   |xc m fs E'=>cases hg;exact fun σ' F' H' dx k' _ hd=>q F' H' dx k'.ent hd
   |ok rr =>
    cases rr with
    |rt d'=>cases hg;exact fun v F' H' x r'=>q v F' H' x
    |nx E'=>cases hg;exact fun σ' F' H' k' _=>q .non F' H' k'.ent
    |bk E'=>cases hg
    |ct E'=>cases hg
def uI(i:Nat):Out->Out
 |.nx E=>.nx (E.set i .no)
 |.bk E=>.bk (E.set i .no)
 |.ct E=>.ct (E.set i .no)
 |.rt d=>.rt d
theorem qL{B:O8}{D:fe}{r:Out}(w:p_ B F D (uI i r)):p_ B F (f7 i D) r:=by
 cases r with
 |nx E=>exact fun σ F' H k x=>w (σ.set i none) F' H (k.noS i) x
 |bk E=>exact fun σ F' H k x=>w (σ.set i none) F' H (k.noS i) x
 |ct E=>exact fun σ F' H k x=>w (σ.set i none) F' H (k.noS i) x
 |rt d=>exact w
theorem wU{H:Hp}{dx:Addr}{o:HO}(h:H dx=none):rmH (upd H dx o) dx=H:=by
 funext b
 by_cases hb:b=dx
 ·rw[hb,fN,h]
 ·rw[dh hb,ap hb]
def xF(i:Nat)(a:Addr)(d:D)(E:DE):Option D:=(E[i]?).bind fun s=>match s with
 |.rob o=>if o.ia=some a then some d else none
 |_=>none
theorem lp{a:Addr}{d':D}{B:O8}{H:Hp}{σ:St}{E:DE}(k:Ok B F H σ E)(h:xF i a d E=some d'):d'=d/\σ[i]? = some (some (.ref a)):=by
 unfold xF at h
 cases he:E[i]? with
 |none=>rw[he]at h;cases h
 |some s =>
  rw[he]at h
  cases s with
  |rob o =>
   have h:(if o.ia=some a then some d else none)=some d':=h
   by_cases ho:o.ia=some a
   ·rw[if_pos ho]at h
    cases h
    refine⟨rfl,?_⟩
    obtain⟨fp,q⟩:=k.ob
    rcases q.rob i _ he with⟨b,ps,q1,q2⟩ |⟨_,b,q1,q2⟩
    ·obtain⟨b',ps',dx,fs,e1,e2,e3,_⟩:=q2
     have e4:=e2 a ho
     cases e1
     rw[e4]at q1;exact q1
    ·rw[ho]at q1;cases q1;exact q2
   ·rw[if_neg ho]at h;cases h
  |no=>cases h
  |val _=>cases h
  |own _=>cases h
  |obj _=>cases h
section
variable {X:Cx}{a C dx:Addr}{oe od:Obj}{cd:ClassData}{i:Nat}{p pos np:Pos}{en:Str}
def lm(i:Nat)(a:Addr)(f:Str)(fs:Oz)(E:DE):Option D:=(fs.lookup f).bind fun d=>if jc d=true then xF i a d E else none
theorem DO{f:Str}{vs:OM}{fs:Oz}(hc:oe.cls=.ref C)(hd:oe.dict=some dx)(Mx:oe.data=.fields vs)(hne:dx ≠ a)(xc:mn X.K C cd)(hn:PySem.W.findIn X.K (.ref C) f=some none)(hdh:dR dx od (scF fs))(hv:PE (X.hnd2 a oe dx od) (.Name en p) (nY i))
  (hb:attributeBase (.Name en p) f X.env (eval (.Name en p) X.env)=eval (.Name en p) X.env:=by rfl):Ev (X.hnd2 a oe dx od) .V (.Attribute (.Name en p) f pos) (lm i a f fs) :=
 PE.by (C8 hc hd Mx hne xc hn hdh hv hb) fun σ H Q z=>by
  obtain⟨B,F,E,d',k,q,w⟩:=z
  unfold lm at q
  obtain⟨d,hl,q⟩:=Option.bind_eq_some_iff.mp q
  by_cases hsc:jc d=true
  ·rw[if_pos hsc]at q
   obtain⟨rfl,e⟩:=lp k q
   refine⟨_,e,rfl,scV d',?_,w _ F H (Ext.refl k.sub) (z7 hsc)⟩
   have:∀l:List (Str×D),l.lookup f=some d'->(scF l).lookup f=some (scV d'):=fun l=>by
    induction l with
    |nil=>intro z;cases z
    |cons y l ih =>
     intro z
     obtain⟨g,x⟩:=y
     rw[JP]at z
     show List.lookup f ((g,scV x) :: scF l)=_
     rw[JP]
     cases hg:f == g with
     |true=>rw[hg]at z;cases z;rfl
     |false=>rw[hg]at z;exact ih z
   exact this fs hl
  ·rw[if_neg hsc]at q;cases q
def GV(Cs:OT):TA:=fun _ H Q=>Q (Cs.map V.ref) H
def Au:Expr->Pos
 |.Name _ p=>p
 |_=>⟨0,0,0,0⟩
theorem w_{X:Cx}{ad:Str->Addr}:∀{as:OD}{es:OP},es=List.zipWith Expr.Name as (es.map Au)->(∀y ∈ as,X.mg y=some (.ref (ad y)))->as.map X.env.kindOf=(as.map fun _=>some NameKind.globalImplicit)->as.all (fun y => !(y == ("__debug__" : Str)))=true->as.length=es.length->PA X es (GV (as.map ad))
 | [],[],_,_,_,_,_=>ek
 |y :: as,e :: es,h,m,g,d,l=>by
  rw[Ji,List.zipWith_cons_cons]at h
  rw[Ji,Ji]at g
  rw[Kl]at d
  injection h with h1 h2
  injection g with g1 g2
  obtain⟨d1,d2⟩:=Bool.and_eq_true_iff.mp d
  have h3:=bR (rJ (v:=.ref (ad y)) (pos:=Au e) g1 (m y (.head _)) rfl (by simpa using d1)) (w_ (X:=X) (ad:=ad) h2 (fun z hz=>m z (.tail _ hz)) g2 d2 (Nat.succ.inj l)) rfl
  rw[<-h1]at h3
  exact h3
end
variable{base:Heap}{mg:OI}{w:World}{P:Program}
theorem aX.wide{CX:CXT}{k:Nat}{sp:Sp}(F:aX P w K mg base CX0 k f fd ps sp):aX P w K mg base CX k f fd ps sp :=
 ⟨F.len,fun A outer s H args us vs Q E hr he hb hv hs=>La (F.run A outer s H args us vs Q E hr he hb hv hs) fun r s' z=>by
  cases r with
  |error e=>exact False.elim z
  |ok fl=>cases fl <;> exact z⟩
theorem aX.or{CX:CXT}{k:Nat}{sp sp' sp2:Sp}(F:aX P w K mg base CX k f fd ps sp)(F':aX P w K mg base CX k f fd ps sp')
  (h:∀vs H Q E,sp2 vs H Q E->sp vs H Q E\/sp' vs H Q E):aX P w K mg base CX k f fd ps sp2 :=
 ⟨fun vs H Q E q=>(h _ _ _ _ q).elim (F.len vs H Q E) (F'.len vs H Q E),fun A outer s H args us vs Q E hr he hb hv hs=>(h _ _ _ _ hs).elim (fun z=>F.run A outer s H args us vs Q E hr he hb hv z) fun z=>F'.run A outer s H args us vs Q E hr he hb hv z⟩
def nQ(g:OR)(gx:List D->Option (Option (Nat×List (Str×D))))(ds:OK):Option (Option (Nat×List (Str×D))):=match g ds with
 |some _=>some none
 |none=>gx ds
open PySem PySem.Spec PyProof.Rows PySem.W
theorem nq(self:Value):∀l:List Value,refuseLoop self "__setattr__" l=refuseLoop self "__setattr__" (ma l)
 | []=>rfl
 |v :: r=>by
  cases v with
  |ref c=>rw[refuseLoop_ref];exact nq self r
  |_=>rfl
theorem pc{x:Value}:∀l:List Value,(ma l).contains x=true->l.contains x=true
 | [],h=>h
 |v :: r,h=>by
  cases v with
  |ref c=>rw[L8,pc r h,Bool.or_true]
  |_=>exact h
theorem Co{K:Frag}{C:Addr}(h:zB K C=true):∃cd,mn K C cd:=by
 unfold zB at h
 split at h
 ·rename_i cd hc
  simp only[JG,Mb]at h
  obtain⟨h1,h2,h3,h4,h5⟩:=h
  exact⟨cd,hc,fun self=>by rw[nq,h1];exact PySem.F.store_ValueError.passes self,pc _ (by rw[h1];decide +kernel),pc _ (by rw[h1];decide +kernel),h2,h3,h4,h5⟩
 ·cases h
structure EK (K:Frag) (x f:Str):Prop where
 ns:nsIn K mainGlobals x=some (some (.ref (cD K x)))
 q:nD K (cD K x) (lW K (cD K x))=true
 fn:isFn K (.ref (lW K (cD K x)))=true
 kp:keepIn K (.ref (cD K x))=true
 xc:∃cd,mn K (cD K x) cd
 nf:findIn K (.ref (cD K x)) f=some none
 cl:findIn K (.ref (cD K x)) "__class__" = some (some (.builtin "object.__class__"))
theorem Gu{K:Frag}{x f:Str}(h:Gv K x f=true):EK K x f:=by
 unfold Gv Gy at h
 simp only[JG,Mb]at h
 obtain⟨h1,h2,h3,h4,h5,h6,h7⟩:=h
 exact⟨h1,h2,h3,h4,Co h5,h6,h7⟩
theorem xf{P:Program}{w:World}{K:Frag}{mg:OI}{base:Heap}{qual:Str}{st:Stmt}{C fI:Addr}{f p:Str}{cd:ClassData}{p1 p2 p3 p4:Pos}(F:Fun K "__init__" qual st fI fd)(S:aE ["self",p] ["self",p] (ak st))(xc:mn K C cd)(hn:findIn K (.ref C) f=some none)
  (hb:ei st=[.Assign [.Attribute (.Name "self" p1) f p2] (.Name p p3) p4]) (hv0:Vis (ak st) "self") (hv1:Vis (ak st) p) (hd:(p == ("__debug__" : Str))=false) (hcd:(p == ("__classdict__" : Str))=false)
  (hsw:∀(env:Env),swapsWith (.Name p p3) (some (.Attribute (.Name "self" p1) f p2)) p4.line env=pure false):aX P w K mg base CX0 1 fI fd ["self",p] (spI C f):=by
 refine Fun.ok (k:=0) F S (fun vs H Q E z=>?_) fun cdv A outer s H vs Q E hr z=>?_
 ·obtain⟨e,t,v,rfl,_⟩:=z;rfl
 ·rw[hb]
  refine⟨_,rH (Er (kQ (i:=0) rfl hv0) (kQ (i:=1) rfl hv1 hd hcd) (hsw _)),?_⟩
  obtain⟨e,t,v,rfl,he,hq⟩:=z
  exact⟨v,rfl,V.ref e,rfl,e,C,t,cd,rfl,he,xc,hn,fun dx h1 h2=>hq dx h1 h2⟩
end L2.Cu
namespace L2
open PySem PySem.Spec PyProof.Rows
section
variable {X:Cx}{Ml:OC} {W:XW}
theorem y8(hst:X.stack=X.env :: X.outer)(hfr:X.env.frame=some X.env.locals):PassesOwn (model X.prog X.w) X.A X.env (EX X Ml W):=by
 intro e s1 x
 obtain⟨σ,a,C,dx,o0,H,rfl,I,er,eo,hp,hw⟩:=x
 have ok:=I.ok
 have back:∀(h4:Heap) (T:Addr),Inv X Ml σ H { s1 with heap:=h4 }->Fly h4 o0 a T (rawInt X.env.locals)->H T=none->X.s₀.heap.objs.size<=T->(∀p ∈ X.pn ++ Ml,p.1 ≠ T)->cameBackBy (model X.prog X.w) X.A X.env (EX X Ml W) (.ref a) { s1 with heap:=h4 }:=by
  intro h4 T I4 f4 t1 t2 t3
  obtain⟨vs,oT,ts,q1,q2,hTe,q3,q4,q5⟩:=id f4
  unfold cameBackBy
  refine Jn (J_ (s:={ s1 with heap:=h4 }) q1 rfl q2 ?_)
  rw[if_neg (by simp)]
  rw[hfr]
  refine cU (s:={ s1 with heap:=h4 }) f4 fun h5 k5 _ f5=>?_
  have I5:Inv X Ml σ H { s1 with heap:=h5 }:=Inv.kp (s:={ s1 with heap:=h4 }) (ch:=[T]) I4 (k5.wide (fun _ z=>by cases z) fun _ z=>z) fun b hb=>by
   rw[List.mem_singleton.mp hb]
   exact⟨t2,f4.recd.2,t3,t1⟩
  exact⟨σ,a,C,dx,o0,H,rfl,I5,.inr ⟨T,_,f5,.inr rfl,t1,t2,t3⟩,eo,hp,hw⟩
 have hA:X.A.frames=some (X.env :: X.outer):=by rw[<-hst];exact ok.frames
 have hF:s1.heap.FunFrames X.base (X.env :: X.outer):=by rw[<-hst];exact I.stack
 have hz:=I.sz
 have pinT:∀T,s1.heap.objs.size<=T->∀p ∈ X.pn ++ Ml,p.1 ≠ T:=fun T hT p hp z=>absurd (Ju (I.pin p hp).1) (by rw[z];exact Nat.not_lt.mpr hT)
 show wpAny _ _ (noteFrame (.ref a) X.env) _ _ _
 rcases er with⟨vs,q1,q2,q3⟩ |⟨T,fl,hf1,rfl |rfl,hT,hTz,hTp⟩
 ·refine i9 (base:=X.base) hA hF hfr q1 q2 q3 fun h4 T k4 z4 f4=>?_
  have I4:Inv X Ml σ H { s1 with heap:=h4 }:=I.kp (ch:=[a]) (by unfold frs;rw[hst];exact k4) fun b hb=>by
   rw[List.mem_singleton.mp hb]
   exact⟨eo.new,⟨_,vs,q1,rfl⟩,hp,eo.free⟩
  exact back h4 T I4 f4 (I.hok.fresh z4) (Jy hz z4) (pinT T z4)
 ·refine kc (base:=X.base) hA hF hfr hf1 fun h4 T' k4 z4 f4=>?_
  have I4:Inv X Ml σ H { s1 with heap:=h4 }:=I.kp (ch:=[a,T]) (by unfold frs;rw[hst];exact k4) fun b hb=>by
   rcases List.mem_cons.mp hb with rfl |hb
   ·exact⟨eo.new,hf1.recd.1,hp,eo.free⟩
   ·rw[List.mem_singleton.mp hb]
    exact⟨hTz,hf1.recd.2,hTp,hT⟩
  exact back h4 T' I4 f4 (I.hok.fresh z4) (Jy hz z4) (pinT T' z4)
 ·exact jE hfr hf1 (back s1.heap T I hf1 hT hTz hTp)
end
section
variable {X:Cx}{tg:Expr}
def G1(wi:TI)(g:TG)(tb:TSX):TSX:=fun D V σ H=>wi σ H fun J H1=>∃W:Nat->Nat->St->Hp->Prop,(∃m,W 0 m σ H1)/\∀i m σ H,W i m σ H ->
 (J.stop i H/\D.nx σ H)\/(J.go i H/\∃N:St->Hp->Prop,(∀σ' H',N σ' H'->∃m',m' < m/\W (i + 1) m' σ' H')/\∀x H',J.yld i H x H'->g x σ H' fun σ2 H2=>tb { D with nx:=N,ct:=N,bk:=D.nx } V σ2 H2)
theorem CW{Mo:Expr}{body:OV}{wi:TI}{g:TG}{tb:TSX}{pos:Pos}(hst:X.stack=X.env :: X.outer)(hfr:X.env.frame=some X.env.locals)(hc:X.calm=true)(hi:PI X.nox tg Mo wi)(hg:PG X.nox tg g)(hb:jZ X body tb)
  (hs:∀x,foldedSetIterable Mo X.env x=pure x:=by intro _;rfl):PSX X (.For tg Mo body [] pos) (G1 wi g tb):=by
 intro Ml s σ H D V xe I h hx
 have hp:PassesOwn (model X.prog X.w) X.A X.env (EX X Ml V):=y8 hst hfr
 refine JM (E:=EX X Ml V) ?_ (fun _ _ q=>q) hx
 refine wpAny_For (JM (hi Ml s σ H _ (I.wish _) h) (fun v s1 h1=>JM h1 (fun itv s2 h2=>?_) fun _ _ z=>False.elim z) fun _ _ z=>False.elim z) hs
 obtain⟨it,fp,tn,J,H2,e,I2,T,st2,f2,Wn,⟨m0,w0⟩,turn⟩:=h2
 subst e
 have stat:∀{H':Hp},(∀b ∈ fp,H' b=none)->∀b ∈ fp,kx X Ml H' b:=fun hn b hb=>⟨hn b hb,(f2 b hb).2⟩
 refine codeAny_forLoop_any (fun n s'=>∃i σ' H',Inv X Ml σ' H' s'/\tn i s'.heap/\(∀b ∈ fp,H' b=none)/\Wn i n σ' H') ?_ m0 ⟨0,σ,H2,I2.unwish,st2,fun b hb=>(f2 b hb).1,w0⟩
 rintro n s3 ⟨i,σ3,H3,I3,st3,fr3,w3⟩
 rcases turn i n σ3 H3 w3 with⟨stop,qn⟩ |⟨go,N,hN,step⟩
 ·refine Ku hp (thn (T.done X rfl rfl rfl hc i Ml s3 σ3 H3 _ I3 (stat fr3) st3 stop) fun r s4 zz145_0=>?_)
  obtain⟨hr,I4⟩:=zz145_0
  subst hr
  exact KW ⟨σ3,H3,I4,qn⟩
 ·refine Ku hp (thn (T.item X rfl rfl rfl hc i Ml s3 σ3 H3 _ I3 (stat fr3) st3 go) fun r s4 zz146_0=>?_)
  obtain⟨u,hr,h4⟩:=zz146_0
  subst hr
  refine Ku hp (thn h4 fun _ s5 zz147_0=>?_)
  obtain⟨x,H5,I5,r5,y5,st5,fr5⟩:=zz147_0
  have I5':=I5.pinned (stat fr5) (T.obj _ _ st5)
  refine Ku hp (JM (hg _ s5 σ3 H5 x u _ (I5'.wish _) r5 (step x H5 y5)) (fun _ s6 zz148_0=>?_) fun _ _ z=>False.elim z)
  obtain⟨σ6,H6,I6,q6⟩:=zz148_0
  have I6:=I6.unwish
  refine Ku hp (thn (hb _ s6 σ6 H6 _ V (EX X Ml V) I6 q6 fun e s' ⟨σ',a,C,dx,o0,H',e1,I',er,eo,hp',hw⟩=>?_) fun f s7 q7=>?_)
  ·refine⟨σ',a,C,dx,o0,H',e1,I'.unpinned,?_,eo,fun p hm=>hp' p ?_,hw⟩
   ·rcases er with z |⟨T',fl,z1,z2,z3,z4,z5⟩
    ·exact .inl z
    ·refine .inr ⟨T',fl,z1,z2,z3,z4,fun p hm=>z5 p ?_⟩
     rcases List.mem_append.mp hm with m |m
     ·exact JU _ m
     ·exact JB _ (JU _ m)
   ·rcases List.mem_append.mp hm with m |m
    ·exact JU _ m
    ·exact JB _ (JU _ m)
  have again:∀{σ7:St}{H7:Hp},Inv X (Ml ++ mF fp s5.heap) σ7 H7 s7->N σ7 H7->∃m,m < n/\∃i σ' H',Inv X Ml σ' H' s7/\tn i s7.heap/\(∀b ∈ fp,H' b=none)/\Wn i m σ' H':=fun {σ7 H7} I7 n7=>by
   obtain⟨m',hm,w7⟩:=hN σ7 H7 n7
   refine⟨m',hm,i + 1,σ7,H7,I7.unpinned,T.keep _ _ _ st5 fun b hb o e=>(I7.pin (b,o) (JB _ (JB _ (fu hb e)))).1,fun b hb=>?_,w7⟩
   obtain⟨o,e,d⟩:=T.obj _ _ st5 b hb
   exact(I7.pin (b,o) (JB _ (JB _ (fu hb e)))).2.1
  cases f with
  |next=>obtain⟨σ7,H7,I7,n7⟩:=q7;exact again I7 n7
  |cont=>obtain⟨σ7,H7,I7,n7⟩:=q7;exact again I7 n7
  |brk=>obtain⟨σ7,H7,I7,q7⟩:=q7;exact⟨σ7,H7,I7.unpinned,q7⟩
  |ret v=>obtain⟨x7,σ7,H7,I7,r7,q7⟩:=q7;exact⟨x7,σ7,H7,I7.unpinned,r7,q7⟩
end
end L2
namespace L2.Cu
open PySem PySem.Spec PyProof.Rows
def lP(f:D->DE->Option bF):List D->DE->Option bF
 | [],E=>some (.ok (.nx E))
 |x :: xs,E=>(f x E).bind fun r=>match r with
  |.ok (.nx E')=>lP f xs E'
  |.ok (.ct E')=>lP f xs E'
  |.ok (.bk E')=>some (.ok (.nx E'))
  |r=>some r
def p5(fi:OG)(gf:OQ)(fb:DE->Option bF)(E:DE):Option bF:=(fi E).bind fun xs=>lP (fun x E1=>(gf x E1).bind fb) xs E
theorem xC{X:Cx}{cl:Ou}{pos:Pos}{tg Mo:Expr}{body:OV}{fi:OG}{gf:OQ}{fb:DE->Option bF}(hst:X.stack=X.env :: X.outer)(hfr:X.env.frame=some X.env.locals)(hc:X.calm=true)(hi:Ei X.nox tg Mo fi)(hg:Eg X.nox tg gf)(hb:nG X cl body fb)
  (hs:∀x,foldedSetIterable Mo X.env x=pure x:=by intro _;rfl):EsX X cl (.For tg Mo body [] pos) (p5 fi gf fb):=PSX.by (CW hst hfr hc hi.h hg.h hb.h hs) fun Z W σ H z=>by
 obtain⟨B,F,E,r,k,q,w⟩:=z
 unfold p5 at q
 cases hf:fi E with
 |none=>rw[hf]at q;cases q
 |some xs =>
  rw[hf,Jd]at q
  refine⟨B,F,E,xs,k,hf,fun J F1 H1 x1 it=>?_⟩
  refine⟨fun i m σ' H'=>∃F' E',Ok B F' H' σ' E'/\Fr F1 F'/\i<=xs.length/\m=xs.length - i/\lP (fun x E1=>(gf x E1).bind fb) (xs.drop i) E'=some r,⟨_,F1,E,k.ext x1,fun _ _ e=>e,Ks _,rfl,q⟩,?_⟩
  rintro i m σ' H' ⟨F',E',k',y,hi,rfl,ql⟩
  have fitF:kK cl B F' Z W r:=w.mono fun a o e=>y a o (x1.fr a o e)
  obtain⟨st,gn⟩:=it i F' H' y k'.sub
  by_cases hlt:i < xs.length
  ·right
   have hx:xs[i]? = some xs[i]:=by simp[hlt]
   obtain⟨go,yl⟩:=gn _ hx
   rw[KZ hlt]at ql
   unfold lP at ql
   refine⟨go,fun σ2 H2=>∃F2 E2,Ok B F2 H2 σ2 E2/\Fr F1 F2/\lP (fun x E1=>(gf x E1).bind fb) (xs.drop (i + 1)) E2=some r,?_,?_⟩
   ·rintro σ2 H2 ⟨F2,E2,k2,y2,q2⟩
    exact⟨xs.length - (i + 1),⋯,F2,E2,k2,y2,hlt,rfl,q2⟩
   ·intro x H2 hy
    obtain⟨F3,x3,r3⟩:=yl x H2 hy
    cases hgf:gf xs[i] E' with
    |none=>simp[hgf]at ql
    |some E3 =>
     cases hfb:fb E3 with
     |none=>simp[hgf,hfb]at ql
     |some r1 =>
      simp only[hgf,hfb,Jd]at ql
      have k3:=k'.ext x3
      refine⟨B,F3,E',xs[i],E3,k3,r3,hgf,fun σ4 F4 H4 k4 x4=>⟨B,F4,E3,r1,k4,hfb,?_⟩⟩
      have y4:Fr F1 F4:=fun a o e=>x4.fr a o (x3.fr a o (y a o e))
      have f4:Fr F' F4:=fun a o e=>x4.fr a o (x3.fr a o e)
      cases r1 with
      |xc n fs E5 =>
       simp only at ql
       cases ql
       exact kK.mono fitF f4
      |ok r1 =>
       cases r1 with
       |nx E5=>exact fun σ5 F5 H5 k5 y5=>⟨F5,E5,k5,fun a o e=>y5 a o (y4 a o e),ql⟩
       |ct E5=>exact fun σ5 F5 H5 k5 y5=>⟨F5,E5,k5,fun a o e=>y5 a o (y4 a o e),ql⟩
       |bk E5 =>
        simp only at ql
        cases ql
        exact fun σ5 F5 H5 k5 y5=>fitF σ5 F5 H5 k5 fun a o e=>y5 a o (f4 a o e)
       |rt d =>
        simp only at ql
        cases ql
        exact(kK.mono (r:=.ok (.rt d)) fitF f4)
  ·left
   have e:i=xs.length:=by omega
   subst e
   refine⟨st rfl,?_⟩
   rw[LH]at ql
   cases ql
   exact fitF σ' F' H' k' fun _ _ e=>e
def spV(cl:Ou)(n:Nat)(g:OR)(gx:List D->Option (Option (Nat×List (Str×D)))):Sp:=fun vs H Q E=>∃F ds,(∀a o,F a=some o->H a=some o)/\Reps F vs ds/\ds.length=n /\
 ((∃d,g ds=some d/\∀v F' H',Ext F H F' H'->Rep F' v d->Q v H')\/∃m fs,gx ds=some (some (m,fs))/\∀F' H' dx,Ext F H F' H'->H' dx=none->E (.ref (cl m)) (some dx) (upd H' dx (.xd (scF fs))))
theorem FH{P:Program}{w:World}{K:OE}{mg:OI}{base:Heap}{k n:Nat}{f:Addr}{fd:FuncData}{ps:OD}{cl:Ou}{g:OR}{gx:List D->Option (Option (Nat×List (Str×D)))}(F:aX P w K mg base CX0 k f fd ps (spD n g))
  (F':aX P w K mg base (CX1 P w) k f fd ps (pM cl n gx)):aX P w K mg base (CX1 P w) k f fd ps (spV cl n g gx) :=
 aX.or (aX.wide F) F' fun vs H Q E h=>by
  obtain⟨G,ds,h1,h2,h3,⟨d,h4,h5⟩ |⟨m,fs,h4,h5⟩⟩:=h
  ·exact .inl ⟨G,ds,d,h1,h2,h3,h4,h5⟩
  ·exact .inr ⟨G,ds,some (m,fs),h1,h2,h3,h4,h5⟩
def iP(n:Nat)(g:OR)(gx:List D->Option (Option (Nat×List (Str×D))))(ok:D->DE->Out)(f:OG)(E:DE):Option bF:=(f E).bind fun ds=>if ds.length=n then match g ds with
  |some d=>some (.ok (ok d E))
  |none=>(gx ds).bind fun r=>r.map fun m=>.xc m.1 m.2 E
 else none
theorem wt{cl:Ou}{n:Nat}{g:OR}{gx:List D->Option (Option (Nat×List (Str×D)))}{ok:D->DE->Out}{f:OG}{B:O8}{F H:Hp}{σ:St}{E:DE}{r:bF}{Z:fe}{W:XW}{Q:VK}(k:Ok B F H σ E)(q:iP n g gx ok f E=some r)(w:kK cl B F Z W r)
  (hq:∀d v F' H',p_ B F Z (ok d E)->Ext F H F' H'->Rep F' v d->Q v H'):tL f σ H fun vs H1=>∃X':XK,spV cl n g gx vs H1 Q X'/\∀c d H',X' c d H'->W σ c d H':=by
 unfold iP at q
 cases hf:f E with
 |none=>rw[hf]at q;cases q
 |some ds =>
  rw[hf,Jd]at q
  by_cases hn:ds.length=n
  ·rw[if_pos hn]at q
   refine⟨B,F,E,ds,k,hf,fun vs F1 H1 x1 r1=>⟨fun c d H'=>W σ c d H',⟨F1,ds,x1.sub,r1,hn,?_⟩,fun _ _ _ z=>z⟩⟩
   cases hg:g ds with
   |some d =>
    rw[hg]at q
    cases q
    exact .inl ⟨d,rfl,fun v F' H' x r=>hq d v F' H' w (x1.trans x) r⟩
   |none =>
    rw[hg]at q
    obtain⟨y,h1,h2⟩:=Option.bind_eq_some_iff.mp q
    obtain⟨⟨m,fs⟩,rfl,rfl⟩:=Option.map_eq_some_iff.mp h2
    exact .inr ⟨m,fs,h1,fun F' H' dx x hd=>w σ F' H' dx (k.ext (x1.trans x)) (x1.trans x).fr hd⟩
  ·rw[if_neg hn]at q;cases q
section
variable {X:Cx}{cl:Ou}{kk:Nat}{fa:Addr}{fd:FuncData}{ps:OD}{y:Str}{p Mn pos:Pos}{e:Expr}{es:OP}{n:Nat}{g:OR}{gx:List D->Option (Option (Nat×List (Str×D)))} {f:OG}
theorem o7(Fn:aX X.prog X.w X.K X.mg X.base (CX1 X.prog X.w) kk fa fd ps (spV cl n g gx))(hr:dj kk X.A)(hg:Gl X y)(hm:X.mg y=some (.ref fa))(hk:PySem.W.keepIn X.K (.ref fa)=true)(hb:fj X.K fd ps [])(ha:Ea X.nox (e :: es) f)
  (hdb:(y == ("__debug__" : Str))=false:=by decide) (he:aO e=true:=by rfl) (hpl:es.all aO=true:=by rfl):EsX X cl (.Return (some (.Call (.Name y p) (e :: es) [] Mn)) pos) (iP n g gx (fun d _=>.rt d) f) :=
 PSX.by (CV (t9 Fn hr hg hm hk hb ha.h hdb (aD e es X.env he) (dN Mn X.env es hpl))) fun Z W σ H z=>by
  obtain⟨B,F,E,r,k,q,w⟩:=z
  exact wt k q w fun d v F' H' w' x r=>w' v F' H' (k.ext x).ent r
end
end L2.Cu
namespace L2
open PySem PySem.Spec PyProof.Rows
theorem ES{K:OE}{C C':Addr}(h:s_ K C C'=true):(∃d cd sl,K.lookup C'=some ⟨.type "type",d,.cls cd,sl⟩)/\PySem.W.mroIn K C' (.type "BaseException")=some true/\PySem.W.mroIn K C (.ref C')=some true:=by
 unfold s_ at h
 simp only[JG,Mb]at h
 obtain⟨h1,h2,h3⟩:=h
 refine⟨?_,h2,h3⟩
 split at h1
 ·rename_i hl
  exact⟨_,_,_,hl⟩
 ·cases h1
theorem DM{M:Model}{A:Around}{E:OA}{K:OE}{C C' e:Addr}{oe:Obj}{h:Heap}{g:Array GenState}{dr:Drawn}{t:Nat}{os:OsState}{Q:Bool->Shared->Prop}(X:K.In h)(he:h.get? e=some oe)(MJ:oe.cls=.ref C)(hs:s_ K C C'=true)
  (hq:Q true ⟨h,g,dr,t,os⟩):wpAny M A (excMatches (.ref e) (.ref C')) Q E ⟨h,g,dr,t,os⟩:=by
 obtain⟨⟨d,cd,sl,hl⟩,h2,h3⟩:=ES hs
 have hC:=X _ _ hl
 have f:=tc_notTuple
 unfold excMatches
 repeat (first | (with_reducible refine JN he ?_;rw[MJ]) |with_reducible refine JN hC ?_ |with_reducible refine lkS X h2 ?_ |with_reducible refine lkS X h3 ?_ |wp_step)
 exact hq
def Cx.pin2(X:Cx)(a:Addr)(oe:Obj)(dx:Addr)(od:Obj):Cx:={ X with pn:=(a,oe) :: (dx,od) :: X.pn }
section
variable {X:Cx}{Ml:OC} {σ:St}{H:Hp}{s:Shared}{a dx:Addr}{oe od:Obj}
theorem Inv.toPin(ok:X.Ok)(I:Inv (X.hnd2 a oe dx od) Ml σ H s):Inv (X.pin2 a oe dx od) Ml σ H s :=
 ⟨⟨ok.mod,ok.kind,ok.glob,ok.blt,ok.above,ok.inj,ok.has,ok.cab,ok.hd,ok.frames,ok.stk,ok.exf,ok.bs,ok.bsz,ok.noex,ok.exfs,ok.funs,ok.frf⟩,I.os,I.bare,I.base,I.loc,I.cell,I.free,I.freeC,I.pin,I.hok,I.len⟩
theorem Inv.unpin(ok:X.Ok)(I:Inv (X.pin2 a oe dx od) Ml σ H s):Inv X Ml σ H s :=
 ⟨ok,I.os,I.bare,I.base,I.loc,I.cell,I.free,I.freeC,fun p hp=>I.pin p (Jt _ (Jt _ hp)),I.hok,I.len⟩
end
section
variable {X:Cx}{body Ms rest:OV}{b₀:Stmt}{cn en:Str}{C C':Addr}{i:Nat}{np My pos:Pos}{tb:TSX}{th tr:PQ}{tr0:TS}
theorem SP.goneP{M:Model}{A:Around}{E:OA}{Ml:OC}{a dx:Addr}{oe od:Obj}{D:fe}{f:Flow}{s:Shared}(ok:X.Ok)(hN:X.N.Nodup)(hi:X.N[i]? = some en)(hl:X.env.scope.names.lookup en=some .local)
  (h:SP (X.hnd2 a oe dx od) Ml (f7 i D) f s):wpAny M A (do bindName X.env en .none;unbindBehindTheSuite X.env en pos) (fun _ s5=>SP (X.pin2 a oe dx od) Ml D f s5) E s:=by
 cases f with
 |next=>obtain⟨σ',H',I,q⟩:=h;exact dM (X:=X.pin2 a oe dx od) (I.toPin ok) hN hi hl fun s' J=>⟨_,H',J,q⟩
 |brk=>obtain⟨σ',H',I,q⟩:=h;exact dM (X:=X.pin2 a oe dx od) (I.toPin ok) hN hi hl fun s' J=>⟨_,H',J,q⟩
 |cont=>obtain⟨σ',H',I,q⟩:=h;exact dM (X:=X.pin2 a oe dx od) (I.toPin ok) hN hi hl fun s' J=>⟨_,H',J,q⟩
 |ret u=>obtain⟨v,σ',H',I,r,q⟩:=h;exact dM (X:=X.pin2 a oe dx od) (I.toPin ok) hN hi hl fun s' J=>⟨v,_,H',J,r,q⟩
theorem SP.unpin{Ml:OC}{a dx:Addr}{oe od:Obj}{D:fe}{f:Flow}{s:Shared}(ok:X.Ok)(h:SP (X.pin2 a oe dx od) Ml D f s):SP X Ml D f s:=by
 cases f with
 |next=>obtain⟨σ',H',I,q⟩:=h;exact⟨σ',H',I.unpin ok,q⟩
 |brk=>obtain⟨σ',H',I,q⟩:=h;exact⟨σ',H',I.unpin ok,q⟩
 |cont=>obtain⟨σ',H',I,q⟩:=h;exact⟨σ',H',I.unpin ok,q⟩
 |ret u=>obtain⟨v,σ',H',I,r,q⟩:=h;exact⟨v,σ',H',I.unpin ok,r,q⟩
def WR(C:Addr)(i:Nat)(th:PQ)(Dh:Addr->List (Str×V)->fe):XW:=fun σ c d H=>∃dx fs,c=.ref C/\d=some dx/\H dx=some (.xd fs)/\∀a,H a=none->th a fs (f7 i (Dh a fs)) (σ.set i (some (.ref a))) (rmH H dx)
theorem Cq{Ml:OC}{s:Shared}{σ:St}{H:Hp}{D:fe}{Dh:Addr->List (Str×V)->fe}{Z:Flow->Shared->Prop}(I:Inv X Ml σ H s)(h:tb D (WR C i th Dh) σ H)(hb:jZ X body tb)(hst:X.stack=X.env :: X.outer)(hfr:X.env.frame=some X.env.locals)(Ni:s_ X.K C C'=true)(hg:Gl X cn)(hm:X.mg cn=some (.ref C'))(hN:X.N.Nodup)(hi:X.N[i]? = some en)(hl:X.env.scope.names.lookup en=some .local)
  (hs:∀(a dx:Addr) (oe od:Obj) (vs:OM) (fs:OW),oe.cls=.ref C->oe.dict=some dx->oe.data=.fields vs->dx ≠ a->dR dx od fs->PSs (X.hnd2 a oe dx od) (b₀ :: Ms) (th a fs)) (hf:X.fn en=true\/X.env.scope.names.lookup en=some .local) (hdb:(cn == ("__debug__" : Str))=false)
  (pass:∀f s1,SP X Ml D f s1->Z f s1) (fin:∀(a dx:Addr) (oe od:Obj) (vs:OM) (fs:OW) (f:Flow) (s1:Shared),oe.cls=.ref C->oe.dict=some dx->oe.data=.fields vs->dx ≠ a->dR dx od fs->SP (X.pin2 a oe dx od) Ml (Dh a fs) f s1->Z f s1) :
  wpAny (model X.prog X.w) X.A (exec (.Try body [.ExceptHandler (some (.Name cn np)) (some en) (b₀ :: Ms) My] [] [] pos) X.env) Z X.xe s:=by
 have ok:=I.ok
 have pass':∀(f:Flow) (s1:Shared),SP X Ml D f s1->(match f with |.next=>wpAny (model X.prog X.w) X.A (execs [] X.env) Z X.xe s1 |f=>Z f s1):=fun f s1 q=>by
  cases f with
  |next=>exact KW (pass _ _ q)
  |ret v=>exact pass _ _ q
  |brk=>exact pass _ _ q
  |cont=>exact pass _ _ q
 refine wpAny_Try_except (JM (hb Ml s σ H D (WR C i th Dh) _ I h fun e s' x=>x) pass' fun e s1 x=>?_)
 obtain⟨σ1,a,C',dx,o0,H1,rfl,I1,er,eo,hp,dx',fs,hc,hd,hxd,hw⟩:=x
 cases hc
 cases hd
 have landed:∀(h4:Heap) (T:Addr),Inv X Ml σ1 H1 { s1 with heap:=h4 }->Fly h4 o0 a T (rawInt X.env.locals)->H1 T=none->X.s₀.heap.objs.size<=T->(∀p ∈ X.pn ++ Ml,p.1 ≠ T) ->
   wpAny (model X.prog X.w) X.A (setFlight (.ref a) none) (fun _ s3=>wpAny (model X.prog X.w) X.A (handleBy (.ref a) X.env [.ExceptHandler (some (.Name cn np)) (some en) (b₀ :: Ms) My]) Z X.xe s3) X.xe { s1 with heap:=h4 }:=by
  intro h4 T I4 f4 hT1 hT2 hT3
  refine cU (s:={ s1 with heap:=h4 }) f4 fun h5 k5 _ f5=>?_
  have I5:Inv X Ml σ1 H1 { s1 with heap:=h5 }:=Inv.kp (s:={ s1 with heap:=h4 }) (ch:=[T]) I4 (k5.wide (fun _ z=>by cases z) fun _ z=>z) fun b hb=>by
   rw[List.mem_singleton.mp hb]
   exact⟨hT2,f4.recd.2,hT3,hT1⟩
  obtain⟨vs5,oT5,ts5,g1,g2,g3,g4,g5,g6⟩:=id f5
  have Ih:=I5.hnd (a:=a) g1 rfl eo.free
  refine wpAny_handleBy_cons (codeAny_handlers_test (ja (X:=X.hnd a _) Ih hg hm ?_ hdb)) (by intro q;cases q)
  have kin:=I5.kIn
  obtain⟨hh1,gg,dr,tk,os⟩:=s1
  refine DM kin g1 eo.cls Ni ?_
  refine codeAny_handlers_suite_as (cU (s:=⟨h5,gg,dr,tk,os⟩) f5 fun h6 k6 _ f6=>?_)
  have I6:Inv X Ml σ1 H1 ⟨h6,gg,dr,tk,os⟩:=Inv.kp (s:=⟨h5,gg,dr,tk,os⟩) (ch:=[T]) I5 (k6.wide (fun _ z=>by cases z) fun _ z=>z) fun b hb=>by
   rw[List.mem_singleton.mp hb]
   exact⟨hT2,f5.recd.2,hT3,hT1⟩
  obtain⟨vs6,oT6,ts6,r1,_⟩:=id f6
  obtain⟨od,hdh,Ih6⟩:=I6.hnd2 (a:=a) r1 rfl eo.free hxd
  refine gE (X:=X.hnd2 a _ dx od) Ih6 hN hi (.inl hl) (v:=V.ref a) rfl (fun s7 I7=>?_) hf
  exact JM (hs a dx { o0 with data:=.fields vs6 } od vs6 fs eo.cls eo.dict rfl eo.ne hdh Ml s7 _ _ (f7 i (Dh a fs)) I7 (hw a eo.free)) (fun f s8 q=>thn (q.goneP ok hN hi hl) fun _ s9 z=>fin a dx { o0 with data:=.fields vs6 } od vs6 fs f s9 eo.cls eo.dict rfl eo.ne hdh z) fun _ _ z=>False.elim z
 have hA:X.A.frames=some (X.env :: X.outer):=by rw[<-hst];exact ok.frames
 have hF:s1.heap.FunFrames X.base (X.env :: X.outer):=by rw[<-hst];exact I1.stack
 have hz:=I1.sz
 have pinT:∀T,s1.heap.objs.size<=T->∀p ∈ X.pn ++ Ml,p.1 ≠ T:=fun T hT p hp z=>absurd (Ju (I1.pin p hp).1) (by rw[z];exact Nat.not_lt.mpr hT)
 rcases er with⟨vs,q1,q2,q3⟩ |⟨T,fl,hf1,rfl |rfl,hT,hTz,hTp⟩
 ·refine i9 (base:=X.base) hA hF hfr q1 q2 q3 fun h4 T k4 z4 f4=>?_
  have I4:Inv X Ml σ1 H1 { s1 with heap:=h4 }:=I1.kp (ch:=[a]) (by unfold frs;rw[hst];exact k4) fun b hb=>by
   rw[List.mem_singleton.mp hb]
   exact⟨eo.new,⟨_,vs,q1,rfl⟩,hp,eo.free⟩
  exact landed h4 T I4 f4 (I1.hok.fresh z4) (Jy hz z4) (pinT T z4)
 ·refine kc (base:=X.base) hA hF hfr hf1 fun h4 T' k4 z4 f4=>?_
  have I4:Inv X Ml σ1 H1 { s1 with heap:=h4 }:=I1.kp (ch:=[a,T]) (by unfold frs;rw[hst];exact k4) fun b hb=>by
   rcases List.mem_cons.mp hb with rfl |hb
   ·exact⟨eo.new,hf1.recd.1,hp,eo.free⟩
   ·rw[List.mem_singleton.mp hb]
    exact⟨hTz,hf1.recd.2,hTp,hT⟩
  exact landed h4 T' I4 f4 (I1.hok.fresh z4) (Jy hz z4) (pinT T' z4)
 ·exact jE hfr hf1 (landed s1.heap T I1 hf1 hT hTz hTp)
theorem CY(hb:jZ X body tb)(hst:X.stack=X.env :: X.outer)(hfr:X.env.frame=some X.env.locals)(Ni:s_ X.K C C'=true)(hg:Gl X cn)(hm:X.mg cn=some (.ref C'))(hN:X.N.Nodup)(hi:X.N[i]? = some en)(hl:X.env.scope.names.lookup en=some .local)
  (hs:∀(a dx:Addr) (oe od:Obj) (vs:OM) (fs:OW),oe.cls=.ref C->oe.dict=some dx->oe.data=.fields vs->dx ≠ a->dR dx od fs->PSs (X.hnd2 a oe dx od) (b₀ :: Ms) (th a fs))
  (hr:PSs X rest tr0) (hr2:∀(a dx:Addr) (oe od:Obj) (vs:OM) (fs:OW),oe.cls=.ref C->oe.dict=some dx->oe.data=.fields vs->dx ≠ a->dR dx od fs->PSs (X.pin2 a oe dx od) rest (tr a fs))
  (hf:X.fn en=true\/X.env.scope.names.lookup en=some .local:=by exact .inr (by assumption)) (hdb:(cn == ("__debug__" : Str))=false:=by decide) :
  PSs X (.Try body [.ExceptHandler (some (.Name cn np)) (some en) (b₀ :: Ms) My] [] [] pos :: rest) (fun D σ H=>tb { D with nx:=tr0 D } (WR C i th fun a fs=>{ D with nx:=tr a fs D }) σ H):=by
 intro Ml s σ H D I h
 have ok:=I.ok
 refine Lj (Cq I h hb hst hfr Ni hg hm hN hi hl hs hf hdb (fun f s1 q=>?_) fun a dx oe od vs fs f s1 h1 h2 h3 h4 h5 q=>?_)
 ·cases f with
  |next =>
   obtain⟨σ',H',I',q⟩:=q
   exact hr Ml s1 σ' H' D I' q
  |ret v=>exact q
  |brk=>exact q
  |cont=>exact q
 ·cases f with
  |next =>
   obtain⟨σ',H',I',q⟩:=q
   exact thn (hr2 a dx oe od vs fs h1 h2 h3 h4 h5 Ml s1 σ' H' D I' q) fun f s2 z=>z.unpin ok
  |ret v=>exact SP.unpin (f:=.ret v) ok q
  |brk=>exact SP.unpin (f:=.brk) ok q
  |cont=>exact SP.unpin (f:=.cont) ok q
end
end L2
namespace L2.Cu
open PySem PySem.Spec PyProof.Rows
abbrev O7:=Addr->List (Str×D)->DE->Option Out
def zJ(n i:Nat)(fb:DE->Option bF)(fh:O7)(f0:OO)(fr:O7)(E:DE):Option Out:=(fb E).bind fun r=>match r with
 |.ok (.nx E')=>f0 E'
 |.ok r=>some r
 |.xc m fs E'=>@ite _ (m=n/\gd E') (Classical.propDecidable _) (zq fun a=>(fh a fs (E'.set i (fg a))).bind fun r=>match uI i r with
  |.nx E2=>fr a fs E2
  |r=>some r) none
theorem DT{X:Cx}{cl:Ou}{body Ms rest:OV}{b₀:Stmt}{cn en:Str}{C':Addr}{i n:Nat}{np My pos:Pos}{fb:DE->Option bF}{fh fr:O7}{f0:OO}(hb:nG X cl body fb)(hst:X.stack=X.env :: X.outer)(hfr:X.env.frame=some X.env.locals)(hq:s_ X.K (cl n) C'=true)
  (hg:Gl X cn) (hm:X.mg cn=some (.ref C')) (hN:X.N.Nodup) (hi:X.N[i]? = some en) (hl:X.env.scope.names.lookup en=some .local)
  (hs:∀(a dx:Addr) (oe od:Obj) (vs:OM) (fs:Oz),oe.cls=.ref (cl n)->oe.dict=some dx->oe.data=.fields vs->dx ≠ a->dR dx od (scF fs)->Ess (X.hnd2 a oe dx od) (b₀ :: Ms) (fh a fs))
  (h0:Ess X rest f0) (hr:∀(a dx:Addr) (oe od:Obj) (vs:OM) (fs:Oz),oe.cls=.ref (cl n)->oe.dict=some dx->oe.data=.fields vs->dx ≠ a->dR dx od (scF fs)->Ess (X.pin2 a oe dx od) rest (fr a fs)) (hdb:(cn == ("__debug__" : Str))=false:=by decide) :
  Ess X (.Try body [.ExceptHandler (some (.Name cn np)) (some en) (b₀ :: Ms) My] [] [] pos :: rest) (zJ n i fb fh f0 fr) :=
 PSs.by (CY (C:=cl n) (th:=fun a vs D σ H=>∃fs,vs=scF fs/\tS (fh a fs) D σ H) (tr:=fun a vs D σ H=>∃fs,vs=scF fs/\tS (fr a fs) D σ H) (tr0:=tS f0) hb.h hst hfr hq hg hm hN hi hl (fun a dx oe od vs fsV h1 h2 h3 h4 h5=>fun Ml s σ H D I z=>by
  obtain⟨fs,e,q⟩:=z
  subst e
  exact(hs a dx oe od vs fs h1 h2 h3 h4 h5).h Ml s σ H D I q) h0.h (fun a dx oe od vs fsV h1 h2 h3 h4 h5=>fun Ml s σ H D I z=>by
  obtain⟨fs,e,q⟩:=z
  subst e
  exact(hr a dx oe od vs fs h1 h2 h3 h4 h5).h Ml s σ H D I q) (.inr hl) hdb) fun Z σ H z=>by
  obtain⟨B,F,E,r,k,q,w⟩:=z
  unfold zJ at q
  cases hf:fb E with
  |none=>rw[hf]at q;cases q
  |some r1 =>
   rw[hf]at q
   refine⟨B,F,E,r1,k,hf,?_⟩
   cases r1 with
   |ok r1 =>
    cases r1 with
    |nx E'=>exact fun σ' F' H' k' x=>⟨B,F',E',r,k',q,w.mono x⟩
    |rt d=>cases q;exact w
    |bk E'=>cases q;exact w
    |ct E'=>cases q;exact w
   |xc m fs E' =>
    have q2:@ite _ (m=n/\gd E') (Classical.propDecidable _) (zq fun a=>(fh a fs (E'.set i (fg a))).bind fun r=>match uI i r with
     |.nx E2=>fr a fs E2
     |r=>some r) none=some r:=q
    by_cases hc:m=n/\gd E'
    ·rw[if_pos hc]at q2
     obtain⟨hmn,hno⟩:=hc
     subst hmn
     refine fun σ' F' H' dx k' x hd=>⟨dx,scF fs,rfl,rfl,ax,fun a _=>?_⟩
     obtain⟨r2,e1,e2⟩:=Option.bind_eq_some_iff.mp (zp q2 a)
     refine⟨fs,rfl,B,F',_,r2,?_,e1,qL ?_⟩
     ·rw[wU hd]
      exact k'.set_raw hno i a
     ·have w2:=w.mono x
      generalize uI i r2=r3 at e2
      cases r3 with
      |nx E3=>exact fun σ2 F2 H2 k2 x2=>⟨fs,rfl,B,F2,E3,r,k2,e2,w2.mono x2⟩
      |rt d=>cases e2;exact w2
      |bk E3=>cases e2;exact w2
      |ct E3=>cases e2;exact w2
    ·rw[if_neg hc]at q2;cases q2
def oS(j i:Nat)(a:Addr)(E:DE):Option Out:=@ite _ (xF i a .non E=some .non/\gd E) (Classical.propDecidable _) (some (.nx (E.set j (fg a)))) none
variable{x:Str}
theorem DV{X:Cx}{j:Nat}{a:Addr}{en:Str}{p pos pos':Pos}(hN:X.N.Nodup)(hj:X.N[j]? = some x)(hx:Loc X.env.scope x)(hv:PE X (.Name en p) (nY i))(hs:swapsWith (.Name en p) (some (.Name x pos')) pos.line X.env=pure false:=by rfl)
  (hf:X.fn x=true\/X.env.scope.names.lookup x=some .local:=by first |exact .inl rfl |exact .inr rfl |assumption):Es X (.Assign [.Name x pos'] (.Name en p) pos) (oS j i a):=PS.by (vE hN hj hx hv hs hf) fun Z σ H zz150_0=>by
 obtain⟨B,F,E,r,k,q,w⟩:=zz150_0
 unfold oS at q
 by_cases hc:xF i a .non E=some .non/\gd E
 ·rw[if_pos hc]at q
  cases q
  obtain⟨_,e⟩:=lp k hc.1
  exact⟨_,e,w _ F H (k.set_raw hc.2 j a) fun _ _ z=>z⟩
 ·rw[if_neg hc]at q;cases q
section
variable {X:Cx}{a dx C:Addr}{oe od:Obj}{vs:OM}{fs:OW} {cd:ClassData}{e:Expr}{f:Str}{ta:TE}{pos:Pos}
theorem AC(hc:oe.cls=.ref C)(hd:oe.dict=some dx)(Mx:oe.data=.fields vs)(hne:dx ≠ a)(xc:mn X.K C cd)(hn:PySem.W.findIn X.K (.ref C) f=some none)(hdh:dR dx od fs)(he:PE (X.pin2 a oe dx od) e ta)(hb:attributeBase e f X.env (eval e X.env)=eval e X.env:=by rfl) :
  PE (X.pin2 a oe dx od) (.Attribute e f pos) (fun σ H Q=>ta σ H fun x H1=>x=.ref a/\∃v,fs.lookup f=some v/\Q v H1):=by
 intro Ml s σ H Q I h
 refine xL hb (thn (he Ml s σ H _ I h) fun u s1 z=>?_)
 obtain⟨x,H1,I1,rx,ex,v,hl,q⟩:=z
 subst ex
 obtain rfl:u=Value.ref a:=rx
 have hp:=(I1.pin (a,oe) (Jq ..)).1
 obtain⟨mA,hns,hr⟩:=hdh
 have hns:=hns s1.heap (I1.pin (dx,od) (Jt _ (Jq ..))).1
 obtain⟨u',hu,ru⟩:=iu.some_of (v:=v) (o:=mA f) (by rw[<-hl];exact hr f)
 have hI:s1.heap.Inst a C mA:=⟨oe,hp,hc,fun c z=>(by rw[Mx]at z;cases z),.inr ⟨dx,hd,hne,hns⟩⟩
 have hk:=I1.kIn
 have MZ:∀tk,EP (X.pin2 a oe dx od) Ml σ Q u' { s1 with toks:=tk }:=fun tk=>⟨v,H1,I1.tok tk,ru,q⟩
 obtain⟨hh,g,dr,tk,os⟩:=s1
 exact uM hk hI xc.cls xc.hd xc.exc xc.ga xc.gt hn hu (PySem.W.handedOut_of (qI ru)) (MZ _)
end
section
variable {X:Cx}{a C dx:Addr}{oe od:Obj}{cd:ClassData}{i:Nat}{p pos np:Pos}{en:Str}
theorem o3{f:Str}{vs:OM}{fs:Oz}(hc:oe.cls=.ref C)(hd:oe.dict=some dx)(Mx:oe.data=.fields vs)(hne:dx ≠ a)(xc:mn X.K C cd)(hn:PySem.W.findIn X.K (.ref C) f=some none)(hdh:dR dx od (scF fs))(hv:PE (X.pin2 a oe dx od) (.Name en p) (nY i))
  (hb:attributeBase (.Name en p) f X.env (eval (.Name en p) X.env)=eval (.Name en p) X.env:=by rfl):Ev (X.pin2 a oe dx od) .V (.Attribute (.Name en p) f pos) (lm i a f fs) :=
 PE.by (AC hc hd Mx hne xc hn hdh hv hb) fun σ H Q z=>by
  obtain⟨B,F,E,d',k,q,w⟩:=z
  unfold lm at q
  obtain⟨d,hl,q⟩:=Option.bind_eq_some_iff.mp q
  by_cases hsc:jc d=true
  ·rw[if_pos hsc]at q
   obtain⟨rfl,e⟩:=lp k q
   refine⟨_,e,rfl,scV d',?_,w _ F H (Ext.refl k.sub) (z7 hsc)⟩
   have:∀l:List (Str×D),l.lookup f=some d'->(scF l).lookup f=some (scV d'):=fun l=>by
    induction l with
    |nil=>intro z;cases z
    |cons y l ih =>
     intro z
     obtain⟨g,x⟩:=y
     rw[JP]at z
     show List.lookup f ((g,scV x) :: scF l)=_
     rw[JP]
     cases hg:f == g with
     |true=>rw[hg]at z;cases z;rfl
     |false=>rw[hg]at z;exact ih z
   exact this fs hl
  ·rw[if_neg hsc]at q;cases q
end
open PySem PySem.Spec PyProof.Rows PySem.W
structure pJ (K:Frag) (mg:OI) (x f qual:Str) (st:Stmt) (b:Str) (ys:OD) (bs:O0):Prop where
 fn:∃fd,Fun K "__init__" qual st (lW K (cD K x)) fd
 er:EK K x f
 mx:mg x=some (.ref (cD K x))
 sup:s_ K (cD K x) (cD K b)=true
 ms:∀y ∈ b :: ys,mg y=some (.ref (cD K y))
 ks:ys.map (fun y=>kitOne K (.ref (cD K x)) (.ref (cD K y)))=bs.map some
 kv:kitOne K (.ref (cD K x)) (.type "ValueError")=some true
variable{mg:OI}
theorem qC{K:Frag}{f qual:Str}{st:Stmt}{b:Str}{ys:OD}{bs:O0}(h:sC K x f qual b ys=sD qual st bs)(g:∀(x:Str) (v:Value),nsIn K mainGlobals x=some (some v)->mg x=some v):pJ K mg x f qual st b ys bs:=by
 obtain⟨h1,h⟩:=Kw h
 obtain⟨h2,h⟩:=Kw h
 obtain⟨h3,h4⟩:=Kw h
 obtain⟨e1,e2⟩:=Bool.and_eq_true_iff.mp h2
 obtain⟨e2,e3⟩:=Bool.and_eq_true_iff.mp e2
 have er:=Gu e1
 exact⟨EC h1,er,g _ _ er.ns,e2,fun y hy=>g _ _ (beq_iff_eq.mp (List.all_eq_true.mp e3 y hy)),h3,h4⟩
theorem pJ.k{K:Frag}{f qual:Str}{st:Stmt}{b:Str}{ys:OD}{bs:O0}(h:pJ K mg x f qual st b ys bs)(j:Nat){y:Str}{c:Bool}(hy:ys[j]? = some y)(hc:bs[j]? = some c):kitOne K (.ref (cD K x)) (.ref (cD K y))=some c:=by
 have e:=JR (fun l=>l[j]?) h.ks
 simp only[JH,hy,hc,Jf]at e
 exact Js e
theorem Iu{P:Program}{w:World}{K:OE}{base:Heap}{k n:Nat}{f:Addr}{fd:FuncData}{ps:OD}{cl:Ou}{g:OR}{gx:List D->Option (Option (Nat×List (Str×D)))}(F:aX P w K mg base CX0 k f fd ps (spD n g))
  (F':aX P w K mg base (CX1 P w) k f fd ps (pM cl n gx)):aX P w K mg base (CX1 P w) k f fd ps (pM cl n (nQ g gx)) :=
 aX.or (aX.wide F) F' fun vs H Q E h=>by
  obtain⟨G,ds,r,h1,h2,h3,h4,h5⟩:=h
  unfold nQ at h4
  cases hg:g ds with
  |none=>rw[hg]at h4;exact .inr ⟨G,ds,r,h1,h2,h3,h4,h5⟩
  |some d=>rw[hg]at h4;cases h4;exact .inl ⟨G,ds,d,h1,h2,h3,hg,fun v F' H' x _=>h5 v F' H' x⟩
end L2.Cu
namespace L2
open PySem PySem.Spec PyProof.Rows
theorem p7:entryFor table "proto.unchain" = some Builtin.«proto.unchain»:=entryFor_of_tree (by kernel_rfl)
theorem pV:plainId "proto.unchain" = true:=by decide +kernel
section
variable {prog:Program}{w:World}{A:Around}{E:OA}{s:Shared}
theorem tY{α:Type}{e h:Addr}{o oh:Obj}{vs ws:OM}{Q:α->Shared->Prop}(hh:A.handled=some (.ref h))(hne:h ≠ e)(he:s.heap.get? e=some o)(hd:o.data=.fields vs)(h2:2 < vs.size)(hho:s.heap.get? h=some oh)(hhd:oh.data=.fields ws)(hw:ws[2]? = some .none)
  (hE:E (.ref e) { s with heap:=s.heap.update e (Obj.mapFields (·.setIfInBounds 2 (.ref h))) }):wpAny (model prog w) A (raiseNew (.ref e):Sem α) Q E s:=by
 unfold raiseNew
 refine Jn (wpAny_handled ?_)
 rw[hh]
 have hb:(Value.ref h != Value.ref e)=true:=by simpa using hne
 dsimp only
 rw[if_pos hb]
 refine Jn (KC (wpAny_runValue (Le p7 ?_)))
 rw[Mc pV _]
 show wpAny _ _ (field (.ref h) 2 >>= _) _ _ s
 refine Jn (J_ hho hhd hw ?_)
 show wpAny _ _ (ret .none) _ _ s
 refine Jv (Jn ?_)
 have key:∀(Q':OU),Q' () { s with heap:=s.heap.update e (Obj.mapFields (·.setIfInBounds 2 (.ref h))) }->wpAny (model prog w) A (updateField e 2 (.ref h)) Q' E s:=fun Q' q=>K5 (a:=e) (i:=2) he hd h2 q
 exact key _ (wpAny_throw hE)
theorem vC{nm q:Str}{C N h:Addr}{bs bm:OH}{hdct:Bool}{sn:OD}{sub:OH}{ab:Bool}{col:PP}{dd:Oy}{k0 k1 k2 k3 k5:PB}{newId:String}{env:Env}{x cz:Sem Value}{Q:Flow->Shared->Prop}(hcz:∀(Q:OA) (E:OA) (s:Shared),Q .none s->wpAny (model prog w) A cz Q E s)(Mq:bm.contains (.type "BaseException")=true)(hh:A.handled=some (.ref h))
  (hx:wpAny (model prog w) A x (fun v s1=>∃e o vs oh ws,v=.ref e/\s1.heap.get? C=some (excClassObj nm q C N bs bm hdct sn sub ab col dd k0 k1 k2 k3 k5 newId)/\s1.heap.get? e=some o/\o.cls=.ref C/\o.data=.fields vs/\vs[1]? = some .none/\4 < vs.size/\s1.heap.get? h=some oh/\oh.data=.fields ws/\ws[2]? = some .none/\h ≠ e/\C ≠ e /\
   ∀h',h'.get? e=some { o with data:=.fields (((vs.setIfInBounds 3 .none).setIfInBounds 4 (.bool true)).setIfInBounds 2 (.ref h)) }->(∀b,b ≠ e->h'.get? b=s1.heap.get? b)->h'.objs.size=s1.heap.objs.size->E (.ref e) { s1 with heap:=h' }) E s) :
  wpAny (model prog w) A (raiseStmt env (some x) (some cz)) Q E s:=by
 have hcB:(Value.ref C :: bm).contains (.type "BaseException")=true:=by rw[L8,Mq,Bool.or_true]
 unfold raiseStmt
 refine Jn (JM hx (fun v s1 z=>?_) fun _ _ z=>z)
 obtain⟨e,o,vs,oh,ws,rfl,hC,he,hcl,hd,h1,h4,hho,hhd,hw,hne,hCe,hE⟩:=z
 obtain⟨hp,g,d,tk,os⟩:=s1
 refine Jn (KC (hcz _ _ _ ?_))
 refine Jn (Jv ?_)
 repeat (first | (with_reducible refine JN he ?_;rw[hcl]) |with_reducible refine JN hC ?_ | (with_reducible refine Me hC ?_;rw[hcB]) |wp_step)
 obtain⟨oc,od,odt,osl⟩:=o
 simp only at hcl hd
 subst hcl hd
 have g1:=JW (Obj.mapFields (·.setIfInBounds 3 Value.none)) he rfl
 have g2:=JW (Obj.mapFields (·.setIfInBounds 4 (Value.bool true))) g1 rfl
 have k1:∀b,b ≠ e->(hp.update e (Obj.mapFields (·.setIfInBounds 3 Value.none))).get? b=hp.get? b:=fun b hb=>JO _ _ (Ne.symm hb)
 have k2:∀b,b ≠ e->((hp.update e (Obj.mapFields (·.setIfInBounds 3 Value.none))).update e (Obj.mapFields (·.setIfInBounds 4 (Value.bool true)))).get? b=hp.get? b:=fun b hb=>(JO _ _ (Ne.symm hb)).trans (k1 b hb)
 have z2:((hp.update e (Obj.mapFields (·.setIfInBounds 3 Value.none))).update e (Obj.mapFields (·.setIfInBounds 4 (Value.bool true)))).objs.size=hp.objs.size:=by simp
 show wpAny _ _ (if 3 < vs.size then _ else _) _ _ _
 rw[if_pos ⋯]
 refine wpAny_update he (Jn (K5 g1 rfl (by show 4 < (vs.setIfInBounds 3 Value.none).size;rw[Lw];exact h4) ?_))
 show wpAny (model prog w) A _ _ E ⟨(hp.update e (Obj.mapFields (·.setIfInBounds 3 Value.none))).update e (Obj.mapFields (·.setIfInBounds 4 (Value.bool true))),g,d,tk,os⟩
 generalize (hp.update e (Obj.mapFields (·.setIfInBounds 3 Value.none))).update e (Obj.mapFields (·.setIfInBounds 4 (Value.bool true)))=h2 at g2 k2 z2
 have hC2:=(k2 C hCe).trans hC
 have hh2:=(k2 h hne).trans hho
 have g2:h2.get? e=some ⟨.ref C,od,.fields ((vs.setIfInBounds 3 Value.none).setIfInBounds 4 (Value.bool true)),osl⟩:=g2
 have f1:(((vs.setIfInBounds 3 Value.none).setIfInBounds 4 (Value.bool true)))[1]? = some .none:=by
  rw[Kh nofun,Kh nofun];exact h1
 have s2:2 < ((vs.setIfInBounds 3 Value.none).setIfInBounds 4 (Value.bool true)).size:=by rw[Lw,Lw];omega
 generalize (vs.setIfInBounds 3 Value.none).setIfInBounds 4 (Value.bool true)=v2 at g2 f1 s2 hE
 repeat (first |with_reducible refine JN g2 ?_ |with_reducible refine JN hC2 ?_ |with_reducible refine J_ g2 rfl f1 ?_ |wp_step)
 refine tY hh hne g2 rfl s2 hh2 hhd hw (hE _ (JW _ g2 rfl) (fun b hb=>(JO _ _ (Ne.symm hb)).trans (k2 b hb)) ?_)
 rw[<-z2];simp
end
end L2
namespace L2.Cu
open PySem PySem.Spec PyProof.Rows PySem.W
theorem AT{P:Program}{w:World}{K:Frag}{mg:OI}{base:Heap}{qual:Str}{st:Stmt}{C fI:Addr}{fd:FuncData}{f p:Str}{cd:ClassData}{p1 p2 p3 p4:Pos}(F:Fun K "__init__" qual st fI fd)(S:aE ["self",p] ["self",p] (ak st))(xc:mn K C cd)(hn:findIn K (.ref C) f=some none)
  (hb:ei st=[.Assign [.Attribute (.Name "self" p1) f p2] (.Name p p3) p4]) (hv0:Vis (ak st) "self") (hv1:Vis (ak st) p) (hd:(p == ("__debug__" : Str))=false) (Oe:(p == ("__classdict__" : Str))=false)
  (hsw:∀(env:Env),swapsWith (.Name p p3) (some (.Attribute (.Name "self" p1) f p2)) p4.line env=pure false):ve P w K mg base CX0 1 fI fd ["self",p] (spI C f):=by
 obtain⟨oc,od,kV,doc,pm,an,cdv,ct,osl,rfl,lk,hcd⟩:=F.ex
 refine Gk lk hcd S (fun vs H Q E z=>?_) fun A outer s H vs Q E hr z=>?_
 ·obtain⟨e,t,v,rfl,_⟩:=z;rfl
 ·rw[hb]
  refine⟨_,rH (Er (kQ (i:=0) rfl hv0) (kQ (i:=1) rfl hv1 hd Oe) (hsw _)),?_⟩
  obtain⟨e,t,v,rfl,he,hq⟩:=z
  exact⟨v,rfl,V.ref e,rfl,e,C,t,cd,rfl,he,xc,hn,fun dx h1 h2=>hq dx h1 h2⟩
end L2.Cu
namespace L2
open PySem PySem.Spec PyProof.Rows
theorem jq.make{k:Nat}{A:Around}(r:jq (k + 1) A)(C:Addr)(us:OH)(kw:Ox):jq k (A.under (.builtin "type.__call__" ⟨.ref C :: us,kw⟩)) :=
 ⟨by have:=r.dp;rw[oK];omega,by have:=r.un;rw[oJ];omega⟩
section
variable {X:Cx}{k:Nat}{fI C h:Addr}{oh:Obj}{ws:OM}{fd:FuncData}{f p x:Str}{np Mn pos M3:Pos}{nk:Nat}{arg:Expr}{t:TA}
theorem vD(hh:X.A.handled=some (.ref h))(hpn:(h,oh) ∈ X.pn)(hod:oh.data=.fields ws)(hw:ws[2]? = some .none)(Mv:(("row" : Str) == f)=true)
  (hq:nD X.K C fI=true) (F:ve X.prog X.w X.K X.mg X.base CX0 k fI fd ["self",p] (spI C f)) (hb:fj X.K fd ["self",p] []) (hfn:PySem.W.isFn X.K (.ref fI)=true) (hr:jq (k + 1) X.A)
  (hg:Gl X x) (hm:X.mg x=some (.ref C)) (hk:PySem.W.keepIn X.K (.ref C)=true) (ha:PA X.nox [arg] t) (hdb:(x == ("__debug__" : Str))=false:=by decide) (he:starEach [arg] X.env=(false,eval arg X.env) :: starEach [] X.env:=by rfl) (hpl:(backTo Mn (starEach [] X.env)).any (·.1)=false:=by rfl) :
  PSX X (.Raise (some (.Call (.Name x np) [arg] [] Mn)) (some (.Constant .none nk M3)) pos) (fun D W σ H=>t σ H fun vs H1=>∃v,vs=[v]/\∀dx,H1 dx=none->W σ (.ref C) (some dx) (upd H1 dx (.xd [(f,v)]))):=by
 intro Ml s σ H D W xe I h0 hx
 obtain⟨nm,qn,N,bs,bm,hdct,sn,sub,ab,col,dd,k0,k1,k2,k3,k5,mN0,hC0,_,_,T0⟩:=l8 I.kIn hq
 have Mq:bm.contains (.type "BaseException")=true:=T0.hasType (Kz).hasBase
 rw[arm_exec_Raise]
 refine Jn (KN (vC (h:=h) (C:=C) (nm:=nm) (q:=qn) (N:=N) (bs:=bs) (bm:=bm) (hdct:=hdct) (sn:=sn) (sub:=sub) (ab:=ab) (col:=col) (dd:=dd) (k0:=k0) (k1:=k1) (k2:=k2) (k3:=k3) (k5:=k5) (newId := "ValueError.__new__") (cz:=do let v <-eval (.Constant .none nk M3) X.env;standAt pos;pure v) (fun Q E s z=>Jn (wpAny_Constant_none (Jn (KN (Jv z))))) Mq hh ?_))
 refine Jn (JM (KD (ja I hg hm ?_ hdb)) (fun v s3 z=>Jn (KN (Jv z))) fun _ _ z=>z)
 refine Ll (h₀:=X.base) I.ok.mod.kin hk (JM (ha Mn Ml s σ H _ (I.wish _) h0) (fun us s1 ⟨vs,H1,I1,r,v,hvs,q⟩=>⟨I1.unwish.kIn,?_⟩) fun _ _ z=>False.elim z) he hpl
 have I1:=I1.unwish
 subst hvs
 obtain⟨u,rv,rfl⟩:∃u,bi v u/\us=[u]:=by
  cases r with
  |cons a b=>cases b;exact⟨_,a,rfl⟩
 obtain⟨oC,hoC⟩:=xv hq
 have sameC:∀s':Shared,X.K.In s'.heap->s'.heap.get? C=s.heap.get? C:=fun s' z=>(z _ _ hoC).trans (I.kIn _ _ hoC).symm
 obtain⟨nm1,qn1,N1,bs1,bm1,Np,sn1,sub1,ab1,col1,dd1,j0,j1,j2,j3,j5,mN1,hC1,hN1,hi1,T1⟩:=l8 I1.kIn hq
 obtain⟨oI,hoI,hclI⟩:∃oI,s1.heap.get? fI=some oI/\oI.cls=.type "function" := by
  have z:PySem.W.typeIn X.K (.ref fI)=some (.type "function"):=beq_iff_eq.mp hfn
  obtain⟨o,w1,w2⟩:=Option.map_eq_some_iff.mp z
  exact⟨o,I1.kIn _ _ w1,w2⟩
 have hz:X.s₀.heap.objs.size<=s1.heap.objs.size:=I1.sz
 have M4:∀p ∈ X.pn ++ Ml,p.1 < s1.heap.objs.size:=fun p hp=>Ju (I1.pin p hp).1
 have hHe:H1 (s1.heap.objs.size + 1)=none:=I1.hok.fresh (KA _)
 have NB:h < s1.heap.objs.size:=M4 (h,oh) (JU _ hpn)
 have hClt:C < s1.heap.objs.size:=Ju hC1
 obtain⟨hh,g,dr,tk,os⟩:=s1
 show wpAny _ _ (call (.ref C) [u]) _ _ _
 refine uN (Kz) T1 hC1 hN1 hi1 hoI hclI ?_ (by rw[KY];simp)
 have he2:((hh.push { cls:=.type "tuple",data:=.seq [u].toArray }).push (dG C hh.objs.size)).get? (hh.objs.size + 1)=some (dG C hh.objs.size):=by heap_get
 have I2:Inv X Ml σ (upd H1 (hh.objs.size + 1) (.ext (er0 (hh.objs.size + 1) C hh.objs.size))) ⟨(hh.push { cls:=.type "tuple",data:=.seq [u].toArray }).push (dG C hh.objs.size),g,dr,tk,os⟩:=
  I1.laid (t':=tk) (fun b o z=>Jp _ (Jp _ z)) (KA _) ⟨he2,⟨_,he2⟩,fun h1 h2 z1 z2=>z2 _ z1⟩
 have hsp:spI C f [V.ref (hh.objs.size + 1),v] (upd H1 (hh.objs.size + 1) (.ext (er0 (hh.objs.size + 1) C hh.objs.size))) (fun r H'=>r=.non/\∃dx,H1 dx=none/\dx ≠ hh.objs.size + 1/\H'=upd (upd (upd H1 (hh.objs.size + 1) (.ext (er0 (hh.objs.size + 1) C hh.objs.size))) (hh.objs.size + 1) (.ext (er1 (hh.objs.size + 1) C hh.objs.size dx))) dx (.xd [(f,v)])) E0 :=
  ⟨_,_,v,rfl,ax,fun dx z1 z2=>⟨rfl,dx,by rw[ap z2]at z1;exact z1,z2,rfl⟩⟩
 have hb':=hb ⟨(hh.push { cls:=.type "tuple",data:=.seq [u].toArray }).push (dG C hh.objs.size),g,dr,tk,os⟩ [.ref (hh.objs.size + 1),u] I2.kIn rfl
 refine Mj (La (F.run _ X.stack _ _ ⟨[.ref (hh.objs.size + 1),u],[]⟩ [.ref (hh.objs.size + 1),u] [V.ref (hh.objs.size + 1),v] _ E0 (hr.make C [u] []) (I2.env0.make C [u] []) hb' (.cons rfl (.cons rv .nil)) hsp) fun r s' hq'=>?_)
 cases r with
 |error e=>exact False.elim hq'
 |ok fl =>
  cases fl with
  |ret w =>
   obtain⟨v',H',I3,rv',ev,dx,d1,d2,eH⟩:=I2.after hq'
   subst ev
   have hHe':H' (hh.objs.size + 1)=some (.ext (er1 (hh.objs.size + 1) C hh.objs.size dx)):=by rw[eH,ap (Ne.symm d2),ax]
   have MD:s'.heap.get? (hh.objs.size + 1)=some { dG C hh.objs.size with dict:=some dx }:=(I3.hok _ _ hHe').1
   have I4:=I3.untrack hHe'
   have eR:rmH H' (hh.objs.size + 1)=upd H1 dx (.xd [(f,v)]):=by
    funext b
    by_cases hb0:b=hh.objs.size + 1
    ·rw[hb0,fN,ap (Ne.symm d2)];exact hHe.symm
    ·rw[dh hb0,eH]
     by_cases hb1:b=dx
     ·rw[hb1,ax,ax]
     ·rw[ap hb1,ap hb1,ap hb0,ap hb0]
   rw[eR]at I4
   have Mu:(upd H1 dx (.xd [(f,v)])) (hh.objs.size + 1)=none:=by rw[ap (Ne.symm d2)];exact hHe
   have hpe:∀p ∈ X.pn ++ Ml,p.1 ≠ hh.objs.size + 1:=fun p hp z=>by
    have:=M4 p hp
    rw[z]at this
    exact absurd this (Nat.not_lt.mpr (KA _))
   have hHh:=(I4.pin (h,oh) (JU _ hpn)).1
   refine⟨rv',hh.objs.size + 1,_,_,oh,ws,rfl,(sameC s' I3.kIn).trans hC0,MD,rfl,rfl,rfl,Nat.lt_of_sub_pos (by show 0 < 6 - 4;decide),hHh,hod,hw,fun z=>?_,fun z=>?_,fun h' g1 g2 g3=>hx _ _ ⟨σ,hh.objs.size + 1,C,dx,{ dG C hh.objs.size with dict:=some dx,data:=.fields (((#[Value.ref hh.objs.size,Value.none,Value.none,Value.none,Value.bool false,Value.none].setIfInBounds 3 Value.none).setIfInBounds 4 (Value.bool true)).setIfInBounds 2 (.ref h)) },_,rfl,I4.kp (ch:=[hh.objs.size + 1]) ⟨fun b o _ nb q=>(g2 b fun z=>nb (by simp[z])).trans q,fun b o _ nb q=>⟨o.slots,(g2 b fun z=>nb (by simp[z])).trans q⟩⟩ fun b hb=>?_,.inl ⟨_,g1,?_,?_⟩,⟨rfl,rfl,d2,Mu,Jy hz (KA _),fun fs z1 z2=>?_⟩,hpe,q dx d1⟩⟩
   ·rw[z]at NB;exact absurd NB (Nat.not_lt.mpr (KA _))
   ·rw[z]at hClt;exact absurd hClt (Nat.not_lt.mpr (KA _))
   ·rw[List.mem_singleton.mp hb]
    exact⟨Jy hz (KA _),⟨_,_,MD,rfl⟩,hpe,Mu⟩
   ·rw[Kh nofun,Kh nofun,Kh nofun];rfl
   ·rfl
   ·rw[ax]at z1
    cases z1
    rw[JP,Mv]at z2
    cases z2
  |next=>exact False.elim hq'
  |brk=>exact False.elim hq'
  |cont=>exact False.elim hq'
end
def EXf(X:Cx)(Ml:OC)(W:XW)(e:Value)(s:Shared):Prop:=∃(σ:St) (a C dx T:Addr) (o0:Obj) (H:Hp),e=.ref a/\Inv X Ml σ H s/\Fly s.heap o0 a T (rawInt X.env.locals)/\H T=none/\X.s₀.heap.objs.size<=T/\(∀p ∈ X.pn ++ Ml,p.1 ≠ T)/\Ci H X.s₀.heap.objs.size o0 a C dx/\(∀p ∈ X.pn ++ Ml,p.1 ≠ a)/\W σ (.ref C) (some dx) H
section
variable {X:Cx}{Ml:OC} {W:XW}{e:Value}{s:Shared}{M:Model}{A:Around}{E:OA}
theorem EXf.ex(x:EXf X Ml W e s):EX X Ml W e s:=by
 obtain⟨σ,a,C,dx,T,o0,H,e1,I,f,h1,h2,h3,eo,hp,w⟩:=x
 exact⟨σ,a,C,dx,o0,H,e1,I,.inr ⟨T,_,f,.inr rfl,h1,h2,h3⟩,eo,hp,w⟩
variable{Q:OU}
theorem xw(hst:X.stack=X.env :: X.outer)(hfr:X.env.frame=some X.env.locals)(x:EX X Ml W e s)(h:∀s',EXf X Ml W e s'->Q () s'):wpAny M X.A (noteFrame e X.env) Q E s:=by
 obtain⟨σ,a,C,dx,o0,H,rfl,I,er,eo,hp,hw⟩:=x
 have hA:X.A.frames=some (X.env :: X.outer):=by rw[<-hst];exact I.ok.frames
 have hF:s.heap.FunFrames X.base (X.env :: X.outer):=by rw[<-hst];exact I.stack
 have hz:=I.sz
 have pinT:∀T,s.heap.objs.size<=T->∀p ∈ X.pn ++ Ml,p.1 ≠ T:=fun T hT p hp z=>absurd (Ju (I.pin p hp).1) (by rw[z];exact Nat.not_lt.mpr hT)
 rcases er with⟨vs,q1,q2,q3⟩ |⟨T,fl,hf1,rfl |rfl,hT,hTz,hTp⟩
 ·refine i9 (base:=X.base) hA hF hfr q1 q2 q3 fun h4 T k4 z4 f4=>?_
  have I4:Inv X Ml σ H { s with heap:=h4 }:=I.kp (ch:=[a]) (by unfold frs;rw[hst];exact k4) fun b hb=>by
   rw[List.mem_singleton.mp hb]
   exact⟨eo.new,⟨_,vs,q1,rfl⟩,hp,eo.free⟩
  exact h _ ⟨σ,a,C,dx,T,o0,H,rfl,I4,f4,I.hok.fresh z4,Jy hz z4,pinT T z4,eo,hp,hw⟩
 ·refine kc (base:=X.base) hA hF hfr hf1 fun h4 T' k4 z4 f4=>?_
  have I4:Inv X Ml σ H { s with heap:=h4 }:=I.kp (ch:=[a,T]) (by unfold frs;rw[hst];exact k4) fun b hb=>by
   rcases List.mem_cons.mp hb with rfl |hb
   ·exact⟨eo.new,hf1.recd.1,hp,eo.free⟩
   ·rw[List.mem_singleton.mp hb]
    exact⟨hTz,hf1.recd.2,hTp,hT⟩
  exact h _ ⟨σ,a,C,dx,T',o0,H,rfl,I4,f4,I.hok.fresh z4,Jy hz z4,pinT T' z4,eo,hp,hw⟩
 ·exact jE hfr hf1 (h _ ⟨σ,a,C,dx,T,o0,H,rfl,I,hf1,hT,hTz,hTp,eo,hp,hw⟩)
theorem BJ(hfr:X.env.frame=some X.env.locals)(x:EXf X Ml W e s)(h:Q () s):wpAny M A (noteFrame e X.env) Q E s:=by
 obtain⟨σ,a,C,dx,T,o0,H,rfl,I,f,_⟩:=x
 exact jE hfr f h
theorem oY(hfr:X.env.frame=some X.env.locals)(x:EXf X Ml W e s)(h:∀s',EXf X Ml W e s'->Q () s'):wpAny M A (setFlight e X.env.frame) Q E s:=by
 obtain⟨σ,a,C,dx,T,o0,H,rfl,I,f,h1,h2,h3,eo,hp,w⟩:=x
 rw[hfr]
 refine cU f fun h5 k5 _ f5=>?_
 exact h _ ⟨σ,a,C,dx,T,o0,H,rfl,I.kp (ch:=[T]) (k5.wide (fun _ z=>by cases z) fun _ z=>z) fun b hb=>by
  rw[List.mem_singleton.mp hb]
  exact⟨h2,f.recd.2,h3,h1⟩,f5,h1,h2,h3,eo,hp,w⟩
theorem qO{Q:OA}(x:EXf X Ml W e s)(h:∀T,Q (.ref T) s):wpAny M A (field e 1) Q E s:=by
 obtain⟨σ,a,C,dx,T,o0,H,rfl,I,⟨vs,oT,ts,q1,q2,_⟩,_⟩:=x
 exact J_ q1 rfl q2 (h T)
theorem BL(hfr:X.env.frame=some X.env.locals)(x:EXf X Ml W e s)(h:∀s',EXf X Ml W e s'->E e s'):cameBackBy M A X.env E e s:=by
 show wpAny M A (do
  if(<-field e 1) == .none then unsupported "frame.own-activation:exception-without-traceback"
  setFlight e X.env.frame) _ _ _
 refine Jn (qO x fun T=>?_)
 rw[if_neg (by simp)]
 exact oY hfr x h
theorem BI{α:Type}{what:String}{Q:α->Shared->Prop}(hfr:X.env.frame=some X.env.locals)(x:EXf X Ml W e s)(h:∀s',EXf X Ml W e s'->E e s'):wpAny M A (PySem.passOn what e X.env:Sem α) Q E s:=by
 unfold PySem.passOn
 refine Jn (qO x fun T=>?_)
 rw[if_neg (by simp)]
 exact Jn (oY hfr x fun s' y=>wpAny_throw (h s' y))
theorem Inv.pinR{σ:St}{H:Hp}{a:Addr}{oe:Obj}{vs:OM}(I:Inv X Ml σ H s)(he:s.heap.get? a=some oe)(hd:oe.data=.fields vs)(hH:H a=none):Inv X ((a,oe) :: Ml) σ H s:=by
 obtain⟨q1,q2,q3⟩:=I.recd he hd
 have nf:a ∉ X.fs:=fun z=>by
  obtain⟨_,o',ho,hnf⟩:=I.funs.mem z
  rw[he]at ho;cases ho
  exact hnf vs hd
 refine⟨I.ok,I.os,I.bare,I.base,I.loc,I.cell,I.free,I.freeC,fun p hp=>?_,I.hok,I.len⟩
 rcases List.mem_append.mp hp with hp |hp
 ·exact I.pin p (JU _ hp)
 ·rcases List.mem_cons.mp hp with rfl |hp
  ·exact⟨he,hH,q1,nf,fun v z=>by rw[hd]at z;cases z⟩
  ·exact I.pin p (JB _ hp)
theorem Inv.unpinR{σ:St}{H:Hp}{p:Addr×Obj}(I:Inv X (p :: Ml) σ H s):Inv X Ml σ H s :=
 ⟨I.ok,I.os,I.bare,I.base,I.loc,I.cell,I.free,I.freeC,fun q hq=>I.pin q (by
  rcases List.mem_append.mp hq with hq |hq
  ·exact JU _ hq
  ·exact JB _ (Jt _ hq)),I.hok,I.len⟩
def xM(i:Nat)(W:XW):XW:=fun σ c d H=>W (σ.set i none) c d H
theorem BK{en:Str}{pos:Pos}(hN:X.N.Nodup)(hi:X.N[i]? = some en)(hl:X.env.scope.names.lookup en=some .local)(x:EXf X Ml (xM i W) e s)(h:∀s',EXf X Ml W e s'->Q () s'):wpAny M A (do bindName X.env en .none;unbindBehindTheSuite X.env en pos) Q E s:=by
 obtain⟨σ,a,C,dx,T,o0,H,rfl,I,f,h1,h2,h3,eo,hp,w⟩:=x
 obtain⟨vs,oT,ts,q1,q2,q3,q4,q5,q6,q7⟩:=id f
 have I1:=I.pinR q1 rfl eo.free
 have I2:=I1.pinR q4 q5 h1
 refine dM I2 hN hi hl fun s' J=>h s' ⟨_,a,C,dx,T,o0,H,rfl,J.unpinR.unpinR,⟨vs,oT,ts,?_,q2,q3,?_,q5,q6,q7⟩,h1,h2,h3,eo,hp,w⟩
 ·exact(J.pin (a,_) (JB _ (Jt _ (Jq ..)))).1
 ·exact(J.pin (T,_) (JB _ (Jq ..))).1
theorem y6{a dx:Addr}{oe od:Obj}(ok:X.Ok)(x:EXf (X.hnd2 a oe dx od) Ml W e s):EXf X Ml W e s:=by
 obtain⟨σ,a',C,dx',T,o0,H,rfl,I,f,h1,h2,h3,eo,hp,w⟩:=x
 exact⟨σ,a',C,dx',T,o0,H,rfl,I.unhnd2 ok,f,h1,h2,fun p z=>h3 p (Jt _ (Jt _ z)),eo,fun p z=>hp p (Jt _ (Jt _ z)),w⟩
end
section
variable {X:Cx}{body Ms:OV}{b₀:Stmt}{cn en:Str}{C fI:Addr}{i:Nat}{np My pos:Pos}{tb:TSX}{th:Addr->List (Str×V)->TSX}
def WHX(C:Addr)(i:Nat)(th:Addr->List (Str×V)->TSX)(D:fe)(W:XW):XW:=fun σ c d H=>∃dx fs,c=.ref C/\d=some dx/\H dx=some (.xd fs)/\fs.lookup ("row" : Str)=none/\∀a,H a=none->th a fs (f7 i D) (xM i W) (σ.set i (some (.ref a))) (rmH H dx)
theorem CU(hb:jZ X body tb)(hst:X.stack=X.env :: X.outer)(hfr:X.env.frame=some X.env.locals)(hq:nD X.K C fI=true)(hg:Gl X cn)(hm:X.mg cn=some (.ref C))(hN:X.N.Nodup)(hi:X.N[i]? = some en)(hl:X.env.scope.names.lookup en=some .local)
  (hs:∀(a dx:Addr) (oe od:Obj) (vs:OM) (fs:OW),oe.cls=.ref C->oe.dict=some dx->oe.data=.fields vs->dx ≠ a->dR dx od fs->vs[2]? = some .none->jZ (X.hnd2 a oe dx od) (b₀ :: Ms) (th a fs)) (hf:X.fn en=true\/X.env.scope.names.lookup en=some .local:=by exact .inr (by assumption)) (hdb:(cn == ("__debug__" : Str))=false:=by decide) :
  PSX X (.Try body [.ExceptHandler (some (.Name cn np)) (some en) (b₀ :: Ms) My] [] [] pos) (fun D W σ H=>tb D (WHX C i th D W) σ H):=by
 intro Ml s σ H D W xe I h hx
 have ok:=I.ok
 have pass:∀(f:Flow) (s1:Shared),SP X Ml D f s1->(match f with |.next=>wpAny (model X.prog X.w) X.A (execs [] X.env) (SP X Ml D) xe s1 |f=>SP X Ml D f s1):=fun f s1 q=>by
  cases f with
  |next=>exact KW q
  |ret v=>exact q
  |brk=>exact q
  |cont=>exact q
 refine wpAny_Try_except (JM (hb Ml s σ H D (WHX C i th D W) _ I h fun e s' x=>x) pass fun e s1 x=>?_)
 refine xw hst hfr x fun s4 x=>?_
 obtain⟨σ1,a,C',dx,T,o0,H1,rfl,I4,f4,hT1,hT2,hT3,eo,hp,dx',fs,hc,hd,hxd,Mv,hw⟩:=x
 cases hc
 cases hd
 refine cU (s:=s4) f4 fun h5 k5 _ f5=>?_
 have I5:Inv X Ml σ1 H1 { s4 with heap:=h5 }:=Inv.kp (s:=s4) (ch:=[T]) I4 (k5.wide (fun _ z=>by cases z) fun _ z=>z) fun b hb=>by
  rw[List.mem_singleton.mp hb]
  exact⟨hT2,f4.recd.2,hT3,hT1⟩
 obtain⟨vs5,oT5,ts5,g1,g2,g3,g4,g5,g6,g7⟩:=id f5
 have Ih:=I5.hnd (a:=a) g1 rfl eo.free
 refine wpAny_handleBy_cons (codeAny_handlers_test (ja (X:=X.hnd a _) Ih hg hm ?_ hdb)) (by intro q;cases q)
 obtain⟨nm,qn,N,bs,bm,hdct,sn,sub,ab,col,dd,k0,k1,k2,k3,k5',mN,hC,_,_,T0⟩:=l8 I5.kIn hq
 have Mq:bm.contains (.type "BaseException")=true:=T0.hasType (Kz).hasBase
 obtain⟨hh1,gg,dr,tk,os⟩:=s4
 refine wpAny_excMatches_sub_self hC g1 eo.cls Mq ?_
 refine codeAny_handlers_suite_as (cU (s:=⟨h5,gg,dr,tk,os⟩) f5 fun h6 k6 _ f6=>?_)
 have I6:Inv X Ml σ1 H1 ⟨h6,gg,dr,tk,os⟩:=Inv.kp (s:=⟨h5,gg,dr,tk,os⟩) (ch:=[T]) I5 (k6.wide (fun _ z=>by cases z) fun _ z=>z) fun b hb=>by
  rw[List.mem_singleton.mp hb]
  exact⟨hT2,f5.recd.2,hT3,hT1⟩
 obtain⟨vs6,oT6,ts6,r1,_,_,_,_,_,r7⟩:=id f6
 obtain⟨od,hdh,Ih6⟩:=I6.hnd2 (a:=a) r1 rfl eo.free hxd
 refine gE (X:=X.hnd2 a _ dx od) Ih6 hN hi (.inl hl) (v:=V.ref a) rfl (fun s7 I7=>?_) hf
 refine JM (hs a dx { o0 with data:=.fields vs6 } od vs6 fs eo.cls eo.dict rfl eo.ne hdh (r7.trans (eo.cx fs hxd Mv)) Ml s7 _ _ (f7 i D) (xM i W) _ I7 (hw a eo.free) fun e s' x=>x) (fun f s8 q=>q.gone ok hN hi hl) fun e s8 x=>?_
 refine xw (X:=X.hnd2 a { o0 with data:=.fields vs6 } dx od) hst hfr x fun s9 x9=>?_
 refine BK (X:=X.hnd2 a { o0 with data:=.fields vs6 } dx od) hN hi hl x9 fun s10 x10=>?_
 refine BI (X:=X.hnd2 a { o0 with data:=.fields vs6 } dx od) hfr x10 fun s11 x11=>?_
 refine BJ (X:=X.hnd2 a { o0 with data:=.fields vs6 } dx od) hfr x11 ?_
 exact BL hfr (y6 ok x11) fun s12 x12=>hx _ _ x12.ex
end
end L2
namespace L2.Cu
open PySem PySem.Spec PyProof.Rows
section
variable {X:Cx}{cl:Ou}{a dx:Addr}{oe od:Obj}{vs:OM}{pos:Pos}
theorem wj{k:Nat}{fI C:Addr}{fd:FuncData}{fld p x:Str}{np Mn M3:Pos}{nk:Nat}{arg:Expr}{f:OF}{n:Nat}(hod:oe.data=.fields vs)(hcx:vs[2]? = some .none)(Mv:(("row" : Str) == fld)=true)(hn:cl n=C)(hq:nD X.K C fI=true)(F:ve X.prog X.w X.K X.mg X.base CX0 k fI fd ["self",p] (spI C fld))(hb:fj X.K fd ["self",p] [])
  (hfn:PySem.W.isFn X.K (.ref fI)=true) (hr:dj (k + 1) X.A) (hg:Gl X x) (hm:X.mg x=some (.ref C)) (hk:PySem.W.keepIn X.K (.ref C)=true) (ha:Ev (X.hnd2 a oe dx od) .V arg f) (hdb:(x == ("__debug__" : Str))=false:=by decide) (hs:aO arg=true:=by rfl) :
  EsX (X.hnd2 a oe dx od) cl (.Raise (some (.Call (.Name x np) [arg] [] Mn)) (some (.Constant .none nk M3)) pos) (cI n fld f) :=
 PSX.by (vD (X:=X.hnd2 a oe dx od) rfl (Jq ..) hod hcx Mv hq F hb hfn hr.toH hg hm hk (ac ha ah (by first |assumption |rfl)).h hdb (aD arg [] X.env hs) rfl) fun Z W σ H z=>by
  obtain⟨B,G,E,r,k,q,w⟩:=z
  unfold cI at q
  cases hf:f E with
  |none=>rw[hf]at q;cases q
  |some d =>
   rw[hf]at q
   by_cases hd:jc d=true
   ·have q':some (bF.xc n [(fld,d)] E)=some r:=by
     rw[<-q]
     show _=if jc d=true then _ else _
     rw[if_pos hd]
    cases q'
    refine⟨B,G,E,[d],k,?_,fun vs F' H' x r=>?_⟩
    ·unfold aa aj
     rw[hf];rfl
    ·obtain⟨v,ws,rfl,r1,r2⟩:=r.c1
     obtain rfl:=r2.c0
     subst hn
     obtain rfl:=Ag r1 hd
     exact⟨_,rfl,fun dx hdx=>w σ F' H' dx (k.ext x) x.fr hdx⟩
   ·have:(none:Option bF)=some r:=by
     rw[<-q]
     show _=if jc d=true then _ else _
     rw[if_neg hd]
    cases this
end
def BD(i:Nat):bF->bF
 |.ok r=>.ok (uI i r)
 |.xc m fs E=>.xc m fs (E.set i .no)
def zo(G:Addr->Option bF):Option bF:=@dite _ (∃r,∀a,G a=some r) (Classical.propDecidable _) (fun h=>some (Classical.choose h)) fun _=>none
variable{r:bF}
theorem D6{G:Addr->Option bF}(h:∀a,G a=some r):zo G=some r:=by
 unfold zo
 have h0:∃r,∀a,G a=some r:=⟨r,h⟩
 rw[dif_pos h0]
 exact(Li h0 0).symm.trans (h 0)
theorem zn{G:Addr->Option bF}(h:zo G=some r):∀a,G a=some r:=by
 unfold zo at h
 by_cases h0:∃r,∀a,G a=some r
 ·rw[dif_pos h0]at h
  cases h
  exact Li h0
 ·rw[dif_neg h0]at h;cases h
def zI(n i:Nat)(fb:DE->Option bF)(fh:Addr->List (Str×D)->DE->Option bF)(E:DE):Option bF:=(fb E).bind fun r=>match r with
 |.ok r=>some (.ok r)
 |.xc m fs E'=>@ite _ (m=n/\gd E'/\fs.lookup ("row" : Str)=none) (Classical.propDecidable _) (zo fun a=>(fh a fs (E'.set i (fg a))).map (BD i)) none
theorem z_{f:Str}:∀{fs:Oz},fs.lookup f=none->(scF fs).lookup f=none:=fun {fs}=>by
 induction fs with
 |nil=>intro _;rfl
 |cons y l ih =>
  intro z
  obtain⟨g,x⟩:=y
  rw[JP]at z
  show List.lookup f ((g,scV x) :: scF l)=_
  rw[JP]
  cases hg:f == g with
  |true=>rw[hg]at z;cases z
  |false=>rw[hg]at z;exact ih z
theorem wa{cl:Ou}{B:O8}{F:Hp}{D:fe}{W:XW}(w:kK cl B F D W (BD i r)):kK cl B F (f7 i D) (xM i W) r:=by
 cases r with
 |ok r=>exact qL (r:=r) w
 |xc m fs E=>exact fun σ F' H dx k x hd=>w (σ.set i none) F' H dx (k.noS i) x hd
variable{n:Nat}
theorem DS{X:Cx}{cl:Ou}{body Ms:OV}{b₀:Stmt}{cn en:Str}{fI:Addr}{i:Nat}{np My pos:Pos}{fb:DE->Option bF}{fh:Addr->List (Str×D)->DE->Option bF}(hb:nG X cl body fb)(hst:X.stack=X.env :: X.outer)(hfr:X.env.frame=some X.env.locals)(hq:nD X.K (cl n) fI=true)
  (hg:Gl X cn) (hm:X.mg cn=some (.ref (cl n))) (hN:X.N.Nodup) (hi:X.N[i]? = some en) (hl:X.env.scope.names.lookup en=some .local)
  (hs:∀(a dx:Addr) (oe od:Obj) (vs:OM) (fs:Oz),oe.cls=.ref (cl n)->oe.dict=some dx->oe.data=.fields vs->dx ≠ a->dR dx od (scF fs)->vs[2]? = some .none->nG (X.hnd2 a oe dx od) cl (b₀ :: Ms) (fh a fs)) (hdb:(cn == ("__debug__" : Str))=false:=by decide) :
  EsX X cl (.Try body [.ExceptHandler (some (.Name cn np)) (some en) (b₀ :: Ms) My] [] [] pos) (zI n i fb fh) :=
 PSX.by (CU (th:=fun a vs D W σ H=>∃fs,vs=scF fs/\tSX cl (fh a fs) D W σ H) hb.h hst hfr hq hg hm hN hi hl (fun a dx oe od vs fsV h1 h2 h3 h4 h5 h6=>fun Ml s σ H D W xe I z hx=>by
  obtain⟨fs,e,q⟩:=z
  subst e
  exact(hs a dx oe od vs fs h1 h2 h3 h4 h5 h6).h Ml s σ H D W xe I q hx) (.inr hl) hdb) fun Z W σ H z=>by
  obtain⟨B,F,E,r,k,q,w⟩:=z
  unfold zI at q
  cases hf:fb E with
  |none=>rw[hf]at q;cases q
  |some r1 =>
   rw[hf]at q
   refine⟨B,F,E,r1,k,hf,?_⟩
   cases r1 with
   |ok r1=>cases q;exact w
   |xc m fs E' =>
    have q2:@ite _ (m=n/\gd E'/\fs.lookup ("row" : Str)=none) (Classical.propDecidable _) (zo fun a=>(fh a fs (E'.set i (fg a))).map (BD i)) none=some r:=q
    by_cases hc:m=n/\gd E'/\fs.lookup ("row" : Str)=none
    ·rw[if_pos hc]at q2
     obtain⟨hmn,hno,Mv⟩:=hc
     subst hmn
     refine fun σ' F' H' dx k' x hd=>⟨dx,scF fs,rfl,rfl,ax,z_ Mv,fun a _=>?_⟩
     obtain⟨r2,e1,e2⟩:=Option.map_eq_some_iff.mp (zn q2 a)
     subst e2
     refine⟨fs,rfl,B,F',_,r2,?_,e1,wa (w.mono x)⟩
     rw[wU hd]
     exact k'.set_raw hno i a
    ·rw[if_neg hc]at q2;cases q2
section
variable {X:Cx}{a C dx:Addr}{oe od:Obj}{cd:ClassData}
theorem sM(hcl:oe.cls=.ref C)(xc:mn X.K C cd)(hc:PySem.W.findIn X.K (.ref C) "__class__" = some (some (.builtin "object.__class__"))) :
  dc (X.pin2 a oe dx od) (.builtin "isinstance") (fun xs H Q=>∃(tp:Addr) (Cs:OT) (b:Bool),xs=[.ref a,.ref tp]/\H tp=some (.tup (Cs.map V.ref))/\PySem.W.kitAny X.K (.ref C) (Cs.map Value.ref)=some b/\Q (.bl b) H):=by
 intro Ml s σ H xs us Q I r h
 obtain⟨tp,Cs,b,rfl,htp,e,q⟩:=h
 obtain⟨u,w',rfl,ru,rw'⟩:=aW.two r
 obtain rfl:u=Value.ref a:=ru
 obtain rfl:w'=Value.ref tp:=rw'
 have hp:=(I.pin (a,oe) (Jq ..)).1
 obtain⟨_,its,rv,⟨c,dd,dt,sl⟩,g,g2,n,g3⟩:=I.hok tp _ htp
 cases g2
 cases g3
 have hits:∀(Cs:OT) (its:OH),aW (Cs.map V.ref) its->its=Cs.map Value.ref:=fun Cs=>by
  induction Cs with
  |nil=>intro its z;cases z;rfl
  |cons d Cs ih =>
   intro its z
   cases z with
   |cons z1 z2=>rw[ih _ z2,Ji];congr 1
 have e2:=hits Cs its rv
 subst e2
 exact PySem.W.kia_tup (uy xc hc) I.kIn ⟨_,hp,hcl⟩ g e (fun z=>nomatch z) fun tk=>⟨.bl b,H,I.tok tk,rfl,q⟩
theorem p9(hcl:oe.cls=.ref C)(xc:mn X.K C cd)(hc:PySem.W.findIn X.K (.ref C) "__class__" = some (some (.builtin "object.__class__"))) :
  dc (X.pin2 a oe dx od) (.builtin "isinstance") (fun xs H Q=>∃(y:V) (c:Value) (b:Bool),xs=[.ref a,y]/\(∀u,bi y u->u=c)/\PySem.W.kitOne X.K (.ref C) c=some b/\Q (.bl b) H):=by
 intro Ml s σ H xs us Q I r h
 obtain⟨y,c,b,rfl,hy,e,q⟩:=h
 obtain⟨u,w',rfl,ru,rw'⟩:=aW.two r
 obtain rfl:u=Value.ref a:=ru
 obtain rfl:=hy w' rw'
 have hp:=(I.pin (a,oe) (Jq ..)).1
 exact Kd (uy xc hc) I.kIn ⟨_,hp,hcl⟩ e (fun z=>nomatch z) fun tk=>⟨.bl b,H,I.tok tk,rfl,q⟩
end
section
variable {X:Cx}{a C dx:Addr}{oe od:Obj}{cd:ClassData}{i:Nat}{p pos np:Pos}{en:Str}
theorem DN{as:OD}{ad:Str->Addr}{es:OP}{x1}{tpos:Pos}{b:Bool}(hcl:oe.cls=.ref C)(xc:mn X.K C cd)(hc:PySem.W.findIn X.K (.ref C) "__class__" = some (some (.builtin "object.__class__")))(hg:Gl (X.pin2 a oe dx od) "isinstance")(hm:X.mg "isinstance" = none)(hbi:bootBuiltins "isinstance" = some (.builtin "isinstance"))(hv:PE (X.pin2 a oe dx od) (.Name en p) (nY i))
  (hm2:∀y ∈ as,X.mg y=some (.ref (ad y))) (hk:PySem.W.kitAny X.K (.ref C) (as.map fun y=>.ref (ad y))=some b) (hz:as.length<=9:=by decide) (hes:es=List.zipWith Expr.Name as (es.map Au):=by rfl) (hgl:as.map X.env.kindOf=(as.map fun _=>some NameKind.globalImplicit):=by rfl) (hdb:as.all (fun y => !(y == ("__debug__" : Str)))=true:=by decide)
  (hln:as.length=es.length:=by rfl):Ev (X.pin2 a oe dx od) .V (.Call (.Name "isinstance" np) [.Name en p,.Tuple es x1 tpos] [] pos) (xF i a (.bl b)) :=
 PE.by (iA (sM hcl xc hc) hg hm hbi (bR hv (bR (vG (w_ (X:=X.pin2 a oe dx od) hes hm2 hgl hdb hln)) ek rfl) rfl)) fun σ H Q z=>by
  obtain⟨B,F,E,d',k,q,w⟩:=z
  obtain⟨rfl,e⟩:=lp k q
  refine⟨_,e,?_,fun tp htp=>⟨tp,as.map ad,b,rfl,ax,by rw[Kk];exact hk,w _ F _ ⟨fun c o z=>?_,fun c o z=>z,fun c o z=>?_,fun c z _=>z⟩ (.bl b)⟩⟩
  ·rw[Jm,Jm];exact Jy hz nofun
  ·rw[ap (fun z1=>by rw[z1,htp]at z;cases z)];exact z
  ·rw[ap (fun z1=>by rw[z1]at z;rw[k.sub _ _ z]at htp;cases htp)];exact k.sub _ _ z
theorem uO{e:Expr}{c:Value}{y:V}{b:Bool}(hcl:oe.cls=.ref C)(xc:mn X.K C cd)(hc:PySem.W.findIn X.K (.ref C) "__class__" = some (some (.builtin "object.__class__")))(hg:Gl (X.pin2 a oe dx od) "isinstance")(hm:X.mg "isinstance" = none)(hbi:bootBuiltins "isinstance" = some (.builtin "isinstance"))(hv:PE (X.pin2 a oe dx od) (.Name en p) (nY i))
  (he:PE (X.pin2 a oe dx od) e (tC y)) (hy:∀u,bi y u->u=c) (hk:PySem.W.kitOne X.K (.ref C) c=some b) (hs:aO e=true:=by rfl) :
  Ev (X.pin2 a oe dx od) .V (.Call (.Name "isinstance" np) [.Name en p,e] [] pos) (xF i a (.bl b)) :=
 PE.by (iA (p9 hcl xc hc) hg hm hbi (bR hv (bR he ek (aD e [] X.env hs)) rfl) nofun nofun rfl (dN pos X.env [e] (by simp[hs]))) fun σ H Q z=>by
  obtain⟨B,F,E,d',k,q,w⟩:=z
  obtain⟨rfl,e⟩:=lp k q
  exact⟨_,e,y,c,b,rfl,hy,hk,w _ F H (Ext.refl k.sub) (.bl b)⟩
end
section
variable {X:Cx}{e:Expr}{x:Str}{pos pos':Pos}{f:OF}
theorem aB(i:Nat)(hN:X.N.Nodup)(he:Ev X .V e f)(hi:X.N[i]? = some x:=by rfl)(hx:Loc X.env.scope x:=by exact Or.inl rfl)(hs:swapsWith e (some (.Name x pos')) pos.line X.env=pure false:=by rfl)
  (hf:X.fn x=true\/X.env.scope.names.lookup x=some .local:=by first |exact .inl rfl |exact .inr rfl):Es X (.Assign [.Name x pos'] e pos) (aT i f):=il hN hi hx he hs hf
theorem cw(i:Nat)(hN:X.N.Nodup)(he:Ev X .F e f)(hi:X.N[i]? = some x:=by rfl)(hx:Loc X.env.scope x:=by exact Or.inl rfl)(hs:swapsWith e (some (.Name x pos')) pos.line X.env=pure false:=by rfl)
  (hf:X.fn x=true\/X.env.scope.names.lookup x=some .local:=by first |exact .inl rfl |exact .inr rfl):Es X (.Assign [.Name x pos'] e pos) (gj i f):=Gs hN hi hx he hs hf
theorem az(i:Nat)(hN:X.N.Nodup)(hi:X.N[i]? = some x:=by rfl)(hx:Loc X.env.scope x:=by exact Or.inl rfl)(hf:X.fn x=true\/X.env.scope.names.lookup x=some .local:=by first |exact .inl rfl |exact .inr rfl):Eg X (.Name x pos) (nmG i):=nS hN hi hx hf
structure Cal (K:OE) (mg:OI) (x:Str) (f:Addr) (fd:FuncData) (ps:OD):Prop where
 m:mg x=some (.ref f)
 kp:PySem.W.keepIn K (.ref f)=true
 b:fj K fd ps []
theorem ao{k j:Nat}{fa:Addr}{fd:FuncData}{ps:OD}{p:Pos}{es:OP}{g:OR}{f:OG}(Fn:aX X.prog X.w X.K X.mg X.base CX0 k fa fd ps (spD n g))(c:Cal X.K X.mg x fa fd ps)(hr:dj j X.A)(ha:Ea X (e :: es) f)(hj:k<=j:=by decide)(hg:Gl X x:=by rfl)
  (hdb:(x == ("__debug__" : Str))=false:=by decide) (he:aO e=true:=by rfl) (hpl:es.all aO=true:=by rfl):Ev X .V (.Call (.Name x p) (e :: es) [] pos) (aq n g f):=DR Fn (hr.mono hj) hg c.m c.kp c.b ha hdb he hpl
end
variable{ps:OD}
theorem fnA{P:Program}{w:World}{K:OE}{mg:OI}{base:Heap}{x qual:Str}{st:Stmt}{f:Addr}{fd:FuncData}{N:OD}{k1 n m:Nat}(k:Nat)(b:OO){g:OR}(Fn:Fun K x qual st f fd)(S:aE N ps (ak st))
  (Mt:∀{cdv:Value}{A:Around}{outer:OZ}{s:Shared}{H:Hp}{E:XK},dj k (A.deeper (envOfC qual (ak st) s.heap.objs.size f cdv)) ->
   Ess (jN CX0 P w K mg base N qual (ak st) f cdv A outer s H E).nox (ei st) b) (hn:ps.length=n:=by rfl) (hm:N.length=m:=by rfl) (hk:k + 1=k1:=by rfl) (hg:g=ck n m b:=by rfl):aX P w K mg base CX0 k1 f fd ps (spD n g) :=
 fnG Fn S hn hm hk hg fun _ _ _ _ _ _ hr=>Mt hr
theorem scO{N:OD}{sc:Scope}(h1:sc.kind=.function:=by rfl)(h2:sc.isCoroutine=false:=by rfl)(h3:sc.isGenerator=false:=by rfl)(h4:N.Nodup:=by decide +kernel)(h5:N.take ps.length=ps:=by rfl)(h6:∀x ∈ ps,sc.names.lookup x=some .local\/sc.names.lookup x=some .cell:=by decide +kernel)
  (h7:∀y ∈ sc.names,y.2 ≠ .free:=by decide +kernel):aE N ps sc:=⟨h1,h2,h3,h4,h5,h6,h7⟩
theorem cZ{K:OE}{mg:OI}{x:Str}{f:Addr}{fd:FuncData}{q:Str}{st:Stmt}(F:Fun K x q st f fd)(m:mg x=some (.ref f)) (h:∀(kV doc pm:Value) (an:Oy) (cdv ct:Value) (us:OH),us.length=ps.length->bindArgs (PySem.W.fnOf x q (md st) (ei st) (ak st) .none kV doc pm an cdv ct) ⟨us,[]⟩=pure (ps.zip us):=by
  intro _ _ _ _ _ _ us hl;first | (obtain⟨u0,rfl⟩:=ul1 hl;rfl) | (obtain⟨u0,u1,rfl⟩:=ul2 hl;rfl) | (obtain⟨u0,u1,u2,rfl⟩:=ul3 hl;rfl) | (match us,hl with | [u0,u1,u2,u3],_=>rfl)):Cal K mg x f fd ps:=⟨m,F.kp,F.binds h⟩
end L2.Cu
namespace L2.Cu.Wk
open PySem PySem.Spec PyProof.Rows
abbrev tI:Stmt:=cj 40
abbrev mr:List Str:=["_law_cell_here","_law_turn","_law_many","_law_number"]
theorem qg:aE mr (mr.take 3) (ak tI):=scO
abbrev gz:Stmt:=cj 41
abbrev eL:List Str:=["_law_cell_here","_law_letters","_law_root","_law_at","_law_first","_law_k"]
theorem cW:aE eL (eL.take 1) (ak gz):=scO
abbrev tN:Stmt:=cj 38
abbrev my:List Str:=["_law_script","_law_at"]
theorem ye:aE my (my.take 2) (ak tN):=scO
abbrev dD:Stmt:=cj 42
abbrev ce:List Str:=["_law_cell_here","_law_letters","_law_root","_law_found","_law_k","_law_word"]
theorem bA:aE ce (ce.take 1) (ak dD):=scO
abbrev qm:Stmt:=cj 43
abbrev kq:List Str:=["_law_number","_law_many","_law_most","_law_letters","_law_found","_law_k","_law_size","_law_text","_law_j"]
theorem cC:aE kq (kq.take 3) (ak qm):=scO
abbrev tK:Stmt:=cj 39
abbrev mw:List Str:=["_law_script","_law_at"]
theorem yd:aE mw (mw.take 2) (ak tK):=scO
abbrev g8:Stmt:=cj 45
abbrev eM:List Str:=["_law_number","_law_free","_law_words_here","_law_some","_law_k"]
theorem eQ:aE eM (eM.take 3) (ak g8):=scO
abbrev kC:Stmt:=cj 44
abbrev fM:List Str:=["_law_number","_law_free","_law_words_here","_law_most","_law_some","_law_name","_law_many","_law_line","_law_k"]
theorem bd:aE fM (fM.take 4) (ak kC):=scO
abbrev oi:Stmt:=cj 46
abbrev j4:List Str:=["_law_script","_law_at","_law_most","_law_names_here","_law_words_here","_law_digits","_law_play_here","_law_ahead","_law_cell_here","_law_free","_law_line","_law_name"]
theorem bH:aE j4 (j4.take 3) (ak oi):=scO
abbrev lA:Stmt:=cj 51
abbrev gy:List Str:=["_law_script","_law_play_here"]
theorem ie:aE gy (gy.take 1) (ak lA):=scO
abbrev rD:Stmt:=cj 50
abbrev mv:List Str:=["_law_names_here","_law_words_here","_law_word"]
theorem tF:aE mv (mv.take 2) (ak rD):=scO
abbrev oj:Stmt:=cj 52
abbrev j6:List Str:=["_law_play_here","_law_cell_here","_law_name","_law_rows","_law_names_here","_law_words_here","_law_cue","_law_k"]
theorem eD:aE j6 (j6.take 2) (ak oj):=scO
abbrev kB:Stmt:=cj 53
abbrev fL:List Str:=["_law_names_here","_law_cell_here","_law_some"]
theorem gH:aE fL (fL.take 2) (ak kB):=scO
abbrev kA:Stmt:=cj 54
abbrev fK:List Str:=["_law_words_here","_law_cell_here","_law_one","_law_some"]
theorem eP:aE fK (fK.take 2) (ak kA):=scO
abbrev jB:Stmt:=cj 55
abbrev fZ:List Str:=["_law_row_here","_law_cell_here","_law_head","_law_colon","_law_tail","_law_ahead","_law_sign","_law_names_here","_law_some","_law_odd","_law_spots","_law_at","_law_spot"]
theorem bo:aE fZ (fZ.take 2) (ak jB):=scO
abbrev nj:Stmt:=cj 56
abbrev ib:List Str:=["_law_row_here","_law_cell_here","_law_name","_law_cue","_law_sign","_law_speech","_law_some"]
theorem cV:aE ib (ib.take 3) (ak nj):=scO
abbrev qo:Stmt:=cj 57
abbrev kr:List Str:=["_law_rows","_law_cell_here","_law_name","_law_at","_law_made","_law_some","_law_more","_law_other"]
theorem ca:aE kr (kr.take 3) (ak qo):=scO
abbrev nh:Stmt:=cj 16
abbrev hZ:List Str:=["thing"]
theorem rC:aE hZ (hZ.take 1) (ak nh):=scO
abbrev i7:Stmt:=cj 17
abbrev e_:List Str:=["thing","most","sign"]
theorem kz:aE e_ (e_.take 2) (ak i7):=scO
abbrev qk:Stmt:=cj 19
abbrev ko:List Str:=["thing"]
theorem vt:aE ko (ko.take 1) (ak qk):=scO
abbrev jA:Stmt:=cj 20
abbrev fY:List Str:=["things","thing"]
theorem lz:aE fY (fY.take 1) (ak jA):=scO
abbrev jy:Stmt:=cj 22
abbrev fW:List Str:=["names","early","late"]
theorem i6:aE fW (fW.take 1) (ak jy):=scO
abbrev g0:Stmt:=cj 23
abbrev dz:List Str:=["thing"]
theorem kP:aE dz (dz.take 1) (ak g0):=scO
abbrev qj:Stmt:=cj 18
abbrev kn:List Str:=["thing"]
theorem vq:aE kn (kn.take 1) (ak qj):=scO
abbrev jz:Stmt:=cj 21
abbrev fX:List Str:=["things","thing"]
theorem ly:aE fX (fX.take 1) (ak jz):=scO
abbrev gZ:Stmt:=cj 24
abbrev dy:List Str:=["thing"]
theorem kO:aE dy (dy.take 1) (ak gZ):=scO
abbrev ng:Stmt:=cj 25
abbrev hY:List Str:=["thing"]
theorem rB:aE hY (hY.take 1) (ak ng):=scO
abbrev m_:Stmt:=cj 27
abbrev hV:List Str:=["pair","speech"]
theorem lx:aE hV (hV.take 1) (ak m_):=scO
abbrev ig:Stmt:=cj 26
abbrev d8:List Str:=["names","others","name"]
theorem jx:aE d8 (d8.take 2) (ak ig):=scO
abbrev qi:Stmt:=cj 28
abbrev iU:List Str:=["pairs","speeches","names_ahead","place","pair","speech"]
theorem bw:aE iU (iU.take 1) (ak qi):=scO
abbrev na:Stmt:=cj 33
abbrev hX:List Str:=["row","parts","speech"]
theorem i5:aE hX (hX.take 1) (ak na):=scO
abbrev gY:Stmt:=cj 35
abbrev dJ:List Str:=["rows","refusal","row"]
theorem eN:aE dJ (dJ.take 1) (ak gY):=scO
abbrev og:Stmt:=cj 34
abbrev jn:List Str:=["row","parts","cue","speech"]
theorem gX:aE jn (jn.take 1) (ak og):=scO
abbrev tH:Stmt:=cj 30
abbrev mq:List Str:=["thing"]
theorem yc:aE mq (mq.take 1) (ak tH):=scO
abbrev oa:Stmt:=cj 31
abbrev jm:List Str:=["name","thing"]
theorem tD:aE jm (jm.take 2) (ak oa):=scO
abbrev nc:Stmt:=cj 36
abbrev fV:List Str:=["name","rows","entries","number","row","entry"]
theorem bK:aE fV (fV.take 2) (ak nc):=scO
abbrev tJ:Stmt:=cj 58
abbrev iV:List Str:=["_law_rows","_law_name"]
theorem qh:aE iV (iV.take 2) (ak tJ):=scO
abbrev ni:Stmt:=cj 59
abbrev h_:List Str:=["_law_rows","_law_name","_law_at","_law_caught","e"]
theorem gi:aE h_ (h_.take 3) (ak ni):=scO
abbrev Aa:Stmt:=cj 60
abbrev vd:List Str:=["_law_script","_law_play_here","_law_cell_here","_law_name","_law_rows","_law_faulty","_law_at","_law_good","_law_names_here","_law_words_here"]
theorem eO:aE vd (vd.take 1) (ak Aa):=scO
abbrev TX(K:OE)(mg:OI):=TT PySem.Challenge.pw_cuebook_k73_rows_refused ds zs cs moK moB K mg
section
variable {K:OE}{mg:OI} (T:TX K mg)
abbrev TX.f__Lspin:=T.f 40
abbrev TX.fd__Lspin:=T.fd 40
theorem TX.F__Lspin:Fun K "_law_spin" "_law_spin" tI T.f__Lspin T.fd__Lspin:=T.F 40 nofun
theorem TX.c__Lspin:Cal K mg "_law_spin" T.f__Lspin T.fd__Lspin (mr.take 3):=cZ T.F__Lspin (T.m 40 nofun)
abbrev TX.f__Lnames:=T.f 41
abbrev TX.fd__Lnames:=T.fd 41
theorem TX.F__Lnames:Fun K "_law_names" "_law_names" gz T.f__Lnames T.fd__Lnames:=T.F 41 nofun
theorem TX.c__Lnames:Cal K mg "_law_names" T.f__Lnames T.fd__Lnames (eL.take 1):=cZ T.F__Lnames (T.m 41 nofun)
abbrev TX.f__Lcell:=T.f 38
abbrev TX.fd__Lcell:=T.fd 38
theorem TX.F__Lcell:Fun K "_law_cell" "_law_cell" tN T.f__Lcell T.fd__Lcell:=T.F 38 nofun
theorem TX.c__Lcell:Cal K mg "_law_cell" T.f__Lcell T.fd__Lcell (my.take 2):=cZ T.F__Lcell (T.m 38 nofun)
abbrev TX.f__Lvocabulary:=T.f 42
abbrev TX.fd__Lvocabulary:=T.fd 42
theorem TX.F__Lvocabulary:Fun K "_law_vocabulary" "_law_vocabulary" dD T.f__Lvocabulary T.fd__Lvocabulary:=T.F 42 nofun
theorem TX.c__Lvocabulary:Cal K mg "_law_vocabulary" T.f__Lvocabulary T.fd__Lvocabulary (ce.take 1):=cZ T.F__Lvocabulary (T.m 42 nofun)
abbrev TX.f__Ltexts:=T.f 43
abbrev TX.fd__Ltexts:=T.fd 43
theorem TX.F__Ltexts:Fun K "_law_texts" "_law_texts" qm T.f__Ltexts T.fd__Ltexts:=T.F 43 nofun
theorem TX.c__Ltexts:Cal K mg "_law_texts" T.f__Ltexts T.fd__Ltexts (kq.take 3):=cZ T.F__Ltexts (T.m 43 nofun)
abbrev TX.f__Llong:=T.f 39
abbrev TX.fd__Llong:=T.fd 39
theorem TX.F__Llong:Fun K "_law_long" "_law_long" tK T.f__Llong T.fd__Llong:=T.F 39 nofun
theorem TX.c__Llong:Cal K mg "_law_long" T.f__Llong T.fd__Llong (mw.take 2):=cZ T.F__Llong (T.m 39 nofun)
abbrev TX.f__Lby_spin:=T.f 45
abbrev TX.fd__Lby_spin:=T.fd 45
theorem TX.F__Lby_spin:Fun K "_law_by_spin" "_law_by_spin" g8 T.f__Lby_spin T.fd__Lby_spin:=T.F 45 nofun
theorem TX.c__Lby_spin:Cal K mg "_law_by_spin" T.f__Lby_spin T.fd__Lby_spin (eM.take 3):=cZ T.F__Lby_spin (T.m 45 nofun)
abbrev TX.f__Lby_digits:=T.f 44
abbrev TX.fd__Lby_digits:=T.fd 44
theorem TX.F__Lby_digits:Fun K "_law_by_digits" "_law_by_digits" kC T.f__Lby_digits T.fd__Lby_digits:=T.F 44 nofun
theorem TX.c__Lby_digits:Cal K mg "_law_by_digits" T.f__Lby_digits T.fd__Lby_digits (fM.take 4):=cZ T.F__Lby_digits (T.m 44 nofun)
abbrev TX.f__Lplay:=T.f 46
abbrev TX.fd__Lplay:=T.fd 46
theorem TX.F__Lplay:Fun K "_law_play" "_law_play" oi T.f__Lplay T.fd__Lplay:=T.F 46 nofun
theorem TX.c__Lplay:Cal K mg "_law_play" T.f__Lplay T.fd__Lplay (j4.take 3):=cZ T.F__Lplay (T.m 46 nofun)
abbrev TX.f__Lspeeches:=T.f 51
abbrev TX.fd__Lspeeches:=T.fd 51
theorem TX.F__Lspeeches:Fun K "_law_speeches" "_law_speeches" lA T.f__Lspeeches T.fd__Lspeeches:=T.F 51 nofun
theorem TX.c__Lspeeches:Cal K mg "_law_speeches" T.f__Lspeeches T.fd__Lspeeches (gy.take 1):=cZ T.F__Lspeeches (T.m 51 nofun)
abbrev TX.f__Lrow:=T.f 50
abbrev TX.fd__Lrow:=T.fd 50
theorem TX.F__Lrow:Fun K "_law_row" "_law_row" rD T.f__Lrow T.fd__Lrow:=T.F 50 nofun
theorem TX.c__Lrow:Cal K mg "_law_row" T.f__Lrow T.fd__Lrow (mv.take 2):=cZ T.F__Lrow (T.m 50 nofun)
abbrev TX.f__Lbook:=T.f 52
abbrev TX.fd__Lbook:=T.fd 52
theorem TX.F__Lbook:Fun K "_law_book" "_law_book" oj T.f__Lbook T.fd__Lbook:=T.F 52 nofun
theorem TX.c__Lbook:Cal K mg "_law_book" T.f__Lbook T.fd__Lbook (j6.take 2):=cZ T.F__Lbook (T.m 52 nofun)
abbrev TX.f__Lodd_names:=T.f 53
abbrev TX.fd__Lodd_names:=T.fd 53
theorem TX.F__Lodd_names:Fun K "_law_odd_names" "_law_odd_names" kB T.f__Lodd_names T.fd__Lodd_names:=T.F 53 nofun
theorem TX.c__Lodd_names:Cal K mg "_law_odd_names" T.f__Lodd_names T.fd__Lodd_names (fL.take 2):=cZ T.F__Lodd_names (T.m 53 nofun)
abbrev TX.f__Lodd_words:=T.f 54
abbrev TX.fd__Lodd_words:=T.fd 54
theorem TX.F__Lodd_words:Fun K "_law_odd_words" "_law_odd_words" kA T.f__Lodd_words T.fd__Lodd_words:=T.F 54 nofun
theorem TX.c__Lodd_words:Cal K mg "_law_odd_words" T.f__Lodd_words T.fd__Lodd_words (fK.take 2):=cZ T.F__Lodd_words (T.m 54 nofun)
abbrev TX.f__Lodd_row:=T.f 55
abbrev TX.fd__Lodd_row:=T.fd 55
theorem TX.F__Lodd_row:Fun K "_law_odd_row" "_law_odd_row" jB T.f__Lodd_row T.fd__Lodd_row:=T.F 55 nofun
theorem TX.c__Lodd_row:Cal K mg "_law_odd_row" T.f__Lodd_row T.fd__Lodd_row (fZ.take 2):=cZ T.F__Lodd_row (T.m 55 nofun)
abbrev TX.f__Lodd_cue:=T.f 56
abbrev TX.fd__Lodd_cue:=T.fd 56
theorem TX.F__Lodd_cue:Fun K "_law_odd_cue" "_law_odd_cue" nj T.f__Lodd_cue T.fd__Lodd_cue:=T.F 56 nofun
theorem TX.c__Lodd_cue:Cal K mg "_law_odd_cue" T.f__Lodd_cue T.fd__Lodd_cue (ib.take 3):=cZ T.F__Lodd_cue (T.m 56 nofun)
abbrev TX.f__Lfault:=T.f 57
abbrev TX.fd__Lfault:=T.fd 57
theorem TX.F__Lfault:Fun K "_law_fault" "_law_fault" qo T.f__Lfault T.fd__Lfault:=T.F 57 nofun
theorem TX.c__Lfault:Cal K mg "_law_fault" T.f__Lfault T.fd__Lfault (kr.take 3):=cZ T.F__Lfault (T.m 57 nofun)
abbrev TX.f_is_series:=T.f 16
abbrev TX.fd_is_series:=T.fd 16
theorem TX.F_is_series:Fun K "is_series" "is_series" nh T.f_is_series T.fd_is_series:=T.F 16 nofun
theorem TX.c_is_series:Cal K mg "is_series" T.f_is_series T.fd_is_series (hZ.take 1):=cZ T.F_is_series (T.m 16 nofun)
abbrev TX.f_is_letters:=T.f 17
abbrev TX.fd_is_letters:=T.fd 17
theorem TX.F_is_letters:Fun K "is_letters" "is_letters" i7 T.f_is_letters T.fd_is_letters:=T.F 17 nofun
theorem TX.c_is_letters:Cal K mg "is_letters" T.f_is_letters T.fd_is_letters (e_.take 2):=cZ T.F_is_letters (T.m 17 nofun)
abbrev TX.f_is_name:=T.f 19
abbrev TX.fd_is_name:=T.fd 19
theorem TX.F_is_name:Fun K "is_name" "is_name" qk T.f_is_name T.fd_is_name:=T.F 19 nofun
theorem TX.c_is_name:Cal K mg "is_name" T.f_is_name T.fd_is_name (ko.take 1):=cZ T.F_is_name (T.m 19 nofun)
abbrev TX.f_are_names:=T.f 20
abbrev TX.fd_are_names:=T.fd 20
theorem TX.F_are_names:Fun K "are_names" "are_names" jA T.f_are_names T.fd_are_names:=T.F 20 nofun
theorem TX.c_are_names:Cal K mg "are_names" T.f_are_names T.fd_are_names (fY.take 1):=cZ T.F_are_names (T.m 20 nofun)
abbrev TX.f_is_rising:=T.f 22
abbrev TX.fd_is_rising:=T.fd 22
theorem TX.F_is_rising:Fun K "is_rising" "is_rising" jy T.f_is_rising T.fd_is_rising:=T.F 22 nofun
theorem TX.c_is_rising:Cal K mg "is_rising" T.f_is_rising T.fd_is_rising (fW.take 1):=cZ T.F_is_rising (T.m 22 nofun)
abbrev TX.f_is_speech_names:=T.f 23
abbrev TX.fd_is_speech_names:=T.fd 23
theorem TX.F_is_speech_names:Fun K "is_speech_names" "is_speech_names" g0 T.f_is_speech_names T.fd_is_speech_names:=T.F 23 nofun
theorem TX.c_is_speech_names:Cal K mg "is_speech_names" T.f_is_speech_names T.fd_is_speech_names (dz.take 1):=cZ T.F_is_speech_names (T.m 23 nofun)
abbrev TX.f_is_word:=T.f 18
abbrev TX.fd_is_word:=T.fd 18
theorem TX.F_is_word:Fun K "is_word" "is_word" qj T.f_is_word T.fd_is_word:=T.F 18 nofun
theorem TX.c_is_word:Cal K mg "is_word" T.f_is_word T.fd_is_word (kn.take 1):=cZ T.F_is_word (T.m 18 nofun)
abbrev TX.f_are_words:=T.f 21
abbrev TX.fd_are_words:=T.fd 21
theorem TX.F_are_words:Fun K "are_words" "are_words" jz T.f_are_words T.fd_are_words:=T.F 21 nofun
theorem TX.c_are_words:Cal K mg "are_words" T.f_are_words T.fd_are_words (fX.take 1):=cZ T.F_are_words (T.m 21 nofun)
abbrev TX.f_is_speech_words:=T.f 24
abbrev TX.fd_is_speech_words:=T.fd 24
theorem TX.F_is_speech_words:Fun K "is_speech_words" "is_speech_words" gZ T.f_is_speech_words T.fd_is_speech_words:=T.F 24 nofun
theorem TX.c_is_speech_words:Cal K mg "is_speech_words" T.f_is_speech_words T.fd_is_speech_words (dy.take 1):=cZ T.F_is_speech_words (T.m 24 nofun)
abbrev TX.f_is_speech:=T.f 25
abbrev TX.fd_is_speech:=T.fd 25
theorem TX.F_is_speech:Fun K "is_speech" "is_speech" ng T.f_is_speech T.fd_is_speech:=T.F 25 nofun
theorem TX.c_is_speech:Cal K mg "is_speech" T.f_is_speech T.fd_is_speech (hY.take 1):=cZ T.F_is_speech (T.m 25 nofun)
abbrev TX.f_speech_of:=T.f 27
abbrev TX.fd_speech_of:=T.fd 27
theorem TX.F_speech_of:Fun K "speech_of" "speech_of" m_ T.f_speech_of T.fd_speech_of:=T.F 27 nofun
theorem TX.c_speech_of:Cal K mg "speech_of" T.f_speech_of T.fd_speech_of (hV.take 1):=cZ T.F_speech_of (T.m 27 nofun)
abbrev TX.f_have_common:=T.f 26
abbrev TX.fd_have_common:=T.fd 26
theorem TX.F_have_common:Fun K "have_common" "have_common" ig T.f_have_common T.fd_have_common:=T.F 26 nofun
theorem TX.c_have_common:Cal K mg "have_common" T.f_have_common T.fd_have_common (d8.take 2):=cZ T.F_have_common (T.m 26 nofun)
abbrev TX.f_play_of:=T.f 28
abbrev TX.fd_play_of:=T.fd 28
theorem TX.F_play_of:Fun K "play_of" "play_of" qi T.f_play_of T.fd_play_of:=T.F 28 nofun
theorem TX.c_play_of:Cal K mg "play_of" T.f_play_of T.fd_play_of (iU.take 1):=cZ T.F_play_of (T.m 28 nofun)
abbrev TX.f_speech_in:=T.f 33
abbrev TX.fd_speech_in:=T.fd 33
theorem TX.F_speech_in:Fun K "speech_in" "speech_in" na T.f_speech_in T.fd_speech_in:=T.F 33 nofun
theorem TX.c_speech_in:Cal K mg "speech_in" T.f_speech_in T.fd_speech_in (hX.take 1):=cZ T.F_speech_in (T.m 33 nofun)
abbrev TX.f_read_play:=T.f 35
abbrev TX.fd_read_play:=T.fd 35
theorem TX.F_read_play:Fun K "read_play" "read_play" gY T.f_read_play T.fd_read_play:=T.F 35 nofun
theorem TX.c_read_play:Cal K mg "read_play" T.f_read_play T.fd_read_play (dJ.take 1):=cZ T.F_read_play (T.m 35 nofun)
abbrev TX.f_entry_in:=T.f 34
abbrev TX.fd_entry_in:=T.fd 34
theorem TX.F_entry_in:Fun K "entry_in" "entry_in" og T.f_entry_in T.fd_entry_in:=T.F 34 nofun
theorem TX.c_entry_in:Cal K mg "entry_in" T.f_entry_in T.fd_entry_in (jn.take 1):=cZ T.F_entry_in (T.m 34 nofun)
abbrev TX.f_is_cue:=T.f 30
abbrev TX.fd_is_cue:=T.fd 30
theorem TX.F_is_cue:Fun K "is_cue" "is_cue" tH T.f_is_cue T.fd_is_cue:=T.F 30 nofun
theorem TX.c_is_cue:Cal K mg "is_cue" T.f_is_cue T.fd_is_cue (mq.take 1):=cZ T.F_is_cue (T.m 30 nofun)
abbrev TX.f_is_entry:=T.f 31
abbrev TX.fd_is_entry:=T.fd 31
theorem TX.F_is_entry:Fun K "is_entry" "is_entry" oa T.f_is_entry T.fd_is_entry:=T.F 31 nofun
theorem TX.c_is_entry:Cal K mg "is_entry" T.f_is_entry T.fd_is_entry (jm.take 2):=cZ T.F_is_entry (T.m 31 nofun)
abbrev TX.f_read_book:=T.f 36
abbrev TX.fd_read_book:=T.fd 36
theorem TX.F_read_book:Fun K "read_book" "read_book" nc T.f_read_book T.fd_read_book:=T.F 36 nofun
theorem TX.c_read_book:Cal K mg "read_book" T.f_read_book T.fd_read_book (fV.take 2):=cZ T.F_read_book (T.m 36 nofun)
abbrev TX.f__Lread:=T.f 58
abbrev TX.fd__Lread:=T.fd 58
theorem TX.F__Lread:Fun K "_law_read" "_law_read" tJ T.f__Lread T.fd__Lread:=T.F 58 nofun
theorem TX.c__Lread:Cal K mg "_law_read" T.f__Lread T.fd__Lread (iV.take 2):=cZ T.F__Lread (T.m 58 nofun)
abbrev TX.f__Lrefused:=T.f 59
abbrev TX.fd__Lrefused:=T.fd 59
theorem TX.F__Lrefused:Fun K "_law_refused" "_law_refused" ni T.f__Lrefused T.fd__Lrefused:=T.F 59 nofun
theorem TX.c__Lrefused:Cal K mg "_law_refused" T.f__Lrefused T.fd__Lrefused (h_.take 3):=cZ T.F__Lrefused (T.m 59 nofun)
abbrev TX.f_law:=T.f 60
abbrev TX.fd_law:=T.fd 60
theorem TX.F_law:Fun K "law" "law" Aa T.f_law T.fd_law:=T.F 60 nofun
theorem TX.c_law:Cal K mg "law" T.f_law T.fd_law (vd.take 1):=cZ T.F_law (T.m 60 nofun)
theorem TX.m_NAME_LETTERS:mg "NAME_LETTERS" = some (.int 8 (T.t "NAME_LETTERS")):=T.c ("NAME_LETTERS",8) (.head _)
theorem TX.m_SPEECH_NAMES:mg "SPEECH_NAMES" = some (.int 8 (T.t "SPEECH_NAMES")):=T.c ("SPEECH_NAMES",8) (.tail _ (.head _))
theorem TX.m_WORD_LETTERS:mg "WORD_LETTERS" = some (.int 12 (T.t "WORD_LETTERS")):=T.c ("WORD_LETTERS",12) (.tail _ (.tail _ (.head _)))
theorem TX.n_ValueError(T:TX K mg):mg "ValueError" = none:=T.z _ nofun
theorem TX.n_all(T:TX K mg):mg "all" = none:=T.z _ nofun
theorem TX.n_any(T:TX K mg):mg "any" = none:=T.z _ nofun
theorem TX.n_bool(T:TX K mg):mg "bool" = none:=T.z _ nofun
theorem TX.n_enumerate(T:TX K mg):mg "enumerate" = none:=T.z _ nofun
theorem TX.n_int(T:TX K mg):mg "int" = none:=T.z _ nofun
theorem TX.n_isinstance(T:TX K mg):mg "isinstance" = none:=T.z _ nofun
theorem TX.n_len(T:TX K mg):mg "len" = none:=T.z _ nofun
theorem TX.n_list(T:TX K mg):mg "list" = none:=T.z _ nofun
theorem TX.n_min(T:TX K mg):mg "min" = none:=T.z _ nofun
theorem TX.n_ord(T:TX K mg):mg "ord" = none:=T.z _ nofun
theorem TX.n_range(T:TX K mg):mg "range" = none:=T.z _ nofun
theorem TX.n_sorted(T:TX K mg):mg "sorted" = none:=T.z _ nofun
theorem TX.n_str(T:TX K mg):mg "str" = none:=T.z _ nofun
theorem TX.n_tuple(T:TX K mg):mg "tuple" = none:=T.z _ nofun
theorem TX.n_zip(T:TX K mg):mg "zip" = none:=T.z _ nofun
end
section
variable {P:Program}{w:World}{K:OE}{mg:OI}{base:Heap}
theorem TX.kd0(T:TX K mg):pJ K mg "NoPlay" "place" "NoPlay.__init__" (kd (cj 2) 0) "CueError" [] []:=qC (Kw T.o).1 T.g
theorem TX.kd1(T:TX K mg):pJ K mg "NoText" "row" "NoText.__init__" (kd (cj 9) 0) "CueError" kY kZ:=qC (Kw T.o).2 T.g
abbrev clN(K:OE):Nat->Addr:=fun n=>match n with
 | 0=>cD K "NoPlay"
 |_=>cD K "NoText"
theorem z9:aE ["self","place"] ["self","place"] (ak (kd (cj 2) 0)):=scO
theorem tE:aE ["self","row"] ["self","row"] (ak (kd (cj 9) 0)):=scO
theorem TX.init0(T:TX K mg):∃fd,aX P w K mg base CX0 1 (lW K (cD K "NoPlay")) fd ["self","place"] (spI (cD K "NoPlay") "place")/\fj K fd ["self","place"] []:=by
 obtain⟨fd,F⟩:=T.kd0.fn
 obtain⟨cd,xc⟩:=T.kd0.er.xc
 exact⟨fd,xf F z9 xc T.kd0.er.nf rfl (Or.inl rfl) (Or.inl rfl) nofun nofun fun _=>rfl,F.binds fun _ _ _ _ _ _ us hl=>by obtain⟨u0,u1,rfl⟩:=ul2 hl;rfl⟩
theorem TX.init1(T:TX K mg):∃fd,aX P w K mg base CX0 1 (lW K (cD K "NoText")) fd ["self","row"] (spI (cD K "NoText") "row")/\fj K fd ["self","row"] []:=by
 obtain⟨fd,F⟩:=T.kd1.fn
 obtain⟨cd,xc⟩:=T.kd1.er.xc
 exact⟨fd,xf F tE xc T.kd1.er.nf rfl (Or.inl rfl) (Or.inl rfl) nofun nofun fun _=>rfl,F.binds fun _ _ _ _ _ _ us hl=>by obtain⟨u0,u1,rfl⟩:=ul2 hl;rfl⟩
theorem TX.initH1(T:TX K mg):∃fd,ve P w K mg base CX0 1 (lW K (cD K "NoText")) fd ["self","row"] (spI (cD K "NoText") "row")/\fj K fd ["self","row"] []:=by
 obtain⟨fd,F⟩:=T.kd1.fn
 obtain⟨cd,xc⟩:=T.kd1.er.xc
 exact⟨fd,AT F tE xc T.kd1.er.nf rfl (Or.inl rfl) (Or.inl rfl) nofun nofun fun _=>rfl,F.binds fun _ _ _ _ _ _ us hl=>by obtain⟨u0,u1,rfl⟩:=ul2 hl;rfl⟩
theorem Bn{K:OE}{t:Value}:∀cs:List Value,(∀c ∈ cs,PySem.W.kitOne K t c=some false)->PySem.W.kitAny K t cs=some false:=fun cs=>by
 induction cs with
 |nil=>intro _;rfl
 |cons c cs ih=>intro h;unfold PySem.W.kitAny;rw[h c (.head _)];exact ih fun x hx=>h x (.tail _ hx)
abbrev kU:List Str:=["Apart","Meets","NoBooks","NoCast","NoCounts","NoLine","NoPlay","TooFew","Unknown"]
theorem TX.ku(T:TX K mg):PySem.W.kitAny K (.ref (cD K "NoText")) (kU.map fun y=>.ref (cD K y))=some false:=Bn _ fun c hc=>by
 obtain⟨y,hy,rfl⟩:=List.mem_map.mp hc
 obtain⟨j,hj,e⟩:=List.getElem_of_mem hy
 have e2:kY[j + 1]? = some y:=(List.getElem?_eq_some_iff.mpr ⟨hj,e⟩:kU[j]? = some y)
 refine T.kd1.k (j + 1) e2 ?_
 have h9:j < 9:=hj
 show(List.replicate 9 false)[j]? = some false
 rw[List.getElem?_replicate]
 exact if_pos h9
end
section
variable {P:Program}{w:World}{K:OE}{mg:OI}{base:Heap}
def pw:DE->Option Out :=
 (aw (aT 3 (bin a9 (bin mL (bin ay (bin a9 (ae 0) (cst (.int 1000000007))) (cst (.int 3))) (bin ay (bin ay (bin mL (ae 1) (ae 1)) (bin mL (cst (.int 5)) (ae 1))) (cst (.int 11)))) (cst (.int 998244353))))
 (ba (bin a9 (bin aS (bin a9 (bin ay (bin mL (ae 3) (ae 3)) (bin aS (ae 3) (cst (.int 4096)))) (cst (.int 999999937))) (cst (.int 32))) (ae 2))))
def br:List D->Option D:=ck 3 4 pw
theorem iC(T:TX K mg):aX P w K mg base CX0 2 T.f__Lspin T.fd__Lspin (mr.take 3) (spD 3 br) :=
 fnA 1 pw T.F__Lspin qg fun hr =>
   (ag (aB 3 qg.nd (aN (Ev.obs (jd (Ev.obs (ar (Ev.obs (aN (ai 0) (Ev.obs af))) (Ev.obs af))) (Ev.obs (ar (Ev.obs (ar (Ev.obs (jd (ai 1) (ai 1))) (Ev.obs (jd (Ev.obs af) (ai 1))))) (Ev.obs af))))) (Ev.obs af)))
   (am (aK (aN (Ev.obs (aU (Ev.obs (aN (Ev.obs (ar (Ev.obs (jd (ai 3) (ai 3))) (Ev.obs (aU (ai 3) (Ev.obs af))))) (Ev.obs af))) (Ev.obs af))) (ai 2)))))
def mX:DE->Option Out :=
 (aw (aT 1 (cst (.str "abcdefghijklmnopqrstuvwxyz")))
 (aw (aT 2 (bin g_ (cst (.str "")) (bO [5] (jt (aa (cst (.int 7)) aj)) (nmG 5) noT (bin ixE (ae 1) (aq 3 br (aa (var 0) (aa (bin ay (cst (.int 3)) (ae 5)) (aa (cst (.int 26)) aj))))))))
 (aw (ifS (tst (bin eqO (bin a9 (ae 0) (cst (.int 3))) (cst (.int 0))))
 (ba (bO [5] (jt (aa (cst (.int 5)) aj)) (nmG 5) noT (bG (ae 2) noP (cE (bin ay (ae 5) (cst (.int 1)))))))
 bf)
 (aw (ifS (tst (bin eqO (bin a9 (ae 0) (cst (.int 3))) (cst (.int 1))))
 (ba (bO [5] (jt (aa (cst (.int 5)) aj)) (nmG 5) noT (bG (ae 2) (cE (var 5)) noP)))
 bf)
 (aw (aT 3 (bin a9 (bin aS (ae 0) (cst (.int 3))) (cst (.int 7))))
 (aw (aT 4 (bin a9 (bin aS (ae 0) (cst (.int 21))) (cst (.int 26))))
 (ba (bO [5] (jt (aa (cst (.int 5)) aj)) (nmG 5) noT (bin ay (bin ay (bG (ae 2) noP (cE (var 3))) (bin ixE (ae 1) (bin a9 (bin ay (ae 4) (bin mL (cst (.int 3)) (ae 5))) (cst (.int 26))))) (bG (ae 2) (cE (bin ay (ae 3) (cst (.int 1)))) noP))))))))))
def kg:List D->Option D:=ck 1 6 mX
theorem vO(T:TX K mg):aX P w K mg base CX0 3 T.f__Lnames T.fd__Lnames (eL.take 1) (spD 1 kg) :=
 fnA 2 mX T.F__Lnames cW fun hr =>
   (ag (il (i:=1) cW.nd rfl (Or.inr rfl) av)
   (ag (il (i:=2) cW.nd rfl (Or.inr rfl) (je (Ev.obs av) (Ev.obs (bS (js:=[5]) (Blk.of (sc:=ak gz) (N:=eL) (by decide +kernel) rfl rfl) rfl (b9 rfl T.n_range (ac af ah)) bj (fun _ _ _ _=>(az 5 cW.nd)) (fun _ _ _ _=>bE) (fun _ _ _ _=>(aC hr.units (ai 1) (Ev.obs (ao (iC T) T.c__Lspin hr (ac (aF 0) (ac (ar (Ev.obs af) (ai 5)) (ac af ah))))) (fun _ _=>rfl)))))))
   (ag (bp (cM hr.units (Ev.obs (aN (ai 0) (Ev.obs af))) (Ev.obs af))
   (am (aK (Ev.frz (bS (js:=[5]) (Blk.of (sc:=ak gz) (N:=eL) (by decide +kernel) rfl rfl) rfl (b9 rfl T.n_range (ac af ah)) bj (fun _ _ _ _=>(az 5 cW.nd)) (fun _ _ _ _=>bE) (fun _ _ _ _=>(bD (ai 2) cA (bY (ar (ai 5) (Ev.obs af)))))))))
   aL)
   (ag (bp (cM hr.units (Ev.obs (aN (ai 0) (Ev.obs af))) (Ev.obs af))
   (am (aK (Ev.frz (bS (js:=[5]) (Blk.of (sc:=ak gz) (N:=eL) (by decide +kernel) rfl rfl) rfl (b9 rfl T.n_range (ac af ah)) bj (fun _ _ _ _=>(az 5 cW.nd)) (fun _ _ _ _=>bE) (fun _ _ _ _=>(bD (ai 2) (bY (aF 5)) cA))))))
   aL)
   (ag (il (i:=3) cW.nd rfl (Or.inr rfl) (aN (Ev.obs (aU (ai 0) (Ev.obs af))) (Ev.obs af)))
   (ag (il (i:=4) cW.nd rfl (Or.inr rfl) (aN (Ev.obs (aU (ai 0) (Ev.obs af))) (Ev.obs af)))
   (am (aK (Ev.frz (bS (js:=[5]) (Blk.of (sc:=ak gz) (N:=eL) (by decide +kernel) rfl rfl) rfl (b9 rfl T.n_range (ac af ah)) bj (fun _ _ _ _=>(az 5 cW.nd)) (fun _ _ _ _=>bE) (fun _ _ _ _=>(ar (Ev.obs (ar (Ev.obs (bD (ai 2) cA (bY (aF 3)))) (Ev.obs (aC hr.units (ai 1) (Ev.obs (aN (Ev.obs (ar (ai 4) (Ev.obs (jd (Ev.obs af) (ai 5))))) (Ev.obs af))) (fun _ _=>rfl))))) (Ev.obs (bD (ai 2) (bY (ar (ai 3) (Ev.obs af))) cA))))))))))))))
def pB:DE->Option Out :=
 (aw (ifS (tst (bin ltD (ae 1) (un bh (ae 0))))
 (ba (bin a9 (bin ixE (ae 0) (ae 1)) (bin lG (cst (.int 10)) (cst (.int 18)))))
 bf)
 (ba (cst (.int 0))))
def c_:List D->Option D:=ck 2 2 pB
theorem iD(T:TX K mg):aX P w K mg base CX0 2 T.f__Lcell T.fd__Lcell (my.take 2) (spD 2 c_) :=
 fnA 1 pB T.F__Lcell ye fun hr =>
   (ag (bp (BS  (ai 1) (Ev.obs (aR rfl T.n_len (ai 0))))
   (am (aK (aN (Ev.obs (aC hr.units (ai 0) (ai 1) (fun _ _=>rfl))) (Ev.obs (mP (Ev.obs af) (Ev.obs af))))))
   aL)
   (am (aK af)))
def gQ:DE->Option Out :=
 (aw (aT 1 (cst (.str "abcdefghijklmnopqrstuvwxyz")))
 (aw (aT 2 (bin g_ (cst (.str "")) (bO [4] (jt (aa (cst (.int 12)) aj)) (nmG 4) noT (bin ixE (ae 1) (aq 3 br (aa (var 0) (aa (bin ay (cst (.int 17)) (ae 4)) (aa (cst (.int 26)) aj))))))))
 (aw (aT 3 (bO [4] (jt (aa (bin ay (cst (.int 1)) (bin a9 (ae 0) (cst (.int 4)))) aj)) (nmG 4) noT (bG (ae 2) noP (cE (bin ay (cst (.int 1)) (aq 3 br (aa (var 0) (aa (bin ay (cst (.int 31)) (ae 4)) (aa (cst (.int 12)) aj)))))))))
 (aw (ifS (tst (bin eqO (bin a9 (bin aS (ae 0) (cst (.int 4))) (cst (.int 3))) (cst (.int 0))))
 (aT 3 (bin ay (bO [5] (f8 cJ (var 3)) (nmG 5) noT (bin ay (bin ixE (ae 1) (bin a9 (bin ay (un AN (bin ixE (ae 5) (cst (.int (-1))))) (un bh (ae 3))) (cst (.int 26)))) (bG (ae 5) (cE (cst (.int 1))) noP))) (ae 3)))
 bf)
 (ba (var 3))))))
def eX:List D->Option D:=ck 1 6 gQ
theorem nB(T:TX K mg):aX P w K mg base CX0 3 T.f__Lvocabulary T.fd__Lvocabulary (ce.take 1) (spD 1 eX) :=
 fnA 2 gQ T.F__Lvocabulary bA fun hr =>
   (ag (il (i:=1) bA.nd rfl (Or.inr rfl) av)
   (ag (il (i:=2) bA.nd rfl (Or.inr rfl) (je (Ev.obs av) (Ev.obs (bS (js:=[4]) (Blk.of (sc:=ak dD) (N:=ce) (by decide +kernel) rfl rfl) rfl (b9 rfl T.n_range (ac af ah)) bj (fun _ _ _ _=>(az 4 bA.nd)) (fun _ _ _ _=>bE) (fun _ _ _ _=>(aC hr.units (ai 1) (Ev.obs (ao (iC T) T.c__Lspin hr (ac (aF 0) (ac (ar (Ev.obs af) (ai 4)) (ac af ah))))) (fun _ _=>rfl)))))))
   (ag (il (i:=3) bA.nd rfl (Or.inr rfl) (Ev.frz (bS (js:=[4]) (Blk.of (sc:=ak dD) (N:=ce) (by decide +kernel) rfl rfl) rfl (b9 rfl T.n_range (ac (ar (Ev.obs af) (Ev.obs (aN (ai 0) (Ev.obs af)))) ah)) bj (fun _ _ _ _=>(az 4 bA.nd)) (fun _ _ _ _=>bE) (fun _ _ _ _=>(bD (ai 2) cA (bY (ar (Ev.obs af) (Ev.obs (ao (iC T) T.c__Lspin hr (ac (aF 0) (ac (ar (Ev.obs af) (ai 4)) (ac af ah))))))))))))
   (ag (bp (cM hr.units (Ev.obs (aN (Ev.obs (aU (ai 0) (Ev.obs af))) (Ev.obs af))) (Ev.obs af))
   (am (il (i:=3) bA.nd rfl (Or.inr rfl) (ar (Ev.obs (bS (js:=[5]) (Blk.of (sc:=ak dD) (N:=ce) (by decide +kernel) rfl rfl) rfl (eZ (aF 3)) bj (fun _ _ _ _=>(az 5 bA.nd)) (fun _ _ _ _=>bE) (fun _ _ _ _=>(ar (Ev.obs (aC hr.units (ai 1) (Ev.obs (aN (Ev.obs (ar (Ev.obs (Gn rfl T.n_ord rfl (Ev.obs (aC hr.units (ai 5) (Ev.obs o5) (fun _ _=>rfl))))) (Ev.obs (aR rfl T.n_len (ai 3))))) (Ev.obs af))) (fun _ _=>rfl))) (Ev.obs (bD (ai 5) (bY af) cA)))))) (ai 3))))
   aL)
   (am (aK (aF 3)))))))
def mW:DE->Option Out :=
 (aw (aT 3 (cst (.str "abcdefghijklmnopqrstuvwxyz")))
 (aw (gj 4 (bu aj))
 (aw (ij (jt (aa (var 1) aj)) (nmG 5)
 (aw (aT 6 (bin ay (cst (.int 1)) (bin a9 (ae 0) (ae 2))))
 (aw (aT 0 (bin aS (ae 0) (ae 2)))
 (aw (aT 7 (cst (.str "")))
 (aw (ij (jt (aa (var 6) aj)) (nmG 8)
 (aw (aT 7 (bin ay (ae 7) (bin ixE (ae 3) (bin a9 (ae 0) (cst (.int 26))))))
 (aT 0 (bin aS (ae 0) (cst (.int 26))))))
 (ifS (tst (bin vR (ae 7) (ae 4)))
 (ir 4 (var 7))
 bf))))))
 (fun E=>(ba (var 4)) (fzE 4 E)))))
def iG:List D->Option D:=ck 3 9 mW
theorem ot(T:TX K mg):aX P w K mg base CX0 2 T.f__Ltexts T.fd__Ltexts (kq.take 3) (spD 3 iG) :=
 fnA 1 mW T.F__Ltexts cC fun hr =>
   (ag (aB 3 cC.nd av)
   (ag (cw 4 cC.nd (aV ah))
   (ag (jM KK rfl (b9 rfl T.n_range (ac (aF 1) ah)) (az 5 cC.nd)
   (ag (aB 6 cC.nd (ar (Ev.obs af) (Ev.obs (aN (ai 0) (ai 2)))))
   (ag (aB 0 cC.nd (aU (ai 0) (ai 2)))
   (ag (aB 7 cC.nd av)
   (ag (jM KK rfl (b9 rfl T.n_range (ac (aF 6) ah)) (az 8 cC.nd)
   (ag (aB 7 cC.nd (ar (ai 7) (Ev.obs (aC hr.units (ai 3) (Ev.obs (aN (ai 0) (Ev.obs af))) (fun _ _=>rfl)))))
   (am (aB 0 cC.nd (aU (ai 0) (Ev.obs af))))))
   (am (bp (xB hr.units (ai 7) (ai 4) rfl)
   (am (de (i:=4) (pv 4) (aF 7)))
   aL)))))))
   (am (qP 4 (aK (aF 4)))))))
def pA:DE->Option Out :=
 (aw (ifS (tst (bin ltD (ae 1) (un bh (ae 0))))
 (ba (bin a9 (bin ixE (ae 0) (ae 1)) (bin mL (bin mL (bin lG (cst (.int 10)) (cst (.int 60))) (bin lG (cst (.int 10)) (cst (.int 60)))) (bin lG (cst (.int 10)) (cst (.int 60))))))
 bf)
 (ba (cst (.int 0))))
def iH:List D->Option D:=ck 2 2 pA
theorem mJ(T:TX K mg):aX P w K mg base CX0 2 T.f__Llong T.fd__Llong (mw.take 2) (spD 2 iH) :=
 fnA 1 pA T.F__Llong yd fun hr =>
   (ag (bp (BS  (ai 1) (Ev.obs (aR rfl T.n_len (ai 0))))
   (am (aK (aN (Ev.obs (aC hr.units (ai 0) (ai 1) (fun _ _=>rfl))) (Ev.obs (jd (Ev.obs (jd (Ev.obs (mP (Ev.obs af) (Ev.obs af))) (Ev.obs (mP (Ev.obs af) (Ev.obs af))))) (Ev.obs (mP (Ev.obs af) (Ev.obs af))))))))
   aL)
   (am (aK af)))
def jX:DE->Option Out :=
 (aw (aT 3 (bG (bO [4] (jt (aa (un bh (ae 1)) aj)) (nmG 4) (tst (bin eqO (aq 3 br (aa (var 0) (aa (var 4) (aa (cst (.int 4)) aj)))) (cst (.int 0)))) (bin ixE (ae 1) (ae 4))) noP (cE (cst (.int 3)))))
 (aw (ifS (tst (bin eqO (ae 3) (bu aj)))
 (aT 3 (bu (aa (bin ixE (ae 1) (bin a9 (bin aS (ae 0) (cst (.int 11))) (un bh (ae 1)))) aj)))
 bf)
 (ba (fc (aa (var 3) (aa (bO [4] (jt (aa (bin ay (cst (.int 1)) (bin a9 (bin aS (ae 0) (cst (.int 5))) (cst (.int 4)))) aj)) (nmG 4) noT (bin ixE (ae 2) (aq 3 br (aa (var 0) (aa (bin ay (cst (.int 40)) (ae 4)) (aa (un bh (ae 2)) aj)))))) aj))))))
def fR:List D->Option D:=ck 3 5 jX
theorem rQ(T:TX K mg):aX P w K mg base CX0 3 T.f__Lby_spin T.fd__Lby_spin (eM.take 3) (spD 3 fR) :=
 fnA 2 jX T.F__Lby_spin eQ fun hr =>
   (ag (aB 3 eQ.nd (bD (Ev.obs (bS (js:=[4]) (Blk.of (sc:=ak g8) (N:=eM) (by decide +kernel) rfl rfl) rfl (b9 rfl T.n_range (ac (aR rfl T.n_len (ai 1)) ah)) bj (fun _ _ _ _=>(az 4 eQ.nd)) (fun _ _ _ _=>(pb (cM hr.units (Ev.obs (ao (iC T) T.c__Lspin hr (ac (aF 0) (ac (aF 4) (ac af ah))))) (Ev.obs af)))) (fun _ _ _ _=>(aC hr.units (ai 1) (ai 4) (fun _ _=>rfl))))) cA (bY af)))
   (ag (bp (cM hr.units (ai 3) (Ev.obs (aV ah)))
   (am (aB 3 eQ.nd (Ev.frz (aV (ac (aC hr.units (ai 1) (Ev.obs (aN (Ev.obs (aU (ai 0) (Ev.obs af))) (Ev.obs (aR rfl T.n_len (ai 1))))) (fun _ _=>rfl)) ah)))))
   aL)
   (am (aK (dF (ac (aF 3) (ac (Ev.frz (bS (js:=[4]) (Blk.of (sc:=ak g8) (N:=eM) (by decide +kernel) rfl rfl) rfl (b9 rfl T.n_range (ac (ar (Ev.obs af) (Ev.obs (aN (Ev.obs (aU (ai 0) (Ev.obs af))) (Ev.obs af)))) ah)) bj (fun _ _ _ _=>(az 4 eQ.nd)) (fun _ _ _ _=>bE) (fun _ _ _ _=>(aC hr.units (ai 2) (Ev.obs (ao (iC T) T.c__Lspin hr (ac (aF 0) (ac (ar (Ev.obs af) (ai 4)) (ac (aR rfl T.n_len (ai 2)) ah))))) (fun _ _=>rfl))))) ah)))))))
def iq:DE->Option Out :=
 (aw (gj 4 (bu aj))
 (aw (ij (f8 cJ (var 1)) (nmG 5)
 (aw (ifS (li (tst (bin eqO (bin a9 (ae 0) (cst (.int 2))) (cst (.int 1)))) (tst (bin ltD (un bh (ae 4)) (ae 3))))
 (ir 4 (var 5))
 bf)
 (aT 0 (bin aS (ae 0) (cst (.int 2))))))
 (aw (ifS (tst (bin eqO (ae 4) (bu aj)))
 (aw (gj 4 (bu (aa (bin ixE (ae 1) (bin a9 (ae 0) (un bh (ae 1)))) aj)))
 (aT 0 (bin aS (ae 0) (un bh (ae 1)))))
 bf)
 (aw (aT 6 (bin ay (cst (.int 1)) (bin a9 (ae 0) (cst (.int 4)))))
 (aw (aT 0 (bin aS (ae 0) (cst (.int 4))))
 (aw (gj 7 (bu aj))
 (aw (ij (jt (aa (var 6) aj)) (nmG 8)
 (aw (ir 7 (bin ixE (ae 2) (bin a9 (ae 0) (un bh (ae 2)))))
 (aT 0 (bin aS (ae 0) (un bh (ae 2))))))
 (fun E=>(fun E=>(ba (fc (aa (var 4) (aa (var 7) aj)))) (fzE 4 E)) (fzE 7 E)))))))))
def dY:List D->Option D:=ck 4 9 iq
theorem oA(T:TX K mg):aX P w K mg base CX0 2 T.f__Lby_digits T.fd__Lby_digits (fM.take 4) (spD 4 dY) :=
 fnA 1 iq T.F__Lby_digits bd fun hr =>
   (ag (cw 4 bd.nd (aV ah))
   (ag (jM KK rfl (eZ (aF 1)) (az 5 bd.nd)
   (ag (bp (Ew.et (k7 (cM hr.units (Ev.obs (aN (ai 0) (Ev.obs af))) (Ev.obs af)) (kh (BS  (Ev.obs (aR rfl T.n_len (ai 4))) (ai 3)))))
   (am (de (i:=4) (pv 4) (aF 5)))
   aL)
   (am (aB 0 bd.nd (aU (ai 0) (Ev.obs af))))))
   (ag (bp (cM hr.units (ai 4) (Ev.obs (aV ah)))
   (ag (cw 4 bd.nd (aV (ac (aC hr.units (ai 1) (Ev.obs (aN (ai 0) (Ev.obs (aR rfl T.n_len (ai 1))))) (fun _ _=>rfl)) ah)))
   (am (aB 0 bd.nd (aU (ai 0) (Ev.obs (aR rfl T.n_len (ai 1)))))))
   aL)
   (ag (aB 6 bd.nd (ar (Ev.obs af) (Ev.obs (aN (ai 0) (Ev.obs af)))))
   (ag (aB 0 bd.nd (aU (ai 0) (Ev.obs af)))
   (ag (cw 7 bd.nd (aV ah))
   (ag (jM KK rfl (b9 rfl T.n_range (ac (aF 6) ah)) (az 8 bd.nd)
   (ag (de (i:=7) (pv 7) (aC hr.units (ai 2) (Ev.obs (aN (ai 0) (Ev.obs (aR rfl T.n_len (ai 2))))) (fun _ _=>rfl)))
   (am (aB 0 bd.nd (aU (ai 0) (Ev.obs (aR rfl T.n_len (ai 2))))))))
   (am (qP 7 (qP 4 (aK (dF (ac (aF 4) (ac (aF 7) ah))))))))))))))
def pz:DE->Option Out :=
 (aw (gj 3 (qX 1 kg (aa (aq 2 c_ (aa (var 0) (aa (var 1) aj))) aj)))
 (aw (aT 4 (aq 1 eX (aa (aq 2 c_ (aa (var 0) (aa (bin ay (ae 1) (cst (.int 1))) aj))) aj)))
 (aw (aT 5 (bin eqO (bin a9 (bin aS (aq 2 c_ (aa (var 0) (aa (cst (.int 0)) aj))) (cst (.int 1000))) (cst (.int 2))) (cst (.int 1))))
 (aw (ifS (tst (var 5))
 (aw (gj 3 (qX 3 iG (aa (aq 2 iH (aa (var 0) (aa (var 1) aj))) (aa (cst (.int 5)) (aa (cst (.int 8)) aj)))))
 (aw (aT 4 (aq 3 iG (aa (bin aS (aq 2 iH (aa (var 0) (aa (bin ay (ae 1) (cst (.int 1))) aj))) (cst (.int 8))) (aa (bin ay (cst (.int 1)) (bin a9 (aq 2 iH (aa (var 0) (aa (bin ay (ae 1) (cst (.int 1))) aj))) (cst (.int 8)))) (aa (cst (.int 12)) aj)))))
 (ifS (tst (bin eqO (un bh (ae 3)) (cst (.int 1))))
 (ir 3 (bin ixE (bu (aa (cst (.str "a")) (aa (cst (.str "b")) aj))) (un yU (bin eqO (bin ixE (ae 3) (cst (.int 0))) (cst (.str "a"))))))
 bf)))
 bf)
 (aw (gj 6 (bu aj))
 (aw (aT 7 (bu aj))
 (aw (ij (f8 cJ (bG (ae 0) (cE (bin ay (ae 1) (cst (.int 2)))) (cE (bin ay (bin ay (ae 1) (cst (.int 2))) (ae 2))))) (nmG 8)
 (aw (fun E=>(aT 9 (un m8 (bO [11] (f8 cJ (var 3)) (nmG 11) (tst (bin vR (ae 11) (ae 7))) (var 11)))) (fzE 3 E))
 (aw (dk (aq 3 fR (aa (bin a9 (ae 8) (bin lG (cst (.int 10)) (cst (.int 18)))) (aa (var 9) (aa (var 4) aj)))) (f9 2 (a_ (nmG 7) (a_ (nmG 10) f_))))
 (aw (ifS (tst (var 5))
 (dk (aq 4 dY (aa (bin a9 (ae 8) (bin lG (cst (.int 10)) (cst (.int 18)))) (aa (var 9) (aa (var 4) (aa (bin vn (un bh (ae 3)) (cst (.int 1))) aj))))) (f9 2 (a_ (nmG 7) (a_ (nmG 10) f_))))
 bf)
 (ir 6 (fc (aa (un bU (ae 7)) (aa (un bU (ae 10)) aj))))))))
 (ba (un bU (ae 6))))))))))
def jI:List D->Option D:=ck 3 12 pz
theorem yC(T:TX K mg):aX P w K mg base CX0 4 T.f__Lplay T.fd__Lplay (j4.take 3) (spD 3 jI) :=
 fnA 3 pz T.F__Lplay bH fun hr =>
   (ag (cw 3 bH.nd (uQ (vO T) (hr.mono nofun) rfl T.c__Lnames.m T.c__Lnames.kp T.c__Lnames.b (ac (ao (iD T) T.c__Lcell hr (ac (aF 0) (ac (aF 1) ah))) ah)))
   (ag (aB 4 bH.nd (ao (nB T) T.c__Lvocabulary hr (ac (ao (iD T) T.c__Lcell hr (ac (aF 0) (ac (ar (ai 1) (Ev.obs af)) ah))) ah)))
   (ag (aB 5 bH.nd (uP hr.units (Ev.obs (aN (Ev.obs (aU (Ev.obs (ao (iD T) T.c__Lcell hr (ac (aF 0) (ac af ah)))) (Ev.obs af))) (Ev.obs af))) (Ev.obs af)))
   (ag (bp (bN (aF 5))
   (ag (cw 3 bH.nd (uQ (ot T) (hr.mono nofun) rfl T.c__Ltexts.m T.c__Ltexts.kp T.c__Ltexts.b (ac (ao (mJ T) T.c__Llong hr (ac (aF 0) (ac (aF 1) ah))) (ac af (ac af ah)))))
   (ag (aB 4 bH.nd (ao (ot T) T.c__Ltexts hr (ac (aU (Ev.obs (ao (mJ T) T.c__Llong hr (ac (aF 0) (ac (ar (ai 1) (Ev.obs af)) ah)))) (Ev.obs af)) (ac (ar (Ev.obs af) (Ev.obs (aN (Ev.obs (ao (mJ T) T.c__Llong hr (ac (aF 0) (ac (ar (ai 1) (Ev.obs af)) ah)))) (Ev.obs af)))) (ac af ah)))))
   (am (bp (cM hr.units (Ev.obs (aR rfl T.n_len (ai 3))) (Ev.obs af))
   (am (de (i:=3) (pv 3) (aC hr.units (Ev.obs (aV (ac av (ac av ah)))) (Ev.obs (xy rfl T.n_int rfl (Ev.obs (uP hr.units (Ev.obs (aC hr.units (ai 3) (Ev.obs af) (fun _ _=>rfl))) (Ev.obs av))))) (fun _ _=>rfl))))
   aL))))
   aL)
   (ag (cw 6 bH.nd (aV ah))
   (ag (il (i:=7) bH.nd rfl (Or.inr rfl) (Ev.frz (aV ah)))
   (ag (jM KK rfl (eZ (bD (ai 0) (bY (ar (ai 1) (Ev.obs af))) (bY (ar (Ev.obs (ar (ai 1) (Ev.obs af))) (ai 2))))) (az 8 bH.nd)
   (ag (qP 3 (aB 9 bH.nd (Ev.frz (o4 rfl rfl T.n_sorted rfl (Ev.obs (bS (js:=[11]) (Blk.of (sc:=ak oi) (N:=j4) (by decide +kernel) rfl rfl) rfl (eZ (aF 3)) bj (fun _ _ _ _=>(az 11 bH.nd)) (fun _ _ _ _=>(pb (xB hr.units (ai 11) (ai 7) rfl))) (fun _ _ _ _=>(aF 11))))))))
   (ag (fC (ao (rQ T) T.c__Lby_spin hr (ac (aN (ai 8) (Ev.obs (mP (Ev.obs af) (Ev.obs af)))) (ac (aF 9) (ac (aF 4) ah)))) (e8 rfl (aQ (nS (i:=7) bH.nd rfl (Or.inr rfl)) (aQ (az 10 bH.nd) dm))))
   (ag (bp (bN (aF 5))
   (am (fC (ao (oA T) T.c__Lby_digits hr (ac (aN (ai 8) (Ev.obs (mP (Ev.obs af) (Ev.obs af)))) (ac (aF 9) (ac (aF 4) (ac (BN (Ev.obs (aR rfl T.n_len (ai 3))) (Ev.obs af)) ah))))) (e8 rfl (aQ (nS (i:=7) bH.nd rfl (Or.inr rfl)) (aQ (az 10 bH.nd) dm)))))
   aL)
   (am (de (i:=6) (pv 6) (dF (ac (cK rfl T.n_tuple rfl (ai 7)) (ac (cK rfl T.n_tuple rfl (ai 10)) ah)))))))))
   (am (aK (cK rfl T.n_tuple rfl (ai 6)))))))))))
def jl:DE->Option Out :=
 (aw (aT 1 (aq 3 jI (aa (var 0) (aa (cst (.int 3)) (aa (cst (.int 12)) aj)))))
 (aw (ifS (tst (bin eqO (ae 1) (fc aj)))
 (aT 1 (fc (aa (fc (aa (fc (aa (cst (.str "ann")) (aa (cst (.str "bob")) aj))) (aa (fc (aa (cst (.str "be")) (aa (cst (.str "or")) aj))) aj))) aj)))
 bf)
 (ba (var 1))))
def gm:List D->Option D:=ck 1 2 jl
theorem pZ(T:TX K mg):aX P w K mg base CX0 5 T.f__Lspeeches T.fd__Lspeeches (gy.take 1) (spD 1 gm) :=
 fnA 4 jl T.F__Lspeeches ie fun hr =>
   (ag (aB 1 ie.nd (ao (yC T) T.c__Lplay hr (ac (aF 0) (ac af (ac af ah)))))
   (ag (bp (cM hr.units (ai 1) (Ev.obs (dF ah)))
   (am (aB 1 ie.nd (dF (ac (dF (ac (dF (ac av (ac av ah))) (ac (dF (ac av (ac av ah))) ah))) ah))))
   aL)
   (am (aK (aF 1)))))
def sP:DE->Option Out :=
 (ba (bin ay (bin ay (bin g_ (cst (.str " ")) (un jG (ae 0))) (cst (.str ":"))) (bin g_ (cst (.str "")) (bO [2] (f8 cJ (var 1)) (nmG 2) noT (bin ay (cst (.str " ")) (ae 2))))))
def kf:List D->Option D:=ck 2 3 sP
theorem uh(T:TX K mg):aX P w K mg base CX0 2 T.f__Lrow T.fd__Lrow (mv.take 2) (spD 2 kf) :=
 fnA 1 sP T.F__Lrow tF fun hr =>
   (am (aK (ar (Ev.obs (ar (Ev.obs (je (Ev.obs av) (Ev.obs (ki rfl T.n_list rfl (ai 0))))) (Ev.obs av))) (Ev.obs (je (Ev.obs av) (Ev.obs (bS (js:=[2]) (Blk.of (sc:=ak rD) (N:=mv) (by decide +kernel) rfl rfl) rfl (eZ (aF 1)) bj (fun _ _ _ _=>(az 2 tF.nd)) (fun _ _ _ _=>bE) (fun _ _ _ _=>(ar (Ev.obs av) (ai 2))))))))))
def pC:DE->Option Out :=
 (aw (aT 2 (bin ixE (bin ixE (bin ixE (ae 0) (bin a9 (ae 1) (un bh (ae 0)))) (cst (.int 0))) (cst (.int 0))))
 (aw (gj 3 (bu aj))
 (aw (ij (f8 eW (var 0)) (f9 2 (a_ (nmG 4) (a_ (nmG 5) f_)))
 (ifS (tst (bin inE (ae 2) (ae 4)))
 (aw (aT 6 (bin ay (bin g_ (cst (.str " ")) (bO [7] (jt (aa (bin ay (cst (.int 1)) (bin a9 (un bh (ae 3)) (cst (.int 3)))) aj)) (nmG 7) noT (bin ixE (ae 5) (bin vn (cst (.int (-1))) (bin a9 (ae 7) (un bh (ae 5))))))) (cst (.str " "))))
 (aw (ifS (li (tst (bin eqO (ae 3) (bu aj))) (tst (bin eqO (bin a9 (bin aS (ae 1) (cst (.int 64))) (cst (.int 2))) (cst (.int 0)))))
 (aT 6 (cst (.str "")))
 bf)
 (ir 3 (bin ay (bin ay (ae 6) (cst (.str "> "))) (aq 2 kf (aa (var 4) (aa (var 5) aj)))))))
 bf))
 (fun E=>(ba (fc (aa (var 2) (aa (var 3) aj)))) (fzE 3 E)))))
def lZ:List D->Option D:=ck 2 8 pC
theorem yD(T:TX K mg):aX P w K mg base CX0 3 T.f__Lbook T.fd__Lbook (j6.take 2) (spD 2 lZ) :=
 fnA 2 pC T.F__Lbook eD fun hr =>
   (ag (aB 2 eD.nd (aC hr.units (Ev.obs (aC hr.units (Ev.obs (aC hr.units (ai 0) (Ev.obs (aN (ai 1) (Ev.obs (aR rfl T.n_len (ai 0))))) (fun _ _=>rfl))) (Ev.obs af) (fun _ _=>rfl))) (Ev.obs af) (fun _ _=>rfl)))
   (ag (cw 3 eD.nd (aV ah))
   (ag (jM KK rfl (B4 (aF 0)) (e8 rfl (aQ (az 4 eD.nd) (aQ (nS (i:=5) eD.nd rfl (Or.inr rfl)) dm)))
   (am (bp (Gr hr.units (ai 2) (ai 4) rfl)
   (ag (aB 6 eD.nd (ar (Ev.obs (je (Ev.obs av) (Ev.obs (bS (js:=[7]) (Blk.of (sc:=ak oj) (N:=j6) (by decide +kernel) rfl rfl) rfl (b9 rfl T.n_range (ac (ar (Ev.obs af) (Ev.obs (aN (Ev.obs (aR rfl T.n_len (ai 3))) (Ev.obs af)))) ah)) bj (fun _ _ _ _=>(az 7 eD.nd)) (fun _ _ _ _=>bE) (fun _ _ _ _=>(aC hr.units (ai 5) (Ev.obs (BN (Ev.obs o5) (Ev.obs (aN (ai 7) (Ev.obs (aR rfl T.n_len (ai 5))))))) (fun _ _=>rfl))))))) (Ev.obs av)))
   (ag (bp (Ew.et (k7 (cM hr.units (ai 3) (Ev.obs (aV ah))) (kh (cM hr.units (Ev.obs (aN (Ev.obs (aU (ai 1) (Ev.obs af))) (Ev.obs af))) (Ev.obs af)))))
   (am (aB 6 eD.nd av))
   aL)
   (am (de (i:=3) (pv 3) (ar (Ev.obs (ar (ai 6) (Ev.obs av))) (Ev.obs (ao (uh T) T.c__Lrow hr (ac (aF 4) (ac (aF 5) ah)))))))))
   aL)))
   (am (qP 3 (aK (dF (ac (aF 2) (ac (aF 3) ah)))))))))
def ip:DE->Option Out :=
 (aw (gj 2 (bu (aa (bin E4 (un jG (ae 0)) (cst (.int (-1)))) (aa (bin ay (bu (aa (bin ixE (ae 0) (cst (.int 0))) aj)) (un jG (ae 0))) (aa (bu (aa (cst (.str "")) (aa (bin ixE (ae 0) (cst (.int 0))) aj))) (aa (bu aj) (aa (bu (aa (un upD (bin ixE (ae 0) (cst (.int 0)))) aj)) (aa (bu (aa (cst (.str "a1")) aj)) aj))))))))
 (aw (gj 2 (bin vb (ae 2) (bu (aa (bu (aa (cst (.str "abcdefghi")) aj)) (aa (bu (aa (bin ixE (ae 0) (cst (.int 0))) (aa (cst (.str "")) aj))) (aa (bin ay (un jG (ae 0)) (bu (aa (cst (.str "a-b")) aj))) (aa (un vW (cst (.str "abcdefghi"))) aj)))))))
 (aw (ifS (tst (bin eqO (un bh (ae 0)) (cst (.int 1))))
 (iz 2 (cst (.int 0)) (bu (aa (bin ixE (ae 0) (cst (.int 0))) (aa (bin ixE (ae 0) (cst (.int 0))) aj))))
 bf)
 (ba (bin g_ (cst (.str " ")) (bin ixE (ae 2) (bin a9 (ae 1) (cst (.int 10)))))))))
def dX:List D->Option D:=ck 2 3 ip
theorem ow(T:TX K mg):aX P w K mg base CX0 2 T.f__Lodd_names T.fd__Lodd_names (fL.take 2) (spD 2 dX) :=
 fnA 1 ip T.F__Lodd_names gH fun hr =>
   (ag (cw 2 gH.nd (aV (ac (DQ (Ev.obs (ki rfl T.n_list rfl (ai 0))) o5) (ac (ar (Ev.obs (aV (ac (aC hr.units (ai 0) (Ev.obs af) (fun _ _=>rfl)) ah))) (Ev.obs (ki rfl T.n_list rfl (ai 0)))) (ac (Ev.frz (aV (ac av (ac (aC hr.units (ai 0) (Ev.obs af) (fun _ _=>rfl)) ah)))) (ac (Ev.frz (aV ah)) (ac (Ev.frz (aV (ac (BM (Ev.obs (aC hr.units (ai 0) (Ev.obs af) (fun _ _=>rfl)))) ah))) (ac (Ev.frz (aV (ac av ah))) ah))))))))
   (ag (cw 2 gH.nd (sA (ai 2) (Ev.obs (aV (ac (Ev.frz (aV (ac av ah))) (ac (Ev.frz (aV (ac (aC hr.units (ai 0) (Ev.obs af) (fun _ _=>rfl)) (ac av ah)))) (ac (ar (Ev.obs (ki rfl T.n_list rfl (ai 0))) (Ev.obs (aV (ac av ah)))) (ac (Ev.frz (BP rfl rfl T.n_list rfl av)) ah))))))))
   (ag (bp (cM hr.units (Ev.obs (aR rfl T.n_len (ai 0))) (Ev.obs af))
   (am (nP (i:=2) (pv 2) af (Ev.frz (aV (ac (aC hr.units (ai 0) (Ev.obs af) (fun _ _=>rfl)) (ac (aC hr.units (ai 0) (Ev.obs af) (fun _ _=>rfl)) ah))))))
   aL)
   (am (aK (je (Ev.obs av) (Ev.obs (aC hr.units (ai 2) (Ev.obs (aN (ai 1) (Ev.obs af))) (fun _ _=>rfl)))))))))
def io:DE->Option Out :=
 (aw (aT 2 (bin ixE (ae 0) (cst (.int 0))))
 (aw (aT 3 (bu (aa (cst (.str "")) (aa (cst (.str " ")) (aa (bin ay (cst (.str "  ")) (ae 2)) (aa (bin ay (bin ay (cst (.str " ")) (ae 2)) (cst (.str " "))) (aa (var 2) (aa (bin ay (bin ay (cst (.str " ")) (ae 2)) (cst (.str ":"))) (aa (cst (.str " Be")) (aa (cst (.str " b3")) (aa (bin ay (cst (.str "\t")) (ae 2)) aj)))))))))))
 (aw (aT 3 (bin ay (ae 3) (bu (aa (cst (.str " abcdefghijklm")) (aa (bin ay (bin ay (bin ay (cst (.str " ")) (ae 2)) (cst (.str "  "))) (ae 2)) (aa (cst (.str " be\tor")) (aa (cst (.str " be\n")) (aa (cst (.str " be, or")) (aa (cst (.str " >")) aj)))))))))
 (ba (bin ixE (ae 3) (bin a9 (ae 1) (cst (.int 15))))))))
def dW:List D->Option D:=ck 2 4 io
theorem ou(T:TX K mg):aX P w K mg base CX0 2 T.f__Lodd_words T.fd__Lodd_words (fK.take 2) (spD 2 dW) :=
 fnA 1 io T.F__Lodd_words eP fun hr =>
   (ag (aB 2 eP.nd (aC hr.units (ai 0) (Ev.obs af) (fun _ _=>rfl)))
   (ag (aB 3 eP.nd (Ev.frz (aV (ac av (ac av (ac (ar (Ev.obs av) (ai 2)) (ac (ar (Ev.obs (ar (Ev.obs av) (ai 2))) (Ev.obs av)) (ac (aF 2) (ac (ar (Ev.obs (ar (Ev.obs av) (ai 2))) (Ev.obs av)) (ac av (ac av (ac (ar (Ev.obs av) (ai 2)) ah))))))))))))
   (ag (aB 3 eP.nd (ar (ai 3) (Ev.obs (aV (ac av (ac (ar (Ev.obs (ar (Ev.obs (ar (Ev.obs av) (ai 2))) (Ev.obs av))) (ai 2)) (ac av (ac av (ac av (ac av ah))))))))))
   (am (aK (aC hr.units (ai 3) (Ev.obs (aN (ai 1) (Ev.obs af))) (fun _ _=>rfl)))))))
def jV:DE->Option Out :=
 (aw (dk (bin kD (ae 0) (cst (.str ":"))) (f9 3 (a_ (nmG 2) (a_ (nmG 3) (a_ (nmG 4) f_)))))
 (aw (dk (bin rE (ae 2) (cst (.str "> "))) (f9 3 (a_ (nmG 5) (a_ (nmG 6) (a_ (nmG 7) f_)))))
 (aw (aT 8 (bin fo (ae 7) (cst (.str " "))))
 (aw (ifS (tst (bin eqO (bin a9 (ae 1) (cst (.int 5))) (cst (.int 0))))
 (ba (bin ay (bin ay (bin ay (bin ay (ae 5) (ae 6)) (aq 2 dX (aa (var 8) (aa (bin aS (ae 1) (cst (.int 5))) aj)))) (cst (.str ":"))) (ae 4)))
 bf)
 (aw (ifS (tst (bin eqO (bin a9 (ae 1) (cst (.int 5))) (cst (.int 1))))
 (ba (bin ay (bin ay (ae 2) (cst (.str ":"))) (aq 2 dW (aa (bin fo (bG (ae 4) (cE (cst (.int 1))) noP) (cst (.str " "))) (aa (bin aS (ae 1) (cst (.int 5))) aj)))))
 bf)
 (aw (ifS (tst (bin eqO (bin a9 (ae 1) (cst (.int 5))) (cst (.int 2))))
 (aw (aT 9 (bu (aa (cst (.str "")) (aa (var 2) (aa (bin ay (ae 2) (ae 4)) (aa (bin ay (cst (.str ":")) (ae 4)) (aa (bin ay (cst (.str " ")) (ae 0)) (aa (bin ay (ae 0) (cst (.str " "))) (aa (bin ay (ae 0) (cst (.str ":"))) (aa (bin ay (ae 2) (cst (.str ": "))) (aa (bin ay (ae 2) (cst (.str ":"))) aj)))))))))))
 (ba (bin ixE (ae 9) (bin a9 (bin aS (ae 1) (cst (.int 5))) (cst (.int 9))))))
 bf)
 (aw (ifS (tst (bin eqO (bin a9 (ae 1) (cst (.int 5))) (cst (.int 3))))
 (ba (bin ixE (bu (aa (cst .non) (aa (cst (.int 7)) (aa (bu (aa (var 0) aj)) (aa (fc (aa (var 0) aj)) (aa (cst (.bl true)) (aa sE aj))))))) (bin a9 (bin aS (ae 1) (cst (.int 5))) (cst (.int 6)))))
 bf)
 (aw (aT 10 (bin ay (bO [12] (jt (aa (un bh (ae 0)) aj)) (nmG 12) (tst (bin eqO (bin ixE (ae 0) (ae 12)) (cst (.str " ")))) (var 12)) (bu (aa (un bh (ae 0)) aj))))
 (aw (aT 11 (bin ixE (ae 10) (bin a9 (bin aS (ae 1) (cst (.int 10))) (un bh (ae 10)))))
 (ba (bin ay (bin ay (bG (ae 0) noP (cE (var 11))) (bin ixE (cst (.str "\n\t")) (bin a9 (bin aS (ae 1) (cst (.int 5))) (cst (.int 2))))) (bG (ae 0) (cE (bin ay (ae 11) (cst (.int 1)))) noP))))))))))))
def b8:List D->Option D:=ck 2 13 jV
theorem lN(T:TX K mg):aX P w K mg base CX0 3 T.f__Lodd_row T.fd__Lodd_row (fZ.take 2) (spD 2 b8) :=
 fnA 2 jV T.F__Lodd_row bo fun hr =>
   (ag (fC (l9 (ai 0) av) (e8 rfl (aQ (az 2 bo.nd) (aQ (az 3 bo.nd) (aQ (az 4 bo.nd) dm)))))
   (ag (fC (BO (ai 2) av) (e8 rfl (aQ (az 5 bo.nd) (aQ (az 6 bo.nd) (aQ (az 7 bo.nd) dm)))))
   (ag (aB 8 bo.nd (Ev.frz (iL (ai 7) av)))
   (ag (bp (cM hr.units (Ev.obs (aN (ai 1) (Ev.obs af))) (Ev.obs af))
   (am (aK (ar (Ev.obs (ar (Ev.obs (ar (Ev.obs (ar (ai 5) (ai 6))) (Ev.obs (ao (ow T) T.c__Lodd_names hr (ac (aF 8) (ac (aU (ai 1) (Ev.obs af)) ah)))))) (Ev.obs av))) (ai 4))))
   aL)
   (ag (bp (cM hr.units (Ev.obs (aN (ai 1) (Ev.obs af))) (Ev.obs af))
   (am (aK (ar (Ev.obs (ar (ai 2) (Ev.obs av))) (Ev.obs (ao (ou T) T.c__Lodd_words hr (ac (Ev.frz (iL (Ev.obs (bD (ai 4) (bY af) cA)) av)) (ac (aU (ai 1) (Ev.obs af)) ah)))))))
   aL)
   (ag (bp (cM hr.units (Ev.obs (aN (ai 1) (Ev.obs af))) (Ev.obs af))
   (ag (aB 9 bo.nd (Ev.frz (aV (ac av (ac (aF 2) (ac (ar (ai 2) (ai 4)) (ac (ar (Ev.obs av) (ai 4)) (ac (ar (Ev.obs av) (ai 0)) (ac (ar (ai 0) (Ev.obs av)) (ac (ar (ai 0) (Ev.obs av)) (ac (ar (ai 2) (Ev.obs av)) (ac (ar (ai 2) (Ev.obs av)) ah))))))))))))
   (am (aK (aC hr.units (ai 9) (Ev.obs (aN (Ev.obs (aU (ai 1) (Ev.obs af))) (Ev.obs af))) (fun _ _=>rfl)))))
   aL)
   (ag (bp (cM hr.units (Ev.obs (aN (ai 1) (Ev.obs af))) (Ev.obs af))
   (am (aK (aC hr.units (Ev.obs (aV (ac gP (ac af (ac (Ev.frz (aV (ac (aF 0) ah))) (ac (dF (ac (aF 0) ah)) (ac uR (ac (Ev.frz xA) ah)))))))) (Ev.obs (aN (Ev.obs (aU (ai 1) (Ev.obs af))) (Ev.obs af))) (fun _ _=>rfl))))
   aL)
   (ag (aB 10 bo.nd (ar (Ev.obs (bS (js:=[12]) (Blk.of (sc:=ak jB) (N:=fZ) (by decide +kernel) rfl rfl) rfl (b9 rfl T.n_range (ac (aR rfl T.n_len (ai 0)) ah)) bj (fun _ _ _ _=>(az 12 bo.nd)) (fun _ _ _ _=>(pb (cM hr.units (Ev.obs (aC hr.units (ai 0) (ai 12) (fun _ _=>rfl))) (Ev.obs av)))) (fun _ _ _ _=>(aF 12)))) (Ev.obs (aV (ac (aR rfl T.n_len (ai 0)) ah)))))
   (ag (aB 11 bo.nd (aC hr.units (ai 10) (Ev.obs (aN (Ev.obs (aU (ai 1) (Ev.obs af))) (Ev.obs (aR rfl T.n_len (ai 10))))) (fun _ _=>rfl)))
   (am (aK (ar (Ev.obs (ar (Ev.obs (bD (ai 0) cA (bY (aF 11)))) (Ev.obs (aC hr.units (Ev.obs av) (Ev.obs (aN (Ev.obs (aU (ai 1) (Ev.obs af))) (Ev.obs af))) (fun _ _=>rfl))))) (Ev.obs (bD (ai 0) (bY (ar (ai 11) (Ev.obs af))) cA))))))))))))))
def jW:DE->Option Out :=
 (aw (dk (bin kD (ae 0) (cst (.str "> "))) (f9 3 (a_ (nmG 3) (a_ (nmG 4) (a_ (nmG 5) f_)))))
 (aw (aT 6 (bu (aa (bin ay (bin ay (ae 3) (cst (.str ">"))) (ae 5)) (aa (bin ay (ae 3) (ae 5)) (aa (bin ay (bin ay (ae 3) (cst (.str "> > "))) (ae 5)) (aa (bin ay (cst (.str " ")) (ae 0)) (aa (bin ay (cst (.str "Be > ")) (ae 5)) (aa (bin ay (cst (.str "be> ")) (ae 5)) aj))))))))
 (aw (aT 6 (bin ay (ae 6) (bu (aa (bin ay (cst (.str "be  > ")) (ae 5)) (aa (bin ay (cst (.str "be\t> ")) (ae 5)) (aa (bin ay (cst (.str "abcdefghijklm > ")) (ae 5)) (aa (bin ay (cst (.str " > ")) (ae 5)) (aa (bin ay (cst (.str "3 > ")) (ae 5)) aj))))))))
 (aw (aT 6 (bin ay (ae 6) (bu (aa (bin ay (bin ay (bin ay (bin ay (ae 3) (cst (.str "> "))) (ae 2)) (cst (.str "a"))) (bG (ae 5) (cE (bin v9 (ae 5) (cst (.str ":")))) noP)) (aa (bin ay (bin ay (ae 3) (cst (.str "< "))) (ae 5)) (aa (bin ay (cst (.str "be ")) (ae 5)) aj))))))
 (ba (bin ixE (ae 6) (bin a9 (ae 1) (cst (.int 14)))))))))
def eG:List D->Option D:=ck 3 7 jW
theorem rP(T:TX K mg):aX P w K mg base CX0 2 T.f__Lodd_cue T.fd__Lodd_cue (ib.take 3) (spD 3 eG) :=
 fnA 1 jW T.F__Lodd_cue cV fun hr =>
   (ag (fC (l9 (ai 0) av) (e8 rfl (aQ (az 3 cV.nd) (aQ (az 4 cV.nd) (aQ (az 5 cV.nd) dm)))))
   (ag (aB 6 cV.nd (Ev.frz (aV (ac (ar (Ev.obs (ar (ai 3) (Ev.obs av))) (ai 5)) (ac (ar (ai 3) (ai 5)) (ac (ar (Ev.obs (ar (ai 3) (Ev.obs av))) (ai 5)) (ac (ar (Ev.obs av) (ai 0)) (ac (ar (Ev.obs av) (ai 5)) (ac (ar (Ev.obs av) (ai 5)) ah)))))))))
   (ag (aB 6 cV.nd (ar (ai 6) (Ev.obs (aV (ac (ar (Ev.obs av) (ai 5)) (ac (ar (Ev.obs av) (ai 5)) (ac (ar (Ev.obs av) (ai 5)) (ac (ar (Ev.obs av) (ai 5)) (ac (ar (Ev.obs av) (ai 5)) ah)))))))))
   (ag (aB 6 cV.nd (ar (ai 6) (Ev.obs (aV (ac (ar (Ev.obs (ar (Ev.obs (ar (Ev.obs (ar (ai 3) (Ev.obs av))) (ai 2))) (Ev.obs av))) (Ev.obs (bD (ai 5) (bY (xz (ai 5) av)) cA))) (ac (ar (Ev.obs (ar (ai 3) (Ev.obs av))) (ai 5)) (ac (ar (Ev.obs av) (ai 5)) ah)))))))
   (am (aK (aC hr.units (ai 6) (Ev.obs (aN (ai 1) (Ev.obs af))) (fun _ _=>rfl))))))))
def mY:DE->Option Out :=
 (aw (aT 3 (bin a9 (bin aS (ae 1) (cst (.int 3))) (un bh (ae 0))))
 (aw (gj 4 (un jG (ae 0)))
 (aw (ifS (tst (bin eqO (bin a9 (ae 1) (cst (.int 3))) (cst (.int 0))))
 (iz 4 (var 3) (aq 2 b8 (aa (bin ixE (ae 0) (ae 3)) (aa (bin aS (ae 1) (cst (.int 36))) aj))))
 (ifS (tst (un ju (var 2)))
 (aw (aT 5 (bin fo (bin ixE (bin kD (bin ixE (ae 0) (ae 3)) (cst (.str ":"))) (cst (.int 0))) (cst (.str " "))))
 (aw (aT 6 (un m8 (bG (bu (aa (bin ixE (ae 5) (bin a9 (bin aS (ae 1) (cst (.int 108))) (un bh (ae 5)))) (aa (cst (.str "zzzzzzzz")) aj))) noP (cE (bin ay (cst (.int 1)) (bin a9 (bin aS (ae 1) (cst (.int 36))) (cst (.int 2))))))))
 (aw (gj 4 (bin vb (bin ay (bG (ae 0) noP (cE (bin ay (ae 3) (cst (.int 1))))) (bu (aa (bin ixE (bu (aa (bin ixE (ae 0) (ae 3)) (aa (bin ay (bin g_ (cst (.str " ")) (ae 6)) (cst (.str ": be or"))) aj))) (un yU (bin gtD (bin a9 (bin aS (ae 1) (cst (.int 72))) (cst (.int 3))) (cst (.int 0))))) aj))) (bG (ae 0) (cE (bin ay (ae 3) (cst (.int 1)))) noP)))
 (aT 3 (bin ay (ae 3) (cst (.int 1)))))))
 (ifS (tst (bin eqO (bin a9 (ae 1) (cst (.int 3))) (cst (.int 1))))
 (iz 4 (var 3) (aq 3 eG (aa (bin ixE (ae 0) (ae 3)) (aa (bin aS (ae 1) (cst (.int 36))) (aa (var 2) aj)))))
 (aw (gj 4 (bin vb (ae 0) (bu (aa (bG (bin ixE (ae 0) (ae 3)) (cE (bin v9 (bin ixE (ae 0) (ae 3)) (cst (.str ">")))) noP) aj))))
 (aT 3 (un bh (ae 0)))))))
 (aw (aT 7 (bin a9 (bin aS (ae 1) (cst (.int 216))) (un bh (ae 4))))
 (aw (ifS (li (tst (bin eqO (bin a9 (bin aS (ae 1) (cst (.int 18))) (cst (.int 2))) (cst (.int 1)))) (li (tst (bin neO (ae 7) (ae 3))) (tst (isF "str" (bin ixE (ae 4) (ae 7))))))
 (aw (iz 4 (var 7) (aq 2 b8 (aa (bin ixE (ae 4) (ae 7)) (aa (bin aS (ae 1) (cst (.int 1000))) aj))))
 (aT 3 (wv nv (aa (var 3) (aa (var 7) aj)))))
 bf)
 (fun E=>(ba (fc (aa (var 4) (aa (var 3) aj)))) (fzE 4 E)))))))
def cm:List D->Option D:=ck 3 8 mY
theorem vP(T:TX K mg):aX P w K mg base CX0 4 T.f__Lfault T.fd__Lfault (kr.take 3) (spD 3 cm) :=
 fnA 3 mY T.F__Lfault ca fun hr =>
   (ag (aB 3 ca.nd (aN (Ev.obs (aU (ai 1) (Ev.obs af))) (Ev.obs (aR rfl T.n_len (ai 0)))))
   (ag (cw 4 ca.nd (ki rfl T.n_list rfl (ai 0)))
   (ag (bp (cM hr.units (Ev.obs (aN (ai 1) (Ev.obs af))) (Ev.obs af))
   (am (nP (i:=4) (pv 4) (aF 3) (ao (lN T) T.c__Lodd_row hr (ac (aC hr.units (ai 0) (ai 3) (fun _ _=>rfl)) (ac (aU (ai 1) (Ev.obs af)) ah)))))
   (am (bp (mQ (aF 2))
   (ag (aB 5 ca.nd (Ev.frz (iL (Ev.obs (aC hr.units (Ev.obs (l9 (Ev.obs (aC hr.units (ai 0) (ai 3) (fun _ _=>rfl))) av)) (Ev.obs af) (fun _ _=>rfl))) av)))
   (ag (aB 6 ca.nd (Ev.frz (o4 rfl rfl T.n_sorted rfl (Ev.obs (bD (Ev.obs (aV (ac (aC hr.units (ai 5) (Ev.obs (aN (Ev.obs (aU (ai 1) (Ev.obs af))) (Ev.obs (aR rfl T.n_len (ai 5))))) (fun _ _=>rfl)) (ac av ah)))) cA (bY (ar (Ev.obs af) (Ev.obs (aN (Ev.obs (aU (ai 1) (Ev.obs af))) (Ev.obs af))))))))))
   (ag (cw 4 ca.nd (sA (Ev.obs (ar (Ev.obs (bD (ai 0) cA (bY (ar (ai 3) (Ev.obs af))))) (Ev.obs (aV (ac (aC hr.units (Ev.obs (aV (ac (aC hr.units (ai 0) (ai 3) (fun _ _=>rfl)) (ac (ar (Ev.obs (je (Ev.obs av) (ai 6))) (Ev.obs av)) ah)))) (Ev.obs (xy rfl T.n_int rfl (Ev.obs (EG  (Ev.obs (aN (Ev.obs (aU (ai 1) (Ev.obs af))) (Ev.obs af))) (Ev.obs af))))) (fun _ _=>rfl)) ah))))) (Ev.obs (bD (ai 0) (bY (ar (ai 3) (Ev.obs af))) cA))))
   (am (aB 3 ca.nd (ar (ai 3) (Ev.obs af)))))))
   (am (bp (cM hr.units (Ev.obs (aN (ai 1) (Ev.obs af))) (Ev.obs af))
   (am (nP (i:=4) (pv 4) (aF 3) (ao (rP T) T.c__Lodd_cue hr (ac (aC hr.units (ai 0) (ai 3) (fun _ _=>rfl)) (ac (aU (ai 1) (Ev.obs af)) (ac (aF 2) ah))))))
   (ag (cw 4 ca.nd (sA (ai 0) (Ev.obs (aV (ac (bD (Ev.obs (aC hr.units (ai 0) (ai 3) (fun _ _=>rfl))) (bY (xz (Ev.obs (aC hr.units (ai 0) (ai 3) (fun _ _=>rfl))) av)) cA) ah)))))
   (am (aB 3 ca.nd (aR rfl T.n_len (ai 0))))))))))
   (ag (aB 7 ca.nd (aN (Ev.obs (aU (ai 1) (Ev.obs af))) (Ev.obs (aR rfl T.n_len (ai 4)))))
   (ag (bp (Ew.et (k7 (cM hr.units (Ev.obs (aN (Ev.obs (aU (ai 1) (Ev.obs af))) (Ev.obs af))) (Ev.obs af)) (k7 (uS hr.units (ai 7) (ai 3)) (kh (bN (cL (T := "str") rfl rfl T.n_isinstance rfl rfl T.n_str rfl (Ev.obs (aC hr.units (ai 4) (ai 7) (fun _ _=>rfl)))))))))
   (ag (nP (i:=4) (pv 4) (aF 7) (ao (lN T) T.c__Lodd_row hr (ac (aC hr.units (ai 4) (ai 7) (fun _ _=>rfl)) (ac (aU (ai 1) (Ev.obs af)) ah))))
   (am (aB 3 ca.nd (Gp rfl rfl T.n_min rfl (ac (aF 3) (ac (aF 7) ah))))))
   aL)
   (am (qP 4 (aK (dF (ac (aF 4) (ac (aF 3) ah)))))))))))
def nA:DE->Option Out :=
 (ba (Gi "list" "tuple" (ae 0)))
def aA:List D->Option D:=ck 1 1 nA
theorem bX(T:TX K mg):aX P w K mg base CX0 2 T.f_is_series T.fd_is_series (hZ.take 1) (spD 1 aA) :=
 fnA 1 nA T.F_is_series rC fun hr =>
   (am (aK (wf (T := "list") (U := "tuple") rfl rfl rfl T.n_isinstance rfl rfl T.n_list rfl rfl T.n_tuple rfl (ai 0))))
def gp:DE->Option Out :=
 (ba (gR (isF "str" (ae 0)) (gR (mh leD leD (cst (.int 1)) (un bh (ae 0)) (ae 1)) (un wy (bO [2] (f8 cJ (var 0)) (nmG 2) noT (mh leD leD (cst (.str "a")) (ae 2) (cst (.str "z"))))))))
def cv:List D->Option D:=ck 2 3 gp
theorem kE(T:TX K mg):aX P w K mg base CX0 2 T.f_is_letters T.fd_is_letters (e_.take 2) (spD 2 cv) :=
 fnA 1 gp T.F_is_letters kz fun hr =>
   (am (aK (dU (cL (T := "str") rfl rfl T.n_isinstance rfl rfl T.n_str rfl (ai 0)) (dU (sw (Ev.obs af) (Ev.obs (aR rfl T.n_len (ai 0))) (ai 1)) (k8 (sy rfl rfl T.n_all rfl (Ev.obs (bS (js:=[2]) (Blk.of (sc:=ak i7) (N:=e_) (by decide +kernel) rfl rfl) rfl (eZ (aF 0)) bj (fun _ _ _ _=>(az 2 kz.nd)) (fun _ _ _ _=>bE) (fun _ _ _ _=>(sw (Ev.obs av) (ai 2) (Ev.obs av)))))))))))
def mV:DE->Option Out :=
 (ba (aq 2 cv (aa (var 0) (aa (cst (.int 8)) aj))))
def gC:List D->Option D:=ck 1 1 mV
theorem vN(T:TX K mg):aX P w K mg base CX0 3 T.f_is_name T.fd_is_name (ko.take 1) (spD 1 gC) :=
 fnA 2 mV T.F_is_name vt fun hr =>
   (am (aK (ao (kE T) T.c_is_letters hr (ac (aF 0) (ac (sx (v:=.int 8) rfl T.m_NAME_LETTERS ⟨_,rfl⟩ fun _=>.int _) ah)))))
def jT:DE->Option Out :=
 (ba (un wy (bO [1] (f8 cJ (var 0)) (nmG 1) noT (aq 1 gC (aa (var 1) aj)))))
def fQ:List D->Option D:=ck 1 2 jT
theorem lM(T:TX K mg):aX P w K mg base CX0 4 T.f_are_names T.fd_are_names (fY.take 1) (spD 1 fQ) :=
 fnA 3 jT T.F_are_names lz fun hr =>
   (am (aK (sy rfl rfl T.n_all rfl (Ev.obs (bS (js:=[1]) (Blk.of (sc:=ak jA) (N:=fY) (by decide +kernel) rfl rfl) rfl (eZ (aF 0)) bj (fun _ _ _ _=>(az 1 lz.nd)) (fun _ _ _ _=>bE) (fun _ _ _ _=>(ao (vN T) T.c_is_name hr (ac (aF 1) ah))))))))
def jR:DE->Option Out :=
 (ba (un wy (bO [1,2] (Cm (aa (var 0) (aa (bG (ae 0) (cE (cst (.int 1))) noP) aj))) (f9 2 (a_ (nmG 1) (a_ (nmG 2) f_))) noT (bin ltD (ae 1) (ae 2)))))
def fO:List D->Option D:=ck 1 3 jR
theorem rN(T:TX K mg):aX P w K mg base CX0 2 T.f_is_rising T.fd_is_rising (fW.take 1) (spD 1 fO) :=
 fnA 1 jR T.F_is_rising i6 fun hr =>
   (am (aK (sy rfl rfl T.n_all rfl (Ev.obs (bS (js:=[1,2]) (Blk.of (sc:=ak jy) (N:=fW) (by decide +kernel) rfl rfl) rfl (DZ rfl T.n_zip (ac (aF 0) (ac (bD (ai 0) (bY af) cA) ah))) (lj.js (ud (j_ (nM nofun) (j_ (nM nofun) ue)))) (fun _ _ _ _=>(e8 rfl (aQ (az 1 i6.nd) (aQ (az 2 i6.nd) dm)))) (fun _ _ _ _=>bE) (fun _ _ _ _=>(HN  (ai 1) (ai 2))))))))
def dw:DE->Option Out :=
 (ba (gR (isF "tuple" (ae 0)) (gR (mh leD leD (cst (.int 1)) (un bh (ae 0)) (cst (.int 8))) (gR (aq 1 fQ (aa (var 0) aj)) (aq 1 fO (aa (var 0) aj))))))
def bz:List D->Option D:=ck 1 1 dw
theorem gJ(T:TX K mg):aX P w K mg base CX0 5 T.f_is_speech_names T.fd_is_speech_names (dz.take 1) (spD 1 bz) :=
 fnA 4 dw T.F_is_speech_names kP fun hr =>
   (am (aK (dU (cL (T := "tuple") rfl rfl T.n_isinstance rfl rfl T.n_tuple rfl (ai 0)) (dU (sw (Ev.obs af) (Ev.obs (aR rfl T.n_len (ai 0))) (Ev.obs (sx (v:=.int 8) rfl T.m_SPEECH_NAMES ⟨_,rfl⟩ fun _=>.int _))) (dU (ao (lM T) T.c_are_names hr (ac (aF 0) ah)) (k8 (ao (rN T) T.c_is_rising hr (ac (aF 0) ah))))))))
def mU:DE->Option Out :=
 (ba (aq 2 cv (aa (var 0) (aa (cst (.int 12)) aj))))
def gB:List D->Option D:=ck 1 1 mU
theorem vM(T:TX K mg):aX P w K mg base CX0 3 T.f_is_word T.fd_is_word (kn.take 1) (spD 1 gB) :=
 fnA 2 mU T.F_is_word vq fun hr =>
   (am (aK (ao (kE T) T.c_is_letters hr (ac (aF 0) (ac (sx (v:=.int 12) rfl T.m_WORD_LETTERS ⟨_,rfl⟩ fun _=>.int _) ah)))))
def jS:DE->Option Out :=
 (ba (un wy (bO [1] (f8 cJ (var 0)) (nmG 1) noT (aq 1 gB (aa (var 1) aj)))))
def fP:List D->Option D:=ck 1 2 jS
theorem lL(T:TX K mg):aX P w K mg base CX0 4 T.f_are_words T.fd_are_words (fX.take 1) (spD 1 fP) :=
 fnA 3 jS T.F_are_words ly fun hr =>
   (am (aK (sy rfl rfl T.n_all rfl (Ev.obs (bS (js:=[1]) (Blk.of (sc:=ak jz) (N:=fX) (by decide +kernel) rfl rfl) rfl (eZ (aF 0)) bj (fun _ _ _ _=>(az 1 ly.nd)) (fun _ _ _ _=>bE) (fun _ _ _ _=>(ao (vM T) T.c_is_word hr (ac (aF 1) ah))))))))
def du:DE->Option Out :=
 (ba (gR (isF "tuple" (ae 0)) (gR (bin gtD (un bh (ae 0)) (cst (.int 0))) (aq 1 fP (aa (var 0) aj)))))
def bx:List D->Option D:=ck 1 1 du
theorem gI(T:TX K mg):aX P w K mg base CX0 5 T.f_is_speech_words T.fd_is_speech_words (dy.take 1) (spD 1 bx) :=
 fnA 4 du T.F_is_speech_words kO fun hr =>
   (am (aK (dU (cL (T := "tuple") rfl rfl T.n_isinstance rfl rfl T.n_tuple rfl (ai 0)) (dU (EG  (Ev.obs (aR rfl T.n_len (ai 0))) (Ev.obs af)) (k8 (ao (lL T) T.c_are_words hr (ac (aF 0) ah)))))))
def fT:DE->Option Out :=
 (ba (gR (isF "tuple" (ae 0)) (gR (bin eqO (un bh (ae 0)) (cst (.int 2))) (gR (aq 1 bz (aa (bin ixE (ae 0) (cst (.int 0))) aj)) (aq 1 bx (aa (bin ixE (ae 0) (cst (.int 1))) aj))))))
def b7:List D->Option D:=ck 1 1 fT
theorem lK(T:TX K mg):aX P w K mg base CX0 6 T.f_is_speech T.fd_is_speech (hY.take 1) (spD 1 b7) :=
 fnA 5 fT T.F_is_speech rB fun hr =>
   (am (aK (dU (cL (T := "tuple") rfl rfl T.n_isinstance rfl rfl T.n_tuple rfl (ai 0)) (dU (uP hr.units (Ev.obs (aR rfl T.n_len (ai 0))) (Ev.obs af)) (dU (ao (gJ T) T.c_is_speech_names hr (ac (aC hr.units (ai 0) (Ev.obs af) (fun _ _=>rfl)) ah)) (k8 (ao (gI T) T.c_is_speech_words hr (ac (aC hr.units (ai 0) (Ev.obs af) (fun _ _=>rfl)) ah))))))))
def hJ:DE->Option Out :=
 (aw (ifS (orT (dA (tst (aq 1 aA (aa (var 0) aj)))) (orT (tst (bin neO (un bh (ae 0)) (cst (.int 2)))) (orT (dA (tst (aq 1 aA (aa (bin ixE (ae 0) (cst (.int 0))) aj)))) (dA (tst (aq 1 aA (aa (bin ixE (ae 0) (cst (.int 1))) aj)))))))
 (ba (cst .non))
 bf)
 (aw (ifS (dA (tst (aq 1 fQ (aa (bin ixE (ae 0) (cst (.int 0))) aj))))
 (ba (cst .non))
 bf)
 (aw (aT 1 (fc (aa (un bU (un m8 (bin ixE (ae 0) (cst (.int 0))))) (aa (un bU (bin ixE (ae 0) (cst (.int 1)))) aj))))
 (ba (ifV (tst (aq 1 b7 (aa (var 1) aj))) (var 1) (cst .non))))))
def cu:List D->Option D:=ck 1 2 hJ
theorem lH(T:TX K mg):aX P w K mg base CX0 7 T.f_speech_of T.fd_speech_of (hV.take 1) (spD 1 cu) :=
 fnA 6 hJ T.F_speech_of lx fun hr =>
   (ag (bp (Ew.et (iK (di (bN (ao (bX T) T.c_is_series hr (ac (aF 0) ah)))) (iK (uS hr.units (Ev.obs (aR rfl T.n_len (ai 0))) (Ev.obs af)) (iK (di (bN (ao (bX T) T.c_is_series hr (ac (aC hr.units (ai 0) (Ev.obs af) (fun _ _=>rfl)) ah)))) (gO (di (bN (ao (bX T) T.c_is_series hr (ac (aC hr.units (ai 0) (Ev.obs af) (fun _ _=>rfl)) ah)))))))))
   (am (aK gP))
   aL)
   (ag (bp (di (bN (ao (lM T) T.c_are_names hr (ac (aC hr.units (ai 0) (Ev.obs af) (fun _ _=>rfl)) ah))))
   (am (aK gP))
   aL)
   (ag (aB 1 lx.nd (dF (ac (cK rfl T.n_tuple rfl (Ev.obs (o4 rfl rfl T.n_sorted rfl (Ev.obs (aC hr.units (ai 0) (Ev.obs af) (fun _ _=>rfl)))))) (ac (cK rfl T.n_tuple rfl (Ev.obs (aC hr.units (ai 0) (Ev.obs af) (fun _ _=>rfl)))) ah))))
   (am (aK (EF (bN (ao (lK T) T.c_is_speech hr (ac (aF 1) ah))) (aF 1) gP))))))
def im:DE->Option Out :=
 (ba (un D5 (bO [2] (f8 cJ (var 0)) (nmG 2) noT (bin inE (ae 2) (ae 1)))))
def bL:List D->Option D:=ck 2 3 im
theorem jD(T:TX K mg):aX P w K mg base CX0 2 T.f_have_common T.fd_have_common (d8.take 2) (spD 2 bL) :=
 fnA 1 im T.F_have_common jx fun hr =>
   (am (aK (Gq rfl rfl T.n_any rfl (Ev.obs (bS (js:=[2]) (Blk.of (sc:=ak ig) (N:=d8) (by decide +kernel) rfl rfl) rfl (eZ (aF 0)) bj (fun _ _ _ _=>(az 2 jx.nd)) (fun _ _ _ _=>bE) (fun _ _ _ _=>(BQ hr.units (ai 2) (ai 1) rfl)))))))
def iS:DE->Option Out :=
 (aw (ifS (dA (tst (aq 1 aA (aa (var 0) aj))))
 noS
 bf)
 (aw (gj 1 (bu aj))
 (aw (aT 2 (fc aj))
 (aw (ij (dZ (aa (var 0) aj)) (f9 2 (a_ (nmG 3) (a_ (nmG 4) f_)))
 (aw (aT 5 (aq 1 cu (aa (var 4) aj)))
 (aw (ifS (orT (tst (un ju (var 5))) (tst (aq 2 bL (aa (bin ixE (ae 5) (cst (.int 0))) (aa (var 2) aj)))))
 noS
 bf)
 (aw (ir 1 (var 5))
 (aT 2 (bin ixE (ae 5) (cst (.int 0))))))))
 (ba (un bU (ae 1)))))))
def eF:List D->Option D:=ck 1 6 iS
theorem oq(T:TX K mg):aX P w K mg base CX0 8 T.f_play_of T.fd_play_of (iU.take 1) (spD 1 eF) :=
 fnA 7 iS T.F_play_of bw fun hr =>
   (ag (bp (di (bN (ao (bX T) T.c_is_series hr (ac (aF 0) ah))))
   (am jL)
   aL)
   (ag (cw 1 bw.nd (aV ah))
   (ag (aB 2 bw.nd (dF ah))
   (ag (jM KK rfl (nR rfl T.n_enumerate (ac (aF 0) ah)) (e8 rfl (aQ (az 3 bw.nd) (aQ (az 4 bw.nd) dm)))
   (ag (aB 5 bw.nd (ao (lH T) T.c_speech_of hr (ac (aF 4) ah)))
   (ag (bp (Ew.et (iK (mQ (aF 5)) (gO (bN (ao (jD T) T.c_have_common hr (ac (aC hr.units (ai 5) (Ev.obs af) (fun _ _=>rfl)) (ac (aF 2) ah)))))))
   (am jL)
   aL)
   (ag (de (i:=1) (pv 1) (aF 5))
   (am (aB 2 bw.nd (aC hr.units (ai 5) (Ev.obs af) (fun _ _=>rfl))))))))
   (am (aK (cK rfl T.n_tuple rfl (ai 1))))))))
def lh:DE->Option bF :=
 (dC (ifX (dA (tst (aq 1 aA (aa (var 0) aj))))
 (cI 0 "place" (cst (.int 0)))
 (okX bf))
 (dC (okX (gj 1 (bu aj)))
 (dC (okX (aT 2 (fc aj)))
 (dC (p5 (dZ (aa (var 0) aj)) (f9 2 (a_ (nmG 3) (a_ (nmG 4) f_)))
 (dC (okX (aT 5 (aq 1 cu (aa (var 4) aj))))
 (dC (ifX (orT (tst (un ju (var 5))) (tst (aq 2 bL (aa (bin ixE (ae 5) (cst (.int 0))) (aa (var 2) aj)))))
 (cI 0 "place" (var 3))
 (okX bf))
 (dC (okX (ir 1 (var 5)))
 (okX (aT 2 (bin ixE (ae 5) (cst (.int 0)))))))))
 (okX (ba (un bU (ae 1))))))))
def gN:List D->Option (Option (Nat×List (Str×D))):=qp 1 6 lh
theorem uf(T:TX K mg):aX P w K mg base (CX1 P w) 8 T.f_play_of T.fd_play_of (iU.take 1) (pM (clN K) 1 gN):=by
 obtain⟨fdI0,oi0,bi0⟩:=T.init0 (P:=P) (w:=w) (base:=base)
 exact DK (k:=7) T.F_play_of bw fun cdv A outer s H E hr =>
   (bT (mR (di (bN (ao (bX T) T.c_is_series hr (ac (aF 0) ah))))
   (cb (iM rfl T.kd0.er.q oi0 bi0 T.kd0.er.fn (hr.mono nofun) rfl rfl T.kd0.mx T.kd0.er.kp af))
   (kj aL))
   (bT (ik (cw 1 bw.nd (aV ah)))
   (bT (ik (aB 2 bw.nd (dF ah)))
   (bT (xC rfl rfl rfl (nR rfl T.n_enumerate (ac (aF 0) ah)) (e8 rfl (aQ (az 3 bw.nd) (aQ (az 4 bw.nd) dm)))
   (bT (ik (aB 5 bw.nd (ao (lH T) T.c_speech_of hr (ac (aF 4) ah))))
   (bT (mR (Ew.et (iK (mQ (aF 5)) (gO (bN (ao (jD T) T.c_have_common hr (ac (aC hr.units (ai 5) (Ev.obs af) (fun _ _=>rfl)) (ac (aF 2) ah)))))))
   (cb (iM rfl T.kd0.er.q oi0 bi0 T.kd0.er.fn (hr.mono nofun) rfl rfl T.kd0.mx T.kd0.er.kp (aF 3)))
   (kj aL))
   (bT (ik (de (i:=1) (pv 1) (aF 5)))
   (cb (ik (aB 2 bw.nd (aC hr.units (ai 5) (Ev.obs af) (fun _ _=>rfl)))))))))
   (cb (ik (aK (cK rfl T.n_tuple rfl (ai 1)))))))))
def fS:DE->Option Out :=
 (aw (ifS (dA (tst (isF "str" (ae 0))))
 (ba (cst .non))
 bf)
 (aw (aT 1 (bin kD (ae 0) (cst (.str ": "))))
 (aw (aT 2 (fc (aa (un bU (bin fo (bin ixE (ae 1) (cst (.int 0))) (cst (.str " ")))) (aa (un bU (bin fo (bin ixE (ae 1) (cst (.int 2))) (cst (.str " ")))) aj))))
 (ba (ifV (tst (aq 1 b7 (aa (var 2) aj))) (var 2) (cst .non))))))
def aP:List D->Option D:=ck 1 3 fS
theorem i8(T:TX K mg):aX P w K mg base CX0 7 T.f_speech_in T.fd_speech_in (hX.take 1) (spD 1 aP) :=
 fnA 6 fS T.F_speech_in i5 fun hr =>
   (ag (bp (di (bN (cL (T := "str") rfl rfl T.n_isinstance rfl rfl T.n_str rfl (ai 0))))
   (am (aK gP))
   aL)
   (ag (aB 1 i5.nd (l9 (ai 0) av))
   (ag (aB 2 i5.nd (dF (ac (cK rfl T.n_tuple rfl (Ev.obs (iL (Ev.obs (aC hr.units (ai 1) (Ev.obs af) (fun _ _=>rfl))) av))) (ac (cK rfl T.n_tuple rfl (Ev.obs (iL (Ev.obs (aC hr.units (ai 1) (Ev.obs af) (fun _ _=>rfl))) av))) ah))))
   (am (aK (EF (bN (ao (lK T) T.c_is_speech hr (ac (aF 2) ah))) (aF 2) gP))))))
def eK:DE->Option Out :=
 (aw (ifS (dA (tst (aq 1 aA (aa (var 0) aj))))
 noS
 bf)
 (aw (ba (aq 1 eF (aa (bO [2] (f8 cJ (var 0)) (nmG 2) noT (aq 1 aP (aa (var 2) aj))) aj)))
 bf))
def bn:List D->Option D:=ck 1 3 eK
theorem lI(T:TX K mg):aX P w K mg base CX0 9 T.f_read_play T.fd_read_play (dJ.take 1) (spD 1 bn) :=
 fnA 8 eK T.F_read_play eN fun hr =>
   (ag (bp (di (bN (ao (bX T) T.c_is_series hr (ac (aF 0) ah))))
   (am jL)
   aL)
   (am (DU (am (aK (ao (oq T) T.c_play_of hr (ac (Ev.frz (bS (js:=[2]) (Blk.of (sc:=ak gY) (N:=dJ) (by decide +kernel) rfl rfl) rfl (eZ (aF 0)) bj (fun _ _ _ _=>(az 2 eN.nd)) (fun _ _ _ _=>bE) (fun _ _ _ _=>(ao (i8 T) T.c_speech_in hr (ac (aF 2) ah))))) ah))))
   aL)))
def c8:DE->Option bF :=
 (dC (ifX (dA (tst (aq 1 aA (aa (var 0) aj))))
 (cI 1 "row" (cst (.int 0)))
 (okX bf))
 (zI 0 1 (iP 1 eF gN (fun d _=>.rt d) (aa (bO [2] (f8 cJ (var 0)) (nmG 2) noT (aq 1 aP (aa (var 2) aj))) aj)) fun a fs=>cI 1 "row" (lm 1 a "place" fs)))
def cq:List D->Option (Option (Nat×List (Str×D))):=qp 1 3 c8
theorem pX(T:TX K mg):aX P w K mg base (CX1 P w) 9 T.f_read_play T.fd_read_play (dJ.take 1) (pM (clN K) 1 cq):=by
 obtain⟨cd0,xc0⟩:=T.kd0.er.xc
 obtain⟨fdI1,oi1,bi1⟩:=T.init1 (P:=P) (w:=w) (base:=base)
 obtain⟨fdH1,oh1,bh1⟩:=T.initH1 (P:=P) (w:=w) (base:=base)
 exact DK (k:=8) T.F_read_play eN fun cdv A outer s H E hr =>
   (bT (mR (di (bN (ao (bX T) T.c_is_series hr (ac (aF 0) ah))))
   (cb (iM rfl T.kd1.er.q oi1 bi1 T.kd1.er.fn (hr.mono nofun) rfl rfl T.kd1.mx T.kd1.er.kp af))
   (kj aL))
   (cb (DS (n:=0) (cl:=clN K) (cb (o7 (FH (oq T) (uf T)) (hr.mono nofun) rfl T.c_play_of.m T.c_play_of.kp T.c_play_of.b (ac (Ev.frz (bS (js:=[2]) (Blk.of (sc:=ak gY) (N:=dJ) (by decide +kernel) rfl rfl) rfl (eZ (aF 0)) bj (fun _ _ _ _=>(az 2 eN.nd)) (fun _ _ _ _=>bE) (fun _ _ _ _=>(ao (i8 T) T.c_speech_in hr (ac (aF 2) ah))))) ah))) rfl rfl T.kd0.er.q rfl T.kd0.mx eN.nd rfl rfl
   fun a dx oe od vs fs h1 h2 h3 h4 h5 h6=>cb (wj h3 h6 rfl rfl T.kd1.er.q oh1 bh1 T.kd1.er.fn (hr.mono nofun) rfl T.kd1.mx T.kd1.er.kp (DO h1 h2 h3 h4 xc0 T.kd0.er.nf h5 (pv 1))))))
def dI:DE->Option Out :=
 (aw (ifS (dA (tst (isF "str" (ae 0))))
 (ba (cst .non))
 bf)
 (aw (aT 1 (bin kD (ae 0) (cst (.str "> "))))
 (aw (aT 2 (bin fo (bin ixE (ae 1) (cst (.int 0))) (cst (.str " "))))
 (aw (aT 3 (aq 1 aP (aa (bin ixE (ae 1) (cst (.int 2))) aj)))
 (aw (ifS (orT (tst (un ju (var 3))) (tst (bin neO (bin ixE (ae 2) (cst (.int (-1)))) (cst (.str "")))))
 (ba (cst .non))
 bf)
 (ba (fc (aa (un bU (bG (ae 2) noP (cE (cst (.int (-1)))))) (aa (bin ixE (ae 3) (cst (.int 0))) (aa (bin ixE (ae 3) (cst (.int 1))) aj))))))))))
def bq:List D->Option D:=ck 1 4 dI
theorem nu(T:TX K mg):aX P w K mg base CX0 8 T.f_entry_in T.fd_entry_in (jn.take 1) (spD 1 bq) :=
 fnA 7 dI T.F_entry_in gX fun hr =>
   (ag (bp (di (bN (cL (T := "str") rfl rfl T.n_isinstance rfl rfl T.n_str rfl (ai 0))))
   (am (aK gP))
   aL)
   (ag (aB 1 gX.nd (l9 (ai 0) av))
   (ag (aB 2 gX.nd (Ev.frz (iL (Ev.obs (aC hr.units (ai 1) (Ev.obs af) (fun _ _=>rfl))) av)))
   (ag (aB 3 gX.nd (ao (i8 T) T.c_speech_in hr (ac (aC hr.units (ai 1) (Ev.obs af) (fun _ _=>rfl)) ah)))
   (ag (bp (Ew.et (iK (mQ (aF 3)) (gO (uS hr.units (Ev.obs (aC hr.units (ai 2) (Ev.obs o5) (fun _ _=>rfl))) (Ev.obs av)))))
   (am (aK gP))
   aL)
   (am (aK (dF (ac (cK rfl T.n_tuple rfl (Ev.obs (bD (ai 2) cA (bY o5)))) (ac (aC hr.units (ai 3) (Ev.obs af) (fun _ _=>rfl)) (ac (aC hr.units (ai 3) (Ev.obs af) (fun _ _=>rfl)) ah)))))))))))
def pq:DE->Option Out :=
 (ba (gR (isF "tuple" (ae 0)) (aq 1 fP (aa (var 0) aj))))
def lY:List D->Option D:=ck 1 1 pq
theorem yB(T:TX K mg):aX P w K mg base CX0 5 T.f_is_cue T.fd_is_cue (mq.take 1) (spD 1 lY) :=
 fnA 4 pq T.F_is_cue yc fun hr =>
   (am (aK (dU (cL (T := "tuple") rfl rfl T.n_isinstance rfl rfl T.n_tuple rfl (ai 0)) (k8 (ao (lL T) T.c_are_words hr (ac (aF 0) ah))))))
def jk:DE->Option Out :=
 (aw (ifS (orT (dA (tst (isF "tuple" (ae 1)))) (tst (bin neO (un bh (ae 1)) (cst (.int 3)))))
 (ba (cst (.bl false)))
 bf)
 (ba (gR (aq 1 lY (aa (bin ixE (ae 1) (cst (.int 0))) aj)) (gR (aq 1 bz (aa (bin ixE (ae 1) (cst (.int 1))) aj)) (gR (bin inE (ae 0) (bin ixE (ae 1) (cst (.int 1)))) (aq 1 bx (aa (bin ixE (ae 1) (cst (.int 2))) aj)))))))
def cY:List D->Option D:=ck 2 2 jk
theorem nt(T:TX K mg):aX P w K mg base CX0 6 T.f_is_entry T.fd_is_entry (jm.take 2) (spD 2 cY) :=
 fnA 5 jk T.F_is_entry tD fun hr =>
   (ag (bp (Ew.et (iK (di (bN (cL (T := "tuple") rfl rfl T.n_isinstance rfl rfl T.n_tuple rfl (ai 1)))) (gO (uS hr.units (Ev.obs (aR rfl T.n_len (ai 1))) (Ev.obs af)))))
   (am (aK uR))
   aL)
   (am (aK (dU (ao (yB T) T.c_is_cue hr (ac (aC hr.units (ai 1) (Ev.obs af) (fun _ _=>rfl)) ah)) (dU (ao (gJ T) T.c_is_speech_names hr (ac (aC hr.units (ai 1) (Ev.obs af) (fun _ _=>rfl)) ah)) (dU (BQ hr.units (ai 0) (Ev.obs (aC hr.units (ai 1) (Ev.obs af) (fun _ _=>rfl))) rfl) (k8 (ao (gI T) T.c_is_speech_words hr (ac (aC hr.units (ai 1) (Ev.obs af) (fun _ _=>rfl)) ah)))))))))
def cT:DE->Option Out :=
 (aw (ifS (orT (dA (tst (aq 1 aA (aa (var 1) aj)))) (tst (bin eqO (un bh (ae 1)) (cst (.int 0)))))
 noS
 bf)
 (aw (gj 2 (bu aj))
 (aw (ij (dZ (aa (var 1) aj)) (f9 2 (a_ (nmG 3) (a_ (nmG 4) f_)))
 (aw (aT 5 (aq 1 bq (aa (var 4) aj)))
 (aw (ifS (orT (dA (tst (aq 2 cY (aa (var 0) (aa (var 5) aj))))) (li (tst (bin gtD (ae 3) (cst (.int 0)))) (tst (bin eqO (un bh (bin ixE (ae 5) (cst (.int 0)))) (cst (.int 0))))))
 noS
 bf)
 (ir 2 (var 5)))))
 (ba (un bU (ae 2))))))
def bB:List D->Option D:=ck 2 6 cT
theorem lJ(T:TX K mg):aX P w K mg base CX0 9 T.f_read_book T.fd_read_book (fV.take 2) (spD 2 bB) :=
 fnA 8 cT T.F_read_book bK fun hr =>
   (ag (bp (Ew.et (iK (di (bN (ao (bX T) T.c_is_series hr (ac (aF 1) ah)))) (gO (cM hr.units (Ev.obs (aR rfl T.n_len (ai 1))) (Ev.obs af)))))
   (am jL)
   aL)
   (ag (cw 2 bK.nd (aV ah))
   (ag (jM KK rfl (nR rfl T.n_enumerate (ac (aF 1) ah)) (e8 rfl (aQ (az 3 bK.nd) (aQ (az 4 bK.nd) dm)))
   (ag (aB 5 bK.nd (ao (nu T) T.c_entry_in hr (ac (aF 4) ah)))
   (ag (bp (Ew.et (iK (di (bN (ao (nt T) T.c_is_entry hr (ac (aF 0) (ac (aF 5) ah))))) (gO (Ew.et (k7 (EH  (ai 3) (Ev.obs af)) (kh (cM hr.units (Ev.obs (aR rfl T.n_len (Ev.obs (aC hr.units (ai 5) (Ev.obs af) (fun _ _=>rfl))))) (Ev.obs af))))))))
   (am jL)
   aL)
   (am (de (i:=2) (pv 2) (aF 5))))))
   (am (aK (cK rfl T.n_tuple rfl (ai 2)))))))
def dQ:DE->Option bF :=
 (dC (ifX (orT (dA (tst (aq 1 aA (aa (var 1) aj)))) (tst (bin eqO (un bh (ae 1)) (cst (.int 0)))))
 (cI 1 "row" (cst (.int 0)))
 (okX bf))
 (dC (okX (gj 2 (bu aj)))
 (dC (p5 (dZ (aa (var 1) aj)) (f9 2 (a_ (nmG 3) (a_ (nmG 4) f_)))
 (dC (okX (aT 5 (aq 1 bq (aa (var 4) aj))))
 (dC (ifX (orT (dA (tst (aq 2 cY (aa (var 0) (aa (var 5) aj))))) (li (tst (bin gtD (ae 3) (cst (.int 0)))) (tst (bin eqO (un bh (bin ixE (ae 5) (cst (.int 0)))) (cst (.int 0))))))
 (cI 1 "row" (var 3))
 (okX bf))
 (okX (ir 2 (var 5))))))
 (okX (ba (un bU (ae 2)))))))
def cr:List D->Option (Option (Nat×List (Str×D))):=qp 2 6 dQ
theorem pY(T:TX K mg):aX P w K mg base (CX1 P w) 9 T.f_read_book T.fd_read_book (fV.take 2) (pM (clN K) 2 cr):=by
 obtain⟨fdI1,oi1,bi1⟩:=T.init1 (P:=P) (w:=w) (base:=base)
 exact DK (k:=8) T.F_read_book bK fun cdv A outer s H E hr =>
   (bT (mR (Ew.et (iK (di (bN (ao (bX T) T.c_is_series hr (ac (aF 1) ah)))) (gO (cM hr.units (Ev.obs (aR rfl T.n_len (ai 1))) (Ev.obs af)))))
   (cb (iM rfl T.kd1.er.q oi1 bi1 T.kd1.er.fn (hr.mono nofun) rfl rfl T.kd1.mx T.kd1.er.kp af))
   (kj aL))
   (bT (ik (cw 2 bK.nd (aV ah)))
   (bT (xC rfl rfl rfl (nR rfl T.n_enumerate (ac (aF 1) ah)) (e8 rfl (aQ (az 3 bK.nd) (aQ (az 4 bK.nd) dm)))
   (bT (ik (aB 5 bK.nd (ao (nu T) T.c_entry_in hr (ac (aF 4) ah))))
   (bT (mR (Ew.et (iK (di (bN (ao (nt T) T.c_is_entry hr (ac (aF 0) (ac (aF 5) ah))))) (gO (Ew.et (k7 (EH  (ai 3) (Ev.obs af)) (kh (cM hr.units (Ev.obs (aR rfl T.n_len (Ev.obs (aC hr.units (ai 5) (Ev.obs af) (fun _ _=>rfl))))) (Ev.obs af))))))))
   (cb (iM rfl T.kd1.er.q oi1 bi1 T.kd1.er.fn (hr.mono nofun) rfl rfl T.kd1.mx T.kd1.er.kp (aF 3)))
   (kj aL))
   (cb (ik (de (i:=2) (pv 2) (aF 5)))))))
   (cb (ik (aK (cK rfl T.n_tuple rfl (ai 2))))))))
def iT:DE->Option Out :=
 (aw (ifS (tst (un ju (var 1)))
 (ba (aq 1 bn (aa (var 0) aj)))
 bf)
 (ba (aq 2 bB (aa (var 1) (aa (var 0) aj)))))
def c9:List D->Option D:=ck 2 2 iT
theorem mH(T:TX K mg):aX P w K mg base CX0 10 T.f__Lread T.fd__Lread (iV.take 2) (spD 2 c9) :=
 fnA 9 iT T.F__Lread qh fun hr =>
   (ag (bp (mQ (aF 1))
   (am (aK (ao (lI T) T.c_read_play hr (ac (aF 0) ah))))
   aL)
   (am (aK (ao (lJ T) T.c_read_book hr (ac (aF 1) (ac (aF 0) ah))))))
def fD:DE->Option bF :=
 (dC (ifX (tst (un ju (var 1)))
 (iP 1 bn cq (fun d _=>.rt d) (aa (var 0) aj))
 (okX bf))
 (iP 2 bB cr (fun d _=>.rt d) (aa (var 1) (aa (var 0) aj))))
def mO:List D->Option (Option (Nat×List (Str×D))):=qp 2 2 fD
theorem vL(T:TX K mg):aX P w K mg base (CX1 P w) 10 T.f__Lread T.fd__Lread (iV.take 2) (pM (clN K) 2 mO):=by
 exact DK (k:=9) T.F__Lread qh fun cdv A outer s H E hr =>
   (bT (mR (mQ (aF 1))
   (cb (o7 (FH (lI T) (pX T)) (hr.mono nofun) rfl T.c_read_play.m T.c_read_play.kp T.c_read_play.b (ac (aF 0) ah)))
   (kj aL))
   (cb (o7 (FH (lJ T) (pY T)) (hr.mono nofun) rfl T.c_read_book.m T.c_read_book.kp T.c_read_book.b (ac (aF 1) (ac (aF 0) ah)))))
section
variable {P:Program}{w:World}{K:OE}{mg:OI}{base:Heap}
def fA:List D->Option (Option (Nat×List (Str×D))):=nQ c9 mO
def g9(a:Addr)(fs:Oz):DE->Option Out:=aw (ifS (orT (dA (tst (xF 3 a (.bl true)))) (dA (tst (xF 3 a (.bl true))))) (ba (cst (.bl false))) bf) (aw (ifS (tst (xF 3 a (.bl false))) (ba (cst (.bl false))) bf)
 (ba (gR (isF "int" (lm 3 a "row" fs)) (gR (Dj (isF "bool" (lm 3 a "row" fs))) (bin eqO (lm 3 a "row" fs) (ae 2))))))
def jU:DE->Option Out:=aw (aT 3 (cst .non)) (zJ 1 4 (qT 2 fA (aa (var 0) (aa (var 1) aj))) (fun a _=>oS 3 4 a) noS g9)
def bt:List D->Option D:=ck 3 5 jU
theorem rO(T:TX K mg):aX P w K mg base CX0 11 T.f__Lrefused T.fd__Lrefused (h_.take 3) (spD 3 bt):=by
 obtain⟨cd,xc⟩:=T.kd1.er.xc
 have ms:=T.kd1.ms
 have oz:aX P w K mg base (CX1 P w) 10 T.f__Lread T.fd__Lread (iV.take 2) (pM (clN K) 2 fA):=Iu (mH T) (vL T)
 exact fnA 10 jU T.F__Lrefused gi fun hr =>
  (ag (aB 3 gi.nd gP)
  (DT (n:=1) (cl:=clN K) (cb (BT oz (hr.mono nofun) rfl T.c__Lread.m T.c__Lread.kp T.c__Lread.b (ac (aF 0) (ac (aF 1) ah)))) rfl rfl T.kd1.sup rfl (ms "CueError" nofun) gi.nd rfl rfl
   (fun a dx oe od vs fs h1 h2 h3 h4 h5=>am (DV (j:=3) gi.nd rfl (Or.inl rfl) (pv 4)))
   za
   fun a dx oe od vs fs h1 h2 h3 h4 h5=>ag (bp (Ew.et (iK (di (bN (uO h1 xc T.kd1.er.cl rfl T.n_isinstance rfl (pv 3) (rJ rfl (ms "NoText" nofun) (v:=.ref (cD K "NoText")) rfl) (fun u hu=>hu) (T.kd1.k 0 rfl rfl)))) (gO (di (bN (uO h1 xc T.kd1.er.cl rfl T.n_isinstance rfl (pv 3) (nL rfl T.n_ValueError rfl (v:=.ty "ValueError") rfl) (fun u hu=>hu) T.kd1.kv)))))) (am (aK uR)) aL)
    (ag (bp (bN (DN (as:=kU) h1 xc T.kd1.er.cl rfl T.n_isinstance rfl (pv 3) (fun y hy=>ms y (.tail _ (.tail _ hy))) T.ku)) (am (aK uR)) aL)
    (am (aK (dU (cL (T := "int") rfl rfl T.n_isinstance rfl rfl T.n_int rfl (Ev.obs (o3 h1 h2 h3 h4 xc T.kd1.er.nf h5 (pv 3)))) (dU (Go (cL (T := "bool") rfl rfl T.n_isinstance rfl rfl T.n_bool rfl (Ev.obs (o3 h1 h2 h3 h4 xc T.kd1.er.nf h5 (pv 3))))) (k8 (uP hr.units (Ev.obs (o3 h1 h2 h3 h4 xc T.kd1.er.nf h5 (pv 3))) (ai 2))))))))))
end
def Cc:DE->Option Out :=
 (aw (aT 1 (aq 1 gm (aa (var 0) aj)))
 (aw (aT 2 (aq 2 c_ (aa (var 0) (aa (cst (.int 1)) aj))))
 (aw (aT 3 (cst .non))
 (aw (aT 4 (bO [8,9] (f8 eW (var 1)) (f9 2 (a_ (nmG 8) (a_ (nmG 9) f_))) noT (aq 2 kf (aa (var 8) (aa (var 9) aj)))))
 (aw (ifS (tst (bin eqO (bin a9 (ae 2) (cst (.int 2))) (cst (.int 1))))
 (dk (aq 2 lZ (aa (var 1) (aa (bin aS (ae 2) (cst (.int 2))) aj))) (f9 2 (a_ (nmG 3) (a_ (nmG 4) f_))))
 bf)
 (aw (dk (aq 3 cm (aa (var 4) (aa (aq 2 c_ (aa (var 0) (aa (cst (.int 2)) aj))) (aa (var 3) aj)))) (f9 2 (a_ (nmG 5) (a_ (nmG 6) f_))))
 (aw (ifS (tst (bin eqO (bin a9 (bin aS (ae 2) (cst (.int 2))) (cst (.int 16))) (cst (.int 3))))
 (pW 5 6 (aa (bin ixE (bu (aa (cst .non) (aa (cst (.int 5)) (aa (cst (.str "be")) (aa sE (aa (bin ixE (ae 4) (cst (.int 0))) aj)))))) (bin a9 (bin aS (ae 2) (cst (.int 32))) (cst (.int 5)))) (aa (cst (.int 0)) aj)))
 bf)
 (aw (ifS (li (tst (bin eqO (bin a9 (bin aS (ae 2) (cst (.int 2))) (cst (.int 16))) (cst (.int 4)))) (tst (un d_ (var 3))))
 (pW 5 6 (aa (bin ixE (bu (aa (bu aj) (aa (fc aj) aj))) (bin a9 (bin aS (ae 2) (cst (.int 32))) (cst (.int 2)))) (aa (cst (.int 0)) aj)))
 bf)
 (aw (aT 7 (un bh (aq 2 c9 (aa (un jG (ae 4)) (aa (var 3) aj)))))
 (aw (ifS (orT (tst (bin neO (ae 7) (un bh (ae 4)))) (dA (tst (aq 3 bt (aa (var 5) (aa (var 3) (aa (var 6) aj)))))))
 (ba (cst (.bl false)))
 bf)
 (ba (bin eqO (un bh (aq 2 c9 (aa (un bU (ae 4)) (aa (var 3) aj)))) (ae 7)))))))))))))
def xr:List D->Option D:=ck 1 10 Cc
theorem FR(T:TX K mg):aX P w K mg base CX0 12 T.f_law T.fd_law (vd.take 1) (spD 1 xr) :=
 fnA 11 Cc T.F_law eO fun hr =>
   (ag (aB 1 eO.nd (ao (pZ T) T.c__Lspeeches hr (ac (aF 0) ah)))
   (ag (aB 2 eO.nd (ao (iD T) T.c__Lcell hr (ac (aF 0) (ac af ah))))
   (ag (aB 3 eO.nd gP)
   (ag (BV (i:=4) eO.nd rfl (Or.inl rfl) (js:=[8,9]) (Blk.of (sc:=ak Aa) (N:=vd) (by decide +kernel) rfl rfl) rfl (B4 (aF 1)) (lj.js (ud (j_ (nM nofun) (j_ (nM nofun) ue)))) (fun _ _ _ _=>(e8 rfl (aQ (az 8 eO.nd) (aQ (az 9 eO.nd) dm)))) (fun _ _ _ _=>bE) (fun _ _ _ _=>(ao (uh T) T.c__Lrow hr (ac (aF 8) (ac (aF 9) ah)))) rfl)
   (ag (bp (cM hr.units (Ev.obs (aN (ai 2) (Ev.obs af))) (Ev.obs af))
   (am (fC (ao (yD T) T.c__Lbook hr (ac (aF 1) (ac (aU (ai 2) (Ev.obs af)) ah))) (e8 rfl (aQ (az 3 eO.nd) (aQ (az 4 eO.nd) dm)))))
   aL)
   (ag (fC (ao (vP T) T.c__Lfault hr (ac (aF 4) (ac (ao (iD T) T.c__Lcell hr (ac (aF 0) (ac af ah))) (ac (aF 3) ah)))) (e8 rfl (aQ (az 5 eO.nd) (aQ (az 6 eO.nd) dm))))
   (ag (bp (cM hr.units (Ev.obs (aN (Ev.obs (aU (ai 2) (Ev.obs af))) (Ev.obs af))) (Ev.obs af))
   (am (BU (i:=5) (j:=6) eO.nd rfl rfl nofun rfl rfl rfl (ac (aC hr.units (Ev.obs (aV (ac gP (ac af (ac av (ac (Ev.frz xA) (ac (aC hr.units (ai 4) (Ev.obs af) (fun _ _=>rfl)) ah))))))) (Ev.obs (aN (Ev.obs (aU (ai 2) (Ev.obs af))) (Ev.obs af))) (fun _ _=>rfl)) (ac af ah))))
   aL)
   (ag (bp (Ew.et (k7 (cM hr.units (Ev.obs (aN (Ev.obs (aU (ai 2) (Ev.obs af))) (Ev.obs af))) (Ev.obs af)) (kh (y_ (aF 3)))))
   (am (BU (i:=5) (j:=6) eO.nd rfl rfl nofun rfl rfl rfl (ac (aC hr.units (Ev.obs (aV (ac (Ev.frz (aV ah)) (ac (dF ah) ah)))) (Ev.obs (aN (Ev.obs (aU (ai 2) (Ev.obs af))) (Ev.obs af))) (fun _ _=>rfl)) (ac af ah))))
   aL)
   (ag (aB 7 eO.nd (aR rfl T.n_len (Ev.obs (ao (mH T) T.c__Lread hr (ac (Ev.frz (ki rfl T.n_list rfl (ai 4))) (ac (aF 3) ah))))))
   (ag (bp (Ew.et (iK (uS hr.units (ai 7) (Ev.obs (aR rfl T.n_len (ai 4)))) (gO (di (bN (ao (rO T) T.c__Lrefused hr (ac (aF 5) (ac (aF 3) (ac (aF 6) ah)))))))))
   (am (aK uR))
   aL)
   (am (aK (uP hr.units (Ev.obs (aR rfl T.n_len (Ev.obs (ao (mH T) T.c__Lread hr (ac (cK rfl T.n_tuple rfl (ai 4)) (ac (aF 3) ah)))))) (ai 7))))))))))))))
end
end L2.Cu.Wk
namespace L2.Cu
open PySem PySem.Spec PyProof.Rows
local macro_rules
| `(tactic|simp![$a,*]$[$l]?)=>`(tactic|simp only[bP,lq,lB,ba,bin,cst,ae,bW,nK,Jd,Jf,Ji,Jj,Jk,Jl,Jg,Jh,Jc,List.replicate,Nat.reduceAdd,Nat.reduceSub,Int.reduceLT,Int.reduceLE,Int.reducePow,Int.reduceToNat,Int.reduceAbs,Nat.reducePow,Nat.reduceLT,j8,nW,un,tst,asB,Dr,Je,Bd,nV,CI,aq,aa,aj,reduceIte,DB,gh,bf,D.int.injEq,aT,rh,var,Ae,iJ,KL,KM,mm,cG,nmG,DY,ci,bO,List.foldl_cons,List.foldl_nil,noP,cE,bG,gj,fc,bu,f8,cJ,Nat.reduceLeDiff,jo,ir,xn,uw,vm,orT,decide_true,Bool.true_or,J9,decide_false,Bool.false_or,true_and,LB,Bv,yV,gR,isF,tyN,jH,String.reduceBEq,LC,Bool.or_false,Bool.and_false,DX,Dj,Bool.not_false,Bool.and_true,Option.some.injEq,DA,dA,wy,L_,D.bl.injEq,Dn,Bb,eW,CF,f9,a_,f_,IX,m9,I8,zR,Int.reduceNeg,li,lv,yU,dk,Int.reduceAdd,and_self,Bool.and_self,Gw,mh,noT,Dx,Ld,Dy,DJ,Dq,yM,Bf,D5,Ad,reduceCtorEq,ifV,ju,wS,Dl,yN,sE,wv,nv,vk,Option.map_none,Bool.or_self,d_,$a,*]$[$l]?)
| `(tactic|dsimp![$a,*]$[$l]?)=>`(tactic|simp only[f9,a_,nmG,f_,aw,dC,okX,ifS,ifX,cI,aT,bf,noS,ir,orT,dA,tst,asB,un,bin,ae,cst,aq,aa,aj,var,Jm,JT,Ji,Jj,Jg,Jh,KL,KM,Jc,Je,Jd,Jf,Option.bind_none,reduceIte,Nat.reduceAdd,J9,L_,Bool.not_false,$a,*]$[$l]?)
theorem uj{α:Type}(f:Nat->α)(m:Nat)(h:∀i j,i < m->j < m->f i=f j->i=j):((List.range m).map f).Nodup:=by
 induction m with
 |zero=>exact List.nodup_nil
 |succ m ih =>
  rw[List.range_succ,JT,List.nodup_append]
  refine⟨ih fun i j hi hj e=>h i j ⋯ ⋯ e,K6 _ _,fun a ha b hb=>?_⟩
  obtain⟨i,hi,rfl⟩:=List.mem_map.mp ha
  obtain⟨j,hj,rfl⟩:=List.mem_map.mp hb
  rw[List.mem_range]at hi
  rw[List.mem_singleton]at hj
  subst hj
  intro e
  have:=h i j ⋯ ⋯ e
  omega
def zx(l:OJ):Prop:=∀c ∈ l,97<=c/\c<=122
structure Wd (M:Nat) (x:Str):Prop where
 pos:1<=x.length
 le:x.length<=M
 low:zx x.cps.toList
variable{l:OJ}{M:Nat}
theorem Wd.mk'(h1:1<=l.length)(h2:l.length<=M)(h3:zx l):Wd M (L2.Cu.mk l):=⟨by rw[aY];exact h1,by rw[aY];exact h2,by rw[cX];exact h3⟩
theorem pE:Str.ofString "abcdefghijklmnopqrstuvwxyz" = mk (List.range' 97 26):=by decide
theorem db:Str.ofString "" = mk []:=by decide
theorem zm{i:Int}(h:0<=i)(h2:i < 26):(List.range' 97 26).getD i.toNat 0=97 + i.toNat:=by
 have hlt:i.toNat < 26:=by omega
 rw[Kj,List.getElem?_range' hlt]
 simp
theorem iF{i:Int}(h:0<=i)(h2:i < 26):ixE (.str (mk (List.range' 97 26))) (.int i)=some (.str (mk [97 + i.toNat])):=by
 rw[v0 nofun h (by simpa using h2),zm h h2]
abbrev Sp:=List Str×List Str
def cF(ss:OD):D:=.tup (ss.map D.str)
def bb(s:Sp):D:=.tup [cF s.1,cF s.2]
abbrev O2:=List Sp
def k_(p:O2):D:=.tup (p.map bb)
def ltS(a b:Str):Prop:=a.cps.toList < b.cps.toList
structure wE (names Mm:OD) (s:Sp):Prop where
 ne:s.1 ≠ []
 le:s.1.length<=names.length
 lt:s.1.length < names.length\/names.length<=1
 sub:∀n ∈ s.1,n ∈ names
 ris:s.1.Pairwise ltS
 wne:s.2 ≠ []
 wle:s.2.length<=5
 wsub:∀w ∈ s.2,w ∈ Mm
def sU(a b:Sp):Prop:=∀n ∈ a.1,n ∉ b.1
def cB:List Sp->Prop
 |a :: b :: r=>sU a b/\cB (b :: r)
 |_=>True
theorem cB.snoc:∀{p:O2}{s:Sp},cB p->(∀a,p.getLast? = some a->sU a s)->cB (p ++ [s])
 | [],_,_,_=>trivial
 | [a],s,_,h=>⟨h a rfl,trivial⟩
 |a :: b :: r,s,h,hl=>⟨h.1,cB.snoc (p:=b :: r) h.2 fun x hx=>hl x (by rw[List.getLast?_cons_cons];exact hx)⟩
structure wF (names Mm:OD) (p:O2):Prop where
 each:∀s ∈ p,wE names Mm s
 apart:cB p
def bv(p:O2):List Str:=(p.getLast?.map (·.1)).getD []
theorem jb(p:O2)(s:Sp):bv (p ++ [s])=s.1:=by simp[bv]
variable{ss:OD}
theorem tx(h:ss.Nodup):(bQ ss).Pairwise ltS:=by
 have h1:=n8 ss
 have h2:(bQ ss).Nodup:=(dB ss).nodup_iff.mpr h
 refine List.Pairwise.imp₂ (fun a b hab hne=>?_) h1 h2
 unfold leS at hab
 simp only[Lv,Lx]at hab
 rcases List.le_iff_lt_or_eq.mp (List.not_lt.mp hab) with z |z
 ·exact z
 ·exact absurd (rl z) hne
variable{x:Str}
theorem Wd.lowS(h:Wd M x):sS x:=fun c hc=>(h.low c hc).2
theorem qx{α:Type}[DecidableEq α]:∀{l m:List α},l.Nodup->(∀x ∈ l,x ∈ m)->l.length<=m.length
 | [],_,_,_=>Ks _
 |x :: l,m,h,hs=>by
  obtain⟨hx,hn⟩:=List.nodup_cons.mp h
  have hm:=hs x Jq
  have:=qx (l:=l) (m:=m.erase x) hn fun y hy=>(List.mem_erase_of_ne (fun z=>hx (by rw[<-z];exact hy))).mpr (hs y (Jt _ hy))
  rw[List.length_erase_of_mem hm]at this
  have:=List.length_pos_of_mem hm
  rw[Jg]
  omega
theorem oH{α β:Type}(f:α->β)(l:List α)(x:α):l.map f ++ [f x]=(l ++ [x]).map f:=by simp
variable{n:Nat}
theorem om{x:Nat}{pre post:OJ}(h:List.range n=pre ++ x :: post):x=pre.length/\x < n:=by
 have h1:(List.range n)[pre.length]? = some x:=by rw[h];simp
 obtain⟨h2,h3⟩:=List.getElem?_eq_some_iff.mp h1
 rw[L7]at h3
 rw[JV]at h2
 exact⟨h3.symm,⋯⟩
theorem pk{i:Int}(h:i.natAbs < 1267650600228229401496703205376):Builtin.Int.intBits i<=2 ^ 20:=by
 unfold Builtin.Int.intBits
 split
 ·exact Ks _
 ·rename_i h0
  have h1:i.natAbs ≠ 0:=by
   intro z
   apply h0
   rw[Int.natAbs_eq_zero.mp z];rfl
  have h2:i.natAbs.log2 < 100:=(Nat.log2_lt h1).mpr h
  show _<=1048576
  omega
theorem gK{i j:Int}(h:i.natAbs < 1267650600228229401496703205376)(h2:j.natAbs < 1267650600228229401496703205376):mL (.int i) (.int j)=some (.int (i * j)):=oG (pk h) (pk h2)
theorem jO{α β:Type}(enc:α->D)(en:β->D)(Pw:β->Prop){i:Nat}{ef:OF}{E:DE}:∀(ys:List α),(∀x ∈ ys,∃w,Pw w/\ef (E.set i (.val (enc x)))=some (en w))->∃ws:List β,bJ (nmG i) noT ef E (ys.map enc)=some (ws.map en)/\ws.length=ys.length/\∀w ∈ ws,Pw w
 | [],_=>⟨[],rfl,rfl,fun _ h=>by cases h⟩
 |x :: ys,h=>by
  obtain⟨w,hw,e⟩:=h x Jq
  obtain⟨ws,h1,h2,h3⟩:=jO enc en Pw (i:=i) (ef:=ef) (E:=E) ys fun y hy=>h y (Jt _ hy)
  refine⟨w :: ws,?_,by simp[h2],fun z hz=>?_⟩
  ·show((some true:PP).bind fun b=>if b=true then(ef (E.set i (.val (enc x)))).bind (fun y=>(bJ (nmG i) noT ef E (ys.map enc)).map fun zs=>y :: zs) else bJ (nmG i) noT ef E (ys.map enc))=_
   rw[Jd,if_pos rfl,e,h1];rfl
  ·rcases List.mem_cons.mp hz with q |q
   ·rw[q];exact hw
   ·exact h3 z q
def dS(s:OJ):List (List Nat)->List Nat
 | []=>[]
 | [x]=>x
 |x :: y :: r=>x ++ s ++ dS s (y :: r)
theorem nN(s:OJ):∀ls:List (List Nat),Txt.join (mk s) (ls.map mk)=mk (dS s ls):=by
 intro ls
 show Builtin.Str.glued (mk s) (ls.map mk)=_
 rw[L1]
 induction ls with
 |nil=>rfl
 |cons x r ih =>
  cases r with
  |nil=>rfl
  |cons y r =>
   show mk x ++ mk s ++ Str.join (mk s) ((y :: r).map mk)=_
   rw[ih,vS,vS]
   rfl
theorem mM:∀ls:List (List Nat),dS [] ls=ls.flatten
 | []=>rfl
 | [x]=>by simp[dS]
 |x :: y :: r=>by
  rw[dS,mM (y :: r)];simp
theorem l0:∀cs:List Nat,(cs.map fun c=>[c]).flatten=cs
 | []=>rfl
 |c :: cs=>by rw[Ji,Lu,l0 cs];rfl
theorem tf:∀cs:List Nat,((cs.map fun c=>mk [c]).map (·.length)).sum=cs.length
 | []=>rfl
 |c :: cs=>by
  rw[Ji,Ji,List.sum_cons,tf cs,aY];simp;omega
theorem lR(cs:OJ)(h:cs.length<=1000):g_ (.str (mk [])) (.lst ((cs.map fun c=>mk [c]).map D.str))=some (.str (mk cs)):=by
 rw[kX (by rw[tf,aY];simp;omega)]
 have:(cs.map fun c=>mk [c])=(cs.map fun c=>[c]).map mk:=by rw[Kk];rfl
 rw[this,nN,mM,l0]
namespace S7
open L2.Cu.Wk
theorem cell_ok(ns:Ow)(k:Nat)(kI:Int)(hk:kI=k):wp (c_ [.scr ns,.int kI]) fun d=>∃e:Int,d=.int e/\0<=e:=by
 subst hk
 simp! [c_,pB]
 refine cp (fun h=>?_) fun h=>?_
 ·have hk:k < ns.length:=by omega
  have h18:(0:Int) < 10 ^ 18:=by decide
  have p18:lG (.int 10) (.int 18)=some (.int (10 ^ 18)):=nK ⋯ ⋯ nofun
  simp! [fU,Jr hk,p18]
  exact⟨_,rfl,Kb _ nofun⟩
 ·simp! []
  exact⟨0,rfl,LA 0⟩
theorem nI(c t m:Int)(ht:0<=t)(ht2:t<=1000)(hm:0 < m):wp (br [.int c,.int t,.int m]) fun d=>∃r:Int,d=.int r/\0<=r/\r < m:=by
 have q1:t * t<=1000000:=by
  have:=Int.mul_le_mul ht2 ht2 ht (by omega:(0:Int)<=1000)
  omega
 have q0:0<=t * t:=Int.mul_nonneg ht ht
 have e1:=gK (i:=t) (j:=t) ⋯ ⋯
 have e2:=gK (i:=5) (j:=t) ⋯ ⋯
 generalize t * t=T2 at q0 q1 e1
 have e3:=gK (i:=c % 1000000007 + 3) (j:=T2 + 5 * t + 11) ⋯ ⋯
 generalize (c % 1000000007 + 3) * (T2 + 5 * t + 11)=A at e3
 have e4:=gK (i:=A % 998244353) (j:=A % 998244353) ⋯ ⋯
 simp! [br,pw,e1,e2,e3,e4,bW hm]
 exact⟨_,rfl,Kb _ ⋯,J8 _ hm⟩
theorem oO(n off:Nat)(c:Int)(NS:off + n<=500){E:DE}{sl:Nat}{f:OF}
  (hf:∀k:Nat,k < n->∀r:Int,0<=r->r < 26->br [.int c,.int ((off:Int) + (0 + (k:Int))),.int 26]=some (.int r)->f (E.set sl (.val (.int (0 + (k:Int)))))=some (.str (mk [97 + r.toNat]))) :
  ∃cs:List Nat,bJ (nmG sl) noT f E (eS 0 n)=some ((cs.map fun c=>mk [c]).map D.str)/\cs.length=n/\zx cs:=by
 obtain⟨ws,h1,h2,h3⟩:=jO (fun i:Nat=>D.int (0 + (i:Int))) D.str (fun w=>∃z,w=mk [z]/\97<=z/\z<=122) (i:=sl) (ef:=f) (E:=E) (List.range n) fun k hk=>by
  have hk':=List.mem_range.mp hk
  obtain⟨d,hd,r,rfl,r0,r1⟩:=b_.mp (nI c ((off:Int) + (0 + (k:Int))) 26 ⋯ ⋯ ⋯)
  exact⟨mk [97 + r.toNat],⟨_,rfl,⋯,⋯⟩,hf k hk' r r0 r1 hd⟩
 have ex:∀ws:List Str,(∀w ∈ ws,∃z,w=mk [z]/\97<=z/\z<=122)->∃cs:List Nat,ws=cs.map (fun c=>mk [c])/\zx cs:=by
  intro ws
  induction ws with
  |nil=>intro _;exact⟨[],rfl,fun c h=>by cases h⟩
  |cons w ws ih =>
   intro hh
   obtain⟨cs,e,l⟩:=ih fun w hw=>hh w (.tail _ hw)
   obtain⟨z,rfl,z1,z2⟩:=hh w (.head _)
   exact⟨z :: cs,by rw[e];rfl,fun c hc=>by
    rcases List.mem_cons.mp hc with rfl |hc
    ·exact⟨z1,z2⟩
    ·exact l c hc⟩
 obtain⟨cs,e,l⟩:=ex ws h3
 subst e
 refine⟨cs,?_,by rw[<-Jm (as:=cs) (f:=fun c=>mk [c]),h2,JV],l⟩
 rw[<-h1];rfl
theorem sZ(n mI MI:Int)(m M:Nat)(hmI:mI=m)(hMI:MI=M)(hm:m<=100)(hM:M<=12)(hM1:1<=M):wp (iG [.int n,.int mI,.int MI]) fun d=>∃ss:List Str,d=.lst (ss.map D.str)/\ss.length<=m/\(1<=m->1<=ss.length)/\ss.Nodup/\∀x ∈ ss,Wd M x:=by
 have hM0:(0:Int) < MI:=by omega
 have hMb:MI<=10 ^ 200:=by omega
 have hr:gc [D.int mI]=some ((List.range m).map fun i:Nat=>D.int (0 + (i:Int))):=by
  rw[cH ⋯ ⋯,show mI.toNat=m by omega];rfl
 simp! [iG,mW,pE,db,hr]
 refine gU (fun i:Nat=>D.int (0 + (i:Int))) (List.range m) (fun pre E=>∃(n':Int) (ss:OD) (s5 s6 s7 s8:Sl),E=[Sl.val (D.int n'),Sl.val (D.int mI),Sl.val (D.int MI),Sl.val (D.str (mk (List.range' 97 26))),Sl.own (D.lst (ss.map D.str)),s5,s6,s7,s8]/\ss.length<=pre.length/\(1<=pre.length->1<=ss.length)/\ss.Nodup/\∀x ∈ ss,Wd M x) rfl ⟨n,[],_,_,_,_,rfl,Jw _,fun z=>by simp at z,List.nodup_nil,fun x hx=>by simp at hx⟩ ?_ ?_
 ·rintro pre k post E hs ⟨n',ss,s5,s6,s7,s8,rfl,hl1,hl2,hnd,hwd⟩
  obtain⟨hk1,hk2⟩:=om hs
  have hz0:0<=n' % MI:=Kb _ ⋯
  have hz1:n' % MI < MI:=J8 _ hM0
  generalize hsI:n' % MI=sI at hz0 hz1
  obtain⟨sz,hsz⟩:∃sz:Nat,sI=sz:=⟨sI.toNat,⋯⟩
  have hr2:gc [D.int (1 + sI)]=some ((List.range (1 + sz)).map fun i:Nat=>D.int (0 + (i:Int))):=by
   rw[cH ⋯ ⋯,show(1 + sI).toNat=1 + sz by omega];rfl
  simp! [bW hM0,hsI,iJ hM0 hMb,hr2]
  refine gU (fun i:Nat=>D.int (0 + (i:Int))) (List.range (1 + sz)) (fun pr E=>∃(n'':Int) (l:OJ) (s8:Sl),E=[Sl.val (D.int n''),Sl.val (D.int mI),Sl.val (D.int MI),Sl.val (D.str (mk (List.range' 97 26))),Sl.own (D.lst (ss.map D.str)),Sl.val (D.int (0 + (k:Int))),Sl.val (D.int (1 + sI)),Sl.val (D.str (mk l)),s8]/\l.length=pr.length/\zx l) rfl ⟨_,[],_,rfl,rfl,fun c h=>by cases h⟩ ?_ ?_
  ·rintro pr j po E hj ⟨n'',l,s8,rfl,hl,MA⟩
   obtain⟨hj1,hj2⟩:=om hj
   have h0:0<=n'' % 26:=by omega
   have h1:n'' % 26 < 26:=by omega
   simp! [iF h0 h1]
   rw[aG (by simp;omega)]
   simp! []
   refine⟨_,_,_,rfl,by simp[hl],fun x hx=>?_⟩
   rcases List.mem_append.mp hx with h |h
   ·exact MA x h
   ·rw[List.mem_singleton.mp h];omega
  ·rintro E ⟨n'',l,s8,rfl,hl,MA⟩
   rw[JV]at hl
   simp! [um]
   refine Bw (fun h=>?_) fun h=>?_
   ·simp! [Jm]
    refine jv (G7 ⋯) ?_
    simp! []
    refine⟨_,ss ++ [mk l],_,_,_,_,by rw[oH],by simp;omega,fun _=>by simp,?_,fun x hx=>?_⟩
    ·rw[List.nodup_append]
     exact⟨hnd,K6 _ _,fun a ha b hb=>by
      rw[List.mem_singleton.mp hb]
      intro e
      exact h (e ▸ ha)⟩
    ·rcases List.mem_append.mp hx with hx |hx
     ·exact hwd x hx
     ·rw[List.mem_singleton.mp hx]
      exact Wd.mk' ⋯ ⋯ MA
   ·simp! []
    refine⟨_,ss,_,_,_,_,rfl,by simp;omega,fun _=>?_,hnd,hwd⟩
    exact List.length_pos_iff.mpr fun z=>by rw[z]at h;simp at h
 ·rintro E ⟨n',ss,s5,s6,s7,s8,rfl,hl1,hl2,hnd,hwd⟩
  rw[JV]at hl1 hl2
  simp! [fzE]
  exact⟨ss,rfl,hl1,hl2,hnd,hwd⟩
theorem xi(ns:Ow)(k:Nat)(kI:Int)(hk:kI=k):wp (iH [.scr ns,.int kI]) fun d=>∃e:Int,d=.int e/\0<=e:=by
 subst hk
 simp! [iH,pA]
 refine cp (fun h=>?_) fun h=>?_
 ·have hk:k < ns.length:=by omega
  have p60:lG (.int 10) (.int 60)=some (.int (10 ^ 60)):=nK ⋯ ⋯ nofun
  have hb1:Builtin.Int.intBits (10 ^ 60)<=2 ^ 20:=by decide
  have hb2:Builtin.Int.intBits (10 ^ 60 * 10 ^ 60)<=2 ^ 20:=by decide
  have m1:mL (.int (10 ^ 60)) (.int (10 ^ 60))=some (.int (10 ^ 60 * 10 ^ 60)):=oG hb1 hb1
  have m2:mL (.int (10 ^ 60 * 10 ^ 60)) (.int (10 ^ 60))=some (.int (10 ^ 60 * 10 ^ 60 * 10 ^ 60)):=oG hb2 hb1
  have My:(0:Int) < 10 ^ 60 * 10 ^ 60 * 10 ^ 60:=by decide
  generalize (10 ^ 60 * 10 ^ 60 * 10 ^ 60:Int)=W at m2 My
  generalize (10 ^ 60 * 10 ^ 60:Int)=V at m1 m2
  generalize (10 ^ 60:Int)=U at p60 m1 m2
  simp! [bin,cst,ae,ba,fU,Jr hk,p60,m1,m2,bW My]
  exact⟨_,rfl,Kb _ ⋯⟩
 ·simp! []
  exact⟨0,rfl,LA 0⟩
end S7
theorem Bq(h:Wd M x)(hM:M<=1000):∃c:Nat,ixE (.str x) (.int (-1))=some (.str (mk [c]))/\97<=c/\c<=122:=by
 have hl:=h.pos
 have hl2:=h.le
 have hz:x.length<=16777216:=by omega
 rw[cg]at hl hl2
 have hlt:x.cps.toList.length - 1 < x.cps.toList.length:=by omega
 refine⟨x.cps.toList[x.cps.toList.length - 1],?_,h.low _ (Kf hlt)⟩
 show(if x.length<=16777216 then(atI x.cps.toList (-1)).map fun c=>D.str ⟨#[c]⟩ else none)=_
 rw[if_pos hz]
 have:atI x.cps.toList (-1)=some (x.cps.toList[x.cps.toList.length - 1]):=by
  unfold atI ixN
  rw[if_neg ⋯,if_pos ⋯,show((-1:Int) + (x.cps.toList.length:Int)).toNat=x.cps.toList.length - 1 by omega,Jd,Jr hlt]
 rw[this];rfl
theorem AM(c:Nat):AN (.str (mk [c]))=some (.int c):=by
 show(if(mk [c]).length=1 then some (D.int ((mk [c]).cps.getD 0 0:Nat)) else none)=_
 rw[if_pos (show(mk [c]).length=1 from aY [c])];rfl
namespace S7
open L2.Cu.Wk
theorem zD(c:Int):wp (eX [.int c]) fun d=>∃ss:List Str,d=.lst (ss.map D.str)/\1<=ss.length/\ss.length<=8/\∀x ∈ ss,Wd 12 x:=by
 have hr:gc [D.int 12]=some (eS 0 12):=cH ⋯ ⋯
 have hrl:(eS 0 12).length<=16777216:=by simp[eS]
 have b0:0<=c % 4:=by omega
 have b1:c % 4 < 4:=by omega
 generalize hb:c % 4=bI at b0 b1
 obtain⟨b,hbb⟩:∃b:Nat,bI=b:=⟨bI.toNat,⋯⟩
 have hr2:gc [D.int (1 + bI)]=some (eS 0 (1 + b)):=by
  rw[cH ⋯ ⋯,show(1 + bI).toNat=1 + b by omega]
 have Nj:(eS 0 (1 + b)).length<=16777216:=by simp[eS];omega
 obtain⟨cs,hcs,hcl,MA⟩:=oO 12 17 c ⋯ (E:=[Sl.val (D.int c),Sl.val (D.str (mk (List.range' 97 26))),Sl.no,Sl.no,Sl.no,Sl.no]) (sl:=4) (f:=bin ixE (ae 1) (aq 3 br (aa (var 0) (aa (bin ay (cst (.int 17)) (ae 4)) (aa (cst (.int 26)) aj))))) fun k hk r r0 r1 hd=>by
  have hd':br [.int c,.int (17 + (0 + (k:Int))),.int 26]=some (.int r):=hd
  refine aM ?_
  simp! [hd',iF r0 r1]
 have hz:cs.length<=16777216:=by omega
 obtain⟨ws,hws,hwl,hwd⟩:=jO (fun i:Nat=>D.int (0 + (i:Int))) D.str (fun w=>Wd 12 w) (i:=4) (ef:=bG (ae 2) noP (cE (bin ay (cst (.int 1)) (aq 3 br (aa (var 0) (aa (bin ay (cst (.int 31)) (ae 4)) (aa (cst (.int 12)) aj)))))))
  (E:=[Sl.val (D.int c),Sl.val (D.str (mk (List.range' 97 26))),Sl.val (D.str (mk cs)),Sl.no,Sl.no,Sl.no]) (List.range (1 + b)) fun k hk=>by
  have hk':=List.mem_range.mp hk
  obtain⟨d,hd,r,rfl,r0,r1⟩:=b_.mp (nI c (31 + (0 + (k:Int))) 12 ⋯ ⋯ ⋯)
  obtain⟨q,hq⟩:∃q:Nat,r=q:=⟨r.toNat,⋯⟩
  refine⟨mk (cs.take (1 + q)),Wd.mk' (by simp;omega) (by simp;omega) fun c hc=>MA c (JX hc),?_⟩
  refine aM ?_
  simp! [hd,i4 hz]
  rw[show(1:Int) + r=((1 + q:Nat):Int) by omega,la]
 have NM:bJ (nmG 4) noT (bG (ae 2) noP (cE (bin ay (cst (.int 1)) (aq 3 br (aa (var 0) (aa (bin ay (cst (.int 31)) (ae 4)) (aa (cst (.int 12)) aj))))))) [Sl.val (D.int c),Sl.val (D.str (mk (List.range' 97 26))),Sl.val (D.str (mk cs)),Sl.no,Sl.no,Sl.no] (eS 0 (1 + b))=some (ws.map D.str):=hws
 rw[JV]at hwl
 simp! [eX,gQ,pE,db,hr,jo hrl,hcs,lR cs ⋯,hb,hr2,jo Nj,NM]
 refine cp (fun h=>?_) fun h=>?_
 ·simp! [Jm]
  refine jv (gV ⋯) ?_
  obtain⟨us,hus,hul,hud⟩:=jO D.str D.str (fun w=>Wd 12 w) (i:=5) (ef:=bin ay (bin ixE (ae 1) (bin a9 (bin ay (un AN (bin ixE (ae 5) (cst (.int (-1))))) (un bh (ae 3))) (cst (.int 26)))) (bG (ae 5) (cE (cst (.int 1))) noP))
   (E:=[Sl.val (D.int c),Sl.val (D.str (mk (List.range' 97 26))),Sl.val (D.str (mk cs)),Sl.val (D.lst (ws.map D.str)),Sl.no,Sl.no]) ws fun w hw=>by
   have hww:=hwd w hw
   obtain⟨z,hz1,z1,z2⟩:=Bq hww ⋯
   have h0:0<=((z:Int) + (ws.length:Int)) % 26:=by omega
   have h1:((z:Int) + (ws.length:Int)) % 26 < 26:=by omega
   have hp:=hww.pos
   have hle:=hww.le
   have hlw:=hww.low
   rw[<-iE w]at hp hle
   rw[aY]at hp hle
   refine⟨mk ([97 + (((z:Int) + (ws.length:Int)) % 26).toNat] ++ w.cps.toList.drop 1),Wd.mk' (by simp) (by simp;omega) fun c hc=>?_,?_⟩
   ·rcases List.mem_append.mp hc with hc |hc
    ·rw[List.mem_singleton.mp hc];omega
    ·exact hlw c (Kc hc)
   ·refine aM ?_
    simp! [hz1,AM,Jm,iF h0 h1]
    have hsl:slD (.str w) (some 1) none=some (.str (mk (w.cps.toList.drop 1))):=by
     have:=i4 (l:=w.cps.toList) (lo:=some ((1:Nat):Int)) (hi:=none) ⋯
     rw[iE,e9]at this
     exact this
    rw[hsl]
    simp! []
    rw[aG (by rw[JE,JJ];omega)]
    rfl
  rw[hus]
  have MR:ay (.lst (us.map D.str)) (.lst (ws.map D.str))=some (.lst ((us ++ ws).map D.str)):=by
   show(if(us.map D.str).length + (ws.map D.str).length<=sizeLine then some (D.lst (us.map D.str ++ ws.map D.str)) else none)=_
   rw[if_pos (gV (by simp;omega)),JT]
  simp! [MR]
  refine⟨us ++ ws,rfl,by simp;omega,by simp;omega,fun x hx=>?_⟩
  rcases List.mem_append.mp hx with hx |hx
  ·exact hud x hx
  ·exact hwd x hx
 ·simp! []
  exact⟨ws,rfl,⋯,⋯,hwd⟩
end S7
abbrev En:=List Str×List Str×List Str
def jf(e:En):D:=.tup [cF e.1,cF e.2.1,cF e.2.2]
namespace S8
open L2.Cu.Wk
open S7
theorem line_ok(n off:Nat)(c:Int)(NS:off + n<=500)(Mm:OD)(hw:1<=Mm.length){E:DE}{sl:Nat}{f:OF}
  (hf:∀k:Nat,k < n->∀r:Int,0<=r->r < (Mm.length:Int)->br [.int c,.int ((off:Int) + (0 + (k:Int))),.int (Mm.length:Int)]=some (.int r)->f (E.set sl (.val (.int (0 + (k:Int)))))=atI (Mm.map D.str) r) :
  ∃ws:List Str,bJ (nmG sl) noT f E (eS 0 n)=some (ws.map D.str)/\ws.length=n/\∀x ∈ ws,x ∈ Mm:=by
 obtain⟨ws,h1,h2,h3⟩:=jO (fun i:Nat=>D.int (0 + (i:Int))) D.str (fun w=>w ∈ Mm) (i:=sl) (ef:=f) (E:=E) (List.range n) fun k hk=>by
  have hk':=List.mem_range.mp hk
  obtain⟨d,hd,r,rfl,r0,r1⟩:=b_.mp (nI c ((off:Int) + (0 + (k:Int))) (Mm.length:Int) ⋯ ⋯ ⋯)
  have hlt:r.toNat < Mm.length:=by omega
  refine⟨Mm[r.toNat],Kf hlt,?_⟩
  rw[hf k hk' r r0 r1 hd,fJ r0 (by rw[Jm];exact r1),JH,Jr hlt]
  rfl
 rw[JV]at h2
 exact⟨ws,h1,h2,h3⟩
end S8
theorem lb{α:Type}(enc en:α->D){i:Nat}{cf:OL}{ef:OF}{E:DE}:∀(ys:List α),(∀x ∈ ys,∃b,cf (E.set i (.val (enc x)))=some b/\ef (E.set i (.val (enc x)))=some (en x)) ->
  ∃zs:List α,bJ (nmG i) cf ef E (ys.map enc)=some (zs.map en)/\zs.Sublist ys
 | [],_=>⟨[],rfl,.slnil⟩
 |x :: ys,h=>by
  obtain⟨zs,h1,h2⟩:=lb enc en (i:=i) (cf:=cf) (ef:=ef) (E:=E) ys fun y hy=>h y (Jt _ hy)
  obtain⟨b,e1,e3⟩:=h x Jq
  have e4:bJ (nmG i) cf ef E ((x :: ys).map enc)=(if b=true then(ef (E.set i (.val (enc x)))).bind (fun y=>(bJ (nmG i) cf ef E (ys.map enc)).map fun zs=>y :: zs) else bJ (nmG i) cf ef E (ys.map enc)):=by
   show(cf (E.set i (.val (enc x)))).bind _=_
   rw[e1];rfl
  cases b with
  |true=>exact⟨x :: zs,by rw[e4,if_pos rfl,e3,h1];rfl,h2.cons₂ x⟩
  |false=>exact⟨zs,by rw[e4,if_neg (by simp),h1],h2.cons x⟩
def wn(so line:OD):D:=.tup [.lst (so.map D.str),.lst (line.map D.str)]
structure Row (free Mm:OD) (so line:OD):Prop where
 ne:so ≠ []
 sub:so.Sublist free
 lne:line ≠ []
 lle:line.length<=4
 lsub:∀w ∈ line,w ∈ Mm
theorem n_{α:Type}{l:List α}(h:i < l.length):[l[i]].Sublist l:=List.singleton_sublist.mpr (Kf h)
namespace S7
open L2.Cu.Wk
theorem sN(n mostI:Int)(most:Nat)(Oj:mostI=most)(h1m:1<=most)(free Mm:OD)(hf:1<=free.length)(hf8:free.length<=8)(MA:∀x ∈ free,sS x)(hw:1<=Mm.length)(hw8:Mm.length<=100) :
  wp (dY [.int n,.lst (free.map D.str),.lst (Mm.map D.str),.int mostI]) fun d=>∃so line,d=wn so line/\Row free Mm so line/\so.length<=most:=by
 have hfI:(0:Int) < (free.length:Int):=by omega
 have hfb:(free.length:Int)<=10 ^ 200:=by omega
 have hwI:(0:Int) < (Mm.length:Int):=by omega
 have hwb:(Mm.length:Int)<=10 ^ 200:=by omega
 have fin:∀(n':Int) (so:OD) (s5:Sl),so ≠ []->so.Sublist free->so.length<=most->wp (((aw (aT 6 (bin ay (cst (.int 1)) (bin a9 (ae 0) (cst (.int 4)))))
   (aw (aT 0 (bin aS (ae 0) (cst (.int 4))))
   (aw (gj 7 (bu aj))
   (aw (ij (jt (aa (var 6) aj)) (nmG 8)
   (aw (ir 7 (bin ixE (ae 2) (bin a9 (ae 0) (un bh (ae 2)))))
   (aT 0 (bin aS (ae 0) (un bh (ae 2))))))
   (fun E=>(fun E=>(ba (fc (aa (var 4) (aa (var 7) aj)))) (fzE 4 E)) (fzE 7 E))))))) [Sl.val (D.int n'),Sl.val (D.lst (free.map D.str)),Sl.val (D.lst (Mm.map D.str)),Sl.val (D.int mostI),Sl.own (D.lst (so.map D.str)),s5,Sl.no,Sl.no,Sl.no])
   (lC fun d=>∃so line,d=wn so line/\Row free Mm so line/\so.length<=most):=by
  intro n' so s5 h1 h2 h3
  have b0:0<=n' % 4:=by omega
  have b1:n' % 4 < 4:=by omega
  generalize hb:n' % 4=bI at b0 b1
  obtain⟨b,hbb⟩:∃b:Nat,bI=b:=⟨bI.toNat,⋯⟩
  have hr2:gc [D.int (1 + bI)]=some ((List.range (1 + b)).map fun i:Nat=>D.int (0 + (i:Int))):=by rw[cH ⋯ ⋯,show(1 + bI).toNat=1 + b by omega];rfl
  simp! [hb,hr2]
  refine gU (fun i:Nat=>D.int (0 + (i:Int))) (List.range (1 + b)) (fun pr E=>∃(c3:Int) (l:OD) (s8:Sl),E=[Sl.val (D.int c3),Sl.val (D.lst (free.map D.str)),Sl.val (D.lst (Mm.map D.str)),Sl.val (D.int mostI),Sl.own (D.lst (so.map D.str)),s5,Sl.val (D.int (1 + bI)),Sl.own (D.lst (l.map D.str)),s8]/\l.length=pr.length/\∀x ∈ l,x ∈ Mm) rfl ⟨_,[],_,rfl,rfl,fun x hx=>by cases hx⟩ ?_ ?_
  ·rintro pr k po E hk ⟨c3,l,s8,rfl,hl,hlw⟩
   obtain⟨hk1,hk2⟩:=om hk
   have y0:0<=c3 % (Mm.length:Int):=Kb _ ⋯
   have y1:c3 % (Mm.length:Int) < (Mm.length:Int):=J8 _ hwI
   have hlt:(c3 % (Mm.length:Int)).toNat < Mm.length:=by omega
   have hat:atI (Mm.map D.str) (c3 % (Mm.length:Int))=some (.str Mm[(c3 % (Mm.length:Int)).toNat]):=by
    rw[fJ y0 (by rw[Jm];exact y1),JH,Jr hlt];rfl
   have yes:l.length < 16777216:=by omega
   simp! [Jm,bW hwI,iJ hwI hwb,hat,lv yes]
   refine⟨_,l ++ [Mm[(c3 % (Mm.length:Int)).toNat]],_,by rw[oH],by simp[hl],fun x hx=>?_⟩
   rcases List.mem_append.mp hx with hx |hx
   ·exact hlw x hx
   ·rw[List.mem_singleton.mp hx];exact Kf hlt
  ·rintro E ⟨c3,l,s8,rfl,hl,hlw⟩
   rw[JV]at hl
   simp! [fzE]
   exact⟨so,l,rfl,⟨h1,h2,fun e=>by rw[e]at hl;simp at hl;omega,⋯,hlw⟩,h3⟩
 simp only[dY,iq]
 generalize hK:aw (aT 6 _) _=K at fin ⊢
 simp! []
 refine gU D.str free (fun pr E=>∃(n':Int) (so:OD) (s5:Sl),E=[Sl.val (D.int n'),Sl.val (D.lst (free.map D.str)),Sl.val (D.lst (Mm.map D.str)),Sl.val (D.int mostI),Sl.own (D.lst (so.map D.str)),s5,Sl.no,Sl.no,Sl.no]/\so.Sublist pr/\so.length<=most) rfl ⟨n,[],_,rfl,.slnil,Ks _⟩ ?_ ?_
 ·rintro pr x po E hs ⟨n',so,s5,rfl,MQ,hle⟩
  have hl:so.length<=8:=by
   have h1:=MQ.length_le
   have h2:pr.length<=free.length:=by rw[hs];simp
   omega
  have yes:so.length < 16777216:=by omega
  simp! [Jm]
  by_cases h1:n' % 2=1
  ·simp! [JD h1]
   refine cp (fun h=>?_) fun h=>?_
   ·simp! [Jm,lv yes]
    exact⟨_,so ++ [x],_,by rw[oH],MQ.append (List.Sublist.refl _),by simp;omega⟩
   ·simp! []
    exact⟨_,so,_,rfl,MQ.trans (List.sublist_append_left _ _),hle⟩
  ·simp! [JA h1]
   exact⟨_,so,_,rfl,MQ.trans (List.sublist_append_left _ _),hle⟩
 ·rintro E ⟨n',so,s5,rfl,MQ,hle⟩
  have hq0:=mS (ss:=so) fun x hx=>MA x (MQ.subset hx)
  simp! [hq0]
  refine cp (fun h=>?_) fun h=>?_
  ·have x0:0<=n' % (free.length:Int):=Kb _ ⋯
   have x1:n' % (free.length:Int) < (free.length:Int):=J8 _ hfI
   have hlt:(n' % (free.length:Int)).toNat < free.length:=by omega
   have hat:atI (free.map D.str) (n' % (free.length:Int))=some (.str free[(n' % (free.length:Int)).toNat]):=by
    rw[fJ x0 (by rw[Jm];exact x1),JH,Jr hlt];rfl
   simp! [Jm,bW hfI,iJ hfI hfb,hat]
   exact fin _ [free[(n' % (free.length:Int)).toNat]] _ (by simp) (n_ hlt) (by simpa using h1m)
  ·simp! []
   exact fin _ so _ h MQ hle
end S7
theorem Cz{so free:OD}(h:so.Sublist free)(r:free.Pairwise ltS):so.Pairwise ltS:=r.sublist h
theorem oX(ss:OD):ED (.lst (ss.map D.str))=true:=by
 show(ss.map D.str).all da=true
 rw[Kt]
 intro d hd
 obtain⟨x,_,rfl⟩:=List.mem_map.mp hd
 rfl
theorem HU:Str.ofString "a" = mk [97]:=by decide
theorem HR:Str.ofString "b" = mk [98]:=by decide
theorem H_:Wd 8 (mk [97]):=Wd.mk' nofun nofun fun c hc=>by rw[List.mem_singleton.mp hc];omega
theorem H9:Wd 8 (mk [98]):=Wd.mk' nofun nofun fun c hc=>by rw[List.mem_singleton.mp hc];omega
theorem HS:mk [97] ≠ mk [98]:=fun h=>by have:=r8.mp h;simp at this
theorem cc:Str.ofString " " = mk [32]:=by decide
theorem iO:Str.ofString ":" = mk [58]:=by decide
theorem xh:Str.ofString ">" = mk [62]:=by decide
def al(ws:OD):List Nat:=ws.flatMap fun w=>32 :: w.cps.toList
def aH(ws:OD):List Nat:=ws.flatMap fun w=>w.cps.toList ++ [32]
def pP(ns ws:OD):List Nat:=(al ns).drop 1 ++ [58] ++ al ws
theorem cO:∀{ws:OD},(∀w ∈ ws,w.length<=12)->(al ws).length<=13 * ws.length
 | [],_=>by simp[al]
 |w :: ws,h=>by
  have h1:=cO (ws:=ws) fun x hx=>h x (.tail _ hx)
  have h2:=h w (.head _)
  rw[cg]at h2
  have e:al (w :: ws)=(32 :: w.cps.toList) ++ al ws:=by simp[al]
  rw[e,Jo,Jg,Jg];omega
theorem jh:∀{ws:OD},(∀w ∈ ws,w.length<=12)->(aH ws).length<=13 * ws.length
 | [],_=>by simp[aH]
 |w :: ws,h=>by
  have h1:=jh (ws:=ws) fun x hx=>h x (.tail _ hx)
  have h2:=h w (.head _)
  rw[cg]at h2
  have e:aH (w :: ws)=(w.cps.toList ++ [32]) ++ aH ws:=by simp[aH]
  rw[e,Jo,Jo,Jg,Jg,Jh];omega
variable{a:OJ}
theorem zt(h:a.length + x.length<=16777216):ay (.str (mk a)) (.str x)=some (.str (mk (a ++ x.cps.toList))):=by
 have:=aG (a:=a) (b:=x.cps.toList) (by rw[<-cg];exact h)
 rwa [iE]at this
theorem kW{c:Nat}:∀{ls ms:List (List Nat)},ls ≠ []->ms ≠ []->(∀l ∈ ls,c ∉ l)->(∀l ∈ ms,c ∉ l)->dS [c] ls=dS [c] ms->ls=ms
 | [],_,h,_,_,_,_=>absurd rfl h
 |_ :: _,[],_,h,_,_,_=>absurd rfl h
 | [x],[y],_,_,_,_,h=>by
  have h':x=y:=h
  rw[h']
 | [x],y :: z :: r,_,_,hx,_,h=>by
  have h':x=y ++ [c] ++ dS [c] (z :: r):=h
  exact absurd (by rw[h'];simp) (hx x (.head _))
 |x :: z :: r,[y],_,_,_,hy,h=>by
  have h':x ++ [c] ++ dS [c] (z :: r)=y:=h
  exact absurd (by rw[<-h'];simp) (hy y (.head _))
 |x :: u :: r,y :: z :: t,_,_,hx,hy,h=>by
  have h':x ++ [c] ++ dS [c] (u :: r)=y ++ [c] ++ dS [c] (z :: t):=h
  rw[Kg,Kg]at h'
  obtain⟨e1,e2⟩:=uJ (hx x (.head _)) (hy y (.head _)) h'
  rw[e1,kW (by simp) (by simp) (fun l hl=>hx l (.tail _ hl)) (fun l hl=>hy l (.tail _ hl)) e2]
theorem sH(c:Nat):∀l:List Nat,0<=cnt c l
 | []=>by rw[cnt_nil];omega
 |n :: r=>by
  have:=sH c r
  rw[cnt_cons];split <;> omega
variable{c:Nat}
theorem tq{ls:List (List Nat)}(hne:ls ≠ [])(Mu:∀l ∈ ls,c ∉ l):Txt.split (mk (dS [c] ls)) (mk [c])=ls.map mk:=by
 have h1:=StrLaws.join_split (mk (dS [c] ls)) ⟨#[c]⟩
 have h2:=StrLaws.split_free (mk (dS [c] ls)) c
 have h3:=split_len (mk (dS [c] ls)) c
 have e0:(⟨#[c]⟩:Str)=mk [c]:=rfl
 rw[e0]at h1 h2 h3
 generalize Txt.split (mk (dS [c] ls)) (mk [c])=ps at h1 h2 h3
 have hps:ps=(ps.map fun p=>p.cps.toList).map mk:=by
  rw[Kk]
  conv=>lhs;rw[<-List.map_id ps]
  exact K2 fun p _=>(iE p).symm
 have Nk:ps ≠ []:=fun z=>by
  rw[z]at h3
  have:=sH c (mk (dS [c] ls)).cps.toList
  rw[Jh]at h3
  omega
 rw[hps,<-L1]at h1
 have h4:=nN [c] (ps.map fun p=>p.cps.toList)
 have h5:mk (dS [c] (ps.map fun p=>p.cps.toList))=mk (dS [c] ls):=h4.symm.trans h1
 have h6:=kW (c:=c) (fun z=>Nk (List.map_eq_nil_iff.mp z)) hne (fun l hl=>by
  obtain⟨p,hp,rfl⟩:=List.mem_map.mp hl
  exact h2 p hp) Mu (r8.mp h5)
 rw[hps,h6]
open PySem PySem.Spec PyProof.Rows PySem.Builtin PySem.Builtin.Str
def One(l s:OJ)(k:Nat):Prop:=∀j,(j + s.length<=l.length/\(l.drop j).take s.length=s) ↔ j=k
variable{j:Nat}{s:OJ}
theorem rf:StrLaws.At (mk l) (mk s) (mk l).length j ↔ (j + s.length<=l.length/\(l.drop j).take s.length=s):=by
 show(j + (mk s).length<=(mk l).length/\subAt (mk l) (mk s) j=true) ↔ _
 rw[StrLaws.subAt_eq,aY,aY]
 show(_/\((l.drop j).take s.length == s)=true) ↔ _
 rw[Mb]
theorem One.occ1{k:Nat}(h:One l s k):occurrences (mk l) (mk s) 0 (mk l).length 1=[k]:=by
 have h1:=StrLaws.occ_length_le (mk l) (mk s) 0 (mk l).length 1
 have h2:=StrLaws.found_iff (mk l) (mk s)
 have h3:=StrLaws.occ_spec (mk l) (mk s) 0 (mk l).length 1
 have h4:=h2.mpr ⟨k,rf.mpr ((h k).mpr rfl)⟩
 generalize occurrences (mk l) (mk s) 0 (mk l).length 1=o at h1 h3 h4
 match o,h1,h3,h4 with
 | [],_,_,h4=>simp at h4
 | [i],_,h3,_=>rw[(h i).mp (rf.mp (h3 i (.head _)))]
 |_ :: _ :: _,h1,_,_=>simp at h1
theorem mz(l:OJ)(i j:Nat):strSub (mk l) i j=mk ((l.drop i).take (j - i)):=by
 rw[<-iE (strSub (mk l) i j),StrLaws.strSub_toList];rfl
theorem One.part{k:Nat}(h:One l s k):Txt.partition (mk l) (mk s)=(mk (l.take k),mk s,mk (l.drop (k + s.length))):=by
 unfold Txt.partition
 rw[h.occ1]
 show(strSub (mk l) 0 k,mk s,strSub (mk l) (k + (mk s).length) (mk l).length)=_
 rw[mz,mz,aY,aY]
 rw[LV,Nat.sub_zero,Ko (l:=l.drop (k + s.length)) (by rw[JE];omega)]
theorem t8{c:Nat}:∀{p q:OJ}{i:Nat},c ∉ p->c ∉ q->(p ++ c :: q)[i]? = some c->i=p.length
 | [],q,0,_,_,_=>rfl
 | [],q,i + 1,_,hq,h=>by
  have h':q[i]? = some c:=h
  exact absurd (JY h') hq
 |x :: p,q,0,hp,_,h=>by
  have h':x=c:=Js h
  exact absurd (by rw[h'];exact Jq) hp
 |x :: p,q,i + 1,hp,hq,h=>by
  have h':(p ++ c :: q)[i]? = some c:=h
  rw[t8 (fun z=>hp (.tail _ z)) hq h'];rfl
theorem mG{s1 s2 b:OJ}(h1:c ∉ a ++ s1)(h2:c ∉ s2 ++ b):One (a ++ (s1 ++ c :: s2) ++ b) (s1 ++ c :: s2) a.length:=by
 have e:a ++ (s1 ++ c :: s2) ++ b=(a ++ s1) ++ c :: (s2 ++ b):=by simp
 intro j
 constructor
 ·rintro⟨_,hj⟩
  have h3:((a ++ (s1 ++ c :: s2) ++ b).drop j)[s1.length]? = some c:=by
   have h4:(((a ++ (s1 ++ c :: s2) ++ b).drop j).take (s1 ++ c :: s2).length)[s1.length]? = some c:=by
    rw[hj];simp
   rw[List.getElem?_take_of_lt (by simp)]at h4
   exact h4
  rw[List.getElem?_drop,e]at h3
  have:=t8 h1 h2 h3
  rw[Jo]at this
  omega
 ·rintro rfl
  refine⟨by simp,?_⟩
  rw[Kg,LW,List.take_left]
def Let(x:Str):Prop:=∀c ∈ x.cps.toList,97<=c/\c<=122
theorem aZ(w:Str)(ws:OD):al (w :: ws)=32 :: (w.cps.toList ++ al ws):=by simp[al]
theorem dH(w:Str)(ws:OD):aH (w :: ws)=w.cps.toList ++ 32 :: aH ws:=by simp[aH]
variable{ws:OD}
theorem gS(h:ws ≠ []):al ws=32 :: (al ws).drop 1:=by
 cases ws with
 |nil=>exact absurd rfl h
 |cons w ws=>rw[aZ];rfl
theorem ji(h:ws ≠ []):aH ws=(al ws).drop 1 ++ [32]:=by
 have:∀(w:Str) (ws:OD),aH (w :: ws)=w.cps.toList ++ al ws ++ [32]:=by
  intro w ws
  induction ws generalizing w with
  |nil=>simp[al,aH]
  |cons v ws ih=>rw[dH,ih,aZ];simp
 cases ws with
 |nil=>exact absurd rfl h
 |cons w ws=>rw[this,aZ];rfl
theorem gL:∀ns:List Str,dS [32] (ns.map fun x=>x.cps.toList)=(al ns).drop 1
 | []=>rfl
 | [x]=>by rw[aZ];simp[al,dS]
 |x :: y :: r=>by
  have h:=gL (y :: r)
  show x.cps.toList ++ [32] ++ dS [32] ((y :: r).map fun x=>x.cps.toList)=_
  rw[h,aZ x,aZ y];simp
theorem r9(ns:OD):(ns.map fun x=>x.cps.toList).map mk=ns:=by
 rw[Kk]
 conv=>rhs;rw[<-List.map_id ns]
 exact K2 fun p _=>iE p
theorem oU(ns:OD):Txt.join (mk [32]) ns=mk ((al ns).drop 1):=by
 have h:=nN [32] (ns.map fun x=>x.cps.toList)
 rw[r9,gL]at h
 exact h
variable{ns:OD}
theorem m6(h:ns ≠ [])(hl:∀x ∈ ns,Let x):Txt.split (mk ((al ns).drop 1)) (mk [32])=ns:=by
 have h1:=tq (c:=32) (ls:=ns.map fun x=>x.cps.toList) (fun z=>h (List.map_eq_nil_iff.mp z)) fun l hl' hc=>by
  obtain⟨x,hx,rfl⟩:=List.mem_map.mp hl'
  have:=hl x hx 32 hc
  omega
 rw[gL,r9]at h1
 exact h1
theorem eC(hl:∀x ∈ ws,Let x)(h1:c ≠ 32)(h2:c < 97):c ∉ al ws:=by
 intro hc
 obtain⟨w,hw,hc⟩:=List.mem_flatMap.mp hc
 rcases List.mem_cons.mp hc with rfl |hc
 ·exact h1 rfl
 ·have:=hl w hw c hc
  omega
theorem dO(hl:∀x ∈ ws,Let x)(h1:c ≠ 32)(h2:c < 97):c ∉ (al ws).drop 1:=fun z=>eC hl h1 h2 (Kc z)
theorem bM(hl:∀x ∈ ws,Let x)(h1:c ≠ 32)(h2:c < 97):c ∉ aH ws:=by
 intro hc
 obtain⟨w,hw,hc⟩:=List.mem_flatMap.mp hc
 rcases List.mem_append.mp hc with hc |hc
 ·have:=hl w hw c hc
  omega
 ·exact h1 (List.mem_singleton.mp hc)
theorem tO(h:ws ≠ []):pP ns ws=(al ns).drop 1 ++ ([] ++ 58 :: [32]) ++ (al ws).drop 1:=by
 unfold pP
 conv=>lhs;rw[gS h]
 simp
theorem yA(h:ws ≠ [])(h1:∀x ∈ ns,Let x)(h2:∀x ∈ ws,Let x):One (pP ns ws) [58,32] ((al ns).drop 1).length:=by
 rw[tO h]
 exact mG (by rw[JZ];exact dO h1 nofun nofun) fun z=>by
  rcases List.mem_cons.mp z with z |z
  ·exact absurd z nofun
  ·exact dO h2 nofun nofun z
theorem D2{a s b:OJ}:(a ++ s ++ b).take a.length=a/\(a ++ s ++ b).drop (a.length + s.length)=b:=by
 refine⟨by rw[Kg,List.take_left],?_⟩
 rw[<-Jo,LW]
theorem yw(h:ws ≠ [])(h1:∀x ∈ ns,Let x)(h2:∀x ∈ ws,Let x):Txt.partition (mk (pP ns ws)) (mk [58,32])=(mk ((al ns).drop 1),mk [58,32],mk ((al ws).drop 1)):=by
 rw[(yA h h1 h2).part,tO h]
 obtain⟨e1,e2⟩:=@D2 ((al ns).drop 1) ([] ++ 58 :: [32]) ((al ws).drop 1)
 rw[e1]
 have e2':((al ns).drop 1 ++ ([] ++ 58 :: [32]) ++ (al ws).drop 1).drop (((al ns).drop 1).length + [58,32].length)=(al ws).drop 1:=e2
 rw[e2']
theorem Cy(h:∀x ∈ ns,x.length<=12):(ns.map (·.length)).sum<=12 * ns.length:=by
 induction ns with
 |nil=>simp
 |cons x ns ih =>
  have h1:=h x (.head _)
  have h2:=ih fun y hy=>h y (.tail _ hy)
  rw[Ji,List.sum_cons,Jg];omega
theorem gk(hl:ns.length<=1000)(h:∀x ∈ ns,x.length<=12):g_ (.str (mk [32])) (.lst (ns.map D.str))=some (.str (mk ((al ns).drop 1))):=by
 have:=Cy h
 rw[kX (by rw[aY,JJ];omega),oU]
theorem v_(ws:OD):(ws.map fun w=>32 :: w.cps.toList).flatten=al ws:=by
 rw[<-List.flatMap_def];rfl
theorem uz{ls:List (List Nat)}{n:Nat}(hl:ls.length<=1000)(h:∀l ∈ ls,l.length<=1000):g_ (.str (mk [])) (.lst (ls.map fun l=>D.str (mk l)))=some (.str (mk ls.flatten)):=by
 have e:(ls.map fun l=>D.str (mk l))=(ls.map mk).map D.str:=by rw[Kk];rfl
 have hs:((ls.map mk).map (·.length)).sum<=1000 * ls.length:=by
  clear hl e
  induction ls with
  |nil=>simp
  |cons x r ih =>
   have h1:=h x (.head _)
   have h2:=ih fun y hy=>h y (.tail _ hy)
   rw[Ji,Ji,List.sum_cons,aY,Jg];omega
 have hb:1000 * ls.length<=1000000:=by omega
 rw[e,kX (by rw[aY,Jh,Nat.mul_zero];omega),nN,mM]
theorem uA(hl:ws.length<=1000)(h:∀x ∈ ws,x.length<=12):g_ (.str (mk [])) (.lst (ws.map fun w=>D.str (mk (32 :: w.cps.toList))))=some (.str (mk (al ws))):=by
 have:=uz (n:=0) (ls:=ws.map fun w=>32 :: w.cps.toList) (by rw[Jm];exact hl) fun l hl'=>by
  obtain⟨w,hw,rfl⟩:=List.mem_map.mp hl'
  have:=h w hw
  rw[cg]at this
  rw[Jg];omega
 rw[Kk,v_]at this
 exact this
theorem mB{xs:OD}(h:Txt.split (mk l) (mk s)=xs)(hs:1<=s.length)(hl:l.length<=1000000):fo (.str (mk l)) (.str (mk s))=some (.lst (xs.map D.str)):=by
 show(if((mk s).length == 0)=false/\(mk l).length + 2<=sizeLine then some (D.lst ((Txt.split (mk l) (mk s)).map D.str)) else none)=_
 rw[if_pos ⟨by rw[aY];exact beq_eq_false_iff_ne.mpr ⋯,by rw[aY];exact gV ⋯⟩,h]
variable{b:Str}
theorem iB{c:OJ}(h:Txt.partition (mk l) (mk s)=(mk a,b,mk c))(hs:1<=s.length)(hl:l.length<=1000000):kD (.str (mk l)) (.str (mk s))=some (.tup [.str (mk a),.str b,.str (mk c)]):=by
 show(if((mk s).length == 0)=false/\(mk l).length<=sizeLine then some (D.tup [.str (Txt.partition (mk l) (mk s)).1,.str (Txt.partition (mk l) (mk s)).2.1,.str (Txt.partition (mk l) (mk s)).2.2]) else none)=_
 rw[if_pos ⟨by rw[aY];exact beq_eq_false_iff_ne.mpr ⋯,by rw[aY];exact gV ⋯⟩,h]
theorem kl:Str.ofString ": " = mk [58,32]:=by decide
theorem eU:Str.ofString "> " = mk [62,32]:=by decide
theorem A7:Str.ofString " > " = mk [32,62,32]:=by decide
theorem ge(hne:ns ≠ [])(hl:ns.length<=1000)(h:∀x ∈ ns,Let x)(h12:∀x ∈ ns,x.length<=12):fo (.str (mk ((al ns).drop 1))) (.str (mk [32]))=some (.lst (ns.map D.str)):=by
 have:=cO h12
 exact mB (m6 hne h) nofun (by rw[JE];omega)
theorem Ac(hn:ns.length<=1000)(hw:ws.length<=1000)(h1:∀x ∈ ns,x.length<=12)(h2:∀x ∈ ws,x.length<=12):(pP ns ws).length<=100000:=by
 have:=cO h1
 have:=cO h2
 unfold pP
 rw[Jo,Jo,JE,JJ];omega
theorem vI(hne:ws ≠ [])(h1:∀x ∈ ns,Let x)(h2:∀x ∈ ws,Let x)(hl:(pP ns ws).length<=100000):kD (.str (mk (pP ns ws))) (.str (mk [58,32]))=some (.tup [.str (mk ((al ns).drop 1)),.str (mk [58,32]),.str (mk ((al ws).drop 1))]) :=
 iB (yw hne h1 h2) nofun ⋯
theorem o9{α:Type}(f:α->D):∀(ys:List α) (n:Nat),eY (ys.map f) (n:Int)=(ys.zipIdx n).map fun q=>D.tup [.int (q.2:Int),f q.1]
 | [],_=>rfl
 |y :: ys,n=>by
  have h:=o9 f ys (n + 1)
  rw[List.zipIdx_cons,Ji,Ji,<-h]
  rfl
theorem B3{α:Type}(f:α->D)(ys:List α):jp [D.tup (ys.map f)]=some ((ys.zipIdx).map fun q=>D.tup [.int (q.2:Int),f q.1]):=JR some (o9 f ys 0)
theorem uU{α:Type}(f:α->D)(ys:List α):jp [D.lst (ys.map f)]=some ((ys.zipIdx).map fun q=>D.tup [.int (q.2:Int),f q.1]):=JR some (o9 f ys 0)
theorem wH{α:Type}{ys:List α}{pre post:List (α×Nat)}{x:α×Nat}(h:ys.zipIdx=pre ++ x :: post):ys=pre.map (·.1) ++ x.1 :: post.map (·.1)/\x.2=pre.length:=by
 have h1:=JR (List.map (·.1)) h
 rw[LX,JT,Ji]at h1
 refine⟨h1,?_⟩
 have h2:=JR (fun l=>l[pre.length]?) h
 simp only[List.getElem?_zipIdx,Ki (Jw _),Nat.sub_self,Jc]at h2
 cases h3:ys[pre.length]? with
 |none=>rw[h3]at h2;simp at h2
 |some y=>rw[h3]at h2;simp at h2;rw[<-h2]
theorem cB.mid:∀{a b:O2}{s x:Sp},cB (a ++ s :: b)->a.getLast? = some x->sU x s
 | [],_,_,_,_,h=>by simp at h
 | [y],b,s,x,h,hx=>by
  have:y=x:=by simpa using hx
  rw[<-this];exact h.1
 |y :: z :: a,b,s,x,h,hx=>cB.mid (a:=z :: a) h.2 (by rw[List.getLast?_cons_cons]at hx;exact hx)
theorem pd{a b:O2}{s:Sp}(h:cB (a ++ s :: b)):(s.1.any fun n=>decide (n ∈ bv a))=false:=by
 rw[List.any_eq_false]
 intro n hn
 unfold bv
 cases hl:a.getLast? with
 |none=>simp
 |some x =>
  have:=h.mid hl
  simpa using fun z=>this n z hn
theorem Bc(h:x.length<=16777216):bh (.str x)=some (.int x.length):=by
 have:=xj (l:=x.cps.toList) (by rw[<-cg];exact h)
 rw[iE,<-cg]at this
 exact this
theorem A_(a b:Nat):decide ([a] < [b])=decide (a < b):=by
 congr 1
 apply propext
 rw[List.cons_lt_cons_iff]
 simp
theorem Ix(c:Nat):(!decide ([c] < (Str.ofString "a").cps.toList))=decide (97<=c):=by
 have e:(Str.ofString "a").cps.toList=[97]:=by decide
 rw[e,A_]
 by_cases h:97<=c
 ·simp[h]
 ·simp[h];omega
theorem Iw(c:Nat):(!decide ((Str.ofString "z").cps.toList < [c]))=decide (c<=122):=by
 have e:(Str.ofString "z").cps.toList=[122]:=by decide
 rw[e,A_]
 by_cases h:c<=122
 ·simp[h]
 ·simp[h];omega
def Du(x:Str):Bool:=x.cps.toList.all fun c=>decide (97<=c) && decide (c<=122)
def isT(M:Int)(x:Str):Bool:=decide (1<=(x.length:Int)) && (decide ((x.length:Int)<=M) && Du x)
def isL(M:Int):D->Bool
 |.str x=>isT M x
 |_=>false
variable{d:D}
theorem Gh{M:Int}(h:isL M d=true):∃x,d=.str x/\isT M x=true:=by
 cases d <;> first |exact⟨_,rfl,h⟩ |cases h
def lU:D->Bool
 |.str _=>true
 |_=>false
def xo:D->Bool
 |.tup _=>true
 |_=>false
theorem Cv(d:D)(h:lU d=false):jH (tyN d) "str" = false:=by
 cases d <;> first |rfl |cases h
theorem rj(d:D)(h:xo d=false):jH (tyN d) "tuple" = false:=by
 cases d <;> first |rfl |cases h
namespace Sh
open L2.Cu.Wk
variable{m:Int}
theorem uv(hx:x.length<=16777216):cv [.str x,.int m]=some (.bl (isT m x)):=by
 have hs:(gG x).length<=16777216:=by
  unfold gG
  rw[Jm,<-cg];exact hx
 have hc:bJ (nmG 2) noT (mh leD leD (cst (D.str (Str.ofString "a"))) (ae 2) (cst (D.str (Str.ofString "z")))) [Sl.val (D.str x),Sl.val (D.int m),Sl.no] (gG x)=some (x.cps.toList.map fun c=>D.bl (decide (97<=c) && decide (c<=122))):=by
  refine iN (fun c:Nat=>D.str ⟨#[c]⟩) (fun c=>D.bl (decide (97<=c) && decide (c<=122))) x.cps.toList fun c _=>?_
  simp! []
  rw[Ix]
  by_cases h:97<=c
  ·simp! [h];rw[Iw]
  ·simp! [h]
 refine aM ?_
 simp! [cv,gp,Bc hx,isT]
 by_cases h1:1<=(x.length:Int)
 ·by_cases h2:(x.length:Int)<=m
  ·simp! [h1,h2,hs,hc,iQ,Lh,Du]
   rfl
  ·simp! [h1,h2]
 ·simp! [h1]
theorem vX(h:lU d=false):cv [d,.int m]=some (.bl false):=by
 refine aM ?_
 simp only[cv,gp,lq,bP,cG,nV,ba,gR,isF,Cv d h,ae,Jg,Jh,Nat.reduceAdd,Nat.reduceSub,Ji,Jj,Jk,Jl,Jc,asB,J9,reduceIte,lB]
def SmS(d:D):Prop:=∀x,d=.str x->x.length<=1000
theorem oP(hd:SmS d):cv [d,.int m]=some (.bl (isL m d)):=by
 cases h:lU d with
 |true =>
  cases d with
  |str x=>exact uv (Jy (hd x rfl) nofun)
  |_=>cases h
 |false =>
  rw[vX h]
  cases d <;> first |rfl |cases h
theorem v3(hd:SmS d):gB [d]=some (.bl (isL 12 d)):=by
 refine aM ?_
 simp! [gB,mU,oP hd]
theorem v4(hd:SmS d):gC [d]=some (.bl (isL 8 d)):=by
 refine aM ?_
 simp! [gC,mV,oP hd]
theorem mj{ds:OK}(hl:ds.length<=1000)(hd:∀d ∈ ds,SmS d):fQ [.tup ds]=some (.bl (ds.all (isL 8))):=by
 have hc:bJ (nmG 1) noT (aq 1 gC (aa (var 1) aj)) [Sl.val (D.tup ds),Sl.no] ds=some (ds.map fun d=>D.bl (isL 8 d)):=by
  have:=df (fun d:D=>d) (fun d=>D.bl (isL 8 d)) (i:=1) (ef:=aq 1 gC (aa (var 1) aj)) (E:=[Sl.val (D.tup ds),Sl.no]) ds fun d hd'=>by
   refine aM ?_
   simp! [v4 (hd d hd')]
  rwa [Lg]at this
 have hs:ds.length<=16777216:=by omega
 refine aM ?_
 simp! [fQ,jT,hs,hc,iQ,Lh]
 rfl
theorem mi{ds:OK}(hl:ds.length<=1000)(hd:∀d ∈ ds,SmS d):fP [.tup ds]=some (.bl (ds.all (isL 12))):=by
 have hc:bJ (nmG 1) noT (aq 1 gB (aa (var 1) aj)) [Sl.val (D.tup ds),Sl.no] ds=some (ds.map fun d=>D.bl (isL 12 d)):=by
  have:=df (fun d:D=>d) (fun d=>D.bl (isL 12 d)) (i:=1) (ef:=aq 1 gB (aa (var 1) aj)) (E:=[Sl.val (D.tup ds),Sl.no]) ds fun d hd'=>by
   refine aM ?_
   simp! [v3 (hd d hd')]
  rwa [Lg]at this
 have hs:ds.length<=16777216:=by omega
 refine aM ?_
 simp! [fP,jS,hs,hc,iQ,Lh]
 rfl
end Sh
theorem eB(a:Str):¬ltS a a:=List.lt_irrefl _
theorem qA{a c:Str}(h:ltS a b)(h':ltS b c):ltS a c:=List.lt_trans h h'
theorem yK{a:Str}(h:ltS a b):¬ltS b a:=fun h'=>eB a (qA h h')
theorem wV:∀{l m:OD},l.Pairwise ltS->m.Pairwise ltS->(∀x,x ∈ l ↔ x ∈ m)->l=m
 | [],[],_,_,_=>rfl
 | [],b :: m,_,_,h=>by have:=(h b).mpr Jq;cases this
 |a :: l,[],_,_,h=>by have:=(h a).mp Jq;cases this
 |a :: l,b :: m,hl,hm,h=>by
  obtain⟨l1,l2⟩:=List.pairwise_cons.mp hl
  obtain⟨m1,m2⟩:=List.pairwise_cons.mp hm
  have e:a=b:=by
   rcases List.mem_cons.mp ((h a).mp Jq) with z |z
   ·exact z
   ·rcases List.mem_cons.mp ((h b).mpr Jq) with z' |z'
    ·exact z'.symm
    ·exact absurd (m1 a z) (yK (l1 b z'))
  subst e
  rw[wV l2 m2 fun x=>?_]
  constructor
  ·intro hx
   rcases List.mem_cons.mp ((h x).mp (Jt _ hx)) with z |z
   ·rw[z]at hx;exact absurd (l1 a hx) (eB a)
   ·exact z
  ·intro hx
   rcases List.mem_cons.mp ((h x).mpr (Jt _ hx)) with z |z
   ·rw[z]at hx;exact absurd (m1 a hx) (eB a)
   ·exact z
def mE(ss:OD):Bool:=((ss.zip (ss.drop 1)).map fun q=>decide (q.1.cps.toList < q.2.cps.toList)).all id
theorem lD:∀ss:List Str,mE ss=true ↔ ss.Pairwise ltS
 | []=>by simp[mE]
 | [a]=>by simp[mE]
 |a :: b :: r=>by
  have ih:=lD (b :: r)
  have e:mE (a :: b :: r)=(decide (a.cps.toList < b.cps.toList) && mE (b :: r)):=by simp[mE]
  rw[e,JG,ih,KQ]
  constructor
  ·rintro⟨h1,h2⟩
   refine List.pairwise_cons.mpr ⟨fun x hx=>?_,h2⟩
   rcases List.mem_cons.mp hx with z |z
   ·rw[z];exact h1
   ·exact qA h1 ((List.pairwise_cons.mp h2).1 x z)
  ·intro h
   obtain⟨h1,h2⟩:=List.pairwise_cons.mp h
   exact⟨h1 b Jq,h2⟩
def wN:D->Option Str
 |.str x=>some x
 |_=>none
def iW(ds:OK):List Str:=ds.filterMap wN
theorem kL(ss:OD):iW (ss.map D.str)=ss:=by
 unfold iW
 induction ss with
 |nil=>rfl
 |cons a r ih=>rw[Ji,Kx];simp only[wN];rw[ih]
theorem va{M:Int}:∀{ds:OK},ds.all (isL M)=true->ds=(iW ds).map D.str
 | [],_=>rfl
 |d :: ds,h=>by
  rw[Kl,JG]at h
  obtain⟨x,rfl,_⟩:=Gh h.1
  have:=va h.2
  show _ :: _=(List.filterMap wN (D.str x :: ds)).map D.str
  rw[Kx]
  simp only[wN,Ji]
  exact JR _ this
def sk:D->Bool
 |.tup ds=>decide (1<=(ds.length:Int)) && (decide ((ds.length:Int)<=8) && (ds.all (isL 8) && mE (iW ds)))
 |_=>false
def uE:D->Bool
 |.tup ds=>decide (0 < (ds.length:Int)) && ds.all (isL 12)
 |_=>false
def v6:D->Bool
 |.tup [a,b]=>sk a && uE b
 |_=>false
def SmT(P:D->Prop)(d:D):Prop:=∀ds,d=.tup ds->ds.length<=1000/\∀x ∈ ds,P x
namespace Sh
open L2.Cu.Wk
abbrev Sm1:=SmT SmS
abbrev Sm2:=SmT Sm1
theorem zz(ss:OD):List.zipWith (fun a b=>D.tup [a,b]) (ss.map D.str) (cN (ss.map D.str) (some 1) none)=(ss.zip (ss.drop 1)).map fun q=>D.tup [D.str q.1,D.str q.2]:=by
 have e:cN (ss.map D.str) (some 1) none=(ss.drop 1).map D.str:=by
  have:=e9 (ss.map D.str) 1
  rw[Lz];exact this
 rw[e,List.zipWith_map,List.zip,List.map_zipWith]
theorem sh(ss:OD)(hl:ss.length<=1000):fO [.tup (ss.map D.str)]=some (.bl (mE ss)):=by
 have hc:bJ (f9 2 (a_ (nmG 1) (a_ (nmG 2) f_))) noT (bin ltD (ae 1) (ae 2)) [Sl.val (D.tup (ss.map D.str)),Sl.no,Sl.no] ((ss.zip (ss.drop 1)).map fun q=>D.tup [D.str q.1,D.str q.2])=some ((ss.zip (ss.drop 1)).map fun q=>D.bl (decide (q.1.cps.toList < q.2.cps.toList))):=by
  refine iN (fun q:Str×Str=>D.tup [D.str q.1,D.str q.2]) (fun q=>D.bl (decide (q.1.cps.toList < q.2.cps.toList))) _ fun q _=>?_
  simp! []
 have hs:((ss.zip (ss.drop 1)).map fun q:Str×Str=>D.tup [D.str q.1,D.str q.2]).length<=16777216:=by simp;omega
 refine aM ?_
 simp! [fO,jR,Cm,Cn,zz,hs,hc,iQ,Lh,mE]
theorem uo(hd:Sm1 d):bz [d]=some (.bl (sk d)):=by
 cases h:xo d with
 |true =>
  cases d with
  |tup ds =>
   obtain⟨hl,hx⟩:=hd ds rfl
   refine aM ?_
   simp! [bz,dw,sk]
   by_cases h1:1<=(ds.length:Int)
   ·by_cases h2:(ds.length:Int)<=8
    ·simp! [h1,h2,mj hl hx]
     cases h3:ds.all (isL 8) with
     |true =>
      have hr:fO [.tup ds]=some (.bl (mE (iW ds))):=by
       have e:=va h3
       conv=>lhs;rw[e]
       exact sh _ (by
        have:=JR List.length e
        simp at this
        omega)
      simp! [hr]
     |false=>simp! []
    ·simp! [h1,h2]
   ·simp! [h1]
  |_=>cases h
 |false =>
  have e:bz [d]=some (.bl false):=by
   refine aM ?_
   simp only[bz,dw,lq,bP,cG,nV,ba,gR,isF,rj d h,ae,Jg,Jh,Nat.reduceAdd,Nat.reduceSub,Ji,Jj,Jk,Jl,Jc,asB,J9,reduceIte,lB]
  rw[e]
  cases d <;> first |rfl |cases h
theorem sV(hd:Sm1 d):bx [d]=some (.bl (uE d)):=by
 cases h:xo d with
 |true =>
  cases d with
  |tup ds =>
   obtain⟨hl,hx⟩:=hd ds rfl
   refine aM ?_
   simp! [bx,du,uE]
   by_cases h1:0 < (ds.length:Int)
   ·simp! [h1,mi hl hx]
   ·simp! [h1]
  |_=>cases h
 |false =>
  have e:bx [d]=some (.bl false):=by
   refine aM ?_
   simp only[bx,du,lq,bP,cG,nV,ba,gR,isF,rj d h,ae,Jg,Jh,Nat.reduceAdd,Nat.reduceSub,Ji,Jj,Jk,Jl,Jc,asB,J9,reduceIte,lB]
  rw[e]
  cases d <;> first |rfl |cases h
theorem Bt{ds:OK}(h:ds.length ≠ 2):v6 (.tup ds)=false:=by
 match ds,h with
 | [],_=>rfl
 | [_],_=>rfl
 | [_,_],h=>exact absurd rfl h
 |_ :: _ :: _ :: _,_=>rfl
theorem mC(hd:Sm2 d):b7 [d]=some (.bl (v6 d)):=by
 cases h:xo d with
 |true =>
  cases d with
  |tup ds =>
   obtain⟨hl,hx⟩:=hd ds rfl
   by_cases h2:ds.length=2
   ·match ds,h2 with
    | [a,b],_ =>
     have i0:atI [a,b] 0=some a:=rfl
     have i1:atI [a,b] 1=some b:=rfl
     refine aM ?_
     simp! [b7,fT,v6,i0,i1,uo (hx a (by simp)),sV (hx b (by simp))]
     have e:decide ((((0 + 1 + 1:Nat)):Int)=2)=true:=by decide
     simp! [e]
     cases sk a with
     |true=>simp! []
     |false=>simp! []
   ·have e:decide ((ds.length:Int)=2)=false:=JA ⋯
    refine aM ?_
    simp! [b7,fT,e,Bt h2]
  |_=>cases h
 |false =>
  have e:b7 [d]=some (.bl false):=by
   refine aM ?_
   simp only[b7,fT,lq,bP,cG,nV,ba,gR,isF,rj d h,ae,Jg,Jh,Nat.reduceAdd,Nat.reduceSub,Ji,Jj,Jk,Jl,Jc,asB,J9,reduceIte,lB]
  rw[e]
  cases d <;> first |rfl |cases h
end Sh
def xg:D->List Str
 |.tup [.tup as,_]=>iW as
 |_=>[]
def I0(a b:D):Bool:=(xg a).any fun n=>decide (n ∈ xg b)
def nb(ds:OK):Bool:=((ds.zip (ds.drop 1)).map fun q=>I0 q.1 q.2).any id
namespace Sh
open L2.Cu.Wk
theorem gM(ss ts:OD)(hl:ss.length<=1000):bL [.tup (ss.map D.str),.tup (ts.map D.str)]=some (.bl (ss.any fun n=>decide (n ∈ ts))):=by
 have hc:bJ (nmG 2) noT (bin inE (ae 2) (ae 1)) [Sl.val (.tup (ss.map D.str)),Sl.val (.tup (ts.map D.str)),Sl.no] (ss.map D.str)=some (ss.map fun n=>D.bl (decide (n ∈ ts))):=by
  refine df D.str _ ss fun n _=>?_
  refine aM ?_
  simp! [nO]
 have hs:(ss.map D.str).length<=16777216:=by rw[Jm];omega
 refine aM ?_
 simp! [bL,im,hs,hc,iQ,List.any_map]
 rfl
end Sh
theorem Wd.isT{M:Nat}{x:Str}(h:Wd M x):isT M x=true:=by
 unfold L2.Cu.isT Du
 have h1:=h.pos
 have h2:=h.le
 rw[JD ⋯,JD ⋯,List.all_eq_true.mpr fun c hc=>by
  have:=h.low c hc
  rw[JD this.1,JD this.2];rfl]
 rfl
theorem lT{M:Int}(h:isT M x=true):(x.length:Int)<=M:=by
 unfold isT at h
 rw[JG,JG]at h
 exact KB h.2.1
structure dL (s:Sp):Prop where
 ne:s.1 ≠ []
 le:s.1.length<=8
 nm:∀n ∈ s.1,isT 8 n=true
 ris:s.1.Pairwise ltS
 wne:s.2 ≠ []
 wle:s.2.length<=8
 wd:∀w ∈ s.2,isT 12 w=true
theorem km{M:Int}(h:∀x ∈ ss,isT M x=true):(ss.map D.str).all (isL M)=true:=by
 rw[Lh,Kt];exact h
theorem eV{α:Type}{l:List α}(h:l ≠ []):1<=l.length:=by
 cases l with
 |nil=>exact absurd rfl h
 |cons _ _=>simp
theorem uF{s:Sp}(h:dL s):v6 (bb s)=true:=by
 show(sk (cF s.1) && uE (cF s.2))=true
 have h1:=eV h.ne
 have h2:=eV h.wne
 have h3:=h.le
 have e1:sk (cF s.1)=true:=by
  show(decide (1<=((s.1.map D.str).length:Int)) && (decide (((s.1.map D.str).length:Int)<=8) && ((s.1.map D.str).all (isL 8) && mE (iW (s.1.map D.str)))))=true
  rw[kL,(lD _).mpr h.ris,km h.nm,Jm,JD ⋯,JD ⋯]
  rfl
 have e2:uE (cF s.2)=true:=by
  show(decide (0 < ((s.2.map D.str).length:Int)) && (s.2.map D.str).all (isL 12))=true
  rw[km h.wd,Jm,JD ⋯]
  rfl
 rw[e1,e2]
 rfl
theorem cB.at:∀{p:O2},cB p->∀(i:Nat) (h:i + 1 < p.length),sU p[i] p[i + 1]
 |a :: b :: r,h,0,_=>h.1
 |a :: b :: r,h,i + 1,hi=>cB.at (p:=b :: r) h.2 i (by simpa using hi)
 | [],_,_,h=>by simp at h
 | [_],_,_,h=>by simp at h
namespace Sh
open L2.Cu.Wk
theorem nJ(h:x.length<=1000):SmS (.str x):=fun y e=>by cases e;exact h
theorem Ef(hl:ss.length<=1000)(h:∀x ∈ ss,x.length<=1000):Sm1 (.tup (ss.map D.str)):=fun ds e=>by
 cases e
 refine⟨by rw[Jm];exact hl,fun x hx=>?_⟩
 obtain⟨y,hy,rfl⟩:=List.mem_map.mp hx
 exact nJ (h y hy)
theorem zU{P:D->Prop}{l:OK}(hl:l.length<=1000)(h:∀x ∈ l,P x):SmT P (.tup l):=fun ds e=>by cases e;exact⟨hl,h⟩
theorem wQ{P:D->Prop}{a b:D}(ha:P a)(hb:P b):SmT P (.tup [a,b]):=zU (by simp) fun x hx=>by
 rcases List.mem_cons.mp hx with z |z
 ·rw[z];exact ha
 ·rw[List.mem_singleton.mp z];exact hb
theorem HM{s:Sp}(h:dL s):Sm1 (.tup (s.1.map D.str)):=Ef (Jy h.le nofun) fun x hx=>by have:=lT (h.nm x hx);omega
theorem HL{s:Sp}(h:dL s):Sm1 (.tup (s.2.map D.str)):=Ef (Jy h.wle nofun) fun x hx=>by have:=lT (h.wd x hx);omega
theorem EE{s:Sp}(h:dL s):Sm2 (bb s):=wQ (HM h) (HL h)
end Sh
theorem wE.fine{names Mm:OD}{s:Sp}(h:wE names Mm s)(hn:∀x ∈ names,Wd 8 x)(hw:∀x ∈ Mm,Wd 12 x)(hl:names.length<=8):dL s :=
 ⟨h.ne,Jy h.le hl,fun n hx=>(hn n (h.sub n hx)).isT,h.ris,h.wne,Jy h.wle nofun,fun w hx=>(hw w (h.wsub w hx)).isT⟩
theorem uY{α:Type}(l:List α):cN l none (some (-1))=l.take (l.length - 1):=by
 unfold cN
 have e1:HT.sIx l.length l.length (some (-1))=l.length - 1:=by
  show(if(-1:Int) < 0 then((-1:Int) + (l.length:Int)).toNat else min (-1:Int).toNat l.length)=_
  rw[if_pos nofun];omega
 have e2:HT.sIx l.length 0 none=0:=rfl
 rw[e1,e2,LV,Nat.sub_zero]
theorem eh{M:Int}(h:isT M x=true):Let x:=fun c hc=>by
 unfold isT Du at h
 simp only[JG,Kt,KQ]at h
 exact h.2.2 c hc
theorem sj{M:Int}(h:isT M x=true):x.cps.toList ≠ []:=fun z=>by
 unfold isT at h
 simp only[JG,KQ]at h
 have h1:=h.1
 rw[cg,z,Jh]at h1
 omega
theorem Di{M:Int}(h:¬Let x):isT M x=false:=Bool.eq_false_iff.mpr fun z=>h (eh z)
structure GN (ns:OD):Prop where
 ne:ns ≠ []
 le:ns.length<=8
 nm:∀n ∈ ns,isT 8 n=true
 ris:ns.Pairwise ltS
structure GW (ws:OD):Prop where
 ne:ws ≠ []
 wd:∀w ∈ ws,isT 12 w=true
theorem uZ{c:Nat}:∀{a b r s:OJ},c ∉ a->c ∉ b->a ++ c :: r=b ++ c :: s->a=b/\r=s
 | [],[],_,_,_,_,h=>⟨rfl,by injection h⟩
 | [],y :: b,_,_,_,hb,h=>by
  injection h with h1 h2
  exact absurd (by rw[h1];exact Jq) hb
 |x :: a,[],_,_,ha,_,h=>by
  injection h with h1 h2
  exact absurd (by rw[h1];exact Jq) ha
 |x :: a,y :: b,_,_,ha,hb,h=>by
  injection h with h1 h2
  obtain⟨e1,e2⟩:=uZ (fun z=>ha (.tail _ z)) (fun z=>hb (.tail _ z)) h2
  exact⟨by rw[h1,e1],e2⟩
def ll(ns:OD):Prop:=∀x ∈ ns,32 ∉ x.cps.toList
theorem fB(h:∀x ∈ ns,Let x):ll ns:=fun x hx z=>by have:=h x hx 32 z;omega
variable{ms:OD}
theorem Cr(h:(ns.map fun x=>x.cps.toList)=ms.map fun x=>x.cps.toList):ns=ms:=by
 rw[<-r9 ns,h,r9]
theorem eA(h1:ns ≠ [])(h2:ms ≠ [])(f1:ll ns)(f2:ll ms)(h:(al ns).drop 1=(al ms).drop 1):ns=ms:=by
 rw[<-gL,<-gL]at h
 refine Cr (kW (c:=32) (fun z=>h1 (List.map_eq_nil_iff.mp z)) (fun z=>h2 (List.map_eq_nil_iff.mp z)) (fun l hl=>?_) (fun l hl=>?_) h)
 ·obtain⟨x,hx,rfl⟩:=List.mem_map.mp hl
  exact f1 x hx
 ·obtain⟨x,hx,rfl⟩:=List.mem_map.mp hl
  exact f2 x hx
theorem pF(f1:ll ns)(f2:ll ms)(h:al ns=al ms):ns=ms:=by
 by_cases h1:ns=[]
 ·by_cases h2:ms=[]
  ·rw[h1,h2]
  ·rw[h1,gS h2]at h;cases h
 ·by_cases h2:ms=[]
  ·rw[h2,gS h1]at h;cases h
  ·exact eA h1 h2 f1 f2 (JR (List.drop 1) h)
theorem jP:∀{ns ms:OD},ll ns->ll ms->aH ns=aH ms->ns=ms
 | [],[],_,_,_=>rfl
 | [],y :: ms,_,_,h=>by rw[dH]at h;have:=JR List.length h;simp[aH]at this
 |x :: ns,[],_,_,h=>by rw[dH]at h;have:=JR List.length h;simp[aH]at this
 |x :: ns,y :: ms,f1,f2,h=>by
  rw[dH,dH]at h
  obtain⟨e1,e2⟩:=uZ (f1 x (.head _)) (f2 y (.head _)) h
  have e3:=jP (fun z hz=>f1 z (.tail _ hz)) (fun z hz=>f2 z (.tail _ hz)) e2
  have e4:x=y:=by rw[<-iE x,<-iE y,e1]
  rw[e3,e4]
def eT(bk:Bool)(cue:OD):List Nat:=if bk=true then aH cue ++ [62,32] else []
def bc(bk:Bool)(u:En):List Nat:=eT bk u.1 ++ (al u.2.1).drop 1
def bC(bk:Bool)(u:En):List Nat:=bc bk u ++ 58 :: al u.2.2
structure GU (u:En):Prop where
 cue:∀c ∈ u.1,isT 12 c=true
 gn:GN u.2.1
 gw:GW u.2.2
def Acc(bk:Bool)(l:OJ):Prop:=∃u,GU u/\l=bC bk u
variable{cue:OD}
theorem t0{bk:Bool}(h:∀x ∈ cue,Let x)(h1:c ≠ 32)(h2:c ≠ 62)(h3:c < 97):c ∉ eT bk cue:=by
 unfold eT
 split
 ·intro z
  rcases List.mem_append.mp z with z |z
  ·exact bM h h1 h3 z
  ·rcases List.mem_cons.mp z with z |z
   ·exact h2 z
   ·exact h1 (List.mem_singleton.mp z)
 ·simp
variable{u:En}
theorem GU.lc(h:GU u):∀x ∈ u.1,Let x:=fun x hx=>eh (h.cue x hx)
theorem GU.ln(h:GU u):∀x ∈ u.2.1,Let x:=fun x hx=>eh (h.gn.nm x hx)
theorem GU.lw(h:GU u):∀x ∈ u.2.2,Let x:=fun x hx=>eh (h.gw.wd x hx)
theorem gA{bk:Bool}(h0:∀x ∈ u.1,Let x)(h1:∀x ∈ u.2.1,Let x):58 ∉ bc bk u:=fun z=>by
 rcases List.mem_append.mp z with z |z
 ·exact t0 h0 nofun nofun nofun z
 ·exact dO h1 nofun nofun z
variable{t:OJ}
theorem nT{bk:Bool}{h:OJ}(a:Acc bk (h ++ 58 :: t))(hf:58 ∉ h):∃u,GU u/\h=bc bk u/\t=al u.2.2:=by
 obtain⟨u,g,e⟩:=a
 obtain⟨e1,e2⟩:=uZ hf (gA g.lc g.ln) e
 exact⟨u,g,e1,e2⟩
theorem GC{bk:Bool}(a:Acc bk l):58 ∈ l:=by
 obtain⟨u,g,rfl⟩:=a
 exact JB _ Jq
theorem zu{bk:Bool}(a:Acc bk l)(hc:c ∈ l)(h:c < 97):c=32\/c=58\/(c=62/\bk=true):=by
 obtain⟨u,g,rfl⟩:=a
 unfold bC bc eT at hc
 by_cases h32:c=32
 ·exact .inl h32
 ·right
  rcases List.mem_append.mp hc with hc |hc
  ·rcases List.mem_append.mp hc with hc |hc
   ·right
    split at hc
    ·rename_i hb
     refine⟨?_,hb⟩
     rcases List.mem_append.mp hc with hc |hc
     ·exact absurd hc (bM g.lc h32 h)
     ·rcases List.mem_cons.mp hc with hc |hc
      ·exact hc
      ·exact absurd (List.mem_singleton.mp hc) h32
    ·cases hc
   ·exact absurd hc (dO g.ln h32 h)
  ·rcases List.mem_cons.mp hc with hc |hc
   ·exact .inl hc
   ·exact absurd hc (eC g.lw h32 h)
theorem pG{bk:Bool}(hc:c ∈ l)(h:c < 97)(h1:c ≠ 32)(h2:c ≠ 58)(h3:c ≠ 62):¬Acc bk l:=fun a=>by
 rcases zu a hc h with z |z |⟨z,_⟩
 ·exact h1 z
 ·exact h2 z
 ·exact h3 z
variable{r:OJ}
theorem qH(g:GU u)(hf:62 ∉ a)(e:a ++ 62 :: r=bc true u):a=aH u.1/\r=32 :: (al u.2.1).drop 1:=by
 have e':a ++ 62 :: r=aH u.1 ++ 62 :: (32 :: (al u.2.1).drop 1):=by
  rw[e];unfold bc eT;simp
 exact uZ hf (bM g.lc nofun nofun) e'
variable{odd:OD}
theorem yp{bk:Bool}(g:GU u)(hc:∀x ∈ cue,Let x)(e:eT bk cue ++ (al odd).drop 1=bc bk u):(al odd).drop 1=(al u.2.1).drop 1:=by
 cases bk with
 |true =>
  have e2:aH cue ++ 62 :: (32 :: (al odd).drop 1)=bc true u:=by rw[<-e];unfold eT;simp
  obtain⟨_,e3⟩:=qH g (bM hc nofun nofun) e2
  injection e3 with _ e4
 |false=>exact e
def Cl(x:Str):Prop:=∀c ∈ x.cps.toList,c ≠ 32/\c ≠ 58
theorem zl{bk:Bool}(hc:∀x ∈ cue,Let x)(h1:odd ≠ [])(h2:∀x ∈ odd,Cl x)(h3:¬GN odd):¬Acc bk (eT bk cue ++ (al odd).drop 1 ++ 58 :: t):=fun a=>by
 have f58:58 ∉ eT bk cue ++ (al odd).drop 1:=fun z=>by
  rcases List.mem_append.mp z with z |z
  ·exact t0 hc nofun nofun nofun z
  ·obtain⟨x,hx,z⟩:=List.mem_flatMap.mp (Kc z)
   rcases List.mem_cons.mp z with z |z
   ·cases z
   ·exact(h2 x hx 58 z).2 rfl
 obtain⟨u,g,e1,_⟩:=nT a f58
 have e2:=yp g hc e1
 have e3:=eA h1 g.gn.ne (fun x hx z=>(h2 x hx 32 z).1 rfl) (fB g.ln) e2
 exact h3 (by rw[e3];exact g.gn)
def vg(t:OJ):Prop:=∀ws,GW ws->t ≠ al ws
theorem jQ{bk:Bool}{h:OJ}(hf:58 ∉ h)(ht:vg t):¬Acc bk (h ++ 58 :: t):=fun a=>by
 obtain⟨u,g,_,e⟩:=nT a hf
 exact ht _ g.gw e
theorem u_:vg []:=fun ws g e=>by rw[gS g.ne]at e;cases e
theorem re(h:c ≠ 32):vg (c :: r):=fun ws g e=>by
 rw[gS g.ne]at e
 injection e with e1 _
 exact h e1
variable{ps:OD}
theorem jj(h:ll ps)(hx:x ∈ ps)(hb:isT 12 x=false):vg (al ps):=fun ws g e=>by
 have:=pF h (fB fun y hy=>eh (g.wd y hy)) e
 rw[this]at hx
 rw[g.wd x hx]at hb
 cases hb
theorem eJ(hc:c ∈ t)(h1:c ≠ 32)(h2:c < 97):vg t:=fun ws g e=>by
 rw[e]at hc
 exact eC (fun y hy=>eh (g.wd y hy)) h1 h2 hc
theorem rg(as bs:OD):al (as ++ bs)=al as ++ al bs:=by simp[al]
theorem eg(M:Int):isT M (mk [])=false:=Bool.eq_false_iff.mpr fun z=>sj z rfl
theorem oW:32 ∉ (mk []).cps.toList:=by simp[mk]
theorem A1{bk:Bool}(h:58 ∉ l):¬Acc bk l:=fun a=>h (GC a)
theorem rc{bk:Bool}(g:GU u):¬Acc bk (32 :: bC bk u):=fun a=>by
 have f58:58 ∉ 32 :: bc bk u:=fun z=>by
  rcases List.mem_cons.mp z with z |z
  ·cases z
  ·exact gA g.lc g.ln z
 obtain⟨v,gv,e1,_⟩:=nT (h:=32 :: bc bk u) (t:=al u.2.2) (by exact a) f58
 cases bk with
 |true =>
  have e2:(32 :: aH u.1) ++ 62 :: (32 :: (al u.2.1).drop 1)=bc true v:=by rw[<-e1];unfold bc eT;simp
  obtain⟨e3,_⟩:=qH gv (fun z=>by
   rcases List.mem_cons.mp z with z |z
   ·cases z
   ·exact bM g.lc nofun nofun z) e2
  have e4:aH (mk [] :: u.1)=aH v.1:=by rw[dH];exact e3
  have e5:=jP (fun x hx=>by
   rcases List.mem_cons.mp hx with rfl |hx
   ·exact oW
   ·exact fB g.lc x hx) (fB gv.lc) e4
  have:=gv.cue (mk []) (by rw[<-e5];exact Jq)
  rw[eg]at this;cases this
 |false =>
  have e2:(al (mk [] :: u.2.1)).drop 1=(al v.2.1).drop 1:=by
   rw[aZ]
   show [] ++ al u.2.1=_
   rw[Jl,gS g.gn.ne]
   exact e1
  have e5:=eA (by simp) gv.gn.ne (fun x hx=>by
   rcases List.mem_cons.mp hx with rfl |hx
   ·exact oW
   ·exact fB g.ln x hx) (fB gv.ln) e2
  have:=gv.gn.nm (mk []) (by rw[<-e5];exact Jq)
  rw[eg]at this;cases this
theorem Cb{bk:Bool}:¬Acc bk (58 :: t):=fun a=>by
 obtain⟨v,gv,e1,_⟩:=nT (h:=[]) (t:=t) a (by simp)
 have hn:(al v.2.1).drop 1=[]:=by
  have:=JR List.length e1
  unfold bc at this
  rw[Jo]at this
  exact List.length_eq_zero_iff.mp (by simp at this ⊢;omega)
 have e5:=eA (ns:=[mk []]) (by simp) gv.gn.ne (fun x hx=>by rw[List.mem_singleton.mp hx];exact oW) (fB gv.ln) (by rw[hn];rfl)
 have:=gv.gn.nm (mk []) (by rw[<-e5];exact Jq)
 rw[eg]at this;cases this
theorem ub(l s:OJ):Txt.partition (mk l) (mk s)=(mk l,mk [],mk [])\/∃a b,l=a ++ s ++ b/\Txt.partition (mk l) (mk s)=(mk a,mk s,mk b):=by
 have h3:=StrLaws.occ_spec (mk l) (mk s) 0 (mk l).length 1
 unfold Txt.partition
 cases ho:occurrences (mk l) (mk s) 0 (mk l).length 1 with
 |nil=>exact .inl rfl
 |cons i r =>
  rw[ho]at h3
  right
  obtain⟨h1,h2⟩:=rf.mp (h3 i (.head _))
  refine⟨l.take i,l.drop (i + s.length),?_,?_⟩
  ·conv=>lhs;rw[<-LP i l,<-LP s.length (l.drop i),h2,List.drop_drop]
   rw[Kg]
  ·show(strSub (mk l) 0 i,mk s,strSub (mk l) (i + (mk s).length) (mk l).length)=_
   rw[mz,mz,aY,aY]
   rw[LV,Nat.sub_zero,Ko (l:=l.drop (i + s.length)) (by rw[JE];omega)]
theorem xZ(l:OJ):∃ps:List Str,Txt.split (mk l) (mk [32])=ps/\ps ≠ []/\ll ps/\l=(al ps).drop 1:=by
 have h1:=StrLaws.join_split (mk l) ⟨#[32]⟩
 have h2:=StrLaws.split_free (mk l) 32
 have h3:=split_len (mk l) 32
 have e0:(⟨#[32]⟩:Str)=mk [32]:=rfl
 rw[e0]at h1 h2 h3
 generalize Txt.split (mk l) (mk [32])=ps at h1 h2 h3
 have Nk:ps ≠ []:=fun z=>by
  rw[z]at h3
  have:=sH 32 (mk l).cps.toList
  rw[Jh]at h3
  omega
 refine⟨ps,rfl,Nk,h2,?_⟩
 rw[<-L1]at h1
 have h4:=oU ps
 exact(r8.mp (h4.symm.trans h1)).symm
theorem mZ:∀ps:List Str,ps.length<=(al ps).length/\∀x ∈ ps,x.length<=(al ps).length
 | []=>⟨Ks _,fun x hx=>by cases hx⟩
 |p :: ps=>by
  obtain⟨h1,h2⟩:=mZ ps
  rw[aZ,Jg,Jg,Jo,<-cg]
  refine⟨⋯,fun x hx=>?_⟩
  rcases List.mem_cons.mp hx with rfl |hx
  ·omega
  ·have:=h2 x hx;omega
theorem tm(h:l=(al ps).drop 1)(hl:l.length<=700):ps.length<=701/\∀x ∈ ps,x.length<=701:=by
 obtain⟨h1,h2⟩:=mZ ps
 have e:=JR List.length h
 rw[JE]at e
 exact⟨⋯,fun x hx=>by have:=h2 x hx;omega⟩
theorem gF(l:OJ)(hl:l.length<=700):∃ps:List Str,fo (.str (mk l)) (.str (mk [32]))=some (.lst (ps.map D.str))/\ps ≠ []/\ll ps/\l=(al ps).drop 1/\ps.length<=701/\∀x ∈ ps,x.length<=701:=by
 obtain⟨ps,h1,h2,h3,h4⟩:=xZ l
 obtain⟨h5,h6⟩:=tm h4 hl
 exact⟨ps,mB h1 nofun ⋯,h2,h3,h4,h5,h6⟩
theorem CC(h1:ss.length<=1000)(h2:∀x ∈ ss,x.length<=1000):Sh.Sm1 (.tup (ss.map D.str)):=Sh.zU (by rw[Jm];exact h1) fun d hd=>by
 obtain⟨x,hx,rfl⟩:=List.mem_map.mp hd
 exact Sh.nJ (h2 x hx)
theorem DG(h:sk (.tup (ns.map D.str))=true):GN ns:=by
 have h':(decide (1<=((ns.map D.str).length:Int)) && (decide (((ns.map D.str).length:Int)<=8) && ((ns.map D.str).all (isL 8) && mE (iW (ns.map D.str)))))=true:=h
 simp only[JG,KQ,Jm,kL,Kt]at h'
 obtain⟨a,b,c,d⟩:=h'
 exact⟨fun z=>by rw[z]at a;simp at a,⋯,fun n hn=>c _ (List.mem_map.mpr ⟨n,hn,rfl⟩),(lD _).mp d⟩
theorem DD(h:uE (.tup (ns.map D.str))=true):GW ns:=by
 have h':(decide (0 < ((ns.map D.str).length:Int)) && (ns.map D.str).all (isL 12))=true:=h
 simp only[JG,KQ,Jm,Kt]at h'
 obtain⟨a,c⟩:=h'
 exact⟨fun z=>by rw[z]at a;simp at a,fun n hn=>c _ (List.mem_map.mpr ⟨n,hn,rfl⟩)⟩
theorem DH(h:GN ns):sk (.tup (ns.map D.str))=true:=by
 show(decide (1<=((ns.map D.str).length:Int)) && (decide (((ns.map D.str).length:Int)<=8) && ((ns.map D.str).all (isL 8) && mE (iW (ns.map D.str)))))=true
 have h1:=eV h.ne
 have h3:=h.le
 rw[kL,(lD _).mpr h.ris,km h.nm,Jm,JD ⋯,JD ⋯]
 rfl
theorem DF(h:GW ns):uE (.tup (ns.map D.str))=true:=by
 show(decide (0 < ((ns.map D.str).length:Int)) && (ns.map D.str).all (isL 12))=true
 have h1:=eV h.ne
 rw[km h.wd,Jm,JD ⋯]
 rfl
theorem wz(h:ps ≠ [])(e:(al ps).drop 1=[]):ps=[mk []]:=by
 cases ps with
 |nil=>exact absurd rfl h
 |cons p ps =>
  rw[aZ]at e
  have e1:p.cps.toList ++ al ps=[]:=e
  obtain⟨e2,e3⟩:=List.append_eq_nil_iff.mp e1
  have e4:ps=[]:=by
   cases ps with
   |nil=>rfl
   |cons q qs=>rw[aZ]at e3;cases e3
  rw[e4,<-iE p,e2]
theorem q_:(al (cue ++ [mk []])).drop 1=aH cue:=by
 cases cue with
 |nil=>rfl
 |cons c cue =>
  rw[ji (by simp),rg,aZ]
  simp[al,mk]
namespace Wk
theorem lX(a b c:D):atI [a,b,c] 0=some a:=rfl
theorem HJ(a b c:D):atI [a,b,c] 1=some b:=rfl
theorem ny(a b c:D):atI [a,b,c] 2=some c:=rfl
theorem xq(a b:D):atI [a,b] 0=some a:=rfl
theorem Bz(a b:D):atI [a,b] 1=some b:=rfl
theorem iZ(l:OJ)(hl:l.length<=700):∃r,aP [.str (mk l)]=some r/\(r=.non\/∃ns ws,GN ns/\GW ws/\r=bb (ns,ws)/\l=(al ns).drop 1 ++ 58 :: al ws):=by
 have go:∀(a b:OJ) (m:Str),Txt.partition (mk l) (mk [58,32])=(mk a,m,mk b)->a.length<=700->b.length<=700->(∀ws,GW ws->b=(al ws).drop 1->l=a ++ 58 :: al ws)->∃r,aP [.str (mk l)]=some r/\(r=.non\/∃ns ws,GN ns/\GW ws/\r=bb (ns,ws)/\l=(al ns).drop 1 ++ 58 :: al ws):=by
  intro a b m hp ha hb hlw
  have hpd:=iB hp nofun ⋯
  obtain⟨ns,s1,n1,f1,e1,z1,z2⟩:=gF a ha
  obtain⟨ws,s2,n2,f2,e2,z3,z4⟩:=gF b hb
  have hs:=Sh.mC (d:=.tup [.tup (ns.map D.str),.tup (ws.map D.str)]) (Sh.wQ (CC ⋯ fun x hx=>by have:=z2 x hx;omega) (CC ⋯ fun x hx=>by have:=z4 x hx;omega))
  have key:aP [.str (mk l)]=some (if v6 (.tup [.tup (ns.map D.str),.tup (ws.map D.str)])=true then .tup [.tup (ns.map D.str),.tup (ws.map D.str)] else .non):=by
   refine aM ?_
   simp! [aP,fS,cc,kl,hpd,lX,ny,s1,s2,hs]
   cases v6 (.tup [.tup (ns.map D.str),.tup (ws.map D.str)]) with
   |true=>simp! []
   |false=>simp! []
  cases hsp:v6 (.tup [.tup (ns.map D.str),.tup (ws.map D.str)]) with
  |false =>
   rw[hsp]at key
   exact⟨_,key,.inl rfl⟩
  |true =>
   rw[hsp]at key
   have Oc:(sk (.tup (ns.map D.str)) && uE (.tup (ws.map D.str)))=true:=hsp
   rw[JG]at Oc
   have gn:=DG Oc.1
   have gw:=DD Oc.2
   exact⟨_,key,.inr ⟨ns,ws,gn,gw,rfl,by rw[<-e1];exact hlw ws gw e2⟩⟩
 rcases ub l [58,32] with hp |⟨a,b,e,hp⟩
 ·refine go l [] (mk []) hp hl (by simp) fun ws gw e=>?_
  have:=wz gw.ne e.symm
  have h0:=gw.wd (mk []) (by rw[this];exact Jq)
  rw[eg]at h0;cases h0
 ·have hla:=JR List.length e
  simp only[Jo,Jg,Jh]at hla
  refine go a b _ hp ⋯ ⋯ fun ws gw e2=>?_
  rw[e,e2,gS gw.ne];simp
theorem n5(d:D)(h:lU d=false):aP [d]=some .non:=by
 refine aM ?_
 cases d with
 |str x=>cases h
 |_=>simp! [aP,fS]
theorem zb(d:D)(h:lU d=false):bq [d]=some .non:=by
 refine aM ?_
 cases d with
 |str x=>cases h
 |_=>simp! [bq,dI]
theorem sQ{α:Type}(xs:List α)(x:α):atI (xs ++ [x]) (-1)=some x:=L2.Cd xs x
theorem zc(l:OJ)(hl:l.length<=700):∃r,bq [.str (mk l)]=some r/\(r=.non\/∃cue ns ws,ll cue/\cue.length<=701/\(∀x ∈ cue,x.length<=701)/\GN ns/\GW ws/\r=jf (cue,ns,ws)/\l=aH cue ++ 62 :: 32 :: ((al ns).drop 1 ++ 58 :: al ws)):=by
 rcases ub l [62,32] with hp |⟨a,b,e,hp⟩
 ·have hpd:=iB (l:=l) (a:=l) (c:=[]) hp nofun ⋯
  obtain⟨r,hr,hr2⟩:=iZ [] (by simp)
  have hn:r=.non:=by
   rcases hr2 with hr2 |⟨ns,ws,_,_,_,e⟩
   ·exact hr2
   ·exact absurd (JR List.length e) (by simp)
  subst hn
  obtain⟨ps,s1,_⟩:=gF l hl
  refine⟨.non,?_,.inl rfl⟩
  refine aM ?_
  simp! [bq,dI,cc,eU,hpd,lX,ny,s1,hr]
 ·have hla:=JR List.length e
  simp only[Jo,Jg,Jh]at hla
  have hpd:=iB hp nofun ⋯
  obtain⟨r,hr,hr2⟩:=iZ b ⋯
  obtain⟨ps,s1,n1,f1,e1,z1,z2⟩:=gF a ⋯
  obtain⟨cue,x,rfl⟩:∃cue x,ps=cue ++ [x]:=⟨ps.dropLast,ps.getLast n1,(List.dropLast_concat_getLast n1).symm⟩
  rcases hr2 with rfl |⟨ns,ws,gn,gw,rfl,e2⟩
  ·refine⟨.non,?_,.inl rfl⟩
   refine aM ?_
   simp! [bq,dI,cc,eU,hpd,lX,ny,s1,hr]
  ·by_cases hx:x=mk []
   ·subst hx
    refine⟨_,?_,.inr ⟨cue,ns,ws,fun y hy=>f1 y (JU _ hy),by rw[Jo]at z1;omega,fun y hy=>z2 y (JU _ hy),gn,gw,rfl,?_⟩⟩
    ·have MF:cN (cue.map D.str ++ [D.str (mk [])]) none (some (-1))=cue.map D.str:=by rw[uY];simp
     have hne:decide (mk ([]:OJ)=mk [])=true:=JD rfl
     simp only[bb,cF]at hr
     rw[JT,Ji,Jj]at s1
     refine aM ?_
     simp! [bq,dI,db,cc,eU,hpd,lX,ny,s1,hr,sQ,hne,MF,xq,Bz]
     rfl
    ·rw[e,e1,q_,e2];simp
   ·refine⟨.non,?_,.inl rfl⟩
    have hne:decide (x=mk [])=false:=JA hx
    simp only[bb,cF]at hr
    rw[JT,Ji,Jj]at s1
    refine aM ?_
    simp! [bq,dI,db,cc,eU,hpd,lX,ny,s1,hr,sQ,hne]
theorem si(name:Str):cY [.str name,.non]=some (.bl false):=by
 refine aM ?_
 simp! [cY,jk]
theorem v5(h1:cue.length<=1000)(h2:∀x ∈ cue,x.length<=1000):lY [.tup (cue.map D.str)]=some (.bl ((cue.map D.str).all (isL 12))):=by
 have M5:=Sh.mi (ds:=cue.map D.str) (by rw[Jm];omega) fun d hd=>by
  obtain⟨x,hx,rfl⟩:=List.mem_map.mp hd
  exact Sh.nJ (h2 x hx)
 refine aM ?_
 simp! [lY,pq,M5]
theorem lS(one:Str)(cue ns ws:OD)(h1:cue.length<=1000)(h2:∀x ∈ cue,x.length<=1000)(gn:GN ns)(gw:GW ws)(wl:ws.length<=1000):cY [.str one,jf (cue,ns,ws)]=some (.bl ((cue.map D.str).all (isL 12) && decide (one ∈ ns))):=by
 have M0:=v5 h1 h2
 have hN:=Sh.uo (CC (ss:=ns) (Jy gn.le nofun) fun x hx=>by have:=lT (gn.nm x hx);omega)
 have hW:=Sh.sV (CC (ss:=ws) wl fun x hx=>by have:=lT (gw.wd x hx);omega)
 rw[DH gn]at hN
 rw[DF gw]at hW
 have Mp:∀a b c:D,(([a,b,c]:OK).length:Int)=3:=fun a b c=>rfl
 have hd3:decide (((3:Nat):Int)=3)=true:=by decide
 refine aM ?_
 simp! [cY,jk,jf,cF,lX,HJ,ny,Mp,hd3,M0,hN,hW,nO]
 cases(cue.map D.str).all (isL 12) with
 |false=>simp! [Ld]
 |true =>
  cases hd:decide (one ∈ ns) with
  |false=>simp! [LB]
  |true=>simp! [LB]
end Wk
theorem EN:∀c ∈ List.range' 97 26,Unicode.upperOf c=[c - 32]:=by decide +kernel
theorem xt:∀(l:OJ),(∀c ∈ l,97<=c/\c<=122)->(l.map fun c=>(Unicode.upperOf c)).flatten=l.map fun c=>c - 32
 | [],_=>rfl
 |c :: l,h=>by
  have h1:=h c (.head _)
  rw[Ji,Lu,xt l fun x hx=>h x (.tail _ hx),EN c (by rw[List.mem_range'_1];omega)]
  rfl
theorem xT(h:Let x):Txt.upper x=mk (x.cps.toList.map fun c=>c - 32):=by
 rw[<-iE (Txt.upper x)]
 congr 1
 show((x.cps.mapIdx fun _ c=>(Unicode.upperOf c).toArray).flatten).toList=_
 rw[Array.toList_flatten,Array.toList_mapIdx]
 have e:(x.cps.toList.mapIdx fun _ c=>(Unicode.upperOf c).toArray)=x.cps.toList.map fun c=>(Unicode.upperOf c).toArray:=by
  apply List.ext_getElem?
  intro i
  rw[List.getElem?_mapIdx,JH]
 rw[e,Kk]
 exact xt _ h
theorem One.last{k:Nat}(h:One l s k):Txt.rpartition (mk l) (mk s)=(mk (l.take k),mk s,mk (l.drop (k + s.length))):=by
 unfold Txt.rpartition
 rcases StrLaws.last_spec (mk l) (mk s) with⟨_,h2⟩ |⟨i,h1,h2,_⟩
 ·exact absurd (rf.mpr ((h k).mpr rfl)) (h2 k)
 ·rw[h1,(h i).mp (rf.mp h2)]
  show(strSub (mk l) 0 k,mk s,strSub (mk l) (k + (mk s).length) (mk l).length)=_
  rw[mz,mz,aY,aY]
  rw[LV,Nat.sub_zero,Ko (l:=l.drop (k + s.length)) (by rw[JE];omega)]
theorem vx(h:c ∉ l):Txt.rpartition (mk l) (mk (c :: s))=(mk [],mk [],mk l):=by
 unfold Txt.rpartition
 rcases StrLaws.last_spec (mk l) (mk (c :: s)) with⟨h1,_⟩ |⟨i,_,h2,_⟩
 ·rw[h1];rfl
 ·have e:=(rf.mp h2).2
  have:c ∈ (l.drop i).take (c :: s).length:=by rw[e];exact Jq
  exact absurd (Kc (JX this)) h
theorem qq{c:OJ}(h:Txt.rpartition (mk l) (mk s)=(mk a,b,mk c))(hs:1<=s.length)(hl:l.length<=1000000):rE (.str (mk l)) (.str (mk s))=some (.tup [.str (mk a),.str b,.str (mk c)]):=by
 show(if((mk s).length == 0)=false/\(mk l).length<=sizeLine then some (D.tup [.str (Txt.rpartition (mk l) (mk s)).1,.str (Txt.rpartition (mk l) (mk s)).2.1,.str (Txt.rpartition (mk l) (mk s)).2.2]) else none)=_
 rw[if_pos ⟨by rw[aY];exact beq_eq_false_iff_ne.mpr ⋯,by rw[aY];exact gV ⋯⟩,h]
theorem fH{α:Type}(f:α->D)(L:List α)(i:Int)(h0:0<=i)(h1:i < L.length):∃a ∈ L,atI (L.map f) i=some (f a):=by
 have hl:i.toNat < L.length:=by omega
 refine⟨L[i.toNat],Kf hl,?_⟩
 rw[fJ h0 (by rw[Jm];exact h1),JH,Jr hl];rfl
theorem IN:Str.ofString "a1" = mk [97,49]:=by decide
theorem HF:Str.ofString "abcdefghi" = mk [97,98,99,100,101,102,103,104,105]:=by decide
theorem HE:Str.ofString "a-b" = mk [97,45,98]:=by decide
theorem ya:gG (mk [97,98,99,100,101,102,103,104,105])=([97,98,99,100,101,102,103,104,105].map fun c=>mk [c]).map D.str:=by rfl
def AZ(n:Str)(nr:OD):List (List Str):=[if nr.length + 1=1 then [n,n] else(n :: nr).reverse,n :: n :: nr,[mk [],n],[],[Txt.upper n],[mk [97,49]],[mk [97,98,99,100,101,102,103,104,105]],[n,mk []],n :: nr ++ [mk [97,45,98]],[97,98,99,100,101,102,103,104,105].map fun c=>mk [c]]
theorem put_own{k f:OF}{E:DE}{ds:OK}{v:D}(h6:E[i]? = some (.own (.lst ds)))(hv:f E=some v)(hk:k E=some (.int (j:Int)))(hj:j < ds.length):iz i k f E=some (.nx (E.set i (.own (.lst (ds.set j v))))):=by
 unfold iz
 have e:ixN ds.length (j:Int)=some j:=by
  unfold ixN
  rw[if_pos ⋯,if_pos ⋯,KS]
 simp only[h6,hv,hk,e,Jd,Jf]
abbrev fm(ss:OD):D:=.lst (ss.map D.str)
namespace Wk
theorem rV(n:Str)(nr:OD)(c:Int)(hn:n.length<=5000)(hl:nr.length<=1000):∃odd ∈ AZ n nr,∀r,g_ (.str (mk [32])) (fm odd)=some r->dX [fm (n :: nr),.int c]=some r:=by
 have m0:0<=c % 10:=by omega
 have m1:c % 10 < 10:=by omega
 obtain⟨odd,ho,ha⟩:=fH fm (AZ n nr) (c % 10) m0 m1
 refine⟨odd,ho,fun r hr=>?_⟩
 have hu:upD (.str n)=some (.str (Txt.upper n)):=if_pos hn
 have hls:vW (.str (mk [97,98,99,100,101,102,103,104,105]))=some (.lst (([97,98,99,100,101,102,103,104,105].map fun c=>mk [c]).map D.str)):=by
  rw[<-ya];rfl
 have h0:∀(a:D) (l:OK),atI (a :: l) 0=some a:=fun a l=>fJ (LA 0) (by rw[Jg];omega)
 have hA:(AZ n nr).map fm=[.lst ((if nr.length + 1=1 then [n,n] else(n :: nr).reverse).map D.str),fm (n :: n :: nr),fm [mk [],n],fm [],fm [Txt.upper n],fm [mk [97,49]],fm [mk [97,98,99,100,101,102,103,104,105]],fm [n,mk []],fm (n :: nr ++ [mk [97,45,98]]),fm ([97,98,99,100,101,102,103,104,105].map fun c=>mk [c])]:=rfl
 rw[hA]at ha
 refine aM ?_
 simp! [dX,ip,fm,Ji,cc,db,IN,HF,HE,hu,hls,h0,E4,vb,Jg,Jm]
 rw[gT (by simp only[Jg,Jh,Jm];omega)]
 simp! []
 rw[gT (by simp only[Jg,Jh,Jm];omega)]
 simp! []
 refine cp (fun h=>?_) fun h=>?_
 ·rw[if_pos ⋯]at ha
  simp only[fm,Ji,Jj,Jk,JT]at ha hr
  have hp:∀(a b:D) (l:OK),iz 2 (cst (D.int 0)) (bu (aa (bin ixE (ae 0) (cst (D.int 0))) (aa (bin ixE (ae 0) (cst (D.int 0))) aj))) [Sl.val (D.lst (a :: List.map D.str nr)),Sl.val (D.int c),Sl.own (D.lst (b :: l))]=some (.nx [Sl.val (D.lst (a :: List.map D.str nr)),Sl.val (D.int c),Sl.own (D.lst (D.lst [a,a] :: l))]):=fun a b l=>by
   have hv:(bu (aa (bin ixE (ae 0) (cst (D.int 0))) (aa (bin ixE (ae 0) (cst (D.int 0))) aj))) [Sl.val (D.lst (a :: List.map D.str nr)),Sl.val (D.int c),Sl.own (D.lst (b :: l))]=some (D.lst [a,a]):=by
    refine aM ?_
    simp! [h0]
   exact put_own (i:=2) (k:=cst (D.int 0)) (ds:=b :: l) (j:=0) rfl hv rfl (Nat.succ_pos _)
  simp! [↓hp,ha,hr]
 ·rw[if_neg ⋯]at ha
  rw[List.map_reverse]at ha
  simp only[fm,Ji,Jj,Jk,JT]at ha hr
  simp! [h0,ha,hr]
end Wk
structure zw (odd:OD):Prop where
 ne:odd ≠ []
 cl:∀x ∈ odd,Cl x
 no:¬GN odd
 le:odd.length<=9
 small:∀x ∈ odd,x.length<=12
theorem Let.cl(h:Let x):Cl x:=fun c hc=>by have:=h c hc;omega
theorem wo:Cl (mk []):=fun c hc=>by cases hc
theorem xJ(h:(l.all fun c=>c != 32 && c != 58)=true):Cl (mk l):=fun c hc=>by
 rw[cX]at hc
 have:=List.all_eq_true.mp h c hc
 simpa using this
theorem eE{M:Int}(h:isT M x=true)(hM:M<=12):x.length<=12:=by have:=lT h;omega
theorem rW(hx:x ∈ odd)(h:isT 8 x=false):¬GN odd:=fun g=>by rw[g.nm x hx]at h;cases h
theorem AY{n:Str}{nr:OD}(g:GN (n :: nr))(h:odd ∈ AZ n nr):(odd.length<=9/\∀x ∈ odd,x.length<=12)/\∃o,zw o/\(al odd).drop 1=(al o).drop 1:=by
 have hn:isT 8 n=true:=g.nm n (.head _)
 have ln:=eh hn
 have sn:=eE hn nofun
 have lr:∀x ∈ n :: nr,Let x/\x.length<=12:=fun x hx=>⟨eh (g.nm x hx),eE (g.nm x hx) nofun⟩
 have gl:=g.le
 rw[Jg]at gl
 have self:∀o:List Str,zw o->(o.length<=9/\∀x ∈ o,x.length<=12)/\∃o',zw o'/\(al o).drop 1=(al o').drop 1:=fun o h=>⟨⟨h.le,h.small⟩,o,h,rfl⟩
 have pair:∀(a b:Str),Cl a->Cl b->a.length<=12->b.length<=12->¬GN [a,b]->zw [a,b]:=fun a b h1 h2 h3 h4 h5=>⟨by simp,fun x hx=>by
  rcases List.mem_cons.mp hx with rfl |hx
  ·exact h1
  ·rw[List.mem_singleton.mp hx];exact h2,h5,by simp,fun x hx=>by
  rcases List.mem_cons.mp hx with rfl |hx
  ·exact h3
  ·rw[List.mem_singleton.mp hx];exact h4⟩
 have one:∀a:Str,Cl a->a.length<=12->isT 8 a=false->zw [a]:=fun a h1 h3 h5=>⟨by simp,fun x hx=>by rw[List.mem_singleton.mp hx];exact h1,rW Jq h5,by simp,fun x hx=>by rw[List.mem_singleton.mp hx];exact h3⟩
 unfold AZ at h
 simp only[Kn,Ka,K4]at h
 rcases h with rfl |rfl |rfl |rfl |rfl |rfl |rfl |rfl |rfl |rfl
 ·split
  ·exact self _ (pair n n ln.cl ln.cl sn sn fun z=>by
    have:=z.ris
    rw[List.pairwise_cons]at this
    exact eB n (this.1 n Jq))
  ·rename_i h1
   refine self _ ⟨by simp,fun x hx=>(lr x (List.mem_reverse.mp hx)).1.cl,fun z=>?_,by rw[LZ,Jg];omega,fun x hx=>(lr x (List.mem_reverse.mp hx)).2⟩
   have h2:=List.pairwise_reverse.mp z.ris
   have h3:=g.ris
   cases nr with
   |nil=>exact h1 rfl
   |cons m nr =>
    have a:=(List.pairwise_cons.mp h2).1 m Jq
    have b:=(List.pairwise_cons.mp h3).1 m Jq
    exact eB n (List.lt_trans (show n.cps.toList < m.cps.toList from b) (show m.cps.toList < n.cps.toList from a))
 ·refine self _ ⟨by simp,fun x hx=>?_,fun z=>?_,by rw[Jg,Jg];omega,fun x hx=>?_⟩
  ·rcases List.mem_cons.mp hx with rfl |hx
   ·exact ln.cl
   ·exact(lr x hx).1.cl
  ·exact eB n ((List.pairwise_cons.mp z.ris).1 n Jq)
  ·rcases List.mem_cons.mp hx with rfl |hx
   ·exact sn
   ·exact(lr x hx).2
 ·exact self _ (pair _ _ wo ln.cl (by rw[aY];simp) sn (rW Jq (eg 8)))
 ·exact⟨⟨by simp,fun x hx=>by cases hx⟩,[mk []],one _ wo (by rw[aY];simp) (eg 8),rfl⟩
 ·rw[xT ln]
  refine self _ (one _ (fun c hc=>?_) (by rw[aY,Jm,<-cg];exact sn) (Di fun z=>?_))
  ·rw[cX]at hc
   obtain⟨d,hd,rfl⟩:=List.mem_map.mp hc
   have:=ln d hd
   omega
  ·obtain⟨d,hd⟩:=List.exists_mem_of_ne_nil _ (sj hn)
   have h1:=z (d - 32) (by rw[cX];exact List.mem_map.mpr ⟨d,hd,rfl⟩)
   have h2:=ln d hd
   omega
 ·exact self _ (one _ (xJ nofun) (by rw[aY];decide) nofun)
 ·exact self _ (one _ (xJ nofun) (by rw[aY];decide) nofun)
 ·exact self _ (pair _ _ ln.cl wo sn (by rw[aY];simp) (rW (Jt _ Jq) (eg 8)))
 ·refine self _ ⟨by simp,fun x hx=>?_,rW (x:=mk [97,45,98]) (by simp) nofun,by simp;omega,fun x hx=>?_⟩
  ·rcases List.mem_append.mp hx with hx |hx
   ·exact(lr x hx).1.cl
   ·rw[List.mem_singleton.mp hx];exact xJ nofun
  ·rcases List.mem_append.mp hx with hx |hx
   ·exact(lr x hx).2
   ·rw[List.mem_singleton.mp hx,aY];decide
 ·refine self _ ⟨by simp,fun x hx=>?_,fun z=>by have:=z.le;simp at this,by simp,fun x hx=>?_⟩
  ·obtain⟨c,hc,rfl⟩:=List.mem_map.mp hx
   refine xJ ?_
   simp only[Kn,Ka,K4]at hc
   rcases hc with rfl |rfl |rfl |rfl |rfl |rfl |rfl |rfl |rfl <;> rfl
  ·obtain⟨c,hc,rfl⟩:=List.mem_map.mp hx
   rw[aY];simp
namespace Wk
theorem rT(g:GN ns)(c:Int):∃odd,zw odd/\dX [fm ns,.int c]=some (.str (mk ((al odd).drop 1))):=by
 cases ns with
 |nil=>exact absurd rfl g.ne
 |cons n nr =>
  have gl:=g.le
  rw[Jg]at gl
  obtain⟨odd,ho,he⟩:=rV n nr c (Jy (eE (g.nm n (.head _)) nofun) nofun) ⋯
  obtain⟨⟨h1,h2⟩,o,h3,h4⟩:=AY g ho
  exact⟨o,h3,by rw[<-h4];exact he _ (gk ⋯ h2)⟩
end Wk
theorem IM:Str.ofString "  " = mk [32,32]:=by decide
theorem IP:Str.ofString " Be" = mk [32,66,101]:=by decide
theorem IL:Str.ofString " b3" = mk [32,98,51]:=by decide
theorem Hz:Str.ofString "\t" = mk [9]:=by decide
theorem IQ:Str.ofString " abcdefghijklm" = mk [32,97,98,99,100,101,102,103,104,105,106,107,108,109]:=by decide
theorem HB:Str.ofString " be\tor" = mk [32,98,101,9,111,114]:=by decide
theorem IJ:Str.ofString " be\n" = mk [32,98,101,10]:=by decide
theorem HD:Str.ofString " be, or" = mk [32,98,101,44,32,111,114]:=by decide
theorem IC:Str.ofString " >" = mk [32,62]:=by decide
def AV(w:OJ):List (List Nat):=[[],[32],[32,32] ++ w,[32] ++ w ++ [32],w,[32] ++ w ++ [58],[32,66,101],[32,98,51],[9] ++ w,[32,97,98,99,100,101,102,103,104,105,106,107,108,109],[32] ++ w ++ [32,32] ++ w,[32,98,101,9,111,114],[32,98,101,10],[32,98,101,44,32,111,114],[32,62]]
abbrev mkS(l:OJ):D:=.str (mk l)
theorem frW{ws:List (List Nat)}(h:(ws.all fun l=>l.all fun c=>c != 32)=true):ll (ws.map mk):=fun x hx z=>by
 obtain⟨l,hl,rfl⟩:=List.mem_map.mp hx
 rw[cX]at z
 have:=List.all_eq_true.mp (List.all_eq_true.mp h l hl) 32 z
 simp at this
theorem frL(h:∀x ∈ ws,Let x\/x=mk []):ll ws:=fun x hx z=>by
 rcases h x hx with h1 |h1
 ·have:=h1 32 z;omega
 ·rw[h1]at z;exact oW z
theorem AU{w:Str}(hw:isT 12 w=true)(h:t ∈ AV w.cps.toList):vg t/\t.length<=30:=by
 have lw:=eh hw
 have sl:=eE hw nofun
 rw[cg]at sl
 unfold AV at h
 simp only[Kn,Ka,K4]at h
 have e1:al [mk [],w]=[32,32] ++ w.cps.toList:=by rw[aZ,aZ];simp[al,mk]
 have e2:al [w,mk []]=[32] ++ w.cps.toList ++ [32]:=by rw[aZ,aZ];simp[al,mk]
 have e3:al [w,mk [],w]=[32] ++ w.cps.toList ++ [32,32] ++ w.cps.toList:=by rw[aZ,aZ,aZ];simp[al,mk]
 have two:∀ps:List Str,(∀x ∈ ps,x=w\/x=mk [])->mk [] ∈ ps->vg (al ps):=fun ps h h2=>jj (frL fun x hx=>by
  rcases h x hx with rfl |h
  ·exact .inl lw
  ·exact .inr h) h2 (eg 12)
 rcases h with rfl |rfl |rfl |rfl |rfl |rfl |rfl |rfl |rfl |rfl |rfl |rfl |rfl |rfl |rfl
 ·exact⟨u_,by simp⟩
 ·exact⟨two [mk []] (by simp) (by simp),by simp⟩
 ·exact⟨by rw[<-e1];exact two _ (by simp) (by simp),by simp only[Jo,Jg,Jh];omega⟩
 ·exact⟨by rw[<-e2];exact two _ (by simp) (by simp),by simp only[Jo,Jg,Jh];omega⟩
 ·refine⟨?_,⋯⟩
  cases hl:w.cps.toList with
  |nil=>exact absurd hl (sj hw)
  |cons c r=>exact re fun z=>by have:=lw c (by rw[hl];exact Jq);omega
 ·exact⟨eJ (c:=58) (by simp) nofun nofun,by simp only[Jo,Jg,Jh];omega⟩
 ·exact⟨eJ (c:=66) (by simp) nofun nofun,by simp⟩
 ·exact⟨eJ (c:=51) (by simp) nofun nofun,by simp⟩
 ·exact⟨re nofun,by simp only[Jo,Jg,Jh];omega⟩
 ·exact⟨jj (ps:=[[97,98,99,100,101,102,103,104,105,106,107,108,109]].map mk) (frW nofun) (x:=mk [97,98,99,100,101,102,103,104,105,106,107,108,109]) (by simp) nofun,by simp⟩
 ·exact⟨by rw[<-e3];exact two _ (by simp) (by simp),by simp only[Jo,Jg,Jh];omega⟩
 ·exact⟨eJ (c:=9) (by simp) nofun nofun,by simp⟩
 ·exact⟨eJ (c:=10) (by simp) nofun nofun,by simp⟩
 ·exact⟨eJ (c:=44) (by simp) nofun nofun,by simp⟩
 ·exact⟨eJ (c:=62) (by simp) nofun nofun,by simp⟩
namespace Wk
theorem rS(w:OJ)(wr:OD)(c:Int)(hw:w.length<=12):∃t ∈ AV w,dW [fm (mk w :: wr),.int c]=some (mkS t):=by
 have m0:0<=c % 15:=by omega
 have m1:c % 15 < 15:=by omega
 obtain⟨t,ho,ha⟩:=fH mkS (AV w) (c % 15) m0 m1
 refine⟨t,ho,?_⟩
 have h0:∀(a:D) (l:OK),atI (a :: l) 0=some a:=fun a l=>fJ (LA 0) (by rw[Jg];omega)
 have hA:(AV w).map mkS=[mkS [],mkS [32],mkS ([32,32] ++ w),mkS ([32] ++ w ++ [32]),mkS w,mkS ([32] ++ w ++ [58]),mkS [32,66,101],mkS [32,98,51],mkS ([9] ++ w)] ++ [mkS [32,97,98,99,100,101,102,103,104,105,106,107,108,109],mkS ([32] ++ w ++ [32,32] ++ w),mkS [32,98,101,9,111,114],mkS [32,98,101,10],mkS [32,98,101,44,32,111,114],mkS [32,62]]:=rfl
 rw[hA]at ha
 have a1:ay (mkS [32,32]) (mkS w)=some (mkS ([32,32] ++ w)):=aG (by simp;omega)
 have a2:ay (mkS [32]) (mkS w)=some (mkS ([32] ++ w)):=aG (by simp;omega)
 have a3:ay (mkS ([32] ++ w)) (mkS [32])=some (mkS ([32] ++ w ++ [32])):=aG (by simp;omega)
 have a4:ay (mkS ([32] ++ w)) (mkS [58])=some (mkS ([32] ++ w ++ [58])):=aG (by simp;omega)
 have a5:ay (mkS [9]) (mkS w)=some (mkS ([9] ++ w)):=aG (by simp;omega)
 have a6:ay (mkS ([32] ++ w)) (mkS [32,32])=some (mkS ([32] ++ w ++ [32,32])):=aG (by simp;omega)
 have a7:ay (mkS ([32] ++ w ++ [32,32])) (mkS w)=some (mkS ([32] ++ w ++ [32,32] ++ w)):=aG (by simp;omega)
 have a8:∀x0 x1 x2 x3 x4 x5 x6 x7 x8 y0 y1 y2 y3 y4 y5:D,ay (.lst [x0,x1,x2,x3,x4,x5,x6,x7,x8]) (.lst [y0,y1,y2,y3,y4,y5])=some (.lst ([x0,x1,x2,x3,x4,x5,x6,x7,x8] ++ [y0,y1,y2,y3,y4,y5])):=fun _ _ _ _ _ _ _ _ _ _ _ _ _ _ _=>gT (by simp)
 simp only[mkS,Jk,Jl]at a1 a2 a3 a4 a5 a6 a7 a8 ha
 refine aM ?_
 simp! [dW,io,fm,Ji,h0,db,cc,iO,IM,IP,IL,Hz,IQ,HB,IJ,HD,IC,↓a1,↓a2,↓a3,↓a4,↓a5,↓a6,↓a7,↓a8,ha]
theorem rR(g:GW ws)(c:Int):∃t,dW [fm ws,.int c]=some (mkS t)/\vg t/\t.length<=30:=by
 cases ws with
 |nil=>exact absurd rfl g.ne
 |cons w wr =>
  have hw:=g.wd w (.head _)
  have sl:=eE hw nofun
  rw[cg]at sl
  obtain⟨t,ht,he⟩:=rS w.cps.toList wr c sl
  rw[iE]at he
  obtain⟨h1,h2⟩:=AU hw ht
  exact⟨t,he,h1,h2⟩
end Wk
def qa(bk:Bool)(d:D):Prop:=lU d=false\/∃l,d=mkS l/\l.length<=700/\¬Acc bk l
theorem t_{bk:Bool}(g:GU u)(hl:(bC bk u).length<=500):kD (mkS (bC bk u)) (mkS [58])=some (.tup [mkS (bc bk u),mkS [58],mkS (al u.2.2)]):=by
 have h:One (bC bk u) [58] (bc bk u).length:=by
  have:=mG (c:=58) (a:=bc bk u) (s1:=[]) (s2:=[]) (b:=al u.2.2) (by rw[JZ];exact gA g.lc g.ln) (eC g.lw nofun nofun)
  have e:bc bk u ++ ([] ++ 58 :: []) ++ al u.2.2=bC bk u:=by unfold bC;simp
  rw[e]at this
  exact this
 have hp:=h.part
 obtain⟨e1,e2⟩:=@D2 (bc bk u) [58] (al u.2.2)
 have e:bc bk u ++ [58] ++ al u.2.2=bC bk u:=by unfold bC;simp
 rw[e]at e1 e2
 rw[e1,e2]at hp
 exact iB hp nofun ⋯
theorem vy{bk:Bool}(g:GU u)(hl:(bC bk u).length<=500):∃p1 p2,rE (mkS (bc bk u)) (mkS [62,32])=some (.tup [mkS p1,mkS p2,mkS ((al u.2.1).drop 1)])/\p1 ++ p2=eT bk u.1:=by
 have hl2:(bc bk u).length<=1000000:=by
  unfold bC at hl
  rw[Jo]at hl
  omega
 cases bk with
 |false =>
  refine⟨[],[],?_,rfl⟩
  have:Txt.rpartition (mk (bc false u)) (mk [62,32])=(mk [],mk [],mk ((al u.2.1).drop 1)):=vx (dO g.ln nofun nofun)
  exact qq this nofun hl2
 |true =>
  refine⟨aH u.1,[62,32],?_,rfl⟩
  have h:One (bc true u) [62,32] (aH u.1).length:=by
   have:=mG (c:=62) (a:=aH u.1) (s1:=[]) (s2:=[32]) (b:=(al u.2.1).drop 1) (by rw[JZ];exact bM g.lc nofun nofun) (fun z=>by
    rcases List.mem_cons.mp z with z |z
    ·cases z
    ·exact dO g.ln nofun nofun z)
   exact this
  have hp:=h.last
  obtain⟨e1,e2⟩:=@D2 (aH u.1) [62,32] ((al u.2.1).drop 1)
  have e:aH u.1 ++ [62,32] ++ (al u.2.1).drop 1=bc true u:=rfl
  rw[e]at e1 e2
  rw[e1,e2]at hp
  exact qq hp nofun hl2
def AX(bk:Bool)(u:En):List (List Nat):=[[],bc bk u,bc bk u ++ al u.2.2,58 :: al u.2.2,32 :: bC bk u,bC bk u ++ [32],bC bk u ++ [58],bc bk u ++ [58,32],bc bk u ++ [58]]
theorem AW{bk:Bool}(g:GU u)(hl:(bC bk u).length<=500)(h:l ∈ AX bk u):l.length<=700/\¬Acc bk l:=by
 have hf:=gA (bk:=bk) g.lc g.ln
 have hr:bC bk u=bc bk u ++ 58 :: al u.2.2:=rfl
 have hz:(bc bk u).length + (al u.2.2).length + 1<=500:=by
  rw[hr,Jo,Jg]at hl;omega
 unfold AX at h
 simp only[Kn,Ka,K4]at h
 rcases h with rfl |rfl |rfl |rfl |rfl |rfl |rfl |rfl |rfl
 ·exact⟨by simp,A1 (by simp)⟩
 ·exact⟨⋯,A1 hf⟩
 ·refine⟨by rw[Jo];omega,A1 fun z=>?_⟩
  rcases List.mem_append.mp z with z |z
  ·exact hf z
  ·exact eC g.lw nofun nofun z
 ·exact⟨by rw[Jg];omega,Cb⟩
 ·exact⟨by rw[Jg];omega,rc g⟩
 ·refine⟨by rw[Jo,JJ];omega,?_⟩
  rw[hr,Kg,Jk]
  refine jQ hf ?_
  have e:al (u.2.2 ++ [mk []])=al u.2.2 ++ [32]:=by rw[rg];rfl
  rw[<-e]
  exact jj (frL fun x hx=>by
   rcases List.mem_append.mp hx with hx |hx
   ·exact .inl (g.lw x hx)
   ·exact .inr (List.mem_singleton.mp hx)) (x:=mk []) (by simp) (eg 12)
 ·refine⟨by rw[Jo,JJ];omega,?_⟩
  rw[hr,Kg,Jk]
  exact jQ hf (eJ (c:=58) (by simp) nofun nofun)
 ·refine⟨by rw[Jo];simp;omega,jQ (t:=[32]) hf ?_⟩
  exact jj (ps:=[mk []]) (frL fun x hx=>.inr (List.mem_singleton.mp hx)) (x:=mk []) (by simp) (eg 12)
 ·exact⟨by rw[Jo,JJ];omega,jQ (t:=[]) hf u_⟩
theorem IB:Str.ofString "\n\t" = mk [10,9]:=by decide
namespace Wk
theorem oB{bk:Bool}(g:GU u)(hl:(bC bk u).length<=500)(c:Int):∃d,b8 [mkS (bC bk u),.int c]=some d/\qa bk d:=by
 have hp:=t_ g hl
 obtain⟨p1,p2,hq,MM⟩:=vy g hl
 have hr:bC bk u=bc bk u ++ 58 :: al u.2.2:=rfl
 have hd:bc bk u=eT bk u.1 ++ (al u.2.1).drop 1:=rfl
 have hz:(bc bk u).length + (al u.2.2).length + 1<=500:=by
  rw[hr,Jo,Jg]at hl;omega
 have hz2:(eT bk u.1).length + ((al u.2.1).drop 1).length=(bc bk u).length:=by rw[hd,Jo]
 have hz3:p1.length + p2.length=(eT bk u.1).length:=by rw[<-MM,Jo]
 have n12:∀x ∈ u.2.1,x.length<=12:=fun x hx=>eE (g.gn.nm x hx) nofun
 have w12:∀x ∈ u.2.2,x.length<=12:=fun x hx=>eE (g.gw.wd x hx) nofun
 have hs:fo (mkS ((al u.2.1).drop 1)) (mkS [32])=some (fm u.2.1):=ge g.gn.ne (Jy g.gn.le nofun) g.ln n12
 obtain⟨odd,ho,hon⟩:=rT g.gn (c / 5)
 obtain⟨t,hot,htb,htl⟩:=rR g.gw (c / 5)
 have hsw:fo (mkS ((al u.2.2).drop 1)) (mkS [32])=some (fm u.2.2):=by
  refine mB (m6 g.gw.ne g.lw) nofun ?_
  rw[JE];omega
 have hol:=cO (ws:=odd) ho.small
 have Oo:=ho.le
 have MF:cN (al u.2.2) (some 1) none=(al u.2.2).drop 1:=e9 (al u.2.2) 1
 have a1:ay (mkS p1) (mkS p2)=some (mkS (eT bk u.1)):=by rw[<-MM];exact aG ⋯
 have a2:ay (mkS (eT bk u.1)) (mkS ((al odd).drop 1))=some (mkS (eT bk u.1 ++ (al odd).drop 1)):=aG (by rw[JE];omega)
 have a3:ay (mkS (eT bk u.1 ++ (al odd).drop 1)) (mkS [58])=some (mkS (eT bk u.1 ++ (al odd).drop 1 ++ [58])):=aG (by rw[Jo,JE];simp;omega)
 have a4:ay (mkS (eT bk u.1 ++ (al odd).drop 1 ++ [58])) (mkS (al u.2.2))=some (mkS (eT bk u.1 ++ (al odd).drop 1 ++ [58] ++ al u.2.2)):=aG (by rw[Jo,Jo,JE];simp;omega)
 have b1:ay (mkS (bc bk u)) (mkS [58])=some (mkS (bc bk u ++ [58])):=aG (by simp;omega)
 have b2:ay (mkS (bc bk u ++ [58])) (mkS t)=some (mkS (bc bk u ++ [58] ++ t)):=aG (by rw[Jo];simp;omega)
 have hsl:(al u.2.2).length<=16777216:=by omega
 have hzr:(bC bk u).length<=16777216:=by omega
 generalize hR:bC bk u=R at hp hzr hl
 generalize hH:bc bk u=Hd at *
 generalize hW:al u.2.2=Wd at *
 generalize hN:(al u.2.1).drop 1=Nm at *
 generalize hO:(al odd).drop 1=Od at *
 generalize hP:eT bk u.1=Pr at *
 simp only[mkS]at hp hq hs hot hsw a1 a2 a3 a4 b1 b2 hon
 refine b_.mp ?_
 simp! [b8,jV,db,cc,iO,kl,eU,↓hp,↓hq,↓hs]
 have e0:bC bk u=Hd ++ 58 :: Wd:=hr
 refine cp (fun h=>?_) fun h=>?_
 ·simp only[fm]at hon
  simp! [↓a1,↓a2,↓a3,↓a4,↓hon]
  refine .inr ⟨_,rfl,?_,?_⟩
  ·simp only[Jo,JJ]
   have:Od.length<=117:=by rw[<-hO,JE];omega
   omega
  ·rw[<-hP,<-hO,<-hW,Kg _ [58],List.singleton_append]
   exact zl g.lc ho.ne ho.cl ho.no
 simp! []
 refine cp (fun h=>?_) fun h=>?_
 ·simp only[fm]at hot hsw
  simp! [i4 hsl,MF,↓hsw,↓hot,↓b1,↓b2]
  refine .inr ⟨_,rfl,?_,?_⟩
  ·simp only[Jo,JJ];omega
  ·rw[Kg,List.singleton_append]
   exact jQ (by rw[<-hH];exact gA g.lc g.ln) htb
 simp! []
 refine cp (fun h=>?_) fun h=>?_
 ·have m0:0<=c / 5 % 9:=by omega
  have m1:c / 5 % 9 < 9:=by omega
  obtain⟨l,ho',ha⟩:=fH mkS (AX bk u) (c / 5 % 9) m0 m1
  obtain⟨q1,q2⟩:=AW g (by rw[hR];exact hl) ho'
  have hA:(AX bk u).map mkS=[mkS [],mkS Hd,mkS (Hd ++ Wd),mkS (58 :: Wd),mkS (32 :: R),mkS (R ++ [32]),mkS (R ++ [58]),mkS (Hd ++ [58,32]),mkS (Hd ++ [58])]:=by
   unfold AX
   rw[hR,hH,hW];rfl
  rw[hA]at ha
  have c1:ay (mkS Hd) (mkS Wd)=some (mkS (Hd ++ Wd)):=aG ⋯
  have c2:ay (mkS [58]) (mkS Wd)=some (mkS (58 :: Wd)):=aG (a:=[58]) (by simp;omega)
  have c3:ay (mkS [32]) (mkS R)=some (mkS (32 :: R)):=aG (a:=[32]) (by simp;omega)
  have c4:ay (mkS R) (mkS [32])=some (mkS (R ++ [32])):=aG (by simp;omega)
  have c5:ay (mkS R) (mkS [58])=some (mkS (R ++ [58])):=aG (by simp;omega)
  have c6:ay (mkS Hd) (mkS [58,32])=some (mkS (Hd ++ [58,32])):=aG (by simp;omega)
  simp only[mkS]at c1 c2 c3 c4 c5 c6 ha
  simp! [db,cc,iO,kl,↓c1,↓c2,↓c3,↓c4,↓c5,↓c6,↓b1,ha]
  exact .inr ⟨l,rfl,q1,q2⟩
 simp! []
 refine cp (fun h=>?_) fun h=>?_
 ·have m0:0<=c / 5 % 6:=by omega
  have m1:c / 5 % 6 < 6:=by omega
  obtain⟨d,hd',ha⟩:=fH (fun d:D=>d) [.non,.int 7,.lst [mkS R],.tup [mkS R],.bl true,.dic []] (c / 5 % 6) m0 m1
  rw[Lg]at ha
  simp only[mkS]at ha
  simp! [sE,ha]
  left
  simp only[Kn,Ka,K4]at hd'
  rcases hd' with rfl |rfl |rfl |rfl |rfl |rfl <;> rfl
 simp! []
 have Mp:bh (mkS R)=some (.int (R.length:Int)):=xj hzr
 have M9:gc [D.int (R.length:Int)]=some ((List.range R.length).map fun i:Nat=>D.int (0 + (i:Int))):=by
  rw[cH ⋯ ⋯,KS];rfl
 obtain⟨zs,hzs,MQ⟩:=lb (fun i:Nat=>D.int (0 + (i:Int))) (fun i:Nat=>D.int (0 + (i:Int))) (i:=12) (cf:=tst (bin eqO (bin ixE (ae 0) (ae 12)) (cst (D.str (mk [32]))))) (ef:=var 12) (E:=[Sl.val (mkS R),Sl.val (D.int c),Sl.val (D.str (mk Hd)),Sl.val (D.str (mk [58])),Sl.val (D.str (mk Wd)),Sl.val (D.str (mk p1)),Sl.val (D.str (mk p2)),Sl.val (D.str (mk Nm)),Sl.val (fm u.snd.fst),Sl.no,Sl.no,Sl.no,Sl.no]) (List.range R.length) fun k hk=>by
  have hk':=List.mem_range.mp hk
  refine⟨decide (mk [R.getD k 0]=mk [32]),?_,rfl⟩
  have hi:=v0 (l:=R) (i:=(0 + (k:Int))) hzr ⋯ ⋯
  rw[show(0 + (k:Int)).toNat=k by omega]at hi
  refine aM ?_
  simp! [hi]
 have hsl:=MQ.length_le
 rw[JV]at hsl
 have hap:ay (D.lst (zs.map fun i:Nat=>D.int (0 + (i:Int)))) (D.lst [D.int (R.length:Int)])=some (.lst ((zs ++ [R.length]).map fun i:Nat=>D.int (0 + (i:Int)))):=by
  rw[gT (by rw[Jm,JJ];omega),JT]
  simp
 have hL:(((zs ++ [R.length]).map fun i:Nat=>D.int (0 + (i:Int))).length:Int)=((zs.length + 1:Nat):Int):=by rw[Jm,Jo,JJ]
 have hLp:(0:Int) < ((zs.length + 1:Nat):Int):=by omega
 obtain⟨a,ha1,ha2⟩:=fH (fun i:Nat=>D.int (0 + (i:Int))) (zs ++ [R.length]) (c / 10 % ((zs.length + 1:Nat):Int)) (Kb _ ⋯) (by rw[Jo,JJ];exact J8 _ hLp)
 have hal:a<=R.length:=by
  rcases List.mem_append.mp ha1 with h1 |h1
  ·have:=List.mem_range.mp (MQ.subset h1);omega
  ·rw[List.mem_singleton.mp h1];exact Jw _
 have n0:0<=c / 5 % 2:=by omega
 have n1:c / 5 % 2 < 2:=by omega
 have hch:=v0 (l:=[10,9]) (i:=c / 5 % 2) nofun n0 n1
 have M2:([10,9]:OJ).getD (c / 5 % 2).toNat 0=10\/([10,9]:OJ).getD (c / 5 % 2).toNat 0=9:=by
  have:(c / 5 % 2).toNat=0\/(c / 5 % 2).toNat=1:=by omega
  rcases this with e |e <;> rw[e]
  ·exact .inl rfl
  ·exact .inr rfl
 generalize ([10,9]:OJ).getD (c / 5 % 2).toNat 0=ch at hch M2
 have hc1:cN R none (some (0 + (a:Int)))=R.take a:=by rw[Lm,la]
 have hc2:cN R (some (0 + (a:Int) + 1)) none=R.drop (a + 1):=by
  rw[show(0:Int) + (a:Int) + 1=((a + 1:Nat):Int) by omega,e9]
 have d1:ay (mkS (R.take a)) (mkS [ch])=some (mkS (R.take a ++ [ch])):=aG (by rw[JQ];simp;omega)
 have d2:ay (mkS (R.take a ++ [ch])) (mkS (R.drop (a + 1)))=some (mkS (R.take a ++ [ch] ++ R.drop (a + 1))):=aG (by rw[Jo,JQ,JE];simp;omega)
 simp only[mkS]at Mp hzs d1 d2
 have hrz:((List.range R.length).map fun i:Nat=>D.int (0 + (i:Int))).length<=16777216:=by rw[Jm,JV];omega
 simp! [mkS,Mp,M9,jo hrz,hzs,hap,hL,bW hLp,ha2,i4 hzr,hc1,hc2,IB,hch,↓d1,↓d2]
 refine .inr ⟨_,rfl,?_,pG (c:=ch) (by simp) (by rcases M2 with e |e <;> omega) (by rcases M2 with e |e <;> omega) (by rcases M2 with e |e <;> omega) (by rcases M2 with e |e <;> omega)⟩
 simp only[Jo,JQ,JE,JJ];omega
end Wk
def spS(u:En):List Nat:=(al u.2.1).drop 1 ++ 58 :: al u.2.2
theorem dE(u:En):bC true u=aH u.1 ++ 62 :: 32 :: spS u:=by unfold bC bc eT spS;simp
theorem wP(g:GU u):∃c r,spS u=c :: r/\97<=c:=by
 cases hn:u.2.1 with
 |nil=>exact absurd hn g.gn.ne
 |cons n nr =>
  have hm:n ∈ u.2.1:=by rw[hn];exact Jq
  have h1:=sj (g.gn.nm n hm)
  cases hl:n.cps.toList with
  |nil=>exact absurd hl h1
  |cons c r =>
   refine⟨c,r ++ al nr ++ 58 :: al u.2.2,?_,(g.ln n hm c (by rw[hl];exact Jq)).1⟩
   unfold spS
   rw[hn,aZ,hl];simp
theorem rn(g:GU u)(h1:c ≠ 32)(h2:c ≠ 58)(h3:c < 97):c ∉ spS u:=fun z=>by
 rcases List.mem_append.mp z with z |z
 ·exact dO g.ln h1 h3 z
 ·rcases List.mem_cons.mp z with z |z
  ·exact h2 z
  ·exact eC g.lw h1 h3 z
def NoB(name:Str)(i:Nat)(l:OJ):Prop:=∀v,GU v->l=bC true v->name ∈ v.2.1->(0 < i->v.1 ≠ [])->False
variable{name:Str}
theorem mK(h:¬Acc true l):NoB name i l:=fun v g e _ _=>h ⟨v,g,e⟩
theorem A3(h:62 ∉ l):NoB name i l:=fun v g e _ _=>h (by rw[e,dE];exact JB _ Jq)
theorem lO(hf:62 ∉ a)(h:∀v,GU v->a=aH v.1->r=32 :: spS v->name ∈ v.2.1->False):NoB name i (a ++ 62 :: r):=fun v g e hn _=>by
 rw[dE]at e
 obtain⟨e1,e2⟩:=uZ hf (bM g.lc nofun nofun) e
 exact h v g e1 e2 hn
theorem rY(hf:62 ∉ aH cue)(h32:ll cue)(hx:x ∈ cue)(hb:isT 12 x=false):NoB name i (aH cue ++ 62 :: r):=lO hf fun v g e _ _=>by
 have e1:=jP h32 (fB g.lc) e
 rw[e1]at hx
 rw[g.cue x hx]at hb
 cases hb
theorem ID:Str.ofString "> > " = mk [62,32,62,32]:=by decide
theorem II:Str.ofString "Be > " = mk [66,101,32,62,32]:=by decide
theorem IH:Str.ofString "be> " = mk [98,101,62,32]:=by decide
theorem IG:Str.ofString "be  > " = mk [98,101,32,32,62,32]:=by decide
theorem IF:Str.ofString "be\t> " = mk [98,101,9,62,32]:=by decide
theorem IE:Str.ofString "abcdefghijklm > " = mk [97,98,99,100,101,102,103,104,105,106,107,108,109,32,62,32]:=by decide
theorem HA:Str.ofString "3 > " = mk [51,32,62,32]:=by decide
theorem k_a:Str.ofString "a" = mk [97]:=by decide
theorem F9:Str.ofString "< " = mk [60,32]:=by decide
theorem IK:Str.ofString "be " = mk [98,101,32]:=by decide
def Df(u:En)(name:OJ):List (List Nat):=[aH u.1 ++ [62] ++ spS u,aH u.1 ++ spS u,aH u.1 ++ [62,32,62,32] ++ spS u,[32] ++ bC true u,[66,101,32,62,32] ++ spS u,[98,101,62,32] ++ spS u,[98,101,32,32,62,32] ++ spS u,[98,101,9,62,32] ++ spS u,[97,98,99,100,101,102,103,104,105,106,107,108,109,32,62,32] ++ spS u,[32,62,32] ++ spS u,[51,32,62,32] ++ spS u,
 aH u.1 ++ [62,32] ++ name ++ [97] ++ 58 :: al u.2.2,aH u.1 ++ [60,32] ++ spS u,[98,101,32] ++ spS u]
theorem A0(g:GU u)(Mz:name ∈ u.2.1)(hl:(bC true u).length<=500)(i:Nat)(h:l ∈ Df u name.cps.toList):l.length<=700/\NoB name i l:=by
 have hb:=bM (c:=62) g.lc nofun nofun
 have hz:(aH u.1).length + (spS u).length + 2<=500:=by
  rw[dE]at hl
  simp only[Jo,Jg]at hl;omega
 have hsw:(al u.2.2).length<=(spS u).length:=by
  unfold spS
  simp only[Jo,Jg];omega
 have nl:=eE (g.gn.nm name Mz) nofun
 rw[cg]at nl
 have s62:62 ∉ spS u:=rn g nofun nofun nofun
 have ra:∀a b c:List Nat,a ++ b ++ c=a ++ (b ++ c):=fun a b c=>Kg a b c
 unfold Df at h
 simp only[Kn,Ka,K4]at h
 rcases h with rfl |rfl |rfl |rfl |rfl |rfl |rfl |rfl |rfl |rfl |rfl |rfl |rfl |rfl
 ·refine⟨by simp only[Jo,Jg,Jh];omega,?_⟩
  rw[ra]
  refine lO hb fun v gv _ e2 _=>?_
  obtain⟨c,r,e3,h97⟩:=wP g
  have e2':spS u=32 :: spS v:=e2
  rw[e3]at e2'
  injection e2' with e4 _
  omega
 ·refine⟨by simp only[Jo];omega,A3 fun z=>?_⟩
  rcases List.mem_append.mp z with z |z
  ·exact hb z
  ·exact s62 z
 ·refine⟨by simp only[Jo,Jg,Jh];omega,?_⟩
  rw[ra]
  refine lO hb fun v gv _ e2 _=>?_
  obtain⟨c,r,e3,h97⟩:=wP gv
  have e2':32 :: 62 :: 32 :: spS u=32 :: spS v:=e2
  rw[e3]at e2'
  injection e2' with _ e4
  injection e4 with e5 _
  omega
 ·exact⟨by simp only[Jo,Jg,Jh];omega,mK (rc g)⟩
 ·exact⟨by simp only[Jo,Jg,Jh];omega,mK (pG (c:=66) (by simp) nofun nofun nofun nofun)⟩
 ·refine⟨by simp only[Jo,Jg,Jh];omega,?_⟩
  refine lO (a:=[98,101]) (r:=32 :: spS u) nofun fun v gv e1 _ _=>?_
  cases hv:v.1 with
  |nil=>rw[hv]at e1;cases e1
  |cons x r =>
   rw[ji (by rw[hv];simp)]at e1
   have:=JR List.getLast? e1
   rw[List.getLast?_append]at this
   cases this
 ·exact⟨by simp only[Jo,Jg,Jh];omega,rY (cue:=[mk [98,101],mk []]) (r:=32 :: spS u) nofun (frW (ws:=[[98,101],[]]) nofun) (x:=mk []) (by simp) (eg 12)⟩
 ·exact⟨by simp only[Jo,Jg,Jh];omega,mK (pG (c:=9) (by simp) nofun nofun nofun nofun)⟩
 ·exact⟨by simp only[Jo,Jg,Jh];omega,rY (cue:=[mk [97,98,99,100,101,102,103,104,105,106,107,108,109]]) (r:=32 :: spS u) nofun (frW (ws:=[[97,98,99,100,101,102,103,104,105,106,107,108,109]]) nofun) (x:=mk [97,98,99,100,101,102,103,104,105,106,107,108,109]) (by simp) nofun⟩
 ·exact⟨by simp only[Jo,Jg,Jh];omega,rY (cue:=[mk []]) (r:=32 :: spS u) nofun (frW (ws:=[[]]) nofun) (x:=mk []) (by simp) (eg 12)⟩
 ·exact⟨by simp only[Jo,Jg,Jh];omega,mK (pG (c:=51) (by simp) nofun nofun nofun nofun)⟩
 ·refine⟨by simp only[Jo,Jg,Jh];omega,?_⟩
  have e0:aH u.1 ++ [62,32] ++ name.cps.toList ++ [97] ++ 58 :: al u.2.2=aH u.1 ++ 62 :: (32 :: (name.cps.toList ++ [97] ++ 58 :: al u.2.2)):=by simp
  rw[e0]
  refine lO hb fun v gv _ e2 hn=>?_
  injection e2 with _ e3
  have ln:=g.ln name Mz
  obtain⟨e4,_⟩:=uZ (c:=58) (a:=name.cps.toList ++ [97]) (b:=(al v.2.1).drop 1) (fun z=>by
   rcases List.mem_append.mp z with z |z
   ·have:=ln 58 z;omega
   ·cases List.mem_singleton.mp z) (dO gv.ln nofun nofun) e3
  have e5:(al [mk (name.cps.toList ++ [97])]).drop 1=(al v.2.1).drop 1:=by
   rw[<-e4,aZ];simp[al,mk]
  have e6:=eA (by simp) gv.gn.ne (fun x hx z=>by
   rw[List.mem_singleton.mp hx,cX]at z
   rcases List.mem_append.mp z with z |z
   ·have:=ln 32 z;omega
   ·cases List.mem_singleton.mp z) (fB gv.ln) e5
  rw[<-e6]at hn
  have e7:=JR (fun x=>x.length) (List.mem_singleton.mp hn)
  simp only[aY,Jo,JJ,<-cg]at e7
  omega
 ·exact⟨by simp only[Jo,Jg,Jh];omega,mK (pG (c:=60) (by simp) nofun nofun nofun nofun)⟩
 ·refine⟨by simp only[Jo,Jg,Jh];omega,A3 fun z=>?_⟩
  rcases List.mem_append.mp z with z |z
  ·exact absurd z nofun
  ·exact s62 z
namespace Wk
theorem ua(g:GU u)(hl:(bC true u).length<=500):kD (mkS (bC true u)) (mkS [62,32])=some (.tup [mkS (aH u.1),mkS [62,32],mkS (spS u)]):=by
 have e:aH u.1 ++ [62,32] ++ spS u=bC true u:=by rw[dE];simp
 have h:One (bC true u) [62,32] (aH u.1).length:=by
  have:=mG (c:=62) (a:=aH u.1) (s1:=[]) (s2:=[32]) (b:=spS u) (by rw[JZ];exact bM g.lc nofun nofun) (fun z=>by
   rcases List.mem_cons.mp z with z |z
   ·cases z
   ·exact rn g nofun nofun nofun z)
  rw[<-e]
  exact this
 have hp:=h.part
 obtain⟨e1,e2⟩:=@D2 (aH u.1) [62,32] (spS u)
 rw[e]at e1 e2
 rw[e1,e2]at hp
 exact iB hp nofun ⋯
theorem yW(g:GU u):v9 (mkS (spS u)) (mkS [58])=some (.int (((al u.2.1).drop 1).length:Nat)):=by
 have h:One (spS u) [58] ((al u.2.1).drop 1).length:=by
  have:=mG (c:=58) (a:=(al u.2.1).drop 1) (s1:=[]) (s2:=[]) (b:=al u.2.2) (by rw[JZ];exact dO g.ln nofun nofun) (eC g.lw nofun nofun)
  have e:(al u.2.1).drop 1 ++ ([] ++ 58 :: []) ++ al u.2.2=spS u:=by unfold spS;simp
  rw[e]at this
  exact this
 show(match Builtin.Str.occurrences (mk (spS u)) (mk [58]) 0 (mk (spS u)).length 1 with
  |i :: _=>some (D.int (i:Nat))
  | []=>none)=_
 rw[h.occ1]
theorem vQ(g:GU u)(Mz:name ∈ u.2.1)(hl:(bC true u).length<=500)(i:Nat)(c:Int):∃l,eG [mkS (bC true u),.int c,.str name]=some (mkS l)/\l.length<=700/\NoB name i l:=by
 have m0:0<=c % 14:=by omega
 have m1:c % 14 < 14:=by omega
 obtain⟨l,ho,ha⟩:=fH mkS (Df u name.cps.toList) (c % 14) m0 m1
 obtain⟨q1,q2⟩:=A0 g Mz hl i ho
 refine⟨l,?_,q1,q2⟩
 have hp:=ua g hl
 have hx:=yW g
 have nl:=eE (g.gn.nm name Mz) nofun
 rw[cg]at nl
 have hz:(aH u.1).length + (spS u).length + 2<=500:=by
  rw[dE]at hl
  simp only[Jo,Jg]at hl;omega
 have hdr:(spS u).drop ((al u.2.1).drop 1).length=58 :: al u.2.2:=by unfold spS;rw[LW]
 have hdl:(58 :: al u.2.2).length<=500:=by rw[<-hdr,JE];omega
 have hsl:slD (mkS (spS u)) (some (((al u.2.1).drop 1).length:Int)) none=some (mkS (58 :: al u.2.2)):=by
  rw[mkS,i4 ⋯,e9,hdr]
 unfold Df at ha
 rw[<-iE name]
 generalize name.cps.toList=nm at nl ha ⊢
 generalize 58 :: al u.2.2=T at hsl hdl ha
 generalize ((al u.2.1).drop 1).length=k at hsl hx
 generalize hB:aH u.1=B at hp hz ha
 generalize hS:spS u=S at *
 generalize hR:bC true u=R at *
 have b1:ay (mkS B) (mkS [62])=some (mkS (B ++ [62])):=aG (by simp;omega)
 have b2:ay (mkS (B ++ [62])) (mkS S)=some (mkS (B ++ [62] ++ S)):=aG (by simp;omega)
 have b3:ay (mkS B) (mkS S)=some (mkS (B ++ S)):=aG ⋯
 have b4:ay (mkS B) (mkS [62,32,62,32])=some (mkS (B ++ [62,32,62,32])):=aG (by simp;omega)
 have b5:ay (mkS (B ++ [62,32,62,32])) (mkS S)=some (mkS (B ++ [62,32,62,32] ++ S)):=aG (by simp;omega)
 have b6:ay (mkS [32]) (mkS R)=some (mkS ([32] ++ R)):=aG (by simp;omega)
 have c0:ay (mkS [66,101,32,62,32]) (mkS S)=some (mkS ([66,101,32,62,32] ++ S)):=aG (by simp;omega)
 have c1:ay (mkS [98,101,62,32]) (mkS S)=some (mkS ([98,101,62,32] ++ S)):=aG (by simp;omega)
 have c2:ay (mkS [98,101,32,32,62,32]) (mkS S)=some (mkS ([98,101,32,32,62,32] ++ S)):=aG (by simp;omega)
 have c3:ay (mkS [98,101,9,62,32]) (mkS S)=some (mkS ([98,101,9,62,32] ++ S)):=aG (by simp;omega)
 have c4:ay (mkS [97,98,99,100,101,102,103,104,105,106,107,108,109,32,62,32]) (mkS S)=some (mkS ([97,98,99,100,101,102,103,104,105,106,107,108,109,32,62,32] ++ S)):=aG (by simp;omega)
 have c5:ay (mkS [32,62,32]) (mkS S)=some (mkS ([32,62,32] ++ S)):=aG (by simp;omega)
 have c6:ay (mkS [51,32,62,32]) (mkS S)=some (mkS ([51,32,62,32] ++ S)):=aG (by simp;omega)
 have d1:ay (mkS B) (mkS [62,32])=some (mkS (B ++ [62,32])):=aG (by simp;omega)
 have d2:ay (mkS (B ++ [62,32])) (mkS nm)=some (mkS (B ++ [62,32] ++ nm)):=aG (by simp;omega)
 have d3:ay (mkS (B ++ [62,32] ++ nm)) (mkS [97])=some (mkS (B ++ [62,32] ++ nm ++ [97])):=aG (by simp;omega)
 have d4:ay (mkS (B ++ [62,32] ++ nm ++ [97])) (mkS T)=some (mkS (B ++ [62,32] ++ nm ++ [97] ++ T)):=aG (by simp;omega)
 have d5:ay (mkS B) (mkS [60,32])=some (mkS (B ++ [60,32])):=aG (by simp;omega)
 have d6:ay (mkS (B ++ [60,32])) (mkS S)=some (mkS (B ++ [60,32] ++ S)):=aG (by simp;omega)
 have d7:ay (mkS [98,101,32]) (mkS S)=some (mkS ([98,101,32] ++ S)):=aG (by simp;omega)
 have l1:∀x0 x1 x2 x3 x4 x5 y0 y1 y2 y3 y4:D,ay (.lst [x0,x1,x2,x3,x4,x5]) (.lst [y0,y1,y2,y3,y4])=some (.lst [x0,x1,x2,x3,x4,x5,y0,y1,y2,y3,y4]):=fun _ _ _ _ _ _ _ _ _ _ _=>gT (by simp)
 have l2:∀x0 x1 x2 x3 x4 x5 y0 y1 y2 y3 y4 z0 z1 z2:D,ay (.lst [x0,x1,x2,x3,x4,x5,y0,y1,y2,y3,y4]) (.lst [z0,z1,z2])=some (.lst [x0,x1,x2,x3,x4,x5,y0,y1,y2,y3,y4,z0,z1,z2]):=fun _ _ _ _ _ _ _ _ _ _ _ _ _ _=>gT (by simp)
 simp only[mkS,Jk,Jl,Ji,Jj]at hp hx hsl ha b1 b2 b3 b4 b5 b6 c0 c1 c2 c3 c4 c5 c6 d1 d2 d3 d4 d5 d6 d7
 refine aM ?_
 simp! [eG,jW,cc,iO,xh,eU,A7,ID,II,IH,IG,IF,IE,HA,k_a,F9,IK,↓hp,↓hx,↓hsl,↓b1,↓b2,↓b3,↓b4,↓b5,↓b6,↓c0,↓c1,↓c2,↓c3,↓c4,↓c5,↓c6,↓d1,↓d2,↓d3,↓d4,↓d5,↓d6,↓d7,↓l1,↓l2,ha]
end Wk
abbrev aJ(bk:Bool)(u:En):D:=mkS (bC bk u)
def SmR(d:D):Prop:=lU d=false\/∃l,d=mkS l/\l.length<=700
structure GR (bk:Bool) (u:En):Prop where
 g:GU u
 l:(bC bk u).length<=500
 wl:u.2.2.length<=8
theorem GR.sm{bk:Bool}(h:GR bk u):SmR (aJ bk u):=.inr ⟨_,rfl,Jy h.l nofun⟩
theorem qa.sm{bk:Bool}(h:qa bk d):SmR d:=by
 rcases h with h |⟨l,h1,h2,_⟩
 ·exact .inl h
 ·exact .inr ⟨l,h1,h2⟩
abbrev O9:=List En
theorem lu{bk:Bool}{Q:O9}(h:∀u ∈ Q,GR bk u):∀d ∈ Q.map (aJ bk),SmR d:=fun d hd=>by
 obtain⟨u,hu,rfl⟩:=List.mem_map.mp hd
 exact(h u hu).sm
namespace Wk
def wW:DE->Option Out :=
 (aw (aT 7 (bin a9 (bin aS (ae 1) (cst (.int 216))) (un bh (ae 4))))
 (aw (ifS (li (tst (bin eqO (bin a9 (bin aS (ae 1) (cst (.int 18))) (cst (.int 2))) (cst (.int 1)))) (li (tst (bin neO (ae 7) (ae 3))) (tst (isF "str" (bin ixE (ae 4) (ae 7))))))
 (aw (iz 4 (var 7) (aq 2 b8 (aa (bin ixE (ae 4) (ae 7)) (aa (bin aS (ae 1) (cst (.int 1000))) aj))))
 (aT 3 (wv nv (aa (var 3) (aa (var 7) aj)))))
 bf)
 (fun E=>(ba (fc (aa (var 4) (aa (var 3) aj)))) (fzE 4 E))))
abbrev l6:=(id rfl:mY=aw _ (aw _ (aw _ wW)))
def D9(bk:Bool)(P:O9)(x:D)(n:Nat)(d:D):Prop:=∃(P':O9) (x':D) (rest:OK),d=.tup [.lst (P'.map (aJ bk) ++ x' :: rest),.int (P'.length:Int)]/\((P'=P/\x'=x)\/((∃j,P'=P.take j)/\qa bk x'))/\(∀d ∈ rest,SmR d)/\P'.length + rest.length + 1=n
theorem CK{bk:Bool}{P Q:O9}{x nm r0:D}{c:Int}{s5 s6 s7:Sl}(hP:∀u ∈ P,GR bk u)(hQ:∀u ∈ Q,GR bk u)(hx:SmR x)(hl:P.length + Q.length<=100) :
  wp (wW [Sl.val r0,Sl.val (.int c),Sl.val nm,Sl.val (.int (P.length:Int)),Sl.own (.lst (P.map (aJ bk) ++ x :: Q.map (aJ bk))),s5,s6,s7]) (lC (D9 bk P x (P.length + Q.length + 1))):=by
 generalize hM:P.map (aJ bk) ++ x :: Q.map (aJ bk)=M
 have hML:M.length=P.length + Q.length + 1:=by rw[<-hM,Jo,Jg,Jm,Jm];omega
 have hLp:(0:Int) < (M.length:Int):=by omega
 have o0:0<=c / 216 % (M.length:Int):=Kb _ ⋯
 have o1:c / 216 % (M.length:Int) < (M.length:Int):=J8 _ hLp
 generalize hoI:c / 216 % (M.length:Int)=oI at o0 o1
 obtain⟨o,ho⟩:∃o:Nat,oI=o:=⟨oI.toNat,⋯⟩
 have hoM:o < M.length:=by omega
 have stay:D9 bk P x (P.length + Q.length + 1) (.tup [.lst M,.int (P.length:Int)]):=⟨P,x,Q.map (aJ bk),by rw[hM],.inl ⟨rfl,rfl⟩,lu hQ,by rw[Jm]⟩
 subst ho
 have go:o ≠ P.length->∃u,GR bk u/\atI M (o:Int)=some (aJ bk u)/\∀d,qa bk d->D9 bk P x (P.length + Q.length + 1) (.tup [.lst (M.set o d),.int (if(o:Int) < (P.length:Int) then(o:Int) else(P.length:Int))]):=fun hne=>by
  by_cases hlt:o < P.length
  ·refine⟨P[o],hP _ (Kf hlt),?_,fun d hd=>⟨P.take o,d,(P.drop (o + 1)).map (aJ bk) ++ x :: Q.map (aJ bk),?_,.inr ⟨⟨o,rfl⟩,hd⟩,fun e he=>?_,?_⟩⟩
   ·rw[fU,<-hM,Kr (by rw[Jm];exact hlt),JH,Jr hlt];rfl
   ·rw[if_pos ⋯,<-hM,List.set_append_left _ _ (by rw[Jm];exact hlt),L6,if_pos (by rw[Jm];exact hlt),K7,Lz,JQ,LO ⋯]
    simp
   ·rcases List.mem_append.mp he with he |he
    ·exact lu (fun u hu=>hP u (Kc hu)) e he
    ·rcases List.mem_cons.mp he with rfl |he
     ·exact hx
     ·exact lu hQ e he
   ·simp only[Jo,JQ,JE,Jm,Jg];omega
  ·obtain⟨j,ej,hj⟩:∃j,o - P.length=j + 1/\j < Q.length:=⟨o - P.length - 1,⋯,⋯⟩
   refine⟨Q[j],hQ _ (Kf hj),?_,fun d hd=>⟨P,x,(Q.map (aJ bk)).set j d,?_,.inl ⟨rfl,rfl⟩,fun e he=>?_,?_⟩⟩
   ·rw[fU,<-hM,Ki (by rw[Jm];omega),Jm,ej,Je,JH,Jr hj];rfl
   ·rw[if_neg ⋯,<-hM,List.set_append_right _ _ (by rw[Jm];omega),Jm,ej,KM]
   ·rcases List.mem_or_eq_of_mem_set he with he |he
    ·exact lu hQ e he
    ·rw[he];exact hd.sm
   ·rw[Ke,Jm]
 unfold wW
 simp! [bW hLp,hoI]
 by_cases h1:c / 18 % 2=1
 ·by_cases hne:o=P.length
  ·have Na:((o:Int)=(P.length:Int)):=by omega
   simp! [JD h1,JD Na,fzE]
   exact stay
  ·obtain⟨u,gu,hat,No⟩:=go hne
   obtain⟨d,hd,MW⟩:=oB gu.g gu.l (c / 1000)
   have Na:¬((o:Int)=(P.length:Int)):=by omega
   have MX:iz 4 (var 7) (aq 2 b8 (aa (bin ixE (ae 4) (ae 7)) (aa (bin aS (ae 1) (cst (.int 1000))) aj))) [Sl.val r0,Sl.val (.int c),Sl.val nm,Sl.val (.int (P.length:Int)),Sl.own (.lst M),s5,s6,Sl.val (.int (o:Int))]=some (.nx [Sl.val r0,Sl.val (.int c),Sl.val nm,Sl.val (.int (P.length:Int)),Sl.own (.lst (M.set o d)),s5,s6,Sl.val (.int (o:Int))]):=by
    have hv:(aq 2 b8 (aa (bin ixE (ae 4) (ae 7)) (aa (bin aS (ae 1) (cst (.int 1000))) aj))) [Sl.val r0,Sl.val (.int c),Sl.val nm,Sl.val (.int (P.length:Int)),Sl.own (.lst M),s5,s6,Sl.val (.int (o:Int))]=some d:=by
     refine aM ?_
     simp! [hat,aJ,hd]
    exact put_own (i:=4) (k:=var 7) (ds:=M) (j:=o) rfl hv rfl hoM
   have Of:nv [D.int (P.length:Int),D.int (o:Int)]=some (.int (if(o:Int) < (P.length:Int) then(o:Int) else(P.length:Int))):=rfl
   simp! [JD h1,JA Na,↓MX,hat,aJ,mkS,fzE,wv,Of]
   exact No d MW
 ·simp! [JA h1,fzE]
  exact stay
end Wk
def Ch(P:O9)(x:D):Prop:=lU x=false\/∃l,x=mkS l/\l.length<=700/\∀v,GU v->l=bC false v->v.2.2.length<=8/\∃u,P.getLast? = some u/\∃n ∈ v.2.1,n ∈ u.2.1
def Eb(name:Str)(P:O9)(x:D):Prop:=lU x=false\/∃l,x=mkS l/\l.length<=700/\NoB name P.length l
variable{P:O9}
theorem w9{x:D}(h:qa false x):Ch P x:=by
 rcases h with h |⟨l,h1,h2,h3⟩
 ·exact .inl h
 ·exact .inr ⟨l,h1,h2,fun v g e=>absurd ⟨v,g,e⟩ h3⟩
theorem sO{x:D}(h:qa true x):Eb name P x:=by
 rcases h with h |⟨l,h1,h2,h3⟩
 ·exact .inl h
 ·exact .inr ⟨l,h1,h2,mK h3⟩
def Res(bk:Bool)(us:O9)(B:List En->D->Prop)(d:D):Prop:=∃(P:O9) (x:D) (rest:OK),d=.tup [.lst (P.map (aJ bk) ++ x :: rest),.int (P.length:Int)]/\(∃j,P=us.take j)/\B P x/\(∀e ∈ rest,SmR e)/\P.length + rest.length<=us.length
theorem tQ{v:En}(g:GU v)(ne:ns ≠ [])(cl:∀x ∈ ns,Cl x)(fw:ll ws)(e:(al ns).drop 1 ++ 58 :: al ws=bC false v):ns=v.2.1/\ws=v.2.2:=by
 have f58:58 ∉ (al ns).drop 1:=fun z=>by
  obtain⟨x,hx,z⟩:=List.mem_flatMap.mp (Kc z)
  rcases List.mem_cons.mp z with z |z
  ·cases z
  ·exact(cl x hx 58 z).2 rfl
 obtain⟨e1,e2⟩:=uZ f58 (gA g.lc g.ln) e
 exact⟨eA ne g.gn.ne (fun x hx z=>(cl x hx 32 z).1 rfl) (fB g.ln) e1,pF fw (fB g.lw) e2⟩
theorem Iz:Str.ofString "zzzzzzzz" = mk [122,122,122,122,122,122,122,122]:=by decide
theorem F_:Str.ofString ": be or" = mk [58,32,98,101,32,111,114]:=by decide
theorem xW{α:Type}{us:List α}{a:Nat}(h:a < us.length):(us.take (a + 1)).getLast? = some us[a]:=by
 rw[Ln,Jr h];exact List.getLast?_concat
variable{us:O9}
theorem qf{bk:Bool}{a:Nat}(h:a < us.length)(d:D):(us.map (aJ bk)).set a d=(us.take a).map (aJ bk) ++ d :: (us.drop (a + 1)).map (aJ bk):=by
 rw[L6,if_pos (by rw[Jm];exact h),K7,Lz]
namespace Wk
variable{B:List En->D->Prop}
theorem As{bk:Bool}{x:D}(hB:B (us.take j) x)(hb:∀P x,qa bk x->B P x)(hn:n<=us.length + 1)(h:D9 bk (us.take j) x n d):Res bk us B d:=by
 obtain⟨P',x',rest,h1,h2,h3,h4⟩:=h
 rcases h2 with⟨rfl,rfl⟩ |⟨⟨k,rfl⟩,h5⟩
 ·exact⟨_,_,rest,h1,⟨j,rfl⟩,hB,h3,⋯⟩
 ·exact⟨_,_,rest,h1,⟨min k j,by rw[List.take_take]⟩,hb _ _ h5,h3,⋯⟩
theorem yf{F G:D->Prop}(h:∀d,F d->G d)(o:Option Out)(w:wp o (lC F)):wp o (lC G):=by
 refine fE w fun r z=>?_
 cases r with
 |nx E=>exact h _ z
 |rt d=>exact h _ z
 |bk E=>exact z
 |ct E=>exact z
theorem lE{bk:Bool}{a b:Nat}{x nm r0:D}{c:Int}{s5 s6 s7:Sl}(hus:∀u ∈ us,GR bk u)(hl:us.length<=60)(hab:a<=b + 1/\a<=us.length)(hba:us.length<=b + us.length - a + 1/\a<=b)(hx:SmR x)(hB:B (us.take a) x)(hb:∀P x,qa bk x->B P x) :
  wp (wW [Sl.val r0,Sl.val (.int c),Sl.val nm,Sl.val (.int (a:Int)),Sl.own (.lst ((us.take a).map (aJ bk) ++ x :: (us.drop b).map (aJ bk))),s5,s6,s7]) (lC (Res bk us B)):=by
 have hta:(us.take a).length=a:=by rw[JQ];omega
 have h:=CK (bk:=bk) (P:=us.take a) (Q:=us.drop b) (x:=x) (nm:=nm) (r0:=r0) (c:=c) (s5:=s5) (s6:=s6) (s7:=s7) (fun u hu=>hus u (JX hu)) (fun u hu=>hus u (Kc hu)) hx (by rw[JQ,JE];omega)
 rw[hta]at h
 exact yf (fun d=>As hB hb (by rw[JE];omega)) _ h
theorem qN{bk:Bool}{nm:D}(hus:∀u ∈ us,GR bk u)(hne:us ≠ [])(hl:us.length<=60)(hb:∀P x,qa bk x->B P x)(c:Int)(hc:c % 3=0):wp (cm [.lst (us.map (aJ bk)),.int c,nm]) (Res bk us B):=by
 have hLp:(0:Int) < (us.length:Int):=by have:=eV hne;omega
 have o0:0<=c / 3 % (us.length:Int):=Kb _ ⋯
 have o1:c / 3 % (us.length:Int) < (us.length:Int):=J8 _ hLp
 generalize hoI:c / 3 % (us.length:Int)=oI at o0 o1
 obtain⟨a,ho⟩:∃a:Nat,oI=a:=⟨oI.toNat,⋯⟩
 subst ho
 have ha:a < us.length:=by omega
 have hat:atI (us.map (aJ bk)) (a:Int)=some (aJ bk us[a]):=by rw[fU,JH,Jr ha];rfl
 have gu:=hus _ (Kf ha)
 obtain⟨d,hd,MW⟩:=oB gu.g gu.l (c / 36)
 have MX:∀s5 s6 s7,iz 4 (var 3) (aq 2 b8 (aa (bin ixE (ae 0) (ae 3)) (aa (bin aS (ae 1) (cst (.int 36))) aj))) [Sl.val (.lst (us.map (aJ bk))),Sl.val (.int c),Sl.val nm,Sl.val (.int (a:Int)),Sl.own (.lst (us.map (aJ bk))),s5,s6,s7]=some (.nx [Sl.val (.lst (us.map (aJ bk))),Sl.val (.int c),Sl.val nm,Sl.val (.int (a:Int)),Sl.own (.lst ((us.map (aJ bk)).set a d)),s5,s6,s7]):=fun s5 s6 s7=>by
  have hv:(aq 2 b8 (aa (bin ixE (ae 0) (ae 3)) (aa (bin aS (ae 1) (cst (.int 36))) aj))) [Sl.val (.lst (us.map (aJ bk))),Sl.val (.int c),Sl.val nm,Sl.val (.int (a:Int)),Sl.own (.lst (us.map (aJ bk))),s5,s6,s7]=some d:=by
   refine aM ?_
   simp! [hat,aJ,hd]
  exact put_own (i:=4) (k:=var 3) (ds:=us.map (aJ bk)) (j:=a) rfl hv rfl (by rw[Jm];exact ha)
 simp! [cm,l6,Jm,bW hLp,hoI,JD hc,↓MX]
 rw[qf ha]
 exact lE hus hl ⟨⋯,⋯⟩ ⟨⋯,⋯⟩ MW.sm (hb _ _ MW) hb
end Wk
theorem n6:x ∈ bQ ss ↔ x ∈ ss:=(dB ss).mem_iff
theorem HQ:al [mk [98,101],mk [111,114]]=[32,98,101,32,111,114]:=by decide
theorem zr{bk:Bool}{a:Nat}{x:D}(hl:us.length<=60)(ha:a < us.length):(ay (.lst (cN (us.map (aJ bk)) none (some ((a:Int) + 1)))) (.lst [x])).bind (fun z=>vb z (.lst (cN (us.map (aJ bk)) (some ((a:Int) + 1)) none)))=some (.lst ((us.take (a + 1)).map (aJ bk) ++ x :: (us.drop (a + 1)).map (aJ bk))):=by
 have e:(a:Int) + 1=((a + 1:Nat):Int):=by omega
 rw[e,la,e9,gT (by rw[JQ,Jm];simp;omega),Jd]
 show(if _ then _ else _)=_
 rw[if_pos (gV (by simp only[Jo,JQ,JE,Jm,JJ];omega)),K7,Lz]
 simp
namespace Wk
theorem wb(hus:∀u ∈ us,GR false u)(hne:us ≠ [])(hl:us.length<=60)(c:Int):wp (cm [.lst (us.map (aJ false)),.int c,.non]) (Res false us Ch):=by
 by_cases hc:c % 3=0
 ·exact qN hus hne hl (fun _ _=>w9) c hc
 have hLp:(0:Int) < (us.length:Int):=by have:=eV hne;omega
 have o0:0<=c / 3 % (us.length:Int):=Kb _ ⋯
 have o1:c / 3 % (us.length:Int) < (us.length:Int):=J8 _ hLp
 generalize hoI:c / 3 % (us.length:Int)=oI at o0 o1
 obtain⟨a,ho⟩:∃a:Nat,oI=a:=⟨oI.toNat,⋯⟩
 subst ho
 have ha:a < us.length:=by omega
 have hat:atI (us.map (aJ false)) (a:Int)=some (aJ false us[a]):=by rw[fU,JH,Jr ha];rfl
 have gu:=hus _ (Kf ha)
 generalize hu:us[a]=u at hat gu
 have MG:(us.take (a + 1)).getLast? = some u:=by rw[xW ha,hu]
 have hp:=t_ gu.g gu.l
 have n12:∀x ∈ u.2.1,x.length<=12:=fun x hx=>eE (gu.g.gn.nm x hx) nofun
 have hs:fo (mkS (bc false u)) (mkS [32])=some (fm u.2.1):=ge gu.g.gn.ne (Jy gu.g.gn.le nofun) gu.g.ln n12
 have nl8:=gu.g.gn.le
 have hnp:(0:Int) < (u.2.1.length:Int):=by have:=eV gu.g.gn.ne;omega
 obtain⟨n,hn,hnx⟩:=fH D.str u.2.1 (c / 108 % (u.2.1.length:Int)) (Kb _ ⋯) (J8 _ hnp)
 have b0:0<=c / 36 % 2:=by omega
 have b1:c / 36 % 2 < 2:=by omega
 generalize hbI:c / 36 % 2=bI at b0 b1
 obtain⟨b,hb⟩:∃b:Nat,bI=b:=⟨bI.toNat,⋯⟩
 subst hb
 have MF:cN [D.str n,D.str (mk [122,122,122,122,122,122,122,122])] none (some (1 + (b:Int)))=([n,mk [122,122,122,122,122,122,122,122]].take (1 + b)).map D.str:=by
  rw[show 1 + (b:Int)=((1 + b:Nat):Int) by omega,la,K7];rfl
 have hmm:n ∈ [n,mk [122,122,122,122,122,122,122,122]].take (1 + b):=by rw[Nat.add_comm,List.take_succ_cons];exact Jq
 have hml:([n,mk [122,122,122,122,122,122,122,122]].take (1 + b)).length<=2:=by rw[JQ];simp;omega
 have hmc:∀x ∈ [n,mk [122,122,122,122,122,122,122,122]].take (1 + b),Let x/\x.length<=12:=fun x hx=>by
  have hx:=JX hx
  rcases List.mem_cons.mp hx with rfl |hx
  ·exact⟨gu.g.ln x hn,n12 x hn⟩
  ·rw[List.mem_singleton.mp hx]
   exact⟨eh (M:=8) nofun,by rw[aY];decide⟩
 generalize [n,mk [122,122,122,122,122,122,122,122]].take (1 + b)=mo at MF hmm hml hmc
 have NF:=mD (ss:=mo) ⋯
 have sl:(bQ mo).length<=2:=by rw[(dB mo).length_eq];exact hml
 have sc:∀x ∈ bQ mo,Let x/\x.length<=12:=fun x hx=>hmc x (n6.mp hx)
 have hjo:=gk (ns:=bQ mo) ⋯ fun x hx=>(sc x hx).2
 have hjl:=cO (ws:=bQ mo) fun x hx=>(sc x hx).2
 have sne:bQ mo ≠ []:=fun z=>by
  have:=n6.mpr hmm
  rw[z]at this;cases this
 have MR:ay (mkS ((al (bQ mo)).drop 1)) (mkS [58,32,98,101,32,111,114])=some (mkS ((al (bQ mo)).drop 1 ++ [58,32,98,101,32,111,114])):=aG (by rw[JE];simp;omega)
 have MW:∀x,x=aJ false u\/x=mkS ((al (bQ mo)).drop 1 ++ [58,32,98,101,32,111,114])->SmR x/\Ch (us.take (a + 1)) x:=fun x hx=>by
  rcases hx with rfl |rfl
  ·refine⟨gu.sm,.inr ⟨_,rfl,Jy gu.l nofun,fun v gv e=>?_⟩⟩
   obtain⟨e1,e2⟩:=tQ gv gu.g.gn.ne (fun x hx=>(gu.g.ln x hx).cl) (fB gu.g.lw) e
   exact⟨by rw[<-e2];exact gu.wl,u,MG,n,by rw[<-e1];exact hn,hn⟩
  ·have Mp:((al (bQ mo)).drop 1 ++ [58,32,98,101,32,111,114]).length<=700:=by rw[Jo,JE];simp;omega
   refine⟨.inr ⟨_,rfl,Mp⟩,.inr ⟨_,rfl,Mp,fun v gv e=>?_⟩⟩
   obtain⟨e1,e2⟩:=tQ (ns:=bQ mo) (ws:=[mk [98,101],mk [111,114]]) gv sne (fun x hx=>(sc x hx).1.cl) (frW (ws:=[[98,101],[111,114]]) nofun) (by rw[HQ];exact e)
   exact⟨by rw[<-e2];decide,u,MG,n,by rw[<-e1];exact n6.mpr hmm,hn⟩
 obtain⟨x,hx1,hx2⟩:∃x,(x=aJ false u\/x=mkS ((al (bQ mo)).drop 1 ++ [58,32,98,101,32,111,114]))/\atI [aJ false u,mkS ((al (bQ mo)).drop 1 ++ [58,32,98,101,32,111,114])] (if decide (0 < c / 72 % 3)=true then 1 else 0)=some x:=by
  by_cases h:0 < c / 72 % 3
  ·exact⟨_,.inr rfl,by rw[JD h];rfl⟩
  ·exact⟨_,.inl rfl,by rw[JA h];rfl⟩
 obtain⟨hsm,hpb⟩:=MW x hx1
 have MU:=zr (bk:=false) (x:=x) hl ha
 have hh0:atI [mkS (bc false u),mkS [58],mkS (al u.2.2)] 0=some (mkS (bc false u)):=rfl
 simp only[mkS,aJ,fm]at hp hs MR hx2 MU hat hh0
 simp! [cm,l6,Jm,bW hLp,hoI,JA hc,aJ,mkS,hat,iO,↓hp,cc,hh0,↓hs,hnp,Iz,F_,bW hnp,hnx,hbI,MF,NF,↓hjo,↓MR,yU,gtD,i2,hx2]
 rw[<-cG,MU,bP,show(a:Int) + 1=((a + 1:Nat):Int) by omega]
 exact lE (a:=a + 1) (b:=a + 1) hus hl ⟨⋯,⋯⟩ ⟨⋯,⋯⟩ hsm hpb fun _ _=>w9
theorem By(g:GU u):v9 (mkS (bC true u)) (mkS [62])=some (.int ((aH u.1).length:Nat)):=by
 have h:One (bC true u) [62] (aH u.1).length:=by
  have:=mG (c:=62) (a:=aH u.1) (s1:=[]) (s2:=[]) (b:=32 :: spS u) (by rw[JZ];exact bM g.lc nofun nofun) (fun z=>by
   rcases List.mem_cons.mp z with z |z
   ·cases z
   ·exact rn g nofun nofun nofun z)
  have e:aH u.1 ++ ([] ++ 62 :: []) ++ 32 :: spS u=bC true u:=by rw[dE];simp
  rw[e]at this
  exact this
 show(match Builtin.Str.occurrences (mk (bC true u)) (mk [62]) 0 (mk (bC true u)).length 1 with
  |i :: _=>some (D.int (i:Nat))
  | []=>none)=_
 rw[h.occ1]
theorem wc(hus:∀u ∈ us,GR true u)(Mz:∀u ∈ us,name ∈ u.2.1)(hne:us ≠ [])(hl:us.length<=60)(c:Int):wp (cm [.lst (us.map (aJ true)),.int c,.str name]) (Res true us (Eb name)):=by
 by_cases hc:c % 3=0
 ·exact qN hus hne hl (fun _ _=>sO) c hc
 have hLp:(0:Int) < (us.length:Int):=by have:=eV hne;omega
 have o0:0<=c / 3 % (us.length:Int):=Kb _ ⋯
 have o1:c / 3 % (us.length:Int) < (us.length:Int):=J8 _ hLp
 generalize hoI:c / 3 % (us.length:Int)=oI at o0 o1
 obtain⟨a,ho⟩:∃a:Nat,oI=a:=⟨oI.toNat,⋯⟩
 subst ho
 have ha:a < us.length:=by omega
 have hat:atI (us.map (aJ true)) (a:Int)=some (aJ true us[a]):=by rw[fU,JH,Jr ha];rfl
 have gu:=hus _ (Kf ha)
 have hn:=Mz _ (Kf ha)
 by_cases hc1:c % 3=1
 ·obtain⟨l,hd,hll,hno⟩:=vQ gu.g hn gu.l a (c / 36)
  have MX:∀s5 s6 s7,iz 4 (var 3) (aq 3 eG (aa (bin ixE (ae 0) (ae 3)) (aa (bin aS (ae 1) (cst (.int 36))) (aa (var 2) aj)))) [Sl.val (.lst (us.map (aJ true))),Sl.val (.int c),Sl.val (.str name),Sl.val (.int (a:Int)),Sl.own (.lst (us.map (aJ true))),s5,s6,s7]=some (.nx [Sl.val (.lst (us.map (aJ true))),Sl.val (.int c),Sl.val (.str name),Sl.val (.int (a:Int)),Sl.own (.lst ((us.map (aJ true)).set a (mkS l))),s5,s6,s7]):=fun s5 s6 s7=>by
   have hv:(aq 3 eG (aa (bin ixE (ae 0) (ae 3)) (aa (bin aS (ae 1) (cst (.int 36))) (aa (var 2) aj)))) [Sl.val (.lst (us.map (aJ true))),Sl.val (.int c),Sl.val (.str name),Sl.val (.int (a:Int)),Sl.own (.lst (us.map (aJ true))),s5,s6,s7]=some (mkS l):=by
    refine aM ?_
    simp! [hat,aJ,hd]
   exact put_own (i:=4) (k:=var 3) (ds:=us.map (aJ true)) (j:=a) rfl hv rfl (by rw[Jm];exact ha)
  simp! [cm,l6,Jm,bW hLp,hoI,JA hc,JD hc1,↓MX]
  rw[qf ha]
  have hta:(us.take a).length=a:=by rw[JQ];omega
  exact lE hus hl ⟨⋯,⋯⟩ ⟨⋯,⋯⟩ (.inr ⟨l,rfl,hll⟩) (.inr ⟨l,rfl,hll,by rw[hta];exact hno⟩) fun _ _=>sO
 ·generalize us[a]=u at hat gu hn
  have hix:=By gu.g
  have hz:=gu.l
  have hsl:slD (mkS (bC true u)) (some ((aH u.1).length:Int)) none=some (mkS (62 :: 32 :: spS u)):=by
   rw[mkS,i4 ⋯,e9,dE,LW]
  have hll:(62 :: 32 :: spS u).length<=700:=by
   rw[dE,Jo]at hz;omega
  have MR:vb (.lst (us.map (aJ true))) (.lst [mkS (62 :: 32 :: spS u)])=some (.lst ((us.take us.length).map (aJ true) ++ mkS (62 :: 32 :: spS u) :: (us.drop us.length).map (aJ true))):=by
   rw[List.take_length,LH]
   show(if _ then _ else _)=_
   rw[if_pos (gV (by rw[Jm,JJ];omega))];rfl
  simp only[mkS,aJ]at hix hsl MR hat
  simp! [cm,l6,Jm,bW hLp,hoI,JA hc,JA hc1,xh,hat,↓hix,↓hsl,↓MR]
  refine lE (a:=us.length) (b:=us.length) hus hl ⟨⋯,⋯⟩ ⟨⋯,⋯⟩ (.inr ⟨_,rfl,hll⟩) (.inr ⟨_,rfl,hll,fun v gv e _ h5=>?_⟩) fun _ _=>sO
  rw[dE]at e
  obtain⟨e1,_⟩:=uZ (c:=62) (a:=[]) (by simp) (bM gv.lc nofun nofun) e
  refine h5 (by rw[List.take_length];exact eV hne) ?_
  cases hv:v.1 with
  |nil=>rfl
  |cons y r=>rw[hv,dH]at e1;have:=JR List.length e1;simp at this
end Wk
theorem r_{f:D->DE->Option Out}{fx:D->DE->Option bF}{n:Nat}{fs:Oz}{I:Nat->DE->Prop}{α:Type}{enc:α->D}{y:D}{rest:OK}:∀(xs:List α) (k:Nat) (E:DE),I k E ->
  (∀(i:Nat) (x:α),xs[i]? = some x->∀E,I (k + i) E->∃E',f (.tup [.int ((k + i:Nat):Int),enc x]) E=some (.nx E')/\fx (.tup [.int ((k + i:Nat):Int),enc x]) E=some (.ok (.nx E'))/\I (k + i + 1) E') ->
  (∀E,I (k + xs.length) E->f (.tup [.int ((k + xs.length:Nat):Int),y]) E=none/\∃E',fx (.tup [.int ((k + xs.length:Nat):Int),y]) E=some (.xc n fs E')) ->
  kF f (eY (xs.map enc ++ y :: rest) (k:Int)) E=none/\∃E',lP fx (eY (xs.map enc ++ y :: rest) (k:Int)) E=some (.xc n fs E')
 | [],k,E,h0,_,hb=>by
  obtain⟨h1,E',h2⟩:=hb E h0
  have e:eY (([]:List α).map enc ++ y :: rest) (k:Int)=.tup [.int ((k + 0:Nat):Int),y] :: eY rest ((k + 1:Nat):Int):=rfl
  have h1':f (.tup [.int ((k + 0:Nat):Int),y]) E=none:=h1
  have h2':fx (.tup [.int ((k + 0:Nat):Int),y]) E=some (.xc n fs E'):=h2
  rw[e]
  refine⟨?_,E',?_⟩
  ·rw[kF,h1'];rfl
  ·rw[lP,h2'];rfl
 |x :: xs,k,E,h0,hs,hb=>by
  obtain⟨E1,h1,h2,h3⟩:=hs 0 x rfl E h0
  have e:eY ((x :: xs).map enc ++ y :: rest) (k:Int)=.tup [.int ((k + 0:Nat):Int),enc x] :: eY (xs.map enc ++ y :: rest) ((k + 1:Nat):Int):=rfl
  obtain⟨q1,E',q2⟩:=r_ (f:=f) (fx:=fx) (n:=n) (fs:=fs) (I:=I) (enc:=enc) (y:=y) (rest:=rest) xs (k + 1) E1 h3 (fun i x hx E hi=>by
   have:=hs (i + 1) x hx E (by rw[show k + (i + 1)=k + 1 + i by omega];exact hi)
   rw[show k + (i + 1)=k + 1 + i by omega]at this
   exact this) (fun E hi=>by
   have:=hb E (by rw[Jg,show k + (xs.length + 1)=k + 1 + xs.length by omega];exact hi)
   rw[Jg,show k + (xs.length + 1)=k + 1 + xs.length by omega]at this
   exact this)
  rw[e]
  refine⟨?_,E',?_⟩
  ·rw[kF,h1];exact q1
  ·rw[lP,h2];exact q2
abbrev sp1(u:En):Sp:=(u.2.1,u.2.2)
theorem GR.fine{bk:Bool}(h:GR bk u):dL (sp1 u):=⟨h.g.gn.ne,h.g.gn.le,h.g.gn.nm,h.g.gn.ris,h.g.gw.ne,h.wl,h.g.gw.wd⟩
theorem tw(h:ss.Pairwise ltS):bQ ss=ss:=by
 have hnd:ss.Nodup:=List.Pairwise.imp (R:=ltS) (S:=(· ≠ ·)) (fun {a b} hlt (e:a=b)=>eB a (by rw[<-e]at hlt;exact hlt)) h
 exact(wV h (tx hnd) fun x=>(dB _).mem_iff.symm).symm
theorem nH{α:Type}{o:Option α}(h:wp o (fun _=>True)->False):o=none:=by
 cases o with
 |none=>rfl
 |some x=>exact False.elim (h trivial)
namespace Wk
theorem kM(ds:OK):aA [.tup ds]=some (.bl true):=rfl
theorem kN(ds:OK):aA [.lst ds]=some (.bl true):=rfl
theorem iY(h:GR false u):aP [aJ false u]=some (bb (sp1 u)):=by
 have hf:=h.fine
 have hn:u.2.1.length<=8:=hf.le
 have hw:u.2.2.length<=8:=hf.wle
 have n12:∀x ∈ u.2.1,x.length<=12:=fun x hx=>eE (h.g.gn.nm x hx) nofun
 have w12:∀x ∈ u.2.2,x.length<=12:=fun x hx=>eE (h.g.gw.wd x hx) nofun
 have hl:=Ac (ns:=u.2.1) (ws:=u.2.2) ⋯ ⋯ n12 w12
 have hp:=vI hf.wne h.g.ln h.g.lw hl
 have s1:=ge hf.ne (by show u.2.1.length<=1000;omega) h.g.ln n12
 have s2:=ge hf.wne (by show u.2.2.length<=1000;omega) h.g.lw w12
 have hs:Wk.b7 [bb (sp1 u)]=some (.bl true):=by rw[Sh.mC (Sh.EE hf),uF hf]
 simp only[bb,cF,sp1]at hs
 have e:bC false u=pP u.2.1 u.2.2:=by unfold bC bc eT pP;simp
 refine aM ?_
 rw[aJ,mkS,e]
 simp! [aP,fS,cc,kl,hp,lX,ny,s1,s2,hs]
 rfl
theorem iX(s:Sp)(hf:dL s):cu [bb s]=some (bb s):=by
 have hn:=hf.le
 have M5:=Sh.mj (ds:=s.1.map D.str) (by rw[Jm];omega) fun d hd=>by
  obtain⟨x,hx,rfl⟩:=List.mem_map.mp hd
  exact Sh.nJ (Jy (eE (hf.nm x hx) nofun) ⋯)
 rw[km hf.nm]at M5
 have hso:=x_ (ss:=s.1) ⋯
 rw[tw hf.ris]at hso
 have hs:Wk.b7 [bb s]=some (.bl true):=by rw[Sh.mC (Sh.EE hf),uF hf]
 simp only[bb,cF]at hs
 have Mp:∀a b:D,(([a,b]:OK).length:Int)=2:=fun a b=>rfl
 have hd2:decide (((2:Nat):Int)=2)=true:=by decide
 refine aM ?_
 simp! [cu,hJ,bb,cF,kM,xq,Bz,Mp,hd2,M5,hso,hs]
theorem pL:cu [.non]=some .non:=by
 have h:aA [.non]=some (.bl false):=rfl
 refine aM ?_
 simp! [cu,hJ,h]
theorem yr(p:O2)(hf:∀s ∈ p,dL s)(ha:cB p)(hp:p.length<=61):eF [.lst (p.map bb)]=some (k_ p):=by
 refine aM ?_
 simp! [eF,iS,kN,dZ,uU bb p]
 refine gU (fun q:Sp×Nat=>D.tup [.int (q.2:Int),bb q.1]) p.zipIdx (fun pre E=>∃s3 s4 s5,E=[Sl.val (D.lst (p.map bb)),Sl.own (D.lst ((pre.map (·.1)).map bb)),Sl.val (cF (bv (pre.map (·.1)))),s3,s4,s5]) rfl ⟨_,_,_,rfl⟩ ?_ ?_
 ·rintro pre ⟨s,i⟩ post E hz ⟨s3,s4,s5,rfl⟩
  obtain⟨MC,hi⟩:=wH hz
  have ME:s ∈ p:=by rw[MC];simp
  have hin:=iX s (hf s ME)
  have hc:=Sh.gM s.1 (bv (pre.map (·.1))) (Jy (hf s ME).le ⋯)
  have ha':cB (pre.map (·.1) ++ s :: post.map (·.1)):=by
   have:=ha
   rw[MC]at this;exact this
  rw[pd ha']at hc
  have hpl:pre.length < 100:=by
   have:=JR List.length MC
   simp at this;omega
  simp only[bb,cF]at hin
  simp! [bb,hin,xq,cF,hc,Jm,lv (show pre.length < 16777216 by omega)]
  exact⟨_,_,_,by rw[JT,JT,Ji,Jj,jb];rfl⟩
 ·rintro E ⟨s3,s4,s5,rfl⟩
  have e:(p.zipIdx).map (·.1)=p:=LX 0 p
  simp! [e]
  rfl
theorem yh(hus:∀u ∈ us,GR false u)(ha:cB (us.map sp1))(hl:us.length<=60)(hd:d=.tup (us.map (aJ false))\/d=.lst (us.map (aJ false))):bn [d]=some (k_ (us.map sp1)):=by
 have Mv:bJ (nmG 2) noT (aq 1 aP (aa (var 2) aj)) [Sl.val d,Sl.no,Sl.no] (us.map (aJ false))=some (us.map fun u=>bb (sp1 u)):=by
  refine df (aJ false) (fun u=>bb (sp1 u)) us fun u hu=>?_
  have hin:=iY (hus u hu)
  refine aM ?_
  simp! [hin]
 have hpo:=yr (us.map sp1) (fun s hs=>by
  obtain⟨u,hu,rfl⟩:=List.mem_map.mp hs
  exact(hus u hu).fine) ha (by rw[Jm];omega)
 rw[Kk]at hpo
 have e:us.map (bb ∘ sp1)=us.map fun u=>bb (sp1 u):=rfl
 rw[e]at hpo
 refine aM ?_
 rcases hd with rfl |rfl
 ·simp! [bn,eK,kM,Mv]
  refine jv (gV (by rw[Jm];omega)) ?_
  simp! [hpo]
 ·simp! [bn,eK,kN,Mv]
  refine jv (gV (by rw[Jm];omega)) ?_
  simp! [hpo]
abbrev gPr:D->DE->Option DE:=f9 2 (a_ (nmG 3) (a_ (nmG 4) f_))
def stF:DE->Option Out :=
 (aw (aT 5 (aq 1 cu (aa (var 4) aj)))
 (aw (ifS (orT (tst (un ju (var 5))) (tst (aq 2 bL (aa (bin ixE (ae 5) (cst (.int 0))) (aa (var 2) aj)))))
 noS
 bf)
 (aw (ir 1 (var 5))
 (aT 2 (bin ixE (ae 5) (cst (.int 0)))))))
def stX:DE->Option bF :=
 (dC (okX (aT 5 (aq 1 cu (aa (var 4) aj))))
 (dC (ifX (orT (tst (un ju (var 5))) (tst (aq 2 bL (aa (bin ixE (ae 5) (cst (.int 0))) (aa (var 2) aj)))))
 (cI 0 "place" (var 3))
 (okX bf))
 (dC (okX (ir 1 (var 5)))
 (okX (aT 2 (bin ixE (ae 5) (cst (.int 0))))))))
def Cj(as:OD)(x:D):Prop:=x=.non\/∃s,dL s/\x=bb s/\(s.1.any fun n=>decide (n ∈ as))=true
theorem lV(s:Sp):ju (bb s)=some (.bl false):=rfl
theorem sg(s:Sp):ixE (bb s) (.int 0)=some (cF s.1):=rfl
theorem xY{d0:D}{acc:O2}{e3 e4 e5:Sl}{k:Int}{s:Sp}(hf:dL s)(hc:(s.1.any fun n=>decide (n ∈ bv acc))=false)(hl:acc.length<=1000) :
  (gPr (.tup [.int k,bb s]) [.val d0,.own (.lst (acc.map bb)),.val (cF (bv acc)),e3,e4,e5]).bind stF=some (.nx [.val d0,.own (.lst ((acc ++ [s]).map bb)),.val (cF (bv (acc ++ [s]))),.val (.int k),.val (bb s),.val (bb s)]) /\
  (gPr (.tup [.int k,bb s]) [.val d0,.own (.lst (acc.map bb)),.val (cF (bv acc)),e3,e4,e5]).bind stX=some (.ok (.nx [.val d0,.own (.lst ((acc ++ [s]).map bb)),.val (cF (bv (acc ++ [s]))),.val (.int k),.val (bb s),.val (bb s)])):=by
 have h1:=iX s hf
 have h2:bL [cF s.1,cF (bv acc)]=some (.bl false):=by
  have:=Sh.gM s.1 (bv acc) (Jy hf.le ⋯)
  rw[hc]at this
  exact this
 have hz:acc.length < sizeLine:=by show _ < 16777216;omega
 rw[jb]
 constructor
 ·unfold stF
  dsimp! [gPr,h1,lV,sg,h2,hz]
 ·unfold stX
  dsimp! [gPr,h1,lV,sg,h2,hz]
theorem zS{d0 x:D}{acc:O2}{e3 e4 e5:Sl}{k:Int}(h:Cj (bv acc) x) :
  (gPr (.tup [.int k,x]) [.val d0,.own (.lst (acc.map bb)),.val (cF (bv acc)),e3,e4,e5]).bind stF=none /\
  ∃E',(gPr (.tup [.int k,x]) [.val d0,.own (.lst (acc.map bb)),.val (cF (bv acc)),e3,e4,e5]).bind stX=some (.xc 0 [("place",.int k)] E'):=by
 have hc:jc (.int k)=true:=rfl
 rcases h with rfl |⟨s,hf,rfl,hcm⟩
 ·have h1:=pL
  have h5:ju .non=some (.bl true):=rfl
  constructor
  ·unfold stF
   dsimp! [gPr,h1,h5]
  ·unfold stX
   dsimp! [gPr,hc,h1,h5]
   exact⟨_,rfl⟩
 ·have h1:=iX s hf
  have h2:bL [cF s.1,cF (bv acc)]=some (.bl true):=by
   have:=Sh.gM s.1 (bv acc) (Jy hf.le ⋯)
   rw[hcm]at this
   exact this
  constructor
  ·unfold stF
   dsimp! [gPr,h1,lV,sg,h2]
  ·unfold stX
   dsimp! [gPr,hc,h1,lV,sg,h2]
   exact⟨_,rfl⟩
theorem Av(P:O2)(hf:∀s ∈ P,dL s)(ha:cB P)(hp:P.length<=61){x:D}{rest:OK}(hx:Cj (bv P) x):eF [.lst (P.map bb ++ x :: rest)]=none/\gN [.lst (P.map bb ++ x :: rest)]=some (some (0,[(("place" : Str),D.int (P.length:Int))])):=by
 generalize hd0:D.lst (P.map bb ++ x :: rest)=d0
 have MH:aA [d0]=some (.bl true):=by rw[<-hd0];rfl
 obtain⟨h1,E',h2⟩:=r_ (f:=fun x E1=>(gPr x E1).bind stF) (fx:=fun x E1=>(gPr x E1).bind stX) (n:=0) (fs:=[(("place" : Str),D.int (P.length:Int))]) (enc:=bb) (y:=x) (rest:=rest)
  (I:=fun k E=>∃e3 e4 e5,E=[.val d0,.own (.lst ((P.take k).map bb)),.val (cF (bv (P.take k))),e3,e4,e5]) P 0 [.val d0,.own (.lst []),.val (.tup []),.no,.no,.no] ⟨_,_,_,rfl⟩ (fun i s hs E hE=>by
   obtain⟨e3,e4,e5,rfl⟩:=hE
   rw[Nat.zero_add]
   have hi:=(List.getElem?_eq_some_iff.mp hs).1
   have ME:=JY hs
   have hsp:P.take (i + 1)=P.take i ++ [s]:=by rw[Ln,hs];rfl
   have hap:cB (P.take i ++ s :: P.drop (i + 1)):=by
    have e:P.take i ++ s :: P.drop (i + 1)=P:=by
     conv=>rhs;rw[<-LP (i + 1) P,hsp]
     simp
    rw[e];exact ha
   obtain⟨q1,q2⟩:=xY (d0:=d0) (acc:=P.take i) (e3:=e3) (e4:=e4) (e5:=e5) (k:=(i:Int)) (hf s ME) (pd hap) (by rw[JQ];omega)
   rw[hsp]
   exact⟨_,q1,q2,_,_,_,rfl⟩) (fun E hE=>by
   obtain⟨e3,e4,e5,rfl⟩:=hE
   rw[Nat.zero_add,List.take_length]
   exact zS hx)
 have MO:jp [d0]=some (eY (P.map bb ++ x :: rest) ((0:Nat):Int)):=by rw[<-hd0];rfl
 constructor
 ·show(if 1=1 then(iS [.val d0,.no,.no,.no,.no,.no]).bind _ else none)=_
  have h0:ifS (dA (tst (aq 1 aA (aa (var 0) aj)))) noS bf [.val d0,.no,.no,.no,.no,.no]=some (.nx [.val d0,.no,.no,.no,.no,.no]):=by
   dsimp! [MH]
  have MS:ij (dZ (aa (var 0) aj)) gPr stF [.val d0,.own (.lst []),.val (.tup []),.no,.no,.no]=none:=by
   show((some [d0]).bind jp).bind _=_
   rw[Jd,MO];exact h1
  have hb:iS [.val d0,.no,.no,.no,.no,.no]=none:=by
   show(aw _ (aw _ (aw _ (aw (ij (dZ (aa (var 0) aj)) gPr stF) _)))) _=_
   unfold aw
   rw[h0]
   show((ij (dZ (aa (var 0) aj)) gPr stF [.val d0,.own (.lst []),.val (.tup []),.no,.no,.no]).bind _)=_
   rw[MS];rfl
  rw[hb];rfl
 ·show(if 1=1 then(lh [.val d0,.no,.no,.no,.no,.no]).bind _ else none)=_
  have h0:ifX (dA (tst (aq 1 aA (aa (var 0) aj)))) (cI 0 "place" (cst (.int 0))) (okX bf) [.val d0,.no,.no,.no,.no,.no]=some (.ok (.nx [.val d0,.no,.no,.no,.no,.no])):=by
   dsimp! [MH]
  have MS:p5 (dZ (aa (var 0) aj)) gPr stX [.val d0,.own (.lst []),.val (.tup []),.no,.no,.no]=some (.xc 0 [(("place" : Str),D.int (P.length:Int))] E'):=by
   show((some [d0]).bind jp).bind _=_
   rw[Jd,MO];exact h2
  have hb:lh [.val d0,.no,.no,.no,.no,.no]=some (.xc 0 [(("place" : Str),D.int (P.length:Int))] E'):=by
   show(dC _ (dC _ (dC _ (dC (p5 (dZ (aa (var 0) aj)) gPr stX) _)))) _=_
   unfold dC
   rw[h0]
   show((p5 (dZ (aa (var 0) aj)) gPr stX [.val d0,.own (.lst []),.val (.tup []),.no,.no,.no]).bind _)=_
   rw[MS];rfl
  rw[hb];rfl
end Wk
namespace Wk
def sIn(d:D):D:=(aP [d]).getD .non
theorem EY(h:SmR d):aP [d]=some (sIn d):=by
 unfold sIn
 rcases h with h |⟨l,rfl,hl⟩
 ·rw[n5 d h];rfl
 ·obtain⟨r,hr,_⟩:=iZ l hl
  rw[hr];rfl
theorem CJ{x:D}(h:Ch P x):SmR x/\Cj (bv (P.map sp1)) (sIn x):=by
 rcases h with h |⟨l,rfl,hl,hv⟩
 ·exact⟨.inl h,.inl (by unfold sIn;rw[n5 x h];rfl)⟩
 ·refine⟨.inr ⟨l,rfl,hl⟩,?_⟩
  obtain⟨r,hr,hr2⟩:=iZ l hl
  have e:sIn (mkS l)=r:=by unfold sIn;rw[hr];rfl
  rw[e]
  rcases hr2 with rfl |⟨ns,ws,gn,gw,rfl,el⟩
  ·exact .inl rfl
  ·right
   obtain⟨h8,u,MG,n,hn1,hn2⟩:=hv ([],ns,ws) ⟨fun c hc=>(by cases hc),gn,gw⟩ (by rw[el];rfl)
   refine⟨(ns,ws),⟨gn.ne,gn.le,gn.nm,gn.ris,gw.ne,h8,gw.wd⟩,rfl,?_⟩
   rw[List.any_eq_true]
   refine⟨n,hn1,JD ?_⟩
   unfold bv
   rw[List.getLast?_map,MG]
   exact hn2
theorem oF{E:DE}(h:∀z ∈ E,(∃d,z=.val d)\/z=.no\/∃a,z=fg a):gd E:=A2 fun z hz=>by
 rcases h z hz with⟨d,rfl⟩ |rfl |⟨a,rfl⟩ <;> constructor <;> intro _ e <;> cases e
theorem pR(hP:∀u ∈ P,GR false u)(ha:cB (P.map sp1)){x:D}{rest:OK}(hx:Ch P x)(hr:∀e ∈ rest,SmR e)(hl:P.length + rest.length<=60) :
  bn [.lst (P.map (aJ false) ++ x :: rest)]=none/\cq [.lst (P.map (aJ false) ++ x :: rest)]=some (some (1,[(("row" : Str),D.int (P.length:Int))])):=by
 obtain⟨hsx,hbx⟩:=CJ hx
 generalize hM:P.map (aJ false) ++ x :: rest=M
 have hML:M.length<=61:=by rw[<-hM,Jo,Jm,Jg];omega
 have hsm:∀e ∈ M,SmR e:=fun e he=>by
  rw[<-hM]at he
  rcases List.mem_append.mp he with he |he
  ·exact lu hP e he
  ·rcases List.mem_cons.mp he with rfl |he
   ·exact hsx
   ·exact hr e he
 have Mv:bJ (nmG 2) noT (aq 1 aP (aa (var 2) aj)) [Sl.val (.lst M),Sl.no,Sl.no] M=some (M.map sIn):=by
  have:=df (fun d:D=>d) sIn (i:=2) (ef:=aq 1 aP (aa (var 2) aj)) (E:=[Sl.val (.lst M),Sl.no,Sl.no]) M fun d hd=>by
   have hin:=EY (hsm d hd)
   refine aM ?_
   simp! [hin]
  rwa [Lg]at this
 have Nu:M.map sIn=(P.map sp1).map bb ++ sIn x :: rest.map sIn:=by
  rw[<-hM,JT,Ji,Kk,Kk]
  congr 1
  refine K2 fun u hu=>?_
  show sIn (aJ false u)=bb (sp1 u)
  unfold sIn
  rw[iY (hP u hu)];rfl
 obtain⟨q1,q2⟩:=Av (P.map sp1) (fun s hs=>by
  obtain⟨u,hu,rfl⟩:=List.mem_map.mp hs
  exact(hP u hu).fine) ha (by rw[Jm];omega) (rest:=rest.map sIn) hbx
 rw[<-Nu,Jm]at q2
 rw[<-Nu]at q1
 have MH:aA [.lst M]=some (.bl true):=rfl
 have ML:(bO [2] (f8 cJ (var 0)) (nmG 2) noT (aq 1 aP (aa (var 2) aj))) [Sl.val (.lst M),Sl.no,Sl.no]=some (.lst (M.map sIn)):=by
  refine aM ?_
  simp! [Mv]
  refine jv (gV ⋯) ?_
  simp! []
 constructor
 ·refine nH fun h=>?_
  simp! [bn,eK,MH,Mv]at h
  rw[if_pos (show M.length<=sizeLine from gV ⋯)]at h
  simp! [q1]at h
  exact h
 ·have Nv:(iP 1 eF gN (fun d _=>Out.rt d) (aa (bO [2] (f8 cJ (var 0)) (nmG 2) noT (aq 1 aP (aa (var 2) aj))) aj)) [Sl.val (.lst M),Sl.no,Sl.no]=some (.xc 0 [(("place" : Str),D.int (P.length:Int))] [Sl.val (.lst M),Sl.no,Sl.no]):=by
   have hL:(aa (bO [2] (f8 cJ (var 0)) (nmG 2) noT (aq 1 aP (aa (var 2) aj))) aj) [Sl.val (.lst M),Sl.no,Sl.no]=some [.lst (M.map sIn)]:=by
    show(bO _ _ _ _ _ _).bind _=_
    rw[ML];rfl
   unfold iP
   rw[hL,Jd,if_pos (show([D.lst (M.map sIn)]:OK).length=1 from rfl),q1,q2];rfl
  have Oa:zI 0 1 (iP 1 eF gN (fun d _=>Out.rt d) (aa (bO [2] (f8 cJ (var 0)) (nmG 2) noT (aq 1 aP (aa (var 2) aj))) aj)) (fun a fs=>cI 1 "row" (lm 1 a "place" fs)) [Sl.val (.lst M),Sl.no,Sl.no]=some (.xc 1 [(("row" : Str),D.int (P.length:Int))] [Sl.val (.lst M),Sl.no,Sl.no]):=by
   unfold zI
   rw[Nv]
   show @ite _ _ (Classical.propDecidable _) _ _=_
   rw[if_pos ⟨rfl,oF fun z hz=>by
    simp only[Kn,Ka,K4]at hz
    rcases hz with rfl |rfl |rfl
    ·exact .inl ⟨_,rfl⟩
    ·exact .inr (.inl rfl)
    ·exact .inr (.inl rfl),by rw[JP,show(("row" : Str) == ("place" : Str))=false by decide];rfl⟩]
   refine D6 fun a=>?_
   have xl:lm 1 a "place" [(("place" : Str),D.int (P.length:Int))] [Sl.val (.lst M),fg a,Sl.no]=some (.int (P.length:Int)):=by
    unfold lm
    rw[JP,LC]
    show(some (D.int (P.length:Int))).bind (fun z=>if jc z=true then xF 1 a z _ else none)=_
    rw[Jd,if_pos (show jc (D.int (P.length:Int))=true from rfl)]
    exact if_pos rfl
   show((cI 1 "row" (lm 1 a "place" [(("place" : Str),D.int (P.length:Int))])) [Sl.val (.lst M),fg a,Sl.no]).map _=_
   unfold cI
   rw[xl];rfl
  have h0:ifX (dA (tst (aq 1 aA (aa (var 0) aj)))) (cI 1 "row" (cst (.int 0))) (okX bf) [Sl.val (.lst M),Sl.no,Sl.no]=some (.ok (.nx [Sl.val (.lst M),Sl.no,Sl.no])):=by
   dsimp! [MH]
  show(if 1=1 then(c8 [Sl.val (.lst M),Sl.no,Sl.no]).bind _ else none)=_
  have hb:c8 [Sl.val (.lst M),Sl.no,Sl.no]=some (.xc 1 [(("row" : Str),D.int (P.length:Int))] [Sl.val (.lst M),Sl.no,Sl.no]):=by
   unfold c8 dC
   rw[h0]
   exact Oa
  rw[hb];rfl
theorem pQ(h:aA [d]=some (.bl false)):bn [d]=none/\cq [d]=some (some (1,[(("row" : Str),D.int 0)])):=by
 constructor
 ·refine nH fun h'=>?_
  simp! [bn,eK,h,noS]at h'
  exact h'
 ·show(if 1=1 then(c8 [Sl.val d,Sl.no,Sl.no]).bind _ else none)=_
  have h0:c8 [Sl.val d,Sl.no,Sl.no]=some (.xc 1 [(("row" : Str),D.int 0)] [Sl.val d,Sl.no,Sl.no]):=by
   dsimp! [c8,jc,h]
  rw[h0];rfl
theorem ol{nm:D}{k:Int}(h1:c9 [d,nm]=none)(h2:mO [d,nm]=some (some (1,[(("row" : Str),D.int k)]))):bt [d,nm,.int k]=some (.bl true):=by
 have hz:fA [d,nm]=some (some (1,[(("row" : Str),D.int k)])):=by
  unfold fA nQ
  rw[h1];exact h2
 have MZ:zJ 1 4 (qT 2 fA (aa (var 0) (aa (var 1) aj))) (fun a _=>oS 3 4 a) noS g9 [Sl.val d,Sl.val nm,Sl.val (.int k),Sl.val .non,Sl.no]=some (.rt (.bl true)):=by
  have hd:qT 2 fA (aa (var 0) (aa (var 1) aj)) [Sl.val d,Sl.val nm,Sl.val (.int k),Sl.val .non,Sl.no]=some (.xc 1 [(("row" : Str),D.int k)] [Sl.val d,Sl.val nm,Sl.val (.int k),Sl.val .non,Sl.no]):=by
   generalize fA=g at hz
   simp[qT,aa,aj,var,hz]
  unfold zJ
  rw[hd]
  show @ite _ _ (Classical.propDecidable _) _ _=_
  rw[if_pos ⟨rfl,oF fun z hz=>by
   simp only[Kn,Ka,K4]at hz
   rcases hz with rfl |rfl |rfl |rfl |rfl
   ·exact .inl ⟨_,rfl⟩
   ·exact .inl ⟨_,rfl⟩
   ·exact .inl ⟨_,rfl⟩
   ·exact .inl ⟨_,rfl⟩
   ·exact .inr (.inl rfl)⟩]
  refine D8 fun a=>?_
  have xx:∀(e0 e1 e2 e4:Sl) (z:D),xF 3 a z [e0,e1,e2,fg a,e4]=some z:=fun e0 e1 e2 e4 z=>if_pos rfl
  have xl:∀(e0 e1 e2 e4:Sl),lm 3 a "row" [(("row" : Str),D.int k)] [e0,e1,e2,fg a,e4]=some (.int k):=fun e0 e1 e2 e4=>by
   unfold lm
   rw[JP,LC]
   show(some (D.int k)).bind (fun z=>if jc z=true then xF 3 a z _ else none)=_
   rw[Jd,if_pos (show jc (D.int k)=true from rfl)]
   exact if_pos rfl
  have hk:oS 3 4 a [Sl.val d,Sl.val nm,Sl.val (.int k),Sl.val .non,fg a]=some (.nx [Sl.val d,Sl.val nm,Sl.val (.int k),fg a,fg a]):=by
   unfold oS
   rw[if_pos ⟨if_pos rfl,oF fun z hz=>by
    simp only[Kn,Ka,K4]at hz
    rcases hz with rfl |rfl |rfl |rfl |rfl
    ·exact .inl ⟨_,rfl⟩
    ·exact .inl ⟨_,rfl⟩
    ·exact .inl ⟨_,rfl⟩
    ·exact .inl ⟨_,rfl⟩
    ·exact .inr (.inr ⟨a,rfl⟩)⟩];rfl
  have hrr:g9 a [(("row" : Str),D.int k)] [Sl.val d,Sl.val nm,Sl.val (.int k),fg a,Sl.no]=some (.rt (.bl true)):=by
   refine aM ?_
   simp! [g9,xx,xl]
  show(oS 3 4 a [Sl.val d,Sl.val nm,Sl.val (.int k),Sl.val .non,fg a]).bind _=_
  rw[hk]
  exact hrr
 refine aM ?_
 simp! [bt,jU,MZ]
theorem kG{k:Int}(h:bn [d]=none/\cq [d]=some (some (1,[(("row" : Str),D.int k)]))):bt [d,.non,.int k]=some (.bl true):=by
 obtain⟨h1,h2⟩:=h
 refine ol ?_ ?_
 ·refine nH fun h=>?_
  simp! [c9,iT,h1]at h
  exact h
 ·show(if 2=2 then(fD [Sl.val d,Sl.val .non]).bind _ else none)=_
  have hb:fD [Sl.val d,Sl.val .non]=some (.xc 1 [(("row" : Str),D.int k)] [Sl.val d,Sl.val .non]):=by
   have h5:ju .non=some (.bl true):=rfl
   have hc:iP 1 bn cq (fun d _=>Out.rt d) (aa (var 0) aj) [Sl.val d,Sl.val .non]=some (.xc 1 [(("row" : Str),D.int k)] [Sl.val d,Sl.val .non]):=by
    show(some [d]).bind _=_
    rw[Jd,if_pos (show([d]:OK).length=1 from rfl),h1,h2];rfl
   have hi:ifX (tst (un ju (var 1))) (iP 1 bn cq (fun d _=>Out.rt d) (aa (var 0) aj)) (okX bf) [Sl.val d,Sl.val .non]=some (.xc 1 [(("row" : Str),D.int k)] [Sl.val d,Sl.val .non]):=by
    show(some true).bind _=_
    rw[Jd,if_pos rfl];exact hc
   unfold fD dC
   rw[hi];rfl
  rw[hb];rfl
theorem ii{k:Int}(h:bB [.str name,d]=none/\cr [.str name,d]=some (some (1,[(("row" : Str),D.int k)]))):bt [d,.str name,.int k]=some (.bl true):=by
 obtain⟨h1,h2⟩:=h
 refine ol ?_ ?_
 ·refine nH fun h=>?_
  simp! [c9,iT,h1]at h
  exact h
 ·show(if 2=2 then(fD [Sl.val d,Sl.val (.str name)]).bind _ else none)=_
  have hb:fD [Sl.val d,Sl.val (.str name)]=some (.xc 1 [(("row" : Str),D.int k)] [Sl.val d,Sl.val (.str name)]):=by
   have hc:iP 2 bB cr (fun d _=>Out.rt d) (aa (var 1) (aa (var 0) aj)) [Sl.val d,Sl.val (.str name)]=some (.xc 1 [(("row" : Str),D.int k)] [Sl.val d,Sl.val (.str name)]):=by
    show(some [D.str name,d]).bind _=_
    rw[Jd,if_pos (show([D.str name,d]:OK).length=2 from rfl),h1,h2];rfl
   have hi:ifX (tst (un ju (var 1))) (iP 1 bn cq (fun d _=>Out.rt d) (aa (var 0) aj)) (okX bf) [Sl.val d,Sl.val (.str name)]=some (.ok (.nx [Sl.val d,Sl.val (.str name)])):=rfl
   unfold fD dC
   rw[hi]
   exact hc
  rw[hb];rfl
end Wk
namespace Wk
theorem uV(h:GR true u):bq [aJ true u]=some (jf u):=by
 have hz:=h.l
 rw[dE,Jo,Jg,Jg]at hz
 have g':GR false ([],u.2.1,u.2.2):=⟨⟨fun c hc=>(by cases hc),h.g.gn,h.g.gw⟩,by show(spS u).length<=500;omega,h.wl⟩
 have hs:aP [.str (mk (spS u))]=some (bb (u.2.1,u.2.2)):=iY (u:=([],u.2.1,u.2.2)) g'
 have hp:=ua h.g h.l
 obtain⟨ps,s1,n1,f1,e1,z1,z2⟩:=gF (aH u.1) ⋯
 have hps:u.1 ++ [mk []]=ps:=eA (by simp) n1 (fun x hx=>by
  rcases List.mem_append.mp hx with hx |hx
  ·exact fB h.g.lc x hx
  ·rw[List.mem_singleton.mp hx];exact oW) f1 (by rw[q_];exact e1)
 subst hps
 have MF:cN (u.1.map D.str ++ [D.str (mk [])]) none (some (-1))=u.1.map D.str:=by rw[uY];simp
 have hne:decide (mk ([]:OJ)=mk [])=true:=JD rfl
 simp only[bb,cF]at hs
 rw[JT,Ji,Jj]at s1
 simp only[mkS]at hp
 refine aM ?_
 simp! [bq,dI,aJ,mkS,db,cc,eU,hp,lX,ny,s1,hs,sQ,hne,MF,xq,Bz]
 rfl
def kH:DE->Option Bool:=orT (dA (tst (aq 2 cY (aa (var 0) (aa (var 5) aj))))) (li (tst (bin gtD (ae 3) (cst (.int 0)))) (tst (bin eqO (un bh (bin ixE (ae 5) (cst (.int 0)))) (cst (.int 0)))))
def n4:DE->Option Out:=(aw (aT 5 (aq 1 bq (aa (var 4) aj))) (aw (ifS kH noS bf) (ir 2 (var 5))))
def pK:DE->Option bF:=(dC (okX (aT 5 (aq 1 bq (aa (var 4) aj)))) (dC (ifX kH (cI 1 "row" (var 3)) (okX bf)) (okX (ir 2 (var 5)))))
variable{e2:Sl}{d0:D}
theorem u4{x:D}{k:Int}:kH [.val (.str name),.val d0,e2,.val (.int k),.val x,.val .non]=some true:=by
 have h:=si name
 refine aM ?_
 simp! [kH,h]
theorem u5{x:D}{k:Int}{b:Bool}(h:cY [.str name,jf (cue,ns,ws)]=some (.bl b))(hl:cue.length<=1000):kH [.val (.str name),.val d0,e2,.val (.int k),.val x,.val (jf (cue,ns,ws))]=some (!b || (decide (0 < k) && decide (cue=[]))):=by
 have h0:decide ((cue.length:Int)=0)=decide (cue=[]):=by
  cases cue with
  |nil=>rfl
  |cons c r=>rw[JA (by rw[Jg];omega),JA (by simp)]
 simp only[jf,cF]at h
 refine aM ?_
 cases b with
 |false=>simp! [kH,jf,cF,h,Bool.not_false,Bool.true_or]
 |true =>
  by_cases hk:0 < k
  ·simp! [kH,jf,cF,h,JD hk,lX,Jm,h0,L_,Bool.false_or,LB]
  ·simp! [kH,jf,cF,h,JA hk,L_,Bool.false_or,Ld]
theorem wO{x r:D}{acc:OK}{e3 e4 e5:Sl}{k:Int}{b:Bool}(hr:bq [x]=some r)(hc:kH [.val (.str name),.val d0,.own (.lst acc),.val (.int k),.val x,.val r]=some b)(hl:acc.length<=1000) :
  (b=false->(gPr (.tup [.int k,x]) [.val (.str name),.val d0,.own (.lst acc),e3,e4,e5]).bind n4=some (.nx [.val (.str name),.val d0,.own (.lst (acc ++ [r])),.val (.int k),.val x,.val r])/\(gPr (.tup [.int k,x]) [.val (.str name),.val d0,.own (.lst acc),e3,e4,e5]).bind pK=some (.ok (.nx [.val (.str name),.val d0,.own (.lst (acc ++ [r])),.val (.int k),.val x,.val r]))) /\
  (b=true->(gPr (.tup [.int k,x]) [.val (.str name),.val d0,.own (.lst acc),e3,e4,e5]).bind n4=none/\∃E',(gPr (.tup [.int k,x]) [.val (.str name),.val d0,.own (.lst acc),e3,e4,e5]).bind pK=some (.xc 1 [("row",.int k)] E')):=by
 have hz:acc.length < sizeLine:=by show _ < 16777216;omega
 have hs:jc (.int k)=true:=rfl
 refine⟨fun h=>⟨?_,?_⟩,fun h=>⟨?_,?_⟩⟩
 ·subst h
  unfold n4
  dsimp! [gPr,hr,hc,hz]
 ·subst h
  unfold pK
  dsimp! [gPr,hr,hc,hz]
 ·subst h
  unfold n4
  dsimp! [gPr,hr,hc]
 ·subst h
  unfold pK
  dsimp! [gPr,hs,hr,hc]
  exact⟨_,rfl⟩
structure ic (name:Str) (us:O9):Prop where
 gr:∀u ∈ us,GR true u
 nm:∀u ∈ us,name ∈ u.2.1
 cl:∀u ∈ us,u.1.length<=8
 cn:∀(i:Nat) u,us[i]? = some u->0 < i->u.1 ≠ []
theorem ic.take{name:Str}{us:O9}(h:ic name us)(j:Nat):ic name (us.take j):=⟨fun u hu=>h.gr u (JX hu),fun u hu=>h.nm u (JX hu),fun u hu=>h.cl u (JX hu),fun i u hi=>h.cn i u (by
 rw[List.getElem?_take]at hi
 split at hi
 ·exact hi
 ·cases hi)⟩
theorem zf(h:ic name us)(hu:us[i]? = some u){x:D}:kH [.val (.str name),.val d0,e2,.val (.int (i:Int)),.val x,.val (jf u)]=some false:=by
 have hm:=JY hu
 have g:=h.gr u hm
 have cl:=h.cl u hm
 have wl:=g.wl
 have he:=lS name u.1 u.2.1 u.2.2 ⋯ (fun x hx=>Jy (eE (g.g.cue x hx) nofun) nofun) g.g.gn g.g.gw ⋯
 rw[km g.g.cue,JD (h.nm u hm)]at he
 have hc:=u5 (name:=name) (d0:=d0) (x:=x) (e2:=e2) (k:=(i:Int)) he ⋯
 rw[show((u.1,u.2.1,u.2.2):En)=u from rfl]at hc
 rw[hc]
 by_cases hi:0 < i
 ·rw[JA (h.cn i u hu hi)];simp
 ·rw[JA (show ¬(0 < (i:Int)) by omega)];simp
theorem Ez(h:ic name us)(hl:us.length<=60)(d0:D):∀(i:Nat) (u:En),us[i]? = some u->∀E,(∃e3 e4 e5,E=[.val (.str name),.val d0,.own (.lst ((us.take i).map jf)),e3,e4,e5]) ->
  ∃E',(gPr (.tup [.int (i:Int),aJ true u]) E).bind n4=some (.nx E')/\(gPr (.tup [.int (i:Int),aJ true u]) E).bind pK=some (.ok (.nx E'))/\∃e3 e4 e5,E'=[.val (.str name),.val d0,.own (.lst ((us.take (i + 1)).map jf)),e3,e4,e5]:=by
 rintro i u hu E ⟨e3,e4,e5,rfl⟩
 have hm:=JY hu
 obtain⟨h1,_⟩:=wO (name:=name) (d0:=d0) (x:=aJ true u) (acc:=(us.take i).map jf) (e3:=e3) (e4:=e4) (e5:=e5) (k:=(i:Int)) (uV (h.gr u hm)) (zf h hu) (by rw[Jm,JQ];omega)
 obtain⟨q1,q2⟩:=h1 rfl
 exact⟨_,q1,q2,_,_,_,by rw[Ln,hu,JT];rfl⟩
theorem Ca{x:D}(hx:Eb name P x){d0:D}{acc:OK}{e3 e4 e5:Sl}(hl:acc.length<=1000) :
  (gPr (.tup [.int (P.length:Int),x]) [.val (.str name),.val d0,.own (.lst acc),e3,e4,e5]).bind n4=none/\∃E',(gPr (.tup [.int (P.length:Int),x]) [.val (.str name),.val d0,.own (.lst acc),e3,e4,e5]).bind pK=some (.xc 1 [("row",.int (P.length:Int))] E'):=by
 rcases hx with hx |⟨l,rfl,hll,hno⟩
 ·exact(wO (zb x hx) u4 hl).2 rfl
 ·obtain⟨r,hr,hr2⟩:=zc l hll
  rcases hr2 with rfl |⟨cue,ns,ws,f1,z1,z2,gn,gw,rfl,el⟩
  ·exact(wO hr u4 hl).2 rfl
  ·have wl:ws.length<=700:=by
    have h1:=(mZ ws).1
    have h2:=JR List.length el
    simp only[Jo,Jg]at h2
    omega
   have he:=lS name cue ns ws ⋯ (fun x hx=>by have:=z2 x hx;omega) gn gw ⋯
   have hc:=u5 (name:=name) (d0:=d0) (x:=mkS l) (e2:=Sl.own (.lst acc)) (k:=(P.length:Int)) he ⋯
   have ht:(!((cue.map D.str).all (isL 12) && decide (name ∈ ns)) || (decide (0 < (P.length:Int)) && decide (cue=[])))=true:=by
    cases hb:((cue.map D.str).all (isL 12) && decide (name ∈ ns)) with
    |false=>rfl
    |true =>
     rw[JG,Lh,Kt]at hb
     obtain⟨hb1,hb2⟩:=hb
     have hg:GU (cue,ns,ws):=⟨fun c hc=>hb1 c hc,gn,gw⟩
     by_cases h5:0 < P.length->cue ≠ []
     ·exact False.elim (hno (cue,ns,ws) hg (by rw[el,dE];rfl) (KB hb2) h5)
     ·have:0 < P.length/\cue=[]:=by
       refine⟨JS fun z=>h5 fun z'=>absurd z' z,JS fun z=>h5 fun _=>z⟩
      rw[JD (show(0:Int) < (P.length:Int) by omega),JD this.2];rfl
   rw[ht]at hc
   exact(wO hr hc hl).2 rfl
theorem pU(hP:ic name P)(hl:P.length<=60){x:D}{rest:OK}(hx:Eb name P x) :
  bB [.str name,.lst (P.map (aJ true) ++ x :: rest)]=none/\cr [.str name,.lst (P.map (aJ true) ++ x :: rest)]=some (some (1,[(("row" : Str),D.int (P.length:Int))])):=by
 generalize hd0:D.lst (P.map (aJ true) ++ x :: rest)=d0
 have MH:aA [d0]=some (.bl true):=by rw[<-hd0];rfl
 have Mp:∃n:Nat,bh d0=some (.int ((n + 1:Nat):Int)):=by
  rw[<-hd0]
  exact⟨P.length + rest.length,by show some (D.int ((P.map (aJ true) ++ x :: rest).length:Int))=_;rw[Jo,Jm,Jg];rfl⟩
 obtain⟨n,Mp⟩:=Mp
 have hn0:decide (((n + 1:Nat):Int)=0)=false:=JA ⋯
 obtain⟨h1,E',h2⟩:=r_ (f:=fun x E1=>(gPr x E1).bind n4) (fx:=fun x E1=>(gPr x E1).bind pK) (n:=1) (fs:=[(("row" : Str),D.int (P.length:Int))]) (enc:=aJ true) (y:=x) (rest:=rest)
  (I:=fun k E=>∃e3 e4 e5,E=[.val (.str name),.val d0,.own (.lst ((P.take k).map jf)),e3,e4,e5]) P 0 [.val (.str name),.val d0,.own (.lst []),.no,.no,.no] ⟨_,_,_,rfl⟩ (fun i u hu E hE=>by
   rw[Nat.zero_add]at hE ⊢
   exact Ez hP hl d0 i u hu E hE) (fun E hE=>by
   obtain⟨e3,e4,e5,rfl⟩:=hE
   rw[Nat.zero_add]
   exact Ca hx (by rw[Jm,JQ];omega))
 have MO:jp [d0]=some (eY (P.map (aJ true) ++ x :: rest) ((0:Nat):Int)):=by rw[<-hd0];rfl
 have Mw:(orT (dA (tst (aq 1 aA (aa (var 1) aj)))) (tst (bin eqO (un bh (ae 1)) (cst (.int 0))))) [.val (.str name),.val d0,.no,.no,.no,.no]=some false:=by
  refine aM ?_
  simp! [MH,Mp,hn0]
 constructor
 ·show(if 2=2 then(cT [.val (.str name),.val d0,.no,.no,.no,.no]).bind _ else none)=_
  have MS:ij (dZ (aa (var 1) aj)) gPr n4 [.val (.str name),.val d0,.own (.lst []),.no,.no,.no]=none:=by
   show((some [d0]).bind jp).bind _=_
   rw[Jd,MO];exact h1
  have h0:ifS (orT (dA (tst (aq 1 aA (aa (var 1) aj)))) (tst (bin eqO (un bh (ae 1)) (cst (.int 0))))) noS bf [.val (.str name),.val d0,.no,.no,.no,.no]=some (.nx [.val (.str name),.val d0,.no,.no,.no,.no]):=by
   unfold ifS
   rw[Mw];rfl
  have hb:cT [.val (.str name),.val d0,.no,.no,.no,.no]=none:=by
   show(aw _ (aw _ (aw (ij (dZ (aa (var 1) aj)) gPr n4) _))) _=_
   unfold aw
   rw[h0]
   show((ij (dZ (aa (var 1) aj)) gPr n4 [.val (.str name),.val d0,.own (.lst []),.no,.no,.no]).bind _)=_
   rw[MS];rfl
  rw[hb];rfl
 ·show(if 2=2 then(dQ [.val (.str name),.val d0,.no,.no,.no,.no]).bind _ else none)=_
  have h0:ifX (orT (dA (tst (aq 1 aA (aa (var 1) aj)))) (tst (bin eqO (un bh (ae 1)) (cst (.int 0))))) (cI 1 "row" (cst (.int 0))) (okX bf) [.val (.str name),.val d0,.no,.no,.no,.no]=some (.ok (.nx [.val (.str name),.val d0,.no,.no,.no,.no])):=by
   unfold ifX
   rw[Mw];rfl
  have MS:p5 (dZ (aa (var 1) aj)) gPr pK [.val (.str name),.val d0,.own (.lst []),.no,.no,.no]=some (.xc 1 [(("row" : Str),D.int (P.length:Int))] E'):=by
   show((some [d0]).bind jp).bind _=_
   rw[Jd,MO];exact h2
  have hb:dQ [.val (.str name),.val d0,.no,.no,.no,.no]=some (.xc 1 [(("row" : Str),D.int (P.length:Int))] E'):=by
   show(dC _ (dC _ (dC (p5 (dZ (aa (var 1) aj)) gPr pK) _))) _=_
   unfold dC
   rw[h0]
   show((p5 (dZ (aa (var 1) aj)) gPr pK [.val (.str name),.val d0,.own (.lst []),.no,.no,.no]).bind _)=_
   rw[MS];rfl
  rw[hb];rfl
theorem jC(h:ic name us)(hne:us ≠ [])(hl:us.length<=60)(hs:aA [d]=some (.bl true))(Mp:bh d=some (.int us.length))(he:jp [d]=some ((us.zipIdx).map fun q=>D.tup [.int (q.2:Int),aJ true q.1])):bB [.str name,d]=some (.tup (us.map jf)):=by
 have My:decide ((us.length:Int)=0)=false:=JA fun z=>hne (List.length_eq_zero_iff.mp ⋯)
 refine aM ?_
 have hb:cT=aw (ifS (orT (dA (tst (aq 1 aA (aa (var 1) aj)))) (tst (bin eqO (un bh (ae 1)) (cst (.int 0))))) noS bf) (aw (gj 2 (bu aj)) (aw (ij (dZ (aa (var 1) aj)) gPr n4) (ba (un bU (ae 2))))):=rfl
 rw[bB,hb]
 simp! [hs,Mp,My,dZ,he]
 refine gU (fun q:En×Nat=>D.tup [.int (q.2:Int),aJ true q.1]) us.zipIdx (fun pre E=>∃s3 s4 s5,E=[Sl.val (.str name),Sl.val d,Sl.own (D.lst ((pre.map (·.1)).map jf)),s3,s4,s5]) rfl ⟨_,_,_,rfl⟩ ?_ ?_
 ·rintro pre ⟨u,i⟩ post E hz ⟨s3,s4,s5,rfl⟩
  obtain⟨MC,hi⟩:=wH hz
  have hi':i=pre.length:=hi
  have hat:us[i]? = some u:=by
   rw[MC,hi',Ki (by rw[Jm];exact Jw _),Jm,Nat.sub_self];rfl
  have htk:us.take i=pre.map (·.1):=by rw[MC,hi',List.take_left' (by rw[Jm])]
  obtain⟨E',q1,_,e3,e4,e5,rfl⟩:=Ez h hl d i u hat _ ⟨s3,s4,s5,by rw[htk]⟩
  rw[Ln,hat,htk]at q1
  rw[<-cG]
  exact b_.mpr ⟨_,q1,e3,e4,e5,by simp⟩
 ·rintro E ⟨s3,s4,s5,rfl⟩
  have e:(us.zipIdx).map (·.1)=us:=LX 0 us
  simp! [e]
end Wk
namespace S9
open L2.Cu.Wk
open L2.Cu.S7
theorem A4(c:Int):wp (kg [.int c]) fun d=>∃ss:List Str,d=.lst (ss.map D.str)/\ss.length=5/\ss.Nodup/\∀x ∈ ss,Wd 8 x:=by
 have fin:∀f:Nat->List Nat,(∀i j,i < 5->j < 5->f i=f j->i=j)->(∀i,i < 5->1<=(f i).length/\(f i).length<=8/\zx (f i))->∃ss:List Str,D.lst ((List.range 5).map fun k=>D.str (mk (f k)))=.lst (ss.map D.str)/\ss.length=5/\ss.Nodup/\∀x ∈ ss,Wd 8 x:=fun f h1 h2 =>
  ⟨(List.range 5).map fun k=>mk (f k),by rw[Kk];rfl,by simp,uj _ 5 fun i j hi hj e=>h1 i j hi hj (r8.mp e),fun x hx=>by
   obtain⟨k,hk,rfl⟩:=List.mem_map.mp hx
   obtain⟨a,b,c⟩:=h2 k (List.mem_range.mp hk)
   exact Wd.mk' a b c⟩
 have hr:gc [D.int 5]=some (eS 0 5):=cH ⋯ ⋯
 have hrl:(eS 0 5).length<=16777216:=by simp[eS]
 have hr7:gc [D.int 7]=some (eS 0 7):=cH ⋯ ⋯
 have NL:(eS 0 7).length<=16777216:=by simp[eS]
 simp! [kg,mX,pE,db,hr7,jo NL]
 obtain⟨cs,hcs,hcl,MA⟩:=oO 7 3 c ⋯ (E:=[Sl.val (D.int c),Sl.val (D.str (mk (List.range' 97 26))),Sl.no,Sl.no,Sl.no,Sl.no]) (sl:=5) (f:=bin ixE (ae 1) (aq 3 br (aa (var 0) (aa (bin ay (cst (.int 3)) (ae 5)) (aa (cst (.int 26)) aj))))) fun k hk r r0 r1 hd=>by
  have hd':br [.int c,.int (3 + (0 + (k:Int))),.int 26]=some (.int r):=hd
  refine aM ?_
  simp! [hd',iF r0 r1]
 simp! [hcs,lR cs ⋯]
 have hz:cs.length<=16777216:=by omega
 have a0:0<=c / 3 % 7:=by omega
 have a1:c / 3 % 7 < 7:=by omega
 generalize haI:c / 3 % 7=aI at a0 a1
 obtain⟨at',hat⟩:∃at':Nat,aI=at':=⟨aI.toNat,⋯⟩
 refine cp (fun h=>?_) fun h=>?_
 ·simp! [hr,jo hrl]
  rw[show eS 0 5=(List.range 5).map (fun i:Nat=>D.int (0 + i)) from rfl,df (fun i:Nat=>D.int (0 + i)) (fun k=>D.str (mk (cs.take (k + 1)))) (List.range 5) fun k hk=>?_]
  ·simp! []
   refine fin _ (fun i j hi hj e=>?_) fun i hi=>⟨by simp;omega,by simp;omega,fun c hc=>MA c (JX hc)⟩
   have:=JR List.length e
   simp at this
   omega
  ·refine aM ?_
   simp! [i4 hz]
   rw[show(0:Int) + (k:Nat) + 1=((k + 1:Nat):Int) by omega,la]
 ·simp! []
  refine cp (fun h2=>?_) fun h2=>?_
  ·simp! [hr,jo hrl]
   rw[show eS 0 5=(List.range 5).map (fun i:Nat=>D.int (0 + i)) from rfl,df (fun i:Nat=>D.int (0 + i)) (fun k=>D.str (mk (cs.drop k))) (List.range 5) fun k hk=>?_]
   ·simp! []
    refine fin _ (fun i j hi hj e=>?_) fun i hi=>⟨by simp;omega,by simp;omega,fun c hc=>MA c (Kc hc)⟩
    have:=JR List.length e
    simp at this
    omega
   ·refine aM ?_
    simp! [i4 hz]
    rw[show(0:Int) + (k:Nat)=((k:Nat):Int) by omega,e9]
  ·simp! [haI,hr,jo hrl]
   generalize c / 21 % 26=fI
   rw[show eS 0 5=(List.range 5).map (fun i:Nat=>D.int (0 + i)) from rfl,df (fun i:Nat=>D.int (0 + i)) (fun k:Nat=>D.str (mk (cs.take at' ++ [97 + ((fI + 3 * (k:Int)) % 26).toNat] ++ cs.drop (at' + 1)))) (List.range 5) fun k hk=>?_]
   ·simp! []
    refine fin _ (fun i j hi hj e=>?_) fun i hi=>⟨by simp;omega,by simp;omega,fun c hc=>?_⟩
    ·have e1:=List.append_cancel_right e
     have e2:=List.append_cancel_left e1
     injection e2 with e3
     omega
    ·simp only[List.mem_append]at hc
     rcases hc with(hc |hc) |hc
     ·exact MA c (JX hc)
     ·rw[List.mem_singleton.mp hc];omega
     ·exact MA c (Kc hc)
   ·have hk':=List.mem_range.mp hk
    refine aM ?_
    have m1:=gK (i:=3) (j:=0 + (k:Int)) ⋯ ⋯
    rw[Lm]at m1
    have h0:0<=(fI + 3 * (k:Int)) % 26:=by omega
    have h1:(fI + 3 * (k:Int)) % 26 < 26:=by omega
    simp! [Lm,m1,i4 hz,iF h0 h1]
    rw[hat,show(at':Int) + 1=((at' + 1:Nat):Int) by omega,la,e9]
    rw[aG (by simp;omega)]
    simp! []
    rw[aG (by simp;omega)]
    simp! []
theorem wu(c:Int)(free Mm:OD)(hf:1<=free.length)(hf8:free.length<=8)(MA:∀x ∈ free,sS x)(hw:1<=Mm.length) :
  wp (fR [.int c,.lst (free.map D.str),.lst (Mm.map D.str)]) fun d=>∃so line,d=wn so line/\Row free Mm so line/\so.length<=3:=by
 have hr:gc [D.int (free.length:Int)]=some ((List.range free.length).map fun i:Nat=>D.int (0 + (i:Int))):=by
  rw[cH ⋯ ⋯,KS];rfl
 have hfI:(0:Int) < (free.length:Int):=by omega
 obtain⟨zs,hzs,Oh⟩:=lb (fun i:Nat=>D.int (0 + (i:Int))) (fun k:Nat=>D.str (free.getD k (mk []))) (i:=4) (cf:=tst (bin eqO (aq 3 br (aa (var 0) (aa (var 4) (aa (cst (.int 4)) aj)))) (cst (.int 0)))) (ef:=bin ixE (ae 1) (ae 4))
  (E:=[Sl.val (D.int c),Sl.val (D.lst (free.map D.str)),Sl.val (D.lst (Mm.map D.str)),Sl.no,Sl.no]) (List.range free.length) fun k hk=>by
  have hk':=List.mem_range.mp hk
  obtain⟨d,hd,r,rfl,r0,r1⟩:=b_.mp (nI c (0 + (k:Int)) 4 ⋯ ⋯ ⋯)
  refine⟨decide (r=0),?_,?_⟩
  ·refine aM ?_
   simp! [hd]
  ·refine aM ?_
   simp! [Lm,fU]
   rw[JH,Kj,Jr hk'];rfl
 have hmp:zs.map (fun k:Nat=>D.str (free.getD k (mk [])))=(zs.map fun k=>free.getD k (mk [])).map D.str:=by rw[Kk];rfl
 have MQ:(zs.map fun k=>free.getD k (mk [])).Sublist free:=by
  have h1:=Oh.map (fun k=>free.getD k (mk []))
  have h2:(List.range free.length).map (fun k=>free.getD k (mk []))=free:=by
   apply List.ext_getElem
   ·simp
   ·intro i h1 h2
    rw[List.getElem_map,L7,Kj,Jr h2];rfl
  rwa [h2]at h1
 rw[hmp]at hzs
 generalize (zs.map fun k=>free.getD k (mk []))=s1 at hzs MQ
 have MF:cN (s1.map D.str) none (some 3)=(s1.take 3).map D.str:=by
  rw[show(3:Int)=((3:Nat):Int) by omega,la,K7]
 have Ol:=MQ.length_le
 have b0:0<=c / 5 % 4:=by omega
 have b1:c / 5 % 4 < 4:=by omega
 generalize hb:c / 5 % 4=bI at b0 b1
 obtain⟨b,hbb⟩:∃b:Nat,bI=b:=⟨bI.toNat,⋯⟩
 have hr2:gc [D.int (1 + bI)]=some (eS 0 (1 + b)):=by rw[cH ⋯ ⋯,show(1 + bI).toNat=1 + b by omega]
 have Nj:(eS 0 (1 + b)).length<=16777216:=by simp[eS];omega
 have fin:∀so:List Str,so ≠ []->so.Sublist free->so.length<=3->wp ((ba (fc (aa (var 3) (aa (bO [4] (jt (aa (bin ay (cst (.int 1)) (bin a9 (bin aS (ae 0) (cst (.int 5))) (cst (.int 4)))) aj)) (nmG 4) noT (bin ixE (ae 2) (aq 3 br (aa (var 0) (aa (bin ay (cst (.int 40)) (ae 4)) (aa (un bh (ae 2)) aj)))))) aj)))) [Sl.val (D.int c),Sl.val (D.lst (free.map D.str)),Sl.val (D.lst (Mm.map D.str)),Sl.val (D.lst (so.map D.str)),Sl.no])
   (lC fun d=>∃so line,d=wn so line/\Row free Mm so line/\so.length<=3):=by
  intro so h1 h2 h3
  obtain⟨line,Mr,hll,hlm⟩:=S8.line_ok (1 + b) 40 c ⋯ Mm hw (E:=[Sl.val (D.int c),Sl.val (D.lst (free.map D.str)),Sl.val (D.lst (Mm.map D.str)),Sl.val (D.lst (so.map D.str)),Sl.no]) (sl:=4)
   (f:=bin ixE (ae 2) (aq 3 br (aa (var 0) (aa (bin ay (cst (.int 40)) (ae 4)) (aa (un bh (ae 2)) aj))))) fun k hk r r0 r1 hd=>by
    have hd':br [.int c,.int (40 + (0 + (k:Int))),.int (Mm.length:Int)]=some (.int r):=hd
    simp! [Jm,hd']
  simp! [hb,hr2,jo Nj,Mr]
  exact⟨so,line,rfl,⟨h1,h2,fun e=>by rw[e]at hll;simp at hll;omega,⋯,hlm⟩,h3⟩
 simp! [fR,jX,Jm,hr,JV]
 refine jv (gV ⋯) ?_
 rw[hzs]
 have hq0:=mS (ss:=s1.take 3) fun x hx=>MA x (MQ.subset (JX hx))
 have x0:0<=c / 11 % (free.length:Int):=Kb _ ⋯
 have x1:c / 11 % (free.length:Int) < (free.length:Int):=J8 _ hfI
 have hlt:(c / 11 % (free.length:Int)).toNat < free.length:=by omega
 have hat:atI (free.map D.str) (c / 11 % (free.length:Int))=some (.str free[(c / 11 % (free.length:Int)).toNat]):=by
  rw[fJ x0 (by rw[Jm];exact x1),JH,Jr hlt];rfl
 simp only[Jf,bP,wS,un,bin,noP,cE,bG,Jd,aq,aa,aj,var,ae,cst,tst,asB,mm,Jc,Je,Jg,Jh,Nat.reduceAdd,reduceIte,MF,gh,aT,KM,KL,j8,nW,bu,Jj,hq0,cG]
 refine cp (fun h=>?_) fun h=>?_
 ·simp! [bP,Jf,gh,aT,bin,un,cst,var,ae,bu,aa,aj,Jd,Jc,Je,KM,KL,iJ,bW hfI,uw,Jm,xn,hat]
  have z:=fin [free[(c / 11 % (free.length:Int)).toNat]] (by simp) (n_ hlt) (by simp)
  simp! []at z
  exact z
 ·simp only[bf,bP,gh]
  exact fin _ h ((List.take_sublist _ _).trans MQ) (by rw[JQ];omega)
def AK:DE->Option Out :=
 (aw (fun E=>(aT 9 (un m8 (bO [11] (f8 cJ (var 3)) (nmG 11) (tst (bin vR (ae 11) (ae 7))) (var 11)))) (fzE 3 E))
 (aw (dk (aq 3 fR (aa (bin a9 (ae 8) (bin lG (cst (.int 10)) (cst (.int 18)))) (aa (var 9) (aa (var 4) aj)))) (f9 2 (a_ (nmG 7) (a_ (nmG 10) f_))))
 (aw (ifS (tst (var 5))
 (dk (aq 4 dY (aa (bin a9 (ae 8) (bin lG (cst (.int 10)) (cst (.int 18)))) (aa (var 9) (aa (var 4) (aa (bin vn (un bh (ae 3)) (cst (.int 1))) aj))))) (f9 2 (a_ (nmG 7) (a_ (nmG 10) f_))))
 bf)
 (ir 6 (fc (aa (un bU (ae 7)) (aa (un bU (ae 10)) aj)))))))
theorem Dt(cells:Ow)(hc:cells.length<=1000)(names Mm:OD)(dg:Bool)(x0:D)(aI mI:Int)(hn:names.Nodup)(hn2:2<=names.length)(hn8:names.length<=8)(hnw:∀x ∈ names,sS x)(hw:1<=Mm.length)(hw8:Mm.length<=100)(hdg:dg=false->4<=names.length) :
  wp (oM (nmG 8) AK (cells.map D.int) [Sl.val x0,Sl.val (D.int aI),Sl.val (D.int mI),Sl.own (D.lst (names.map D.str)),Sl.val (D.lst (Mm.map D.str)),Sl.val (D.bl dg),Sl.own (D.lst []),Sl.val (D.lst []),Sl.no,Sl.no,Sl.no,Sl.no]) fun r=>∃E p,r=.nx E/\E[6]? = some (Sl.own (D.lst (p.map bb)))/\p.length=cells.length/\wF names Mm p:=by
 refine gU D.int cells (fun pre E=>∃(p:O2) (s3 s8 s9 s10:Sl),E=[Sl.val x0,Sl.val (D.int aI),Sl.val (D.int mI),s3,Sl.val (D.lst (Mm.map D.str)),Sl.val (D.bl dg),Sl.own (D.lst (p.map bb)),Sl.val (D.lst ((bv p).map D.str)),s8,s9,s10,Sl.no]/\(s3=Sl.own (D.lst (names.map D.str))\/s3=Sl.val (D.lst (names.map D.str)))/\p.length=pre.length/\wF names Mm p/\(bv p).length < names.length) rfl ?_ ?_ ?_
 ·exact⟨[],_,_,_,_,rfl,.inl rfl,rfl,⟨fun _ h=>(by cases h),trivial⟩,by show 0 < _;omega⟩
 ·rintro pre c post E hs ⟨p,s3,s8,s9,s10,rfl,hs3,hpl,MP,MG⟩
  have MM:pre.length < cells.length:=by rw[hs];simp
  have hfz:fzE 3 [Sl.val x0,Sl.val (D.int aI),Sl.val (D.int mI),s3,Sl.val (D.lst (Mm.map D.str)),Sl.val (D.bl dg),Sl.own (D.lst (p.map bb)),Sl.val (D.lst ((bv p).map D.str)),Sl.val (D.int c),s9,s10,Sl.no]=[Sl.val x0,Sl.val (D.int aI),Sl.val (D.int mI),Sl.val (D.lst (names.map D.str)),Sl.val (D.lst (Mm.map D.str)),Sl.val (D.bl dg),Sl.own (D.lst (p.map bb)),Sl.val (D.lst ((bv p).map D.str)),Sl.val (D.int c),s9,s10,Sl.no]:=by
   rcases hs3 with rfl |rfl <;> rfl
  generalize hfr:names.filter (fun n => !decide (n ∈ bv p))=fr0
  have Nq:∀n ∈ fr0,n ∈ names/\n ∉ bv p:=fun n hn=>by
   rw[<-hfr,List.mem_filter]at hn
   exact⟨hn.1,by simpa using hn.2⟩
  have N4:fr0.Nodup:=by rw[<-hfr];exact hn.filter _
  have hfl:fr0.length<=8:=by rw[<-hfr];exact Jy (List.length_filter_le _ _) hn8
  have N6:0 < fr0.length:=by
   rcases Nat.eq_zero_or_pos fr0.length with h0 |h0
   ·exfalso
    have MU:∀n ∈ names,n ∈ bv p:=fun n hn'=>by
     by_cases hm:n ∈ bv p
     ·exact hm
     ·have:n ∈ fr0:=by rw[<-hfr,List.mem_filter];exact⟨hn',by simpa using hm⟩
      rw[List.length_eq_zero_iff.mp h0]at this
      cases this
    have:=qx hn MU
    omega
   ·exact h0
  have Oi:=dB fr0
  have N7:=tx N4
  have Mu:∀n ∈ bQ fr0,n ∈ names/\n ∉ bv p:=fun n hn'=>Nq n (Oi.mem_iff.mp hn')
  have Nx:(bQ fr0).length<=8:=by rw[Oi.length_eq];exact hfl
  have Nn:1<=(bQ fr0).length:=by rw[Oi.length_eq];exact N6
  have M7:∀x ∈ bQ fr0,sS x:=fun x hx=>hnw x (Mu x hx).1
  have ML:bJ (nmG 11) (tst (bin vR (ae 11) (ae 7))) (var 11) [Sl.val x0,Sl.val (D.int aI),Sl.val (D.int mI),Sl.val (D.lst (names.map D.str)),Sl.val (D.lst (Mm.map D.str)),Sl.val (D.bl dg),Sl.own (D.lst (p.map bb)),Sl.val (D.lst ((bv p).map D.str)),Sl.val (D.int c),s9,s10,Sl.no] (names.map D.str)=some (fr0.map D.str):=by
   rw[<-hfr]
   refine me D.str (fun n => !decide (n ∈ bv p)) D.str names fun x hx=>?_
   simp! [um]
   exact fun _=>trivial
  have p18:lG (.int 10) (.int 18)=some (.int (10 ^ 18)):=nK ⋯ ⋯ nofun
  have h18:(0:Int) < 10 ^ 18:=by decide
  have fin:∀(so line:OD) (s9:Sl),Row (bQ fr0) Mm so line->so.length < names.length->wp (ir 6 (fc (aa (un bU (ae 7)) (aa (un bU (ae 10)) aj))) [Sl.val x0,Sl.val (D.int aI),Sl.val (D.int mI),Sl.val (D.lst (names.map D.str)),Sl.val (D.lst (Mm.map D.str)),Sl.val (D.bl dg),Sl.own (D.lst (p.map bb)),Sl.val (D.lst (so.map D.str)),Sl.val (D.int c),s9,Sl.val (D.lst (line.map D.str)),Sl.no]) (fun r=>match r with |.nx E'=>∃(p:O2) (s3 s8 s9 s10:Sl),E'=[Sl.val x0,Sl.val (D.int aI),Sl.val (D.int mI),s3,Sl.val (D.lst (Mm.map D.str)),Sl.val (D.bl dg),Sl.own (D.lst (p.map bb)),Sl.val (D.lst ((bv p).map D.str)),s8,s9,s10,Sl.no]/\(s3=Sl.own (D.lst (names.map D.str))\/s3=Sl.val (D.lst (names.map D.str)))/\p.length=(pre ++ [c]).length/\wF names Mm p/\(bv p).length < names.length |.ct E'=>∃(p:O2) (s3 s8 s9 s10:Sl),E'=[Sl.val x0,Sl.val (D.int aI),Sl.val (D.int mI),s3,Sl.val (D.lst (Mm.map D.str)),Sl.val (D.bl dg),Sl.own (D.lst (p.map bb)),Sl.val (D.lst ((bv p).map D.str)),s8,s9,s10,Sl.no]/\(s3=Sl.own (D.lst (names.map D.str))\/s3=Sl.val (D.lst (names.map D.str)))/\p.length=(pre ++ [c]).length/\wF names Mm p/\(bv p).length < names.length |_=>False):=by
   intro so line s9 Mv hlt
   have yes:p.length < 16777216:=by omega
   have NG:∀n ∈ bv p,n ∉ so:=fun n hn' hm=>(Mu n (Mv.sub.subset hm)).2 hn'
   simp! [Jm,lv yes]
   refine⟨p ++ [(so,line)],_,_,_,_,by rw[jb,JT];rfl,.inr rfl,by simp[hpl],⟨fun s hs'=>?_,?_⟩,?_⟩
   ·rcases List.mem_append.mp hs' with z |z
    ·exact MP.each s z
    ·rw[List.mem_singleton.mp z]
     exact⟨Mv.ne,KG hlt,.inl hlt,fun n hn'=>(Mu n (Mv.sub.subset hn')).1,Cz Mv.sub N7,Mv.lne,(by show line.length<=5;have:=Mv.lle;omega),Mv.lsub⟩
   ·refine MP.apart.snoc fun a ha n hn'=>?_
    have:bv p=a.1:=by unfold bv;rw[ha];rfl
    exact NG n (by rw[this];exact hn')
   ·rw[jb];exact hlt
  have hnl:names.length<=16777216:=by omega
  simp only[nmG,bP,KM,KL,AK,j8]
  rw[hfz]
  simp! [Jm,jo hnl,ML,mD (show fr0.length < 64 by omega),p18]
  refine fE (wu _ _ _ Nn Nx M7 hw) ?_
  rintro _ ⟨so,line,rfl,Mv,hle⟩
  cases dg with
  |false =>
   have z:=fin so line (Sl.val (D.lst ((bQ fr0).map D.str))) Mv (by have:=hdg rfl;omega)
   simp! [wn]at z ⊢
   exact z
  |true =>
   simp! [wn,Jm]
   refine fE (sN _ ((names.length:Int) - 1) (names.length - 1) ⋯ ⋯ _ _ Nn Nx M7 hw hw8) ?_
   rintro _ ⟨so2,line2,rfl,NH,On⟩
   have z:=fin so2 line2 (Sl.val (D.lst ((bQ fr0).map D.str))) NH ⋯
   simp! [wn]at z ⊢
   exact z
 ·rintro E ⟨p,s3,s8,s9,s10,rfl,hs3,hpl,MP,MG⟩
  exact⟨_,p,rfl,rfl,hpl,MP⟩
theorem play_gen(ns:Ow)(a m:Nat)(hm:m<=100):wp (jI [.scr ns,.int (a:Int),.int (m:Int)]) fun d=>∃names Mm p,d=k_ p/\p.length<=m/\names.length<=8/\(∀x ∈ names,Wd 8 x)/\(∀x ∈ Mm,Wd 12 x)/\wF names Mm p:=by
 obtain⟨_,k2,c2,rfl,_⟩:=b_.mp (cell_ok ns a (a:Int) rfl)
 obtain⟨_,k3,c3,rfl,_⟩:=b_.mp (cell_ok ns (a + 1) ((a:Int) + 1) ⋯)
 obtain⟨_,k0,c0,rfl,_⟩:=b_.mp (cell_ok ns 0 0 rfl)
 obtain⟨_,l2,d2,rfl,_⟩:=b_.mp (xi ns a (a:Int) rfl)
 obtain⟨_,l3,d3,rfl,_⟩:=b_.mp (xi ns (a + 1) ((a:Int) + 1) ⋯)
 obtain⟨_,hn1,names1,rfl,n1l,n1d,n1w⟩:=b_.mp (A4 c2)
 obtain⟨_,hv1,words1,rfl,v1l,v1l8,v1w⟩:=b_.mp (zD c3)
 have e0:0<=d3 % 8:=by omega
 have e1:d3 % 8 < 8:=by omega
 generalize he:d3 % 8=eI at e0 e1
 obtain⟨en,hen⟩:∃en:Nat,eI=en:=⟨eI.toNat,⋯⟩
 obtain⟨_,hn2,names2,rfl,n2l,n2p,n2d,n2w⟩:=b_.mp (sZ d2 5 8 5 8 rfl rfl ⋯ ⋯ ⋯)
 obtain⟨_,hv2,words2,rfl,v2l,v2p,v2d,v2w⟩:=b_.mp (sZ (d3 / 8) (1 + eI) 12 (1 + en) 12 ⋯ rfl ⋯ ⋯ ⋯)
 have f1:=oX names1
 have f2:=oX names2
 have Nd:(cN ns (some ((a:Int) + 2)) (some ((a:Int) + 2 + (m:Int)))).length<=m:=by
  have h2:cN ns (some ((a + 2:Nat):Int)) (some ((a + 2 + m:Nat):Int))=(ns.take (a + 2 + m)).drop (a + 2):=D1 ns (a + 2) (a + 2 + m)
  rw[show(a:Int) + 2=((a + 2:Nat):Int) by omega,show((a + 2:Nat):Int) + (m:Int)=((a + 2 + m:Nat):Int) by omega,h2]
  simp;omega
 generalize hcs:cN ns (some ((a:Int) + 2)) (some ((a:Int) + 2 + (m:Int)))=cells at Nd
 have last:∀(names Mm:OD) (dg:Bool),names.Nodup->2<=names.length->names.length<=8->(∀x ∈ names,Wd 8 x)->1<=Mm.length->Mm.length<=100->(∀x ∈ Mm,Wd 12 x)->(dg=false->4<=names.length) ->
   wp (oM (nmG 8) AK (cells.map D.int) [Sl.val (D.scr ns),Sl.val (D.int (a:Int)),Sl.val (D.int (m:Int)),Sl.own (D.lst (names.map D.str)),Sl.val (D.lst (Mm.map D.str)),Sl.val (D.bl dg),Sl.own (D.lst []),Sl.val (D.lst []),Sl.no,Sl.no,Sl.no,Sl.no]) (z6 (ba (un bU (ae 6))) (lC fun d=>∃names Mm p,d=k_ p/\p.length<=m/\names.length<=8/\(∀x ∈ names,Wd 8 x)/\(∀x ∈ Mm,Wd 12 x)/\wF names Mm p)):=by
  intro names Mm dg h1 h2 h3 h4 h5 h6 h7 h8
  refine fE (Dt cells ⋯ names Mm dg _ _ _ h1 h2 h3 (fun x hx=>(h4 x hx).lowS) h5 h6 h8) ?_
  rintro _ ⟨E,p,rfl,hE,hpl,MP⟩
  simp! [hE]
  exact⟨names,Mm,p,rfl,⋯,h3,h4,h7,MP⟩
 simp only[jI,pz]
 generalize hK:ij _ _ _=K
 simp! [qX,k2,k3,k0,hn1,hv1,f1,Kl,List.all_nil,da]
 refine cp (fun h=>?_) fun h=>?_
 ·simp! [qX,l2,l3,he,hn2,hv2,f2,Kl,List.all_nil,da,Jm]
  have tl:∀names:List Str,names.Nodup->2<=names.length->names.length<=8->(∀x ∈ names,Wd 8 x)->wp (K [Sl.val (D.scr ns),Sl.val (D.int (a:Int)),Sl.val (D.int (m:Int)),Sl.own (D.lst (names.map D.str)),Sl.val (D.lst (words2.map D.str)),Sl.val (D.bl (decide (c0 / 1000 % 2=1))),Sl.own (D.lst []),Sl.val (D.lst []),Sl.no,Sl.no,Sl.no,Sl.no]) (z6 (ba (un bU (ae 6))) (lC fun d=>∃names Mm p,d=k_ p/\p.length<=m/\names.length<=8/\(∀x ∈ names,Wd 8 x)/\(∀x ∈ Mm,Wd 12 x)/\wF names Mm p)):=by
   intro names h1 h2 h3 h4
   rw[<-hK]
   simp only[rh,f8,bG,cE,ae,bin,cst,Jd,Jc,Je,mm,wR,cJ,hcs,cG,bP]
   exact last names words2 _ h1 h2 h3 h4 (v2p ⋯) ⋯ v2w (fun z=>by rw[JD h]at z;cases z)
  refine cp (fun h2=>?_) fun h2=>?_
  ·obtain⟨x,hx⟩:∃x,names2=[x]:=List.length_eq_one_iff.mp ⋯
   subst hx
   have NE:∀a:D,atI [a] 0=some a:=fun a=>rfl
   have NN:∀a b:D,atI [a,b] 0=some a:=fun a b=>rfl
   have Og:∀a b:D,atI [a,b] 1=some b:=fun a b=>rfl
   have yes:1 < 16777216:=by omega
   have yes2:(0 + 1:Nat) < 16777216:=by omega
   have wx:=n2w x (by simp)
   by_cases ex:x=mk [97]
   ·have z:=tl [x,mk [98]] (by rw[ex];simp[HS]) (by simp) (by simp) (fun y hy=>by
     rcases List.mem_cons.mp hy with rfl |hy
     ·exact wx
     ·rw[List.mem_singleton.mp hy];exact H9)
    simp! [NE,HU,HR,JD ex,Og,if_true,lv yes]
    exact z
   ·have z:=tl [x,mk [97]] (by simp[ex]) (by simp) (by simp) (fun y hy=>by
     rcases List.mem_cons.mp hy with rfl |hy
     ·exact wx
     ·rw[List.mem_singleton.mp hy];exact H_)
    simp! [NE,HU,HR,JA ex,NN,lv yes]
    exact z
  ·simp! []
   exact tl names2 n2d (by have:=n2p ⋯;omega) ⋯ n2w
 ·simp! []
  rw[<-hK]
  simp only[rh,f8,bG,cE,ae,bin,cst,Jd,Jc,Je,mm,wR,cJ,hcs,cG,bP]
  exact last names1 words1 _ n1d ⋯ ⋯ n1w v1l ⋯ v1w (fun _=>⋯)
end S9
theorem BZ{xs:OK}(h:m4 (n + 1) (.tup xs))(hn:n + 1<=60):eqO (.tup xs) (.tup [])=some (.bl (decide (xs=[]))):=by
 rw[uT h (qM [] fun _ z=>by cases z) hn rfl]
 cases xs with
 |nil=>rfl
 |cons x xs=>simp[wk,toP,toPs,PyData.eqv,PyData.eqvAll]
theorem BC{bk:Bool}{s:Sp}(hf:dL s)(hc:∀c ∈ cue,isT 12 c=true)(hl:cue.length<=8):GR bk (cue,s.1,s.2):=by
 refine⟨⟨hc,⟨hf.ne,hf.le,hf.nm,hf.ris⟩,⟨hf.wne,hf.wd⟩⟩,?_,hf.wle⟩
 have h1:=jh (ws:=cue) fun x hx=>eE (hc x hx) nofun
 have h2:=cO (ws:=s.1) fun x hx=>eE (hf.nm x hx) nofun
 have h3:=cO (ws:=s.2) fun x hx=>eE (hf.wd x hx) nofun
 have h4:=hf.le
 have h5:=hf.wle
 have hp:(eT bk cue).length<=106:=by
  unfold eT
  split
  ·rw[Jo];simp;omega
  ·simp
 unfold bC bc
 simp only[Jo,Jg,JE]
 omega
def toU(s:Sp):En:=([],s.1,s.2)
theorem BB{s:Sp}(hf:dL s):GR false (toU s):=BC hf (fun c hc=>by cases hc) (by simp)
theorem Ds{bk:Bool}(g:GU u):sS (mk (bC bk u)):=fun c hc=>by
 rw[cX]at hc
 by_cases h:c < 97
 ·omega
 ·unfold bC bc eT at hc
  have hb:c ∈ aH u.1->c<=122:=fun z=>by
   obtain⟨w,hw,z⟩:=List.mem_flatMap.mp z
   rcases List.mem_append.mp z with z |z
   ·exact(g.lc w hw c z).2
   ·rw[List.mem_singleton.mp z];decide
  have ha:∀ws:List Str,(∀x ∈ ws,Let x)->c ∈ al ws->c<=122:=fun ws hl z=>by
   obtain⟨w,hw,z⟩:=List.mem_flatMap.mp z
   rcases List.mem_cons.mp z with z |z
   ·omega
   ·exact(hl w hw c z).2
  rcases List.mem_append.mp hc with hc |hc
  ·rcases List.mem_append.mp hc with hc |hc
   ·split at hc
    ·rcases List.mem_append.mp hc with hc |hc
     ·exact hb hc
     ·simp only[Kn,Ka,K4]at hc
      omega
    ·cases hc
   ·exact ha _ g.ln (Kc hc)
  ·rcases List.mem_cons.mp hc with hc |hc
   ·omega
   ·exact ha _ g.lw hc
theorem GB(xs:OD)(k:Nat)(h:k < xs.length):atI (xs.map D.str) (-1 - (k:Int))=some (.str (xs.getD (xs.length - 1 - k) (mk []))):=by
 have hl:xs.length - 1 - k < xs.length:=by omega
 unfold atI ixN
 rw[Jm,if_neg ⋯,if_pos ⋯,Jd,show(-1 - (k:Int) + (xs.length:Int)).toNat=xs.length - 1 - k by omega,JH,Kj,Jr hl]
 rfl
namespace Wk
theorem Ab(s:Sp)(hf:dL s):kf [cF s.1,cF s.2]=some (aJ false (toU s)):=by
 have n12:∀x ∈ s.1,x.length<=12:=fun x hx=>eE (hf.nm x hx) nofun
 have w12:∀x ∈ s.2,x.length<=12:=fun x hx=>eE (hf.wd x hx) nofun
 have h4:=hf.le
 have h5:=hf.wle
 have h2:=cO (ws:=s.1) n12
 have h3:=cO (ws:=s.2) w12
 have hj:=gk (ns:=s.1) ⋯ n12
 have hj2:=uA (ws:=s.2) ⋯ w12
 have e:bC false (toU s)=(al s.1).drop 1 ++ [58] ++ al s.2:=by unfold bC bc eT toU;simp
 have a1:ay (mkS ((al s.1).drop 1)) (mkS [58])=some (mkS ((al s.1).drop 1 ++ [58])):=aG (by rw[JE];simp;omega)
 have a2:ay (mkS ((al s.1).drop 1 ++ [58])) (mkS (al s.2))=some (mkS ((al s.1).drop 1 ++ [58] ++ al s.2)):=aG (by rw[Jo,JE];simp;omega)
 simp only[mkS]at a1 a2
 refine aM ?_
 simp! [kf,sP,cF,cc,iO,db,hj,↓a1]
 rw[df D.str (fun w=>D.str (mk (32 :: w.cps.toList))) s.2 fun w hw=>?_]
 ·refine jv (gV (by rw[Jm];omega)) ?_
  simp! [hj2,a2]
  rw[aJ,e]
 ·have:=w12 w hw
  refine aM ?_
  simp! []
  rw[zt (by simp;omega)]
  simp! []
theorem tu(ns:Ow):wp (gm [.scr ns]) fun d=>∃p,d=k_ p/\p ≠ []/\p.length<=12/\(∀s ∈ p,dL s)/\cB p:=by
 obtain⟨_,hpl,names,Mm,p,rfl,hp,nl8,nw,ww,MP⟩:=b_.mp (S9.play_gen ns 3 12 nofun)
 have hf:∀s ∈ p,dL s:=fun s hs=>(MP.each s hs).fine nw ww nl8
 have Nz:m4 3 (k_ p):=l4 _ _ fun s hs=>qM _ fun d hd=>by
  rcases List.mem_cons.mp hd with rfl |hd
  ·exact l4 _ _ fun x hx=>l5 fun c hc=>(eh ((hf s hs).nm x hx) c hc).2
  ·rw[List.mem_singleton.mp hd]
   exact l4 _ _ fun x hx=>l5 fun c hc=>(eh ((hf s hs).wd x hx) c hc).2
 have heq:=BZ Nz nofun
 have hd:decide (p.map bb=[])=decide (p=[]):=by cases p <;> rfl
 rw[hd]at heq
 have ND:Wk.jI [.scr ns,.int 3,.int 12]=some (k_ p):=hpl
 simp only[k_]at ND heq
 simp! [gm,jl,ND,heq]
 refine cp (fun h=>?_) fun h=>?_
 ·simp! []
  refine⟨[([Str.ofString "ann",Str.ofString "bob"],[Str.ofString "be",Str.ofString "or"])],rfl,by simp,by simp,fun s hs=>?_,trivial⟩
  rw[List.mem_singleton.mp hs]
  refine⟨by simp,by simp,fun n hn=>?_,?_,by simp,by simp,fun n hn=>?_⟩
  ·simp only[Kn,Ka,K4]at hn
   rcases hn with rfl |rfl <;> decide
  ·refine List.pairwise_cons.mpr ⟨fun x hx=>?_,K6 _ _⟩
   rw[List.mem_singleton.mp hx]
   show(Str.ofString "ann").cps.toList < (Str.ofString "bob").cps.toList
   decide
  ·simp only[Kn,Ka,K4]at hn
   rcases hn with rfl |rfl <;> decide
 ·simp! []
  exact⟨p,rfl,h,hp,hf,MP.apart⟩
end Wk
theorem yg(bk:Bool)(us:O9):us.map (aJ bk)=(us.map fun u=>mk (bC bk u)).map D.str:=by rw[Kk];rfl
namespace Wk
theorem ic.snoc(h:ic name us)(g:GR true u)(hn:name ∈ u.2.1)(hc:u.1.length<=8)(hne:us ≠ []->u.1 ≠ []):ic name (us ++ [u]):=by
 refine⟨fun v hv=>?_,fun v hv=>?_,fun v hv=>?_,fun i v hv hi=>?_⟩
 ·rcases List.mem_append.mp hv with hv |hv
  ·exact h.gr v hv
  ·rw[List.mem_singleton.mp hv];exact g
 ·rcases List.mem_append.mp hv with hv |hv
  ·exact h.nm v hv
  ·rw[List.mem_singleton.mp hv];exact hn
 ·rcases List.mem_append.mp hv with hv |hv
  ·exact h.cl v hv
  ·rw[List.mem_singleton.mp hv];exact hc
 ·by_cases hl:i < us.length
  ·rw[Kr hl]at hv
   exact h.cn i v hv hi
  ·rw[Ki ⋯]at hv
   have hl1:i - us.length < 1:=by
    have:=(List.getElem?_eq_some_iff.mp hv).1
    simpa using this
   have e0:i - us.length=0:=by omega
   rw[e0]at hv
   cases hv
   exact hne fun z=>by rw[z]at e0;simp at e0;omega
theorem D3(p:O2)(hne:p ≠ [])(hl:p.length<=12)(hf:∀s ∈ p,dL s)(c:Int):wp (lZ [k_ p,.int c]) fun d=>∃name us,d=.tup [.str name,.lst (us.map (aJ true))]/\ic name us/\us ≠ []/\us.length<=12:=by
 have hLp:(0:Int) < (p.length:Int):=by have:=eV hne;omega
 obtain⟨s0,hs0,hat⟩:=fH bb p (c % (p.length:Int)) (Kb _ ⋯) (J8 _ hLp)
 have hf0:=hf s0 hs0
 obtain⟨name,nr,hnm⟩:∃n nr,s0.1=n :: nr:=by
  cases hn:s0.1 with
  |nil=>exact absurd hn hf0.ne
  |cons n nr=>exact⟨n,nr,rfl⟩
 have Mz:name ∈ s0.1:=by rw[hnm];exact Jq
 have h0:∀(a:D) (l:OK),atI (a :: l) 0=some a:=fun a l=>fJ (LA 0) (by rw[Jg];omega)
 simp only[k_]
 simp! [lZ,pC,Jm,bW hLp,hat,bb,cF,h0,hnm,Ji]
 refine gU bb p (fun pre E=>∃us s4 s5 s6,E=[Sl.val (D.tup (p.map bb)),Sl.val (D.int c),Sl.val (D.str name),Sl.own (D.lst (us.map (aJ true))),s4,s5,s6,Sl.no]/\ic name us/\us.length<=pre.length/\(us=[]->∀s ∈ pre,name ∉ s.1)) rfl ⟨[],_,_,_,rfl,⟨fun u hu=>(by cases hu),fun u hu=>(by cases hu),fun u hu=>(by cases hu),fun i u hu=>(by cases hu)⟩,Jw _,fun _ s hs=>(by cases hs)⟩ ?_ ?_
 ·rintro pre s post E hsp ⟨us,s4,s5,s6,rfl,hb,hul,M1⟩
  have ME:s ∈ p:=by rw[hsp];simp
  have hfs:=hf s ME
  have hpl:pre.length<=12:=by
   have:=JR List.length hsp
   simp at this;omega
  have hwp:(0:Int) < (s.2.length:Int):=by have:=eV hfs.wne;omega
  have Mv:=Ab s hfs
  simp only[cF]at Mv
  have Op:=hfs.wle
  by_cases hin:name ∈ s.1
  ·have hm3:∃m:Nat,(us.length:Int) % 3=m/\m < 3:=⟨us.length % 3,⋯,⋯⟩
   obtain⟨m,hm,hm3⟩:=hm3
   have M9:gc [D.int (1 + (m:Int))]=some ((List.range (1 + m)).map fun i:Nat=>D.int (0 + (i:Int))):=by
    rw[cH ⋯ ⋯,show(1 + (m:Int)).toNat=1 + m by omega];rfl
   have hrz:((List.range (1 + m)).map fun i:Nat=>D.int (0 + (i:Int))).length<=16777216:=by rw[Jm,JV];omega
   generalize M0:(List.range (1 + m)).map (fun k=>s.2.getD (s.2.length - 1 - k % s.2.length) (mk []))=cue
   have hcm:∀x ∈ cue,isT 12 x=true:=fun x hx=>by
    rw[<-M0]at hx
    obtain⟨k,_,rfl⟩:=List.mem_map.mp hx
    have hlt:s.2.length - 1 - k % s.2.length < s.2.length:=by omega
    rw[Kj,Jr hlt]
    exact hfs.wd _ (Kf hlt)
   have hcl:cue.length=1 + m:=by rw[<-M0,Jm,JV]
   have NA:cue ≠ []:=fun z=>by rw[z]at hcl;simp at hcl;omega
   have c12:∀x ∈ cue,x.length<=12:=fun x hx=>eE (hcm x hx) nofun
   have ML:∀E0,E0=[Sl.val (D.tup (p.map bb)),Sl.val (D.int c),Sl.val (D.str name),Sl.own (D.lst (us.map (aJ true))),Sl.val (D.tup (s.1.map D.str)),Sl.val (D.tup (s.2.map D.str)),s6,Sl.no]->bJ (nmG 7) noT (bin ixE (ae 5) (bin vn (cst (D.int (-1))) (bin a9 (ae 7) (un bh (ae 5))))) E0 ((List.range (1 + m)).map fun i:Nat=>D.int (0 + (i:Int)))=some (cue.map D.str):=fun E0 hE0=>by
    subst hE0
    rw[<-M0,Kk]
    refine df (fun i:Nat=>D.int (0 + (i:Int))) _ _ fun k hk=>?_
    have hlt:k % s.2.length < s.2.length:=Nat.mod_lt _ ⋯
    have ha:=GB s.2 (k % s.2.length) hlt
    have e:(0 + (k:Int)) % (s.2.length:Int)=((k % s.2.length:Nat):Int):=by rw[Lm];rfl
    refine aM ?_
    simp! [Jm,bW hwp,e,ha]
    rfl
   have hj:=gk (ns:=cue) ⋯ c12
   have hal:=cO c12
   have hbl:=jh c12
   have a1:ay (mkS ((al cue).drop 1)) (mkS [32])=some (mkS (aH cue)):=by rw[ji NA];exact aG (by rw[JE];simp;omega)
   have hgr:GR true (cue,s.1,s.2):=BC hfs hcm ⋯
   have NO:GR true ([],s.1,s.2):=BC hfs (fun c hc=>by cases hc) (by simp)
   have hrl:=(BB hfs).l
   have hap:∀q:List Str,q.length<=8->(∀x ∈ q,x.length<=12)->ay (mkS (aH q)) (mkS [62,32])=some (mkS (aH q ++ [62,32]))/\ay (mkS (aH q ++ [62,32])) (aJ false (toU s))=some (aJ true (q,s.1,s.2)):=fun q hq NW=>by
    have:=jh NW
    refine⟨aG (by simp;omega),?_⟩
    rw[aJ,mkS,aG (by rw[Jo];simp;omega)]
    have e:aH q ++ [62,32] ++ bC false (toU s)=bC true (q,s.1,s.2):=by unfold bC bc eT toU;simp
    rw[e]
   obtain⟨b1,b2⟩:=hap cue ⋯ c12
   obtain⟨d1,d2⟩:=hap [] (by simp) fun x hx=>by cases hx
   have d0:aH []=[]:=rfl
   rw[d0]at d1 d2
   have N8:eqO (.lst (us.map (aJ true))) (.lst [])=some (.bl (decide (us=[]))):=by
    rw[yg,mS fun x hx=>by
     obtain⟨u,hu,rfl⟩:=List.mem_map.mp hx
     exact Ds (hb.gr u hu).g]
    congr 2
    cases us <;> rfl
   have hz:us.length < 16777216:=by omega
   have hi1:inE (D.str name) (D.tup (s.1.map D.str))=some (.bl true):=by rw[nO,JD hin]
   have NT:(1:Int) + (us.length:Int) % 3=1 + (m:Int):=by rw[hm]
   simp only[mkS,aJ,Jl]at a1 b1 b2 d1 d2 Mv
   have fin:∀(q:OD) (s6':Sl),q.length<=8->(∀x ∈ q,isT 12 x=true)->(us ≠ []->q ≠ [])->GR true (q,s.1,s.2)->∃us' s4 s5 s6,([Sl.val (D.tup (p.map bb)),Sl.val (D.int c),Sl.val (D.str name),Sl.own (D.lst (us.map (aJ true) ++ [D.str (mk (bC true (q,s.1,s.2)))])),Sl.val (D.tup (s.1.map D.str)),Sl.val (D.tup (s.2.map D.str)),s6',Sl.no]:DE)=[Sl.val (D.tup (p.map bb)),Sl.val (D.int c),Sl.val (D.str name),Sl.own (D.lst (us'.map (aJ true))),s4,s5,s6,Sl.no]/\ic name us'/\us'.length<=(pre ++ [s]).length/\(us'=[]->∀x ∈ pre ++ [s],name ∉ x.1):=fun q s6' h1 h2 h3 h4 =>
    ⟨us ++ [(q,s.1,s.2)],_,_,_,by rw[JT];rfl,hb.snoc h4 hin h1 h3,by rw[Jo,Jo];simp;omega,fun z=>by simp at z⟩
   simp! [bb,cF,hi1,Jm,NT,M9,jo hrz]
   refine jv (gV (by rw[JV];omega)) ?_
   rw[ML _ rfl]
   simp! [cc,hj,↓a1,N8]
   by_cases Mw:us=[]/\c / 64 % 2=0
   ·simp! [JD Mw.1,JD Mw.2,db,eU,↓d1,Mv,↓d2,Jm,lv hz]
    exact fin [] _ (by simp) (fun x hx=>by cases hx) (fun z=>absurd Mw.1 z) NO
   ·have Nl:(if decide (us=[])=true then some (decide (c / 64 % 2=0)) else some false)=some false:=by
     by_cases h1:us=[]
     ·rw[JD h1,if_pos rfl,JA fun h2=>Mw ⟨h1,h2⟩]
     ·rw[JA h1,if_neg (by simp)]
    rw[Nl]
    simp! [eU,↓b1,Mv,↓b2,Jm,lv hz]
    exact fin cue _ ⋯ hcm (fun _=>NA) hgr
  ·have hi1:inE (D.str name) (D.tup (s.1.map D.str))=some (.bl false):=by rw[nO,JA hin]
   simp! [bb,cF,hi1]
   refine⟨us,_,_,_,rfl,hb,by rw[Jo];omega,fun z x hx=>?_⟩
   rcases List.mem_append.mp hx with hx |hx
   ·exact M1 z x hx
   ·rw[List.mem_singleton.mp hx];exact hin
 ·rintro E ⟨us,s4,s5,s6,rfl,hb,hul,M1⟩
  simp! [fzE]
  exact⟨name,us,rfl,hb,fun z=>M1 z s0 hs0 Mz,⋯⟩
end Wk
theorem cB.take:∀{p:O2} (k:Nat),cB p->cB (p.take k)
 | [],k,_=>by simp[cB]
 |a :: p,0,_=>by simp[cB]
 | [a],k + 1,_=>by simp[cB]
 |a :: b :: p,1,_=>by simp[cB]
 |a :: b :: p,k + 2,h=>⟨h.1,cB.take (p:=b :: p) (k + 1) h.2⟩
theorem CB(p:O2):(p.map toU).map sp1=p:=by
 rw[Kk]
 conv=>rhs;rw[<-List.map_id p]
 exact K2 fun s _=>rfl
namespace Wk
def zM:DE->Option Out:=(aw (aT 7 (un bh (aq 2 c9 (aa (un jG (ae 4)) (aa (var 3) aj)))))
 (aw (ifS (orT (tst (bin neO (ae 7) (un bh (ae 4)))) (dA (tst (aq 3 bt (aa (var 5) (aa (var 3) (aa (var 6) aj)))))))
 (ba (cst (.bl false)))
 bf)
 (ba (bin eqO (un bh (aq 2 c9 (aa (un bU (ae 4)) (aa (var 3) aj)))) (ae 7)))))
def FU:DE->Option Out:=(aw (ifS (li (tst (bin eqO (bin a9 (bin aS (ae 2) (cst (.int 2))) (cst (.int 16))) (cst (.int 4)))) (tst (un d_ (var 3))))
 (pW 5 6 (aa (bin ixE (bu (aa (bu aj) (aa (fc aj) aj))) (bin a9 (bin aS (ae 2) (cst (.int 32))) (cst (.int 2)))) (aa (cst (.int 0)) aj)))
 bf)
 zM)
def FQ:DE->Option Out:=(aw (ifS (tst (bin eqO (bin a9 (bin aS (ae 2) (cst (.int 2))) (cst (.int 16))) (cst (.int 3))))
 (pW 5 6 (aa (bin ixE (bu (aa (cst .non) (aa (cst (.int 5)) (aa (cst (.str "be")) (aa sE (aa (bin ixE (ae 4) (cst (.int 0))) aj)))))) (bin a9 (bin aS (ae 2) (cst (.int 32))) (cst (.int 5)))) (aa (cst (.int 0)) aj)))
 bf)
 FU)
def Af:DE->Option Out:=(aw (dk (aq 3 cm (aa (var 4) (aa (aq 2 c_ (aa (var 0) (aa (cst (.int 2)) aj))) (aa (var 3) aj)))) (f9 2 (a_ (nmG 5) (a_ (nmG 6) f_))))
 FQ)
abbrev FX:=(id rfl:Cc=aw _ (aw _ (aw _ (aw _ (aw _ Af)))))
structure Law (nm:D) (us:O9) (bk:Bool) (c2:Int):Prop where
 ne:us ≠ []
 le:us.length<=60
 ft:wp (cm [.lst (us.map (aJ bk)),.int c2,nm]) fun d=>∃M k,d=.tup [.lst M,.int k]/\bt [.lst M,nm,.int k]=some (.bl true)
 sr:∀d,aA [d]=some (.bl false)->bt [d,nm,.int 0]=some (.bl true)
 em:∀d,d=.lst []\/d=.tup []->d_ nm=some (.bl true)->bt [d,nm,.int 0]=some (.bl true)
 rd:∀d,d=.lst (us.map (aJ bk))\/d=.tup (us.map (aJ bk))->∃ds,c9 [d,nm]=some (.tup ds)/\ds.length=us.length
theorem HC:Str.ofString "be" = mk [98,101]:=by decide
variable{s7 s8 s9:Sl}{c2:Int}{nm X d0 d1:D}
theorem wL{bk:Bool}{c1 k:Int}(h:Law nm us bk c2)(hr:bt [X,nm,.int k]=some (.bl true)):wp (zM [.val d0,.val d1,.val (.int c1),.val nm,.val (.lst (us.map (aJ bk))),.val X,.val (.int k),s7,s8,s9]) (lC fun d=>d=.bl true):=by
 obtain⟨ds1,r1,l1⟩:=h.rd _ (.inl rfl)
 obtain⟨ds2,r2,l2⟩:=h.rd _ (.inr rfl)
 simp! [zM,r1,r2,l1,l2,Jm,hr]
theorem A8{bk:Bool}{c1 k:Int}{b:Bool}(h:Law nm us bk c2)(hb:d_ nm=some (.bl b))(hr:bt [X,nm,.int k]=some (.bl true)):wp (FU [.val d0,.val d1,.val (.int c1),.val nm,.val (.lst (us.map (aJ bk))),.val X,.val (.int k),s7,s8,s9]) (lC fun d=>d=.bl true):=by
 obtain⟨d,hd,ha⟩:=fH (fun d:D=>d) [.lst [],.tup []] (c1 / 32 % 2) ⋯ (by show c1 / 32 % 2 < 2;omega)
 rw[Lg]at ha
 have Nf:pW 5 6 (aa (bin ixE (bu (aa (bu aj) (aa (fc aj) aj))) (bin a9 (bin aS (ae 2) (cst (.int 32))) (cst (.int 2)))) (aa (cst (.int 0)) aj)) [.val d0,.val d1,.val (.int c1),.val nm,.val (.lst (us.map (aJ bk))),.val X,.val (.int k),s7,s8,s9]=some (.nx [.val d0,.val d1,.val (.int c1),.val nm,.val (.lst (us.map (aJ bk))),.val d,.val (.int 0),s7,s8,s9]):=by
  have hL:(aa (bin ixE (bu (aa (bu aj) (aa (fc aj) aj))) (bin a9 (bin aS (ae 2) (cst (.int 32))) (cst (.int 2)))) (aa (cst (.int 0)) aj)) [.val d0,.val d1,.val (.int c1),.val nm,.val (.lst (us.map (aJ bk))),.val X,.val (.int k),s7,s8,s9]=some [d,.int 0]:=by
   refine aM ?_
   simp! [ha]
  unfold pW
  rw[hL];rfl
 have MN:(li (tst (bin eqO (bin a9 (bin aS (ae 2) (cst (.int 2))) (cst (.int 16))) (cst (.int 4)))) (tst (un d_ (var 3)))) [.val d0,.val d1,.val (.int c1),.val nm,.val (.lst (us.map (aJ bk))),.val X,.val (.int k),s7,s8,s9]=some (decide (c1 / 2 % 16=4) && b):=by
  refine aM ?_
  by_cases h4:c1 / 2 % 16=4
  ·simp! [JD h4,↓hb,LB]
  ·simp! [JA h4,Ld]
 rw[FU,j8,nW,MN,bP]
 cases ht:(decide (c1 / 2 % 16=4) && b) with
 |true =>
  rw[JG]at ht
  have hb1:b=true:=ht.2
  subst hb1
  simp only[ifK,reduceIte,Nf,bP,gh]
  refine wL h (h.em d ?_ hb)
  simpa using hd
 |false =>
  simp only[ifK,J9,reduceIte,bf,bP,gh]
  exact wL h hr
theorem FP{bk:Bool}{c1 k:Int}{b:Bool}(h:Law nm us bk c2)(hb:d_ nm=some (.bl b))(hr:bt [X,nm,.int k]=some (.bl true)):wp (FQ [.val d0,.val d1,.val (.int c1),.val nm,.val (.lst (us.map (aJ bk))),.val X,.val (.int k),s7,s8,s9]) (lC fun d=>d=.bl true):=by
 obtain⟨u0,ur,hu⟩:∃u0 ur,us=u0 :: ur:=by
  cases hus:us with
  |nil=>exact absurd hus h.ne
  |cons u0 ur=>exact⟨u0,ur,rfl⟩
 have h0:atI (us.map (aJ bk)) 0=some (aJ bk u0):=by rw[hu];exact fJ (LA 0) (by rw[Jm,Jg];omega)
 obtain⟨d,hd,ha⟩:=fH (fun d:D=>d) [.non,.int 5,.str (mk [98,101]),.dic [],aJ bk u0] (c1 / 32 % 5) ⋯ (by show c1 / 32 % 5 < 5;omega)
 rw[Lg]at ha
 have Nf:pW 5 6 (aa (bin ixE (bu (aa (cst .non) (aa (cst (.int 5)) (aa (cst (.str "be")) (aa sE (aa (bin ixE (ae 4) (cst (.int 0))) aj)))))) (bin a9 (bin aS (ae 2) (cst (.int 32))) (cst (.int 5)))) (aa (cst (.int 0)) aj)) [.val d0,.val d1,.val (.int c1),.val nm,.val (.lst (us.map (aJ bk))),.val X,.val (.int k),s7,s8,s9]=some (.nx [.val d0,.val d1,.val (.int c1),.val nm,.val (.lst (us.map (aJ bk))),.val d,.val (.int 0),s7,s8,s9]):=by
  have hL:(aa (bin ixE (bu (aa (cst .non) (aa (cst (.int 5)) (aa (cst (.str "be")) (aa sE (aa (bin ixE (ae 4) (cst (.int 0))) aj)))))) (bin a9 (bin aS (ae 2) (cst (.int 32))) (cst (.int 5)))) (aa (cst (.int 0)) aj)) [.val d0,.val d1,.val (.int c1),.val nm,.val (.lst (us.map (aJ bk))),.val X,.val (.int k),s7,s8,s9]=some [d,.int 0]:=by
   refine aM ?_
   simp! [sE,HC,h0,ha]
  unfold pW
  rw[hL];rfl
 have MH:aA [d]=some (.bl false):=by
  simp only[Kn,Ka,K4]at hd
  rcases hd with rfl |rfl |rfl |rfl |rfl <;> rfl
 rw[FQ,j8]
 by_cases h3:c1 / 2 % 16=3
 ·have MN:(tst (bin eqO (bin a9 (bin aS (ae 2) (cst (.int 2))) (cst (.int 16))) (cst (.int 3)))) [.val d0,.val d1,.val (.int c1),.val nm,.val (.lst (us.map (aJ bk))),.val X,.val (.int k),s7,s8,s9]=some true:=by
   refine aM ?_
   simp! [JD h3]
  rw[nW,MN,bP]
  simp only[ifK,reduceIte,Nf,bP,gh]
  exact A8 h hb (h.sr d MH)
 ·have MN:(tst (bin eqO (bin a9 (bin aS (ae 2) (cst (.int 2))) (cst (.int 16))) (cst (.int 3)))) [.val d0,.val d1,.val (.int c1),.val nm,.val (.lst (us.map (aJ bk))),.val X,.val (.int k),s7,s8,s9]=some false:=by
   refine aM ?_
   simp! [JA h3]
  rw[nW,MN,bP]
  simp only[ifK,J9,reduceIte,bf,bP,gh]
  exact A8 h hb hr
theorem tV{ns:Ow}{bk:Bool}{c1:Int}{s5 s6:Sl}{b:Bool}(h:Law nm us bk c2)(hb:d_ nm=some (.bl b))(k2:c_ [.scr ns,.int 2]=some (.int c2)):wp (Af [.val (.scr ns),.val d1,.val (.int c1),.val nm,.val (.lst (us.map (aJ bk))),s5,s6,s7,s8,s9]) (lC fun d=>d=.bl true):=by
 obtain⟨_,hf,M,k,rfl,hr⟩:=b_.mp h.ft
 have hun:dk (aq 3 cm (aa (var 4) (aa (aq 2 c_ (aa (var 0) (aa (cst (.int 2)) aj))) (aa (var 3) aj)))) (f9 2 (a_ (nmG 5) (a_ (nmG 6) f_))) [.val (.scr ns),.val d1,.val (.int c1),.val nm,.val (.lst (us.map (aJ bk))),s5,s6,s7,s8,s9]=some (.nx [.val (.scr ns),.val d1,.val (.int c1),.val nm,.val (.lst (us.map (aJ bk))),.val (.lst M),.val (.int k),s7,s8,s9]):=by
  refine aM ?_
  simp! [k2,hf]
 rw[Af,j8,hun,bP,gh]
 exact FP h hb hr
theorem Bj(hus:∀u ∈ us,GR false u)(ha:cB (us.map sp1))(hne:us ≠ [])(hl:us.length<=59)(c2:Int):Law .non us false c2:=by
 refine⟨hne,⋯,?_,fun d hd=>?_,fun d _ h=>(by cases h),fun d hd=>?_⟩
 ·refine fE (wb hus hne ⋯ c2) ?_
  rintro _ ⟨P,x,rest,rfl,⟨j,rfl⟩,hb,hr,Mp⟩
  refine⟨_,_,rfl,kG (pR (fun u hu=>hus u (JX hu)) ?_ hb hr ⋯)⟩
  rw[K7]
  exact ha.take j
 ·exact kG (pQ hd)
 ·have hg:=yh hus ha ⋯ (d:=d) hd.symm
  refine⟨(us.map sp1).map bb,?_,?_⟩
  ·refine aM ?_
   simp only[k_]at hg
   simp! [c9,iT,hg]
  ·rw[Jm,Jm]
theorem pj(Mw:(orT (dA (tst (aq 1 aA (aa (var 1) aj)))) (tst (bin eqO (un bh (ae 1)) (cst (.int 0))))) [.val (.str name),.val d,.no,.no,.no,.no]=some true):bB [.str name,d]=none/\cr [.str name,d]=some (some (1,[(("row" : Str),D.int 0)])):=by
 constructor
 ·show(if 2=2 then(cT [.val (.str name),.val d,.no,.no,.no,.no]).bind _ else none)=_
  have h0:ifS (orT (dA (tst (aq 1 aA (aa (var 1) aj)))) (tst (bin eqO (un bh (ae 1)) (cst (.int 0))))) noS bf [.val (.str name),.val d,.no,.no,.no,.no]=none:=by
   unfold ifS
   rw[Mw];rfl
  have hb:cT [.val (.str name),.val d,.no,.no,.no,.no]=none:=by
   unfold cT aw
   rw[h0];rfl
  rw[hb];rfl
 ·show(if 2=2 then(dQ [.val (.str name),.val d,.no,.no,.no,.no]).bind _ else none)=_
  have h0:ifX (orT (dA (tst (aq 1 aA (aa (var 1) aj)))) (tst (bin eqO (un bh (ae 1)) (cst (.int 0))))) (cI 1 "row" (cst (.int 0))) (okX bf) [.val (.str name),.val d,.no,.no,.no,.no]=some (.xc 1 [(("row" : Str),D.int 0)] [.val (.str name),.val d,.no,.no,.no,.no]):=by
   unfold ifX
   rw[Mw];rfl
  have hb:dQ [.val (.str name),.val d,.no,.no,.no,.no]=some (.xc 1 [(("row" : Str),D.int 0)] [.val (.str name),.val d,.no,.no,.no,.no]):=by
   unfold dQ dC
   rw[h0];rfl
  rw[hb];rfl
theorem pS(h:aA [d]=some (.bl false)):bB [.str name,d]=none/\cr [.str name,d]=some (some (1,[(("row" : Str),D.int 0)])):=by
 have Mw:(orT (dA (tst (aq 1 aA (aa (var 1) aj)))) (tst (bin eqO (un bh (ae 1)) (cst (.int 0))))) [.val (.str name),.val d,.no,.no,.no,.no]=some true:=by
  refine aM ?_
  simp! [h]
 exact pj Mw
theorem pT(h:d=.lst []\/d=.tup []):bB [.str name,d]=none/\cr [.str name,d]=some (some (1,[(("row" : Str),D.int 0)])):=by
 have hs:aA [d]=some (.bl true):=by rcases h with rfl |rfl <;> rfl
 have hl:bh d=some (.int 0):=by rcases h with rfl |rfl <;> rfl
 have Mw:(orT (dA (tst (aq 1 aA (aa (var 1) aj)))) (tst (bin eqO (un bh (ae 1)) (cst (.int 0))))) [.val (.str name),.val d,.no,.no,.no,.no]=some true:=by
  refine aM ?_
  simp! [hs,hl]
 exact pj Mw
theorem Bl(h:ic name us)(hne:us ≠ [])(hl:us.length<=12)(c2:Int):Law (.str name) us true c2:=by
 refine⟨hne,⋯,?_,fun d hd=>?_,fun d hd _=>?_,fun d hd=>?_⟩
 ·refine fE (wc h.gr h.nm hne ⋯ c2) ?_
  rintro _ ⟨P,x,rest,rfl,⟨j,rfl⟩,hb,hr,Mp⟩
  exact⟨_,_,rfl,ii (pU (h.take j) ⋯ hb)⟩
 ·exact ii (pS hd)
 ·exact ii (pT hd)
 ·have hg:bB [.str name,d]=some (.tup (us.map jf)):=by
   rcases hd with rfl |rfl
   ·exact jC h hne ⋯ (kN _) (by show some (D.int ((us.map (aJ true)).length:Int))=_;rw[Jm]) (uU (aJ true) us)
   ·exact jC h hne ⋯ (kM _) (by show some (D.int ((us.map (aJ true)).length:Int))=_;rw[Jm]) (B3 (aJ true) us)
  refine⟨us.map jf,?_,by rw[Jm]⟩
  refine aM ?_
  simp! [c9,iT,hg]
theorem Bi(ns:Ow)(hn:ns.length<=63)(_:∀i ∈ ns,Builtin.Int.intBits i<=2 ^ 20):xr [.scr ns]=some (.bl true):=by
 obtain⟨_,hsp,p,rfl,hne,hl,hf,ha⟩:=b_.mp (tu ns)
 obtain⟨_,k1,c1,rfl,_⟩:=b_.mp (S7.cell_ok ns 1 1 rfl)
 obtain⟨_,k2,c2,rfl,_⟩:=b_.mp (S7.cell_ok ns 2 2 rfl)
 have k2':c_ [.scr ns,.int 2]=some (.int c2):=k2
 have M8:bJ (f9 2 (a_ (nmG 8) (a_ (nmG 9) f_))) noT (aq 2 kf (aa (var 8) (aa (var 9) aj))) [Sl.val (D.scr ns),Sl.val (k_ p),Sl.val (.int c1),Sl.val .non,Sl.no,Sl.no,Sl.no,Sl.no,Sl.no,Sl.no] (p.map bb)=some ((p.map toU).map (aJ false)):=by
  rw[Kk]
  refine iN bb _ p fun s hs=>?_
  have hr:=Ab s (hf s hs)
  simp! [bb,hr]
  rfl
 have hz:p.length<=16777216:=by omega
 have hlp:Law .non (p.map toU) false c2:=Bj (fun u hu=>by
  obtain⟨s,hs,rfl⟩:=List.mem_map.mp hu
  exact BB (hf s hs)) (by rw[CB];exact ha) (fun z=>hne (List.map_eq_nil_iff.mp z)) (by rw[Jm];omega) c2
 simp only[k_]at hsp M8
 refine aM ?_
 simp! [xr,FX,hsp,k1,Jm,M8,jo hz]
 refine cp (fun h=>?_) fun h=>?_
 ·obtain⟨_,hb,name,us,rfl,hbu,N0,hul⟩:=b_.mp (D3 p hne hl hf (c1 / 2))
  simp only[k_]at hb
  simp! [hb]
  exact tV (Bl hbu N0 hul c2) rfl k2'
 ·simp! []
  exact tV hlp rfl k2'
end Wk
end L2.Cu
namespace L2.Cu.Wk
open PySem PySem.W PyProof.Rows
set_option maxRecDepth 100000
set_option maxHeartbeats 0
theorem Hy(hw:PySem.Challenge.rw_cuebook_k73_rows_refused.row.toRowW.promised):PySem.Challenge.rw_cuebook_k73_rows_refused.Holds :=
  Ht (l:=PySem.Challenge.rw_cuebook_k73_rows_refused) (n:=63) (k:=12) (x := "_law_script") (g:=xr) Im G9 (by kernel_rfl) rfl (fun s=>by kernel_rfl) rfl rfl rfl (by decide +kernel) ⟨rfl,rfl,rfl,rfl,rfl,by decide +kernel⟩ hw rfl nofun rfl ⟨rfl,nofun,nofun⟩ rfl nofun (fun T base kb nb=>FR T) (fun _ _ _ _ _ _ _=>rfl) Bi
end L2.Cu.Wk
open PySem PySem.W PyProof.Rows
set_option maxRecDepth 100000 in
set_option maxHeartbeats 0 in
theorem PySem.Challenge.cw_cuebook_k73_rows_refused_holds : PySem.Challenge.rw_cuebook_k73_rows_refused.Holds := by
  refine L2.Cu.Wk.Hy ?hw
  case hw=>w_witness2
