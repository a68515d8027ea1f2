import PyProof.Rows.All
import Wide.All
import OpenK.AllK
import Wide.FinOn
import Lean
import PyProof.EqAt
import PyProof.EqKinds
import PyProof.TupleCall
import PyProof.Rows.SetFrom
import PyProof.SetRoads
import PyProof.TableTree
import PyProof.FactsTree
import KE.KDictSum
import PyProof.WalksMore
import PyProof.Rows.SortStr
import PyProof.DictUpdate
import PyProof.ZipIter
import PyProof.Draws
import PyProof.Rows.FactsT2
import PyProof.EnumMake
import PyProof.Rows.EnumRows
import PyProof.Rows.Range3
import KE.RegKIsAll
import PyProof.ListRange
import PyProof.ExcClass3
import PyProof.ExcInit
import PyProof.StationsW
import OpenK.KMake
import PyProof.InstStore
import PyProof.ExcArgsOwn
import OpenK.KOwn
import PyProof.ExcBaseAll.ValueError
import PyProof.InstStoreFacts
import PyProof.NsDelKeeps
import PyProof.IsiH_list
import KE.KIsAll
import PyProof.DictItemsLoops
import KE.KPairComp
import KE.KEqDict
import PyProof.TupleOfSeq
import PyProof.AttrMissSeq
import KE.KDictOf
import PyProof.CallType
import KE.KTupSum
import PyProof.Rows.SumAny
import PyProof.Rows.StrJoin2
import PyProof.Rows.StrOrd
import PyProof.Rows.StrInSeq3
import KE.KRevIter
import PyProof.ListMulAny
import KE.KDictLaws
import PyProof.P3In
import PyProof.DictFindH
import PyProof.DictIter
import PyProof.Rows.TupDisplay
import KE.KDictList
import PySem.Challenge.RW_cuebook_k61_roles_doubled
set_option Elab.async false
set_option linter.all false
set_option maxRecDepth 100000
noncomputable section
abbrev CN:=@PySem.wpAny_bind
abbrev CO:=@PySem.Heap.get?_push_of_some
abbrev CP:=@PySem.wpAny_pure
abbrev CQ:=@List.length_map
abbrev CS:=@PySem.Heap.lt_size
abbrev CT:=@PySem.Heap.get?_push_size
abbrev CU:=@Option.some.inj
abbrev CV:=@Nat.le_refl
abbrev CW:=@List.getElem?_set_ne
abbrev CY:=@List.mem_cons_of_mem
abbrev CZ:=@Nat.le_trans
abbrev C0:=@List.getElem?_eq_getElem
abbrev C1:=@List.mem_cons_self
abbrev C2:=@List.mem_append_right
abbrev C3:=@Bool.false_ne_true
abbrev C4:=@List.size_toArray
abbrev C5:=@Nat.ne_of_lt
abbrev C6:=@Nat.lt_of_lt_of_le
abbrev C7:=@List.getElem?_set
abbrev C8:=@List.length_append
abbrev C9:=@decide_eq_false
abbrev C_:=@Bool.and_eq_true
abbrev Da:=@Bool.false_eq_true
abbrev Db:=@List.getElem?_map
abbrev Dc:=@PySem.wpAny_mono
abbrev Dd:=@List.lookup_cons
abbrev De:=@PySem.wpAny_loadPart_at
abbrev Df:=@decide_eq_true
abbrev Dg:=@List.mem_append_left
abbrev Dh:=@Prod.mk.inj
abbrev Di:=@PySem.wpAny_newObj_type
abbrev Dj:=@List.all_eq_true
abbrev Dk:=@List.map_append
abbrev Dl:=@PySem.W.kia_one
abbrev Dn:=@Int.emod_lt_of_pos
abbrev Do:=@PySem.wpAny_field
abbrev Dp:=@PySem.Heap.get?_update_other
abbrev Dq:=@List.map_map
abbrev Dr:=@PySem.Heap.get?_update_self
abbrev Ds:=@PySem.wpAny_call_entry
abbrev Dt:=@Int.emod_nonneg
abbrev Du:=@Classical.byContradiction
abbrev Dv:=@PySem.wpAny_loadPart
abbrev Dw:=@List.length_singleton
abbrev Dx:=@PySem.wpAny_holding
abbrev Dy:=@Nat.lt_of_le_of_lt
abbrev Dz:=@List.length_set
abbrev DA:=@beq_self_eq_true
abbrev DB:=@List.getElem_mem
abbrev DC:=@PySem.F.excBase_ValueError
abbrev DD:=@List.getD_eq_getElem?_getD
abbrev DF:=@Int.toNat_natCast
abbrev DG:=@Array.length_toList
abbrev DH:=@List.all_cons
abbrev DI:=@List.append_nil
abbrev DJ:=@PySem.wpAny_passesOwn
abbrev DK:=@congrArg
abbrev DL:=@List.foldl_nil
abbrev DM:=@of_decide_eq_true
abbrev DN:=@PySem.F.slot_dict_itemiterator_iter
abbrev DO:=@List.find?_cons
abbrev DP:=@PySem.wpAny_callSpecial?_slot
abbrev DQ:=@PySem.wpAny_truthy_bool
abbrev DR:=@List.mem_of_getElem?
abbrev DS:=@PySem.F.slot_dict_update
abbrev DT:=@PyProof.Rows.slot_tuple_getitem
abbrev DU:=@PySem.F.plainAttrs_dict
abbrev DV:=@Nat.zero_le
abbrev DW:=@List.replicate_succ
abbrev DX:=@PySem.PassesOwn.never
abbrev DY:=@PySem.AutoSeq1.wpAny_loadPart'
abbrev DZ:=@List.not_mem_nil
abbrev D0:=@Bool.and_false
abbrev D1:=@List.getElem?_set_self
abbrev D2:=@PySem.wpAny_typeNameOfWhole_itemiter
abbrev D3:=@PySem.F.slot_dict_itemiterator_next
abbrev D4:=@Nat.le_succ
abbrev D5:=@List.getElem?_eq_none
abbrev D6:=@Array.getElem?_toList
abbrev D7:=@Nat.lt_irrefl
abbrev D8:=@List.length_range
abbrev D9:=@Bool.true_and
abbrev D_:=@Bool.or_false
abbrev Eb:=@PySem.wpAny_Call_Name_kw
abbrev Ec:=@PySem.F.excAttr_ValueError
abbrev Ed:=@PySem.Code.quiet_builtin
abbrev Ee:=@PySem.wpAny_execs_nil
abbrev Ef:=@Bool.false_and
abbrev Eh:=@PySem.mem_of_lookup
abbrev Ej:=@PySem.F.type_dict_update
abbrev Ek:=@PySem.F.slot_tuple_iterator_next
abbrev El:=@Nat.le_of_lt
abbrev Em:=@PySem.codeAny_call_builtin
abbrev En:=@if_false
abbrev Eo:=@decide_eq_false_iff_not
abbrev Er:=@PySem.wpAny_typeNameOf_itemiter
abbrev Eu:=@PySem.wpAny_setField
abbrev Ex:=@List.mem_singleton
abbrev Ey:=@List.mem_cons
abbrev Ez:=@List.any_cons
abbrev EA:=@PySem.sizeLine_eq
abbrev EB:=@PySem.Heap.get?_update_ne
abbrev EC:=@PySem.Heap.SameBut.update
abbrev ED:=@PySem.Heap.SameBut.extBut
abbrev EE:=@PySem.wpAny_typeOf
abbrev EF:=@Nat.lt_succ_of_lt
abbrev EG:=@Bool.not_eq_true'
abbrev EH:=@PySem.wpAny_setField_rec
abbrev EI:=@PySem.Obj.data_mapFields
abbrev EJ:=@Bool.or_true
abbrev EK:=@List.length_drop
abbrev EL:=@List.mem_of_mem_take
abbrev EM:=@PySem.Heap.size_push
abbrev EN:=@decide_true
abbrev EO:=@PySem.codeAny_mono
abbrev EQ:=@PyProof.Rows.callWith_type1
abbrev ER:=@List.mem_append
abbrev ES:=@PySem.wpAny_forIn_list
abbrev ET:=@decide_false
abbrev EU:=@PySem.Obj.data_mapDictKeys
abbrev EV:=@Nat.ne_of_gt
abbrev EW:=@PySem.wpAny_standAt
abbrev EY:=@List.getElem?_append_left
abbrev EZ:=@List.drop_eq_getElem_cons
abbrev E4:=@Array.getElem?_eq_getElem
abbrev E6:=@PySem.codeAny_builtin
abbrev E7:=@PySem.W.kitx_dict
abbrev E8:=@PySem.F.args_tuple_add_2
abbrev E9:=@Option.some.injEq
abbrev E_:=@List.flatten_cons
abbrev Fa:=@PySem.F.entry_tuple_add
abbrev Fb:=@List.pairwise_singleton
abbrev Fc:=@Bool.not_true
abbrev Fd:=@PySem.tupleKind_room_in1
abbrev Fe:=@List.length_take
abbrev Ff:=@List.drop_length
abbrev Fg:=@PySem.F.slot_tuple_add
abbrev Fh:=@List.length_take_of_le
abbrev Fi:=@PySem.wpAny_rule
abbrev Fj:=@PySem.wpAny_pyIter_list
abbrev Fk:=@PySem.F.slot_dict_items
abbrev Fl:=@PySem.F.slot_dict_get
abbrev Fm:=@List.mem_filter
abbrev Fo:=@List.length_replicate
abbrev Fp:=@Bool.eq_iff_iff
abbrev Fq:=@Std.Legacy.Range.forIn_eq_forIn_range'
abbrev Fs:=@PySem.F.args_dict_itemiterator_iter_1
abbrev Ft:=@PySem.wpAny_execs_cons
abbrev Fu:=@PySem.wpAny_isOneOf_itemiter
abbrev Fv:=@PySem.Calls.callWith_builtin
abbrev Fw:=@List.map_congr_left
abbrev Fx:=@List.filterMap_cons
abbrev Fy:=@or_false
abbrev Fz:=@PySem.W.callWith_K
abbrev FA:=@PySem.Obj.isFreed_of_fields
abbrev FB:=@PySem.F.typeOf_object_class
abbrev FC:=@List.countP_append
abbrev FD:=@Bool.and_self
abbrev FE:=@Array.find?_toList
abbrev FF:=@PySem.wpAny_call
abbrev FG:=@decide_eq_true_eq
abbrev FH:=@beq_iff_eq
abbrev FI:=@PySem.wpAny_updateDictKeys
abbrev FJ:=@PySem.Heap.get?_push_cases
abbrev FK:=@PySem.wpAny_isSubtype_exc
abbrev FL:=@PySem.Calls.spliced_cons
abbrev FM:=@PySem.wpAny_pyIter_slot
abbrev FN:=@PySem.wpAny_dictEntries
abbrev FO:=@PySem.wpAny_Call_method
abbrev FP:=@PySem.plainObj_wpAny_Assign_Attribute
abbrev FQ:=@PySem.F.args_dict_itemiterator_next_1
abbrev FR:=@LawfulBEq.eq_of_beq
universe u v
theorem Cz{α:Type u}{a:α}{l:List α}:(a::l)[0]?=some a:=rfl
theorem CA{α:Type u}{β:Type v}(a:α)(f:α->Option β):(some a).bind f=f a:=rfl
theorem CB{α:Type u}{a:α}{i:Nat}{l:List α}:(a::l)[i+1]?=l[i]?:=rfl
theorem CC{α:Type u}{β:Type v}(a:α)(f:α->β):(some a).map f=some (f a):=rfl
theorem CD{α:Type u}{x:α}{xs:List α}{a:α}:(x::xs).set 0 a=a::xs:=rfl
theorem CF{α:Type u}{x:α}{xs:List α}{i:Nat}{a:α}:(x::xs).set (i+1) a=x::xs.set i a:=rfl
theorem CG{α:Type u}{a:α}{as:List α}:(a::as).length=as.length+1:=rfl
theorem CH{α:Type u}:([]:List α).length=0:=rfl
theorem CI{α:Type u}{β:Type v}{f:α->β}{a:α}{l:List α}:(a::l).map f=f a::l.map f:=rfl
theorem CJ{α:Type u}{β:Type v}{f:α->β}:[].map f=([]:List β):=rfl
theorem CK{α:Type u}{a:α}{as bs:List α}:a::as++bs=a::(as++bs):=rfl
theorem CL{α:Type u}(as:List α):[]++as=as:=rfl
theorem CM{α:Type u}{β:Type v}{a:α}{l:List α}{f:β->α->β}{b:β}:(a::l).foldl f b=l.foldl f (f b a):=rfl
namespace L2
open PySem PySem.Spec PyProof.Rows
open PySem PySem.Spec PyProof.Rows
open PySem PySem.Spec PyProof.Rows
open PySem PySem.Spec PyProof.Rows
open PySem PySem.Spec PyProof.Rows
open PySem PySem.Spec PyProof.Rows
open PySem PySem.Spec PyProof.Rows
open PySem PySem.Spec PyProof.Rows
open PySem PySem.Spec PyProof.Rows
open PySem PySem.Spec PyProof.Rows
open PySem PyProof.Rows
open PySem.SeqAt
open PySem.AutoSeq1
open PySem.MeetsSeq PySem.MeetsSeq2 PySem.MeetsSeq3
open PySem PySem.Spec PyProof.Rows
open PySem PySem.Spec PyProof.Rows
open PySem PySem.Spec PyProof.Rows
open PySem PySem.W PySem.Calls PyProof.Rows
open PySem PySem.Spec PyProof.Rows
open PySem PySem.Spec PyProof.Rows
open PySem PySem.Spec PyProof.Rows
def my(s:Stmt)(j:Nat):Stmt:=match s with
 |.ClassDef _ _ _ body _ _ _ _ _ _ _=>body.getD j (.Pass ⟨0,0,0,0⟩)
 |_=>.Pass ⟨0,0,0,0⟩
def il(s:Stmt):Arguments:=match s with
 |.FunctionDef _ a _ _ _ _ _ _ _ _=>a
 |_=>{ posonlyargs:=[],args:=[],vararg:=none,kwonlyargs:=[],kw_defaults:=[],kwarg:=none,defaults:=[] }
def cG(s:Stmt):List Stmt:=match s with
 |.FunctionDef _ _ b _ _ _ _ _ _ _=>b
 |_=>[]
def ao(s:Stmt):Scope:=match s with
 |.FunctionDef _ _ _ _ _ _ sc _ _ _=>sc
 |_=>{ kind:=.function,names:=[],isGenerator:=false,isCoroutine:=false }
end L2
namespace L2.Cu
open PySem PySem.W PySem.Calls PyProof.Rows PySem.Spec
abbrev qi(p q:Program)(loose:List Str)(Xt:Shared->Bool){α:Type}(Yf:Shared->α)(a:α)(N:Nat):Prop:=∀(w:World) (os:OsState),
 (PySem.W.Fast.tw14082659384304107361 PySem.W.Fast.tw14364793385576792824 p w 11 (some (.ref 6)) N ⟨boot_heap w.params,Array.mk [],boot_drawn,boot_toks,os⟩ (topStub p)).map
  (fun s=>(staticsOk (importedModules p.main.body) (boot_heap w.params) s.heap && namesBound p s.heap && gensDone s && laidKept (boot_heap w.params) s.heap,
   PySem.W.Fast.tw4187177175401517315 q loose (importedModules p.main.body) Xt true s,Yf s))=some (true,openGood q loose,a)
def KH(h:Heap):Frag:=(List.range h.objs.size).filterMap fun a=>match h.get? a with
 |some o=>if o.cls == Value.type "list" then none else some (a,o)
 |none=>none
def b5(s:Stmt):Str:=match s with
 |.FunctionDef n _ _ _ _ _ _ _ _ _=>n
 |_ => ""
abbrev cI(p:Program)(i:Nat):Stmt:=p.main.body.getD i (.Pass ⟨0,0,0,0⟩)
def yW(fd:FuncData):FuncData:={ fd with kwdefaults:=.none,doc:=.none,pyModule:=.none,annotations:=none,code:=.none,closureTuple:=.none }
def xT(K:Frag)(qual:Str)(f:Addr):Option (FuncData×Bool×Bool):=match K.lookup f with
 |some ⟨_,_,.func fd,_⟩=>some (yW fd,codeIn K fd.code qual,keepIn K (.ref f))
 |_=>none
def vG(K:Frag)(st:Stmt):Option (FuncData×Bool×Bool):=match nsIn K mainGlobals (b5 st) with
 |some (some (.ref f))=>xT K (b5 st) f
 |_=>none
abbrev vH(x qual:Str)(st:Stmt):Option (FuncData×Bool×Bool):=some (fnOf x qual (il st) (cG st) (ao st) .none .none .none .none none .none .none,true,true)
def AS:Option (Option Value)->Option (Option Value)
 |some (some (.int n _))=>some (some (.int n 0))
 |x=>x
abbrev ib(p:Program)(ds:List Nat)(zs:List Str)(cs:List (Str×Int)){β:Type}(mo:Frag->β)(K:Frag):=(ds.map fun i=>vG K (cI p i),zs.map (nsIn K mainGlobals),(cs.map fun c=>AS (nsIn K mainGlobals c.1)),mo K)
abbrev oQ(p:Program)(ds:List Nat)(zs:List Str)(cs:List (Str×Int)){β:Type}(mb:β):=((ds.map fun i=>vH (b5 (cI p i)) (b5 (cI p i)) (cI p i)),(zs.map fun _=>some none:List (Option (Option Value))),(cs.map fun c=>(some (some (.int c.2 0)):Option (Option Value))),mb)
abbrev gO(p:Program):List Str:=(p.main.scope.names.map (·.1)).filter fun x => !(x == ("law" : Str))
end L2.Cu
namespace L2
open PySem PySem.Spec PyProof.Rows
def bmV:List Value:=[.type "ValueError",.type "Exception",.type "BaseException",.type "object"]
def kK(K:PySem.W.Frag)(C fI:Addr):Bool:=match K.lookup C with
 |some ⟨.type "type",_,.cls cd,sl⟩=>(match cd.mro,sl.toList with
  |.ref C' :: bm,[_,_,_,_,some (.builtin n),_]=>C' == C && (n == "ValueError.__new__" && (!cd.hasDel && (PySem.W.tailIn K bmV bm && (PySem.W.nsOkIn K cd.ns && PySem.W.nsIn K cd.ns "__init__" == some (some (.ref fI))))))
  |_,_=>false)
 |_=>false
end L2
namespace L2.Cu
open PySem PySem.Spec PyProof.Rows PySem.W
def ij:List Value->List Value
 |.ref _ :: r=>ij r
 |l=>l
def qo(K:Frag)(C:Addr):Bool:=match clsIn K C with
 |some cd=>ij cd.mro == bmV && (cd.hasDict && (findIn K (.ref C) "__setattr__" == some (some (.builtin "object.__setattr__")) && (findIn K (.ref C) "__getattribute__" == some (some (.builtin "BaseException.__getattribute__")) && findIn K (.ref C) "__getattr__" == some none)))
 |none=>false
def aR(K:Frag)(x:Str):Addr:=match nsIn K mainGlobals x with
 |some (some (.ref a))=>a
 |_=>0
def jZ(K:Frag)(C:Addr):Addr:=match findIn K (.ref C) "__init__" with
 |some (some (.ref a))=>a
 |_=>0
def tq(K:Frag)(x:Str):Bool:=nsIn K mainGlobals x == some (some (.ref (aR K x)))
def AC(K:Frag)(x f:Str):Bool:=tq K x && (kK K (aR K x) (jZ K (aR K x)) && (isFn K (.ref (jZ K (aR K x))) && (keepIn K (.ref (aR K x)) && (qo K (aR K x) && (findIn K (.ref (aR K x)) f == some none && findIn K (.ref (aR K x)) "__class__" == some (some (.builtin "object.__class__")))))))
abbrev i0(K:Frag)(as:List Str):List Value:=as.map fun y=>.ref (aR K y)
abbrev vR(K:Frag)(x f qual:Str)(as bs:List Str)(c d:Str):=(xT K qual (jZ K (aR K x)),AC K x f && (as ++ bs ++ [c,d]).all (tq K),kitAny K (.ref (aR K x)) (i0 K as),kitAny K (.ref (aR K x)) (i0 K bs),kitOne K (.ref (aR K x)) (.ref (aR K c)),kitOne K (.ref (aR K x)) (.ref (aR K d)),kitOne K (.ref (aR K x)) (.type "ValueError"))
abbrev vS(qual:Str)(st:Stmt):=(vH "__init__" qual st,true,some false,some false,some false,some true,some true)
end L2.Cu
namespace L2
open PySem PySem.Spec PyProof.Rows
def oG(K:PySem.W.Frag)(C:Addr):Bool:=match K.lookup C with
 |some ⟨.type "type",_,.cls cd,sl⟩=>(match cd.mro,sl.toList with
  |.ref C' :: bm,[_,_,_,_,some (.builtin n),_]=>C' == C && (n == "ValueError.__new__" && (!cd.hasDel && (PySem.W.tailIn K bmV bm && (PySem.W.nsOkIn K cd.ns && PySem.W.nsIn K cd.ns "__init__" == some none))))
  |_,_=>false)
 |_=>false
end L2
namespace L2.Cu
open PySem PySem.Spec PyProof.Rows PySem.W
def vT(K:Frag)(x:Str):Bool:=tq K x && (oG K (aR K x) && (keepIn K (.ref (aR K x)) && (qo K (aR K x) && findIn K (.ref (aR K x)) "__class__" == some (some (.builtin "object.__class__")))))
abbrev ri(K:Frag)(x:Str)(as bs:List Str)(c d:Str):=(vT K x && (as ++ bs ++ [c,d]).all (tq K),kitAny K (.ref (aR K x)) (i0 K as),kitAny K (.ref (aR K x)) (i0 K bs),kitOne K (.ref (aR K x)) (.ref (aR K c)),kitOne K (.ref (aR K x)) (.ref (aR K d)),kitOne K (.ref (aR K x)) (.type "ValueError"))
abbrev rj:=(true,some false,some false,some false,some true,some true)
end L2.Cu
namespace L2.Cu.Wk
open PySem PySem.Spec PyProof.Rows
def eY(i:Nat):Stmt:=PySem.Challenge.pw_cuebook_k61_roles_doubled.main.body.getD i (.Pass ⟨0,0,0,0⟩)
abbrev kA:List Str:=["Apart","NoBooks","NoCast","NoCounts","NoPlay"]
abbrev kB:List Str:=["NoLine","NoText","TooFew"]
abbrev kA0:List Str:=["Apart","Meets","NoBooks","NoCounts","NoPlay"]
abbrev moK(K:PySem.W.Frag):=(vR K "Meets" "place" "Meets.__init__" kA kB "Unknown" "CueError",PySem.W.findIn K (.ref (aR K "Meets")) "name",ri K "NoCast" kA0 kB "Unknown" "CueError")
abbrev moB:=(vS "Meets.__init__" (my (eY 7) 0),(some none:Option (Option Value)),rj)
abbrev ds:List Nat:=[22,23,24,25,27,14,15,17,18,19,20,29,28,26,30,31]
abbrev zs:List Str:=["ValueError","all","bool","dict","enumerate","int","isinstance","len","list","min","range","sorted","str","tuple"]
abbrev cs:List (Str×Int):=[("NAME_LETTERS",8)]
open PySem PySem.W PyProof.Rows
set_option maxHeartbeats 0 in
theorem Cd:qi PySem.Challenge.pw_cuebook_k61_roles_doubled (view PySem.Challenge.pw_cuebook_k61_roles_doubled [31]) (gO PySem.Challenge.pw_cuebook_k61_roles_doubled) (fun s=>xlAt (view PySem.Challenge.pw_cuebook_k61_roles_doubled [31]) [] s && recOk [] s) (fun s=>ib PySem.Challenge.pw_cuebook_k61_roles_doubled ds zs cs moK (KH s.heap)) (oQ PySem.Challenge.pw_cuebook_k61_roles_doubled ds zs cs moB) 20000:=fun w os=>by kernel_rfl
set_option maxHeartbeats 0 in
theorem A8:PySem.W.Fast.tw9446332074065402090 PySem.Challenge.rw_cuebook_k61_roles_doubled=true:=by kernel_rfl
end L2.Cu.Wk
namespace L2
open PySem PySem.Spec PyProof.Rows
abbrev Key:=Sum (Option Int) Str
def gH:Key->Value->Bool
 |.inl (some k),v=>Value.isInt k v
 |.inl none,v=>match v with |.none=>true |_=>false
 |.inr x,v=>Value.isStrOf x v
def Ck(w:World):Key->Int
 |.inl (some k)=>hashInt k
 |.inl none=>reduceHash 0xFCA86420
 |.inr x=>hashStr w x
theorem be:∀{k:Key}{v:Value},gH k v=true->(∃i t,k=Sum.inl (some i)/\v=Value.int i t)\/(∃x t,k=Sum.inr x/\v=Value.str x t)\/(k=Sum.inl none/\v=Value.none)
 |.inl (some i),v,h=>by
  obtain⟨t,e⟩:=Value.isInt_shape (k:=i) (v:=v) h
  exact .inl ⟨i,t,rfl,e⟩
 |.inl none,v,h=>by
  cases v <;> first |exact .inr (.inr ⟨rfl,rfl⟩) |exact absurd h (by decide) | (simp[gH]at h)
 |.inr x,v,h=>by
  obtain⟨t,e⟩:=Value.isStrOf_shape (x:=x) (v:=v) h
  exact .inr (.inl ⟨x,t,rfl,e⟩)
theorem sO(i:Int)(t:Tok):gH (.inl (some i)) (.int i t)=true:=by simp[gH,Value.isInt]
theorem sM(x:Str)(t:Tok):gH (.inr x) (.str x t)=true:=by simp[gH,Value.isStrOf]
theorem sN:gH (.inl none) .none=true:=rfl
theorem Af(a b:Int):decide ((Sum.inl (some a):Key)=Sum.inl (some b))=(a == b):=by
 by_cases e:a=b
 ·subst e;simp
 ·have h:¬(Sum.inl (some a):Key)=Sum.inl (some b):=fun q=>e (CU (Sum.inl.inj q))
  rw[C9 h]
  exact(beq_eq_false_iff_ne.mpr e).symm
theorem Ac(a b:Str):decide ((Sum.inr a:Key)=Sum.inr b)=decide (a=b):=by
 by_cases e:a=b
 ·subst e;simp
 ·have h:¬(Sum.inr a:Key)=Sum.inr b:=fun q=>e (Sum.inr.inj q)
  rw[C9 h,C9 e]
theorem vw(a:Option Int)(b:Str):decide ((Sum.inl a:Key)=Sum.inr b)=false:=C9 (fun q=>nomatch q)
theorem vt(a:Str)(b:Option Int):decide ((Sum.inr a:Key)=Sum.inl b)=false:=C9 (fun q=>nomatch q)
theorem Ae(a:Int):decide ((Sum.inl (some a):Key)=Sum.inl none)=false:=C9 (fun q=>nomatch q)
theorem Ad(a:Int):decide ((Sum.inl none:Key)=Sum.inl (some a))=false:=C9 (fun q=>nomatch q)
theorem sS{prog:Program}{w:World}{A:Around}{E:Value->Shared->Prop}{s:Shared}{Q:Int->Shared->Prop}(h:Q (reduceHash 0xFCA86420) { s with toks:=s.toks + 1 }):wpAny (model prog w) A (pyHash .none) Q E s:=by
 exact PySem.W.pyHash_slot (T := "NoneType") rfl F.slot_NoneType_hash F.entry_NoneType_hash (F.args_NoneType_hash_1 _) (PySem.beq_builtin_none _) (.inl rfl) (CN (CP (CN (wpAny_mkInt (CP ⟨_,_,rfl,h⟩)))))
def az(prog:Program)(w:World):PySem.KeyKind prog w Key where
 is:=gH
 hash:=Ck w
 inj:=fun v a b ha hb=>by
  rcases be ha with⟨i,t,rfl,rfl⟩ |⟨x,t,rfl,rfl⟩ |⟨rfl,rfl⟩ <;> rcases be hb with⟨j,u,rfl,e⟩ |⟨y,u,rfl,e⟩ |⟨rfl,e⟩ <;> first |rfl | (injection e with e1 _;rw[e1];done) | (cases e;done)
 byValue:=fun k v h=>by
  rcases be h with⟨i,t,rfl,rfl⟩ |⟨x,t,rfl,rfl⟩ |⟨rfl,rfl⟩ <;> rfl
 pyHash:=fun hv h=>by
  rcases be hv with⟨i,t,rfl,rfl⟩ |⟨x,t,rfl,rfl⟩ |⟨rfl,rfl⟩
  ·exact wpAny_pyHash_int h
  ·exact wpAny_pyHash_str h
  ·exact sS h
 eqBool:=fun hu hv h=>by
  rcases be hu with⟨i,t,rfl,rfl⟩ |⟨x,t,rfl,rfl⟩ |⟨rfl,rfl⟩
  ·rcases be hv with⟨j,u,rfl,rfl⟩ |⟨y,u,rfl,rfl⟩ |⟨rfl,rfl⟩
   ·rw[Af]at h;exact wpAny_eqBool_int h
   ·rw[vw]at h;exact SeqAt.EqAt.int_str i t y u _ _ _ _ h
   ·rw[Ae]at h;exact SeqAt.EqAt.int_none i t _ _ _ _ h
  ·rcases be hv with⟨j,u,rfl,rfl⟩ |⟨y,u,rfl,rfl⟩ |⟨rfl,rfl⟩
   ·rw[vt]at h;exact SeqAt.EqAt.str_int x t j u _ _ _ _ h
   ·rw[Ac]at h;exact wpAny_eqBool_str h
   ·rw[vt]at h;exact SeqAt.EqAt.str_none x t _ _ _ _ h
  ·rcases be hv with⟨j,u,rfl,rfl⟩ |⟨y,u,rfl,rfl⟩ |⟨rfl,rfl⟩
   ·rw[Ad]at h;exact SeqAt.EqAt.none_int j u _ _ _ _ h
   ·rw[vw]at h;exact SeqAt.EqAt.none_str y u _ _ _ _ h
   ·rw[Df rfl]at h;exact SeqAt.EqAt.same _ _ _ _ _ h
 «strs»:=fun k x t v h=>by
  rcases be h with⟨i,u,rfl,e⟩ |⟨y,u,rfl,e⟩ |⟨rfl,e⟩
  ·exact nomatch e
  ·injection e with e1 _
   subst e1
   cases v <;> rfl
  ·exact nomatch e
theorem nT(prog:Program)(w:World)(i:Int)(t:Tok):(az prog w).is (.inl (some i)) (.int i t)=true:=sO i t
theorem nS(prog:Program)(w:World)(x:Str)(t:Tok):(az prog w).is (.inr x) (.str x t)=true:=sM x t
inductive V where
 |non |bl (b:Bool) |int (i:Int) |str (x:Str) |byt (b:Array UInt8) |flt (b:UInt64) |ref (a:Addr) |ty (n:String)
 deriving DecidableEq
def aJ:V->Value->Prop
 |.non,u=>u=Value.none
 |.bl b,u=>u=Value.bool b
 |.int i,u=>∃t,u=Value.int i t
 |.str x,u=>∃t,u=Value.str x t
 |.byt b,u=>∃t,u=Value.bytes b t
 |.flt b,u=>∃t,u=Value.float b t
 |.ref a,u=>u=Value.ref a
 |.ty n,u=>u=Value.type n
abbrev aM:List V->List Value->Prop:=Paired aJ
theorem aM.length{xs:List V}{us:List Value}(r:aM xs us):xs.length=us.length:=Paired.length r
theorem aM.get:∀{xs:List V}{us:List Value}{i:Nat}{x:V},aM xs us->xs[i]? = some x->∃u,us[i]? = some u/\aJ x u
 := fun {xs us i x} r e=>by
  cases r with
  |nil=>cases e
  |cons r t =>
   cases i with
   |zero=>cases e;exact⟨_,rfl,r⟩
   |succ i=>exact aM.get (i:=i) t e
theorem aM.set{x:V}{u:Value}(r:aJ x u):∀{xs:List V}{us:List Value} (i:Nat),aM xs us->aM (xs.set i x) (us.set i u)
 |_,_,_,.nil=>.nil
 |_,_,0,.cons _ t=>.cons r t
 |_,_,i + 1,.cons q t=>.cons q (aM.set r i t)
theorem aM.append:∀{xs ys:List V}{us ws:List Value},aM xs us->aM ys ws->aM (xs ++ ys) (us ++ ws)
 := fun r s=>by
  cases r with
  |nil=>exact s
  |cons r t=>exact .cons r (aM.append t s)
theorem aM.take:∀{xs:List V}{us:List Value} (n:Nat),aM xs us->aM (xs.take n) (us.take n)
 := fun n r=>by
  cases n with
  |zero=>exact .nil
  |succ n =>
   cases r with
   |nil=>exact .nil
   |cons r t=>exact .cons r (aM.take n t)
theorem aM.drop:∀{xs:List V}{us:List Value} (n:Nat),aM xs us->aM (xs.drop n) (us.drop n)
 := fun n r=>by
  cases n with
  |zero=>exact r
  |succ n =>
   cases r with
   |nil=>exact .nil
   |cons _ t=>exact aM.drop n t
def d6:Option V->Option Value->Prop
 |some v,some u=>aJ v u
 |none,none=>True
 |_,_=>False
def KV{κ:Type}:List (κ×V)->List (κ×Value)->Prop:=Paired fun(p:κ×V) (q:κ×Value)=>p.1=q.1/\aJ p.2 q.2
def kV:Key->V
 |.inl (some i)=>.int i
 |.inl none=>.non
 |.inr x=>.str x
inductive HO where
 |lst (xs:List V)
 |tup (xs:List V)
 |dK (kvs:List (Key×V)) |dT (kvs:List (List Key×V))
 |set (S:Int->Bool) (n:Nat)
 |ins (C dx:Addr) (fs:List (Str×V))
 |own (x:Addr)
 |xd (fs:List (Str×V))
 |met (f x:Addr)
 |rng (lo hi:Int)
 |frz (o:Obj) (u:HO)
 |tbl (ps:Array Value)
 |ext (φ:Heap->Prop)
abbrev ic:HO:=.ext fun _=>True
abbrev Hp:=Addr->Option HO
def upd(H:Hp)(a:Addr)(o:HO):Hp:=fun b=>if b=a then some o else H b
theorem aj{H:Hp}{a:Addr}{o:HO}:upd H a o a=some o:=by unfold upd;rw[if_pos rfl]
theorem af{H:Hp}{a b:Addr}{o:HO}(h:b ≠ a):upd H a o b=H b:=by unfold upd;rw[if_neg h]
theorem aF{H:Hp}{a b:Addr}{o:HO}(h:H a=some o)(h':H b=none):a ≠ b:=by
 intro e;subst e;rw[h]at h';cases h'
section
variable (P:Program) (w:World)
def bw(H:Hp)(h:Heap)(a:Addr):HO->Prop
 |.lst xs=>xs.length<=sizeLine/\∃(its:List Value) (n:Nat),aM xs its/\h.get? a=some { cls:=.type "list",data:=.seq its.toArray n }
 |.tup xs=>xs.length<=sizeLine/\∃its:List Value,aM xs its/\IsTup h a its.toArray
 |.dK kvs=>kvs.length<=sizeLine/\(a == sysModules)=false/\∃vs,KV kvs vs/\h.DictOf (az P w) a vs
 |.dT kvs=>kvs.length<=sizeLine/\(a == sysModules)=false/\∃xs:List (List Key×Addr×Value),
   Paired (fun(p:List Key×V) (q:List Key×Addr×Value)=>p.1=q.1/\H q.2.1=some (.tup (p.1.map kV))/\aJ p.2 q.2.2) kvs xs /\
   ∃o es ep,h.get? a=some o/\o.ExactDict/\o.data=.dict es ep/\es.toList=xs.map (entryOfKey (tupleKind (az P w)))/\(xs.map (·.1)).Nodup
 |.set S n=>h.SetOf (intKind P w) a S n
 |.ins C dx fs=>H dx=some (.own a)/\fs.length<=1000/\dx ≠ a/\h.get? a=some (PySem.W.instObj C dx) /\
   ∃mA,h.Ns1 dx mA/\(∀f,d6 (fs.lookup f) (mA f))/\PySem.Within mA (fs.map (·.1))
 |.own _=>∃o,h.get? a=some o
 |.xd fs=>∃mA,h.Ns1 a mA/\∀f,d6 (fs.lookup f) (mA f)
 |.rng lo hi=>∃t u v,h.get? a=some { cls:=.type "range",data:=.fields #[.int lo t,.int hi u,.int 1 v] }
 |.frz o u=>h.get? a=some o/\bw H h a u
 |.tbl ps=>h.get? a=some { cls:=.none,data:=.fields ps }
 |.met f x=>h.get? a=some (PySem.W.methodObj (.ref f) (.ref x))
 |.ext φ=>φ h/\(∃o,h.get? a=some o)/\∀h1 h2:Heap,φ h1->(∀o,h1.get? a=some o->h2.get? a=some o)->φ h2
def HOk(H:Hp)(h:Heap):Prop:=∀a o,H a=some o->bw P w H h a o
end
section
variable {P:Program}{w:World}{H H':Hp}{h h':Heap}{a:Addr}{o:HO}
theorem bw.lt(x:bw P w H h a o):a < h.objs.size:=by
 cases o with
 |lst xs=>obtain⟨_,_,_,_,e⟩:=x;exact CS e
 |tup xs=>obtain⟨_,_,_,p⟩:=x;exact p.lt
 |dK kvs=>obtain⟨_,_,_,_,o,_,_,e,_⟩:=x;exact CS e
 |dT kvs=>obtain⟨_,_,_,_,o,_,_,e,_⟩:=x;exact CS e
 |set S n=>obtain⟨o,_,_,_,e,_⟩:=x;exact CS e
 |ins C dx fs=>obtain⟨_,_,_,e,_⟩:=x;exact CS e
 |own y=>obtain⟨_,e⟩:=x;exact CS e
 |xd fs=>obtain⟨_,⟨_,_,_,e,_⟩,_⟩:=x;exact CS e
 |rng lo hi=>obtain⟨_,_,_,e⟩:=x;exact CS e
 |frz ob u=>obtain⟨e,_⟩:=x;exact CS e
 |tbl ps=>exact CS (show h.get? a=some _ from x)
 |met f y=>exact CS (show h.get? a=some _ from x)
 |ext φ=>obtain⟨_,⟨_,e⟩,_⟩:=x;exact CS e
theorem Paired.mapP{α β:Type}{F G:α->β->Prop}:∀{l₁:List α}{l₂:List β},Paired F l₁ l₂->(∀a b,F a b->G a b)->Paired G l₁ l₂
 := fun r f=>by
  cases r with
  |nil=>exact .nil
  |cons r t=>exact .cons (f _ _ r) (Paired.mapP t f)
theorem bw.stay(x:bw P w H h a o)(k:∀b u,(b=a\/H b=some (.own a))->h.get? b=some u->h'.get? b=some u)
  (ho:∀b,H b=some (.own a)->H' b=some (.own a)) (ht:∀b xs,H b=some (.tup xs)->H' b=some (.tup xs)):bw P w H' h' a o:=by
 induction o with
 |lst xs=>obtain⟨z,its,n,r,e⟩:=x;exact⟨z,its,n,r,k _ _ (.inl rfl) e⟩
 |tup xs=>obtain⟨z,its,r,ob,e,c⟩:=x;exact⟨z,its,r,ob,k _ _ (.inl rfl) e,c⟩
 |dK kvs=>obtain⟨z,y,vs,r,ob,es,ep,e,c⟩:=x;exact⟨z,y,vs,r,ob,es,ep,k _ _ (.inl rfl) e,c⟩
 |dT kvs =>
  obtain⟨z,y,xs,r,ob,es,ep,e,c⟩:=x
  exact⟨z,y,xs,Paired.mapP r fun p q z=>⟨z.1,ht _ _ z.2.1,z.2.2⟩,ob,es,ep,k _ _ (.inl rfl) e,c⟩
 |set S n=>obtain⟨ob,es,ep,t,e,c⟩:=x;exact⟨ob,es,ep,t,k _ _ (.inl rfl) e,c⟩
 |ins C dx fs =>
  obtain⟨d,z,ne,e,mA,⟨od,es,ep,e2,c⟩,r⟩:=x
  exact⟨ho _ d,z,ne,k _ _ (.inl rfl) e,mA,⟨od,es,ep,k _ _ (.inr d) e2,c⟩,r⟩
 |own y=>obtain⟨ob,e⟩:=x;exact⟨ob,k _ _ (.inl rfl) e⟩
 |xd fs=>obtain⟨mA,⟨od,es,ep,e,c⟩,r⟩:=x;exact⟨mA,⟨od,es,ep,k _ _ (.inl rfl) e,c⟩,r⟩
 |rng lo hi=>obtain⟨t,u,v,e⟩:=x;exact⟨t,u,v,k _ _ (.inl rfl) e⟩
 |frz ob u ih=>obtain⟨e,q⟩:=x;exact⟨k _ _ (.inl rfl) e,ih q⟩
 |tbl ps =>
  have e:h.get? a=some { cls:=.none,data:=.fields ps }:=x
  show h'.get? a=some { cls:=.none,data:=.fields ps }
  exact k a _ (.inl rfl) e
 |met f y =>
  have e:h.get? a=some (PySem.W.methodObj (.ref f) (.ref y)):=x
  show h'.get? a=some (PySem.W.methodObj (.ref f) (.ref y))
  exact k a _ (.inl rfl) e
 |ext φ=>obtain⟨p,⟨o,e⟩,st⟩:=x;exact⟨st _ _ p fun o q=>k _ _ (.inl rfl) q,⟨o,k _ _ (.inl rfl) e⟩,st⟩
theorem HOk.lt(x:HOk P w H h)(e:H a=some o):a < h.objs.size:=(x a o e).lt
theorem HOk.fresh(x:HOk P w H h)(e:h.objs.size<=a):H a=none:=by
 cases q:H a with
 |none=>rfl
 |some u=>exact absurd (C6 (x.lt q) e) (D7 _)
theorem HOk.kept(x:HOk P w H h)(k:∀b u,h.get? b=some u->h'.get? b=some u):HOk P w H h':=fun a o e =>
 (x a o e).stay (fun b u _ q=>k b u q) (fun _ q=>q) fun _ _ q=>q
theorem HOk.laid(x:HOk P w H h)(k:∀b u,h.get? b=some u->h'.get? b=some u)(hp:h.objs.size<=a)(new:bw P w (upd H a o) h' a o):HOk P w (upd H a o) h':=fun b u e=>by
 have hn:=x.fresh hp
 by_cases hb:b=a
 ·subst hb;rw[aj]at e;cases e;exact new
 ·rw[af hb]at e
  exact(x b u e).stay (fun c v _ q=>k c v q) (fun c q=>by rw[af (aF q hn)];exact q) fun c xs q=>by rw[af (aF q hn)];exact q
end
def Rd(H:Hp)(a:Addr)(u:HO):Prop:=H a=some u\/∃o,H a=some (.frz o u)
theorem Rd.ok{P:Program}{w:World}{H:Hp}{h:Heap}{a:Addr}{u:HO}(r:Rd H a u)(x:HOk P w H h):bw P w H h a u:=by
 rcases r with r |⟨o,r⟩
 ·exact x a u r
 ·obtain⟨_,q⟩:=x a _ r
  exact q
def Mut:Option HO->Prop
 |some (.lst _)=>True
 |some (.dK _)=>True
 |some (.dT _)=>True
 |some (.set _ _)=>True
 |some (.ins _ _ _)=>True
 |some (.ext _)=>True
 |_=>False
section
variable {P:Program}{w:World}{H:Hp}{h h':Heap}{x e:Addr}{o':HO}
theorem HOk.write(ok:HOk P w H h)(mu:Mut (H x))(he:e=x\/H e=some (.own x))(k:∀b u,b ≠ e->h.get? b=some u->h'.get? b=some u)(heo:∃u,h'.get? e=some u)
  (new:bw P w (upd H x o') h' x o'):HOk P w (upd H x o') h':=fun b u q=>by
 have nown:∀c y,H c=some (.own y)->c ≠ x:=fun c y r z=>by subst z;rw[r]at mu;exact mu
 have ntup:∀c xs,H c=some (.tup xs)->c ≠ x:=fun c xs r z=>by subst z;rw[r]at mu;exact mu
 by_cases hb:b=x
 ·subst hb;rw[aj]at q;cases q;exact new
 ·rw[af hb]at q
  by_cases hbe:b=e
  ·have q':H b=some (.own x):=by
    rcases he with z |z
    ·exact absurd (hbe.trans z) hb
    ·rw[hbe];exact z
   rw[q]at q';cases q'
   obtain⟨v,hv⟩:=heo
   exact⟨v,by rw[hbe];exact hv⟩
  ·refine(ok b u q).stay (fun c v hc r=>k c v ?_ r) (fun c r=>by rw[af (nown c b r)];exact r) fun c xs r=>by rw[af (ntup c xs r)];exact r
   rcases hc with rfl |hc
   ·exact hbe
   ·rintro rfl
    rcases he with z |z
    ·exact nown c b hc z
    ·rw[hc]at z;cases z;exact hb rfl
end
structure Un (fs ex:List Addr) (H H':Hp) (h h':Heap):Prop where
 keep:∀b o,h.get? b=some o->H b=none->b ∉ fs->b ∉ ex->h'.get? b=some o
 slot:∀b o,h.get? b=some o->H b=none->b ∈ fs->b ∉ ex->∃sl,h'.get? b=some { o with slots:=sl }
 free:∀b o,h.get? b=some o->H b=none->b ∉ ex->H' b=none
 there:∀b o,h.get? b=some o->b ∉ ex->∃o',h'.get? b=some o'
 tups:∀b xs,H b=some (.tup xs)->H' b=some (.tup xs)
 frzs:∀b o u,H b=some (.frz o u)->H' b=some (.frz o u)
 tbls:∀b ps,H b=some (.tbl ps)->∃more,H' b=some (.tbl (ps ++ more))
section
variable {fs fs' ex ex':List Addr}{H H1 H2:Hp}{h h1 h2 h':Heap}{a x e:Addr}{o:HO}
theorem Un.any(u:Un fs ex H H1 h h1){b:Addr}{ob:Obj}(q:h.get? b=some ob)(n:H b=none)(hx:b ∉ ex):∃sl,h1.get? b=some { ob with slots:=sl }:=by
 by_cases hb:b ∈ fs
 ·exact u.slot b ob q n hb hx
 ·exact⟨ob.slots,u.keep b ob q n hb hx⟩
theorem Un.kept(k:∀b u,h.get? b=some u->h'.get? b=some u):Un fs ex H H h h' :=
 ⟨fun b ob q _ _ _=>k b ob q,fun b ob q _ _ _=>⟨ob.slots,k b ob q⟩,fun _ _ _ n _=>n,fun b ob q _=>⟨ob,k b ob q⟩,fun _ _ q=>q,fun _ _ _ q=>q,fun _ ps q=>⟨#[],by rw[q];simp⟩⟩
theorem Un.refl:Un fs ex H H h h:=Un.kept fun _ _ q=>q
theorem Un.laid(k:∀b u,h.get? b=some u->h'.get? b=some u)(hp:h.objs.size<=a)(hn:H a=none):Un fs ex H (upd H a o) h h' where
 keep:=fun b u q _ _ _=>k b u q
 slot:=fun b u q _ _ _=>⟨u.slots,k b u q⟩
 free:=fun b u q n _=>by rw[af (C5 (C6 (CS q) hp))];exact n
 there:=fun b u q _=>⟨u,k b u q⟩
 tups:=fun b xs q=>by rw[af (aF q hn)];exact q
 frzs:=fun b u xs q=>by rw[af (aF q hn)];exact q
 tbls:=fun b ps q=>⟨#[],by rw[af (aF q hn),q];simp⟩
theorem Un.write(mu:Mut (H x))(he:e=x\/H e=some (.own x))(k:∀b u,b ≠ e->h.get? b=some u->h'.get? b=some u)(heo:∃u,h'.get? e=some u):Un fs ex H (upd H x o) h h':=by
 have hx:∀b,H b=none->b ≠ x:=fun b n z=>by subst z;rw[n]at mu;exact mu
 have hb:∀b,H b=none->b ≠ e:=fun b n z=>by
  subst z
  rcases he with r |r
  ·exact hx b n r
  ·rw[n]at r;cases r
 have hm:∀b u,H b=some u->¬Mut (some u)->b ≠ x:=fun b u q nm z=>by subst z;rw[q]at mu;exact nm mu
 refine⟨fun b u q n _ _=>k b u (hb b n) q,fun b u q n _ _=>⟨u.slots,k b u (hb b n) q⟩,fun b u q n _=>by rw[af (hx b n)];exact n,fun b u q _=>?_,
  fun b xs q=>by rw[af (hm b _ q fun z=>z)];exact q,fun b u xs q=>by rw[af (hm b _ q fun z=>z)];exact q,fun b ps q=>⟨#[],by rw[af (hm b _ q fun z=>z),q];simp⟩⟩
 by_cases hbe:b=e
 ·subst hbe;exact heo
 ·exact⟨u,k b u hbe q⟩
end
def trk(h:Heap)(H:Hp):List Addr:=(List.range h.objs.size).filter fun a=>(H a).isSome
def mB(h:Heap)(H:Hp):Heap:=PySem.W.hideAll h (trk h H)
theorem sR(h:Heap)(H:Hp):(mB h H).objs.size=h.objs.size:=PySem.W.hideAll_size _ _
theorem vC{h:Heap}{H:Hp}{b:Addr}{o:Obj}(e:h.get? b=some o)(n:H b=none):(mB h H).get? b=some o :=
 PySem.W.hideAll_get _ e fun hm=>by
  have q:(H b).isSome=true:=(List.mem_filter.mp hm).2
  rw[n]at q;simp at q
theorem xu{h:Heap}{H:Hp}{b:Addr}{o:Obj}(e:(mB h H).get? b=some o):h.get? b=some o/\H b=none:=by
 have e':h.get? b=some o:=PySem.W.of_hideAll (trk h H) e
 refine⟨e',?_⟩
 cases q:H b with
 |none=>rfl
 |some x =>
  have hm:b ∈ trk h H:=List.mem_filter.mpr ⟨List.mem_range.mpr (CS e'),by simp[q]⟩
  have z:(mB h H).get? b=none:=PySem.W.hideAll_none (trk h H) hm
  rw[z]at e;cases e
def yr(g h:Heap)(L:Addr):List (Addr×Obj):=(List.range h.objs.size).filterMap fun a=>if a=L\/(g.get? a).isSome=true then none else(h.get? a).map fun o=>(a,o)
def bc(g h:Heap)(L d:Addr):List (Addr×Obj):=(yr g h L).filter fun p=>decide (p.1 ≠ d)
structure Mod (K:PySem.W.Frag) (mg:Str->Option Value) (base:Heap):Prop where
 kin:K.In base
 glob:base.Ns mainGlobals mg
 blt:∃mb,base.Ns builtinsNs mb/\∀x:Str,x ≠ "__name__"->mb x=bootBuiltins x
 nolimit:base.NoLimit
structure Cx where
 prog:Program
 w:World
 K:PySem.W.Frag
 mg:Str->Option Value
 base:Heap
 A:Around
 N:List Str
 s₀:Shared
 H₀:Hp
 env:Env
 outer:List Env
 stack:List Env
 ex:List Addr
 fn:Str->Bool
 calm:Bool
 pn:List (Addr×Obj)
 xe:Value->Shared->Prop
def frs(l:List Env):List Addr:=l.filterMap (·.frame)
abbrev Cx.fs(X:Cx):List Addr:=frs X.outer
def Vis(sc:Scope)(x:Str):Prop:=sc.names.lookup x=some .local\/sc.names.lookup x=some .cell\/sc.names.lookup x=some .free
def Loc(sc:Scope)(x:Str):Prop:=sc.names.lookup x=some .local\/sc.names.lookup x=some .cell
def Cv(env:Env)(h:Heap)(m:Str->Option Value)(x:Str)(u:Value):Prop :=
 (env.kindOf x=some .local/\m x=some u)\/((env.kindOf x=some .cell\/env.kindOf x=some .free)/\∃c,env.cells.lookup x=some c/\h.IsCell c (some u))
structure Cx.Ok (X:Cx):Prop where
 mod:Mod X.K X.mg X.base
 kind:X.env.scope.kind=.function
 glob:X.env.globals=mainGlobals
 blt:X.env.builtins=builtinsNs
 above:X.s₀.heap.objs.size<=X.env.locals
 inj:∀x y c,X.env.cells.lookup x=some c->X.env.cells.lookup y=some c->x=y
 has:∀x,(X.env.kindOf x=some .cell\/X.env.kindOf x=some .free)->∃c,X.env.cells.lookup x=some c
 cab:∀x c,X.fn x=true->X.env.cells.lookup x=some c->X.s₀.heap.objs.size<=c
 hd:X.calm=true->X.A.handled=none
 frames:X.A.frames=some X.stack
 stk:X.stack=X.outer\/(X.stack=X.env :: X.outer/\X.env.frame=some X.env.locals)
 exf:∀b ∈ X.ex,b ≠ X.env.locals/\∀x c,X.env.cells.lookup x=some c->c ≠ b
 bs:∀b o,X.base.get? b=some o->X.s₀.heap.get? b=some o/\X.H₀ b=none
 bsz:X.base.objs.size<=X.s₀.heap.objs.size
 noex:∀b o,X.base.get? b=some o->b ∉ X.ex
 exfs:∀b ∈ X.ex,b ∉ X.fs
 funs:X.s₀.heap.FunFrames X.base X.outer
 frf:∀b ∈ X.fs,X.H₀ b=none
structure Inv (X:Cx) (dl:List (Addr×Obj)) (σ:List (Option V)) (H:Hp) (s:Shared):Prop where
 ok:X.Ok
 os:s.os=X.s₀.os
 bare:AllBare s.gens
 base:Un X.fs X.ex X.H₀ H X.s₀.heap s.heap
 loc:∃m,s.heap.Ns X.env.locals m/\∀(i:Nat) (x:Str) (v:V),X.N[i]? = some x->σ[i]? = some (some v)->Vis X.env.scope x->∃u,aJ v u/\Cv X.env s.heap m x u
 cell:∀x c,X.env.cells.lookup x=some c->∃v,s.heap.IsCell c v
 free:H X.env.locals=none
 freeC:∀x c,X.env.cells.lookup x=some c->H c=none
 pin:∀p ∈ X.pn ++ dl,s.heap.get? p.1=some p.2/\H p.1=none/\p.1 ≠ X.env.locals/\p.1 ∉ X.fs/\∀v,p.2.data ≠ .cell v
 hok:HOk X.prog X.w H s.heap
 len:σ.length=X.N.length
section
variable {X:Cx}{dl:List (Addr×Obj)} {σ:List (Option V)} {H H':Hp}{s:Shared}{h':Heap}
theorem Cx.Ok.nofr(ok:X.Ok){b:Addr}{o:Obj}(e:X.base.get? b=some o):b ∉ X.fs:=fun hb=>by
 have:=(ok.funs.mem hb).1
 rw[e]at this;cases this
theorem Inv.bs(I:Inv X dl σ H s):∀b o,X.base.get? b=some o->s.heap.get? b=some o/\H b=none:=fun b o e =>
 ⟨I.base.keep b o (I.ok.bs b o e).1 (I.ok.bs b o e).2 (I.ok.nofr e) (I.ok.noex b o e),I.base.free b o (I.ok.bs b o e).1 (I.ok.bs b o e).2 (I.ok.noex b o e)⟩
theorem Inv.bk(I:Inv X dl σ H s):∀b o,X.base.get? b=some o->s.heap.get? b=some o:=fun b o e=>(I.bs b o e).1
theorem Inv.mod(I:Inv X dl σ H s):Mod X.K X.mg X.base:=I.ok.mod
theorem Inv.kIn(I:Inv X dl σ H s):X.K.In s.heap:=I.ok.mod.kin.keeps I.bk
theorem Inv.lt(I:Inv X dl σ H s):X.env.locals < s.heap.objs.size:=let ⟨_,hn,_⟩:=I.loc;hn.lt
theorem Inv.sz(I:Inv X dl σ H s):X.s₀.heap.objs.size<=s.heap.objs.size:=CZ I.ok.above (El I.lt)
theorem Inv.nofs(I:Inv X dl σ H s){a:Addr}(h:s.heap.objs.size<=a):a ∉ X.fs:=fun hb=>by
 obtain⟨_,o,ho,_⟩:=I.ok.funs.mem hb
 exact absurd (C6 (CS ho) (CZ I.sz h)) (D7 _)
theorem Inv.cne(I:Inv X dl σ H s):∀x c,X.env.cells.lookup x=some c->c ≠ X.env.locals:=fun x c e z=>by
 obtain⟨v,o,ho,hd⟩:=I.cell x c e
 obtain⟨m,⟨o',es,ep,ho',hd',_⟩,_⟩:=I.loc
 rw[z,ho']at ho;cases ho;rw[hd']at hd;cases hd
theorem Inv.funs(I:Inv X dl σ H s):s.heap.FunFrames X.base X.outer:=by
 have all:∀(l:List Env),(∀b ∈ frs l,b ∈ X.fs)->X.s₀.heap.FunFrames X.base l->s.heap.FunFrames X.base l:=by
  intro l
  induction l with
  |nil=>intro _ _;trivial
  |cons env r ih =>
   intro hs hl
   obtain⟨hk,⟨L,o,hf,hn,ho,hd⟩,hr⟩:=hl
   have hL:L ∈ X.fs:=hs L (by unfold frs;rw[Fx,hf];exact C1)
   obtain⟨sl,e⟩:=I.base.slot L o ho (I.ok.frf L hL) hL fun z=>I.ok.exfs L z hL
   exact⟨hk,⟨L,_,hf,hn,e,hd⟩,ih (fun b hb=>hs b (by unfold frs;rw[Fx,hf];exact CY _ hb)) hr⟩
 exact all X.outer (fun _ hb=>hb) I.ok.funs
theorem Inv.stack(I:Inv X dl σ H s):s.heap.FunFrames X.base X.stack:=by
 rcases I.ok.stk with e |⟨e,hf⟩
 ·rw[e];exact I.funs
 ·rw[e]
  obtain⟨m,hn,_⟩:=I.loc
  refine .cons (by rw[I.ok.kind];decide) hf hn ?_ I.funs
  exact Heap.get?_none_of_le (CZ I.ok.bsz I.ok.above)
theorem Inv.stkSub(I:Inv X dl σ H s):∀b ∈ frs X.stack,b ∈ X.env.locals :: X.fs:=fun b hb=>by
 rcases I.ok.stk with e |⟨e,hf⟩
 ·rw[e]at hb;exact CY _ hb
 ·rw[e]at hb
  unfold frs at hb
  rw[Fx,hf]at hb
  exact hb
theorem Inv.stkFree(I:Inv X dl σ H s):∀b ∈ frs X.stack,H b=none:=fun b hb=>by
 rcases List.mem_cons.mp (I.stkSub b hb) with e |hb
 ·rw[e];exact I.free
 ·obtain⟨_,o,ho,_⟩:=I.ok.funs.mem hb
  exact I.base.free b o ho (I.ok.frf b hb) fun z=>I.ok.exfs b z hb
theorem Inv.step{g':Array GenState}{t':Nat}{d':Drawn}{ch:List Addr}(I:Inv X dl σ H s)
  (hch:∀b ∈ ch,(b ∈ X.ex\/X.s₀.heap.objs.size<=b)/\b ≠ X.env.locals/\(∀x c,X.env.cells.lookup x=some c->c ≠ b)/\∀p ∈ X.pn ++ dl,p.1 ≠ b)
  (keep:∀b o,b ≠ X.env.locals->b ∉ X.fs->b ∉ ch->s.heap.get? b=some o->H b=none->h'.get? b=some o)
  (slot:∀b o,b ≠ X.env.locals->b ∈ X.fs->b ∉ ch->s.heap.get? b=some o->H b=none->∃sl,h'.get? b=some { o with slots:=sl }) (free:∀b o,b ∉ ch->s.heap.get? b=some o->H b=none->H' b=none)
  (there:∀b o,b ∉ ch->s.heap.get? b=some o->∃o',h'.get? b=some o')
  (tups:∀b xs,H b=some (.tup xs)->H' b=some (.tup xs)) (frzs:∀b o u,H b=some (.frz o u)->H' b=some (.frz o u)) (tbls:∀b ps,H b=some (.tbl ps)->∃more,H' b=some (.tbl (ps ++ more)))
  (ns:∀m,s.heap.Ns X.env.locals m->h'.Ns X.env.locals m) (hok:HOk X.prog X.w H' h') (hg:AllBare g') :
  Inv X dl σ H' { s with heap:=h',gens:=g',drawn:=d',toks:=t' }:=by
 have neL:∀b o,X.s₀.heap.get? b=some o->b ≠ X.env.locals:=fun b o e=>C5 (C6 (CS e) I.ok.above)
 have neC:∀b o,X.s₀.heap.get? b=some o->b ∉ X.ex->b ∉ ch:=fun b o e hx hb=>by
  rcases(hch b hb).1 with z |z
  ·exact hx z
  ·exact absurd (C6 (CS e) z) (D7 _)
 have cellK:∀x c,X.env.cells.lookup x=some c->∀v,s.heap.IsCell c v->h'.IsCell c v:=fun x c e v zz1_0=>by
  obtain⟨o,ho,hd⟩:=zz1_0
  have nch:c ∉ ch:=fun z=>(hch c z).2.2.1 x c e rfl
  by_cases hc:c ∈ X.fs
  ·obtain⟨sl,q⟩:=slot c o (I.cne x c e) hc nch ho (I.freeC x c e)
   exact⟨_,q,hd⟩
  ·exact⟨o,keep c o (I.cne x c e) hc nch ho (I.freeC x c e),hd⟩
 refine⟨I.ok,I.os,hg,⟨fun b o e n hb hx=>?_,fun b o e n hb hx=>?_,fun b o e n hx=>?_,fun b o e hx=>?_,fun b xs e=>tups b xs (I.base.tups b xs e),fun b o xs e=>frzs b o xs (I.base.frzs b o xs e),fun b ps e=>?_⟩,?_,fun x c e=>?_,?_,fun x c e=>?_,fun p hp=>?_,hok,I.len⟩
 ·exact keep b o (neL b o e) hb (neC b o e hx) (I.base.keep b o e n hb hx) (I.base.free b o e n hx)
 ·obtain⟨sl,e1⟩:=I.base.slot b o e n hb hx
  obtain⟨sl',e2⟩:=slot b _ (neL b o e) hb (neC b o e hx) e1 (I.base.free b o e n hx)
  exact⟨sl',e2⟩
 ·obtain⟨o',e1⟩:=I.base.there b o e hx
  exact free b o' (neC b o e hx) e1 (I.base.free b o e n hx)
 ·obtain⟨o',e1⟩:=I.base.there b o e hx
  exact there b o' (neC b o e hx) e1
 ·obtain⟨m1,e1⟩:=I.base.tbls b ps e
  obtain⟨m2,e2⟩:=tbls b _ e1
  exact⟨m1 ++ m2,by rw[e2,Array.append_assoc]⟩
 ·obtain⟨m,hn,hl⟩:=I.loc
  refine⟨m,ns m hn,fun i x v e1 e2 e3=>?_⟩
  obtain⟨u,r,l⟩:=hl i x v e1 e2 e3
  refine⟨u,r,?_⟩
  rcases l with l |⟨k,c,e,z⟩
  ·exact .inl l
  ·exact .inr ⟨k,c,e,cellK x c e _ z⟩
 ·obtain⟨v,z⟩:=I.cell x c e
  exact⟨v,cellK x c e v z⟩
 ·obtain⟨m,⟨o,_,_,ho,_⟩,_⟩:=I.loc
  exact free _ o (fun z=>(hch _ z).2.1 rfl) ho I.free
 ·obtain⟨v,o,ho,hd⟩:=I.cell x c e
  exact free c o (fun z=>(hch c z).2.2.1 x c e rfl) ho (I.freeC x c e)
 ·obtain⟨e,n,ne,nf,d⟩:=I.pin p hp
  have nch:p.1 ∉ ch:=fun z=>(hch p.1 z).2.2.2 p hp rfl
  exact⟨keep p.1 p.2 ne nf nch e n,free p.1 p.2 nch e n,ne,nf,d⟩
theorem Inv.un{t':Nat}(I:Inv X dl σ H s)(u:Un X.fs [] H H' s.heap h')(hok:HOk X.prog X.w H' h'):Inv X dl σ H' { s with heap:=h',toks:=t' }:=by
 obtain⟨m,⟨o,es,ep,ho,r⟩,_⟩:=id I.loc
 obtain⟨sl,hL⟩:=u.any ho I.free (by simp)
 exact I.step (g':=s.gens) (d':=s.drawn) (ch:=[]) (fun _ z=>nomatch z) (fun b o _ hb _ e n=>u.keep b o e n hb (by simp)) (fun b o _ hb _ e n=>u.slot b o e n hb (by simp)) (fun b o _ e n=>u.free b o e n (by simp)) (fun b o _ e=>u.there b o e (by simp)) u.tups u.frzs u.tbls (fun m' hm=>by
  obtain⟨o',es',ep',ho',r'⟩:=hm
  rw[ho]at ho';cases ho'
  exact⟨_,es',ep',hL,r'⟩) hok I.bare
theorem Inv.call{g':Array GenState}{t':Nat}{d':Drawn}{ch:List Addr}(I:Inv X dl σ H s)(u:Un (frs X.stack) ch H H' s.heap h')(hok:HOk X.prog X.w H' h')(hg:AllBare g')
  (hch:∀b ∈ ch,(b ∈ X.ex\/X.s₀.heap.objs.size<=b)/\b ≠ X.env.locals/\(∀x c,X.env.cells.lookup x=some c->c ≠ b)/\∀p ∈ X.pn ++ dl,p.1 ≠ b) :
  Inv X dl σ H' { s with heap:=h',gens:=g',drawn:=d',toks:=t' }:=by
 obtain⟨m,⟨o,es,ep,ho,r⟩,_⟩:=id I.loc
 obtain⟨sl,hL⟩:=u.any ho I.free fun z=>(hch _ z).2.1 rfl
 exact I.step (ch:=ch) hch (fun b o hL hb hc e n=>u.keep b o e n (fun z=>(List.mem_cons.mp (I.stkSub b z)).elim hL hb) hc) (fun b o _ _ hc e n=>u.any e n hc) (fun b o hc e n=>u.free b o e n hc) (fun b o hc e=>u.there b o e hc) u.tups u.frzs u.tbls (fun m' hm=>by
  obtain⟨o',es',ep',ho',r'⟩:=hm
  rw[ho]at ho';cases ho'
  exact⟨_,es',ep',hL,r'⟩) hok hg
theorem Inv.turned{t':Nat}{it:Addr}(I:Inv X dl σ H s)(k:∀b o,b ≠ it->s.heap.get? b=some o->h'.get? b=some o)(hn:H it=none)(hL:it ≠ X.env.locals)
  (h1:it ∈ X.ex\/X.s₀.heap.objs.size<=it) (h2:∀x c,X.env.cells.lookup x=some c->c ≠ it) (h3:∀p ∈ X.pn ++ dl,p.1 ≠ it):Inv X dl σ H { s with heap:=h',toks:=t' }:=by
 have nit:∀b u,H b=some u->b ≠ it:=fun b u e z=>by rw[z,hn]at e;cases e
 refine I.step (g':=s.gens) (d':=s.drawn) (ch:=[it]) (fun b hb=>?_) (fun b o _ _ hc e _=>k b o (fun z=>hc (by simp[z])) e) (fun b o _ _ hc e _=>⟨o.slots,k b o (fun z=>hc (by simp[z])) e⟩) (fun _ _ _ _ n=>n)
  (fun b o hc e=>⟨o,k b o (fun z=>hc (by simp[z])) e⟩) (fun _ _ e=>e) (fun _ _ _ e=>e) (fun b ps e=>⟨#[],by rw[e];simp⟩) (fun m hm=>?_) (fun b u e=>?_) I.bare
 ·have e:b=it:=by simpa using hb
  subst e
  exact⟨h1,hL,h2,h3⟩
 ·obtain⟨o,es,ep,ho,r⟩:=hm
  exact⟨o,es,ep,k _ o (Ne.symm hL) ho,r⟩
 ·refine(I.hok b u e).stay (fun c v hc q=>k c v ?_ q) (fun _ q=>q) fun _ _ q=>q
  rcases hc with z |z
  ·rw[z];exact nit b u e
  ·exact nit c _ z
theorem Inv.tok(I:Inv X dl σ H s)(t:Nat):Inv X dl σ H { s with toks:=t }:=I.un (h':=s.heap) (t':=t) Un.refl I.hok
theorem Inv.kept{t':Nat}(I:Inv X dl σ H s)(k:∀b u,s.heap.get? b=some u->h'.get? b=some u):Inv X dl σ H { s with heap:=h',toks:=t' }:=I.un (Un.kept k) (I.hok.kept k)
theorem Inv.laid{a:Addr}{o:HO}{t':Nat}(I:Inv X dl σ H s)(k:∀b u,s.heap.get? b=some u->h'.get? b=some u)(hp:s.heap.objs.size<=a)(new:bw X.prog X.w (upd H a o) h' a o) :
  Inv X dl σ (upd H a o) { s with heap:=h',toks:=t' }:=I.un (Un.laid k hp (I.hok.fresh hp)) (I.hok.laid k hp new)
theorem Inv.write{x e:Addr}{o:HO}{t':Nat}(I:Inv X dl σ H s)(mu:Mut (H x))(he:e=x\/H e=some (.own x))(k:∀b u,b ≠ e->s.heap.get? b=some u->h'.get? b=some u)(heo:∃u,h'.get? e=some u)
  (new:bw X.prog X.w (upd H x o) h' x o):Inv X dl σ (upd H x o) { s with heap:=h',toks:=t' }:=I.un (Un.write mu he k heo) (I.hok.write mu he k heo new)
theorem Inv.pins_of{pins':List (Addr×Obj)}(I:Inv X dl σ H s)(h:∀p ∈ pins',s.heap.get? p.1=some p.2/\H p.1=none/\p.1 ≠ X.env.locals/\p.1 ∉ X.fs/\∀v,p.2.data ≠ .cell v):Inv X pins' σ H s :=
 ⟨I.ok,I.os,I.bare,I.base,I.loc,I.cell,I.free,I.freeC,fun p hp=>(List.mem_append.mp hp).elim (fun z=>I.pin p (Dg _ z)) (h p),I.hok,I.len⟩
theorem jO{N:List Str}(hN:N.Nodup){i j:Nat}{x:Str}(a:N[i]? = some x)(b:N[j]? = some x):i=j:=by
 obtain⟨h1,e1⟩:=List.getElem?_eq_some_iff.mp a
 obtain⟨h2,e2⟩:=List.getElem?_eq_some_iff.mp b
 exact(List.getElem_inj hN).mp (e1.trans e2.symm)
theorem rR{M:Model}{A:Around}{E:Value->Shared->Prop}{i:Nat}{x:Str}{v:V}{u:Value}{Q:Unit->Shared->Prop}(I:Inv X dl σ H s)(hN:X.N.Nodup)(hi:X.N[i]? = some x)(hx:Loc X.env.scope x)(r:aJ v u)
  (h:∀s',Inv X dl (σ.set i (some v)) H s'->(∃a,Heap.SameBut a s.heap s'.heap/\(a=X.env.locals\/X.env.cells.lookup x=some a))->Q () s') (hf:X.fn x=true\/X.env.scope.names.lookup x=some .local:=by first |exact .inl rfl |exact .inr rfl |assumption):wpAny M A (storeName X.env x u) Q E s:=by
 obtain⟨m,hn,hl⟩:=id I.loc
 have Gh:(X.env.scope.kind == .class || (X.env.scope.kind == .module && X.env.locals != X.env.globals))=false:=by rw[I.ok.kind];rfl
 have hiσ:i < σ.length:=by rw[I.len];exact(List.getElem?_eq_some_iff.mp hi).1
 have cne:=I.cne
 have tracked:∀{a:Addr}{h':Heap},(∃o,s.heap.get? a=some o/\H a=none)->Heap.SameBut a s.heap h'->HOk X.prog X.w H h':=fun {a h'} ha hs b ob e=>by
  obtain⟨_,_,Ge⟩:=ha
  refine(I.hok b ob e).stay (fun c w' hc q=>(hs.2 c ?_).trans q) (fun _ q=>q) fun _ _ q=>q
  rintro rfl
  rcases hc with rfl |hc
  ·rw[Ge]at e;cases e
  ·rw[Ge]at hc;cases hc
 rcases hx with hk |hk
 ·refine wpAny_storeName_local hk hn (fun h' hn' hs=>?_) Gh
  obtain⟨oL,_,_,hoL,_⟩:=id hn
  refine h _ ⟨I.ok,I.os,I.bare,⟨fun b o e n hb hx=>?_,fun b o e n hb hx=>?_,I.base.free,fun b o e hx=>?_,I.base.tups,I.base.frzs,I.base.tbls⟩,⟨_,hn',fun j y v' e1 e2 e3=>?_⟩,fun y c e=>?_,I.free,I.freeC,fun p hp=>?_,tracked ⟨oL,hoL,I.free⟩ hs,by simpa using I.len⟩ ⟨_,hs,.inl rfl⟩
  ·exact(hs.2 b (C5 (C6 (CS e) I.ok.above))).trans (I.base.keep b o e n hb hx)
  ·obtain⟨sl,e1⟩:=I.base.slot b o e n hb hx
   exact⟨sl,(hs.2 b (C5 (C6 (CS e) I.ok.above))).trans e1⟩
  ·obtain⟨o',e1⟩:=I.base.there b o e hx
   exact⟨o',(hs.2 b (C5 (C6 (CS e) I.ok.above))).trans e1⟩
  ·by_cases hj:j=i
   ·subst hj
    rw[hi]at e1;cases e1
    rw[D1 hiσ]at e2
    cases e2
    exact⟨u,r,.inl ⟨hk,by simp⟩⟩
   ·rw[CW (Ne.symm hj)]at e2
    obtain⟨u',r',q⟩:=hl j y v' e1 e2 e3
    refine⟨u',r',?_⟩
    rcases q with⟨k,e⟩ |⟨k,c,e,z⟩
    ·refine .inl ⟨k,?_⟩
     have:y ≠ x:=fun e=>hj (jO hN e1 (e ▸ hi))
     simp[this,e]
    ·exact .inr ⟨k,c,e,z.sameBut hs (cne y c e)⟩
  ·obtain⟨w',z⟩:=I.cell y c e
   exact⟨w',z.sameBut hs (cne y c e)⟩
  ·obtain⟨e,n,ne,nf,d⟩:=I.pin p hp
   exact⟨(hs.2 p.1 ne).trans e,n,ne,nf,d⟩
 ·have hfn:X.fn x=true:=by
   rcases hf with z |z
   ·exact z
   ·rw[z]at hk;cases hk
  obtain⟨c,hc⟩:=I.ok.has x (.inl hk)
  obtain⟨w',z⟩:=I.cell x c hc
  refine wpAny_storeName_cell I.ok.kind hk hc z (fun h' hc' hs=>?_)
  obtain⟨oc,hoc,G9⟩:=id z
  refine h { s with heap:=h' } ⟨I.ok,I.os,I.bare,⟨fun b o e n hb hx=>?_,fun b o e n hb hx=>?_,I.base.free,fun b o e hx=>?_,I.base.tups,I.base.frzs,I.base.tbls⟩,⟨m,hn.sameBut hs (Ne.symm (cne x c hc)),fun j y v' e1 e2 e3=>?_⟩,fun y c' e=>?_,I.free,I.freeC,fun p hp=>?_,tracked ⟨oc,hoc,I.freeC x c hc⟩ hs,by simpa using I.len⟩ ⟨c,hs,.inr hc⟩
  ·exact(hs.2 b (C5 (C6 (CS e) (I.ok.cab x c hfn hc)))).trans (I.base.keep b o e n hb hx)
  ·obtain⟨sl,e1⟩:=I.base.slot b o e n hb hx
   exact⟨sl,(hs.2 b (C5 (C6 (CS e) (I.ok.cab x c hfn hc)))).trans e1⟩
  ·obtain⟨o',e1⟩:=I.base.there b o e hx
   exact⟨o',(hs.2 b (C5 (C6 (CS e) (I.ok.cab x c hfn hc)))).trans e1⟩
  ·by_cases hj:j=i
   ·subst hj
    rw[hi]at e1;cases e1
    rw[D1 hiσ]at e2
    cases e2
    exact⟨u,r,.inr ⟨.inl hk,c,hc,hc'⟩⟩
   ·rw[CW (Ne.symm hj)]at e2
    obtain⟨u',r',q⟩:=hl j y v' e1 e2 e3
    refine⟨u',r',?_⟩
    rcases q with q |⟨k,c',e,z'⟩
    ·exact .inl q
    ·refine .inr ⟨k,c',e,z'.sameBut hs ?_⟩
     rintro rfl
     exact hj (jO hN e1 (I.ok.inj _ _ _ e hc ▸ hi))
  ·by_cases hcc:c'=c
   ·subst hcc;exact⟨_,hc'⟩
   ·obtain⟨w2,z2⟩:=I.cell y c' e
    exact⟨w2,z2.sameBut hs hcc⟩
  ·obtain⟨e,n,ne,nf,d⟩:=I.pin p hp
   refine⟨(hs.2 p.1 ?_).trans e,n,ne,nf,d⟩
   intro q
   rw[q,hoc]at e
   have q':oc=p.2:=CU e
   exact d w' (by rw[<-q'];exact G9)
theorem eI{M:Model}{A:Around}{E:Value->Shared->Prop}{i:Nat}{x:Str}{v:V}{u:Value}{Q:Unit->Shared->Prop}(I:Inv X dl σ H s)(hN:X.N.Nodup)(hi:X.N[i]? = some x)(hx:Loc X.env.scope x)(r:aJ v u)
  (h:∀s',Inv X dl (σ.set i (some v)) H s'->Q () s') (hf:X.fn x=true\/X.env.scope.names.lookup x=some .local:=by first |exact .inl rfl |exact .inr rfl |assumption):wpAny M A (storeName X.env x u) Q E s :=
 rR I hN hi hx r (fun s' I' _=>h s' I') hf
theorem Inv.call'{s':Shared}{ch:List Addr}(I:Inv X dl σ H s)(ho:s'.os=s.os)(u:Un (frs X.stack) ch H H' s.heap s'.heap)(hok:HOk X.prog X.w H' s'.heap)(hg:AllBare s'.gens)
  (hch:∀b ∈ ch,(b ∈ X.ex\/X.s₀.heap.objs.size<=b)/\b ≠ X.env.locals/\(∀x c,X.env.cells.lookup x=some c->c ≠ b)/\∀p ∈ X.pn ++ dl,p.1 ≠ b):Inv X dl σ H' s':=by
 obtain⟨h',g',d',t',o'⟩:=s'
 have e:o'=s.os:=ho
 subst e
 exact I.call (g':=g') (t':=t') (d':=d') u hok hg hch
end
abbrev XK:=Value->Option Addr->Hp->Prop
abbrev St:=List (Option V)
abbrev VK:=V->Hp->Prop
abbrev TE:=St->Hp->VK->Prop
abbrev TT:=St->Hp->(Bool->Hp->Prop)->Prop
abbrev TA:=St->Hp->(List V->Hp->Prop)->Prop
structure dh where
 nx:St->Hp->Prop
 rt:VK
 bk:St->Hp->Prop:=fun _ _=>False
 ct:St->Hp->Prop:=fun _ _=>False
abbrev TS:=dh->St->Hp->Prop
def EP(X:Cx)(dl:List (Addr×Obj))(σ:St)(Q:VK)(u:Value)(s':Shared):Prop:=∃v H',Inv X dl σ H' s'/\aJ v u/\Q v H'
def TP(X:Cx)(dl:List (Addr×Obj))(σ:St)(Q:Bool->Hp->Prop)(b:Bool)(s':Shared):Prop:=∃H',Inv X dl σ H' s'/\Q b H'
def AP(X:Cx)(dl:List (Addr×Obj))(σ:St)(Q:List V->Hp->Prop)(us:List Value)(s':Shared):Prop:=∃vs H',Inv X dl σ H' s'/\aM vs us/\Q vs H'
def SP(X:Cx)(dl:List (Addr×Obj))(D:dh)(f:Flow)(s':Shared):Prop :=
 match f with
 |.next=>∃σ' H',Inv X dl σ' H' s'/\D.nx σ' H'
 |.brk=>∃σ' H',Inv X dl σ' H' s'/\D.bk σ' H'
 |.cont=>∃σ' H',Inv X dl σ' H' s'/\D.ct σ' H'
 |.ret u=>∃v σ' H',Inv X dl σ' H' s'/\aJ v u/\D.rt v H'
def PE(X:Cx)(e:Expr)(t:TE):Prop :=
 ∀(dl:List (Addr×Obj)) (s:Shared) (σ:St) (H:Hp) (Q:VK),Inv X dl σ H s->t σ H Q->wpAny (model X.prog X.w) X.A (eval e X.env) (EP X dl σ Q) X.xe s
def PT(X:Cx)(e:Expr)(t:TT):Prop :=
 ∀(dl:List (Addr×Obj)) (s:Shared) (σ:St) (H:Hp) (Q:Bool->Hp->Prop),Inv X dl σ H s->t σ H Q->wpAny (model X.prog X.w) X.A (isTrue e X.env (eval e X.env)) (TP X dl σ Q) X.xe s
def PW(X:Cx)(e:Expr)(t:TT):Prop :=
 ∀(whole:Sem Value) (dl:List (Addr×Obj)) (s:Shared) (σ:St) (H:Hp) (Q:Bool->Hp->Prop),Inv X dl σ H s->t σ H Q->wpAny (model X.prog X.w) X.A (isTrue e X.env whole) (TP X dl σ Q) X.xe s
def PA(X:Cx)(es:List Expr)(t:TA):Prop :=
 ∀(pos:Pos) (dl:List (Addr×Obj)) (s:Shared) (σ:St) (H:Hp) (Q:List V->Hp->Prop),Inv X dl σ H s->t σ H Q->wpAny (model X.prog X.w) X.A (spliced (backTo pos (starEach es X.env))) (AP X dl σ Q) X.xe s
def PS(X:Cx)(st:Stmt)(t:TS):Prop :=
 ∀(dl:List (Addr×Obj)) (s:Shared) (σ:St) (H:Hp) (D:dh),Inv X dl σ H s->t D σ H->wpAny (model X.prog X.w) X.A (exec st X.env) (SP X dl D) X.xe s
def PSs(X:Cx)(st:List Stmt)(t:TS):Prop :=
 ∀(dl:List (Addr×Obj)) (s:Shared) (σ:St) (H:Hp) (D:dh),Inv X dl σ H s->t D σ H->wpAny (model X.prog X.w) X.A (execs st X.env) (SP X dl D) X.xe s
theorem thn{α:Type}{t:Sem α}{Q Q':α->Shared->Prop}{M:Model}{A:Around}{E:Value->Shared->Prop}{s:Shared}(h:wpAny M A t Q E s)(hQ:∀a s,Q a s->Q' a s):wpAny M A t Q' E s:=Dc h hQ fun _ _ x=>x
section
variable {X:Cx}
def g8(i:Nat):TE:=fun σ H Q=>∃v,σ[i]? = some (some v)/\Q v H
def tC(v:V):TE:=fun _ H Q=>Q v H
theorem gN{i:Nat}{x:Str}{pos:Pos}(hN:X.N[i]? = some x)(hv:Vis X.env.scope x)(hd:(x == ("__debug__" : Str))=false:=by decide)(hcd:(x == ("__classdict__" : Str))=false:=by decide):PE X (.Name x pos) (g8 i):=by
 intro dl s σ H Q I h
 obtain⟨v,e,h⟩:=h
 obtain⟨m,hn,hl⟩:=I.loc
 obtain⟨u,r,l⟩:=hl i x v hN e hv
 have fin:EP X dl σ Q u s:=⟨v,H,I,r,h⟩
 rcases l with⟨hk,hm⟩ |⟨hk,c,hc,Gy⟩
 ·exact wpAny_Name (wpAny_loadName_local I.ok.kind hk hn hm fin) hd
 ·rcases hk with hk |hk
  ·exact wpAny_Name (wpAny_loadName_cell I.ok.kind hk hc Gy fin) hd
  ·exact wpAny_Name (wpAny_loadName_free I.ok.kind hk hc Gy fin hcd) hd
theorem zN{i j pos}:PE X (.Constant (.int i) j pos) (tC (.int i)):=fun _ _ _ H _ I h=>wpAny_Constant_int ⟨.int i,H,I.tok _,⟨_,rfl⟩,h⟩
theorem Bp{b j pos}:PE X (.Constant (.bool b) j pos) (tC (.bl b)):=fun _ _ _ H _ I h=>Constant_bool ⟨.bl b,H,I,rfl,h⟩
theorem pH{j pos}:PE X (.Constant .none j pos) (tC .non):=fun _ _ _ H _ I h=>Constant_none ⟨.non,H,I,rfl,h⟩
theorem zK{x j pos}:PE X (.Constant (.str x) j pos) (tC (.str x)):=fun _ _ _ H _ I h=>Calls.Constant_str ⟨.str x,H,I.tok _,⟨_,rfl⟩,h⟩
def Gl(X:Cx)(x:Str):Prop:=X.env.kindOf x=some .globalImplicit
theorem fm{E:Value->Shared->Prop}{dl:List (Addr×Obj)}{s:Shared}{σ:St}{H:Hp}{x:Str}{u:Value}{pos:Pos}{Q:Value->Shared->Prop}(I:Inv X dl σ H s)(hg:Gl X x)(hm:X.mg x=some u)(h:Q u s)
  (hd:(x == ("__debug__" : Str))=false:=by decide):wpAny (model X.prog X.w) X.A (eval (.Name x pos) X.env) Q E s :=
 Calls.Name_function_global I.ok.kind hg (Calls.loadGlobal_global (by rw[I.ok.glob];exact I.mod.glob.keeps I.bk) hm h) hd
theorem jW{E:Value->Shared->Prop}{dl:List (Addr×Obj)}{s:Shared}{σ:St}{H:Hp}{x:Str}{u:Value}{pos:Pos}{Q:Value->Shared->Prop}(I:Inv X dl σ H s)(hg:Gl X x)(hm:X.mg x=none)(hv:bootBuiltins x=some u)(h:Q u s)
  (hn:x ≠ "__name__" := by decide) (hd:(x == ("__debug__" : Str))=false:=by decide):wpAny (model X.prog X.w) X.A (eval (.Name x pos) X.env) Q E s:=by
 obtain⟨mb,h1,h2⟩:=I.mod.blt
 exact Calls.Name_function_global I.ok.kind hg (Calls.loadGlobal_builtin (by rw[I.ok.glob];exact I.mod.glob.keeps I.bk) hm (by rw[I.ok.blt];exact h1.keeps I.bk) ((h2 x hn).trans hv) h) hd
theorem gj{x:Str}{v:V}{u:Value}{pos:Pos}(hg:Gl X x)(hm:X.mg x=some u)(r:aJ v u)(hd:(x == ("__debug__" : Str))=false:=by decide):PE X (.Name x pos) (tC v) :=
 fun _ _ _ H _ I h=>fm I hg hm ⟨v,H,I,r,h⟩ hd
theorem ma{x:Str}{v:V}{u:Value}{pos:Pos}(hg:Gl X x)(hm:X.mg x=none)(hv:bootBuiltins x=some u)(r:aJ v u)(hn:x ≠ "__name__" := by decide)(hd:(x == ("__debug__" : Str))=false:=by decide):PE X (.Name x pos) (tC v) :=
 fun _ _ _ H _ I h=>jW I hg hm hv ⟨v,H,I,r,h⟩ hn hd
variable {a b:Expr}{ta tb:TE}{pos:Pos}
def PC(X:Cx)(op:CmpOp)(a b:Expr)(t:TE):Prop :=
 ∀(dl:List (Addr×Obj)) (s:Shared) (σ:St) (H:Hp) (Q:VK),Inv X dl σ H s->t σ H Q ->
  wpAny (model X.prog X.w) X.A (eval a X.env) (fun v s₁=>wpAny (model X.prog X.w) X.A (eval b X.env) (fun u s₂=>wpAny (model X.prog X.w) X.A (compareOp op v u) (EP X dl σ Q) X.xe s₂) X.xe s₁) X.xe s
theorem uZ(b:Expr){op:CmpOp}(h:op ≠ .In)(h2:op ≠ .NotIn):behindInMarks op b=false:=by
 have e1:(op == CmpOp.In)=false:=by cases op <;> first |rfl |exact absurd rfl h
 have e2:(op == CmpOp.NotIn)=false:=by cases op <;> first |rfl |exact absurd rfl h2
 cases b <;> simp[behindInMarks,e1,e2]
def tB(t:TE):TT:=fun σ H Q=>t σ H fun x H1=>∃c,x=.bl c/\Q c H1
theorem ux{op:CmpOp}{t:TE}(h:PC X op a b t)(h1:behindInMarks op b=false:=by first |exact uZ _ (by decide) (by decide) |rfl):PT X (.Compare a [op] [b] pos) (tB t):=by
 intro dl s σ H Q I hw
 refine wpAny_isTrue_Compare1 (thn (h dl s σ H _ I hw) fun v s1 h1=>thn h1 fun u s2 h2=>thn h2 fun c s3 zz2_0=>?_) h1
 obtain⟨x,H1,I1,r1,q1⟩:=zz2_0
 obtain⟨d,rfl,q⟩:=q1
 cases r1
 exact DQ ⟨H1,I1,q⟩
theorem zz{e:Expr}{t:TE}(h:PE X e t)(he:∀whole,isTrue e X.env whole=(do let v <-whole;standAt e.pos;holding [v] (truthy v)):=by intro _;rfl):PT X e (tB t):=by
 intro dl s σ H Q I hw
 refine isTrue_plain (thn (h dl s σ H _ I hw) fun v s1 zz3_0=>?_) (he _)
 obtain⟨x,H1,I1,r1,q1⟩:=zz3_0
 obtain⟨d,rfl,q⟩:=q1
 cases r1
 exact DQ ⟨H1,I1,q⟩
variable {tA tB':TT}{bc:List Expr}
def Cb(t u:TT):TT:=fun σ H Q=>t σ H fun c H1=>if c=true then u σ H1 Q else Q false H1
def tOr(t u:TT):TT:=fun σ H Q=>t σ H fun c H1=>if c=true then Q true H1 else u σ H1 Q
def B6(t:TT):TT:=fun σ H Q=>t σ H fun c H1=>Q (!c) H1
theorem wP(ha:PT X a tA):PW X (.BoolOp .And [a] pos) tA:=by
 intro wh dl s σ H Q I h
 refine isTrue_and (thn (ha dl s σ H Q I h) fun c s1 e=>?_)
 cases c with
 |true=>exact isTrue_and_nil e
 |false=>exact e
theorem zx(ha:PT X a tA):PW X (.BoolOp .Or [a] pos) tA:=by
 intro wh dl s σ H Q I h
 refine isTrue_or (thn (ha dl s σ H Q I h) fun c s1 e=>?_)
 cases c with
 |false=>exact isTrue_or_nil e
 |true=>exact e
theorem zy(ha:PT X a tA)(hb:PW X (.BoolOp .And (b :: bc) pos) tB'):PW X (.BoolOp .And (a :: b :: bc) pos) (Cb tA tB'):=by
 intro wh dl s σ H Q I h
 refine isTrue_and (thn (ha dl s σ H _ I h) fun c s1 zz4_0=>?_)
 obtain⟨H1,I1,q1⟩:=zz4_0
 cases c with
 |true=>exact hb wh dl s1 σ H1 Q I1 q1
 |false=>exact⟨H1,I1,q1⟩
theorem Bi(ha:PT X a tA)(hb:PW X (.BoolOp .Or (b :: bc) pos) tB'):PW X (.BoolOp .Or (a :: b :: bc) pos) (tOr tA tB'):=by
 intro wh dl s σ H Q I h
 refine isTrue_or (thn (ha dl s σ H _ I h) fun c s1 zz5_0=>?_)
 obtain⟨H1,I1,q1⟩:=zz5_0
 cases c with
 |true=>exact⟨H1,I1,q1⟩
 |false=>exact hb wh dl s1 σ H1 Q I1 q1
theorem zA(ha:PT X a tA):PT X (.UnaryOp .Not a pos) (B6 tA):=by
 intro dl s σ H Q I h
 exact isTrue_not (ha dl s σ H (fun c H1=>Q (!c) H1) I h)
def A4(ta tb:TE):TE:=fun σ H Q=>ta σ H fun x H1=>∃c,x=.bl c/\if c=true then tb σ H1 Q else Q (.bl false) H1
def B5(ta tb:TE):TE:=fun σ H Q=>ta σ H fun x H1=>∃c,x=.bl c/\if c=true then Q (.bl true) H1 else tb σ H1 Q
def AX(ta:TE):TE:=fun σ H Q=>ta σ H fun x H1=>∃c,x=.bl c/\Q (.bl (!c)) H1
theorem zL{op}{t:TE}(h:PE X a t):PE X (.BoolOp op [a] pos) t:=fun dl s σ H Q I hw=>BoolOp_one (h dl s σ H Q I hw)
theorem zO(ha:PE X a ta)(hb:PE X (.BoolOp .And (b :: bc) pos) tb):PE X (.BoolOp .And (a :: b :: bc) pos) (A4 ta tb):=by
 intro dl s σ H Q I h
 refine BoolOp_and (thn (ha dl s σ H _ I h) fun v s1 zz6_0=>?_)
 obtain⟨x,H1,I1,r1,q1⟩:=zz6_0
 obtain⟨c,rfl,q1⟩:=q1
 cases r1
 refine DQ ?_
 cases c with
 |true=>exact hb dl s1 σ H1 Q I1 q1
 |false=>exact⟨.bl false,H1,I1,rfl,q1⟩
theorem Bn(ha:PE X a ta)(hb:PE X (.BoolOp .Or (b :: bc) pos) tb):PE X (.BoolOp .Or (a :: b :: bc) pos) (B5 ta tb):=by
 intro dl s σ H Q I h
 refine BoolOp_or (thn (ha dl s σ H _ I h) fun v s1 zz7_0=>?_)
 obtain⟨x,H1,I1,r1,q1⟩:=zz7_0
 obtain⟨c,rfl,q1⟩:=q1
 cases r1
 refine DQ ?_
 cases c with
 |false=>exact hb dl s1 σ H1 Q I1 q1
 |true=>exact⟨.bl true,H1,I1,rfl,q1⟩
theorem zM(ha:PE X a ta):PE X (.UnaryOp .Not a pos) (AX ta):=by
 intro dl s σ H Q I h
 refine UnaryOp_ (thn (ha dl s σ H _ I h) fun v s1 zz8_0=>?_)
 obtain⟨x,H1,I1,r1,q1⟩:=zz8_0
 obtain⟨c,rfl,q1⟩:=q1
 cases r1
 exact not_of (DQ ⟨.bl (!c),H1,I1,rfl,q1⟩)
end
def SqL(K:PySem.W.Frag)(H:Hp)(a:Addr)(xs:List V):Prop :=
 Rd H a (.lst xs) \/
  ∃(o:Obj) (its:Array Value) (n:Nat),K.lookup a=some o/\o.cls=.type "list"/\o.dict=none/\o.data=.seq its n/\its.size<=sizeLine/\aM xs its.toList
def SqT(K:PySem.W.Frag)(H:Hp)(a:Addr)(xs:List V):Prop :=
 Rd H a (.tup xs) \/
  ∃(o:Obj) (its:Array Value) (n:Nat),K.lookup a=some o/\o.cls=.type "tuple"/\o.data=.seq its n/\its.size<=sizeLine/\aM xs its.toList
def Ct:Value->Option V
 |.none=>some .non
 |.bool b=>some (.bl b)
 |.int i _=>some (.int i)
 |.str x _=>some (.str x)
 |.bytes b _=>some (.byt b)
 |.float b _=>some (.flt b)
 |.ref a=>some (.ref a)
 |.type n=>some (.ty n)
 |_=>none
theorem aJ.abs{x:V}{u:Value}(r:aJ x u):Ct u=some x:=by
 cases x with
 |non=>cases r;rfl
 |bl _=>cases r;rfl
 |int _=>obtain⟨t,rfl⟩:=r;rfl
 |str _=>obtain⟨t,rfl⟩:=r;rfl
 |byt _=>obtain⟨t,rfl⟩:=r;rfl
 |flt _=>obtain⟨t,rfl⟩:=r;rfl
 |ref _=>cases r;rfl
 |ty _=>cases r;rfl
theorem aJ.inj{x y:V}{u:Value}(r:aJ x u)(q:aJ y u):x=y:=CU (r.abs.symm.trans q.abs)
theorem aM.inj:∀{xs ys:List V}{us:List Value},aM xs us->aM ys us->xs=ys
 := by
  intro xs ys us h
  revert ys
  induction h with
  |nil =>
   intro ys k
   cases k
   rfl
  |cons r t ih =>
   intro ys k
   cases k with
   |cons r' t'=>rw[r.inj r',ih t']
section
variable {X:Cx}{dl:List (Addr×Obj)} {σ:St}{H:Hp}{s:Shared}{a:Addr}{xs ys:List V}
theorem SqL.of{K:PySem.W.Frag}(h:H a=some (.lst xs)):SqL K H a xs:=.inl (.inl h)
theorem SqT.of{K:PySem.W.Frag}(h:H a=some (.tup xs)):SqT K H a xs:=.inl (.inl h)
theorem Inv.list(I:Inv X dl σ H s)(h:SqL X.K H a xs):∃its:List Value,aM xs its/\PlainL s.heap a its.toArray/\xs.length<=sizeLine:=by
 rcases h with h |⟨o,its,n,hk,hc,hd,hs,hz,r⟩
 ·obtain⟨z,its,n,r,e⟩:=h.ok I.hok
  exact⟨its,r,⟨_,n,e,rfl,rfl,rfl⟩,z⟩
 ·refine⟨its.toList,r,⟨o,n,I.kIn a o hk,hc,hd,by simpa using hs⟩,?_⟩
  have e:=r.length
  simp only[DG]at e
  lia
theorem Inv.tuple(I:Inv X dl σ H s)(h:SqT X.K H a xs):∃its:List Value,aM xs its/\IsTup s.heap a its.toArray/\xs.length<=sizeLine:=by
 rcases h with h |⟨o,its,n,hk,hc,hs,hz,r⟩
 ·obtain⟨z,its,r,p⟩:=h.ok I.hok
  exact⟨its,r,p,z⟩
 ·refine⟨its.toList,r,⟨o,I.kIn a o hk,hc,n,by simpa using hs⟩,?_⟩
  have e:=r.length
  simp only[DG]at e
  lia
theorem Inv.list_inj(I:Inv X dl σ H s)(h:SqL X.K H a xs)(h':SqL X.K H a ys):xs=ys:=by
 obtain⟨its,r,⟨o,n,e,_,_,d⟩,_⟩:=I.list h
 obtain⟨its',r',⟨o',n',e',_,_,d'⟩,_⟩:=I.list h'
 rw[e]at e';cases e'
 rw[d]at d'
 injection d' with d1 _
 have:its=its':=by simpa using DK Array.toList d1
 subst this
 exact r.inj r'
theorem Inv.tuple_inj(I:Inv X dl σ H s)(h:SqT X.K H a xs)(h':SqT X.K H a ys):xs=ys:=by
 obtain⟨its,r,⟨o,e,_,n,d⟩,_⟩:=I.tuple h
 obtain⟨its',r',⟨o',e',_,n',d'⟩,_⟩:=I.tuple h'
 rw[e]at e';cases e'
 rw[d]at d'
 injection d' with d1 _
 have:its=its':=by simpa using DK Array.toList d1
 subst this
 exact r.inj r'
end
abbrev Cx.wish(X:Cx)(E:Value->Shared->Prop):Cx:={ X with xe:=E }
abbrev Cx.nox(X:Cx):Cx:=X.wish fun _ _=>False
theorem Cx.Ok.wish{X:Cx}(ok:X.Ok)(E:Value->Shared->Prop):(X.wish E).Ok :=
 ⟨ok.mod,ok.kind,ok.glob,ok.blt,ok.above,ok.inj,ok.has,ok.cab,ok.hd,ok.frames,ok.stk,ok.exf,ok.bs,ok.bsz,ok.noex,ok.exfs,ok.funs,ok.frf⟩
theorem Cx.Ok.unwish{X:Cx}{E:Value->Shared->Prop}(ok:(X.wish E).Ok):X.Ok :=
 ⟨ok.mod,ok.kind,ok.glob,ok.blt,ok.above,ok.inj,ok.has,ok.cab,ok.hd,ok.frames,ok.stk,ok.exf,ok.bs,ok.bsz,ok.noex,ok.exfs,ok.funs,ok.frf⟩
section
variable {X:Cx}{dl:List (Addr×Obj)} {σ:St}{H:Hp}{s:Shared}{E:Value->Shared->Prop}
theorem Inv.wish(I:Inv X dl σ H s)(E:Value->Shared->Prop):Inv (X.wish E) dl σ H s:=⟨I.ok.wish E,I.os,I.bare,I.base,I.loc,I.cell,I.free,I.freeC,I.pin,I.hok,I.len⟩
theorem Inv.unwish(I:Inv (X.wish E) dl σ H s):Inv X dl σ H s:=⟨I.ok.unwish,I.os,I.bare,I.base,I.loc,I.cell,I.free,I.freeC,I.pin,I.hok,I.len⟩
theorem SP.unwish{D:dh}{f:Flow}{s':Shared}(h:SP (X.wish E) dl D f s'):SP X dl D f s':=by
 cases f with
 |next=>obtain⟨σ',H',I,q⟩:=h;exact⟨σ',H',I.unwish,q⟩
 |brk=>obtain⟨σ',H',I,q⟩:=h;exact⟨σ',H',I.unwish,q⟩
 |cont=>obtain⟨σ',H',I,q⟩:=h;exact⟨σ',H',I.unwish,q⟩
 |ret u=>obtain⟨v,σ',H',I,r,q⟩:=h;exact⟨v,σ',H',I.unwish,r,q⟩
theorem PSs.nox{st:List Stmt}{t:TS}(h:PSs X.nox st t):PSs X st t:=fun dl s σ H D I hw =>
 Dc (h dl s σ H D (I.wish _) hw) (fun _ _ q=>q.unwish) fun _ _ z=>False.elim z
end
section
variable {X:Cx}{st:Stmt}{bc:List Stmt}{t u:TS}{e:Expr}{te:TE}{pos:Pos}
def AY:TS:=fun D σ H=>D.nx σ H
def AU(t u:TS):TS:=fun D σ H=>t { D with nx:=u D } σ H
theorem wT:PSs X [] AY:=fun _ _ σ H _ I h=>Ee ⟨σ,H,I,h⟩
theorem fJ(h1:PS X st t)(h2:PSs X bc u):PSs X (st :: bc) (AU t u):=by
 intro dl s σ H D I h
 refine Ft (thn (h1 dl s σ H { D with nx:=u D } I h) fun f s1 q=>?_)
 cases f with
 |next =>
  obtain⟨σ',H',I',q⟩:=q
  exact h2 dl s1 σ' H' D I' q
 |ret v=>exact q
 |brk=>exact q
 |cont=>exact q
theorem qF(h1:PS X st t):PSs X [st] t:=by
 intro dl s σ H D I h
 refine Ft (thn (h1 dl s σ H D I h) fun f s1 q=>?_)
 cases f with
 |next=>exact Ee q
 |ret v=>exact q
 |brk=>exact q
 |cont=>exact q
theorem Inv.quiet{dl:List (Addr×Obj)}{σ:St}{H:Hp}{s:Shared}(I:Inv X dl σ H s):interactive X.env=false:=by simp[interactive,I.ok.kind]
def qt(te:TE):TS:=fun D σ H=>te σ H fun _ H1=>D.nx σ H1
theorem gi(he:PE X e te)(hs:swapsWith e none pos.line X.env=pure false:=by rfl):PS X (.Expr e pos) (qt te):=by
 intro dl s σ H D I h
 exact wpAny_Expr_any (thn (he dl s σ H _ I h) fun v s1 zz9_0=>by obtain⟨x,H1,I1,r1,q1⟩:=zz9_0;exact⟨σ,H1,I1,q1⟩) I.quiet hs
def B4(te:TE):TS:=fun D σ H=>te σ H D.rt
theorem zE(he:PE X e te):PS X (.Return (some e) pos) (B4 te):=by
 intro dl s σ H D I h
 exact wpAny_Return_some (thn (he dl s σ H _ I h) fun v s1 zz10_0=>by obtain⟨x,H1,I1,r1,q1⟩:=zz10_0;exact⟨x,σ,H1,I1,r1,q1⟩)
def B9(c:TT)(t u:TS):TS:=fun D σ H=>c σ H fun b H1=>if b=true then t D σ H1 else u D σ H1
theorem Bl{c:Expr}{a b:List Stmt}{tc:TT}(hc:PT X c tc)(ha:PSs X a t)(hb:PSs X b u):PS X (.If c a b pos) (B9 tc t u):=by
 intro dl s σ H D I h
 refine wpAny_If (thn (hc dl s σ H _ I h) fun d s1 zz11_0=>?_)
 obtain⟨H1,I1,q1⟩:=zz11_0
 cases d with
 |true=>exact ha dl s1 σ H1 D I1 q1
 |false=>exact hb dl s1 σ H1 D I1 q1
def tX:TS:=fun _ _ _=>False
theorem uB:PS X st tX:=fun _ _ _ _ _ _ h=>h.elim
theorem rZ{sts:List Stmt}:PSs X sts tX:=fun _ _ _ _ _ _ h=>h.elim
end
abbrev TG:=V->St->Hp->(St->Hp->Prop)->Prop
abbrev TGs:=List V->St->Hp->(St->Hp->Prop)->Prop
def PG(X:Cx)(target:Expr)(t:TG):Prop :=
 ∀(dl:List (Addr×Obj)) (s:Shared) (σ:St) (H:Hp) (v:V) (u:Value) (Q:St->Hp->Prop),Inv X dl σ H s->aJ v u->t v σ H Q ->
  wpAny (model X.prog X.w) X.A (assign target X.env u) (fun _ s'=>∃σ' H',Inv X dl σ' H' s'/\Q σ' H') X.xe s
def PGs(X:Cx)(ts:List Expr)(t:TGs):Prop :=
 ∀(dl:List (Addr×Obj)) (s:Shared) (σ:St) (H:Hp) (vs:List V) (us:List Value) (Q:St->Hp->Prop),Inv X dl σ H s->aM vs us->t vs σ H Q ->
  wpAny (model X.prog X.w) X.A (assignInOrder ((assignEach ts X.env).map (·.2)) us) (fun _ s'=>∃σ' H',Inv X dl σ' H' s'/\Q σ' H') X.xe s
section
variable {X:Cx}{pos:Pos}
def lB(i:Nat):TG:=fun v σ H Q=>Q (σ.set i (some v)) H
theorem w_{i:Nat}{x:Str}(hN:X.N.Nodup)(hi:X.N[i]? = some x)(hx:Loc X.env.scope x)(hf:X.fn x=true\/X.env.scope.names.lookup x=some .local:=by first |exact .inl rfl |exact .inr rfl |assumption):PG X (.Name x pos) (lB i):=by
 intro dl s σ H v u Q I r h
 exact wpAny_assign_Name (eI I hN hi hx r (fun s' I'=>⟨_,H,I',h⟩) hf)
def Cp:TGs:=fun vs σ H Q=>vs=[]/\Q σ H
def BH(t:TG)(u:TGs):TGs:=fun vs σ H Q=>∃v r,vs=v :: r/\t v σ H fun σ' H'=>u r σ' H' Q
theorem w9:PGs X [] Cp:=by
 intro dl s σ H vs us Q I r h
 obtain⟨e,h⟩:=h
 subst e
 cases r
 exact assignInOrder_nil ⟨σ,H,I,h⟩
theorem uI{e:Expr}{es:List Expr}{t:TG}{u:TGs}(h1:PG X e t)(h2:PGs X es u)
  (hs:(assignEach (e :: es) X.env).map (·.2)=assign e X.env :: (assignEach es X.env).map (·.2):=by rfl):PGs X (e :: es) (BH t u):=by
 intro dl s σ H vs us Q I r h
 obtain⟨v,vr,e1,h⟩:=h
 subst e1
 cases r with
 |cons r rr =>
  rw[hs]
  refine assignInOrder_cons (thn (h1 dl s σ H _ _ _ I r h) fun _ s1 zz12_0=>?_)
  obtain⟨σ1,H1,I1,q1⟩:=zz12_0
  exact h2 dl s1 σ1 H1 _ _ Q I1 rr q1
def Co(K:PySem.W.Frag)(n:Nat)(t:TGs):TG:=fun v σ H Q=>∃a xs,v=.ref a/\SqT K H a xs/\xs.length=n/\t xs σ H Q
theorem zJ{es:List Expr}{k:Nat}{t:TGs}{n:Nat}(hc:X.calm=true)(h:PGs X es t)
  (hn:(assignEach es X.env).length=n:=by rfl) (hst:(assignEach es X.env).findIdx? (·.1)=none:=by rfl):PG X (.Tuple es k pos) (Co X.K n t):=by
 intro dl s σ H v u Q I r hw
 obtain⟨a,xs,e1,hq,hl,hw⟩:=hw
 subst e1
 cases r
 obtain⟨its,rv,ht,hz⟩:=I.tuple hq
 refine assign_Tuple_tuple (I.ok.hd hc) ht (by simp[hn,<-hl,rv.length]) hst fun h' hx=>?_
 have I1:Inv X dl σ H { s with heap:=h' }:=I.kept (t':=s.toks) fun b o e=>hx b o (C5 (CS e)) e
 exact h dl _ σ H xs _ Q I1 (by simpa using rv) hw
def t9(te:TE)(g:TG):TS:=fun D σ H=>te σ H fun x H1=>g x σ H1 D.nx
theorem zG{tg e:Expr}{te:TE}{g:TG}(he:PE X e te)(hg:PG X tg g)(hs:swapsWithSole [tg] e pos.line X.env=pure false:=by rfl)(hw:swappedStores [tg] e X.env=pure none:=by rfl)
  (h1:(assignEach [tg] X.env).map (·.2)=[assign tg X.env]:=by rfl):PS X (.Assign [tg] e pos) (t9 te g):=by
 intro dl s σ H D I h
 refine wpAny_Assign_stores (thn (he dl s σ H _ I h) fun v s1 zz13_0=>?_) hs hw
 obtain⟨x,H1,I1,r1,q1⟩:=zz13_0
 rw[h1]
 exact thn (hg dl s1 σ H1 x v _ I1 r1 q1) fun _ s2 q=>q
theorem pE{i:Nat}{x:Str}{e:Expr}{te:TE}{pos':Pos}(hN:X.N.Nodup)(hi:X.N[i]? = some x)(hx:Loc X.env.scope x)(he:PE X e te)(hs:swapsWith e (some (.Name x pos')) pos.line X.env=pure false:=by rfl)(hf:X.fn x=true\/X.env.scope.names.lookup x=some .local:=by first |exact .inl rfl |exact .inr rfl |assumption) :
  PS X (.Assign [.Name x pos'] e pos) (t9 te (lB i)):=by
 intro dl s σ H D I h
 refine wpAny_Assign_Name (thn (he dl s σ H _ I h) fun v s1 zz14_0=>?_) hs
 obtain⟨y,H1,I1,r1,q1⟩:=zz14_0
 exact eI I1 hN hi hx r1 (fun s2 I2=>⟨_,H1,I2,q1⟩) hf
end
structure It where
 go:Nat->Hp->Prop
 yld:Nat->Hp->V->Hp->Prop
 stop:Nat->Hp->Prop
def f8(X:Cx)(dl:List (Addr×Obj))(H:Hp)(b:Addr):Prop :=
 H b=none/\b ≠ X.env.locals/\b ∉ X.fs/\(b ∈ X.ex\/X.s₀.heap.objs.size<=b)/\(∀x c,X.env.cells.lookup x=some c->c ≠ b)/\∀p ∈ X.pn ++ dl,p.1 ≠ b
theorem Inv.fpOk{X:Cx}{dl:List (Addr×Obj)}{σ:St}{H H':Hp}{s:Shared}{b:Addr}(I:Inv X dl σ H s)(hb:s.heap.objs.size<=b)(hn:H' b=none):f8 X dl H' b:=by
 refine⟨hn,EV (C6 I.lt hb),I.nofs hb,.inr (CZ I.sz hb),fun x c e z=>?_,fun p hp z=>?_⟩
 ·obtain⟨v,q⟩:=I.cell x c e
  exact absurd (C6 q.lt (by rw[z];exact hb)) (D7 _)
 ·exact absurd (C6 (CS (I.pin p hp).1) (by rw[z];exact hb)) (D7 _)
structure kO (P:Program) (w:World) (K:PySem.W.Frag) (tg:Expr) (J:It) (fp:List Addr) (it:Addr) (tn:Nat->Heap->Prop):Prop where
 mem:it ∈ fp
 obj:∀i h,tn i h->∀b ∈ fp,∃o,h.get? b=some o/\∀v,o.data ≠ .cell v
 keep:∀i h h',tn i h->(∀b ∈ fp,∀o,h.get? b=some o->h'.get? b=some o)->tn i h'
 item:∀(X:Cx),X.prog=P->X.w=w->X.K=K->X.calm=true->∀(i:Nat) (dl:List (Addr×Obj)) (s:Shared) (σ:St) (H:Hp) (E:Value->Shared->Prop),Inv X dl σ H s->(∀b ∈ fp,f8 X dl H b)->tn i s.heap->J.go i H ->
  wpAny (model P w) X.A (pyNext (.ref it)) (fun r s1=>∃u,r=some u /\
   wpAny (model P w) X.A (letOwnedTupleGo tg (.ref it) u) (fun _ s2=>∃x H',Inv X dl σ H' s2/\aJ x u/\J.yld i H x H'/\tn (i + 1) s2.heap/\∀b ∈ fp,H' b=none) E s1) E s
 done:∀(X:Cx),X.prog=P->X.w=w->X.K=K->X.calm=true->∀(i:Nat) (dl:List (Addr×Obj)) (s:Shared) (σ:St) (H:Hp) (E:Value->Shared->Prop),Inv X dl σ H s->(∀b ∈ fp,f8 X dl H b)->tn i s.heap->J.stop i H ->
  wpAny (model P w) X.A (pyNext (.ref it)) (fun r s1=>r=none/\Inv X dl σ H s1) E s
 self:∀(A:Around) (i:Nat) (s:Shared) (Q:Value->Shared->Prop) (E:Value->Shared->Prop),tn i s.heap->Q (.ref it) s->wpAny (model P w) A (pyIter (.ref it)) Q E s
abbrev TI:=St->Hp->(It->Hp->Prop)->Prop
def PIE(X:Cx)(dl:List (Addr×Obj))(σ:St)(tg:Expr)(R:It->Hp->Prop)(itv:Value)(s2:Shared):Prop :=
 ∃(it:Addr) (fp:List Addr) (tn:Nat->Heap->Prop) (J:It) (H':Hp),itv=.ref it/\Inv X dl σ H' s2/\kO X.prog X.w X.K tg J fp it tn/\tn 0 s2.heap/\(∀b ∈ fp,f8 X dl H' b)/\R J H'
def PI(X:Cx)(tg mt:Expr)(wi:TI):Prop :=
 ∀(dl:List (Addr×Obj)) (s:Shared) (σ:St) (H:Hp) (R:It->Hp->Prop),Inv X dl σ H s->wi σ H R ->
  wpAny (model X.prog X.w) X.A (eval mt X.env) (fun v s1=>wpAny (model X.prog X.w) X.A (pyIter v) (PIE X dl σ tg R) X.xe s1) X.xe s
theorem qV {M:Model}{A:Around}{E:Value→Shared→Prop}{s:Shared}{tg:Expr}{it:Addr}{u:Value}{o:Obj}{n:String}{vs:Array Value}{Q:Unit→Shared→Prop} (ho:s.heap.get? it=some o) (hc:o.cls=.type n) (hd:o.data=.fields vs)
    (hn:["enumerate","zip","dict_itemiterator","dict_reverseitemiterator","odict_iterator","itertools.zip_longest","itertools.pairwise"].contains n=false) (hQ:Q () s):wpAny M A (letOwnedTupleGo tg (.ref it) u) Q E s:=by
  unfold letOwnedTupleGo
  cases tg <;> first
    |exact CP hQ
    | (cases u <;> first
        |exact CP hQ
        | (refine CN (wpAny_load ho ?_)
           rw[hc,hd]
           show wpAny M A (if(["enumerate","zip","dict_itemiterator","dict_reverseitemiterator","odict_iterator","itertools.zip_longest","itertools.pairwise"].contains n && vs[0]? == some (rawInt _))=true then _ else _) Q E s
           rw[if_neg (by intro h;rw[hn,Ef]at h;cases h)]
           exact CP hQ))
def Itl(K:PySem.W.Frag)(a:Addr):It :=
 ⟨fun i H=>∃xs x,SqL K H a xs/\xs[i]? = some x,fun i H x H'=>H'=H/\∀xs,SqL K H a xs->xs[i]? = some x,fun i H=>∃xs,SqL K H a xs/\xs.length<=i⟩
def Itt(K:PySem.W.Frag)(a:Addr):It :=
 ⟨fun i H=>∃xs x,SqT K H a xs/\xs[i]? = some x,fun i H x H'=>H'=H/\∀xs,SqT K H a xs->xs[i]? = some x,fun i H=>∃xs,SqT K H a xs/\xs.length<=i⟩
def Itr(lo:Int)(n:Nat):It:=⟨fun i _=>i < n,fun i H x H'=>H'=H/\x=.int (lo + i),fun i _=>n<=i⟩
theorem rP{P:Program}{w:World}{K:PySem.W.Frag}{tg:Expr}(a it:Addr):kO P w K tg (Itl K a) [it] it (fun i h=>h.IsListIter it a i) where
 mem:=by simp
 obj:=fun i h st b hb=>by
  have e:b=it:=by simpa using hb
  subst e
  obtain⟨o,e,c,d⟩:=st
  exact⟨o,e,fun v z=>by rw[d]at z;cases z⟩
 keep:=fun i h h' st k=>st.at fun o e=>k it (by simp) o e
 item:=by
  intro X hP hw hK hc i dl s σ H E I hf st hg
  subst hP hw hK
  obtain⟨xs,x,hq,hx⟩:=hg
  obtain⟨its,rv,p,hz⟩:=I.list hq
  obtain⟨u,hu,ru⟩:=rv.get hx
  obtain⟨f0,f1,f2,f3,f4,f5⟩:=hf it (by simp)
  refine wpAny_pyNext_list_item st p.isList (x:=u) (by simpa using hu) fun h' st' sb=>?_
  have I1:Inv X dl σ H { s with heap:=h' }:=I.turned (t':=s.toks) (fun b o hb e=>(sb.2 b hb).trans e) f0 f1 f3 f4 f5
  obtain⟨o,e,c,d⟩:=id st'
  exact⟨u,rfl,qV (s:={ s with heap:=h' }) e c d (by decide) ⟨x,H,I1,ru,⟨rfl,fun ys hy=>by rw[I.list_inj hy hq];exact hx⟩,st',fun b hb=>(hf b hb).1⟩⟩
 done:=by
  intro X hP hw hK hc i dl s σ H E I hf st hg
  subst hP hw hK
  obtain⟨xs,hq,hx⟩:=hg
  obtain⟨its,rv,p,hz⟩:=I.list hq
  obtain⟨f0,f1,f2,f3,f4,f5⟩:=hf it (by simp)
  have hl:=rv.length
  exact wpAny_pyNext_list_end (I.ok.hd hc) st p.isList (by simp;lia) fun h' eb=>⟨rfl,I.turned (t':=s.toks) (fun b o hb e=>eb b o hb e) f0 f1 f3 f4 f5⟩
 self:=fun _ _ _ _ _ st h=>wpAny_pyIter_listiter st h
theorem pc{P:Program}{w:World}{K:PySem.W.Frag}{tg:Expr}(a it:Addr):kO P w K tg (Itt K a) [it] it (fun i h=>h.IsTupleIter it a i) where
 mem:=by simp
 obj:=fun i h st b hb=>by
  have e:b=it:=by simpa using hb
  subst e
  obtain⟨o,e,c,d⟩:=st
  exact⟨o,e,fun v z=>by rw[d]at z;cases z⟩
 keep:=fun i h h' st k=>st.at fun o e=>k it (by simp) o e
 item:=by
  intro X hP hw hK hc i dl s σ H E I hf st hg
  subst hP hw hK
  obtain⟨xs,x,hq,hx⟩:=hg
  obtain⟨its,rv,p,hz⟩:=I.tuple hq
  obtain⟨u,hu,ru⟩:=rv.get hx
  obtain⟨f0,f1,f2,f3,f4,f5⟩:=hf it (by simp)
  refine wpAny_pyNext_tuple_item st (show s.heap.IsTuple a its.toArray from p) (x:=u) (by simpa using hu) fun h' st' sb=>?_
  have I1:Inv X dl σ H { s with heap:=h' }:=I.turned (t':=s.toks) (fun b o hb e=>(sb.2 b hb).trans e) f0 f1 f3 f4 f5
  obtain⟨o,e,c,d⟩:=id st'
  exact⟨u,rfl,qV (s:={ s with heap:=h' }) e c d (by decide) ⟨x,H,I1,ru,⟨rfl,fun ys hy=>by rw[I.tuple_inj hy hq];exact hx⟩,st',fun b hb=>(hf b hb).1⟩⟩
 done:=by
  intro X hP hw hK hc i dl s σ H E I hf st hg
  subst hP hw hK
  obtain⟨xs,hq,hx⟩:=hg
  obtain⟨its,rv,p,hz⟩:=I.tuple hq
  obtain⟨f0,f1,f2,f3,f4,f5⟩:=hf it (by simp)
  have hl:=rv.length
  exact wpAny_pyNext_tuple_end (I.ok.hd hc) st (show s.heap.IsTuple a its.toArray from p) (by simp;lia) fun h' eb=>⟨rfl,I.turned (t':=s.toks) (fun b o hb e=>eb b o hb e) f0 f1 f3 f4 f5⟩
 self:=fun _ _ _ _ _ st h=>wpAny_pyIter_tupleiter st h
theorem pd{P:Program}{w:World}{K:PySem.W.Frag}{tg:Expr}(it:Addr)(lo:Int)(n:Nat):kO P w K tg (Itr lo n) [it] it (fun i h=>IsRangeIter h it (lo + (i:Nat) * 1) ((n:Int) - (i:Nat)) 1) where
 mem:=by simp
 obj:=fun i h st b hb=>by
  have e:b=it:=by simpa using hb
  subst e
  exact⟨_,st,fun v z=>by
   have z':Data.fields _=Data.cell v:=z
   cases z'⟩
 keep:=fun i h h' st k=>k it (by simp) _ st
 item:=by
  intro X hP hw hK hc i dl s σ H E I hf st hg
  subst hP hw hK
  obtain⟨f0,f1,f2,f3,f4,f5⟩:=hf it (by simp)
  have W:=Walks.range (prog:=X.prog) (w:=X.w) (I.ok.hd hc) it lo 1 n
  refine W.item i s _ _ hg st fun v h' tk hv st' kk=>?_
  obtain⟨t,rfl⟩:=hv
  have I1:Inv X dl σ H { s with heap:=h',toks:=tk }:=I.turned (fun b o hb e=>kk b o (by simpa using hb) e) f0 f1 f3 f4 f5
  refine⟨_,rfl,qV (s:={ s with heap:=h',toks:=tk }) (n := "range_iterator") st' rfl rfl (by decide) ⟨.int (lo + i),H,I1,⟨t,?_⟩,⟨rfl,rfl⟩,st',fun b hb=>(hf b hb).1⟩⟩
  rw[Int.mul_one]
 done:=by
  intro X hP hw hK hc i dl s σ H E I hf st hg
  subst hP hw hK
  obtain⟨f0,f1,f2,f3,f4,f5⟩:=hf it (by simp)
  exact wpAny_pyNext_range_end (I.ok.hd hc) st (by have:n<=i:=hg;lia) fun h' eb=>⟨rfl,I.turned (t':=s.toks) (fun b o hb e=>eb b o hb e) f0 f1 f3 f4 f5⟩
 self:=fun _ _ _ _ _ st h=>wpAny_pyIter_rangeiter st h
section
variable {X:Cx}{tg:Expr}
def BE(K:PySem.W.Frag)(tl:TE):TI:=fun σ H R=>tl σ H fun x H1=>∃a,x=.ref a/\(∃xs,SqL K H1 a xs)/\R (Itl K a) H1
def Cm(K:PySem.W.Frag)(tl:TE):TI:=fun σ H R=>tl σ H fun x H1=>∃a,x=.ref a/\(∃xs,SqT K H1 a xs)/\R (Itt K a) H1
theorem w5{l:Expr}{tl:TE}(hl:PE X l tl):PI X tg l (BE X.K tl):=by
 intro dl s σ H R I h
 refine thn (hl dl s σ H _ I h) fun v s1 zz15_0=>?_
 obtain⟨x,H1,I1,r1,q1⟩:=zz15_0
 obtain⟨a,e,⟨xs,hq⟩,q⟩:=q1
 subst e
 cases r1
 obtain⟨its,rv,p,hz⟩:=I1.list hq
 refine Fj p.isList ?_
 refine⟨s1.heap.objs.size,[s1.heap.objs.size],_,_,H1,rfl,I1.kept (t':=s1.toks) fun b o e=>CO _ e,rP a _,⟨_,CT _ rfl,rfl,rfl⟩,fun b hb=>?_,q⟩
 have e:b=s1.heap.objs.size:=by simpa using hb
 subst e
 exact I1.fpOk (CV _) (I1.hok.fresh (CV _))
theorem zH{l:Expr}{tl:TE}(hl:PE X l tl):PI X tg l (Cm X.K tl):=by
 intro dl s σ H R I h
 refine thn (hl dl s σ H _ I h) fun v s1 zz16_0=>?_
 obtain⟨x,H1,I1,r1,q1⟩:=zz16_0
 obtain⟨a,e,⟨xs,hq⟩,q⟩:=q1
 subst e
 cases r1
 obtain⟨its,rv,p,hz⟩:=I1.tuple hq
 refine wpAny_pyIter_tuple (show s1.heap.IsTuple a its.toArray from p) ?_
 refine⟨s1.heap.objs.size,[s1.heap.objs.size],_,_,H1,rfl,I1.kept (t':=s1.toks) fun b o e=>CO _ e,pc a _,⟨_,CT _ rfl,rfl,rfl⟩,fun b hb=>?_,q⟩
 have e:b=s1.heap.objs.size:=by simpa using hb
 subst e
 exact I1.fpOk (CV _) (I1.hok.fresh (CV _))
theorem uv{dl:List (Addr×Obj)}{σ:St}{H:Hp}{s:Shared}{R:It->Hp->Prop}{E:Value->Shared->Prop}{lo hi:Int}{t u v:Tok}{tk:Nat}(I:Inv X dl σ H s)(h1 : -(2 ^ 62)<=lo)(h2:lo < 2 ^ 62)(h3 : -(2 ^ 62)<=hi)(h4:hi < 2 ^ 62)
  (q:R (Itr lo (hi - lo).toNat) H):wpAny (model X.prog X.w) X.A (pyIter (.ref s.heap.objs.size)) (PIE X dl σ tg R) E { s with heap:=s.heap.push { cls:=.type "range",data:=.fields #[.int lo t,.int hi u,.int 1 v] },toks:=tk }:=by
 refine wpAny_pyIter_range (IsRange.new ..) (small_one h1 h2 h3 h4) ?_
 have I1:Inv X dl σ H { s with heap:=s.heap.push { cls:=.type "range",data:=.fields #[.int lo t,.int hi u,.int 1 v] },toks:=tk }:=I.kept fun b o e=>CO _ e
 refine⟨(s.heap.push { cls:=.type "range",data:=.fields #[.int lo t,.int hi u,.int 1 v] }).objs.size,[(s.heap.push { cls:=.type "range",data:=.fields #[.int lo t,.int hi u,.int 1 v] }).objs.size],_,_,H,rfl,
  I1.kept (t':=tk) fun b o e=>CO _ e,pd _ lo (hi - lo).toNat,?_,fun b hb=>?_,q⟩
 ·have e1:lo + ((0:Nat):Int) * 1=lo:=by simp
  have e2:(((hi - lo).toNat:Nat):Int) - ((0:Nat):Int)=Builtin.Range.rangeSize lo hi 1:=by rw[rangeSize_one];split <;> lia
  show IsRangeIter _ _ (lo + ((0:Nat):Int) * 1) ((((hi - lo).toNat:Nat):Int) - ((0:Nat):Int)) 1
  rw[e1,e2]
  exact CT _ rfl
 ·have e:b=(s.heap.push { cls:=.type "range",data:=.fields #[.int lo t,.int hi u,.int 1 v] }).objs.size:=by simpa using hb
  subst e
  exact I1.fpOk (CV _) (I1.hok.fresh (CV _))
def BD(ta:TA):TI:=fun σ H R=>ta σ H fun vs H1=>∃j:Int,vs=[.int j]/\-(2 ^ 62)<=j/\j < 2 ^ 62/\R (Itr 0 j.toNat) H1
theorem r_{a:Expr}{ta:TA}{p pos:Pos}(hg:Gl X "range")(hm:X.mg "range" = none)(ha:PA X [a] ta)(hs:starEach [a] X.env=[(false,eval a X.env)]:=by rfl):PI X tg (.Call (.Name "range" p) [a] [] pos) (BD ta):=by
 intro dl s σ H R I h
 refine Call_ (jW I hg hm boot_range (EQ (thn (ha pos dl s σ H _ I h) fun us s1 zz17_0=>?_) hs rfl))
 obtain⟨vs,H1,I1,r1,q1⟩:=zz17_0
 obtain⟨j,e,q1,q2,q⟩:=q1
 subst e
 cases r1 with
 |cons r rr =>
  cases rr
  obtain⟨t,rfl⟩:=r
  exact call_range_1 (uv I1 (by lia) (by lia) q1 q2 (by simpa using q))
def B_(wi:TI)(g:TG)(tb:TS):TS:=fun D σ H=>wi σ H fun J H1=>∃W:Nat->Nat->St->Hp->Prop,(∃m,W 0 m σ H1)/\∀i m σ H,W i m σ H ->
 (J.stop i H/\D.nx σ H)\/(J.go i H/\∃N:St->Hp->Prop,(∀σ' H',N σ' H'->∃m',m' < m/\W (i + 1) m' σ' H')/\∀x H',J.yld i H x H'->g x σ H' fun σ2 H2=>tb { D with nx:=N,ct:=N,bk:=D.nx } σ2 H2)
def iC(fp:List Addr)(h:Heap):List (Addr×Obj):=fp.filterMap fun b=>(h.get? b).map fun o=>(b,o)
theorem cO{fp:List Addr}{h:Heap}{b:Addr}{o:Obj}(hb:b ∈ fp)(e:h.get? b=some o):(b,o) ∈ iC fp h:=List.mem_filterMap.mpr ⟨b,hb,by rw[e];rfl⟩
theorem sv{fp:List Addr}{h:Heap}{p:Addr×Obj}(hp:p ∈ iC fp h):p.1 ∈ fp/\h.get? p.1=some p.2:=by
 obtain⟨b,hb,e⟩:=List.mem_filterMap.mp hp
 cases q:h.get? b with
 |none=>rw[q]at e;cases e
 |some o =>
  rw[q]at e
  have e':(b,o)=p:=CU e
  subst e'
  exact⟨hb,q⟩
theorem Inv.pinned{dl:List (Addr×Obj)}{σ:St}{H:Hp}{s:Shared}{fp:List Addr}(I:Inv X dl σ H s)(hf:∀b ∈ fp,f8 X dl H b)(ho:∀b ∈ fp,∃o,s.heap.get? b=some o/\∀v,o.data ≠ .cell v):Inv X (dl ++ iC fp s.heap) σ H s :=
 I.pins_of fun p hp=>(List.mem_append.mp hp).elim (fun z=>I.pin p (C2 _ z)) fun z=>by
  obtain⟨hb,e⟩:=sv z
  obtain⟨f0,f1,f2,_⟩:=hf p.1 hb
  obtain⟨o,e',d⟩:=ho p.1 hb
  rw[e]at e';cases e'
  exact⟨e,f0,f1,f2,d⟩
theorem Inv.unpinned{dl pl:List (Addr×Obj)}{σ:St}{H:Hp}{s:Shared}(I:Inv X (dl ++ pl) σ H s):Inv X dl σ H s:=I.pins_of fun p hp=>I.pin p (C2 _ (Dg _ hp))
theorem zF{mt:Expr}{body:List Stmt}{wi:TI}{g:TG}{tb:TS}{pos:Pos}(hp:PassesOwn (model X.prog X.w) X.A X.env X.xe)(hc:X.calm=true)(hi:PI X tg mt wi)(hg:PG X tg g)(hb:PSs X body tb)
  (hs:∀x,foldedSetIterable mt X.env x=pure x:=by intro _;rfl):PS X (.For tg mt body [] pos) (B_ wi g tb):=by
 intro dl s σ H D I h
 refine wpAny_For (thn (hi dl s σ H _ I h) fun v s1 h1=>thn h1 fun itv s2 h2=>?_) hs
 obtain⟨it,fp,tn,J,H2,e,I2,T,st2,f2,W,⟨m0,w0⟩,turn⟩:=h2
 subst e
 have stat:∀{H':Hp},(∀b ∈ fp,H' b=none)->∀b ∈ fp,f8 X dl H' b:=fun hn b hb=>⟨hn b hb,(f2 b hb).2⟩
 refine codeAny_forLoop_any (fun n s'=>∃i σ' H',Inv X dl σ' H' s'/\tn i s'.heap/\(∀b ∈ fp,H' b=none)/\W i n σ' H') ?_ m0 ⟨0,σ,H2,I2,st2,fun b hb=>(f2 b hb).1,w0⟩
 rintro n s3 ⟨i,σ3,H3,I3,st3,fr3,w3⟩
 rcases turn i n σ3 H3 w3 with⟨stop,qn⟩ |⟨go,N,hN,step⟩
 ·refine DJ hp (thn (T.done X rfl rfl rfl hc i dl s3 σ3 H3 X.xe I3 (stat fr3) st3 stop) fun r s4 zz18_0=>?_)
  obtain⟨hr,I4⟩:=zz18_0
  subst hr
  exact Ee ⟨σ3,H3,I4,qn⟩
 ·refine DJ hp (thn (T.item X rfl rfl rfl hc i dl s3 σ3 H3 X.xe I3 (stat fr3) st3 go) fun r s4 zz19_0=>?_)
  obtain⟨u,hr,h4⟩:=zz19_0
  subst hr
  refine DJ hp (thn h4 fun _ s5 zz20_0=>?_)
  obtain⟨x,H5,I5,r5,y5,st5,fr5⟩:=zz20_0
  have I5':=I5.pinned (stat fr5) (T.obj _ _ st5)
  refine DJ hp (thn (hg _ s5 σ3 H5 x u _ I5' r5 (step x H5 y5)) fun _ s6 zz21_0=>?_)
  obtain⟨σ6,H6,I6,q6⟩:=zz21_0
  refine DJ hp (thn (hb _ s6 σ6 H6 _ I6 q6) fun f s7 q7=>?_)
  have again:∀{σ7:St}{H7:Hp},Inv X (dl ++ iC fp s5.heap) σ7 H7 s7->N σ7 H7->∃m,m < n/\∃i σ' H',Inv X dl σ' H' s7/\tn i s7.heap/\(∀b ∈ fp,H' b=none)/\W i m σ' H':=fun {σ7 H7} I7 n7=>by
   obtain⟨m',hm,w7⟩:=hN σ7 H7 n7
   refine⟨m',hm,i + 1,σ7,H7,I7.unpinned,T.keep _ _ _ st5 fun b hb o e=>(I7.pin (b,o) (C2 _ (C2 _ (cO hb e)))).1,fun b hb=>?_,w7⟩
   obtain⟨o,e,d⟩:=T.obj _ _ st5 b hb
   exact(I7.pin (b,o) (C2 _ (C2 _ (cO hb e)))).2.1
  cases f with
  |next=>obtain⟨σ7,H7,I7,n7⟩:=q7;exact again I7 n7
  |cont=>obtain⟨σ7,H7,I7,n7⟩:=q7;exact again I7 n7
  |brk=>obtain⟨σ7,H7,I7,q7⟩:=q7;exact⟨σ7,H7,I7.unpinned,q7⟩
  |ret v=>obtain⟨x7,σ7,H7,I7,r7,q7⟩:=q7;exact⟨x7,σ7,H7,I7.unpinned,r7,q7⟩
end
abbrev R2:=V->V->Hp->VK->Prop
def OpR(X:Cx)(f:Value->Value->Sem Value)(r:R2):Prop :=
 ∀(dl:List (Addr×Obj)) (s:Shared) (σ:St) (H:Hp) (x y:V) (v u:Value) (Q:VK),Inv X dl σ H s->aJ x v->aJ y u->r x y H Q ->
  wpAny (model X.prog X.w) X.A (f v u) (EP X dl σ Q) X.xe s
def bQ(X:Cx)(f:Value)(r:List V->Hp->VK->Prop):Prop :=
 ∀(dl:List (Addr×Obj)) (s:Shared) (σ:St) (H:Hp) (xs:List V) (us:List Value) (Q:VK),Inv X dl σ H s->aM xs us->r xs H Q ->
  wpAny (model X.prog X.w) X.A (call f us) (EP X dl σ Q) X.xe s
def tOp(r:R2)(ta tb:TE):TE:=fun σ H Q=>ta σ H fun x H1=>tb σ H1 fun y H2=>r x y H2 Q
def rI(C:Int->Int->Prop)(g:Int->Int->V):R2:=fun x y H Q=>∃i j,x=.int i/\y=.int j/\C i j/\Q (g i j) H
def rI0(g:Int->Int->V):R2:=fun x y H Q=>∃i j,x=.int i/\y=.int j/\Q (g i j) H
section
variable {X:Cx}{a b c:Expr}{ta tb tc:TE}{pos:Pos}
theorem AI(ha:PE X a ta)(hb:PE X b tb){dl:List (Addr×Obj)}{s:Shared}{σ:St}{H:Hp}{R:V->V->Hp->Prop}(I:Inv X dl σ H s)
  (h:ta σ H fun x H1=>tb σ H1 fun y H2=>R x y H2) {Q:Value->Shared->Prop}{f:Value->Value->Sem Value}
  (hf:∀v u s2 x y H2,Inv X dl σ H2 s2->aJ x v->aJ y u->R x y H2->wpAny (model X.prog X.w) X.A (f v u) Q X.xe s2) :
  wpAny (model X.prog X.w) X.A (eval a X.env) (fun v s₁=>wpAny (model X.prog X.w) X.A (eval b X.env) (fun u s₂=>wpAny (model X.prog X.w) X.A (f v u) Q X.xe s₂) X.xe s₁) X.xe s:=by
 refine thn (ha dl s σ H _ I h) fun v s1 zz22_0=>?_
 obtain⟨x,H1,I1,r1,q1⟩:=zz22_0
 refine thn (hb dl s1 σ H1 _ I1 q1) fun u s2 zz23_0=>?_
 obtain⟨y,H2,I2,r2,q2⟩:=zz23_0
 exact hf v u s2 x y H2 I2 r1 r2 q2
theorem Bo{op:Operator}{r:R2}(ho:OpR X (binaryOp op) r)(ha:PE X a ta)(hb:PE X b tb):PE X (.BinOp a op b pos) (tOp r ta tb):=by
 intro dl s σ H Q I h
 exact wpAny_BinOp (AI ha hb I h fun v u s2 x y H2 I2 rx ry q=>ho dl s2 σ H2 x y v u Q I2 rx ry q)
theorem opI{f:Value->Value->Sem Value}{C:Int->Int->Prop}{g:Int->Int->Int}
  (rule:∀(i j:Int) (t u:Tok) (s:Shared) (Q:Value->Shared->Prop) (E:Value->Shared->Prop),C i j->Q (.int (g i j) s.toks) { s with toks:=s.toks + 1 }->wpAny (model X.prog X.w) X.A (f (.int i t) (.int j u)) Q E s) :
  OpR X f (rI C fun i j=>.int (g i j)):=by
 intro dl s σ H x y v u Q I rx ry h
 obtain⟨i,j,rfl,rfl,hc,q⟩:=h
 obtain⟨t,rfl⟩:=rx
 obtain⟨t',rfl⟩:=ry
 exact rule i j t t' s _ _ hc ⟨.int (g i j),H,I.tok _,⟨_,rfl⟩,q⟩
theorem Ch{f:Value->Value->Sem Value}{g:Int->Int->Int}
  (rule:∀(i j:Int) (t u:Tok) (s:Shared) (Q:Value->Shared->Prop) (E:Value->Shared->Prop),Q (.int (g i j) s.toks) { s with toks:=s.toks + 1 }->wpAny (model X.prog X.w) X.A (f (.int i t) (.int j u)) Q E s) :
  OpR X f (rI0 fun i j=>.int (g i j)):=by
 intro dl s σ H x y v u Q I rx ry h
 obtain⟨i,j,rfl,rfl,q⟩:=h
 obtain⟨t,rfl⟩:=rx
 obtain⟨t',rfl⟩:=ry
 exact rule i j t t' s _ _ ⟨.int (g i j),H,I.tok _,⟨_,rfl⟩,q⟩
theorem zX{f:Value->Value->Sem Value}{g:Int->Int->Bool}
  (rule:∀(i j:Int) (t u:Tok) (s:Shared) (Q:Value->Shared->Prop) (E:Value->Shared->Prop),Q (.bool (g i j)) s->wpAny (model X.prog X.w) X.A (f (.int i t) (.int j u)) Q E s) :
  OpR X f (rI0 fun i j=>.bl (g i j)):=by
 intro dl s σ H x y v u Q I rx ry h
 obtain⟨i,j,rfl,rfl,q⟩:=h
 obtain⟨t,rfl⟩:=rx
 obtain⟨t',rfl⟩:=ry
 exact rule i j t t' s _ _ ⟨.bl (g i j),H,I,rfl,q⟩
def B0(i j:Int):Prop:=0<=j/\j<=1000000/\i.natAbs < 2 ^ 64
theorem zW:OpR X (binaryOp .Add) (rI0 fun i j=>.int (i + j)):=Ch fun _ _ _ _ _ _ _ q=>add_int q
theorem zS:OpR X (binaryOp .Mod) (rI (fun _ j=>0 < j) fun i j=>.int (i % j)):=opI fun i j _ _ _ _ _ hc q=>by
 have h1:(0:Int) < j:=hc
 exact mod_int' (by lia) (by rw[Int.fmod_eq_emod_of_nonneg i (by lia)];exact q)
theorem zR:OpR X (binaryOp .Pow) (rI B0 fun i j=>.int (i ^ j.toNat)):=opI fun _ _ _ _ _ _ _ hc q=>pow_int_small hc.1 hc.2.1 hc.2.2 q
end
def A7:V->V->Bool
 |.non,.non=>true |.non,.int _=>true |.int _,.non=>true |.non,.bl _=>true |.bl _,.non=>true |.non,.str _=>true |.str _,.non=>true
 |.int _,.int _=>true |.bl _,.bl _=>true |.str _,.str _=>true |.byt _,.byt _=>true
 |.int _,.str _=>true |.str _,.int _=>true |.bl _,.str _=>true |.str _,.bl _=>true
 |_,_=>false
def rEq:R2:=fun x y H Q=>A7 x y=true/\Q (.bl (decide (x=y))) H
def rNe:R2:=fun x y H Q=>A7 x y=true/\Q (.bl (!decide (x=y))) H
theorem rA{i j:Int}:decide (V.int i=V.int j)=(i == j):=by
 rw[Fp]
 simp
theorem v8{i j:Bool}:decide (V.bl i=V.bl j)=(i == j):=by
 rw[Fp]
 simp
theorem rq{i j:Str}:decide (V.str i=V.str j)=(i == j):=by
 rw[Fp]
 simp
theorem rB{i j:Array UInt8}:decide (V.byt i=V.byt j)=(i.toList == j.toList):=by
 rw[Fp]
 cases i
 cases j
 simp
section
variable {X:Cx}{a b c:Expr}{ta tb tc:TE}{pos:Pos}
theorem aQ{dl:List (Addr×Obj)}{σ:St}{H:Hp}{s:Shared}{Q:VK}{k k':Bool}(I:Inv X dl σ H s)(q:Q (.bl k) H)(e:k=k'):EP X dl σ Q (.bool k') s:=by
 subst e
 exact⟨.bl k,H,I,rfl,q⟩
theorem qI:OpR X (compareOp .Eq) rEq:=by
 intro dl s σ H x y v u Q I rx ry h
 obtain⟨hs,q⟩:=h
 cases x with
 |non =>
  cases rx
  cases y with
  |non=>cases ry;exact PySem.EqNone.eq_none_none (aQ I q (by simp))
  |bl j=>cases ry;exact PySem.EqNone.eq_none_bool (aQ I q (by simp))
  |int j=>obtain⟨t',rfl⟩:=ry;exact PySem.EqNone.eq_none_int (aQ I q (by simp))
  |str j=>obtain⟨t',rfl⟩:=ry;exact PySem.EqNone.eq_none_str (aQ I q (by simp))
  |_=>exact absurd (show false=true from hs) C3
 |bl i =>
  cases rx
  cases y with
  |non=>cases ry;exact PySem.EqNone.eq_bool_none (aQ I q (by simp))
  |bl j=>cases ry;exact eq_bool (aQ I q v8)
  |str j=>obtain⟨t',rfl⟩:=ry;exact PySem.EqMixed.eq_bool_str (aQ I q (by simp))
  |_=>exact absurd (show false=true from hs) C3
 |int i =>
  obtain⟨t,rfl⟩:=rx
  cases y with
  |non=>cases ry;exact PySem.EqNone.eq_int_none (aQ I q (by simp))
  |int j=>obtain⟨t',rfl⟩:=ry;exact eq_int (aQ I q rA)
  |str j=>obtain⟨t',rfl⟩:=ry;exact PySem.EqMixed.eq_int_str (aQ I q (by simp))
  |_=>exact absurd (show false=true from hs) C3
 |str i =>
  obtain⟨t,rfl⟩:=rx
  cases y with
  |non=>cases ry;exact PySem.EqNone.eq_str_none (aQ I q (by simp))
  |bl j=>cases ry;exact PySem.EqMixed.eq_str_bool (aQ I q (by simp))
  |int j=>obtain⟨t',rfl⟩:=ry;exact PySem.EqMixed.eq_str_int (aQ I q (by simp))
  |str j=>obtain⟨t',rfl⟩:=ry;exact eq_str (aQ I q rq)
  |_=>exact absurd (show false=true from hs) C3
 |byt i =>
  obtain⟨t,rfl⟩:=rx
  cases y with
  |byt j=>obtain⟨t',rfl⟩:=ry;exact PySem.W.eq_bytes (aQ I q rB)
  |_=>exact absurd (show false=true from hs) C3
 |_=>cases y <;> exact absurd (show false=true from hs) C3
theorem yJ:OpR X (compareOp .NotEq) rNe:=by
 intro dl s σ H x y v u Q I rx ry h
 obtain⟨hs,q⟩:=h
 cases x with
 |non =>
  cases rx
  cases y with
  |non=>cases ry;exact PySem.EqNone.ne_none_none (aQ I q (by simp))
  |bl j=>cases ry;exact PySem.EqNone.ne_none_bool (aQ I q (by simp))
  |int j=>obtain⟨t',rfl⟩:=ry;exact PySem.EqNone.ne_none_int (aQ I q (by simp))
  |str j=>obtain⟨t',rfl⟩:=ry;exact PySem.EqNone.ne_none_str (aQ I q (by simp))
  |_=>exact absurd (show false=true from hs) C3
 |bl i =>
  cases rx
  cases y with
  |non=>cases ry;exact PySem.EqNone.ne_bool_none (aQ I q (by simp))
  |bl j=>cases ry;exact ne_bool (aQ I q (DK not v8))
  |str j=>obtain⟨t',rfl⟩:=ry;exact PySem.EqMixed.ne_bool_str (aQ I q (by simp))
  |_=>exact absurd (show false=true from hs) C3
 |int i =>
  obtain⟨t,rfl⟩:=rx
  cases y with
  |non=>cases ry;exact PySem.EqNone.ne_int_none (aQ I q (by simp))
  |int j=>obtain⟨t',rfl⟩:=ry;exact ne_int (aQ I q (DK not rA))
  |str j=>obtain⟨t',rfl⟩:=ry;exact PySem.EqMixed.ne_int_str (aQ I q (by simp))
  |_=>exact absurd (show false=true from hs) C3
 |str i =>
  obtain⟨t,rfl⟩:=rx
  cases y with
  |non=>cases ry;exact PySem.EqNone.ne_str_none (aQ I q (by simp))
  |bl j=>cases ry;exact PySem.EqMixed.ne_str_bool (aQ I q (by simp))
  |int j=>obtain⟨t',rfl⟩:=ry;exact PySem.EqMixed.ne_str_int (aQ I q (by simp))
  |str j=>obtain⟨t',rfl⟩:=ry;exact ne_str (aQ I q (DK not rq))
  |_=>exact absurd (show false=true from hs) C3
 |byt i =>
  obtain⟨t,rfl⟩:=rx
  cases y with
  |byt j=>obtain⟨t',rfl⟩:=ry;exact PySem.W.ne_bytes (aQ I q (DK not rB))
  |_=>exact absurd (show false=true from hs) C3
 |_=>cases y <;> exact absurd (show false=true from hs) C3
theorem Bu:OpR X (compareOp .Lt) (rI0 fun i j=>.bl (decide (i < j))):=zX fun _ _ _ _ _ _ _ q=>lt_int q
theorem Bv:OpR X (compareOp .LtE) (rI0 fun i j=>.bl (decide (i<=j))):=zX fun _ _ _ _ _ _ _ q=>le_int q
theorem yK:OpR X (compareOp .Gt) (rI0 fun i j=>.bl (decide (j < i))):=zX fun _ _ _ _ _ _ _ q=>gt_int q
theorem si:OpR X (compareOp .Lt) (fun x y H Q=>∃i j,x=.str i/\y=.str j/\Q (.bl (decide (i.cps.toList < j.cps.toList))) H):=by
 intro dl s σ H x y v u Q I rx ry h
 obtain⟨i,j,rfl,rfl,q⟩:=h
 obtain⟨t,rfl⟩:=rx
 obtain⟨t',rfl⟩:=ry
 exact lt_str (aQ I q rfl)
theorem sk:OpR X (compareOp .In) (fun x y H Q=>∃i j,x=.str i/\y=.str j/\Q (.bl (!(Builtin.Str.occurrences j i 0 j.length 1).isEmpty)) H):=by
 intro dl s σ H x y v u Q I rx ry h
 obtain⟨i,j,rfl,rfl,q⟩:=h
 obtain⟨t,rfl⟩:=rx
 obtain⟨t',rfl⟩:=ry
 exact in_str (aQ I q rfl)
theorem zU:OpR X (compareOp .Is) (fun x y H Q=>y=.non/\Q (.bl (decide (x=.non))) H):=by
 intro dl s σ H x y v u Q I rx ry h
 obtain⟨rfl,q⟩:=h
 cases ry
 refine is_none_gen (aQ I q ?_)
 cases x <;> first
  | (cases rx;rfl)
  | (obtain⟨t,rfl⟩:=rx;rfl)
theorem xp:OpR X (compareOp .IsNot) (fun x y H Q=>y=.non/\Q (.bl (!decide (x=.non))) H):=by
 intro dl s σ H x y v u Q I rx ry h
 obtain⟨rfl,q⟩:=h
 cases ry
 refine isnot_none_gen (aQ I q ?_)
 cases x <;> first
  | (cases rx;rfl)
  | (obtain⟨t,rfl⟩:=rx;rfl)
theorem md:OpR X (compareOp .NotIn) (fun x y H Q=>∃i j,x=.str i/\y=.str j/\Q (.bl (!(!(Builtin.Str.occurrences j i 0 j.length 1).isEmpty))) H):=by
 intro dl s σ H x y v u Q I rx ry h
 obtain⟨i,j,rfl,rfl,q⟩:=h
 obtain⟨t,rfl⟩:=rx
 obtain⟨t',rfl⟩:=ry
 exact notIn_str (aQ I q rfl)
theorem OpR.or{f:Value->Value->Sem Value}{r r':R2}(h:OpR X f r)(h':OpR X f r'):OpR X f (fun x y H Q=>r x y H Q\/r' x y H Q):=by
 intro dl s σ H x y v u Q I rx ry q
 rcases q with q |q
 ·exact h dl s σ H x y v u Q I rx ry q
 ·exact h' dl s σ H x y v u Q I rx ry q
theorem dO(b:Expr){op:CmpOp}(h:op ≠ .In:=by decide)(h2:op ≠ .NotIn:=by decide):behindInMarks op b=false:=by
 have e1:(op == CmpOp.In)=false:=by cases op <;> first |rfl |exact absurd rfl h
 have e2:(op == CmpOp.NotIn)=false:=by cases op <;> first |rfl |exact absurd rfl h2
 cases b <;> simp[behindInMarks,e1,e2]
theorem xi{op:CmpOp}{r:R2}(ho:OpR X (compareOp op) r)(ha:PE X a ta)(hb:PE X b tb)(hm:behindInMarks op b=false):PE X (.Compare a [op] [b] pos) (tOp r ta tb):=by
 intro dl s σ H Q I h
 exact wpAny_Compare1 (AI ha hb I h fun v u s2 x y H2 I2 rx ry q=>ho dl s2 σ H2 x y v u Q I2 rx ry q) hm
def AT(t:TE):TT:=fun σ H Q=>t σ H fun x H'=>∃k,x=.bl k/\Q k H'
theorem g_{op:CmpOp}{r:R2}(ho:OpR X (compareOp op) r)(ha:PE X a ta)(hb:PE X b tb)(hm:behindInMarks op b=false):PT X (.Compare a [op] [b] pos) (AT (tOp r ta tb)):=by
 intro dl s σ H Q I h
 refine wpAny_isTrue_Compare1 (thn (ha dl s σ H _ I h) fun v s1 ⟨x,H1,I1,r1,q1⟩=>thn (hb dl s1 σ H1 _ I1 q1) fun u s2 ⟨y,H2,I2,r2,q2⟩ =>
  thn (ho dl s2 σ H2 x y v u _ I2 r1 r2 q2) fun c s3 ⟨z,H3,I3,r3,k,e,q3⟩=>?_) hm
 subst e
 cases r3
 exact DQ ⟨H3,I3,q3⟩
def tZ(r r':R2)(ta tb tc:TE):TE:=fun σ H Q=>ta σ H fun x H1=>tb σ H1 fun y H2=>r x y H2 fun z H3=>∃k,z=.bl k /\
 (if k=true then tc σ H3 fun w' H4=>r' y w' H4 Q else Q (.bl false) H3)
theorem uP{op op':CmpOp}{r r':R2}(ho:OpR X (compareOp op) r)(ho':OpR X (compareOp op') r')(ha:PE X a ta)(hb:PE X b tb)(hc:PE X c tc)
  (hm:lastMarks [op,op'] [b,c]=false:=by with_unfolding_all rfl):PE X (.Compare a [op,op'] [b,c] pos) (tZ r r' ta tb tc):=by
 intro dl s σ H Q I h
 refine Compare_chain (thn (ha dl s σ H _ I h) fun v s1 ⟨x,H1,I1,r1,q1⟩=>chain_link (thn (hb dl s1 σ H1 _ I1 q1) fun u s2 ⟨y,H2,I2,r2,q2⟩ =>
  thn (ho dl s2 σ H2 x y v u _ I2 r1 r2 q2) fun d s3 ⟨z,H3,I3,r3,k,e,q3⟩=>?_)) hm
 subst e
 cases r3
 refine DQ ?_
 cases k with
 |false=>exact ite_ff ⟨.bl false,H3,I3,rfl,q3⟩
 |true=>exact ite_tt (chain_last (thn (hc dl s3 σ H3 _ I3 q3) fun w' s4 zz30_0=>by obtain⟨z',H4,I4,r4,q4⟩:=zz30_0;exact ho' dl s4 σ H4 y z' u w' Q I4 r2 r4 q4))
theorem ml:(sizeLine:Nat) < 2 ^ 63:=by rw[EA];decide
theorem pJ:OpR X (binaryOp .Add) (fun x y H Q=>∃i j,x=.str i/\y=.str j/\i.length + j.length<=sizeLine/\Q (.str (i ++ j)) H):=by
 intro dl s σ H x y v u Q I rx ry h
 obtain⟨i,j,rfl,rfl,hz,q⟩:=h
 obtain⟨t,rfl⟩:=rx
 obtain⟨t',rfl⟩:=ry
 exact add_str (fun t' tk=>⟨.str (i ++ j),H,I.tok _,⟨_,rfl⟩,q⟩) hz
theorem gE{x:V}{us:List Value}(r:aM [x] us):∃u,us=[u]/\aJ x u:=by
 cases r with
 |cons r1 r2=>cases r2;exact⟨_,rfl,r1⟩
theorem AO{x y:V}{us:List Value}(r:aM [x,y] us):∃u w',us=[u,w']/\aJ x u/\aJ y w':=by
 cases r with
 |cons r1 r2 =>
  cases r2 with
  |cons r3 r4=>cases r4;exact⟨_,_,rfl,r1,r3⟩
def AL(K:PySem.W.Frag)(x:V)(H:Hp)(n:Nat):Prop :=
 match x with
 |.str y=>y.length<=sizeLine/\n=y.length
 |.byt y=>y.size<=sizeLine/\n=y.size
 |.ref p=>(∃xs,SqL K H p xs/\n=xs.length)\/∃xs,SqT K H p xs/\n=xs.length
 |_=>False
theorem wc:bQ X (.builtin "len") (fun xs H Q=>∃x n,xs=[x]/\AL X.K x H n/\Q (.int n) H):=by
 intro dl s σ H xs us Q I r h
 obtain⟨x,n,rfl,e,q⟩:=h
 obtain⟨u,rfl,rx⟩:=gE r
 have hl:=ml
 have hs:sizeLine=16777216:=EA
 cases x with
 |str y =>
  obtain⟨t,rfl⟩:=rx
  obtain⟨hy,e'⟩:y.length<=sizeLine/\n=y.length:=e
  subst e'
  exact len_str (by lia) ⟨.int _,H,I.tok _,⟨_,rfl⟩,q⟩
 |byt y =>
  obtain⟨t,rfl⟩:=rx
  obtain⟨hy,e'⟩:y.size<=sizeLine/\n=y.size:=e
  subst e'
  exact PySem.W.len_bytes (by lia) ⟨.int _,H,I.tok _,⟨_,rfl⟩,q⟩
 |ref p =>
  cases rx
  have e':(∃xs,SqL X.K H p xs/\n=xs.length)\/∃xs,SqT X.K H p xs/\n=xs.length:=e
  rcases e' with⟨xs,hx,e'⟩ |⟨xs,hx,e'⟩
  ·subst e'
   obtain⟨its,r',pl,hz⟩:=I.list hx
   have Cl:=r'.length
   exact Calls.call_len_list pl.isList (by simp only[C4];lia) ⟨.int xs.length,H,I.tok _,⟨_,by simp only[C4];rw[Cl]⟩,q⟩
  ·subst e'
   obtain⟨its,r',pl,hz⟩:=I.tuple hx
   have Cl:=r'.length
   exact len_tuple pl (by simp only[C4];lia) ⟨.int xs.length,H,I.tok _,⟨_,by simp only[C4];rw[Cl]⟩,q⟩
 |_=>exact(show False from e).elim
end
structure AK (h:Heap) (x dx C:Addr) (mA:Str->Option Value):Prop where
 obj:h.get? x=some (PySem.W.instObj C dx)
 ns:h.Ns1 dx mA
 ne:dx ≠ x
theorem sG{h:Heap}{dx:Addr}{mA:Str->Option Value}(n:h.Ns1 dx mA):∃od,h.get? dx=some od/\∀name,PySem.W.lookIn name od=some (mA name):=by
 obtain⟨o,es,ep,ho,hd,hk,_,hm⟩:=n
 refine⟨o,ho,fun name=>?_⟩
 have e:=hm name
 unfold nsFind findBy at e
 rw[<-FE]at e
 unfold PySem.W.lookIn
 rw[hd]
 dsimp only
 split
 ·rename_i y q
  rw[q]at e
  exact DK some e
 ·rename_i q
  rw[q]at e
  have a:es.toList.any (·.refKey)=false:=by
   rw[List.any_eq_false]
   intro y hy
   obtain⟨z,t,Ga⟩:=hk y (Array.mem_toList_iff.mp hy)
   simp[DictEntry.refKey,Ga]
  have a':¬es.toList.any (·.refKey)=true:=by rw[a];exact C3
  rw[if_neg a']
  exact DK some e
theorem AK.look{h:Heap}{x dx C:Addr}{mA:Str->Option Value}(I:AK h x dx C mA):∃od,PySem.W.InstAt h x (PySem.W.instObj C dx) C (some od)/\∀name,PySem.W.lookIn name od=some (mA name) :=
 let ⟨od,ho,hl⟩:=sG I.ns
 ⟨od,⟨I.obj,rfl,rfl,ho⟩,hl⟩
theorem d6.some_of{v:V}{o:Option Value}(r:d6 (some v) o):∃u,o=some u/\aJ v u:=by
 cases o with
 |none=>exact(show False from r).elim
 |some u=>exact⟨u,rfl,r⟩
theorem d6.none_of{o:Option Value}(r:d6 none o):o=none:=by
 cases o with
 |none=>rfl
 |some u=>exact(show False from r).elim
theorem sT{v:V}{u:Value}(r:aJ v u):PySem.W.handedIn u=true:=by
 cases v with
 |non=>cases(show u=Value.none from r);rfl
 |bl b=>cases(show u=Value.bool b from r);rfl
 |int i=>obtain⟨t,e⟩:=(show ∃t,u=Value.int i t from r);cases e;rfl
 |str x=>obtain⟨t,e⟩:=(show ∃t,u=Value.str x t from r);cases e;rfl
 |byt b=>obtain⟨t,e⟩:=(show ∃t,u=Value.bytes b t from r);cases e;rfl
 |flt b=>obtain⟨t,e⟩:=(show ∃t,u=Value.float b t from r);cases e;rfl
 |ref a=>cases(show u=Value.ref a from r);rfl
 |ty n=>cases(show u=Value.type n from r);rfl
section
variable {P:Program}{w:World}{H H':Hp}{h h':Heap}{a C dx:Addr}{fs fs':List (Str×V)}
theorem xO(hok:HOk P w H h)(e:H a=some (.ins C dx fs)):∃mA,AK h a dx C mA/\(∀f,d6 (fs.lookup f) (mA f))/\PySem.Within mA (fs.map (·.1))/\fs.length<=1000/\H dx=some (.own a):=by
 obtain⟨d,z,ne,ob,mA,n,r,q⟩:=(show bw P w H h a (.ins C dx fs) from hok a _ e)
 exact⟨mA,⟨ob,n,ne⟩,r,q,z,d⟩
end
structure Cls (K:PySem.W.Frag) (C:Addr):Prop where
 pg:PySem.W.plainGet K C Str.empty=true
 hd:PySem.W.hasDictIn K C=true
 po:PySem.W.plainOver K C=true
 sa:PySem.W.findIn K (.ref C) "__setattr__" = some (some (.builtin "object.__setattr__"))
theorem Cls.get{K:PySem.W.Frag}{C:Addr}(c:Cls K C)(f:Str):PySem.W.plainGet K C f=true:=c.pg
section
variable {X:Cx}{dl:List (Addr×Obj)} {σ:St}{H:Hp}{s:Shared}{a C dx:Addr}{fs:List (Str×V)} {f:Str}{v:V}{A:Around}{E:Value->Shared->Prop}
theorem yq{prog:Program}{w:World}{env:Env}{e:Expr}{f:Str}{pos:Pos}{s:Shared}{Q:Value->Shared->Prop}(hb:attributeBase e f env (eval e env)=eval e env)
  (h:wpAny (model prog w) A (eval e env) (fun o s₁=>wpAny (model prog w) A (getAttr o f true) Q E s₁) E s):wpAny (model prog w) A (eval (.Attribute e f pos) env) Q E s :=
 Attribute_any_ h (by rw[arm_eval_Attribute,hb])
end
section
variable {X:Cx}{dl:List (Addr×Obj)} {σ:St}{H:Hp}{s:Shared}{A:Around}{E:Value->Shared->Prop}{Q:Value->Shared->Prop}{c:Value}{b:Bool}
inductive gD (K:PySem.W.Frag) (H:Hp):V->Value->Prop where
 |non:gD K H .non (.type "NoneType")
 |bl (x:Bool):gD K H (.bl x) (.type "bool")
 |int (i:Int):gD K H (.int i) (.type "int")
 |str (x:Str):gD K H (.str x) (.type "str")
 |flt (x:UInt64):gD K H (.flt x) (.type "float")
 |lst {a:Addr}{xs:List V} (e:H a=some (.lst xs)):gD K H (.ref a) (.type "list")
 |frz {a:Addr}{o:Obj}{xs:List V} (e:H a=some (.frz o (.lst xs))):gD K H (.ref a) (.type "list")
 |tup {a:Addr}{xs:List V} (e:H a=some (.tup xs)):gD K H (.ref a) (.type "tuple")
 |dK {a:Addr}{kvs:List (Key×V)} (e:H a=some (.dK kvs)):gD K H (.ref a) (.type "dict")
 |dT {a:Addr}{kvs:List (List Key×V)} (e:H a=some (.dT kvs)):gD K H (.ref a) (.type "dict")
 |frzX {a:Addr}{o:Obj} (e:H a=some (.frz o ic)) (hx:o.ExactDict):gD K H (.ref a) (.type "dict")
 |frzD {a:Addr}{o:Obj}{kvs:List (Key×V)} (e:H a=some (.frz o (.dK kvs))):gD K H (.ref a) (.type "dict")
 |ins {a C dx:Addr}{fs:List (Str×V)} (e:H a=some (.ins C dx fs)) (cl:Cls K C) (ha:PySem.W.findIn K (.ref C) "__class__" = some (some (.builtin "object.__class__")))
   (hn:PySem.W.specialIn K (.builtin "object.__class__") "__get__" = some (some (.builtin "getset_descriptor.__get__"))) (htk:PySem.W.takesIn K (.builtin "object.__class__")=some true)
   (hm:PySem.W.mroIn K C (.type "object")=some true):gD K H (.ref a) (.ref C)
theorem sP{x:V}{u t:Value}(I:Inv X dl σ H s)(rx:aJ x u)(ty:gD X.K H x t)(e:PySem.W.kitOne X.K t c=some b)(h:∀tk,Q (.bool b) { s with toks:=tk }) :
  wpAny (model X.prog X.w) A (call (.builtin "isinstance") [u,c]) Q E s:=by
 cases ty with
 |non=>cases(show u=Value.none from rx);exact Dl PySem.W.kitx_none I.kIn True.intro e (fun z=>nomatch z) h
 |bl y=>cases(show u=Value.bool y from rx);exact Dl PySem.W.kitx_bool I.kIn True.intro e (fun z=>nomatch z) h
 |int i=>obtain⟨t,q⟩:=(show ∃t,u=Value.int i t from rx);cases q;exact Dl PySem.W.kitx_int I.kIn True.intro e (fun z=>nomatch z) h
 |str y=>obtain⟨t,q⟩:=(show ∃t,u=Value.str y t from rx);cases q;exact Dl PySem.W.kitx_str I.kIn True.intro e (fun z=>nomatch z) h
 |flt y=>obtain⟨t,q⟩:=(show ∃t,u=Value.float y t from rx);cases q;exact Dl PySem.W.kitx_float I.kIn True.intro e (fun z=>nomatch z) h
 |@lst a xs ea =>
  cases(show u=Value.ref a from rx)
  obtain⟨_,_,n,_,h1⟩:=(show bw X.prog X.w H s.heap a (.lst xs) from I.hok a _ ea)
  exact Dl PySem.W.kitx_list I.kIn ⟨_,h1,rfl⟩ e (fun z=>nomatch z) h
 |@frz a ob xs ea =>
  cases(show u=Value.ref a from rx)
  obtain⟨_,_,_,n,_,h1⟩:=(show bw X.prog X.w H s.heap a (.frz ob (.lst xs)) from I.hok a _ ea)
  exact Dl PySem.W.kitx_list I.kIn ⟨_,h1,rfl⟩ e (fun z=>nomatch z) h
 |@tup a xs ea =>
  cases(show u=Value.ref a from rx)
  obtain⟨_,_,_,p⟩:=(show bw X.prog X.w H s.heap a (.tup xs) from I.hok a _ ea)
  obtain⟨o,h1,h2,_⟩:=p
  exact Dl PySem.W.kitx_tuple I.kIn ⟨o,h1,h2⟩ e (fun z=>nomatch z) h
 |@dK a kvs ea =>
  cases(show u=Value.ref a from rx)
  obtain⟨_,_,vs,_,p⟩:=(show bw X.prog X.w H s.heap a (.dK kvs) from I.hok a _ ea)
  obtain⟨o,es,ep,h1,h2,_⟩:=p
  exact Dl E7 I.kIn ⟨o,h1,h2.1⟩ e (fun z=>nomatch z) h
 |@frzX a ob ea hx =>
  cases(show u=Value.ref a from rx)
  obtain⟨h1,_⟩:=(show bw X.prog X.w H s.heap a (.frz ob ic) from I.hok a _ ea)
  exact Dl E7 I.kIn ⟨ob,h1,hx.1⟩ e (fun z=>nomatch z) h
 |@frzD a ob kvs ea =>
  cases(show u=Value.ref a from rx)
  obtain⟨_,_,_,vs,_,p⟩:=(show bw X.prog X.w H s.heap a (.frz ob (.dK kvs)) from I.hok a _ ea)
  obtain⟨o,es,ep,h1,h2,_⟩:=p
  exact Dl E7 I.kIn ⟨o,h1,h2.1⟩ e (fun z=>nomatch z) h
 |@dT a kvs ea =>
  cases(show u=Value.ref a from rx)
  obtain⟨_,_,xs,_,o,es,ep,h1,h2,_⟩:=(show bw X.prog X.w H s.heap a (.dT kvs) from I.hok a _ ea)
  exact Dl E7 I.kIn ⟨o,h1,h2.1⟩ e (fun z=>nomatch z) h
 |@ins a C dx fs ea cl ha hn htk hm =>
  cases(show u=Value.ref a from rx)
  obtain⟨mA,O,_⟩:=xO I.hok ea
  obtain⟨od,J,_⟩:=O.look
  exact Dl (PySem.W.kitx_own (cl.get _) cl.hd ha hn htk hm) I.kIn J e (fun z=>nomatch z) h
end
structure ca (k:Nat) (A:Around):Prop where
 hd:A.handled=none
 dp:A.depth + 3 * k + 5 < recursionLimit
 un:A.units + 16 * k + 200 < cLine
theorem ca.mono{j k:Nat}{A:Around}(r:ca k A)(h:j<=k):ca j A:=⟨r.hd,by have:=r.dp;lia,by have:=r.un;lia⟩
theorem ca.deeper{k:Nat}{A:Around}(r:ca (k + 1) A)(env:Env):ca k (A.deeper env) :=
 ⟨r.hd,by have:=r.dp;show A.depth + 1 + 3 * k + 5 < _;lia,by have:=r.un;show A.units + 3 + 16 * k + 200 < _;lia⟩
theorem pO{A:Around}{C:Addr}{us:List Value}{kw:List (Str×Value)}:(A.under (.builtin "type.__call__" ⟨.ref C :: us,kw⟩)).depth=A.depth + 1:=by
 first |rfl |simp[Around.under,Code.weight,Code.isCreation,Code.isGuard,Code.isCaller,Code.frames,Code.isFrame,guardIds]
theorem pN{A:Around}{C:Addr}{us:List Value}{kw:List (Str×Value)}:(A.under (.builtin "type.__call__" ⟨.ref C :: us,kw⟩)).units=A.units + 1:=by
 first |rfl |simp[Around.under,Code.cUnits,Code.frames,Code.isFrame]
theorem ca.make{k:Nat}{A:Around}(r:ca (k + 1) A)(C:Addr)(us:List Value)(kw:List (Str×Value)):ca k (A.under (.builtin "type.__call__" ⟨.ref C :: us,kw⟩)) :=
 ⟨r.hd,by have:=r.dp;rw[pO];lia,by have:=r.un;rw[pN];lia⟩
theorem ca.depth{k:Nat}{A:Around}(r:ca k A):A.depth < recursionLimit:=by have:=r.dp;lia
theorem ca.units{k:Nat}{A:Around}(r:ca k A):A.units + 64 < cLine:=by have:=r.un;lia
def tW:TA:=fun _ H Q=>Q [] H
def nh(ta:TE)(tr:TA):TA:=fun σ H Q=>ta σ H fun x H1=>tr σ H1 fun xs H2=>Q (x :: xs) H2
section
variable {X:Cx}{e:Expr}{es:List Expr}{te:TE}{t:TA}{pos:Pos}
theorem cE:PA X [] tW:=fun _ _ _ _ H Q I h=>Calls.spliced_nil ⟨[],H,I,.nil,h⟩
theorem bj(ha:PE X e te)(hr:PA X es t)(hs:starEach (e :: es) X.env=(false,eval e X.env) :: starEach es X.env:=by rfl):PA X (e :: es) (nh te t):=by
 intro pos dl s σ H Q I h
 rw[hs]
 show wpAny _ _ (spliced ((false,eval e X.env) :: backTo pos (starEach es X.env))) _ _ s
 refine FL (thn (ha dl s σ H _ I h) fun u s1 zz31_0=>?_)
 obtain⟨x,H1,I1,r1,q1⟩:=zz31_0
 exact thn (hr pos dl s1 σ H1 _ I1 q1) fun us s2 zz32_0=>by obtain⟨xs,H2,I2,r2,q2⟩:=zz32_0;exact⟨x :: xs,H2,I2,.cons r1 r2,q2⟩
def B3(t:TA):TE:=fun σ H Q=>t σ H fun xs H1=>xs.length<=sizeLine/\∀p,H1 p=none->Q (.ref p) (upd H1 p (.tup xs))
def B7(t:TA):TE:=fun σ H Q=>t σ H fun xs H1=>xs.length<=sizeLine/\∀p,H1 p=none->Q (.ref p) (upd H1 p (.lst xs))
theorem uJ{x1}(h:PA X es t):PE X (.Tuple es x1 pos) (B3 t):=by
 intro dl s σ H Q I hq
 refine wpAny_Tuple_spliced (thn (h pos dl s σ H _ I hq) fun us s1 ⟨xs,H1,I1,r,z,q⟩=>⟨by rw[<-r.length];exact z,?_⟩)
 have hf:H1 s1.heap.objs.size=none:=I1.hok.fresh (CV _)
 refine⟨.ref s1.heap.objs.size,upd H1 s1.heap.objs.size (.tup xs),I1.laid (t':=s1.toks) (fun b u e=>CO _ e) (CV _) ?_,rfl,q _ hf⟩
 exact⟨z,us,r,⟨_,CT _ rfl,rfl,_,rfl⟩⟩
theorem uL(h:PA X es t):PE X (.List es pos) (B7 t):=by
 intro dl s σ H Q I hq
 refine wpAny_List_spliced (thn (h pos dl s σ H _ I hq) fun us s1 ⟨xs,H1,I1,r,z,q⟩=>⟨by rw[<-r.length];exact z,?_⟩)
 have hf:H1 s1.heap.objs.size=none:=I1.hok.fresh (CV _)
 refine⟨.ref s1.heap.objs.size,upd H1 s1.heap.objs.size (.lst xs),I1.laid (t':=s1.toks) (fun b u e=>CO _ e) (CV _) ?_,rfl,q _ hf⟩
 exact⟨z,us,0,r,CT _ rfl⟩
end
abbrev Sp:=List V->Hp->VK->XK->Prop
abbrev CXT:=List Env->Hp->Shared->XK->Value->Shared->Prop
structure qj (P:Program) (w:World) (K:PySem.W.Frag) (mg:Str->Option Value) (base:Heap) (A:Around) (outer:List Env) (s:Shared) (H:Hp):Prop where
 frames:A.frames=some outer
 mod:Mod K mg base
 bs:∀b o,base.get? b=some o->s.heap.get? b=some o/\H b=none
 bsz:base.objs.size<=s.heap.objs.size
 funs:s.heap.FunFrames base outer
 frf:∀b ∈ frs outer,H b=none
 hok:HOk P w H s.heap
 bare:AllBare s.gens
def CE(outer:List Env)(P:Program)(w:World)(H:Hp)(s:Shared)(Q:VK)(u:Value)(s':Shared):Prop :=
 ∃v H',s'.os=s.os/\AllBare s'.gens/\Un (frs outer) [] H H' s.heap s'.heap/\HOk P w H' s'.heap/\aJ v u/\Q v H'
def CR(CX:CXT)(outer:List Env)(P:Program)(w:World)(H:Hp)(s:Shared)(Q:VK)(E:XK)(r:Result)(s':Shared):Prop :=
 match r with
 |.ok (.ret u)=>CE outer P w H s Q u s'
 |.ok _=>False
 |.error e=>CX outer H s E e s'
structure a9 (P:Program) (w:World) (K:PySem.W.Frag) (mg:Str->Option Value) (base:Heap) (CX:CXT) (k:Nat) (f:Addr) (fd:FuncData) (ps:List Str) (sp:Sp):Prop where
 len:∀vs H Q E,sp vs H Q E->vs.length=ps.length
 run:∀(A:Around) (outer:List Env) (s:Shared) (H:Hp) (args:Args) (us:List Value) (vs:List V) (Q:VK) (E:XK),ca k A->qj P w K mg base A outer s H->BindsTo s fd args (ps.zip us)->aM vs us->sp vs H Q E ->
  codeAny (model P w) A (.call (.ref f) args) (CR CX outer P w H s Q E) s
theorem qj.make{P:Program}{w:World}{K:PySem.W.Frag}{mg:Str->Option Value}{base:Heap}{A:Around}{outer:List Env}{s:Shared}{H:Hp}(e:qj P w K mg base A outer s H)(C:Addr)(us:List Value)(kw:List (Str×Value)) :
  qj P w K mg base (A.under (.builtin "type.__call__" ⟨.ref C :: us,kw⟩)) outer s H:=⟨by first |exact e.frames | (simpa[Around.under,Code.envs,Code.isFrame,pushEnvs] using e.frames),e.mod,e.bs,e.bsz,e.funs,e.frf,e.hok,e.bare⟩
section
variable {X:Cx}{dl:List (Addr×Obj)} {σ:St}{H:Hp}{s s':Shared}
theorem Inv.env0(I:Inv X dl σ H s):qj X.prog X.w X.K X.mg X.base X.A X.stack s H :=
 ⟨I.ok.frames,I.ok.mod,I.bs,CZ I.ok.bsz I.sz,I.stack,I.stkFree,I.hok,I.bare⟩
theorem Inv.after{Q:VK}{u:Value}(I:Inv X dl σ H s)(h:CE X.stack X.prog X.w H s Q u s'):EP X dl σ Q u s':=by
 obtain⟨v,H',os,bare,un,hok,r,q⟩:=h
 obtain⟨hh,g,d,t,os'⟩:=s'
 obtain rfl:os'=s.os:=os
 exact⟨v,H',I.call (h':=hh) (g':=g) (d':=d) (t':=t) (ch:=[]) un hok bare (fun b z=>absurd z (by simp)),r,q⟩
end
def A3(sp:Sp)(dvs:List V)(E:XK)(t:TA):TE:=fun σ H Q=>t σ H fun vs H1=>sp (vs ++ dvs) H1 Q E
def eW(K:PySem.W.Frag)(fd:FuncData)(ps:List Str)(ds:List Value):Prop :=
 ∀(s:Shared) (us:List Value),K.In s.heap->(us ++ ds).length=ps.length->BindsTo s fd ⟨us,[]⟩ (ps.zip (us ++ ds))
theorem eW.all{K:PySem.W.Frag}{fd:FuncData}{ps:List Str}(h:∀us:List Value,us.length=ps.length->bindArgs fd ⟨us,[]⟩=pure (ps.zip us)):eW K fd ps []:=fun s us _ hl=>by
 rw[DI]at hl ⊢
 exact .of_eq (h us hl)
def qh(CX:CXT)(X:Cx)(E:XK):Prop:=∀(dl:List (Addr×Obj)) (σ:St) (H:Hp) (s:Shared) (e:Value) (s':Shared),Inv X dl σ H s->CX X.stack H s E e s'->X.xe e s'
section
variable {X:Cx}{CX:CXT}{k:Nat}{f C:Addr}{fd:FuncData}{ps:List Str}{sp:Sp}{dvs:List V}{ds:List Value}{E:XK}{x m:Str}{p pos apos:Pos}{e o:Expr}{es:List Expr}{ta:TE}{t:TA}
theorem zj{dl:List (Addr×Obj)}{σ:St}{H:Hp}{s:Shared}{Q:VK}{us:List Value}{vs:List V}(F:a9 X.prog X.w X.K X.mg X.base CX k f fd ps sp)(hr:ca k X.A)(hb:eW X.K fd ps ds)(hd:aM dvs ds)(hx:qh CX X E)
  (I:Inv X dl σ H s) (r:aM vs us) (h:sp (vs ++ dvs) H Q E):wpAny (model X.prog X.w) X.A (call (.ref f) us) (EP X dl σ Q) X.xe s:=by
 have r2:aM (vs ++ dvs) (us ++ ds):=r.append hd
 have hl:(us ++ ds).length=ps.length:=by rw[<-r2.length];exact F.len _ _ _ _ h
 refine FF (EO (F.run X.A X.stack s H ⟨us,[]⟩ (us ++ ds) (vs ++ dvs) Q E hr I.env0 (hb s us I.kIn hl) r2 h) fun r s' hq=>?_)
 cases r with
 |error e=>exact hx dl σ H s e s' I hq
 |ok fl =>
  cases fl with
  |ret u=>exact I.after hq
  |next=>exact False.elim hq
  |brk=>exact False.elim hq
  |cont=>exact False.elim hq
theorem xj(F:a9 X.prog X.w X.K X.mg X.base CX k f fd ps sp)(hr:ca k X.A)(hg:Gl X x)(hm:X.mg x=some (.ref f))(hk:PySem.W.keepIn X.K (.ref f)=true)(hb:eW X.K fd ps ds)(hd:aM dvs ds)(hx:qh CX X E)
  (ha:PA X (e :: es) t) (hdb:(x == ("__debug__" : Str))=false:=by decide) (he:starEach (e :: es) X.env=(false,eval e X.env) :: starEach es X.env:=by rfl) (hpl:(backTo pos (starEach es X.env)).any (·.1)=false:=by rfl) :
  PE X (.Call (.Name x p) (e :: es) [] pos) (A3 sp dvs E t):=by
 intro dl s σ H Q I h
 refine Eb (fm I hg hm ?_ hdb)
 refine Fz (h₀:=X.base) I.ok.mod.kin hk (thn (ha pos dl s σ H _ I h) fun us s1 ⟨vs,H1,I1,r,q⟩=>⟨I1.kIn,?_⟩) he hpl
 exact zj F hr hb hd hx I1 r q
end
structure aS (N P:List Str) (sc:Scope):Prop where
 kind:sc.kind=.function
 co:sc.isCoroutine=false
 gen:sc.isGenerator=false
 nd:N.Nodup
 pre:N.take P.length=P
 par:∀x ∈ P,sc.names.lookup x=some .local\/sc.names.lookup x=some .cell
 nofree:∀y ∈ sc.names,y.2 ≠ .free
theorem lR{kindOf:Str->Option NameKind}{x:Str}:∀{binds:List (Str×Value)} {m:Str->Option Value},(∀v,(x,v) ∉ binds)->bindL kindOf binds m x=m x
 | [],_,_=>rfl
 | (n,v) :: r,m,h=>by
  unfold bindL
  rw[lR fun w hw=>h w (CY _ hw)]
  split
  ·have:x ≠ n:=by rintro rfl;exact h v C1
   simp[this]
  ·rfl
theorem lT{kindOf:Str->Option NameKind}{x:Str}:∀{binds:List (Str×Value)} {m:Str->Option Value},(∀v,(x,v) ∉ binds)->bindC kindOf binds m x=m x
 | [],_,_=>rfl
 | (n,v) :: r,m,h=>by
  unfold bindC
  rw[lT fun w hw=>h w (CY _ hw)]
  split
  ·rfl
  ·have:x ≠ n:=by rintro rfl;exact h v C1
   simp[this]
theorem lS{kindOf:Str->Option NameKind}{x:Str}{v:Value}:∀{P:List Str}{vs:List Value}{i:Nat}{m:Str->Option Value},P.Nodup->P[i]? = some x->vs[i]? = some v->kindOf x=some .local ->
  bindL kindOf (P.zip vs) m x=some v
 | [],_,_,_,_,h,_,_=>by simp at h
 |_ :: _,[],_,_,_,_,h,_=>by simp at h
 |p :: P,w :: vs,0,m,nd,h1,h2,hk=>by
  simp at h1 h2;subst h1;subst h2
  show bindL kindOf ((p,w) :: P.zip vs) m p=_
  unfold bindL
  rw[lR fun v hv=>(List.nodup_cons.mp nd).1 (List.of_mem_zip hv).1,if_pos hk]
  simp
 |p :: P,w :: vs,i + 1,m,nd,h1,h2,hk=>by
  show bindL kindOf ((p,w) :: P.zip vs) m x=_
  unfold bindL
  exact lS (i:=i) (List.nodup_cons.mp nd).2 (by simpa using h1) (by simpa using h2) hk
theorem lU{kindOf:Str->Option NameKind}{x:Str}{v:Value}:∀{P:List Str}{vs:List Value}{i:Nat}{m:Str->Option Value},P.Nodup->P[i]? = some x->vs[i]? = some v->kindOf x ≠ some .local ->
  bindC kindOf (P.zip vs) m x=some v
 | [],_,_,_,_,h,_,_=>by simp at h
 |_ :: _,[],_,_,_,_,h,_=>by simp at h
 |p :: P,w :: vs,0,m,nd,h1,h2,hk=>by
  simp at h1 h2;subst h1;subst h2
  show bindC kindOf ((p,w) :: P.zip vs) m p=_
  unfold bindC
  rw[lT fun v hv=>(List.nodup_cons.mp nd).1 (List.of_mem_zip hv).1,if_neg hk]
  simp
 |p :: P,w :: vs,i + 1,m,nd,h1,h2,hk=>by
  show bindC kindOf ((p,w) :: P.zip vs) m x=_
  unfold bindC
  exact lU (i:=i) (List.nodup_cons.mp nd).2 (by simpa using h1) (by simpa using h2) hk
def start(N:List Str)(vs:List V):St:=vs.map some ++ List.replicate (N.length - vs.length) none
def iN(CX:CXT)(P:Program)(w:World)(K:PySem.W.Frag)(mg:Str->Option Value)(base:Heap)(N:List Str)(qual:Str)(scope:Scope)(f:Addr)(cd:Value)(A:Around)(outer:List Env)(s:Shared)(H:Hp)(E:XK):Cx where
 prog:=P
 w:=w
 K:=K
 mg:=mg
 base:=base
 A:=A.deeper (envOfC qual scope s.heap.objs.size f cd)
 N:=N
 s₀:=s
 H₀:=H
 env:=envOfC qual scope s.heap.objs.size f cd
 outer:=outer
 stack:=envOfC qual scope s.heap.objs.size f cd :: outer
 ex:=[]
 calm:=true
 fn:=fun _=>true
 pn:=[]
 xe:=fun e s'=>wpAny (model P w) (A.deeper (envOfC qual scope s.heap.objs.size f cd)) (leaving (envOfC qual scope s.heap.objs.size f cd) e) (fun _ s''=>CX outer H s E e s'') (fun e' s''=>CX outer H s E e' s'') s'
theorem oZ{sc:Scope}{n:Nat}{x:Str}(h:sc.names.lookup x=some .cell):∃c,(cellsFrom n sc.names []).lookup x=some c:=by
 have q:=PySem.W.cellsFrom_some sc.names n [] (.inl h)
 exact Option.isSome_iff_exists.mp q
theorem sQ{CX:CXT}{P:Program}{w:World}{K:PySem.W.Frag}{mg:Str->Option Value}{base:Heap}{N ps:List Str}{qual:Str}{scope:Scope}{f:Addr}{cd:Value}{A:Around}{outer:List Env}{s s1:Shared}{H:Hp}{E:XK}{us:List Value}{vs:List V}
  (S:aS N ps scope) (hd:A.handled=none) (e0:qj P w K mg base A outer s H) (hl:vs.length=ps.length) (r:aM vs us)
  (x:InCallC s s.heap.objs.size (bindL (envOfC qual scope s.heap.objs.size f cd).kindOf (ps.zip us) fun _=>none) (cellsFrom (s.heap.objs.size + 1) scope.names []) (bindC (envOfC qual scope s.heap.objs.size f cd).kindOf (ps.zip us) fun _=>none) s1) :
  Inv (iN CX P w K mg base N qual scope f cd A outer s H E) [] (start N vs) H s1:=by
 have hpl:ps.length<=N.length:=by have:=DK List.length S.pre;rw[Fe]at this;lia
 obtain⟨h1,tk,rfl,hk⟩:=x.done
 have noA:∀b:Addr,b ∉ (iN CX P w K mg base N qual scope f cd A outer s H E).ex:=fun b z=>absurd (show b ∈ ([]:List Addr) from z) (by simp)
 refine⟨⟨e0.mod,S.kind,rfl,rfl,CV _,fun y z c h1 h2=>?_,fun y hy=>?_,fun y c _ h=>?_,fun _=>hd,Around.frames_deeper e0.frames,.inr ⟨rfl,rfl⟩,fun b z=>absurd z (noA b),e0.bs,e0.bsz,fun b _ _=>noA b,fun b z=>absurd z (noA b),e0.funs,e0.frf⟩,
  rfl,e0.bare,Un.kept hk,⟨_,x.toInCall.ns,fun i y v h1 h2 h3=>?_⟩,fun y c h=>⟨_,x.cell y c h⟩,e0.hok.fresh (CV _),fun y c h=>?_,fun p hp=>absurd (show p ∈ ([]:List (Addr×Obj)) from hp) (by simp),e0.hok.kept hk,?_⟩
 ·exact name_of_addr x.apart (Eh h1) (Eh h2)
 ·have hy:scope.names.lookup y=some .cell\/scope.names.lookup y=some .free:=hy
  rcases hy with hy |hy
  ·exact oZ hy
  ·exact absurd rfl (S.nofree _ (Eh hy))
 ·exact El (x.above y c (Eh h))
 ·have hi:i < vs.length:=by
   unfold start at h2
   by_cases hi:i < vs.length
   ·exact hi
   ·rw[List.getElem?_append_right (by simpa using hi)]at h2
    rw[List.getElem?_replicate]at h2
    split at h2 <;> cases h2
  have ha:vs[i]? = some v:=by
   unfold start at h2
   rw[EY (by simpa using hi),Db]at h2
   cases e:vs[i]? with
   |none=>rw[e]at h2;cases h2
   |some a=>rw[e]at h2;cases h2;rfl
  obtain⟨u,hu,rv⟩:=r.get ha
  have hp:ps[i]? = some y:=by
   rw[<-S.pre,List.getElem?_take_of_lt (by lia)];exact h1
  have ndP:ps.Nodup:=by rw[<-S.pre];exact S.nd.sublist (List.take_sublist _ _)
  refine⟨u,rv,?_⟩
  rcases S.par y (DR hp) with k |k
  ·exact .inl ⟨k,lS ndP hp hu k⟩
  ·obtain⟨c,e⟩:=oZ (n:=s.heap.objs.size + 1) k
   refine .inr ⟨.inl k,c,e,?_⟩
   have q:=x.cell y c e
   rw[lU ndP hp hu (by show scope.names.lookup y ≠ _;rw[k];decide)]at q
   exact q
 ·exact e0.hok.fresh (El (x.above y c (Eh h)))
 ·unfold start
  show _=N.length
  rw[C8,CQ,Fo]
  lia
theorem yP{CX:CXT}{P:Program}{w:World}{K:PySem.W.Frag}{mg:Str->Option Value}{base:Heap}{k:Nat}{f:Addr}{name qual:Str}{params:Arguments}{body:List Stmt}{scope:Scope}{dV kV doc pm cdv ct oc:Value}{an od:Option Addr}
  {osl:Array (Option Value)} {N ps:List Str}{sp:Sp} (lk:K.lookup f=some ⟨oc,od,.func (PySem.W.fnOf name qual params body scope dV kV doc pm an cdv ct),osl⟩) (hcd:PySem.W.codeIn K cdv qual=true) (S:aS N ps scope)
  (len:∀vs H Q E,sp vs H Q E->vs.length=ps.length)
  (FU:∀(A:Around) (outer:List Env) (s:Shared) (H:Hp) (vs:List V) (Q:VK) (E:XK),ca k (A.deeper (envOfC qual scope s.heap.objs.size f cdv))->sp vs H Q E ->
   ∃t,PSs (iN CX P w K mg base N qual scope f cdv A outer s H E) body t/\t { nx:=fun _ H'=>Q .non H',rt:=Q } (start N vs) H) :
  a9 P w K mg base CX (k + 1) f (PySem.W.fnOf name qual params body scope dV kV doc pm an cdv ct) ps sp:=by
 refine⟨len,fun A outer s H args us vs Q E hr e0 hb r hsp=>?_⟩
 have hl:=len _ _ _ _ hsp
 have KX:K.In s.heap:=e0.mod.kin.keeps fun b o e=>(e0.bs b o e).1
 have lim:s.heap.NoLimit:=e0.mod.nolimit.keeps fun b o e=>(e0.bs b o e).1
 have GI:∀y ∈ ps.zip us,scope.names.lookup y.1=some .local\/(scope.names.lookup y.1=some .cell/\((cellsFrom (s.heap.objs.size + 1) scope.names []).lookup y.1).isSome=true):=fun zz36_0 hy=>by
  obtain⟨n,v⟩:=zz36_0
  rcases S.par n (List.of_mem_zip hy).1 with q |q
  ·exact .inl q
  ·exact .inr ⟨q,PySem.W.cellsFrom_some _ _ _ (.inl q)⟩
 refine codeAny_call_function hr.depth (KX _ _ lk) rfl S.co S.gen rfl (PySem.W.codeRec_of KX hcd) (hb _ _ _ _ ?_)
 refine wpAny_newFunctionEnv_cells S.kind GI fun env he s1 x=>?_
 subst he
 refine⟨lim.keeps x.toInCall.keep,codeAny_func ?_⟩
 obtain⟨t,ht,hq⟩:=FU A outer s H vs Q E (hr.deeper _) hsp
 have I:Inv (iN CX P w K mg base N qual scope f cdv A outer s H E) [] (start N vs) H s1:=sQ S hr.hd e0 hl r x
 refine Dc (ht [] s1 (start N vs) H _ I hq) (fun fl s' hs=>?_) fun e s' hs=>hs
 have fin:∀{σ':St}{H':Hp}{v:V}{u:Value},Inv (iN CX P w K mg base N qual scope f cdv A outer s H E) [] σ' H' s'->aJ v u->Q v H'->CE outer P w H s Q u s' :=
  fun {σ' H' v u} J rv q=>⟨v,H',J.os,J.bare,J.base,J.hok,rv,q⟩
 cases fl with
 |ret u =>
  obtain⟨v,σ',H',J,rv,q⟩:=hs
  exact fin J rv q
 |next =>
  obtain⟨σ',H',J,q⟩:=hs
  exact fin (v:=V.non) (u:=Value.none) J rfl q
 |brk =>
  obtain⟨_,_,_,q⟩:=hs
  exact False.elim q
 |cont =>
  obtain⟨_,_,_,q⟩:=hs
  exact False.elim q
section
variable {X:Cx}{x:Str}{p pos:Pos}{e:Expr}{es:List Expr}{t:TA}{id T:String}{r:List V->Hp->VK->Prop}
def tCB(r:List V->Hp->VK->Prop)(t:TA):TE:=fun σ H Q=>t σ H fun vs H1=>r vs H1 Q
theorem hJ(hc:bQ X (.builtin id) r)(hg:Gl X x)(hm:X.mg x=none)(hv:bootBuiltins x=some (.builtin id))(ha:PA X (e :: es) t)(hn:x ≠ "__name__" := by decide)(hdb:(x == ("__debug__" : Str))=false:=by decide)
  (he:starEach (e :: es) X.env=(false,eval e X.env) :: starEach es X.env:=by rfl) (hpl:(backTo pos (starEach es X.env)).any (·.1)=false:=by rfl):PE X (.Call (.Name x p) (e :: es) [] pos) (tCB r t):=by
 intro dl s σ H Q I h
 refine Eb (jW I hg hm hv ?_ hn hdb)
 exact PyProof.Rows.callWith_builtin1 (thn (ha pos dl s σ H _ I h) fun us s1 zz37_0=>by obtain⟨vs,H1,I1,r1,q1⟩:=zz37_0;exact hc dl s1 σ H1 vs us Q I1 r1 q1) he hpl
theorem sf(hc:bQ X (.type T) r)(hg:Gl X x)(hm:X.mg x=none)(hv:bootBuiltins x=some (.type T))(ha:PA X (e :: es) t)(hn:x ≠ "__name__" := by decide)(hdb:(x == ("__debug__" : Str))=false:=by decide)
  (he:starEach (e :: es) X.env=(false,eval e X.env) :: starEach es X.env:=by rfl) (hpl:(backTo pos (starEach es X.env)).any (·.1)=false:=by rfl):PE X (.Call (.Name x p) (e :: es) [] pos) (tCB r t):=by
 intro dl s σ H Q I h
 refine Eb (jW I hg hm hv ?_ hn hdb)
 exact EQ (thn (ha pos dl s σ H _ I h) fun us s1 zz38_0=>by obtain⟨vs,H1,I1,r1,q1⟩:=zz38_0;exact hc dl s1 σ H1 vs us Q I1 r1 q1) he hpl
end
end L2
namespace HT
open PySem PyProof.Rows
section
open PySem.SeqAt
open PySem.AutoSeq1 (wpAny_loadPart')
open PySem.MeetsSeq PySem.MeetsSeq2 PySem.MeetsSeq3
end
section
variable {prog:Program}{w:World}{A:Around}{E:Value->Shared->Prop}{s:Shared}
theorem cat_tup{t b:Addr}{vs ws:List Value}{Q:Value->Shared->Prop}(ht:IsTup s.heap t vs.toArray)(hb:IsTup s.heap b ws.toArray)(hv:vs ≠ [])
  (h1:ws=[]->Q (.ref t) s) (h2:ws ≠ []->Q (.ref s.heap.objs.size) { s with heap:=s.heap.push { cls:=.type "tuple",data:=.seq (vs ++ ws).toArray } })
  (hsz:vs.length + ws.length<=sizeLine):wpAny (model prog w) A (binaryOp .Add (.ref t) (.ref b)) Q E s:=by
 obtain⟨⟨cls,dd,data,sl⟩,ho,hc,n,hd⟩:=id ht
 obtain⟨⟨cls2,dd2,data2,sl2⟩,ho2,hc2,n2,hd2⟩:=id hb
 simp only at hc hd hc2 hd2
 subst hc hd hc2 hd2
 have e:vs.toArray ++ ws.toArray=(vs ++ ws).toArray:=by simp
 by_cases hw:ws=[]
 ·exact concat_meets ⟨_,ho,rfl⟩ ⟨_,ho2,rfl⟩ noFill_tuple_add seq_tuple_add Fg Fa (E8 _ _)
   (tuple_addW1 t b vs.toArray ws.toArray n n2 dd dd2 sl sl2 (by simpa using hv) (by simp[hw])) ⟨ho,ho2,h1 hw⟩
 ·refine concat_meets ⟨_,ho,rfl⟩ ⟨_,ho2,rfl⟩ noFill_tuple_add seq_tuple_add Fg Fa (E8 _ _)
   (tuple_addW2 t b vs.toArray ws.toArray n n2 dd dd2 sl sl2 (by simpa using hv) (by simpa using hw) (by rw[C4,C4];exact hsz)) ⟨ho,ho2,?_⟩
  rw[e]
  exact h2 hw
def sIx(n d:Nat):Option Int->Nat
 |none=>d
 |some v=>if v < 0 then(v + (n:Int)).toNat else min v.toNat n
theorem sIx_none(n d:Nat):sIx n d none=d:=rfl
theorem sIx_nat(n d k:Nat):sIx n d (some (k:Int))=min k n:=by
 show(if(k:Int) < 0 then((k:Int) + (n:Int)).toNat else min (k:Int).toNat n)=min k n
 rw[if_neg (by lia),DF]
theorem sIx_le(n d:Nat)(hd:d<=n)(o:Option Int):sIx n d o<=n:=by
 cases o with
 |none=>exact hd
 |some v =>
  show(if v < 0 then(v + (n:Int)).toNat else min v.toNat n)<=n
  by_cases hv:v < 0
  ·rw[if_pos hv];lia
  ·rw[if_neg hv];exact Nat.min_le_right _ _
theorem clip_eq(v:Int)(n d:Nat):(if v < 0 then max (v + (n:Int)) 0 else min v (n:Int))=((sIx n d (some v):Nat):Int):=by
 show(if v < 0 then max (v + (n:Int)) 0 else min v (n:Int))=(((if v < 0 then(v + (n:Int)).toNat else min v.toNat n):Nat):Int)
 by_cases hv:v < 0
 ·simp only[if_pos hv];lia
 ·simp only[if_neg hv];lia
theorem qg(lo hi:Option Int)(n:Nat):Builtin.Slice.sliceAdjust lo hi 1 (n:Int)=(((sIx n 0 lo:Nat):Int),((sIx n n hi:Nat):Int)):=by
 have h1:¬((1:Int) < 0):=by lia
 unfold Builtin.Slice.sliceAdjust
 simp only[h1,En]
 refine Prod.ext ?_ ?_
 ·cases lo with
  |none=>rfl
  |some v=>exact clip_eq v n 0
 ·cases hi with
  |none=>rfl
  |some v=>exact clip_eq v n n
theorem pG(i j:Nat):Builtin.Slice.slicePlaces (i:Int) (j:Int) 1=j - i:=by
 unfold Builtin.Slice.slicePlaces
 have h1:(1:Int) > 0:=by lia
 simp only[h1,if_true,Int.ediv_one]
 split <;> lia
theorem jC{v:Value}{o:Option Int}{Q:Option Int->Shared->Prop}(p:IsPart v o)(h:Q o s):wpAny (model prog w) A (Builtin.Slice.slicePartIndex v) Q E s:=by
 cases p with
 |none=>exact slicePart_none h
 |int i t=>exact slicePart_int h
theorem sliceApplied_gen{sl:Addr}{vl vu:Value}{lo hi:Option Int}{n:Nat}{Q:Int×Int×Nat->Shared->Prop}(hs:s.heap.IsSliceOf sl vl vu .none)(pl:IsPart vl lo)(pu:IsPart vu hi)
  (h:Q (((sIx n 0 lo:Nat):Int),1,sIx n n hi - sIx n 0 lo) s):wpAny (model prog w) A (Builtin.Slice.sliceApplied (.ref sl) (pure (n:Int))) Q E s:=by
 obtain⟨os,hos,hcs,hds⟩:=id hs
 unfold Builtin.Slice.sliceApplied Builtin.Slice.sliceFields
 refine CN (CN (Do hos hds (x:=vl) rfl (CN (Do hos hds (x:=vu) rfl (CN (Do hos hds (x:=.none) rfl (CP ?_)))))))
 refine CN (slicePart_none ?_)
 show wpAny _ _ (if((1:Int) == 0)=true then _ else _) _ _ s
 rw[if_neg (by decide)]
 refine CN (jC pl (CN (jC pu (CN (CP ?_)))))
 show wpAny _ _ (match Builtin.Slice.sliceAdjust lo hi 1 (n:Int) with | (lo,hi)=>pure (lo,(1:Int),Builtin.Slice.slicePlaces lo hi 1)) _ _ s
 rw[qg lo hi n]
 show wpAny _ _ (pure (((sIx n 0 lo:Nat):Int),(1:Int),Builtin.Slice.slicePlaces ((sIx n 0 lo:Nat):Int) ((sIx n n hi:Nat):Int) 1)) _ _ s
 rw[pG]
 exact CP h
theorem uG(xs:Array Value)(i k:Nat):((List.range k).filterMap fun(m:Nat)=>xs[((i:Int) + (m:Int) * 1).toNat]?).toArray=((xs.toList.drop i).take k).toArray:=by
 have e:(fun(m:Nat)=>xs[((i:Int) + (m:Int) * 1).toNat]?)=fun m=>xs[i + m]?:=by
  funext m
  have:((i:Int) + (m:Int) * 1).toNat=i + m:=by lia
  rw[this]
 rw[e]
 have:=pick_run xs i k
 rw[List.filterMap_map]at this
 have e2:((fun x=>xs[x]?) ∘ fun x=>i + x)=fun m=>xs[i + m]?:=rfl
 rw[e2]at this
 rw[this]
theorem getItem_tuple_cut{t sl:Addr}{items:Array Value}{vl vu:Value}{lo hi:Option Int}{Q:Value->Shared->Prop}(ht:IsTup s.heap t items)(hs:s.heap.IsSliceOf sl vl vu .none)(pl:IsPart vl lo)(pu:IsPart vu hi)
  (hw:¬(sIx items.size 0 lo=0/\sIx items.size items.size hi=items.size))
  (h:Q (.ref s.heap.objs.size) { s with heap:=s.heap.push { cls:=.type "tuple",data:=.seq ((items.toList.drop (sIx items.size 0 lo)).take (sIx items.size items.size hi - sIx items.size 0 lo)).toArray } })
  (hsz:items.size<=sizeLine):wpAny (model prog w) A (getItem (.ref t) (.ref sl)) Q E s:=by
 have Gi:sizeOk (.seq ((items.toList.drop (sIx items.size 0 lo)).take (sIx items.size items.size hi - sIx items.size 0 lo)).toArray):=by
  show((items.toList.drop (sIx items.size 0 lo)).take (sIx items.size items.size hi - sIx items.size 0 lo)).toArray.size<=sizeLine
  rw[C4,Fe,EK,DG]
  omega
 have hj:sIx items.size items.size hi<=items.size:=sIx_le _ _ (CV _) hi
 obtain⟨os,hos,hcs,hds⟩:=id hs
 have hTs:s.TypeIs (.ref sl) "slice" := ⟨os,hos,hcs⟩
 unfold getItem
 try with_reducible refine Dx ?_
 first |refine CN (CP ?_) |skip
 refine CN (wpAny_sequenceKey ht.typeIs (by decide) ?_)
 refine CN (DP (name:=Str.ofString "__getitem__") ht.typeIs DT
  (Ds DT ht.typeIs entry_tuple_getitem ?_ (args_tuple_getitem _ _)))
 show wpAny _ _ (Builtin.Tuple.tupleItemsOf (.ref t) >>= _) _ _ s
 refine CN (tupleItemsOf_ ht ?_)
 refine CN (EE hTs ?_)
 rw[if_pos (by decide)]
 refine CN (sliceApplied_gen hs pl pu ?_)
 have hno:¬((((sIx items.size 0 lo:Nat):Int) == 0 && (1:Int) == 1 && (sIx items.size items.size hi - sIx items.size 0 lo) == items.size)=true):=by
  intro q
  rw[C_,C_]at q
  have q1:((sIx items.size 0 lo:Nat):Int)=0:=FR q.1.1
  have q2:sIx items.size items.size hi - sIx items.size 0 lo=items.size:=FR q.2
  exact hw ⟨by omega,by omega⟩
 show wpAny _ _ (if(((sIx items.size 0 lo:Nat):Int) == 0 && (1:Int) == 1 && (sIx items.size items.size hi - sIx items.size 0 lo) == items.size)=true then _ else _) _ _ s
 rw[if_neg hno,uG]
 first
  |exact CN (m:=Builtin.Tuple.tupleExact _) (Di (CP ⟨_,rfl,CP h⟩) Gi)
  |exact CN (m:=Builtin.Tuple.tupleExact _) (Di (CN (CP (CP ⟨_,rfl,CP h⟩))) Gi)
  |exact CN (CN (m:=Builtin.Tuple.tupleExact _) (Di (CP (CP ⟨_,rfl,CP h⟩)) Gi))
  |exact CN (CN (m:=Builtin.Tuple.tupleExact _) (Di (CP ⟨_,rfl,CP h⟩) Gi))
end
end HT
namespace L2
open PySem PySem.Spec PyProof.Rows
abbrev TO:=St->Hp->(Option Int->Hp->Prop)->Prop
def PO(X:Cx)(e:Option Expr)(t:TO):Prop :=
 ∀(dl:List (Addr×Obj)) (s:Shared) (σ:St) (H:Hp) (Q:Option Int->Hp->Prop),Inv X dl σ H s->t σ H Q ->
  wpAny (model X.prog X.w) X.A (evalPart e X.env) (fun u s'=>∃o H',Inv X dl σ H' s'/\IsPart u o/\Q o H') X.xe s
def wA:TO:=fun _ H Q=>Q none H
def AW(t:TE):TO:=fun σ H Q=>t σ H fun x H1=>∃i,x=.int i/\Q (some i) H1
section
variable {X:Cx}{e:Expr}{te:TE}{lo hi:Option Expr}{tl th:TO}{pos p2:Pos}
theorem wY:PO X none wA:=by
 intro dl s σ H Q I h
 rw[evalPart_none]
 exact CP ⟨none,H,I,.none,h⟩
theorem wX(h:PE X e te):PO X (some e) (AW te):=by
 intro dl s σ H Q I hw
 rw[evalPart_some]
 refine thn (h dl s σ H _ I hw) fun u s1 zz39_0=>?_
 obtain⟨x,H1,I1,r1,q1⟩:=zz39_0
 obtain⟨i,rfl,q⟩:=q1
 obtain⟨t,rfl⟩:=r1
 exact⟨some i,H1,I1,.int i t,q⟩
def SlR(X:Cx)(r:V->Option Int->Option Int->Hp->VK->Prop):Prop :=
 ∀(dl:List (Addr×Obj)) (s:Shared) (σ:St) (H:Hp) (x:V) (v vl vu:Value) (lo hi:Option Int) (sl:Addr) (Q:VK),Inv X dl σ H s->aJ x v->s.heap.IsSliceOf sl vl vu .none->IsPart vl lo->IsPart vu hi->r x lo hi H Q ->
  ∃T id,typeLookup (.type T) "__getitem__" = pure (some (.builtin id))/\s.TypeIs v T/\wpAny (model X.prog X.w) X.A (getItem v (.ref sl)) (EP X dl σ Q) X.xe s
theorem SlR.or{r r':V->Option Int->Option Int->Hp->VK->Prop}(h:SlR X r)(h':SlR X r'):SlR X (fun x lo hi H Q=>r x lo hi H Q\/r' x lo hi H Q):=by
 intro dl s σ H x v vl vu lo hi sl Q I rx hs pl pu q
 rcases q with q |q
 ·exact h dl s σ H x v vl vu lo hi sl Q I rx hs pl pu q
 ·exact h' dl s σ H x v vl vu lo hi sl Q I rx hs pl pu q
def tSl(r:V->Option Int->Option Int->Hp->VK->Prop)(te:TE)(tl th:TO):TE:=fun σ H Q=>te σ H fun x H1=>tl σ H1 fun l H2=>th σ H2 fun u H3=>r x l u H3 Q
theorem uK{r:V->Option Int->Option Int->Hp->VK->Prop}(hr:SlR X r)(he:PE X e te)(hl:PO X lo tl)(hu:PO X hi th):PE X (.Subscript e (.Slice lo hi none p2) pos) (tSl r te tl th):=by
 intro dl s σ H Q I h
 refine Subscript_ (thn (he dl s σ H _ I h) fun v s1 zz40_0=>?_)
 obtain⟨x,H1,I1,r1,q1⟩:=zz40_0
 refine wpAny_Slice (thn (hl dl s1 σ H1 _ I1 q1) fun vl s2 ⟨l,H2,I2,pl,q2⟩=>thn (hu dl s2 σ H2 _ I2 q2) fun vu s3 zz42_0=>?_)
 obtain⟨u,H3,I3,pu,q3⟩:=zz42_0
 rw[evalPart_none]
 refine CP ?_
 have I4:Inv X dl σ H3 { s3 with heap:=s3.heap.push { cls:=.type "slice",data:=.fields #[vl,vu,.none] } }:=I3.kept (t':=s3.toks) fun b ob q=>CO _ q
 obtain⟨T,id,hT,ht,hg⟩:=hr dl { s3 with heap:=s3.heap.push { cls:=.type "slice",data:=.fields #[vl,vu,.none] } } σ H3 x v vl vu l u s3.heap.objs.size Q I4 r1 (Heap.IsSliceOf.new ..) pl pu q3
 show wpAny (model X.prog X.w) X.A (subscriptTail e (.Slice lo hi none p2) v (.ref s3.heap.objs.size)) (EP X dl σ Q) X.xe { s3 with heap:=s3.heap.push { cls:=.type "slice",data:=.fields #[vl,vu,.none] } }
 exact tail_any (ops:=[.ref s3.heap.objs.size,v]) ht hT hg (by with_unfolding_all rfl)
def jg(xs:List V)(lo hi:Option Int):List V:=(xs.drop (HT.sIx xs.length 0 lo)).take (HT.sIx xs.length xs.length hi - HT.sIx xs.length 0 lo)
theorem i8(xs:List V)(lo hi:Option Int):(jg xs lo hi).length<=xs.length:=by
 unfold jg
 rw[Fe,EK]
 lia
def Bc(K:PySem.W.Frag):V->Option Int->Option Int->Hp->VK->Prop:=fun x lo hi H Q=>∃a xs,x=.ref a/\SqT K H a xs /\
 ¬(HT.sIx xs.length 0 lo=0/\HT.sIx xs.length xs.length hi=xs.length)/\∀p,H p=none->Q (.ref p) (upd H p (.tup (jg xs lo hi)))
theorem zb:SlR X (Bc X.K):=by
 intro dl s σ H x v vl vu lo hi sl Q I rx hs pl pu h
 obtain⟨a,xs,rfl,hx,hw,q⟩:=h
 cases rx
 obtain⟨its,r,ht,hz⟩:=I.tuple hx
 have Cl:its.toArray.size=xs.length:=by rw[C4];exact r.length.symm
 refine⟨"tuple",_,PyProof.Rows.slot_tuple_getitem.lookup,ht.typeIs,?_⟩
 refine HT.getItem_tuple_cut ht hs pl pu (by rw[Cl];exact hw) ?_ (by rw[Cl];exact hz)
 rw[Cl]
 refine⟨.ref s.heap.objs.size,_,I.laid (t':=s.toks) (o:=.tup (jg xs lo hi)) (fun b ob q=>CO _ q) (CV _) ?_,rfl,q _ (I.hok.fresh (CV _))⟩
 exact⟨CZ (i8 xs lo hi) hz,_,(r.drop (HT.sIx xs.length 0 lo)).take (HT.sIx xs.length xs.length hi - HT.sIx xs.length 0 lo),IsTup.new _ _⟩
def yH(K:PySem.W.Frag):R2:=fun x y H Q=>∃a b xs ys,x=.ref a/\y=.ref b/\SqT K H a xs/\SqT K H b ys/\xs ≠ []/\xs.length + ys.length<=sizeLine /\
 (ys=[]->Q (.ref a) H)/\(ys ≠ []->∀p,H p=none->Q (.ref p) (upd H p (.tup (xs ++ ys))))
theorem aM.nil_iff{xs:List V}{us:List Value}(r:aM xs us):us=[] ↔ xs=[]:=by
 cases r with
 |nil=>simp
 |cons _ _=>simp
theorem xr:OpR X (binaryOp .Add) (yH X.K):=by
 intro dl s σ H x y v u Q I rx ry h
 obtain⟨a,b,xs,ys,rfl,rfl,ha,hb,hx,hz,q1,q2⟩:=h
 cases rx
 cases ry
 obtain⟨its,r1,p1,_⟩:=I.tuple ha
 obtain⟨its2,r2,p2,_⟩:=I.tuple hb
 refine HT.cat_tup p1 p2 (fun z=>hx (r1.nil_iff.mp z)) (fun z=>⟨.ref a,H,I,rfl,q1 (r2.nil_iff.mp z)⟩) (fun z=>?_) (by rw[<-r1.length,<-r2.length];exact hz)
 refine⟨.ref s.heap.objs.size,_,I.laid (t':=s.toks) (o:=.tup (xs ++ ys)) (fun b ob q=>CO _ q) (CV _) ?_,rfl,q2 (fun w=>z (r2.nil_iff.mpr w)) _ (I.hok.fresh (CV _))⟩
 exact⟨by rw[C8];exact hz,_,r1.append r2,IsTup.new _ _⟩
end
def ixN(n:Nat)(i:Int):Option Nat:=if 0<=i then(if i < n then some i.toNat else none) else if -(n:Int)<=i then some (i + n).toNat else none
def atI{α:Type}(xs:List α)(i:Int):Option α:=(ixN xs.length i).bind fun j=>xs[j]?
theorem xL{n:Nat}{i:Int}{j:Nat}(h:ixN n i=some j):seqIndex? i n=some j/\j < n/\-(n:Int)<=i/\i < n:=by
 unfold ixN at h
 by_cases h0:0<=i
 ·rw[if_pos h0]at h
  by_cases h1:i < n
  ·rw[if_pos h1]at h
   have e:i.toNat=j:=CU h
   exact⟨by rw[seqIndex_of h0 h1,e],by lia,by lia,h1⟩
  ·rw[if_neg h1]at h;cases h
 ·rw[if_neg h0]at h
  by_cases h1 : -(n:Int)<=i
  ·rw[if_pos h1]at h
   have e:(i + n).toNat=j:=CU h
   exact⟨by rw[seqIndex_neg (by lia) h1,e],by lia,h1,by lia⟩
  ·rw[if_neg h1]at h;cases h
theorem mW{α:Type}{xs:List α}{i:Int}{v:α}(h:atI xs i=some v):∃j,seqIndex? i xs.length=some j/\xs[j]? = some v/\j < xs.length/\-(xs.length:Int)<=i/\i < xs.length:=by
 unfold atI at h
 cases e:ixN xs.length i with
 |none=>rw[e]at h;cases h
 |some j =>
  rw[e]at h
  obtain⟨h1,h2,h3,h4⟩:=xL e
  exact⟨j,h1,h,h2,h3,h4⟩
def jw(b:Expr):Prop:=∀o i,subscripted b false o i=operate [o,i] (getItem o i)
def IxR(X:Cx)(r:R2):Prop :=
 ∀(value slice:Expr) (dl:List (Addr×Obj)) (s:Shared) (σ:St) (H:Hp) (x y:V) (v u:Value) (Q:VK),Inv X dl σ H s->aJ x v->aJ y u->r x y H Q ->
  subscripted slice false v u=operate [v,u] (getItem v u)->wpAny (model X.prog X.w) X.A (subscriptTail value slice v u) (EP X dl σ Q) X.xe s
def MtR(X:Cx)(id:String)(r:V->List V->Hp->VK->Prop):Prop :=
 ∀(dl:List (Addr×Obj)) (s:Shared) (σ:St) (H:Hp) (x:V) (xs:List V) (v:Value) (us:List Value) (Q:VK),Inv X dl σ H s->aJ x v->aM xs us->r x xs H Q ->
  wpAny (model X.prog X.w) X.A (call (.builtin id) (v :: us)) (EP X dl σ Q) X.xe s
section
variable {X:Cx}{a b:Expr}{ta tb:TE}{pos:Pos}
theorem IxR.or{r r':R2}(h:IxR X r)(h':IxR X r'):IxR X (fun x y H Q=>r x y H Q\/r' x y H Q):=by
 intro value slice dl s σ H x y v u Q I rx ry q hs
 rcases q with q |q
 ·exact h value slice dl s σ H x y v u Q I rx ry q hs
 ·exact h' value slice dl s σ H x y v u Q I rx ry q hs
theorem qG{r:R2}(hr:IxR X r)(ha:PE X a ta)(hb:PE X b tb)(hs:jw b):PE X (.Subscript a b pos) (tOp r ta tb):=by
 intro dl s σ H Q I h
 exact Subscript_ (AI ha hb I h fun v u s2 x y H2 I2 rx ry q=>hr a b dl s2 σ H2 x y v u Q I2 rx ry q (hs _ _))
def Bg(K:PySem.W.Frag):R2:=fun x y H Q=>∃p xs i v,x=.ref p/\y=.int i/\SqL K H p xs/\atI xs i=some v/\Q v H
def Be(K:PySem.W.Frag):R2:=fun x y H Q=>∃p xs i v,x=.ref p/\y=.int i/\SqT K H p xs/\atI xs i=some v/\Q v H
def Bf:R2:=fun x y H Q=>∃z i c,x=.str z/\y=.int i/\z.length<=sizeLine/\atI z.cps.toList i=some c/\Q (.str ⟨#[c]⟩) H
theorem xK:IxR X (Bg X.K):=by
 intro value slice dl s σ H x y v u Q I rx ry h hs
 obtain⟨p,xs,i,z,rfl,rfl,hq,he,q⟩:=h
 cases rx
 obtain⟨t,rfl⟩:=ry
 obtain⟨its,r,pl,hz⟩:=I.list hq
 obtain⟨j,h1,h2,h3,h4,h5⟩:=mW he
 obtain⟨w,ew,rw'⟩:=r.get h2
 have hl:=r.length
 have hn:=ml
 have fin:EP X dl σ Q w s:=⟨z,H,I,rw',q⟩
 by_cases h0:0<=i
 ·have hj:i.toNat=j:=by
   rw[seqIndex_of h0 h5]at h1
   exact CU h1
  exact item_listR pl.isList h0 (by lia) (by rw[hj];simpa using ew) fin hs
 ·have hj:(i + (its.toArray.size:Int)).toNat=j:=by
   rw[seqIndex_neg (by lia) h4]at h1
   rw[C4,<-hl]
   exact CU h1
  exact subscriptTail_builtinR (x:=w) pl.isList.typeIs slot_list_getitem.lookup
   (wpAny_getItem_list_neg (Q:=fun r s'=>r=w/\EP X dl σ Q r s') pl.isList (by lia) (by rw[C4] <;> lia) (by lia) (by rw[hj];simpa using ew) ⟨rfl,fin⟩) hs
theorem Ag:IxR X (Be X.K):=by
 intro value slice dl s σ H x y v u Q I rx ry h hs
 obtain⟨p,xs,i,z,rfl,rfl,hq,he,q⟩:=h
 cases rx
 obtain⟨t,rfl⟩:=ry
 obtain⟨its,r,pl,hz⟩:=I.tuple hq
 obtain⟨j,h1,h2,h3,h4,h5⟩:=mW he
 obtain⟨w,ew,rw'⟩:=r.get h2
 have hl:=r.length
 have hn:=ml
 have fin:EP X dl σ Q w s:=⟨z,H,I,rw',q⟩
 exact subscriptTail_builtinR (x:=w) pl.typeIs slot_tuple_getitem.lookup
  (getItem_tuple (j:=j) (Q:=fun r s'=>r=w/\EP X dl σ Q r s') pl (by lia) (by lia) (by rw[C4,<-hl];exact h1) (by simpa using ew) ⟨rfl,fin⟩) hs
theorem Ah:IxR X Bf:=by
 intro value slice dl s σ H x y v u Q I rx ry h hs
 obtain⟨z,i,c,rfl,rfl,hz,he,q⟩:=h
 obtain⟨t,rfl⟩:=rx
 obtain⟨t',rfl⟩:=ry
 obtain⟨j,h1,h2,h3,h4,h5⟩:=mW he
 have hl:z.cps.toList.length=z.length:=by simp[Str.length]
 rw[hl]at h1 h4 h5
 have hn:=ml
 exact tail_any (typeIs_str s z t) slot_str_getitem.lookup (getItem_str (c:=c) (by
  have e1:decide (i < -(2 ^ 63:Int))=false:=C9 (by lia)
  have e2:decide (i ≥ 2 ^ 63)=false:=C9 (by lia)
  rw[e1,e2,D_]) (by rw[h1];simpa using h2) ⟨.str ⟨#[c]⟩,H,I.tok _,⟨_,rfl⟩,q⟩) hs
def rIx(K:PySem.W.Frag):R2:=fun x y H Q=>Bg K x y H Q\/Be K x y H Q\/Bf x y H Q
theorem mq:IxR X (rIx X.K):=xK.or (Ag.or Ah)
theorem Inv.lst{dl:List (Addr×Obj)}{σ:St}{H:Hp}{s:Shared}{p:Addr}{xs:List V}(I:Inv X dl σ H s)(h:H p=some (.lst xs)) :
  ∃(its:List Value) (n:Nat),aM xs its/\s.heap.get? p=some { cls:=.type "list",data:=.seq its.toArray n }/\xs.length<=sizeLine:=by
 obtain⟨z,its,n,r,e⟩:=I.hok p _ h
 exact⟨its,n,r,e,z⟩
theorem l6(lo hi:Option Int)(n:Nat):(sliceBounds lo hi none n).1=((HT.sIx n 0 lo:Nat):Int)/\(sliceBounds lo hi none n).2.1=((HT.sIx n n hi:Nat):Int)/\(sliceBounds lo hi none n).2.2=1:=by
 refine⟨?_,?_,rfl⟩
 ·cases lo with
  |none=>simp[sliceBounds,HT.sIx]
  |some i =>
   simp only[sliceBounds,HT.sIx,Option.getD_none,show(1:Int) > 0 by decide,if_true]
   by_cases h:i < 0
   ·simp only[h,if_true] <;> lia
   ·simp only[h,En] <;> lia
 ·cases hi with
  |none=>simp[sliceBounds,HT.sIx]
  |some i =>
   simp only[sliceBounds,HT.sIx,Option.getD_none,show(1:Int) > 0 by decide,if_true]
   by_cases h:i < 0
   ·simp only[h,if_true] <;> lia
   ·simp only[h,En] <;> lia
theorem kG(its:List Value)(lo hi:Option Int):slicePick its.toArray lo hi none=((its.drop (HT.sIx its.length 0 lo)).take (HT.sIx its.length its.length hi - HT.sIx its.length 0 lo)).toArray:=by
 obtain⟨h1,h2,h3⟩:=l6 lo hi its.toArray.size
 unfold slicePick
 rw[h1,h2,h3]
 simp only[sliceRange_one,pick_run,C4] <;> rfl
def Bd(K:PySem.W.Frag):V->Option Int->Option Int->Hp->VK->Prop:=fun x lo hi H Q=>∃a xs,x=.ref a/\SqL K H a xs/\∀p,H p=none->Q (.ref p) (upd H p (.lst (jg xs lo hi)))
theorem wD:SlR X (Bd X.K):=by
 intro dl s σ H x v vl vu lo hi sl Q I rx hs pl pu h
 obtain⟨a,xs,rfl,hx,q⟩:=h
 cases rx
 obtain⟨its,r,ht,hz⟩:=I.list hx
 have Cl:=r.length
 refine⟨"list",_,slot_list_getitem.lookup,ht.isList.typeIs,?_⟩
 refine wpAny_getItem_list_slice ht.isList hs pl pu .none (by simp) ?_ (by rw[C4] <;> lia)
 rw[kG,<-Cl]
 refine⟨.ref s.heap.objs.size,_,I.laid (t':=s.toks) (o:=.lst (jg xs lo hi)) (fun b ob q=>CO _ q) (CV _) ?_,rfl,q _ (I.hok.fresh (CV _))⟩
 exact⟨CZ (i8 xs lo hi) hz,_,0,(r.drop (HT.sIx xs.length 0 lo)).take (HT.sIx xs.length xs.length hi - HT.sIx xs.length 0 lo),CT _ rfl⟩
def fP:V->Bool
 |.non=>true
 |.bl _=>true
 |.int _=>true
 |.str _=>true
 |_=>false
def eqV:V->V->Bool
 |.non,.non=>true
 |.bl a,.bl b=>a == b
 |.bl a,.int b=>(if a then 1 else 0) == b
 |.int a,.bl b=>a == (if b then 1 else 0)
 |.int a,.int b=>a == b
 |.str a,.str b=>a == b
 |_,_=>false
theorem AD{A:Around}{s:Shared}{y x:V}{u v:Value}(ry:aJ y u)(rx:aJ x v)(fy:fP y=true)(fx:fP x=true):SeqAt.EqAt A s u v (eqV y x):=by
 cases y with
 |non =>
  cases ry
  cases x with
  |non=>cases rx;exact SeqAt.EqAt.same _
  |bl b=>cases rx;exact SeqAt.EqAt.none_bool b
  |int b=>obtain⟨t,rfl⟩:=rx;exact SeqAt.EqAt.none_int b t
  |str b=>obtain⟨t,rfl⟩:=rx;exact SeqAt.EqAt.none_str b t
  |_=>exact absurd (show false=true from fx) C3
 |bl a =>
  cases ry
  cases x with
  |non=>cases rx;exact SeqAt.EqAt.bool_none a
  |bl b=>cases rx;exact SeqAt.EqAt.bool_bool a b
  |int b=>obtain⟨t,rfl⟩:=rx;exact SeqAt.EqAt.bool_int a b t
  |str b=>obtain⟨t,rfl⟩:=rx;exact SeqAt.EqAt.bool_str a b t
  |_=>exact absurd (show false=true from fx) C3
 |int a =>
  obtain⟨t',rfl⟩:=ry
  cases x with
  |non=>cases rx;exact SeqAt.EqAt.int_none a t'
  |bl b=>cases rx;exact SeqAt.EqAt.int_bool a t' b
  |int b=>obtain⟨t,rfl⟩:=rx;exact SeqAt.EqAt.int_int a t' b t
  |str b=>obtain⟨t,rfl⟩:=rx;exact SeqAt.EqAt.int_str a t' b t
  |_=>exact absurd (show false=true from fx) C3
 |str a =>
  obtain⟨t',rfl⟩:=ry
  cases x with
  |non=>cases rx;exact SeqAt.EqAt.str_none a t'
  |bl b=>cases rx;exact SeqAt.EqAt.str_bool a t' b
  |int b=>obtain⟨t,rfl⟩:=rx;exact SeqAt.EqAt.str_int a t' b t
  |str b=>obtain⟨t,rfl⟩:=rx;exact SeqAt.EqAt.str_str a t' b t
  |_=>exact absurd (show false=true from fx) C3
 |_=>exact absurd (show false=true from fy) C3
def eqU(x:V)(u:Value):Bool:=match u with
 |.none=>eqV .non x
 |.bool b=>eqV (.bl b) x
 |.int i _=>eqV (.int i) x
 |.str z _=>eqV (.str z) x
 |_=>false
theorem vU{x y:V}{u:Value}(r:aJ y u)(f:fP y=true):eqU x u=eqV y x:=by
 cases y with
 |non=>cases r;rfl
 |bl b=>cases r;rfl
 |int i=>obtain⟨t,rfl⟩:=r;rfl
 |str z=>obtain⟨t,rfl⟩:=r;rfl
 |_=>exact absurd (show false=true from f) C3
theorem ir{x:V}:∀{xs:List V}{us:List Value},aM xs us->xs.all fP=true->us.any (eqU x)=xs.any fun y=>eqV y x
 |_,_,.nil,_=>rfl
 |y :: xs,u :: us,.cons r t,f=>by
  rw[DH,C_]at f
  rw[Ez,Ez,vU r f.1,ir t f.2]
theorem fK{A:Around}{s:Shared}{x:V}{v:Value}(rx:aJ x v)(fx:fP x=true):∀{xs:List V}{us:List Value},aM xs us->xs.all fP=true->∀u ∈ us,SeqAt.EqAt A s u v (eqU x u)
 |_,_,.nil,_=>fun u hu=>by cases hu
 |y :: xs,u :: us,.cons r t,f=>fun u' hu=>by
  rw[DH,C_]at f
  rcases List.mem_cons.mp hu with rfl |hu
  ·rw[vU r f.1];exact AD r rx f.1 fx
  ·exact fK rx fx t f.2 u' hu
def inV(x:V)(xs:List V):Bool:=xs.any fun y=>eqV y x
def rIn(K:PySem.W.Frag)(neg:Bool):R2:=fun x y H Q=>∃p xs,y=.ref p/\(SqL K H p xs\/SqT K H p xs)/\fP x=true/\xs.all fP=true/\Q (.bl (if neg then !inV x xs else inV x xs)) H
theorem sm:OpR X (compareOp .In) (rIn X.K false):=by
 intro dl s σ H x y v u Q I rx ry h
 obtain⟨p,xs,rfl,hq,fx,fs,q⟩:=h
 cases ry
 rcases hq with hq |hq
 ·obtain⟨its,r,pl,hz⟩:=I.list hq
  refine SeqAt.in_listAt (eqU x) pl.isList (fun w hw=>fK rx fx r fs w (by simpa using hw)) ⟨.bl _,H,I,rfl,?_⟩
  rw[show its.toArray.any (eqU x)=its.any (eqU x) by simp,ir r fs]
  exact q
 ·obtain⟨its,r,pl,hz⟩:=I.tuple hq
  refine SeqAt.in_tupleAt (eqU x) pl (fun w hw=>fK rx fx r fs w (by simpa using hw)) ⟨.bl _,H,I,rfl,?_⟩
  rw[show its.toArray.any (eqU x)=its.any (eqU x) by simp,ir r fs]
  exact q
theorem me:OpR X (compareOp .NotIn) (rIn X.K true):=by
 intro dl s σ H x y v u Q I rx ry h
 obtain⟨p,xs,rfl,hq,fx,fs,q⟩:=h
 cases ry
 rcases hq with hq |hq
 ·obtain⟨its,r,pl,hz⟩:=I.list hq
  refine SeqAt.notIn_listAt (eqU x) pl.isList (fun w hw=>fK rx fx r fs w (by simpa using hw)) ⟨.bl _,H,I,rfl,?_⟩
  rw[show its.toArray.any (eqU x)=its.any (eqU x) by simp,ir r fs]
  exact q
 ·obtain⟨its,r,pl,hz⟩:=I.tuple hq
  refine SeqAt.notIn_tupleAt (eqU x) pl (fun w hw=>fK rx fx r fs w (by simpa using hw)) ⟨.bl _,H,I,rfl,?_⟩
  rw[show its.toArray.any (eqU x)=its.any (eqU x) by simp,ir r fs]
  exact q
theorem gL:bQ X (.type "tuple") (fun xs H Q=>∃p ys,xs=[.ref p]/\((SqL X.K H p ys/\∀l,H l=none->Q (.ref l) (upd H l (.tup ys)))\/(SqT X.K H p ys/\Q (.ref p) H))):=by
 intro dl s σ H xs us Q I r h
 obtain⟨p,ys,rfl,h⟩:=h
 obtain⟨u,rfl,rx⟩:=gE r
 cases rx
 rcases h with⟨hq,q⟩ |⟨hq,q⟩
 ·obtain⟨its,r',pl,hz⟩:=I.list hq
  have Cl:=r'.length
  refine call_tuple_list pl.isList (fun h' kp=>?_) (by simp only[C4] <;> lia)
  have I1:Inv X dl σ H { s with heap:=h' }:=I.kept (t':=s.toks) kp
  have I2:Inv X dl σ (upd H h'.objs.size (.tup ys)) { s with heap:=h'.push { cls:=.type "tuple",data:=.seq its.toArray } } :=
   I1.laid (t':=s.toks) (fun b o e=>CO _ e) (CV _) (show bw X.prog X.w _ _ _ (.tup ys) from⟨hz,its,r',IsTup.new _ _⟩)
  exact⟨.ref h'.objs.size,_,I2,rfl,q _ (I1.hok.fresh (CV _))⟩
 ·obtain⟨its,r',pl,hz⟩:=I.tuple hq
  exact call_tuple_same pl ⟨.ref p,H,I,rfl,q⟩
def tyV(K:PySem.W.Frag)(T:String)(x:V)(H:Hp):Prop:=match x with
 |.str _=>T = "str"
 |.int _=>T = "int"
 |.ref p=>(T = "list"/\∃xs,SqL K H p xs)\/(T = "tuple"/\∃o,K.lookup p=some o/\o.cls=.type "tuple"/\o.dict=none) \/
   (T = "dict"/\((∃kvs,H p=some (.dK kvs))\/∃kvs,H p=some (.dT kvs)))\/(T = "set"/\∃S n,H p=some (.set S n))
 |_=>False
theorem y7{dl:List (Addr×Obj)}{σ:St}{H:Hp}{s:Shared}{T:String}{x:V}{v:Value}(I:Inv X dl σ H s)(r:aJ x v)(ty:tyV X.K T x H) :
  s.TypeIs v T/\∀a,v=.ref a->∃ob,s.heap.get? a=some ob/\ob.dict=none:=by
 cases x with
 |str z =>
  obtain⟨t,rfl⟩:=r
  cases(show T = "str" from ty)
  exact⟨typeIs_str s z t,fun _ e=>nomatch e⟩
 |int i =>
  obtain⟨t,rfl⟩:=r
  cases(show T = "int" from ty)
  exact⟨typeIs_int s i t,fun _ e=>nomatch e⟩
 |ref p =>
  cases r
  rcases ty with⟨rfl,xs,hq⟩ |⟨rfl,o,hk,hc,hd⟩ |⟨rfl,hk⟩ |⟨rfl,S,n,hk⟩
  ·obtain⟨its,_,pl,_⟩:=I.list hq
   refine⟨pl.isList.typeIs,fun a e=>?_⟩
   cases e
   obtain⟨o,n,e,c,hd,_⟩:=pl
   exact⟨o,e,hd⟩
  ·refine⟨⟨o,I.kIn p o hk,hc⟩,fun a e=>?_⟩
   cases e
   exact⟨o,I.kIn _ o hk,hd⟩
  ·have z:∃o,s.heap.get? p=some o/\o.ExactDict:=by
    rcases hk with⟨kvs,hk⟩ |⟨kvs,hk⟩
    ·obtain⟨_,_,_,_,o,_,_,e,ex,_⟩:=I.hok p _ hk
     exact⟨o,e,ex⟩
    ·obtain⟨_,_,_,_,o,_,_,e,ex,_⟩:=I.hok p _ hk
     exact⟨o,e,ex⟩
   obtain⟨o,e,ex⟩:=z
   refine⟨⟨o,e,ex.1⟩,fun a e2=>?_⟩
   cases e2
   exact⟨o,e,ex.2.1⟩
  ·obtain⟨o,_,_,_,e,ex,_⟩:=I.hok p _ hk
   refine⟨⟨o,e,ex.1⟩,fun a e2=>?_⟩
   cases e2
   exact⟨o,e,ex.2.1⟩
 |_=>exact False.elim ty
def tBM(K:PySem.W.Frag)(T:String)(r:V->List V->Hp->VK->Prop)(to:TE)(t:TA):TE:=fun σ H Q=>to σ H fun x H1=>tyV K T x H1/\t σ H1 fun xs H2=>r x xs H2 Q
variable {o e:Expr}{es:List Expr}{to:TE}{t:TA}{name:Str}{apos cpos:Pos}{T id:String}{r:V->List V->Hp->VK->Prop}
theorem lf(pa:PlainAttrs T)(slot:Slot T name id)(hty:typeOf (.builtin id)=pure (.type "method_descriptor"))(hm:MtR X id r)(ho:PE X o to)(ha:PA X (e :: es) t)
  (BT:attributeBase o name X.env (eval o X.env)=eval o X.env:=by rfl)
  (FZ:((backTo cpos (starEach (e :: es) X.env)).all (fun x => !x.1) && (backToKw cpos (keywordEach [] X.env)).all (fun x=>x.1.isSome)
   && decide ((e :: es).length + ([]:List Keyword).length + (if([]:List Keyword).isEmpty then 0 else 1) < 30))=true:=by rfl)
  (FT:(apos.endLine == cpos.line)=true:=by rfl) (hs:starEach (e :: es) X.env=(false,eval e X.env) :: starEach es X.env:=by rfl) (GD:(backTo cpos (starEach es X.env)).any (·.1)=false:=by rfl) :
  PE X (.Call (.Attribute o name apos) (e :: es) [] cpos) (tBM X.K T r to t):=by
 intro dl s σ H Q I h
 refine wpAny_Call_method_late BT FZ FT rfl (thn (ho dl s σ H _ I h) fun v s1 zz43_0=>?_)
 obtain⟨x,H1,I1,r1,ty,q1⟩:=zz43_0
 obtain⟨h1,h2⟩:=y7 I1 r1 ty
 refine⟨T,id,pa,slot,hty,h1,h2,?_⟩
 have hA:=ha cpos dl s1 σ H1 _ I1 q1
 rw[hs]at hA ⊢
 refine Fv (by show(false || (backTo cpos (starEach es X.env)).any (·.1))=false;rw[GD] <;> rfl) (Calls.evalArgs_plain ?_)
 exact thn hA fun us s2 zz44_0=>by obtain⟨vs,H2,I2,r2,q2⟩:=zz44_0;exact hm dl s2 σ H2 x vs v us Q I2 r1 r2 q2
end
def MtM(X:Cx)(id:String)(r:V->List V->Hp->VK->Prop):Prop :=
 ∀(dl:List (Addr×Obj)) (s:Shared) (σ:St) (H:Hp) (x:V) (xs:List V) (v:Value) (us:List Value) (Q:VK),Inv X dl σ H s->aJ x v->aM xs us->r x xs H Q ->
  wpAny (model X.prog X.w) X.A (call (.builtin id) (v :: us)) (EP X dl σ Q) X.xe s
theorem aM.one:∀{x:V}{us:List Value},aM [x] us->∃u,us=[u]/\aJ x u:=by
 intro x us h
 cases h with
 |cons r h=>cases h;exact⟨_,rfl,r⟩
theorem aM.two:∀{x y:V}{us:List Value},aM [x,y] us->∃u v,us=[u,v]/\aJ x u/\aJ y v:=by
 intro x y us h
 cases h with
 |cons r h=>cases h with
  |cons q h=>cases h;exact⟨_,_,rfl,r,q⟩
theorem aM.zero:∀{us:List Value},aM [] us->us=[]
 |_,.nil=>rfl
section
variable {X:Cx}{dl:List (Addr×Obj)} {σ:St}{H:Hp}{s:Shared}{l b:Addr}{xs ys zs:List V}
theorem Inv.lset{its its':List Value}{n:Nat}{f:Array Value->Array Value}{t':Nat}(I:Inv X dl σ H s)(hH:H l=some (.lst xs))
  (e:s.heap.get? l=some { cls:=.type "list",data:=.seq its.toArray n }) (hf:f its.toArray=its'.toArray) (hv:aM ys its') (hz:ys.length<=sizeLine) :
  Inv X dl σ (upd H l (.lst ys)) { s with heap:=s.heap.update l (Obj.mapSeq f),toks:=t' }:=by
 have q:=PySem.IsL.update e f
 rw[hf]at q
 refine I.write (x:=l) (e:=l) (by rw[hH];exact trivial) (.inl rfl) (fun b' u hb hu=>(Dp s.heap (Obj.mapSeq f) (Ne.symm hb)).trans hu) ⟨_,q⟩ ?_
 exact⟨hz,its',_,hv,q⟩
theorem Inv.lnew{its:List Value}{t':Nat}(I:Inv X dl σ H s)(hv:aM ys its)(hz:ys.length<=sizeLine) :
  Inv X dl σ (upd H s.heap.objs.size (.lst ys)) { s with heap:=s.heap.push { cls:=.type "list",data:=.seq its.toArray },toks:=t' } :=
 I.laid (fun _ _ q=>CO _ q) (CV _) ⟨hz,its,0,hv,CT _ rfl⟩
theorem Inv.fresh(I:Inv X dl σ H s):H s.heap.objs.size=none:=I.hok.fresh (CV _)
theorem Inv.lstM(I:Inv X dl σ H s)(hH:H l=some (.lst xs)):xs.length<=sizeLine/\∃(its:List Value) (n:Nat),aM xs its/\xs.length=its.length/\s.heap.get? l=some { cls:=.type "list",data:=.seq its.toArray n }:=by
 obtain⟨z,its,n,r,e⟩:=I.hok l _ hH
 exact⟨z,its,n,r,r.length,e⟩
end
section
variable {X:Cx}
def wO:V->List V->Hp->VK->Prop:=fun x vs H Q=>∃l xs y,x=.ref l/\vs=[y]/\H l=some (.lst xs)/\xs.length < sizeLine/\Q .non (upd H l (.lst (xs ++ [y])))
theorem lq:MtM X "list.append" wO:=by
 intro dl s σ H x vs v us Q I rx rv h
 obtain⟨l,xs,y,rfl,rfl,hH,hz,q⟩:=h
 cases rx
 obtain⟨u,rfl,ru⟩:=rv.one
 obtain⟨z,its,n,r,hl,e⟩:=I.lstM hH
 refine call_meets F.slot_list_append ⟨_,e,rfl⟩ F.entry_list_append (F.args_list_append_2 _ _) (PySem.list_append l its.toArray n u (by rw[C4];omega)) ⟨e,?_⟩
 refine⟨.non,_,I.lset (its':=its ++ [u]) hH e (by simp) (r.append (.cons ru .nil)) ?_,rfl,q⟩
 rw[C8,Dw]
 omega
def Bh:R2:=fun x y H Q=>∃l b xs zs,x=.ref l/\y=.ref b/\H l=some (.lst xs)/\H b=some (.lst zs)/\xs.length + zs.length<=sizeLine/\∀p,H p=none->Q (.ref p) (upd H p (.lst (xs ++ zs)))
theorem zV:OpR X (binaryOp .Add) Bh:=by
 intro dl s σ H x y v u Q I rx ry h
 obtain⟨l,b,xs,zs,rfl,rfl,hH,hB,hz,q⟩:=h
 cases rx
 cases ry
 obtain⟨z,its,n,r,hl,e⟩:=I.lstM hH
 obtain⟨z2,its2,n2,r2,hl2,e2⟩:=I.lstM hB
 refine PySem.P.add_list e e2 ?_ (by rw[C4,C4];lia)
 have ea:its.toArray ++ its2.toArray=(its ++ its2).toArray:=by simp
 rw[ea]
 exact⟨.ref _,_,I.lnew (t':=s.toks) (r.append r2) (by rw[C8];lia),rfl,q _ I.fresh⟩
theorem xE{α:Type}(xs:List α)(k:Nat):(List.replicate k xs).flatten.length=k * xs.length:=by
 induction k with
 |zero=>simp
 |succ k ih=>rw[DW,E_,C8,ih,Nat.succ_mul,Nat.add_comm]
end
end L2
namespace Att
open PySem PySem.W PySem.Calls PyProof.Rows
theorem je{P:Params}{h:Heap}:∀(ns:List Int) (vs:List Value),WellAll P h vs (ns.map WData.int)->IntsAre vs ns:=by
 intro ns
 induction ns with
 |nil =>
  intro vs w
  rw[CJ]at w
  cases w
  exact .nil
 |cons n ns ih =>
  intro vs w
  rw[CI]at w
  cases w with
  |cons a b =>
   cases a
   exact .cons _ _ (ih _ b)
theorem rS{l:OpenLaw}{n:Nat}(hn:l.most=some n){P:Params}{h:Heap}{args:List WData}{vals:List Value}
  (Gk:l.row.toRowW.claim.pre args=true) (hwl:WellAll P h vals args) :
  ∃a vs ns,vals=[Value.ref a]/\args=[WData.list (ns.map WData.int)]/\h.get? a=some { cls:=.type "list",data:=.seq vs.toArray }/\IntsAre vs ns/\ns.length<=n:=by
 have hsh:WShape.hasAll [] args [.list .int]=true:=(pre_splitW Gk).1
 have hc:l.pre.holds [] { args:=args }=true:=(pre_splitW Gk).2
 obtain⟨d,r,rfl,h1,h2⟩:=hasAllW_cons hsh
 obtain rfl:=hasAllW_nil h2
 obtain⟨xs,rfl,h3⟩:=hasW_list h1
 obtain⟨ns,rfl⟩:=items_int h3
 have Cl:ns.length<=n:=by
  unfold OpenLaw.pre at hc
  have h4:(WTm.not (.lt (.lit (.int (n:Int))) (.len (.arg 0)))).holds [] { args:=[.list (ns.map .int)] }=true:=by
   have h4:=(holds_andW hc).1
   rw[hn]at h4
   exact h4
  have h5:=condW_of h4 (w_not (w_lt w_lit (w_len_list (w_arg rfl))))
  rw[CQ]at h5
  refine Nat.le_of_not_lt fun q=>?_
  have q':(n:Int) < ((ns.length:Nat):Int):=by omega
  first
   | (rw[Df q']at h5;exact absurd h5 (by decide))
   | (simp at h5;omega)
 cases hwl with
 |cons w1 w2 =>
  cases w2
  cases w1 with
  |list ho FX=>exact⟨_,_,ns,rfl,rfl,ho,je ns _ FX,Cl⟩
theorem r8(l:OpenLaw)(args:List WData):l.row.toRowW.claim.post args (.bool true) args=true :=
 postW_of (r:=l.row.toRowW) (X:=(true == true))
  (show WShape.has [] (.bool true) .bool=true by first |rfl |decide |simp[WShape.has,WShape.arms,WShape.armsAll])
  (show(WTm.eq .res (.lit (.bool true))).value [] { args:=args,res:=some (.bool true),after:=args }=some (.bool (true == true)) from w_eq_bool (w_res rfl) w_lit) rfl
end Att
namespace L2
open PySem PySem.Spec PyProof.Rows
theorem kS:∀{vs:List Value}{ns:List Int},IntsAre vs ns->aM (ns.map V.int) vs
 |_,_,.nil=>.nil
 |_,_,.cons n t h=>.cons ⟨t,rfl⟩ (kS h)
def AJ(H:Hp):Prop:=∀b,H b=none\/∃o xs,H b=some (.frz o (.lst xs))
theorem vn{P:Program}{w:World}{K:PySem.W.Frag}{mg mb:Str->Option Value}{CX:CXT}{k:Nat}{fa a:Addr}{fd:FuncData}{x:Str}{sp:Sp}{s₁:Shared}{vs:List Value}{ns:List Int}
  (KX:K.In s₁.heap) (hns:s₁.heap.Ns mainGlobals mg) (hb:s₁.heap.Ns builtinsNs mb) (hbb:∀x:Str,x ≠ "__name__"->mb x=bootBuiltins x) (GX:s₁.heap.NoLimit) (hg:s₁.gens=#[])
  (ha:s₁.heap.get? a=some { cls:=.type "list",data:=.seq vs.toArray }) (hi:IntsAre vs ns) (hl:ns.length<=sizeLine) (hr:ca k callerA)
  (F:∀base:Heap,K.In base->base.Ns mainGlobals mg->a9 P w K mg base CX k fa fd [x] sp) (GJ:∀(s:Shared) (u:Value),BindsTo s fd ⟨[u],[]⟩ [(x,u)])
  (hsp:∀H:Hp,AJ H->SqL K H a (ns.map V.int)->sp [.ref a] H (fun v _=>v=.bl true) fun _ _ _=>False)
  (hCX:∀H e s',CX [] H s₁ (fun _ _ _=>False) e s'->False) :
  codeAny (model P w) callerA (.call (.ref fa) ⟨[.ref a],[]⟩) (fun r s'=>r=.ok (.ret (.bool true))/\OldK s₁.heap s'.heap/\s'.os=s₁.os/\AllBare s'.gens) s₁:=by
 have rv:=kS hi
 have lenV:=hi.length
 have core:∀H:Hp,AJ H->SqL K H a (ns.map V.int)->HOk P w H s₁.heap->(∀b,H b ≠ none->b=a)->(H a ≠ none->K.lookup a=none) ->
   codeAny (model P w) callerA (.call (.ref fa) ⟨[.ref a],[]⟩) (fun r s'=>r=.ok (.ret (.bool true))/\OldK s₁.heap s'.heap/\s'.os=s₁.os/\AllBare s'.gens) s₁:=by
  intro H hO hS hok hA hK
  have base_of:∀{b:Addr}{o:Obj},s₁.heap.get? b=some o->H b=none->(mB s₁.heap H).get? b=some o:=fun e n=>vC e n
  have noA:∀{b:Addr}{o:Obj}{es:Array DictEntry}{ep:Nat},s₁.heap.get? b=some o->o.data=.dict es ep->H b=none:=fun {b o es ep} e d=>by
   cases q:H b with
   |none=>rfl
   |some u =>
    have e':b=a:=hA b (by rw[q];simp)
    subst e'
    rw[ha]at e;cases e
    have d':Data.seq vs.toArray _=Data.dict es ep:=d
    cases d'
  have nsK:∀{b:Addr}{m:Str->Option Value},s₁.heap.Ns b m->(mB s₁.heap H).Ns b m:=fun {b m} zz45_0=>by obtain⟨o,es,ep,e,d,r⟩:=zz45_0;exact⟨o,es,ep,base_of e (noA e d),d,r⟩
  have hKb:K.In (mB s₁.heap H):=fun b o e=>base_of (KX b o e) (by
   cases q:H b with
   |none=>rfl
   |some u =>
    have e':b=a:=hA b (by rw[q];simp)
    subst e'
    rw[hK (by rw[q];simp)]at e;cases e)
  have hM:Mod K mg (mB s₁.heap H):=⟨hKb,nsK hns,⟨mb,nsK hb,hbb⟩,let ⟨mc,h1,h2⟩:=GX; ⟨mc,nsK h1,h2⟩⟩
  have e0:qj P w K mg (mB s₁.heap H) callerA [] s₁ H:=⟨rfl,hM,fun b o e=>xu e,Nat.le_of_eq (sR _ _),trivial,fun b hb=>absurd (show b ∈ ([]:List Addr) from hb) (by simp),hok,.of_eq hg⟩
  refine EO ((F _ hKb (nsK hns)).run callerA [] s₁ H ⟨[.ref a],[]⟩ [.ref a] [.ref a] _ _ hr e0 (GJ s₁ (.ref a)) (.cons rfl .nil) (hsp H hO hS)) fun r s' h=>?_
  cases r with
  |error e=>exact(hCX H e s' h).elim
  |ok fl =>
   cases fl with
   |next=>exact False.elim h
   |brk=>exact False.elim h
   |cont=>exact False.elim h
   |ret u =>
    obtain⟨v,H',os,bare,un,G1,r',q⟩:=h
    have q':v=.bl true:=q
    subst q'
    obtain rfl:u=Value.bool true:=r'
    refine⟨rfl,OldK.of_keep fun b o e=>?_,os,bare⟩
    cases q:H b with
    |none=>exact un.keep b o e q (by intro z;exact absurd (show b ∈ ([]:List Addr) from z) (by simp)) (by simp)
    |some u =>
     rcases hO b with z |⟨ob,xs,z⟩
     ·rw[q]at z;cases z
     ·have z2:=un.frzs b ob _ z
      obtain⟨e1,_⟩:=hok b _ z
      obtain⟨e2,_⟩:=G1 b _ z2
      rw[e]at e1;cases e1
      exact e2
 cases hk:K.lookup a with
 |some o =>
  have e:=KX a o hk
  rw[ha]at e
  cases e
  refine core (fun _=>none) (fun _=>.inl rfl) (.inr ⟨_,vs.toArray,_,hk,rfl,rfl,rfl,by rw[C4,lenV];exact hl,by simpa using rv⟩) (fun b u z=>by have z':(none:Option HO)=some u:=z;cases z') (fun b z=>absurd rfl z) fun z=>absurd rfl z
 |none =>
  refine core (fun b=>if b=a then some (.frz { cls:=.type "list",data:=.seq vs.toArray } (.lst (ns.map V.int))) else none) (fun b=>?_) (.inl (.inr ⟨{ cls:=.type "list",data:=.seq vs.toArray },if_pos rfl⟩)) (fun b u z=>?_) (fun b z=>?_) fun _=>hk
  ·by_cases hb:b=a
   ·exact .inr ⟨_,_,if_pos hb⟩
   ·exact .inl (if_neg hb)
  ·by_cases hb:b=a
   ·have z':=(if_pos hb).symm.trans z
    cases z'
    subst hb
    exact⟨ha,by rw[CQ];exact hl,vs,_,rv,ha⟩
   ·have z':=(if_neg hb).symm.trans z
    cases z'
  ·by_cases hb:b=a
   ·exact hb
   ·exact absurd (if_neg hb) z
abbrev CX0:CXT:=fun _ _ _ _ _ _=>False
abbrev E0:XK:=fun _ _ _=>False
theorem Bq{X:Cx}:qh CX0 X E0:=fun _ _ _ _ _ _ _ h=>h.elim
structure Fun (K:PySem.W.Frag) (x qual:Str) (st:Stmt) (f:Addr) (fd:FuncData):Prop where
 ex:∃(oc:Value) (od:Option Addr) (kV doc pm:Value) (an:Option Addr) (cdv ct:Value) (osl:Array (Option Value)),
  fd=PySem.W.fnOf x qual (il st) (cG st) (ao st) .none kV doc pm an cdv ct/\K.lookup f=some ⟨oc,od,.func fd,osl⟩/\PySem.W.codeIn K cdv qual=true
 kp:PySem.W.keepIn K (.ref f)=true
section
variable {P:Program}{w:World}{K:PySem.W.Frag}{mg:Str->Option Value}{base:Heap}
theorem Fun.ok{x qual:Str}{st:Stmt}{f:Addr}{fd:FuncData}{N ps:List Str}{k:Nat}{sp:Sp}(F:Fun K x qual st f fd)(S:aS N ps (ao st))(len:∀vs H Q E,sp vs H Q E->vs.length=ps.length)
  (FU:∀(cdv:Value) (A:Around) (outer:List Env) (s:Shared) (H:Hp) (vs:List V) (Q:VK) (E:XK),ca k (A.deeper (envOfC qual (ao st) s.heap.objs.size f cdv))->sp vs H Q E ->
   ∃t,PSs (iN CX0 P w K mg base N qual (ao st) f cdv A outer s H E).nox (cG st) t/\t { nx:=fun _ H'=>Q .non H',rt:=Q } (start N vs) H):a9 P w K mg base CX0 (k + 1) f fd ps sp:=by
 obtain⟨oc,od,kV,doc,pm,an,cdv,ct,osl,rfl,lk,hcd⟩:=F.ex
 refine yP lk hcd S len fun A outer s H vs Q E hr hsp=>?_
 obtain⟨t,h,q⟩:=FU cdv A outer s H vs Q E hr hsp
 exact⟨t,h.nox,q⟩
theorem Fun.binds{x qual:Str}{st:Stmt}{f:Addr}{fd:FuncData}{ps:List Str}(F:Fun K x qual st f fd)
  (h:∀(kV doc pm:Value) (an:Option Addr) (cdv ct:Value) (us:List Value),us.length=ps.length->bindArgs (PySem.W.fnOf x qual (il st) (cG st) (ao st) .none kV doc pm an cdv ct) ⟨us,[]⟩=pure (ps.zip us)):eW K fd ps []:=by
 obtain⟨oc,od,kV,doc,pm,an,cdv,ct,osl,rfl,lk,hcd⟩:=F.ex
 exact .all (h kV doc pm an cdv ct)
end
section
variable {X:Cx}
theorem pv(i:Nat){x:Str}{pos:Pos}(hN:X.N[i]? = some x:=by rfl)(hv:Vis X.env.scope x:=by first |exact Or.inl rfl |exact Or.inr (Or.inl rfl) |exact Or.inr (Or.inr rfl))(hd:(x == ("__debug__" : Str))=false:=by decide)
  (hcd:(x == ("__classdict__" : Str))=false:=by decide):PE X (.Name x pos) (g8 i):=gN hN hv hd hcd
end
theorem ow{A B:Prop}(h:B):if false=true then A else B:=by
 rw[if_neg C3]
 exact h
theorem ou{A B:Prop}(h:A):if true=true then A else B:=by
 rw[if_pos rfl]
 exact h
def yt(H H':Hp):Prop:=∀b o,H b=some o->H' b=some o
theorem yt.free{H H':Hp}(e:yt H H'){l:Addr}(h:H' l=Option.none):H l=Option.none:=by
 cases q:H l with
 |none=>rfl
 |some o =>
  rw[e l o q]at h
  cases h
theorem yt.seq{K:PySem.W.Frag}{H H':Hp}{a:Addr}{xs:List V}(e:yt H H')(h:SqL K H a xs):SqL K H' a xs:=by
 rcases h with(h |⟨o,h⟩) |h
 ·exact .inl (.inl (e _ _ h))
 ·exact .inl (.inr ⟨o,e _ _ h⟩)
 ·exact .inr h
section
variable {κ:Type} [DecidableEq κ]
def eC(kvs:List (κ×V))(k:κ):Option V:=(kvs.find? fun kv=>decide (kv.1=k)).map (·.2)
def fE(kvs:List (κ×V))(k:κ)(v:V):List (κ×V) :=
 if(kvs.any fun kv=>decide (kv.1=k))=true then kvs.map (fun kv=>if kv.1=k then(kv.1,v) else kv) else kvs ++ [(k,v)]
theorem m8{p:κ×V}{r:List (κ×V)}{k:κ}(e:p.1=k):eC (p :: r) k=some p.2:=by simp[eC,DO,e]
theorem m9{p:κ×V}{r:List (κ×V)}{k:κ}(e:¬p.1=k):eC (p :: r) k=eC r k:=by simp[eC,DO,e]
theorem nZ(kvs:List (κ×V))(k:κ)(v:V):(fE kvs k v).length<=kvs.length + 1:=by
 unfold fE
 split
 ·rw[CQ];lia
 ·rw[C8,CG,CH];lia
theorem d6.isSome_eq{o:Option V}{u:Option Value}(r:d6 o u):o.isSome=u.isSome:=by
 cases o with
 |none=>cases u with
  |none=>rfl
  |some _=>exact(show False from r).elim
 |some _=>cases u with
  |none=>exact(show False from r).elim
  |some _=>rfl
theorem d6.getD{o:Option V}{u:Option Value}{d:V}{d':Value}(r:d6 o u)(rd:aJ d d'):aJ (o.getD d) (u.getD d'):=by
 cases o with
 |none=>cases u with
  |none=>exact rd
  |some _=>exact(show False from r).elim
 |some _=>cases u with
  |none=>exact(show False from r).elim
  |some _=>exact r
theorem KV.val{kvs:List (κ×V)}{vs:List (κ×Value)}(r:KV kvs vs)(k:κ):d6 (eC kvs k) (valueAt vs k):=by
 unfold KV at r
 induction r with
 |nil=>exact True.intro
 |@cons p q ps qs h t ih =>
  obtain⟨h1,h2⟩:=h
  by_cases e:p.1=k
  ·have e':q.1=k:=h1.symm.trans e
   have b:valueAt (q :: qs) k=some q.2:=by simp[valueAt,DO,e']
   rw[m8 e,b];exact h2
  ·have e':¬q.1=k:=fun z=>e (h1.trans z)
   have b:valueAt (q :: qs) k=valueAt qs k:=by simp[valueAt,DO,e']
   rw[m9 e,b];exact ih
theorem KV.any{kvs:List (κ×V)}{vs:List (κ×Value)}(r:KV kvs vs)(k:κ):(kvs.any fun kv=>decide (kv.1=k))=vs.any fun kv=>decide (kv.1=k):=by
 unfold KV at r
 induction r with
 |nil=>rfl
 |cons h t ih=>rw[Ez,Ez,ih,h.1]
theorem KV.repl{kvs:List (κ×V)}{vs:List (κ×Value)}(r:KV kvs vs)(k:κ){y:V}{u:Value}(ry:aJ y u) :
  KV (kvs.map fun kv=>if kv.1=k then(kv.1,y) else kv) (vs.map fun kv=>if kv.1=k then(kv.1,u) else kv):=by
 unfold KV at r ⊢
 induction r with
 |nil=>exact .nil
 |@cons p q ps qs h t ih =>
  rw[CI,CI]
  refine .cons ?_ ih
  obtain⟨h1,h2⟩:=h
  by_cases e:p.1=k
  ·rw[if_pos e,if_pos (h1.symm.trans e)];exact⟨h1,ry⟩
  ·rw[if_neg e,if_neg (fun z=>e (h1.trans z))];exact⟨h1,h2⟩
theorem KV.put{kvs:List (κ×V)}{vs:List (κ×Value)}(r:KV kvs vs)(k:κ){y:V}{u:Value}(ry:aJ y u):KV (fE kvs k y) (stored vs k u):=by
 unfold fE stored
 rw[r.any k]
 by_cases e:(vs.any fun kv=>decide (kv.1=k))=true
 ·rw[if_pos e,if_pos e];exact r.repl k ry
 ·rw[if_neg e,if_neg e];exact Paired.snoc r ⟨rfl,ry⟩
theorem KV.keys{kvs:List (κ×V)}{vs:List (κ×Value)}(r:KV kvs vs):kvs.map (·.1)=vs.map (·.1):=by
 unfold KV at r
 induction r with
 |nil=>rfl
 |cons h t ih=>rw[CI,CI,ih,h.1]
theorem KV.length{kvs:List (κ×V)}{vs:List (κ×Value)}(r:KV kvs vs):kvs.length=vs.length:=Paired.length r
end
theorem ly{P:Program}{w:World}{k:Key}{u:Value}(r:aJ (kV k) u):(az P w).is k u=true:=by
 match k,r with
 |.inl (some i),r=>obtain⟨t,e⟩:=(show ∃t,u=Value.int i t from r);subst e;exact nT P w i t
 |.inl none,r=>cases(show u=Value.none from r);exact sN
 |.inr x,r=>obtain⟨t,e⟩:=(show ∃t,u=Value.str x t from r);subst e;exact nS P w x t
theorem lz{P:Program}{w:World}:∀{ks:List Key}{us:List Value},aM (ks.map kV) us->ItemsAre (az P w) ks us
 | [],_,r=>by rw[CJ]at r;cases r;exact .nil
 |k :: ks,_,r=>by
  rw[CI]at r
  cases r with
  |cons h t=>exact .cons (ly h) (lz t)
abbrev KT(H:Hp):List (List Key×V)->List (List Key×Addr×Value)->Prop:=Paired fun p q=>p.1=q.1/\H q.2.1=some (.tup (p.1.map kV))/\aJ p.2 q.2.2
theorem KT.val{H:Hp}{kvs:List (List Key×V)}{xs:List (List Key×Addr×Value)}(r:KT H kvs xs)(k:List Key):d6 (eC kvs k) ((atKey xs k).map (·.2)):=by
 induction r with
 |nil=>exact True.intro
 |@cons p q ps qs h t ih =>
  obtain⟨h1,_,h2⟩:=h
  by_cases e:p.1=k
  ·have e':q.1=k:=h1.symm.trans e
   have b:atKey (q :: qs) k=some q.2:=by simp[atKey,DO,e']
   rw[m8 e,b];exact h2
  ·have e':¬q.1=k:=fun z=>e (h1.trans z)
   have b:atKey (q :: qs) k=atKey qs k:=by simp[atKey,DO,e']
   rw[m9 e,b];exact ih
section
variable {P:Program}{w:World}{H:Hp}{h:Heap}{a:Addr}
theorem yC{u:HO}(ok:HOk P w H h)(e:Rd H a u):bw P w H h a u:=e.ok ok
theorem dm{kvs:List (Key×V)}(ok:HOk P w H h)(e:Rd H a (.dK kvs)):kvs.length<=sizeLine/\(a == sysModules)=false/\∃vs,KV kvs vs/\h.DictOf (az P w) a vs :=
 show bw P w H h a (.dK kvs) from yC ok e
theorem ro{kvs:List (Key×V)}(ok:HOk P w H h)(e:H a=some (.dK kvs)):kvs.length<=sizeLine/\(a == sysModules)=false/\∃vs,KV kvs vs/\h.DictOf (az P w) a vs:=dm ok (.inl e)
theorem gR{ks:List Key}(ok:HOk P w H h)(e:H a=some (.tup (ks.map kV))):(tupleKind (az P w)).is h ks a:=by
 obtain⟨_,its,r,o,h1,h2,n,h3⟩:=(show bw P w H h a (.tup (ks.map kV)) from ok a _ e)
 exact⟨o,its.toArray,n,h1,h2,h3,by simpa using lz r⟩
theorem kj{kvs:List (List Key×V)}(ok:HOk P w H h)(e:Rd H a (.dT kvs)):kvs.length<=sizeLine/\(a == sysModules)=false /\
  ∃xs,KT H kvs xs/\h.DictOfH (tupleKind (az P w)) a xs:=by
 obtain⟨z,y,xs,r,o,es,ep,h1,h2,h3,h4,h5⟩:=(show bw P w H h a (.dT kvs) from yC ok e)
 refine⟨z,y,xs,r,o,es,ep,h1,h2,h3,h4,fun x hx=>?_,h5⟩
 have all:∀{l:List (List Key×V)} {m:List (List Key×Addr×Value)},KT H l m->∀x ∈ m,(tupleKind (az P w)).is h x.1 x.2.1:=by
  intro l m q
  induction q with
  |nil=>intro x hx;exact nomatch hx
  |@cons p q ps qs hq t ih =>
   intro x hx
   rcases List.mem_cons.mp hx with e |hx
   ·subst e
    exact gR ok (by rw[<-hq.1];exact hq.2.1)
   ·exact ih x hx
 exact all r x hx
theorem BO{kvs:List (List Key×V)}(ok:HOk P w H h)(e:H a=some (.dT kvs)):kvs.length<=sizeLine/\(a == sysModules)=false /\
  ∃xs,KT H kvs xs/\h.DictOfH (tupleKind (az P w)) a xs:=kj ok (.inl e)
end
def kQ(H:Hp)(a:Addr)(y:V)(r:Option V):Prop :=
 (∃kvs k,Rd H a (.dK kvs)/\y=kV k/\r=eC kvs k)\/∃kvs k b,Rd H a (.dT kvs)/\y=.ref b/\H b=some (.tup (k.map kV))/\r=eC kvs k
section
variable {X:Cx}{dl:List (Addr×Obj)} {σ:St}{H:Hp}{s:Shared}{a:Addr}{y v:V}{u r:Value}{o:Option V}{A:Around}{E:Value->Shared->Prop}
theorem Inv.big(I:Inv X dl σ H s):sysModules < s.heap.objs.size:=by
 have h:mainGlobals < s.heap.objs.size:=(I.mod.glob.keeps I.bk).lt
 exact Nat.lt_trans (by decide) h
theorem tj{Q:Value->Shared->Prop}(hu:A.units + 1 < cLine)(I:Inv X dl σ H s)(g:kQ H a y (some v))(ry:aJ y u)(h:∀w' s',Inv X dl σ H s'->aJ v w'->Q w' s') :
  wpAny (model X.prog X.w) A (getItem (.ref a) u) Q E s:=by
 rcases g with⟨kvs,k,e,ey,l⟩ |⟨kvs,k,b,e,ey,eb,l⟩
 ·subst ey
  obtain⟨z,hd,vs,rel,dd⟩:=dm I.hok e
  obtain⟨w',hw,rw'⟩:=d6.some_of (v:=v) (o:=valueAt vs k) (by rw[l];exact rel.val k)
  exact wpAny_getItem_of (ly ry) dd.mapOf hw (h w' _ (I.tok _) rw')
 ·subst ey
  cases(show u=Value.ref b from ry)
  obtain⟨z,hd,xs,rel,dd⟩:=kj I.hok e
  obtain⟨w',hw,rw'⟩:=d6.some_of (v:=v) (o:=(atKey xs k).map (·.2)) (by rw[l];exact rel.val k)
  obtain⟨p,hp,hp2⟩:=Option.map_eq_some_iff.mp hw
  refine wpAny_getItem_heap (Fd hu) (gR I.hok eb) dd hp ?_
  rw[hp2]
  exact h w' _ (I.tok _) rw'
theorem Cr{Q:Value->Shared->Prop}(hu:A.units + 1 < cLine)(I:Inv X dl σ H s)(g:kQ H a y o)(ry:aJ y u)(h:∀s',Inv X dl σ H s'->Q (.bool o.isSome) s') :
  wpAny (model X.prog X.w) A (compareOp .In u (.ref a)) Q E s:=by
 rcases g with⟨kvs,k,e,ey,l⟩ |⟨kvs,k,b,e,ey,eb,l⟩
 ·subst ey
  obtain⟨z,hd,vs,rel,dd⟩:=dm I.hok e
  refine wpAny_in_of (ly ry) hd dd.mapOf ?_
  rw[<-(rel.val k).isSome_eq,<-l]
  exact h _ (I.tok _)
 ·subst ey
  cases(show u=Value.ref b from ry)
  obtain⟨z,hd,xs,rel,dd⟩:=kj I.hok e
  refine wpAny_in_heap (Fd hu) (gR I.hok eb) hd dd ?_
  have q:=(rel.val k).isSome_eq
  rw[Option.isSome_map]at q
  rw[<-q,<-l]
  exact h _ (I.tok _)
theorem yh{Q:Value->Shared->Prop}(hu:A.units + 1 < cLine)(I:Inv X dl σ H s)(g:kQ H a y o)(ry:aJ y u)(h:∀s',Inv X dl σ H s'->Q (.bool (!o.isSome)) s') :
  wpAny (model X.prog X.w) A (compareOp .NotIn u (.ref a)) Q E s:=by
 rcases g with⟨kvs,k,e,ey,l⟩ |⟨kvs,k,b,e,ey,eb,l⟩
 ·subst ey
  obtain⟨z,hd,vs,rel,dd⟩:=dm I.hok e
  refine wpAny_notIn_of (ly ry) hd dd.mapOf ?_
  rw[<-(rel.val k).isSome_eq,<-l]
  exact h _ (I.tok _)
 ·subst ey
  cases(show u=Value.ref b from ry)
  obtain⟨z,hd,xs,rel,dd⟩:=kj I.hok e
  refine wpAny_notIn_heap (Fd hu) (gR I.hok eb) hd dd ?_
  have q:=(rel.val k).isSome_eq
  rw[Option.isSome_map]at q
  rw[<-q,<-l]
  exact h _ (I.tok _)
theorem jt{h':Heap}{t':Nat}{ob:HO}(I:Inv X dl σ H s)(mu:Mut (H a))(hs:Heap.SameBut a s.heap h')(he:∃q,h'.get? a=some q)(new:bw X.prog X.w (upd H a ob) h' a ob) :
  Inv X dl σ (upd H a ob) { s with heap:=h',toks:=t' } :=
 I.write (x:=a) (e:=a) mu (.inl rfl) (fun b q hb z=>(hs.2 b hb).trans z) he new
theorem qa{P:Program}{w:World}{H':Hp}{h':Heap}{kvs:List (Key×V)}{vs:List (Key×Value)}(z:kvs.length<=sizeLine)(hd:(a == sysModules)=false)(rel:KV kvs vs)(dd:h'.DictOf (az P w) a vs) :
  bw P w H' h' a (.dK kvs):=⟨z,hd,vs,rel,dd⟩
end
section
variable {X:Cx}{dl:List (Addr×Obj)} {σ:St}{H:Hp}{s:Shared}{a:Addr}{kvs:List (Key×V)} {k:Key}{u:Value}{A:Around}{E:Value->Shared->Prop}
theorem BP{Q:Value->Shared->Prop}(I:Inv X dl σ H s)(e:Rd H a (.dK kvs))(h:∀t s',Inv X dl σ H s'->Q (.int kvs.length t) s'):wpAny (model X.prog X.w) A (call (.builtin "len") [.ref a]) Q E s:=by
 obtain⟨z,hd,vs,rel,dd⟩:=dm I.hok e
 refine call_len_dict hd dd (by rw[<-rel.length];rw[EA]at z;lia) ?_
 rw[<-rel.length]
 exact h _ _ (I.tok _)
end
def BX(i:Expr):Prop:=∀ov iv,subscripted i false ov iv=operate [ov,iv] (getItem ov iv)
theorem wB{prog:Program}{w:World}{A:Around}{E:Value->Shared->Prop}{s:Shared}{env:Env}{value slice:Expr}{pos:Pos}{T id:String}{Q:Value->Shared->Prop}
  (hl:typeLookup (.type T) "__getitem__" = pure (some (.builtin id))) (hs:BX slice)
  (h:wpAny (model prog w) A (eval value env) (fun o s₁=>wpAny (model prog w) A (eval slice env) (fun i s₂=>s₂.TypeIs o T/\wpAny (model prog w) A (getItem o i) Q E s₂) E s₁) E s) :
  wpAny (model prog w) A (eval (.Subscript value slice pos) env) Q E s:=by
 refine Subscript_ (Dc h (fun o s₁ h₁=>Dc h₁ (fun i s₂ h₂=>?_) fun _ _ x=>x) fun _ _ x=>x)
 obtain⟨hT,h₂⟩:=h₂
 unfold subscriptTail
 refine CN ?_
 rw[getitemInPython_of_ne hT.not_modules]
 refine CN (wpAny_specialOf hT hl ?_)
 have fin:wpAny (model prog w) A (subscripted slice false o i) (fun r s₃=>wpAny (model prog w) A (letTemporaryGo value o r >>= fun _=>pure r) Q E s₃) E s₂:=by
  rw[hs o i]
  exact wpAny_operating (Dc h₂ (fun r s₃ h₃=>CN (wpAny_letTemporaryGo (CP h₃))) fun _ _ x=>x)
 first
  |exact CP (CN fin)
  |exact CN (CP (CN fin))
  |exact CN fin
theorem oU{X:Cx}{dl:List (Addr×Obj)}{σ:St}{H:Hp}{s:Shared}{a:Addr}{y:V}{o:Option V}(I:Inv X dl σ H s)(g:kQ H a y o):s.TypeIs (.ref a) "dict" := by
 rcases g with⟨kvs,k,e,_,_⟩ |⟨kvs,k,b,e,_,_,_⟩
 ·obtain⟨_,_,vs,_,dd⟩:=dm I.hok e
  exact dd.typeIs
 ·obtain⟨_,_,xs,_,dd⟩:=kj I.hok e
  exact dd.typeIs
def A2(td ty:TE):TE:=fun σ H Q=>td σ H fun x H1=>ty σ H1 fun y H2=>∃a v,x=.ref a/\kQ H2 a y (some v)/\Q v H2
def A1(ty td:TE):TE:=fun σ H Q=>ty σ H fun y H1=>td σ H1 fun x H2=>∃a o,x=.ref a/\kQ H2 a y o/\Q (.bl o.isSome) H2
def qu(ty td:TE):TE:=fun σ H Q=>ty σ H fun y H1=>td σ H1 fun x H2=>∃a o,x=.ref a/\kQ H2 a y o/\Q (.bl (!o.isSome)) H2
section
variable {X:Cx}{o i e value:Expr}{pos pos' tpos:Pos}{td ty tv:TE}
theorem xg(hu:X.A.units + 1 < cLine)(ho:PE X o td)(hi:PE X i ty)(hs:BX i):PE X (.Subscript o i pos) (A2 td ty):=by
 intro dl s σ H Q I h
 refine wB PySem.F.slot_dict_getitem.lookup hs (thn (ho dl s σ H _ I h) fun u s1 ⟨x,H1,I1,rx,q1⟩=>thn (hi dl s1 σ H1 _ I1 q1) fun iv s2 zz47_0=>?_)
 obtain⟨y,H2,I2,ry,a,v,ex,g,q2⟩:=zz47_0
 subst ex
 obtain rfl:u=Value.ref a:=rx
 exact⟨oU I2 g,tj hu I2 g ry fun w' s3 I3 rw'=>⟨v,H2,I3,rw',q2⟩⟩
theorem zP(hu:X.A.units + 1 < cLine)(hi:PE X i ty)(ho:PE X o td):PC X .In i o (A1 ty td):=by
 intro dl s σ H Q I h
 refine thn (hi dl s σ H _ I h) fun iv s1 ⟨y,H1,I1,ry,q1⟩=>thn (ho dl s1 σ H1 _ I1 q1) fun u s2 zz49_0=>?_
 obtain⟨x,H2,I2,rx,a,ov,ex,g,q2⟩:=zz49_0
 subst ex
 obtain rfl:u=Value.ref a:=rx
 exact Cr hu I2 g ry fun s3 I3=>⟨.bl ov.isSome,H2,I3,rfl,q2⟩
theorem sg(hu:X.A.units + 1 < cLine)(hi:PE X i ty)(ho:PE X o td):PC X .NotIn i o (qu ty td):=by
 intro dl s σ H Q I h
 refine thn (hi dl s σ H _ I h) fun iv s1 ⟨y,H1,I1,ry,q1⟩=>thn (ho dl s1 σ H1 _ I1 q1) fun u s2 zz51_0=>?_
 obtain⟨x,H2,I2,rx,a,ov,ex,g,q2⟩:=zz51_0
 subst ex
 obtain rfl:u=Value.ref a:=rx
 exact yh hu I2 g ry fun s3 I3=>⟨.bl (!ov.isSome),H2,I3,rfl,q2⟩
end
theorem oS{P:Program}{w:World}{H:Hp}(h:Heap)(hb:sysModules < h.objs.size):bw P w H (h.push { cls:=.type "dict",data:=.dict #[] }) h.objs.size (.dK []) :=
 ⟨DV _,beq_eq_false_iff_ne.mpr (Ne.symm (C5 hb)),[],.nil,Heap.DictOf.new h⟩
theorem v6{P:Program}{w:World}{H:Hp}(h:Heap)(hb:sysModules < h.objs.size):bw P w H (h.push { cls:=.type "dict",data:=.dict #[] }) h.objs.size (.dT []) :=
 ⟨DV _,beq_eq_false_iff_ne.mpr (Ne.symm (C5 hb)),[],.nil,_,#[],0,CT _ rfl,⟨rfl,rfl,rfl⟩,rfl,rfl,List.nodup_nil⟩
def y9:TE:=fun _ H Q=>∀p,H p=none->Q (.ref p) (upd H p (.dK []))
section
variable {X:Cx}{pos:Pos}
theorem uM:PE X (.Dict [] [] pos) y9:=fun dl s σ H Q I h =>
 wpAny_Dict_empty ⟨.ref s.heap.objs.size,_,I.laid (a:=s.heap.objs.size) (o:=.dK []) (t':=s.toks) (fun _ _ q=>CO _ q) (CV _) (oS s.heap I.big),rfl,h _ (I.hok.fresh (CV _))⟩
end
def pj:List (TE×TE)->St->Hp->(List (V×V)->Hp->Prop)->Prop
 | [],_,H,Q=>Q [] H
 | (tk,tv) :: r,σ,H,Q=>tk σ H fun x H1=>tv σ H1 fun y H2=>pj r σ H2 fun ps H3=>Q ((x,y) :: ps) H3
abbrev VV:List (V×V)->List (Value×Value)->Prop:=Paired fun p q=>aJ p.1 q.1/\aJ p.2 q.2
def PPs(X:Cx)(pos:Pos)(keys:List (Option Expr))(values:List Expr)(trs:List (TE×TE)):Prop :=
 ∀(dl:List (Addr×Obj)) (s:Shared) (σ:St) (H:Hp) (Q:List (V×V)->Hp->Prop),Inv X dl σ H s->pj trs σ H Q ->
  wpAny (model X.prog X.w) X.A (evalPairs (pairTrees keys values X.env pos)) (fun vs s'=>∃ps H',Inv X dl σ H' s'/\VV ps vs/\Q ps H') X.xe s
theorem wW{X:Cx}{pos:Pos}:PPs X pos [] [] []:=fun dl s σ H Q I h=>pairTrees_nil_walk ⟨[],H,I,.nil,h⟩
theorem uC{X:Cx}{pos:Pos}{k v:Expr}{ks:List (Option Expr)}{vs:List Expr}{tk tv:TE}{trs:List (TE×TE)}(hk:PE X k tk)(hv:PE X v tv)(hr:PPs X pos ks vs trs) :
  PPs X pos (some k :: ks) (v :: vs) ((tk,tv) :: trs):=fun dl s σ H Q I h =>
 pairTrees_cons_walk (thn (hk dl s σ H _ I h) fun u s1 ⟨x,H1,I1,rx,q1⟩=>thn (hv dl s1 σ H1 _ I1 q1) fun w2 s2 ⟨y,H2,I2,ry,q2⟩ =>
  thn (hr dl s2 σ H2 _ I2 q2) fun ws s3 zz54_0=>by obtain⟨ps,H3,I3,rel,q3⟩:=zz54_0;exact⟨(x,y) :: ps,H3,I3,.cons ⟨rx,ry⟩ rel,q3⟩)
def gQ(kvs more:List (Key×V)):List (Key×V):=more.foldl (fun acc kv=>fE acc kv.1 kv.2) kvs
theorem KV.merge:∀{more:List (Key×V)} {rs:List (Key×Value)} {kvs:List (Key×V)} {vs:List (Key×Value)},KV more rs->KV kvs vs->KV (gQ kvs more) (merged vs rs):=by
 intro more rs kvs vs r
 unfold KV at r
 induction r generalizing kvs vs with
 |nil=>intro q;exact q
 |@cons p q ps qs h t ih =>
  intro r0
  have e:KV (fE kvs p.1 p.2) (stored vs q.1 q.2):=by
   have:=r0.put p.1 h.2
   rw[<-h.1];exact this
  exact ih e
theorem eD:∀(more kvs:List (Key×V)),(gQ kvs more).length<=kvs.length + more.length
 | [],kvs=>by show kvs.length<=kvs.length + 0;lia
 |p :: r,kvs=>by
  have h1:=eD r (fE kvs p.1 p.2)
  have h2:=nZ kvs p.1 p.2
  show(gQ (fE kvs p.1 p.2) r).length<=_
  rw[CG];lia
theorem kx{P:Program}{w:World}:∀{kvs:List (Key×V)} {ws:List (Value×Value)},VV (kvs.map fun kv=>(kV kv.1,kv.2)) ws->∃rs,Carries (az P w) ws rs/\KV kvs rs
 | [],_,r=>by rw[CJ]at r;cases r;exact⟨[],True.intro,.nil⟩
 |p :: kvs,_,r=>by
  rw[CI]at r
  cases r with
  |@cons a b as bs h t =>
   obtain⟨rs,c,q⟩:=kx (P:=P) (w:=w) t
   obtain⟨b1,b2⟩:=b
   exact⟨(p.1,b2) :: rs,⟨ly h.1,rfl,c⟩,.cons ⟨rfl,h.2⟩ q⟩
def A0(trs:List (TE×TE)):TE:=fun σ H Q=>∀p,H p=none->pj trs σ (upd H p (.dK [])) fun ps H2=>H2 p=some (.dK [])/\∃kvs:List (Key×V),ps=kvs.map (fun kv=>(kV kv.1,kv.2))/\kvs.length<=15/\Q (.ref p) (upd H2 p (.dK (gQ [] kvs)))
theorem xf{X:Cx}{pos:Pos}{keys:List (Option Expr)}{values:List Expr}{trs:List (TE×TE)}(h:PPs X pos keys values trs)(FX:keys.all (·.isSome)=true)(hl:keys.length=values.length)(h0:keys ≠ [])
  (h15:keys.length<=15):PE X (.Dict keys values pos) (A0 trs):=by
 intro dl s σ H Q I q
 have hn:=I.hok.fresh (CV s.heap.objs.size)
 have I1:=I.laid (a:=s.heap.objs.size) (o:=.dK []) (h':=s.heap.push { cls:=.type "dict",data:=.dict #[] }) (t':=s.toks) (fun _ _ q=>CO _ q) (CV _) (oS s.heap I.big)
 refine wpAny_Dict_walk (knd:=az X.prog X.w) FX hl h0 h15 (thn (h dl _ σ _ _ I1 (q _ hn)) fun ws s2 zz55_0=>?_)
 obtain⟨ps,H2,I2,rel,e,kvs,ep,lk,q2⟩:=zz55_0
 subst ep
 obtain⟨rs,c,rk⟩:=kx (P:=X.prog) (w:=X.w) rel
 obtain⟨z,hd,vs0,r0,dd⟩:=ro I2.hok e
 cases r0
 refine⟨rs,c,dd,fun h' dd' hs=>⟨.ref s.heap.objs.size,_,?_,rfl,q2⟩⟩
 have hz:(gQ [] kvs).length<=sizeLine:=by
  have h1:=eD kvs []
  rw[CH]at h1
  rw[EA];lia
 have he:∃q,h'.get? s.heap.objs.size=some q:=let ⟨q,_,_,hq,_⟩:=dd'; ⟨q,hq⟩
 exact jt I2 (by rw[e];exact True.intro) hs he (qa hz hd (rk.merge .nil) dd')
structure M2 (X:Cx) (o:Expr) (m:Str) (apos:Pos) (e f:Expr) (cpos:Pos):Prop where
 base:attributeBase o m X.env (eval o X.env)=eval o X.env
 few:((backTo cpos (starEach [e,f] X.env)).all (fun x => !x.1) && (backToKw cpos (keywordEach [] X.env)).all (fun x=>x.1.isSome)
  && decide (([e,f]:List Expr).length + ([]:List Keyword).length + (if([]:List Keyword).isEmpty then 0 else 1) < 30))=true
 line:(apos.endLine == cpos.line)=true
 trees:backTo cpos (starEach [e,f] X.env)=[(false,eval e X.env),(false,eval f X.env)]
def IsD(H:Hp)(a:Addr):Prop:=(∃kvs,Rd H a (.dK kvs))\/∃kvs,Rd H a (.dT kvs)
theorem As{X:Cx}{dl:List (Addr×Obj)}{σ:St}{H:Hp}{s:Shared}{a:Addr}(I:Inv X dl σ H s)(d:IsD H a) :
  s.TypeIs (.ref a) "dict"/\(∀b,Value.ref a=.ref b->∃ob,s.heap.get? b=some ob/\ob.dict=none)/\(a == sysModules)=false:=by
 rcases d with⟨kvs,e⟩ |⟨kvs,e⟩
 ·obtain⟨_,hd,vs,_,dd⟩:=dm I.hok e
  refine⟨dd.typeIs,fun b q=>?_,hd⟩
  cases q
  obtain⟨ob,_,_,h1,h2,_⟩:=dd
  exact⟨ob,h1,h2.2.1⟩
 ·obtain⟨_,hd,xs,_,dd⟩:=kj I.hok e
  refine⟨dd.typeIs,fun b q=>?_,hd⟩
  cases q
  obtain⟨ob,_,_,h1,h2,_⟩:=dd
  exact⟨ob,h1,h2.2.1⟩
section
variable {X:Cx}{dl:List (Addr×Obj)} {σ:St}{H:Hp}{s:Shared}{a:Addr}{y d:V}{u r:Value}{o:Option V}{A:Around}{E:Value->Shared->Prop}
theorem AG{Q:Value->Shared->Prop}(hu:A.units + 1 < cLine)(I:Inv X dl σ H s)(g:kQ H a y o)(ry:aJ y u)(rd:aJ d r)(h:∀w' s',Inv X dl σ H s'->aJ (o.getD d) w'->Q w' s') :
  wpAny (model X.prog X.w) A (call (.builtin "dict.get") [.ref a,u,r]) Q E s:=by
 rcases g with⟨kvs,k,e,ey,l⟩ |⟨kvs,k,b,e,ey,eb,l⟩
 ·subst ey
  obtain⟨z,hd,vs,rel,dd⟩:=dm I.hok e
  refine call_meetsIn Fl dd.typeIs PySem.F.entry_dict_get (PySem.F.args_dict_get_3 _ _ _) (meets_dict_get_default (az X.prog X.w) a (ly ry) hd r) ⟨_,dd.mapOf,h _ _ (I.tok _) ?_⟩
  rw[l]
  exact(rel.val k).getD rd
 ·subst ey
  cases(show u=Value.ref b from ry)
  obtain⟨z,hd,xs,rel,dd⟩:=kj I.hok e
  refine call_meetsIn Fl dd.typeIs PySem.F.entry_dict_get (PySem.F.args_dict_get_3 _ _ _) (meetsH_dict_get_default (tupleKind (az X.prog X.w)) a b hd r) ⟨Fd hu,k,xs,gR I.hok eb,dd,h _ _ (I.tok _) ?_⟩
  rw[l]
  exact(rel.val k).getD rd
end
def y_(td ty tx:TE):TE:=fun σ H Q=>td σ H fun x H1=>∃a,x=.ref a/\IsD H1 a/\ty σ H1 fun y H2=>tx σ H2 fun z H3=>∃o,kQ H3 a y o/\Q (o.getD z) H3
section
variable {X:Cx}{o e f:Expr}{apos cpos:Pos}{td ty tx:TE}
theorem uO(hu:X.A.units + 1 < cLine)(ho:PE X o td)(he:PE X e ty)(hf:PE X f tx)(m:M2 X o "get" apos e f cpos):PE X (.Call (.Attribute o "get" apos) [e,f] [] cpos) (y_ td ty tx):=by
 intro dl s σ H Q I h
 refine FO m.base m.few m.line DU Fl PySem.F.type_dict_get (thn (ho dl s σ H _ I h) fun u s1 zz56_0=>?_)
 obtain⟨x,H1,I1,rx,a,ex,d,q1⟩:=zz56_0
 subst ex
 obtain rfl:u=Value.ref a:=rx
 obtain⟨t1,t2,_⟩:=As I1 d
 refine⟨t1,t2,?_⟩
 rw[m.trees]
 refine Fv rfl (Calls.evalArgs_plain (FL (thn (he dl s1 σ H1 _ I1 q1) fun iv s2 ⟨y,H2,I2,ry,q2⟩ =>
  FL (thn (hf dl s2 σ H2 _ I2 q2) fun fv s3 ⟨z,H3,I3,rz,ov,g,q3⟩=>Calls.spliced_nil ?_))))
 exact AG hu I3 g ry rz fun w' s4 I4 rw'=>⟨_,H3,I4,rw',q3⟩
end
section
variable {X:Cx}{dl:List (Addr×Obj)} {σ:St}{H:Hp}{s:Shared}{a:Addr}{kvs:List (Key×V)} {A:Around}{E:Value->Shared->Prop}
theorem v9{Q:Value->Shared->Prop}(I:Inv X dl σ H s)(e:Rd H a (.dK kvs))(h:∀p s',H p=none->Inv X dl σ (upd H p (.dK kvs)) s'->Q (.ref p) s'):wpAny (model X.prog X.w) A (call (.type "dict") [.ref a]) Q E s:=by
 obtain⟨z,hd,vs,rel,dd⟩:=dm I.hok e
 refine kt_call_dict hd dd (by rw[<-rel.length];exact z) fun h' dd' hs=>?_
 refine h _ _ (I.hok.fresh (CV _)) (I.laid (a:=s.heap.objs.size) (o:=.dK kvs) (t':=s.toks) (fun b q hq=>?_) (CV _) (qa z (beq_eq_false_iff_ne.mpr (Ne.symm (C5 I.big))) rel dd'))
 exact(hs.2 b (C5 (CS hq))).trans (CO _ hq)
end
end L2
set_option maxHeartbeats 4000000
namespace L2
open PySem PySem.Spec PyProof.Rows
def gK(env:Env):List (Str×NameKind)->List (Str×Addr)->List (Str×Addr)
 | [],acc=>acc
 |p :: r,acc=>gK env r (if p.2=NameKind.free then(p.1,(env.cells.lookup p.1).getD 0) :: acc else acc)
theorem ko{env:Env}(body:Str×NameKind->List (Str×Addr)->Sem (ForInStep (List (Str×Addr))))
  (hb:∀x cs,(x.2=NameKind.free->(env.cells.lookup x.1).isSome=true)->body x cs=pure (ForInStep.yield (if x.2=NameKind.free then(x.1,(env.cells.lookup x.1).getD 0) :: cs else cs))) :
  ∀(l:List (Str×NameKind)) (acc:List (Str×Addr)),(∀x ∈ l,x.2=NameKind.free->(env.cells.lookup x.1).isSome=true)->(forIn l acc body:Sem (List (Str×Addr)))=pure (gK env l acc)
 | [],acc,_=>by rw[List.forIn_nil];rfl
 |x :: l,acc,h=>by
  rw[List.forIn_cons,hb x acc (h x C1),pure_bind]
  exact ko body hb l _ fun y hy=>h y (CY _ hy)
theorem rD{scope:Scope}{env:Env}(h:∀x ∈ scope.names,x.2=NameKind.free->(env.cells.lookup x.1).isSome=true):closureFor scope env=pure (gK env scope.names []):=by
 simp only[closureFor]
 rw[ko (env:=env) _ ?_ scope.names [] h]
 ·rfl
 ·intro x cs hx
  obtain⟨n,k⟩:=x
  by_cases hk:k=NameKind.free
  ·subst hk
   obtain⟨c,hc⟩:=Option.isSome_iff_exists.mp (hx rfl)
   have hc':env.cells.lookup n=some c:=hc
   simp[cellOf,hc']
  ·have e:(k == NameKind.free)=false:=by simpa using hk
   simp[e,hk]
theorem kq{env:Env}:∀(l:List (Str×NameKind)) (acc:List (Str×Addr)) (x:Str) (c:Addr),(∀y ∈ l,y.2=NameKind.free->(env.cells.lookup y.1).isSome=true) ->
  (gK env l acc).lookup x=some c->acc.lookup x=some c\/env.cells.lookup x=some c
 | [],acc,x,c,_,h=>.inl h
 |p :: l,acc,x,c,hs,h=>by
  rcases kq l _ x c (fun y hy=>hs y (CY _ hy)) h with q |q
  ·by_cases hk:p.2=NameKind.free
   ·rw[if_pos hk,Dd]at q
    cases hx:x == p.1 with
    |false=>rw[hx]at q;exact .inl q
    |true =>
     rw[hx]at q
     have ex:x=p.1:=by simpa using hx
     obtain⟨c',hc⟩:=Option.isSome_iff_exists.mp (hs p C1 hk)
     rw[hc]at q
     right
     rw[ex,hc]
     exact q
   ·rw[if_neg hk]at q;exact .inl q
  ·exact .inr q
theorem kr{env:Env}:∀(l:List (Str×NameKind)) (acc:List (Str×Addr)) (x:Str),(acc.lookup x).isSome=true->((gK env l acc).lookup x).isSome=true
 | [],acc,x,h=>h
 |p :: l,acc,x,h=>by
  refine kr l _ x ?_
  by_cases hk:p.2=NameKind.free
  ·rw[if_pos hk,Dd]
   cases x == p.1
   ·exact h
   ·rfl
  ·rw[if_neg hk];exact h
theorem gV{env:Env}:∀(l:List (Str×NameKind)) (acc:List (Str×Addr)) (x:Str),(x,NameKind.free) ∈ l->((gK env l acc).lookup x).isSome=true
 |p :: l,acc,x,h=>by
  rcases List.mem_cons.mp h with e |h
  ·refine kr l _ x ?_
   subst e
   simp[Dd]
  ·exact gV l _ x h
theorem cX{env:Env}{x:Str}:∀{l:List (Str×NameKind)},(l.map fun(p:Str×NameKind)=>match p with | (n,k)=>if(k == NameKind.free && env.scope.kind == .function && env.kindOf n == some .cell)=true then(n,NameKind.cell) else(n,k)).lookup x=some NameKind.local->l.lookup x=some NameKind.local
 | [],h=>by simp at h
 | (n,k) :: r,h=>by
  rw[CI,Dd]at h
  rw[Dd]
  by_cases hc:(k == NameKind.free && env.scope.kind == .function && env.kindOf n == some .cell)=true
  ·simp only[hc,if_true]at h
   cases hx:x == n with
   |true=>rw[hx]at h;simp at h
   |false=>rw[hx]at h;exact cX h
  ·simp only[hc,Da,En]at h
   cases hx:x == n with
   |true=>rw[hx]at h;simpa using h
   |false=>rw[hx]at h;exact cX (by simpa using h)
theorem cW {env:Env}{x:Str}:∀ {l:List (Str×NameKind)},(∀ y ∈ l,y.2 ≠ NameKind.cell) →
    ((l.map fun(p:Str×NameKind)=>match p with | (n,k)=>if(k == NameKind.free && env.scope.kind == .function && env.kindOf n == some .cell)=true then(n,NameKind.cell) else(n,k)).lookup x=some NameKind.cell \/
     (l.map fun(p:Str×NameKind)=>match p with | (n,k)=>if(k == NameKind.free && env.scope.kind == .function && env.kindOf n == some .cell)=true then(n,NameKind.cell) else(n,k)).lookup x=some NameKind.free)->(x,NameKind.free) ∈ l
  | [],_,h=>by simp at h
  | (n,k) :: r,hn,h=>by
    rw[CI,Dd]at h
    by_cases hc:(k == NameKind.free && env.scope.kind == .function && env.kindOf n == some .cell)=true
    · simp only[hc,if_true]at h
      have hk:k=NameKind.free:=by
        have:=(Bool.and_eq_true_iff.mp (Bool.and_eq_true_iff.mp hc).1).1
        simpa using this
      cases hx:x == n with
      |true =>
        have ex:x=n:=by simpa using hx
        rw[ex,hk];exact C1
      |false=>rw[hx]at h;exact CY _ (cW (fun y hy=>hn y (CY _ hy)) h)
    · simp only[hc,Da,En]at h
      cases hx:x == n with
      |true =>
        have ex:x=n:=by simpa using hx
        rw[hx]at h
        have h':k=NameKind.cell\/k=NameKind.free:=by simpa using h
        rcases h' with e |e
        · exact absurd e (hn (n,k) C1)
        · rw[ex,e];exact C1
      |false=>rw[hx]at h;exact CY _ (cW (fun y hy=>hn y (CY _ hy)) (by simpa using h))
def maskS(js:List Nat)(σ:St):St:=js.foldl (fun a j=>a.set j none) σ
theorem sE(js:List Nat):∀σ:St,(maskS js σ).length=σ.length:=by
 induction js with
 |nil=>intro σ;rfl
 |cons j r ih=>intro σ;show(maskS r (σ.set j none)).length=_;rw[ih,Dz]
theorem sF(js:List Nat):∀(σ:St) (i:Nat) (v:V),(maskS js σ)[i]? = some (some v)->σ[i]? = some (some v)/\i ∉ js:=by
 induction js with
 |nil=>intro σ i v h;exact⟨h,by simp⟩
 |cons j r ih =>
  intro σ i v h
  obtain⟨h1,h2⟩:=ih (σ.set j none) i v h
  have nij:i ≠ j:=by
   rintro rfl
   rw[C7]at h1
   split at h1
   ·split at h1 <;> simp at h1
   ·contradiction
  rw[CW (Ne.symm nij)]at h1
  exact⟨h1,by simp[nij,h2]⟩
structure Blk (X:Cx) (scope:Scope) (js:List Nat):Prop where
 kind:scope.kind=.function
 nocell:∀y ∈ scope.names,y.2 ≠ NameKind.cell
 names:∀y ∈ scope.names,y.2=NameKind.local->scope.names.lookup y.1=some .local
 free:∀y ∈ scope.names,y.2=NameKind.free->X.env.kindOf y.1=some .cell\/X.env.kindOf y.1=some .free
 own:∀(i:Nat) x,X.N[i]? = some x->scope.names.lookup x=some .local->i ∈ js
def bE(X:Cx)(scope:Scope)(C:Addr)(fp:List Addr)(s₂:Shared)(H₂:Hp):Cx :=
 { X with s₀:=s₂,H₀:=H₂,env:=compEnvC scope (gK X.env scope.names []) C X.env,outer:=X.stack,ex:=fp,fn:=fun _=>false,pn:=[],xe:=fun _ _=>False }
section
variable {X:Cx}{scope:Scope}{js:List Nat}{dl:List (Addr×Obj)} {σ:St}{H:Hp}{s:Shared}
theorem Blk.has(b:Blk X scope js)(ok:X.Ok):∀y ∈ scope.names,y.2=NameKind.free->(X.env.cells.lookup y.1).isSome=true:=fun y hy hk=>by
 obtain⟨c,e⟩:=ok.has y.1 (b.free y hy hk)
 rw[e];rfl
theorem Blk.cell(b:Blk X scope js)(ok:X.Ok){x:Str}{c:Addr}(h:(gK X.env scope.names []).lookup x=some c):X.env.cells.lookup x=some c:=by
 rcases kq scope.names [] x c (b.has ok) h with q |q
 ·simp at q
 ·exact q
theorem Blk.start(b:Blk X scope js)(I:Inv X dl σ H s){fp:List Addr}(hf:∀a ∈ fp,f8 X dl H a){h₁:Heap}{tk:Nat}(hn:h₁.Ns s.heap.objs.size fun _=>none)
  (hk:∀a o,s.heap.get? a=some o->h₁.get? a=some o) (hfs:∀a ∈ fp,a < s.heap.objs.size):Inv (bE X scope s.heap.objs.size fp s H) [] (maskS js σ) H { s with heap:=h₁,toks:=tk }:=by
 have ok:=I.ok
 have hC:H s.heap.objs.size=none:=I.hok.fresh (CV _)
 refine⟨⟨ok.mod,b.kind,ok.glob,ok.blt,CV _,fun x y c h1 h2=>ok.inj x y c (b.cell ok h1) (b.cell ok h2),fun x hx=>?_,fun x c hx _=>Bool.noConfusion hx,ok.hd,ok.frames,.inl rfl,fun a ha=>⟨C5 (hfs a ha),fun x c h=>(hf a ha).2.2.2.2.1 x c (b.cell ok h)⟩,
  I.bs,CZ ok.bsz I.sz,fun a o e ha=>?_,fun a ha hx=>?_,I.stack,I.stkFree⟩,rfl,I.bare,Un.kept hk,⟨_,hn,fun i x v h1 h2 h3=>?_⟩,fun x c h=>?_,hC,fun x c h=>I.freeC x c (b.cell ok h),fun p hp=>absurd hp (by simp[bE]),I.hok.kept hk,?_⟩
 ·exact Option.isSome_iff_exists.mp (gV scope.names [] x (cW b.nocell hx))
 ·rcases(hf a ha).2.2.2.1 with q |q
  ·exact ok.noex a o e q
  ·exact absurd (C6 (CS e) (CZ ok.bsz q)) (D7 _)
 ·rcases List.mem_cons.mp (I.stkSub a hx) with q |q
  ·exact(hf a ha).2.1 q
  ·exact(hf a ha).2.2.1 q
 ·obtain⟨h2,h4⟩:=sF js σ i v h2
  have hfr:(x,NameKind.free) ∈ scope.names:=by
   rcases h3 with q |q
   ·exact absurd (b.own i x h1 (cX q)) h4
   ·exact cW b.nocell q
  obtain⟨c,hc⟩:=Option.isSome_iff_exists.mp (gV (env:=X.env) scope.names [] x hfr)
  have hc':=b.cell ok hc
  have hv:=b.free _ hfr rfl
  obtain⟨m,_,hl⟩:=I.loc
  obtain⟨u,r,lk⟩:=hl i x v h1 h2 (.inr hv)
  refine⟨u,r,.inr ⟨?_,c,hc,?_⟩⟩
  ·rcases h3 with q |q
   ·exact absurd (b.own i x h1 (cX q)) h4
   ·exact q
  ·rcases lk with⟨z,_⟩ |⟨_,c2,e2,o,ho,hd⟩
   ·have hv':X.env.kindOf x=some .cell\/X.env.kindOf x=some .free:=hv
    rw[z]at hv'
    rcases hv' with q |q <;> cases q
   ·rw[hc']at e2
    cases e2
    exact⟨o,hk _ _ ho,hd⟩
 ·obtain⟨v,o,ho,hd⟩:=I.cell x c (b.cell ok h)
  exact⟨v,o,hk _ _ ho,hd⟩
 ·rw[sE];exact I.len
theorem Blk.back(I:Inv X dl σ H s){fp:List Addr}(hf:∀a ∈ fp,f8 X dl H a){σ':St}{H':Hp}{s':Shared}(J:Inv (bE X scope s.heap.objs.size fp s H) [] σ' H' s'){h':Heap}
  (hs:Heap.SameBut s.heap.objs.size s'.heap h'):Inv X dl σ H' { s' with heap:=h' }:=by
 have hC:H' s.heap.objs.size=none:=J.free
 refine I.call' (ch:=fp) J.os ?_ ?_ J.bare fun a ha=>⟨(hf a ha).2.2.2.1,(hf a ha).2.1,(hf a ha).2.2.2.2.1,(hf a ha).2.2.2.2.2⟩
 ·have u:Un (frs X.stack) fp H H' s.heap s'.heap:=J.base
  have ne:∀a o,s.heap.get? a=some o->a ≠ s.heap.objs.size:=fun a o e=>C5 (CS e)
  exact⟨fun a o e n h1 h2=>hs.extBut a _ (ne a o e) (u.keep a o e n h1 h2),fun a o e n h1 h2=>(let ⟨sl,q⟩:=u.slot a o e n h1 h2; ⟨sl,hs.extBut a _ (ne a o e) q⟩),u.free,fun a o e h=>(let ⟨o',q⟩:=u.there a o e h; ⟨o',hs.extBut a _ (ne a o e) q⟩),u.tups,u.frzs,u.tbls⟩
 ·intro a o e
  refine(J.hok a o e).stay (fun b u hb q=>hs.extBut b u ?_ q) (fun _ q=>q) fun _ _ q=>q
  rintro rfl
  rcases hb with q |q
  ·rw[q,e]at hC;cases hC
  ·rw[q]at hC;cases hC
end
def qv(js:List Nat)(wi:TI)(g:TG)(tc:TT)(te:TE):TE:=fun σ H Q=>wi σ H fun J H1=>∀D,H1 D=none ->
 ∃W:Nat->Nat->St->Hp->Prop,(∃m,W 0 m (maskS js σ) (upd H1 D (.lst [])))/\∀i m σ' H',W i m σ' H' ->
  (J.stop i H'/\Q (.ref D) H')\/(J.go i H'/\∀x H2,J.yld i H' x H2->g x σ' H2 fun σ3 H3=>tc σ3 H3 fun c H4 =>
   if c=true then te σ3 H4 fun v H5=>∃vs,H5 D=some (.lst vs)/\vs.length < sizeLine/\∃m',m' < m/\W (i + 1) m' σ3 (upd H5 D (.lst (vs ++ [v]))) else ∃m',m' < m/\W (i + 1) m' σ3 H4)
def tE(X:Cx)(ifs:List Expr)(tc:TT):Prop :=
 ∀(dl:List (Addr×Obj)) (s:Shared) (σ:St) (H:Hp) (Q:Bool->Hp->Prop),Inv X dl σ H s->tc σ H Q ->
  wpAny (model X.prog X.w) X.A (forIn ifs true fun c r=>if r=true then do let ok <-isTrue c X.env (eval c X.env);pure (ForInStep.yield ok) else pure (ForInStep.yield r)) (TP X dl σ Q) X.xe s
def yz:TT:=fun _ H Q=>Q true H
theorem uF{X:Cx}:tE X [] yz:=fun _ _ _ H _ I h=>wpAny_tests_nil ⟨H,I,h⟩
theorem uE{X:Cx}{c:Expr}{tc:TT}(h:PT X c tc):tE X [c] tc:=fun dl s σ H Q I q=>wpAny_tests_one (h dl s σ H Q I q)
theorem mR{prog:Program}{w:World}{A:Around}{R:Result->Shared->Prop}{s:Shared}{elt tg mt:Expr}{ifs:List Expr}{scope:Scope}{pos:Pos}{it acc:Value}{env:Env}(Iv:Nat->Shared->Prop)
  (turn:∀n s,Iv n s->wpAny (model prog w) A (pyNext it) (fun r s1=>match r with
   |none=>R (.ok .next) s1
   |some v=>wpAny (model prog w) A (letOwnedTupleGo tg it v) (fun _ s2=>wpAny (model prog w) A (assign tg env v) (fun _ s3 =>
     wpAny (model prog w) A (forIn ifs true fun c r=>if r=true then do let ok <-isTrue c env (eval c env);pure (ForInStep.yield ok) else pure (ForInStep.yield r)) (fun ok s4 =>
      if ok=true then wpAny (model prog w) A (eval elt env) (fun x s5=>wpAny (model prog w) A (call (.builtin "list.append") [acc,x]) (fun _ s6=>∃m,m < n/\Iv m s6) (fun _ _=>False) s5) (fun _ _=>False) s4
      else ∃m,m < n/\Iv m s4) (fun _ _=>False) s3) (fun _ _=>False) s2) (fun _ _=>False) s1) (fun _ _=>False) s)
  (n:Nat) (h:Iv n s):codeAny (model prog w) A (.compLoop (.ListComp elt [⟨tg,mt,ifs,0⟩] scope pos) 0 it acc env) R s:=by
 refine codeAny_loop rfl Iv (fun k t hI=>?_) n h
 show wpAny _ A ((compTurn (.ListComp elt [⟨tg,mt,ifs,0⟩] scope pos) 0 it acc env).onRaise _) _ _ t
 refine wpAny_noted ?_
 rw[compTurn_list]
 have no:∀{E:Value->Shared->Prop} (e:Value) (z:Shared),(fun(_:Value) (_:Shared)=>False) e z->E e z:=fun _ _ f=>f.elim
 refine CN (EW (CN (Dc (turn k t hI) (fun r s1 q1=>?_) no)))
 cases r with
 |none=>exact CP q1
 |some v =>
  refine CN (Dc q1 (fun _ s2 q2=>?_) no)
  refine CN (Dc q2 (fun _ s3 q3=>?_) no)
  refine CN (Dc q3 (fun ok s4 q4=>?_) no)
  cases ok with
  |false=>exact CP ⟨rfl,by simpa using q4⟩
  |true =>
   have q4':=q4
   simp only[if_true]at q4'
   refine CN (CN (Dc q4' (fun x s5 q5=>?_) no))
   exact CN (Dc q5 (fun _ s6 q6=>CP (CP ⟨rfl,q6⟩)) no)
section
variable {X:Cx}{scope:Scope}{js:List Nat}{elt tg mt:Expr}{ifs:List Expr}{pos:Pos}{wi:TI}{g:TG}{tc:TT}{te:TE}
theorem rG(b:Blk X scope js)(hc:X.calm=true){dl:List (Addr×Obj)}{σ:St}{H2:Hp}{s2:Shared}{Q:VK}{it:Addr}{fp:List Addr}{tn:Nat->Heap->Prop}{J:It}
  (I2:Inv X dl σ H2 s2) (T:kO X.prog X.w X.K tg J fp it tn) (st:tn 0 s2.heap) (hf:∀a ∈ fp,f8 X dl H2 a)
  (hg:∀C fp s0 H0,PG (bE X scope C fp s0 H0) tg g) (hi:∀C fp s0 H0,tE (bE X scope C fp s0 H0) ifs tc) (he:∀C fp s0 H0,PE (bE X scope C fp s0 H0) elt te)
  (hq:∀D,H2 D=none->∃W:Nat->Nat->St->Hp->Prop,(∃m,W 0 m (maskS js σ) (upd H2 D (.lst [])))/\∀i m σ' H',W i m σ' H' ->
   (J.stop i H'/\Q (.ref D) H')\/(J.go i H'/\∀x H3,J.yld i H' x H3->g x σ' H3 fun σ3 H3=>tc σ3 H3 fun c H4 =>
    if c=true then te σ3 H4 fun v H5=>∃vs,H5 D=some (.lst vs)/\vs.length < sizeLine/\∃m',m' < m/\W (i + 1) m' σ3 (upd H5 D (.lst (vs ++ [v]))) else ∃m',m' < m/\W (i + 1) m' σ3 H4))
  {E:Value->Shared->Prop}{RR:Value->Addr->Result->Shared->Prop}
  (hR:∀(D C:Addr) (s3:Shared) (H3:Hp) (σ':St) (H':Hp) (s':Shared),C=s3.heap.objs.size->Inv X dl σ H3 s3->(∀a ∈ fp,f8 X dl H3 a)->Inv (bE X scope C fp s3 H3) [] σ' H' s'->Q (.ref D) H'->RR (.ref D) C (.ok .next) s') :
  wpAny (model X.prog X.w) X.A (newList []) (fun acc s3=>wpAny (model X.prog X.w) X.A (newFunctionEnv scope X.env.globals (gK X.env scope.names []) [] X.env.qual none .none (some X.env)) (fun cenv s4 =>
   codeAny (model X.prog X.w) X.A (.compStart (.ListComp elt [⟨tg,mt,ifs,0⟩] scope pos) 0 (.ref it) acc { cenv with scope:=relabel scope X.env }) (RR acc cenv.locals) s4) E s3) E s2:=by
 refine Di ?_
 have hD:H2 s2.heap.objs.size=none:=I2.hok.fresh (CV _)
 have I3:=I2.lnew (ys:=[]) (its:=[]) (t':=s2.toks) .nil (DV _)
 obtain⟨W,⟨m0,w0⟩,turn⟩:=hq _ hD
 have fpLt:∀a ∈ fp,a < s2.heap.objs.size:=fun a ha=>by
  obtain⟨o,e,_⟩:=T.obj _ _ st a ha
  exact CS e
 generalize hs3:({ s2 with heap:=s2.heap.push { cls:=.type "list",dict:=none,data:=.seq ([]:List Value).toArray } }:Shared)=s3
 have I3':Inv X dl σ (upd H2 s2.heap.objs.size (.lst [])) s3:=by rw[<-hs3];exact I3
 have st3:tn 0 s3.heap:=T.keep _ _ _ st fun a _ o e=>by rw[<-hs3];exact CO _ e
 have sz3:s3.heap.objs.size=s2.heap.objs.size + 1:=by rw[<-hs3];exact EM ..
 have hf3:∀a ∈ fp,f8 X dl (upd H2 s2.heap.objs.size (.lst [])) a:=fun a ha=>⟨by rw[af (C5 (fpLt a ha))];exact(hf a ha).1,(hf a ha).2⟩
 refine wpAny_newFunctionEnv b.nocell (by intro y hy;simp at hy) (fun h₁ hns hsb=>?_) b.kind
 have keep:∀a o,s3.heap.get? a=some o->h₁.get? a=some o:=fun a o e=>hsb.extBut a o (C5 (CS e)) (CO _ e)
 have J0:=b.start I3' hf3 (tk:=s3.toks + ([]:List (Str×Value)).length) (by simpa using hns) keep fun a ha=>by rw[sz3];exact EF (fpLt a ha)
 have st4:tn 0 h₁:=T.keep _ _ _ st3 fun a _ o e=>keep a o e
 have loop:∀s4:Shared,s4={ s3 with heap:=h₁,toks:=s3.toks + ([]:List (Str×Value)).length }->codeAny (model X.prog X.w) X.A (.compLoop (.ListComp elt [⟨tg,mt,ifs,0⟩] scope pos) 0 (.ref it) (.ref s2.heap.objs.size) (compEnvC scope (gK X.env scope.names []) s3.heap.objs.size X.env))
   (RR (.ref s2.heap.objs.size) s3.heap.objs.size) s4:=by
  rintro s4 rfl
  refine mR (fun n t=>∃i σ' H',Inv (bE X scope s3.heap.objs.size fp s3 (upd H2 s2.heap.objs.size (.lst []))) [] σ' H' t/\tn i t.heap/\(∀a ∈ fp,H' a=none)/\W i n σ' H') ?_ m0 ⟨0,_,_,J0,st4,fun a ha=>(hf3 a ha).1,w0⟩
  rintro n t ⟨i,σ',H',J1,st',fr,w'⟩
  have stat:∀{H':Hp},(∀a ∈ fp,H' a=none)->∀a ∈ fp,f8 (bE X scope s3.heap.objs.size fp s3 (upd H2 s2.heap.objs.size (.lst []))) [] H' a:=fun hn a ha =>
   ⟨hn a ha,C5 (by rw[sz3];exact EF (fpLt a ha)),fun hx=>(by
    rcases List.mem_cons.mp (I2.stkSub a hx) with q |q
    ·exact(hf a ha).2.1 q
    ·exact(hf a ha).2.2.1 q),.inl ha,fun x c h=>(hf a ha).2.2.2.2.1 x c (b.cell I2.ok h),fun p hp=>absurd hp (by simp[bE])⟩
  rcases turn i n σ' H' w' with⟨stop,qn⟩ |⟨go,step⟩
  ·refine thn (T.done (bE X scope s3.heap.objs.size fp s3 (upd H2 s2.heap.objs.size (.lst []))) rfl rfl rfl hc i [] t σ' H' _ J1 (stat fr) st' stop) fun r t1 zz59_0=>?_
   obtain⟨hr,J2⟩:=zz59_0
   subst hr
   exact hR _ _ s3 _ σ' H' t1 rfl I3' hf3 J2 qn
  ·refine thn (T.item (bE X scope s3.heap.objs.size fp s3 (upd H2 s2.heap.objs.size (.lst []))) rfl rfl rfl hc i [] t σ' H' _ J1 (stat fr) st' go) fun r t1 zz60_0=>?_
   obtain⟨u,hr,q1⟩:=zz60_0
   subst hr
   refine thn q1 fun _ t2 zz61_0=>?_
   obtain⟨x,H3,J3,r3,y3,st3',fr3⟩:=zz61_0
   have J3':=J3.pinned (stat fr3) (T.obj _ _ st3')
   have again:∀{σ7:St}{H7:Hp}{t7:Shared},Inv (bE X scope s3.heap.objs.size fp s3 (upd H2 s2.heap.objs.size (.lst []))) ([] ++ iC fp t2.heap) σ7 H7 t7->(∃m',m' < n/\W (i + 1) m' σ7 H7) ->
     ∃m,m < n/\∃i σ' H',Inv (bE X scope s3.heap.objs.size fp s3 (upd H2 s2.heap.objs.size (.lst []))) [] σ' H' t7/\tn i t7.heap/\(∀a ∈ fp,H' a=none)/\W i m σ' H':=fun {σ7 H7 t7} J7 w7=>by
    obtain⟨m',hm,w7⟩:=w7
    refine⟨m',hm,i + 1,σ7,H7,J7.unpinned,T.keep _ _ _ st3' fun a ha o e=>(J7.pin (a,o) (C2 _ (C2 _ (cO ha e)))).1,fun a ha=>?_,w7⟩
    obtain⟨o,e,_⟩:=T.obj _ _ st3' a ha
    exact(J7.pin (a,o) (C2 _ (C2 _ (cO ha e)))).2.1
   refine thn (hg _ _ _ _ _ t2 σ' H3 x u _ J3' r3 (step x H3 y3)) fun _ t3 zz62_0=>?_
   obtain⟨σ4,H4,J4,q4⟩:=zz62_0
   refine thn (hi _ _ _ _ _ t3 σ4 H4 _ J4 q4) fun ok t4 zz63_0=>?_
   obtain⟨H5,J5,q5⟩:=zz63_0
   cases ok with
   |false=>exact again J5 (by simpa using q5)
   |true =>
    simp only[if_true]at q5 ⊢
    refine thn (he _ _ _ _ _ t4 σ4 H5 _ J5 q5) fun y t5 zz64_0=>?_
    obtain⟨v,H6,J6,r6,vs,hl,hz,q6⟩:=zz64_0
    refine thn (lq _ t5 σ4 H6 (.ref s2.heap.objs.size) [v] (.ref s2.heap.objs.size) [y] (fun _ H7=>∃m',m' < n/\W (i + 1) m' σ4 H7) J6 rfl (.cons r6 .nil) ⟨_,vs,v,rfl,rfl,hl,hz,q6⟩) fun _ t6 zz65_0=>?_
    obtain⟨_,H7,J7,_,q7⟩:=zz65_0
    exact again J7 q7
 refine codeAny_compStart_list (loop _ rfl) (T.self _ 0 _ _ _ st4 (loop _ rfl))
theorem xh(b:Blk X scope js)(hc:X.calm=true)(hI:PI X tg mt wi)
  (hg:∀C fp s0 H0,PG (bE X scope C fp s0 H0) tg g) (hi:∀C fp s0 H0,tE (bE X scope C fp s0 H0) ifs tc) (he:∀C fp s0 H0,PE (bE X scope C fp s0 H0) elt te)
  (hs:∀x,foldedSetIterable mt X.env x=pure x:=by intro _;rfl):PE X (.ListComp elt [⟨tg,mt,ifs,0⟩] scope pos) (qv js wi g tc te):=by
 intro dl s σ H Q I h
 rw[eval_ListComp]
 refine wpAny_comprehension_free (use:=none) rfl hs (rD (b.has I.ok)) b.kind b.names (thn (hI dl s σ H _ I h) fun v s1 q1=>thn q1 fun itv s2 q2=>?_)
 obtain⟨it,fp,tn,J,H2,rfl,I2,T,st,hf,hq⟩:=q2
 refine rG b hc I2 T st hf hg hi he hq fun D C s3 H3 σ' H' s' hC I3 hf3 J3 q3=>?_
 subst hC
 obtain⟨m,hn,_⟩:=J3.loc
 exact⟨m,hn,fun h' hs'=>⟨.ref D,H',Blk.back I3 hf3 J3 hs',rfl,q3⟩⟩
theorem wV{i:Nat}{x:Str}{px:Pos}{spos:Pos}(hN:X.N.Nodup)(hix:X.N[i]? = some x)(hx:Loc X.env.scope x)(b:Blk X scope js)(hc:X.calm=true)(hI:PI X tg mt wi)
  (hg:∀C fp s0 H0,PG (bE X scope C fp s0 H0) tg g) (hi:∀C fp s0 H0,tE (bE X scope C fp s0 H0) ifs tc) (he:∀C fp s0 H0,PE (bE X scope C fp s0 H0) elt te)
  (hsw:swapsWith (.ListComp elt [⟨tg,mt,ifs,0⟩] scope pos) (some (.Name x px)) spos.line X.env=pure true)
  (hfn:X.fn x=true\/X.env.scope.names.lookup x=some .local:=by first |exact .inl rfl |exact .inr rfl |assumption) (hs:∀x,foldedSetIterable mt X.env x=pure x:=by intro _;rfl) :
  PS X (.Assign [.Name x px] (.ListComp elt [⟨tg,mt,ifs,0⟩] scope pos) spos) (t9 (qv js wi g tc te) (lB i)):=by
 intro dl s σ H D I h
 rw[exec_Assign_Name_used _ _ _ _ hsw]
 refine CN (EW (CN ?_))
 show wpAny _ _ (do let _ <-comprehension (.ListComp elt [⟨tg,mt,ifs,0⟩] scope pos) scope X.env _ (newList []) false (eval mt X.env) (some (assign (.Name x px) X.env))) _ _ s
 refine CN (Dc (wpAny_comprehension_free (use:=some (assign (.Name x px) X.env)) (Q:=fun _ s'=>SP X dl D .next s') rfl hs (rD (b.has I.ok)) b.kind b.names
  (thn (hI dl s σ H _ I h) fun v s1 q1=>thn q1 fun itv s2 q2=>?_)) (fun _ s' q=>CP (CP q)) fun _ _ e=>e)
 obtain⟨it,fp,tn,J,H2,rfl,I2,T,st,hf,hq⟩:=q2
 refine rG (Q:=fun y H1=>lB i y σ H1 D.nx) b hc I2 T st hf hg hi he hq fun A C s3 H3 σ' H' s' hC I3 hf3 J3 q3=>?_
 subst hC
 obtain⟨m,hn,_⟩:=J3.loc
 obtain⟨oC,es,ep,hoC,hdC,hrC⟩:=id hn
 have hJf:H' s3.heap.objs.size=none:=J3.free
 have I4:Inv X dl σ H' s':=Blk.back I3 hf3 J3 (Heap.SameBut.refl _ _)
 have neL:s3.heap.objs.size ≠ X.env.locals:=EV I3.lt
 have nfs:s3.heap.objs.size ∉ X.fs:=I3.nofs (CV _)
 have ncell:∀y c,X.env.cells.lookup y=some c->c ≠ s3.heap.objs.size:=fun y c e z=>by
  obtain⟨v,o,ho,_⟩:=I3.cell y c e
  rw[z]at ho
  exact absurd (CS ho) (D7 _)
 have npin:∀p ∈ X.pn ++ dl,p.1 ≠ s3.heap.objs.size:=fun p hp z=>by
  have ho:=(I3.pin p hp).1
  rw[z]at ho
  exact absurd (CS ho) (D7 _)
 have I5:Inv X (dl ++ [(s3.heap.objs.size,oC)]) σ H' s':=I4.pins_of fun p hp=>(List.mem_append.mp hp).elim (fun z=>I4.pin p (C2 _ z)) fun z=>by
  have e:p=(s3.heap.objs.size,oC):=by simpa using z
  subst e
  exact⟨hoC,hJf,neL,nfs,fun v z=>by rw[hdC]at z;cases z⟩
 show wpAny _ _ (assign (.Name x px) X.env (.ref A)) _ _ s'
 refine wpAny_assign_Name (eI (i:=i) (v:=.ref A) I5 hN hix hx rfl (fun s5 I6=>?_) hfn)
 obtain⟨p1,p2,_⟩:=I6.pin (s3.heap.objs.size,oC) (C2 _ (C2 _ (by simp)))
 refine⟨m,⟨oC,es,ep,p1,hdC,hrC⟩,fun h' hs'=>?_⟩
 have I7:Inv X dl (σ.set i (some (.ref A))) H' { s5 with heap:=h',toks:=s5.toks }:=Inv.turned (it:=s3.heap.objs.size) I6.unpinned (fun a o ha e=>hs'.extBut a o ha e) p2 neL (.inr (CZ I3.sz (CV _))) ncell npin
 exact⟨_,H',I7,q3⟩
end
theorem bS{α β:Type}{o:Option α}{f:α->Option β}{r:β}(h:o.bind f=some r):∃d,o=some d/\f d=some r:=by
 cases o with
 |none=>cases h
 |some d=>exact⟨d,rfl,h⟩
theorem bM{α β:Type}{o:Option α}{f:α->β}{r:β}(h:o.map f=some r):∃d,o=some d/\f d=r:=by
 cases o with
 |none=>cases h
 |some d=>exact⟨d,rfl,CU h⟩
end L2
namespace L2.Cu
open PySem PySem.Spec PyProof.Rows
inductive D where
 |non |bl (b:Bool) |int (i:Int) |str (x:Str) |tup (xs:List D) |lst (xs:List D) |dic (kvs:List (Key×D)) |scr (ns:List Int) |rf (a:Addr) |dit (ks:List (Int×Str)) |odd (ks vs:List D)
def qk(ob:Obj)(kvs:List (V×V)):Prop:=ob.ExactDict/\∃es ep,ob.data=.dict es ep/\Paired (fun(p:V×V) (e:DictEntry)=>aJ p.1 e.key/\aJ p.2 e.val) kvs es.toList
mutual
inductive Rep (F:Hp):V->D->Prop
 |non:Rep F .non .non
 |bl (b:Bool):Rep F (.bl b) (.bl b)
 |int (i:Int):Rep F (.int i) (.int i)
 |str (x:Str):Rep F (.str x) (.str x)
 |tup {a:Addr}{vs:List V}{ds:List D}:F a=some (.tup vs)->Reps F vs ds->Rep F (.ref a) (.tup ds)
 |lst {a:Addr}{vs:List V}{ds:List D}:F a=some (.lst vs)->Reps F vs ds->Rep F (.ref a) (.lst ds)
 |dic {a:Addr}{ob:Obj}{vs:List (Key×V)} {ds:List (Key×D)}:F a=some (.frz ob (.dK vs))->RepK F vs ds->Rep F (.ref a) (.dic ds)
 |scr {a:Addr}{o:Obj}{ns:List Int}:F a=some (.frz o (.lst (ns.map V.int)))->Rep F (.ref a) (.scr ns)
 |rf (a:Addr):Rep F (.ref a) (.rf a)
 |dit {a:Addr}{ob:Obj}{ks:List (Int×Str)}:F a=some (.frz ob (.dT (ks.map fun u=>([Sum.inl (some u.1),Sum.inr u.2],V.bl true))))->Rep F (.ref a) (.dit ks)
 |odd {a:Addr}{ob:Obj}{kvs:List (V×V)} {ks vs:List D}:(a == sysModules)=false->F a=some (.frz ob ic)->qk ob kvs->Reps F (kvs.map (·.1)) ks->Reps F (kvs.map (·.2)) vs->Rep F (.ref a) (.odd ks vs)
inductive Reps (F:Hp):List V->List D->Prop
 |nil:Reps F [] []
 |cons {v:V}{d:D}{vs:List V}{ds:List D}:Rep F v d->Reps F vs ds->Reps F (v :: vs) (d :: ds)
inductive RepK (F:Hp):List (Key×V)->List (Key×D)->Prop
 |nil:RepK F [] []
 |cons {k:Key}{v:V}{d:D}{vs:List (Key×V)} {ds:List (Key×D)}:Rep F v d->RepK F vs ds->RepK F ((k,v) :: vs) ((k,d) :: ds)
end
section
variable {F F':Hp}
mutual
theorem Rep.mono(h:∀a o,F a=some o->F' a=some o):∀{v:V}{d:D},Rep F v d->Rep F' v d
 := fun r=>by
  cases r with
  |non=>exact .non
  |bl b=>exact .bl b
  |int i=>exact .int i
  |str x=>exact .str x
  |tup e r=>exact .tup (h _ _ e) (Reps.mono h r)
  |lst e r=>exact .lst (h _ _ e) (Reps.mono h r)
  |dic e r=>exact .dic (h _ _ e) (RepK.mono h r)
  |scr e=>exact .scr (h _ _ e)
  |rf a=>exact .rf a
  |dit e=>exact .dit (h _ _ e)
  |odd hs e en r t=>exact .odd hs (h _ _ e) en (Reps.mono h r) (Reps.mono h t)
theorem Reps.mono(h:∀a o,F a=some o->F' a=some o):∀{vs:List V}{ds:List D},Reps F vs ds->Reps F' vs ds:=fun r=>by
 cases r with
 |nil=>exact .nil
 |cons r t=>exact .cons (Rep.mono h r) (Reps.mono h t)
theorem RepK.mono(h:∀a o,F a=some o->F' a=some o):∀{vs:List (Key×V)} {ds:List (Key×D)},RepK F vs ds->RepK F' vs ds
 := fun r=>by
  cases r with
  |nil=>exact .nil
  |cons r t=>exact .cons (Rep.mono h r) (RepK.mono h t)
end
theorem Reps.c1{vs:List V}{d:D}{ds:List D}(r:Reps F vs (d :: ds)):∃v ws,vs=v :: ws/\Rep F v d/\Reps F ws ds:=by
 cases r with
 |cons a b=>exact⟨_,_,rfl,a,b⟩
theorem Reps.c0{vs:List V}(r:Reps F vs []):vs=[]:=by
 cases r
 rfl
theorem Reps.length:∀{vs:List V}{ds:List D},Reps F vs ds->vs.length=ds.length:=fun r=>by
 cases r with
 |nil=>rfl
 |cons _ t=>exact DK Nat.succ (Reps.length t)
theorem Reps.append:∀{vs ws:List V}{ds es:List D},Reps F vs ds->Reps F ws es->Reps F (vs ++ ws) (ds ++ es)
 := fun r s=>by
  cases r with
  |nil=>exact s
  |cons r t=>exact .cons r (Reps.append t s)
theorem Reps.get:∀{vs:List V}{ds:List D}{i:Nat}{d:D},Reps F vs ds->ds[i]? = some d->∃v,vs[i]? = some v/\Rep F v d
 := fun {vs ds i d} r e=>by
  cases r with
  |nil=>cases e
  |cons r t =>
   cases i with
   |zero=>cases e;exact⟨_,rfl,r⟩
   |succ i=>exact Reps.get (i:=i) t e
theorem Reps.drop:∀{vs:List V}{ds:List D} (n:Nat),Reps F vs ds->Reps F (vs.drop n) (ds.drop n)
 := fun n r=>by
  cases n with
  |zero=>exact r
  |succ n =>
   cases r with
   |nil=>exact .nil
   |cons _ t=>exact Reps.drop n t
theorem Reps.take:∀{vs:List V}{ds:List D} (n:Nat),Reps F vs ds->Reps F (vs.take n) (ds.take n)
 := fun n r=>by
  cases n with
  |zero=>exact .nil
  |succ n =>
   cases r with
   |nil=>exact .nil
   |cons r t=>exact .cons r (Reps.take n t)
theorem Reps.set{v:V}{d:D}(r:Rep F v d):∀{vs:List V}{ds:List D} (i:Nat),Reps F vs ds->Reps F (vs.set i v) (ds.set i d)
 |_,_,_,.nil=>.nil
 |_,_,0,.cons _ t=>.cons r t
 |_,_,i + 1,.cons q t=>.cons q (Reps.set r i t)
theorem Reps.ints:∀(ns:List Int),Reps F (ns.map V.int) (ns.map D.int)
 | []=>.nil
 |n :: ns=>.cons (.int n) (Reps.ints ns)
theorem Reps.bls:∀{vs:List V}{bs:List Bool},Reps F vs (bs.map D.bl)->vs=bs.map V.bl
 := fun {vs bs} r=>by
  cases bs with
  |nil=>cases r;rfl
  |cons b bs =>
   cases r with
   |cons r t=>cases r;rw[Reps.bls t];rfl
end
inductive FS where
 |v (d:D) |l (d:D)
structure OSt where
 C:Addr
 ia:Option Addr
 fs:List (Str×FS)
inductive Sl where
 |no |val (d:D) |own (d:D) |obj (s:OSt) |rob (s:OSt)
abbrev DE:=List Sl
def fC(F:Hp):HO->D->Prop
 |.lst vs,.lst ds=>Reps F vs ds
 |.dK vs,.dic ds=>RepK F vs ds
 |.dT vs,.dit ks=>vs=ks.map fun u=>([Sum.inl (some u.1),Sum.inr u.2],V.bl true)
 |_,_=>False
theorem fC.mono{F F':Hp}(h:∀a o,F a=some o->F' a=some o){o:HO}{d:D}(r:fC F o d):fC F' o d:=by
 cases o <;> cases d <;> first |exact Reps.mono h r |exact RepK.mono h r |exact r
def fzO(ob:Obj):HO->HO
 |.dK vs=>.frz ob (.dK vs)
 |.dT vs=>.frz ob (.dT vs)
 |o=>o
theorem fC.rep{F:Hp}{a:Addr}{ob:Obj}{o:HO}{d:D}(r:fC F o d)(h:F a=some (fzO ob o)):Rep F (.ref a) d:=by
 cases o <;> cases d <;> first |exact .lst h r |exact .dic h r |exact False.elim r | (have r:_=_:=r;subst r;exact .dit h)
theorem y6{H:Hp}{a:Addr}{o:HO}(h:H a=some o):upd H a o=H:=by
 funext b
 by_cases hb:b=a
 ·subst hb;rw[aj,h]
 ·rw[af hb]
theorem vz{X:Cx}{dl:List (Addr×Obj)}{σ:St}{H:Hp}{s:Shared}{a:Addr}{o:HO}(I:Inv X dl σ H s)(e:H a=some o):∃ob,Inv X dl σ (upd H a (fzO ob o)) s:=by
 cases o with
 |dK vs =>
  have z:=I.hok a _ e
  obtain⟨h1,h2,us,h3,h4⟩:=id z
  obtain⟨ob,es,ep,h5,h6⟩:=id h4
  exact⟨ob,I.write (t':=s.toks) (x:=a) (e:=a) (h':=s.heap) (by rw[e];exact trivial) (.inl rfl) (fun _ _ _ q=>q) ⟨ob,h5⟩ ⟨h5,h1,h2,us,h3,h4⟩⟩
 |dT vs =>
  have z:=I.hok a _ e
  obtain⟨h1,h2,us,h3,h4⟩:=id z
  obtain⟨ob,es,ep,h5,h6⟩:=id h4
  exact⟨ob,I.write (t':=s.toks) (x:=a) (e:=a) (h':=s.heap) (by rw[e];exact trivial) (.inl rfl) (fun _ _ _ q=>q) ⟨ob,h5⟩ ⟨h5,h1,h2,us,Paired.mapP h3 fun p q z=>⟨z.1,(af fun w=>by
   have z1:=z.2.1
   rw[w,e]at z1;cases z1).trans z.2.1,z.2.2⟩,h4⟩⟩
 |_=>exact⟨default,by
   unfold fzO
   rw[y6 e];exact I⟩
inductive eU (F H:Hp):List (Str×V)->List (Str×FS)->List Addr->Prop
 |nil:eU F H [] [] []
 |val {f:Str}{v:V}{d:D}{vs:List (Str×V)} {xs:List (Str×FS)} {ps:List Addr}:Rep F v d->eU F H vs xs ps->eU F H ((f,v) :: vs) ((f,.v d) :: xs) ps
 |own {f:Str}{p:Addr}{o:HO}{d:D}{vs:List (Str×V)} {xs:List (Str×FS)} {ps:List Addr}:H p=some o->fC F o d->eU F H vs xs ps->eU F H ((f,.ref p) :: vs) ((f,.l d) :: xs) (p :: ps)
def kE(F H:Hp)(s:OSt)(fp:List Addr):Prop:=∃a ps dx fs,fp=a :: ps/\(∀b,s.ia=some b->a=b)/\H a=some (.ins s.C dx fs)/\eU F H fs s.fs ps
theorem eU.move{F H F' H':Hp}(hf:∀a o,F a=some o->F' a=some o):∀{vs:List (Str×V)} {xs:List (Str×FS)} {ps:List Addr},eU F H vs xs ps->(∀p ∈ ps,∀o,H p=some o->H' p=some o)->eU F' H' vs xs ps
 := fun r=>by
  induction r with
  |nil=>exact fun _=>.nil
  |val r t ih=>exact fun h=>.val (Rep.mono hf r) (ih h)
  |own e r t ih=>exact fun h=>.own (h _ C1 _ e) (r.mono hf) (ih fun q hq=>h q (CY _ hq))
theorem eU.dom{F H:Hp}:∀{vs:List (Str×V)} {xs:List (Str×FS)} {ps:List Addr},eU F H vs xs ps->∀p ∈ ps,H p ≠ none
 := fun r=>by
  induction r with
  |nil=>exact fun p h=>nomatch h
  |val r t ih=>exact ih
  |own e r t ih=>exact fun p h=>(List.mem_cons.mp h).elim (fun z q=>by rw[z,e]at q;cases q) (ih p)
theorem kE.move{F H F' H':Hp}{s:OSt}{fp:List Addr}(hf:∀a o,F a=some o->F' a=some o)(h:∀p ∈ fp,∀o,H p=some o->H' p=some o)(r:kE F H s fp):kE F' H' s fp:=by
 obtain⟨a,ps,dx,fs,rfl,h0,h1,h2⟩:=r
 exact⟨a,ps,dx,fs,rfl,h0,h a C1 _ h1,h2.move hf fun p hp=>h p (CY _ hp)⟩
theorem kE.dom{F H:Hp}{s:OSt}{fp:List Addr}(r:kE F H s fp):∀p ∈ fp,H p ≠ none:=by
 obtain⟨a,ps,dx,fs,rfl,h0,h1,h2⟩:=r
 intro p hp
 rcases List.mem_cons.mp hp with z |z
 ·rw[z,h1];simp
 ·exact h2.dom p z
structure Ext (F H F' H':Hp):Prop where
 same:∀a o,H a=some o->H' a=some o
 fr:∀a o,F a=some o->F' a=some o
 sub:∀a o,F' a=some o->H' a=some o
 new:∀a,F a=none->H a ≠ none->F' a=none
theorem Ext.refl{F H:Hp}(h:∀a o,F a=some o->H a=some o):Ext F H F H:=⟨fun _ _ e=>e,fun _ _ e=>e,h,fun _ e _=>e⟩
theorem Ext.trans{F H F1 H1 F2 H2:Hp}(a:Ext F H F1 H1)(b:Ext F1 H1 F2 H2):Ext F H F2 H2 :=
 ⟨fun c o e=>b.same c o (a.same c o e),fun c o e=>b.fr c o (a.fr c o e),b.sub,fun c e n=>b.new c (a.new c e n) fun z=>n (by
  cases q:H c with
  |none=>rfl
  |some o=>rw[a.same c o q]at z;cases z)⟩
theorem Ext.freeze{F H:Hp}{p:Addr}{o:HO}(h:∀a o,F a=some o->H a=some o)(hp:H p=none):Ext F H (upd F p o) (upd H p o) where
 same:=fun a u e=>by rw[af (aF e hp)];exact e
 fr:=fun a u e=>by rw[af (aF (h a u e) hp)];exact e
 sub:=fun a u e=>by
  by_cases ha:a=p
  ·subst ha;rw[aj]at e ⊢;exact e
  ·rw[af ha]at e ⊢;exact h a u e
 new:=fun a e n=>by
  have ha:a ≠ p:=fun z=>n (by rw[z];exact hp)
  rw[af ha];exact e
theorem Ext.lay{F H:Hp}{p:Addr}{o:HO}(h:∀a o,F a=some o->H a=some o)(hp:H p=none):Ext F H F (upd H p o) where
 same:=fun a u e=>by rw[af (aF e hp)];exact e
 fr:=fun _ _ e=>e
 sub:=fun a u e=>by rw[af (aF (h a u e) hp)];exact h a u e
 new:=fun _ e _=>e
theorem Ext.nofree{F H F' H':Hp}(x:Ext F H F' H'){p:Addr}(h:H' p=none):H p=none:=by
 cases q:H p with
 |none=>rfl
 |some o=>rw[x.same p o q]at h;cases h
theorem nofr{F H:Hp}(h:∀a o,F a=some o->H a=some o){p:Addr}(hp:H p=none):F p=none:=by
 cases q:F p with
 |none=>rfl
 |some o=>rw[h p o q]at hp;cases hp
structure OkF (fp:Nat->List Addr) (B:Hp×Hp) (F H:Hp) (σ:St) (E:DE):Prop where
 at_:∀(i:Nat) s,E[i]? = some (.obj s)->(∃a,(fp i).head? = some a/\σ[i]? = some (some (.ref a)))/\kE F H s (fp i)/\(fp i).Nodup/\∀x ∈ fp i,F x=none/\B.2 x=none
 sep:∀(i j:Nat) s d b,E[i]? = some (.obj s)->E[j]? = some (.own d)->σ[j]? = some (some (.ref b))->b ∉ fp i
 two:∀(i j:Nat) s t,i ≠ j->E[i]? = some (.obj s)->E[j]? = some (.obj t)->∀x ∈ fp i,x ∉ fp j
 rob:∀(i:Nat) s,E[i]? = some (.rob s)->(∃a ps,σ[i]? = some (some (.ref a))/\kE F F s (a :: ps))\/(s.fs=[]/\∃a,s.ia=some a/\σ[i]? = some (some (.ref a)))
def BW(B:Hp×Hp)(F H:Hp)(σ:St)(E:DE):Prop:=∃fp,OkF fp B F H σ E
theorem OkF.to{fp:Nat->List Addr}{B B':Hp×Hp}{F H F' H':Hp}{σ σ':St}{E E':DE}(k:OkF fp B F H σ E)(hf:∀a o,F a=some o->F' a=some o)(ho:∀(i:Nat) s,E'[i]? = some (.obj s)->E[i]? = some (.obj s)/\σ'[i]? = σ[i]?)
  (hr:∀(i:Nat) s,E'[i]? = some (.rob s)->E[i]? = some (.rob s)/\σ'[i]? = σ[i]?)
  (hp:∀(i:Nat) s,E'[i]? = some (.obj s)->∀x ∈ fp i,(∀o,H x=some o->H' x=some o)/\F' x=none/\B'.2 x=none)
  (hs:∀(i j:Nat) s d b,E'[i]? = some (.obj s)->E'[j]? = some (.own d)->σ'[j]? = some (some (.ref b))->b ∉ fp i):OkF fp B' F' H' σ' E' where
 at_:=fun i s h=>by
  obtain⟨h1,h2⟩:=ho i s h
  obtain⟨a1,a2,a3,a4⟩:=k.at_ i s h1
  exact⟨by rw[h2];exact a1,a2.move hf fun p hpp=>(hp i s h p hpp).1,a3,fun x hx=>(hp i s h x hx).2⟩
 sep:=hs
 two:=fun i j s t hij h1 h2=>k.two i j s t hij (ho i s h1).1 (ho j t h2).1
 rob:=fun i s h=>by
  obtain⟨h1,h2⟩:=hr i s h
  rcases k.rob i s h1 with⟨a,ps,q1,q2⟩ |⟨q0,a,q1,q2⟩
  ·exact .inl ⟨a,ps,by rw[h2];exact q1,q2.move hf fun p _ o e=>hf p o e⟩
  ·exact .inr ⟨q0,a,q1,by rw[h2];exact q2⟩
theorem OkF.ext{fp:Nat->List Addr}{B:Hp×Hp}{F H F' H':Hp}{σ:St}{E:DE}(q:OkF fp B F H σ E)(x:Ext F H F' H'):OkF fp B F' H' σ E :=
 q.to x.fr (fun i s h=>⟨h,rfl⟩) (fun i s h=>⟨h,rfl⟩) (fun i s h y hy=>⟨fun o e=>x.same y o e,x.new y ((q.at_ i s h).2.2.2 y hy).1 ((q.at_ i s h).2.1.dom y hy),((q.at_ i s h).2.2.2 y hy).2⟩) q.sep
structure Ok (B:Hp×Hp) (F H:Hp) (σ:St) (E:DE):Prop where
 ent:Ext B.1 B.2 F H
 len:σ.length=E.length
 val:∀(i:Nat) d,E[i]? = some (.val d)->∃v,σ[i]? = some (some v)/\Rep F v d
 own:∀(i:Nat) d,E[i]? = some (.own d)->∃a o,σ[i]? = some (some (.ref a))/\H a=some o/\F a=none/\B.2 a=none/\fC F o d
 sep:∀(i j:Nat) d e a,i ≠ j->E[i]? = some (.own d)->E[j]? = some (.own e)->σ[i]? = some (some (.ref a))->σ[j]? ≠ some (some (.ref a))
 ob:BW B F H σ E
section
variable {B:Hp×Hp}{F H F' H':Hp} {σ:St}{E:DE}
theorem Ok.sub(k:Ok B F H σ E):∀a o,F a=some o->H a=some o:=k.ent.sub
theorem Ok.ext(k:Ok B F H σ E)(x:Ext F H F' H'):Ok B F' H' σ E :=
 ⟨k.ent.trans x,k.len,fun i d e=>(let ⟨v,h1,h2⟩:=k.val i d e; ⟨v,h1,h2.mono x.fr⟩),
  fun i d e=>(let ⟨a,o,h1,h2,h3,h4,h5⟩:=k.own i d e; ⟨a,o,h1,x.same a o h2,x.new a h3 (by rw[h2];simp),h4,h5.mono x.fr⟩),k.sep,
  let ⟨fp,q⟩:=k.ob; ⟨fp,q.ext x⟩⟩
theorem Ok.set_val(k:Ok B F H σ E){v:V}{d:D}(r:Rep F v d)(i:Nat):Ok B F H (σ.set i (some v)) (E.set i (.val d)):=by
 have hl:=k.len
 have nown:∀(j:Nat) e,(E.set i (.val d))[j]? = some (.own e)->i ≠ j/\E[j]? = some (.own e):=fun j e h=>by
  rw[C7]at h
  split at h
  ·split at h <;> simp at h
  ·exact⟨by assumption,h⟩
 refine⟨k.ent,by rw[Dz,Dz];exact hl,fun j e h=>?_,fun j e h=>?_,fun j l d' e' a hjl h1 h2 h3 h4=>?_,?_⟩
 ·rw[C7]at h
  rw[C7]
  split at h
  ·subst_vars
   split at h
   ·simp at h;subst h
    rename_i hlt
    exact⟨v,by simp[hl,hlt],r⟩
   ·simp at h
  ·rename_i hne
   rw[if_neg hne]
   exact k.val j e h
 ·obtain⟨hne,h⟩:=nown j e h
  rw[CW hne]
  exact k.own j e h
 ·obtain⟨n1,h1⟩:=nown j d' h1
  obtain⟨n2,h2⟩:=nown l e' h2
  rw[CW n1]at h3
  rw[CW n2]at h4
  exact k.sep j l d' e' a hjl h1 h2 h3 h4
 ·have bk:∀(j:Nat) z,(∀q,z ≠ Sl.val q)->(E.set i (.val d))[j]? = some z->i ≠ j/\E[j]? = some z:=fun j z hz h=>by
   rw[C7]at h
   split at h
   ·split at h
    ·simp at h;exact absurd h.symm (hz d)
    ·simp at h
   ·exact⟨by assumption,h⟩
  obtain⟨fp,q⟩:=k.ob
  exact⟨fp,q.to (fun _ _ e=>e) (fun j s h=>⟨(bk j _ (by simp) h).2,CW (bk j _ (by simp) h).1⟩) (fun j s h=>⟨(bk j _ (by simp) h).2,CW (bk j _ (by simp) h).1⟩)
   (fun j s h x hx=>⟨fun _ e=>e,(q.at_ j s (bk j _ (by simp) h).2).2.2.2 x hx⟩) (fun j l s e b h1 h2 h3=>by
    obtain⟨n2,h2⟩:=bk l _ (by simp) h2
    rw[CW n2]at h3
    exact q.sep j l s e b (bk j _ (by simp) h1).2 h2 h3)⟩
theorem Ok.put_own(k:Ok B F H σ E){a:Addr}{o:HO}{d:D}(i:Nat)(hn:F a=none)(hb:B.2 a=none)(r:fC F o d)
  (Ge:∀(j:Nat) e,j ≠ i->E[j]? = some (.own e)->σ[j]? ≠ some (some (.ref a))) (F0:∃fp,OkF fp B F H σ E/\∀(j:Nat) s,E[j]? = some (.obj s)->a ∉ fp j):Ok B F (upd H a o) (σ.set i (some (.ref a))) (E.set i (.own d)):=by
 have hl:=k.len
 have oth:∀(j:Nat) s,i ≠ j->(E.set i (.own d))[j]? = some s->E[j]? = some s:=fun j s hne h=>by rw[CW hne]at h;exact h
 refine⟨⟨fun b u e=>?_,k.ent.fr,fun b u e=>?_,k.ent.new⟩,by rw[Dz,Dz];exact hl,fun j e h=>?_,fun j e h=>?_,fun j l d' e' b hjl h1 h2 h3 h4=>?_,?_⟩
 ·have:b ≠ a:=fun z=>by rw[z,hb]at e;cases e
  rw[af this];exact k.ent.same b u e
 ·have:b ≠ a:=fun z=>by rw[z,hn]at e;cases e
  rw[af this];exact k.sub b u e
 ·rw[C7]at h
  split at h
  ·split at h <;> simp at h
  ·rename_i hne
   rw[CW hne]
   exact k.val j e h
 ·rw[C7]at h
  rw[C7]
  split at h
  ·rename_i hij
   subst hij
   split at h
   ·rename_i hlt
    simp at h;subst h
    exact⟨a,o,by simp[hl,hlt],aj,hn,hb,r⟩
   ·simp at h
  ·rename_i hne
   rw[if_neg hne]
   obtain⟨b,u,h1,h2,h3,h4,h5⟩:=k.own j e h
   have nba:b ≠ a:=fun z=>Ge j e (Ne.symm hne) h (by rw[h1,z])
   exact⟨b,u,h1,by rw[af nba];exact h2,h3,h4,h5⟩
 ·have key:∀(p q:Nat) (dp dq:D),p ≠ q->(E.set i (.own d))[p]? = some (.own dp)->(E.set i (.own d))[q]? = some (.own dq)->(σ.set i (some (.ref a)))[p]? = some (some (.ref b))->(σ.set i (some (.ref a)))[q]? = some (some (.ref b))->i ≠ p->False:=by
   intro p q dp dq hpq g1 g2 g3 g4 hip
   rw[CW hip]at g3
   have g1':=oth p _ hip g1
   by_cases hiq:i=q
   ·subst hiq
    rw[C7]at g4
    rw[if_pos rfl]at g4
    split at g4
    ·simp at g4;subst g4
     exact Ge p dp (Ne.symm hip) g1' g3
    ·simp at g4
   ·rw[CW hiq]at g4
    exact k.sep p q dp dq b hpq g1' (oth q _ hiq g2) g3 g4
  by_cases hij:i=j
  ·exact key l j e' d' (Ne.symm hjl) h2 h1 h4 h3 (fun z=>hjl (by rw[<-hij,z]))
  ·exact key j l d' e' hjl h1 h2 h3 h4 hij
 ·have bk:∀(j:Nat) z,(∀q,z ≠ Sl.own q)->(E.set i (.own d))[j]? = some z->i ≠ j/\E[j]? = some z:=fun j z hz h=>by
   rw[C7]at h
   split at h
   ·split at h
    ·simp at h;exact absurd h.symm (hz d)
    ·simp at h
   ·exact⟨by assumption,h⟩
  obtain⟨fp,q,F0⟩:=F0
  refine⟨fp,q.to (fun _ _ e=>e) (fun j s h=>⟨(bk j _ (by simp) h).2,CW (bk j _ (by simp) h).1⟩) (fun j s h=>⟨(bk j _ (by simp) h).2,CW (bk j _ (by simp) h).1⟩)
   (fun j s h x hx=>⟨fun _ e=>?_,(q.at_ j s (bk j _ (by simp) h).2).2.2.2 x hx⟩) (fun j l s e c h1 h2 h3=>?_)⟩
  ·rw[af (fun z=>F0 j s (bk j _ (by simp) h).2 (by rw[<-z];exact hx))];exact e
  ·have h1':=(bk j _ (by simp) h1).2
   by_cases hil:i=l
   ·subst hil
    rw[C7,if_pos rfl]at h3
    split at h3
    ·simp at h3;subst h3;exact F0 j s h1'
    ·simp at h3
   ·rw[CW hil]at h2 h3
    exact q.sep j l s e c h1' h2 h3
end
def fzE(i:Nat)(E:DE):DE:=match E[i]? with
 |some (.own d)=>E.set i (.val d)
 |_=>E
theorem Ok.fzG{B:Hp×Hp}{F H:Hp}{σ:St}{E:DE}(k:Ok B F H σ E){i:Nat}{d:D}{a:Addr}{o':HO}(h:E[i]? = some (.own d))(h1:σ[i]? = some (some (.ref a)))(h3:F a=none)(h4:B.2 a=none)(hr:Rep (upd F a o') (.ref a) d):Ok B (upd F a o') (upd H a o') σ (E.set i (.val d)):=by
 have up:∀b u,F b=some u->(upd F a o') b=some u:=fun b u e=>by rw[af (fun z=>by rw[z,h3]at e;cases e)];exact e
 have nown:∀(j:Nat) e,(E.set i (.val d))[j]? = some (.own e)->i ≠ j/\E[j]? = some (.own e):=fun j e q=>by
  rw[C7]at q
  split at q
  ·split at q <;> simp at q
  ·exact⟨by assumption,q⟩
 refine⟨⟨fun b u e=>?_,fun b u e=>up b u (k.ent.fr b u e),fun b u e=>?_,fun b e n=>?_⟩,by rw[Dz];exact k.len,fun j e q=>?_,fun j e q=>?_,fun j l d' e' b hjl g1 g2=>k.sep j l d' e' b hjl (nown j d' g1).2 (nown l e' g2).2,?_⟩
 ·have:b ≠ a:=fun z=>by rw[z,h4]at e;cases e
  rw[af this];exact k.ent.same b u e
 ·by_cases hb:b=a
  ·subst hb;rw[aj]at e ⊢;exact e
  ·rw[af hb]at e ⊢;exact k.sub b u e
 ·have hb:b ≠ a:=fun z=>n (by rw[z];exact h4)
  rw[af hb];exact k.ent.new b e n
 ·rw[C7]at q
  split at q
  ·rename_i hij
   subst hij
   split at q
   ·simp at q;subst q
    exact⟨_,h1,hr⟩
   ·simp at q
  ·obtain⟨v,r1,r2⟩:=k.val j e q
   exact⟨v,r1,r2.mono up⟩
 ·obtain⟨hne,q⟩:=nown j e q
  obtain⟨b,u,r1,r2,r3,r4,r5⟩:=k.own j e q
  have nba:b ≠ a:=fun z=>k.sep j i e d a (Ne.symm hne) q h (by rw[r1,z]) h1
  exact⟨b,u,r1,by rw[af nba];exact r2,by rw[af nba];exact r3,r4,r5.mono up⟩
 ·have bk:∀(j:Nat) z,(∀q,z ≠ Sl.val q)->(E.set i (.val d))[j]? = some z->i ≠ j/\E[j]? = some z:=fun j z hz h=>by
   rw[C7]at h
   split at h
   ·split at h
    ·simp at h;exact absurd h.symm (hz d)
    ·simp at h
   ·exact⟨by assumption,h⟩
  obtain⟨fp,m⟩:=k.ob
  have nfp:∀(j:Nat) s,(E.set i (.val d))[j]? = some (.obj s)->∀x ∈ fp j,x ≠ a:=fun j s q x hx z=>m.sep j i s d a (bk j _ (by simp) q).2 h h1 (by rw[<-z];exact hx)
  refine⟨fp,m.to up (fun j s q=>⟨(bk j _ (by simp) q).2,rfl⟩) (fun j s q=>⟨(bk j _ (by simp) q).2,rfl⟩) (fun j s q x hx=>⟨fun _ e=>?_,?_,((m.at_ j s (bk j _ (by simp) q).2).2.2.2 x hx).2⟩) (fun j l s e c g1 g2=>m.sep j l s e c (bk j _ (by simp) g1).2 (bk l _ (by simp) g2).2)⟩
  ·rw[af (nfp j s q x hx)];exact e
  ·rw[af (nfp j s q x hx)]
   exact((m.at_ j s (bk j _ (by simp) q).2).2.2.2 x hx).1
theorem Ok.fz{X:Cx}{dl:List (Addr×Obj)}{s:Shared}{B:Hp×Hp}{F H:Hp}{σ:St}{E:DE}(I:Inv X dl σ H s)(k:Ok B F H σ E)(i:Nat):∃F' H',Inv X dl σ H' s/\Ok B F' H' σ (fzE i E)/\∀a o,F a=some o->F' a=some o:=by
 unfold fzE
 cases h:E[i]? with
 |none=>exact⟨F,H,I,k,fun _ _ e=>e⟩
 |some z =>
  cases z with
  |no=>exact⟨F,H,I,k,fun _ _ e=>e⟩
  |val d=>exact⟨F,H,I,k,fun _ _ e=>e⟩
  |obj z=>exact⟨F,H,I,k,fun _ _ e=>e⟩
  |rob z=>exact⟨F,H,I,k,fun _ _ e=>e⟩
  |own d =>
   obtain⟨a,o,h1,h2,h3,h4,h5⟩:=k.own i d h
   obtain⟨ob,I'⟩:=vz I h2
   have up:∀b u,F b=some u->(upd F a (fzO ob o)) b=some u:=fun b u e=>by rw[af (fun z=>by rw[z,h3]at e;cases e)];exact e
   exact⟨upd F a (fzO ob o),_,I',k.fzG h h1 h3 h4 ((h5.mono up).rep aj),up⟩
inductive Md where
 |V |O |F
def rM:Md->Hp->Hp->Hp->V->D->Prop
 |.V,_,F,_,v,d=>Rep F v d
 |.O,_,F,H,v,d=>Rep F v d\/∃a o,v=.ref a/\H a=some o/\fC F o d
 |.F,H0,F,H,v,d=>∃a o,v=.ref a/\H0 a=none/\H a=some o/\F a=none/\fC F o d
abbrev OB(F H:Hp)(v:V)(d:D):Prop:=Rep F v d\/∃a o,v=.ref a/\H a=some o/\fC F o d
theorem OB.ext{F H F' H':Hp}{v:V}{d:D}(x:Ext F H F' H')(r:OB F H v d):OB F' H' v d:=by
 rcases r with r |⟨a,o,h1,h2,h3⟩
 ·exact .inl (r.mono x.fr)
 ·exact .inr ⟨a,o,h1,x.same a o h2,h3.mono x.fr⟩
theorem rM.anti{m:Md}{H0 H1 F H:Hp}{v:V}{d:D}(h:∀p,H1 p=none->H0 p=none)(r:rM m H1 F H v d):rM m H0 F H v d:=by
 cases m with
 |V=>exact r
 |O=>exact r
 |F=>obtain⟨a,o,h1,h2,h3,h4,h5⟩:=r;exact⟨a,o,h1,h a h2,h3,h4,h5⟩
theorem rM.ob{m:Md}{H0 F H:Hp}{v:V}{d:D}(r:rM m H0 F H v d):OB F H v d:=by
 cases m with
 |V=>exact .inl r
 |O=>exact r
 |F=>obtain⟨a,o,h1,h2,h3,h4,h5⟩:=r;exact .inr ⟨a,o,h1,h3,h5⟩
def tM(m:Md)(f:DE->Option D):TE:=fun σ H Q=>∃B F E d,Ok B F H σ E/\f E=some d/\∀v F' H',Ext F H F' H'->rM m H F' H' v d->Q v H'
def tT(f:DE->Option Bool):TT:=fun σ H Q=>∃B F E b,Ok B F H σ E/\f E=some b/\∀F' H',Ext F H F' H'->Q b H'
def tL(f:DE->Option (List D)):TA:=fun σ H Q=>∃B F E ds,Ok B F H σ E/\f E=some ds/\∀vs F' H',Ext F H F' H'->Reps F' vs ds->Q vs H'
structure Ev (X:Cx) (m:Md) (e:Expr) (f:DE->Option D):Prop where
 h:PE X e (tM m f)
structure Et (X:Cx) (e:Expr) (f:DE->Option Bool):Prop where
 h:PT X e (tT f)
structure Ea (X:Cx) (es:List Expr) (f:DE->Option (List D)):Prop where
 h:PA X es (tL f)
inductive Out where
 |nx (E:DE) |rt (d:D) |bk (E:DE) |ct (E:DE)
abbrev Fr(F F':Hp):Prop:=∀a o,F a=some o->F' a=some o
def kP(B:Hp×Hp)(F:Hp)(Z:dh):Out->Prop
 |.nx E=>∀σ F' H,Ok B F' H σ E->Fr F F'->Z.nx σ H
 |.rt d=>∀v F' H,Ext B.1 B.2 F' H->Rep F' v d->Z.rt v H
 |.bk E=>∀σ F' H,Ok B F' H σ E->Fr F F'->Z.bk σ H
 |.ct E=>∀σ F' H,Ok B F' H σ E->Fr F F'->Z.ct σ H
theorem kP.mono{B:Hp×Hp}{F F1:Hp}{Z:dh}{r:Out}(h:kP B F Z r)(x:Fr F F1):kP B F1 Z r:=by
 cases r with
 |nx E=>exact fun σ F' H k y=>h σ F' H k fun a o e=>y a o (x a o e)
 |rt d=>exact h
 |bk E=>exact fun σ F' H k y=>h σ F' H k fun a o e=>y a o (x a o e)
 |ct E=>exact fun σ F' H k y=>h σ F' H k fun a o e=>y a o (x a o e)
def tS(f:DE->Option Out):TS:=fun Z σ H=>∃B F E r,Ok B F H σ E/\f E=some r/\kP B F Z r
structure Es (X:Cx) (st:Stmt) (f:DE->Option Out):Prop where
 h:PS X st (tS f)
structure Ess (X:Cx) (st:List Stmt) (f:DE->Option Out):Prop where
 h:PSs X st (tS f)
section
variable {X:Cx}{e a b c:Expr}{pos:Pos}
theorem PE.by{t:TE}{m:Md}{f:DE->Option D}(h:PE X e t)(w:∀σ H Q,tM m f σ H Q->t σ H Q):Ev X m e f:=⟨fun dl s σ H Q I q=>h dl s σ H Q I (w σ H Q q)⟩
theorem PT.by{t:TT}{f:DE->Option Bool}(h:PT X e t)(w:∀σ H Q,tT f σ H Q->t σ H Q):Et X e f:=⟨fun dl s σ H Q I q=>h dl s σ H Q I (w σ H Q q)⟩
theorem PA.by{es:List Expr}{t:TA}{f:DE->Option (List D)}(h:PA X es t)(w:∀σ H Q,tL f σ H Q->t σ H Q):Ea X es f:=⟨fun pos dl s σ H Q I q=>h pos dl s σ H Q I (w σ H Q q)⟩
theorem PS.by{st:Stmt}{t:TS}{f:DE->Option Out}(h:PS X st t)(w:∀Z σ H,tS f Z σ H->t Z σ H):Es X st f:=⟨fun dl s σ H Z I q=>h dl s σ H Z I (w Z σ H q)⟩
theorem PSs.by{st:List Stmt}{t:TS}{f:DE->Option Out}(h:PSs X st t)(w:∀Z σ H,tS f Z σ H->t Z σ H):Ess X st f:=⟨fun dl s σ H Z I q=>h dl s σ H Z I (w Z σ H q)⟩
theorem Ev.frz{f:DE->Option D}(h:Ev X .F e f):Ev X .V e f:=⟨fun dl s σ H Q I zz66_0=>by
 obtain⟨B,F,E,d,k,q,w⟩:=zz66_0
 refine thn (h.h dl s σ H (fun v H1=>∃a o,v=.ref a/\H1 a=some o/\∀ob,Q v (upd H1 a (fzO ob o))) I ⟨B,F,E,d,k,q,fun v F' H' x r=>?_⟩) fun u s1 ⟨x,H1,I1,r1,a,o,e1,e2,q1⟩=>?_
 ·obtain⟨p,o,h1,h2,h3,h4,h5⟩:=r
  subst h1
  refine⟨p,o,rfl,h3,fun ob=>?_⟩
  have up:∀c u,F' c=some u->(upd F' p (fzO ob o)) c=some u:=fun c u z=>by rw[af (fun y=>by rw[y,h4]at z;cases z)];exact z
  refine w _ (upd F' p (fzO ob o)) _ ⟨fun c u z=>?_,fun c u z=>up c u (x.fr c u z),fun c u z=>?_,fun c z n=>?_⟩ ((h5.mono up).rep aj)
  ·have hc:c ≠ p:=fun y=>by rw[y,h2]at z;cases z
   rw[af hc];exact x.same c u z
  ·by_cases hc:c=p
   ·subst hc;rw[aj]at z ⊢;exact z
   ·rw[af hc]at z ⊢;exact x.sub c u z
  ·have hc:c ≠ p:=fun y=>n (by rw[y];exact h2)
   rw[af hc];exact x.new c z n
 ·obtain⟨ob,I2⟩:=vz I1 e2
  exact⟨x,_,I2,r1,q1 ob⟩⟩
theorem Ev.obs{m:Md}{f:DE->Option D}(h:Ev X m e f):Ev X .O e f:=PE.by h.h fun σ H Q zz68_0=>by obtain⟨B,F,E,d,k,q,w⟩:=zz68_0;exact⟨B,F,E,d,k,q,fun v F' H' x r=>w v F' H' x r.ob⟩
def var(i:Nat)(E:DE):Option D:=match E[i]? with
 |some (.val d)=>some d
 |_=>none
def ac(i:Nat)(E:DE):Option D:=match E[i]? with
 |some (.val d)=>some d
 |some (.own d)=>some d
 |_=>none
theorem Av(i:Nat)(h:PE X e (g8 i)):Ev X .V e (var i):=PE.by h fun σ H Q zz69_0=>by
 obtain⟨B,F,E,d,k,q,w⟩:=zz69_0
 unfold var at q
 split at q
 ·rename_i d' hd
  cases q
  obtain⟨v,h1,h2⟩:=k.val i d hd
  exact⟨v,h1,w v F H (Ext.refl k.sub) h2⟩
 ·cases q
theorem xV(i:Nat)(h:PE X e (g8 i)):Ev X .O e (ac i):=PE.by h fun σ H Q zz70_0=>by
 obtain⟨B,F,E,d,k,q,w⟩:=zz70_0
 unfold ac at q
 split at q
 ·rename_i d' hd
  cases q
  obtain⟨v,h1,h2⟩:=k.val i d hd
  exact⟨v,h1,w v F H (Ext.refl k.sub) (.inl h2)⟩
 ·rename_i d' hd
  cases q
  obtain⟨p,o,h1,h2,h3,h4,h5⟩:=k.own i d hd
  exact⟨_,h1,w _ F H (Ext.refl k.sub) (.inr ⟨p,o,rfl,h2,h5⟩)⟩
 ·cases q
def cst(d:D)(_:DE):Option D:=some d
theorem j9{v:V}{d:D}(h:PE X e (tC v))(r:∀F,Rep F v d):Ev X .V e (cst d):=PE.by h fun σ H Q zz71_0=>by
 obtain⟨B,F,E,d',k,q,w⟩:=zz71_0
 cases q
 exact w v F H (Ext.refl k.sub) (r F)
theorem am{i:Int}{j pos}:Ev X .V (.Constant (.int i) j pos) (cst (.int i)):=j9 zN fun _=>.int i
theorem dU{i:Bool}{j pos}:Ev X .V (.Constant (.bool i) j pos) (cst (.bl i)):=j9 Bp fun _=>.bl i
theorem gS{j pos}:Ev X .V (.Constant .none j pos) (cst .non):=j9 pH fun _=>.non
theorem bH{i:Str}{j pos}:Ev X .V (.Constant (.str i) j pos) (cst (.str i)):=j9 zK fun _=>.str i
def dD(m:Md)(r:R2)(o:D->D->Option D):Prop:=∀(F H:Hp) (v w:V) (x y d:D) (Q:VK),(∀a u,F a=some u->H a=some u)->OB F H v x->OB F H w y->o x y=some d ->
 (∀u F' H',Ext F H F' H'->rM m H F' H' u d->Q u H')->r v w H Q
def bin(o:D->D->Option D)(f g:DE->Option D)(E:DE):Option D:=(f E).bind fun x=>(g E).bind fun y=>o x y
theorem eS{m:Md}{r:R2}{o:D->D->Option D}{f g:DE->Option D}(hr:dD m r o)(σ:St)(H:Hp)(Q:VK)(h:tM m (bin o f g) σ H Q):tOp r (tM .O f) (tM .O g) σ H Q:=by
 obtain⟨B,F,E,d,k,q,w⟩:=h
 unfold bin at q
 cases hf:f E with
 |none=>rw[hf]at q;cases q
 |some x =>
  rw[hf]at q
  cases hg:g E with
  |none=>rw[hg]at q;cases q
  |some y =>
   rw[hg]at q
   refine⟨B,F,E,x,k,hf,fun v F1 H1 x1 r1=>⟨B,F1,E,y,k.ext x1,hg,fun u F2 H2 x2 r2=>?_⟩⟩
   exact hr F2 H2 v u x y d Q x2.sub (OB.ext x2 r1) r2 q fun z F3 H3 x3 r3=>w z F3 H3 ((x1.trans x2).trans x3) (rM.anti (fun p hp=>(x1.trans x2).nofree hp) r3)
theorem j_{m:Md}{op:Operator}{r:R2}{o:D->D->Option D}{f g:DE->Option D}(ho:OpR X (binaryOp op) r)(hr:dD m r o)(ha:Ev X .O a f)(hb:Ev X .O b g):Ev X m (.BinOp a op b pos) (bin o f g) :=
 PE.by (Bo ho ha.h hb.h) (eS hr)
theorem pY{op:CmpOp}{r:R2}{o:D->D->Option D}{f g:DE->Option D}(ho:OpR X (compareOp op) r)(hr:dD .V r o)(ha:Ev X .O a f)(hb:Ev X .O b g)(hm:behindInMarks op b=false):Ev X .V (.Compare a [op] [b] pos) (bin o f g) :=
 PE.by (xi ho ha.h hb.h hm) (eS hr)
def asB:D->Option Bool
 |.bl b=>some b
 |_=>none
def tst(f:DE->Option D)(E:DE):Option Bool:=(f E).bind asB
theorem eF{f:DE->Option D}(σ:St)(H:Hp)(Q:Bool->Hp->Prop)(h:tT (tst f) σ H Q):tM .V f σ H fun x H'=>∃k,x=.bl k/\Q k H':=by
 obtain⟨B,F,E,b,k,q,w⟩:=h
 unfold tst at q
 cases hf:f E with
 |none=>rw[hf]at q;cases q
 |some x =>
  rw[hf]at q
  refine⟨B,F,E,x,k,hf,fun v F' H' x1 r1=>?_⟩
  cases x with
  |bl c =>
   cases q
   cases(show Rep F' v (.bl b) from r1)
   exact⟨b,rfl,w F' H' x1⟩
  |_=>cases q
theorem iL{op:CmpOp}{r:R2}{o:D->D->Option D}{f g:DE->Option D}(ho:OpR X (compareOp op) r)(hr:dD .V r o)(ha:Ev X .O a f)(hb:Ev X .O b g)(hm:behindInMarks op b=false):Et X (.Compare a [op] [b] pos) (tst (bin o f g)) :=
 PT.by (g_ ho ha.h hb.h hm) fun σ H Q h=>eS hr σ H _ (eF σ H Q h)
theorem fT{f:DE->Option D}(h:Ev X .V e f)(he:∀whole,isTrue e X.env whole=(do let v <-whole;standAt e.pos;holding [v] (truthy v)):=by intro _;rfl):Et X e (tst f) :=
 PT.by (zz h.h he) fun σ H Q q=>eF σ H Q q
def fF(f:DE->Option Bool)(E:DE):Option Bool:=(f E).map (!·)
theorem iI{f:DE->Option Bool}(h:Et X a f):Et X (.UnaryOp .Not a pos) (fF f):=PT.by (zA h.h) fun σ H Q zz72_0=>by
 obtain⟨B,F,E,b,k,q,w⟩:=zz72_0
 unfold fF at q
 cases hf:f E with
 |none=>rw[hf]at q;cases q
 |some c =>
  rw[hf]at q
  cases q
  exact⟨B,F,E,c,k,hf,w⟩
def kD(f g:DE->Option Bool)(E:DE):Option Bool:=(f E).bind fun c=>if c=true then g E else some false
def orT(f g:DE->Option Bool)(E:DE):Option Bool:=(f E).bind fun c=>if c=true then some true else g E
structure Ew (X:Cx) (e:Expr) (f:DE->Option Bool):Prop where
 h:PW X e (tT f)
theorem PW.by{t:TT}{f:DE->Option Bool}(h:PW X e t)(w:∀σ H Q,tT f σ H Q->t σ H Q):Ew X e f:=⟨fun whole dl s σ H Q I q=>h whole dl s σ H Q I (w σ H Q q)⟩
theorem mE{f:DE->Option Bool}(h:Et X a f):Ew X (.BoolOp .And [a] pos) f:=⟨wP h.h⟩
theorem fu{f:DE->Option Bool}(h:Et X a f):Ew X (.BoolOp .Or [a] pos) f:=⟨zx h.h⟩
theorem pW{bc:List Expr}{f g:DE->Option Bool}(h:Et X a f)(h2:Ew X (.BoolOp .And (b :: bc) pos) g):Ew X (.BoolOp .And (a :: b :: bc) pos) (kD f g):=PW.by (zy h.h h2.h) fun σ H Q zz73_0=>by
 obtain⟨B,F,E,d,k,q,w⟩:=zz73_0
 unfold kD at q
 cases hf:f E with
 |none=>rw[hf]at q;cases q
 |some c =>
  rw[hf]at q
  refine⟨B,F,E,c,k,hf,fun F1 H1 x1=>?_⟩
  cases c with
  |false=>cases q;exact ow (w F1 H1 x1)
  |true=>exact ou ⟨B,F1,E,d,k.ext x1,q,fun F2 H2 x2=>w F2 H2 (x1.trans x2)⟩
theorem ie{bc:List Expr}{f g:DE->Option Bool}(h:Et X a f)(h2:Ew X (.BoolOp .Or (b :: bc) pos) g):Ew X (.BoolOp .Or (a :: b :: bc) pos) (orT f g):=PW.by (Bi h.h h2.h) fun σ H Q zz74_0=>by
 obtain⟨B,F,E,d,k,q,w⟩:=zz74_0
 unfold orT at q
 cases hf:f E with
 |none=>rw[hf]at q;cases q
 |some c =>
  rw[hf]at q
  refine⟨B,F,E,c,k,hf,fun F1 H1 x1=>?_⟩
  cases c with
  |true=>cases q;exact ou (w F1 H1 x1)
  |false=>exact ow ⟨B,F1,E,d,k.ext x1,q,fun F2 H2 x2=>w F2 H2 (x1.trans x2)⟩
theorem Ew.et{f:DE->Option Bool}(h:Ew X e f):Et X e f:=⟨h.h _⟩
def gX(f g:DE->Option D)(E:DE):Option D:=(f E).bind fun x=>(asB x).bind fun c=>if c=true then g E else some (.bl false)
def orV(f g:DE->Option D)(E:DE):Option D:=(f E).bind fun x=>(asB x).bind fun c=>if c=true then some (.bl true) else g E
def uY(f:DE->Option D)(E:DE):Option D:=(f E).bind fun x=>(asB x).map fun c=>.bl (!c)
theorem iq{x:D}{c:Bool}(h:asB x=some c):x=.bl c:=by cases x <;> simp[asB]at h;rw[h]
theorem iH{op}{f:DE->Option D}(h:Ev X .V a f):Ev X .V (.BoolOp op [a] pos) f:=⟨zL h.h⟩
theorem gT{bc:List Expr}{f g:DE->Option D}(h:Ev X .V a f)(h2:Ev X .V (.BoolOp .And (b :: bc) pos) g):Ev X .V (.BoolOp .And (a :: b :: bc) pos) (gX f g):=PE.by (zO h.h h2.h) fun σ H Q zz75_0=>by
 obtain⟨B,F,E,d,k,q,w⟩:=zz75_0
 unfold gX at q
 cases hf:f E with
 |none=>rw[hf]at q;cases q
 |some x =>
  rw[hf]at q
  refine⟨B,F,E,x,k,hf,fun v F1 H1 x1 r1=>?_⟩
  cases hx:asB x with
  |none=>simp[hx]at q
  |some c =>
   have ex:=iq hx
   subst ex
   simp only[CA,hx]at q
   cases(show Rep F1 v (.bl c) from r1)
   refine⟨c,rfl,?_⟩
   cases c with
   |false=>cases q;exact ow (w _ F1 H1 x1 (.bl false))
   |true=>exact ou ⟨B,F1,E,d,k.ext x1,q,fun u F2 H2 x2 r2=>w u F2 H2 (x1.trans x2) r2⟩
theorem BK{bc:List Expr}{f g:DE->Option D}(h:Ev X .V a f)(h2:Ev X .V (.BoolOp .Or (b :: bc) pos) g):Ev X .V (.BoolOp .Or (a :: b :: bc) pos) (orV f g):=PE.by (Bn h.h h2.h) fun σ H Q zz76_0=>by
 obtain⟨B,F,E,d,k,q,w⟩:=zz76_0
 unfold orV at q
 cases hf:f E with
 |none=>rw[hf]at q;cases q
 |some x =>
  rw[hf]at q
  refine⟨B,F,E,x,k,hf,fun v F1 H1 x1 r1=>?_⟩
  cases hx:asB x with
  |none=>simp[hx]at q
  |some c =>
   have ex:=iq hx
   subst ex
   simp only[CA,hx]at q
   cases(show Rep F1 v (.bl c) from r1)
   refine⟨c,rfl,?_⟩
   cases c with
   |true=>cases q;exact ou (w _ F1 H1 x1 (.bl true))
   |false=>exact ow ⟨B,F1,E,d,k.ext x1,q,fun u F2 H2 x2 r2=>w u F2 H2 (x1.trans x2) r2⟩
theorem Aw{f:DE->Option D}(h:Ev X .V a f):Ev X .V (.UnaryOp .Not a pos) (uY f):=PE.by (L2.zM h.h) fun σ H Q zz77_0=>by
 obtain⟨B,F,E,d,k,q,w⟩:=zz77_0
 unfold uY at q
 cases hf:f E with
 |none=>rw[hf]at q;cases q
 |some x =>
  rw[hf]at q
  refine⟨B,F,E,x,k,hf,fun v F1 H1 x1 r1=>?_⟩
  cases hx:asB x with
  |none=>simp[hx]at q
  |some c =>
   have ex:=iq hx
   subst ex
   simp only[CA,hx,CC]at q
   cases q
   cases(show Rep F1 v (.bl c) from r1)
   exact⟨c,rfl,w _ F1 H1 x1 (.bl _)⟩
def ifV(c:DE->Option Bool)(f g:DE->Option D)(E:DE):Option D:=(c E).bind fun b=>if b=true then f E else g E
def fV(o o':D->D->Option D)(f g h:DE->Option D)(E:DE):Option D:=(f E).bind fun x=>(g E).bind fun y=>(o x y).bind fun z=>(asB z).bind fun k=>if k=true then(h E).bind fun w=>o' y w else some (.bl false)
theorem qd{r r':R2}{o o':D->D->Option D}{f g h:DE->Option D}(hr:dD .V r o)(hr':dD .V r' o')(σ:St)(H:Hp)(Q:VK)(q:tM .V (fV o o' f g h) σ H Q):tZ r r' (tM .O f) (tM .O g) (tM .O h) σ H Q:=by
 obtain⟨B,F,E,d,k,q,w⟩:=q
 unfold fV at q
 cases hf:f E with
 |none=>simp[hf]at q
 |some x =>
  cases hg:g E with
  |none=>simp[hf,hg]at q
  |some y =>
   cases ho:o x y with
   |none=>simp[hf,hg,ho]at q
   |some z =>
    cases hz:asB z with
    |none=>simp[hf,hg,ho,hz]at q
    |some c =>
     simp only[hf,hg,ho,hz,CA]at q
     refine⟨B,F,E,x,k,hf,fun v F1 H1 x1 r1=>⟨B,F1,E,y,k.ext x1,hg,fun u F2 H2 x2 r2=>?_⟩⟩
     refine hr F2 H2 v u x y z _ x2.sub (OB.ext x2 r1) r2 ho fun t F3 H3 x3 r3=>?_
     have ez:=iq hz
     subst ez
     cases(show Rep F3 t (.bl c) from r3)
     refine⟨c,rfl,?_⟩
     have x13:=(x1.trans x2).trans x3
     cases c with
     |false=>cases q;exact ow (w _ F3 H3 x13 (.bl false))
     |true =>
      refine ou ?_
      cases hh:h E with
      |none=>simp[hh]at q
      |some e =>
       simp only[hh,CA,if_true]at q
       refine⟨B,F3,E,e,k.ext x13,hh,fun p F4 H4 x4 r4=>?_⟩
       exact hr' F4 H4 u p y e d Q x4.sub (OB.ext (x3.trans x4) r2) r4 q fun t F5 H5 x5 r5=>w t F5 H5 ((x13.trans x4).trans x5) r5
theorem vN{op op':CmpOp}{r r':R2}{o o':D->D->Option D}{f g h:DE->Option D}(ho:OpR X (compareOp op) r)(hr:dD .V r o)(ho':OpR X (compareOp op') r')(hr':dD .V r' o')(ha:Ev X .O a f)(hb:Ev X .O b g)(hc:Ev X .O c h)
  (hm:lastMarks [op,op'] [b,c]=false:=by with_unfolding_all rfl):Ev X .V (.Compare a [op,op'] [b,c] pos) (fV o o' f g h):=PE.by (uP ho ho' ha.h hb.h hc.h hm) (qd hr hr')
def aD:Expr->Bool
 |.Starred _ _=>false
 |_=>true
theorem aC(e:Expr)(es:List Expr)(env:Env)(h:aD e=true):starEach (e :: es) env=(false,eval e env) :: starEach es env:=by
 cases e <;> first |rfl |cases h
theorem cL(pos:Pos)(env:Env):∀es:List Expr,es.all aD=true->(backTo pos (starEach es env)).any (·.1)=false
 | [],_=>rfl
 |e :: es,h=>by
  rw[DH,C_]at h
  rw[aC e es env h.1]
  show(false || (backTo pos (starEach es env)).any (·.1))=false
  rw[cL pos env es h.2];rfl
def ak(_:DE):Option (List D):=some []
def aa(f:DE->Option D)(g:DE->Option (List D))(E:DE):Option (List D):=(f E).bind fun x=>(g E).map fun xs=>x :: xs
theorem aq:Ea X [] ak:=PA.by cE fun σ H Q ⟨B,F,E,d,k,q,w⟩=>by cases q;exact w [] F H (Ext.refl k.sub) .nil
theorem ae{es:List Expr}{f:DE->Option D}{g:DE->Option (List D)}(h:Ev X .V e f)(h2:Ea X es g)(hs:aD e=true:=by rfl):Ea X (e :: es) (aa f g) :=
 PA.by (bj h.h h2.h (aC e es X.env hs)) fun σ H Q zz79_0=>by
  obtain⟨B,F,E,d,k,q,w⟩:=zz79_0
  unfold aa at q
  cases hf:f E with
  |none=>simp[hf]at q
  |some x =>
   cases hg:g E with
   |none=>simp[hf,hg]at q
   |some xs =>
    simp only[hf,hg,CA,CC]at q
    cases q
    exact⟨B,F,E,x,k,hf,fun v F1 H1 x1 r1=>⟨B,F1,E,xs,k.ext x1,hg,fun vs F2 H2 x2 r2=>w _ F2 H2 (x1.trans x2) (.cons (r1.mono x2.fr) r2)⟩⟩
def bG(f:DE->Option (List D))(E:DE):Option D:=(f E).bind fun xs=>if xs.length<=sizeLine then some (.tup xs) else none
def bp(f:DE->Option (List D))(E:DE):Option D:=(f E).bind fun xs=>if xs.length<=sizeLine then some (.lst xs) else none
theorem cS{es:List Expr}{x1}{f:DE->Option (List D)}(h:Ea X es f):Ev X .V (.Tuple es x1 pos) (bG f):=PE.by (uJ h.h) fun σ H Q zz80_0=>by
 obtain⟨B,F,E,d,k,q,w⟩:=zz80_0
 unfold bG at q
 cases hf:f E with
 |none=>simp[hf]at q
 |some xs =>
  simp only[hf,CA]at q
  split at q
  ·rename_i hz
   cases q
   refine⟨B,F,E,xs,k,hf,fun vs F1 H1 x1 r1=>⟨by rw[r1.length];exact hz,fun p hp=>?_⟩⟩
   have x2:=Ext.freeze (o:=HO.tup vs) x1.sub hp
   exact w _ _ _ (x1.trans x2) (.tup aj (r1.mono x2.fr))
  ·cases q
theorem bv{es:List Expr}{f:DE->Option (List D)}(h:Ea X es f):Ev X .F (.List es pos) (bp f):=PE.by (uL h.h) fun σ H Q zz81_0=>by
 obtain⟨B,F,E,d,k,q,w⟩:=zz81_0
 unfold bp at q
 cases hf:f E with
 |none=>simp[hf]at q
 |some xs =>
  simp only[hf,CA]at q
  split at q
  ·rename_i hz
   cases q
   refine⟨B,F,E,xs,k,hf,fun vs F1 H1 x1 r1=>⟨by rw[r1.length];exact hz,fun p hp=>?_⟩⟩
   have x2:=Ext.lay (o:=HO.lst vs) x1.sub hp
   exact w _ _ _ (x1.trans x2) ⟨p,_,rfl,x1.nofree hp,aj,nofr x1.sub hp,r1⟩
  ·cases q
def spD(n:Nat)(g:List D->Option D):Sp:=fun vs H Q _=>∃F ds d,(∀a o,F a=some o->H a=some o)/\Reps F vs ds/\ds.length=n/\g ds=some d/\∀v F' H',Ext F H F' H'->Rep F' v d->Q v H'
def ax(n:Nat)(g:List D->Option D)(f:DE->Option (List D))(E:DE):Option D:=(f E).bind fun ds=>if ds.length=n then g ds else none
theorem mK{k:Nat}{fa:Addr}{fd:FuncData}{ps:List Str}{x:Str}{p:Pos}{es:List Expr}{n:Nat}{g:List D->Option D}{f:DE->Option (List D)}(Fn:a9 X.prog X.w X.K X.mg X.base CX0 k fa fd ps (spD n g))(hr:ca k X.A)(hg:Gl X x)
  (hm:X.mg x=some (.ref fa)) (hk:PySem.W.keepIn X.K (.ref fa)=true) (hb:eW X.K fd ps []) (ha:Ea X (e :: es) f) (hdb:(x == ("__debug__" : Str))=false:=by decide)
  (he:aD e=true:=by rfl) (hpl:es.all aD=true:=by rfl):Ev X .V (.Call (.Name x p) (e :: es) [] pos) (ax n g f) :=
 PE.by (xj Fn hr hg hm hk hb .nil Bq ha.h hdb (aC e es X.env he) (cL pos X.env es hpl)) fun σ H Q zz82_0=>by
  obtain⟨B,F,E,d,k,q,w⟩:=zz82_0
  unfold ax at q
  cases hf:f E with
  |none=>simp[hf]at q
  |some ds =>
   simp only[hf,CA]at q
   split at q
   ·rename_i hn
    refine⟨B,F,E,ds,k,hf,fun vs F1 H1 x1 r1=>⟨F1,ds,d,x1.sub,by rw[DI];exact r1,hn,q,fun v F2 H2 x2 r2=>w v F2 H2 (x1.trans x2) r2⟩⟩
   ·cases q
def BR(o:List D->Option D)(f:DE->Option (List D))(E:DE):Option D:=(f E).bind o
def iS(m:Md)(r:List V->Hp->VK->Prop)(o:D->Option D):Prop:=∀(F H:Hp) (v:V) (x:D) (d:D) (Q:VK),(∀a u,F a=some u->H a=some u)->OB F H v x->o x=some d ->
 (∀u F' H',Ext F H F' H'->rM m H F' H' u d->Q u H')->r [v] H Q
def un(o:D->Option D)(f:DE->Option D)(E:DE):Option D:=(f E).bind o
theorem qq{m:Md}{r:List V->Hp->VK->Prop}{o:D->Option D}{f:DE->Option D}(hr:iS m r o)(σ:St)(H:Hp)(Q:VK)(h:tM m (un o f) σ H Q):tCB r (nh (tM .O f) tW) σ H Q:=by
 obtain⟨B,F,E,d,k,q,w⟩:=h
 unfold un at q
 cases hf:f E with
 |none=>simp[hf]at q
 |some x =>
  simp only[hf,CA]at q
  exact⟨B,F,E,x,k,hf,fun v F1 H1 x1 r1=>hr F1 H1 v x d Q x1.sub r1 q fun u F2 H2 x2 r2=>w u F2 H2 (x1.trans x2) (rM.anti (fun p hp=>x1.nofree hp) r2)⟩
theorem jq{m:Md}{x:Str}{p:Pos}{id:String}{r:List V->Hp->VK->Prop}{o:D->Option D}{f:DE->Option D}(hc:bQ X (.builtin id) r)(hr:iS m r o)(hg:Gl X x)(hm:X.mg x=none)(hv:bootBuiltins x=some (.builtin id))
  (ha:Ev X .O e f) (hn:x ≠ "__name__" := by decide) (hdb:(x == ("__debug__" : Str))=false:=by decide) (he:aD e=true:=by rfl):Ev X m (.Call (.Name x p) [e] [] pos) (un o f) :=
 PE.by (hJ hc hg hm hv (bj ha.h cE (aC e [] X.env he)) hn hdb (aC e [] X.env he) rfl) (qq hr)
theorem mG{m:Md}{x:Str}{p:Pos}{T:String}{r:List V->Hp->VK->Prop}{o:D->Option D}{f:DE->Option D}(hc:bQ X (.type T) r)(hr:iS m r o)(hg:Gl X x)(hm:X.mg x=none)(hv:bootBuiltins x=some (.type T))
  (ha:Ev X .O e f) (hn:x ≠ "__name__" := by decide) (hdb:(x == ("__debug__" : Str))=false:=by decide) (he:aD e=true:=by rfl):Ev X m (.Call (.Name x p) [e] [] pos) (un o f) :=
 PE.by (sf hc hg hm hv (bj ha.h cE (aC e [] X.env he)) hn hdb (aC e [] X.env he) rfl) (qq hr)
end
section
variable {X:Cx}{e:Expr}{pos:Pos}{st:Stmt}{bc:List Stmt}
def bh(E:DE):Option Out:=some (.nx E)
def ar(f g:DE->Option Out)(E:DE):Option Out:=(f E).bind fun r=>match r with
 |.nx E'=>g E'
 |r=>some r
theorem bq:Ess X [] bh:=PSs.by wT fun Z σ H ⟨B,F,E,r,k,q,w⟩=>by cases q;exact w σ F H k fun _ _ e=>e
theorem av{f:DE->Option Out}(h:Es X st f):Ess X [st] f:=⟨qF h.h⟩
theorem ai{f g:DE->Option Out}(h:Es X st f)(h2:Ess X bc g):Ess X (st :: bc) (ar f g):=PSs.by (fJ h.h h2.h) fun Z σ H zz84_0=>by
 obtain⟨B,F,E,r,k,q,w⟩:=zz84_0
 unfold ar at q
 cases hf:f E with
 |none=>simp[hf]at q
 |some r1 =>
  rw[hf]at q
  cases r1 with
  |nx E'=>exact⟨B,F,E,.nx E',k,hf,fun σ' F' H' k' y=>⟨B,F',E',r,k',q,w.mono y⟩⟩
  |rt d=>cases q;exact⟨B,F,E,.rt d,k,hf,w⟩
  |bk E'=>cases q;exact⟨B,F,E,.bk E',k,hf,w⟩
  |ct E'=>cases q;exact⟨B,F,E,.ct E',k,hf,w⟩
theorem vQ{f:DE->Option Out}(i:Nat)(h:Es X st f):Es X st (fun E=>f (fzE i E)):=⟨fun dl s σ H Z I zz85_0=>by
 obtain⟨B,F,E,r,k,q,w⟩:=zz85_0
 obtain⟨F',H',I',k',y⟩:=Ok.fz I k i
 exact h.h dl s σ H' Z I' ⟨B,F',fzE i E,r,k',q,w.mono y⟩⟩
def ba(f:DE->Option D)(E:DE):Option Out:=(f E).map Out.rt
theorem bg{f:DE->Option D}(h:Ev X .V e f):Es X (.Return (some e) pos) (ba f):=PS.by (zE h.h) fun Z σ H zz86_0=>by
 obtain⟨B,F,E,r,k,q,w⟩:=zz86_0
 unfold ba at q
 cases hf:f E with
 |none=>simp[hf]at q
 |some d =>
  simp only[hf,CC]at q
  cases q
  exact⟨B,F,E,d,k,hf,fun v F' H' x r=>w v F' H' (k.ent.trans x) r⟩
def A9(_:DE):Option Out:=some (.rt .non)
def ifS(c:DE->Option Bool)(f g:DE->Option Out)(E:DE):Option Out:=(c E).bind fun b=>if b=true then f E else g E
theorem cr{c:Expr}{a b:List Stmt}{cf:DE->Option Bool}{f g:DE->Option Out}(hc:Et X c cf)(ha:Ess X a f)(hb:Ess X b g):Es X (.If c a b pos) (ifS cf f g):=PS.by (Bl hc.h ha.h hb.h) fun Z σ H zz87_0=>by
 obtain⟨B,F,E,r,k,q,w⟩:=zz87_0
 unfold ifS at q
 cases hf:cf E with
 |none=>simp[hf]at q
 |some x =>
  rw[hf]at q
  refine⟨B,F,E,x,k,hf,fun F1 H1 x1=>?_⟩
  cases x with
  |true=>exact ou ⟨B,F1,E,r,k.ext x1,q,w.mono x1.fr⟩
  |false=>exact ow ⟨B,F1,E,r,k.ext x1,q,w.mono x1.fr⟩
def aA(i:Nat)(f:DE->Option D)(E:DE):Option Out:=(f E).map fun d=>.nx (E.set i (.val d))
def dz(i:Nat)(f:DE->Option D)(E:DE):Option Out:=(f E).map fun d=>.nx (E.set i (.own d))
theorem nj{i:Nat}{f:DE->Option D}(Z:dh)(σ:St)(H:Hp)(h:tS (aA i f) Z σ H):t9 (tM .V f) (lB i) Z σ H:=by
 obtain⟨B,F,E,r,k,q,w⟩:=h
 unfold aA at q
 cases hf:f E with
 |none=>simp[hf]at q
 |some d =>
  simp only[hf,CC]at q
  cases q
  exact⟨B,F,E,d,k,hf,fun v F' H' x r=>w _ F' H' ((k.ext x).set_val r i) x.fr⟩
theorem uQ{i:Nat}{f:DE->Option D}(Z:dh)(σ:St)(H:Hp)(h:tS (dz i f) Z σ H):t9 (tM .F f) (lB i) Z σ H:=by
 obtain⟨B,F,E,r,k,q,w⟩:=h
 unfold dz at q
 cases hf:f E with
 |none=>simp[hf]at q
 |some d =>
  simp only[hf,CC]at q
  cases q
  refine⟨B,F,E,d,k,hf,fun v F' H' x r=>?_⟩
  obtain⟨a,o,rfl,h2,h3,h4,h5⟩:=r
  have k':=k.ext x
  have hb:B.2 a=none:=k.ent.nofree h2
  have hfr:∃fp,OkF fp B F' H' σ E/\∀(j:Nat) s,E[j]? = some (.obj s)->a ∉ fp j:=by
   obtain⟨fp,m⟩:=k.ob
   exact⟨fp,m.ext x,fun j t hj hm=>(m.at_ j t hj).2.1.dom a hm h2⟩
  have z:=k'.put_own (a:=a) (o:=o) i h4 hb h5 fun j e hj he hs=>by
   obtain⟨b,u,g1,g2,_⟩:=k.own j e he
   rw[g1]at hs
   cases hs
   rw[h2]at g2
   cases g2
  have z:=z hfr
  have eu:upd H' a o=H':=by
   funext c
   unfold upd
   split
   ·rename_i hc;rw[hc,h3]
   ·rfl
  rw[eu]at z
  exact w _ F' H' z x.fr
theorem dX{i:Nat}{x:Str}{pos':Pos}{f:DE->Option D}(hN:X.N.Nodup)(hi:X.N[i]? = some x)(hx:Loc X.env.scope x)(he:Ev X .V e f)(hs:swapsWith e (some (.Name x pos')) pos.line X.env=pure false:=by rfl)
  (hf:X.fn x=true\/X.env.scope.names.lookup x=some .local:=by first |exact .inl rfl |exact .inr rfl |assumption):Es X (.Assign [.Name x pos'] e pos) (aA i f):=PS.by (pE hN hi hx he.h hs hf) nj
theorem AA{i:Nat}{x:Str}{pos':Pos}{f:DE->Option D}(hN:X.N.Nodup)(hi:X.N[i]? = some x)(hx:Loc X.env.scope x)(he:Ev X .F e f)(hs:swapsWith e (some (.Name x pos')) pos.line X.env=pure false:=by rfl)
  (hf:X.fn x=true\/X.env.scope.names.lookup x=some .local:=by first |exact .inl rfl |exact .inr rfl |assumption):Es X (.Assign [.Name x pos'] e pos) (dz i f):=PS.by (pE hN hi hx he.h hs hf) uQ
def lL(f:DE->Option D)(E:DE):Option Out:=(f E).map fun _=>.nx E
theorem x_{f:DE->Option D}(he:Ev X .V e f)(hs:swapsWith e none pos.line X.env=pure false:=by rfl):Es X (.Expr e pos) (lL f):=PS.by (gi he.h hs) fun Z σ H zz88_0=>by
 obtain⟨B,F,E,r,k,q,w⟩:=zz88_0
 unfold lL at q
 cases hf:f E with
 |none=>simp[hf]at q
 |some d =>
  simp only[hf,CC]at q
  cases q
  exact⟨B,F,E,d,k,hf,fun v F' H' x r=>w σ F' H' (k.ext x) x.fr⟩
end
def mZ(F:Hp)(J:It)(xs:List D):Prop:=∀(i:Nat) (F2 H2:Hp),Fr F F2->(∀a o,F2 a=some o->H2 a=some o) ->
 (xs.length=i->J.stop i H2)/\∀d,xs[i]? = some d->J.go i H2/\∀x H',J.yld i H2 x H'->∃F3,Ext F2 H2 F3 H'/\Rep F3 x d
def tIt(f:DE->Option (List D)):TI:=fun σ H R=>∃B F E xs,Ok B F H σ E/\f E=some xs/\∀J F' H',Ext F H F' H'->mZ F' J xs->R J H'
structure Ei (X:Cx) (tg mt:Expr) (f:DE->Option (List D)):Prop where
 h:PI X tg mt (tIt f)
def tG(gf:D->DE->Option DE):TG:=fun v σ H Q=>∃B F E d E',Ok B F H σ E/\Rep F v d/\gf d E=some E'/\∀σ' F' H',Ok B F' H' σ' E'->Ext F H F' H'->Q σ' H'
structure Eg (X:Cx) (tg:Expr) (gf:D->DE->Option DE):Prop where
 h:PG X tg (tG gf)
section
variable {X:Cx}{pos:Pos}
theorem PI.by{tg mt:Expr}{wi:TI}{f:DE->Option (List D)}(h:PI X tg mt wi)(w:∀σ H R,tIt f σ H R->wi σ H R):Ei X tg mt f:=⟨fun dl s σ H R I q=>h dl s σ H R I (w σ H R q)⟩
theorem PI.or{tg mt:Expr}{wi wi':TI}(h:PI X tg mt wi)(h':PI X tg mt wi'):PI X tg mt (fun σ H R=>wi σ H R\/wi' σ H R):=fun dl s σ H R I q=>q.elim (h dl s σ H R I) (h' dl s σ H R I)
theorem PG.by{tg:Expr}{t:TG}{gf:D->DE->Option DE}(h:PG X tg t)(w:∀v σ H Q,tG gf v σ H Q->t v σ H Q):Eg X tg gf:=⟨fun dl s σ H v u Q I r q=>h dl s σ H v u Q I r (w v σ H Q q)⟩
def nmG(i:Nat)(d:D)(E:DE):Option DE:=some (E.set i (.val d))
theorem yc{i:Nat}{x:Str}(hN:X.N.Nodup)(hi:X.N[i]? = some x)(hx:Loc X.env.scope x)(hf:X.fn x=true\/X.env.scope.names.lookup x=some .local:=by first |exact .inl rfl |exact .inr rfl |assumption):Eg X (.Name x pos) (nmG i) :=
 PG.by (w_ hN hi hx hf) fun v σ H Q ⟨B,F,E,d,E',k,r,q,w⟩=>by cases q;exact w _ F H (k.set_val r i) (Ext.refl k.sub)
def tGs(gf:List D->DE->Option DE):TGs:=fun vs σ H Q=>∃B F E ds E',Ok B F H σ E/\Reps F vs ds/\gf ds E=some E'/\∀σ' F' H',Ok B F' H' σ' E'->Ext F H F' H'->Q σ' H'
structure Egs (X:Cx) (ts:List Expr) (gf:List D->DE->Option DE):Prop where
 h:PGs X ts (tGs gf)
def eK(ds:List D)(E:DE):Option DE:=match ds with
 | []=>some E
 |_=>none
def a8(g:D->DE->Option DE)(gs:List D->DE->Option DE)(ds:List D)(E:DE):Option DE:=match ds with
 |d :: r=>(g d E).bind fun E'=>gs r E'
 |_=>none
theorem gu:Egs X [] eK:=⟨fun dl s σ H vs us Q I r zz90_0=>by
 obtain⟨B,F,E,ds,E',k,rd,q,w⟩:=zz90_0
 cases ds with
 |nil=>cases q;cases rd;exact w9 dl s σ H [] us Q I r ⟨rfl,w σ F H k (Ext.refl k.sub)⟩
 |cons _ _=>cases q⟩
theorem bL{e:Expr}{es:List Expr}{g:D->DE->Option DE}{gs:List D->DE->Option DE}(h1:Eg X e g)(h2:Egs X es gs)
  (he:(assignEach (e :: es) X.env).map (·.2)=assign e X.env :: (assignEach es X.env).map (·.2):=by rfl):Egs X (e :: es) (a8 g gs):=⟨fun dl s σ H vs us Q I r zz91_0=>by
 obtain⟨B,F,E,ds,E',k,rd,q,w⟩:=zz91_0
 cases ds with
 |nil=>cases q
 |cons d ds =>
  cases rd with
  |@cons v _ vs _ r1 r2 =>
   unfold a8 at q
   obtain⟨E1,hg,q⟩:=bS q
   refine uI h1.h h2.h he dl s σ H _ us Q I r ⟨v,vs,rfl,B,F,E,d,E1,k,r1,hg,fun σ1 F1 H1 k1 x1=>⟨B,F1,E1,ds,E',k1,r2.mono x1.fr,q,fun σ2 F2 H2 k2 x2=>w σ2 F2 H2 k2 (x1.trans x2)⟩⟩⟩
def eE(n:Nat)(gs:List D->DE->Option DE)(d:D)(E:DE):Option DE:=match d with
 |.tup ds=>if ds.length=n then gs ds E else none
 |_=>none
theorem iM{es:List Expr}{kk:Nat}{gs:List D->DE->Option DE}{n:Nat}(hc:X.calm=true)(h:Egs X es gs)(hn:(assignEach es X.env).length=n:=by rfl)(hst:(assignEach es X.env).findIdx? (·.1)=none:=by rfl) :
  Eg X (.Tuple es kk pos) (eE n gs):=PG.by (zJ hc h.h hn hst) fun v σ H Q zz92_0=>by
 obtain⟨B,F,E,d,E',k,r,q,w⟩:=zz92_0
 cases d with
 |tup ds =>
  have q':(if ds.length=n then gs ds E else none)=some E':=q
  by_cases hl:ds.length=n
  ·rw[if_pos hl]at q'
   cases r with
   |@tup a vs _ e rs=>exact⟨a,vs,rfl,SqT.of (k.sub _ _ e),by rw[rs.length];exact hl,B,F,E,ds,E',k,rs,q',w⟩
  ·rw[if_neg hl]at q';cases q'
 |_=>cases q
end
def d_(body:D->DE->Option Out):List D->DE->Option Out
 | [],E=>some (.nx E)
 |x :: xs,E=>(body x E).bind fun r=>match r with
  |.nx E'=>d_ body xs E'
  |.ct E'=>d_ body xs E'
  |.bk E'=>some (.nx E')
  |.rt d=>some (.rt d)
def c_(fi:DE->Option (List D))(gf:D->DE->Option DE)(fb:DE->Option Out)(E:DE):Option Out:=(fi E).bind fun xs=>d_ (fun x E1=>(gf x E1).bind fb) xs E
section
variable {X:Cx}{pos:Pos}
theorem fU{tg mt:Expr}{body:List Stmt}{fi:DE->Option (List D)}{gf:D->DE->Option DE}{fb:DE->Option Out}(hp:PassesOwn (model X.prog X.w) X.A X.env X.xe)(hc:X.calm=true)(hi:Ei X tg mt fi)(hg:Eg X tg gf)(hb:Ess X body fb)
  (hs:∀x,foldedSetIterable mt X.env x=pure x:=by intro _;rfl):Es X (.For tg mt body [] pos) (c_ fi gf fb):=PS.by (zF hp hc hi.h hg.h hb.h hs) fun Z σ H zz93_0=>by
 obtain⟨B,F,E,r,k,q,w⟩:=zz93_0
 unfold c_ at q
 cases hf:fi E with
 |none=>simp[hf]at q
 |some xs =>
  simp only[hf,CA]at q
  refine⟨B,F,E,xs,k,hf,fun J F1 H1 x1 it=>?_⟩
  refine⟨fun i m σ' H'=>∃F' E',Ok B F' H' σ' E'/\Fr F1 F'/\i<=xs.length/\m=xs.length - i/\d_ (fun x E1=>(gf x E1).bind fb) (xs.drop i) E'=some r,⟨_,F1,E,k.ext x1,fun _ _ e=>e,DV _,rfl,q⟩,?_⟩
  rintro i m σ' H' ⟨F',E',k',y,hi,rfl,ql⟩
  have fitF:kP B F' Z r:=w.mono fun a o e=>y a o (x1.fr a o e)
  obtain⟨st,gn⟩:=it i F' H' y k'.sub
  by_cases hlt:i < xs.length
  ·right
   have hx:xs[i]? = some xs[i]:=by simp[hlt]
   obtain⟨go,yl⟩:=gn _ hx
   rw[EZ hlt]at ql
   unfold d_ at ql
   refine⟨go,fun σ2 H2=>∃F2 E2,Ok B F2 H2 σ2 E2/\Fr F1 F2/\d_ (fun x E1=>(gf x E1).bind fb) (xs.drop (i + 1)) E2=some r,?_,?_⟩
   ·rintro σ2 H2 ⟨F2,E2,k2,y2,q2⟩
    exact⟨xs.length - (i + 1),by lia,F2,E2,k2,y2,hlt,rfl,q2⟩
   ·intro x H2 hy
    obtain⟨F3,x3,r3⟩:=yl x H2 hy
    cases hgf:gf xs[i] E' with
    |none=>simp[hgf]at ql
    |some E3 =>
     cases hfb:fb E3 with
     |none=>simp[hgf,hfb]at ql
     |some r1 =>
      simp only[hgf,hfb,CA]at ql
      have k3:=k'.ext x3
      refine⟨B,F3,E',xs[i],E3,k3,r3,hgf,fun σ4 F4 H4 k4 x4=>⟨B,F4,E3,r1,k4,hfb,?_⟩⟩
      have y4:Fr F1 F4:=fun a o e=>x4.fr a o (x3.fr a o (y a o e))
      have f4:Fr F' F4:=fun a o e=>x4.fr a o (x3.fr a o e)
      cases r1 with
      |nx E5=>exact fun σ5 F5 H5 k5 y5=>⟨F5,E5,k5,fun a o e=>y5 a o (y4 a o e),ql⟩
      |ct E5=>exact fun σ5 F5 H5 k5 y5=>⟨F5,E5,k5,fun a o e=>y5 a o (y4 a o e),ql⟩
      |bk E5 =>
       simp only at ql
       cases ql
       exact fun σ5 F5 H5 k5 y5=>fitF σ5 F5 H5 k5 fun a o e=>y5 a o (f4 a o e)
      |rt d =>
       simp only at ql
       cases ql
       exact fitF
  ·left
   have e:i=xs.length:=by lia
   subst e
   refine⟨st rfl,?_⟩
   rw[Ff]at ql
   cases ql
   exact fitF σ' F' H' k' fun _ _ e=>e
end
def aW(js:List Nat)(E:DE):DE:=js.foldl (fun a j=>a.set j .no) E
theorem Ok.no{B:Hp×Hp}{F H:Hp}{σ:St}{E:DE}(k:Ok B F H σ E)(i:Nat):Ok B F H σ (E.set i .no):=by
 have bk:∀(j:Nat) s,s ≠ Sl.no->(E.set i .no)[j]? = some s->E[j]? = some s:=fun j s hs h=>by
  rw[C7]at h
  split at h
  ·split at h
   ·simp at h;exact absurd h.symm hs
   ·simp at h
  ·exact h
 exact⟨k.ent,by rw[Dz];exact k.len,fun j d h=>k.val j d (bk j _ (by simp) h),fun j d h=>k.own j d (bk j _ (by simp) h),fun j l d e a hjl h1 h2=>k.sep j l d e a hjl (bk j _ (by simp) h1) (bk l _ (by simp) h2),
  let ⟨fp,q⟩:=k.ob; ⟨fp,q.to (fun _ _ e=>e) (fun j s h=>⟨bk j _ (by simp) h,rfl⟩) (fun j s h=>⟨bk j _ (by simp) h,rfl⟩) (fun j s h x hx=>⟨fun _ e=>e,(q.at_ j s (bk j _ (by simp) h)).2.2.2 x hx⟩) (fun j l s d b h1 h2=>q.sep j l s d b (bk j _ (by simp) h1) (bk l _ (by simp) h2))⟩⟩
theorem Ok.noS{B:Hp×Hp}{F H:Hp}{σ:St}{E:DE}(k:Ok B F H σ E)(i:Nat):Ok B F H (σ.set i none) (E.set i .no):=by
 have bk:∀(j:Nat) s,s ≠ Sl.no->(E.set i .no)[j]? = some s->i ≠ j/\E[j]? = some s:=fun j s hs h=>by
  rw[C7]at h
  split at h
  ·split at h
   ·simp at h;exact absurd h.symm hs
   ·simp at h
  ·exact⟨by assumption,h⟩
 refine⟨k.ent,by rw[Dz,Dz];exact k.len,fun j d h=>?_,fun j d h=>?_,fun j l d e a hjl h1 h2 h3 h4=>?_,?_⟩
 ·obtain⟨n,h⟩:=bk j _ (by simp) h
  rw[CW n];exact k.val j d h
 ·obtain⟨n,h⟩:=bk j _ (by simp) h
  rw[CW n];exact k.own j d h
 ·obtain⟨n1,h1⟩:=bk j _ (by simp) h1
  obtain⟨n2,h2⟩:=bk l _ (by simp) h2
  rw[CW n1]at h3
  rw[CW n2]at h4
  exact k.sep j l d e a hjl h1 h2 h3 h4
 ·obtain⟨fp,q⟩:=k.ob
  exact⟨fp,q.to (fun _ _ e=>e) (fun j s h=>⟨(bk j _ (by simp) h).2,CW (bk j _ (by simp) h).1⟩) (fun j s h=>⟨(bk j _ (by simp) h).2,CW (bk j _ (by simp) h).1⟩)
   (fun j s h x hx=>⟨fun _ e=>e,(q.at_ j s (bk j _ (by simp) h).2).2.2.2 x hx⟩) (fun j l s e b h1 h2 h3=>by
    obtain⟨n2,h2⟩:=bk l _ (by simp) h2
    rw[CW n2]at h3
    exact q.sep j l s e b (bk j _ (by simp) h1).2 h2 h3)⟩
theorem Ok.mask{B:Hp×Hp}{F H:Hp}{σ:St}(js:List Nat):∀{E:DE},Ok B F H σ E->Ok B F H σ (aW js E):=by
 induction js with
 |nil=>intro E k;exact k
 |cons j r ih=>intro E k;exact ih (k.no j)
theorem Ok.maskS{B:Hp×Hp}{F H:Hp}(js:List Nat):∀{σ:St}{E:DE},Ok B F H σ E->Ok B F H (L2.maskS js σ) (aW js E):=by
 induction js with
 |nil=>intro σ E k;exact k
 |cons j r ih=>intro σ E k;exact ih (k.noS j)
theorem Ok.withD{B:Hp×Hp}{F H:Hp}{σ:St}{E:DE}(k:Ok B F H σ E){p:Addr}{o:HO}(hp:H p=none):Ok (B.1,upd B.2 p o) F (upd H p o) σ E:=by
 have nb:∀a u,B.2 a=some u->a ≠ p:=fun a u e z=>by rw[z]at e;rw[k.ent.same p u e]at hp;cases hp
 obtain⟨fp,m⟩:=k.ob
 have np:∀(i:Nat) s,E[i]? = some (.obj s)->∀x ∈ fp i,x ≠ p:=fun i s h x hx z=>(m.at_ i s h).2.1.dom x hx (by rw[z];exact hp)
 refine⟨⟨fun a u e=>?_,k.ent.fr,fun a u e=>?_,fun a e n=>?_⟩,k.len,k.val,fun i d h=>?_,k.sep,
  fp,m.to (fun _ _ e=>e) (fun i s h=>⟨h,rfl⟩) (fun i s h=>⟨h,rfl⟩) (fun i s h x hx=>⟨fun u e=>by rw[af (np i s h x hx)];exact e,((m.at_ i s h).2.2.2 x hx).1,by show upd B.2 p o x=none;rw[af (np i s h x hx)];exact((m.at_ i s h).2.2.2 x hx).2⟩) m.sep⟩
 ·by_cases ha:a=p
  ·subst ha
   have e':upd B.2 a o a=some u:=e
   rw[aj]at e' ⊢;exact e'
  ·have e':upd B.2 p o a=some u:=e
   rw[af ha]at e' ⊢;exact k.ent.same a u e'
 ·rw[af (aF (k.sub a u e) hp)];exact k.sub a u e
 ·by_cases ha:a=p
  ·subst ha;exact nofr k.sub hp
  ·refine k.ent.new a e fun z=>n ?_
   show upd B.2 p o a=none
   rw[af ha];exact z
 ·obtain⟨a,u,h1,h2,h3,h4,h5⟩:=k.own i d h
  have ha:a ≠ p:=aF h2 hp
  exact⟨a,u,h1,by rw[af ha];exact h2,h3,by show upd B.2 p o a=none;rw[af ha];exact h4,h5⟩
theorem Ok.stepD{B1 B2 F H:Hp}{σ:St}{E:DE}{p:Addr}{o o':HO}(k:Ok (B1,upd B2 p o) F H σ E)(hb:B1 p=none):Ok (B1,upd B2 p o') F (upd H p o') σ E:=by
 have fp:F p=none:=k.ent.new p hb (by show upd B2 p o p ≠ none;rw[aj];simp)
 obtain⟨fq,m⟩:=k.ob
 have np:∀(i:Nat) s,E[i]? = some (.obj s)->∀x ∈ fq i,x ≠ p:=fun i s h x hx z=>by
  have q:upd B2 p o x=none:=((m.at_ i s h).2.2.2 x hx).2
  rw[z,aj]at q;cases q
 refine⟨⟨fun a u e=>?_,k.ent.fr,fun a u e=>?_,fun a e n=>?_⟩,k.len,k.val,fun i d h=>?_,k.sep,
  fq,m.to (fun _ _ e=>e) (fun i s h=>⟨h,rfl⟩) (fun i s h=>⟨h,rfl⟩) (fun i s h x hx=>⟨fun u e=>by rw[af (np i s h x hx)];exact e,((m.at_ i s h).2.2.2 x hx).1,by
   have q:upd B2 p o x=none:=((m.at_ i s h).2.2.2 x hx).2
   rw[af (np i s h x hx)]at q
   show upd B2 p o' x=none
   rw[af (np i s h x hx)];exact q⟩) m.sep⟩
 ·by_cases ha:a=p
  ·subst ha
   have e':upd B2 a o' a=some u:=e
   rw[aj]at e' ⊢;exact e'
  ·have e':upd B2 p o' a=some u:=e
   rw[af ha]at e' ⊢
   exact k.ent.same a u (by show upd B2 p o a=some u;rw[af ha];exact e')
 ·rw[af (fun z=>by rw[z,fp]at e;cases e)];exact k.sub a u e
 ·by_cases ha:a=p
  ·subst ha;exact fp
  ·have n':upd B2 p o' a ≠ none:=n
   rw[af ha]at n'
   exact k.ent.new a e (by show upd B2 p o a ≠ none;rw[af ha];exact n')
 ·obtain⟨a,u,h1,h2,h3,h4,h5⟩:=k.own i d h
  have ha:a ≠ p:=fun z=>by
   have h4':upd B2 p o a=none:=h4
   rw[z,aj]at h4';cases h4'
  have h4':upd B2 p o a=none:=h4
  rw[af ha]at h4'
  exact⟨a,u,h1,by rw[af ha];exact h2,h3,by show upd B2 p o' a=none;rw[af ha];exact h4',h5⟩
theorem Ext.stepD{F H F' H':Hp}{p:Addr}{o o':HO}(x:Ext F (upd H p o) F' H')(hf:F p=none):Ext F (upd H p o') F' (upd H' p o'):=by
 have fp:F' p=none:=x.new p hf (by rw[aj];simp)
 refine⟨fun a u e=>?_,x.fr,fun a u e=>?_,fun a e n=>?_⟩
 ·by_cases ha:a=p
  ·subst ha;rw[aj]at e ⊢;exact e
  ·rw[af ha]at e ⊢;exact x.same a u (by rw[af ha];exact e)
 ·rw[af (fun z=>by rw[z,fp]at e;cases e)];exact x.sub a u e
 ·by_cases ha:a=p
  ·subst ha;exact fp
  ·rw[af ha]at n
   exact x.new a e (by rw[af ha];exact n)
def bD(gf:D->DE->Option DE)(cf:DE->Option Bool)(ef:DE->Option D)(E:DE):List D->Option (List D)
 | []=>some []
 |x :: xs=>(gf x E).bind fun E1=>(cf E1).bind fun b=>if b=true then(ef E1).bind fun y=>(bD gf cf ef E xs).map fun ys=>y :: ys else bD gf cf ef E xs
def bn(js:List Nat)(fi:DE->Option (List D))(gf:D->DE->Option DE)(cf:DE->Option Bool)(ef:DE->Option D)(E:DE):Option D :=
 (fi E).bind fun xs=>if xs.length<=sizeLine then(bD gf cf ef (aW js E) xs).map D.lst else none
def iT(js:List Nat)(gf:D->DE->Option DE):Prop:=∀d E E1,gf d (aW js E)=some E1->aW js E1=aW js E
def BZ(R:Hp->Hp->V->D->Prop)(F:Hp)(J:It)(xs:List D):Prop:=∀(i:Nat) (F2 H2:Hp),Fr F F2->(∀a o,F2 a=some o->H2 a=some o) ->
 (xs.length=i->J.stop i H2)/\∀d,xs[i]? = some d->J.go i H2/\∀x H',J.yld i H2 x H'->∃F3,Ext F2 H2 F3 H'/\R F3 H' x d
def B8(R:Hp->Hp->V->D->Prop)(f:DE->Option (List D)):TI:=fun σ H K=>∃B F E xs,Ok B F H σ E/\f E=some xs/\∀J F' H',Ext F H F' H'->BZ R F' J xs->K J H'
def tGR(R:Hp->Hp->V->D->Prop)(gf:D->DE->Option DE):TG:=fun v σ H Q=>∃B F E d E',Ok B F H σ E/\R F H v d/\gf d E=some E'/\∀σ' F' H',Ok B F' H' σ' E'->Ext F H F' H'->Q σ' H'
theorem qc(R:Hp->Hp->V->D->Prop){js:List Nat}{fi:DE->Option (List D)}{gf:D->DE->Option DE}{cf:DE->Option Bool}{ef:DE->Option D}(hj:iT js gf)(σ:St)(H:Hp)(Q:VK)
  (h:tM .F (bn js fi gf cf ef) σ H Q):qv js (B8 R fi) (tGR R gf) (tT cf) (tM .V ef) σ H Q:=by
 refine Du fun hn=>?_
 obtain⟨B,F,E,d,k,q,w⟩:=h
 unfold bn at q
 cases hf:fi E with
 |none=>simp[hf]at q
 |some xs =>
  simp only[hf,CA]at q
  split at q
  ·rename_i hz
   cases hq:bD gf cf ef (aW js E) xs with
   |none=>simp[hq]at q
   |some ys =>
    rw[hq]at q
    cases q
    refine hn ⟨B,F,E,xs,k,hf,fun J F1 H1 x1 it p hp=>?_⟩
    have k1:=k.ext x1
    have f1p:F1 p=none:=nofr x1.sub hp
    have b1p:B.1 p=none:=by
     cases z:B.1 p with
     |none=>rfl
     |some u=>rw[k1.ent.fr p u z]at f1p;cases f1p
    refine⟨fun i m σ' H'=>∃F' vs dn rs,Ok (B.1,upd B.2 p (.lst vs)) F' H' σ' (aW js E)/\Ext F1 (upd H1 p (.lst vs)) F' H'/\Reps F' vs dn/\i<=xs.length/\m=xs.length - i/\vs.length<=i/\bD gf cf ef (aW js E) (xs.drop i)=some rs/\ys=dn ++ rs,
     ⟨_,F1,[],[],ys,((k1.maskS js).withD hp),Ext.refl fun a o e=>by rw[af (aF (x1.sub a o e) hp)];exact x1.sub a o e,.nil,DV _,rfl,CV _,hq,rfl⟩,?_⟩
    intro i m σ' H' hw
    refine Du fun hn=>?_
    obtain⟨F',vs,dn,rs,k',x',rp,hi,rfl,hvi,hl,rfl⟩:=hw
    obtain⟨st,gn⟩:=it i F' H' x'.fr x'.sub
    have hHp:H' p=some (.lst vs):=x'.same p _ aj
    by_cases hlt:i < xs.length
    ·have hx:xs[i]? = some xs[i]:=by simp[hlt]
     obtain⟨go,yl⟩:=gn _ hx
     refine hn (.inr ⟨go,fun x H2 hy=>?_⟩)
     clear hn
     refine Du fun hn=>?_
     obtain⟨F3,x3,r3⟩:=yl x H2 hy
     rw[EZ hlt]at hl
     unfold bD at hl
     cases h1:gf xs[i] (aW js E) with
     |none=>simp[h1]at hl
     |some E1 =>
      cases h2:cf E1 with
      |none=>simp[h1,h2]at hl
      |some b =>
       simp only[h1,h2,CA]at hl
       refine hn ⟨_,F3,_,xs[i],E1,k'.ext x3,r3,h1,fun σ4 F4 H4 k4 x4=>⟨_,F4,E1,b,k4,h2,fun F5 H5 x5=>?_⟩⟩
       clear hn
       refine Du fun hn=>?_
       have x45:=(x3.trans x4).trans x5
       cases b with
       |false =>
        simp only[Da,En]at hl
        refine hn (ow ⟨xs.length - (i + 1),by lia,F5,vs,dn,rs,?_,x'.trans x45,rp.mono x45.fr,hlt,rfl,by lia,hl,rfl⟩)
        have kk:=(k4.ext x5).mask js
        rw[hj _ _ _ h1]at kk
        exact kk
       |true =>
        cases h3:ef E1 with
        |none=>simp[h3]at hl
        |some y =>
         cases h4:bD gf cf ef (aW js E) (xs.drop (i + 1)) with
         |none=>simp[h3,h4]at hl
         |some zs =>
          simp only[h3,h4,CA,if_true,CC]at hl
          cases hl
          refine hn (ou ⟨_,F5,E1,y,k4.ext x5,h3,fun v F6 H6 x6 r6=>⟨vs,(x45.trans x6).same p _ hHp,by lia,xs.length - (i + 1),by lia,F6,vs ++ [v],dn ++ [y],zs,?_,?_,?_,hlt,rfl,by rw[C8];simp;lia,h4,by simp⟩⟩)
          ·have kk:=((k4.ext x5).ext x6).mask js
           rw[hj _ _ _ h1]at kk
           exact kk.stepD b1p
          ·exact(x'.trans (x45.trans x6)).stepD f1p
          ·exact(rp.mono (x45.trans x6).fr).append (.cons r6 .nil)
    ·have e:i=xs.length:=by lia
     subst e
     refine hn (.inl ⟨st rfl,?_⟩)
     rw[Ff]at hl
     cases hl
     refine w _ F' H' (x1.trans ((Ext.lay x1.sub hp).trans x')) ⟨p,_,rfl,x1.nofree hp,hHp,x'.new p f1p (by rw[aj];simp),?_⟩
     rw[DI]
     exact rp
  ·cases q
theorem lO{js:List Nat}{fi:DE->Option (List D)}{gf:D->DE->Option DE}{cf:DE->Option Bool}{ef:DE->Option D}(hj:iT js gf)(σ:St)(H:Hp)(Q:VK)
  (h:tM .F (bn js fi gf cf ef) σ H Q):qv js (tIt fi) (tG gf) (tT cf) (tM .V ef) σ H Q:=qc (fun F _=>Rep F) hj σ H Q h
def noT(_:DE):Option Bool:=some true
theorem sx(σ:St)(H:Hp)(Q:Bool->Hp->Prop)(h:tT noT σ H Q):yz σ H Q:=by
 obtain⟨B,F,E,b,k,q,w⟩:=h
 cases q
 exact w F H (Ext.refl k.sub)
structure yx (X:Cx) (ifs:List Expr) (f:DE->Option Bool):Prop where
 h:tE X ifs (tT f)
theorem cF{X:Cx}:yx X [] noT:=⟨fun dl s σ H Q I h=>uF dl s σ H Q I (sx σ H Q h)⟩
theorem ki{X:Cx}{c:Expr}{f:DE->Option Bool}(h:Et X c f):yx X [c] f:=⟨uE h.h⟩
section
variable {X:Cx}{scope:Scope}{js:List Nat}{elt tg mt:Expr}{ifs:List Expr}{pos:Pos}{fi:DE->Option (List D)} {gf:D->DE->Option DE}{cf:DE->Option Bool}{ef:DE->Option D}
theorem dA(b:Blk X scope js)(hc:X.calm=true)(hI:Ei X tg mt fi)(hj:iT js gf)(hg:∀C fp s0 H0,Eg (bE X scope C fp s0 H0) tg gf)(hi:∀C fp s0 H0,yx (bE X scope C fp s0 H0) ifs cf)
  (he:∀C fp s0 H0,Ev (bE X scope C fp s0 H0) .V elt ef) (hs:∀x,foldedSetIterable mt X.env x=pure x:=by intro _;rfl):Ev X .F (.ListComp elt [⟨tg,mt,ifs,0⟩] scope pos) (bn js fi gf cf ef) :=
 PE.by (xh b hc hI.h (fun C fp s0 H0=>(hg C fp s0 H0).h) (fun C fp s0 H0=>(hi C fp s0 H0).h) (fun C fp s0 H0=>(he C fp s0 H0).h) hs) (lO hj)
end
def yV(sc:Scope)(N:List Str)(scope:Scope)(js:List Nat):Bool :=
 decide (scope.kind=.function) && scope.names.all (fun y=>decide (y.2 ≠ NameKind.cell)) && scope.names.all (fun y=>decide (y.2=NameKind.local->scope.names.lookup y.1=some NameKind.local)) &&
 scope.names.all (fun y=>decide (y.2=NameKind.free->sc.names.lookup y.1=some NameKind.cell\/sc.names.lookup y.1=some NameKind.free)) &&
 (List.range N.length).all (fun i=>decide (((N[i]?).bind fun x=>scope.names.lookup x)=some NameKind.local->i ∈ js))
theorem Blk.of{X:Cx}{sc:Scope}{N:List Str}{scope:Scope}{js:List Nat}(h:yV sc N scope js=true)(h1:X.env.scope=sc)(h2:X.N=N):Blk X scope js:=by
 unfold yV at h
 simp only[C_,Dj,FG]at h
 obtain⟨⟨⟨⟨a,b⟩,c⟩,d⟩,e⟩:=h
 refine⟨a,b,c,fun y hy hk=>?_,fun i x hi hx=>?_⟩
 ·show X.env.scope.names.lookup y.1=_\/X.env.scope.names.lookup y.1=_
  rw[h1];exact d y hy hk
 ·rw[h2]at hi
  refine e i (List.mem_range.mpr (List.getElem?_eq_some_iff.mp hi).1) ?_
  rw[hi];exact hx
theorem bO{i:Nat}:iT [i] (nmG i):=fun d E E1 h=>by
 cases h
 show(((E.set i .no).set i (.val d)).set i .no)=E.set i .no
 rw[List.set_set,List.set_set]
end L2.Cu
namespace L2
open PySem PySem.Spec PyProof.Rows
def Its(x:Str):It:=⟨fun i _=>i < x.cps.size,fun i H v H'=>H'=H/\∃c,x.cps[i]? = some c/\v=.str ⟨#[c]⟩,fun i _=>i=x.cps.size⟩
theorem m_{P:Program}{w:World}{K:PySem.W.Frag}{y:Str}{py:Pos}{x:Str}{t:Tok}{ty:String}{it:Addr}
  (W:∀A:Around,A.handled=none->Walks P w A it [it] [it] x.cps.size (SignAt x) (fun i h=>h.IsStrIter it ty x t i)) (Gb:∀(A:Around) (i:Nat) (s:Shared) (Q:Value->Shared->Prop) (E:Value->Shared->Prop),s.heap.IsStrIter it ty x t i->Q (.ref it) s->wpAny (model P w) A (pyIter (.ref it)) Q E s) :
  kO P w K (.Name y py) (Its x) [it] it (fun i h=>h.IsStrIter it ty x t i) where
 mem:=by simp
 obj:=fun i h st b hb=>by
  have e:b=it:=by simpa using hb
  subst e
  obtain⟨o,ho,_,hd⟩:=st
  exact⟨o,ho,fun v z=>by rw[hd]at z;cases z⟩
 keep:=fun i h h' st k=>by
  obtain⟨o,ho,r⟩:=st
  exact⟨o,k it (by simp) o ho,r⟩
 item:=by
  intro X hP hw hK hc i dl s σ H E I hf st hg
  subst hP hw hK
  obtain⟨f0,f1,f2,f3,f4,f5⟩:=hf it (by simp)
  refine(W _ (I.ok.hd hc)).item i s _ _ hg st fun v h' tk hv st' kk=>?_
  obtain⟨c,u,hcc,rfl⟩:=hv
  have I1:Inv X dl σ H { s with heap:=h',toks:=tk }:=I.turned (fun b o hb e=>kk b o (by simpa using hb) e) f0 f1 f3 f4 f5
  exact⟨_,rfl,CP ⟨.str ⟨#[c]⟩,H,I1,⟨u,rfl⟩,⟨rfl,c,hcc,rfl⟩,st',fun b hb=>(hf b hb).1⟩⟩
 done:=by
  intro X hP hw hK hc i dl s σ H E I hf st hg
  subst hP hw hK
  obtain⟨f0,f1,f2,f3,f4,f5⟩:=hf it (by simp)
  have hi:i=x.cps.size:=hg
  subst hi
  exact(W _ (I.ok.hd hc)).done s _ _ st fun h' tk kk=>⟨rfl,I.turned (fun b o hb e=>kk b o (by simpa using hb) e) f0 f1 f3 f4 f5⟩
 self:=Gb
def Cn(tl:TE):TI:=fun σ H R=>tl σ H fun v H1=>∃x,v=.str x/\R (Its x) H1
theorem zI{X:Cx}{y:Str}{py:Pos}{l:Expr}{tl:TE}(hl:PE X l tl):PI X (.Name y py) l (Cn tl):=by
 intro dl s σ H R I h
 refine thn (hl dl s σ H _ I h) fun u s1 zz94_0=>?_
 obtain⟨v,H1,I1,r1,x,e,q⟩:=zz94_0
 subst e
 obtain⟨t,rfl⟩:=r1
 have ht:H1 s1.heap.objs.size=none:=I1.hok.fresh (CV _)
 cases ha:x.cps.all (· < 128)
 ·refine wpAny_pyIter_wide ha ?_
  refine⟨s1.heap.objs.size,[s1.heap.objs.size],_,Its x,H1,rfl,I1.kept (t':=s1.toks) fun b o e=>CO _ e,m_ (t:=t) (ty := "str_iterator") (fun A hA=>Walks.strWide hA _ x t) (fun A i s Q E st hQ=>wpAny_pyIter_striter_wide st hQ),⟨_,CT _ rfl,rfl,rfl⟩,fun b hb=>?_,q⟩
  have e:b=s1.heap.objs.size:=by simpa using hb
  subst e
  exact I1.fpOk (CV _) ht
 ·refine wpAny_pyIter_ascii ha ?_
  refine⟨s1.heap.objs.size,[s1.heap.objs.size],_,Its x,H1,rfl,I1.kept (t':=s1.toks) fun b o e=>CO _ e,m_ (t:=t) (ty := "str_ascii_iterator") (fun A hA=>Walks.strAscii hA _ x t) (fun A i s Q E st hQ=>wpAny_pyIter_striter_ascii st hQ),⟨_,CT _ rfl,rfl,rfl⟩,fun b hb=>?_,q⟩
  have e:b=s1.heap.objs.size:=by simpa using hb
  subst e
  exact I1.fpOk (CV _) ht
section
variable {X:Cx}
theorem xq:OpR X (binaryOp .Mult) (rI (fun i j=>Builtin.Int.intBits i<=2 ^ 20/\Builtin.Int.intBits j<=2 ^ 20) fun i j=>.int (i * j)):=opI fun _ _ _ _ _ _ _ hc q=>mul_int q (IntMulOk.of_bits hc.1 hc.2)
theorem uS:OpR X (binaryOp .FloorDiv) (rI (fun _ j=>0 < j/\j.natAbs.log2 < 9000) fun i j=>.int (i / j)):=opI fun i j _ _ _ _ _ hc q=>by
 refine floordiv_int (by lia) ?_ (.inl (PyProof.noPylong_of_log2 hc.2))
 rw[Int.fdiv_eq_ediv_of_nonneg _ (by lia)]
 exact q
theorem sj:OpR X (compareOp .LtE) (fun x y H Q=>∃i j,x=.str i/\y=.str j/\Q (.bl (!decide (j.cps.toList < i.cps.toList))) H):=by
 intro dl s σ H x y v u Q I rx ry h
 obtain⟨i,j,rfl,rfl,q⟩:=h
 obtain⟨t,rfl⟩:=rx
 obtain⟨t',rfl⟩:=ry
 exact PySem.P.le_str ⟨.bl _,H,I,rfl,q⟩
theorem zc:SlR X (fun x lo hi H Q=>∃z,x=.str z/\z.length<=sizeLine/\Q (.str (Txt.slice z lo hi)) H):=by
 intro dl s σ H x v vl vu lo hi sl Q I rx hs pl pu h
 obtain⟨z,rfl,hz,q⟩:=h
 obtain⟨t,rfl⟩:=rx
 refine⟨"str",_,F.slot_str_getitem.lookup,typeIs_str _ _ _,?_⟩
 have fin:∀(l u:Option (Int×Tok)),l.map (·.1)=lo->u.map (·.1)=hi->s.heap.IsSlice sl l u none->wpAny (model X.prog X.w) X.A (getItem (.str z t) (.ref sl)) (EP X dl σ Q) X.xe s:=by
  intro l u hl hu hsl
  refine wpAny_getItem_str_slice hsl rfl ?_
  unfold sliceMade slicePicked
  rw[hl,hu]
  have e:Txt.slice z lo hi=if((1:Int) == 1 && (Builtin.Str.strSliceIndices lo hi 1 z.length).length == z.length)=true then z else⟨((Builtin.Str.strSliceIndices lo hi 1 z.length).filterMap (z.cps[·]?)).toArray⟩:=rfl
  rw[e]at q
  show(if((1:Int) == 1 && (Builtin.Str.strSliceIndices lo hi 1 z.length).length == z.length)=true then Made.val (.str z t) else Made.str ⟨((Builtin.Str.strSliceIndices lo hi 1 z.length).filterMap (z.cps[·]?)).toArray⟩).post _ s
  by_cases hc:((1:Int) == 1 && (Builtin.Str.strSliceIndices lo hi 1 z.length).length == z.length)=true
  ·rw[if_pos hc]at q ⊢
   exact⟨.str z,H,I,⟨t,rfl⟩,q⟩
  ·rw[if_neg hc]at q ⊢
   have Cl:(⟨((Builtin.Str.strSliceIndices lo hi 1 z.length).filterMap (z.cps[·]?)).toArray⟩:Str).length<=sizeLine:=by
    show((Builtin.Str.strSliceIndices lo hi 1 z.length).filterMap (z.cps[·]?)).toArray.size<=sizeLine
    rw[C4]
    exact CZ (List.length_filterMap_le _ _) (CZ (sliceIndices_le lo hi z.length) hz)
   refine⟨Cl,?_⟩
   exact⟨.str _,H,I.tok _,⟨_,rfl⟩,q⟩
 obtain⟨o,ho,hc,hd⟩:=hs
 cases pl with
 |none =>
  cases pu with
  |none=>exact fin none none rfl rfl ⟨o,ho,hc,hd⟩
  |int j u=>exact fin none (some (j,u)) rfl rfl ⟨o,ho,hc,hd⟩
 |int i t' =>
  cases pu with
  |none=>exact fin (some (i,t')) none rfl rfl ⟨o,ho,hc,hd⟩
  |int j u=>exact fin (some (i,t')) (some (j,u)) rfl rfl ⟨o,ho,hc,hd⟩
theorem y8(A:Around)(its:Array Value)(bs:List Bool)(h:its.toList=bs.map Value.bool)(prog:Program)(w:World):TruthOf prog w A (fun i v=>its[i]? = some v) (fun i=>bs.getD i false):=by
 intro i v s Q E hv hq
 have e:its.toList[i]? = some v:=by simpa using hv
 rw[h,Db]at e
 obtain⟨b,hb,e⟩:=bM e
 cases e
 have:bs.getD i false=b:=by rw[DD,hb];rfl
 have hq':Q (bs.getD i false) s:=hq
 rw[this]at hq'
 exact DQ hq'
theorem rX(bs:List Bool):(List.range bs.length).all (fun i=>bs.getD i false)=bs.all id:=by
 have e:(List.range bs.length).map (fun i=>bs.getD i false)=bs:=by
  refine List.ext_getElem (by simp) fun i h1 h2=>?_
  simp[C0 h2]
 have:=DK (fun l=>l.all id) e
 simpa[List.all_map,Function.comp_def] using this
theorem m6:∀{bs:List Bool}{its:List Value},aM (bs.map V.bl) its->its=bs.map Value.bool
 := fun {bs its} z=>by
  cases bs with
  |nil=>cases z;rfl
  |cons b bs =>
   cases z with
   |cons r t =>
    have e:_=Value.bool b:=r
    rw[e,m6 t];rfl
theorem we(hc:X.calm=true):bQ X (.builtin "all") (fun xs H Q=>∃(a:Addr) (bs:List Bool),xs=[.ref a]/\H a=some (.lst (bs.map V.bl))/\Q (.bl (bs.all id)) H):=by
 intro dl s σ H xs us Q I r h
 obtain⟨a,bs,rfl,ha,q⟩:=h
 obtain⟨u,rfl,ru⟩:=gE r
 obtain rfl:u=Value.ref a:=ru
 obtain⟨z,its,n,rv,hl,e⟩:=I.lstM ha
 have hit:=m6 rv
 have hL:s.heap.IsList a its.toArray:=⟨_,e,rfl,n,rfl⟩
 have hlt:a < s.heap.objs.size:=CS e
 have hh:X.A.in1.handled=none:=I.ok.hd hc
 have st0:(s.heap.push { cls:=.type "list_iterator",data:=.fields #[.ref a,.int 0 0] }).IsListIter s.heap.objs.size a 0/\(s.heap.push { cls:=.type "list_iterator",data:=.fields #[.ref a,.int 0 0] }).IsList a its.toArray:=⟨⟨_,CT _ rfl,rfl,rfl⟩,⟨_,CO _ e,rfl,n,rfl⟩⟩
 refine call_all_walk (Fj hL ⟨_,_,_,_,_,_,_,rfl,Walks.list (A:=X.A.in1) hh _ a (C5 hlt) its.toArray,st0,y8 _ its.toArray bs (by simpa using hit) _ _,fun h' tk hk=>?_⟩)
 have hn:its.toArray.size=bs.length:=by rw[C4,<-hl,CQ]
 rw[hn,rX]
 exact⟨.bl _,H,I.kept (t':=tk) fun b o eo=>hk b o (by simpa using C5 (CS eo)) (CO _ eo),rfl,q⟩
theorem o5:bQ X (.builtin "isinstance") (fun xs H Q=>∃x T t b,xs=[x,.ty T]/\gD X.K H x t/\PySem.W.kitOne X.K t (.type T)=some b/\Q (.bl b) H):=by
 intro dl s σ H xs us Q I r h
 obtain⟨x,T,t,b,rfl,ty,e,q⟩:=h
 obtain⟨u,w',rfl,ru,rw'⟩:=AO r
 obtain rfl:w'=Value.type T:=rw'
 exact sP I ru ty e fun tk=>⟨.bl b,H,I.tok tk,rfl,q⟩
end
end L2
namespace L2.Cu
open PySem PySem.Spec PyProof.Rows
section
variable {F H:Hp}{v:V}
theorem OB.int{i:Int}(r:OB F H v (.int i)):v=.int i:=by
 rcases r with r |⟨a,o,h1,h2,h3⟩
 ·cases r;rfl
 ·cases o <;> exact False.elim h3
theorem OB.bl{i:Bool}(r:OB F H v (.bl i)):v=.bl i:=by
 rcases r with r |⟨a,o,h1,h2,h3⟩
 ·cases r;rfl
 ·cases o <;> exact False.elim h3
theorem OB.str{i:Str}(r:OB F H v (.str i)):v=.str i:=by
 rcases r with r |⟨a,o,h1,h2,h3⟩
 ·cases r;rfl
 ·cases o <;> exact False.elim h3
theorem OB.non(r:OB F H v .non):v=.non:=by
 rcases r with r |⟨a,o,h1,h2,h3⟩
 ·cases r;rfl
 ·cases o <;> exact False.elim h3
theorem OB.lst{ds:List D}(s:∀a u,F a=some u->H a=some u)(r:OB F H v (.lst ds)):∃a vs,v=.ref a/\H a=some (.lst vs)/\Reps F vs ds:=by
 rcases r with r |⟨a,o,h1,h2,h3⟩
 ·cases r with
  |lst e rs=>exact⟨_,_,rfl,s _ _ e,rs⟩
 ·cases o with
  |lst vs=>exact⟨a,vs,h1,h2,h3⟩
  |_=>exact False.elim h3
theorem pA{H H':Hp}{a:Addr}{u:HO}(h:∀a o,H a=some o->H' a=some o)(r:Rd H a u):Rd H' a u:=r.elim (fun e=>.inl (h _ _ e)) fun zz95_0=>by obtain⟨o,e⟩:=zz95_0;exact .inr ⟨o,h _ _ e⟩
theorem jr{H:Hp}{a:Addr}{kvs:List (Key×V)}{k:Key}(e:Rd H a (.dK kvs)):kQ H a (kV k) (eC kvs k):=.inl ⟨kvs,k,e,rfl,rfl⟩
theorem OB.dic{ds:List (Key×D)}(s:∀a u,F a=some u->H a=some u)(r:OB F H v (.dic ds)):∃a vs,v=.ref a/\Rd H a (.dK vs)/\RepK F vs ds:=by
 rcases r with r |⟨a,o,h1,h2,h3⟩
 ·cases r with
  |dic e rs=>exact⟨_,_,rfl,.inr ⟨_,s _ _ e⟩,rs⟩
 ·cases o with
  |dK vs=>exact⟨a,vs,h1,.inl h2,h3⟩
  |_=>exact False.elim h3
theorem OB.tup{ds:List D}(r:OB F H v (.tup ds)):∃a vs,v=.ref a/\F a=some (.tup vs)/\Reps F vs ds:=by
 rcases r with r |⟨a,o,h1,h2,h3⟩
 ·cases r with
  |tup e rs=>exact⟨_,_,rfl,e,rs⟩
 ·cases o <;> exact False.elim h3
theorem OB.scr{ns:List Int}(r:OB F H v (.scr ns)):∃a o,v=.ref a/\F a=some (.frz o (.lst (ns.map V.int))):=by
 rcases r with r |⟨a,o,h1,h2,h3⟩
 ·cases r with
  |scr e=>exact⟨_,_,rfl,e⟩
 ·cases o <;> exact False.elim h3
end
def iG:D->Option (List D)
 |.lst xs=>some xs
 |.tup xs=>some xs
 |_=>none
def fH(x:Str):List D:=x.cps.toList.map fun c=>.str ⟨#[c]⟩
def b_:D->Option (List D)
 |.lst xs=>some xs
 |.tup xs=>some xs
 |.str x=>some (fH x)
 |_=>none
def cc(o:D->Option (List D))(f:DE->Option D)(E:DE):Option (List D):=(f E).bind o
section
variable {X:Cx}{e:Expr}{pos:Pos}
theorem An{K:PySem.W.Frag}{F:Hp}{a:Addr}{vs:List V}{ds:List D}(h:F a=some (.lst vs))(r:Reps F vs ds):mZ F (Itl K a) ds:=by
 intro i F2 H2 y s
 have q:SqL K H2 a vs:=SqL.of (s _ _ (y _ _ h))
 refine⟨fun hl=>⟨vs,q,by rw[r.length,hl];exact CV _⟩,fun d hd=>?_⟩
 obtain⟨v,hv,rv⟩:=r.get hd
 refine⟨⟨vs,v,q,hv⟩,fun x H' yl=>?_⟩
 obtain⟨rfl,yl⟩:=yl
 have e2:=yl vs q
 rw[hv]at e2
 cases e2
 exact⟨F2,Ext.refl s,rv.mono y⟩
theorem Aj{K:PySem.W.Frag}{F:Hp}{a:Addr}{vs:List V}{ds:List D}(h:F a=some (.tup vs))(r:Reps F vs ds):mZ F (Itt K a) ds:=by
 intro i F2 H2 y s
 have q:SqT K H2 a vs:=SqT.of (s _ _ (y _ _ h))
 refine⟨fun hl=>⟨vs,q,by rw[r.length,hl];exact CV _⟩,fun d hd=>?_⟩
 obtain⟨v,hv,rv⟩:=r.get hd
 refine⟨⟨vs,v,q,hv⟩,fun x H' yl=>?_⟩
 obtain⟨rfl,yl⟩:=yl
 have e2:=yl vs q
 rw[hv]at e2
 cases e2
 exact⟨F2,Ext.refl s,rv.mono y⟩
theorem Ak{F:Hp}(x:Str):mZ F (Its x) (fH x):=by
 intro i F2 H2 y s
 have hl:(fH x).length=x.cps.size:=by simp[fH]
 refine⟨fun h=>by rw[hl]at h;exact h.symm,fun d hd=>?_⟩
 unfold fH at hd
 rw[Db]at hd
 obtain⟨c,hc,hd⟩:=bM hd
 cases hd
 have hlt:i < x.cps.size:=by
  have:=(List.getElem?_eq_some_iff.mp hc).1
  simpa using this
 have hc':x.cps[i]? = some c:=by simpa using hc
 refine⟨hlt,fun z H' yl=>?_⟩
 obtain⟨rfl,c',h1,h2⟩:=yl
 rw[hc']at h1
 cases h1
 subst h2
 exact⟨F2,Ext.refl s,.str _⟩
theorem eh{y:Str}{py:Pos}{f:DE->Option D}(h:Ev X .V e f):Ei X (.Name y py) e (cc b_ f):=PI.by (PI.or (zI h.h) (PI.or (w5 h.h) (zH h.h))) fun σ H R zz96_0=>by
 obtain⟨B,F,E,xs,k,q,w⟩:=zz96_0
 unfold cc at q
 obtain⟨d,hf,q⟩:=bS q
 cases d with
 |str z =>
  cases q
  refine .inl ⟨B,F,E,_,k,hf,fun v F' H' x r=>?_⟩
  cases r with
  |str=>exact⟨z,rfl,w _ F' H' x (Ak z)⟩
 |lst ds =>
  cases q
  refine .inr (.inl ⟨B,F,E,_,k,hf,fun v F' H' x r=>?_⟩)
  cases r with
  |lst e rs=>exact⟨_,rfl,⟨_,SqL.of (x.sub _ _ e)⟩,w _ F' H' x (An e rs)⟩
 |tup ds =>
  cases q
  refine .inr (.inr ⟨B,F,E,_,k,hf,fun v F' H' x r=>?_⟩)
  cases r with
  |tup e rs=>exact⟨_,rfl,⟨_,SqT.of (x.sub _ _ e)⟩,w _ F' H' x (Aj e rs)⟩
 |_=>cases q
def cN(lo:Int)(n:Nat):List D:=(List.range n).map fun i=>.int (lo + (i:Nat))
def g9(ds:List D):Option (List D):=match ds with
 | [.int j]=>@ite _ (-(2 ^ 62)<=j/\j < 2 ^ 62) (Classical.propDecidable _) (some (cN 0 j.toNat)) none
 |_=>none
def yB(ds:List D):Option (List D):=match ds with
 | [.int i,.int j]=>@ite _ ((-(2 ^ 62)<=i/\i < 2 ^ 62)/\(-(2 ^ 62)<=j/\j < 2 ^ 62)) (Classical.propDecidable _) (some (cN i (j - i).toNat)) none
 |_=>none
def fD(f:DE->Option (List D))(E:DE):Option (List D):=(f E).bind g9
def Ce(f:DE->Option (List D))(E:DE):Option (List D):=(f E).bind yB
theorem pz{ds xs:List D}(h:g9 ds=some xs):∃j,ds=[.int j]:=by
 unfold g9 at h
 split at h
 ·exact⟨_,rfl⟩
 ·cases h
theorem Al{F:Hp}(lo:Int)(n:Nat):mZ F (Itr lo n) (cN lo n):=by
 intro i F2 H2 y s
 have hl:(cN lo n).length=n:=by simp[cN]
 refine⟨fun h=>by rw[hl]at h;exact Nat.le_of_eq h,fun d hd=>?_⟩
 unfold cN at hd
 rw[Db]at hd
 obtain⟨c,hc,hd⟩:=bM hd
 cases hd
 obtain⟨hlt,rfl⟩:=List.getElem?_eq_some_iff.mp hc
 rw[D8]at hlt
 refine⟨hlt,fun z H' yl=>?_⟩
 obtain⟨rfl,rfl⟩:=yl
 rw[List.getElem_range]
 exact⟨F2,Ext.refl s,.int _⟩
theorem cv{tg a:Expr}{f:DE->Option (List D)}{p:Pos}(hg:Gl X "range")(hm:X.mg "range" = none)(ha:Ea X [a] f)(hs:aD a=true:=by rfl):Ei X tg (.Call (.Name "range" p) [a] [] pos) (fD f) :=
 PI.by (r_ hg hm ha.h (aC a [] X.env hs)) fun σ H R zz97_0=>by
  obtain⟨B,F,E,xs,k,q,w⟩:=zz97_0
  unfold fD at q
  obtain⟨ds,hf,q⟩:=bS q
  refine⟨B,F,E,ds,k,hf,fun vs F' H' x r=>?_⟩
  obtain⟨j,rfl⟩:=pz q
  obtain⟨v1,ws,rfl,r1,r⟩:=r.c1
  obtain rfl:=r.c0
  cases r1
  ·have q':@ite _ (-(2 ^ 62)<=j/\j < 2 ^ 62) (Classical.propDecidable _) (some (cN 0 j.toNat)) none=some xs:=q
   by_cases hj : -(2 ^ 62)<=j/\j < 2 ^ 62
   ·rw[if_pos hj]at q'
    cases q'
    exact⟨j,rfl,hj.1,hj.2,w _ F' H' x (Al 0 _)⟩
   ·rw[if_neg hj]at q';cases q'
end
def i2(g:Int->Int->Option D):D->D->Option D
 |.int i,.int j=>g i j
 |_,_=>none
theorem hZ{g:Int->Int->Option D}{x y d:D}(h:i2 g x y=some d):∃i j,x=.int i/\y=.int j/\g i j=some d:=by
 cases x <;> cases y <;> simp[i2]at h
 exact⟨_,_,rfl,rfl,h⟩
def Cc:D->D->Option D:=i2 fun i j=>some (.int (i - j))
def u8:D->D->Option D:=i2 fun i j=>if Builtin.Int.intBits i<=2 ^ 20/\Builtin.Int.intBits j<=2 ^ 20 then some (.int (i * j)) else none
theorem zr:dD .V (rI (fun i j=>Builtin.Int.intBits i<=2 ^ 20/\Builtin.Int.intBits j<=2 ^ 20) fun i j=>.int (i * j)) u8:=fun F H v w x y d Q s rx ry h q=>by
 obtain⟨i,j,rfl,rfl,h'⟩:=hZ h
 split at h'
 ·rename_i hc
  cases h'
  exact⟨i,j,rx.int,ry.int,hc,q _ F H (Ext.refl s) (.int _)⟩
 ·cases h'
def aO:D->D->Option D:=i2 fun i j=>if 0 < j then some (.int (i % j)) else none
theorem zt:dD .V (rI (fun _ j=>0 < j) fun i j=>.int (i % j)) aO:=fun F H v w x y d Q s rx ry h q=>by
 obtain⟨i,j,rfl,rfl,h'⟩:=hZ h
 split at h'
 ·rename_i hc
  cases h'
  exact⟨i,j,rx.int,ry.int,hc,q _ F H (Ext.refl s) (.int _)⟩
 ·cases h'
def aN:D->D->Option D:=i2 fun i j=>if 0 < j/\j.natAbs.log2 < 9000 then some (.int (i / j)) else none
theorem wL:dD .V (rI (fun _ j=>0 < j/\j.natAbs.log2 < 9000) fun i j=>.int (i / j)) aN:=fun F H v w x y d Q s rx ry h q=>by
 obtain⟨i,j,rfl,rfl,h'⟩:=hZ h
 split at h'
 ·rename_i hc
  cases h'
  exact⟨i,j,rx.int,ry.int,hc,q _ F H (Ext.refl s) (.int _)⟩
 ·cases h'
def ja:D->D->Option D:=i2 fun i j=>if 0<=j/\j<=1000000/\i.natAbs < 2 ^ 64 then some (.int (i ^ j.toNat)) else none
theorem zo:dD .V (rI B0 fun i j=>.int (i ^ j.toNat)) ja:=fun F H v w x y d Q s rx ry h q=>by
 obtain⟨i,j,rfl,rfl,h'⟩:=hZ h
 split at h'
 ·rename_i hc
  cases h'
  exact⟨i,j,rx.int,ry.int,hc,q _ F H (Ext.refl s) (.int _)⟩
 ·cases h'
def zQ(pi:Int->Int->Bool)(ps:List Nat->List Nat->Bool):D->D->Option D
 |.int i,.int j=>some (.bl (pi i j))
 |.str i,.str j=>some (.bl (ps i.cps.toList j.cps.toList))
 |_,_=>none
def ltD:D->D->Option D:=zQ (fun i j=>decide (i < j)) fun i j=>decide (i < j)
def leD:D->D->Option D:=zQ (fun i j=>decide (i<=j)) fun i j => !decide (j < i)
def gtD:D->D->Option D:=i2 fun i j=>some (.bl (decide (j < i)))
def geD:D->D->Option D:=i2 fun i j=>some (.bl (decide (j<=i)))
theorem nG{pi:Int->Int->Bool}{ps:List Nat->List Nat->Bool}{x y d:D}(h:zQ pi ps x y=some d) :
  (∃i j,x=.int i/\y=.int j/\d=.bl (pi i j))\/∃i j,x=.str i/\y=.str j/\d=.bl (ps i.cps.toList j.cps.toList):=by
 match x,y,h with
 |.int i,.int j,h=>exact .inl ⟨i,j,rfl,rfl,(CU h).symm⟩
 |.str i,.str j,h=>exact .inr ⟨i,j,rfl,rfl,(CU h).symm⟩
theorem A_:dD .V (fun x y H Q=>(rI0 fun i j=>.bl (decide (i < j))) x y H Q\/∃i j,x=.str i/\y=.str j/\Q (.bl (decide (i.cps.toList < j.cps.toList))) H) ltD:=fun F H v w x y d Q s rx ry h q=>by
 rcases nG h with⟨i,j,rfl,rfl,rfl⟩ |⟨i,j,rfl,rfl,rfl⟩
 ·exact .inl ⟨_,_,rx.int,ry.int,q _ F H (Ext.refl s) (.bl _)⟩
 ·exact .inr ⟨_,_,rx.str,ry.str,q _ F H (Ext.refl s) (.bl _)⟩
theorem yD:dD .V (fun x y H Q=>(rI0 fun i j=>.bl (decide (i<=j))) x y H Q\/∃i j,x=.str i/\y=.str j/\Q (.bl (!decide (j.cps.toList < i.cps.toList))) H) leD:=fun F H v w x y d Q s rx ry h q=>by
 rcases nG h with⟨i,j,rfl,rfl,rfl⟩ |⟨i,j,rfl,rfl,rfl⟩
 ·exact .inl ⟨_,_,rx.int,ry.int,q _ F H (Ext.refl s) (.bl _)⟩
 ·exact .inr ⟨_,_,rx.str,ry.str,q _ F H (Ext.refl s) (.bl _)⟩
theorem yE:dD .V (rI0 fun i j=>.bl (decide (j < i))) gtD:=fun F H v w x y d Q s rx ry h q=>by
 obtain⟨i,j,rfl,rfl,h'⟩:=hZ h
 cases h'
 exact⟨i,j,rx.int,ry.int,q _ F H (Ext.refl s) (.bl _)⟩
section
variable {X:Cx}{a b:Expr}{pos:Pos}{f g:DE->Option D}
theorem bf(ha:Ev X .O a f)(hb:Ev X .O b g):Ev X .V (.BinOp a .Mod b pos) (bin aO f g):=j_ zS zt ha hb
theorem bA(ha:Ev X .O a f)(hb:Ev X .O b g):Ev X .V (.BinOp a .FloorDiv b pos) (bin aN f g):=j_ uS wL ha hb
theorem pX(ha:Ev X .O a f)(hb:Ev X .O b g):Ev X .V (.BinOp a .Pow b pos) (bin ja f g):=j_ zR zo ha hb
theorem zT:OpR X (compareOp .Lt) (fun x y H Q=>(rI0 fun i j=>.bl (decide (i < j))) x y H Q\/∃i j,x=.str i/\y=.str j/\Q (.bl (decide (i.cps.toList < j.cps.toList))) H):=OpR.or Bu si
theorem uR:OpR X (compareOp .LtE) (fun x y H Q=>(rI0 fun i j=>.bl (decide (i<=j))) x y H Q\/∃i j,x=.str i/\y=.str j/\Q (.bl (!decide (j.cps.toList < i.cps.toList))) H):=OpR.or Bv sj
end
mutual
def toP:D->PyData
 |.non=>.none
 |.bl b=>.bool b
 |.int i=>.int i
 |.str x=>.str x
 |.tup xs=>.tuple (toPs xs)
 |.lst xs=>.list (toPs xs)
 |.dic _=>.dict []
 |.scr _=>.dict []
 |.rf _=>.dict []
 |.dit _=>.dict []
 |.odd _ _=>.dict []
def toPs:List D->List PyData
 | []=>[]
 |x :: xs=>toP x :: toPs xs
end
section
variable {X:Cx}{dl:List (Addr×Obj)} {σ:St}{F H:Hp}{s:Shared}
mutual
theorem Rep.reads(I:Inv X dl σ H s)(hs:∀a o,F a=some o->H a=some o):∀{v:V}{d:D}{u:Value},Rep F v d->aJ v u->(toP d).canLay0=true->∃as,Reads s.heap u (toP d) as
 := fun {v d u} q r c=>by
  refine Du fun hn=>?_
  cases q with
  |non=>cases r;exact hn ⟨_,.none⟩
  |bl b=>cases r;exact hn ⟨_,.bool b⟩
  |int i=>obtain⟨t,rfl⟩:=r;exact hn ⟨_,.int i t⟩
  |str x=>obtain⟨t,rfl⟩:=r;exact hn ⟨_,.str x t⟩
  |@tup a vs ds e rs =>
   cases r
   obtain⟨its,rv,ht,hz⟩:=I.tuple (SqT.of (hs _ _ e))
   obtain⟨o,ho,hc,n,hd⟩:=ht
   have c':PyData.canLayAll0 (toPs ds)=true:=by simpa[toP,PyData.canLay0] using c
   obtain⟨as,ra⟩:=Reps.reads I hs rs rv c'
   exact hn ⟨_,by rw[toP];exact .tuple ho hc hd (by simpa using ra)⟩
  |@lst a vs ds e rs =>
   cases r
   obtain⟨z,its,n,rv,hl,ho⟩:=I.lstM (hs _ _ e)
   have c':PyData.canLayAll0 (toPs ds)=true:=by simpa[toP,PyData.canLay0] using c
   obtain⟨as,ra⟩:=Reps.reads I hs rs rv c'
   exact hn ⟨_,by rw[toP];exact .list ho rfl rfl (by simpa using ra)⟩
  |dic _ _=>simp[toP,PyData.canLay0]at c
  |scr _=>simp[toP,PyData.canLay0]at c
  |rf _=>simp[toP,PyData.canLay0]at c
  |dit _=>simp[toP,PyData.canLay0]at c
  |odd _ _ _ _ _=>simp[toP,PyData.canLay0]at c
theorem Reps.reads(I:Inv X dl σ H s)(hs:∀a o,F a=some o->H a=some o):∀{vs:List V}{ds:List D}{us:List Value},Reps F vs ds->aM vs us->PyData.canLayAll0 (toPs ds)=true->∃as,ReadsAll s.heap us (toPs ds) as
 := fun {vs ds us} z w c=>by
  refine Du fun hn=>?_
  cases z with
  |nil=>cases w;exact hn ⟨_,.nil⟩
  |@cons v d vs ds r rs =>
   cases w with
   |cons q qs =>
    have c':(toP d).canLay0=true/\PyData.canLayAll0 (toPs ds)=true:=by simpa[toPs,PyData.canLayAll0] using c
    obtain⟨as,h1⟩:=Rep.reads I hs r q c'.1
    obtain⟨bs,h2⟩:=Reps.reads I hs rs qs c'.2
    exact hn ⟨_,by rw[toPs];exact .cons h1 h2⟩
end
theorem OB.reads(I:Inv X dl σ H s)(hs:∀a o,F a=some o->H a=some o){v:V}{d:D}{u:Value}(r:OB F H v d)(q:aJ v u)(c:(toP d).canLay0=true):∃as,Reads s.heap u (toP d) as:=by
 rcases r with r |⟨a,o,rfl,h2,h3⟩
 ·exact Rep.reads I hs r q c
 ·cases q
  cases o with
  |lst vs =>
   cases d with
   |lst ds =>
    obtain⟨z,its,n,rv,hl,ho⟩:=I.lstM h2
    have c':PyData.canLayAll0 (toPs ds)=true:=by simpa[toP,PyData.canLay0] using c
    obtain⟨as,ra⟩:=Reps.reads I hs (show Reps F vs ds from h3) rv c'
    exact⟨_,by rw[toP];exact .list ho rfl rfl (by simpa using ra)⟩
   |_=>exact False.elim h3
  |dK vs =>
   cases d with
   |dic ds=>simp[toP,PyData.canLay0]at c
   |_=>exact False.elim h3
  |dT vs =>
   cases d with
   |dit ds=>simp[toP,PyData.canLay0]at c
   |_=>exact False.elim h3
  |_=>exact False.elim h3
end
def lc(neg:Bool)(u:Nat):R2:=fun v w H Q=>∃F x y,(∀a o,F a=some o->H a=some o)/\OB F H v x/\OB F H w y/\(toP x).canLay0=true/\(toP y).canLay0=true/\u + min (toP x).depth (toP y).depth < cLine /\
 Q (.bl (if neg then !PyData.eqv (toP x) (toP y) else PyData.eqv (toP x) (toP y))) H
section
variable {X:Cx}
theorem gl:OpR X (compareOp .Eq) (lc false X.A.units):=by
 intro dl s σ H v w u z Q I rv rw h
 obtain⟨F,x,y,hs,ox,oy,cx,cy,hu,q⟩:=h
 obtain⟨as,ra⟩:=ox.reads I hs rv cx
 obtain⟨bs,rb⟩:=oy.reads I hs rw cy
 exact SeqAt.rcAt_reads ra rb cx cy hu X.prog X.w X.xe _ ⟨.bl _,H,I,rfl,q⟩
theorem lh:OpR X (compareOp .NotEq) (lc true X.A.units):=by
 intro dl s σ H v w u z Q I rv rw h
 obtain⟨F,x,y,hs,ox,oy,cx,cy,hu,q⟩:=h
 obtain⟨as,ra⟩:=ox.reads I hs rv cx
 obtain⟨bs,rb⟩:=oy.reads I hs rw cy
 exact SeqAt.compareNe_reads ra rb cx cy hu ⟨.bl _,H,I,rfl,q⟩
end
def scD:D->D->Option Bool
 |.str x,.str y=>some (decide (x=y))
 |.int x,.int y=>some (decide (x=y))
 |.bl x,.bl y=>some (decide (x=y))
 |_,_=>none
def bB(x:D):Bool:=(toP x).canLay0 && decide ((toP x).depth<=60)
def eqD(x y:D):Option Bool:=match scD x y with
 |some b=>some b
 |none=>if bB x && bB y then some (PyData.eqv (toP x) (toP y)) else none
def eqO(x y:D):Option D:=(eqD x y).map D.bl
def neO(x y:D):Option D:=(eqD x y).map fun b=>.bl (!b)
theorem lH{x y:D}{b:Bool}(h:eqD x y=some b):(∃i j,x=.str i/\y=.str j/\b=decide (i=j))\/(∃i j,x=.int i/\y=.int j/\b=decide (i=j))\/(∃i j,x=.bl i/\y=.bl j/\b=decide (i=j)) \/
  (bB x=true/\bB y=true/\b=PyData.eqv (toP x) (toP y)):=by
 unfold eqD at h
 cases hs:scD x y with
 |some c =>
  rw[hs]at h
  cases h
  match x,y,hs with
  |.str i,.str j,hs=>exact .inl ⟨i,j,rfl,rfl,(CU hs).symm⟩
  |.int i,.int j,hs=>exact .inr (.inl ⟨i,j,rfl,rfl,(CU hs).symm⟩)
  |.bl i,.bl j,hs=>exact .inr (.inr (.inl ⟨i,j,rfl,rfl,(CU hs).symm⟩))
 |none =>
  rw[hs]at h
  have h':(if(bB x && bB y)=true then some (PyData.eqv (toP x) (toP y)) else none)=some b:=h
  split at h'
  ·rename_i hc
   obtain⟨h1,h2⟩:=Bool.and_eq_true_iff.mp hc
   exact .inr (.inr (.inr ⟨h1,h2,(CU h').symm⟩))
  ·cases h'
theorem pB(u:Nat)(hu:u + 64 < cLine):dD .V (fun x y H Q=>rEq x y H Q\/lc false u x y H Q) eqO:=fun F H v w x y d Q s rx ry h q=>by
 unfold eqO at h
 obtain⟨b,he,h⟩:=bM h
 cases h
 have fin:=q (.bl b) F H (Ext.refl s) (.bl b)
 rcases lH he with⟨i,j,rfl,rfl,rfl⟩ |⟨i,j,rfl,rfl,rfl⟩ |⟨i,j,rfl,rfl,rfl⟩ |⟨h1,h2,rfl⟩
 ·left;cases rx.str;cases ry.str;exact⟨rfl,by simpa using fin⟩
 ·left;cases rx.int;cases ry.int;exact⟨rfl,by simpa using fin⟩
 ·left;cases rx.bl;cases ry.bl;exact⟨rfl,by simpa using fin⟩
 ·right
  obtain⟨a1,a2⟩:=Bool.and_eq_true_iff.mp h1
  obtain⟨b1,b2⟩:=Bool.and_eq_true_iff.mp h2
  have:=DM a2
  exact⟨F,x,y,s,rx,ry,a1,b1,by lia,fin⟩
theorem ur(u:Nat)(hu:u + 64 < cLine):dD .V (fun x y H Q=>rNe x y H Q\/lc true u x y H Q) neO:=fun F H v w x y d Q s rx ry h q=>by
 unfold neO at h
 obtain⟨b,he,h⟩:=bM h
 cases h
 have fin:=q (.bl (!b)) F H (Ext.refl s) (.bl (!b))
 rcases lH he with⟨i,j,rfl,rfl,rfl⟩ |⟨i,j,rfl,rfl,rfl⟩ |⟨i,j,rfl,rfl,rfl⟩ |⟨h1,h2,rfl⟩
 ·left;cases rx.str;cases ry.str;exact⟨rfl,by simpa using fin⟩
 ·left;cases rx.int;cases ry.int;exact⟨rfl,by simpa using fin⟩
 ·left;cases rx.bl;cases ry.bl;exact⟨rfl,by simpa using fin⟩
 ·right
  obtain⟨a1,a2⟩:=Bool.and_eq_true_iff.mp h1
  obtain⟨b1,b2⟩:=Bool.and_eq_true_iff.mp h2
  have:=DM a2
  exact⟨F,x,y,s,rx,ry,a1,b1,by lia,fin⟩
def cK:D->Bool
 |.non |.bl _ |.int _ |.str _=>true
 |_=>false
def toV:D->V
 |.bl b=>.bl b
 |.int i=>.int i
 |.str x=>.str x
 |_=>.non
theorem oF{F:Hp}{v:V}{d:D}(r:Rep F v d)(h:cK d=true):v=toV d/\fP v=true:=by
 cases r <;> first |exact⟨rfl,rfl⟩ |cases h
theorem eP{F:Hp}:∀{vs:List V}{ds:List D},Reps F vs ds->ds.all cK=true->vs=ds.map toV/\vs.all fP=true
 := fun z h=>by
  cases z with
  |nil=>exact⟨rfl,rfl⟩
  |cons r t =>
   rw[DH,C_]at h
   obtain⟨e1,f1⟩:=oF r h.1
   obtain⟨e2,f2⟩:=eP t h.2
   subst e1 e2
   exact⟨rfl,by rw[DH,f1,f2];rfl⟩
def inD(x y:D):Option Bool:=match y with
 |.str j=>(match x with
  |.str i=>some (!(Builtin.Str.occurrences j i 0 j.length 1).isEmpty)
  |_=>none)
 |.tup ds=>if cK x && ds.all cK then some (inV (toV x) (ds.map toV)) else none
 |.lst ds=>if cK x && ds.all cK then some (inV (toV x) (ds.map toV)) else none
 |_=>none
theorem lA{x y:D}{b:Bool}(h:inD x y=some b):(∃i j,x=.str i/\y=.str j/\b = !(Builtin.Str.occurrences j i 0 j.length 1).isEmpty) \/
  (∃ds,(y=.tup ds\/y=.lst ds)/\cK x=true/\ds.all cK=true/\b=inV (toV x) (ds.map toV)):=by
 cases y with
 |str j =>
  cases x with
  |str i=>exact .inl ⟨i,j,rfl,rfl,(CU h).symm⟩
  |_=>cases h
 |tup ds =>
  have h':(if cK x && ds.all cK then some (inV (toV x) (ds.map toV)) else none)=some b:=h
  split at h'
  ·rename_i hc
   obtain⟨h1,h2⟩:=Bool.and_eq_true_iff.mp hc
   exact .inr ⟨ds,.inl rfl,h1,h2,(CU h').symm⟩
  ·cases h'
 |lst ds =>
  have h':(if cK x && ds.all cK then some (inV (toV x) (ds.map toV)) else none)=some b:=h
  split at h'
  ·rename_i hc
   obtain⟨h1,h2⟩:=Bool.and_eq_true_iff.mp hc
   exact .inr ⟨ds,.inr rfl,h1,h2,(CU h').symm⟩
  ·cases h'
 |_=>cases h
theorem qX{F H:Hp}{v:V}{d:D}(r:OB F H v d)(h:cK d=true):v=toV d/\fP v=true:=by
 rcases r with r |⟨a,o,h1,h2,h3⟩
 ·exact oF r h
 ·cases o <;> cases d <;> first |exact False.elim h3 |cases h
def inO(x y:D):Option D:=(inD x y).map D.bl
def u6(x y:D):Option D:=(inD x y).map fun b=>.bl (!b)
theorem Bb{K:PySem.W.Frag}:dD .V (fun x y H Q=>(∃i j,x=.str i/\y=.str j/\Q (.bl (!(Builtin.Str.occurrences j i 0 j.length 1).isEmpty)) H)\/rIn K false x y H Q) inO:=fun F H v w x y d Q s rx ry h q=>by
 unfold inO at h
 obtain⟨b,he,h⟩:=bM h
 cases h
 have fin:=q (.bl b) F H (Ext.refl s) (.bl b)
 rcases lA he with⟨i,j,rfl,rfl,rfl⟩ |⟨ds,hy,h1,h2,rfl⟩
 ·exact .inl ⟨i,j,rx.str,ry.str,fin⟩
 ·right
  obtain⟨ex,fx⟩:=qX rx h1
  rcases hy with rfl |rfl
  ·obtain⟨a,vs,rfl,ha,rs⟩:=ry.tup
   obtain⟨e2,f2⟩:=eP rs h2
   subst e2
   exact⟨a,_,rfl,.inr (SqT.of (s _ _ ha)),fx,f2,by rw[ex];exact fin⟩
  ·obtain⟨a,vs,rfl,ha,rs⟩:=OB.lst s ry
   obtain⟨e2,f2⟩:=eP rs h2
   subst e2
   exact⟨a,_,rfl,.inl (SqL.of ha),fx,f2,by rw[ex];exact fin⟩
theorem zp{K:PySem.W.Frag}:dD .V (fun x y H Q=>(∃i j,x=.str i/\y=.str j/\Q (.bl (!(!(Builtin.Str.occurrences j i 0 j.length 1).isEmpty))) H)\/rIn K true x y H Q) u6:=fun F H v w x y d Q s rx ry h q=>by
 unfold u6 at h
 obtain⟨b,he,h⟩:=bM h
 cases h
 have fin:=q (.bl (!b)) F H (Ext.refl s) (.bl (!b))
 rcases lA he with⟨i,j,rfl,rfl,rfl⟩ |⟨ds,hy,h1,h2,rfl⟩
 ·exact .inl ⟨i,j,rx.str,ry.str,fin⟩
 ·right
  obtain⟨ex,fx⟩:=qX rx h1
  rcases hy with rfl |rfl
  ·obtain⟨a,vs,rfl,ha,rs⟩:=ry.tup
   obtain⟨e2,f2⟩:=eP rs h2
   subst e2
   exact⟨a,_,rfl,.inr (SqT.of (s _ _ ha)),fx,f2,by rw[ex];exact fin⟩
  ·obtain⟨a,vs,rfl,ha,rs⟩:=OB.lst s ry
   obtain⟨e2,f2⟩:=eP rs h2
   subst e2
   exact⟨a,_,rfl,.inl (SqL.of ha),fx,f2,by rw[ex];exact fin⟩
def ixD(x y:D):Option D:=match y with
 |.int i=>(match x with
  |.lst xs=>atI xs i
  |.tup xs=>atI xs i
  |.str z=>if z.length<=sizeLine then(atI z.cps.toList i).map fun c=>.str ⟨#[c]⟩ else none
  |.scr ns=>(atI ns i).map D.int
  |_=>none)
 |_=>none
theorem Reps.atI{F:Hp}{vs:List V}{ds:List D}(r:Reps F vs ds){i:Int}{d:D}(h:L2.atI ds i=some d):∃v,L2.atI vs i=some v/\Rep F v d:=by
 unfold L2.atI at h ⊢
 rw[r.length]
 cases hx:ixN ds.length i with
 |none=>rw[hx]at h;cases h
 |some j=>rw[hx]at h;exact r.get h
theorem Ba{K:PySem.W.Frag}:dD .V (rIx K) ixD:=fun F H v w x y d Q s rx ry h q=>by
 cases y with
 |int i =>
  cases ry.int
  cases x with
  |lst xs =>
   obtain⟨a,vs,rfl,ha,rs⟩:=OB.lst s rx
   obtain⟨u,hu,ru⟩:=rs.atI (show atI xs i=some d from h)
   exact .inl ⟨a,vs,i,u,rfl,rfl,SqL.of ha,hu,q u F H (Ext.refl s) ru⟩
  |tup xs =>
   obtain⟨a,vs,rfl,ha,rs⟩:=rx.tup
   obtain⟨u,hu,ru⟩:=rs.atI (show atI xs i=some d from h)
   exact .inr (.inl ⟨a,vs,i,u,rfl,rfl,SqT.of (s _ _ ha),hu,q u F H (Ext.refl s) ru⟩)
  |str z =>
   cases rx.str
   have h':(if z.length<=sizeLine then(atI z.cps.toList i).map (fun c=>D.str ⟨#[c]⟩) else none)=some d:=h
   split at h'
   ·rename_i hz
    cases hc:atI z.cps.toList i with
    |none=>rw[hc]at h';cases h'
    |some c =>
     rw[hc]at h'
     cases h'
     exact .inr (.inr ⟨z,i,c,rfl,rfl,hz,hc,q _ F H (Ext.refl s) (.str _)⟩)
   ·cases h'
  |scr ns =>
   obtain⟨a,o,rfl,ha⟩:=rx.scr
   have h':(atI ns i).map D.int=some d:=h
   cases hc:atI ns i with
   |none=>rw[hc]at h';cases h'
   |some c =>
    rw[hc]at h'
    cases h'
    refine .inl ⟨a,_,i,.int c,rfl,rfl,.inl (.inr ⟨o,s _ _ ha⟩),?_,q _ F H (Ext.refl s) (.int _)⟩
    unfold atI at hc ⊢
    rw[CQ]
    cases hx:ixN ns.length i with
    |none=>rw[hx]at hc;cases hc
    |some j =>
     rw[hx]at hc
     show(ns.map V.int)[j]? = _
     have hc':ns[j]? = some c:=hc
     rw[Db,hc'];rfl
  |_=>cases h
 |_=>cases h
def cT{α:Type}(xs:List α)(lo hi:Option Int):List α:=(xs.drop (HT.sIx xs.length 0 lo)).take (HT.sIx xs.length xs.length hi - HT.sIx xs.length 0 lo)
def noP(_:DE):Option (Option Int):=some none
def di(f:DE->Option D)(E:DE):Option (Option Int):=(f E).bind fun d=>match d with
 |.int i=>some (some i)
 |_=>none
def tP(f:DE->Option (Option Int)):TO:=fun σ H Q=>∃B F E o,Ok B F H σ E/\f E=some o/\∀F' H',Ext F H F' H'->Q o H'
structure Ep (X:Cx) (e:Option Expr) (f:DE->Option (Option Int)):Prop where
 h:PO X e (tP f)
theorem PO.by{X:Cx}{e:Option Expr}{t:TO}{f:DE->Option (Option Int)}(h:PO X e t)(w:∀σ H Q,tP f σ H Q->t σ H Q):Ep X e f:=⟨fun dl s σ H Q I q=>h dl s σ H Q I (w σ H Q q)⟩
theorem mO{X:Cx}:Ep X none noP:=PO.by wY fun σ H Q ⟨B,F,E,o,k,q,w⟩=>by cases q;exact w F H (Ext.refl k.sub)
theorem fw{X:Cx}{e:Expr}{f:DE->Option D}(h:Ev X .V e f):Ep X (some e) (di f):=PO.by (wX h.h) fun σ H Q zz99_0=>by
 obtain⟨B,F,E,o,k,q,w⟩:=zz99_0
 unfold di at q
 obtain⟨d,hf,q⟩:=bS q
 cases d with
 |int i =>
  cases q
  exact⟨B,F,E,_,k,hf,fun v F' H' x r=>⟨i,by cases r;rfl,w F' H' x⟩⟩
 |_=>cases q
def slD(x:D)(lo hi:Option Int):Option D:=match x with
 |.lst xs=>some (.lst (cT xs lo hi))
 |.scr ns=>some (.lst ((cT ns lo hi).map D.int))
 |.tup xs=>some (.tup (cT xs lo hi))
 |.str z=>if z.length<=sizeLine then some (.str (Txt.slice z lo hi)) else none
 |_=>none
def cA(f:DE->Option D)(l h:DE->Option (Option Int))(E:DE):Option D:=(f E).bind fun x=>(l E).bind fun lo=>(h E).bind fun hi=>slD x lo hi
theorem v_{α β:Type}(g:α->β)(xs:List α)(lo hi:Option Int):cT (xs.map g) lo hi=(cT xs lo hi).map g:=by
 unfold cT
 rw[CQ,List.map_take,List.map_drop]
theorem pq{X:Cx}:SlR X (fun x lo hi H Q=>∃a xs,x=.ref a/\SqT X.K H a xs/\(HT.sIx xs.length 0 lo=0/\HT.sIx xs.length xs.length hi=xs.length)/\Q (.ref a) H):=by
 intro dl s σ H x v vl vu lo hi sl Q I rx hs pl pu h
 obtain⟨a,xs,rfl,hx,⟨hw1,hw2⟩,q⟩:=h
 cases rx
 obtain⟨its,r,ht,hz⟩:=I.tuple hx
 have Cl:its.toArray.size=xs.length:=by rw[C4];exact r.length.symm
 refine⟨"tuple",_,PyProof.Rows.slot_tuple_getitem.lookup,ht.typeIs,?_⟩
 obtain⟨os,hos,hcs,hds⟩:=id hs
 have hTs:s.TypeIs (.ref sl) "slice" := ⟨os,hos,hcs⟩
 unfold getItem
 try with_reducible refine Dx ?_
 first |refine CN (CP ?_) |skip
 refine CN (wpAny_sequenceKey ht.typeIs (by decide) ?_)
 refine CN (DP (name:=Str.ofString "__getitem__") ht.typeIs DT (Ds DT ht.typeIs entry_tuple_getitem ?_ (args_tuple_getitem _ _)))
 show wpAny _ _ (Builtin.Tuple.tupleItemsOf (.ref a) >>= _) _ _ s
 refine CN (tupleItemsOf_ ht ?_)
 refine CN (EE hTs ?_)
 rw[if_pos (by decide)]
 refine CN (HT.sliceApplied_gen hs pl pu ?_)
 rw[Cl,hw1,hw2]
 dsimp only
 rw[if_pos (by simp)]
 refine CN (m:=Builtin.Tuple.tupleIsExact (.ref a)) ?_
 unfold Builtin.Tuple.tupleIsExact
 refine CN (EE ht.typeIs (CP ?_))
 rw[if_pos (by decide)]
 exact CN (Fi (CP ⟨_,rfl,CP ⟨.ref a,H,I,rfl,q⟩⟩))
end L2.Cu
namespace L2
open PySem PySem.Spec PyProof.Rows
theorem uT{X:Cx}:OpR X (binaryOp .Add) (fun x y H Q=>∃a b ys,x=.ref a/\y=.ref b/\SqT X.K H a []/\SqT X.K H b ys/\Q (.ref b) H):=by
 intro dl s σ H x y v u Q I rx ry h
 obtain⟨a,b,ys,rfl,rfl,ha,hb,q⟩:=h
 cases rx
 cases ry
 obtain⟨its,r1,p1,_⟩:=I.tuple ha
 obtain⟨its2,r2,p2,_⟩:=I.tuple hb
 have e0:its=[]:=r1.nil_iff.mpr rfl
 subst e0
 obtain⟨⟨cls,dd,data,sl⟩,ho,hc,n,hd⟩:=id p1
 obtain⟨⟨cls2,dd2,data2,sl2⟩,ho2,hc2,n2,hd2⟩:=id p2
 simp only at hc hd hc2 hd2
 subst hc hd hc2 hd2
 exact concat_meets ⟨_,ho,rfl⟩ ⟨_,ho2,rfl⟩ noFill_tuple_add seq_tuple_add Fg Fa (E8 _ _)
  (tuple_addW0 a b [].toArray its2.toArray n n2 dd dd2 sl sl2 (by simp)) ⟨ho,ho2,⟨.ref b,H,I,rfl,q⟩⟩
end L2
namespace L2.Cu
open PySem PySem.Spec PyProof.Rows
section
variable {X:Cx}{a b e:Expr}{pos p2:Pos}{f g:DE->Option D}
def cz(x y:D):Option D:=match x,y with
 |.int i,.int j=>some (.int (i + j))
 |.str i,.str j=>if i.length + j.length<=sizeLine then some (.str (i ++ j)) else none
 |.tup i,.tup j=>if i.length + j.length<=sizeLine then some (.tup (i ++ j)) else none
 |.lst i,.lst j=>if i.length + j.length<=sizeLine then some (.lst (i ++ j)) else none
 |_,_=>none
def yI(K:PySem.W.Frag):R2:=fun x y H Q=>(((rI0 fun i j=>.int (i + j)) x y H Q\/∃i j,x=.str i/\y=.str j/\i.length + j.length<=sizeLine/\Q (.str (i ++ j)) H)\/(yH K x y H Q\/∃a b ys,x=.ref a/\y=.ref b/\SqT K H a []/\SqT K H b ys/\Q (.ref b) H))\/Bh x y H Q
theorem xt:OpR X (binaryOp .Add) (yI X.K):=OpR.or (OpR.or (OpR.or zW pJ) (OpR.or xr uT)) zV
theorem zw{K:PySem.W.Frag}:dD .V (yI K) cz:=fun F H v w x y d Q s rx ry h q=>by
 cases x with
 |int i=>cases y with
  |int j =>
   cases CU h
   exact .inl (.inl (.inl ⟨i,j,rx.int,ry.int,q _ F H (Ext.refl s) (.int _)⟩))
  |_=>cases h
 |str i=>cases y with
  |str j =>
   have h':(if i.length + j.length<=sizeLine then some (D.str (i ++ j)) else none)=some d:=h
   split at h'
   ·rename_i hz
    cases CU h'
    exact .inl (.inl (.inr ⟨i,j,rx.str,ry.str,hz,q _ F H (Ext.refl s) (.str _)⟩))
   ·cases h'
  |_=>cases h
 |tup i=>cases y with
  |tup j =>
   have h':(if i.length + j.length<=sizeLine then some (D.tup (i ++ j)) else none)=some d:=h
   split at h'
   ·rename_i hz
    cases CU h'
    obtain⟨p,vs,rfl,hp,rp⟩:=rx.tup
    obtain⟨r,ws,rfl,hr,rr⟩:=ry.tup
    by_cases he:vs=[]
    ·subst he
     cases rp
     exact .inl (.inr (.inr ⟨p,r,ws,rfl,rfl,SqT.of (s _ _ hp),SqT.of (s _ _ hr),q _ F H (Ext.refl s) (.tup hr rr)⟩))
    ·refine .inl (.inr (.inl ⟨p,r,vs,ws,rfl,rfl,SqT.of (s _ _ hp),SqT.of (s _ _ hr),he,by rw[rp.length,rr.length];exact hz,fun hw=>?_,fun _ c hc=>?_⟩))
     ·subst hw
      cases rr
      exact q _ F H (Ext.refl s) (.tup hp (by rw[DI];exact rp))
     ·have x2:=Ext.freeze (o:=HO.tup (vs ++ ws)) s hc
      exact q _ _ _ x2 (.tup aj ((rp.append rr).mono x2.fr))
   ·cases h'
  |_=>cases h
 |lst i=>cases y with
  |lst j =>
   have h':(if i.length + j.length<=sizeLine then some (D.lst (i ++ j)) else none)=some d:=h
   split at h'
   ·rename_i hz
    cases CU h'
    obtain⟨p,vs,rfl,hp,rp⟩:=OB.lst s rx
    obtain⟨r,ws,rfl,hr,rr⟩:=OB.lst s ry
    refine .inr ⟨p,r,vs,ws,rfl,rfl,hp,hr,by rw[rp.length,rr.length];exact hz,fun c hc=>?_⟩
    have x2:=Ext.freeze (o:=HO.lst (vs ++ ws)) s hc
    exact q _ _ _ x2 (.lst aj ((rp.append rr).mono x2.fr))
   ·cases h'
  |_=>cases h
 |_=>cases h
theorem ck(ha:Ev X .O a f)(hb:Ev X .O b g):Ev X .V (.BinOp a .Add b pos) (bin cz f g):=j_ xt zw ha hb
theorem yT(hr:X.A.units + 64 < cLine)(ha:Ev X .O a f)(hb:Ev X .O b g):Ev X .V (.Compare a [.Eq] [b] pos) (bin eqO f g):=pY (OpR.or qI gl) (pB _ hr) ha hb (dO _)
theorem oH(hr:X.A.units + 64 < cLine)(ha:Ev X .O a f)(hb:Ev X .O b g):Et X (.Compare a [.Eq] [b] pos) (tst (bin eqO f g)):=iL (OpR.or qI gl) (pB _ hr) ha hb (dO _)
theorem BM(hr:X.A.units + 64 < cLine)(ha:Ev X .O a f)(hb:Ev X .O b g):Et X (.Compare a [.NotEq] [b] pos) (tst (bin neO f g)):=iL (OpR.or yJ lh) (ur _ hr) ha hb (dO _)
theorem BN(ha:Ev X .O a f)(hb:Ev X .O b g):Et X (.Compare a [.Lt] [b] pos) (tst (bin ltD f g)):=iL zT A_ ha hb (dO _)
theorem rg(ha:Ev X .O a f)(hb:Ev X .O b g):Et X (.Compare a [.Gt] [b] pos) (tst (bin gtD f g)):=iL yK yE ha hb (dO _)
theorem BL(ha:Ev X .O a f)(hb:Ev X .O b g):Ev X .V (.Compare a [.Gt] [b] pos) (bin gtD f g):=pY yK yE ha hb (dO _)
theorem q_{c:Expr}{h:DE->Option D}(ha:Ev X .O a f)(hb:Ev X .O b g)(hc:Ev X .O c h)(hm:lastMarks [.LtE,.LtE] [b,c]=false:=by with_unfolding_all rfl):Ev X .V (.Compare a [.LtE,.LtE] [b,c] pos) (fV leD leD f g h):=vN uR yD uR yD ha hb hc hm
def Cf(K:PySem.W.Frag):V->Option Int->Option Int->Hp->VK->Prop:=fun x lo hi H Q=>(Bd K x lo hi H Q\/∃z,x=.str z/\z.length<=sizeLine/\Q (.str (Txt.slice z lo hi)) H) \/
 (Bc K x lo hi H Q\/∃a xs,x=.ref a/\SqT K H a xs/\(HT.sIx xs.length 0 lo=0/\HT.sIx xs.length xs.length hi=xs.length)/\Q (.ref a) H)
theorem zd:SlR X (Cf X.K):=SlR.or (SlR.or wD zc) (SlR.or zb pq)
theorem Reps.cut{F:Hp}{vs:List V}{ds:List D}(r:Reps F vs ds)(lo hi:Option Int):Reps F (jg vs lo hi) (cT ds lo hi):=by
 unfold jg cT
 rw[r.length]
 exact(r.drop _).take _
theorem fS{lo hi:Option Expr}{l h:DE->Option (Option Int)}(ha:Ev X .O e f)(hl:Ep X lo l)(hh:Ep X hi h):Ev X .V (.Subscript e (.Slice lo hi none p2) pos) (cA f l h):=PE.by (uK zd ha.h hl.h hh.h) fun σ H Q zz100_0=>by
 obtain⟨B,F,E,d,k,q,w⟩:=zz100_0
 unfold cA at q
 obtain⟨x,h1,q⟩:=bS q
 obtain⟨lo,h2,q⟩:=bS q
 obtain⟨hi,h3,q⟩:=bS q
 refine⟨B,F,E,x,k,h1,fun v F1 H1 x1 r1=>⟨B,F1,E,lo,k.ext x1,h2,fun F2 H2 x2=>⟨B,F2,E,hi,(k.ext x1).ext x2,h3,fun F3 H3 x3=>?_⟩⟩⟩
 have x13:=(x1.trans x2).trans x3
 have r3:OB F3 H3 v x:=OB.ext (x2.trans x3) r1
 have s:=x3.sub
 cases x with
 |lst xs =>
  cases CU q
  obtain⟨p,vs,rfl,hp,rp⟩:=OB.lst s r3
  refine .inl (.inl ⟨p,vs,rfl,SqL.of hp,fun c hc=>?_⟩)
  have x4:=Ext.freeze (o:=HO.lst (jg vs lo hi)) s hc
  exact w _ _ _ (x13.trans x4) (.lst aj ((rp.cut lo hi).mono x4.fr))
 |scr ns =>
  cases CU q
  obtain⟨p,o,rfl,hp⟩:=r3.scr
  refine .inl (.inl ⟨p,_,rfl,.inl (.inr ⟨o,s _ _ hp⟩),fun c hc=>?_⟩)
  have x4:=Ext.freeze (o:=HO.lst (jg (ns.map V.int) lo hi)) s hc
  refine w _ _ _ (x13.trans x4) (.lst aj ?_)
  have e1:jg (ns.map V.int) lo hi=(cT ns lo hi).map V.int:=v_ V.int ns lo hi
  rw[e1]
  exact Reps.ints _
 |tup xs =>
  cases CU q
  obtain⟨p,vs,rfl,hp,rp⟩:=r3.tup
  by_cases hw:HT.sIx vs.length 0 lo=0/\HT.sIx vs.length vs.length hi=vs.length
  ·refine .inr (.inr ⟨p,vs,rfl,SqT.of (s _ _ hp),hw,?_⟩)
   refine w _ F3 H3 x13 ?_
   have:cT xs lo hi=xs:=by
    unfold cT
    rw[<-rp.length,hw.1,hw.2,rp.length]
    simp
   rw[this]
   exact .tup hp rp
  ·refine .inr (.inl ⟨p,vs,rfl,SqT.of (s _ _ hp),hw,fun c hc=>?_⟩)
   have x4:=Ext.freeze (o:=HO.tup (jg vs lo hi)) s hc
   exact w _ _ _ (x13.trans x4) (.tup aj ((rp.cut lo hi).mono x4.fr))
 |str z =>
  have q':(if z.length<=sizeLine then some (D.str (Txt.slice z lo hi)) else none)=some d:=q
  split at q'
  ·rename_i hz
   cases CU q'
   exact .inl (.inr ⟨z,r3.str,hz,w _ F3 H3 x13 (.str _)⟩)
  ·cases q'
 |_=>cases q
def sJ:D->Option D
 |.lst xs=>some (.int xs.length)
 |.tup xs=>some (.int xs.length)
 |.scr xs=>some (.int xs.length)
 |.str x=>if x.length<=sizeLine then some (.int x.length) else none
 |_=>none
theorem zu{K:PySem.W.Frag}:iS .V (fun xs H Q=>∃x n,xs=[x]/\AL K x H n/\Q (.int n) H) sJ:=fun F H v x d Q s rx h q=>by
 match x,h with
 |.lst xs,h =>
  cases CU h
  obtain⟨p,vs,rfl,hp,rp⟩:=OB.lst s rx
  exact⟨_,xs.length,rfl,.inl ⟨vs,SqL.of hp,rp.length.symm⟩,q _ F H (Ext.refl s) (.int _)⟩
 |.tup xs,h =>
  cases CU h
  obtain⟨p,vs,rfl,hp,rp⟩:=rx.tup
  exact⟨_,xs.length,rfl,.inr ⟨vs,SqT.of (s _ _ hp),rp.length.symm⟩,q _ F H (Ext.refl s) (.int _)⟩
 |.scr ns,h =>
  cases CU h
  obtain⟨p,o,rfl,hp⟩:=rx.scr
  exact⟨_,ns.length,rfl,.inl ⟨_,.inl (.inr ⟨o,s _ _ hp⟩),by rw[CQ]⟩,q _ F H (Ext.refl s) (.int _)⟩
 |.str z,h =>
  have h':(if z.length<=sizeLine then some (D.int z.length) else none)=some d:=h
  split at h'
  ·rename_i hz
   cases CU h'
   cases rx.str
   exact⟨_,z.length,rfl,⟨hz,rfl⟩,q _ F H (Ext.refl s) (.int _)⟩
  ·cases h'
def mU:List D->Option (List Bool)
 | []=>some []
 |.bl b :: r=>(mU r).map fun bs=>b :: bs
 |_=>none
theorem lQ:∀{ds:List D}{bs:List Bool},mU ds=some bs->ds=bs.map D.bl
 | [],bs,h=>by cases h;rfl
 |.bl b :: r,bs,h=>by
  unfold mU at h
  obtain⟨cs,hr,h⟩:=bM h
  cases h
  rw[lQ hr];rfl
def gY:D->Option D
 |.lst xs=>(mU xs).map fun bs=>.bl (bs.all id)
 |_=>none
def BS:D->Option D
 |.lst xs=>(mU xs).map fun bs=>.bl (bs.any id)
 |_=>none
theorem zv:iS .V (fun xs H Q=>∃(a:Addr) (bs:List Bool),xs=[.ref a]/\H a=some (.lst (bs.map V.bl))/\Q (.bl (bs.all id)) H) gY:=fun F H v x d Q s rx h q=>by
 match x,h with
 |.lst xs,h =>
  have h':((mU xs).map fun bs=>D.bl (bs.all id))=some d:=h
  obtain⟨bs,hb,h'⟩:=bM h'
  cases h'
  obtain⟨p,vs,rfl,hp,rp⟩:=OB.lst s rx
  rw[lQ hb]at rp
  rw[Reps.bls rp]at hp
  exact⟨p,bs,rfl,hp,q _ F H (Ext.refl s) (.bl _)⟩
theorem mL{p:Pos}(hc:X.calm=true)(hg:Gl X "all")(hm:X.mg "all" = none)(hv:bootBuiltins "all" = some (.builtin "all"))(ha:Ev X .O e f)(he:aD e=true:=by rfl):Ev X .V (.Call (.Name "all" p) [e] [] pos) (un gY f) :=
 jq (we hc) zv hg hm hv ha (by decide) (by decide) he
def tyN:D->String
 |.non => "NoneType" |.bl _ => "bool" |.int _ => "int" |.str _ => "str" |.tup _ => "tuple" |.lst _ => "list" |.dic _ => "dict" |.scr _ => "list" |.rf _ => "rf" |.dit _ => "rf" |.odd _ _ => "dict"
def jd:D->Bool
 |.rf _=>true
 |.dit _=>true
 |_=>false
def gI(t T:String):Bool:=t == T || (t == "bool" && T == "int")
def pR(T:String):Bool:=T == "str" || T == "int" || T == "bool" || T == "tuple" || T == "list" || T == "dict"
theorem AQ{K:PySem.W.Frag}{F H:Hp}{v:V}{d:D}(s:∀a u,F a=some u->H a=some u)(hrf:jd d=false)(r:OB F H v d):gD K H v (.type (tyN d)):=by
 cases d with
 |non=>rw[r.non];exact .non
 |bl b=>rw[r.bl];exact .bl b
 |int i=>rw[r.int];exact .int i
 |str x=>rw[r.str];exact .str x
 |tup xs=>obtain⟨p,vs,rfl,hp,_⟩:=r.tup;exact .tup (s _ _ hp)
 |lst xs=>obtain⟨p,vs,rfl,hp,_⟩:=OB.lst s r;exact .lst hp
 |dic xs=>obtain⟨p,vs,rfl,hp,_⟩:=OB.dic s r;exact hp.elim (fun h=>.dK h) fun zz101_0=>by obtain⟨_,h⟩:=zz101_0;exact .frzD h
 |scr ns=>obtain⟨p,o,rfl,hp⟩:=r.scr;exact .frz (s _ _ hp)
 |rf a=>cases hrf
 |dit a=>cases hrf
 |odd ks vs =>
  rcases r with r |⟨a,o,h1,h2,h3⟩
  ·cases r with
   |odd _ e en _ _=>exact .frzX (s _ _ e) en.1
  ·cases o <;> exact False.elim h3
theorem xJ(K:PySem.W.Frag)(d:D){T:String}(h:pR T=true)(hrf:jd d=false):PySem.W.kitOne K (.type (tyN d)) (.type T)=some (gI (tyN d) T):=by
 have hT:T = "str"\/T = "int"\/T = "bool"\/T = "tuple"\/T = "list"\/T = "dict" := by simpa[pR,or_assoc] using h
 rcases hT with rfl |rfl |rfl |rfl |rfl |rfl <;> cases d <;> first |rfl |cases hrf
def dR(T:String)(d:D):Option D:=if jd d=true then none else some (.bl (gI (tyN d) T))
def isF(T:String)(f:DE->Option D)(E:DE):Option D:=(f E).bind (dR T)
theorem bZ{p px:Pos}{x:Str}{T:String}(hT:pR T=true)(hg:Gl X "isinstance")(hm:X.mg "isinstance" = none)(hv:bootBuiltins "isinstance" = some (.builtin "isinstance"))(hgx:Gl X x)(hmx:X.mg x=none)(hvx:bootBuiltins x=some (.type T))
  (ha:Ev X .O e f) (hn:x ≠ "__name__" := by decide) (hd:(x == ("__debug__" : Str))=false:=by decide) (he:aD e=true:=by rfl):Ev X .V (.Call (.Name "isinstance" p) [e,.Name x px] [] pos) (isF T f) :=
 PE.by (hJ o5 hg hm hv (bj ha.h (bj (ma hgx hmx hvx (v:=.ty T) rfl hn hd) cE (aC _ [] X.env rfl)) (aC e [.Name x px] X.env he)) (by decide) (by decide) (aC e [.Name x px] X.env he) (cL pos X.env [.Name x px] rfl)) fun σ H Q zz102_0=>by
  obtain⟨B,F,E,d,k,q,w⟩:=zz102_0
  unfold isF at q
  obtain⟨x,hf,q⟩:=bS q
  unfold dR at q
  split at q
  ·cases q
  ·rename_i hrf
   have hrf:jd x=false:=by simpa using hrf
   cases q
   exact⟨B,F,E,x,k,hf,fun v F' H' x1 r1=>⟨v,T,_,_,rfl,AQ x1.sub hrf r1,xJ X.K x hT hrf,w _ F' H' x1 (.bl _)⟩⟩
def bt:D->Option D
 |.lst xs=>some (.tup xs)
 |.tup xs=>some (.tup xs)
 |_=>none
def yN:D->Option D
 |.lst xs=>some (.lst xs)
 |.tup xs=>some (.lst xs)
 |_=>none
theorem nA{K:PySem.W.Frag}:iS .V (fun xs H Q=>∃p ys,xs=[.ref p]/\((SqL K H p ys/\∀l,H l=none->Q (.ref l) (upd H l (.tup ys)))\/(SqT K H p ys/\Q (.ref p) H))) bt:=fun F H v x d Q s rx h q=>by
 match x,h with
 |.lst xs,h =>
  cases CU h
  obtain⟨p,vs,rfl,hp,rp⟩:=OB.lst s rx
  refine⟨p,vs,rfl,.inl ⟨SqL.of hp,fun c hc=>?_⟩⟩
  have x4:=Ext.freeze (o:=HO.tup vs) s hc
  exact q _ _ _ x4 (.tup aj (rp.mono x4.fr))
 |.tup xs,h =>
  cases CU h
  obtain⟨p,vs,rfl,hp,rp⟩:=rx.tup
  exact⟨p,vs,rfl,.inr ⟨SqT.of (s _ _ hp),q _ F H (Ext.refl s) (.tup hp rp)⟩⟩
theorem dc{p:Pos}(hg:Gl X "tuple")(hm:X.mg "tuple" = none)(hv:bootBuiltins "tuple" = some (.type "tuple"))(ha:Ev X .O e f)(he:aD e=true:=by rfl):Ev X .V (.Call (.Name "tuple" p) [e] [] pos) (un bt f) :=
 mG gL nA hg hm hv ha (by decide) (by decide) he
end
theorem tm{js:List Nat}{fi:DE->Option (List D)}{gf:D->DE->Option DE}{cf:DE->Option Bool}{ef:DE->Option D}:∀E d,bn js fi gf cf ef E=some d->∃xs,d=.lst xs:=fun E d h=>by
 unfold bn at h
 obtain⟨xs,h1,h⟩:=bS h
 have h':(if xs.length<=sizeLine then(bD gf cf ef (aW js E) xs).map D.lst else none)=some d:=h
 split at h'
 ·cases h2:bD gf cf ef (aW js E) xs with
  |none=>rw[h2]at h';cases h'
  |some ys=>rw[h2]at h';cases h';exact⟨_,rfl⟩
 ·cases h'
theorem vE{f:DE->Option D}(hl:∀E d,f E=some d->∃xs,d=.lst xs)(σ:St)(H:Hp)(Q:VK)(h:tM .V f σ H Q):tM .F f σ H Q:=by
 obtain⟨B,F,E,d,k,q,w⟩:=h
 refine⟨B,F,E,d,k,q,fun v F' H' x r=>?_⟩
 obtain⟨p,o,h1,h2,h3,h4,h5⟩:=r
 have up:∀c u,F' c=some u->(upd F' p o) c=some u:=fun c u z=>by rw[af (fun y=>by rw[y,h4]at z;cases z)];exact z
 subst h1
 obtain⟨xs,rfl⟩:=hl E d q
 have hfz:fzO default o=o:=by
  cases o <;> first |rfl |exact False.elim h5
 refine w _ (upd F' p o) H' ⟨x.same,fun c u z=>up c u (x.fr c u z),fun c u z=>?_,fun c z n=>?_⟩ ((h5.mono up).rep (ob:=default) (by rw[hfz];exact aj))
 ·by_cases hc:c=p
  ·subst hc;rw[aj]at z;cases z;exact h3
  ·rw[af hc]at z;exact x.sub c u z
 ·have hc:c ≠ p:=fun y=>n (by rw[y];exact h2)
  rw[af hc];exact x.new c z n
theorem ke{X:Cx}{scope:Scope}{js:List Nat}{elt tg mt:Expr}{ifs:List Expr}{pos:Pos}{fi:DE->Option (List D)}{gf:D->DE->Option DE}{cf:DE->Option Bool}{ef:DE->Option D}{i:Nat}{x:Str}{px:Pos}{spos:Pos}(hN:X.N.Nodup)(hix:X.N[i]? = some x)(hx:Loc X.env.scope x)(b:Blk X scope js)(hc:X.calm=true)(hI:Ei X tg mt fi)(hj:iT js gf)
  (hg:∀C fp s0 H0,Eg (bE X scope C fp s0 H0) tg gf) (hi:∀C fp s0 H0,yx (bE X scope C fp s0 H0) ifs cf) (he:∀C fp s0 H0,Ev (bE X scope C fp s0 H0) .V elt ef)
  (hsw:swapsWith (.ListComp elt [⟨tg,mt,ifs,0⟩] scope pos) (some (.Name x px)) spos.line X.env=pure true)
  (hfn:X.fn x=true\/X.env.scope.names.lookup x=some .local:=by first |exact .inl rfl |exact .inr rfl |assumption) (hs:∀x,foldedSetIterable mt X.env x=pure x:=by intro _;rfl) :
  Es X (.Assign [.Name x px] (.ListComp elt [⟨tg,mt,ifs,0⟩] scope pos) spos) (aA i (bn js fi gf cf ef)):=PS.by (wV hN hix hx b hc hI.h (fun C fp s0 H0=>(hg C fp s0 H0).h) (fun C fp s0 H0=>(hi C fp s0 H0).h) (fun C fp s0 H0=>(he C fp s0 H0).h) hsw hfn hs) fun Z σ H h=>lO hj σ H _ (vE tm σ H _ (nj Z σ H h))
theorem xW{X:Cx}{x:Str}{v:V}{d:D}{u:Value}{pos:Pos}(hg:Gl X x)(hm:X.mg x=some u)(r:aJ v u)(rd:∀F,Rep F v d)(hd:(x == ("__debug__" : Str))=false:=by decide):Ev X .V (.Name x pos) (cst d):=j9 (gj hg hm r hd) rd
def dy(n m:Nat)(b:DE->Option Out)(ds:List D):Option D:=if ds.length=n then(b (ds.map Sl.val ++ List.replicate (m - n) Sl.no)).bind fun r=>match r with
 |.rt d=>some d
 |.nx _=>some .non
 |_=>none
 else none
theorem nJ{F H:Hp}{vs:List V}{ds:List D}{N:List Str}(s:∀a o,F a=some o->H a=some o)(r:Reps F vs ds):Ok (F,H) F H (start N vs) (ds.map Sl.val ++ List.replicate (N.length - ds.length) Sl.no):=by
 have noown:∀(i:Nat) d,(ds.map Sl.val ++ List.replicate (N.length - ds.length) Sl.no)[i]? = some (.own d)->False:=fun i d h=>by
  have:=DR h
  rcases List.mem_append.mp this with q |q
  ·obtain⟨x,_,e⟩:=List.mem_map.mp q;cases e
  ·have:=(List.mem_replicate.mp q).2;cases this
 refine⟨Ext.refl s,?_,fun i d h=>?_,fun i d h=>(noown i d h).elim,fun i j d e a _ h=>(noown i d h).elim,?_⟩
 ·unfold start
  rw[C8,C8,CQ,CQ,Fo,Fo,r.length]
 ·have hl:=r.length
  by_cases hi:i < ds.length
  ·rw[EY (by simpa using hi),Db]at h
   obtain⟨d',hd,h⟩:=bM h
   cases h
   obtain⟨v,h1,h2⟩:=r.get hd
   refine⟨v,?_,h2⟩
   unfold start
   rw[EY (by simpa[hl] using hi),Db,h1];rfl
  ·rw[List.getElem?_append_right (by simpa using hi)]at h
   have:=DR h
   have:=(List.mem_replicate.mp this).2
   cases this
 ·have no:∀(i:Nat) z,(ds.map Sl.val ++ List.replicate (N.length - ds.length) Sl.no)[i]? = some z->(∃d,z=.val d)\/z=.no:=fun i z h=>by
   rcases List.mem_append.mp (DR h) with q |q
   ·obtain⟨x,_,e⟩:=List.mem_map.mp q;exact .inl ⟨x,e.symm⟩
   ·exact .inr (List.mem_replicate.mp q).2
  have n1:∀(i:Nat) t,(ds.map Sl.val ++ List.replicate (N.length - ds.length) Sl.no)[i]? = some (.obj t)->False:=fun i t h=>by rcases no i _ h with⟨d,e⟩ |e <;> cases e
  exact⟨fun _=>[],fun i t h=>(n1 i t h).elim,fun i j t d b h=>(n1 i t h).elim,fun i j t u _ h=>(n1 i t h).elim,fun i t h=>by rcases no i _ h with⟨d,e⟩ |e <;> cases e⟩
theorem fnD{P:Program}{w:World}{K:PySem.W.Frag}{mg:Str->Option Value}{base:Heap}{x qual:Str}{st:Stmt}{f:Addr}{fd:FuncData}{N ps:List Str}{k:Nat}{b:DE->Option Out}(Fn:Fun K x qual st f fd)(S:aS N ps (ao st))
  (FU:∀(cdv:Value) (A:Around) (outer:List Env) (s:Shared) (H:Hp) (E:XK),ca k (A.deeper (envOfC qual (ao st) s.heap.objs.size f cdv)) ->
   Ess (iN CX0 P w K mg base N qual (ao st) f cdv A outer s H E).nox (cG st) b):a9 P w K mg base CX0 (k + 1) f fd ps (spD ps.length (dy ps.length N.length b)):=by
 refine Fn.ok S (fun vs H Q E h=>?_) (fun cdv A outer s H vs Q E hr h=>?_)
 ·obtain⟨F,ds,d,_,r,hl,_⟩:=h
  rw[r.length,hl]
 ·obtain⟨F,ds,d,hs,r,hl,hg,q⟩:=h
  refine⟨_,(FU cdv A outer s H E hr).h,?_⟩
  unfold dy at hg
  rw[if_pos hl]at hg
  obtain⟨rr,hb,hg⟩:=bS hg
  have k0:=nJ (N:=N) hs r
  rw[hl]at k0
  refine⟨(F,H),F,_,rr,k0,hb,?_⟩
  cases rr with
  |rt d'=>cases hg;exact fun v F' H' x r'=>q v F' H' x r'
  |nx E'=>cases hg;exact fun σ' F' H' k' _=>q .non F' H' k'.ent .non
  |bk E'=>cases hg
  |ct E'=>cases hg
open PySem.W in
theorem yo{ns:List Int}(h:WData.layableAll [WData.list (ns.map WData.int)]=true):∀n ∈ ns,Builtin.Int.intBits n<=2 ^ 20:=by
 have h1:(WData.list (ns.map WData.int)).layable=true:=by
  have:=h
  simp only[WData.layableAll,DH,List.all_nil,Bool.and_true]at this
  exact this
 intro n hn
 have h2:=layableW_item h1 (WData.int n) (List.mem_map.mpr ⟨n,hn,rfl⟩)
 have h3:=(layableW_iff.mp h2).2.2
 exact h3
def mi(K:PySem.W.Frag):Bool:=K.all fun p => !(p.2.cls == Value.type "list")
theorem nN{K:PySem.W.Frag}(h:mi K=true){a:Addr}{o:Obj}(e:K.lookup a=some o):o.cls ≠ Value.type "list" := by
 intro hc
 have hm:(a,o) ∈ K:=by
  clear h
  induction K with
  |nil=>cases e
  |cons p r ih =>
   obtain⟨b,u⟩:=p
   rw[Dd]at e
   cases hb:a == b with
   |true =>
    rw[hb]at e
    have e1:a=b:=by simpa using hb
    have e2:u=o:=by simpa using e
    rw[e1,e2];exact C1
   |false=>rw[hb]at e;exact CY _ (ih e)
 have:=List.all_eq_true.mp h (a,o) hm
 rw[hc]at this
 simp at this
theorem Aa{K:PySem.W.Frag}{H:Hp}{a:Addr}{ns:List Int}{g:List D->Option D}(hK:∀o,K.lookup a=some o->o.cls ≠ Value.type "list")(hS:SqL K H a (ns.map V.int))(hO:AJ H)(law:g [.scr ns]=some (.bl true)) :
  spD 1 g [.ref a] H (fun v _=>v=.bl true) fun _ _ _=>False:=by
 rcases hS with hS |⟨o,its,n,hl,hc,_⟩
 ·have e:∃o,H a=some (.frz o (.lst (ns.map V.int))):=by
   rcases hS with hS |hS
   ·rcases hO a with z |⟨o,xs,z⟩
    ·rw[hS]at z;cases z
    ·rw[hS]at z;cases z
   ·exact hS
  obtain⟨o,e⟩:=e
  refine⟨H,[.scr ns],.bl true,fun _ _ q=>q,.cons (.scr e) .nil,rfl,law,fun v F' H' x r=>?_⟩
  cases r
  rfl
 ·exact absurd hc (hK o hl)
section
variable {X:Cx}{a b e:Expr}{pos:Pos}{f g:DE->Option D}
def cZ:D->Option Key
 |.int i=>some (.inl (some i))
 |.non=>some (.inl none)
 |.str x=>some (.inr x)
 |_=>none
theorem eL{F H:Hp}{v:V}{d:D}{k:Key}(h:cZ d=some k)(r:OB F H v d):v=kV k:=by
 match d,h with
 |.int i,h=>cases h;rw[r.int];rfl
 |.non,h=>cases h;rw[r.non];rfl
 |.str x,h=>cases h;rw[r.str];rfl
def yg(_:DE):Option D:=some (.dic [])
theorem xX:Ev X .F (.Dict [] [] pos) yg:=PE.by uM fun σ H Q zz103_0=>by
 obtain⟨B,F,E,d,k,q,w⟩:=zz103_0
 cases q
 intro p hp
 exact w _ F _ (Ext.lay k.sub hp) ⟨p,_,rfl,hp,aj,nofr k.sub hp,RepK.nil⟩
def oW(f g:DE->Option D)(E:DE):Option D:=(f E).bind fun x=>(cZ x).bind fun k=>(g E).map fun v=>.dic [(k,v)]
theorem mJ(ha:Ev X .V a f)(hb:Ev X .V b g):Ev X .F (.Dict [some a] [b] pos) (oW f g):=PE.by (xf (uC ha.h hb.h wW) rfl rfl (by simp) (by simp)) fun σ H Q zz104_0=>by
 obtain⟨B,F,E,d,k,q,w⟩:=zz104_0
 unfold oW at q
 cases h1:f E with
 |none=>simp[h1]at q
 |some x =>
  cases h2:cZ x with
  |none=>simp[h1,h2]at q
  |some ky =>
   cases h3:g E with
   |none=>simp[h1,h2,h3]at q
   |some y =>
    simp only[h1,h2,h3,CA,CC]at q
    cases q
    intro p hp
    have x0:Ext F H F (upd H p (.dK [])):=Ext.lay k.sub hp
    have fp:F p=none:=nofr k.sub hp
    refine⟨B,F,E,x,k.ext x0,h1,fun v F1 H1 x1 r1=>⟨B,F1,E,y,(k.ext x0).ext x1,h3,fun u F2 H2 x2 r2=>?_⟩⟩
    have x12:=x1.trans x2
    have hHp:H2 p=some (.dK []):=x12.same p _ aj
    have f2p:F2 p=none:=x12.new p fp (by rw[aj];simp)
    refine⟨hHp,[(ky,u)],?_,by simp,?_⟩
    ·rw[eL (F:=F1) (H:=H1) h2 (.inl r1)];rfl
    ·have x3:Ext F (upd H p (.dK [(ky,u)])) F2 (upd H2 p (.dK [(ky,u)])):=x12.stepD fp
     refine w _ F2 _ ((Ext.lay k.sub hp).trans x3) ⟨p,_,rfl,hp,aj,f2p,?_⟩
     exact RepK.cons r2 .nil
end
abbrev Bx:=u8
theorem fnG{P:Program}{w:World}{K:PySem.W.Frag}{mg:Str->Option Value}{base:Heap}{x qual:Str}{st:Stmt}{f:Addr}{fd:FuncData}{N ps:List Str}{k k1 n m:Nat}{b:DE->Option Out}{g:List D->Option D}(Fn:Fun K x qual st f fd)(S:aS N ps (ao st))
  (hn:ps.length=n) (hm:N.length=m) (hk:k + 1=k1) (hg:g=dy n m b)
  (FU:∀(cdv:Value) (A:Around) (outer:List Env) (s:Shared) (H:Hp) (E:XK),ca k (A.deeper (envOfC qual (ao st) s.heap.objs.size f cdv)) ->
   Ess (iN CX0 P w K mg base N qual (ao st) f cdv A outer s H E).nox (cG st) b):a9 P w K mg base CX0 k1 f fd ps (spD n g):=by
 subst hn hm hk hg
 exact fnD Fn S FU
section
variable {X:Cx}
theorem aK(i:Nat){x:Str}{pos:Pos}(hN:X.N[i]? = some x:=by rfl)(hv:Vis X.env.scope x:=by first |exact Or.inl rfl |exact Or.inr (Or.inl rfl) |exact Or.inr (Or.inr rfl))(hd:(x == ("__debug__" : Str))=false:=by decide)
  (hcd:(x == ("__classdict__" : Str))=false:=by decide):Ev X .V (.Name x pos) (var i):=Av i (gN hN hv hd hcd)
theorem ap(i:Nat){x:Str}{pos:Pos}(hN:X.N[i]? = some x:=by rfl)(hv:Vis X.env.scope x:=by first |exact Or.inl rfl |exact Or.inr (Or.inl rfl) |exact Or.inr (Or.inr rfl))(hd:(x == ("__debug__" : Str))=false:=by decide)
  (hcd:(x == ("__classdict__" : Str))=false:=by decide):Ev X .O (.Name x pos) (ac i):=xV i (gN hN hv hd hcd)
end
section
variable {X:Cx}{a b e:Expr}{pos apos cpos spos:Pos}{f g:DE->Option D}
theorem uf{α:Type}{l:List α}{i:Nat}{x:α}(h:l[i]? = some x):l.set i x=l:=by
 obtain⟨hi,rfl⟩:=List.getElem?_eq_some_iff.mp h
 exact List.set_getElem_self hi
theorem Ok.rewrite{B:Hp×Hp}{F H:Hp}{σ:St}{E:DE}(k:Ok B F H σ E){i:Nat}{d d':D}{p:Addr}{o':HO}(h:E[i]? = some (.own d))(hs:σ[i]? = some (some (.ref p)))(r:fC F o' d'):Ok B F (upd H p o') σ (E.set i (.own d')):=by
 obtain⟨q,o,h1,h2,h3,h4,h5⟩:=k.own i d h
 have e:p=q:=by rw[hs]at h1;cases h1;rfl
 subst e
 have z:=k.put_own i h3 h4 r (fun j e' hj he hq=>k.sep j i e' d p hj he h hq hs) (let ⟨fp,m⟩:=k.ob; ⟨fp,m,fun j t hb=>m.sep j i t d p hb h hs⟩)
 rwa [uf hs]at z
def dg(i:Nat)(f:DE->Option D)(E:DE):Option Out:=match E[i]? with
 |some (.own (.lst ds))=>(f E).bind fun d=>if ds.length < sizeLine then some (.nx (E.set i (.own (.lst (ds ++ [d]))))) else none
 |_=>none
theorem xk{B:Hp×Hp}{F H:Hp}{σ:St}{E:DE}(k:Ok B F H σ E){i:Nat}{ds:List D}(h:E[i]? = some (.own (.lst ds))):∃p vs,σ[i]? = some (some (.ref p))/\H p=some (.lst vs)/\F p=none/\Reps F vs ds:=by
 obtain⟨q,o,h1,h2,h3,h4,h5⟩:=k.own i _ h
 cases o with
 |lst vs=>exact⟨q,vs,h1,h2,h3,h5⟩
 |_=>exact False.elim h5
theorem xm{B:Hp×Hp}{F H:Hp}{σ:St}{E:DE}(k:Ok B F H σ E){i:Nat}{ds:List (Key×D)}(h:E[i]? = some (.own (.dic ds))):∃p vs,σ[i]? = some (some (.ref p))/\H p=some (.dK vs)/\F p=none/\RepK F vs ds:=by
 obtain⟨q,o,h1,h2,h3,h4,h5⟩:=k.own i _ h
 cases o with
 |dK vs=>exact⟨q,vs,h1,h2,h3,h5⟩
 |_=>exact False.elim h5
theorem cu{i:Nat}{o:Expr}(ho:PE X o (g8 i))(he:Ev X .V e f)(BT:attributeBase o "append" X.env (eval o X.env)=eval o X.env:=by rfl)
  (FZ:((backTo cpos (starEach [e] X.env)).all (fun x => !x.1) && (backToKw cpos (keywordEach [] X.env)).all (fun x=>x.1.isSome) && decide (([e]:List Expr).length + ([]:List Keyword).length + (if([]:List Keyword).isEmpty then 0 else 1) < 30))=true:=by rfl)
  (FT:(apos.endLine == cpos.line)=true:=by rfl) (hns:aD e=true:=by rfl) (hs:swapsWith (.Call (.Attribute o "append" apos) [e] [] cpos) none spos.line X.env=pure false:=by rfl) :
  Es X (.Expr (.Call (.Attribute o "append" apos) [e] [] cpos) spos) (dg i f) :=
 PS.by (gi (lf PySem.F.plainAttrs_list PySem.F.slot_list_append PySem.F.type_list_append lq ho (bj he.h cE (aC e [] X.env hns)) BT FZ FT (aC e [] X.env hns) rfl) hs) fun Z σ H zz105_0=>by
  obtain⟨B,F,E,r,k,q,w⟩:=zz105_0
  unfold dg at q
  split at q
  ·rename_i ds hd
   obtain⟨d,hf,q⟩:=bS q
   split at q
   ·rename_i hz
    cases q
    obtain⟨p,vs,h1,h2,h3,h4⟩:=xk k hd
    refine⟨.ref p,h1,.inl ⟨rfl,vs,SqL.of h2⟩,B,F,E,d,k,hf,fun v F' H' x rv=>⟨p,vs,v,rfl,rfl,x.same _ _ h2,by rw[h4.length];exact hz,?_⟩⟩
    exact w σ F' _ ((k.ext x).rewrite hd h1 (o':=.lst (vs ++ [v])) ((h4.mono x.fr).append (.cons rv .nil))) x.fr
   ·cases q
  ·cases q
def nk:D->Option (List D)
 |.lst xs=>some xs
 |.tup xs=>some xs
 |_=>none
def BJ(i:Nat)(f:DE->Option D)(E:DE):Option Out:=match E[i]? with
 |some (.own (.lst ds))=>(f E).bind fun d=>(nk d).bind fun es=>if ds.length + es.length<=sizeLine then some (.nx (E.set i (.own (.lst (ds ++ es))))) else none
 |_=>none
def BQ(i:Nat)(f:DE->Option D)(E:DE):Option Out:=match E[i]? with
 |some (.val (.int n))=>(f E).bind fun d=>match d with
  |.int m=>some (.nx (E.set i (.val (.int (n + m)))))
  |_=>none
 |_=>none
def ce(f:DE->Option D)(gf:D->DE->Option DE)(E:DE):Option Out:=(f E).bind fun d=>(gf d E).map Out.nx
theorem lG{tg:Expr}{gf:D->DE->Option DE}(he:Ev X .V e f)(hg:Eg X tg gf)(hs:swapsWithSole [tg] e pos.line X.env=pure false:=by rfl)(hw:swappedStores [tg] e X.env=pure none:=by rfl)
  (h1:(assignEach [tg] X.env).map (·.2)=[assign tg X.env]:=by rfl):Es X (.Assign [tg] e pos) (ce f gf):=PS.by (zG he.h hg.h hs hw h1) fun Z σ H zz106_0=>by
 obtain⟨B,F,E,r,k,q,w⟩:=zz106_0
 unfold ce at q
 obtain⟨d,hf,q⟩:=bS q
 obtain⟨E',hg,q⟩:=bM q
 cases q
 exact⟨B,F,E,d,k,hf,fun v F1 H1 x1 r1=>⟨B,F1,E,d,E',k.ext x1,r1,hg,fun σ2 F2 H2 k2 x2=>w σ2 F2 H2 k2 fun a o e=>x2.fr a o (x1.fr a o e)⟩⟩
def cj(kvs:List (Key×D))(k:Key):Option D:=(kvs.find? fun p=>decide (p.1=k)).map (·.2)
def i7(fo fk fe:DE->Option D)(E:DE):Option D:=(fo E).bind fun d=>match d with
 |.dic kvs=>(fk E).bind fun x=>(cZ x).bind fun k=>(fe E).map fun y=>(cj kvs k).getD y
 |_=>none
theorem RepK.val{F:Hp}{k:Key}:∀{vs:List (Key×V)} {ds:List (Key×D)},RepK F vs ds->(∀d,cj ds k=some d->∃v,eC vs k=some v/\Rep F v d)/\(cj ds k=none->eC vs k=none)
 |_,_,.nil=>⟨fun d h=>(by cases h),fun _=>rfl⟩
 |_,_,@RepK.cons _ k' v d vs ds r t=>by
  obtain⟨h1,h2⟩:=RepK.val (k:=k) t
  by_cases e:k'=k
  ·have e1:cj ((k',d) :: ds) k=some d:=by simp[cj,e]
   have e2:eC ((k',v) :: vs) k=some v:=by simp[eC,e]
   refine⟨fun d' h=>?_,fun h=>?_⟩
   ·rw[e1]at h;cases h;exact⟨v,e2,r⟩
   ·rw[e1]at h;cases h
  ·have e1:cj ((k',d) :: ds) k=cj ds k:=by simp[cj,e]
   have e2:eC ((k',v) :: vs) k=eC vs k:=by simp[eC,e]
   rw[e1,e2]
   exact⟨h1,h2⟩
theorem RepK.length{F:Hp}:∀{vs:List (Key×V)} {ds:List (Key×D)},RepK F vs ds->vs.length=ds.length
 |_,_,.nil=>rfl
 |_,_,.cons _ t=>by simp[RepK.length t]
theorem mz(h:X.A.units + 64 < cLine):X.A.units + 1 < cLine:=by lia
theorem rc{o:Expr}{fo fk fe:DE->Option D}(hu:X.A.units + 64 < cLine)(ho:Ev X .O o fo)(ha:Ev X .V a fk)(hb:Ev X .V b fe)(BT:attributeBase o "get" X.env (eval o X.env)=eval o X.env:=by rfl)
  (FZ:((backTo cpos (starEach [a,b] X.env)).all (fun x => !x.1) && (backToKw cpos (keywordEach [] X.env)).all (fun x=>x.1.isSome) && decide (([a,b]:List Expr).length + ([]:List Keyword).length + (if([]:List Keyword).isEmpty then 0 else 1) < 30))=true:=by rfl)
  (FT:(apos.endLine == cpos.line)=true:=by rfl) (htr:backTo cpos (starEach [a,b] X.env)=[(false,eval a X.env),(false,eval b X.env)]:=by rfl):Ev X .V (.Call (.Attribute o "get" apos) [a,b] [] cpos) (i7 fo fk fe) :=
 PE.by (uO (mz hu) ho.h ha.h hb.h ⟨BT,FZ,FT,htr⟩) fun σ H Q zz107_0=>by
  obtain⟨B,F,E,d,k,q,w⟩:=zz107_0
  unfold i7 at q
  cases h1:fo E with
  |none=>simp[h1]at q
  |some dd =>
   rw[h1]at q
   cases dd with
   |dic kvs =>
    simp only[CA]at q
    cases h2:fk E with
    |none=>simp[h2]at q
    |some x =>
     cases h3:cZ x with
     |none=>simp[h2,h3]at q
     |some ky =>
      cases h4:fe E with
      |none=>simp[h2,h3,h4]at q
      |some y =>
       simp only[h2,h3,h4,CA,CC]at q
       cases q
       refine⟨B,F,E,_,k,h1,fun v F1 H1 x1 r1=>?_⟩
       obtain⟨p,vs,rfl,hp,rk⟩:=OB.dic x1.sub r1
       refine⟨p,rfl,.inl ⟨vs,hp⟩,B,F1,E,x,k.ext x1,h2,fun u F2 H2 x2 r2=>⟨B,F2,E,y,(k.ext x1).ext x2,h4,fun z F3 H3 x3 r3=>?_⟩⟩
       have e2:=eL (F:=F2) (H:=H2) h3 (.inl r2)
       have hp3:Rd H3 p (.dK vs):=pA x3.same (pA x2.same hp)
       refine⟨eC vs ky,by rw[e2];exact jr hp3,?_⟩
       have x13:=(x1.trans x2).trans x3
       obtain⟨v1,v2⟩:=RepK.val (k:=ky) (rk.mono (x2.trans x3).fr)
       cases hv:cj kvs ky with
       |some d' =>
        obtain⟨v',e',r'⟩:=v1 d' hv
        rw[e']
        rw[hv]at w
        exact w v' F3 H3 x13 r'
       |none =>
        rw[v2 hv]
        rw[hv]at w
        exact w z F3 H3 x13 r3
   |_=>cases q
def oA:D->Option D
 |.non=>some (.bl true)
 |_=>some (.bl false)
def ci:D->Option D
 |.non=>some (.bl false)
 |_=>some (.bl true)
theorem qD{F:Hp}{v:V}{d:D}(r:Rep F v d):oA d=some (.bl (decide (v=.non)))/\ci d=some (.bl (!decide (v=.non))):=by
 cases r <;> exact⟨by simp[oA],by simp[ci]⟩
theorem vy(σ:St)(H:Hp)(Q:VK)(h:tM .V (un oA f) σ H Q):tOp (fun x y H Q=>y=.non/\Q (.bl (decide (x=.non))) H) (tM .V f) (tC .non) σ H Q:=by
 obtain⟨B,F,E,d,k,q,w⟩:=h
 unfold un at q
 obtain⟨x,hf,q⟩:=bS q
 refine⟨B,F,E,x,k,hf,fun v F1 H1 x1 r1=>⟨rfl,?_⟩⟩
 rw[(qD r1).1]at q
 cases q
 exact w _ F1 H1 x1 (.bl _)
theorem oz(σ:St)(H:Hp)(Q:VK)(h:tM .V (un ci f) σ H Q):tOp (fun x y H Q=>y=.non/\Q (.bl (!decide (x=.non))) H) (tM .V f) (tC .non) σ H Q:=by
 obtain⟨B,F,E,d,k,q,w⟩:=h
 unfold un at q
 obtain⟨x,hf,q⟩:=bS q
 refine⟨B,F,E,x,k,hf,fun v F1 H1 x1 r1=>⟨rfl,?_⟩⟩
 rw[(qD r1).2]at q
 cases q
 exact w _ F1 H1 x1 (.bl _)
theorem Ay{j p}(h:Ev X .V e f):Et X (.Compare e [.Is] [.Constant .none j p] pos) (tst (un oA f)):=PT.by (g_ zU h.h pH (dO _)) fun σ H Q q=>vy σ H _ (eF σ H Q q)
theorem iJ{j p}(h:Ev X .V e f):Et X (.Compare e [.IsNot] [.Constant .none j p] pos) (tst (un ci f)):=PT.by (g_ xp h.h pH (dO _)) fun σ H Q q=>oz σ H _ (eF σ H Q q)
def yL:List D->Option D
 | [.int i,.int j]=>some (.int (if j < i then j else i))
 |_=>none
def yM:List D->Option D
 | [.int i,.int j]=>some (.int (if i < j then j else i))
 |_=>none
def BC:D->Option D
 |.int i=>some (.int i)
 |.bl k=>some (.int (if k then 1 else 0))
 |_=>none
end
def noS(_:DE):Option Out:=none
theorem oK{X:Cx}{st:Stmt}:Es X st noS:=PS.by uB fun Z σ H ⟨B,F,E,r,k,q,w⟩=>by cases q
theorem tf{X:Cx}{sts:List Stmt}:Ess X sts noS:=PSs.by rZ fun Z σ H ⟨B,F,E,r,k,q,w⟩=>by cases q
theorem ls{js:List Nat}{i:Nat}{s:Sl}(hi:i ∈ js):∀E:DE,aW js (E.set i s)=aW js E:=by
 induction js with
 |nil=>cases hi
 |cons j r ih =>
  intro E
  show aW r ((E.set i s).set j .no)=aW r (E.set j .no)
  by_cases h:i=j
  ·subst h;rw[List.set_set]
  ·rw[List.set_comm _ _ h]
   rcases List.mem_cons.mp hi with e |e
   ·exact absurd e h
   ·exact ih e _
theorem nX(js:List Nat)(E:DE):aW js (aW js E)=aW js E:=by
 have key:∀(ks:List Nat) (E:DE),(∀k ∈ ks,k ∈ js)->aW js (aW ks E)=aW js E:=by
  intro ks
  induction ks with
  |nil=>intro E _;rfl
  |cons k r ih =>
   intro E h
   show aW js (aW r (E.set k .no))=_
   rw[ih _ fun x hx=>h x (CY _ hx),ls (h k C1)]
 exact key js E fun _ h=>h
def g7(js:List Nat)(gf:D->DE->Option DE):Prop:=∀d E E1,gf d E=some E1->aW js E1=aW js E
theorem g7.js{js:List Nat}{gf:D->DE->Option DE}(h:g7 js gf):iT js gf:=fun d E E1 e=>by rw[h d _ E1 e,nX]
theorem jk{js:List Nat}{i:Nat}(h:i ∈ js):g7 js (nmG i):=fun d E E1 e=>by
 cases e;exact ls h E
def jx(js:List Nat)(gf:List D->DE->Option DE):Prop:=∀ds E E1,gf ds E=some E1->aW js E1=aW js E
theorem nI{js:List Nat}:jx js eK:=fun ds E E1 e=>by
 cases ds with
 |nil=>cases e;rfl
 |cons _ _=>cases e
theorem gm{js:List Nat}{g:D->DE->Option DE}{gs:List D->DE->Option DE}(h1:g7 js g)(h2:jx js gs):jx js (a8 g gs):=fun ds E E1 e=>by
 cases ds with
 |nil=>cases e
 |cons d r =>
  have e':(g d E).bind (fun E'=>gs r E')=some E1:=e
  obtain⟨E2,hg,e'⟩:=bS e'
  rw[h2 r E2 E1 e',h1 d E E2 hg]
theorem nH{js:List Nat}{n:Nat}{gs:List D->DE->Option DE}(h:jx js gs):g7 js (eE n gs):=fun d E E1 e=>by
 cases d with
 |tup ds =>
  have e':(if ds.length=n then gs ds E else none)=some E1:=e
  split at e'
  ·exact h ds E E1 e'
  ·cases e'
 |_=>cases e
theorem ul1{us:List Value}(hl:us.length=1):∃a,us=[a]:=List.length_eq_one_iff.mp hl
theorem ul2{us:List Value}(hl:us.length=2):∃a b,us=[a,b]:=by
 cases us with
 |nil=>cases hl
 |cons a us =>
  obtain⟨b,rfl⟩:=ul1 (Nat.succ.inj hl)
  exact⟨a,b,rfl⟩
theorem ul3{us:List Value}(hl:us.length=3):∃a b c,us=[a,b,c]:=by
 cases us with
 |nil=>cases hl
 |cons a us =>
  obtain⟨b,c,rfl⟩:=ul2 (Nat.succ.inj hl)
  exact⟨a,b,c,rfl⟩
end L2.Cu
namespace L2
open PySem PySem.Spec PyProof.Rows
section
variable {prog:Program}{w:World}{A:Around}{E:Value->Shared->Prop}{s:Shared}
def rL(prog:Program)(w:World)(s:Shared)(S:Addr)(Pv:List Value->Prop)(itv:Value)(s1:Shared):Prop :=
 ∃(it:Addr) (fp:List Addr) (n:Nat) (P:Nat->Value->Prop) (St:Nat->Heap->Prop) (h1:Heap) (d1:Drawn),itv=.ref it/\s1={ s with heap:=h1,drawn:=d1 }/\(∀b o,s.heap.get? b=some o->h1.get? b=some o) /\
  (∀b ∈ fp,b=S\/s.heap.objs.size<=b)/\s.heap.objs.size<=it/\(∀A:Around,A.handled=none->Walks prog w A it fp [it] n P St)/\St 0 h1/\n<=sizeLine/\∀acc:Array Value,ItemsOf P acc n->Pv acc.toList
theorem iU{T:String}{S:Addr}{o:Obj}{Pv:List Value->Prop}{R:List Value->Shared->Prop}(hh:A.handled=none)(ho:s.heap.get? S=some o)(hc:o.cls=.type T)(hT1:(Value.type T == Value.type "list")=false)(hT2:(Value.type T == Value.type "tuple")=false)
  (Ha:∀(A:Around) (E:Value->Shared->Prop) (s':Shared) (Q:Bool->Shared->Prop),s'.TypeIs (.ref S) T->Q false s'->wpAny (model prog w) A (Builtin.List.listLengthHint (.ref S)) Q E s')
  (mt:∀(A:Around) (E:Value->Shared->Prop) (s':Shared) (Q:Value->Shared->Prop),(∀o,s.heap.get? S=some o->s'.heap.get? S=some o)->(∀itv s1,rL prog w s' S Pv itv s1->Q itv s1)->wpAny (model prog w) A (pyIter (.ref S)) Q E s')
  (h:∀(h':Heap) (d':Drawn) (tk:Nat) (vs:List Value),(∀b o,s.heap.get? b=some o->h'.get? b=some o)->s.heap.objs.size<=h'.objs.size->Pv vs->R vs { s with heap:=h',drawn:=d',toks:=tk }) :
  wpAny (model prog w) A (collect (.ref S)) R E s:=by
 have hSlt:S < s.heap.objs.size:=CS ho
 let RR:Result->Shared->Prop:=fun r s'=>∃(h':Heap) (d':Drawn) (tk:Nat) (acc:Array Value) (c:Nat),r=.ok (.ret (.ref s.heap.objs.size))/\s'={ s with heap:=h',drawn:=d',toks:=tk } /\
  (∀b o,s.heap.get? b=some o->h'.get? b=some o)/\h'.get? s.heap.objs.size=some { cls:=.type "list",dict:=none,data:=.seq acc c,slots:=#[] }/\Pv acc.toList
 have ext:wpAny (model prog w) A.in1 (Builtin.List.listExtendWith (.ref s.heap.objs.size) (.ref S) (.ref s.heap.objs.size))
   (fun fin s'=>match fin with |.done f=>RR (.ok f) s' |.again c'=>c'.quiet=true/\codeAny (model prog w) A c' RR s') (fun e s'=>RR (.error e) s') { s with heap:=s.heap.push { cls:=.type "list",data:=.seq ([]:List Value).toArray } }:=by
  have hL1:(s.heap.push { cls:=.type "list",data:=.seq ([]:List Value).toArray }).get? s.heap.objs.size=some { cls:=.type "list",data:=.seq #[] }:=CT _ rfl
  have sz1:(s.heap.push { cls:=.type "list",data:=.seq ([]:List Value).toArray }).objs.size=s.heap.objs.size + 1:=EM ..
  have hSL:s.heap.objs.size ≠ S:=EV hSlt
  unfold Builtin.List.listExtendWith
  refine CN (EE (T:=T) ⟨o,CO _ ho,hc⟩ ?_)
  have e1:Builtin.List.listSameRef (.ref s.heap.objs.size) (.ref S)=false:=by simp[Builtin.List.listSameRef,hSL]
  rw[if_neg (by rw[e1,hT1,hT2];decide)]
  refine CN (mt _ _ _ _ (fun o e=>CO _ e) fun itv s2 came=>?_)
  obtain⟨it,fp,n,P,St,h1,d1,rfl,rfl,kp,hfp,hit,hW,hst,hn,Gz⟩:=came
  have hL2:h1.get? s.heap.objs.size=some { cls:=.type "list",data:=.seq #[] }:=kp _ _ hL1
  have hLf:s.heap.objs.size ∉ fp:=fun hb=>by
   rcases hfp _ hb with e |e
   ·exact hSL e
   ·have e':s.heap.objs.size + 1<=s.heap.objs.size:=by rw[<-sz1];exact e
    exact absurd e' (Nat.not_succ_le_self _)
  refine CN (Dx (Ha _ _ _ _ ⟨o,kp _ _ (CO _ ho),hc⟩ ?_))
  have key:∀(h:Heap) (c₁:Nat),St 0 h->(∀b o,b ≠ s.heap.objs.size->h1.get? b=some o->h.get? b=some o)->h.get? s.heap.objs.size=some { cls:=.type "list",data:=.seq #[] c₁ } ->
    codeAny (model prog w) A (.builtin "list.extend.loop" ⟨[.ref s.heap.objs.size,.ref it,.ref s.heap.objs.size],[]⟩) RR { s with heap:=h,drawn:=d1 }:=by
   intro h c₁ st hk hL
   refine codeAny_extend_loopS (hW A.in1 hh).toS hn s.heap.objs.size hLf _ n 0 _ #[] c₁ rfl (DV _) st hL (ItemsOf.nil _) fun s' acc' c' hm hS' GO=>?_
   refine⟨s'.heap,d1,s'.toks,acc',c',rfl,Moved.eq_with hm,fun b o' e=>?_,hS',Gz acc' GO⟩
   have hb:b < s.heap.objs.size:=CS e
   refine hm.heap b o' (fun Gj=>?_) (hk b o' (C5 hb) (kp b o' (CO _ e)))
   rcases List.mem_cons.mp Gj with e' |Gj
   ·exact absurd e' (C5 hb)
   ·have e2:=List.mem_singleton.mp Gj
    have e3:s.heap.objs.size + 1<=it:=by rw[<-sz1];exact hit
    rw[e2]at hb
    exact absurd e3 (Nat.not_le.mpr (EF hb))
  refine wpAny_ite_split (fun _=>?_) (fun _=>CP ⟨plainId_quiet PySem.F.plain_extend_loop _,key h1 0 hst (fun _ _ _ e=>e) hL2⟩)
  refine CN (Fi ?_)
  refine CN ?_
  show wpAny _ _ (updateSeq s.heap.objs.size (·.push .none) >>= fun _=>updateSeq s.heap.objs.size (·.pop)) _ _ _
  refine CN (wpAny_updateSeq hL2 rfl ?_)
  have hS2:=Dr (Obj.mapSeq (·.push Value.none)) hL2 rfl
  refine wpAny_updateSeq (hz:=by seq_fits) hS2 rfl ?_
  have hS3:=Dr (Obj.mapSeq (·.pop)) hS2 rfl
  have oth:∀b o,b ≠ s.heap.objs.size->h1.get? b=some o->((h1.update s.heap.objs.size (Obj.mapSeq (·.push Value.none))).update s.heap.objs.size (Obj.mapSeq (·.pop))).get? b=some o:=fun b o hb e=>(Dp _ _ (Ne.symm hb)).trans ((Dp _ _ (Ne.symm hb)).trans e)
  exact CP ⟨plainId_quiet PySem.F.plain_extend_loop _,key _ _ ((hW A.in1 hh).frame 0 _ _ hst fun b hb o e=>oth b o (fun z=>hLf (by rw[<-z];exact hb)) e) oth hS3⟩
 unfold collect
 refine CN (wpAny_runValue (E6 entry_proto_collect' ?_))
 rw[Around.under_plainId PySem.F.plain_proto_collect _]
 show wpAny _ A.in1 (newList [] >>= fun l=>again (.builtin "list.__iadd__" ⟨[l,.ref S],[]⟩)) _ _ s
 refine CN (Di ?_)
 refine CP ⟨plainId_quiet PySem.F.plain_list_iadd _,E6 entry_list_iadd' ?_⟩
 rw[Around.under_plainId PySem.F.plain_list_iadd _]
 show wpAny _ A.in1 (Builtin.List.listExtendWith (.ref s.heap.objs.size) (.ref S) (.ref s.heap.objs.size)) _ _ _
 refine Dc ext (fun fin s' x=>?_) fun e s' x=>?_
 ·cases fin with
  |done f =>
   obtain⟨h',d',tk,acc',c',e,rfl,hk,hS',a1⟩:=x
   cases e
   show wpAny _ A (load s.heap.objs.size >>= _) _ _ _
   refine CN (wpAny_load hS' ?_)
   exact CP (h h' d' tk _ hk (El (CS hS')) a1)
  |again c₁ =>
   refine⟨x.1,EO x.2 fun q s₂ y=>?_⟩
   obtain⟨h',d',tk,acc',c',rfl,rfl,hk,hS',a1⟩:=y
   show wpAny _ A (load s.heap.objs.size >>= _) _ _ _
   refine CN (wpAny_load hS' ?_)
   exact CP (h h' d' tk _ hk (El (CS hS')) a1)
 ·obtain⟨_,_,_,_,_,e',_⟩:=x
  cases e'
end
def leS(a b:Str):Bool:=!decide (b.cps.toList < a.cps.toList)
def aZ(ss:List Str):List Str:=ss.mergeSort leS
theorem sH{a b c:List Nat}(h1:¬b < a)(h2:¬c < b):¬c < a:=by
 have h1':a<=b:=List.not_lt.mp h1
 have h2':b<=c:=List.not_lt.mp h2
 exact List.not_lt.mpr (List.le_trans h1' h2')
theorem lw(a b c:Str)(h1:leS a b=true)(h2:leS b c=true):leS a c=true:=by
 unfold leS at *
 simp only[EG,Eo]at *
 exact sH h1 h2
theorem sK(a b:Str):(leS a b || leS b a)=true:=by
 unfold leS
 rcases List.le_total a.cps.toList b.cps.toList with h |h
 ·rw[C9 (List.not_lt.mpr h)];rfl
 ·rw[C9 (p:=a.cps.toList < b.cps.toList) (List.not_lt.mpr h)];simp
theorem ji{a b:Str}(h:a.cps.toList=b.cps.toList):a=b:=by
 cases a;cases b
 congr 1
 exact Array.toList_inj.mp h
theorem vk{a b:Str}(h1:leS a b=true)(h2:leS b a=true):a=b:=by
 unfold leS at *
 simp only[EG,Eo]at *
 exact ji (List.le_antisymm (List.not_lt.mp h1) (List.not_lt.mp h2))
theorem cM(ss:List Str):(aZ ss).Perm ss:=List.mergeSort_perm ss leS
theorem jB(ss:List Str):(aZ ss).Pairwise (fun a b=>leS a b=true):=List.pairwise_mergeSort lw sK ss
theorem l5{ss ts:List Str}(hp:ts.Perm ss)(hs:ts.Pairwise (fun a b=>leS a b=true)):ts=aZ ss :=
 List.Perm.eq_of_pairwise (fun a b _ _ h1 h2=>vk h1 h2) hs (jB ss) (hp.trans (cM ss).symm)
theorem iY:∀(p:Str) (l:List Str),risingS p l=true->(p :: l).Pairwise (fun a b=>leS a b=true)
 |p,[],_=>Fb _ _
 |p,x :: r,h=>by
  have h':(!ltCps x.cps.toList p.cps.toList && risingS x r)=true:=h
  rw[C_]at h'
  have ih:=iY x r h'.2
  have hpx:leS p x=true:=by unfold leS;rw[<-ltCps_eq];exact h'.1
  refine List.pairwise_cons.mpr ⟨fun y hy=>?_,ih⟩
  rcases List.mem_cons.mp hy with rfl |hy
  ·exact hpx
  ·exact lw _ _ _ hpx ((List.pairwise_cons.mp ih).1 y hy)
theorem l4:∀(l:List Str),sortedS l=true->l.Pairwise (fun a b=>leS a b=true)
 | [],_=>.nil
 |x :: r,h=>iY x r h
section
variable {prog:Program}{w:World}{A:Around}{E:Value->Shared->Prop}{s:Shared}
theorem oY{T:String}{l:Addr}{o:Obj}{vs:List Value}{n:Nat}{Q:List Value->Shared->Prop}(ho:s.heap.get? l=some o)(hc:o.cls=.type T)(hd:o.data=.seq vs.toArray n)(hT:T = "list"\/T = "tuple")(hsz:vs.length<=sizeLine)
  (h:∀h',(∀b o,s.heap.get? b=some o->h'.get? b=some o)->s.heap.objs.size<=h'.objs.size->Q vs { s with heap:=h' }):wpAny (model prog w) A (collect (.ref l)) Q E s:=by
 unfold collect
 refine CN (wpAny_runValue (E6 entry_proto_collect' ?_))
 show wpAny _ _ (do again (.builtin "list.__iadd__" ⟨[<-newList [],.ref l],[]⟩)) _ _ s
 refine CN (wpAny_newList (CP ⟨Ed _ (by decide +kernel),E6 entry_list_iadd' ?_⟩))
 show wpAny _ _ (Builtin.List.listExtendWith (.ref s.heap.objs.size) (.ref l) (.ref s.heap.objs.size)) _ _ { s with heap:=s.heap.push (seqObj "list" #[] 0) }
 unfold Builtin.List.listExtendWith
 have ho':(s.heap.push (seqObj "list" #[] 0)).get? l=some o:=CO _ ho
 refine CN (EE (T:=T) ⟨o,ho',hc⟩ ?_)
 rw[if_pos (by rcases hT with rfl |rfl <;> simp)]
 refine CN (listItems_at ho' hd ?_)
 refine CN (listItems_at (xs:=#[]) (n:=0) (CT _ rfl) rfl ?_)
 rw[if_neg (by simp)]
 refine CN (listUpdate_at (xs:=#[]) (n:=0) (CT _ rfl) rfl ?_ (DV _) (by show(#[] ++ vs.toArray).size<=sizeLine + 1;simp only[Array.size_append,C4,CH];lia))
 refine CP ?_
 show wpAny (model prog w) A (do
   let o <-load s.heap.objs.size
   match o.data with
   |.seq xs _=>pure xs.toList
   |_=>unsupported "internal:collect") Q E { s with heap:=(s.heap.push (seqObj "list" #[] 0)).update s.heap.objs.size (Obj.mapSeq (· ++ vs.toArray)) }
 refine CN (wpAny_load (get?_update_seq (CT _ rfl) _) ?_)
 show wpAny _ _ (pure ((#[]:Array Value) ++ vs.toArray).toList) Q E _
 rw[show((#[]:Array Value) ++ vs.toArray).toList=vs by simp]
 exact CP (h _ (fun b o e=>(Dp _ _ (EV (CS e))).trans (CO _ e)) (by rw[Heap.size_update,size_push'];exact D4 _))
theorem iV{r:Addr}{ss0:List Str}{Q:Value->Shared->Prop}(h64:ss0.length < 64)
  (hc:∀R:List Value->Shared->Prop,(∀(h':Heap) (d':Drawn) (tk:Nat) (vs:List Value) (ss:List Str),(∀b o,s.heap.get? b=some o->h'.get? b=some o)->s.heap.objs.size<=h'.objs.size->StrsAre vs ss->ss.Perm ss0->R vs { s with heap:=h',drawn:=d',toks:=tk })->wpAny (model prog w) A.in1 (collect (.ref r)) R E s)
  (h:∀(D:Addr) (h':Heap) (d':Drawn) (tk:Nat) (its:List Value) (e:Nat),(∀b o,s.heap.get? b=some o->h'.get? b=some o)->s.heap.objs.size<=D->h'.get? D=some { cls:=.type "list",data:=.seq its.toArray e }->StrsAre its (aZ ss0)->Q (.ref D) { s with heap:=h',drawn:=d',toks:=tk }) :
  wpAny (model prog w) A (call (.builtin "sorted") [.ref r]) Q E s:=by
 refine Calls.call_function_entry kind_sorted plain_sorted entry_sorted (args_sorted1 _) ?_
 unfold Builtin.«sorted»
 refine CN (m:=checkCount "sorted" 1 1 _) (CP ?_)
 refine CN (hc _ fun h' d' tk vs ss kp hD hS hp=>?_)
 have Cl:vs.length=ss0.length:=by rw[StrsAre.length hS,hp.length_eq]
 refine CN (wpAny_newList ?_ (by rw[Cl];exact CZ (El h64) (by decide)))
 have hoL:(h'.push (seqObj "list" vs.toArray 0)).get? h'.objs.size=some (seqObj "list" vs.toArray 0):=CT _ rfl
 show wpAny _ _ _ _ _ { s with heap:=h'.push (seqObj "list" vs.toArray 0),drawn:=d',toks:=tk }
 refine CN (Dx (Ds slot_list_sort ⟨_,hoL,rfl⟩ entry_list_sort (list_sort_treeK strKind_oneLt hoL hS.keysOf (fun v₁ v₂ bc e=>keyKind_strs (by rw[<-e];exact hS)) (by rw[Cl];exact h64) fun st' a1 a2=>⟨_,rfl,?_⟩) (args_list_sort _)))
 obtain⟨ss',b1,b2,b3⟩:=sorted_out_str hS a1 a2
 obtain⟨e,he⟩:=sortedHeap_at (out:=(arrOf st').map (·.2)) hoL
 have hlt:∀b o,s.heap.get? b=some o->(sortedHeap (h'.push (seqObj "list" vs.toArray 0)) h'.objs.size vs ((arrOf st').map (·.2))).get? b=some o:=fun b o eb=>by
  have e1:=kp b o eb
  have e2:=CS e1
  rw[sortedHeap_old (C5 e2) (by rw[size_push'];exact EF e2)]
  exact CO _ e1
 refine CP ⟨_,rfl,h _ _ d' tk ((arrOf st').map (·.2)).toList e hlt hD (by rw[Array.toArray_toList];exact he) ?_⟩
 rw[<-l5 (b2.trans hp) (l4 ss' b3)]
 exact b1
end
theorem kR:∀{ss:List Str}{its:List Value},StrsAre its ss->aM (ss.map V.str) its
 := fun h=>by
  cases h with
  |nil=>exact .nil
  |cons _ t h=>exact .cons ⟨t,rfl⟩ (kR h)
theorem kW:∀{ss:List Str}{its:List Value},aM (ss.map V.str) its->StrsAre its ss
 := fun {ss its} z=>by
  cases ss with
  |nil=>cases z;exact .nil
  |cons x ss =>
   cases z with
   |cons r h=>obtain⟨t,e⟩:=r;subst e;exact .cons x t (kW h)
section
variable {X:Cx}
theorem Inv.laidS{dl:List (Addr×Obj)}{σ:St}{H:Hp}{s:Shared}(I:Inv X dl σ H s){h':Heap}{d':Drawn}{tk:Nat}{D:Addr}{its:List Value}{e:Nat}{ss:List Str}(kp:∀b o,s.heap.get? b=some o->h'.get? b=some o)(hD:s.heap.objs.size<=D)
  (hl:h'.get? D=some { cls:=.type "list",data:=.seq its.toArray e }) (hS:StrsAre its ss) (hz:ss.length<=sizeLine):Inv X dl σ (upd H D (.lst (ss.map V.str))) { s with heap:=h',drawn:=d',toks:=tk }:=by
 have I1:Inv X dl σ (upd H D (.lst (ss.map V.str))) { s with heap:=h',toks:=tk }:=I.laid kp hD ⟨by rw[CQ];exact hz,its,e,kR hS,hl⟩
 exact⟨I1.ok,I1.os,I1.bare,I1.base,I1.loc,I1.cell,I1.free,I1.freeC,I1.pin,I1.hok,I1.len⟩
def l_(K:PySem.W.Frag):List V->Hp->VK->Prop:=fun xs H Q=>∃p ss,xs=[.ref p]/\(SqL K H p (ss.map V.str)\/SqT K H p (ss.map V.str))/\ss.length < 64/\∀l,H l=none->Q (.ref l) (upd H l (.lst ((aZ ss).map V.str)))
theorem o4:bQ X (.builtin "sorted") (l_ X.K):=by
 intro dl s σ H xs us Q I r h
 obtain⟨p,ss,rfl,hq,h64,q⟩:=h
 obtain⟨u,rfl,ru⟩:=gE r
 cases ru
 have hz:ss.length<=sizeLine:=CZ (El h64) (by decide)
 obtain⟨T,o,its,n,ho,hc,hd,hT,rv⟩:∃T o its n,s.heap.get? p=some o/\o.cls=.type T/\o.data=.seq (List.toArray its) n/\(T = "list"\/T = "tuple")/\aM (ss.map V.str) its:=by
  rcases hq with hq |hq
  ·obtain⟨its,rv,pl,_⟩:=I.list hq
   obtain⟨o,n,e,c,hd,Gc⟩:=pl
   exact⟨"list",o,its,_,e,c,Gc,.inl rfl,rv⟩
  ·obtain⟨its,rv,⟨o,e,c,n,hd⟩,_⟩:=I.tuple hq
   exact⟨"tuple",o,its,n,e,c,hd,.inr rfl,rv⟩
 have hS:=kW rv
 refine iV (ss0:=ss) h64 (fun R hR=>oY ho hc hd hT (by rw[StrsAre.length hS];exact hz) fun h' kp hsz=>?_) fun D h' d' tk its' e kp hD hl hS'=>?_
 ·have z:=hR h' s.drawn s.toks its ss kp hsz hS (.refl _)
  exact z
 ·exact⟨.ref D,_,I.laidS kp hD hl hS' (by rw[(cM ss).length_eq];exact hz),rfl,q D (I.hok.fresh hD)⟩
end
end L2
namespace L2.Cu
open PySem PySem.Spec PyProof.Rows
def eG:List D->Option (List Str)
 | []=>some []
 |.str x :: r=>(eG r).map fun xs=>x :: xs
 |_=>none
theorem eZ:∀{ds:List D}{ss:List Str},eG ds=some ss->ds=ss.map D.str
 | [],ss,h=>by cases h;rfl
 |.str x :: r,ss,h=>by
  unfold eG at h
  obtain⟨cs,hr,h⟩:=bM h
  cases h
  rw[eZ hr];rfl
theorem iy(ss:List Str):eG (ss.map D.str)=some ss:=by
 induction ss with
 |nil=>rfl
 |cons x r ih=>show(eG (r.map D.str)).map _=_;rw[ih];rfl
theorem Reps.strs{F:Hp}:∀{vs:List V}{ss:List Str},Reps F vs (ss.map D.str)->vs=ss.map V.str
 := fun {vs ss} z=>by
  cases ss with
  |nil=>cases z;rfl
  |cons x ss =>
   cases z with
   |cons r t=>cases r;rw[Reps.strs t];rfl
theorem Reps.ofStrs{F:Hp}:∀(ss:List Str),Reps F (ss.map V.str) (ss.map D.str)
 | []=>.nil
 |x :: ss=>.cons (.str x) (Reps.ofStrs ss)
def uc(d:D):Option D:=(nk d).bind fun ds=>(eG ds).bind fun ss=>if ss.length < 64 then some (.lst ((aZ ss).map D.str)) else none
section
variable {X:Cx}{e:Expr}{p p2 pos pos2:Pos}{f:DE->Option D}
theorem ze{K:PySem.W.Frag}{F H:Hp}{v:V}{d:D}{ds:List D}{ss:List Str}(s:∀a u,F a=some u->H a=some u)(r:OB F H v d)(h:nk d=some ds)(h2:eG ds=some ss):∃a,v=.ref a/\(SqL K H a (ss.map V.str)\/SqT K H a (ss.map V.str)):=by
 have e2:=eZ h2
 subst e2
 cases d with
 |lst xs =>
  cases h
  obtain⟨a,vs,rfl,ha,rs⟩:=OB.lst s r
  rw[Reps.strs rs]at ha
  exact⟨a,rfl,.inl (SqL.of ha)⟩
 |tup xs =>
  cases h
  obtain⟨a,vs,rfl,ha,rs⟩:=r.tup
  rw[Reps.strs rs]at ha
  exact⟨a,rfl,.inr (SqT.of (s _ _ ha))⟩
 |_=>cases h
theorem rW{K:PySem.W.Frag}:iS .F (l_ K) uc:=fun F H v x d Q s rx h q=>by
 unfold uc at h
 obtain⟨ds,h1,h⟩:=bS h
 obtain⟨ss,h2,h⟩:=bS h
 split at h
 ·rename_i h64
  cases h
  obtain⟨a,rfl,hq⟩:=ze (K:=K) s rx h1 h2
  exact⟨a,ss,rfl,hq,h64,fun l hl=>q _ F _ (Ext.lay s hl) ⟨l,_,rfl,hl,aj,nofr s hl,Reps.ofStrs _⟩⟩
 ·cases h
end
end L2.Cu
namespace L2
open PySem PySem.Spec PyProof.Rows
section
variable {X:Cx}
def l9:V->List V->Hp->VK->Prop:=fun x vs H Q=>∃a b kvs more,x=.ref a/\vs=[.ref b]/\a ≠ b/\H a=some (.dK kvs)/\H b=some (.dK more)/\kvs.length + more.length<=sizeLine/\Q .non (upd H a (.dK (gQ kvs more)))
theorem iD:MtM X "dict.update" l9:=by
 intro dl s σ H x vs v us Q I rx rv h
 obtain⟨a,b,kvs,more,rfl,rfl,hab,ha,hb,hz,q⟩:=h
 cases rx
 obtain⟨u,rfl,ru⟩:=rv.one
 cases ru
 obtain⟨z1,hd1,vs1,rel1,dd1⟩:=ro I.hok ha
 obtain⟨z2,hd2,vs2,rel2,dd2⟩:=ro I.hok hb
 refine call_meetsIn DS dd1.typeIs PySem.F.entry_dict_update (PySem.F.args_dict_update_2 _ _) (meets_dict_update (az X.prog X.w) a b hab hd2) ⟨vs1,vs2,dd1,dd2,by rw[<-rel1.length,<-rel2.length];exact hz,fun h' d1 d2 hs=>?_⟩
 have he:∃q,h'.get? a=some q:=let ⟨q,_,_,hq,_⟩:=d1; ⟨q,hq⟩
 have hl:(gQ kvs more).length<=sizeLine:=CZ (eD more kvs) hz
 exact⟨.non,_,jt (t':=s.toks) I (by rw[ha];exact True.intro) hs he (qa hl hd1 (rel2.merge rel1) d1),rfl,q⟩
def jG(x:Str)(n:Int):Str:=⟨(List.replicate n.toNat x.cps.toList).flatten.toArray⟩
theorem nz(a:List Nat):∀(k:Nat) (acc:List Nat),List.foldl (fun x1 x2=>x1 ++ x2) acc.toArray (List.replicate k a.toArray)=(acc ++ (List.replicate k a).flatten).toArray
 | 0,acc=>by simp
 |k + 1,acc=>by
  have e:acc.toArray ++ a.toArray=(acc ++ a).toArray:=by simp
  have e2:(acc ++ a) ++ (List.replicate k a).flatten=acc ++ (List.replicate (k + 1) a).flatten:=by rw[DW,E_,List.append_assoc]
  rw[DW,CM,e,nz a k (acc ++ a),e2]
theorem pI:OpR X (binaryOp .Mult) (fun x y H Q=>∃z n,x=.str z/\y=.int n/\0<=n/\n < 2 ^ 20/\z.length * n.toNat<=sizeLine/\Q (.str (jG z n)) H):=by
 intro dl s σ H x y v u Q I rx ry h
 obtain⟨z,n,rfl,rfl,h0,h1,hz,q⟩:=h
 obtain⟨t,rfl⟩:=rx
 obtain⟨t',rfl⟩:=ry
 have hzl:z.length * n.toNat<=2 ^ 24:=hz
 refine PySem.P.mul_str ?_ (fun hn hb=>?_) (fun hn hb=>?_) ?_
 ·rw[C9 (by lia),C9 (by lia)];rfl
 ·have hn1:1<=n:=by lia
  have hzn:(z.length:Int)<=2 ^ 24:=by
   have h2:z.length * 1<=z.length * n.toNat:=Nat.mul_le_mul_left _ (by lia)
   lia
  have He:(2 ^ 63 - 1) / 2 ^ 20<=(2 ^ 63 - 1) / n:=by
   refine Int.le_ediv_of_mul_le (by lia) ?_
   have h3:(2 ^ 63 - 1) / 2 ^ 20 * n<=(2 ^ 63 - 1) / 2 ^ 20 * 2 ^ 20:=Int.mul_le_mul_of_nonneg_left (by lia) (by decide)
   lia
  lia
 ·unfold Builtin.Str.tooLong
  exact C9 (by have:sizeLine=2 ^ 24:=rfl;lia)
 ·have e0:(List.replicate n.toNat z.cps).foldl (· ++ ·) #[]=(List.replicate n.toNat z.cps.toList).flatten.toArray:=by
   have:=nz z.cps.toList n.toNat []
   simpa using this
  by_cases hn:n < 1
  ·rw[if_pos hn]
   refine⟨by decide,?_⟩
   have e:jG z n=Str.empty:=by
    have:n.toNat=0:=by lia
    unfold jG;rw[this];rfl
   rw[e]at q
   exact⟨.str _,H,I.tok _,⟨_,rfl⟩,q⟩
  ·rw[if_neg hn]
   by_cases hb:(n == 1 || z.length == 0)=true
   ·rw[if_pos hb]
    have e:jG z n=z:=by
     unfold jG
     rcases Bool.or_eq_true_iff.mp hb with hb |hb
     ·have:n=1:=by simpa using hb
      subst this
      simp
     ·have hl:z.cps.size=0:=(by simpa using hb:z.length=0)
      have:z.cps=#[]:=Array.eq_empty_of_size_eq_zero hl
      cases z
      simp only at this
      subst this
      simp
    rw[e]at q
    exact⟨.str z,H,I,⟨t,rfl⟩,q⟩
   ·rw[if_neg hb,e0]
    refine⟨?_,⟨.str _,H,I.tok _,⟨_,rfl⟩,q⟩⟩
    show((List.replicate n.toNat z.cps.toList).flatten.toArray).size<=sizeLine
    rw[C4,xE,DG,Nat.mul_comm]
    exact hz
end
end L2
namespace L2.Cu
open PySem PySem.Spec PyProof.Rows
section
variable {X:Cx}{a b e:Expr}{pos apos cpos spos dpos pos':Pos}{f g:DE->Option D}
theorem PE.or{e:Expr}{t t':TE}(h:PE X e t)(h':PE X e t'):PE X e (fun σ H Q=>t σ H Q\/t' σ H Q):=fun dl s σ H Q I q=>q.elim (h dl s σ H Q I) (h' dl s σ H Q I)
theorem PT.or{e:Expr}{t t':TT}(h:PT X e t)(h':PT X e t'):PT X e (fun σ H Q=>t σ H Q\/t' σ H Q):=fun dl s σ H Q I q=>q.elim (h dl s σ H Q I) (h' dl s σ H Q I)
def sB(x y:D):Option D:=match x,y with
 |.str z,.int n=>if 0<=n/\n < 2 ^ 20/\z.length * n.toNat<=sizeLine then some (.str (jG z n)) else none
 |x,y=>u8 x y
theorem wI:dD .V (fun x y H Q=>(rI (fun i j=>Builtin.Int.intBits i<=2 ^ 20/\Builtin.Int.intBits j<=2 ^ 20) fun i j=>.int (i * j)) x y H Q\/∃z n,x=V.str z/\y=V.int n/\0<=n/\n < 2 ^ 20/\z.length * n.toNat<=sizeLine/\Q (.str (jG z n)) H) sB:=fun F H v w x y d Q s rx ry h q=>by
 have onI:u8 x y=some d->(rI (fun i j=>Builtin.Int.intBits i<=2 ^ 20/\Builtin.Int.intBits j<=2 ^ 20) fun i j=>V.int (i * j)) v w H Q:=fun h=>zr F H v w x y d Q s rx ry h q
 cases x with
 |str z =>
  cases y with
  |int n =>
   have h':(if 0<=n/\n < 2 ^ 20/\z.length * n.toNat<=sizeLine then some (D.str (jG z n)) else none)=some d:=h
   split at h'
   ·rename_i hc
    cases h'
    exact .inr ⟨z,n,rx.str,ry.int,hc.1,hc.2.1,hc.2.2,q _ F H (Ext.refl s) (.str _)⟩
   ·cases h'
  |_=>exact .inl (onI h)
 |_=>exact .inl (onI h)
theorem q8(ha:Ev X .O a f)(hb:Ev X .O b g):Ev X .V (.BinOp a .Mult b pos) (bin sB f g):=j_ (OpR.or xq pI) wI ha hb
def ff(kvs:List (Key×D))(k:Key)(v:D):List (Key×D):=if(kvs.any fun kv=>decide (kv.1=k))=true then kvs.map (fun kv=>if kv.1=k then(kv.1,v) else kv) else kvs ++ [(k,v)]
theorem RepK.any{F:Hp}{k:Key}:∀{vs:List (Key×V)} {ds:List (Key×D)},RepK F vs ds->(vs.any fun kv=>decide (kv.1=k))=ds.any fun kv=>decide (kv.1=k)
 := fun r=>by
  cases r with
  |nil=>rfl
  |cons _ t=>rw[Ez,Ez,RepK.any t]
theorem RepK.map1{F:Hp}{k:Key}{v:V}{d:D}(r:Rep F v d):∀{vs:List (Key×V)} {ds:List (Key×D)},RepK F vs ds->RepK F (vs.map (fun kv=>if kv.1=k then(kv.1,v) else kv)) (ds.map (fun kv=>if kv.1=k then(kv.1,d) else kv))
 := fun q=>by
  cases q with
  |nil=>exact .nil
  |@cons k' v' d' vs ds r' t =>
   rw[CI,CI]
   by_cases e:k'=k
   ·rw[if_pos e,if_pos e];exact .cons r (RepK.map1 r t)
   ·rw[if_neg e,if_neg e];exact .cons r' (RepK.map1 r t)
theorem RepK.snoc{F:Hp}{k:Key}{v:V}{d:D}(r:Rep F v d):∀{vs:List (Key×V)} {ds:List (Key×D)},RepK F vs ds->RepK F (vs ++ [(k,v)]) (ds ++ [(k,d)])
 := fun q=>by
  cases q with
  |nil=>exact .cons r .nil
  |cons r' t=>exact .cons r' (RepK.snoc r t)
theorem RepK.put{F:Hp}{k:Key}{v:V}{d:D}(r:Rep F v d){vs:List (Key×V)}{ds:List (Key×D)}(h:RepK F vs ds):RepK F (fE vs k v) (ff ds k d):=by
 unfold fE ff
 rw[h.any]
 split
 ·exact h.map1 r
 ·exact h.snoc r
def fG(i:Nat)(fk fv:DE->Option D)(E:DE):Option Out:=match E[i]? with
 |some (.own (.dic kvs))=>(fk E).bind fun x=>(cZ x).bind fun k=>(fv E).bind fun v=>if kvs.length < sizeLine then some (.nx (E.set i (.own (.dic (ff kvs k v))))) else none
 |_=>none
theorem eQ(hu:X.A.units + 64 < cLine){i:Nat}{o:Expr}(ho:PE X o (g8 i))(ha:Ev X .V a f)(hb:Ev X .V b g)(BT:attributeBase o "update" X.env (eval o X.env)=eval o X.env:=by rfl)
  (FZ:((backTo cpos (starEach [.Dict [some a] [b] dpos] X.env)).all (fun x => !x.1) && (backToKw cpos (keywordEach [] X.env)).all (fun x=>x.1.isSome) && decide (([.Dict [some a] [b] dpos]:List Expr).length + ([]:List Keyword).length + (if([]:List Keyword).isEmpty then 0 else 1) < 30))=true:=by rfl)
  (FT:(apos.endLine == cpos.line)=true:=by rfl) (hs:swapsWith (.Call (.Attribute o "update" apos) [.Dict [some a] [b] dpos] [] cpos) none spos.line X.env=pure false:=by rfl) :
  Es X (.Expr (.Call (.Attribute o "update" apos) [.Dict [some a] [b] dpos] [] cpos) spos) (fG i f g) :=
 PS.by (gi (lf DU DS Ej iD ho (bj (mJ (pos:=dpos) ha hb).h cE) BT FZ FT rfl rfl) hs) fun Z σ H zz110_0=>by
  obtain⟨B,F,E,r,k,q,w⟩:=zz110_0
  unfold fG at q
  split at q
  ·rename_i kvs hd
   obtain⟨x,hf,q⟩:=bS q
   obtain⟨ky,hk,q⟩:=bS q
   obtain⟨y,hg,q⟩:=bS q
   split at q
   ·rename_i hz
    cases q
    obtain⟨p,vs,h1,h2,h3,h4⟩:=xm k hd
    refine⟨.ref p,h1,.inr (.inr (.inl ⟨rfl,.inl ⟨vs,h2⟩⟩)),B,F,E,.dic [(ky,y)],k,by simp[oW,hf,hk,hg],fun v F' H' x' rv=>?_⟩
    obtain⟨c,o',rfl,hc0,hc,hcF,hor⟩:=rv
    cases o' with
    |dK ws =>
     cases(show RepK F' ws [(ky,y)] from hor) with
     |@cons _ u _ _ _ ru tl =>
      cases tl
      refine⟨p,c,vs,[(ky,u)],rfl,rfl,fun z=>?_,x'.same _ _ h2,hc,by rw[h4.length];exact hz,?_⟩
      ·rw[z,hc0]at h2;cases h2
      ·have z:=(k.ext x').rewrite hd h1 (o':=.dK (fE vs ky u)) (d':=.dic (ff kvs ky y)) ((h4.mono x'.fr).put ru)
       exact w σ F' _ z x'.fr
    |_=>exact False.elim hor
   ·cases q
  ·cases q
def ixE(x y:D):Option D:=match x with
 |.dic kvs=>(cZ y).bind fun k=>cj kvs k
 |x=>ixD x y
theorem aV(hu:X.A.units + 64 < cLine)(ha:Ev X .O a f)(hb:Ev X .O b g)(hs:jw b):Ev X .V (.Subscript a b pos) (bin ixE f g) :=
 PE.by (PE.or (qG mq ha.h hb.h hs) (xg (mz hu) ha.h hb.h hs)) fun σ H Q h=>by
  obtain⟨B,F,E,d,k,q,w⟩:=h
  have q0:=q
  unfold bin at q
  obtain⟨x,hf,q⟩:=bS q
  obtain⟨y,hg,q⟩:=bS q
  have seq:ixD x y=some d->tOp (rIx X.K) (tM .O f) (tM .O g) σ H Q:=fun hq=>eS (m:=.V) Ba σ H Q ⟨B,F,E,d,k,by unfold bin;rw[hf,hg];exact hq,w⟩
  cases x with
  |dic kvs =>
   right
   have q':(cZ y).bind (fun k=>cj kvs k)=some d:=q
   obtain⟨ky,hk,q'⟩:=bS q'
   have q2:cj kvs ky=some d:=q'
   refine⟨B,F,E,_,k,hf,fun v F1 H1 x1 r1=>⟨B,F1,E,y,k.ext x1,hg,fun u F2 H2 x2 r2=>?_⟩⟩
   obtain⟨p,vs,rfl,hp,rk⟩:=OB.dic x1.sub r1
   have eu:u=kV ky:=eL hk r2
   obtain⟨v',e',r'⟩:=(RepK.val (k:=ky) (rk.mono x2.fr)).1 d q2
   refine⟨p,v',rfl,?_,w v' F2 H2 (x1.trans x2) r'⟩
   rw[eu,<-e']
   exact jr (pA x2.same hp)
  |_=>exact .inl (seq q)
def inE(x y:D):Option D:=match y with
 |.dic kvs=>(cZ x).map fun k=>.bl (cj kvs k).isSome
 |y=>inO x y
def jP(x y:D):Option D:=match y with
 |.dic kvs=>(cZ x).map fun k=>.bl (!(cj kvs k).isSome)
 |y=>u6 x y
theorem jY{F:Hp}{vs:List (Key×V)}{ds:List (Key×D)}{k:Key}(r:RepK F vs ds):(eC vs k).isSome=(cj ds k).isSome:=by
 obtain⟨h1,h2⟩:=RepK.val (k:=k) r
 cases h:cj ds k with
 |some d=>obtain⟨v,e,_⟩:=h1 d h;rw[e];rfl
 |none=>rw[h2 h];rfl
theorem vA{K:PySem.W.Frag}(σ:St)(H:Hp)(Q:VK)(h:tM .V (bin inE f g) σ H Q):tOp (fun x y H Q=>(∃i j,x=V.str i/\y=V.str j/\Q (.bl (!(Builtin.Str.occurrences j i 0 j.length 1).isEmpty)) H)\/rIn K false x y H Q) (tM .O f) (tM .O g) σ H Q\/A1 (tM .O f) (tM .O g) σ H Q:=by
 obtain⟨B,F,E,d,k,q,w⟩:=h
 unfold bin at q
 cases hf:f E with
 |none=>rw[hf]at q;cases q
 |some x =>
  rw[hf]at q
  cases hg:g E with
  |none=>rw[hg]at q;cases q
  |some y =>
   rw[hg]at q
   have seq:inO x y=some d->tOp (fun x y H Q=>(∃i j,x=V.str i/\y=V.str j/\Q (.bl (!(Builtin.Str.occurrences j i 0 j.length 1).isEmpty)) H)\/rIn K false x y H Q) (tM .O f) (tM .O g) σ H Q:=fun hq=>eS (m:=.V) Bb σ H Q ⟨B,F,E,d,k,by unfold bin;rw[hf,hg];exact hq,w⟩
   cases y with
   |dic kvs =>
    right
    have q':(cZ x).map (fun k=>D.bl (cj kvs k).isSome)=some d:=q
    cases hk:cZ x with
    |none=>rw[hk]at q';cases q'
    |some ky =>
     rw[hk]at q'
     cases q'
     refine⟨B,F,E,x,k,hf,fun v F1 H1 x1 r1=>⟨B,F1,E,_,k.ext x1,hg,fun u F2 H2 x2 r2=>?_⟩⟩
     obtain⟨p,vs,rfl,hp,rk⟩:=OB.dic x2.sub r2
     have eu:v=kV ky:=eL hk r1
     refine⟨p,eC vs ky,rfl,by rw[eu];exact jr hp,?_⟩
     rw[jY rk]
     exact w _ F2 H2 (x1.trans x2) (.bl _)
   |_=>exact .inl (seq q)
theorem sy{K:PySem.W.Frag}(σ:St)(H:Hp)(Q:VK)(h:tM .V (bin jP f g) σ H Q):tOp (fun x y H Q=>(∃i j,x=V.str i/\y=V.str j/\Q (.bl (!(!(Builtin.Str.occurrences j i 0 j.length 1).isEmpty))) H)\/rIn K true x y H Q) (tM .O f) (tM .O g) σ H Q\/qu (tM .O f) (tM .O g) σ H Q:=by
 obtain⟨B,F,E,d,k,q,w⟩:=h
 unfold bin at q
 cases hf:f E with
 |none=>rw[hf]at q;cases q
 |some x =>
  rw[hf]at q
  cases hg:g E with
  |none=>rw[hg]at q;cases q
  |some y =>
   rw[hg]at q
   have seq:u6 x y=some d->tOp (fun x y H Q=>(∃i j,x=V.str i/\y=V.str j/\Q (.bl (!(!(Builtin.Str.occurrences j i 0 j.length 1).isEmpty))) H)\/rIn K true x y H Q) (tM .O f) (tM .O g) σ H Q:=fun hq=>eS (m:=.V) zp σ H Q ⟨B,F,E,d,k,by unfold bin;rw[hf,hg];exact hq,w⟩
   cases y with
   |dic kvs =>
    right
    have q':(cZ x).map (fun k=>D.bl (!(cj kvs k).isSome))=some d:=q
    cases hk:cZ x with
    |none=>rw[hk]at q';cases q'
    |some ky =>
     rw[hk]at q'
     cases q'
     refine⟨B,F,E,x,k,hf,fun v F1 H1 x1 r1=>⟨B,F1,E,_,k.ext x1,hg,fun u F2 H2 x2 r2=>?_⟩⟩
     obtain⟨p,vs,rfl,hp,rk⟩:=OB.dic x2.sub r2
     have eu:v=kV ky:=eL hk r1
     refine⟨p,eC vs ky,rfl,by rw[eu];exact jr hp,?_⟩
     rw[jY rk]
     exact w _ F2 H2 (x1.trans x2) (.bl _)
   |_=>exact .inl (seq q)
theorem p0(hu:X.A.units + 64 < cLine)(ha:Ev X .O a f)(hb:Ev X .O b g)(hm:behindInMarks .In b=false):Et X (.Compare a [.In] [b] pos) (tst (bin inE f g)) :=
 PT.by (PT.or (g_ (OpR.or sk sm) ha.h hb.h hm) (ux (zP (mz hu) ha.h hb.h) hm)) fun σ H Q q=>vA σ H _ (eF σ H Q q)
theorem re(hu:X.A.units + 64 < cLine)(ha:Ev X .O a f)(hb:Ev X .O b g)(hm:behindInMarks .NotIn b=false):Et X (.Compare a [.NotIn] [b] pos) (tst (bin jP f g)) :=
 PT.by (PT.or (g_ (OpR.or md me) ha.h hb.h hm) (ux (sg (mz hu) ha.h hb.h) hm)) fun σ H Q q=>sy σ H _ (eF σ H Q q)
def bK(x:D):Option D:=match x with
 |.dic kvs=>some (.int kvs.length)
 |x=>sJ x
theorem bQ.or{f:Value}{r r':List V->Hp->VK->Prop}(h:bQ X f r)(h':bQ X f r'):bQ X f (fun xs H Q=>r xs H Q\/r' xs H Q):=fun dl s σ H xs us Q I rv q=>q.elim (h dl s σ H xs us Q I rv) (h' dl s σ H xs us Q I rv)
theorem wK{K:PySem.W.Frag}:iS .V (fun xs H Q=>(∃x n,xs=[x]/\AL K x H n/\Q (.int n) H)\/∃a kvs,xs=[V.ref a]/\Rd H a (.dK kvs)/\Q (.int kvs.length) H) bK:=fun F H v x d Q s rx h q=>by
 cases x with
 |dic kvs =>
  cases CU h
  obtain⟨p,vs,rfl,hp,rk⟩:=OB.dic s rx
  refine .inr ⟨p,vs,rfl,hp,?_⟩
  rw[rk.length]
  exact q _ F H (Ext.refl s) (.int _)
 |_=>exact .inl (zu F H v _ d Q s rx h q)
theorem tw:bQ X (.builtin "len") (fun xs H Q=>∃a kvs,xs=[V.ref a]/\Rd H a (.dK kvs)/\Q (.int kvs.length) H):=by
 intro dl s σ H xs us Q I r h
 obtain⟨a,kvs,rfl,ha,q⟩:=h
 obtain⟨u,rfl,ru⟩:=gE r
 cases ru
 exact BP I ha fun t s' I'=>⟨.int kvs.length,H,I',⟨t,rfl⟩,q⟩
theorem bI{p:Pos}(hg:Gl X "len")(hm:X.mg "len" = none)(ha:Ev X .O e f)(he:aD e=true:=by rfl):Ev X .V (.Call (.Name "len" p) [e] [] pos) (un bK f) :=
 jq (bQ.or wc tw) wK hg hm PySem.boot_len ha (by decide) (by decide) he
def pS:List (Key×D)->Option (List Str)
 | []=>some []
 | (.inr x,_) :: r=>(pS r).map fun xs=>x :: xs
 |_=>none
def nC:List V->Hp->VK->Prop:=fun xs H Q=>∃p kvs ss,xs=[.ref p]/\Rd H p (.dK kvs)/\kvs.map (·.1)=ss.map (Sum.inr:Str->Key)/\ss.length < 64/\∀l,H l=none->Q (.ref l) (upd H l (.lst ((aZ ss).map V.str)))
theorem lx:∀{ds:List (Key×D)} {ss:List Str},pS ds=some ss->ds.map (·.1)=ss.map (Sum.inr:Str->Key)
 | [],ss,h=>by cases h;rfl
 | (.inr x,d) :: r,ss,h=>by
  unfold pS at h
  cases hr:pS r with
  |none=>rw[hr]at h;cases h
  |some xs=>rw[hr]at h;cases h;rw[CI,lx hr];rfl
theorem RepK.keys{F:Hp}:∀{vs:List (Key×V)} {ds:List (Key×D)},RepK F vs ds->vs.map (·.1)=ds.map (·.1)
 := fun r=>by
  cases r with
  |nil=>rfl
  |cons _ t=>rw[CI,CI,RepK.keys t]
end
end L2.Cu
namespace L2
open PySem PySem.Spec PyProof.Rows
theorem lN{prog:Program}{w:World}{A:Around}{E:Value->Shared->Prop}{s:Shared}{d:Addr}{kvs:List (Key×Value)}{ep:Nat}{Pv:List Value->Prop}{Q:Value->Shared->Prop}(lo:(d == sysModules)=false)(hm:s.heap.DictAt (az prog w) d kvs ep)(hz:kvs.length<=sizeLine)
  (hP:∀vs:List Value,vs.length=kvs.length->(∀(i:Nat) v,vs[i]? = some v->∃k x,kvs[i]? = some (k,x)/\(az prog w).is k v=true)->Pv vs) (h:∀itv s1,rL prog w s d Pv itv s1->Q itv s1):wpAny (model prog w) A (pyIter (.ref d)) Q E s:=by
 refine wpAny_pyIter_dict lo hm (h _ _ ⟨_,[s.heap.objs.size,d],kvs.length,_,_,_,s.drawn,rfl,rfl,fun b o e=>CO _ e,fun b hb=>?_,CV _,fun A hA=>Walks.dictKeys (knd:=az prog w) hA _ d (C5 hm.lt_size) kvs ep,⟨⟨_,CT _ rfl,rfl,rfl⟩,hm.push _⟩,hz,fun acc Gz=>?_⟩)
 ·rcases List.mem_cons.mp hb with rfl |hb
  ·exact .inr (CV _)
  ·exact .inl (List.mem_singleton.mp hb)
 ·exact hP _ (by rw[DG];exact Gz.1) fun i v e=>Gz.2 i v (by rw[<-D6];exact e)
theorem kX{P:Program}{w:World}:∀{ss:List Str}{kvs:List (Key×Value)} {vs:List Value},kvs.map (·.1)=ss.map (Sum.inr:Str->Key)->vs.length=kvs.length->(∀(i:Nat) v,vs[i]? = some v->∃k x,kvs[i]? = some (k,x)/\(az P w).is k v=true)->StrsAre vs ss
 | [],kvs,vs,hk,hl,h=>by
  have e1:kvs=[]:=List.map_eq_nil_iff.mp hk
  subst e1
  have e2:vs=[]:=List.length_eq_zero_iff.mp hl
  subst e2
  exact .nil
 |x :: ss,[],vs,hk,hl,h=>by simp at hk
 |x :: ss,(k,y) :: kvs,[],hk,hl,h=>by simp at hl
 |x :: ss,(k,y) :: kvs,v :: vs,hk,hl,h=>by
  rw[CI,CI]at hk
  injection hk with hk1 hk2
  obtain⟨k',x',e,hi⟩:=h 0 v rfl
  cases e
  have GQ:k=Sum.inr x:=hk1
  subst GQ
  rcases be (show gH (Sum.inr x) v=true from hi) with⟨i,t,e,_⟩ |⟨z,t,e,rfl⟩ |⟨e,_⟩
  ·cases e
  rotate_left
  ·cases e
  ·cases e
   exact .cons x t (kX hk2 (by simpa using hl) fun i v hv=>by simpa using h (i + 1) v (by simpa using hv))
theorem mS{X:Cx}(hc:X.calm=true):bQ X (.builtin "sorted") Cu.nC:=by
 intro dl s σ H xs us Q I r h
 obtain⟨p,kvs,ss,rfl,hp,hk,h64,q⟩:=h
 obtain⟨u,rfl,ru⟩:=gE r
 cases ru
 obtain⟨z,hd,vs,rel,dd⟩:=dm I.hok hp
 obtain⟨ep,hat⟩:=dd.dictAt
 have hz:ss.length<=sizeLine:=CZ (El h64) (by decide)
 have hks:=rel.keys.symm.trans hk
 obtain⟨o,es,ho,hx,_⟩:=id hat
 refine iV (ss0:=ss) h64 (fun R hR=>?_) fun D h' d' tk its' e kp hD hl hS'=>?_
 ·refine iU (T := "dict") (Pv:=fun us=>StrsAre us ss) (show X.A.in1.handled=none from I.ok.hd hc) ho hx.1 (by decide) (by decide) (fun A E s' Q hT hq=>PySem.W.kdl_hint_dict hT hq) (fun A E s' Q kp hq=>lN hd (hat.at' kp) (by rw[<-rel.length];exact z) (fun us h1 h2=>kX hks h1 h2) hq) fun h' d' tk us kp hsz hS=>hR h' d' tk us ss kp hsz hS (.refl _)
 ·exact⟨.ref D,_,I.laidS kp hD hl hS' (by rw[(cM ss).length_eq];exact hz),rfl,q D (I.hok.fresh hD)⟩
end L2
namespace L2.Cu
open PySem PySem.Spec PyProof.Rows
section
variable {X:Cx}{a b e:Expr}{p pos:Pos}{f g:DE->Option D}
def cJ(x:D):Option D:=match x with
 |.dic kvs=>(pS kvs).bind fun ss=>if ss.length < 64 then some (.lst ((aZ ss).map D.str)) else none
 |x=>uc x
theorem uq{K:PySem.W.Frag}:iS .F (fun xs H Q=>l_ K xs H Q\/nC xs H Q) cJ:=fun F H v x d Q s rx h q=>by
 cases x with
 |dic kvs =>
  have h':(pS kvs).bind (fun ss=>if ss.length < 64 then some (D.lst ((aZ ss).map D.str)) else none)=some d:=h
  cases hk:pS kvs with
  |none=>rw[hk]at h';cases h'
  |some ss =>
   simp only[hk,CA]at h'
   split at h'
   ·rename_i h64
    cases h'
    obtain⟨c,vs,rfl,hc,rk⟩:=OB.dic s rx
    exact .inr ⟨c,vs,ss,rfl,hc,rk.keys.trans (lx hk),h64,fun l hl=>q _ F _ (Ext.lay s hl) ⟨l,_,rfl,hl,aj,nofr s hl,Reps.ofStrs _⟩⟩
   ·cases h'
 |_=>exact .inl (rW F H v _ d Q s rx h q)
theorem ig(hc:X.calm=true)(hg:Gl X "sorted")(hm:X.mg "sorted" = none)(hv:bootBuiltins "sorted" = some (.builtin "sorted"))(ha:Ev X .O e f)(he:aD e=true:=by rfl):Ev X .F (.Call (.Name "sorted" p) [e] [] pos) (un cJ f) :=
 jq (bQ.or o4 (mS hc)) uq hg hm hv ha (by decide) (by decide) he
def kn:D->Option D
 |.dic kvs=>some (.dic kvs)
 |_=>none
theorem o6:bQ X (.type "dict") (fun xs H Q=>∃a kvs,xs=[V.ref a]/\Rd H a (.dK kvs)/\∀l,H l=none->Q (.ref l) (upd H l (.dK kvs))):=by
 intro dl s σ H xs us Q I r h
 obtain⟨a,kvs,rfl,ha,q⟩:=h
 obtain⟨u,rfl,ru⟩:=gE r
 cases ru
 exact v9 I ha fun p s' hp I'=>⟨.ref p,_,I',rfl,q p hp⟩
theorem wM:iS .F (fun xs H Q=>∃a kvs,xs=[V.ref a]/\Rd H a (.dK kvs)/\∀l,H l=none->Q (.ref l) (upd H l (.dK kvs))) kn:=fun F H v x d Q s rx h q=>by
 match x,h with
 |.dic kvs,h =>
  cases CU h
  obtain⟨c,vs,rfl,hc,rk⟩:=OB.dic s rx
  exact⟨c,vs,rfl,hc,fun l hl=>q _ F _ (Ext.lay s hl) ⟨l,_,rfl,hl,aj,nofr s hl,rk⟩⟩
theorem mH(hg:Gl X "dict")(hm:X.mg "dict" = none)(hv:bootBuiltins "dict" = some (.type "dict"))(ha:Ev X .O e f)(he:aD e=true:=by rfl):Ev X .F (.Call (.Name "dict" p) [e] [] pos) (un kn f) :=
 mG o6 wM hg hm hv ha (by decide) (by decide) he
end
def wp{α:Type}(o:Option α)(P:α->Prop):Prop:=match o with
 |some a=>P a
 |none=>False
theorem al{α:Type}{a:α}{P:α->Prop}:wp (some a) P=P a:=rfl
theorem bo{α β:Type}{o:Option α}{k:α->Option β}{P:β->Prop}:wp (o.bind k) P=wp o (fun a=>wp (k a) P):=by cases o <;> rfl
theorem de{α β:Type}{o:Option α}{k:α->β}{P:β->Prop}:wp (o.map k) P=wp o (fun a=>P (k a)):=by cases o <;> rfl
theorem f9{α:Type}{o:Option α}{P Q:α->Prop}(h:wp o P)(w:∀a,P a->Q a):wp o Q:=by
 cases o with
 |none=>exact h
 |some a=>exact w a h
theorem cb{α:Type}{o:Option α}{a:α}(h:wp o (fun b=>b=a)):o=some a:=by
 cases o with
 |none=>exact False.elim h
 |some b=>exact DK some h
theorem eB{α:Type}{o:Option α}{P:α->Prop}:wp o P ↔ ∃a,o=some a/\P a:=by
 cases o with
 |none=>exact⟨False.elim,fun⟨_,h,_⟩=>by cases h⟩
 |some b=>exact⟨fun h=>⟨b,rfl,h⟩,fun⟨_,h,p⟩=>by cases h;exact p⟩
theorem gM{α:Type}{c:Prop}[Decidable c]{a b:Option α}{P:α->Prop}(h:c)(q:wp a P):wp (if c then a else b) P:=by rw[if_pos h];exact q
theorem aH{i j:Int}(h:0 < j):aO (.int i) (.int j)=some (.int (i % j)):=if_pos h
theorem pP{j:Int}(h:j<=10 ^ 200)(h0:0 < j):j.natAbs.log2 < 9000:=by
 rw[Nat.log2_lt (by omega)]
 have h1:(j.natAbs:Int)<=10 ^ 200:=by omega
 have h2:((10:Nat) ^ 200:Nat) < 2 ^ 9000:=by decide
 have h3:j.natAbs<=(10:Nat) ^ 200:=by
  have:((10:Int) ^ 200)=(((10:Nat) ^ 200:Nat):Int):=by decide
  omega
 exact Dy h3 h2
theorem aY{i j:Int}(h:0 < j)(h2:j<=10 ^ 200):aN (.int i) (.int j)=some (.int (i / j)):=if_pos ⟨h,pP h2 h⟩
theorem sA{i j:Int}(h:Builtin.Int.intBits i<=2 ^ 20)(h2:Builtin.Int.intBits j<=2 ^ 20):u8 (.int i) (.int j)=some (.int (i * j)):=if_pos ⟨h,h2⟩
theorem hG{i j:Int}(h:0<=j)(h2:j<=1000000)(h3:i.natAbs < 2 ^ 64):ja (.int i) (.int j)=some (.int (i ^ j.toNat)):=if_pos ⟨h,h2,h3⟩
theorem mj{i j:Int}:ltD (.int i) (.int j)=some (.bl (decide (i < j))):=rfl
theorem qN{i j:Str}:ltD (.str i) (.str j)=some (.bl (decide (i.cps.toList < j.cps.toList))):=rfl
theorem mn{i j:Int}:leD (.int i) (.int j)=some (.bl (decide (i<=j))):=rfl
theorem mm{i j:Str}:leD (.str i) (.str j)=some (.bl (!decide (j.cps.toList < i.cps.toList))):=rfl
theorem jp{i j:Int}:gtD (.int i) (.int j)=some (.bl (decide (j < i))):=rfl
theorem qW{i j:Int}:geD (.int i) (.int j)=some (.bl (decide (j<=i))):=rfl
theorem ni{i j:Int}:Cc (.int i) (.int j)=some (.int (i - j)):=rfl
theorem rJ{α:Type}{xs:List α}{i:Int}(h:0<=i)(h2:i < xs.length):atI xs i=xs[i.toNat]?:=by
 unfold atI ixN
 rw[if_pos h,if_pos h2];rfl
theorem ip{α:Type}{xs:List α}{i:Nat}:atI xs (i:Int)=xs[i]?:=by
 unfold atI ixN
 rw[if_pos (by lia)]
 by_cases h:(i:Int) < xs.length
 ·rw[if_pos h];rfl
 ·rw[if_neg h]
  exact(D5 (by lia)).symm
theorem tI{α:Type}{xs:List α}{i:Int}{P:α->Prop}(h:0<=i)(h2:i < xs.length)(q:∀d ∈ xs,P d):wp (atI xs i) P:=by
 have hlt:i.toNat < xs.length:=by lia
 rw[rJ h h2,C0 hlt]
 exact q _ (DB hlt)
theorem e9(x:Str):x.length=x.cps.toList.length:=by
 show x.cps.size=_
 simp
theorem xM{z:Str}{i:Int}(hz:z.length<=16777216)(h:0<=i)(h2:i < z.length):ixD (.str z) (.int i)=some (.str ⟨#[z.cps.toList.getD i.toNat 0]⟩):=by
 show(if z.length<=16777216 then(atI z.cps.toList i).map fun c=>D.str ⟨#[c]⟩ else none)=_
 rw[e9]at h2
 rw[if_pos hz,rJ h h2]
 have hlt:i.toNat < z.cps.toList.length:=by lia
 rw[C0 hlt,DD,C0 hlt]
 rfl
theorem l3(x y:Str):(x ++ y).cps.toList=x.cps.toList ++ y.cps.toList:=by
 show(x.cps ++ y.cps).toList=_
 simp
theorem d5{i j:Int}:cz (.int i) (.int j)=some (.int (i + j)):=rfl
theorem wo{i j:Str}(h:i.length + j.length<=16777216):cz (.str i) (.str j)=some (.str (i ++ j)):=if_pos h
theorem qS{xs:List D}{i:Int}:ixD (.lst xs) (.int i)=atI xs i:=rfl
theorem qQ{xs:List D}{i:Int}:ixD (.tup xs) (.int i)=atI xs i:=rfl
theorem qR{xs:List Int}{i:Int}:ixD (.scr xs) (.int i)=(atI xs i).map D.int:=rfl
theorem og{xs:List D}:sJ (.lst xs)=some (.int xs.length):=rfl
theorem n_{xs:List D}:sJ (.tup xs)=some (.int xs.length):=rfl
theorem oa{xs:List Int}:sJ (.scr xs)=some (.int xs.length):=rfl
theorem vh{x:Str}(h:x.length<=16777216):sJ (.str x)=some (.int x.length):=if_pos h
theorem qz{xs:List D}{lo hi:Option Int}:slD (.lst xs) lo hi=some (.lst (cT xs lo hi)):=rfl
theorem qx{xs:List D}{lo hi:Option Int}:slD (.tup xs) lo hi=some (.tup (cT xs lo hi)):=rfl
theorem qy{xs:List Int}{lo hi:Option Int}:slD (.scr xs) lo hi=some (.lst ((cT xs lo hi).map D.int)):=rfl
theorem wE{x:Str}{lo hi:Option Int}(h:x.length<=16777216):slD (.str x) lo hi=some (.str (Txt.slice x lo hi)):=if_pos h
theorem gr{i j:Int}:eqO (.int i) (.int j)=some (.bl (decide (i=j))):=rfl
theorem mM{i j:Str}:eqO (.str i) (.str j)=some (.bl (decide (i=j))):=rfl
theorem vW{i j:Bool}:eqO (.bl i) (.bl j)=some (.bl (decide (i=j))):=rfl
theorem hX{i j:Int}:neO (.int i) (.int j)=some (.bl (!decide (i=j))):=rfl
theorem qK{i j:Str}:neO (.str i) (.str j)=some (.bl (!decide (i=j))):=rfl
theorem qU{c:Nat}{z:Str}:inO (.str ⟨#[c]⟩) (.str z)=some (.bl (decide (c ∈ z.cps.toList))):=by
 show some (D.bl (!(Builtin.Str.occurrences z ⟨#[c]⟩ 0 z.length 1).isEmpty))=_
 rw[PySem.StrLaws.found_one]
theorem nO{c:Nat}{z:Str}:u6 (.str ⟨#[c]⟩) (.str z)=some (.bl (!decide (c ∈ z.cps.toList))):=by
 show some (D.bl (!(!(Builtin.Str.occurrences z ⟨#[c]⟩ 0 z.length 1).isEmpty)))=_
 rw[PySem.StrLaws.found_one]
def zf(g:DE->Option Out)(P:Out->Prop):Out->Prop
 |.nx E=>wp (g E) P
 |r=>P r
theorem aU{g:DE->Option Out}{P:Out->Prop}{E:DE}:zf g P (.nx E)=wp (g E) P:=rfl
theorem du{g:DE->Option Out}{P:Out->Prop}{d:D}:zf g P (.rt d)=P (.rt d):=rfl
theorem bi{f g:DE->Option Out}{E:DE}{P:Out->Prop}:wp (ar f g E) P=wp (f E) (zf g P):=by
 unfold ar;rw[bo]
 congr 1
 funext r
 cases r <;> rfl
def ifK(f g:DE->Option Out)(E:DE)(P:Out->Prop)(b:Bool):Prop:=wp (if b=true then f E else g E) P
theorem eM{f g:DE->Option Out}{E:DE}{P:Out->Prop}:ifK f g E P true=wp (f E) P:=rfl
theorem eN{f g:DE->Option Out}{E:DE}{P:Out->Prop}:ifK f g E P false=wp (g E) P:=rfl
theorem dJ{c:DE->Option Bool}{f g:DE->Option Out}{E:DE}{P:Out->Prop}:wp (ifS c f g E) P=wp (c E) (ifK f g E P):=by
 unfold ifS;rw[bo];rfl
theorem vB{f g:DE->Option Out}{E:DE}{P:Out->Prop}{b:Bool}(h1:b=true->wp (f E) P)(h2:b=false->wp (g E) P):ifK f g E P b:=by
 cases b with
 |true=>exact h1 rfl
 |false=>exact h2 rfl
theorem jo{f g:DE->Option Out}{E:DE}{P:Out->Prop}{c:Prop}[Decidable c](h1:c->wp (f E) P)(h2:¬c->wp (g E) P):ifK f g E P (decide c) :=
 vB (fun h=>h1 (DM h)) fun h=>h2 (of_decide_eq_false h)
def zk(P:D->Prop):Out->Prop
 |.rt d=>P d
 |.nx _=>P .non
 |_=>False
theorem bx{P:D->Prop}{d:D}:zk P (.rt d)=P d:=rfl
theorem qC{P:D->Prop}{E:DE}:zk P (.nx E)=P .non:=rfl
theorem bF{n m:Nat}{b:DE->Option Out}{ds:List D}{P:D->Prop}(h:ds.length=n):wp (dy n m b ds) P=wp (b (ds.map Sl.val ++ List.replicate (m - n) Sl.no)) (zk P):=by
 unfold dy
 rw[if_pos h,bo]
 congr 1
 funext r
 cases r <;> rfl
theorem qw{n:Nat}(h:n<=16777216):n<=sizeLine:=h
theorem t_{n:Nat}(h:n < 16777216):n < sizeLine:=h
theorem dj{n:Nat}(h:n<=16777216):(n<=sizeLine)=True:=eq_true h
theorem yA{n:Nat}(h:n < 16777216):(n < sizeLine)=True:=eq_true h
theorem cD{f:DE->Option (List D)}{E:DE}:fD f E=(f E).bind g9:=rfl
theorem nu{f:DE->Option (List D)}{E:DE}:Ce f E=(f E).bind yB:=rfl
theorem bW{j:Int}(h : -4000000000<=j)(h2:j<=4000000000):g9 [.int j]=some (cN 0 j.toNat):=if_pos ⟨by omega,by omega⟩
def i5(gf:D->DE->Option DE)(fb:DE->Option Out)(xs:List D)(E:DE):Option Out:=d_ (fun x E1=>(gf x E1).bind fb) xs E
theorem gc{fi:DE->Option (List D)}{gf:D->DE->Option DE}{fb:DE->Option Out}{E:DE}{P:Out->Prop}:wp (c_ fi gf fb E) P=wp (fi E) (fun xs=>wp (i5 gf fb xs E) P):=by
 unfold c_;rw[bo];rfl
section
variable {α:Type} (enc:α->D) (ys:List α) (I:List α->DE->Prop) {gf:D->DE->Option DE}{fb:DE->Option Out}{xs:List D}{E:DE}{P:Out->Prop}
theorem m5(hx:xs=ys.map enc)(h0:I [] E)
  (step:∀pre x post E,ys=pre ++ x :: post->I pre E->wp (gf (enc x) E) fun E1=>wp (fb E1) fun r=>match r with |.nx E'=>I (pre ++ [x]) E' |.ct E'=>I (pre ++ [x]) E' |.bk E'=>P (.nx E') |.rt d=>P (.rt d)) (fin:∀E',I ys E'->P (.nx E')):wp (i5 gf fb xs E) P:=by
 subst hx
 have go:∀(post pre:List α) (E:DE),ys=pre ++ post->I pre E->wp (i5 gf fb (post.map enc) E) P:=by
  intro post
  induction post with
  |nil=>intro pre E h i;rw[DI]at h;subst h;exact fin E i
  |cons x post ih =>
   intro pre E h i
   show wp (((gf (enc x) E).bind fb).bind _) P
   rw[bo,bo]
   refine f9 (step pre x post E h i) fun E1 q1=>f9 q1 fun r q=>?_
   have nxt:∀E',I (pre ++ [x]) E'->wp (i5 gf fb (post.map enc) E') P:=fun E' i'=>ih (pre ++ [x]) E' (by rw[h];simp) i'
   cases r with
   |nx E'=>exact nxt E' q
   |ct E'=>exact nxt E' q
   |bk E'=>exact q
   |rt d=>exact q
 exact go ys [] E rfl h0
theorem f_(hx:xs=ys.map enc)(h0:I [] E)
  (step:∀pre x post E,ys=pre ++ x :: post->I pre E->wp (gf (enc x) E) fun E1=>wp (fb E1) fun r=>match r with |.nx E'=>I (pre ++ [x]) E' |.ct E'=>I (pre ++ [x]) E' |_=>False) (fin:∀E',I ys E'->P (.nx E')):wp (i5 gf fb xs E) P :=
 m5 enc ys I hx h0 (fun pre x post E h i=>f9 (step pre x post E h i) fun E1 q=>f9 q fun r q=>by cases r <;> first |exact q |exact False.elim q) fin
end
theorem gw{α:Type}(enc:α->D)(f:α->D){gf:D->DE->Option DE}{cf:DE->Option Bool}{ef:DE->Option D}{E:DE}:∀(ys:List α),(∀x ∈ ys,wp (gf (enc x) E) fun E1=>cf E1=some true/\ef E1=some (f x))->bD gf cf ef E (ys.map enc)=some (ys.map f)
 | [],_=>rfl
 |x :: ys,h=>by
  obtain⟨E1,h1,h2,h3⟩:=eB.mp (h x C1)
  show(gf (enc x) E).bind _=_
  rw[h1]
  show(cf E1).bind _=_
  rw[h2]
  show(if true=true then(ef E1).bind (fun y=>(bD gf cf ef E (ys.map enc)).map fun zs=>y :: zs) else bD gf cf ef E (ys.map enc))=_
  rw[if_pos rfl,h3,gw enc f ys fun y hy=>h y (CY _ hy)]
  rfl
theorem dB{α:Type}(enc:α->D)(p:α->Bool)(f:α->D){gf:D->DE->Option DE}{cf:DE->Option Bool}{ef:DE->Option D}{E:DE}:∀(ys:List α),(∀x ∈ ys,wp (gf (enc x) E) fun E1=>cf E1=some (p x)/\(p x=true->ef E1=some (f x)))->bD gf cf ef E (ys.map enc)=some ((ys.filter p).map f)
 | [],_=>rfl
 |x :: ys,h=>by
  obtain⟨E1,h1,h2,h3⟩:=eB.mp (h x C1)
  have ih:=dB enc p f (gf:=gf) (cf:=cf) (ef:=ef) (E:=E) ys fun y hy=>h y (CY _ hy)
  show(gf (enc x) E).bind _=_
  rw[h1]
  show(cf E1).bind _=_
  rw[h2]
  show(if p x=true then(ef E1).bind (fun y=>(bD gf cf ef E (ys.map enc)).map fun zs=>y :: zs) else bD gf cf ef E (ys.map enc))=_
  cases hp:p x with
  |true =>
   rw[if_pos rfl,h3 hp,ih,List.filter_cons_of_pos hp]
   rfl
  |false =>
   rw[if_neg (by simp),ih,List.filter_cons_of_neg (by simp[hp])]
theorem fW{α:Type}(f:α->Bool):∀ys:List α,mU (ys.map fun x=>D.bl (f x))=some (ys.map f)
 | []=>rfl
 |x :: ys=>by
  show(mU (ys.map fun x=>D.bl (f x))).map _=_
  rw[fW f ys];rfl
end L2.Cu
namespace L2
open PySem PySem.Spec PyProof.Rows
def RIt(b:Bool)(h:Heap)(it a:Addr)(i:Nat):Prop:=match b with
 |true=>h.IsListIter it a i
 |false=>h.IsTupleIter it a i
def RSq(b:Bool)(h:Heap)(a:Addr)(vs:Array Value):Prop:=match b with
 |true=>h.IsList a vs
 |false=>h.IsTuple a vs
theorem RIt.keep{b:Bool}{h h':Heap}{it a:Addr}{i:Nat}(x:RIt b h it a i)(k:∀o,h.get? it=some o->h'.get? it=some o):RIt b h' it a i:=by
 cases b <;> exact let ⟨o,e,r⟩:=x; ⟨o,k o e,r⟩
theorem RSq.keep{b:Bool}{h h':Heap}{a:Addr}{vs:Array Value}(x:RSq b h a vs)(k:∀o,h.get? a=some o->h'.get? a=some o):RSq b h' a vs:=by
 cases b <;> exact let ⟨o,e,r⟩:=x; ⟨o,k o e,r⟩
theorem RIt.obj{b:Bool}{h:Heap}{it a:Addr}{i:Nat}(x:RIt b h it a i):∃o,h.get? it=some o/\∃vs,o.data=.fields vs:=by
 cases b <;> exact let ⟨o,e,_,r⟩:=x; ⟨o,e,_,r⟩
section
variable {prog:Program}{w:World}{A:Around}{E:Value->Shared->Prop}{s:Shared}
theorem tV{it t:Addr}{i:Nat}{vs:Array Value}{x:Value}{Q:Value->Shared->Prop}(st:s.heap.IsTupleIter it t i)(ht:s.heap.IsTuple t vs)(hx:vs[i]? = some x)
  (q:∀h',h'.IsTupleIter it t (i + 1)->Heap.SameBut it s.heap h'->Q x { s with heap:=h' }):wpAny (model prog w) A (Builtin.SmallTypes.nextOf (.ref it)) Q E s:=by
 obtain⟨o,ho,hc,hd⟩:=id st
 obtain⟨p,hp,_,n,hn⟩:=ht
 unfold Builtin.SmallTypes.nextOf
 refine CN (DP (name:=Str.ofString "__next__") st.typeIs Ek (Ds Ek st.typeIs F.entry_tuple_iterator_next ?_ (F.args_tuple_iterator_next_1 _)))
 show wpAny _ _ (field (.ref it) 0 >>= _) _ _ s
 refine CN (Do ho hd (x:=.ref t) rfl ?_)
 show wpAny _ _ (if(Value.ref t == Value.none)=true then _ else field (.ref it) 1 >>= _) _ _ s
 rw[if_neg (show ¬(Value.ref t == Value.none)=true from C3)]
 refine CN (Do ho hd (x:=.int i 0) rfl (CN (wpAny_seqItems hp hn ?_)))
 simp only[DF,hx]
 exact CN (Eu ho hd (by simp) (CP ⟨x,rfl,CP (q _ ⟨_,Dr _ ho (FA (EI hd _)),(Obj.cls_mapFields ..).trans hc,by rw[EI hd];simp[rawInt]⟩ (EC ..))⟩))
theorem wz{it t:Addr}{i:Nat}{vs:Array Value}{Q:Value->Shared->Prop}(hh:A.handled=none)(st:s.heap.IsTupleIter it t i)(ht:s.heap.IsTuple t vs)(hx:vs[i]? = none)
  (q:∀h' e,Heap.ExtBut it s.heap h'->(∃o,h'.get? e=some o/\o.cls=.type "StopIteration")->E (.ref e) { s with heap:=h' }):wpAny (model prog w) A (Builtin.SmallTypes.nextOf (.ref it)) Q E s:=by
 obtain⟨o,ho,hc,hd⟩:=id st
 obtain⟨p,hp,_,n,hn⟩:=ht
 unfold Builtin.SmallTypes.nextOf
 refine CN (DP (name:=Str.ofString "__next__") st.typeIs Ek (Ds Ek st.typeIs F.entry_tuple_iterator_next ?_ (F.args_tuple_iterator_next_1 _)))
 show wpAny _ _ (field (.ref it) 0 >>= _) _ _ s
 refine CN (Do ho hd (x:=.ref t) rfl ?_)
 show wpAny _ _ (if(Value.ref t == Value.none)=true then _ else field (.ref it) 1 >>= _) _ _ s
 rw[if_neg (show ¬(Value.ref t == Value.none)=true from C3)]
 refine CN (Do ho hd (x:=.int i 0) rfl (CN (wpAny_seqItems hp hn ?_)))
 simp only[DF,hx]
 refine CN (Fi (CN (Eu ho hd (by simp) ?_)))
 show wpAny _ _ (newExc (.type "StopIteration") [] >>= _) _ _ _
 refine CN ?_
 simp only[newExc,newTuple]
 refine CN (Di (CN (m:=firstArgMember _ _) (wpAny_of_eq (a:=Value.none) (by first |rfl | (simp only[firstArgMember];rfl)) (Di ?_ (by size_fits)))) (by size_fits))
 simp only[raiseNew]
 refine CN (wpAny_handled ?_)
 rw[show A.in1.handled=none from hh]
 exact CN (CP (wpAny_throw (q _ _ (((EC ..).extBut.push _).push _) ⟨_,CT _ rfl,rfl⟩)))
theorem ul{b:Bool}{it t:Addr}{i:Nat}{vs:Array Value}{x:Value}{Q:Value->Shared->Prop}(st:RIt b s.heap it t i)(ht:RSq b s.heap t vs)(hx:vs[i]? = some x)
  (q:∀h',RIt b h' it t (i + 1)->Heap.SameBut it s.heap h'->Q x { s with heap:=h' }):wpAny (model prog w) A (Builtin.SmallTypes.nextOf (.ref it)) Q E s:=by
 cases b with
 |true=>exact wpAny_nextOf_list_item st ht hx q
 |false=>exact tV st ht hx q
theorem wF{b:Bool}{it t:Addr}{i:Nat}{vs:Array Value}{Q:Value->Shared->Prop}(hh:A.handled=none)(st:RIt b s.heap it t i)(ht:RSq b s.heap t vs)(hx:vs[i]? = none)
  (q:∀h' e,Heap.ExtBut it s.heap h'->(∃o,h'.get? e=some o/\o.cls=.type "StopIteration")->E (.ref e) { s with heap:=h' }):wpAny (model prog w) A (Builtin.SmallTypes.nextOf (.ref it)) Q E s:=by
 cases b with
 |true=>exact wpAny_nextOf_list_end hh st ht hx q
 |false=>exact wz hh st ht hx q
def i6(b:Bool)(a:Addr):Obj:=match b with
 |true=>{ cls:=.type "list_iterator",data:=.fields #[.ref a,.int 0 0] }
 |false=>{ cls:=.type "tuple_iterator",data:=.fields #[.ref a,.int 0 0] }
theorem wH{b:Bool}{a it:Addr}{h:Heap}(e:h.get? it=some (i6 b a)):RIt b h it a 0:=by
 cases b <;> exact⟨_,e,rfl,rfl⟩
theorem um{b:Bool}{a:Addr}{vs:Array Value}{Q:Value->Shared->Prop}(h:RSq b s.heap a vs)(q:Q (.ref s.heap.objs.size) { s with heap:=s.heap.push (i6 b a) }):wpAny (model prog w) A (pyIter (.ref a)) Q E s:=by
 cases b with
 |true=>exact Fj h q
 |false=>exact wpAny_pyIter_tuple h q
end
def SqB(K:PySem.W.Frag)(b:Bool)(H:Hp)(a:Addr)(xs:List V):Prop:=match b with
 |true=>SqL K H a xs
 |false=>SqT K H a xs
theorem Inv.sqB{X:Cx}{dl:List (Addr×Obj)}{σ:St}{H:Hp}{s:Shared}{b:Bool}{a:Addr}{xs:List V}(I:Inv X dl σ H s)(h:SqB X.K b H a xs):∃its:List Value,aM xs its/\RSq b s.heap a its.toArray:=by
 cases b with
 |true=>obtain⟨its,r,p,_⟩:=I.list h;exact⟨its,r,p.isList⟩
 |false=>obtain⟨its,r,p,_⟩:=I.tuple h;exact⟨its,r,p⟩
theorem Inv.sqB_inj{X:Cx}{dl:List (Addr×Obj)}{σ:St}{H:Hp}{s:Shared}{b:Bool}{a:Addr}{xs ys:List V}(I:Inv X dl σ H s)(h:SqB X.K b H a xs)(h':SqB X.K b H a ys):xs=ys:=by
 cases b with
 |true=>exact I.list_inj h h'
 |false=>exact I.tuple_inj h h'
theorem Inv.turnedN{X:Cx}{dl:List (Addr×Obj)}{σ:St}{H:Hp}{s:Shared}{h':Heap}{t':Nat}{fp:List Addr}(I:Inv X dl σ H s)(k:∀b o,b ∉ fp->s.heap.get? b=some o->h'.get? b=some o)(hf:∀b ∈ fp,f8 X dl H b):Inv X dl σ H { s with heap:=h',toks:=t' }:=by
 have nit:∀b u,H b=some u->b ∉ fp:=fun b u e z=>by rw[(hf b z).1]at e;cases e
 refine I.step (g':=s.gens) (d':=s.drawn) (ch:=fp) (fun b hb=>?_) (fun b o _ _ hc e _=>k b o hc e) (fun b o _ _ hc e _=>⟨o.slots,k b o hc e⟩) (fun _ _ _ _ n=>n)
  (fun b o hc e=>⟨o,k b o hc e⟩) (fun _ _ e=>e) (fun _ _ _ e=>e) (fun b ps e=>⟨#[],by rw[e];simp⟩) (fun m hm=>?_) (fun b u e=>?_) I.bare
 ·obtain⟨_,f1,_,f3,f4,f5⟩:=hf b hb
  exact⟨f3,f1,f4,f5⟩
 ·obtain⟨o,es,ep,ho,r⟩:=hm
  exact⟨o,es,ep,k _ o (fun z=>(hf _ z).2.1 rfl) ho,r⟩
 ·refine(I.hok b u e).stay (fun c v hc q=>k c v ?_ q) (fun _ q=>q) fun _ _ q=>q
  rcases hc with z |z
  ·rw[z];exact nit b u e
  ·exact nit c _ z
def sqI(K:PySem.W.Frag)(H:Hp)(p:Bool×Addr):Prop:=∃ys,SqB K p.1 H p.2 ys
theorem zl{b:Bool}{h:Heap}{a:Addr}{vs:Array Value}(x:RSq b h a vs):a < h.objs.size:=by
 cases b <;> exact let ⟨o,e,_⟩:=x;CS e
end L2
namespace L2.Cu
open PySem PySem.Spec PyProof.Rows
def RpB(F:Hp)(p:Bool×Addr)(ds:List D):Prop:=∃vs,F p.2=some (bif p.1 then .lst vs else .tup vs)/\Reps F vs ds
theorem RpB.sq{K:PySem.W.Frag}{F H:Hp}{p:Bool×Addr}{ds:List D}(h:RpB F p ds)(s:∀a o,F a=some o->H a=some o):∃vs,SqB K p.1 H p.2 vs/\Reps F vs ds:=by
 obtain⟨vs,e,r⟩:=h
 obtain⟨b,a⟩:=p
 cases b with
 |true=>exact⟨vs,SqL.of (s _ _ e),r⟩
 |false=>exact⟨vs,SqT.of (s _ _ e),r⟩
theorem RpB.mono{F F':Hp}{p:Bool×Addr}{ds:List D}(h:RpB F p ds)(y:Fr F F'):RpB F' p ds:=by
 obtain⟨vs,e,r⟩:=h
 exact⟨vs,y _ _ e,r.mono y⟩
theorem zm{F:Hp}{v:V}{d:D}{ds:List D}(r:Rep F v d)(h:iG d=some ds):∃b a,v=.ref a/\RpB F (b,a) ds:=by
 cases d with
 |lst xs=>cases h;cases r with |lst e rs=>exact⟨true,_,rfl,_,e,rs⟩
 |tup xs=>cases h;cases r with |tup e rs=>exact⟨false,_,rfl,_,e,rs⟩
 |_=>cases h
end L2.Cu
namespace L2
open PySem PySem.Spec PyProof.Rows
theorem lM{prog:Program}{w:World}{A:Around}(hh:A.handled=none)(b:Bool)(it a:Addr)(hne:a ≠ it)(vs:Array Value) :
  Draws prog w A it [it,a] vs.size (fun i v=>vs[i]? = some v) (fun i h=>RIt b h it a i/\RSq b h a vs) where
 live:=fun _ _ st=>let ⟨o,e,_⟩:=st.1.obj; ⟨o,e⟩
 frame:=fun _ _ _ st k=>⟨st.1.keep fun o e=>k it (by simp) o e,st.2.keep fun o e=>k a (by simp) o e⟩
 item:=fun i s Q E hi st q=>ul st.1 st.2 (x:=vs[i]) (E4 hi) fun h' st' sb=>q _ h' s.toks (E4 hi) ⟨st',st.2.keep fun o e=>sb.extBut _ _ hne e⟩ sb
 done:=fun s Q E st q=>wF hh st.1 st.2 (Array.getElem?_eq_none (CV _)) q
theorem Cq(b:Bool)(l:Addr)(xs:Array Value) :
  Meets (Builtin.«enumerate.__new__» ⟨[.type "enumerate",.ref l],[]⟩) (fun _ R s=>RSq b s.heap l xs /\
   R (.ok (.ret (.ref (s.heap.push (i6 b l)).objs.size))) { s with heap:=(s.heap.push (i6 b l)).push { cls:=.type "enumerate",data:=.fields #[.none,.bool false,.ref s.heap.objs.size,rawInt 0,.none,.none] } }) :=
 .of_wp fun prog w A R s h=>by
  obtain⟨hp,g,d,tk,os⟩:=s;obtain⟨hl,h⟩:=h
  have FW:=sub_enumerate
  have hL:RSq b (Shared.heap ⟨hp,g,d,tk,os⟩) l xs:=hl
  obtain⟨o,ho⟩:∃o,(Shared.heap ⟨hp,g,d,tk,os⟩).get? l=some o:=by
   cases b <;> exact let ⟨o,e,_⟩:=hL; ⟨o,e⟩
  wp_walk using DY ho
  refine wpAny_stack_any fun st=>CP ?_
  split
  ·rename_i c _ _ _ _ _
   cases(c == Value.type "enumerate")
   ·wp_walk using DY ho,um hL
    exact⟨_,rfl,h⟩
   ·wp_walk using DY ho,um hL
    exact⟨_,rfl,h⟩
  ·wp_walk using DY ho,um hL
   exact⟨_,rfl,h⟩
def Cw(b:Bool)(a m:Addr)(i:Nat)(h:Heap):Prop:=(∃old,IsEnum h (m + 1) m i old)/\RIt b h m a i
def Ite(K:PySem.W.Frag)(b:Bool)(a:Addr):It :=
  ⟨fun i H=>∃ys y,SqB K b H a ys/\ys[i]? = some y,
   fun i H x H'=>∃(T:Addr) (y:V),x=.ref T/\H T=none/\H'=upd H T (.tup [.int i,y])/\∀ys,SqB K b H a ys->ys[i]? = some y,
   fun i H=>∃ys,SqB K b H a ys/\ys.length=i⟩
theorem rQ{P:Program}{w:World}{K:PySem.W.Frag}{elts:List Expr}{x1}{pos:Pos}(b:Bool)(a m:Nat)(hlt:a < m) :
  kO P w K (.Tuple elts x1 pos) (Ite K b a) [m,m + 1] (m + 1) (fun i h=>Cw b a m i h) where
 mem:=by simp
 obj:=fun i h zz113_0 c hc=>by
  obtain⟨⟨old,st⟩,it⟩:=zz113_0
  have hc:c=m\/c=m + 1:=by simpa using hc
  rcases hc with z |z
  ·subst z
   obtain⟨o,e,vs,d⟩:=it.obj
   exact⟨o,e,fun v z=>by rw[d]at z;cases z⟩
  ·subst z;exact⟨_,st,fun v z=>by have z':Data.fields _=Data.cell v:=z;cases z'⟩
 keep:=fun i h h' ⟨⟨old,st⟩,it⟩ k=>⟨⟨old,k (m + 1) (by simp) _ st⟩,it.keep fun o e=>k m (by simp) o e⟩
 item:=by
  intro X hP hw hK hc i dl s σ H E I hf st hg
  subst hP hw hK
  obtain⟨⟨old,he⟩,hit⟩:=st
  obtain⟨ys,y,hq,hy⟩:=hg
  obtain⟨its,rv,p⟩:=I.sqB hq
  obtain⟨u,hu,ru⟩:=rv.get hy
  have hul:i < its.toArray.size:=by
   have:=(List.getElem?_eq_some_iff.mp hu).1
   simpa using this
  have hh:X.A.in1.handled=none:=I.ok.hd hc
  refine wpAny_pyNext_enum_itemD (lM hh b m a (C5 hlt) its.toArray) he ⟨hit,p⟩ hul (show(m + 1:Nat) ≠ m by lia) (fun z=>by have z:(m + 1:Nat)=m\/(m + 1:Nat)=a:=(by simpa using z);lia) fun x h' tk hP ho st' hT hsz kk=>?_
  have hxu:x=u:=by
   have e2:its.toArray[i]? = some u:=by simpa using hu
   rw[e2]at hP;cases hP;rfl
  subst hxu
  refine⟨_,rfl,wpAny_letOwnedTupleGo_enum (s:={ s with heap:=h',toks:=tk + 1 }) ho fun h2 he2 s2=>?_⟩
  have hT0:H s.heap.objs.size=none:=I.fresh
  have hml:m + 1 < s.heap.objs.size:=CS he
  have hf1:∀c ∈ [m,m + 1],f8 X dl (upd H s.heap.objs.size (.tup [.int i,y])) c:=fun c hcm=>by
   have hcc:c=m\/c=m + 1:=by simpa using hcm
   refine⟨?_,(hf c hcm).2⟩
   rw[af (by rcases hcc with z |z <;> (subst z;exact C5 (by lia)))]
   exact(hf c hcm).1
  have I1:Inv X dl σ (upd H s.heap.objs.size (.tup [.int i,y])) { s with heap:=s.heap.push { cls:=.type "tuple",data:=.seq #[.int i tk,x] },toks:=tk + 1 }:=I.laid (t':=tk + 1) (fun c v e=>CO _ e) (CV _)
   ⟨by show 2<=sizeLine;decide,[.int i tk,x],.cons ⟨tk,rfl⟩ (.cons ru .nil),⟨_,CT _ rfl,rfl,_,rfl⟩⟩
  have I2:Inv X dl σ (upd H s.heap.objs.size (.tup [.int i,y])) { s with heap:=h2,toks:=tk + 1 }:=I1.turnedN (t':=tk + 1) (h':=h2) (fun(c:Nat) o hcn e=>by
   have h1:¬(c=m\/c=m + 1):=by simpa using hcn
   refine s2.extBut _ _ (show(c:Nat) ≠ m + 1 by lia) ?_
   rcases FJ e with⟨e1,e2⟩ |e'
   ·subst e1 e2;exact hT
   ·exact kk c o (show(c:Nat) ≠ m + 1 by lia) (show(c:Nat) ≠ m by lia) e') hf1
  refine⟨.ref s.heap.objs.size,_,I2,rfl,⟨_,y,rfl,hT0,rfl,fun zs hz=>by rw[I.sqB_inj hz hq];exact hy⟩,⟨⟨_,by simpa using he2⟩,st'.1.keep fun o e=>s2.extBut _ _ (show(m:Nat) ≠ m + 1 by lia) e⟩,fun c hcm=>(hf1 c hcm).1⟩
 done:=by
  intro X hP hw hK hc i dl s σ H E I hf st hg
  subst hP hw hK
  obtain⟨⟨old,he⟩,hit⟩:=st
  obtain⟨ys,hq,hy⟩:=hg
  obtain⟨its,rv,p⟩:=I.sqB hq
  have hl:i=its.toArray.size:=by rw[<-hy,rv.length];simp
  have hh:X.A.in1.handled=none:=I.ok.hd hc
  subst hl
  exact wpAny_pyNext_enum_endD (lM hh b m a (C5 hlt) its.toArray) he ⟨hit,p⟩ fun h' kk=>⟨rfl,I.turnedN (t':=s.toks) (fun c o hcn e=>kk c o (fun z=>hcn (by simp[z])) e) hf⟩
 self:=fun A i s Q E zz115_0 h=>by obtain⟨⟨old,st⟩,_⟩:=zz115_0;exact wpAny_pyIter_enum st h
def BF(K:PySem.W.Frag)(ta:TA):TI:=fun σ H R=>ta σ H fun vs H1=>∃b a,vs=[.ref a]/\sqI K H1 (b,a)/\R (Ite K b a) H1
theorem w6{X:Cx}{elts:List Expr}{x1}{tp:Pos}{e:Expr}{ta:TA}{p pos:Pos}(hg:Gl X "enumerate")(hm:X.mg "enumerate" = none)(ha:PA X [e] ta)(hs:starEach [e] X.env=[(false,eval e X.env)]:=by rfl) :
  PI X (.Tuple elts x1 tp) (.Call (.Name "enumerate" p) [e] [] pos) (BF X.K ta):=by
 intro dl s σ H R I h
 refine Call_ (jW I hg hm boot_enumerate (EQ (thn (ha pos dl s σ H _ I h) fun us s1 zz116_0=>?_) hs rfl))
 obtain⟨vs,H1,I1,r1,q1⟩:=zz116_0
 obtain⟨b,a,rfl,⟨ys,hy⟩,q⟩:=q1
 obtain⟨u,rfl,ru⟩:=aM.one r1
 cases ru
 obtain⟨its,_,p1⟩:=I1.sqB hy
 refine callType_new F.called_enumerate (by decide) (F.typeCall_enumerate_1 _) (F.newCall_enumerate_1 _) (fun obj=>F.args_object_init_2 obj _) F.entry_enumerate_new (Cq b a its.toArray) ⟨p1,?_⟩
 have hz:(s1.heap.push (i6 b a)).objs.size=s1.heap.objs.size + 1:=EM ..
 have f1:(i6 b a).isFreed=false:=by cases b <;> rfl
 have he:IsEnum ((s1.heap.push (i6 b a)).push { cls:=.type "enumerate",data:=.fields #[.none,.bool false,.ref s1.heap.objs.size,rawInt 0,.none,.none] }) (s1.heap.objs.size + 1) s1.heap.objs.size 0 .none:=by
  rw[<-hz];exact CT _ rfl
 show _/\_
 rw[hz]
 refine⟨⟨_,he,rfl⟩,wpAny_pyIter_enum (s:={ s1 with heap:=(s1.heap.push (i6 b a)).push { cls:=.type "enumerate",data:=.fields #[.none,.bool false,.ref s1.heap.objs.size,rawInt 0,.none,.none] } }) he ?_⟩
 exact⟨_,[s1.heap.objs.size,s1.heap.objs.size + 1],_,_,H1,rfl,I1.kept (t':=s1.toks) fun c o e=>CO _ (CO _ e),rQ b a s1.heap.objs.size (zl p1),⟨⟨_,he⟩,wH (CO _ (CT _ f1))⟩,fun c hc=>by
  have hcc:c=s1.heap.objs.size\/c=s1.heap.objs.size + 1:=by simpa using hc
  have hle:s1.heap.objs.size<=c:=by rcases hcc with z |z <;> (subst z;lia)
  exact I1.fpOk hle (I1.hok.fresh hle),q⟩
end L2
namespace L2.Cu
open PySem PySem.Spec PyProof.Rows
def dY:List D->Int->List D
 | [],_=>[]
 |x :: r,i=>.tup [.int i,x] :: dY r (i + 1)
theorem lI:∀(xs:List D) (i:Int),(dY xs i).length=xs.length
 | [],_=>rfl
 |_ :: r,i=>by rw[dY,CG,lI r,CG]
theorem lJ:∀(xs:List D) (k:Int) (i:Nat),(dY xs k)[i]? = xs[i]?.map fun x=>.tup [.int (k + i),x]
 | [],_,_=>by simp[dY]
 |x :: r,k,0=>by simp[dY]
 |x :: r,k,i + 1=>by
  rw[dY,CB,CB,lJ r (k + 1) i]
  congr 1
  funext y
  have:k + 1 + (i:Int)=k + ((i + 1:Nat):Int):=by lia
  rw[this]
theorem Ap{K:PySem.W.Frag}{F:Hp}{p:Bool×Addr}{ds:List D}(h:RpB F p ds):mZ F (Ite K p.1 p.2) (dY ds 0):=by
 intro i F2 H2 y s
 obtain⟨vs,sq,rs⟩:=(h.mono y).sq (K:=K) s
 refine⟨fun hl=>⟨vs,sq,by rw[rs.length,<-hl,lI]⟩,fun d hd=>?_⟩
 rw[lJ]at hd
 obtain⟨x,hx,hd⟩:=bM hd
 cases hd
 obtain⟨v,hv,rv⟩:=rs.get hx
 refine⟨⟨vs,v,sq,hv⟩,fun z H' yl=>?_⟩
 obtain⟨T,w,rfl,hT,rfl,hw⟩:=yl
 have e:=hw vs sq
 rw[hv]at e
 cases e
 have X:=Ext.freeze (o:=.tup [.int i,v]) s hT
 refine⟨upd F2 T (.tup [.int i,v]),X,Rep.tup aj (.cons ?_ (.cons (rv.mono X.fr) .nil))⟩
 rw[Int.zero_add];exact .int _
def vX(ds:List D):Option (List D):=match ds with
 | [a]=>(iG a).map fun xs=>dY xs 0
 |_=>none
theorem p7{ds xs:List D}(h:vX ds=some xs):∃a,ds=[a]:=by
 unfold vX at h
 split at h
 ·exact⟨_,rfl⟩
 ·cases h
def gJ(f:DE->Option (List D))(E:DE):Option (List D):=(f E).bind vX
theorem rn{X:Cx}{pos:Pos}{elts:List Expr}{x1}{tp:Pos}{a:Expr}{f:DE->Option (List D)}{p:Pos}(hg:Gl X "enumerate")(hm:X.mg "enumerate" = none)(ha:Ea X [a] f)(hs:aD a=true:=by rfl):Ei X (.Tuple elts x1 tp) (.Call (.Name "enumerate" p) [a] [] pos) (gJ f) :=
 PI.by (w6 hg hm ha.h (aC a [] X.env hs)) fun σ H R zz117_0=>by
  obtain⟨B,F,E,xs,k,q,w⟩:=zz117_0
  unfold gJ at q
  cases hf:f E with
  |none=>simp[hf]at q
  |some ds =>
   rw[hf]at q
   refine⟨B,F,E,ds,k,hf,fun vs F' H' x r=>?_⟩
   obtain⟨d1,rfl⟩:=p7 q
   obtain⟨v1,ws,rfl,r1,r⟩:=r.c1
   obtain rfl:=r.c0
   ·have q':(iG d1).map (fun xs=>dY xs 0)=some xs:=q
    cases h1:iG d1 with
    |none=>rw[h1]at q';cases q'
    |some s1 =>
     rw[h1]at q'
     cases q'
     obtain⟨b1,l1,rfl,p1⟩:=zm r1 h1
     refine⟨b1,l1,rfl,?_,w _ F' H' x (Ap (p:=(b1,l1)) p1)⟩
     obtain⟨vs,sq,_⟩:=p1.sq (K:=X.K) x.sub
     exact⟨vs,sq⟩
def mk(l:List Nat):Str:=⟨l.toArray⟩
theorem cg(l:List Nat):(mk l).cps.toList=l:=by simp[mk]
theorem BA(x:Str):mk x.cps.toList=x:=by cases x;simp[mk]
theorem dP(l:List Nat):(mk l).length=l.length:=by rw[e9,cg]
theorem z9(a b:List Nat):mk a ++ mk b=mk (a ++ b):=ji (by rw[l3,cg,cg,cg])
theorem z8{a b:List Nat}:mk a=mk b ↔ a=b:=⟨fun h=>by rw[<-cg a,h,cg],fun h=>by rw[h]⟩
theorem clip_eq(v:Option Int)(n d:Nat)(hd:d<=n):(match v with |none=>(d:Int) |some i=>max (0:Int) (min (if i < 0 then i + (n:Int) else i) (n:Int)):Int)=((HT.sIx n d v:Nat):Int):=by
 cases v with
 |none=>rfl
 |some i =>
  show max 0 (min (if i < 0 then i + (n:Int) else i) n)=((if i < 0 then(i + (n:Int)).toNat else min i.toNat n:Nat):Int)
  by_cases h:i < 0
  ·rw[if_pos h,if_pos h,Int.min_eq_left (Int.add_le_of_le_sub_right (by rw[Int.sub_self];exact Int.le_of_lt h)),Int.ofNat_toNat,Int.max_comm]
  ·have h0:=Int.not_lt.mp h
   rw[if_neg h,if_neg h,Int.max_eq_right (Int.le_min.mpr ⟨h0,Int.natCast_nonneg n⟩)];lia
theorem sIx_le(v:Option Int)(n d:Nat)(hd:d<=n):HT.sIx n d v<=n:=by
 cases v with
 |none=>exact hd
 |some i =>
  show(if i < 0 then(i + (n:Int)).toNat else min i.toNat n)<=n
  split <;> lia
theorem pV(lo hi:Option Int)(n:Nat):Builtin.Str.strSliceIndices lo hi 1 n=(List.range (HT.sIx n n hi - HT.sIx n 0 lo)).map fun k=>HT.sIx n 0 lo + k:=by
 have e1:=clip_eq lo n 0 (DV _)
 have e2:=clip_eq hi n n (CV _)
 have e:Builtin.Str.strSliceIndices lo hi 1 n=sliceRange (HT.sIx n 0 lo:Nat) (HT.sIx n n hi:Nat) 1:=by
  rw[<-e1,<-e2]
  unfold Builtin.Str.strSliceIndices
  cases lo <;> cases hi <;> rfl
 rw[e]
 unfold sliceRange
 rw[if_pos (by decide)]
 dsimp only
 have ec:(if((HT.sIx n 0 lo:Nat):Int) < ((HT.sIx n n hi:Nat):Int) then(((HT.sIx n n hi:Nat):Int) - ((HT.sIx n 0 lo:Nat):Int) + 1 - 1) / 1 else 0).toNat=HT.sIx n n hi - HT.sIx n 0 lo:=by
  split <;> lia
 rw[ec]
 refine Fw fun k _=>?_
 lia
theorem fR{α:Type}(l:List α)(a m:Nat):((List.range m).map (fun k=>a + k)).filterMap (fun i=>l[i]?)=(l.drop a).take m:=by
 induction m with
 |zero=>simp
 |succ m ih =>
  rw[List.range_succ,Dk,List.filterMap_append,ih,List.take_add_one]
  congr 1
  rw[List.getElem?_drop]
  show List.filterMap (fun i=>l[i]?) [a + m]=_
  cases h:l[a + m]? with
  |none=>simp[h]
  |some x=>simp[h]
theorem ud(l:List Nat)(lo hi:Option Int):Txt.slice (mk l) lo hi=mk (cT l lo hi):=by
 unfold Txt.slice
 rw[pV,dP]
 have hf:(((List.range (HT.sIx l.length l.length hi - HT.sIx l.length 0 lo)).map fun k=>HT.sIx l.length 0 lo + k).filterMap fun i=>(mk l).cps[i]?)=cT l lo hi:=by
  have e:(fun i:Nat=>(mk l).cps[i]?)=fun i=>l[i]?:=by
   funext i
   rw[<-D6,cg]
  rw[e,fR];rfl
 split
 ·rename_i hc
  have Cl:HT.sIx l.length l.length hi - HT.sIx l.length 0 lo=l.length:=by
   simpa using hc
  have h1:=sIx_le hi l.length l.length (CV _)
  have:cT l lo hi=l:=by
   unfold cT
   rcases Nat.eq_zero_or_pos l.length with h0 |h0
   ·rw[List.length_eq_zero_iff.mp h0];simp
   ·have h2:HT.sIx l.length 0 lo=0:=by lia
    rw[Cl,h2];simp
  rw[this]
 ·show mk _=_
  rw[hf]
theorem zn(l:List Nat)(n:Int):jG (mk l) n=mk (List.replicate n.toNat l).flatten:=by unfold jG;rw[cg];rfl
theorem qb{α:Type}(l:List α)(k:Nat):cT l none (some (k:Int))=l.take k:=by
 unfold cT
 rw[HT.sIx_none,HT.sIx_nat]
 simp
theorem rC{α:Type}(l:List α)(a b:Nat):cT l (some (a:Int)) (some (b:Int))=(l.take b).drop a:=by
 unfold cT
 rw[HT.sIx_nat,HT.sIx_nat,List.drop_take]
 rcases Nat.le_total a l.length with h |h
 ·rw[Nat.min_eq_left h]
  rcases Nat.le_total b l.length with h2 |h2
  ·rw[Nat.min_eq_left h2]
  ·rw[Nat.min_eq_right h2,List.take_of_length_le (by simp),List.take_of_length_le (by simp;lia)]
 ·rw[Nat.min_eq_right h];simp[List.drop_eq_nil_of_le h]
theorem jn{xs:List D}{i:Int}:ixE (.lst xs) (.int i)=atI xs i:=rfl
theorem jm{xs:List D}{i:Int}:ixE (.tup xs) (.int i)=atI xs i:=rfl
theorem mv{xs:List Int}{i:Int}:ixE (.scr xs) (.int i)=(atI xs i).map D.int:=rfl
theorem Ai{l:List Nat}{i:Int}(hz:l.length<=16777216)(h:0<=i)(h2:i < l.length):ixE (.str (mk l)) (.int i)=some (.str (mk [l.getD i.toNat 0])):=by
 have e:=xM (z:=mk l) (i:=i) (by rw[dP];exact hz) h (by rw[dP];exact h2)
 rw[cg]at e
 exact e
theorem fM{xs:List D}:bK (.lst xs)=some (.int xs.length):=rfl
theorem fL{xs:List D}:bK (.tup xs)=some (.int xs.length):=rfl
theorem jV{xs:List Int}:bK (.scr xs)=some (.int xs.length):=rfl
theorem n9{xs:List (Key×D)}:bK (.dic xs)=some (.int xs.length):=rfl
theorem xG{l:List Nat}(h:l.length<=16777216):bK (.str (mk l))=some (.int l.length):=by
 have e:=vh (x:=mk l) (by rw[dP];exact h)
 rw[dP]at e
 exact e
theorem u9{i j:Int}(h:Builtin.Int.intBits i<=2 ^ 20)(h2:Builtin.Int.intBits j<=2 ^ 20):sB (.int i) (.int j)=some (.int (i * j)):=sA h h2
theorem xA{l:List Nat}{n:Int}(h0:0<=n)(h1:n < 1048576)(h2:l.length * n.toNat<=16777216):sB (.str (mk l)) (.int n)=some (.str (mk (List.replicate n.toNat l).flatten)):=by
 show(if 0<=n/\n < 2 ^ 20/\(mk l).length * n.toNat<=sizeLine then some (D.str (jG (mk l) n)) else none)=_
 rw[if_pos ⟨h0,h1,by rw[dP];exact h2⟩,zn]
theorem mY{a b:List Nat}(h:a.length + b.length<=16777216):cz (.str (mk a)) (.str (mk b))=some (.str (mk (a ++ b))):=by
 rw[wo (by rw[dP,dP];exact h),z9]
theorem ue{l:List Nat}{lo hi:Option Int}(h:l.length<=16777216):slD (.str (mk l)) lo hi=some (.str (mk (cT l lo hi))):=by
 rw[wE (by rw[dP];exact h),ud]
theorem dH{α:Type}(enc:α->D)(f:α->D){i:Nat}{ef:DE->Option D}{E:DE}(ys:List α)(h:∀x ∈ ys,ef (E.set i (.val (enc x)))=some (f x)):bD (nmG i) noT ef E (ys.map enc)=some (ys.map f) :=
 gw enc f ys fun x hx=>⟨rfl,h x hx⟩
theorem lC(ss:List Str):(ss.map D.str).all cK=true:=by
 rw[Dj]
 intro d hd
 obtain⟨x,_,rfl⟩:=List.mem_map.mp hd
 rfl
theorem yb(a b:Str):eqV (.str a) (.str b)=decide (a=b):=by
 show decide _=_
 by_cases h:a=b
 ·simp[h]
 ·simp[h]
theorem oB(x:Str)(ss:List Str):inV (.str x) ((ss.map D.str).map toV)=decide (x ∈ ss):=by
 unfold inV
 induction ss with
 |nil=>rfl
 |cons y r ih =>
  rw[CI,CI,Ez,ih]
  show(eqV (.str y) (.str x) || decide (x ∈ r))=_
  rw[yb]
  by_cases h:x=y
  ·simp[h]
  ·have h':¬y=x:=fun z=>h z.symm
   simp[h,h']
theorem mw{x:Str}{ss:List Str}:inE (.str x) (.lst (ss.map D.str))=some (.bl (decide (x ∈ ss))):=by
 show(inD (.str x) (.lst (ss.map D.str))).map D.bl=_
 show((if cK (.str x) && (ss.map D.str).all cK then some (inV (toV (.str x)) ((ss.map D.str).map toV)) else none):Option Bool).map D.bl=_
 rw[lC]
 show some (D.bl (inV (.str x) ((ss.map D.str).map toV)))=_
 rw[oB]
theorem nP{x:Str}{ss:List Str}:jP (.str x) (.lst (ss.map D.str))=some (.bl (!decide (x ∈ ss))):=by
 show(inD (.str x) (.lst (ss.map D.str))).map (fun b=>D.bl (!b))=_
 show((if cK (.str x) && (ss.map D.str).all cK then some (inV (toV (.str x)) ((ss.map D.str).map toV)) else none):Option Bool).map (fun b=>D.bl (!b))=_
 rw[lC]
 show some (D.bl (!inV (.str x) ((ss.map D.str).map toV)))=_
 rw[oB]
theorem u7{x:Str}{ss:List Str}:jP (.str x) (.tup (ss.map D.str))=some (.bl (!decide (x ∈ ss))):=nP
theorem iz{ss:List Str}(h:ss.length < 64):cJ (.lst (ss.map D.str))=some (.lst ((aZ ss).map D.str)):=by
 show(eG (ss.map D.str)).bind _=_
 rw[iy]
 exact if_pos h
theorem eX{xs:List D}:bt (.lst xs)=some (.tup xs):=rfl
theorem jz{xs:List D}:bt (.tup xs)=some (.tup xs):=rfl
theorem lv{xs:List D}:yN (.lst xs)=some (.lst xs):=rfl
theorem lu{xs:List D}:yN (.tup xs)=some (.lst xs):=rfl
theorem dL{α:Type}(f:α->D):∀xs:List α,toPs (xs.map f)=xs.map fun x=>toP (f x)
 | []=>by rw[CJ,toPs];rfl
 |x :: xs=>by rw[CI,toPs,dL f xs];rfl
theorem kg{α:Type}[DecidableEq α](f:α->PyData)(h:∀a b,PyData.eqv (f a) (f b)=decide (a=b)):∀xs ys:List α,PyData.eqvAll (xs.map f) (ys.map f)=decide (xs=ys)
 | [],[]=>by simp[PyData.eqvAll]
 | [],_ :: _=>by simp[PyData.eqvAll]
 |_ :: _,[]=>by simp[PyData.eqvAll]
 |x :: xs,y :: ys=>by
  rw[CI,CI,PyData.eqvAll,h,kg f h xs ys]
  by_cases e:x=y
  ·by_cases e2:xs=ys
   ·simp[e,e2]
   ·simp[e2]
  ·simp[e]
theorem gW{α:Type}(f:α->PyData):∀xs:List α,(∀x ∈ xs,(f x).canLay0=true)->PyData.canLayAll0 (xs.map f)=true
 | [],_=>by simp[PyData.canLayAll0]
 |x :: xs,h=>by
  rw[CI,PyData.canLayAll0,h x C1,gW f xs fun y hy=>h y (CY _ hy)];rfl
theorem fA{α:Type}(f:α->PyData)(n:Nat):∀xs:List α,(∀x ∈ xs,(f x).depth<=n)->PyData.depthAll (xs.map f)<=n
 | [],_=>by rw[CJ,PyData.depthAll];exact DV _
 |x :: xs,h=>by
  rw[CI,PyData.depthAll]
  exact Nat.max_le.mpr ⟨h x C1,fA f n xs fun y hy=>h y (CY _ hy)⟩
structure fB (n:Nat) (d:D):Prop where
 lay:(toP d).canLay0=true
 dep:(toP d).depth<=n
theorem fB.le{n m:Nat}{d:D}(h:fB n d)(hm:n<=m):fB m d:=⟨h.lay,CZ h.dep hm⟩
theorem fB.ok{n:Nat}{d:D}(h:fB n d)(hn:n<=60):bB d=true:=by
 unfold bB
 rw[h.lay,Df (CZ h.dep hn)];rfl
theorem fQ{x:Str}(h:∀c ∈ x.cps.toList,c<=122):fB 0 (.str x):=by
 refine⟨?_,by rw[toP,PyData.depth];exact CV _⟩
 rw[toP,PyData.canLay0]
 unfold PyData.strOk
 rw[<-Array.all_toList,Dj]
 intro c hc
 exact Df (Dy (h c hc) (by decide))
theorem vJ(i:Int):fB 0 (.int i):=⟨by rw[toP,PyData.canLay0],by rw[toP,PyData.depth];exact CV _⟩
theorem mC(i:Bool):fB 0 (.bl i):=⟨by rw[toP,PyData.canLay0],by rw[toP,PyData.depth];exact CV _⟩
theorem dS{α:Type}{n:Nat}(f:α->D)(xs:List α)(h:∀x ∈ xs,fB n (f x)):fB (n + 1) (.lst (xs.map f)):=by
 constructor
 ·rw[toP,PyData.canLay0,dL];exact gW _ xs fun x hx=>(h x hx).lay
 ·rw[toP,PyData.depth,dL];exact Nat.succ_le_succ (fA _ n xs fun x hx=>(h x hx).dep)
theorem vI{α:Type}{n:Nat}(f:α->D)(xs:List α)(h:∀x ∈ xs,fB n (f x)):fB (n + 1) (.tup (xs.map f)):=by
 constructor
 ·rw[toP,PyData.canLay0,dL];exact gW _ xs fun x hx=>(h x hx).lay
 ·rw[toP,PyData.depth,dL];exact Nat.succ_le_succ (fA _ n xs fun x hx=>(h x hx).dep)
theorem sU{n:Nat}(xs:List D)(h:∀x ∈ xs,fB n x):fB (n + 1) (.tup xs):=by
 have:=vI (fun d:D=>d) xs h
 rwa [List.map_id']at this
def oN(x y:D):Bool:=PyData.eqv (toP x) (toP y)
theorem kf(a b:Str):oN (.str a) (.str b)=decide (a=b):=by
 unfold oN
 rw[toP,toP,PyData.eqv]
 by_cases h:a=b
 ·simp[h]
 ·simp[h]
theorem oM{α:Type}[DecidableEq α](f:α->D)(h:∀a b,oN (f a) (f b)=decide (a=b))(xs ys:List α):oN (.lst (xs.map f)) (.lst (ys.map f))=decide (xs=ys):=by
 unfold oN
 rw[toP,toP,PyData.eqv,dL,dL]
 exact kg _ h xs ys
theorem oO{n:Nat}{x y:D}(hx:fB n x)(hy:fB n y)(hn:n<=60)(hs:scD x y=none):eqO x y=some (.bl (oN x y)):=by
 unfold eqO eqD
 rw[hs,hx.ok hn,hy.ok hn];rfl
theorem nQ{n:Nat}{x y:D}(hx:fB n x)(hy:fB n y)(hn:n<=60)(hs:scD x y=none):neO x y=some (.bl (!oN x y)):=by
 unfold neO eqD
 rw[hs,hx.ok hn,hy.ok hn];rfl
def jh(x:Str):Prop:=∀c ∈ x.cps.toList,c<=122
theorem vV{ss ts:List Str}(hs:∀x ∈ ss,jh x)(ht:∀x ∈ ts,jh x):eqO (.lst (ss.map D.str)) (.lst (ts.map D.str))=some (.bl (decide (ss=ts))):=by
 rw[oO (n:=1) (dS _ _ fun x hx=>fQ (hs x hx)) (dS _ _ fun x hx=>fQ (ht x hx)) (by decide) rfl,oM _ kf]
theorem ti{ss:List Str}(hs:∀x ∈ ss,jh x):eqO (.lst (ss.map D.str)) (.lst [])=some (.bl (decide (ss=[]))):=vV hs (ts:=[]) fun _ h=>by cases h
open PySem PySem.W PySem.Calls PyProof.Rows PySem.Spec Att
theorem AH(P:Params):((boot_heap P).isNs mainGlobals,(boot_heap P).objs.size,(boot_heap P).nsMap mainGlobals "__annotations__")=(true,11,some (.ref 6)):=by kernel_rfl
theorem xH{p q:Program}{loose:List Str}{Xt:Shared->Bool}{α:Type}{Yf:Shared->α}{a:α}{N:Nat}(e:opening p=plainProg p.main.scope.names)(hN:Nat.ble 600 N=true)(f:∀s,fenceModules? p s=some s)
  (h:qi p q loose Xt Yf a N):LeftO p q loose Xt Yf (fun _=>a) N:=fun w=>by
 obtain⟨⟨hp,gs,d,k,os⟩,e1,e2⟩:=Option.map_eq_some_iff.mp (boot_open e hN f w)
 obtain⟨rfl,rfl,rfl,rfl⟩:hp=boot_heap w.params/\gs=Array.mk []/\d=boot_drawn/\k=boot_toks:=by simpa using e2
 obtain⟨s,r1,r2⟩:=Option.map_eq_some_iff.mp (h w os)
 rw[<-PySem.W.Fast.te14082659384304107361,<-PySem.W.Fast.te14364793385576792824]at r1
 rw[<-PySem.W.Fast.te4187177175401517315]at r2
 obtain⟨b1,b2⟩:=Dh (AH w.params)
 obtain⟨b2,b3⟩:=Dh b2
 obtain⟨c1,c2⟩:=Dh r2
 have t:topFrom treeTable p w N ⟨boot_heap w.params,Array.mk [],boot_drawn,boot_toks,os⟩=some s:=by
  unfold topFrom
  dsimp only
  rw[b1,b2,b3,r1]
  show(match staticsOk (importedModules p.main.body) (boot_heap w.params) s.heap && namesBound p s.heap && gensDone s && laidKept (boot_heap w.params) s.heap with |true=>some s |false=>none)=_
  rw[c1]
 unfold openEnds
 rw[e1]
 show(topFrom treeTable p w N _).map _=_
 rw[t]
 exact DK some c2
theorem ve{K:Frag}{a:Addr}{o:Obj}:K.lookup a=some o->(a,o) ∈ K:=by
 induction K with
 |nil=>intro e;cases e
 |cons p r ih =>
  intro e
  obtain⟨b,x⟩:=p
  rw[Dd]at e
  cases hb:a == b with
  |true=>rw[hb]at e;cases e;rw[beq_iff_eq.mp hb];exact .head _
  |false=>rw[hb]at e;exact .tail _ (ih e)
theorem vc{h:Heap}{a:Addr}{o:Obj}(m:(a,o) ∈ KH h):h.get? a=some o/\o.cls ≠ Value.type "list" := by
 obtain⟨b,_,e⟩:=List.mem_filterMap.mp m
 cases hb:h.get? b with
 |none=>rw[hb]at e;cases e
 |some x =>
  rw[hb]at e
  dsimp only at e
  by_cases hc:(x.cls == Value.type "list")=true
  ·rw[if_pos hc]at e;cases e
  ·rw[if_neg hc]at e;cases e;exact⟨hb,fun q=>hc (beq_iff_eq.mpr q)⟩
theorem BY(h:Heap):(KH h).In h:=fun _ _ e=>(vc (ve e)).1
theorem tF(h:Heap):mi (KH h)=true:=List.all_eq_true.mpr fun p m=>by
 have:=(vc (a:=p.1) (o:=p.2) m).2
 simpa using this
theorem yQ{K:Frag}{x qual:Str}{st:Stmt}{f:Addr}(e:xT K qual f=vH x qual st):∃fd,Fun K x qual st f fd:=by
 unfold xT at e
 split at e
 ·rename_i oc od fd sl hl
  obtain⟨e1,e2⟩:=Dh (CU e)
  obtain⟨e2,e3⟩:=Dh e2
  refine⟨fd,⟨oc,od,fd.kwdefaults,fd.doc,fd.pyModule,fd.annotations,fd.code,fd.closureTuple,sl,?_,hl,e2⟩,e3⟩
  cases fd
  simp only[yW,FuncData.mk.injEq,true_and]at e1 ⊢
  exact e1
 ·cases e
structure TT (p:Program) (ds:List Nat) (zs:List Str) (cs:List (Str×Int)) {β:Type} (mo:Frag->β) (mb:β) (K:Frag) (mg:Str->Option Value) where
 f:Nat->Addr
 fd:Nat->FuncData
 F:∀i,i ∈ ds->Fun K (b5 (cI p i)) (b5 (cI p i)) (cI p i) (f i) (fd i)
 m:∀i,i ∈ ds->mg (b5 (cI p i))=some (.ref (f i))
 z:∀x,x ∈ zs->mg x=none
 t:Str->Tok
 c:∀y,y ∈ cs->mg y.1=some (.int y.2 (t y.1))
 o:mo K=mb
 g:∀(x:Str) (v:Value),nsIn K mainGlobals x=some (some v)->mg x=some v
theorem AR{p:Program}{ds:List Nat}{zs:List Str}{cs:List (Str×Int)}{β:Type}{mo:Frag->β}{mb:β}{K:Frag}{h:Heap}{mg:Str->Option Value}(X:K.In h)(G:h.Ns mainGlobals mg)(e:ib p ds zs cs mo K=oQ p ds zs cs mb):Nonempty (TT p ds zs cs mo mb K mg):=by
 obtain⟨e1,e⟩:=Dh e
 obtain⟨e2,e⟩:=Dh e
 obtain⟨e3,e4⟩:=Dh e
 have A:∀i,∃f fd,i ∈ ds->Fun K (b5 (cI p i)) (b5 (cI p i)) (cI p i) f fd/\mg (b5 (cI p i))=some (.ref f):=fun i=>by
  by_cases hi:i ∈ ds
  ·have q:=List.map_inj_left.mp e1 i hi
   unfold vG at q
   split at q
   ·rename_i f hf
    obtain⟨fd,r⟩:=yQ q
    exact⟨f,fd,fun _=>⟨r,mg_of X G hf⟩⟩
   ·cases q
  ·exact⟨0,default,fun q=>absurd q hi⟩
 have B:∀x,∃t,∀n,(x,n) ∈ cs->mg x=some (.int n t):=fun x=>by
  by_cases hx:∃n,(x,n) ∈ cs
  ·obtain⟨n,hn⟩:=hx
   have q:=List.map_inj_left.mp e3 _ hn
   dsimp only at q
   have u:∃n' t,nsIn K mainGlobals x=some (some (.int n' t)):=by
    unfold AS at q
    split at q
    ·rename_i n' t hh;exact⟨n',t,hh⟩
    ·rename_i hh;exact absurd q (hh n 0)
   obtain⟨n',t,hh⟩:=u
   refine⟨t,fun n₂ h₂=>?_⟩
   have q₂:=List.map_inj_left.mp e3 _ h₂
   dsimp only at q₂
   rw[hh]at q₂
   have z:=CU (CU q₂)
   injection z with z
   subst z
   exact mg_of X G hh
  ·exact⟨0,fun n hn=>absurd ⟨n,hn⟩ hx⟩
 exact⟨⟨fun i=>(A i).choose,fun i=>(A i).choose_spec.choose,fun i hi=>((A i).choose_spec.choose_spec hi).1,fun i hi=>((A i).choose_spec.choose_spec hi).2,
  fun x hx=>mg_none_of X G (List.map_inj_left.mp e2 x hx),fun x=>(B x).choose,fun y hy=>(B y.1).choose_spec y.2 hy,e4,fun x v q=>mg_of X G q⟩⟩
theorem AN{l:OpenLaw}{n k:Nat}{q:Program}{loose:List Str}{XP:(Str->Option Value)->Heap->Prop}{YP:World->Heap->Prop}{d:DefRec}{x:Str}{g:List D->Option D}
  (hn:l.most=some n) (hn2:n<=sizeLine) (hdf:d.params.defaults=[]) (hr:ca k callerA)
  (F:∀(w:World) (mg:Str->Option Value) (fa:Addr) (h:Heap),YP w h->h.Ns mainGlobals mg->mg d.name=some (.ref fa)->∃K:Frag,K.In h/\mi K=true /\
   ∃fd:FuncData,(∀(s:Shared) (u:Value),BindsTo s fd ⟨[u],[]⟩ [(x,u)])/\∀base:Heap,K.In base->base.Ns mainGlobals mg->a9 l.prog w K mg base CX0 k fa fd [x] (spD 1 g))
  (law:∀ns:List Int,ns.length<=n->(∀i ∈ ns,Builtin.Int.intBits i<=2 ^ 20)->g [.scr ns]=some (.bl true)):WalkO q loose XP YP l.row.toRowW d [] (fun f vs=>PySem.call f vs):=by
 intro w s₀ s₁ mg mb G Y fa o pm cd doc dV kV ho hd hcd hD hmg hg args vals as Gk G5 hrd hwl hlo
 obtain rfl:dV=.none:=Dflts.none hD hdf
 obtain rfl:kV=.none:=Dflts.noKw hD
 obtain⟨a,vs,ns,rfl,rfl,F0,GN,Cl⟩:=rS hn Gk hwl
 obtain⟨K,KX,hK,fd,hb,hF⟩:=F w mg fa _ Y G.T.g hmg
 have run:=vn (CX:=CX0) (sp:=spD 1 g) KX G.T.g G.T.b G.T.builtins G.T.nolimit hg F0 GN (CZ Cl hn2) hr hF hb
  (fun H hO hS=>Aa (fun o ho=>nN hK ho) hS hO (law ns Cl (yo G5))) fun _ _ _ z=>z
 refine enter_call (EO run fun r s' hq=>?_)
 obtain⟨rfl,h2,h3,h4⟩:=hq
 exact⟨.inl ⟨.bool true,.bool true,[],rfl,fun _=>rfl,.bool true,r8 l _,fun _=>⟨List.Pairwise.nil,fun _ hm=>(nomatch hm)⟩⟩,h2,h3,h4⟩
theorem Bt{l:OpenLaw}{n k i N:Nat}{x:Str}{g:List D->Option D}{ds:List Nat}{zs:List Str}{cs:List (Str×Int)}{β:Type}{mo:Frag->β}{mb:β}{d:DefRec}
  (run:qi l.prog (view l.prog [i]) (gO l.prog) (fun s=>xlAt (view l.prog [i]) [] s && recOk [] s) (fun s=>ib l.prog ds zs cs mo (KH s.heap)) (oQ l.prog ds zs cs mb) N)
  (said:PySem.W.Fast.tw9446332074065402090 l=true) (e:opening l.prog=plainProg l.prog.main.scope.names) (hN:Nat.ble 600 N=true) (f:∀s,fenceModules? l.prog s=some s)
  (GW:defOf (view l.prog [i]) l.name=some (d,[])) (hp:l.prog.theDef l.name=some (d.params,d.body,d.scope)) (hk:kwWritten? d.params.kwonlyargs d.params.kw_defaults=some [])
  (ok:(chainsOk (view l.prog [i]) && opensWell l.prog && (frees l.row.toRowW && l.row.within.isEmpty))=true) (hb:l.prog.bare) (hw:l.row.toRowW.promised)
  (hn:l.most=some n) (hn2:n<=sizeLine) (hdf:d.params.defaults=[]) (hr:ca k callerA) (hnm:d.name=b5 (cI l.prog i)) (hi:i ∈ ds)
  (F:∀{w:World}{K:Frag}{mg:Str->Option Value} (T:TT l.prog ds zs cs mo mb K mg) (base:Heap),K.In base->base.Ns mainGlobals mg->a9 l.prog w K mg base CX0 k (T.f i) (T.fd i) [x] (spD 1 g))
  (B:∀(kV doc pm:Value) (an:Option Addr) (cdv ct:Value) (u:Value),bindArgs (fnOf (b5 (cI l.prog i)) (b5 (cI l.prog i)) (il (cI l.prog i)) (cG (cI l.prog i)) (ao (cI l.prog i)) .none kV doc pm an cdv ct) ⟨[u],[]⟩=pure [(x,u)])
  (law:∀ns:List Int,ns.length<=n->(∀i ∈ ns,Builtin.Int.intBits i<=2 ^ 20)->g [.scr ns]=some (.bl true)):l.Holds:=by
 have sd:l.wellSaid=true:=by rw[PySem.W.Fast.te9446332074065402090];exact said
 refine holds_law sd fun k1=>holds_open (q:=view l.prog [i]) (loose:=gO l.prog) (Xt:=fun s=>xlAt (view l.prog [i]) [] s && recOk [] s) (XP:=XL (view l.prog [i]) []) (Yf:=fun s=>ib l.prog ds zs cs mo (KH s.heap)) (Ya:=fun _=>oQ l.prog ds zs cs mb)
  (YP:=fun _ h=>∃K:Frag,K.In h/\mi K=true/\ib l.prog ds zs cs mo K=oQ l.prog ds zs cs mb) (N:=N) (d:=d) (kwd:=[])
  (xH e hN f run) (fun w s y=>⟨KH s.heap,BY _,tF _,y⟩) (fun w h h' y kp=>?_) (fun s q=>xl_of s (Bool.and_eq_true_iff.mp q).1) XL.keeps GW hp hk (fun s q=>recFacts_of (Bool.and_eq_true_iff.mp q).2) (EJ _) k1 ok hb hw ?_
 ·obtain⟨K,a,b,c⟩:=y
  exact⟨K,a.keeps kp,b,c⟩
 ·refine AN (x:=x) hn hn2 hdf hr (fun w mg fa h Y G hm=>?_) law
  obtain⟨K,a,b,c⟩:=Y
  obtain⟨T⟩:=AR (mg:=mg) a G c
  refine⟨K,a,b,T.fd i,?_,?_⟩
  ·obtain⟨oc,od,kV,doc,pm,an,cdv,ct,osl,q,_⟩:=(T.F i hi).ex
   rw[q]
   exact fun s u=>.of_eq (B kV doc pm an cdv ct u)
  ·have:=hm.symm.trans (hnm ▸ T.m i hi)
   cases this
   exact fun base kb nb=>F T base kb nb
def fsV:FS->Option D
 |.v d=>some d
 |.l _=>none
theorem eU.len{F H:Hp}{vs:List (Str×V)}{xs:List (Str×FS)}{ps:List Addr}(r:eU F H vs xs ps):vs.length=xs.length:=by
 induction r with
 |nil=>rfl
 |val _ _ ih=>exact DK Nat.succ ih
 |own _ _ _ ih=>exact DK Nat.succ ih
def BV(E:DE):Prop:=∀(i:Nat) z,E[i]? = some z->(∃d,z=.val d)\/z=.no
theorem Ok.base{B B':Hp×Hp}{F H:Hp}{σ:St}{E:DE}(k:Ok B F H σ E)(hp:BV E)(x:Ext B'.1 B'.2 F H):Ok B' F H σ E:=by
 refine⟨x,k.len,k.val,fun i d h=>?_,fun i j d e a _ h=>?_,fun _=>[],fun i s h=>?_,fun i j s d b h=>?_,fun i j s t _ h=>?_,fun i s h=>?_⟩
 all_goals (rcases hp i _ h with⟨_,e⟩ |e <;> cases e)
abbrev GM:=List (Str×FS)->List D->Option (List (Str×FS))
inductive Cy where
 |nx (E:DE) |rt (d:D) (E:DE)
end L2.Cu
namespace L2
open PySem
abbrev cm(C t:Addr):Obj:={ cls:=.ref C,data:=.fields #[.ref t,.none,.none,.none,.bool false,.none] }
section
variable {prog:Program}{w:World}{A:Around}{E:Value->Shared->Prop}{h:Heap}{g:Array GenState}{d:Drawn}{t:Nat}{os:OsState}
variable {nm q:Str}{C N:Addr}{bs bm bmB:List Value}{hdct:Bool}{sn:List Str}{sub:List Value}{ab:Bool}{col:Option Bool}{dd:Option Addr}{k0 k1 k2 k3 k5:Option Value}{B newId initId:String}
theorem kJ(F:ExcBaseFacts B newId initId bmB)(T:OwnTail h bmB bm){mN:Str->Option Value}{us:List Value}{fI:Addr}{oI:Obj}{Q:Fin->Shared->Prop}
  (hC:h.get? C=some (excClassObj nm q C N bs bm hdct sn sub ab col dd k0 k1 k2 k3 k5 newId)) (hN:h.Ns N mN) (Gf:mN "__init__" = some (.ref fI)) (GA:h.get? fI=some oI) (Gh:oI.cls=.type "function")
  (Gg:wpAny (model prog w) A (call (.ref fI) (.ref (h.objs.size + 1) :: us)) (fun r s'=>r=.none/\Q (.done (.ret (.ref (h.objs.size + 1)))) s') E ⟨(h.push { cls:=.type "tuple",data:=.seq us.toArray }).push (cm C h.objs.size),g,d,t,os⟩)
  (hus:us.length<=sizeLine):wpAny (model prog w) A (Builtin.«type.__call__» ⟨.ref C :: us,[]⟩) Q E ⟨h,g,d,t,os⟩:=by
 let t1:Obj:={ cls:=.type "tuple",data:=.seq us.toArray }
 let e1:Obj:={ cls:=.ref C,data:=.fields #[.ref h.objs.size,.none,.none,.none,.bool false,.none] }
 have kp:∀b o,h.get? b=some o->((h.push t1).push e1).get? b=some o:=fun b o z=>CO e1 (CO t1 z)
 repeat (first |with_reducible refine De hC ?_ |with_reducible refine wpAny_madeBy_exc hC ?_ |wp_step)
 refine codeAny_call_builtin_code (Ed _ F.quiet) (wpAny_check_new_subT F T hC (codeAny_exc_new_subT F T hC ?_ hus))
 show wpAny _ _ _ _ _ _
 have hC1:=kp _ _ hC
 have Gq:((h.push t1).push e1).get? (h.objs.size + 1)=some e1:=by heap_get
 have Gb:(Value.ref C :: bm).contains (.ref C)=true:=by simp
 unfold isInstance
 repeat (first |with_reducible refine De Gq ?_ | (with_reducible refine FK hC1 ?_;rw[Gb]) |wp_step)
 show wpAny _ _ (typeLookup (.ref C) _) _ _ _
 refine wpAny_typeLookup_tail hC1 (hN.keeps kp) (T.keeps kp) F.mroIs F.init.lookup ?_
 rw[Gf]
 refine Dx (CN ?_)
 unfold bindSpecial
 refine CN (EE (T := "function") ⟨_,kp _ _ GA,Gh⟩ ?_)
 rw[if_pos (by decide)]
 refine CP (CN (Dc Gg (fun r s' z=>?_) fun _ _ z=>z))
 obtain⟨rfl,hQ⟩:=z
 wp_walk
 exact hQ
theorem vL(F:ExcBaseFacts B newId initId bmB)(T:OwnTail h bmB bm){mN:Str->Option Value}{us:List Value}{fI:Addr}{oI:Obj}{Q:Value->Shared->Prop}
  (hC:h.get? C=some (excClassObj nm q C N bs bm hdct sn sub ab col dd k0 k1 k2 k3 k5 newId)) (hN:h.Ns N mN) (Gf:mN "__init__" = some (.ref fI)) (GA:h.get? fI=some oI) (Gh:oI.cls=.type "function")
  (Gg:wpAny (model prog w) (A.under (.builtin "type.__call__" ⟨.ref C :: us,[]⟩)) (call (.ref fI) (.ref (h.objs.size + 1) :: us)) (fun r s'=>r=.none/\Q (.ref (h.objs.size + 1)) s') E ⟨(h.push { cls:=.type "tuple",data:=.seq us.toArray }).push (cm C h.objs.size),g,d,t,os⟩)
  (hus:us.length<=sizeLine):wpAny (model prog w) A (call (.ref C) us) Q E ⟨h,g,d,t,os⟩:=by
 have c1:=tc_lookup
 have c2:=tc_bind (.ref C)
 have hT:(⟨h,g,d,t,os⟩:Shared).TypeIs (.ref C) "type" := ⟨_,hC,rfl⟩
 refine FF (codeAny_of_tree ?_)
 show wpAny _ _ (callAny (.ref C) _) _ _ _
 repeat (any_goals (first |assumption |with_reducible refine De hC ?_ |wp_step))
 refine⟨rfl,codeAny_call_builtin_at (Ed _ (by decide +kernel)) entry_typeCall (wpAny_check_type_call_sub hC (kJ F T hC hN Gf GA Gh ?_ hus))⟩
 exact Gg
end
open PySem PySem.W
open Builtin Builtin.ObjectAttr
section
variable {prog:Program}{w:World}{A:Around}{E:Value->Shared->Prop}{s:Shared}{K:Frag}{x C:Addr}{mA:Str->Option Value}{cd:ClassData}{name:Str}{v:Value}
theorem j7{R:Fin->Shared->Prop}{tk:Tok}{b:Bool}{ns:List Str}(X:K.In s.heap)(I:s.heap.Inst x C mA)(hc:clsIn K C=some cd)(hd:cd.hasDict=true)(hw:Within mA ns)(hz:ns.length<=1000)
  (h:∀h' tk',h'.Inst x C (fun y=>if y=name then some v else mA y) ->
   (∀b o,b ≠ x->(∀o₀ dx,s.heap.get? x=some o₀->o₀.dict=some dx->b ≠ dx)->s.heap.get? b=some o->h'.get? b=some o) ->
   (∀o₀,s.heap.get? x=some o₀->∃dx,h'.get? x=some { o₀ with dict:=some dx }/\(o₀.dict=some dx\/o₀.dict=none/\s.heap.objs.size<=dx))->R (.done (.ret .none)) { s with heap:=h',toks:=tk' }) :
  wpAny (model prog w) A (storeInOwnDict (.ref x) (.ref C) (.str name tk) name v b) R E s:=by
 obtain⟨o,hx,hcl,hnc,Gd⟩:=I
 obtain⟨hh,g,dr,tt,os⟩:=s
 unfold storeInOwnDict ownDictForStores instanceDict
 refine CN (CP (CN (CN (Dv hx ?_))))
 rw[hcl]
 refine CN ((looks_clsIn X hc).here ?_)
 rw[hd]
 rcases Gd with⟨e0,hm0⟩ |⟨dx,e1,hne,hns⟩
 ·rw[e0,if_neg (by decide)]
  show wpAny _ _ (if(!true || !typeHasDict (Value.ref C))=true then pure none else _) _ _ _
  rw[if_neg (by simp[typeHasDict])]
  have hxs:x ≠ hh.objs.size:=C5 (CS hx)
  have hx1:(hh.push { cls:=.type "dict",data:=.dict #[] }).get? x=some o:=CO _ hx
  split
  ·rename_i c hcd
   exact absurd hcd (hnc c)
  ·refine CN (wpAny_alloc' (CN (wpAny_update' hx1 (CP ?_))))
   have hgd:((hh.push { cls:=.type "dict",data:=.dict #[] }).update x fun o=>{ cls:=o.cls,dict:=some hh.objs.size,data:=o.data,slots:=o.slots }).get? hh.objs.size=some { cls:=.type "dict",data:=.dict #[] } :=
    (EB _ _ _ _ hxs.symm).trans (Heap.get?_push_at rfl rfl)
   have hnd:((hh.push { cls:=.type "dict",data:=.dict #[] }).update x fun o=>{ cls:=o.cls,dict:=some hh.objs.size,data:=o.data,slots:=o.slots }).Ns hh.objs.size (fun _=>none) :=
    ⟨_,#[],_,hgd,rfl,fun e he=>absurd he (by simp),fun _=>rfl⟩
   show wpAny _ _ (storeInDict hh.objs.size (.str name tk) name v) _ _ _
   unfold storeInDict newKeyGuard
   refine CN (CP (CN (wpAny_nsSet1 (Heap.Ns1.of_empty hnd) fun h' n1 sb=>?_)))
   obtain⟨oD,esD,epD,hoD,hdD,hcD⟩:=n1.count (Within.cons name v Within.nil)
   refine CN (wpAny_lookBehind hoD (by rw[hdD];exact pastItsLine_dict (CZ hcD (by rw[CG,CH,EA];lia))) ?_)
   refine CP ?_
   have hx':h'.get? x=some { o with dict:=some hh.objs.size }:=by
    refine(sb.2 x hxs).trans (Dr _ hx1 ?_)
    have hfr:=(Heap.get?_some_iff.mp hx).2
    obtain⟨oc,od,odt,osl⟩:=o
    cases odt <;> first |rfl |exact hfr
   refine h h' _ ⟨_,hx',hcl,hnc,.inr ⟨hh.objs.size,rfl,hxs.symm,?_⟩⟩ (fun b ob hbx _ hb=>?_) fun o₀ q=>?_
   ·obtain⟨o',es,ep,a1,a2,a3,au,a4⟩:=n1
    exact⟨o',es,ep,a1,a2,a3,au,fun y=>by rw[a4 y];by_cases hy:y=name <;> simp[hy,hm0]⟩
   ·exact(sb.2 b (C5 (CS hb))).trans ((EB _ _ _ _ hbx).trans (CO _ hb))
   ·obtain rfl:o=o₀:=CU (hx.symm.trans q)
    exact⟨hh.objs.size,hx',.inr ⟨e0,CV _⟩⟩
 ·rw[e1,if_neg (by decide)]
  refine CP ?_
  show wpAny _ _ (storeInDict dx (.str name tk) name v) _ _ _
  unfold storeInDict newKeyGuard
  refine CN (CP (CN (wpAny_nsSet1 hns fun h' n1 sb=>?_)))
  obtain⟨oD,esD,epD,hoD,hdD,hcD⟩:=n1.count (Within.cons name v hw)
  refine CN (wpAny_lookBehind hoD (by rw[hdD];exact pastItsLine_dict (CZ hcD (by rw[CG,EA];lia))) ?_)
  refine CP ?_
  refine h h' _ ⟨o,(sb.2 x hne.symm).trans hx,hcl,hnc,.inr ⟨dx,e1,hne,n1⟩⟩ (fun b ob _ hbd hb=>(sb.2 b (hbd o dx hx e1)).trans hb) fun o₀ q=>?_
  obtain rfl:o=o₀:=CU (hx.symm.trans q)
  refine⟨dx,?_,.inl e1⟩
  rw[show({ o with dict:=some dx }:Obj)=o by rw[<-e1]]
  exact(sb.2 x hne.symm).trans hx
theorem lF{Q:Unit->Shared->Prop}{ns:List Str}(X:K.In s.heap)(I:s.heap.Inst x C mA)(hc:clsIn K C=some cd)(hp:∀self,refuseLoop self "__setattr__" cd.mro=pure ())(ho:cd.mro.contains (.type "object")=true)(hd:cd.hasDict=true)
  (hs:findIn K (.ref C) "__setattr__" = some (some (.builtin "object.__setattr__"))) (hn:findIn K (.ref C) name=some none) (hw:Within mA ns) (hz:ns.length<=1000)
  (h:∀h' tk',h'.Inst x C (fun y=>if y=name then some v else mA y) ->
   (∀b o,b ≠ x->(∀o₀ dx,s.heap.get? x=some o₀->o₀.dict=some dx->b ≠ dx)->s.heap.get? b=some o->h'.get? b=some o) ->
   (∀o₀,s.heap.get? x=some o₀->∃dx,h'.get? x=some { o₀ with dict:=some dx }/\(o₀.dict=some dx\/o₀.dict=none/\s.heap.objs.size<=dx))->Q () { s with heap:=h',toks:=tk' }) :
  wpAny (model prog w) A (setAttr (.ref x) name v) Q E s:=by
 obtain⟨o,hx,hcl,hnc,Gd⟩:=id I
 have hno:notCls o=true:=by
  unfold notCls
  split
  ·rename_i c q
   exact absurd q (hnc c)
  ·rfl
 obtain⟨od,IA⟩:∃od,InstAt s.heap x o C od:=by
  rcases Gd with⟨e0,_⟩ |⟨dx,e1,_,hns⟩
  ·exact⟨none,hx,hcl,hno,by rw[e0];trivial⟩
  ·obtain⟨od,es,ep,e,_⟩:=hns
   exact⟨some od,hx,hcl,hno,by rw[e1];exact e⟩
 have SF:=PySem.F.store_object
 have G4:Looks (model prog w) s.heap (mroOf (.ref C)) cd.mro:=(looks_clsIn X hc).andThen .now
 have ne:cd.mro.isEmpty=false:=by
  cases q:cd.mro with
  |nil=>rw[q]at ho;cases ho
  |cons _ _=>rfl
 have sub:Looks (model prog w) s.heap (isInstance (.ref x) (.type "object")) true:=IA.type.andThen (looks_mroIn X (by unfold mroIn;rw[hc,CA,if_neg (by rw[ne];decide),ho]))
 refine set_plain X IA hs (Em SF.slot.plain SF.entry (@check_slot (model prog w) _ _ { s with toks:=s.toks + 1 } "object.__setattr__" "object" "__setattr__" (.ref x) [.str name s.toks,v] [] _ SF.kind SF.split sub (SF.args (.ref x) (.str name s.toks) v) ?_))
 rw[osa_eq,refuse_eq]
 refine CN (CN (IA.type _ _ _ _ (fun _ _ e=>e) (CN (G4 _ _ _ _ (fun _ _ e=>e) ?_))))
 rw[hp]
 refine CP (CN (IA.type _ _ _ _ (fun _ _ e=>e) (CN (looks_findIn X hn _ _ _ _ (fun _ _ e=>e) ?_))))
 refine CN (CP ?_)
 exact j7 (s:={ s with toks:=s.toks + 1 }) X I hc hd hw hz fun h' tk' i1 i2 i3=>h h' tk' i1 i2 i3
end
section
variable {prog:Program}{w:World}{A:Around}{E:Value->Shared->Prop}{h:Heap}{g:Array GenState}{dr:Drawn}{t:Nat}{os:OsState}{K:Frag}{x C:Addr}{mA:Str->Option Value}{cd:ClassData}{name:Str}{v:Value}
theorem lkF{M:Model}{r:Option Value}{n:Str}{Q:Option Value->Shared->Prop}(X:K.In h)(e:findIn K (.ref C) n=some r)(q:Q r ⟨h,g,dr,t,os⟩):wpAny M A (typeLookup (.ref C) n) Q E ⟨h,g,dr,t,os⟩:=looks_findIn X e _ _ _ _ (fun _ _ z=>z) q
theorem lkC{M:Model}{Q:ClassData->Shared->Prop}(X:K.In h)(e:clsIn K C=some cd)(q:Q cd ⟨h,g,dr,t,os⟩):wpAny M A (classData C) Q E ⟨h,g,dr,t,os⟩:=looks_clsIn X e _ _ _ _ (fun _ _ z=>z) q
theorem j8{Q:Fin->Shared->Prop}{tk:Tok}(X:K.In h)(I:h.Inst x C mA)(hc:clsIn K C=some cd)(hd:cd.hasDict=true)(hn:findIn K (.ref C) name=some none)(hv:mA name=some v)
  (q:Q (.done (.ret v)) ⟨h,g,dr,t,os⟩):wpAny (model prog w) A (Builtin.«object.__getattribute__» ⟨[.ref x,.str name tk],[]⟩) Q E ⟨h,g,dr,t,os⟩:=by
 obtain⟨o,hx,hcl,hnc,Gd⟩:=I
 rcases Gd with⟨_,hm0⟩ |⟨dx,e1,hne,hns⟩
 ·rw[hm0 name]at hv;cases hv
 unfold Builtin.«object.__getattribute__»
 repeat (first | (with_reducible refine De hx ?_;rw[hcl]) |with_reducible refine lkF X hn ?_ |wp_step)
 split
 ·rename_i c hcd
  exact absurd hcd (hnc c)
 unfold instanceDict
 repeat (first | (with_reducible refine De hx ?_;rw[hcl]) | (with_reducible refine lkC X hc ?_;rw[hd]) |wp_step)
 rw[e1]
 repeat (first | (with_reducible refine wpAny_nsGet hns.ns ?_;rw[hv]) |wp_step)
 exact q
theorem vK{Q:Value->Shared->Prop}{expr:Bool}(X:K.In h)(I:h.Inst x C mA)(hc:clsIn K C=some cd)(hd:cd.hasDict=true)(hb:cd.mro.contains (.type "BaseException")=true)
  (hga:findIn K (.ref C) "__getattribute__" = some (some (.builtin "BaseException.__getattribute__"))) (hgt:findIn K (.ref C) "__getattr__" = some none) (hn:findIn K (.ref C) name=some none) (hv:mA name=some v)
  (hh:handedOut v=pure v) (q:Q v ⟨h,g,dr,t + 1,os⟩):wpAny (model prog w) A (getAttr (.ref x) name expr) Q E ⟨h,g,dr,t,os⟩:=by
 obtain⟨o,hx,hcl,_⟩:=id I
 have hx0:(expr && onTheHeap (Value.builtin "BaseException.__getattribute__"))=false:=by cases expr <;> rfl
 have hx1:(onTheHeap (Value.ref C) && Value.builtin "BaseException.__getattribute__" == Value.builtin "object.__getattribute__")=false:=by
  rw[show(Value.builtin "BaseException.__getattribute__" == Value.builtin "object.__getattribute__")=false by decide +kernel];rfl
 have hbs:bindSpecial (.builtin "BaseException.__getattribute__") (.ref x)=pure (.builtin "BaseException.__getattribute__",[.ref x]):=(Ec).ga.bind (.ref x)
 unfold getAttr getAttrBy
 repeat (first | (with_reducible refine De hx ?_;rw[hcl]) |with_reducible refine lkF X hga ?_ |with_reducible refine lkF X hgt ?_ |wp_step)
 have IA:Looks (model prog w) h (typeOf (.ref x)) (.ref C):=(Looks.ld (part:=none) hx).andThen (by rw[hcl];exact .now)
 have ne:cd.mro.isEmpty=false:=by
  cases z:cd.mro with
  |nil=>rw[z]at hb;cases hb
  |cons _ _=>rfl
 have sub:Looks (model prog w) h (isInstance (.ref x) (.type "BaseException")) true:=IA.andThen (looks_mroIn X (by unfold mroIn;rw[hc,CA,if_neg (by rw[ne];decide),hb]))
 have hk:builtinKind "BaseException.__getattribute__" = some .slot:=by decide +kernel
 have hsp:splitId "BaseException.__getattribute__" = some ("BaseException","__getattribute__"):=by decide +kernel
 refine Em (Ec).ga.plain PySem.F.entry_bexc_ga (@check_slot (model prog w) _ _ ⟨h,g,dr,t + 1,os⟩ "BaseException.__getattribute__" "BaseException" "__getattribute__" (.ref x) [.str name t] [] _ hk hsp sub (PySem.F.args_bexc_ga (.ref x) (.str name t)) ?_)
 refine j8 X I hc hd hn hv ?_
 show wpAny _ _ (handedOut v) _ _ _
 rw[hh]
 exact CP q
end
structure Kp (fs xs:List Addr) (h h':Heap):Prop where
 keep:∀b o,b ∉ fs->b ∉ xs->h.get? b=some o->h'.get? b=some o
 slot:∀b o,b ∈ fs->b ∉ xs->h.get? b=some o->∃sl,h'.get? b=some { o with slots:=sl }
theorem Kp.trans{fs xs:List Addr}{h h1 h2:Heap}(a:Kp fs xs h h1)(b:Kp fs xs h1 h2):Kp fs xs h h2 :=
 ⟨fun c o n1 n2 e=>b.keep c o n1 n2 (a.keep c o n1 n2 e),fun c o n1 n2 e=>by
  obtain⟨sl,e1⟩:=a.slot c o n1 n2 e
  obtain⟨sl',e2⟩:=b.slot c _ n1 n2 e1
  exact⟨sl',e2⟩⟩
theorem Kp.wide{fs fs' xs xs':List Addr}{h h':Heap}(a:Kp fs xs h h')(h1:∀b ∈ fs,b ∈ fs')(h2:∀b ∈ xs,b ∈ xs'):Kp fs' xs' h h' :=
 ⟨fun c o n1 n2 e=>a.keep c o (fun z=>n1 (h1 c z)) (fun z=>n2 (h2 c z)) e,fun c o n1 n2 e=>by
  by_cases hc:c ∈ fs
  ·exact a.slot c o hc (fun z=>n2 (h2 c z)) e
  ·exact⟨o.slots,a.keep c o hc (fun z=>n2 (h2 c z)) e⟩⟩
theorem Kp.funs{base:Heap}{xs:List Addr}{h h':Heap}{l:List Env}{fs:List Addr}(k:Kp fs xs h h')(hl:h.FunFrames base l)(hx:∀b o,b ∈ xs->h.get? b=some o->∃vs,o.data=.fields vs):h'.FunFrames base l :=
 hl.of_keeps fun b o e hn=>by
  have hb:b ∉ xs:=fun z=>by
   obtain⟨vs,q⟩:=hx b o z e
   exact hn vs q
  by_cases hf:b ∈ fs
  ·obtain⟨sl,e'⟩:=k.slot b o hf hb e
   exact⟨_,e',rfl⟩
  ·exact⟨o,k.keep b o hf hb e,rfl⟩
def cxO(o:Obj):Option Value:=match o.data with
 |.fields ws=>ws[2]?
 |_=>none
def Fly(h:Heap)(o0:Obj)(e T:Addr)(fl:Value):Prop :=
 ∃vs oT ts,h.get? e=some { o0 with data:=.fields vs }/\vs[1]? = some (.ref T)/\T ≠ e/\h.get? T=some oT/\oT.data=.fields ts/\ts[3]? = some fl/\vs[2]? = cxO o0
section
variable {M:Model}{A:Around}{E:Value->Shared->Prop}{s:Shared}
theorem lm{base h:Heap}{l:List Env}{e:Addr}{o:Obj}{vs:Array Value}(hl:h.FunFrames base l)(he:h.get? e=some o)(hd:o.data=.fields vs):e ∉ l.filterMap (·.frame):=fun hm=>by
 obtain⟨_,o',ho,hnf⟩:=hl.mem hm
 rw[he]at ho
 cases ho
 exact hnf vs hd
theorem kh{base:Heap}{env:Env}{outer:List Env}{L e:Addr}{o0:Obj}{vs:Array Value}{head:Value}{nx:Bool}{Q:Unit->Shared->Prop}
  (hfr:A.frames=some (env :: outer)) (hl:s.heap.FunFrames base (env :: outer)) (hf:env.frame=some L) (he:s.heap.get? e=some { o0 with data:=.fields vs }) (hsz:1 < vs.size) (hcx:vs[2]? = cxO o0)
  (h:∀h' T,Kp ((env :: outer).filterMap (·.frame)) [e] s.heap h'->s.heap.objs.size<=T->Fly h' o0 e T (rawInt L)->Q () { s with heap:=h' }) :
  wpAny M A (do let a <-frameOf env;let pl <-entryPlaceOf L nx;let b <-EntryCells.newEntry head a .none (rawInt L) .none pl;setField (.ref e) 1 b) Q E s:=by
 have G8:=lm hl he rfl
 refine CN (wpAny_frameOf_fun hfr hl hf fun h1 so=>?_)
 refine CN (wpAny_entryPlaceOf fun pl hpl=>?_)
 unfold EntryCells.newEntry newFields
 refine CN (Di ?_ (hpl.sizeOk5 _ _ _ _ _))
 have he1:h1.get? e=some { o0 with data:=.fields vs }:=(so.2.1 e G8).trans he
 generalize hO:({ cls:=.type "traceback",dict:=none,data:=.fields ([head,.ref L,.none,rawInt L,.none] ++ (if pl.isEmpty then List.replicate 6 Value.none else pl)).toArray }:Obj)=O
 have he2:=CO (h:=h1) O he1
 have hne:h1.objs.size ≠ e:=EV (CS he1)
 refine Eu he2 rfl hsz ?_
 have he3:=Dr (Obj.mapFields (·.setIfInBounds 1 (Value.ref h1.objs.size))) he2 (FA (EI rfl _))
 have hT:((h1.push O).update e (Obj.mapFields (·.setIfInBounds 1 (Value.ref h1.objs.size)))).get? h1.objs.size=some O :=
  (Dp _ _ (Ne.symm hne)).trans (CT h1 (by rw[<-hO];rfl))
 have GH:s.heap.objs.size<=h1.objs.size:=Nat.le_of_eq so.1.symm
 refine h _ h1.objs.size ⟨fun b o nb nx' q=>?_,fun b o hb nx' q=>?_⟩ GH ⟨_,O,_,he3,by simp[hsz],hne,hT,by rw[<-hO],?_,?_⟩
 ·have hbe:b ≠ e:=fun z=>nx' (by simp[z])
  rw[Dp _ _ (Ne.symm hbe)]
  exact CO _ ((so.2.1 b nb).trans q)
 ·have hbe:b ≠ e:=fun z=>nx' (by simp[z])
  obtain⟨sl,q1⟩:=so.2.2 b o q
  refine⟨sl,?_⟩
  rw[Dp _ _ (Ne.symm hbe)]
  exact CO _ q1
 ·simp
 ·exact(Array.getElem?_setIfInBounds_ne (by decide)).trans hcx
theorem fj{base:Heap}{env:Env}{outer:List Env}{L e:Addr}{o0:Obj}{vs:Array Value}{Q:Unit->Shared->Prop}
  (hfr:A.frames=some (env :: outer)) (hl:s.heap.FunFrames base (env :: outer)) (hf:env.frame=some L) (he:s.heap.get? e=some { o0 with data:=.fields vs }) (h1:vs[1]? = some .none) (hcx:vs[2]? = cxO o0)
  (h:∀h' T,Kp ((env :: outer).filterMap (·.frame)) [e] s.heap h'->s.heap.objs.size<=T->Fly h' o0 e T (rawInt L)->Q () { s with heap:=h' }):wpAny M A (noteFrame (.ref e) env) Q E s:=by
 unfold noteFrame
 simp only[hf]
 refine CN (Do he rfl h1 ?_)
 rw[if_neg (by decide)]
 exact kh hfr hl hf he (Array.getElem?_eq_some_iff.mp h1).1 hcx h
theorem gp{base:Heap}{env:Env}{outer:List Env}{L e T:Addr}{o0:Obj}{Q:Unit->Shared->Prop}
  (hfr:A.frames=some (env :: outer)) (hl:s.heap.FunFrames base (env :: outer)) (hf:env.frame=some L) (he:Fly s.heap o0 e T .none)
  (h:∀h' T',Kp ((env :: outer).filterMap (·.frame)) [e,T] s.heap h'->s.heap.objs.size<=T'->Fly h' o0 e T' (rawInt L)->Q () { s with heap:=h' }):wpAny M A (noteFrame (.ref e) env) Q E s:=by
 obtain⟨vs,oT,ts,q1,q2,hTe,q3,q4,q5,q6⟩:=he
 unfold noteFrame
 simp only[hf]
 refine CN (Do q1 rfl q2 ?_)
 rw[if_pos (show(Value.ref T != Value.none)=true from by simp)]
 refine CN (Do q3 q4 q5 ?_)
 rw[if_neg (show ¬((Value.none == rawInt L)=true) from by simp[rawInt])]
 refine CN (Eu q3 q4 (Array.getElem?_eq_some_iff.mp q5).1 ?_)
 have oth:∀b,b ≠ T->(s.heap.update T (Obj.mapFields (·.setIfInBounds 3 Value.none))).get? b=s.heap.get? b:=fun b hb=>Dp _ _ (Ne.symm hb)
 have k0:Kp ((env :: outer).filterMap (·.frame)) [e,T] s.heap (s.heap.update T (Obj.mapFields (·.setIfInBounds 3 Value.none))) :=
  ⟨fun b o _ nx q=>(oth b fun z=>nx (by simp[z])).trans q,fun b o _ nx q=>⟨o.slots,(oth b fun z=>nx (by simp[z])).trans q⟩⟩
 refine kh hfr (k0.funs hl fun b o hb q=>?_) hf ((oth e (Ne.symm hTe)).trans q1) (Array.getElem?_eq_some_iff.mp q2).1 q6 fun h' T' k1 k2 k3=>h h' T' (k0.trans (k1.wide (fun _ z=>z) fun b z=>by simp at z;simp[z])) ?_ k3
 ·rcases List.mem_cons.mp hb with rfl |hb
  ·rw[q1]at q;cases q;exact⟨vs,rfl⟩
  ·rw[List.mem_singleton.mp hb,q3]at q;cases q;exact⟨ts,q4⟩
 ·have:(s.heap.update T (Obj.mapFields (·.setIfInBounds 3 Value.none))).objs.size=s.heap.objs.size:=by simp[Heap.update]
  rw[<-this];exact k2
theorem hV{env:Env}{L e T:Addr}{o0:Obj}{Q:Unit->Shared->Prop}(hf:env.frame=some L)(he:Fly s.heap o0 e T (rawInt L))(h:Q () s):wpAny M A (noteFrame (.ref e) env) Q E s:=by
 obtain⟨vs,oT,ts,q1,q2,hTe,q3,q4,q5,q6⟩:=he
 unfold noteFrame
 simp only[hf]
 refine CN (Do q1 rfl q2 ?_)
 rw[if_pos (show(Value.ref T != Value.none)=true from by simp)]
 refine CN (Do q3 q4 q5 ?_)
 rw[if_pos (DA _)]
 exact CP h
theorem bR{e T:Addr}{o0:Obj}{fl:Value}{fr:Option Addr}{Q:Unit->Shared->Prop}(he:Fly s.heap o0 e T fl)
  (h:∀h',Kp [] [T] s.heap h'->h'.objs.size=s.heap.objs.size->Fly h' o0 e T (fr.elim Value.none fun f=>rawInt f)->Q () { s with heap:=h' }):wpAny M A (setFlight (.ref e) fr) Q E s:=by
 obtain⟨vs,oT,ts,q1,q2,hTe,q3,q4,q5,q6⟩:=he
 have hz:3 < ts.size:=(Array.getElem?_eq_some_iff.mp q5).1
 have oth:∀b,b ≠ T->(s.heap.update T (Obj.mapFields (·.setIfInBounds 3 (fr.elim Value.none fun f=>rawInt f)))).get? b=s.heap.get? b:=fun b hb=>Dp _ _ (Ne.symm hb)
 unfold setFlight
 refine CN (Do q1 rfl q2 ?_)
 rw[if_pos (show(Value.ref T != Value.none)=true from by simp)]
 refine Eu q3 q4 hz (h _ ⟨fun b o _ nx q=>(oth b fun z=>nx (by simp[z])).trans q,fun b o hb=>by cases hb⟩ (by simp[Heap.update]) ?_)
 exact⟨vs,_,_,(oth e (Ne.symm hTe)).trans q1,q2,hTe,Dr _ q3 (FA (EI q4 _)),EI q4 _,by simp[hz],q6⟩
theorem oh{base:Heap}{env:Env}{outer:List Env}{L e:Addr}{o0:Obj}{vs:Array Value}{Q:Unit->Shared->Prop}
  (hfr:A.frames=some (env :: outer)) (hl:s.heap.FunFrames base (env :: outer)) (hf:env.frame=some L) (he:s.heap.get? e=some { o0 with data:=.fields vs }) (h1:vs[1]? = some .none) (hcx:vs[2]? = cxO o0)
  (h:∀h' T,Kp ((env :: outer).filterMap (·.frame)) [e] s.heap h'->s.heap.objs.size<=T->Fly h' o0 e T .none->Q () { s with heap:=h' }):wpAny M A (leaving env (.ref e)) Q E s:=by
 unfold leaving
 refine CN (fj hfr hl hf he h1 hcx fun h' T k1 k2 k3=>bR k3 fun h'' j1 _ j3=>h h'' T ?_ k2 j3)
 refine⟨fun b o n1 n2 q=>j1.keep b o (by simp) (fun z=>?_) (k1.keep b o n1 n2 q),fun b o n1 n2 q=>?_⟩
 ·rw[List.mem_singleton.mp z]at q
  exact absurd (CS q) (Nat.not_lt.mpr k2)
 ·obtain⟨sl,q1⟩:=k1.slot b o n1 n2 q
  refine⟨sl,j1.keep b _ (by simp) (fun z=>?_) q1⟩
  rw[List.mem_singleton.mp z]at q
  exact absurd (CS q) (Nat.not_lt.mpr k2)
theorem pQ{base:Heap}{env:Env}{outer:List Env}{L e T:Addr}{o0:Obj}{Q:Unit->Shared->Prop}
  (hfr:A.frames=some (env :: outer)) (hl:s.heap.FunFrames base (env :: outer)) (hf:env.frame=some L) (he:Fly s.heap o0 e T .none)
  (h:∀h' T',Kp ((env :: outer).filterMap (·.frame)) [e,T] s.heap h'->s.heap.objs.size<=T'->Fly h' o0 e T' .none->Q () { s with heap:=h' }):wpAny M A (leaving env (.ref e)) Q E s:=by
 unfold leaving
 refine CN (gp hfr hl hf he fun h' T' k1 k2 k3=>bR k3 fun h'' j1 _ j3=>h h'' T' ?_ k2 j3)
 refine⟨fun b o n1 n2 q=>j1.keep b o (by simp) (fun z=>?_) (k1.keep b o n1 n2 q),fun b o n1 n2 q=>?_⟩
 ·rw[List.mem_singleton.mp z]at q
  exact absurd (CS q) (Nat.not_lt.mpr k2)
 ·obtain⟨sl,q1⟩:=k1.slot b o n1 n2 q
  refine⟨sl,j1.keep b _ (by simp) (fun z=>?_) q1⟩
  rw[List.mem_singleton.mp z]at q
  exact absurd (CS q) (Nat.not_lt.mpr k2)
end
open PySem PySem.Spec PyProof.Rows
section
variable {X:Cx}{dl:List (Addr×Obj)} {σ:St}{H:Hp}{s:Shared}{h':Heap}{ch:List Addr}
theorem Inv.recd(I:Inv X dl σ H s){b:Addr}{o:Obj}{vs:Array Value}(e:s.heap.get? b=some o)(hd:o.data=.fields vs):b ≠ X.env.locals/\(∀x c,X.env.cells.lookup x=some c->c ≠ b)/\b ∉ frs X.stack:=by
 refine⟨fun z=>?_,fun x c q z=>?_,lm I.stack e hd⟩
 ·obtain⟨m,⟨o',es,ep,ho',hd',_⟩,_⟩:=I.loc
  rw[<-z,e]at ho';cases ho';rw[hd']at hd;cases hd
 ·obtain⟨v,o',ho',hd'⟩:=I.cell x c q
  rw[z,e]at ho';cases ho';rw[hd']at hd;cases hd
theorem Inv.kp(I:Inv X dl σ H s)(k:Kp (frs X.stack) ch s.heap h')
  (hch:∀b ∈ ch,X.s₀.heap.objs.size<=b/\(∃o vs,s.heap.get? b=some o/\o.data=.fields vs)/\(∀p ∈ X.pn ++ dl,p.1 ≠ b)/\H b=none):Inv X dl σ H { s with heap:=h' }:=by
 have trk:∀b o,H b ≠ none->s.heap.get? b=some o->h'.get? b=some o:=fun b o n e=>k.keep b o (fun z=>n (I.stkFree b z)) (fun z=>n (hch b z).2.2.2) e
 refine I.step (ch:=ch) (fun b hb=>?_) (fun b o n1 n2 n3 e n=>?_) (fun b o n1 n2 n3 e n=>?_) (fun _ _ _ _ n=>n) (fun b o n3 e=>?_) (fun _ _ q=>q) (fun _ _ _ q=>q) (fun _ ps q=>⟨#[],by rw[q];simp⟩) (fun m hm=>?_) (fun a o e=>?_) I.bare
 ·obtain⟨a1,⟨o,vs,a2,a3⟩,a4,a5⟩:=hch b hb
  obtain⟨b1,b2,_⟩:=I.recd a2 a3
  exact⟨.inr a1,b1,b2,a4⟩
 ·exact k.keep b o (fun z=>by rcases List.mem_cons.mp (I.stkSub b z) with q |q;exact n1 q;exact n2 q) n3 e
 ·by_cases hb:b ∈ frs X.stack
  ·exact k.slot b o hb n3 e
  ·exact⟨o.slots,k.keep b o hb n3 e⟩
 ·by_cases hb:b ∈ frs X.stack
  ·obtain⟨sl,q⟩:=k.slot b o hb n3 e
   exact⟨_,q⟩
  ·exact⟨o,k.keep b o hb n3 e⟩
 ·obtain⟨o,es,ep,e,hd,r⟩:=hm
  have nch:X.env.locals ∉ ch:=fun z=>by
   obtain⟨_,⟨o',vs,a2,a3⟩,_⟩:=hch _ z
   rw[e]at a2;cases a2;rw[hd]at a3;cases a3
  by_cases hb:X.env.locals ∈ frs X.stack
  ·obtain⟨sl,q⟩:=k.slot _ o hb nch e
   exact⟨_,es,ep,q,hd,r⟩
  ·exact⟨o,es,ep,k.keep _ o hb nch e,hd,r⟩
 ·exact(I.hok a o e).stay (fun b u hb q=>trk b u (fun z=>by
   rcases hb with rfl |hb
   ·rw[e]at z;cases z
   ·rw[hb]at z;cases z) q) (fun _ q=>q) fun _ _ q=>q
end
def Err(L:Addr)(h:Heap)(H:Hp)(z:Nat)(ps:List (Addr×Obj))(o0:Obj)(a:Addr):Prop :=
 (∃vs,h.get? a=some { o0 with data:=.fields vs }/\vs[1]? = some .none/\vs[2]? = cxO o0)\/∃T fl,Fly h o0 a T fl/\(fl=.none\/fl=rawInt L)/\H T=none/\z<=T/\∀p ∈ ps,p.1 ≠ T
structure yZ (H:Hp) (z:Nat) (o0:Obj) (a C:Addr) (dx:Option Addr):Prop where
 cls:o0.cls=.ref C
 dict:o0.dict=dx
 ne:∀d,dx=some d->d ≠ a
 free:H a=none
 new:z<=a
 cx:∀d fs,dx=some d->H d=some (.xd fs)->fs.lookup ("row" : Str)=none->cxO o0=some .none
def CX1(P:Program)(w:World):CXT:=fun outer H s E e s'=>∃(a C:Addr) (dx:Option Addr) (T:Addr) (o0:Obj) (H':Hp),e=.ref a/\s'.os=s.os/\AllBare s'.gens/\Un (frs outer) [] H H' s.heap s'.heap/\HOk P w H' s'.heap /\
 Fly s'.heap o0 a T .none/\H' T=none/\s.heap.objs.size<=T/\yZ H' s.heap.objs.size o0 a C dx/\E (.ref C) dx H'
abbrev XW:=St->Value->Option Addr->Hp->Prop
def EX(X:Cx)(dl:List (Addr×Obj))(W:XW)(e:Value)(s:Shared):Prop:=∃(σ:St) (a C:Addr) (dx:Option Addr) (o0:Obj) (H:Hp),e=.ref a/\Inv X dl σ H s/\Err X.env.locals s.heap H X.s₀.heap.objs.size (X.pn ++ dl) o0 a/\yZ H X.s₀.heap.objs.size o0 a C dx/\(∀p ∈ X.pn ++ dl,p.1 ≠ a)/\W σ (.ref C) dx H
section
variable {P:Program}{w:World}{K:PySem.W.Frag}{mg:Str->Option Value}{base:Heap}{N:List Str}{qual:Str}{scope:Scope}{f:Addr}{cd:Value}{A:Around}{outer:List Env}{s₀:Shared}{H₀:Hp}{E:XK}
theorem Fly.recd{h:Heap}{o0:Obj}{e T:Addr}{fl:Value}(x:Fly h o0 e T fl):(∃o vs,h.get? e=some o/\o.data=.fields vs)/\∃o vs,h.get? T=some o/\o.data=.fields vs:=by
 obtain⟨vs,oT,ts,q1,q2,q3,q4,q5,q6,q7⟩:=x
 exact⟨⟨_,vs,q1,rfl⟩,oT,ts,q4,q5⟩
theorem sX{dl:List (Addr×Obj)}{e:Value}{s:Shared}(x:EX (iN (CX1 P w) P w K mg base N qual scope f cd A outer s₀ H₀ E) dl (fun _ c d H=>E c d H) e s):(iN (CX1 P w) P w K mg base N qual scope f cd A outer s₀ H₀ E).xe e s:=by
 obtain⟨σ,a,C,dx,o0,H,rfl,I,er,eo,hp,hw⟩:=x
 have hz:s₀.heap.objs.size<=s.heap.objs.size:=I.sz
 rcases er with⟨vs,q1,q2,q3⟩ |⟨T,fl,hf,rfl |rfl,hT,hTz,hTp⟩
 ·refine oh (base:=base) I.ok.frames I.stack rfl q1 q2 q3 fun h' T k k2 k3=>?_
  have I':=I.kp (ch:=[a]) k fun b hb=>by
   rw[List.mem_singleton.mp hb]
   exact⟨eo.new,⟨_,vs,q1,rfl⟩,hp,eo.free⟩
  exact⟨a,C,dx,T,o0,H,rfl,I'.os,I'.bare,I'.base,I'.hok,k3,I.hok.fresh k2,CZ hz k2,eo,hw⟩
 ·refine pQ (base:=base) I.ok.frames I.stack rfl hf fun h' T' k k2 k3=>?_
  have I':=I.kp (ch:=[a,T]) k fun b hb=>by
   rcases List.mem_cons.mp hb with rfl |hb
   ·exact⟨eo.new,hf.recd.1,hp,eo.free⟩
   ·rw[List.mem_singleton.mp hb]
    exact⟨hTz,hf.recd.2,hTp,hT⟩
  exact⟨a,C,dx,T',o0,H,rfl,I'.os,I'.bare,I'.base,I'.hok,k3,I.hok.fresh k2,CZ hz k2,eo,hw⟩
 ·show wpAny _ _ (leaving _ _) _ _ _
  unfold leaving
  refine CN (hV rfl hf (bR hf fun h' k _ k3=>?_))
  have I':=I.kp (ch:=[T]) (k.wide (fun _ z=>by cases z) fun _ z=>z) fun b hb=>by
   rw[List.mem_singleton.mp hb]
   exact⟨hTz,hf.recd.2,hTp,hT⟩
  exact⟨a,C,dx,T,o0,H,rfl,I'.os,I'.bare,I'.base,I'.hok,k3,hT,hTz,eo,hw⟩
end
section
variable {X:Cx}{dl:List (Addr×Obj)} {σ:St}{H:Hp}{s s':Shared}{E:XK}{W:XW}{e:Value}
theorem Inv.raised(I:Inv X dl σ H s)(h:CX1 X.prog X.w X.stack H s E e s')(hE:∀c d H',E c d H'->W σ c d H'):EX X dl W e s':=by
 obtain⟨a,C,dx,T,o0,H',rfl,h1,h2,h3,h4,h5,h6,h7,h8,h9⟩:=h
 have hce:CE X.stack X.prog X.w H s (fun v H''=>H''=H') .none s':=⟨.non,H',h1,h2,h3,h4,rfl,rfl⟩
 obtain⟨x,H'',I',_,rfl⟩:=I.after hce
 refine⟨σ,a,C,dx,o0,_,rfl,I',.inr ⟨T,_,h5,.inl rfl,h6,CZ I.sz h7,fun p hp z=>absurd (CS (I.pin p hp).1) (by rw[z];exact Nat.not_lt.mpr h7)⟩,⟨h8.cls,h8.dict,h8.ne,h8.free,CZ I.sz h8.new,h8.cx⟩,fun p hp z=>?_,hE _ _ _ h9⟩
 have q:=(I.pin p hp).1
 exact absurd (CS q) (by rw[z];exact Nat.not_lt.mpr h8.new)
end
abbrev TEX:=St->Hp->VK->XW->Prop
abbrev TSX:=dh->XW->St->Hp->Prop
def PEX(X:Cx)(e:Expr)(t:TEX):Prop :=
 ∀(dl:List (Addr×Obj)) (s:Shared) (σ:St) (H:Hp) (Q:VK) (W:XW) (xe:Value->Shared->Prop),Inv X dl σ H s->t σ H Q W->(∀e s',EX X dl W e s'->xe e s')->wpAny (model X.prog X.w) X.A (eval e X.env) (EP X dl σ Q) xe s
def PSX(X:Cx)(st:Stmt)(t:TSX):Prop :=
 ∀(dl:List (Addr×Obj)) (s:Shared) (σ:St) (H:Hp) (D:dh) (W:XW) (xe:Value->Shared->Prop),Inv X dl σ H s->t D W σ H->(∀e s',EX X dl W e s'->xe e s')->wpAny (model X.prog X.w) X.A (exec st X.env) (SP X dl D) xe s
def gZ(X:Cx)(st:List Stmt)(t:TSX):Prop :=
 ∀(dl:List (Addr×Obj)) (s:Shared) (σ:St) (H:Hp) (D:dh) (W:XW) (xe:Value->Shared->Prop),Inv X dl σ H s->t D W σ H->(∀e s',EX X dl W e s'->xe e s')->wpAny (model X.prog X.w) X.A (execs st X.env) (SP X dl D) xe s
section
variable {X:Cx}{st:Stmt}{bc:List Stmt}{t:TS}{e:Expr}{pos:Pos}
theorem zB(h:PS X.nox st t):PSX X st (fun D _ σ H=>t D σ H):=fun dl s σ H D W xe I hw _ =>
 Dc (h dl s σ H D (I.wish _) hw) (fun _ _ q=>q.unwish) fun _ _ z=>False.elim z
theorem wQ(h:PSs X.nox bc t):gZ X bc (fun D _ σ H=>t D σ H):=fun dl s σ H D W xe I hw _ =>
 Dc (h dl s σ H D (I.wish _) hw) (fun _ _ q=>q.unwish) fun _ _ z=>False.elim z
theorem rY{t u:TSX}(h1:PSX X st t)(h2:gZ X bc u):gZ X (st :: bc) (fun D W σ H=>t { D with nx:=u D W } W σ H):=by
 intro dl s σ H D W xe I h hx
 refine Ft (thn (h1 dl s σ H { D with nx:=u D W } W xe I h hx) fun f s1 q=>?_)
 cases f with
 |next =>
  obtain⟨σ',H',I',q⟩:=q
  exact h2 dl s1 σ' H' D W xe I' q hx
 |ret v=>exact q
 |brk=>exact q
 |cont=>exact q
theorem uy{t:TSX}(h1:PSX X st t):gZ X [st] t:=by
 intro dl s σ H D W xe I h hx
 refine Ft (thn (h1 dl s σ H D W xe I h hx) fun f s1 q=>?_)
 cases f with
 |next=>exact Ee q
 |ret v=>exact q
 |brk=>exact q
 |cont=>exact q
theorem zC{c:Expr}{a b:List Stmt}{tc:TT}{t u:TSX}(hc:PT X.nox c tc)(ha:gZ X a t)(hb:gZ X b u):PSX X (.If c a b pos) (fun D W σ H=>tc σ H fun b H1=>if b=true then t D W σ H1 else u D W σ H1):=by
 intro dl s σ H D W xe I h hx
 refine wpAny_If (Dc (hc dl s σ H _ (I.wish _) h) (fun d s1 zz118_0=>?_) fun _ _ z=>False.elim z)
 obtain⟨H1,I1,q1⟩:=zz118_0
 cases d with
 |true=>exact ha dl s1 σ H1 D W xe I1.unwish q1 hx
 |false=>exact hb dl s1 σ H1 D W xe I1.unwish q1 hx
theorem uz{te:TEX}(he:PEX X e te)(hs:swapsWith e none pos.line X.env=pure false:=by rfl):PSX X (.Expr e pos) (fun D W σ H=>te σ H (fun _ H1=>D.nx σ H1) W):=by
 intro dl s σ H D W xe I h hx
 exact wpAny_Expr_any (thn (he dl s σ H _ W xe I h hx) fun v s1 zz119_0=>by obtain⟨x,H1,I1,r1,q1⟩:=zz119_0;exact⟨σ,H1,I1,q1⟩) I.quiet hs
end
section
variable {X:Cx}{k:Nat}{f:Addr}{fd:FuncData}{ps:List Str}{sp:Sp}{x:Str}{p pos:Pos}{e:Expr}{es:List Expr}{t:TA}
theorem nE(F:a9 X.prog X.w X.K X.mg X.base (CX1 X.prog X.w) k f fd ps sp)(hr:ca k X.A)(hg:Gl X x)(hm:X.mg x=some (.ref f))(hk:PySem.W.keepIn X.K (.ref f)=true)(hb:eW X.K fd ps [])
  (ha:PA X.nox (e :: es) t) (hdb:(x == ("__debug__" : Str))=false:=by decide) (he:starEach (e :: es) X.env=(false,eval e X.env) :: starEach es X.env:=by rfl) (hpl:(backTo pos (starEach es X.env)).any (·.1)=false:=by rfl) :
  PEX X (.Call (.Name x p) (e :: es) [] pos) (fun σ H Q W=>t σ H fun vs H1=>∃E:XK,sp vs H1 Q E/\∀c d H',E c d H'->W σ c d H'):=by
 intro dl s σ H Q W xe I h hx
 refine Eb (fm I hg hm ?_ hdb)
 refine Fz (h₀:=X.base) I.ok.mod.kin hk (Dc (ha pos dl s σ H _ (I.wish _) h) (fun us s1 ⟨vs,H1,I1,r,q⟩=>⟨I1.unwish.kIn,?_⟩) fun _ _ z=>False.elim z) he hpl
 have I1:=I1.unwish
 obtain⟨E,h1,hE⟩:=q
 have hl:us.length=ps.length:=by rw[<-r.length];exact F.len _ _ _ _ h1
 have hb':=hb s1 us I1.kIn (by rw[DI];exact hl)
 rw[DI]at hb'
 refine FF (EO (F.run X.A X.stack s1 H1 ⟨us,[]⟩ us vs Q E hr I1.env0 hb' r h1) fun r s' hq=>?_)
 cases r with
 |error e=>exact hx e s' (I1.raised hq hE)
 |ok fl =>
  cases fl with
  |ret u=>exact I1.after hq
  |next=>exact False.elim hq
  |brk=>exact False.elim hq
  |cont=>exact False.elim hq
end
theorem Au{P:Program}{w:World}{K:PySem.W.Frag}{mg:Str->Option Value}{base:Heap}{k:Nat}{f:Addr}{name qual:Str}{params:Arguments}{body:List Stmt}{scope:Scope}{dV kV doc pm cdv ct oc:Value}{an od:Option Addr}
  {osl:Array (Option Value)} {N ps:List Str}{sp:Sp} (lk:K.lookup f=some ⟨oc,od,.func (PySem.W.fnOf name qual params body scope dV kV doc pm an cdv ct),osl⟩) (hcd:PySem.W.codeIn K cdv qual=true) (S:aS N ps scope)
  (len:∀vs H Q E,sp vs H Q E->vs.length=ps.length)
  (FU:∀(A:Around) (outer:List Env) (s:Shared) (H:Hp) (vs:List V) (Q:VK) (E:XK),ca k (A.deeper (envOfC qual scope s.heap.objs.size f cdv))->sp vs H Q E ->
   ∃t,gZ (iN (CX1 P w) P w K mg base N qual scope f cdv A outer s H E) body t/\t { nx:=fun _ H'=>Q .non H',rt:=Q } (fun _ c d H'=>E c d H') (start N vs) H) :
  a9 P w K mg base (CX1 P w) (k + 1) f (PySem.W.fnOf name qual params body scope dV kV doc pm an cdv ct) ps sp:=by
 refine yP lk hcd S len fun A outer s H vs Q E hr hs=>?_
 obtain⟨t,h1,h2⟩:=FU A outer s H vs Q E hr hs
 exact⟨fun D σ H'=>t D (fun _ c d H'=>E c d H') σ H',fun dl s' σ H' D I h=>h1 dl s' σ H' D _ _ I h fun e s'' x=>sX x,h2⟩
structure iR (K:PySem.W.Frag) (C:Addr) (cd:ClassData):Prop where
 cls:PySem.W.clsIn K C=some cd
 pass:∀self,refuseLoop self "__setattr__" cd.mro=pure ()
 obj:cd.mro.contains (.type "object")=true
 exc:cd.mro.contains (.type "BaseException")=true
 hd:cd.hasDict=true
 sa:PySem.W.findIn K (.ref C) "__setattr__" = some (some (.builtin "object.__setattr__"))
 ga:PySem.W.findIn K (.ref C) "__getattribute__" = some (some (.builtin "BaseException.__getattribute__"))
 gt:PySem.W.findIn K (.ref C) "__getattr__" = some none
def er0(e C t:Addr)(h:Heap):Prop:=h.get? e=some (cm C t)
def er1(e C t dx:Addr)(h:Heap):Prop:=h.get? e=some { cm C t with dict:=some dx }
section
variable {X:Cx}{o value:Expr}{ta tv:TE}{f:Str}{pos pos':Pos}
def sXf(K:PySem.W.Frag)(ta tv:TE)(f:Str):TS:=fun D σ H=>tv σ H fun y H1=>ta σ H1 fun x H2=>∃e C t cd,x=.ref e/\H2 e=some (.ext (er0 e C t))/\iR K C cd/\PySem.W.findIn K (.ref C) f=some none /\
 ∀dx,H2 dx=none->dx ≠ e->D.nx σ (upd (upd H2 e (.ext (er1 e C t dx))) dx (.xd [(f,y)]))
theorem Bk(ha:PE X o ta)(hv:PE X value tv)(hs:swapsWith value (some (.Attribute o f pos')) pos.line X.env=pure false):PS X (.Assign [.Attribute o f pos'] value pos) (sXf X.K ta tv f):=by
 intro dl s σ H D I h
 refine FP (thn (hv dl s σ H _ I h) fun u s1 ⟨y,H1,I1,ry,q⟩=>thn (ha dl s1 σ H1 _ I1 q) fun ov s2 zz122_0=>?_) hs
 obtain⟨x,H2,I2,rx,e,C,t,cd,ex,ee,c,hn,q2⟩:=zz122_0
 subst ex
 obtain rfl:ov=Value.ref e:=rx
 have he:s2.heap.get? e=some (cm C t):=(I2.hok e _ ee).1
 have hI:s2.heap.Inst e C (fun _=>none):=⟨_,he,rfl,fun c z=>(by cases z),.inl ⟨rfl,fun _=>rfl⟩⟩
 refine lF (ns:=[]) I2.kIn hI c.cls c.pass c.obj c.hd c.sa hn Within.nil (by simp) fun h' tk' i1 i2 i3=>?_
 obtain⟨dx,e1,e2⟩:=i3 _ he
 have hdz:s2.heap.objs.size<=dx:=by
  rcases e2 with z |⟨_,z⟩
  ·cases z
  ·exact z
 have hdH:H2 dx=none:=I2.hok.fresh hdz
 have hde:dx ≠ e:=fun z=>absurd (CS he) (by rw[<-z];exact Nat.not_lt.mpr hdz)
 have kp:∀b ob,b ≠ e->s2.heap.get? b=some ob->h'.get? b=some ob:=fun b ob hb z=>i2 b ob hb (fun o0 d0 z1 z2=>by rw[he]at z1;cases z1;cases z2) z
 have hns:h'.Ns1 dx (fun g=>if g=f then some u else none):=by
  obtain⟨o',a1,a2,a3,a4⟩:=i1
  rw[e1]at a1;cases a1
  rcases a4 with⟨z,_⟩ |⟨d',z1,z2,z3⟩
  ·cases z
  ·cases z1;exact z3
 have nd:∀b ob,H2 b=some ob->b ≠ dx:=fun b ob z w=>by rw[w,hdH]at z;cases z
 have I3:Inv X dl σ (upd (upd H2 e (.ext (er1 e C t dx))) dx (.xd [(f,y)])) { s2 with heap:=h',toks:=tk' }:=by
  refine I2.un ⟨fun b ob z n _ _=>?_,fun b ob z n _ _=>?_,fun b ob z n _=>?_,fun b ob z _=>?_,fun b xs z=>?_,fun b ob xs z=>?_,fun b ps z=>?_⟩ fun b u' z=>?_
  ·exact kp b ob (fun w=>by rw[w,ee]at n;cases n) z
  ·exact⟨ob.slots,kp b ob (fun w=>by rw[w,ee]at n;cases n) z⟩
  ·rw[af (C5 (C6 (CS z) hdz)),af (fun w=>by rw[w,ee]at n;cases n)];exact n
  ·by_cases hb:b=e
   ·rw[hb];exact⟨_,e1⟩
   ·exact⟨ob,kp b ob hb z⟩
  ·rw[af (nd b _ z),af (fun w=>by rw[w,ee]at z;cases z)];exact z
  ·rw[af (nd b _ z),af (fun w=>by rw[w,ee]at z;cases z)];exact z
  ·exact⟨#[],by rw[af (nd b _ z),af (fun w=>by rw[w,ee]at z;cases z),z];simp⟩
  ·by_cases hb:b=dx
   ·subst hb
    rw[aj]at z
    cases z
    refine⟨_,hns,fun g=>?_⟩
    show d6 (List.lookup g [(f,y)]) (if g=f then some u else none)
    by_cases hg:g=f
    ·subst hg;rw[if_pos rfl];simp[d6,ry]
    ·rw[if_neg hg]
     have:(g == f)=false:=by simpa using hg
     simp[List.lookup,this,d6]
   ·rw[af hb]at z
    by_cases hb2:b=e
    ·subst hb2
     rw[aj]at z
     cases z
     exact⟨e1,⟨_,e1⟩,fun h1 h2 z1 z2=>z2 _ z1⟩
    ·rw[af hb2]at z
     refine(I2.hok b u' z).stay (fun c v hc w=>kp c v (fun z3=>?_) w) (fun c w=>?_) fun c xs w=>?_
     ·rcases hc with rfl |hc
      ·exact hb2 z3
      ·rw[z3,ee]at hc;cases hc
     ·rw[af (nd c _ w),af (fun z3=>by rw[z3,ee]at w;cases w)];exact w
     ·rw[af (nd c _ w),af (fun z3=>by rw[z3,ee]at w;cases w)];exact w
 exact⟨σ,_,I3,q2 dx hdH hde⟩
end
theorem xw{K:PySem.W.Frag}{h:Heap}{N:Addr}{m:Str->Option Value}{n:Str}{v:Value}(X:K.In h)(G:h.Ns N m)(z:PySem.W.nsIn K N n=some (some v)):m n=some v:=by
 obtain⟨ob,es,ep,hob,hdt,_,Gr⟩:=G
 unfold PySem.W.nsIn at z
 split at z
 ·rename_i c d es' n' sl q
  have w:=X _ _ q
  rw[hob]at w
  cases w
  cases hdt
  split at z
  ·rename_i en hen
   cases z
   rw[<-Gr]
   unfold nsFind findBy
   rw[<-FE,hen];rfl
  ·split at z <;> cases z
 ·cases z
theorem mD{K:PySem.W.Frag}{h:Heap}{C fI:Addr}(X:K.In h)(q:kK K C fI=true):∃nm qn N bs bm hdct sn sub ab col dd k0 k1 k2 k3 k5 mN,h.get? C=some (excClassObj nm qn C N bs bm hdct sn sub ab col dd k0 k1 k2 k3 k5 "ValueError.__new__")/\h.Ns N mN/\mN "__init__" = some (.ref fI)/\OwnTail h bmV bm:=by
 unfold kK at q
 split at q
 ·rename_i dd cd sl ho
  split at q
  ·rename_i C' bm k0 k1 k2 k3 n k5 hm hs
   simp only[C_,FH,EG]at q
   obtain⟨q1,q2,Gm,ht,hok,hni⟩:=q
   subst q1 q2
   obtain⟨nm,bs,mro,ns,qn,hd,sn,sub,ab,col,del⟩:=cd
   dsimp only at hm Gm hok hni
   subst hm Gm
   have hsl:sl=#[k0,k1,k2,k3,some (.builtin "ValueError.__new__"),k5]:=by
    obtain⟨l⟩:=sl
    simp only at hs
    rw[hs]
   subst hsl
   have hN:h.Ns ns (h.nsMap ns):=.of_isNs (PySem.W.isNs_of_in X hok)
   exact⟨nm,qn,ns,bs,bm,hd,sn,sub,ab,col,dd,k0,k1,k2,k3,k5,_,X _ _ ho,hN,xw X hN hni,PySem.W.tail_of_in X ht⟩
  ·cases q
 ·cases q
section
variable {M:Model}{A:Around}{E:Value->Shared->Prop}{env:Env}{s:Shared}
variable {nm q:Str}{C N:Addr}{bs bm:List Value}{hdct:Bool}{sn:List Str}{sub:List Value}{ab:Bool}{col:Option Bool}{dd:Option Addr}{k0 k1 k2 k3 k5:Option Value}{newId:String}
theorem jH{x:Sem Value}{Q:Flow->Shared->Prop}(BT:bm.contains (.type "BaseException")=true)(hh:A.handled=none)
  (h:wpAny M A x (fun v s1=>∃e o vs,v=.ref e/\s1.heap.get? C=some (excClassObj nm q C N bs bm hdct sn sub ab col dd k0 k1 k2 k3 k5 newId)/\s1.heap.get? e=some o/\o.cls=.ref C/\o.data=.fields vs/\vs[1]? = some .none/\E (.ref e) s1) E s) :
  wpAny M A (raiseStmt env (some x) none) Q E s:=by
 have hcB:(Value.ref C :: bm).contains (.type "BaseException")=true:=by rw[List.contains_cons,BT,EJ]
 unfold raiseStmt
 refine CN (Dc h (fun v s1 z=>?_) fun _ _ z=>z)
 obtain⟨e,o,vs,rfl,hC,he,hcl,hd,h1,hE⟩:=z
 obtain⟨hp,g,d,tk,os⟩:=s1
 repeat (first | (with_reducible refine De he ?_;rw[hcl]) |with_reducible refine De hC ?_ | (with_reducible refine FK hC ?_;rw[hcB]) |with_reducible refine Do he hd h1 ?_ |wp_step)
 exact wpAny_raiseNew_none hh hE
end
def rmH(H:Hp)(e:Addr):Hp:=fun b=>if b=e then none else H b
theorem bU{H:Hp}{e b:Addr}(h:b ≠ e):rmH H e b=H b:=if_neg h
theorem dM{H:Hp}{e:Addr}:rmH H e e=none:=if_pos rfl
theorem Inv.untrack{X:Cx}{dl:List (Addr×Obj)}{σ:St}{H:Hp}{s:Shared}{e:Addr}{φ:Heap->Prop}(I:Inv X dl σ H s)(he:H e=some (.ext φ)):Inv X dl σ (rmH H e) s:=by
 have ne:∀b u,H b=some u->(∀ψ,u ≠ .ext ψ)->b ≠ e:=fun b u z n w=>by rw[w,he]at z;cases z;exact n φ rfl
 have J:=I.un (t':=s.toks) (H':=rmH H e) (h':=s.heap) ⟨fun b o z _ _ _=>z,fun b o z _ _ _=>⟨o.slots,z⟩,fun b o z n _=>?_,fun b o z _=>⟨o,z⟩,fun b xs z=>?_,fun b o xs z=>?_,fun b ps z=>?_⟩ fun b u z=>?_
 ·exact J
 ·by_cases hb:b=e
  ·rw[hb];exact dM
  ·rw[bU hb];exact n
 ·rw[bU (ne b _ z fun ψ w=>by cases w)];exact z
 ·rw[bU (ne b _ z fun ψ w=>by cases w)];exact z
 ·exact⟨#[],by rw[bU (ne b _ z fun ψ w=>by cases w),z];simp⟩
 ·have hb:b ≠ e:=fun w=>by rw[w,dM]at z;cases z
  rw[bU hb]at z
  refine(I.hok b u z).stay (fun c v _ w=>w) (fun c w=>?_) fun c xs w=>?_
  ·rw[bU (ne c _ w fun ψ z=>by cases z)];exact w
  ·rw[bU (ne c _ w fun ψ z=>by cases z)];exact w
theorem xU{K:PySem.W.Frag}{C fI:Addr}(q:kK K C fI=true):∃o,K.lookup C=some o:=by
 unfold kK at q
 split at q
 ·rename_i z;exact⟨_,z⟩
 ·cases q
def Cx.hnd(X:Cx)(a:Addr)(oe:Obj):Cx:={ X with A:=X.A.mark (some (.ref a)),calm:=false,pn:=(a,oe) :: X.pn,xe:=fun _ _=>False }
def Cx.hnd2(X:Cx)(a:Addr)(oe:Obj)(dx:Addr)(od:Obj):Cx:={ X.hnd a oe with pn:=(a,oe) :: (dx,od) :: X.pn }
def ix(dx:Addr)(od:Obj)(vs:List (Str×V)):Prop:=∃mA,(∀h:Heap,h.get? dx=some od->h.Ns1 dx mA)/\∀f,d6 (vs.lookup f) (mA f)
section
variable {X:Cx}{dl:List (Addr×Obj)} {σ:St}{H:Hp}{s:Shared}{a:Addr}{oe:Obj}
theorem Inv.untrackX{e:Addr}{vs:List (Str×V)}(I:Inv X dl σ H s)(he:H e=some (.xd vs)):Inv X dl σ (rmH H e) s:=by
 have ne:∀b u,H b=some u->(∀ψ,u ≠ .xd ψ)->b ≠ e:=fun b u z n w=>by rw[w,he]at z;cases z;exact n vs rfl
 have J:=I.un (t':=s.toks) (H':=rmH H e) (h':=s.heap) ⟨fun b o z _ _ _=>z,fun b o z _ _ _=>⟨o.slots,z⟩,fun b o z n _=>?_,fun b o z _=>⟨o,z⟩,fun b xs z=>?_,fun b o xs z=>?_,fun b ps z=>?_⟩ fun b u z=>?_
 ·exact J
 ·by_cases hb:b=e
  ·rw[hb];exact dM
  ·rw[bU hb];exact n
 ·rw[bU (ne b _ z fun ψ w=>by cases w)];exact z
 ·rw[bU (ne b _ z fun ψ w=>by cases w)];exact z
 ·exact⟨#[],by rw[bU (ne b _ z fun ψ w=>by cases w),z];simp⟩
 ·have hb:b ≠ e:=fun w=>by rw[w,dM]at z;cases z
  rw[bU hb]at z
  refine(I.hok b u z).stay (fun c v _ w=>w) (fun c w=>?_) fun c xs w=>?_
  ·rw[bU (ne c _ w fun ψ z=>by cases z)];exact w
  ·rw[bU (ne c _ w fun ψ z=>by cases z)];exact w
theorem Inv.hnd(I:Inv X dl σ H s){vs:Array Value}(he:s.heap.get? a=some oe)(hd:oe.data=.fields vs)(hH:H a=none):Inv (X.hnd a oe) dl σ H s:=by
 obtain⟨q1,q2,q3⟩:=I.recd he hd
 have nf:a ∉ X.fs:=fun z=>by
  obtain⟨_,o',ho,hnf⟩:=I.funs.mem z
  rw[he]at ho;cases ho
  exact hnf vs hd
 refine⟨⟨I.ok.mod,I.ok.kind,I.ok.glob,I.ok.blt,I.ok.above,I.ok.inj,I.ok.has,I.ok.cab,fun z=>(by cases z),I.ok.frames,I.ok.stk,I.ok.exf,I.ok.bs,I.ok.bsz,I.ok.noex,I.ok.exfs,I.ok.funs,I.ok.frf⟩,I.os,I.bare,I.base,I.loc,I.cell,I.free,I.freeC,fun p hp=>?_,I.hok,I.len⟩
 rcases List.mem_cons.mp hp with rfl |hp
 ·exact⟨he,hH,q1,nf,fun v z=>by rw[hd]at z;cases z⟩
 ·exact I.pin p hp
theorem Inv.hnd2(I:Inv X dl σ H s){vs:Array Value}{dx:Addr}{fs:List (Str×V)}(he:s.heap.get? a=some oe)(hd:oe.data=.fields vs)(hH:H a=none)(hx:H dx=some (.xd fs)):∃od,ix dx od fs/\Inv (X.hnd2 a oe dx od) dl σ (rmH H dx) s:=by
 obtain⟨mA,⟨od,es,ep,e1,e2⟩,hr⟩:=I.hok dx _ hx
 have I2:=I.untrackX hx
 obtain⟨q1,q2,q3⟩:=I.recd he hd
 have nf:a ∉ X.fs:=fun z=>by
  obtain⟨_,o',ho,hnf⟩:=I.funs.mem z
  rw[he]at ho;cases ho
  exact hnf vs hd
 have ndx:dx ∉ X.fs:=fun z=>by
  obtain⟨_,o',ho,_⟩:=I.ok.funs.mem z
  have w:=I.base.free dx o' ho (I.ok.frf dx z) fun y=>I.ok.exfs dx y z
  rw[hx]at w;cases w
 have GV:a ≠ dx:=fun z=>by rw[<-z,hH]at hx;cases hx
 refine⟨od,⟨mA,fun h z=>⟨od,es,ep,z,e2⟩,hr⟩,?_⟩
 refine⟨⟨I.ok.mod,I.ok.kind,I.ok.glob,I.ok.blt,I.ok.above,I.ok.inj,I.ok.has,I.ok.cab,fun z=>(by cases z),I.ok.frames,I.ok.stk,I.ok.exf,I.ok.bs,I.ok.bsz,I.ok.noex,I.ok.exfs,I.ok.funs,I.ok.frf⟩,I2.os,I2.bare,I2.base,I2.loc,I2.cell,I2.free,I2.freeC,fun p hp=>?_,I2.hok,I2.len⟩
 rcases List.mem_cons.mp hp with rfl |hp
 ·exact⟨he,by rw[bU GV];exact hH,q1,nf,fun v z=>by rw[hd]at z;cases z⟩
 ·rcases List.mem_cons.mp hp with rfl |hp
  ·exact⟨e1,dM,fun z=>(by rw[show dx=X.env.locals from z,I.free]at hx;cases hx),ndx,fun v z=>by rw[e2.1]at z;cases z⟩
  ·exact I2.pin p hp
theorem Inv.unhnd2{dx:Addr}{od:Obj}(ok:X.Ok)(I:Inv (X.hnd2 a oe dx od) dl σ H s):Inv X dl σ H s :=
 ⟨ok,I.os,I.bare,I.base,I.loc,I.cell,I.free,I.freeC,fun p hp=>I.pin p (CY _ (CY _ hp)),I.hok,I.len⟩
theorem gd{M:Model}{A:Around}{E:Value->Shared->Prop}{i:Nat}{x:Str}{pos:Pos}{Q:Unit->Shared->Prop}(I:Inv X dl σ H s)(hN:X.N.Nodup)(hi:X.N[i]? = some x)(hx:X.env.scope.names.lookup x=some .local)
  (h:∀s',Inv X dl (σ.set i none) H s'->Q () s'):wpAny M A (do bindName X.env x .none;unbindBehindTheSuite X.env x pos) Q E s:=by
 obtain⟨m,hn,hl⟩:=id I.loc
 have Gh:(X.env.scope.kind == .class || (X.env.scope.kind == .module && X.env.locals != X.env.globals))=false:=by rw[I.ok.kind];rfl
 obtain⟨oL,_,_,hoL,_⟩:=id hn
 refine wpAny_nameGoes_keeps hx hn Gh fun h' v hn' hs=>h _ ?_
 have lt:∀b o,X.s₀.heap.get? b=some o->b ≠ X.env.locals:=fun b o e=>C5 (C6 (CS e) I.ok.above)
 refine⟨I.ok,I.os,I.bare,⟨fun b o e n hb hx=>(hs.2 b (lt b o e)).trans (I.base.keep b o e n hb hx),fun b o e n hb hx=>?_,I.base.free,fun b o e hx=>?_,I.base.tups,I.base.frzs,I.base.tbls⟩,⟨_,hn',fun j y v' e1 e2 e3=>?_⟩,fun y c e=>?_,I.free,I.freeC,fun p hp=>?_,fun b ob e=>?_,by simpa using I.len⟩
 ·obtain⟨sl,e1⟩:=I.base.slot b o e n hb hx
  exact⟨sl,(hs.2 b (lt b o e)).trans e1⟩
 ·obtain⟨o',e1⟩:=I.base.there b o e hx
  exact⟨o',(hs.2 b (lt b o e)).trans e1⟩
 ·have hj:j ≠ i:=fun z=>by
   subst z
   have hlt:j < σ.length:=by rw[I.len];exact(List.getElem?_eq_some_iff.mp e1).1
   rw[D1 hlt]at e2
   cases e2
  rw[CW (Ne.symm hj)]at e2
  obtain⟨u',r',q⟩:=hl j y v' e1 e2 e3
  refine⟨u',r',?_⟩
  rcases q with⟨k,e⟩ |⟨k,c,e,z⟩
  ·refine .inl ⟨k,?_⟩
   have:y ≠ x:=fun e=>hj (jO hN e1 (e ▸ hi))
   simp[this,e]
  ·exact .inr ⟨k,c,e,z.sameBut hs (I.cne y c e)⟩
 ·obtain⟨w',z⟩:=I.cell y c e
  exact⟨w',z.sameBut hs (I.cne y c e)⟩
 ·obtain⟨e,n,ne,nf,d⟩:=I.pin p hp
  exact⟨(hs.2 p.1 ne).trans e,n,ne,nf,d⟩
 ·refine(I.hok b ob e).stay (fun c w' hc q=>(hs.2 c ?_).trans q) (fun _ q=>q) fun _ _ q=>q
  intro z
  subst z
  rcases hc with hc |hc
  ·rw[<-hc,I.free]at e;cases e
  ·rw[I.free]at hc;cases hc
end
section
variable {X:Cx}{body FV:List Stmt}{b₀:Stmt}{cn en:Str}{C fI:Addr}{i:Nat}{np F7 pos:Pos}{tb:TSX}{th:Addr->List (Str×V)->TS}
def eV(i:Nat)(D:dh):dh:=⟨fun σ H=>D.nx (σ.set i none) H,D.rt,fun σ H=>D.bk (σ.set i none) H,fun σ H=>D.ct (σ.set i none) H⟩
theorem SP.gone{M:Model}{A:Around}{E:Value->Shared->Prop}{dl:List (Addr×Obj)}{a dx:Addr}{oe od:Obj}{D:dh}{f:Flow}{s:Shared}(ok:X.Ok)(hN:X.N.Nodup)(hi:X.N[i]? = some en)(hl:X.env.scope.names.lookup en=some .local)
  (h:SP (X.hnd2 a oe dx od) dl (eV i D) f s):wpAny M A (do bindName X.env en .none;unbindBehindTheSuite X.env en pos) (fun _ s5=>SP X dl D f s5) E s:=by
 cases f with
 |next=>obtain⟨σ',H',I,q⟩:=h;exact gd (I.unhnd2 ok) hN hi hl fun s' J=>⟨_,H',J,q⟩
 |brk=>obtain⟨σ',H',I,q⟩:=h;exact gd (I.unhnd2 ok) hN hi hl fun s' J=>⟨_,H',J,q⟩
 |cont=>obtain⟨σ',H',I,q⟩:=h;exact gd (I.unhnd2 ok) hN hi hl fun s' J=>⟨_,H',J,q⟩
 |ret u=>obtain⟨v,σ',H',I,r,q⟩:=h;exact gd (I.unhnd2 ok) hN hi hl fun s' J=>⟨v,_,H',J,r,q⟩
def WH(C:Addr)(i:Nat)(th:Addr->List (Str×V)->TS)(D:dh):XW:=fun σ c d H=>∃dx fs,c=.ref C/\d=some dx/\H dx=some (.xd fs)/\∀a,H a=none->th a fs (eV i D) (σ.set i (some (.ref a))) (rmH H dx)
theorem zD(hb:gZ X body tb)(hst:X.stack=X.env :: X.outer)(hfr:X.env.frame=some X.env.locals)(hq:kK X.K C fI=true)(hg:Gl X cn)(hm:X.mg cn=some (.ref C))(hN:X.N.Nodup)(hi:X.N[i]? = some en)(hl:X.env.scope.names.lookup en=some .local)
  (hs:∀(a dx:Addr) (oe od:Obj) (vs:Array Value) (fs:List (Str×V)),oe.cls=.ref C->oe.dict=some dx->oe.data=.fields vs->dx ≠ a->ix dx od fs->PSs (X.hnd2 a oe dx od) (b₀ :: FV) (th a fs)) (hf:X.fn en=true\/X.env.scope.names.lookup en=some .local:=by exact .inr (by assumption)) (hdb:(cn == ("__debug__" : Str))=false:=by decide) :
  PS X (.Try body [.ExceptHandler (some (.Name cn np)) (some en) (b₀ :: FV) F7] [] [] pos) (fun D σ H=>tb D (WH C i th D) σ H):=by
 intro dl s σ H D I h
 have ok:=I.ok
 have pass:∀(f:Flow) (s1:Shared),SP X dl D f s1->(match f with |.next=>wpAny (model X.prog X.w) X.A (execs [] X.env) (SP X dl D) X.xe s1 |f=>SP X dl D f s1):=fun f s1 q=>by
  cases f with
  |next=>exact Ee q
  |ret v=>exact q
  |brk=>exact q
  |cont=>exact q
 refine wpAny_Try_except (Dc (hb dl s σ H D (WH C i th D) _ I h fun e s' x=>x) pass fun e s1 x=>?_)
 obtain⟨σ1,a,C',dxo,o0,H1,rfl,I1,er,eo,hp,dx,fs,hc,hd,hxd,hw⟩:=x
 cases hc
 cases hd
 have landed:∀(h4:Heap) (T:Addr),Inv X dl σ1 H1 { s1 with heap:=h4 }->Fly h4 o0 a T (rawInt X.env.locals)->H1 T=none->X.s₀.heap.objs.size<=T->(∀p ∈ X.pn ++ dl,p.1 ≠ T) ->
   wpAny (model X.prog X.w) X.A (setFlight (.ref a) none) (fun _ s3=>wpAny (model X.prog X.w) X.A (handleBy (.ref a) X.env [.ExceptHandler (some (.Name cn np)) (some en) (b₀ :: FV) F7]) (SP X dl D) X.xe s3) X.xe { s1 with heap:=h4 }:=by
  intro h4 T I4 f4 hT1 hT2 hT3
  refine bR (s:={ s1 with heap:=h4 }) f4 fun h5 k5 _ f5=>?_
  have I5:Inv X dl σ1 H1 { s1 with heap:=h5 }:=Inv.kp (s:={ s1 with heap:=h4 }) (ch:=[T]) I4 (k5.wide (fun _ z=>by cases z) fun _ z=>z) fun b hb=>by
   rw[List.mem_singleton.mp hb]
   exact⟨hT2,f4.recd.2,hT3,hT1⟩
  obtain⟨vs5,oT5,ts5,g1,g2,g3,g4,g5,g6⟩:=id f5
  have Ih:=I5.hnd (a:=a) g1 rfl eo.free
  refine wpAny_handleBy_cons (codeAny_handlers_test (fm (X:=X.hnd a _) Ih hg hm ?_ hdb)) (by intro q;cases q)
  obtain⟨nm,qn,N,bs,bm,hdct,sn,sub,ab,col,dd,k0,k1,k2,k3,k5',mN,hC,_,_,T0⟩:=mD I5.kIn hq
  have BT:bm.contains (.type "BaseException")=true:=T0.hasType (DC).hasBase
  obtain⟨hh1,gg,dr,tk,os⟩:=s1
  refine wpAny_excMatches_sub_self hC g1 eo.cls BT ?_
  refine codeAny_handlers_suite_as (bR (s:=⟨h5,gg,dr,tk,os⟩) f5 fun h6 k6 _ f6=>?_)
  have I6:Inv X dl σ1 H1 ⟨h6,gg,dr,tk,os⟩:=Inv.kp (s:=⟨h5,gg,dr,tk,os⟩) (ch:=[T]) I5 (k6.wide (fun _ z=>by cases z) fun _ z=>z) fun b hb=>by
   rw[List.mem_singleton.mp hb]
   exact⟨hT2,f5.recd.2,hT3,hT1⟩
  obtain⟨vs6,oT6,ts6,r1,_⟩:=id f6
  obtain⟨od,hdh,Ih6⟩:=I6.hnd2 (a:=a) r1 rfl eo.free hxd
  refine eI (X:=X.hnd2 a _ dx od) Ih6 hN hi (.inl hl) (v:=V.ref a) rfl (fun s7 I7=>?_) hf
  exact Dc (hs a dx { o0 with data:=.fields vs6 } od vs6 fs eo.cls eo.dict rfl (eo.ne _ rfl) hdh dl s7 _ _ (eV i D) I7 (hw a eo.free)) (fun f s8 q=>q.gone ok hN hi hl) fun _ _ z=>False.elim z
 have hA:X.A.frames=some (X.env :: X.outer):=by rw[<-hst];exact ok.frames
 have hF:s1.heap.FunFrames X.base (X.env :: X.outer):=by rw[<-hst];exact I1.stack
 have hz:=I1.sz
 have pinT:∀T,s1.heap.objs.size<=T->∀p ∈ X.pn ++ dl,p.1 ≠ T:=fun T hT p hp z=>absurd (CS (I1.pin p hp).1) (by rw[z];exact Nat.not_lt.mpr hT)
 rcases er with⟨vs,q1,q2,q3⟩ |⟨T,fl,hf1,rfl |rfl,hT,hTz,hTp⟩
 ·refine fj (base:=X.base) hA hF hfr q1 q2 q3 fun h4 T k4 z4 f4=>?_
  have I4:Inv X dl σ1 H1 { s1 with heap:=h4 }:=I1.kp (ch:=[a]) (by unfold frs;rw[hst];exact k4) fun b hb=>by
   rw[List.mem_singleton.mp hb]
   exact⟨eo.new,⟨_,vs,q1,rfl⟩,hp,eo.free⟩
  exact landed h4 T I4 f4 (I1.hok.fresh z4) (CZ hz z4) (pinT T z4)
 ·refine gp (base:=X.base) hA hF hfr hf1 fun h4 T' k4 z4 f4=>?_
  have I4:Inv X dl σ1 H1 { s1 with heap:=h4 }:=I1.kp (ch:=[a,T]) (by unfold frs;rw[hst];exact k4) fun b hb=>by
   rcases List.mem_cons.mp hb with rfl |hb
   ·exact⟨eo.new,hf1.recd.1,hp,eo.free⟩
   ·rw[List.mem_singleton.mp hb]
    exact⟨hTz,hf1.recd.2,hTp,hT⟩
  exact landed h4 T' I4 f4 (I1.hok.fresh z4) (CZ hz z4) (pinT T' z4)
 ·exact hV hfr hf1 (landed s1.heap T I1 hf1 hT hTz hTp)
end
section
variable {X:Cx}{a dx C:Addr}{oe od:Obj}{vs:Array Value}{fs:List (Str×V)} {cd:ClassData}{e:Expr}{f:Str}{ta:TE}{pos:Pos}
theorem xb(hc:oe.cls=.ref C)(hd:oe.dict=some dx)(Gc:oe.data=.fields vs)(hne:dx ≠ a)(xc:iR X.K C cd)(hn:PySem.W.findIn X.K (.ref C) f=some none)(hdh:ix dx od fs)(he:PE (X.hnd2 a oe dx od) e ta)(hb:attributeBase e f X.env (eval e X.env)=eval e X.env:=by rfl) :
  PE (X.hnd2 a oe dx od) (.Attribute e f pos) (fun σ H Q=>ta σ H fun x H1=>x=.ref a/\∃v,fs.lookup f=some v/\Q v H1):=by
 intro dl s σ H Q I h
 refine yq hb (thn (he dl s σ H _ I h) fun u s1 z=>?_)
 obtain⟨x,H1,I1,rx,ex,v,hl,q⟩:=z
 subst ex
 obtain rfl:u=Value.ref a:=rx
 have hp:=(I1.pin (a,oe) (C1 ..)).1
 obtain⟨mA,hns,hr⟩:=hdh
 have hns:=hns s1.heap (I1.pin (dx,od) (CY _ (C1 ..))).1
 obtain⟨u',hu,ru⟩:=d6.some_of (v:=v) (o:=mA f) (by rw[<-hl];exact hr f)
 have hI:s1.heap.Inst a C mA:=⟨oe,hp,hc,fun c z=>(by rw[Gc]at z;cases z),.inr ⟨dx,hd,hne,hns⟩⟩
 have hk:=I1.kIn
 have GC:∀tk,EP (X.hnd2 a oe dx od) dl σ Q u' { s1 with toks:=tk }:=fun tk=>⟨v,H1,I1.tok tk,ru,q⟩
 obtain⟨hh,g,dr,tk,os⟩:=s1
 exact vK hk hI xc.cls xc.hd xc.exc xc.ga xc.gt hn hu (PySem.W.handedOut_of (sT ru)) (GC _)
end
section
variable {prog:Program}{w:World}{A:Around}{E:Value->Shared->Prop}{h:Heap}{g:Array GenState}{dr:Drawn}{t:Nat}{os:OsState}{K:PySem.W.Frag}{a C:Addr}{o:Obj}{cd:ClassData}
theorem lkS{M:Model}{base:Value}{r:Bool}{Q:Bool->Shared->Prop}(X:K.In h)(e:PySem.W.mroIn K C base=some r)(q:Q r ⟨h,g,dr,t,os⟩):wpAny M A (isSubtype (.ref C) base) Q E ⟨h,g,dr,t,os⟩:=PySem.W.looks_mroIn X e _ _ _ _ (fun _ _ z=>z) q
theorem tH{R:Result->Shared->Prop}(X:K.In h)(hx:h.get? a=some o)(hcl:o.cls=.ref C)(ho:PySem.W.mroIn K C (.type "object")=some true)(q:R (.ok (.ret (.ref C))) ⟨h,g,dr,t,os⟩) :
  codeAny (model prog w) A (.call (.builtin "getset_descriptor.__get__") ⟨[.builtin "object.__class__",.ref a,.ref C],[]⟩) R ⟨h,g,dr,t,os⟩:=by
 have hT5:(⟨h,g,dr,t,os⟩:Shared).TypeIs (.builtin "object.__class__") "getset_descriptor" := FB
 have hs:PySem.W.mroIn K C (.type (".".intercalate ("object.__class__".cutAt '.').dropLast))=some true:=by rw[F.owner_object_class];exact ho
 refine Em F.slot_gs_get.plain F.entry_gs_get (F.slot_gs_get.check _ _ _ _ _ _ _ _ hT5 (F.args_gs_get _ _ _) ?_)
 repeat (any_goals (first |assumption | (with_reducible refine De hx ?_;rw[hcl]) |with_reducible refine lkS X hs ?_ |wp_step))
 refine⟨Ed _ (by decide +kernel),E6 F.entry_object_class ?_⟩
 repeat (any_goals (first |assumption | (with_reducible refine De hx ?_;rw[hcl]) |wp_step))
theorem pb{Q:Fin->Shared->Prop}{tk:Tok}(X:K.In h)(hx:h.get? a=some o)(hcl:o.cls=.ref C)(ho:PySem.W.mroIn K C (.type "object")=some true)(hc:PySem.W.findIn K (.ref C) "__class__" = some (some (.builtin "object.__class__")))
  (q:Q (.done (.ret (.ref C))) ⟨h,g,dr,t,os⟩):wpAny (model prog w) A (Builtin.«object.__getattribute__» ⟨[.ref a,.str "__class__" tk],[]⟩) Q E ⟨h,g,dr,t,os⟩:=by
 have hT5:(⟨h,g,dr,t,os⟩:Shared).TypeIs (.builtin "object.__class__") "getset_descriptor" := FB
 have c5:=FB
 have c6:=F.slot_gs_get.lookup
 have c7:=F.slot_gs_set.lookup
 repeat (any_goals (first |assumption | (with_reducible refine De hx ?_;rw[hcl]) |with_reducible refine lkF X hc ?_ |wp_step))
 refine tH X hx hcl ho ?_
 repeat (any_goals (first |assumption |wp_step))
theorem wu{Q:Value->Shared->Prop}{tk:Tok}{fill expr:Bool}(X:K.In h)(hx:h.get? a=some o)(hcl:o.cls=.ref C)(ho:PySem.W.mroIn K C (.type "object")=some true)(hb:PySem.W.mroIn K C (.type "BaseException")=some true)
  (hc:PySem.W.findIn K (.ref C) "__class__" = some (some (.builtin "object.__class__"))) (hga:PySem.W.findIn K (.ref C) "__getattribute__" = some (some (.builtin "BaseException.__getattribute__"))) (hgt:PySem.W.findIn K (.ref C) "__getattr__" = some none)
  (q:Q (.ref C) ⟨h,g,dr,t,os⟩):wpAny (model prog w) A (getAttrBy (.ref a) (.str "__class__" tk) fill expr) Q E ⟨h,g,dr,t,os⟩:=by
 have hx0:(expr && onTheHeap (Value.builtin "BaseException.__getattribute__"))=false:=by cases expr <;> rfl
 have hx1:(onTheHeap (Value.ref C) && Value.builtin "BaseException.__getattribute__" == Value.builtin "object.__getattribute__")=false:=by
  rw[show(Value.builtin "BaseException.__getattribute__" == Value.builtin "object.__getattribute__")=false by decide +kernel];rfl
 have hbs:bindSpecial (.builtin "BaseException.__getattribute__") (.ref a)=pure (.builtin "BaseException.__getattribute__",[.ref a]):=(Ec).ga.bind (.ref a)
 have IA:PySem.W.Looks (model prog w) h (typeOf (.ref a)) (.ref C):=(PySem.W.Looks.ld (part:=none) hx).andThen (by rw[hcl];exact .now)
 have sub:PySem.W.Looks (model prog w) h (isInstance (.ref a) (.type "BaseException")) true:=IA.andThen (PySem.W.looks_mroIn X hb)
 have hk:builtinKind "BaseException.__getattribute__" = some .slot:=by decide +kernel
 have hsp:splitId "BaseException.__getattribute__" = some ("BaseException","__getattribute__"):=by decide +kernel
 repeat (any_goals (first |assumption | (with_reducible refine De hx ?_;rw[hcl]) |with_reducible refine lkF X hga ?_ |with_reducible refine lkF X hgt ?_ |wp_step))
 refine Em (Ec).ga.plain PySem.F.entry_bexc_ga (@PySem.W.check_slot (model prog w) _ _ ⟨h,g,dr,t,os⟩ "BaseException.__getattribute__" "BaseException" "__getattribute__" (.ref a) [.str "__class__" tk] [] _ hk hsp sub (PySem.F.args_bexc_ga (.ref a) (.str "__class__" tk)) ?_)
 refine pb X hx hcl ho hc ?_
 repeat (any_goals (first |assumption |wp_step))
theorem rN{Q:Option Value->Shared->Prop}(X:K.In h)(hx:h.get? a=some o)(hcl:o.cls=.ref C)(ho:PySem.W.mroIn K C (.type "object")=some true)(hb:PySem.W.mroIn K C (.type "BaseException")=some true)
  (hc:PySem.W.findIn K (.ref C) "__class__" = some (some (.builtin "object.__class__"))) (hga:PySem.W.findIn K (.ref C) "__getattribute__" = some (some (.builtin "BaseException.__getattribute__"))) (hgt:PySem.W.findIn K (.ref C) "__getattr__" = some none)
  (q:Q (some (.ref C)) ⟨h,g,dr,t + 1,os⟩):wpAny (model prog w) A (getAttr? (.ref a) "__class__") Q E ⟨h,g,dr,t,os⟩:=by
 unfold getAttr? getAttrBy?
 repeat (any_goals (first |assumption |with_reducible apply wu X hx hcl ho hb hc hga hgt |wp_step))
theorem oi(xc:iR K C cd)(hc:PySem.W.findIn K (.ref C) "__class__" = some (some (.builtin "object.__class__"))):PySem.W.KitX K (.ref a) (.ref C) (fun h=>∃o,h.get? a=some o/\o.cls=.ref C):=by
 have ne0:cd.mro.isEmpty=false:=by
  cases z:cd.mro with
  |nil=>have w:=xc.obj;rw[z]at w;cases w
  |cons _ _=>rfl
 have ho:PySem.W.mroIn K C (.type "object")=some true:=by unfold PySem.W.mroIn;rw[xc.cls,CA,if_neg (by rw[ne0];decide),xc.obj]
 have hb:PySem.W.mroIn K C (.type "BaseException")=some true:=by unfold PySem.W.mroIn;rw[xc.cls,CA,if_neg (by rw[ne0];decide),xc.exc]
 have lk:∃c' d' sl',K.lookup C=some ⟨c',d',.cls cd,sl'⟩:=by
  have z:=xc.cls
  unfold PySem.W.clsIn at z
  split at z
  ·rename_i hl
   cases z
   exact⟨_,_,_,hl⟩
  ·cases z
 obtain⟨c',d',sl',hl⟩:=lk
 refine⟨fun M h X p=>?_,fun M h X p=>?_,fun h tp dd its n sl X htp=>?_,fun {prog w A E Q s} X p k=>?_⟩
 ·obtain⟨o,z1,z2⟩:=p
  exact(PySem.W.Looks.ld (part:=none) z1).andThen (by rw[z2];exact .now)
 ·intro A' Q' E' s' k q
  unfold isType loadHead
  exact CN (Dv (k _ _ (X _ _ hl)) (CP q))
 ·refine Bool.eq_false_iff.mpr fun q=>?_
  have e:C=tp:=Value.ref.inj (beq_iff_eq.mp q)
  subst e
  have z:=(X _ _ hl).symm.trans htp
  cases z
 ·obtain⟨o,z1,z2⟩:=p
  obtain⟨hh,gg,d,tt,oss⟩:=s
  exact rN X z1 z2 ho hb hc xc.ga xc.gt k
end
section
variable {X:Cx}{a C dx:Addr}{oe od:Obj}{cd:ClassData}
theorem mT(hcl:oe.cls=.ref C)(xc:iR X.K C cd)(hc:PySem.W.findIn X.K (.ref C) "__class__" = some (some (.builtin "object.__class__"))) :
  bQ (X.hnd2 a oe dx od) (.builtin "isinstance") (fun xs H Q=>∃(tp:Addr) (Cs:List Addr) (b:Bool),xs=[.ref a,.ref tp]/\H tp=some (.tup (Cs.map V.ref))/\PySem.W.kitAny X.K (.ref C) (Cs.map Value.ref)=some b/\Q (.bl b) H):=by
 intro dl s σ H xs us Q I r h
 obtain⟨tp,Cs,b,rfl,htp,e,q⟩:=h
 obtain⟨u,w',rfl,ru,rw'⟩:=aM.two r
 obtain rfl:u=Value.ref a:=ru
 obtain rfl:w'=Value.ref tp:=rw'
 have hp:=(I.pin (a,oe) (C1 ..)).1
 obtain⟨_,its,rv,⟨c,dd,dt,sl⟩,g,g2,n,g3⟩:=I.hok tp _ htp
 cases g2
 cases g3
 have hits:∀(Cs:List Addr) (its:List Value),aM (Cs.map V.ref) its->its=Cs.map Value.ref:=fun Cs=>by
  induction Cs with
  |nil=>intro its z;cases z;rfl
  |cons d Cs ih =>
   intro its z
   cases z with
   |cons z1 z2=>rw[ih _ z2,CI];congr 1
 have e2:=hits Cs its rv
 subst e2
 exact PySem.W.kia_tup (oi xc hc) I.kIn ⟨_,hp,hcl⟩ g e (fun z=>nomatch z) fun tk=>⟨.bl b,H,I.tok tk,rfl,q⟩
theorem kM(hcl:oe.cls=.ref C)(xc:iR X.K C cd)(hc:PySem.W.findIn X.K (.ref C) "__class__" = some (some (.builtin "object.__class__"))) :
  bQ (X.hnd2 a oe dx od) (.builtin "isinstance") (fun xs H Q=>∃(y:V) (c:Value) (b:Bool),xs=[.ref a,y]/\(∀u,aJ y u->u=c)/\PySem.W.kitOne X.K (.ref C) c=some b/\Q (.bl b) H):=by
 intro dl s σ H xs us Q I r h
 obtain⟨y,c,b,rfl,hy,e,q⟩:=h
 obtain⟨u,w',rfl,ru,rw'⟩:=aM.two r
 obtain rfl:u=Value.ref a:=ru
 obtain rfl:=hy w' rw'
 have hp:=(I.pin (a,oe) (C1 ..)).1
 exact Dl (oi xc hc) I.kIn ⟨_,hp,hcl⟩ e (fun z=>nomatch z) fun tk=>⟨.bl b,H,I.tok tk,rfl,q⟩
end
end L2
namespace L2.Cu
open PySem PySem.Spec PyProof.Rows
def jc:D->Bool
 |.non=>true
 |.bl _=>true
 |.int _=>true
 |.str _=>true
 |_=>false
def scV:D->V
 |.bl b=>.bl b
 |.int i=>.int i
 |.str x=>.str x
 |_=>.non
theorem uo{F:Hp}{v:V}{d:D}(r:Rep F v d)(h:jc d=true):v=scV d:=by cases r <;> first |rfl |cases h
theorem zh{F:Hp}{d:D}(h:jc d=true):Rep F (scV d) d:=by cases d <;> first |exact .non |exact .bl _ |exact .int _ |exact .str _ |cases h
abbrev scF(fs:List (Str×D)):List (Str×V):=fs.map fun p=>(p.1,scV p.2)
inductive bC where
 |ok (r:Out) |xc (n:Nat) (fs:List (Str×D)) (E:DE)
def lW(fs:List (Str×D))(H:Hp)(P:Option Addr->Hp->Prop):Prop:=match fs with
 | []=>P none H
 |y :: r=>∀dx,H dx=none->P (some dx) (upd H dx (.xd (scF (y :: r))))
theorem lW.of{y:Str×D}{fs:List (Str×D)}{H:Hp}{P:Option Addr->Hp->Prop}(q:∀dx,H dx=none->P (some dx) (upd H dx (.xd (scF (y :: fs))))):lW (y :: fs) H P:=q
def i_(cl:Nat->Addr)(B:Hp×Hp)(F:Hp)(Z:dh)(W:XW):bC->Prop
 |.ok r=>kP B F Z r
 |.xc n fs E=>∀σ F' H,Ok B F' H σ E->Fr F F'->lW fs H (W σ (.ref (cl n)))
theorem i_.mono{cl:Nat->Addr}{B:Hp×Hp}{F F1:Hp}{Z:dh}{W:XW}{r:bC}(h:i_ cl B F Z W r)(x:Fr F F1):i_ cl B F1 Z W r:=by
 cases r with
 |ok r=>exact kP.mono h x
 |xc n fs E=>exact fun σ F' H k y=>h σ F' H k fun a o e=>y a o (x a o e)
def tSX(cl:Nat->Addr)(f:DE->Option bC):TSX:=fun Z W σ H=>∃B F E r,Ok B F H σ E/\f E=some r/\i_ cl B F Z W r
structure EsX (X:Cx) (cl:Nat->Addr) (st:Stmt) (f:DE->Option bC):Prop where
 h:PSX X st (tSX cl f)
structure kF (X:Cx) (cl:Nat->Addr) (st:List Stmt) (f:DE->Option bC):Prop where
 h:gZ X st (tSX cl f)
section
variable {X:Cx}{cl:Nat->Addr}{st:Stmt}{bc:List Stmt}{pos:Pos}
theorem PSX.by{t:TSX}{f:DE->Option bC}(h:PSX X st t)(w:∀Z W σ H,tSX cl f Z W σ H->t Z W σ H):EsX X cl st f:=⟨fun dl s σ H Z W xe I q=>h dl s σ H Z W xe I (w Z W σ H q)⟩
theorem gZ.by{t:TSX}{f:DE->Option bC}(h:gZ X bc t)(w:∀Z W σ H,tSX cl f Z W σ H->t Z W σ H):kF X cl bc f:=⟨fun dl s σ H Z W xe I q=>h dl s σ H Z W xe I (w Z W σ H q)⟩
def okX(f:DE->Option Out)(E:DE):Option bC:=(f E).map bC.ok
theorem nK{f:DE->Option Out}{Z:dh}{W:XW}{σ:St}{H:Hp}(h:tSX cl (okX f) Z W σ H):tS f Z σ H:=by
 obtain⟨B,F,E,r,k,q,w⟩:=h
 unfold okX at q
 cases hf:f E with
 |none=>rw[hf]at q;cases q
 |some r1=>rw[hf]at q;cases q;exact⟨B,F,E,r1,k,hf,w⟩
theorem gU{f:DE->Option Out}(h:Es X.nox st f):EsX X cl st (okX f):=PSX.by (zB h.h) fun _ _ _ _ q=>nK q
theorem rh{f:DE->Option Out}(h:Ess X.nox bc f):kF X cl bc (okX f):=gZ.by (wQ h.h) fun _ _ _ _ q=>nK q
def d8(f g:DE->Option bC)(E:DE):Option bC:=(f E).bind fun r=>match r with
 |.ok (.nx E')=>g E'
 |r=>some r
theorem cq{f g:DE->Option bC}(h:EsX X cl st f)(h2:kF X cl bc g):kF X cl (st :: bc) (d8 f g):=gZ.by (rY h.h h2.h) fun Z W σ H z=>by
 obtain⟨B,F,E,r,k,q,w⟩:=z
 unfold d8 at q
 obtain⟨r1,hf,q⟩:=bS q
 cases r1 with
 |xc n fs E'=>cases q;exact⟨B,F,E,_,k,hf,w⟩
 |ok r1 =>
  cases r1 with
  |nx E'=>exact⟨B,F,E,_,k,hf,fun σ' F' H' k' y=>⟨B,F',E',r,k',q,w.mono y⟩⟩
  |rt d=>cases q;exact⟨B,F,E,_,k,hf,w⟩
  |bk E'=>cases q;exact⟨B,F,E,_,k,hf,w⟩
  |ct E'=>cases q;exact⟨B,F,E,_,k,hf,w⟩
theorem dW{f:DE->Option bC}(h:EsX X cl st f):kF X cl [st] f:=⟨uy h.h⟩
def ifX(c:DE->Option Bool)(f g:DE->Option bC)(E:DE):Option bC:=(c E).bind fun b=>if b=true then f E else g E
theorem vP{c:Expr}{a b:List Stmt}{cf:DE->Option Bool}{f g:DE->Option bC}(hc:Et X.nox c cf)(ha:kF X cl a f)(hb:kF X cl b g):EsX X cl (.If c a b pos) (ifX cf f g):=PSX.by (zC hc.h ha.h hb.h) fun Z W σ H z=>by
 obtain⟨B,F,E,r,k,q,w⟩:=z
 unfold ifX at q
 obtain⟨x,hf,q⟩:=bS q
 refine⟨B,F,E,x,k,hf,fun F1 H1 x1=>?_⟩
 cases x with
 |true=>exact ou ⟨B,F1,E,r,k.ext x1,q,w.mono x1.fr⟩
 |false=>exact ow ⟨B,F1,E,r,k.ext x1,q,w.mono x1.fr⟩
def jj(n:Nat)(E:DE):Option bC:=some (.xc n [] E)
end
def pk(cl:Nat->Addr)(n:Nat)(g:List D->Option (Option (Nat×List (Str×D)))):Sp:=fun vs H Q E=>∃F ds r,(∀a o,F a=some o->H a=some o)/\Reps F vs ds/\ds.length=n/\g ds=some r /\
 match r with
 |none=>∀v F' H',Ext F H F' H'->Q v H'
 |some (m,fs)=>∀F' H',Ext F H F' H'->lW fs H' (E (.ref (cl m)))
def km(n:Nat)(g:List D->Option (Option (Nat×List (Str×D))))(f:DE->Option (List D))(E:DE):Option bC:=(f E).bind fun ds=>if ds.length=n then(g ds).map fun r=>match r with
 |none=>.ok (.nx E)
 |some (m,fs)=>.xc m fs E else none
section
variable {X:Cx}{cl:Nat->Addr}
theorem oJ{k:Nat}{fa:Addr}{fd:FuncData}{ps:List Str}{x:Str}{p cpos pos:Pos}{e:Expr}{es:List Expr}{n:Nat}{g:List D->Option (Option (Nat×List (Str×D)))}{f:DE->Option (List D)}(Fn:a9 X.prog X.w X.K X.mg X.base (CX1 X.prog X.w) k fa fd ps (pk cl n g))(hr:ca k X.A)(hg:Gl X x)
  (hm:X.mg x=some (.ref fa)) (hk:PySem.W.keepIn X.K (.ref fa)=true) (hb:eW X.K fd ps []) (ha:Ea X.nox (e :: es) f) (hdb:(x == ("__debug__" : Str))=false:=by decide)
  (he:aD e=true:=by rfl) (hpl:es.all aD=true:=by rfl) (hs:swapsWith (.Call (.Name x p) (e :: es) [] cpos) none pos.line X.env=pure false:=by rfl):EsX X cl (.Expr (.Call (.Name x p) (e :: es) [] cpos) pos) (km n g f) :=
 PSX.by (uz (nE Fn hr hg hm hk hb ha.h hdb (aC e es X.env he) (cL cpos X.env es hpl)) hs) fun Z W σ H z=>by
  obtain⟨B,F,E,r,k,q,w⟩:=z
  unfold km at q
  cases hf:f E with
  |none=>rw[hf]at q;cases q
  |some ds =>
   rw[hf]at q
   by_cases hn:ds.length=n
   ·have q':(g ds).map (fun r=>match r with |none=>bC.ok (.nx E) |some (m,fs)=>.xc m fs E)=some r:=by
     have:=q
     simpa[hn] using this
    cases hgd:g ds with
    |none=>rw[hgd]at q';cases q'
    |some r0 =>
     rw[hgd]at q'
     refine⟨B,F,E,ds,k,hf,fun vs F1 H1 x1 r1=>⟨fun c d H'=>W σ c d H',⟨F1,ds,r0,x1.sub,r1,hn,hgd,?_⟩,fun _ _ _ z=>z⟩⟩
     cases r0 with
     |none =>
      cases q'
      exact fun v F2 H2 x2=>w σ F2 H2 (k.ext (x1.trans x2)) (x1.trans x2).fr
     |some mf =>
      obtain⟨m,fs⟩:=mf
      cases q'
      exact fun F2 H2 x2=>w σ F2 H2 (k.ext (x1.trans x2)) (x1.trans x2).fr
   ·have:(none:Option bC)=some r:=by
     have:=q
     simpa[hn] using this
    cases this
end
def qB(n m:Nat)(b:DE->Option bC)(ds:List D):Option (Option (Nat×List (Str×D))):=if ds.length=n then(b (ds.map Sl.val ++ List.replicate (m - n) Sl.no)).bind fun r=>match r with
 |.ok (.nx _)=>some none
 |.ok (.rt _)=>some none
 |.xc k fs _=>some (some (k,fs))
 |_=>none else none
theorem BI{P:Program}{w:World}{K:PySem.W.Frag}{mg:Str->Option Value}{base:Heap}{x qual:Str}{st:Stmt}{f:Addr}{fd:FuncData}{N ps:List Str}{k:Nat}{cl:Nat->Addr}{b:DE->Option bC}(Fn:Fun K x qual st f fd)(S:aS N ps (ao st))
  (FU:∀(cdv:Value) (A:Around) (outer:List Env) (s:Shared) (H:Hp) (E:XK),ca k (A.deeper (envOfC qual (ao st) s.heap.objs.size f cdv)) ->
   kF (iN (CX1 P w) P w K mg base N qual (ao st) f cdv A outer s H E) cl (cG st) b):a9 P w K mg base (CX1 P w) (k + 1) f fd ps (pk cl ps.length (qB ps.length N.length b)):=by
 obtain⟨oc,od,kV,doc,pm,an,cdv,ct,osl,rfl,lk,hcd⟩:=Fn.ex
 refine Au lk hcd S (fun vs H Q E h=>?_) fun A outer s H vs Q E hr h=>?_
 ·obtain⟨F,ds,d,_,r,hl,_⟩:=h
  rw[r.length,hl]
 ·obtain⟨F,ds,r0,hs,r,hl,hg,q⟩:=h
  refine⟨_,(FU cdv A outer s H E hr).h,?_⟩
  unfold qB at hg
  rw[if_pos hl]at hg
  obtain⟨rr,hb,hg⟩:=bS hg
  have k0:=nJ (N:=N) hs r
  rw[hl]at k0
  refine⟨(F,H),F,_,rr,k0,hb,?_⟩
  cases rr with
  |xc m fs E'=>cases hg;exact fun σ' F' H' k' _=>q F' H' k'.ent
  |ok rr =>
   cases rr with
   |rt d'=>cases hg;exact fun v F' H' x r'=>q v F' H' x
   |nx E'=>cases hg;exact fun σ' F' H' k' _=>q .non F' H' k'.ent
   |bk E'=>cases hg
   |ct E'=>cases hg
end L2.Cu
namespace L2
open PySem PySem.Spec PyProof.Rows
theorem jl{k:Key}{u:Value}(h:gH k u=true):aJ (kV k) u:=by
 rcases be h with⟨i,t,rfl,rfl⟩ |⟨x,t,rfl,rfl⟩ |⟨rfl,rfl⟩
 ·exact⟨t,rfl⟩
 ·exact⟨t,rfl⟩
 ·rfl
theorem eO{X:Cx}{dl:List (Addr×Obj)}{σ:St}{H:Hp}{s:Shared}{d:Addr}{ob:Obj}{kvs:List (Key×V)}(I:Inv X dl σ H s)(e:H d=some (.frz ob (.dK kvs))) :
  ∃vs,KV kvs vs/\(d == sysModules)=false/\kvs.length<=sizeLine/\(∃es ep,ob.data=.dict es ep)/\∀es ep,ob.data=.dict es ep->s.heap.DictAt (az X.prog X.w) d vs ep:=by
 obtain⟨h0,hz,hd,vs,rel,dd⟩:=I.hok d _ e
 obtain⟨o,es',ep',h1,h2,h3,h4⟩:=dd
 rw[h0]at h1;cases h1
 refine⟨vs,rel,hd,hz,⟨es',ep',h3⟩,fun es ep he=>?_⟩
 obtain⟨rfl,rfl⟩:es=es'/\ep=ep':=by rw[he]at h3;cases h3;exact⟨rfl,rfl⟩
 exact⟨ob,es,h0,h2,he,h4⟩
theorem KV.at{kvs:List (Key×V)}{vs:List (Key×Value)}(r:KV kvs vs){i:Nat}{k:Key}{u:Value}(h:vs[i]? = some (k,u)):∃v,kvs[i]? = some (k,v)/\aJ v u:=by
 induction r generalizing i with
 |nil=>simp at h
 |@cons p q _ _ h1 t ih =>
  cases i with
  |zero =>
   simp at h
   subst h
   have h3:p.1=k:=h1.1
   exact⟨p.2,by rw[<-h3];rfl,h1.2⟩
  |succ j =>
   simp at h
   obtain⟨v,e1,e2⟩:=ih h
   exact⟨v,by simpa using e1,e2⟩
def Itd(d:Addr)(ob:Obj)(kvs:List (Key×V)):It :=
 ⟨fun i H=>H d=some (.frz ob (.dK kvs))/\i < kvs.length,fun i H x H'=>H'=H/\∃k v,kvs[i]? = some (k,v)/\x=kV k,fun i H=>H d=some (.frz ob (.dK kvs))/\kvs.length=i⟩
theorem pf{P:Program}{w:World}{K:PySem.W.Frag}{tg:Expr}(d it:Addr)(ob:Obj)(kvs:List (Key×V))(es:Array DictEntry)(ep:Nat)(he:ob.data=.dict es ep):kO P w K tg (Itd d ob kvs) [it] it (fun i h=>h.IsKeyIter it d i kvs.length ep) where
 mem:=by simp
 obj:=fun i h st b hb=>by
  have e:b=it:=by simpa using hb
  subst e
  obtain⟨o,e,c,d⟩:=st
  exact⟨o,e,fun v z=>by rw[d]at z;cases z⟩
 keep:=fun i h h' st k=>st.at fun o e=>k it (by simp) o e
 item:=by
  intro X hP hw hK hc i dl s σ H E I hf st hg
  subst hP hw hK
  obtain⟨e,hi⟩:=hg
  obtain⟨vs,rel,hd,hz,_,at_⟩:=eO I e
  have hm:=at_ es ep he
  have hl:=rel.length
  obtain⟨⟨k,u⟩,hx⟩:∃p,vs[i]? = some p:=⟨vs[i]'(by lia),C0 _⟩
  obtain⟨v,hkv,_⟩:=rel.at hx
  obtain⟨f0,f1,f2,f3,f4,f5⟩:=hf it (by simp)
  refine wpAny_pyNext_dict_item (knd:=az X.prog X.w) (by rw[<-hl];exact st) hm hx fun key h' Ga st' sb=>?_
  have I1:Inv X dl σ H { s with heap:=h' }:=I.turned (t':=s.toks) (fun b o hb e=>(sb.2 b hb).trans e) f0 f1 f3 f4 f5
  obtain⟨o,e,c,d⟩:=id st'
  exact⟨key,rfl,qV (s:={ s with heap:=h' }) e c d (by decide) ⟨kV k,H,I1,jl Ga,⟨rfl,k,v,hkv,rfl⟩,by rw[hl];exact st',fun b hb=>(hf b hb).1⟩⟩
 done:=by
  intro X hP hw hK hc i dl s σ H E I hf st hg
  subst hP hw hK
  obtain⟨e,hi⟩:=hg
  obtain⟨vs,rel,hd,hz,_,at_⟩:=eO I e
  have hm:=at_ es ep he
  have hl:=rel.length
  obtain⟨f0,f1,f2,f3,f4,f5⟩:=hf it (by simp)
  exact wpAny_pyNext_dict_end (knd:=az X.prog X.w) (I.ok.hd hc) (by rw[<-hl];exact st) hm (D5 (by lia)) fun h' eb=>⟨rfl,I.turned (t':=s.toks) (fun b o hb e=>eb b o hb e) f0 f1 f3 f4 f5⟩
 self:=fun _ _ _ _ _ st h=>wpAny_pyIter_keyiter st h
def BG(tl:TE):TI:=fun σ H R=>tl σ H fun x H1=>∃d ob kvs,x=.ref d/\H1 d=some (.frz ob (.dK kvs))/\R (Itd d ob kvs) H1
theorem w8{X:Cx}{tg l:Expr}{tl:TE}(hl:PE X l tl):PI X tg l (BG tl):=by
 intro dl s σ H R I h
 refine thn (hl dl s σ H _ I h) fun v s1 zz123_0=>?_
 obtain⟨x,H1,I1,r1,q1⟩:=zz123_0
 obtain⟨d,ob,kvs,e,hq,q⟩:=q1
 subst e
 cases r1
 obtain⟨vs,rel,hd,hz,⟨es,ep,he⟩,at_⟩:=eO I1 hq
 have hm:=at_ es ep he
 refine wpAny_pyIter_dict (knd:=az X.prog X.w) hd hm ?_
 refine⟨s1.heap.objs.size,[s1.heap.objs.size],_,_,H1,rfl,I1.kept (t':=s1.toks) fun b o e=>CO _ e,pf d _ ob kvs es ep he,⟨_,CT _ rfl,rfl,by rw[rel.length];rfl⟩,fun b hb=>?_,q⟩
 have e:b=s1.heap.objs.size:=by simpa using hb
 subst e
 exact I1.fpOk (CV _) (I1.hok.fresh (CV _))
def Iti(d:Addr)(ob:Obj)(kvs:List (Key×V)):It :=
  ⟨fun i H=>H d=some (.frz ob (.dK kvs))/\i < kvs.length,
   fun i H x H'=>∃(T:Addr) (k:Key) (v:V),x=.ref T/\H T=none/\H'=upd H T (.tup [kV k,v])/\kvs[i]? = some (k,v),
   fun i H=>H d=some (.frz ob (.dK kvs))/\kvs.length=i⟩
theorem nc{P:Program}{w:World}{K:PySem.W.Frag}{elts:List Expr}{x1}{pos:Pos}(d it:Addr)(ob:Obj)(kvs:List (Key×V))(es:Array DictEntry)(ep:Nat)(he:ob.data=.dict es ep) :
  kO P w K (.Tuple elts x1 pos) (Iti d ob kvs) [it] it (fun i h=>∃ok ov,IsItemIter h it d i kvs.length ep ok ov) where
 mem:=by simp
 obj:=fun i h zz124_0 b hb=>by
  obtain⟨ok,ov,st⟩:=zz124_0
  have e:b=it:=by simpa using hb
  subst e
  exact⟨_,st,fun v z=>by have z':Data.fields _=Data.cell v:=z;cases z'⟩
 keep:=fun i h h' ⟨ok,ov,st⟩ k=>⟨ok,ov,k it (by simp) _ st⟩
 item:=by
  intro X hP hw hK hc i dl s σ H E I hf st hg
  subst hP hw hK
  obtain⟨ok,ov,st⟩:=st
  obtain⟨e,hi⟩:=hg
  obtain⟨vs,rel,hd,hz,_,at_⟩:=eO I e
  have hm:=at_ es ep he
  have hl:=rel.length
  obtain⟨⟨k,u⟩,hx⟩:∃p,vs[i]? = some p:=⟨vs[i]'(by lia),C0 _⟩
  obtain⟨v,hkv,ru⟩:=rel.at hx
  refine wpAny_pyNext_items_item (knd:=az X.prog X.w) (by rw[<-hl];exact st) hm hx fun key h' Ga ho hT hsz kk=>?_
  refine⟨_,rfl,wpAny_letOwnedTupleGo_items (s:={ s with heap:=h' }) ho fun h2 he2 s2=>?_⟩
  have hT0:H s.heap.objs.size=none:=I.fresh
  have hml:it < s.heap.objs.size:=CS st
  have hf1:∀c ∈ [it],f8 X dl (upd H s.heap.objs.size (.tup [kV k,v])) c:=fun c hcm=>by
   have hcc:c=it:=by simpa using hcm
   refine⟨?_,(hf c hcm).2⟩
   rw[af (by rw[hcc];exact C5 hml)]
   exact(hf c hcm).1
  have I1:Inv X dl σ (upd H s.heap.objs.size (.tup [kV k,v])) { s with heap:=s.heap.push { cls:=.type "tuple",data:=.seq #[key,u] },toks:=s.toks }:=I.laid (t':=s.toks) (fun c v e=>CO _ e) (CV _)
   ⟨by show 2<=sizeLine;decide,[key,u],.cons (jl Ga) (.cons ru .nil),⟨_,CT _ rfl,rfl,_,rfl⟩⟩
  have I2:Inv X dl σ (upd H s.heap.objs.size (.tup [kV k,v])) { s with heap:=h2,toks:=s.toks }:=I1.turnedN (t':=s.toks) (h':=h2) (fun(c:Nat) o hcn e=>by
   have h1:¬c=it:=by simpa using hcn
   refine s2.extBut _ _ h1 ?_
   rcases FJ e with⟨e1,e2⟩ |e'
   ·subst e1 e2;exact hT
   ·exact kk c o h1 e') hf1
  exact⟨.ref s.heap.objs.size,_,I2,rfl,⟨_,k,v,rfl,hT0,rfl,hkv⟩,⟨_,_,by rw[hl];exact he2⟩,fun c hcm=>(hf1 c hcm).1⟩
 done:=by
  intro X hP hw hK hc i dl s σ H E I hf st hg
  subst hP hw hK
  obtain⟨ok,ov,st⟩:=st
  obtain⟨e,hi⟩:=hg
  obtain⟨vs,rel,hd,hz,_,at_⟩:=eO I e
  have hm:=at_ es ep he
  have hl:=rel.length
  obtain⟨f0,f1,f2,f3,f4,f5⟩:=hf it (by simp)
  exact wpAny_pyNext_items_end (knd:=az X.prog X.w) (I.ok.hd hc) (by rw[<-hl];exact st) hm (D5 (by lia)) fun h' eb=>⟨rfl,I.turned (t':=s.toks) (fun b o hb e=>eb b o hb e) f0 f1 f3 f4 f5⟩
 self:=fun A i s Q E zz126_0 h=>by
  obtain⟨ok,ov,st⟩:=zz126_0
  have hT:s.TypeIs (.ref it) "dict_itemiterator" := ⟨_,st,rfl⟩
  refine FM hT DN (Ds DN hT PySem.W.kcp_entry ?_ (Fs _))
  show wpAny _ _ (ret (.ref it)) _ _ s
  exact CP ⟨_,rfl,"dict_itemiterator",_,hT,F.slot_dict_itemiterator_next.lookup,h⟩
def At(tl:TE):TI:=fun σ H R=>tl σ H fun x H1=>∃d ob kvs,x=.ref d/\H1 d=some (.frz ob (.dK kvs))/\R (Iti d ob kvs) H1
theorem uH{X:Cx}{elts:List Expr}{x1}{tp:Pos}{o:Expr}{apos cpos:Pos}{tl:TE}(hl:PE X o tl)(BT:attributeBase o "items" X.env (eval o X.env)=eval o X.env:=by rfl)(FT:(apos.endLine == cpos.line)=true:=by rfl) :
  PI X (.Tuple elts x1 tp) (.Call (.Attribute o "items" apos) [] [] cpos) (At tl):=by
 intro dl s σ H R I h
 refine FO (T := "dict") (id := "dict.items") BT rfl FT F.plainAttrs_dict Fk F.type_dict_items (thn (hl dl s σ H _ I h) fun v s1 zz127_0=>?_)
 obtain⟨x,H1,I1,r1,q1⟩:=zz127_0
 obtain⟨d,ob,kvs,e,hq,q⟩:=q1
 subst e
 cases r1
 obtain⟨vs,rel,hd,hz,⟨es,ep,he⟩,at_⟩:=eO I1 hq
 have hm:=at_ es ep he
 refine⟨hm.dictOf.typeIs,hm.dictOf.mapOf.noDict,?_⟩
 show wpAny _ _ (callWith cpos (.builtin "dict.items") [.ref d] [] []) _ _ s1
 refine method_meetsIn Fk F.entry_dict_items rfl (PySem.evalArgs_none ⟨rfl,hm.dictOf.typeIs,F.args_dict_items_1 _,_,meets_dict_items (az X.prog X.w) d hd,⟨vs,hm.dictOf⟩,?_⟩)
 refine wpAny_pyIter_items (knd:=az X.prog X.w) (d:=d) (kvs:=vs) (ep:=ep) ⟨_,CT _ rfl,rfl,rfl⟩ (hm.push _) ?_
 have hsz:(s1.heap.push { cls:=.type "dict_items",data:=.fields #[.ref d] }).objs.size=s1.heap.objs.size + 1:=EM ..
 refine⟨_,[(s1.heap.push { cls:=.type "dict_items",data:=.fields #[.ref d] }).objs.size],_,_,H1,rfl,I1.kept (t':=s1.toks) fun b o e=>CO _ (CO _ e),nc d _ ob kvs es ep he,⟨.none,.none,by rw[rel.length];exact CT _ rfl⟩,fun b hb=>?_,q⟩
 have e:b=(s1.heap.push { cls:=.type "dict_items",data:=.fields #[.ref d] }).objs.size:=by simpa using hb
 have hle:s1.heap.objs.size<=b:=by rw[e,hsz];exact D4 _
 exact I1.fpOk hle (I1.hok.fresh hle)
end L2
namespace L2.Cu
open PySem PySem.Spec PyProof.Rows
def b8:Key->D
 |.inl (some i)=>.int i
 |.inl none=>.non
 |.inr x=>.str x
theorem l8{F:Hp}:∀k:Key,Rep F (kV k) (b8 k)
 |.inl (some i)=>.int i
 |.inl none=>.non
 |.inr x=>.str x
theorem RepK.at{F:Hp}:∀{vs:List (Key×V)} {ds:List (Key×D)} {i:Nat}{k:Key}{v:V},RepK F vs ds->vs[i]? = some (k,v)->∃d,ds[i]? = some (k,d)/\Rep F v d
 := fun {vs ds i k v} r e=>by
  cases r with
  |nil=>cases e
  |cons r t =>
   cases i with
   |zero=>cases e;exact⟨_,rfl,r⟩
   |succ i=>exact RepK.at (i:=i) t e
def fN:D->Option (List D)
 |.dic kvs=>some (kvs.map fun p=>b8 p.1)
 |d=>b_ d
theorem Aq{F:Hp}{a:Addr}{ob:Obj}{vs:List (Key×V)}{ds:List (Key×D)}(h:F a=some (.frz ob (.dK vs)))(r:RepK F vs ds):mZ F (Itd a ob vs) (ds.map fun p=>b8 p.1):=by
 intro i F2 H2 y s
 have q:H2 a=some (.frz ob (.dK vs)):=s _ _ (y _ _ h)
 refine⟨fun hl=>⟨q,by rw[r.length,<-hl,CQ]⟩,fun d hd=>?_⟩
 rw[Db]at hd
 obtain⟨p,hx,hd⟩:=bM hd
 cases hd
 have hlt:i < vs.length:=by rw[r.length];exact(List.getElem?_eq_some_iff.mp hx).1
 refine⟨⟨q,hlt⟩,fun x H' yl=>?_⟩
 obtain⟨rfl,k,v,hk,rfl⟩:=yl
 obtain⟨d',e1,_⟩:=r.at hk
 rw[hx]at e1
 cases e1
 exact⟨F2,Ext.refl s,l8 k⟩
theorem Ao{F:Hp}{a:Addr}{ob:Obj}{vs:List (Key×V)}{ds:List (Key×D)}(h:F a=some (.frz ob (.dK vs)))(r:RepK F vs ds):mZ F (Iti a ob vs) (ds.map fun p=>D.tup [b8 p.1,p.2]):=by
 intro i F2 H2 y s
 have q:H2 a=some (.frz ob (.dK vs)):=s _ _ (y _ _ h)
 refine⟨fun hl=>⟨q,by rw[r.length,<-hl,CQ]⟩,fun d hd=>?_⟩
 rw[Db]at hd
 obtain⟨p,hx,hd⟩:=bM hd
 cases hd
 have hlt:i < vs.length:=by rw[r.length];exact(List.getElem?_eq_some_iff.mp hx).1
 refine⟨⟨q,hlt⟩,fun x H' yl=>?_⟩
 obtain⟨T,k,v,rfl,hT,rfl,hk⟩:=yl
 obtain⟨d',e1,e2⟩:=(r.mono y).at hk
 rw[hx]at e1
 cases e1
 have X:=Ext.freeze (o:=.tup [kV k,v]) s hT
 exact⟨upd F2 T (.tup [kV k,v]),X,Rep.tup aj (.cons (l8 k) (.cons (e2.mono X.fr) .nil))⟩
theorem rm{X:Cx}{e:Expr}{y:Str}{py:Pos}{f:DE->Option D}(h:Ev X .V e f):Ei X (.Name y py) e (cc fN f):=PI.by (PI.or (w8 h.h) (eh (y:=y) (py:=py) h).h) fun σ H R zz128_0=>by
 obtain⟨B,F,E,xs,k,q,w⟩:=zz128_0
 unfold cc at q
 obtain⟨d,hf,q⟩:=bS q
 cases d with
 |dic ds =>
  cases q
  refine .inl ⟨B,F,E,_,k,hf,fun v F' H' x r=>?_⟩
  cases r with
  |dic e rs=>exact⟨_,_,_,rfl,x.sub _ _ e,w _ F' H' x (Aq e rs)⟩
 |_=>exact .inr ⟨B,F,E,xs,k,by unfold cc;rw[hf];exact q,w⟩
abbrev Dm:=List (Key×List D)
def dv(qs:List (Key×Addr)):List (Key×V):=qs.map fun q=>(q.1,V.ref q.2)
inductive Lds (B:Hp×Hp) (F H:Hp):List (Key×Addr)->Dm->Prop
 |nil:Lds B F H [] []
 |cons {k:Key}{p:Addr}{xs:List V}{ds:List D}{qs:List (Key×Addr)} {m:Dm}:H p=some (.lst xs)->F p=none->B.2 p=none->Reps F xs ds->Lds B F H qs m->Lds B F H ((k,p) :: qs) ((k,ds) :: m)
def dN(a:Addr):Sl:=.rob ⟨0,some a,[]⟩
def d7(E:DE):Prop:=(∀(j:Nat) d,E[j]? ≠ some (.own d))/\∀(j:Nat) s,E[j]? ≠ some (.obj s)
theorem d7.set{E:DE}(h:d7 E)(i:Nat){z:Sl}(h1:∀d,z ≠ .own d)(h2:∀s,z ≠ .obj s):d7 (E.set i z):=by
 refine⟨fun j d e=>?_,fun j s e=>?_⟩
 ·rw[C7]at e
  split at e
  ·split at e
   ·exact h1 d (CU e)
   ·cases e
  ·exact h.1 j d e
 ·rw[C7]at e
  split at e
  ·split at e
   ·exact h2 s (CU e)
   ·cases e
  ·exact h.2 j s e
structure Ok2 (i:Nat) (a:Addr) (B:Hp×Hp) (F H:Hp) (σ:St) (E:DE) (m:Dm):Prop where
 ok:Ok B F H σ E
 at_:E[i]? = some (dN a)
 no:d7 E
 dol:∃qs,H a=some (.dK (dv qs))/\F a=none/\B.2 a=none/\(a :: qs.map (·.2)).Nodup/\Lds B F H qs m
abbrev Fin:=Hp×Hp->Hp->dh->Out->Prop
def t2(Φ:Fin)(i:Nat)(a:Addr)(G:DE->Dm->Option Out):TS:=fun Z σ H=>∃B F E m r,Ok2 i a B F H σ E m/\G E m=some r/\Φ B F Z r
section
variable {X:Cx} {Φ:Fin}{i:Nat}{a:Addr}
def o8(G:Addr->Option Out):Option Out:=@dite _ (∃r,∀a,G a=some r) (Classical.propDecidable _) (fun h=>some (Classical.choose h)) fun _=>none
theorem rK{G:Addr->Option Out}{r:Out}(h:∀a,G a=some r):o8 G=some r:=by
 unfold o8
 have hx:∃r,∀a,G a=some r:=⟨r,h⟩
 rw[dif_pos hx]
 have:=Classical.choose_spec hx 0
 rw[h 0]at this
 exact this.symm
theorem lV{G:Addr->Option Out}{r:Out}(h:o8 G=some r):∀a,G a=some r:=by
 unfold o8 at h
 by_cases hx:∃r,∀a,G a=some r
 ·rw[dif_pos hx]at h
  cases h
  exact Classical.choose_spec hx
 ·rw[dif_neg hx]at h;cases h
theorem Ok.set_raw{B:Hp×Hp}{F H:Hp}{σ:St}{E:DE}(k:Ok B F H σ E)(hn:d7 E)(i:Nat)(c:Addr):Ok B F H (σ.set i (some (.ref c))) (E.set i (dN c)):=by
 have hl:=k.len
 have hn':d7 (E.set i (dN c)):=hn.set i (by intro d e;cases e) (by intro d e;cases e)
 refine⟨k.ent,by rw[Dz,Dz];exact hl,fun j d h=>?_,fun j d h=>(hn'.1 j d h).elim,fun j l d e b _ h=>(hn'.1 j d h).elim,?_⟩
 ·rw[C7]at h
  split at h
  ·split at h
   ·cases h
   ·cases h
  ·rename_i hne
   rw[CW hne];exact k.val j d h
 ·obtain⟨fp,q⟩:=k.ob
  refine⟨fp,fun j s h=>(hn'.2 j s h).elim,fun j l s d b h=>(hn'.2 j s h).elim,fun j l s t _ h=>(hn'.2 j s h).elim,fun j s h=>?_⟩
  rw[C7]at h
  split at h
  ·rename_i hij
   subst hij
   split at h
   ·rename_i hlt
    cases h
    exact .inr ⟨rfl,c,rfl,by rw[D1 (by lia)]⟩
   ·cases h
  ·rename_i hne
   rw[CW hne]
   exact q.rob j s h
end
end L2.Cu
namespace L2
open PySem PySem.Spec PyProof.Rows
theorem jb{prog:Program}{w:World}(l:Addr)(o:Obj)(hc:o.cls=.type "dict") :
  MeetsIn prog w (Builtin.«tuple.__new__» ⟨[.type "tuple",.ref l],[]⟩) (fun A R s=>s.heap.get? l=some o/\∃Post:List Value->Shared->Prop,(∀(E:Value->Shared->Prop) (Q:List Value->Shared->Prop),(∀vs s1,Post vs s1->Q vs s1)->wpAny (model prog w) A.in1 (collect (.ref l)) Q E s) /\
   ∀vs s1,Post vs s1->vs.length<=sizeLine/\R (.ok (.ret (.ref s1.heap.objs.size))) { s1 with heap:=s1.heap.push { cls:=.type "tuple",data:=.seq vs.toArray } }) :=
 .of_wp fun A R s h=>by
  obtain⟨hp,g,d,tk,os⟩:=s;obtain⟨ht,Post,GS,GC⟩:=h
  have FW:=sub_tuple_self
  have Hc:=init_tuple_lookup
  have hmh:=madeHere_tuple
  have hT:Shared.TypeIs ⟨hp,g,d,tk,os⟩ (.ref l) "dict" := ⟨o,ht,hc⟩
  wp_walk using DY ht,EE hT,GS _ _
  intro vs s1 hp1
  obtain⟨hz,hr⟩:=GC vs s1 hp1
  show wpAny _ _ (Builtin.Tuple.tupleExact vs.toArray >>= fun v=>ret v) _ _ _
  unfold Builtin.Tuple.tupleExact
  refine CN (Di ?_ (by show vs.toArray.size<=sizeLine;simpa using hz))
  exact CP ⟨_,rfl,hr⟩
theorem iE{P:Program}{w:World}:∀{kvs:List (Key×Value)} {vs:List Value},vs.length=kvs.length->(∀(i:Nat) v,vs[i]? = some v->∃k x,kvs[i]? = some (k,x)/\(az P w).is k v=true)->aM (kvs.map fun p=>kV p.1) vs
 | [],[],_,_=>.nil
 | [],_ :: _,hl,_=>by simp at hl
 |_ :: _,[],hl,_=>by simp at hl
 | (k,y) :: kvs,v :: vs,hl,h=>by
  obtain⟨k',x',e,hi⟩:=h 0 v rfl
  cases e
  exact .cons (jl hi) (iE (by simpa using hl) fun i v hv=>by simpa using h (i + 1) v (by simpa using hv))
theorem o3{X:Cx}(hc:X.calm=true):bQ X (.type "tuple") (fun xs H Q=>∃p kvs,xs=[V.ref p]/\Rd H p (.dK kvs)/\∀l,H l=none->Q (.ref l) (upd H l (.tup (kvs.map fun p=>kV p.1)))):=by
 intro dl s σ H xs us Q I r h
 obtain⟨p,kvs,rfl,hp,q⟩:=h
 obtain⟨u,rfl,ru⟩:=gE r
 cases ru
 obtain⟨z,hd,vs,rel,dd⟩:=dm I.hok hp
 obtain⟨ep,hat⟩:=dd.dictAt
 obtain⟨o,es,ho,hx,_⟩:=id hat
 have ek:kvs.map (fun p=>kV p.1)=vs.map fun p=>kV p.1:=by
  have:=DK (List.map kV) rel.keys
  rw[Dq,Dq]at this
  exact this
 refine callType_newIn F.called_tuple (by decide) (F.typeCall_tuple_1 _) (F.newCall_tuple_1 _) (fun obj=>F.args_object_init_2 obj _) F.entry_tuple_new (jb p o hx.1)
  ⟨ho,fun us s1=>∃(h':Heap) (d':Drawn) (tk:Nat),s1={ s with heap:=h',drawn:=d',toks:=tk }/\(∀b o,s.heap.get? b=some o->h'.get? b=some o)/\s.heap.objs.size<=h'.objs.size/\aM (vs.map fun p=>kV p.1) us,fun E Q hQ=>?_,fun us s1 hP=>?_⟩
 ·exact iU (T := "dict") (Pv:=fun us=>aM (vs.map fun p=>kV p.1) us) (show X.A.in1.in1.handled=none from I.ok.hd hc) ho hx.1 (by decide) (by decide) (fun A E s' Q hT hq=>PySem.W.kdl_hint_dict hT hq)
   (fun A E s' Q kp hq=>lN hd (hat.at' kp) (by rw[<-rel.length];exact z) (fun us h1 h2=>iE h1 h2) hq) fun h' d' tk us kp hsz hS=>hQ us _ ⟨h',d',tk,rfl,kp,hsz,hS⟩
 ·obtain⟨h',d',tk,rfl,kp,hsz,hv⟩:=hP
  have Cl:=hv.length
  rw[CQ,<-rel.length]at Cl
  refine⟨by lia,⟨⟨_,CT _ rfl,rfl⟩,?_⟩⟩
  have hfr:∀b,s.heap.objs.size<=b->H b=none:=fun b hb=>I.hok.fresh hb
  have I2:Inv X dl σ (upd H h'.objs.size (.tup (kvs.map fun p=>kV p.1))) { s with heap:=h'.push { cls:=.type "tuple",data:=.seq us.toArray },drawn:=d',toks:=tk }:=by
   have I1:Inv X dl σ (upd H h'.objs.size (.tup (kvs.map fun p=>kV p.1))) { s with heap:=h'.push { cls:=.type "tuple",data:=.seq us.toArray },toks:=tk }:=I.laid (t':=tk) (fun b o e=>CO _ (kp b o e)) hsz
    ⟨by rw[CQ];exact z,us,by rw[ek];exact hv,IsTup.new _ _⟩
   exact⟨I1.ok,I1.os,I1.bare,I1.base,I1.loc,I1.cell,I1.free,I1.freeC,I1.pin,I1.hok,I1.len⟩
  exact⟨.ref h'.objs.size,_,I2,rfl,q _ (hfr _ hsz)⟩
end L2
namespace L2.Cu
open PySem PySem.Spec PyProof.Rows
section
variable {X:Cx}{a b e:Expr}{p pos:Pos}{f g:DE->Option D}
def ph(x:D):Option D:=match x with
 |.dic kvs=>some (.tup (kvs.map fun p=>b8 p.1))
 |x=>bt x
theorem gh{F:Hp}:∀{vs:List (Key×V)} {ds:List (Key×D)},RepK F vs ds->Reps F (vs.map fun p=>kV p.1) (ds.map fun p=>b8 p.1)
 |_,_,.nil=>.nil
 |_,_,.cons _ t=>.cons (l8 _) (gh t)
theorem rV{K:PySem.W.Frag}:iS .V (fun xs H Q=>(∃p ys,xs=[.ref p]/\((SqL K H p ys/\∀l,H l=none->Q (.ref l) (upd H l (.tup ys)))\/(SqT K H p ys/\Q (.ref p) H)))\/∃p kvs,xs=[V.ref p]/\Rd H p (.dK kvs)/\∀l,H l=none->Q (.ref l) (upd H l (.tup (kvs.map fun p=>kV p.1)))) ph:=fun F H v x d Q s rx h q=>by
 cases x with
 |dic kvs =>
  cases CU h
  obtain⟨c,vs,rfl,hc,rk⟩:=OB.dic s rx
  refine .inr ⟨c,vs,rfl,hc,fun l hl=>?_⟩
  have x2:=Ext.freeze (o:=HO.tup (vs.map fun p=>kV p.1)) s hl
  exact q _ _ _ x2 (.tup aj ((gh rk).mono x2.fr))
 |_=>exact .inl (nA F H v _ d Q s rx h q)
theorem sY(hc:X.calm=true)(hg:Gl X "tuple")(hm:X.mg "tuple" = none)(hv:bootBuiltins "tuple" = some (.type "tuple"))(ha:Ev X .O e f)(he:aD e=true:=by rfl):Ev X .V (.Call (.Name "tuple" p) [e] [] pos) (un ph f) :=
 mG (bQ.or gL (o3 hc)) rV hg hm hv ha (by decide) (by decide) he
def jf(es:List (Key×D))(p:Key×D):Bool:=match cj es p.1 with
 |some y=>PyData.eqv (toP p.2) (toP y)
 |none=>false
def eqK(x y:D):Option Bool:=match x,y with
 |.dic ds,.dic es=>if ds.all (fun p=>bB p.2) && es.all (fun p=>bB p.2) then some ((ds.length == es.length) && ds.all (jf es)) else none
 |_,_=>none
theorem tO{es:List (Key×D)}{k:Key}{y:D}(h:cj es k=some y):∃p ∈ es,p.2=y:=by
 unfold cj at h
 cases hf:es.find? fun p=>decide (p.1=k) with
 |none=>rw[hf]at h;cases h
 |some p=>rw[hf]at h;cases h;exact⟨p,List.mem_of_find?_eq_some hf,rfl⟩
theorem hits{X:Cx}{dl:List (Addr×Obj)}{σ:St}{F H:Hp}{s:Shared}{A:Around}(I:Inv X dl σ H s)(hs:∀a o,F a=some o->H a=some o)(hu:A.units + 62 < cLine){ws:List (Key×V)}{es:List (Key×D)}{kb:List (Key×Value)}(r2:RepK F ws es)(q2:KV ws kb)(d2:∀p ∈ es,bB p.2=true) :
  ∀{vs:List (Key×V)} {ds:List (Key×D)} {ka:List (Key×Value)},RepK F vs ds->KV vs ka->(∀p ∈ ds,bB p.2=true)->PySem.W.KeqHits A s kb ka (ds.all (jf es))
 := fun {vs ds ka} z0 z1 d1=>by
  cases z0 with
  |nil=>cases z1;exact .nil
  |@cons k v d vs ds r t =>
   cases z1 with
   |@cons _ q _ _ h q1 =>
    have ih:=hits I hs hu r2 q2 d2 t q1 fun p hp=>d1 p (.tail _ hp)
    obtain⟨k',u⟩:=q
    obtain⟨e1,e2⟩:=h
    have e1':k=k':=e1
    subst e1'
    have e2':aJ v u:=e2
    obtain⟨v1,v2⟩:=RepK.val (k:=k) r2
    have rel:=q2.val k
    cases hv:cj es k with
    |none =>
     have hn:=v2 hv
     rw[hn]at rel
     have hb:jf es (k,d)=false:=by unfold jf;rw[hv]
     rw[DH,hb,Ef]
     exact .miss (d6.none_of rel)
    |some y =>
     obtain⟨w,hw,rw'⟩:=v1 y hv
     rw[hw]at rel
     obtain⟨u',hu',ru'⟩:=d6.some_of rel
     have hb:jf es (k,d)=PyData.eqv (toP d) (toP y):=by unfold jf;rw[hv]
     rw[DH,hb]
     obtain⟨a1,a2⟩:=Bool.and_eq_true_iff.mp (d1 (k,d) (.head _))
     obtain⟨pp,hpm,hpe⟩:=tO hv
     obtain⟨b1,b2⟩:=Bool.and_eq_true_iff.mp (hpe ▸ d2 pp hpm)
     obtain⟨as,ra⟩:=Rep.reads I hs r e2' a1
     obtain⟨bs,rb⟩:=Rep.reads I hs rw' ru' b1
     have a2':(toP d).depth<=60:=DM a2
     exact .hit hu' (SeqAt.eqAt_reads (toP d) (toP y) A s u u' as bs ra rb a1 b1 (by lia)) ih
def qE(neg:Bool)(u:Nat):R2:=fun v w H Q=>∃F ds es b,(∀a o,F a=some o->H a=some o)/\OB F H v (.dic ds)/\OB F H w (.dic es)/\eqK (.dic ds) (.dic es)=some b/\u + 64 < cLine/\Q (.bl (if neg then !b else b)) H
theorem oP{ds es:List (Key×D)}{b:Bool}(h:eqK (.dic ds) (.dic es)=some b):(∀p ∈ ds,bB p.2=true)/\(∀p ∈ es,bB p.2=true)/\b=((ds.length == es.length) && ds.all (jf es)):=by
 have h':(if(ds.all (fun p=>bB p.2) && es.all (fun p=>bB p.2))=true then some ((ds.length == es.length) && ds.all (jf es)) else none)=some b:=h
 split at h'
 ·rename_i hc
  obtain⟨h1,h2⟩:=Bool.and_eq_true_iff.mp hc
  exact⟨List.all_eq_true.mp h1,List.all_eq_true.mp h2,(CU h').symm⟩
 ·cases h'
theorem li:OpR X (compareOp .Eq) (qE false X.A.units):=by
 intro dl s σ H v w u z Q I rv rw h
 obtain⟨F,ds,es,b,hs,ox,oy,he,hu,q⟩:=h
 obtain⟨h1,h2,rfl⟩:=oP he
 obtain⟨a,vs,rfl,ha,r1⟩:=OB.dic hs ox
 obtain⟨c,ws,rfl,hc,r2⟩:=OB.dic hs oy
 cases rv
 cases rw
 obtain⟨_,da,ka,q1,d1⟩:=dm I.hok ha
 obtain⟨_,db,kb,q2,d2⟩:=dm I.hok hc
 refine PySem.W.keq_eq (knd:=az X.prog X.w) da db d1 d2 (by lia) (fun _=>hits I hs (show X.A.in1.units + 62 < cLine by show X.A.units + 1 + 62 < cLine;lia) r2 q2 h2 r1 q1 h1) ?_
 rw[<-q1.length,<-q2.length,r1.length,r2.length]
 exact⟨.bl _,H,I,rfl,q⟩
theorem sh:OpR X (compareOp .NotEq) (qE true X.A.units):=by
 intro dl s σ H v w u z Q I rv rw h
 obtain⟨F,ds,es,b,hs,ox,oy,he,hu,q⟩:=h
 obtain⟨h1,h2,rfl⟩:=oP he
 obtain⟨a,vs,rfl,ha,r1⟩:=OB.dic hs ox
 obtain⟨c,ws,rfl,hc,r2⟩:=OB.dic hs oy
 cases rv
 cases rw
 obtain⟨_,da,ka,q1,d1⟩:=dm I.hok ha
 obtain⟨_,db,kb,q2,d2⟩:=dm I.hok hc
 refine PySem.W.keq_ne (knd:=az X.prog X.w) da db d1 d2 (by lia) (fun _=>hits I hs (show X.A.in1.units + 62 < cLine by show X.A.units + 1 + 62 < cLine;lia) r2 q2 h2 r1 q1 h1) ?_
 rw[<-q1.length,<-q2.length,r1.length,r2.length]
 exact⟨.bl _,H,I,rfl,q⟩
def eqE(x y:D):Option D:=match x with
 |.dic _=>(eqK x y).map D.bl
 |_=>eqO x y
def neE(x y:D):Option D:=match x with
 |.dic _=>(eqK x y).map fun b=>.bl (!b)
 |_=>neO x y
theorem uu(u:Nat)(hu:u + 64 < cLine):dD .V (fun x y H Q=>(rEq x y H Q\/lc false u x y H Q)\/qE false u x y H Q) eqE:=fun F H v w x y d Q s rx ry h q=>by
 cases x with
 |dic ds =>
  cases y with
  |dic es =>
   have h':(eqK (.dic ds) (.dic es)).map D.bl=some d:=h
   cases he:eqK (.dic ds) (.dic es) with
   |none=>rw[he]at h';cases h'
   |some b=>rw[he]at h';cases h';exact .inr ⟨F,ds,es,b,s,rx,ry,he,hu,q _ F H (Ext.refl s) (.bl b)⟩
  |_=>cases h
 |_=>exact .inl (pB u hu F H v w _ y d Q s rx ry h q)
theorem zq(u:Nat)(hu:u + 64 < cLine):dD .V (fun x y H Q=>(rNe x y H Q\/lc true u x y H Q)\/qE true u x y H Q) neE:=fun F H v w x y d Q s rx ry h q=>by
 cases x with
 |dic ds =>
  cases y with
  |dic es =>
   have h':(eqK (.dic ds) (.dic es)).map (fun b=>D.bl (!b))=some d:=h
   cases he:eqK (.dic ds) (.dic es) with
   |none=>rw[he]at h';cases h'
   |some b=>rw[he]at h';cases h';exact .inr ⟨F,ds,es,b,s,rx,ry,he,hu,q _ F H (Ext.refl s) (.bl (!b))⟩
  |_=>cases h
 |_=>exact .inl (ur u hu F H v w _ y d Q s rx ry h q)
theorem Ax(hr:X.A.units + 64 < cLine)(ha:Ev X .O a f)(hb:Ev X .O b g):Ev X .V (.Compare a [.Eq] [b] pos) (bin eqE f g):=pY (OpR.or (OpR.or qI gl) li) (uu _ hr) ha hb (dO _)
theorem iK(hr:X.A.units + 64 < cLine)(ha:Ev X .O a f)(hb:Ev X .O b g):Et X (.Compare a [.Eq] [b] pos) (tst (bin eqE f g)):=iL (OpR.or (OpR.or qI gl) li) (uu _ hr) ha hb (dO _)
theorem pZ(hr:X.A.units + 64 < cLine)(ha:Ev X .O a f)(hb:Ev X .O b g):Et X (.Compare a [.NotEq] [b] pos) (tst (bin neE f g)):=iL (OpR.or (OpR.or yJ lh) sh) (zq _ hr) ha hb (dO _)
end
def oE(i:Nat):Out->Out
 |.nx E=>.nx (E.set i .no)
 |.bk E=>.bk (E.set i .no)
 |.ct E=>.ct (E.set i .no)
 |.rt d=>.rt d
def lZ(n i:Nat)(fb:DE->Option bC)(fh:Addr->List (Str×D)->DE->Option Out)(E:DE):Option Out:=(fb E).bind fun r=>match r with
 |.ok r=>some r
 |.xc _ [] _=>none
 |.xc m (y :: fs) E'=>@ite _ (m=n/\d7 E') (Classical.propDecidable _) (o8 fun a=>(fh a (y :: fs) (E'.set i (dN a))).map (oE i)) none
theorem lD{B:Hp×Hp}{F:Hp}{D:dh}{i:Nat}{r:Out}(w:kP B F D (oE i r)):kP B F (eV i D) r:=by
 cases r with
 |nx E=>exact fun σ F' H k x=>w (σ.set i none) F' H (k.noS i) x
 |bk E=>exact fun σ F' H k x=>w (σ.set i none) F' H (k.noS i) x
 |ct E=>exact fun σ F' H k x=>w (σ.set i none) F' H (k.noS i) x
 |rt d=>exact w
theorem wG{H:Hp}{dx:Addr}{o:HO}(h:H dx=none):rmH (upd H dx o) dx=H:=by
 funext b
 by_cases hb:b=dx
 ·rw[hb,dM,h]
 ·rw[bU hb,af hb]
theorem Az {X:Cx}{cl:Nat→Addr}{body FV:List Stmt}{b₀:Stmt}{cn en:Str}{fI:Addr}{i n:Nat}{np F7 pos:Pos}{fb:DE→Option bC}{fh:Addr→List (Str×D)→DE→Option Out} (hb:kF X cl body fb) (hst:X.stack=X.env :: X.outer) (hfr:X.env.frame=some X.env.locals) (hq:kK X.K (cl n) fI=true)
    (hg:Gl X cn) (hm:X.mg cn=some (.ref (cl n))) (hN:X.N.Nodup) (hi:X.N[i]? = some en) (hl:X.env.scope.names.lookup en=some .local)
    (hs:∀(a dx:Addr) (oe od:Obj) (vs:Array Value) (fs:List (Str×D)),oe.cls=.ref (cl n)->oe.dict=some dx->oe.data=.fields vs->dx ≠ a->ix dx od (scF fs)->Ess (X.hnd2 a oe dx od) (b₀ :: FV) (fh a fs)) (hdb:(cn == ("__debug__" : Str))=false:=by decide) :
    Es X (.Try body [.ExceptHandler (some (.Name cn np)) (some en) (b₀ :: FV) F7] [] [] pos) (lZ n i fb fh) :=
  PS.by (zD (th:=fun a vs D σ H=>∃fs,vs=scF fs/\tS (fh a fs) D σ H) hb.h hst hfr hq hg hm hN hi hl (fun a dx oe od vs fsV h1 h2 h3 h4 h5=>fun dl s σ H D I z=>by
    obtain⟨fs,e,q⟩:=z
    subst e
    exact(hs a dx oe od vs fs h1 h2 h3 h4 h5).h dl s σ H D I q) (.inr hl) hdb) fun Z σ H z=>by
    obtain⟨B,F,E,r,k,q,w⟩:=z
    unfold lZ at q
    obtain⟨r1,hf,q⟩:=bS q
    refine⟨B,F,E,r1,k,hf,?_⟩
    cases r1 with
    |ok r1=>cases q;exact w
    |xc m fs0 E' =>
     cases fs0 with
     |nil=>cases q
     |cons y fs =>
      have q2:@ite _ (m=n/\d7 E') (Classical.propDecidable _) (o8 fun a=>(fh a (y :: fs) (E'.set i (dN a))).map (oE i)) none=some r:=q
      by_cases hc:m=n/\d7 E'
      · rw[if_pos hc]at q2
        obtain⟨hmn,hno⟩:=hc
        subst hmn
        refine fun σ' F' H' k' x=>lW.of fun dx hd=>⟨dx,scF (y :: fs),rfl,rfl,aj,fun a _=>?_⟩
        obtain⟨r2,e1,e2⟩:=Option.map_eq_some_iff.mp (lV q2 a)
        subst e2
        refine⟨y :: fs,rfl,B,F',_,r2,?_,e1,lD (w.mono x)⟩
        rw[wG hd]
        exact k'.set_raw hno i a
      · rw[if_neg hc]at q2;cases q2
def xF(i:Nat)(a:Addr)(d:D)(E:DE):Option D:=(E[i]?).bind fun s=>match s with
 |.rob o=>if o.ia=some a then some d else none
 |_=>none
theorem lY{i:Nat}{a:Addr}{d d':D}{B:Hp×Hp}{F H:Hp}{σ:St}{E:DE}(k:Ok B F H σ E)(h:xF i a d E=some d'):d'=d/\σ[i]? = some (some (.ref a)):=by
 unfold xF at h
 obtain⟨s,he,h⟩:=bS h
 cases s with
 |rob o =>
  have h:(if o.ia=some a then some d else none)=some d':=h
  by_cases ho:o.ia=some a
  ·rw[if_pos ho]at h
   cases h
   refine⟨rfl,?_⟩
   obtain⟨fp,q⟩:=k.ob
   rcases q.rob i _ he with⟨b,ps,q1,q2⟩ |⟨_,b,q1,q2⟩
   ·obtain⟨b',ps',dx,fs,e1,e2,e3,_⟩:=q2
    have e4:=e2 a ho
    cases e1
    rw[e4]at q1;exact q1
   ·rw[ho]at q1;cases q1;exact q2
  ·rw[if_neg ho]at h;cases h
 |no=>cases h
 |val _=>cases h
 |own _=>cases h
 |obj _=>cases h
section
variable {X:Cx}{a C dx:Addr}{oe od:Obj}{cd:ClassData}{i:Nat}{p pos np:Pos}{en:Str}
def m4(i:Nat)(a:Addr)(f:Str)(fs:List (Str×D))(E:DE):Option D:=(fs.lookup f).bind fun d=>if jc d=true then xF i a d E else none
theorem qZ{f:Str}{vs:Array Value}{fs:List (Str×D)}(hc:oe.cls=.ref C)(hd:oe.dict=some dx)(Gc:oe.data=.fields vs)(hne:dx ≠ a)(xc:iR X.K C cd)(hn:PySem.W.findIn X.K (.ref C) f=some none)(hdh:ix dx od (scF fs))(hv:PE (X.hnd2 a oe dx od) (.Name en p) (g8 i))
  (hb:attributeBase (.Name en p) f X.env (eval (.Name en p) X.env)=eval (.Name en p) X.env:=by rfl):Ev (X.hnd2 a oe dx od) .V (.Attribute (.Name en p) f pos) (m4 i a f fs) :=
 PE.by (xb hc hd Gc hne xc hn hdh hv hb) fun σ H Q z=>by
  obtain⟨B,F,E,d',k,q,w⟩:=z
  unfold m4 at q
  obtain⟨d,hl,q⟩:=Option.bind_eq_some_iff.mp q
  by_cases hsc:jc d=true
  ·rw[if_pos hsc]at q
   obtain⟨rfl,e⟩:=lY k q
   refine⟨_,e,rfl,scV d',?_,w _ F H (Ext.refl k.sub) (zh hsc)⟩
   have:∀l:List (Str×D),l.lookup f=some d'->(scF l).lookup f=some (scV d'):=fun l=>by
    induction l with
    |nil=>intro z;cases z
    |cons y l ih =>
     intro z
     obtain⟨g,x⟩:=y
     rw[Dd]at z
     show List.lookup f ((g,scV x) :: scF l)=_
     rw[Dd]
     cases hg:f == g with
     |true=>rw[hg]at z;cases z;rfl
     |false=>rw[hg]at z;exact ih z
   exact this fs hl
  ·rw[if_neg hsc]at q;cases q
def AV(Cs:List Addr):TA:=fun _ H Q=>Q (Cs.map V.ref) H
def uD:Expr->Pos
 |.Name _ p=>p
 |_=>⟨0,0,0,0⟩
theorem qH{X:Cx}{ad:Str->Addr}:∀{as:List Str}{es:List Expr},es=List.zipWith Expr.Name as (es.map uD)->(∀y ∈ as,X.mg y=some (.ref (ad y)))->as.map X.env.kindOf=(as.map fun _=>some NameKind.globalImplicit)->as.all (fun y => !(y == ("__debug__" : Str)))=true->as.length=es.length->PA X es (AV (as.map ad))
 | [],[],_,_,_,_,_=>cE
 |y :: as,e :: es,h,m,g,d,l=>by
  rw[CI,List.zipWith_cons_cons]at h
  rw[CI,CI]at g
  rw[DH]at d
  injection h with h1 h2
  injection g with g1 g2
  obtain⟨d1,d2⟩:=Bool.and_eq_true_iff.mp d
  have h3:=bj (gj (v:=.ref (ad y)) (pos:=uD e) g1 (m y (.head _)) rfl (by simpa using d1)) (qH (X:=X) (ad:=ad) h2 (fun z hz=>m z (.tail _ hz)) g2 d2 (Nat.succ.inj l)) rfl
  rw[<-h1]at h3
  exact h3
theorem mF{as:List Str}{ad:Str->Addr}{es:List Expr}{x1}{tpos:Pos}{b:Bool}(hcl:oe.cls=.ref C)(xc:iR X.K C cd)(hc:PySem.W.findIn X.K (.ref C) "__class__" = some (some (.builtin "object.__class__")))(hg:Gl (X.hnd2 a oe dx od) "isinstance")(hm:X.mg "isinstance" = none)(hbi:bootBuiltins "isinstance" = some (.builtin "isinstance"))(hv:PE (X.hnd2 a oe dx od) (.Name en p) (g8 i))
  (hm2:∀y ∈ as,X.mg y=some (.ref (ad y))) (hk:PySem.W.kitAny X.K (.ref C) (as.map fun y=>.ref (ad y))=some b) (hz:as.length<=9:=by decide) (hes:es=List.zipWith Expr.Name as (es.map uD):=by rfl) (hgl:as.map X.env.kindOf=(as.map fun _=>some NameKind.globalImplicit):=by rfl) (hdb:as.all (fun y => !(y == ("__debug__" : Str)))=true:=by decide)
  (hln:as.length=es.length:=by rfl):Ev (X.hnd2 a oe dx od) .V (.Call (.Name "isinstance" np) [.Name en p,.Tuple es x1 tpos] [] pos) (xF i a (.bl b)) :=
 PE.by (hJ (mT hcl xc hc) hg hm hbi (bj hv (bj (uJ (qH (X:=X.hnd2 a oe dx od) hes hm2 hgl hdb hln)) cE rfl) rfl)) fun σ H Q z=>by
  obtain⟨B,F,E,d',k,q,w⟩:=z
  obtain⟨rfl,e⟩:=lY k q
  refine⟨_,e,?_,fun tp htp=>⟨tp,as.map ad,b,rfl,aj,by rw[Dq];exact hk,w _ F _ ⟨fun c o z=>?_,fun c o z=>z,fun c o z=>?_,fun c z _=>z⟩ (.bl b)⟩⟩
  ·rw[CQ,CQ];exact CZ hz (by decide)
  ·rw[af (fun z1=>by rw[z1,htp]at z;cases z)];exact z
  ·rw[af (fun z1=>by rw[z1]at z;rw[k.sub _ _ z]at htp;cases htp)];exact k.sub _ _ z
theorem gq{e:Expr}{c:Value}{y:V}{b:Bool}(hcl:oe.cls=.ref C)(xc:iR X.K C cd)(hc:PySem.W.findIn X.K (.ref C) "__class__" = some (some (.builtin "object.__class__")))(hg:Gl (X.hnd2 a oe dx od) "isinstance")(hm:X.mg "isinstance" = none)(hbi:bootBuiltins "isinstance" = some (.builtin "isinstance"))(hv:PE (X.hnd2 a oe dx od) (.Name en p) (g8 i))
  (he:PE (X.hnd2 a oe dx od) e (tC y)) (hy:∀u,aJ y u->u=c) (hk:PySem.W.kitOne X.K (.ref C) c=some b) (hs:aD e=true:=by rfl) :
  Ev (X.hnd2 a oe dx od) .V (.Call (.Name "isinstance" np) [.Name en p,e] [] pos) (xF i a (.bl b)) :=
 PE.by (hJ (kM hcl xc hc) hg hm hbi (bj hv (bj he cE (aC e [] X.env hs)) rfl) (by decide) (by decide) rfl (cL pos X.env [e] (by simp[hs]))) fun σ H Q z=>by
  obtain⟨B,F,E,d',k,q,w⟩:=z
  obtain⟨rfl,e⟩:=lY k q
  exact⟨_,e,y,c,b,rfl,hy,hk,w _ F H (Ext.refl k.sub) (.bl b)⟩
end
theorem a9.wide{P:Program}{w:World}{K:PySem.W.Frag}{mg:Str->Option Value}{base:Heap}{CX:CXT}{k:Nat}{f:Addr}{fd:FuncData}{ps:List Str}{sp:Sp}(F:a9 P w K mg base CX0 k f fd ps sp):a9 P w K mg base CX k f fd ps sp :=
 ⟨F.len,fun A outer s H args us vs Q E hr he hb hv hs=>EO (F.run A outer s H args us vs Q E hr he hb hv hs) fun r s' z=>by
  cases r with
  |error e=>exact False.elim z
  |ok fl=>cases fl <;> exact z⟩
theorem a9.or{P:Program}{w:World}{K:PySem.W.Frag}{mg:Str->Option Value}{base:Heap}{CX:CXT}{k:Nat}{f:Addr}{fd:FuncData}{ps:List Str}{sp sp' sp2:Sp}(F:a9 P w K mg base CX k f fd ps sp)(F':a9 P w K mg base CX k f fd ps sp')
  (h:∀vs H Q E,sp2 vs H Q E->sp vs H Q E\/sp' vs H Q E):a9 P w K mg base CX k f fd ps sp2 :=
 ⟨fun vs H Q E q=>(h _ _ _ _ q).elim (F.len vs H Q E) (F'.len vs H Q E),fun A outer s H args us vs Q E hr he hb hv hs=>(h _ _ _ _ hs).elim (fun z=>F.run A outer s H args us vs Q E hr he hb hv z) fun z=>F'.run A outer s H args us vs Q E hr he hb hv z⟩
def b4(g:List D->Option D)(gx:List D->Option (Option (Nat×List (Str×D))))(ds:List D):Option (Option (Nat×List (Str×D))):=match g ds with
 |some _=>some none
 |none=>gx ds
open PySem PySem.Spec PyProof.Rows PySem.W
theorem iZ(self:Value):∀l:List Value,refuseLoop self "__setattr__" l=refuseLoop self "__setattr__" (ij l)
 | []=>rfl
 |v :: r=>by
  cases v with
  |ref c=>rw[refuseLoop_ref];exact iZ self r
  |_=>rfl
theorem kl{x:Value}:∀l:List Value,(ij l).contains x=true->l.contains x=true
 | [],h=>h
 |v :: r,h=>by
  cases v with
  |ref c=>rw[List.contains_cons,kl r h,EJ]
  |_=>exact h
theorem qm{K:Frag}{C:Addr}(h:qo K C=true):∃cd,iR K C cd:=by
 unfold qo at h
 split at h
 ·rename_i cd hc
  simp only[C_,FH]at h
  obtain⟨h1,h2,h3,h4,h5⟩:=h
  exact⟨cd,hc,fun self=>by rw[iZ,h1];exact PySem.F.store_ValueError.passes self,kl _ (by rw[h1];decide +kernel),kl _ (by rw[h1];decide +kernel),h2,h3,h4,h5⟩
 ·cases h
structure yY (K:Frag) (x f:Str):Prop where
 ns:nsIn K mainGlobals x=some (some (.ref (aR K x)))
 q:kK K (aR K x) (jZ K (aR K x))=true
 fn:isFn K (.ref (jZ K (aR K x)))=true
 kp:keepIn K (.ref (aR K x))=true
 xc:∃cd,iR K (aR K x) cd
 nf:findIn K (.ref (aR K x)) f=some none
 cl:findIn K (.ref (aR K x)) "__class__" = some (some (.builtin "object.__class__"))
theorem AB{K:Frag}{x f:Str}(h:AC K x f=true):yY K x f:=by
 unfold AC tq at h
 simp only[C_,FH]at h
 obtain⟨h1,h2,h3,h4,h5,h6,h7⟩:=h
 exact⟨h1,h2,h3,h4,qm h5,h6,h7⟩
structure yX (K:Frag) (mg:Str->Option Value) (x f qual:Str) (st:Stmt) (as bs:List Str) (c d:Str):Prop where
 fn:∃fd,Fun K "__init__" qual st (jZ K (aR K x)) fd
 er:yY K x f
 mx:mg x=some (.ref (aR K x))
 ms:∀y ∈ as ++ bs ++ [c,d],mg y=some (.ref (aR K y))
 ka:kitAny K (.ref (aR K x)) (i0 K as)=some false
 kb:kitAny K (.ref (aR K x)) (i0 K bs)=some false
 kc:kitOne K (.ref (aR K x)) (.ref (aR K c))=some false
 kd:kitOne K (.ref (aR K x)) (.ref (aR K d))=some true
 kv:kitOne K (.ref (aR K x)) (.type "ValueError")=some true
theorem vq{K:Frag}{mg:Str->Option Value}{x f qual:Str}{st:Stmt}{as bs:List Str}{c d:Str}(h:vR K x f qual as bs c d=vS qual st)(g:∀(x:Str) (v:Value),nsIn K mainGlobals x=some (some v)->mg x=some v):yX K mg x f qual st as bs c d:=by
 obtain⟨h1,h⟩:=Dh h
 obtain⟨h2,h⟩:=Dh h
 obtain⟨h3,h⟩:=Dh h
 obtain⟨h4,h⟩:=Dh h
 obtain⟨h5,h⟩:=Dh h
 obtain⟨h6,h7⟩:=Dh h
 obtain⟨e1,e2⟩:=Bool.and_eq_true_iff.mp h2
 have er:=AB e1
 exact⟨yQ h1,er,g _ _ er.ns,fun y hy=>g _ _ (beq_iff_eq.mp (List.all_eq_true.mp e2 y hy)),h3,h4,h5,h6,h7⟩
end L2.Cu
namespace L2
open PySem PySem.Spec PyProof.Rows
section
variable {X:Cx}{dl:List (Addr×Obj)} {W:XW}
theorem sW(hst:X.stack=X.env :: X.outer)(hfr:X.env.frame=some X.env.locals):PassesOwn (model X.prog X.w) X.A X.env (EX X dl W):=by
 intro e s1 x
 obtain⟨σ,a,C,dx,o0,H,rfl,I,er,eo,hp,hw⟩:=x
 have ok:=I.ok
 have back:∀(h4:Heap) (T:Addr),Inv X dl σ H { s1 with heap:=h4 }->Fly h4 o0 a T (rawInt X.env.locals)->H T=none->X.s₀.heap.objs.size<=T->(∀p ∈ X.pn ++ dl,p.1 ≠ T)->cameBackBy (model X.prog X.w) X.A X.env (EX X dl W) (.ref a) { s1 with heap:=h4 }:=by
  intro h4 T I4 f4 t1 t2 t3
  obtain⟨vs,oT,ts,q1,q2,hTe,q3,q4,q5⟩:=id f4
  unfold cameBackBy
  refine CN (Do (s:={ s1 with heap:=h4 }) q1 rfl q2 ?_)
  rw[if_neg (by simp)]
  rw[hfr]
  refine bR (s:={ s1 with heap:=h4 }) f4 fun h5 k5 _ f5=>?_
  have I5:Inv X dl σ H { s1 with heap:=h5 }:=Inv.kp (s:={ s1 with heap:=h4 }) (ch:=[T]) I4 (k5.wide (fun _ z=>by cases z) fun _ z=>z) fun b hb=>by
   rw[List.mem_singleton.mp hb]
   exact⟨t2,f4.recd.2,t3,t1⟩
  exact⟨σ,a,C,dx,o0,H,rfl,I5,.inr ⟨T,_,f5,.inr rfl,t1,t2,t3⟩,eo,hp,hw⟩
 have hA:X.A.frames=some (X.env :: X.outer):=by rw[<-hst];exact ok.frames
 have hF:s1.heap.FunFrames X.base (X.env :: X.outer):=by rw[<-hst];exact I.stack
 have hz:=I.sz
 have pinT:∀T,s1.heap.objs.size<=T->∀p ∈ X.pn ++ dl,p.1 ≠ T:=fun T hT p hp z=>absurd (CS (I.pin p hp).1) (by rw[z];exact Nat.not_lt.mpr hT)
 show wpAny _ _ (noteFrame (.ref a) X.env) _ _ _
 rcases er with⟨vs,q1,q2,q3⟩ |⟨T,fl,hf1,rfl |rfl,hT,hTz,hTp⟩
 ·refine fj (base:=X.base) hA hF hfr q1 q2 q3 fun h4 T k4 z4 f4=>?_
  have I4:Inv X dl σ H { s1 with heap:=h4 }:=I.kp (ch:=[a]) (by unfold frs;rw[hst];exact k4) fun b hb=>by
   rw[List.mem_singleton.mp hb]
   exact⟨eo.new,⟨_,vs,q1,rfl⟩,hp,eo.free⟩
  exact back h4 T I4 f4 (I.hok.fresh z4) (CZ hz z4) (pinT T z4)
 ·refine gp (base:=X.base) hA hF hfr hf1 fun h4 T' k4 z4 f4=>?_
  have I4:Inv X dl σ H { s1 with heap:=h4 }:=I.kp (ch:=[a,T]) (by unfold frs;rw[hst];exact k4) fun b hb=>by
   rcases List.mem_cons.mp hb with rfl |hb
   ·exact⟨eo.new,hf1.recd.1,hp,eo.free⟩
   ·rw[List.mem_singleton.mp hb]
    exact⟨hTz,hf1.recd.2,hTp,hT⟩
  exact back h4 T' I4 f4 (I.hok.fresh z4) (CZ hz z4) (pinT T' z4)
 ·exact hV hfr hf1 (back s1.heap T I hf1 hT hTz hTp)
end
section
variable {X:Cx}{tg:Expr}
def AZ(wi:TI)(g:TG)(tb:TSX):TSX:=fun D V σ H=>wi σ H fun J H1=>∃W:Nat->Nat->St->Hp->Prop,(∃m,W 0 m σ H1)/\∀i m σ H,W i m σ H ->
 (J.stop i H/\D.nx σ H)\/(J.go i H/\∃N:St->Hp->Prop,(∀σ' H',N σ' H'->∃m',m' < m/\W (i + 1) m' σ' H')/\∀x H',J.yld i H x H'->g x σ H' fun σ2 H2=>tb { D with nx:=N,ct:=N,bk:=D.nx } V σ2 H2)
theorem wS{mt:Expr}{body:List Stmt}{wi:TI}{g:TG}{tb:TSX}{pos:Pos}(hst:X.stack=X.env :: X.outer)(hfr:X.env.frame=some X.env.locals)(hc:X.calm=true)(hi:PI X.nox tg mt wi)(hg:PG X.nox tg g)(hb:gZ X body tb)
  (hs:∀x,foldedSetIterable mt X.env x=pure x:=by intro _;rfl):PSX X (.For tg mt body [] pos) (AZ wi g tb):=by
 intro dl s σ H D V xe I h hx
 have hp:PassesOwn (model X.prog X.w) X.A X.env (EX X dl V):=sW hst hfr
 refine Dc (E:=EX X dl V) ?_ (fun _ _ q=>q) hx
 refine wpAny_For (Dc (hi dl s σ H _ (I.wish _) h) (fun v s1 h1=>Dc h1 (fun itv s2 h2=>?_) fun _ _ z=>False.elim z) fun _ _ z=>False.elim z) hs
 obtain⟨it,fp,tn,J,H2,e,I2,T,st2,f2,Wn,⟨m0,w0⟩,turn⟩:=h2
 subst e
 have stat:∀{H':Hp},(∀b ∈ fp,H' b=none)->∀b ∈ fp,f8 X dl H' b:=fun hn b hb=>⟨hn b hb,(f2 b hb).2⟩
 refine codeAny_forLoop_any (fun n s'=>∃i σ' H',Inv X dl σ' H' s'/\tn i s'.heap/\(∀b ∈ fp,H' b=none)/\Wn i n σ' H') ?_ m0 ⟨0,σ,H2,I2.unwish,st2,fun b hb=>(f2 b hb).1,w0⟩
 rintro n s3 ⟨i,σ3,H3,I3,st3,fr3,w3⟩
 rcases turn i n σ3 H3 w3 with⟨stop,qn⟩ |⟨go,N,hN,step⟩
 ·refine DJ hp (thn (T.done X rfl rfl rfl hc i dl s3 σ3 H3 _ I3 (stat fr3) st3 stop) fun r s4 zz129_0=>?_)
  obtain⟨hr,I4⟩:=zz129_0
  subst hr
  exact Ee ⟨σ3,H3,I4,qn⟩
 ·refine DJ hp (thn (T.item X rfl rfl rfl hc i dl s3 σ3 H3 _ I3 (stat fr3) st3 go) fun r s4 zz130_0=>?_)
  obtain⟨u,hr,h4⟩:=zz130_0
  subst hr
  refine DJ hp (thn h4 fun _ s5 zz131_0=>?_)
  obtain⟨x,H5,I5,r5,y5,st5,fr5⟩:=zz131_0
  have I5':=I5.pinned (stat fr5) (T.obj _ _ st5)
  refine DJ hp (Dc (hg _ s5 σ3 H5 x u _ (I5'.wish _) r5 (step x H5 y5)) (fun _ s6 zz132_0=>?_) fun _ _ z=>False.elim z)
  obtain⟨σ6,H6,I6,q6⟩:=zz132_0
  have I6:=I6.unwish
  refine DJ hp (thn (hb _ s6 σ6 H6 _ V (EX X dl V) I6 q6 fun e s' ⟨σ',a,C,dx,o0,H',e1,I',er,eo,hp',hw⟩=>?_) fun f s7 q7=>?_)
  ·refine⟨σ',a,C,dx,o0,H',e1,I'.unpinned,?_,eo,fun p hm=>hp' p ?_,hw⟩
   ·rcases er with z |⟨T',fl,z1,z2,z3,z4,z5⟩
    ·exact .inl z
    ·refine .inr ⟨T',fl,z1,z2,z3,z4,fun p hm=>z5 p ?_⟩
     rcases List.mem_append.mp hm with m |m
     ·exact Dg _ m
     ·exact C2 _ (Dg _ m)
   ·rcases List.mem_append.mp hm with m |m
    ·exact Dg _ m
    ·exact C2 _ (Dg _ m)
  have again:∀{σ7:St}{H7:Hp},Inv X (dl ++ iC fp s5.heap) σ7 H7 s7->N σ7 H7->∃m,m < n/\∃i σ' H',Inv X dl σ' H' s7/\tn i s7.heap/\(∀b ∈ fp,H' b=none)/\Wn i m σ' H':=fun {σ7 H7} I7 n7=>by
   obtain⟨m',hm,w7⟩:=hN σ7 H7 n7
   refine⟨m',hm,i + 1,σ7,H7,I7.unpinned,T.keep _ _ _ st5 fun b hb o e=>(I7.pin (b,o) (C2 _ (C2 _ (cO hb e)))).1,fun b hb=>?_,w7⟩
   obtain⟨o,e,d⟩:=T.obj _ _ st5 b hb
   exact(I7.pin (b,o) (C2 _ (C2 _ (cO hb e)))).2.1
  cases f with
  |next=>obtain⟨σ7,H7,I7,n7⟩:=q7;exact again I7 n7
  |cont=>obtain⟨σ7,H7,I7,n7⟩:=q7;exact again I7 n7
  |brk=>obtain⟨σ7,H7,I7,q7⟩:=q7;exact⟨σ7,H7,I7.unpinned,q7⟩
  |ret v=>obtain⟨x7,σ7,H7,I7,r7,q7⟩:=q7;exact⟨x7,σ7,H7,I7.unpinned,r7,q7⟩
end
theorem wR{X:Cx}{i:Nat}{x:Str}{e:Expr}{te:TEX}{pos pos':Pos}(hN:X.N.Nodup)(hi:X.N[i]? = some x)(hx:Loc X.env.scope x)(he:PEX X e te)(hs:swapsWith e (some (.Name x pos')) pos.line X.env=pure false:=by rfl)(hf:X.fn x=true\/X.env.scope.names.lookup x=some .local:=by first |exact .inl rfl |exact .inr rfl |assumption) :
  PSX X (.Assign [.Name x pos'] e pos) (fun D W σ H=>te σ H (fun v H1=>D.nx (σ.set i (some v)) H1) W):=by
 intro dl s σ H D W xe I h hw
 refine wpAny_Assign_Name (thn (he dl s σ H _ W xe I h hw) fun v s1 zz134_0=>?_) hs
 obtain⟨y,H1,I1,r1,q1⟩:=zz134_0
 exact eI I1 hN hi hx r1 (fun s2 I2=>⟨_,H1,I2,q1⟩) hf
end L2
namespace L2.Cu
open PySem PySem.Spec PyProof.Rows
def hY(f:D->DE->Option bC):List D->DE->Option bC
 | [],E=>some (.ok (.nx E))
 |x :: xs,E=>(f x E).bind fun r=>match r with
  |.ok (.nx E')=>hY f xs E'
  |.ok (.ct E')=>hY f xs E'
  |.ok (.bk E')=>some (.ok (.nx E'))
  |r=>some r
def vF(fi:DE->Option (List D))(gf:D->DE->Option DE)(fb:DE->Option bC)(E:DE):Option bC:=(fi E).bind fun xs=>hY (fun x E1=>(gf x E1).bind fb) xs E
theorem xY{X:Cx}{cl:Nat->Addr}{pos:Pos}{tg mt:Expr}{body:List Stmt}{fi:DE->Option (List D)}{gf:D->DE->Option DE}{fb:DE->Option bC}(hst:X.stack=X.env :: X.outer)(hfr:X.env.frame=some X.env.locals)(hc:X.calm=true)(hi:Ei X.nox tg mt fi)(hg:Eg X.nox tg gf)(hb:kF X cl body fb)
  (hs:∀x,foldedSetIterable mt X.env x=pure x:=by intro _;rfl):EsX X cl (.For tg mt body [] pos) (vF fi gf fb):=PSX.by (wS hst hfr hc hi.h hg.h hb.h hs) fun Z W σ H z=>by
 obtain⟨B,F,E,r,k,q,w⟩:=z
 unfold vF at q
 cases hf:fi E with
 |none=>rw[hf]at q;cases q
 |some xs =>
  rw[hf,CA]at q
  refine⟨B,F,E,xs,k,hf,fun J F1 H1 x1 it=>?_⟩
  refine⟨fun i m σ' H'=>∃F' E',Ok B F' H' σ' E'/\Fr F1 F'/\i<=xs.length/\m=xs.length - i/\hY (fun x E1=>(gf x E1).bind fb) (xs.drop i) E'=some r,⟨_,F1,E,k.ext x1,fun _ _ e=>e,DV _,rfl,q⟩,?_⟩
  rintro i m σ' H' ⟨F',E',k',y,hi,rfl,ql⟩
  have fitF:i_ cl B F' Z W r:=w.mono fun a o e=>y a o (x1.fr a o e)
  obtain⟨st,gn⟩:=it i F' H' y k'.sub
  by_cases hlt:i < xs.length
  ·right
   have hx:xs[i]? = some xs[i]:=by simp[hlt]
   obtain⟨go,yl⟩:=gn _ hx
   rw[EZ hlt]at ql
   unfold hY at ql
   refine⟨go,fun σ2 H2=>∃F2 E2,Ok B F2 H2 σ2 E2/\Fr F1 F2/\hY (fun x E1=>(gf x E1).bind fb) (xs.drop (i + 1)) E2=some r,?_,?_⟩
   ·rintro σ2 H2 ⟨F2,E2,k2,y2,q2⟩
    exact⟨xs.length - (i + 1),by lia,F2,E2,k2,y2,hlt,rfl,q2⟩
   ·intro x H2 hy
    obtain⟨F3,x3,r3⟩:=yl x H2 hy
    cases hgf:gf xs[i] E' with
    |none=>simp[hgf]at ql
    |some E3 =>
     cases hfb:fb E3 with
     |none=>simp[hgf,hfb]at ql
     |some r1 =>
      simp only[hgf,hfb,CA]at ql
      have k3:=k'.ext x3
      refine⟨B,F3,E',xs[i],E3,k3,r3,hgf,fun σ4 F4 H4 k4 x4=>⟨B,F4,E3,r1,k4,hfb,?_⟩⟩
      have y4:Fr F1 F4:=fun a o e=>x4.fr a o (x3.fr a o (y a o e))
      have f4:Fr F' F4:=fun a o e=>x4.fr a o (x3.fr a o e)
      cases r1 with
      |xc n fs E5 =>
       simp only at ql
       cases ql
       exact i_.mono fitF f4
      |ok r1 =>
       cases r1 with
       |nx E5=>exact fun σ5 F5 H5 k5 y5=>⟨F5,E5,k5,fun a o e=>y5 a o (y4 a o e),ql⟩
       |ct E5=>exact fun σ5 F5 H5 k5 y5=>⟨F5,E5,k5,fun a o e=>y5 a o (y4 a o e),ql⟩
       |bk E5 =>
        simp only at ql
        cases ql
        exact fun σ5 F5 H5 k5 y5=>fitF σ5 F5 H5 k5 fun a o e=>y5 a o (f4 a o e)
       |rt d =>
        simp only at ql
        cases ql
        exact(i_.mono (r:=.ok (.rt d)) fitF f4)
  ·left
   have e:i=xs.length:=by lia
   subst e
   refine⟨st rfl,?_⟩
   rw[Ff]at ql
   cases ql
   exact fitF σ' F' H' k' fun _ _ e=>e
def spV(cl:Nat->Addr)(n:Nat)(g:List D->Option D)(gx:List D->Option (Option (Nat×List (Str×D)))):Sp:=fun vs H Q E=>∃F ds,(∀a o,F a=some o->H a=some o)/\Reps F vs ds/\ds.length=n /\
 ((∃d,g ds=some d/\∀v F' H',Ext F H F' H'->Rep F' v d->Q v H')\/∃m fs,gx ds=some (some (m,fs))/\∀F' H',Ext F H F' H'->lW fs H' (E (.ref (cl m))))
theorem Cg{P:Program}{w:World}{K:PySem.W.Frag}{mg:Str->Option Value}{base:Heap}{k n:Nat}{f:Addr}{fd:FuncData}{ps:List Str}{cl:Nat->Addr}{g:List D->Option D}{gx:List D->Option (Option (Nat×List (Str×D)))}(F:a9 P w K mg base CX0 k f fd ps (spD n g))
  (F':a9 P w K mg base (CX1 P w) k f fd ps (pk cl n gx)):a9 P w K mg base (CX1 P w) k f fd ps (spV cl n g gx) :=
 a9.or (a9.wide F) F' fun vs H Q E h=>by
  obtain⟨G,ds,h1,h2,h3,⟨d,h4,h5⟩ |⟨m,fs,h4,h5⟩⟩:=h
  ·exact .inl ⟨G,ds,d,h1,h2,h3,h4,h5⟩
  ·exact .inr ⟨G,ds,some (m,fs),h1,h2,h3,h4,h5⟩
def o7(n:Nat)(g:List D->Option D)(gx:List D->Option (Option (Nat×List (Str×D))))(ok:D->DE->Out)(f:DE->Option (List D))(E:DE):Option bC:=(f E).bind fun ds=>if ds.length=n then match g ds with
  |some d=>some (.ok (ok d E))
  |none=>(gx ds).bind fun r=>r.map fun m=>.xc m.1 m.2 E
 else none
theorem qf{cl:Nat->Addr}{n:Nat}{g:List D->Option D}{gx:List D->Option (Option (Nat×List (Str×D)))}{ok:D->DE->Out}{f:DE->Option (List D)}{B:Hp×Hp}{F H:Hp}{σ:St}{E:DE}{r:bC}{Z:dh}{W:XW}{Q:VK}(k:Ok B F H σ E)(q:o7 n g gx ok f E=some r)(w:i_ cl B F Z W r)
  (hq:∀d v F' H',kP B F Z (ok d E)->Ext F H F' H'->Rep F' v d->Q v H'):tL f σ H fun vs H1=>∃X':XK,spV cl n g gx vs H1 Q X'/\∀c d H',X' c d H'->W σ c d H':=by
 unfold o7 at q
 cases hf:f E with
 |none=>rw[hf]at q;cases q
 |some ds =>
  rw[hf,CA]at q
  by_cases hn:ds.length=n
  ·rw[if_pos hn]at q
   refine⟨B,F,E,ds,k,hf,fun vs F1 H1 x1 r1=>⟨fun c d H'=>W σ c d H',⟨F1,ds,x1.sub,r1,hn,?_⟩,fun _ _ _ z=>z⟩⟩
   cases hg:g ds with
   |some d =>
    rw[hg]at q
    cases q
    exact .inl ⟨d,rfl,fun v F' H' x r=>hq d v F' H' w (x1.trans x) r⟩
   |none =>
    rw[hg]at q
    obtain⟨y,h1,h2⟩:=Option.bind_eq_some_iff.mp q
    obtain⟨⟨m,fs⟩,rfl,rfl⟩:=Option.map_eq_some_iff.mp h2
    exact .inr ⟨m,fs,h1,fun F' H' x=>w σ F' H' (k.ext (x1.trans x)) (x1.trans x).fr⟩
  ·rw[if_neg hn]at q;cases q
section
variable {X:Cx}{cl:Nat->Addr}{kk:Nat}{fa:Addr}{fd:FuncData}{ps:List Str}{y:Str}{p cpos pos:Pos}{e:Expr}{es:List Expr}{n:Nat}{g:List D->Option D}{gx:List D->Option (Option (Nat×List (Str×D)))} {f:DE->Option (List D)}
theorem vO{i:Nat}{x:Str}{pos':Pos}(Fn:a9 X.prog X.w X.K X.mg X.base (CX1 X.prog X.w) kk fa fd ps (spV cl n g gx))(hr:ca kk X.A)(hg:Gl X y)(hm:X.mg y=some (.ref fa))(hk:PySem.W.keepIn X.K (.ref fa)=true)(hb:eW X.K fd ps [])(ha:Ea X.nox (e :: es) f)
  (hN:X.N.Nodup) (hi:X.N[i]? = some x) (hx:Loc X.env.scope x) (hdb:(y == ("__debug__" : Str))=false:=by decide) (he:aD e=true:=by rfl) (hpl:es.all aD=true:=by rfl) (hs:swapsWith (.Call (.Name y p) (e :: es) [] cpos) (some (.Name x pos')) pos.line X.env=pure false:=by rfl)
  (hf:X.fn x=true\/X.env.scope.names.lookup x=some .local:=by first |exact .inl rfl |exact .inr rfl |assumption):EsX X cl (.Assign [.Name x pos'] (.Call (.Name y p) (e :: es) [] cpos) pos) (o7 n g gx (fun d E=>.nx (E.set i (.val d))) f) :=
 PSX.by (wR hN hi hx (nE Fn hr hg hm hk hb ha.h hdb (aC e es X.env he) (cL cpos X.env es hpl)) hs hf) fun Z W σ H z=>by
  obtain⟨B,F,E,r,k,q,w⟩:=z
  exact qf k q w fun d v F' H' w' x r=>w' _ F' H' ((k.ext x).set_val r i) x.fr
end
open PySem PySem.Spec PyProof.Rows PySem.W
theorem Bs{P:Program}{w:World}{K:PySem.W.Frag}{mg:Str->Option Value}{base:Heap}{k n:Nat}{f:Addr}{fd:FuncData}{ps:List Str}{cl:Nat->Addr}{g:List D->Option D}{gx:List D->Option (Option (Nat×List (Str×D)))}(F:a9 P w K mg base CX0 k f fd ps (spD n g))
  (F':a9 P w K mg base (CX1 P w) k f fd ps (pk cl n gx)):a9 P w K mg base (CX1 P w) k f fd ps (pk cl n (b4 g gx)) :=
 a9.or (a9.wide F) F' fun vs H Q E h=>by
  obtain⟨G,ds,r,h1,h2,h3,h4,h5⟩:=h
  unfold b4 at h4
  cases hg:g ds with
  |none=>rw[hg]at h4;exact .inr ⟨G,ds,r,h1,h2,h3,h4,h5⟩
  |some d=>rw[hg]at h4;cases h4;exact .inl ⟨G,ds,d,h1,h2,h3,hg,fun v F' H' x _=>h5 v F' H' x⟩
end L2.Cu
namespace L2
open PySem PySem.Spec PyProof.Rows
structure o9 (k:Nat) (A:Around):Prop where
 dp:A.depth + 3 * k + 5 < recursionLimit
 un:A.units + 16 * k + 200 < cLine
theorem o9.depth{k:Nat}{A:Around}(r:o9 k A):A.depth < recursionLimit:=by have:=r.dp;lia
theorem o9.deeper{k:Nat}{A:Around}(r:o9 (k + 1) A)(env:Env):o9 k (A.deeper env) :=
 ⟨by have:=r.dp;show A.depth + 1 + 3 * k + 5 < _;lia,by have:=r.un;show A.units + 3 + 16 * k + 200 < _;lia⟩
def Cx.un(X:Cx):Cx:={ X with calm:=false }
theorem vf{f g:Str}{y:V}:∀{fs:List (Str×V)},fs.lookup f=none->(fs ++ [(f,y)]).lookup g=if g=f then some y else fs.lookup g
 | [],_=>by
  by_cases h:g=f
  ·subst h;simp
  ·have:(g == f)=false:=by simpa using h
   simp[List.lookup,this,h]
 | (k,v) :: r,h=>by
  rw[Dd]at h
  cases hk:f == k with
  |true=>rw[hk]at h;cases h
  |false =>
   rw[hk]at h
   rw[CK,Dd,Dd,vf h]
   cases hg:g == k with
   |false=>rfl
   |true =>
    have e:g=k:=FR hg
    have ne:g ≠ f:=fun z=>by rw[<-z,e]at hk;simp at hk
    exact(if_neg ne).symm
section
variable {X:Cx}{o value:Expr}{ta tv:TE}{f:Str}{pos pos':Pos}
def sXg(K:PySem.W.Frag)(ta tv:TE)(f:Str):TS:=fun D σ H=>tv σ H fun y H1=>ta σ H1 fun x H2=>∃e C t cd dx fs,x=.ref e/\dx ≠ e/\H2 e=some (.ext (er1 e C t dx))/\H2 dx=some (.xd fs)/\iR K C cd/\PySem.W.findIn K (.ref C) f=some none/\fs.lookup f=none/\fs.length<=900 /\
 D.nx σ (upd H2 dx (.xd (fs ++ [(f,y)])))
theorem Bj(ha:PE X o ta)(hv:PE X value tv)(hs:swapsWith value (some (.Attribute o f pos')) pos.line X.env=pure false):PS X (.Assign [.Attribute o f pos'] value pos) (sXg X.K ta tv f):=by
 intro dl s σ H D I h
 refine FP (thn (hv dl s σ H _ I h) fun u s1 ⟨y,H1,I1,ry,q⟩=>thn (ha dl s1 σ H1 _ I1 q) fun ov s2 zz136_0=>?_) hs
 obtain⟨x,H2,I2,rx,e,C,t,cd,dx,fs,ex,hde,ee,ed,c,hn,hlk,hz,q2⟩:=zz136_0
 subst ex
 obtain rfl:ov=Value.ref e:=rx
 have he:s2.heap.get? e=some { cm C t with dict:=some dx }:=(I2.hok e _ ee).1
 obtain⟨m,hm,rel⟩:∃mA,s2.heap.Ns1 dx mA/\∀f,d6 (fs.lookup f) (mA f):=I2.hok dx _ ed
 have hI:s2.heap.Inst e C m:=⟨_,he,rfl,fun c z=>(by cases z),.inr ⟨dx,rfl,hde,hm⟩⟩
 have hw:PySem.Within m (fs.map (·.1)):=fun g hg=>by
  have r:=rel g
  cases hl:fs.lookup g with
  |none =>
   rw[hl]at r
   cases hmg:m g with
   |none=>exact absurd hmg hg
   |some v=>rw[hmg]at r;exact False.elim r
  |some v =>
   obtain⟨a,b,e1,_⟩:=List.lookup_eq_some_iff.mp hl
   rw[e1];simp
 refine lF (ns:=fs.map (·.1)) I2.kIn hI c.cls c.pass c.obj c.hd c.sa hn hw (by rw[CQ];lia) fun h' tk' i1 i2 i3=>?_
 obtain⟨dx',e1,e2⟩:=i3 _ he
 have hdx:dx'=dx:=by
  rcases e2 with z |⟨z,_⟩
  ·cases z;rfl
  ·cases z
 subst hdx
 have kp:∀b ob,b ≠ e->b ≠ dx'->s2.heap.get? b=some ob->h'.get? b=some ob:=fun b ob hb hb2 z=>i2 b ob hb (fun o0 d0 z1 z2=>by rw[he]at z1;cases z1;cases z2;exact hb2) z
 have kpe:∀b ob,b ≠ dx'->s2.heap.get? b=some ob->h'.get? b=some ob:=fun b ob hb z=>by
  by_cases hbe:b=e
  ·subst hbe;rw[he]at z;cases z;exact e1
  ·exact kp b ob hbe hb z
 have hns:h'.Ns1 dx' (fun g=>if g=f then some u else m g):=by
  obtain⟨o',a1,a2,a3,a4⟩:=i1
  rw[e1]at a1;cases a1
  rcases a4 with⟨z,_⟩ |⟨d',z1,z2,z3⟩
  ·cases z
  ·cases z1;exact z3
 have I3:Inv X dl σ (upd H2 dx' (.xd (fs ++ [(f,y)]))) { s2 with heap:=h',toks:=tk' }:=by
  refine I2.un ⟨fun b ob z n _ _=>?_,fun b ob z n _ _=>?_,fun b ob z n _=>?_,fun b ob z _=>?_,fun b xs z=>?_,fun b ob xs z=>?_,fun b ps z=>?_⟩ fun b u' z=>?_
  ·exact kpe b ob (fun w=>by rw[w,ed]at n;cases n) z
  ·exact⟨ob.slots,kpe b ob (fun w=>by rw[w,ed]at n;cases n) z⟩
  ·rw[af (fun w=>by rw[w,ed]at n;cases n)];exact n
  ·by_cases hb:b=dx'
   ·rw[hb]
    obtain⟨o',_,_,w,_⟩:=hns
    exact⟨o',w⟩
   ·exact⟨ob,kpe b ob hb z⟩
  ·rw[af (fun w=>by rw[w,ed]at z;cases z)];exact z
  ·rw[af (fun w=>by rw[w,ed]at z;cases z)];exact z
  ·exact⟨#[],by rw[af (fun w=>by rw[w,ed]at z;cases z),z];simp⟩
  ·by_cases hb:b=dx'
   ·subst hb
    rw[aj]at z
    cases z
    refine⟨_,hns,fun g=>?_⟩
    rw[vf hlk]
    by_cases hg:g=f
    ·rw[if_pos hg,if_pos hg];exact ry
    ·rw[if_neg hg,if_neg hg];exact rel g
   ·rw[af hb]at z
    refine(I2.hok b u' z).stay (fun c v hc w=>kpe c v (fun z3=>?_) w) (fun c w=>?_) fun c xs w=>?_
    ·rcases hc with rfl |hc
     ·exact hb z3
     ·rw[z3,ed]at hc;cases hc
    ·rw[af (fun z3=>by rw[z3,ed]at w;cases w)];exact w
    ·rw[af (fun z3=>by rw[z3,ed]at w;cases w)];exact w
 exact⟨σ,_,I3,q2⟩
end
def ua(C:Addr)(fs:List Str):Sp:=fun vs H Q _=>∃e t ws,vs=V.ref e :: ws/\ws.length=fs.length/\H e=some (.ext (er0 e C t))/\∀dx,H dx=none->dx ≠ e->Q .non (upd (upd H e (.ext (er1 e C t dx))) dx (.xd (fs.zip ws)))
section
variable {X:Cx}{k:Nat}{fI C:Addr}{fd:FuncData}{fs ps:List Str}{x:Str}{np cpos pos:Pos}{arg:Expr}{es:List Expr}{t:TA}
theorem pC(hq:kK X.K C fI=true)(F:a9 X.prog X.w X.K X.mg X.base CX0 k fI fd ("self" :: ps) (ua C fs))(hb:eW X.K fd ("self" :: ps) [])(hpf:ps.length=fs.length)(hfl:fs.length<=900)(hfn:PySem.W.isFn X.K (.ref fI)=true)(hr:ca (k + 1) X.A)(hc:X.calm=true)
  (hg:Gl X x) (hm:X.mg x=some (.ref C)) (hk:PySem.W.keepIn X.K (.ref C)=true) (ha:PA X.nox (arg :: es) t) (hdb:(x == ("__debug__" : Str))=false:=by decide) (he:starEach (arg :: es) X.env=(false,eval arg X.env) :: starEach es X.env:=by rfl) (hpl:(backTo cpos (starEach es X.env)).any (·.1)=false:=by rfl) :
  PSX X (.Raise (some (.Call (.Name x np) (arg :: es) [] cpos)) none pos) (fun D W σ H=>t σ H fun vs H1=>vs.length=fs.length/\∀dx,H1 dx=none->W σ (.ref C) (some dx) (upd H1 dx (.xd (fs.zip vs)))):=by
 intro dl s σ H D W xe I h hx
 obtain⟨nm,qn,N,bs,bm,hdct,sn,sub,ab,col,dd,k0,k1,k2,k3,k5,mN0,hC0,_,_,T0⟩:=mD I.kIn hq
 have BT:bm.contains (.type "BaseException")=true:=T0.hasType (DC).hasBase
 rw[arm_exec_Raise]
 refine CN (EW (jH (C:=C) (nm:=nm) (q:=qn) (N:=N) (bs:=bs) (bm:=bm) (hdct:=hdct) (sn:=sn) (sub:=sub) (ab:=ab) (col:=col) (dd:=dd) (k0:=k0) (k1:=k1) (k2:=k2) (k3:=k3) (k5:=k5) (newId := "ValueError.__new__") BT (I.ok.hd hc) ?_))
 refine CN (Dc (Eb (fm I hg hm ?_ hdb)) (fun v s3 z=>CN (EW (CP z))) fun _ _ z=>z)
 refine Fz (h₀:=X.base) I.ok.mod.kin hk (Dc (ha cpos dl s σ H _ (I.wish _) h) (fun us s1 ⟨vs,H1,I1,r,hvs,q⟩=>⟨I1.unwish.kIn,?_⟩) fun _ _ z=>False.elim z) he hpl
 have I1:=I1.unwish
 have hul:us.length=fs.length:=(Paired.length r).symm.trans hvs
 obtain⟨oC,hoC⟩:=xU hq
 have sameC:∀s':Shared,X.K.In s'.heap->s'.heap.get? C=s.heap.get? C:=fun s' z=>(z _ _ hoC).trans (I.kIn _ _ hoC).symm
 obtain⟨nm1,qn1,N1,bs1,bm1,Hb,sn1,sub1,ab1,col1,dd1,j0,j1,j2,j3,j5,mN1,hC1,hN1,hi1,T1⟩:=mD I1.kIn hq
 obtain⟨oI,hoI,hclI⟩:∃oI,s1.heap.get? fI=some oI/\oI.cls=.type "function" := by
  have z:PySem.W.typeIn X.K (.ref fI)=some (.type "function"):=beq_iff_eq.mp hfn
  obtain⟨o,w1,w2⟩:=Option.map_eq_some_iff.mp z
  exact⟨o,I1.kIn _ _ w1,w2⟩
 have hz:X.s₀.heap.objs.size<=s1.heap.objs.size:=I1.sz
 have GB:∀p ∈ X.pn ++ dl,p.1 < s1.heap.objs.size:=fun p hp=>CS (I1.pin p hp).1
 have hHe:H1 (s1.heap.objs.size + 1)=none:=I1.hok.fresh (D4 _)
 obtain⟨hh,g,dr,tk,os⟩:=s1
 show wpAny _ _ (call (.ref C) us) _ _ _
 refine vL (DC) T1 hC1 hN1 hi1 hoI hclI ?_ (by rw[EA,hul];lia)
 have he2:((hh.push { cls:=.type "tuple",data:=.seq us.toArray }).push (cm C hh.objs.size)).get? (hh.objs.size + 1)=some (cm C hh.objs.size):=by heap_get
 have I2:Inv X dl σ (upd H1 (hh.objs.size + 1) (.ext (er0 (hh.objs.size + 1) C hh.objs.size))) ⟨(hh.push { cls:=.type "tuple",data:=.seq us.toArray }).push (cm C hh.objs.size),g,dr,tk,os⟩:=
  I1.laid (t':=tk) (fun b o z=>CO _ (CO _ z)) (D4 _) ⟨he2,⟨_,he2⟩,fun h1 h2 z1 z2=>z2 _ z1⟩
 have hsp:ua C fs (V.ref (hh.objs.size + 1) :: vs) (upd H1 (hh.objs.size + 1) (.ext (er0 (hh.objs.size + 1) C hh.objs.size))) (fun r H'=>r=.non/\∃dx,H1 dx=none/\dx ≠ hh.objs.size + 1/\H'=upd (upd (upd H1 (hh.objs.size + 1) (.ext (er0 (hh.objs.size + 1) C hh.objs.size))) (hh.objs.size + 1) (.ext (er1 (hh.objs.size + 1) C hh.objs.size dx))) dx (.xd (fs.zip vs))) E0 :=
  ⟨_,_,vs,rfl,hvs,aj,fun dx z1 z2=>⟨rfl,dx,by rw[af z2]at z1;exact z1,z2,rfl⟩⟩
 have hb':=hb ⟨(hh.push { cls:=.type "tuple",data:=.seq us.toArray }).push (cm C hh.objs.size),g,dr,tk,os⟩ (.ref (hh.objs.size + 1) :: us) I2.kIn (by simp[hul,hpf])
 rw[DI]at hb'
 refine FF (EO (F.run _ X.stack _ _ ⟨.ref (hh.objs.size + 1) :: us,[]⟩ (.ref (hh.objs.size + 1) :: us) (V.ref (hh.objs.size + 1) :: vs) _ E0 (hr.make C us []) (I2.env0.make C us []) hb' (.cons rfl r) hsp) fun r s' hq'=>?_)
 cases r with
 |error e=>exact False.elim hq'
 |ok fl =>
  cases fl with
  |ret w =>
   obtain⟨v',H',I3,rv',ev,dx,d1,d2,eH⟩:=I2.after hq'
   subst ev
   have hHe':H' (hh.objs.size + 1)=some (.ext (er1 (hh.objs.size + 1) C hh.objs.size dx)):=by rw[eH,af (Ne.symm d2),aj]
   have F0:s'.heap.get? (hh.objs.size + 1)=some { cm C hh.objs.size with dict:=some dx }:=(I3.hok _ _ hHe').1
   have I4:=I3.untrack hHe'
   have eR:rmH H' (hh.objs.size + 1)=upd H1 dx (.xd (fs.zip vs)):=by
    funext b
    by_cases hb0:b=hh.objs.size + 1
    ·rw[hb0,dM,af (Ne.symm d2)];exact hHe.symm
    ·rw[bU hb0,eH]
     by_cases hb1:b=dx
     ·rw[hb1,aj,aj]
     ·rw[af hb1,af hb1,af hb0,af hb0]
   rw[eR]at I4
   refine⟨rv',hh.objs.size + 1,_,_,rfl,(sameC s' I3.kIn).trans hC0,F0,rfl,rfl,rfl,hx _ _ ⟨σ,hh.objs.size + 1,C,some dx,{ cm C hh.objs.size with dict:=some dx },_,rfl,I4,.inl ⟨_,F0,rfl,rfl⟩,⟨rfl,rfl,fun d z=>(by cases z;exact d2),?_,CZ hz (D4 _),fun _ _ _ _ _=>rfl⟩,fun p hp z=>?_,q dx d1⟩⟩
   ·rw[af (Ne.symm d2)];exact hHe
   ·have:=GB p hp
    rw[z]at this
    exact absurd this (Nat.not_lt.mpr (D4 _))
  |next=>exact False.elim hq'
  |brk=>exact False.elim hq'
  |cont=>exact False.elim hq'
end
theorem xy{K:PySem.W.Frag}{h:Heap}{N:Addr}{m:Str->Option Value}{n:Str}(X:K.In h)(G:h.Ns N m)(z:PySem.W.nsIn K N n=some none):m n=none:=by
 obtain⟨ob,es,ep,hob,hdt,_,Gr⟩:=G
 unfold PySem.W.nsIn at z
 split at z
 ·rename_i c d es' n' sl q
  have w:=X _ _ q
  rw[hob]at w
  cases w
  cases hdt
  split at z
  ·rename_i en hen
   cases z
  ·rename_i hen
   rw[<-Gr]
   unfold nsFind findBy
   rw[<-FE,hen];rfl
 ·cases z
theorem qY{K:PySem.W.Frag}{h:Heap}{C:Addr}(X:K.In h)(q:oG K C=true):∃nm qn N bs bm hdct sn sub ab col dd k0 k1 k2 k3 k5 mN,h.get? C=some (excClassObj nm qn C N bs bm hdct sn sub ab col dd k0 k1 k2 k3 k5 "ValueError.__new__")/\h.Ns N mN/\mN "__init__" = none/\OwnTail h bmV bm:=by
 unfold oG at q
 split at q
 ·rename_i dd cd sl ho
  split at q
  ·rename_i C' bm k0 k1 k2 k3 n k5 hm hs
   simp only[C_,FH,EG]at q
   obtain⟨q1,q2,Gm,ht,hok,hni⟩:=q
   subst q1 q2
   obtain⟨nm,bs,mro,ns,qn,hd,sn,sub,ab,col,del⟩:=cd
   dsimp only at hm Gm hok hni
   subst hm Gm
   have hsl:sl=#[k0,k1,k2,k3,some (.builtin "ValueError.__new__"),k5]:=by
    obtain⟨l⟩:=sl
    simp only at hs
    rw[hs]
   subst hsl
   have hN:h.Ns ns (h.nsMap ns):=.of_isNs (PySem.W.isNs_of_in X hok)
   exact⟨nm,qn,ns,bs,bm,hd,sn,sub,ab,col,dd,k0,k1,k2,k3,k5,_,X _ _ ho,hN,xy X hN hni,PySem.W.tail_of_in X ht⟩
  ·cases q
 ·cases q
section
variable {prog:Program}{w:World}{A:Around}{E:Value->Shared->Prop}{h:Heap}{g:Array GenState}{d:Drawn}{t:Nat}{os:OsState}
variable {nm q:Str}{C N:Addr}{bs bm bmB:List Value}{hdct:Bool}{sn:List Str}{sub:List Value}{ab:Bool}{col:Option Bool}{dd:Option Addr}{k0 k1 k2 k3 k5:Option Value}{B newId initId:String}
theorem j6(F:ExcBaseFacts B newId initId bmB)(T:OwnTail h bmB bm){mN:Str->Option Value}{us:List Value}{Q:Fin->Shared->Prop}
  (hC:h.get? C=some (excClassObj nm q C N bs bm hdct sn sub ab col dd k0 k1 k2 k3 k5 newId)) (hN:h.Ns N mN) (Gf:mN "__init__" = none)
  (Gg:∀h':Heap,(∀b o,h.get? b=some o->h'.get? b=some o)->h'.get? (h.objs.size + 1)=some (cm C (h.objs.size + 2))->Q (.done (.ret (.ref (h.objs.size + 1)))) ⟨h',g,d,t,os⟩)
  (hus:us.length<=sizeLine):wpAny (model prog w) A (Builtin.«type.__call__» ⟨.ref C :: us,[]⟩) Q E ⟨h,g,d,t,os⟩:=by
 let t1:Obj:={ cls:=.type "tuple",data:=.seq us.toArray }
 let e1:Obj:={ cls:=.ref C,data:=.fields #[.ref h.objs.size,.none,.none,.none,.bool false,.none] }
 have kp:∀b o,h.get? b=some o->((h.push t1).push e1).get? b=some o:=fun b o z=>CO e1 (CO t1 z)
 repeat (first |with_reducible refine De hC ?_ |with_reducible refine wpAny_madeBy_exc hC ?_ |wp_step)
 refine codeAny_call_builtin_code (Ed _ F.quiet) (wpAny_check_new_subT F T hC (codeAny_exc_new_subT F T hC ?_ hus))
 show wpAny _ _ _ _ _ _
 have hC1:=kp _ _ hC
 have Gq:((h.push t1).push e1).get? (h.objs.size + 1)=some e1:=by heap_get
 have Gb:(Value.ref C :: bm).contains (.ref C)=true:=by simp
 unfold isInstance
 repeat (first |with_reducible refine De Gq ?_ | (with_reducible refine FK hC1 ?_;rw[Gb]) |wp_step)
 show wpAny _ _ (typeLookup (.ref C) _) _ _ _
 refine wpAny_typeLookup_tail hC1 (hN.keeps kp) (T.keeps kp) F.mroIs F.init.lookup ?_
 rw[Gf]
 show wpAny _ _ (holding _ _) _ _ _
 refine Dx (CN ?_)
 rw[F.init.bind]
 refine CP (CN (FF ?_))
 show codeAny _ _ (.call (.builtin initId) ⟨.ref (h.objs.size + 1) :: us,[]⟩) _ _
 refine Em F.init.plain F.initEntry (wpAny_check_init_subT F (T.keeps kp) hC1 Gq rfl ?_)
 unfold Builtin.«BaseException.__init__»
 dsimp only
 rw[if_neg (by decide)]
 refine CN (wpAny_newTuple (CN ?_) hus)
 unfold Builtin.BaseException.bexcPut
 have hg2:(((h.push t1).push e1).push { cls:=.type "tuple",data:=.seq us.toArray }).get? (h.objs.size + 1)=some e1:=CO _ Gq
 refine CN (Do (i:=0) hg2 rfl rfl ?_)
 refine CN (Eu hg2 rfl (by show 0 < 6;decide) ?_)
 unfold letGo
 repeat wp_step
 refine Gg _ (fun b o z=>?_) ?_
 ·have hb:b ≠ h.objs.size + 1:=C5 (EF (CS z))
  exact(EB _ _ _ _ hb).trans (CO _ (kp _ _ z))
 ·have hsz:((h.push t1).push e1).objs.size=h.objs.size + 2:=by simp[Heap.push]
  refine(Dr _ hg2 rfl).trans ?_
  show some _=some _
  rw[hsz];rfl
theorem sV(F:ExcBaseFacts B newId initId bmB)(T:OwnTail h bmB bm){mN:Str->Option Value}{us:List Value}{Q:Value->Shared->Prop}
  (hC:h.get? C=some (excClassObj nm q C N bs bm hdct sn sub ab col dd k0 k1 k2 k3 k5 newId)) (hN:h.Ns N mN) (Gf:mN "__init__" = none)
  (Gg:∀h':Heap,(∀b o,h.get? b=some o->h'.get? b=some o)->h'.get? (h.objs.size + 1)=some (cm C (h.objs.size + 2))->Q (.ref (h.objs.size + 1)) ⟨h',g,d,t,os⟩)
  (hus:us.length<=sizeLine):wpAny (model prog w) A (call (.ref C) us) Q E ⟨h,g,d,t,os⟩:=by
 have c1:=tc_lookup
 have c2:=tc_bind (.ref C)
 have hT:(⟨h,g,d,t,os⟩:Shared).TypeIs (.ref C) "type" := ⟨_,hC,rfl⟩
 refine FF (codeAny_of_tree ?_)
 show wpAny _ _ (callAny (.ref C) _) _ _ _
 repeat (any_goals (first |assumption |with_reducible refine De hC ?_ |wp_step))
 refine⟨rfl,codeAny_call_builtin_at (Ed _ (by decide +kernel)) entry_typeCall (wpAny_check_type_call_sub hC (j6 F T hC hN Gf ?_ hus))⟩
 exact Gg
end
section
variable {X:Cx}{k:Nat}{C:Addr}{x:Str}{np cpos pos:Pos}
theorem pD(hq:oG X.K C=true)(hc:X.calm=true)(hg:Gl X x)(hm:X.mg x=some (.ref C))(hk:PySem.W.keepIn X.K (.ref C)=true)(hdb:(x == ("__debug__" : Str))=false:=by decide) :
  PSX X (.Raise (some (.Call (.Name x np) [] [] cpos)) none pos) (fun D W σ H=>W σ (.ref C) none H):=by
 intro dl s σ H D W xe I h hx
 obtain⟨nm,qn,N,bs,bm,hdct,sn,sub,ab,col,dd,k0,k1,k2,k3,k5,mN0,hC0,hN0,hi0,T0⟩:=qY I.kIn hq
 have BT:bm.contains (.type "BaseException")=true:=T0.hasType (DC).hasBase
 rw[arm_exec_Raise]
 refine CN (EW (jH (C:=C) (nm:=nm) (q:=qn) (N:=N) (bs:=bs) (bm:=bm) (hdct:=hdct) (sn:=sn) (sub:=sub) (ab:=ab) (col:=col) (dd:=dd) (k0:=k0) (k1:=k1) (k2:=k2) (k3:=k3) (k5:=k5) (newId := "ValueError.__new__") BT (I.ok.hd hc) ?_))
 refine CN (Dc (Eb (fm I hg hm ?_ hdb)) (fun v s3 z=>CN (EW (CP z))) fun _ _ z=>z)
 refine PySem.W.callWith_K0 I.kIn hk ?_
 obtain⟨hh,g,dr,tk,os⟩:=s
 show wpAny _ _ (call (.ref C) []) _ _ _
 refine sV (DC) T0 hC0 hN0 hi0 (fun h' kp he=>?_) (by rw[EA];simp)
 have GB:∀p ∈ X.pn ++ dl,p.1 < hh.objs.size:=fun p hp=>CS (I.pin p hp).1
 have hHe:H (hh.objs.size + 1)=none:=I.hok.fresh (D4 _)
 have hz:X.s₀.heap.objs.size<=hh.objs.size:=I.sz
 have I4:Inv X dl σ H ⟨h',g,dr,tk,os⟩:=I.kept (t':=tk) kp
 refine⟨hh.objs.size + 1,_,_,rfl,kp _ _ hC0,he,rfl,rfl,rfl,hx _ _ ⟨σ,hh.objs.size + 1,C,none,cm C (hh.objs.size + 2),H,rfl,I4,.inl ⟨_,he,rfl,rfl⟩,⟨rfl,rfl,fun d z=>(by cases z),hHe,CZ hz (D4 _),fun _ _ z=>(by cases z)⟩,fun p hp z=>?_,h⟩⟩
 have:=GB p hp
 rw[z]at this
 exact absurd this (Nat.not_lt.mpr (D4 _))
end
theorem Inv.hndS{X:Cx}{dl:List (Addr×Obj)}{σ:St}{H:Hp}{s:Shared}{a:Addr}{oe:Obj}(I:Inv X dl σ H s){vs:Array Value}(he:s.heap.get? a=some oe)(hd:oe.data=.fields vs)(hH:H a=none):Inv (X.hnd2 a oe a oe) dl σ H s:=by
 have J:=I.hnd he hd hH
 refine⟨⟨I.ok.mod,I.ok.kind,I.ok.glob,I.ok.blt,I.ok.above,I.ok.inj,I.ok.has,I.ok.cab,fun z=>(by cases z),I.ok.frames,I.ok.stk,I.ok.exf,I.ok.bs,I.ok.bsz,I.ok.noex,I.ok.exfs,I.ok.funs,I.ok.frf⟩,I.os,I.bare,I.base,I.loc,I.cell,I.free,I.freeC,fun p hp=>?_,I.hok,I.len⟩
 rcases List.mem_cons.mp hp with rfl |hp
 ·exact J.pin _ (C1 ..)
 ·rcases List.mem_cons.mp hp with rfl |hp
  ·exact J.pin _ (C1 ..)
  ·exact I.pin p hp
section
variable {X:Cx}{body FV:List Stmt}{b₀:Stmt}{cn en:Str}{C:Addr}{i:Nat}{np F7 pos:Pos}{tb:TSX}{th:Addr->TS}
def WH0(C:Addr)(i:Nat)(th:Addr->TS)(D:dh):XW:=fun σ c d H=>c=.ref C/\d=none/\∀a,H a=none->th a (eV i D) (σ.set i (some (.ref a))) H
theorem wU(hb:gZ X body tb)(hst:X.stack=X.env :: X.outer)(hfr:X.env.frame=some X.env.locals)(hq:oG X.K C=true)(hg:Gl X cn)(hm:X.mg cn=some (.ref C))(hN:X.N.Nodup)(hi:X.N[i]? = some en)(hl:X.env.scope.names.lookup en=some .local)
  (hs:∀(a:Addr) (oe:Obj) (vs:Array Value),oe.cls=.ref C->oe.data=.fields vs->PSs (X.hnd2 a oe a oe) (b₀ :: FV) (th a)) (hf:X.fn en=true\/X.env.scope.names.lookup en=some .local:=by exact .inr (by assumption)) (hdb:(cn == ("__debug__" : Str))=false:=by decide) :
  PS X (.Try body [.ExceptHandler (some (.Name cn np)) (some en) (b₀ :: FV) F7] [] [] pos) (fun D σ H=>tb D (WH0 C i th D) σ H):=by
 intro dl s σ H D I h
 have ok:=I.ok
 have pass:∀(f:Flow) (s1:Shared),SP X dl D f s1->(match f with |.next=>wpAny (model X.prog X.w) X.A (execs [] X.env) (SP X dl D) X.xe s1 |f=>SP X dl D f s1):=fun f s1 q=>by
  cases f with
  |next=>exact Ee q
  |ret v=>exact q
  |brk=>exact q
  |cont=>exact q
 refine wpAny_Try_except (Dc (hb dl s σ H D (WH0 C i th D) _ I h fun e s' x=>x) pass fun e s1 x=>?_)
 obtain⟨σ1,a,C',dxo,o0,H1,rfl,I1,er,eo,hp,hc,hd,hw⟩:=x
 cases hc
 subst hd
 have landed:∀(h4:Heap) (T:Addr),Inv X dl σ1 H1 { s1 with heap:=h4 }->Fly h4 o0 a T (rawInt X.env.locals)->H1 T=none->X.s₀.heap.objs.size<=T->(∀p ∈ X.pn ++ dl,p.1 ≠ T) ->
   wpAny (model X.prog X.w) X.A (setFlight (.ref a) none) (fun _ s3=>wpAny (model X.prog X.w) X.A (handleBy (.ref a) X.env [.ExceptHandler (some (.Name cn np)) (some en) (b₀ :: FV) F7]) (SP X dl D) X.xe s3) X.xe { s1 with heap:=h4 }:=by
  intro h4 T I4 f4 hT1 hT2 hT3
  refine bR (s:={ s1 with heap:=h4 }) f4 fun h5 k5 _ f5=>?_
  have I5:Inv X dl σ1 H1 { s1 with heap:=h5 }:=Inv.kp (s:={ s1 with heap:=h4 }) (ch:=[T]) I4 (k5.wide (fun _ z=>by cases z) fun _ z=>z) fun b hb=>by
   rw[List.mem_singleton.mp hb]
   exact⟨hT2,f4.recd.2,hT3,hT1⟩
  obtain⟨vs5,oT5,ts5,g1,g2,g3,g4,g5,g6⟩:=id f5
  have Ih:=I5.hnd (a:=a) g1 rfl eo.free
  refine wpAny_handleBy_cons (codeAny_handlers_test (fm (X:=X.hnd a _) Ih hg hm ?_ hdb)) (by intro q;cases q)
  obtain⟨nm,qn,N,bs,bm,hdct,sn,sub,ab,col,dd,k0,k1,k2,k3,k5',mN,hC,_,_,T0⟩:=qY I5.kIn hq
  have BT:bm.contains (.type "BaseException")=true:=T0.hasType (DC).hasBase
  obtain⟨hh1,gg,dr,tk,os⟩:=s1
  refine wpAny_excMatches_sub_self hC g1 eo.cls BT ?_
  refine codeAny_handlers_suite_as (bR (s:=⟨h5,gg,dr,tk,os⟩) f5 fun h6 k6 _ f6=>?_)
  have I6:Inv X dl σ1 H1 ⟨h6,gg,dr,tk,os⟩:=Inv.kp (s:=⟨h5,gg,dr,tk,os⟩) (ch:=[T]) I5 (k6.wide (fun _ z=>by cases z) fun _ z=>z) fun b hb=>by
   rw[List.mem_singleton.mp hb]
   exact⟨hT2,f5.recd.2,hT3,hT1⟩
  obtain⟨vs6,oT6,ts6,r1,_⟩:=id f6
  have Ih6:=I6.hndS (a:=a) r1 rfl eo.free
  refine eI (X:=X.hnd2 a _ a _) Ih6 hN hi (.inl hl) (v:=V.ref a) rfl (fun s7 I7=>?_) hf
  exact Dc (hs a { o0 with data:=.fields vs6 } vs6 eo.cls rfl dl s7 _ _ (eV i D) I7 (hw a eo.free)) (fun f s8 q=>q.gone ok hN hi hl) fun _ _ z=>False.elim z
 have hA:X.A.frames=some (X.env :: X.outer):=by rw[<-hst];exact ok.frames
 have hF:s1.heap.FunFrames X.base (X.env :: X.outer):=by rw[<-hst];exact I1.stack
 have hz:=I1.sz
 have pinT:∀T,s1.heap.objs.size<=T->∀p ∈ X.pn ++ dl,p.1 ≠ T:=fun T hT p hp z=>absurd (CS (I1.pin p hp).1) (by rw[z];exact Nat.not_lt.mpr hT)
 rcases er with⟨vs,q1,q2,q3⟩ |⟨T,fl,hf1,rfl |rfl,hT,hTz,hTp⟩
 ·refine fj (base:=X.base) hA hF hfr q1 q2 q3 fun h4 T k4 z4 f4=>?_
  have I4:Inv X dl σ1 H1 { s1 with heap:=h4 }:=I1.kp (ch:=[a]) (by unfold frs;rw[hst];exact k4) fun b hb=>by
   rw[List.mem_singleton.mp hb]
   exact⟨eo.new,⟨_,vs,q1,rfl⟩,hp,eo.free⟩
  exact landed h4 T I4 f4 (I1.hok.fresh z4) (CZ hz z4) (pinT T z4)
 ·refine gp (base:=X.base) hA hF hfr hf1 fun h4 T' k4 z4 f4=>?_
  have I4:Inv X dl σ1 H1 { s1 with heap:=h4 }:=I1.kp (ch:=[a,T]) (by unfold frs;rw[hst];exact k4) fun b hb=>by
   rcases List.mem_cons.mp hb with rfl |hb
   ·exact⟨eo.new,hf1.recd.1,hp,eo.free⟩
   ·rw[List.mem_singleton.mp hb]
    exact⟨hTz,hf1.recd.2,hTp,hT⟩
  exact landed h4 T' I4 f4 (I1.hok.fresh z4) (CZ hz z4) (pinT T' z4)
 ·exact hV hfr hf1 (landed s1.heap T I1 hf1 hT hTz hTp)
end
end L2
namespace L2.Cu
open PySem PySem.Spec PyProof.Rows
section
variable {X:Cx}{cl:Nat->Addr}{pos np cpos:Pos}{x:Str}{C:Addr}{n:Nat}
theorem p6(hn:cl n=C)(hq:oG X.K C=true)(hc:X.calm=true)(hg:Gl X x)(hm:X.mg x=some (.ref C))(hk:PySem.W.keepIn X.K (.ref C)=true)(hdb:(x == ("__debug__" : Str))=false:=by decide) :
  EsX X cl (.Raise (some (.Call (.Name x np) [] [] cpos)) none pos) (jj n) :=
 PSX.by (pD hq hc hg hm hk hdb) fun Z W σ H z=>by
  obtain⟨B,G,E,r,k,q,w⟩:=z
  cases q
  subst hn
  exact w σ G H k fun _ _ e=>e
def d9(n:Nat)(f1 f2:Str)(f g:DE->Option D)(E:DE):Option bC:=(f E).bind fun d1=>(g E).bind fun d2=>if jc d1=true/\jc d2=true then some (.xc n [(f1,d1),(f2,d2)] E) else none
theorem p5{k:Nat}{fI:Addr}{fd:FuncData}{f1 f2 p1 p2:Str}{a b:Expr}{f g:DE->Option D}(hn:cl n=C)(hq:kK X.K C fI=true)(F:a9 X.prog X.w X.K X.mg X.base CX0 k fI fd ["self",p1,p2] (ua C [f1,f2]))(hb:eW X.K fd ["self",p1,p2] [])
  (hfn:PySem.W.isFn X.K (.ref fI)=true) (hr:ca (k + 1) X.A) (hc:X.calm=true) (hg:Gl X x) (hm:X.mg x=some (.ref C)) (hk:PySem.W.keepIn X.K (.ref C)=true) (ha:Ev X.nox .V a f) (hb2:Ev X.nox .V b g) (hdb:(x == ("__debug__" : Str))=false:=by decide) (hs:aD a=true:=by rfl) (hs2:aD b=true:=by rfl) :
  EsX X cl (.Raise (some (.Call (.Name x np) [a,b] [] cpos)) none pos) (d9 n f1 f2 f g) :=
 PSX.by (pC (ps:=[p1,p2]) (fs:=[f1,f2]) hq F hb rfl (by show 2<=900;decide) hfn hr hc hg hm hk (ae ha (ae hb2 aq hs2) hs).h hdb (aC a [b] X.env hs) (cL cpos X.env [b] (by simp[hs2]))) fun Z W σ H z=>by
  obtain⟨B,G,E,r,k,q,w⟩:=z
  unfold d9 at q
  obtain⟨d1,hf,q⟩:=bS q
  obtain⟨d2,hg2,q⟩:=bS q
  by_cases hd:jc d1=true/\jc d2=true
  ·rw[if_pos hd]at q
   cases q
   refine⟨B,G,E,[d1,d2],k,?_,fun vs F' H' x r=>?_⟩
   ·unfold aa ak
    rw[hf,hg2];rfl
   ·obtain⟨v,ws,rfl,r1,r2⟩:=r.c1
    obtain⟨v2,ws,rfl,r3,r4⟩:=r2.c1
    obtain rfl:=r4.c0
    subst hn
    obtain rfl:=uo r1 hd.1
    obtain rfl:=uo r3 hd.2
    exact⟨rfl,w σ F' H' (k.ext x) x.fr⟩
  ·rw[if_neg hd]at q;cases q
end
theorem uU{P:Program}{w:World}{K:PySem.W.Frag}{mg:Str->Option Value}{base:Heap}{qual:Str}{st:Stmt}{C fI:Addr}{fd:FuncData}{f g p r:Str}{cd:ClassData}{p1 p2 p3 p4 q1 q2 q3 q4:Pos}(F:Fun K "__init__" qual st fI fd)(S:aS ["self",p,r] ["self",p,r] (ao st))(xc:iR K C cd)(hn:PySem.W.findIn K (.ref C) f=some none)(hn2:PySem.W.findIn K (.ref C) g=some none)(hgf:(g == f)=false)
  (hb:cG st=[.Assign [.Attribute (.Name "self" p1) f p2] (.Name p p3) p4,.Assign [.Attribute (.Name "self" q1) g q2] (.Name r q3) q4]) (hv0:Vis (ao st) "self") (hv1:Vis (ao st) p) (hv2:Vis (ao st) r) (hd:(p == ("__debug__" : Str))=false) (hcd:(p == ("__classdict__" : Str))=false) (hd2:(r == ("__debug__" : Str))=false) (G2:(r == ("__classdict__" : Str))=false)
  (hsw:∀(env:Env),swapsWith (.Name p p3) (some (.Attribute (.Name "self" p1) f p2)) p4.line env=pure false) (G6:∀(env:Env),swapsWith (.Name r q3) (some (.Attribute (.Name "self" q1) g q2)) q4.line env=pure false):a9 P w K mg base CX0 1 fI fd ["self",p,r] (ua C [f,g]):=by
 refine Fun.ok (k:=0) F S (fun vs H Q E z=>?_) fun cdv A outer s H vs Q E hr z=>?_
 ·obtain⟨e,t,ws,rfl,hl,_⟩:=z
  rw[CG,hl];rfl
 ·rw[hb]
  refine⟨_,fJ (Bk (gN (i:=0) rfl hv0) (gN (i:=1) rfl hv1 hd hcd) (hsw _)) (qF (Bj (gN (i:=0) rfl hv0) (gN (i:=2) rfl hv2 hd2 G2) (G6 _))),?_⟩
  obtain⟨e,t,ws,rfl,hl,he,hq⟩:=z
  match ws,hl with
  | [v,u],_ =>
   refine⟨v,rfl,V.ref e,rfl,e,C,t,cd,rfl,he,xc,hn,fun dx h1 h2=>?_⟩
   refine⟨u,rfl,V.ref e,rfl,e,C,t,cd,dx,[(f,v)],rfl,h2,by rw[af (Ne.symm h2),aj],aj,xc,hn2,by rw[Dd,hgf];rfl,by show 1<=900;decide,?_⟩
   have:=hq dx h1 h2
   rw[show upd (upd (upd H e (.ext (er1 e C t dx))) dx (.xd [(f,v)])) dx (.xd ([(f,v)] ++ [(g,u)]))=upd (upd H e (.ext (er1 e C t dx))) dx (.xd ([f,g].zip [v,u])) by
    funext b
    by_cases h:b=dx
    ·rw[h,aj,aj];rfl
    ·rw[af h,af h,af h]]
   exact this
def kT(n i:Nat)(fb:DE->Option bC)(fh:Addr->DE->Option Out)(E:DE):Option Out:=(fb E).bind fun r=>match r with
 |.ok r=>some r
 |.xc m [] E'=>@ite _ (m=n/\d7 E') (Classical.propDecidable _) (o8 fun a=>(fh a (E'.set i (dN a))).map (oE i)) none
 |.xc _ (_ :: _) _=>none
theorem xZ{X:Cx}{cl:Nat->Addr}{body FV:List Stmt}{b₀:Stmt}{cn en:Str}{i n:Nat}{np F7 pos:Pos}{fb:DE->Option bC}{fh:Addr->DE->Option Out}(hb:kF X cl body fb)(hst:X.stack=X.env :: X.outer)(hfr:X.env.frame=some X.env.locals)(hq:oG X.K (cl n)=true)
  (hg:Gl X cn) (hm:X.mg cn=some (.ref (cl n))) (hN:X.N.Nodup) (hi:X.N[i]? = some en) (hl:X.env.scope.names.lookup en=some .local)
  (hs:∀(a:Addr) (oe:Obj) (vs:Array Value),oe.cls=.ref (cl n)->oe.data=.fields vs->Ess (X.hnd2 a oe a oe) (b₀ :: FV) (fh a)) (hdb:(cn == ("__debug__" : Str))=false:=by decide) :
  Es X (.Try body [.ExceptHandler (some (.Name cn np)) (some en) (b₀ :: FV) F7] [] [] pos) (kT n i fb fh) :=
 PS.by (wU (th:=fun a D σ H=>tS (fh a) D σ H) hb.h hst hfr hq hg hm hN hi hl (fun a oe vs h1 h2=>(hs a oe vs h1 h2).h) (.inr hl) hdb) fun Z σ H z=>by
  obtain⟨B,F,E,r,k,q,w⟩:=z
  unfold kT at q
  obtain⟨r1,hf,q⟩:=bS q
  refine⟨B,F,E,r1,k,hf,?_⟩
  cases r1 with
  |ok r1=>cases q;exact w
  |xc m fs0 E' =>
   cases fs0 with
   |cons y fs=>cases q
   |nil =>
    have q2:@ite _ (m=n/\d7 E') (Classical.propDecidable _) (o8 fun a=>(fh a (E'.set i (dN a))).map (oE i)) none=some r:=q
    by_cases hc:m=n/\d7 E'
    ·rw[if_pos hc]at q2
     obtain⟨hmn,hno⟩:=hc
     subst hmn
     refine fun σ' F' H' k' x=>⟨rfl,rfl,fun a _=>?_⟩
     obtain⟨r2,e1,e2⟩:=Option.map_eq_some_iff.mp (lV q2 a)
     subst e2
     exact⟨B,F',_,r2,k'.set_raw hno i a,e1,lD (w.mono x)⟩
    ·rw[if_neg hc]at q2;cases q2
open PySem PySem.Spec PyProof.Rows PySem.W
structure wr (K:Frag) (x:Str):Prop where
 ns:nsIn K mainGlobals x=some (some (.ref (aR K x)))
 q:oG K (aR K x)=true
 kp:keepIn K (.ref (aR K x))=true
 xc:∃cd,iR K (aR K x) cd
 cl:findIn K (.ref (aR K x)) "__class__" = some (some (.builtin "object.__class__"))
theorem ya{K:Frag}{x:Str}(h:vT K x=true):wr K x:=by
 unfold vT tq at h
 simp only[C_,FH]at h
 obtain⟨h1,h2,h3,h4,h5⟩:=h
 exact⟨h1,h2,h3,qm h4,h5⟩
structure wq (K:Frag) (mg:Str->Option Value) (x:Str) (as bs:List Str) (c d:Str):Prop where
 er:wr K x
 mx:mg x=some (.ref (aR K x))
 ms:∀y ∈ as ++ bs ++ [c,d],mg y=some (.ref (aR K y))
 ka:kitAny K (.ref (aR K x)) (i0 K as)=some false
 kb:kitAny K (.ref (aR K x)) (i0 K bs)=some false
 kc:kitOne K (.ref (aR K x)) (.ref (aR K c))=some false
 kd:kitOne K (.ref (aR K x)) (.ref (aR K d))=some true
 kv:kitOne K (.ref (aR K x)) (.type "ValueError")=some true
theorem sL{K:Frag}{mg:Str->Option Value}{x:Str}{as bs:List Str}{c d:Str}(h:ri K x as bs c d=rj)(g:∀(x:Str) (v:Value),nsIn K mainGlobals x=some (some v)->mg x=some v):wq K mg x as bs c d:=by
 obtain⟨h2,h⟩:=Dh h
 obtain⟨h3,h⟩:=Dh h
 obtain⟨h4,h⟩:=Dh h
 obtain⟨h5,h⟩:=Dh h
 obtain⟨h6,h7⟩:=Dh h
 obtain⟨e1,e2⟩:=Bool.and_eq_true_iff.mp h2
 have er:=ya e1
 exact⟨er,g _ _ er.ns,fun y hy=>g _ _ (beq_iff_eq.mp (List.all_eq_true.mp e2 y hy)),h3,h4,h5,h6,h7⟩
theorem nM{E:DE}(h:∀z ∈ E,(∀d,z ≠ .own d)/\∀s,z ≠ .obj s):d7 E :=
 ⟨fun j d e=>(h _ (DR e)).1 d rfl,fun j s e=>(h _ (DR e)).2 s rfl⟩
def bkL(ns:List Str)(f:Str->D):List (Key×D):=ns.map fun n=>(Sum.inr n,f n)
def bk(ns:List Str)(f:Str->D):D:=.dic (bkL ns f)
def bm(ns:List Str)(f:Str->List D):Dm:=ns.map fun n=>(Sum.inr n,f n)
open L2 PySem PyProof
variable {X:Cx}
def zg(x:D):Bool:=bB x || match x with
 |.dic ds=>ds.all (fun p=>bB p.2) && ds.all (jf ds)
 |_=>false
open Classical in
def neL(x y:D):Option D:=if x=y/\∃xs,x=.lst xs/\xs.all zg=true then some (.bl false) else none
end L2.Cu
namespace L2
open PySem PySem.Spec PyProof.Rows
theorem tN:∀{ss:List Str}{us:List Value},aM (ss.map V.str) us->∃ps:List (Str×Tok),us=ps.map (fun p=>Value.str p.1 p.2)/\ps.map (·.1)=ss
 | [],_,.nil=>⟨[],rfl,rfl⟩
 |i :: is,_,.cons ⟨t,e⟩ h=>by
  obtain⟨ps,h1,h2⟩:=tN h
  exact⟨(i,t) :: ps,by rw[e,h1];rfl,by rw[CI,h2]⟩
section
variable {X:Cx}
def wN:V->List V->Hp->VK->Prop:=fun x vs H Q=>∃(l:Addr) (ss:List Str) (v:Str),x=.ref l/\vs=[.str v]/\H l=some (.lst (ss.map V.str))/\Q (.int (ss.countP (· == v):Nat)) H
theorem sC:MtM X "list.count" wN:=by
 intro dl s σ H x vs v us Q I rx rv h
 obtain⟨l,ss,i,rfl,rfl,hH,q⟩:=h
 cases rx
 obtain⟨u,rfl,ru⟩:=rv.one
 obtain⟨t,rfl⟩:=ru
 obtain⟨z,its,n,r,hl,e⟩:=I.lstM hH
 obtain⟨ps,rfl,rfl⟩:=tN r
 refine call_meets F.slot_list_count ⟨_,e,rfl⟩ F.entry_list_count (F.args_list_count_2 _ _)
  (MeetsSeq.list_count l (ps.map (fun p=>Value.str p.1 p.2)).toArray n (.str i t) (isStrOf i) fun y hy=>?_) ⟨e,?_⟩
 ·have hy':y ∈ ps.map (fun p=>Value.str p.1 p.2):=by simpa using hy
  obtain⟨p,_,rfl⟩:=List.mem_map.mp hy'
  exact eqGives_str _ _ _ _
 ·have e2:List.countP (isStrOf i) (ps.map (fun p=>Value.str p.1 p.2)).toArray.toList=(ps.map (·.1)).countP (· == i):=by
   rw[List.countP_map,List.countP_map]
   rfl
  rw[e2]
  exact⟨.int ((ps.map (·.1)).countP (· == i):Nat),H,I.tok _,⟨_,rfl⟩,q⟩
end
end L2
namespace L2.Cu
open PySem PySem.Spec PyProof.Rows
def mQ(x y:D):Option D:=match x,y with
 |.lst xs,.str v=>(eG xs).bind fun ss=>some (.int (ss.countP (· == v):Nat))
 |_,_=>none
theorem oX{ss:List Str}{v:Str}:mQ (.lst (ss.map D.str)) (.str v)=some (.int (ss.countP (· == v):Nat)):=by
 show(eG (ss.map D.str)).bind _=_
 rw[iy];rfl
section
variable {X:Cx}{a:Expr}{f g:DE->Option D}{apos cpos:Pos}
theorem sZ{o:Expr}(ho:Ev X .O o f)(ha:Ev X .V a g)(BT:attributeBase o "count" X.env (eval o X.env)=eval o X.env:=by rfl)
  (FZ:((backTo cpos (starEach [a] X.env)).all (fun x => !x.1) && (backToKw cpos (keywordEach [] X.env)).all (fun x=>x.1.isSome) && decide (([a]:List Expr).length + ([]:List Keyword).length + (if([]:List Keyword).isEmpty then 0 else 1) < 30))=true:=by rfl)
  (FT:(apos.endLine == cpos.line)=true:=by rfl) (hns:aD a=true:=by rfl):Ev X .V (.Call (.Attribute o "count" apos) [a] [] cpos) (bin mQ f g) :=
 PE.by (lf PySem.F.plainAttrs_list PySem.F.slot_list_count PySem.F.type_list_count sC ho.h (bj ha.h cE (aC a [] X.env hns)) BT FZ FT (aC a [] X.env hns) rfl) fun σ H Q zz138_0=>by
  obtain⟨B,F,E,d,k,q,w⟩:=zz138_0
  unfold bin at q
  obtain⟨x,hf,q⟩:=bS q
  obtain⟨y,hgE,q⟩:=bS q
  refine⟨B,F,E,x,k,hf,fun v F1 H1 x1 r1=>?_⟩
  cases x with
  |lst xs =>
   cases y with
   |str i =>
    obtain⟨ss,hb,q⟩:=bS (show((eG xs).bind fun ss=>some (D.int (ss.countP (· == i):Nat)))=some d from q)
    cases q
    obtain⟨p,vs,rfl,hp,rp⟩:=OB.lst x1.sub r1
    rw[eZ hb]at rp
    rw[Reps.strs rp]at hp
    refine⟨.inl ⟨rfl,_,SqL.of hp⟩,B,F1,E,_,k.ext x1,hgE,fun u F2 H2 x2 r2=>?_⟩
    cases r2
    exact⟨p,ss,i,rfl,rfl,x2.same _ _ hp,w _ F2 H2 (x1.trans x2) (.int _)⟩
   |_=>cases q
  |_=>cases q
end
end L2.Cu
namespace L2
open PySem PySem.Spec PyProof.Rows
def tx(ss:List Str)(i:Nat):List Nat:=(ss.getD i "").cps.toList
def wg(ss:List Str):Nat:=argBest (fun i j=>decide (tx ss i < tx ss j)) (ss.length - 1)
def dQ(ss:List Str):Str:=ss.getD (wg ss) ""
theorem mV(f:Nat->List Nat):∀k,argBest (fun i j=>decide (f i < f j)) k<=k/\∀j,j<=k->¬f j < f (argBest (fun i j=>decide (f i < f j)) k)
 | 0=>⟨CV _,fun j hj=>by
  rw[Nat.le_zero.mp hj]
  show ¬f 0 < f 0
  exact List.lt_irrefl _⟩
 |k + 1=>by
  obtain⟨h1,h2⟩:=mV f k
  have e:argBest (fun i j=>decide (f i < f j)) (k + 1)=if decide (f (k + 1) < f (argBest (fun i j=>decide (f i < f j)) k))=true then k + 1 else argBest (fun i j=>decide (f i < f j)) k:=rfl
  rw[e]
  split
  ·rename_i hc
   refine⟨CV _,fun j hj=>?_⟩
   rcases Nat.lt_or_ge j (k + 1) with h |h
   ·exact fun z=>h2 j (Nat.le_of_lt_succ h) (List.lt_trans z (DM hc))
   ·rw[Nat.le_antisymm hj h];exact List.lt_irrefl _
  ·rename_i hc
   refine⟨Nat.le_succ_of_le h1,fun j hj=>?_⟩
   rcases Nat.lt_or_ge j (k + 1) with h |h
   ·exact h2 j (Nat.le_of_lt_succ h)
   ·rw[Nat.le_antisymm hj h];exact fun z=>hc (Df z)
theorem jQ{ss:List Str}(h:ss ≠ []):dQ ss ∈ ss:=by
 have hp:=List.length_pos_iff.mpr h
 have:=(mV (tx ss) (ss.length - 1)).1
 have hl:wg ss < ss.length:=Dy this (Nat.sub_lt hp (by decide))
 unfold dQ
 rw[DD,C0 hl]
 exact DB hl
theorem qM{ss:List Str}{x:Str}(h:x ∈ ss):¬x.cps.toList < (dQ ss).cps.toList:=by
 obtain⟨j,hj,rfl⟩:=List.mem_iff_getElem.mp h
 have:=(mV (tx ss) (ss.length - 1)).2 j (Nat.le_sub_one_of_lt hj)
 have e:tx ss j=ss[j].cps.toList:=by unfold tx;rw[DD,C0 hj];rfl
 rw[e]at this
 exact this
section
variable {X:Cx}
def yG:List V->Hp->VK->Prop:=fun xs H Q=>∃(p:Addr) (ss:List Str),xs=[.ref p]/\H p=some (.lst (ss.map V.str))/\ss ≠ []/\Q (.str (dQ ss)) H
theorem tu(hc:X.calm=true):bQ X (.builtin "min") yG:=by
 intro dl s σ H xs us Q I r h
 obtain⟨a,ss,rfl,ha,hne,q⟩:=h
 obtain⟨u,rfl,ru⟩:=gE r
 obtain rfl:u=Value.ref a:=ru
 obtain⟨z,its,n,rv,hl,e⟩:=I.lstM ha
 obtain⟨ps,rfl,rfl⟩:=tN rv
 have hL:s.heap.IsList a (ps.map fun p=>Value.str p.1 p.2).toArray:=⟨_,e,rfl,n,rfl⟩
 have hlt:a < s.heap.objs.size:=CS e
 have hh:X.A.in1.handled=none:=I.ok.hd hc
 have hps:ps ≠ []:=fun z=>hne (by rw[z];rfl)
 have at_:∀(i:Nat) (v:Value),(ps.map fun p=>Value.str p.1 p.2).toArray[i]? = some v->∃t,v=.str ((ps.map (·.1)).getD i "") t:=fun i v hv=>by
  have hv':(ps.map fun p=>Value.str p.1 p.2)[i]? = some v:=by simpa using hv
  rw[Db]at hv'
  cases hp:ps[i]? with
  |none=>rw[hp]at hv';cases hv'
  |some p =>
   rw[hp]at hv';cases hv'
   exact⟨p.2,by rw[DD,Db,hp];rfl⟩
 have st0:(s.heap.push { cls:=.type "list_iterator",data:=.fields #[.ref a,.int 0 0] }).IsListIter s.heap.objs.size a 0/\(s.heap.push { cls:=.type "list_iterator",data:=.fields #[.ref a,.int 0 0] }).IsList a (ps.map fun p=>Value.str p.1 p.2).toArray:=⟨⟨_,CT _ rfl,rfl,rfl⟩,⟨_,CO _ e,rfl,n,rfl⟩⟩
 refine call_min_walk (Fj hL ⟨_,_,_,_,_,_,fun i j=>decide (tx (ps.map (·.1)) i < tx (ps.map (·.1)) j),rfl,Walks.list (A:=X.A.in1) hh _ a (C5 hlt) (ps.map fun p=>Value.str p.1 p.2).toArray,st0,?_,?_,?_,fun v h' tk hv hk=>?_⟩)
 ·intro b hb
  rcases List.mem_cons.mp hb with z |z
  ·rw[z];simp[Heap.push]
  ·rw[List.mem_singleton.mp z];simp[Heap.push];lia
 ·rw[C4,CQ];exact List.length_pos_iff.mpr hps
 ·intro i j vi vj s' Q' E' hi hj hq
  obtain⟨t,rfl⟩:=at_ i vi hi
  obtain⟨t',rfl⟩:=at_ j vj hj
  exact(PyProof.Rows.lt_str hq:wpAny _ _ (compareOp .Lt _ _) _ _ _)
 ·obtain⟨t,rfl⟩:=at_ _ _ hv
  refine⟨.str (dQ (ps.map (·.1))),H,I.kept (t':=tk) fun b o eo=>hk b o (by simpa using C5 (CS eo)) (CO _ eo),⟨t,?_⟩,q⟩
  unfold dQ wg
  rw[C4,CQ,CQ]
end
end L2
namespace L2.Cu
open PySem PySem.Spec PyProof.Rows
def gP:D->Option D
 |.lst xs=>(eG xs).bind fun ss=>if ss=[] then none else some (.str (dQ ss))
 |_=>none
theorem lr{ss:List Str}(h:ss ≠ []):gP (.lst (ss.map D.str))=some (.str (dQ ss)):=by
 unfold gP
 simp only[iy,CA,h,En]
section
variable {X:Cx}{e a:Expr}{f g:DE->Option D}{pos apos cpos:Pos}
theorem wJ:iS .V yG gP:=fun F H v x d Q s rx h q=>by
 cases x with
 |lst xs =>
  obtain⟨ss,hb,h'⟩:=bS (show((eG xs).bind fun ss=>if ss=[] then none else some (D.str (dQ ss)))=some d from h)
  split at h'
  ·cases h'
  ·rename_i hne
   cases h'
   obtain⟨p,vs,rfl,hp,rp⟩:=OB.lst s rx
   rw[eZ hb]at rp
   rw[Reps.strs rp]at hp
   exact⟨p,ss,rfl,hp,hne,q _ F H (Ext.refl s) (.str _)⟩
 |_=>cases h
theorem q9{p:Pos}(hc:X.calm=true)(hg:Gl X "min")(hm:X.mg "min" = none)(hv:bootBuiltins "min" = some (.builtin "min"))(ha:Ev X .O e f)(he:aD e=true:=by rfl):Ev X .V (.Call (.Name "min" p) [e] [] pos) (un gP f) :=
 jq (tu hc) wJ hg hm hv ha (by decide) (by decide) he
end
section
variable {X:Cx}{a b:Expr}{f g:DE->Option D}{spos apos cpos pos pos':Pos}
abbrev dtE(ks:List (Int×Str)):List (List Key×V):=ks.map fun u=>([Sum.inl (some u.1),Sum.inr u.2],V.bl true)
theorem OB.dit{F H:Hp}{v:V}{ks:List (Int×Str)}(s:∀a u,F a=some u->H a=some u)(r:OB F H v (.dit ks)):∃a,v=.ref a/\Rd H a (.dT (dtE ks)):=by
 rcases r with r |⟨a,o,h1,h2,h3⟩
 ·cases r with
  |dit e=>exact⟨_,rfl,.inr ⟨_,s _ _ e⟩⟩
 ·cases o with
  |dT vs =>
   have h3:vs=dtE ks:=h3
   subst h3
   exact⟨a,h1,.inl h2⟩
  |_=>exact False.elim h3
end
end L2.Cu
namespace L2
open PySem PySem.Spec PyProof.Rows
theorem lg{α β:Type}{G:α->β->Prop}{l:List α}{m:List β}(r:Paired G l m){i:Nat}{x:α}(h:l[i]? = some x):∃y,m[i]? = some y/\G x y:=by
 induction r generalizing i with
 |nil=>cases h
 |cons h1 t ih =>
  cases i with
  |zero=>cases h;exact⟨_,rfl,h1⟩
  |succ j=>exact ih (i:=j) h
section
variable {prog:Program}{w:World}{A:Around}{E:Value->Shared->Prop}{s:Shared}
theorem nW{a:Addr}{stored:List Value}{Q:Bool->Shared->Prop}(hs:∀v ∈ stored,∃x t,v=.str x t)(hqa:∀(Q:Bool->Shared->Prop),Q true s->wpAny (model prog w) A (eqIsQuiet 8 (.ref a)) Q E s)(q:Q false s):wpAny (model prog w) A (tableMayTell (.ref a) stored) Q E s:=by
 unfold tableMayTell
 split
 ·exact CP q
 ·refine CN (hqa _ ?_)
  rw[if_neg (by decide)]
  refine CN (ES _ (fun l r s'=>(∀v ∈ l,v ∈ stored)/\r=(none,())/\s'=s) _ (fun x bc b s1 hI=>?_) (fun b s1 hI=>?_) stored _ ⟨fun _ h=>h,rfl,rfl⟩)
  ·obtain⟨hl,rfl,rfl⟩:=hI
   obtain⟨y,t,rfl⟩:=hs x (hl x (C1 ..))
   rw[eqIsQuiet_byValue 8 rfl]
   refine CN (CP ?_)
   rw[if_neg (by decide)]
   exact CP ⟨fun v hv=>hl v (CY _ hv),rfl,rfl⟩
  ·obtain⟨_,rfl,rfl⟩:=hI
   exact CP q
theorem mP{d a:Addr}{o:Obj}{es:Array DictEntry}{ep:Nat}{h:Int}{Q:Option Nat->Shared->Prop}(hd:s.heap.get? d=some o)(hdt:o.data=.dict es ep)
  (hk:∀(i:Nat) e,es[i]? = some e->∃x t,e.key=.str x t) (heq:∀x t,SeqAt.EqAt A s (.str x t) (.ref a) false) (hqa:∀(Q:Bool->Shared->Prop),Q true s->wpAny (model prog w) A (eqIsQuiet 8 (.ref a)) Q E s) (q:Q none s):wpAny (model prog w) A (dictFind d (.ref a) h) Q E s:=by
 unfold dictFind
 refine Dx (CN ?_)
 unfold dictEntries
 refine CN (Dv hd ?_)
 rw[hdt]
 refine CP ?_
 dsimp only
 generalize placesWithHash es.size (fun i=>Option.map (fun x=>x.hash) es[i]?) h=pl
 have hst:∀v ∈ pl.filterMap (fun i=>Option.map (fun x:DictEntry=>x.key) es[i]?),∃x t,v=.str x t:=fun v hv=>by
  obtain⟨i,_,hi⟩:=List.mem_filterMap.mp hv
  obtain⟨e,he,rfl⟩:=Option.map_eq_some_iff.mp hi
  exact hk i e he
 generalize hsd:pl.filterMap (fun i=>Option.map (fun x:DictEntry=>x.key) es[i]?)=stored at hst ⊢
 rw[if_neg (by simp[carriedByValue])]
 have GY:(es.any fun e=>e.key == Value.ref a && e.hash != h)=false:=by
  rw[Array.any_eq_false]
  intro i hi
  obtain⟨x,t,e⟩:=hk i es[i] (by simp[hi])
  simp[e]
 rw[if_neg (by rw[GY];decide)]
 rw[if_neg (by
  intro z
  have z:=FR z
  obtain⟨x,t,e⟩:=hst (.ref a) (by rw[z];simp)
  cases e)]
 refine CN (nW hst hqa ?_)
 rw[if_neg (by simp)]
 refine CN (ES _ (fun _ r s'=>r=(none,none)/\s'=s) _ (fun i bc b s1 hI=>?_) (fun b s1 hI=>?_) pl _ ⟨rfl,rfl⟩)
 ·obtain⟨rfl,rfl⟩:=hI
  cases he:es[i]? with
  |none=>exact CP ⟨rfl,rfl⟩
  |some e =>
   dsimp only
   split
   ·obtain⟨x,t,hx⟩:=hk i e he
    rw[hx]
    unfold dictEpoch
    refine CN (CN (Dv hd ?_))
    rw[hdt]
    refine CP (CN (heq x t prog w E _ ?_))
    refine CN (CN (Dv hd ?_))
    rw[hdt]
    refine CP ?_
    rw[if_neg (by simp),if_neg (by decide)]
    refine CN (Fi ?_)
    rw[if_neg (by simp)]
    exact CP ⟨rfl,rfl⟩
   ·exact CP ⟨rfl,rfl⟩
 ·obtain⟨rfl,rfl⟩:=hI
  exact CP q
theorem oV{d a:Addr}{o:Obj}{es:Array DictEntry}{ep:Nat}{h:Int}{v:Value}{Q:Unit->Shared->Prop}(hd:s.heap.get? d=some o)(hdt:o.data=.dict es ep)
  (hk:∀(i:Nat) e,es[i]? = some e->∃x t,e.key=.str x t) (heq:∀x t,SeqAt.EqAt A s (.str x t) (.ref a) false) (hqa:∀(Q:Bool->Shared->Prop),Q true s->wpAny (model prog w) A (eqIsQuiet 8 (.ref a)) Q E s) (hz:es.size<=sizeLine)
  (q:Q () { s with heap:=s.heap.update d (Obj.mapDictKeys fun x=>x.push ⟨h,.ref a,v⟩) }):wpAny (model prog w) A (dictSetHashed d (.ref a) h v) Q E s:=by
 unfold dictSetHashed
 refine Dx (CN (mP hd hdt hk heq hqa ?_))
 refine CN (Fi ?_)
 exact FI hd hdt q hz (by simp)
end
section
variable {prog:Program}{w:World}{A:Around}{E:Value->Shared->Prop}{s:Shared}
theorem kI{id:String}{d a o:Addr}{od oo:Obj}{es:Array DictEntry}{ep ep2:Nat}{h:Int}{v:Value}{Q:Unit->Shared->Prop}(hne:d ≠ o)(F9:(o == sysModules)=false)(hd:s.heap.get? d=some od)(hdt:od.data=.dict es ep)(ho:s.heap.get? o=some oo)(hot:oo.data=.dict #[⟨h,.ref a,v⟩] ep2)
  (hk:∀(i:Nat) e,es[i]? = some e->∃x t,e.key=.str x t) (heq:∀x t,SeqAt.EqAt A s (.str x t) (.ref a) false) (hqa:∀(Q:Bool->Shared->Prop),Q true s->wpAny (model prog w) A (eqIsQuiet 8 (.ref a)) Q E s) (hz:es.size<=sizeLine) (h0:es.isEmpty=false)
  (q:Q () { s with heap:=s.heap.update d (Obj.mapDictKeys fun x=>x.push ⟨h,.ref a,v⟩) }):wpAny (model prog w) A (Builtin.Dict.mergeDict id d o) Q E s:=by
 unfold Builtin.Dict.mergeDict
 rw[if_neg (by simpa using hne)]
 unfold Builtin.Dict.showsAll
 rw[if_neg (by rw[F9];decide)]
 refine CN (CP ?_)
 have ent:∀{s':Shared}{x:Addr}{ob:Obj}{el:Array DictEntry}{e:Nat}{Q':Array DictEntry->Shared->Prop},s'.heap.get? x=some ob->ob.data=.dict el e->Q' el s'->wpAny (model prog w) A (dictEntries x) Q' E s':=fun h1 h2 h3=>by
  unfold dictEntries
  refine CN (Dv h1 ?_)
  rw[h2];exact CP h3
 have epo:∀{s':Shared}{x:Addr}{ob:Obj}{el:Array DictEntry}{e:Nat}{Q':Nat->Shared->Prop},s'.heap.get? x=some ob->ob.data=.dict el e->Q' e s'->wpAny (model prog w) A (dictEpoch x) Q' E s':=fun h1 h2 h3=>by
  unfold dictEpoch
  refine CN (Dv h1 ?_)
  rw[h2];exact CP h3
 refine CN (ent ho hot ?_)
 dsimp only
 rw[if_pos (by simp[keyPart])]
 refine CN (ent hd hdt ?_)
 rw[if_neg (by rw[h0];decide)]
 refine CN (epo ho hot ?_)
 refine CN (ent ho hot ?_)
 have ho2:(s.heap.update d (Obj.mapDictKeys fun x=>x.push ⟨h,.ref a,v⟩)).get? o=some oo:=(EB _ _ _ _ (Ne.symm hne)).trans ho
 rw[Fq]
 refine CN (ES _ (fun l _ s'=>l=[0]/\s'=s\/l=[]/\s'={ s with heap:=s.heap.update d (Obj.mapDictKeys fun x=>x.push ⟨h,.ref a,v⟩) }) _ (fun i bc b s1 hI=>?_) (fun b s1 hI=>?_) _ _ (.inl ⟨by simp[Std.Legacy.Range.size],rfl⟩))
 ·rcases hI with⟨e1,rfl⟩ |⟨e1,_⟩
  ·cases e1
   refine CN (ent ho hot ?_)
   show wpAny _ _ (do holding _ (dictSetHashed d (.ref a) h v);_) _ _ _
   refine CN (Dx (oV hd hdt hk heq hqa hz ?_))
   refine CN (epo ho2 hot ?_)
   rw[if_neg (by simp)]
   exact CP (.inr ⟨rfl,rfl⟩)
  ·cases e1
 ·rcases hI with⟨e1,_⟩ |⟨_,rfl⟩
  ·cases e1
  ·exact CP q
theorem jR{id:String}{d a o:Addr}{od oo:Obj}{ep ep2:Nat}{h:Int}{v:Value}{Q:Unit->Shared->Prop}(hne:d ≠ o)(F9:(o == sysModules)=false)(hd:s.heap.get? d=some od)(hdt:od.data=.dict #[] ep)(ho:s.heap.get? o=some oo)(hot:oo.data=.dict #[⟨h,.ref a,v⟩] ep2)
  (hqe:∀(Q:Bool->Shared->Prop),(∀b,Q b s)->wpAny (model prog w) A (Builtin.Dict.quietEq (.ref a)) Q E s)
  (q:Q () { s with heap:=s.heap.update d (Obj.mapDictKeys fun _=>#[⟨h,.ref a,v⟩]) }):wpAny (model prog w) A (Builtin.Dict.mergeDict id d o) Q E s:=by
 unfold Builtin.Dict.mergeDict
 rw[if_neg (by simpa using hne)]
 unfold Builtin.Dict.showsAll
 rw[if_neg (by rw[F9];decide)]
 refine CN (CP ?_)
 have ent:∀{s':Shared}{x:Addr}{ob:Obj}{el:Array DictEntry}{e:Nat}{Q':Array DictEntry->Shared->Prop},s'.heap.get? x=some ob->ob.data=.dict el e->Q' el s'->wpAny (model prog w) A (dictEntries x) Q' E s':=fun h1 h2 h3=>by
  unfold dictEntries
  refine CN (Dv h1 ?_)
  rw[h2];exact CP h3
 refine CN (ent ho hot ?_)
 dsimp only
 rw[if_pos (by simp[keyPart])]
 refine CN (ent hd hdt ?_)
 rw[if_pos (show(#[]:Array DictEntry).isEmpty=true from rfl)]
 unfold Builtin.Dict.entriesForEmpty
 refine CN (CN (ent ho hot ?_))
 refine CN (wpAny_forIn_array' _ (fun l _ s'=>(l=[⟨h,.ref a,v⟩]\/l=[])/\s'=s) _ (fun e bc b s1 hI=>?_) (fun b s1 hI=>?_) _ _ ⟨.inl rfl,rfl⟩)
 ·obtain⟨e1 |e1,rfl⟩:=hI
  ·cases e1
   refine CN (hqe _ fun b=>?_)
   split
   ·rw[if_neg (by simp)]
    exact CP ⟨.inr rfl,rfl⟩
   ·exact CP ⟨.inr rfl,rfl⟩
  ·cases e1
 ·obtain⟨_,rfl⟩:=hI
  refine CP ?_
  rw[if_pos (by simp)]
  exact CN (FI hd hdt (CP q) (by simp) (by simp))
end
section
variable {prog:Program}{w:World}{A:Around}{E:Value->Shared->Prop}{s:Shared}
theorem rO{d o:Addr}{od oo:Obj}{Q:PySem.Fin->Shared->Prop}(hd:s.heap.get? d=some od)(xd:od.ExactDict)(ho:s.heap.get? o=some oo)(xo:oo.ExactDict)
  (q:wpAny (model prog w) A (Builtin.Dict.mergeDict "dict.update" d o) (fun _ s'=>Q (.done (.ret .none)) s') E s):wpAny (model prog w) A (Builtin.«dict.update» ⟨[.ref d,.ref o],[]⟩) Q E s:=by
 have hT:s.TypeIs (.ref o) "dict" := ⟨_,ho,xo.1⟩
 have hT2:s.TypeIs (.ref d) "dict" := ⟨_,hd,xd.1⟩
 unfold Builtin.«dict.update» Builtin.Dict.selfAndRest
 repeat (any_goals (first |assumption |wp_step))
 rw[if_neg (by rw[xd.1];decide)]
 refine CP ?_
 dsimp only
 refine CN ?_
 unfold Builtin.Dict.addrOf
 refine CP (CP ?_)
 unfold Builtin.Dict.updateCommon
 show wpAny _ _ (Builtin.Dict.updateFrom "dict.update" d (Value.ref o) [] Value.none) _ _ _
 unfold Builtin.Dict.updateFrom
 refine CN (EE hT ?_)
 rw[if_neg (by decide)]
 unfold Builtin.Dict.merge Builtin.Dict.readDirectly
 have c1:=PySem.F.slot_dict_iter.lookup
 repeat (any_goals (first |assumption |wp_step))
 rw[show isSubtype (Value.type "dict") (Value.type "dict")=pure true from PySem.F.kt_sub_dict]
 refine CP ?_
 rw[if_neg (by decide)]
 have c2:=PySem.F.slot_dict_iter.lookup
 repeat (any_goals (first |assumption | (with_reducible refine De ho ?_;rw[xo.1]) |wp_step))
 show wpAny _ _ (Builtin.Dict.mergeDict "dict.update" d o) _ _ _
 refine Dc q (fun _ s' z=>?_) fun _ _ z=>z
 unfold Builtin.Dict.addKeywords
 repeat (any_goals (first |assumption |wp_step))
end
section
variable {prog:Program}{w:World}{A:Around}{E:Value->Shared->Prop}{s:Shared}
theorem kL{d:Addr}{b:Bool}{o:Obj}{es:Array DictEntry}{ep:Nat}{h:Int}{Q:Option Nat->Shared->Prop}(hd:s.heap.get? d=some o)(hdt:o.data=.dict es ep)
  (hk:∀(i:Nat) e,es[i]? = some e->∃x t,e.key=.str x t) (q:Q none s):wpAny (model prog w) A (dictFind d (.bool b) h) Q E s:=by
 unfold dictFind
 refine Dx (CN ?_)
 unfold dictEntries
 refine CN (Dv hd ?_)
 rw[hdt]
 refine CP ?_
 dsimp only
 generalize placesWithHash es.size (fun i=>Option.map (fun x=>x.hash) es[i]?) h=pl
 have hst:∀v ∈ pl.filterMap (fun i=>Option.map (fun x:DictEntry=>x.key) es[i]?),∃x t,v=.str x t:=fun v hv=>by
  obtain⟨i,_,hi⟩:=List.mem_filterMap.mp hv
  obtain⟨e,he,rfl⟩:=Option.map_eq_some_iff.mp hi
  exact hk i e he
 rw[if_pos (by
  rw[Dj]
  intro v hv
  rcases List.mem_cons.mp hv with rfl |hv
  ·rfl
  ·obtain⟨x,t,rfl⟩:=hst v hv
   rfl)]
 unfold dictWalkPlain
 refine CN (ES _ (fun _ r s'=>r=(none,())/\s'=s) _ (fun i bc b1 s1 hI=>?_) (fun b1 s1 hI=>?_) pl _ ⟨rfl,rfl⟩)
 ·obtain⟨rfl,rfl⟩:=hI
  cases he:es[i]? with
  |none=>exact CP ⟨rfl,rfl⟩
  |some e =>
   dsimp only
   split
   ·obtain⟨x,t,hx⟩:=hk i e he
    rw[hx]
    unfold dictEpoch
    refine CN (CN (Dv hd ?_))
    rw[hdt]
    refine CP (CN (SeqAt.EqAt.str_bool x t b prog w E _ ?_))
    refine CN (CN (Dv hd ?_))
    rw[hdt]
    refine CP ?_
    rw[if_neg (by simp),if_neg (by decide)]
    refine CN (Fi ?_)
    exact CP ⟨rfl,rfl⟩
   ·exact CP ⟨rfl,rfl⟩
 ·obtain⟨rfl,rfl⟩:=hI
  exact CP q
theorem ik{d:Addr}{b:Bool}{o:Obj}{es:Array DictEntry}{ep:Nat}{h:Int}{v:Value}{Q:Unit->Shared->Prop}(hd:s.heap.get? d=some o)(hdt:o.data=.dict es ep)
  (hk:∀(i:Nat) e,es[i]? = some e->∃x t,e.key=.str x t) (hz:es.size<=sizeLine)
  (q:Q () { s with heap:=s.heap.update d (Obj.mapDictKeys fun x=>x.push ⟨h,.bool b,v⟩) }):wpAny (model prog w) A (dictSetHashed d (.bool b) h v) Q E s:=by
 unfold dictSetHashed
 refine Dx (CN (kL hd hdt hk ?_))
 refine CN (Fi ?_)
 exact FI hd hdt q hz (by simp)
theorem jS{id:String}{d o:Addr}{b:Bool}{od oo:Obj}{es:Array DictEntry}{ep ep2:Nat}{h:Int}{v:Value}{Q:Unit->Shared->Prop}(hne:d ≠ o)(F9:(o == sysModules)=false)(hd:s.heap.get? d=some od)(hdt:od.data=.dict es ep)(ho:s.heap.get? o=some oo)(hot:oo.data=.dict #[⟨h,.bool b,v⟩] ep2)
  (hk:∀(i:Nat) e,es[i]? = some e->∃x t,e.key=.str x t) (hz:es.size<=sizeLine)
  (q:Q () { s with heap:=s.heap.update d (Obj.mapDictKeys fun x=>x.push ⟨h,.bool b,v⟩) }):wpAny (model prog w) A (Builtin.Dict.mergeDict id d o) Q E s:=by
 unfold Builtin.Dict.mergeDict
 rw[if_neg (by simpa using hne)]
 unfold Builtin.Dict.showsAll
 rw[if_neg (by rw[F9];decide)]
 refine CN (CP ?_)
 have ent:∀{s':Shared}{x:Addr}{ob:Obj}{el:Array DictEntry}{e:Nat}{Q':Array DictEntry->Shared->Prop},s'.heap.get? x=some ob->ob.data=.dict el e->Q' el s'->wpAny (model prog w) A (dictEntries x) Q' E s':=fun h1 h2 h3=>by
  unfold dictEntries
  refine CN (Dv h1 ?_)
  rw[h2];exact CP h3
 have epo:∀{s':Shared}{x:Addr}{ob:Obj}{el:Array DictEntry}{e:Nat}{Q':Nat->Shared->Prop},s'.heap.get? x=some ob->ob.data=.dict el e->Q' e s'->wpAny (model prog w) A (dictEpoch x) Q' E s':=fun h1 h2 h3=>by
  unfold dictEpoch
  refine CN (Dv h1 ?_)
  rw[h2];exact CP h3
 refine CN (ent ho hot ?_)
 dsimp only
 rw[if_neg (by simp[keyPart])]
 refine CN (epo ho hot ?_)
 refine CN (ent ho hot ?_)
 have ho2:(s.heap.update d (Obj.mapDictKeys fun x=>x.push ⟨h,.bool b,v⟩)).get? o=some oo:=(EB _ _ _ _ (Ne.symm hne)).trans ho
 rw[Fq]
 refine CN (ES _ (fun l _ s'=>l=[0]/\s'=s\/l=[]/\s'={ s with heap:=s.heap.update d (Obj.mapDictKeys fun x=>x.push ⟨h,.bool b,v⟩) }) _ (fun i bc b1 s1 hI=>?_) (fun b1 s1 hI=>?_) _ _ (.inl ⟨by simp[Std.Legacy.Range.size],rfl⟩))
 ·rcases hI with⟨e1,rfl⟩ |⟨e1,_⟩
  ·cases e1
   refine CN (ent ho hot ?_)
   show wpAny _ _ (do holding _ (dictSetHashed d (.bool b) h v);_) _ _ _
   refine CN (Dx (ik hd hdt hk hz ?_))
   refine CN (epo ho2 hot ?_)
   rw[if_neg (by simp)]
   exact CP (.inr ⟨rfl,rfl⟩)
  ·cases e1
 ·rcases hI with⟨e1,_⟩ |⟨_,rfl⟩
  ·cases e1
  ·exact CP q
end
end L2
namespace L2.Cu
open PySem PySem.Spec PyProof.Rows
def yu(H:Hp)(x:V):Prop:=(∃b,x=.bl b)\/∃a ks,x=.ref a/\H a=some (.tup (List.map kV ks))
theorem qJ{P:Program}{w:World}{H:Hp}{h:Heap}{a:Addr}{ob:Obj}(g:h.get? a=some ob):bw P w H h a (.frz ob ic):=⟨g,trivial,⟨ob,g⟩,fun _ _ _ _=>trivial⟩
theorem xS{prog:Program}{w:World}{A:Around}{E:Value->Shared->Prop}{s:Shared}{b:Bool}{Q:Int->Shared->Prop}(h:∀n tk,Q n { s with toks:=tk }):wpAny (model prog w) A (pyHash (.bool b)) Q E s:=by
 refine PySem.W.pyHash_slot (T := "bool") rfl F.slot_bool_hash entry_int_hash (args_int_hash _) (beq_builtin_none _) (.inl rfl) ?_
 cases b
 ·exact(show wpAny _ _ (mkInt 0 >>= ret) _ _ s from CN (wpAny_mkInt (CP ⟨_,_,rfl,h _ _⟩)))
 ·exact(show wpAny _ _ (mkInt 1 >>= ret) _ _ s from CN (wpAny_mkInt (CP ⟨_,_,rfl,h _ _⟩)))
def tY(tk tv:TE):TE:=fun σ H Q=>∀p,H p=none->(p == sysModules)=false->tk σ (upd H p (.dT [])) fun x H1=>tv σ H1 fun y H2=>H2 p=some (.dT [])/\yu H2 x/\∀ob,qk ob [(x,y)]->Q (.ref p) (upd H2 p (.frz ob ic))
section
variable {X:Cx}{pos:Pos}{k v:Expr}{tk tv:TE}
theorem uN(hu:X.A.units + 64 < cLine)(hk:PE X k tk)(hv:PE X v tv):PE X (.Dict [some k] [v] pos) (tY tk tv):=by
 intro dl s σ H Q I q
 have hn:=I.hok.fresh (CV s.heap.objs.size)
 have I1:=I.laid (a:=s.heap.objs.size) (o:=.dT []) (h':=s.heap.push { cls:=.type "dict",data:=.dict #[] }) (t':=s.toks) (fun _ _ q=>CO _ q) (CV _) (v6 s.heap I.big)
 refine wpAny_Dict_any rfl rfl (by simp) (by simp) (pairTrees_cons_walk (thn (hk dl _ σ _ _ I1 (q _ hn (beq_eq_false_iff_ne.mpr (Ne.symm (C5 I.big))))) fun ku s1 ⟨x,H1,I2,rx,q1⟩=>thn (hv dl s1 σ H1 _ I2 q1) fun vu s2 ⟨y,H2,I3,ry,e,od,q2⟩=>pairTrees_nil_walk ?_))
 generalize hpp:s.heap.objs.size=p at *
 have bc:∀(h':Heap) (t:Nat) (ob:Obj),h'.get? p=some ob->Heap.SameBut p s2.heap h'->qk ob [(x,y)]->EP X dl σ Q (.ref p) { s2 with heap:=h',toks:=t }:=fun h' t ob g hs en =>
  ⟨.ref p,_,jt I3 (by rw[e];exact True.intro) hs ⟨ob,g⟩ (qJ g),rfl,q2 ob en⟩
 obtain⟨_,_,xs,rel,o,es,ep,ho,hc,hd,he,his,hnd⟩:=BO I3.hok e
 cases rel
 unfold storeAll
 rw[List.forIn_cons]
 refine CN (CN ?_)
 rcases od with⟨b,rfl⟩ |⟨a,ks,rfl,ea⟩
 ·cases(show ku=Value.bool b from rx)
  unfold dictSet
  have hes:es=#[]:=by
   have:es.toList=[]:=he
   simpa using this
  subst hes
  refine Dx (CN (xS fun n t=>ik (s:={ s2 with toks:=t }) ho hd (fun i e he=>by simp at he) (by simp) (CP ?_)))
  show wpAny _ _ (forIn [] _ _) _ _ _
  rw[List.forIn_nil]
  refine CP (bc _ t _ (Dr _ ho (Obj.isFreed_of_dict (EU hd _))) (EC ..) ⟨hc.mapDictKeys _,_,_,EU hd _,?_⟩)
  exact .cons ⟨rfl,ry⟩ .nil
 ·cases(show ku=Value.ref a from rx)
  refine wpAny_dictSet_heap (knd:=tupleKind (az X.prog X.w)) (hsz:=by simp) (show X.A.units < cLine by lia) (gR I3.hok ea) ⟨o,es,ep,ho,hc,hd,he,his,hnd⟩ fun h' dd' hs=>CP ?_
  show wpAny _ _ (forIn [] _ _) _ _ _
  rw[List.forIn_nil]
  obtain⟨ob,es',ep',g,h2,h3,h4,_,_⟩:=dd'
  refine CP (bc _ _ ob g hs ⟨h2,es',ep',h3,?_⟩)
  rw[h4]
  exact .cons ⟨rfl,ry⟩ .nil
def yF:V->List V->Hp->VK->Prop:=fun x vs H Q=>∃a b kvs ob kv vv,x=.ref a/\vs=[.ref b]/\a ≠ b/\H a=some (.dK kvs)/\(∀p ∈ kvs,∃t,p.1=Sum.inr t)/\H b=some (.frz ob ic)/\(b == sysModules)=false/\qk ob [(kv,vv)]/\yu H kv /\
 ∀ob',qk ob' (kvs.map (fun p=>(kV p.1,p.2)) ++ [(kv,vv)])->(a == sysModules)=false->Q .non (upd H a (.frz ob' ic))
theorem AE{P:Program}{w:World}:∀{kvs:List (Key×V)} {vs:List (Key×Value)} {es:List DictEntry},KV kvs vs->Pairs (az P w) es vs->Paired (fun(p:V×V) (e:DictEntry)=>aJ p.1 e.key/\aJ p.2 e.val) (kvs.map fun p=>(kV p.1,p.2)) es :=
 fun r t=>by
  induction r generalizing ‹List DictEntry› with
  |nil=>cases t;exact .nil
  |cons h _ ih =>
   cases t with
   |cons h1 h2 t =>
    refine .cons ⟨?_,by rw[h2];exact h.2⟩ (ih t)
    show aJ (kV _) _
    rw[h.1]
    exact jl h1
theorem nF{α β:Type}{G:α->β->Prop}{l:List α}{m:List β}(r:Paired G l m){x:α}{y:β}(h:G x y):Paired G (l ++ [x]) (m ++ [y]):=by
 induction r with
 |nil=>exact .cons h .nil
 |cons h1 _ ih=>exact .cons h1 ih
theorem xB(hu:X.A.units + 64 < cLine):MtM X "dict.update" yF:=by
 intro dl s σ H x vs v us Q I rx rv h
 obtain⟨a,b,kvs,ob,kv,vv,rfl,rfl,hab,ha,htx,hb,F9,en,od,q⟩:=h
 cases rx
 obtain⟨u,rfl,ru⟩:=rv.one
 cases ru
 obtain⟨z1,hd1,vs1,rel1,o,es,ep,ho,hx,hd,hko,hpr,hnd⟩:=ro I.hok ha
 obtain⟨gb,_⟩:=I.hok b _ hb
 obtain⟨xo,es2,ep2,hd2,pr⟩:=en
 have pe:=AE rel1 hpr
 obtain⟨e2,rfl,hek,hev⟩:∃e2:DictEntry,es2=#[e2]/\aJ kv e2.key/\aJ vv e2.val:=by
  obtain⟨l⟩:=es2
  cases pr with
  |cons h t=>cases t;exact⟨_,rfl,h.1,h.2⟩
 have hz:es.size<=sizeLine:=by
  have h1:=pe.length
  have h2:es.toList.length=es.size:=DG
  rw[CQ,h2]at h1
  rw[<-h1];exact z1
 have hk:∀(i:Nat) e,es[i]? = some e->∃x t,e.key=.str x t:=fun i e he=>by
  rw[<-D6]at he
  have hl:i < (kvs.map fun p=>(kV p.1,p.2)).length:=by rw[pe.length];exact(List.getElem?_eq_some_iff.mp he).1
  obtain⟨e',h1,h2,_⟩:=lg pe (C0 hl)
  rw[he]at h1
  cases h1
  rw[List.getElem_map]at h2
  obtain⟨t,ht⟩:=htx _ (DB (by simpa using hl))
  rw[ht]at h2
  obtain⟨tk,h2⟩:=h2
  exact⟨_,_,h2⟩
 have fin:∀(h:Int) (f:Array DictEntry->Array DictEntry),f es=es.push ⟨h,e2.key,e2.val⟩->EP X dl σ Q .none { s with heap:=s.heap.update a (Obj.mapDictKeys f) }:=fun h f hf=>by
  have g:=Dr (Obj.mapDictKeys f) ho (Obj.isFreed_of_dict (EU hd _))
  refine⟨.non,_,jt (t':=s.toks) I (by rw[ha];exact True.intro) (EC ..) ⟨_,g⟩ (qJ g),rfl,q _ ⟨hx.mapDictKeys _,_,_,EU hd _,?_⟩ hd1⟩
  rw[hf,Array.toList_push]
  exact nF pe ⟨hek,hev⟩
 obtain⟨hh,hky,hvl⟩:=e2
 refine Ds F.slot_dict_update ⟨_,ho,hx.1⟩ F.entry_dict_update (rO ho hx gb xo ?_) (F.args_dict_update_2 _ _)
 rcases od with⟨bb,rfl⟩ |⟨c,ks,rfl,ec⟩
 ·cases(show hky=Value.bool bb from hek)
  exact jS hab F9 ho hd gb hd2 hk hz ⟨_,rfl,fin hh _ rfl⟩
 ·cases(show hky=Value.ref c from hek)
  have kt:=gR I.hok ec
  obtain⟨_,its,rl,tp⟩:=(show bw X.prog X.w H s.heap c (.tup (ks.map kV)) from I.hok c _ ec)
  cases h0:es.isEmpty with
  |false=>exact kI hab F9 ho hd gb hd2 hk (fun x t=>SeqAt.EqAt.str_tuple x t tp (show X.A.units + 1 < cLine by lia)) (fun Q q=>wpAny_eqIsQuiet_tuple kt q) hz h0 ⟨_,rfl,fin hh _ rfl⟩
  |true =>
   have he:es=#[]:=by simpa using h0
   subst he
   refine jR hab F9 ho hd gb hd2 (fun Q q=>?_) ⟨_,rfl,fin hh _ rfl⟩
   unfold Builtin.Dict.quietEq
   obtain⟨ot,h1,h2,_⟩:=tp
   exact CN (wpAny_specialOf (T := "tuple") ⟨_,h1,h2⟩ F.slot_tuple_eq.lookup (CP (q _)))
end
end L2.Cu
namespace L2
open PySem PySem.Spec PyProof.Rows
section
variable {prog:Program}{w:World}{A:Around}{E:Value->Shared->Prop}{s:Shared}{d it:Addr}{ob:Obj}{es:Array DictEntry}{ep i:Nat}{ok ov:Value}
theorem oq{Q:PySem.Fin->Shared->Prop}(hd:(d == sysModules)=false)(ho:s.heap.get? d=some ob)(hx:ob.ExactDict)
  (q:Q (.done (.ret (.ref s.heap.objs.size))) { s with heap:=s.heap.push { cls:=.type "dict_items",data:=.fields #[.ref d] } }):wpAny (model prog w) A (Builtin.«dict.items» ⟨[.ref d],[]⟩) Q E s:=by
 have ty:s.TypeIs (.ref d) "dict" := ⟨ob,ho,hx.1⟩
 unfold Builtin.«dict.items» Builtin.Dict.noArgs
 refine CN (CN (wpAny_notOrdered_dict ty ?_))
 show wpAny _ _ (pure d) _ _ s
 refine CP ?_
 show wpAny _ _ (Builtin.Dict.showsAll d >>= _) _ _ s
 rw[show Builtin.Dict.showsAll d=pure () from by unfold Builtin.Dict.showsAll;rw[hd];rfl]
 exact CN (CP (CN (Di (CP q))))
theorem om{v:Addr}{Q:Value->Shared->Prop}(hv:s.heap.IsItemsView v d)(ho:s.heap.get? d=some ob)(he:ob.data=.dict es ep)
  (q:Q (.ref s.heap.objs.size) { s with heap:=s.heap.push { cls:=.type "dict_itemiterator",data:=.fields #[.none,.bool false,.ref d,.int 0 0,.int es.size 0,.int ep 0,.none,.none] } }):wpAny (model prog w) A (pyIter (.ref v)) Q E s:=by
 obtain⟨vo,v1,v2,v3⟩:=id hv
 refine FM hv.typeIs F.slot_dict_items_iter ?_
 refine Ds F.slot_dict_items_iter hv.typeIs F.entry_dict_items_iter ?_ (F.args_dict_items_iter_1 _)
 unfold Builtin.«dict_items.__iter__» Builtin.Dict_items.dictOf Builtin.Dict_items.newIterator
 refine CN (CP (CN (CN (Do v1 v3 (x:=.ref d) rfl (CP (CN (CN (FN ho he (CN (wpAny_dictEpoch ho he ?_))))))))))
 rw[show Builtin.Dict_items.ownsTuple "dict_itemiterator" = true from by decide]
 simp only[if_true]
 refine Di (CP ⟨_,rfl,"dict_itemiterator",_,⟨_,CT _ rfl,rfl⟩,F.slot_dict_itemiterator_next.lookup,?_⟩) (by simp[sizeOk,Builtin.Dict_items.ownedTupleFields,EA])
 simpa[rawInt,Builtin.Dict_items.ownedTupleFields] using q
theorem Br{Q:Value->Shared->Prop}{k x:Value}{j:Nat}(st:IsItemIter s.heap it d j es.size ep ok ov)
  (q:∀h',IsItemIterOut h' it d j es.size ep k x s.heap.objs.size->h'.get? s.heap.objs.size=some { cls:=.type "tuple",data:=.seq #[k,x] }->h'.objs.size=s.heap.objs.size + 1->(∀b o,b ≠ it->s.heap.get? b=some o->h'.get? b=some o)->Q (.ref s.heap.objs.size) { s with heap:=h' }) :
  wpAny (model prog w) A (Builtin.Dict_items.pairFromOwner (.ref it) 6 k x) Q E s:=by
 obtain⟨hp,g,dr,tk,os⟩:=s
 have lt:it < hp.objs.size:=CS st
 unfold Builtin.Dict_items.pairFromOwner Builtin.Dict_items.ownedTupleIsFree
 refine CN (wpAny_newTuple ?_)
 have t0:(hp.push { cls:=.type "tuple",data:=.seq #[k,x] }).get? hp.objs.size=some { cls:=.type "tuple",data:=.seq #[k,x] }:=CT _ rfl
 have z0:(hp.push { cls:=.type "tuple",data:=.seq #[k,x] }).objs.size=hp.objs.size + 1:=EM ..
 have k0:∀b o,b ≠ it->hp.get? b=some o->(hp.push { cls:=.type "tuple",data:=.seq #[k,x] }).get? b=some o:=fun b o _ e=>CO _ e
 have st0:IsItemIter (hp.push { cls:=.type "tuple",data:=.seq #[k,x] }) it d j es.size ep ok ov:=CO _ st
 show wpAny _ _ _ _ _ (⟨hp.push { cls:=.type "tuple",data:=.seq #[k,x] },g,dr,tk,os⟩:Shared)
 generalize hp.push { cls:=.type "tuple",data:=.seq #[k,x] }=h0 at t0 z0 k0 st0 ⊢
 refine CN (CN (Do st0 rfl (x:=.none) rfl (CP ?_)))
 simp only[if_true]
 refine CN (Do st0 rfl (x:=ok) rfl (CN (Do st0 rfl (x:=ov) rfl ?_)))
 refine CN (EH st0 (by simp) fun h1 st1 c1=>?_)
 refine CN (EH (s:=⟨h1,g,dr,tk,os⟩) (show IsItemIter h1 it d j es.size ep k ov from st1) (by simp) fun h2 st2 c2=>?_)
 refine CN (EH (s:=⟨h2,g,dr,tk,os⟩) (show IsItemIter h2 it d j es.size ep k x from st2) (by simp) fun h3 st3 c3=>?_)
 refine CN (EH (s:=⟨h3,g,dr,tk,os⟩) (show IsItemIterOut h3 it d j es.size ep k x hp.objs.size from st3) (by simp) fun h4 st4 c4=>?_)
 have c:∀b o,b ≠ it->h0.get? b=some o->h4.get? b=some o:=fun b o n e=>ED c4 b o n (ED c3 b o n (ED c2 b o n (ED c1 b o n e)))
 have z:h4.objs.size=h0.objs.size:=(c4.1.trans c3.1).trans (c2.1.trans c1.1)
 exact CN (wpAny_letGo (CP (q h4 st4 (c _ _ (EV lt) t0) (z.trans z0) fun b o n e=>c b o n (k0 b o n e))))
theorem ol{en:DictEntry}{Q:Option Value->Shared->Prop}(st:IsItemIter s.heap it d i es.size ep ok ov)(ho:s.heap.get? d=some ob)(he:ob.data=.dict es ep)(hi:es[i]? = some en)
  (q:∀h',IsItemIterOut h' it d (i + 1) es.size ep en.key en.val s.heap.objs.size->h'.get? s.heap.objs.size=some { cls:=.type "tuple",data:=.seq #[en.key,en.val] }->h'.objs.size=s.heap.objs.size + 1->(∀b o,b ≠ it->s.heap.get? b=some o->h'.get? b=some o)->Q (some (.ref s.heap.objs.size)) { s with heap:=h' }) :
  wpAny (model prog w) A (pyNext (.ref it)) Q E s:=by
 obtain⟨hp,g,dr,tk,os⟩:=s
 have ty:∀{h:Heap}{j:Nat},IsItemIter h it d j es.size ep ok ov->Shared.TypeIs ⟨h,g,dr,tk,os⟩ (.ref it) "dict_itemiterator" := fun z=>⟨_,z,rfl⟩
 have lt:i < es.size:=(Array.getElem?_eq_some_iff.mp hi).1
 have ee:es[i]=en:=(Array.getElem?_eq_some_iff.mp hi).2
 unfold pyNext
 refine CN (wpAny_attempt (DP (name:=Str.ofString "__next__") (ty st) D3 ?_))
 refine Ds D3 (ty st) F.entry_dict_itemiterator_next ?_ (FQ _)
 refine CN (CP (CN (CN ?_)))
 first |refine CN (D2 (ty st) (CP ?_)) |refine CN (Er (ty st) (CP ?_))
 refine CN (wpAny_fieldsOf st rfl ?_)
 rw[show Builtin.Dict_items.ownsTuple "dict_itemiterator" = true from by decide]
 simp only[if_true]
 show wpAny _ _ (if(Value.ref d == Value.none)=true then _ else _) _ _ _
 rw[if_neg (show ¬((Value.ref d == Value.none)=true) from C3)]
 refine CN (CP (CN (FN ho he ?_)))
 rw[if_neg (by simp)]
 refine CN (CP (CN (wpAny_dictEpoch ho he ?_)))
 rw[if_neg (by simp)]
 refine CP ?_
 simp only[show ¬((i:Int) < 0) from by lia,En,DF,E4 lt,ee]
 refine CN ?_
 first |refine CN (D2 (ty st) (CP ?_)) |refine CN (Er (ty st) (CP ?_))
 refine CN (Fu (ty st) ?_)
 show wpAny _ _ (setField (.ref it) 3 (rawInt ((i:Int) + 1)) >>= _) _ _ _
 refine CN (EH st (by simp) fun h1 st1 c1=>?_)
 have st1:IsItemIter h1 it d (i + 1) es.size ep ok ov:=st1
 have z1:h1.objs.size=hp.objs.size:=c1.1
 refine CN (Dx (CN (Fu (ty st1) (CN (Fu (ty st1) ?_)))))
 show wpAny _ _ (Builtin.Dict_items.pairFromOwner (.ref it) 6 en.key en.val) _ _ ⟨h1,g,dr,tk,os⟩
 refine Br st1 fun h' a1 a2 a3 a4=>CP ⟨_,rfl,CP ?_⟩
 rw[show(⟨h1,g,dr,tk,os⟩:Shared).heap.objs.size=hp.objs.size from z1]at a1 a2 a3 ⊢
 exact q h' a1 a2 a3 fun b o n e=>a4 b o n (ED c1 b o n e)
theorem pU{Q:Option Value->Shared->Prop}(hh:A.handled=none)(st:IsItemIter s.heap it d i es.size ep ok ov)(ho:s.heap.get? d=some ob)(he:ob.data=.dict es ep)(hi:es.size<=i)
  (q:∀h',Heap.ExtBut it s.heap h'->Q none { s with heap:=h' }):wpAny (model prog w) A (pyNext (.ref it)) Q E s:=by
 have ty:s.TypeIs (.ref it) "dict_itemiterator" := ⟨_,st,rfl⟩
 unfold pyNext
 refine CN (wpAny_attempt (DP (name:=Str.ofString "__next__") ty D3 ?_))
 refine Ds D3 ty F.entry_dict_itemiterator_next ?_ (FQ _)
 refine CN (CP (CN (CN ?_)))
 first |refine CN (D2 ty (CP ?_)) |refine CN (Er ty (CP ?_))
 refine CN (wpAny_fieldsOf st rfl ?_)
 rw[show Builtin.Dict_items.ownsTuple "dict_itemiterator" = true from by decide]
 simp only[if_true]
 show wpAny _ _ (if(Value.ref d == Value.none)=true then _ else _) _ _ s
 rw[if_neg (show ¬((Value.ref d == Value.none)=true) from C3)]
 refine CN (CP (CN (FN ho he ?_)))
 rw[if_neg (by simp)]
 refine CN (CP (CN (wpAny_dictEpoch ho he ?_)))
 rw[if_neg (by simp)]
 refine CP ?_
 simp only[show ¬((i:Int) < 0) from by lia,En,DF,Array.getElem?_eq_none hi]
 refine CN ?_
 first |refine CN (D2 ty (CP ?_)) |refine CN (Er ty (CP ?_))
 show wpAny _ _ (setField (.ref it) 2 .none >>= _) _ _ s
 refine CN (Eu st rfl (by simp) ?_)
 show wpAny _ _ (newExc (.type "StopIteration") [] >>= _) _ _ _
 refine CN ?_
 simp only[newExc,newTuple]
 refine CN (Di ?_ (by size_fits))
 refine CN (m:=firstArgMember _ _) (wpAny_of_eq (a:=Value.none) (by first |rfl | (simp only[firstArgMember];rfl)) ?_)
 refine Di ?_ (by size_fits)
 simp only[raiseNew]
 refine CN (wpAny_handled ?_)
 rw[show A.in1.handled=none from hh]
 refine CN (CP (wpAny_throw ?_))
 refine CN (wpAny_isInstance (T := "StopIteration") (b:=true) ⟨_,CT _ rfl,rfl⟩ isSubtype_stop ?_)
 exact CP (q _ (((EC ..).extBut.push _).push _))
end
open PySem PySem.Spec PyProof.Rows L2.Cu
def ItO(d:Addr)(ob:Obj)(kvs:List (V×V)):It :=
  ⟨fun i H=>H d=some (.frz ob ic)/\i < kvs.length,
   fun i H x H'=>∃(T:Addr) (k v:V),x=.ref T/\H T=none/\H'=upd H T (.tup [k,v])/\kvs[i]? = some (k,v),
   fun i H=>H d=some (.frz ob ic)/\kvs.length=i⟩
theorem na{P:Program}{w:World}{K:PySem.W.Frag}{elts:List Expr}{x1}{pos:Pos}(d it:Addr)(ob:Obj)(kvs:List (V×V))(es:Array DictEntry)(ep:Nat)(he:ob.data=.dict es ep)
  (pr:Paired (fun(p:V×V) (e:DictEntry)=>aJ p.1 e.key/\aJ p.2 e.val) kvs es.toList) :
  kO P w K (.Tuple elts x1 pos) (ItO d ob kvs) [it] it (fun i h=>∃ok ov,IsItemIter h it d i es.size ep ok ov) where
 mem:=by simp
 obj:=fun i h zz141_0 b hb=>by
  obtain⟨ok,ov,st⟩:=zz141_0
  obtain rfl:b=it:=by simpa using hb
  exact⟨_,st,fun v z=>by cases(show Data.fields _=Data.cell v from z)⟩
 keep:=fun i h h' ⟨ok,ov,st⟩ k=>⟨ok,ov,k it (by simp) _ st⟩
 item:=by
  intro X hP hw hK hc i dl s σ H E I hf st hg
  subst hP hw hK
  obtain⟨ok,ov,st⟩:=st
  obtain⟨e,hi⟩:=hg
  obtain⟨g,_⟩:=I.hok d _ e
  obtain⟨en,hen,rk,rv⟩:=lg pr (C0 hi)
  rw[D6]at hen
  refine ol st g he hen fun h' ho hT hsz kk=>?_
  refine⟨_,rfl,wpAny_letOwnedTupleGo_items (s:={ s with heap:=h' }) ho fun h2 he2 s2=>?_⟩
  have hT0:H s.heap.objs.size=none:=I.fresh
  have hml:it < s.heap.objs.size:=CS st
  have hf1:∀c ∈ [it],f8 X dl (upd H s.heap.objs.size (.tup [kvs[i].1,kvs[i].2])) c:=fun c hcm=>by
   have hcc:c=it:=by simpa using hcm
   refine⟨?_,(hf c hcm).2⟩
   rw[af (by rw[hcc];exact C5 hml)]
   exact(hf c hcm).1
  have I1:Inv X dl σ (upd H s.heap.objs.size (.tup [kvs[i].1,kvs[i].2])) { s with heap:=s.heap.push { cls:=.type "tuple",data:=.seq #[en.key,en.val] },toks:=s.toks }:=I.laid (t':=s.toks) (fun c v e=>CO _ e) (CV _)
   ⟨by show 2<=sizeLine;decide,[en.key,en.val],.cons rk (.cons rv .nil),⟨_,CT _ rfl,rfl,_,rfl⟩⟩
  have I2:Inv X dl σ (upd H s.heap.objs.size (.tup [kvs[i].1,kvs[i].2])) { s with heap:=h2,toks:=s.toks }:=I1.turnedN (t':=s.toks) (h':=h2) (fun(c:Nat) o hcn e=>by
   have h1:¬c=it:=by simpa using hcn
   refine s2.extBut _ _ h1 ?_
   rcases FJ e with⟨e1,e2⟩ |e'
   ·subst e1 e2;exact hT
   ·exact kk c o h1 e') hf1
  exact⟨.ref s.heap.objs.size,_,I2,rfl,⟨_,_,_,rfl,hT0,rfl,C0 hi⟩,⟨_,_,he2⟩,fun c hcm=>(hf1 c hcm).1⟩
 done:=by
  intro X hP hw hK hc i dl s σ H E I hf st hg
  subst hP hw hK
  obtain⟨ok,ov,st⟩:=st
  obtain⟨e,hi⟩:=hg
  obtain⟨g,_⟩:=I.hok d _ e
  obtain⟨f0,f1,f2,f3,f4,f5⟩:=hf it (by simp)
  have hl:kvs.length=es.size:=pr.length.trans DG
  exact pU (I.ok.hd hc) st g he (by lia) fun h' eb=>⟨rfl,I.turned (t':=s.toks) (fun b o hb e=>eb b o hb e) f0 f1 f3 f4 f5⟩
 self:=fun A i s Q E zz143_0 h=>by
  obtain⟨ok,ov,st⟩:=zz143_0
  have hT:s.TypeIs (.ref it) "dict_itemiterator" := ⟨_,st,rfl⟩
  refine FM hT DN (Ds DN hT PySem.W.kcp_entry ?_ (Fs _))
  show wpAny _ _ (ret (.ref it)) _ _ s
  exact CP ⟨_,rfl,"dict_itemiterator",_,hT,F.slot_dict_itemiterator_next.lookup,h⟩
def xR(tl:TE):TI:=fun σ H R=>tl σ H fun x H1=>∃d ob kvs,x=.ref d/\(d == sysModules)=false/\H1 d=some (.frz ob ic)/\qk ob kvs/\R (ItO d ob kvs) H1
theorem se{X:Cx}{elts:List Expr}{x1}{tp:Pos}{o:Expr}{apos cpos:Pos}{tl:TE}(hl:PE X o tl)(BT:attributeBase o "items" X.env (eval o X.env)=eval o X.env:=by rfl)(FT:(apos.endLine == cpos.line)=true:=by rfl) :
  PI X (.Tuple elts x1 tp) (.Call (.Attribute o "items" apos) [] [] cpos) (xR tl):=by
 intro dl s σ H R I h
 refine FO (T := "dict") (id := "dict.items") BT rfl FT F.plainAttrs_dict Fk F.type_dict_items (thn (hl dl s σ H _ I h) fun v s1 zz144_0=>?_)
 obtain⟨x,H1,I1,r1,q1⟩:=zz144_0
 obtain⟨d,ob,kvs,e,hd,hq,⟨hx,es,ep,he,pr⟩,q⟩:=q1
 subst e
 cases r1
 obtain⟨g,_⟩:=I1.hok d _ hq
 refine⟨⟨_,g,hx.1⟩,fun b z=>by cases z;exact⟨_,g,hx.2.1⟩,?_⟩
 refine Fv rfl (PySem.evalArgs_none ?_)
 refine Ds Fk ⟨_,g,hx.1⟩ F.entry_dict_items (oq hd g hx ⟨_,rfl,?_⟩) (F.args_dict_items_1 _)
 refine om (d:=d) ⟨_,CT _ rfl,rfl,rfl⟩ (CO _ g) he ?_
 have hsz:(s1.heap.push { cls:=.type "dict_items",data:=.fields #[.ref d] }).objs.size=s1.heap.objs.size + 1:=EM ..
 refine⟨_,[(s1.heap.push { cls:=.type "dict_items",data:=.fields #[.ref d] }).objs.size],_,_,H1,rfl,I1.kept (t':=s1.toks) fun b o e=>CO _ (CO _ e),na d _ ob kvs es ep he pr,⟨.none,.none,CT _ rfl⟩,fun b hb=>?_,q⟩
 have e:b=(s1.heap.push { cls:=.type "dict_items",data:=.fields #[.ref d] }).objs.size:=by simpa using hb
 have hle:s1.heap.objs.size<=b:=by rw[e,hsz];exact D4 _
 exact I1.fpOk hle (I1.hok.fresh hle)
theorem qe{X:Cx}(hc:X.calm=true):bQ X (.type "list") (fun xs H Q=>∃p kvs,xs=[V.ref p]/\Rd H p (.dK kvs)/\∀l,H l=none->Q (.ref l) (upd H l (.lst (kvs.map fun p=>kV p.1)))):=by
 intro dl s σ H xs us Q I r h
 obtain⟨p,kvs,rfl,hp,q⟩:=h
 obtain⟨u,rfl,ru⟩:=gE r
 cases ru
 obtain⟨z,hd,vs,rel,dd⟩:=dm I.hok hp
 obtain⟨ep,hat⟩:=dd.dictAt
 have hl:=rel.length
 refine PySem.W.kdl_call (PySem.W.kdl_dict (knd:=az X.prog X.w) hd) (I.ok.hd hc) hat (by rw[<-hl];exact z) fun h' tk acc' c' kp hS Gz=>?_
 have hv:aM (kvs.map fun p=>kV p.1) acc'.toList:=by
  have ek:kvs.map (fun p=>kV p.1)=vs.map fun p=>kV p.1:=by
   have:=DK (List.map kV) rel.keys
   rw[Dq,Dq]at this
   exact this
  rw[ek]
  exact iE (P:=X.prog) (w:=X.w) (by rw[DG];exact Gz.1) fun i v hv=>Gz.2 i v (by rw[<-D6];exact hv)
 exact⟨.ref s.heap.objs.size,_,I.laid (o:=.lst (kvs.map fun p=>kV p.1)) (t':=tk) kp (CV _) ⟨by rw[CQ];exact z,acc'.toList,c',hv,by rw[Array.toArray_toList];exact hS⟩,rfl,q _ (I.hok.fresh (CV _))⟩
end L2
namespace L2.Cu
open PySem PySem.Spec PyProof.Rows
section
variable {X:Cx}{e:Expr}{p pos:Pos}{f:DE->Option D}
def jU(x:D):Option D:=match x with
 |.dic kvs=>some (.lst (kvs.map fun p=>b8 p.1))
 |_=>none
theorem ut:iS .F (fun xs H Q=>∃p kvs,xs=[V.ref p]/\Rd H p (.dK kvs)/\∀l,H l=none->Q (.ref l) (upd H l (.lst (kvs.map fun p=>kV p.1)))) jU:=fun F H v x d Q s rx h q=>by
 cases x with
 |dic kvs =>
  cases CU h
  obtain⟨c,vs,rfl,hc,rk⟩:=OB.dic s rx
  exact⟨c,vs,rfl,hc,fun l hl=>q _ F _ (Ext.lay s hl) ⟨l,_,rfl,hl,aj,nofr s hl,gh rk⟩⟩
 |_=>cases h
theorem vM(hc:X.calm=true)(hg:Gl X "list")(hm:X.mg "list" = none)(hv:bootBuiltins "list" = some (.type "list"))(ha:Ev X .O e f)(he:aD e=true:=by rfl):Ev X .F (.Call (.Name "list" p) [e] [] pos) (un jU f) :=
 mG (qe hc) ut hg hm hv ha (by decide) (by decide) he
def ft:D->Option (List D)
 |.dic kvs=>some (kvs.map fun p=>D.tup [b8 p.1,p.2])
 |.odd ks vs=>some ((ks.zip vs).map fun p=>D.tup [p.1,p.2])
 |_=>none
theorem Am{F:Hp}{a:Addr}{ob:Obj}{kvs:List (V×V)}{ks vs:List D}(h:F a=some (.frz ob ic))(r:Reps F (kvs.map (·.1)) ks)(t:Reps F (kvs.map (·.2)) vs):mZ F (ItO a ob kvs) ((ks.zip vs).map fun p=>D.tup [p.1,p.2]):=by
 have l1:kvs.length=ks.length:=by rw[<-r.length,CQ]
 have l2:kvs.length=vs.length:=by rw[<-t.length,CQ]
 intro i F2 H2 y s
 have q:H2 a=some (.frz ob ic):=s _ _ (y _ _ h)
 refine⟨fun hl=>⟨q,by rw[<-hl,CQ,List.length_zip];lia⟩,fun d hd=>?_⟩
 rw[Db]at hd
 obtain⟨p,hx,hd⟩:=bM hd
 cases hd
 obtain⟨hk,hv⟩:=List.getElem?_zip_eq_some.mp hx
 have hlt:i < kvs.length:=by rw[l1];exact(List.getElem?_eq_some_iff.mp hk).1
 refine⟨⟨q,hlt⟩,fun x H' yl=>?_⟩
 obtain⟨T,k,v,rfl,hT,rfl,hkv⟩:=yl
 obtain⟨k',e1,rk⟩:=r.get hk
 obtain⟨v',e2,rv⟩:=t.get hv
 rw[Db,hkv]at e1 e2
 cases e1
 cases e2
 have X:=Ext.freeze (o:=.tup [k,v]) s hT
 exact⟨upd F2 T (.tup [k,v]),X,Rep.tup aj (.cons ((rk.mono y).mono X.fr) (.cons ((rv.mono y).mono X.fr) .nil))⟩
theorem lK{elts:List Expr}{x1}{tp:Pos}{o:Expr}{apos cpos:Pos}(h:Ev X .V o f)(BT:attributeBase o "items" X.env (eval o X.env)=eval o X.env:=by rfl)(FT:(apos.endLine == cpos.line)=true:=by rfl) :
  Ei X (.Tuple elts x1 tp) (.Call (.Attribute o "items" apos) [] [] cpos) (cc ft f):=PI.by (PI.or (uH h.h BT FT) (se h.h BT FT)) fun σ H R zz145_0=>by
 obtain⟨B,F,E,xs,k,q,w⟩:=zz145_0
 unfold cc at q
 obtain⟨d,hf,q⟩:=bS q
 cases d with
 |dic ds =>
  cases q
  refine .inl ⟨B,F,E,_,k,hf,fun v F' H' x r=>?_⟩
  cases r with
  |dic e rs=>exact⟨_,_,_,rfl,x.sub _ _ e,w _ F' H' x (Ao e rs)⟩
 |odd ks vs =>
  cases q
  refine .inr ⟨B,F,E,_,k,hf,fun v F' H' x r=>?_⟩
  cases r with
  |odd hs e en rk rv=>exact⟨_,_,_,rfl,hs,x.sub _ _ e,en,w _ F' H' x (Am e rk rv)⟩
 |_=>cases q
end
section
variable {B:Hp×Hp}{F H F' H':Hp} {σ:St}{E:DE}
theorem Ext.put(x:Ext F H F' H'){d:Addr}{o:HO}(h:H d=none)(hf:F' d=none):Ext F H F' (upd H' d o) :=
 ⟨fun a u e=>by rw[af (aF e h)];exact x.same a u e,x.fr,fun a u e=>by rw[af (fun z=>by rw[z,hf]at e;cases e)];exact x.sub a u e,x.new⟩
theorem Ext.fz(x:Ext F H F' H'){d:Addr}{o:HO}(h:H d=none)(hf:F' d=none)(hd:H' d=some o):Ext F H (upd F' d o) H' :=
 ⟨x.same,fun a u e=>by rw[af (fun z=>by rw[z]at e;rw[x.fr d u e]at hf;cases hf)];exact x.fr a u e,fun a u e=>by
  by_cases z:a=d
  ·subst z;rw[aj]at e;rw[hd];exact e
  ·rw[af z]at e;exact x.sub a u e,fun a e n=>by rw[af (fun z=>n (by rw[z];exact h))];exact x.new a e n⟩
end
def uX:D->Bool
 |.bl _=>true
 |.tup xs=>xs.all fun x=>(cZ x).isSome
 |_=>false
def vx:Key->Bool
 |.inr _=>true
 |_=>false
def wn(kvs:List (Key×D))(k v:D):Option D:=match cZ k with
 |some ky=>some (.dic (ff kvs ky v))
 |none=>if(uX k && kvs.all fun p=>vx p.1)=true then some (.odd (kvs.map (fun p=>b8 p.1) ++ [k]) (kvs.map (·.2) ++ [v])) else none
def kY(i:Nat)(fa fl fy fk fv gk gv:DE->Option D)(E:DE):Option Out:=(fa E).bind fun da=>match da with
 |.dic kvs=>(fl E).bind fun l=>(fy E).bind fun y=>(fk (E.set i .no)).bind fun k=>(fv (E.set i .no)).bind fun v=>(gk (E.set i .no)).bind fun k2=>(gv (E.set i .no)).bind fun v2 =>
  (cZ k2).bind fun ky=>(wn kvs k v).bind fun d0=>if kvs.length < sizeLine/\i < E.length then some (.nx (E.set i (.val (.lst [d0,.dic (ff kvs ky v2),l,y])))) else none
 |_=>none
theorem nv{F:Hp}:∀{vs:List V}{ds:List D},(ds.all fun x=>(cZ x).isSome)=true->Reps F vs ds->∃ks:List Key,vs=ks.map kV
 |_,_,_,.nil=>⟨[],rfl⟩
 |_,_,h,.cons r t=>by
  rw[DH,C_]at h
  obtain⟨ks,rfl⟩:=nv h.2 t
  obtain⟨k,hk⟩:=Option.isSome_iff_exists.mp h.1
  exact⟨k :: ks,by rw[eL (H:=F) hk (.inl r)];rfl⟩
theorem xv{F H:Hp}{x:V}{d:D}(h:uX d=true)(s:∀a o,F a=some o->H a=some o)(r:Rep F x d):yu H x:=by
 cases r with
 |bl b=>exact .inl ⟨b,rfl⟩
 |tup e rs =>
  obtain⟨ks,rfl⟩:=nv h rs
  exact .inr ⟨_,ks,rfl,s _ _ e⟩
 |_=>cases h
theorem ny{F:Hp}:∀{vs:List (Key×V)} {ds:List (Key×D)},RepK F vs ds->(ds.all fun p=>vx p.1)=true->∀p ∈ vs,∃t,p.1=Sum.inr t
 |_,_,.nil,_,_,hp=>nomatch hp
 |_,_,.cons r t,h,p,hp=>by
  rw[DH,C_]at h
  rcases List.mem_cons.mp hp with rfl |hp
  ·revert h
   rename_i k _ _ _ _
   intro h
   cases k with
   |inr t=>exact⟨t,rfl⟩
   |inl _=>cases h.1
  ·exact ny t h.2 p hp
theorem lb{F:Hp}:∀{vs:List (Key×V)} {ds:List (Key×D)},RepK F vs ds->Reps F (vs.map (·.2)) (ds.map (·.2))
 |_,_,.nil=>.nil
 |_,_,.cons r t=>.cons r (lb t)
section
variable {X:Cx}{bc:List Stmt}{g:DE->Option Out}
theorem PS.or{st:Stmt}{t t':TS}(h:PS X st t)(h':PS X st t'):PS X st (fun Z σ H=>t Z σ H\/t' Z σ H):=fun dl s σ H Z I q=>q.elim (h dl s σ H Z I) (h' dl s σ H Z I)
def tGh(t:TS):TS:=fun Z σ H=>∃a o,H a=some o/\∀ob,t Z σ (upd H a (fzO ob o))
theorem uA{t:TS}(h:PSs X bc t):PSs X bc (tGh t):=fun dl s σ H Z I zz146_0=>by
 obtain⟨a,o,e,q⟩:=zz146_0
 obtain⟨ob,I'⟩:=vz I e
 exact h dl s σ _ Z I' (q ob)
theorem tQ{i n:Nat}{p d:Addr}{xs:List V}{ws:List (Key×V)}{fk fv:DE->Option D}{B:Hp×Hp}{F H F1 H1:Hp}{σ:St}{E:DE}{Z:dh}{k v:D}(x:Ext F H F1 H1)
  (ok:Ok B F1 H1 (σ.set i (some (.ref p))) (E.set i .no)) (hi:i < σ.length) (hp:H1 p=some (.lst xs)) (hx:atI xs n=some (.ref d)) (hd:H1 d=some (.dK ws)) (hF:F1 d=none) (hn:H d=none) (hz:ws.length < sizeLine)
  (hk:fk (E.set i .no)=some k) (hv:fv (E.set i .no)=some v) (ky:Key) (hky:cZ k=some ky)
  (q:∀(F2 H2:Hp) (u:V),Ext F1 H1 F2 H2->Rep F2 u v->Z.nx (σ.set i (some (.ref p))) (upd H2 d (.dK (fE ws ky u)))) :
  qt (tBM X.K "dict" l9 (tOp (rIx X.K) (g8 i) (tM .O (cst (.int n)))) (nh (tM .F (oW fk fv)) tW)) Z (σ.set i (some (.ref p))) H1:=by
 refine⟨.ref p,by rw[C7,if_pos rfl,if_pos hi],B,F1,_,.int n,ok,rfl,fun y F2 H2 x2 r2=>?_⟩
 rw[OB.int r2]
 have hd2:=x2.same _ _ hd
 refine .inl ⟨p,xs,n,.ref d,rfl,rfl,SqL.of (x2.same _ _ hp),hx,.inr (.inr (.inl ⟨rfl,.inl ⟨ws,hd2⟩⟩)),B,F2,_,.dic [(ky,v)],ok.ext x2,by simp[oW,hk,hky,hv],fun w F3 H3 x3 r3=>?_⟩
 obtain⟨c,o',rfl,hc0,hc,hcF,hor⟩:=r3
 cases o' with
 |dK us =>
  cases(show RepK F3 us [(ky,v)] from hor) with
  |@cons _ u _ _ _ ru tl =>
   cases tl
   exact⟨d,c,ws,[(ky,u)],rfl,rfl,(fun z=>by rw[z,hc0]at hd2;cases hd2),x3.same _ _ hd2,hc,hz,q F3 H3 u (x2.trans x3) ru⟩
 |_=>exact False.elim hor
theorem wv{i n:Nat}{p d:Addr}{xs:List V}{ws:List (Key×V)}{fk fv:DE->Option D}{B:Hp×Hp}{F H F1 H1:Hp}{σ:St}{E:DE}{Z:dh}{k v:D}(x:Ext F H F1 H1)
  (ok:Ok B F1 H1 (σ.set i (some (.ref p))) (E.set i .no)) (hi:i < σ.length) (hp:H1 p=some (.lst xs)) (hx:atI xs n=some (.ref d)) (hd:H1 d=some (.dK ws)) (hF:F1 d=none) (hn:H d=none) (ht:∀q ∈ ws,∃t,q.1=Sum.inr t)
  (hk:fk (E.set i .no)=some k) (hv:fv (E.set i .no)=some v) (hky:uX k=true)
  (q:∀(F2 H2:Hp) (w u:V) ob,Ext F1 H1 F2 H2->Rep F2 w k->Rep F2 u v->qk ob (ws.map (fun p=>(kV p.1,p.2)) ++ [(w,u)])->(d == sysModules)=false->Z.nx (σ.set i (some (.ref p))) (upd H2 d (.frz ob ic))) :
  qt (tBM X.K "dict" yF (tOp (rIx X.K) (g8 i) (tM .O (cst (.int n)))) (nh (tY (tM .V fk) (tM .V fv)) tW)) Z (σ.set i (some (.ref p))) H1:=by
 refine⟨.ref p,by rw[C7,if_pos rfl,if_pos hi],B,F1,_,.int n,ok,rfl,fun y F2 H2 x2 r2=>?_⟩
 rw[OB.int r2]
 have hd2:=x2.same _ _ hd
 have k2:=ok.ext x2
 refine .inl ⟨p,xs,n,.ref d,rfl,rfl,SqL.of (x2.same _ _ hp),hx,.inr (.inr (.inl ⟨rfl,.inl ⟨ws,hd2⟩⟩)),fun c hc hs=>?_⟩
 have x0:Ext F2 H2 F2 (upd H2 c (.dT [])):=Ext.lay k2.sub hc
 have fc:F2 c=none:=nofr k2.sub hc
 refine⟨B,F2,_,k,k2.ext x0,hk,fun w F3 H3 x3 r3=>⟨B,F3,_,v,(k2.ext x0).ext x3,hv,fun u F4 H4 x4 r4=>?_⟩⟩
 have x34:=x3.trans x4
 have hc4:H4 c=some (.dT []):=x34.same c _ aj
 have od:yu H4 w:=xv hky x4.sub (r3.mono x4.fr)
 refine⟨hc4,od,fun ob en=>?_⟩
 have x5:Ext F2 H2 F4 (upd H4 c (.frz ob ic)):=(Ext.lay k2.sub hc).trans (x34.stepD fc)
 have hcd:d ≠ c:=fun z=>by rw[z,hc]at hd2;cases hd2
 refine⟨d,c,ws,ob,w,u,rfl,rfl,hcd,x5.same _ _ hd2,ht,aj,hs,en,?_,fun ob' en' hsd=>q F4 _ w u ob' (x2.trans x5) (r3.mono x4.fr) r4 en' hsd⟩
 rcases od with z |⟨a,ks,e1,e2⟩
 ·exact .inl z
 ·exact .inr ⟨a,ks,e1,by rw[af (fun z=>by rw[z,hc4]at e2;cases e2)];exact e2⟩
theorem s_{i:Nat}{x:Str}{e1 e2 e3 e4 o0 o1 c0 c1 k v k2 v2:Expr}{px lp p1 sp0 ap0 dp0 cp0 ep0 sp1 ap1 dp1 cp1 ep1:Pos}{fa fl fy fk fv gk gv:DE->Option D}(hu:X.A.units + 64 < cLine)(hN:X.N.Nodup)(hi:X.N[i]? = some x)(hx:Loc X.env.scope x)
  (h1:Ev X .F e1 fa) (h2:Ev X .F e2 fa) (h3:Ev X .V e3 fl) (h4:Ev X .V e4 fy) (ho0:PE X o0 (g8 i)) (hc0:Ev X .O c0 (cst (.int 0))) (hs0:jw c0) (hk:Ev X .V k fk) (hv:Ev X .V v fv)
  (ho1:PE X o1 (g8 i)) (hc1:Ev X .O c1 (cst (.int 1))) (hs1:jw c1) (hk2:Ev X .V k2 gk) (hv2:Ev X .V v2 gv) (hr:Ess X bc g)
  (hsw:swapsWith (.List [e1,e2,e3,e4] lp) (some (.Name x px)) p1.line X.env=pure false:=by rfl) (hf:X.fn x=true\/X.env.scope.names.lookup x=some .local:=by first |exact .inl rfl |exact .inr rfl |assumption)
  (n1:aD e1=true:=by rfl) (n2:aD e2=true:=by rfl) (n3:aD e3=true:=by rfl) (n4:aD e4=true:=by rfl)
  (hb0:attributeBase (.Subscript o0 c0 sp0) "update" X.env (eval (.Subscript o0 c0 sp0) X.env)=eval (.Subscript o0 c0 sp0) X.env:=by rfl) (hb1:attributeBase (.Subscript o1 c1 sp1) "update" X.env (eval (.Subscript o1 c1 sp1) X.env)=eval (.Subscript o1 c1 sp1) X.env:=by rfl)
  (hf0:((backTo cp0 (starEach [.Dict [some k] [v] dp0] X.env)).all (fun x => !x.1) && (backToKw cp0 (keywordEach [] X.env)).all (fun x=>x.1.isSome) && decide (([.Dict [some k] [v] dp0]:List Expr).length + ([]:List Keyword).length + (if([]:List Keyword).isEmpty then 0 else 1) < 30))=true:=by rfl)
  (hf1:((backTo cp1 (starEach [.Dict [some k2] [v2] dp1] X.env)).all (fun x => !x.1) && (backToKw cp1 (keywordEach [] X.env)).all (fun x=>x.1.isSome) && decide (([.Dict [some k2] [v2] dp1]:List Expr).length + ([]:List Keyword).length + (if([]:List Keyword).isEmpty then 0 else 1) < 30))=true:=by rfl)
  (hl0:(ap0.endLine == cp0.line)=true:=by rfl) (hl1:(ap1.endLine == cp1.line)=true:=by rfl) (hw0:swapsWith (.Call (.Attribute (.Subscript o0 c0 sp0) "update" ap0) [.Dict [some k] [v] dp0] [] cp0) none ep0.line X.env=pure false:=by rfl)
  (hw1:swapsWith (.Call (.Attribute (.Subscript o1 c1 sp1) "update" ap1) [.Dict [some k2] [v2] dp1] [] cp1) none ep1.line X.env=pure false:=by rfl) :
  Ess X (.Assign [.Name x px] (.List [e1,e2,e3,e4] lp) p1 :: .Expr (.Call (.Attribute (.Subscript o0 c0 sp0) "update" ap0) [.Dict [some k] [v] dp0] [] cp0) ep0 :: .Expr (.Call (.Attribute (.Subscript o1 c1 sp1) "update" ap1) [.Dict [some k2] [v2] dp1] [] cp1) ep1 :: bc) (ar (kY i fa fl fy fk fv gk gv) g):=by
 have S1:=pE (pos':=px) (pos:=p1) hN hi hx (uL (pos:=lp) (bj h1.h (bj h2.h (bj h3.h (bj h4.h cE (aC _ [] X.env n4)) (aC _ _ X.env n3)) (aC _ _ X.env n2)) (aC _ _ X.env n1))) hsw hf
 have S2:=PS.or (gi (pos:=ep0) (lf (cpos:=cp0) (apos:=ap0) DU DS Ej iD (qG (pos:=sp0) mq ho0 hc0.h hs0) (bj (mJ (pos:=dp0) hk hv).h cE) hb0 hf0 hl0 rfl rfl) hw0)
  (gi (pos:=ep0) (lf (cpos:=cp0) (apos:=ap0) DU DS Ej (xB hu) (qG (pos:=sp0) mq ho0 hc0.h hs0) (bj (uN (pos:=dp0) hu hk.h hv.h) cE) hb0 hf0 hl0 rfl rfl) hw0)
 have S3:=gi (pos:=ep1) (lf (cpos:=cp1) (apos:=ap1) DU DS Ej iD (qG (pos:=sp1) mq ho1 hc1.h hs1) (bj (mJ (pos:=dp1) hk2 hv2).h cE) hb1 hf1 hl1 rfl rfl) hw1
 refine PSs.by (fJ S1 (fJ S2 (fJ S3 (uA (uA hr.h))))) fun Z σ H zz147_0=>?_
 obtain⟨B,F,E,r,ok,q,w⟩:=zz147_0
 unfold ar kY at q
 obtain⟨r0,q0,q⟩:=bS q
 obtain⟨da,hfa,q0⟩:=bS q0
 cases da with
 |dic kvs =>
  obtain⟨l,hfl,q0⟩:=bS q0
  obtain⟨y,hfy,q0⟩:=bS q0
  obtain⟨dk,hfk,q0⟩:=bS q0
  obtain⟨dv,hfv,q0⟩:=bS q0
  obtain⟨dk2,hgk,q0⟩:=bS q0
  obtain⟨dv2,hgv,q0⟩:=bS q0
  obtain⟨ky,hky,q0⟩:=bS q0
  obtain⟨d0,hd0,q0⟩:=bS q0
  split at q0
  ·rename_i hc
   obtain⟨hz,hi⟩:=hc
   cases q0
   have hi:i < σ.length:=by rw[ok.len];exact hi
   refine⟨B,F,E,.dic kvs,ok,hfa,fun u0 F1 H1 x1 r1=>⟨B,F1,E,.dic kvs,ok.ext x1,hfa,fun u1 F2 H2 x2 r2=>⟨B,F2,E,l,(ok.ext x1).ext x2,hfl,fun u2 F3 H3 x3 r3=>⟨B,F3,E,y,((ok.ext x1).ext x2).ext x3,hfy,fun u3 F4 H4 x4 r4=>⟨(show 4<=sizeLine by decide),fun p hp=>?_⟩⟩⟩⟩⟩
   obtain⟨a0,o0,rfl,n0,g0,z0,b0⟩:=r1
   obtain⟨a1,o1,rfl,n1,g1,z1,b1⟩:=r2
   cases o0 with
   |dK ws0 =>
    cases o1 with
    |dK ws1 =>
     have b0:RepK F1 ws0 kvs:=b0
     have b1:RepK F2 ws1 kvs:=b1
     have x34:=x3.trans x4
     have x24:=x2.trans x34
     have x5:Ext F H F4 (upd H4 p (.lst [.ref a0,.ref a1,u2,u3])):=(x1.trans x24).trans (Ext.lay x4.sub hp)
     have m1:H a1=none:=x1.nofree n1
     have mp:H p=none:=(x1.trans x24).nofree hp
     have e01:a0 ≠ a1:=aF g0 n1
     have e0p:a0 ≠ p:=aF (x24.same _ _ g0) hp
     have e1p:a1 ≠ p:=aF (x34.same _ _ g1) hp
     have y0:F4 a0=none:=x24.new a0 z0 (by rw[g0];simp)
     have y1:F4 a1=none:=x34.new a1 z1 (by rw[g1];simp)
     have yp:F4 p=none:=nofr x4.sub hp
     have l0:ws0.length=kvs.length:=b0.length
     have l1:ws1.length=kvs.length:=b1.length
     have k5:∀{F' H':Hp},Ext F H F' H'->Ok B F' H' (σ.set i (some (.ref p))) (E.set i .no):=fun x=>by
      have z:=((ok.ext x).set_val (Rep.rf p) i).no i
      rw[List.set_set]at z
      exact z
     have tail:∀(F6 H6:Hp) (o:HO),Ext F4 (upd H4 p (.lst [.ref a0,.ref a1,u2,u3])) F6 H6->(∀ob F',(∀a u,F6 a=some u->F' a=some u)->F' a0=some (fzO ob o)->Rep F' (.ref a0) d0) ->
       AU (qt (tBM X.K "dict" l9 (tOp (rIx X.K) (g8 i) (tM .O (cst (.int 1)))) (nh (tM .F (oW gk gv)) tW))) (tGh (tGh (tS g))) Z (σ.set i (some (.ref p))) (upd H6 a0 o):=fun F6 H6 o x6 GR=>by
      have x56:=x5.trans x6
      have w0:F6 a0=none:=x6.new a0 y0 (by rw[af e0p,x24.same _ _ g0];simp)
      have w1:F6 a1=none:=x6.new a1 y1 (by rw[af e1p,x34.same _ _ g1];simp)
      have wp:F6 p=none:=x6.new p yp (by rw[aj];simp)
      have x7:Ext F H F6 (upd H6 a0 o):=x56.put n0 w0
      have hp7:(upd H6 a0 o) p=some (.lst [.ref a0,.ref a1,u2,u3]):=by rw[af (Ne.symm e0p)];exact x6.same _ _ aj
      have h17:(upd H6 a0 o) a1=some (.dK ws1):=by rw[af (Ne.symm e01)];exact x6.same _ _ (by rw[af e1p];exact x34.same _ _ g1)
      refine tQ (n:=1) (Z:={ Z with nx:=tGh (tGh (tS g)) Z }) x7 (k5 x7) hi hp7 rfl h17 w1 m1 (by rw[l1];exact hz) hgk hgv ky hky fun F8 H8 u x8 ru=>?_
      have v0:F8 a0=none:=x8.new a0 w0 (by rw[aj];simp)
      have v1:F8 a1=none:=x8.new a1 w1 (by rw[h17];simp)
      have vp:F8 p=none:=x8.new p wp (by rw[hp7];simp)
      have h80:(upd H8 a1 (.dK (fE ws1 ky u))) a0=some o:=by rw[af e01];exact x8.same _ _ aj
      refine⟨a0,o,h80,fun ob0=>⟨a1,.dK (fE ws1 ky u),by rw[af (Ne.symm e01),aj],fun ob1=>?_⟩⟩
      have x9:=(((x7.trans x8).put m1 v1 (o:=.dK (fE ws1 ky u))).put n0 v0 (o:=fzO ob0 o)).put m1 v1 (o:=.frz ob1 (.dK (fE ws1 ky u)))
      have xa:=((x9.fz n0 v0 (o:=fzO ob0 o) (by rw[af e01,aj])).fz m1 (by rw[af (Ne.symm e01)];exact v1) aj).fz mp (by rw[af (Ne.symm e1p),af (Ne.symm e0p)];exact vp) (o:=.lst [.ref a0,.ref a1,u2,u3]) (by rw[af (Ne.symm e1p),af (Ne.symm e0p),af (Ne.symm e1p)];exact x8.same _ _ hp7)
      have up:∀a u',F8 a=some u'->(upd (upd (upd F8 a0 (fzO ob0 o)) a1 (.frz ob1 (.dK (fE ws1 ky u)))) p (.lst [.ref a0,.ref a1,u2,u3])) a=some u':=fun a u' e=>by
       rw[af (aF e vp),af (aF e v1),af (aF e v0)];exact e
      have up4:∀a u',F4 a=some u'->(upd (upd (upd F8 a0 (fzO ob0 o)) a1 (.frz ob1 (.dK (fE ws1 ky u)))) p (.lst [.ref a0,.ref a1,u2,u3])) a=some u':=fun a u' e=>up a u' (x8.fr _ _ (x6.fr _ _ e))
      refine⟨B,_,_,r,((ok.ext xa).set_val (Rep.lst aj (.cons (GR ob0 _ (fun a u' e=>up a u' (x8.fr _ _ e)) (by rw[af e0p,af e01,aj])) (.cons (.dic (by rw[af e1p,aj]) (((b1.mono x34.fr).mono up4).put (ru.mono up))) (.cons ((r3.mono x4.fr).mono up4) (.cons (r4.mono up4) .nil))))) i),q,w.mono xa.fr⟩
     have hp5:(upd H4 p (.lst [.ref a0,.ref a1,u2,u3])) p=some (.lst [.ref a0,.ref a1,u2,u3]):=aj
     have h05:(upd H4 p (.lst [.ref a0,.ref a1,u2,u3])) a0=some (.dK ws0):=by rw[af e0p];exact x24.same _ _ g0
     unfold wn at hd0
     cases hkk:cZ dk with
     |some kk =>
      rw[hkk]at hd0
      cases hd0
      refine .inl (tQ (n:=0) (Z:={ Z with nx:=_ }) x5 (k5 x5) hi hp5 rfl h05 y0 n0 (by rw[l0];exact hz) hfk hfv kk hkk fun F6 H6 u x6 ru=>tail F6 H6 _ x6 fun ob F' hF' hh=>?_)
      exact .dic hh ((((b0.mono x24.fr).mono x6.fr).mono hF').put (ru.mono hF'))
     |none =>
      rw[hkk]at hd0
      dsimp only at hd0
      split at hd0
      ·rename_i ho
       rw[C_]at ho
       cases hd0
       refine .inr (wv (n:=0) (Z:={ Z with nx:=_ }) x5 (k5 x5) hi hp5 rfl h05 y0 n0 (ny b0 ho.2) hfk hfv ho.1 fun F6 H6 w' u ob x6 rw' ru en hsd=>tail F6 H6 _ x6 fun ob' F' hF' hh=>?_)
       have b6:=((b0.mono x24.fr).mono x6.fr).mono hF'
       refine .odd hsd hh en ?_ ?_
       ·rw[Dk,Dq]
        exact(gh b6).append (.cons (rw'.mono hF') .nil)
       ·rw[Dk,Dq]
        exact(lb b6).append (.cons (ru.mono hF') .nil)
      ·cases hd0
    |_=>exact False.elim b1
   |_=>exact False.elim b0
  ·cases q0
 |_=>cases q0
end
section
variable {X:Cx}{e:Expr}{x:Str}{pos pos':Pos}{f:DE->Option D}
theorem aE(i:Nat)(hN:X.N.Nodup)(he:Ev X .V e f)(hi:X.N[i]? = some x:=by rfl)(hx:Loc X.env.scope x:=by exact Or.inl rfl)(hs:swapsWith e (some (.Name x pos')) pos.line X.env=pure false:=by rfl)
  (hf:X.fn x=true\/X.env.scope.names.lookup x=some .local:=by first |exact .inl rfl |exact .inr rfl):Es X (.Assign [.Name x pos'] e pos) (aA i f):=dX hN hi hx he hs hf
theorem cY(i:Nat)(hN:X.N.Nodup)(he:Ev X .F e f)(hi:X.N[i]? = some x:=by rfl)(hx:Loc X.env.scope x:=by exact Or.inl rfl)(hs:swapsWith e (some (.Name x pos')) pos.line X.env=pure false:=by rfl)
  (hf:X.fn x=true\/X.env.scope.names.lookup x=some .local:=by first |exact .inl rfl |exact .inr rfl):Es X (.Assign [.Name x pos'] e pos) (dz i f):=AA hN hi hx he hs hf
theorem aB(i:Nat)(hN:X.N.Nodup)(hi:X.N[i]? = some x:=by rfl)(hx:Loc X.env.scope x:=by exact Or.inl rfl)(hf:X.fn x=true\/X.env.scope.names.lookup x=some .local:=by first |exact .inl rfl |exact .inr rfl):Eg X (.Name x pos) (nmG i):=yc hN hi hx hf
structure Cal (K:PySem.W.Frag) (mg:Str->Option Value) (x:Str) (f:Addr) (fd:FuncData) (ps:List Str):Prop where
 m:mg x=some (.ref f)
 kp:PySem.W.keepIn K (.ref f)=true
 b:eW K fd ps []
theorem aT{k j:Nat}{fa:Addr}{fd:FuncData}{ps:List Str}{p:Pos}{es:List Expr}{n:Nat}{g:List D->Option D}{f:DE->Option (List D)}(Fn:a9 X.prog X.w X.K X.mg X.base CX0 k fa fd ps (spD n g))(c:Cal X.K X.mg x fa fd ps)(hr:ca j X.A)(ha:Ea X (e :: es) f)(hj:k<=j:=by decide)(hg:Gl X x:=by rfl)
  (hdb:(x == ("__debug__" : Str))=false:=by decide) (he:aD e=true:=by rfl) (hpl:es.all aD=true:=by rfl):Ev X .V (.Call (.Name x p) (e :: es) [] pos) (ax n g f):=mK Fn (hr.mono hj) hg c.m c.kp c.b ha hdb he hpl
end
theorem fnA{P:Program}{w:World}{K:PySem.W.Frag}{mg:Str->Option Value}{base:Heap}{x qual:Str}{st:Stmt}{f:Addr}{fd:FuncData}{N ps:List Str}{k1 n m:Nat}(k:Nat)(b:DE->Option Out){g:List D->Option D}(Fn:Fun K x qual st f fd)(S:aS N ps (ao st))
  (FU:∀{cdv:Value}{A:Around}{outer:List Env}{s:Shared}{H:Hp}{E:XK},ca k (A.deeper (envOfC qual (ao st) s.heap.objs.size f cdv)) ->
   Ess (iN CX0 P w K mg base N qual (ao st) f cdv A outer s H E).nox (cG st) b) (hn:ps.length=n:=by rfl) (hm:N.length=m:=by rfl) (hk:k + 1=k1:=by rfl) (hg:g=dy n m b:=by rfl):a9 P w K mg base CX0 k1 f fd ps (spD n g) :=
 fnG Fn S hn hm hk hg fun _ _ _ _ _ _ hr=>FU hr
theorem scO{N ps:List Str}{sc:Scope}(h1:sc.kind=.function:=by rfl)(h2:sc.isCoroutine=false:=by rfl)(h3:sc.isGenerator=false:=by rfl)(h4:N.Nodup:=by decide +kernel)(h5:N.take ps.length=ps:=by rfl)(h6:∀x ∈ ps,sc.names.lookup x=some .local\/sc.names.lookup x=some .cell:=by decide +kernel)
  (h7:∀y ∈ sc.names,y.2 ≠ .free:=by decide +kernel):aS N ps sc:=⟨h1,h2,h3,h4,h5,h6,h7⟩
theorem gC{K:PySem.W.Frag}{mg:Str->Option Value}{x:Str}{f:Addr}{fd:FuncData}{ps:List Str}{q:Str}{st:Stmt}(F:Fun K x q st f fd)(m:mg x=some (.ref f)) (h:∀(kV doc pm:Value) (an:Option Addr) (cdv ct:Value) (us:List Value),us.length=ps.length->bindArgs (PySem.W.fnOf x q (il st) (cG st) (ao st) .none kV doc pm an cdv ct) ⟨us,[]⟩=pure (ps.zip us):=by
  intro _ _ _ _ _ _ us hl;first | (obtain⟨u0,rfl⟩:=ul1 hl;rfl) | (obtain⟨u0,u1,rfl⟩:=ul2 hl;rfl) | (obtain⟨u0,u1,u2,rfl⟩:=ul3 hl;rfl) | (match us,hl with | [u0,u1,u2,u3],_=>rfl) | (match us,hl with | [u0,u1,u2,u3,u4],_=>rfl) | (match us,hl with | [u0,u1,u2,u3,u4,u5],_=>rfl)):Cal K mg x f fd ps:=⟨m,F.kp,F.binds h⟩
end L2.Cu
namespace L2.Cu.Wk
open PySem PySem.Spec PyProof.Rows
abbrev k9:Stmt:=eY 22
abbrev gA:List Str:=["_law_cell_here"]
theorem pw:aS gA (gA.take 1) (ao k9):=scO
abbrev nn:Stmt:=eY 23
abbrev iu:List Str:=["_law_script","_law_k"]
theorem rT:aS iu (iu.take 2) (ao nn):=scO
abbrev eJ:Stmt:=eY 24
abbrev cV:List Str:=["_law_cell_here","_law_many","_law_most","_law_letters","_law_way","_law_size","_law_at","_law_stem","_law_k"]
theorem a_:aS cV (cV.take 3) (ao eJ):=scO
abbrev jF:Stmt:=eY 25
abbrev fZ:List Str:=["_law_cells","_law_names","_law_words","_law_play_here","_law_ahead","_law_cell_here","_law_free","_law_some","_law_name","_law_row","_law_k"]
theorem aX:aS fZ (fZ.take 3) (ao jF):=scO
abbrev nq:Stmt:=eY 27
abbrev iw:List Str:=["_law_cell_here","_law_names","_law_more","_law_found","_law_way","_law_k"]
theorem dE:aS iw (iw.take 3) (ao nq):=scO
abbrev e_:Stmt:=eY 14
abbrev cH:List Str:=["thing","most","sign"]
theorem gF:aS cH (cH.take 2) (ao e_):=scO
abbrev k8:Stmt:=eY 15
abbrev gz:List Str:=["thing"]
theorem pt:aS gz (gz.take 1) (ao k8):=scO
abbrev dw:Stmt:=eY 17
abbrev bJ:List Str:=["thing","role","name"]
theorem bN:aS bJ (bJ.take 1) (ao dw):=scO
abbrev iW:Stmt:=eY 18
abbrev em:List Str:=["cast","role"]
theorem l7:aS em (em.take 2) (ao iW):=scO
abbrev iB:Stmt:=eY 19
abbrev eT:List Str:=["players","players_ahead","name"]
theorem jD:aS eT (eT.take 2) (ao iB):=scO
abbrev ge:Stmt:=eY 20
abbrev cU:List Str:=["play","cast","speeches","players_ahead","place","speech","players","met","role"]
theorem aL:aS cU (cU.take 2) (ao ge):=scO
abbrev k_:Stmt:=eY 29
abbrev gB:List Str:=["_law_play_here","_law_cast_here","_law_found","_law_refused","e","_law_kinds"]
theorem bT:aS gB (gB.take 2) (ao k_):=scO
abbrev qA:Stmt:=eY 28
abbrev jy:List Str:=["_law_play_here","_law_cast_here","_law_found","_law_ahead","_law_at","_law_players","_law_met","_law_name","_law_player"]
theorem cC:aS jy (jy.take 2) (ao qA):=scO
abbrev jE:Stmt:=eY 26
abbrev fY:List Str:=["_law_found","_law_due_here","_law_k"]
theorem iA:aS fY (fY.take 2) (ao jE):=scO
abbrev iX:Stmt:=eY 30
abbrev eA:List Str:=["_law_play_here","_law_thing","_law_kinds","e"]
theorem cB:aS eA (eA.take 2) (ao iX):=scO
abbrev uk:Stmt:=eY 31
abbrev o_:List Str:=["_law_script","_law_cell_here","_law_names","_law_words","_law_play_here","_law_more","_law_cast_here","_law_kept","_law_found","_law_refused","_law_due_here","_law_met","_law_odd","_law_some","_law_name"]
theorem b9:aS o_ (o_.take 1) (ao uk):=scO
abbrev TX(K:PySem.W.Frag)(mg:Str->Option Value):=TT PySem.Challenge.pw_cuebook_k61_roles_doubled ds zs cs moK moB K mg
section
variable {K:PySem.W.Frag}{mg:Str->Option Value} (T:TX K mg)
abbrev TX.f__Lmixed:=T.f 22
abbrev TX.fd__Lmixed:=T.fd 22
theorem TX.F__Lmixed:Fun K "_law_mixed" "_law_mixed" k9 T.f__Lmixed T.fd__Lmixed:=T.F 22 (by decide)
theorem TX.c__Lmixed:Cal K mg "_law_mixed" T.f__Lmixed T.fd__Lmixed (gA.take 1):=gC T.F__Lmixed (T.m 22 (by decide))
abbrev TX.f__Lcell:=T.f 23
abbrev TX.fd__Lcell:=T.fd 23
theorem TX.F__Lcell:Fun K "_law_cell" "_law_cell" nn T.f__Lcell T.fd__Lcell:=T.F 23 (by decide)
theorem TX.c__Lcell:Cal K mg "_law_cell" T.f__Lcell T.fd__Lcell (iu.take 2):=gC T.F__Lcell (T.m 23 (by decide))
abbrev TX.f__Ltexts:=T.f 24
abbrev TX.fd__Ltexts:=T.fd 24
theorem TX.F__Ltexts:Fun K "_law_texts" "_law_texts" eJ T.f__Ltexts T.fd__Ltexts:=T.F 24 (by decide)
theorem TX.c__Ltexts:Cal K mg "_law_texts" T.f__Ltexts T.fd__Ltexts (cV.take 3):=gC T.F__Ltexts (T.m 24 (by decide))
abbrev TX.f__Lplay:=T.f 25
abbrev TX.fd__Lplay:=T.fd 25
theorem TX.F__Lplay:Fun K "_law_play" "_law_play" jF T.f__Lplay T.fd__Lplay:=T.F 25 (by decide)
theorem TX.c__Lplay:Cal K mg "_law_play" T.f__Lplay T.fd__Lplay (fZ.take 3):=gC T.F__Lplay (T.m 25 (by decide))
abbrev TX.f__Lcast:=T.f 27
abbrev TX.fd__Lcast:=T.fd 27
theorem TX.F__Lcast:Fun K "_law_cast" "_law_cast" nq T.f__Lcast T.fd__Lcast:=T.F 27 (by decide)
theorem TX.c__Lcast:Cal K mg "_law_cast" T.f__Lcast T.fd__Lcast (iw.take 3):=gC T.F__Lcast (T.m 27 (by decide))
abbrev TX.f_is_letters:=T.f 14
abbrev TX.fd_is_letters:=T.fd 14
theorem TX.F_is_letters:Fun K "is_letters" "is_letters" e_ T.f_is_letters T.fd_is_letters:=T.F 14 (by decide)
theorem TX.c_is_letters:Cal K mg "is_letters" T.f_is_letters T.fd_is_letters (cH.take 2):=gC T.F_is_letters (T.m 14 (by decide))
abbrev TX.f_is_name:=T.f 15
abbrev TX.fd_is_name:=T.fd 15
theorem TX.F_is_name:Fun K "is_name" "is_name" k8 T.f_is_name T.fd_is_name:=T.F 15 (by decide)
theorem TX.c_is_name:Cal K mg "is_name" T.f_is_name T.fd_is_name (gz.take 1):=gC T.F_is_name (T.m 15 (by decide))
abbrev TX.f_check_cast:=T.f 17
abbrev TX.fd_check_cast:=T.fd 17
theorem TX.F_check_cast:Fun K "check_cast" "check_cast" dw T.f_check_cast T.fd_check_cast:=T.F 17 (by decide)
theorem TX.c_check_cast:Cal K mg "check_cast" T.f_check_cast T.fd_check_cast (bJ.take 1):=gC T.F_check_cast (T.m 17 (by decide))
abbrev TX.f_player_of:=T.f 18
abbrev TX.fd_player_of:=T.fd 18
theorem TX.F_player_of:Fun K "player_of" "player_of" iW T.f_player_of T.fd_player_of:=T.F 18 (by decide)
theorem TX.c_player_of:Cal K mg "player_of" T.f_player_of T.fd_player_of (em.take 2):=gC T.F_player_of (T.m 18 (by decide))
abbrev TX.f_meeting:=T.f 19
abbrev TX.fd_meeting:=T.fd 19
theorem TX.F_meeting:Fun K "meeting" "meeting" iB T.f_meeting T.fd_meeting:=T.F 19 (by decide)
theorem TX.c_meeting:Cal K mg "meeting" T.f_meeting T.fd_meeting (eT.take 2):=gC T.F_meeting (T.m 19 (by decide))
abbrev TX.f_doubled:=T.f 20
abbrev TX.fd_doubled:=T.fd 20
theorem TX.F_doubled:Fun K "doubled" "doubled" ge T.f_doubled T.fd_doubled:=T.F 20 (by decide)
theorem TX.c_doubled:Cal K mg "doubled" T.f_doubled T.fd_doubled (cU.take 2):=gC T.F_doubled (T.m 20 (by decide))
abbrev TX.f__Lasked:=T.f 29
abbrev TX.fd__Lasked:=T.fd 29
theorem TX.F__Lasked:Fun K "_law_asked" "_law_asked" k_ T.f__Lasked T.fd__Lasked:=T.F 29 (by decide)
theorem TX.c__Lasked:Cal K mg "_law_asked" T.f__Lasked T.fd__Lasked (gB.take 2):=gC T.F__Lasked (T.m 29 (by decide))
abbrev TX.f__Ldue:=T.f 28
abbrev TX.fd__Ldue:=T.fd 28
theorem TX.F__Ldue:Fun K "_law_due" "_law_due" qA T.f__Ldue T.fd__Ldue:=T.F 28 (by decide)
theorem TX.c__Ldue:Cal K mg "_law_due" T.f__Ldue T.fd__Ldue (jy.take 2):=gC T.F__Ldue (T.m 28 (by decide))
abbrev TX.f__Lsame:=T.f 26
abbrev TX.fd__Lsame:=T.fd 26
theorem TX.F__Lsame:Fun K "_law_same" "_law_same" jE T.f__Lsame T.fd__Lsame:=T.F 26 (by decide)
theorem TX.c__Lsame:Cal K mg "_law_same" T.f__Lsame T.fd__Lsame (fY.take 2):=gC T.F__Lsame (T.m 26 (by decide))
abbrev TX.f__Lno_cast:=T.f 30
abbrev TX.fd__Lno_cast:=T.fd 30
theorem TX.F__Lno_cast:Fun K "_law_no_cast" "_law_no_cast" iX T.f__Lno_cast T.fd__Lno_cast:=T.F 30 (by decide)
theorem TX.c__Lno_cast:Cal K mg "_law_no_cast" T.f__Lno_cast T.fd__Lno_cast (eA.take 2):=gC T.F__Lno_cast (T.m 30 (by decide))
abbrev TX.f_law:=T.f 31
abbrev TX.fd_law:=T.fd 31
theorem TX.F_law:Fun K "law" "law" uk T.f_law T.fd_law:=T.F 31 (by decide)
theorem TX.c_law:Cal K mg "law" T.f_law T.fd_law (o_.take 1):=gC T.F_law (T.m 31 (by decide))
theorem TX.m_NAME_LETTERS:mg "NAME_LETTERS" = some (.int 8 (T.t "NAME_LETTERS")):=T.c ("NAME_LETTERS",8) (.head _)
theorem TX.n_ValueError(T:TX K mg):mg "ValueError" = none:=T.z _ (by decide)
theorem TX.n_all(T:TX K mg):mg "all" = none:=T.z _ (by decide)
theorem TX.n_bool(T:TX K mg):mg "bool" = none:=T.z _ (by decide)
theorem TX.n_dict(T:TX K mg):mg "dict" = none:=T.z _ (by decide)
theorem TX.n_enumerate(T:TX K mg):mg "enumerate" = none:=T.z _ (by decide)
theorem TX.n_int(T:TX K mg):mg "int" = none:=T.z _ (by decide)
theorem TX.n_isinstance(T:TX K mg):mg "isinstance" = none:=T.z _ (by decide)
theorem TX.n_len(T:TX K mg):mg "len" = none:=T.z _ (by decide)
theorem TX.n_list(T:TX K mg):mg "list" = none:=T.z _ (by decide)
theorem TX.n_min(T:TX K mg):mg "min" = none:=T.z _ (by decide)
theorem TX.n_range(T:TX K mg):mg "range" = none:=T.z _ (by decide)
theorem TX.n_sorted(T:TX K mg):mg "sorted" = none:=T.z _ (by decide)
theorem TX.n_str(T:TX K mg):mg "str" = none:=T.z _ (by decide)
theorem TX.n_tuple(T:TX K mg):mg "tuple" = none:=T.z _ (by decide)
end
section
variable {P:Program}{w:World}{K:PySem.W.Frag}{mg:Str->Option Value}{base:Heap}
theorem TX.kd0(T:TX K mg):yX K mg "Meets" "place" "Meets.__init__" (my (eY 7) 0) kA kB "Unknown" "CueError" := vq (Dh T.o).1 T.g
theorem TX.ng(T:TX K mg):PySem.W.findIn K (.ref (aR K "Meets")) "name" = some none:=(Dh (Dh T.o).2).1
theorem TX.kd1(T:TX K mg):wq K mg "NoCast" kA0 kB "Unknown" "CueError" := sL (Dh (Dh T.o).2).2 T.g
abbrev clN(K:PySem.W.Frag):Nat->Addr:=fun n=>match n with
 | 0=>aR K "Meets"
 |_=>aR K "NoCast"
theorem ug:aS ["self","place","name"] ["self","place","name"] (ao (my (eY 7) 0)):=scO
theorem TX.init0(T:TX K mg):∃fd,a9 P w K mg base CX0 1 (jZ K (aR K "Meets")) fd ["self","place","name"] (ua (aR K "Meets") ["place","name"])/\eW K fd ["self","place","name"] []:=by
 obtain⟨fd,F⟩:=T.kd0.fn
 obtain⟨cd,xc⟩:=T.kd0.er.xc
 exact⟨fd,uU F ug xc T.kd0.er.nf T.ng (by decide) rfl (Or.inl rfl) (Or.inl rfl) (Or.inl rfl) (by decide) (by decide) (by decide) (by decide) (fun _=>rfl) (fun _=>rfl),F.binds fun _ _ _ _ _ _ us hl=>by obtain⟨u0,u1,u2,rfl⟩:=ul3 hl;rfl⟩
end
section
variable {P:Program}{w:World}{K:PySem.W.Frag}{mg:Str->Option Value}{base:Heap}
def iQ:DE->Option Out :=
 (ba (bin aO (bin sB (ac 0) (cst (.int 271828182845904523536028747135266249775724709369995957496697))) (bin ja (cst (.int 10)) (cst (.int 60)))))
def dG:List D->Option D:=dy 1 1 iQ
theorem jN(T:TX K mg):a9 P w K mg base CX0 2 T.f__Lmixed T.fd__Lmixed (gA.take 1) (spD 1 dG) :=
 fnA 1 iQ T.F__Lmixed pw fun hr =>
   (av (bg (bf (Ev.obs (q8 (ap 0) (Ev.obs am))) (Ev.obs (pX (Ev.obs am) (Ev.obs am))))))
def kC:DE->Option Out :=
 (ar (ifS (tst (bin ltD (ac 1) (un bK (ac 0))))
 (ba (ax 1 dG (aa (bin ixE (ac 0) (ac 1)) ak)))
 bh)
 (ba (cst (.int 0))))
def c9:List D->Option D:=dy 2 2 kC
theorem ll(T:TX K mg):a9 P w K mg base CX0 3 T.f__Lcell T.fd__Lcell (iu.take 2) (spD 2 c9) :=
 fnA 2 kC T.F__Lcell rT fun hr =>
   (ai (cr (BN  (ap 1) (Ev.obs (bI rfl T.n_len (ap 0))))
   (av (bg (aT (jN T) T.c__Lmixed hr (ae (aV hr.units (ap 0) (ap 1) (fun _ _=>rfl)) aq))))
   bq)
   (av (bg am)))
def iP:DE->Option Out :=
 (ar (aA 3 (cst (.str "abcdefghijklmnopqrstuvwxyz")))
 (ar (aA 4 (bin aO (ac 0) (cst (.int 3))))
 (ar (aA 5 (bin aO (bin aN (ac 0) (cst (.int 3))) (ac 2)))
 (ar (aA 6 (bin aO (bin aN (ac 0) (cst (.int 40))) (bin cz (ac 5) (cst (.int 1)))))
 (ar (aA 0 (bin aN (ac 0) (cst (.int 600))))
 (ar (aA 7 (cst (.str "")))
 (ar (c_ (fD (aa (var 2) ak)) (nmG 8)
 (ar (aA 7 (bin cz (ac 7) (bin ixE (ac 3) (bin aO (ac 0) (cst (.int 26))))))
 (aA 0 (bin aN (ac 0) (cst (.int 26))))))
 (ar (ifS (tst (bin eqO (ac 4) (cst (.int 0))))
 (ba (bn [8] (fD (aa (var 1) ak)) (nmG 8) noT (cA (ac 7) noP (di (bin cz (cst (.int 1)) (ac 8))))))
 bh)
 (ar (ifS (tst (bin eqO (ac 4) (cst (.int 1))))
 (ba (bn [8] (fD (aa (var 1) ak)) (nmG 8) noT (bin cz (bin cz (cA (ac 7) noP (di (var 6))) (bin ixE (ac 3) (bin aO (bin cz (ac 0) (ac 8)) (cst (.int 26))))) (cA (ac 7) (di (var 6)) (di (var 5))))))
 bh)
 (ba (bn [8] (fD (aa (var 1) ak)) (nmG 8) noT (bin sB (bin ixE (ac 3) (bin aO (bin cz (ac 0) (ac 8)) (cst (.int 26)))) (bin cz (cst (.int 1)) (ac 5))))))))))))))
def cR:List D->Option D:=dy 3 9 iP
theorem jM(T:TX K mg):a9 P w K mg base CX0 2 T.f__Ltexts T.fd__Ltexts (cV.take 3) (spD 3 cR) :=
 fnA 1 iP T.F__Ltexts a_ fun hr =>
   (ai (dX (i:=3) a_.nd rfl (Or.inr rfl) bH)
   (ai (aE 4 a_.nd (bf (ap 0) (Ev.obs am)))
   (ai (dX (i:=5) a_.nd rfl (Or.inr rfl) (bf (Ev.obs (bA (ap 0) (Ev.obs am))) (ap 2)))
   (ai (dX (i:=6) a_.nd rfl (Or.inr rfl) (bf (Ev.obs (bA (ap 0) (Ev.obs am))) (Ev.obs (ck (ap 5) (Ev.obs am)))))
   (ai (dX (i:=0) a_.nd rfl (Or.inr rfl) (bA (ap 0) (Ev.obs am)))
   (ai (dX (i:=7) a_.nd rfl (Or.inr rfl) bH)
   (ai (fU DX rfl (cv rfl T.n_range (ae (aK 2) aq)) (aB 8 a_.nd)
   (ai (dX (i:=7) a_.nd rfl (Or.inr rfl) (ck (ap 7) (Ev.obs (aV hr.units (ap 3) (Ev.obs (bf (ap 0) (Ev.obs am))) (fun _ _=>rfl)))))
   (av (dX (i:=0) a_.nd rfl (Or.inr rfl) (bA (ap 0) (Ev.obs am))))))
   (ai (cr (oH hr.units (ap 4) (Ev.obs am))
   (av (bg (Ev.frz (dA (js:=[8]) (Blk.of (sc:=ao eJ) (N:=cV) (by decide +kernel) rfl rfl) rfl (cv rfl T.n_range (ae (aK 1) aq)) bO (fun _ _ _ _=>(aB 8 a_.nd)) (fun _ _ _ _=>cF) (fun _ _ _ _=>(fS (ap 7) mO (fw (ck (Ev.obs am) (ap 8)))))))))
   bq)
   (ai (cr (oH hr.units (ap 4) (Ev.obs am))
   (av (bg (Ev.frz (dA (js:=[8]) (Blk.of (sc:=ao eJ) (N:=cV) (by decide +kernel) rfl rfl) rfl (cv rfl T.n_range (ae (aK 1) aq)) bO (fun _ _ _ _=>(aB 8 a_.nd)) (fun _ _ _ _=>cF) (fun _ _ _ _=>(ck (Ev.obs (ck (Ev.obs (fS (ap 7) mO (fw (aK 6)))) (Ev.obs (aV hr.units (ap 3) (Ev.obs (bf (Ev.obs (ck (ap 0) (ap 8))) (Ev.obs am))) (fun _ _=>rfl))))) (Ev.obs (fS (ap 7) (fw (aK 6)) (fw (aK 5))))))))))
   bq)
   (av (bg (Ev.frz (dA (js:=[8]) (Blk.of (sc:=ao eJ) (N:=cV) (by decide +kernel) rfl rfl) rfl (cv rfl T.n_range (ae (aK 1) aq)) bO (fun _ _ _ _=>(aB 8 a_.nd)) (fun _ _ _ _=>cF) (fun _ _ _ _=>(q8 (Ev.obs (aV hr.units (ap 3) (Ev.obs (bf (Ev.obs (ck (ap 0) (ap 8))) (Ev.obs am))) (fun _ _=>rfl))) (Ev.obs (ck (Ev.obs am) (ap 5))))))))))))))))))
def kz:DE->Option Out :=
 (ar (dz 3 (bp ak))
 (ar (aA 4 (bG ak))
 (ar (c_ (cc b_ (var 0)) (nmG 5)
 (ar (aA 5 (ax 1 dG (aa (var 5) ak)))
 (ar (aA 6 (bn [8] (cc b_ (var 1)) (nmG 8) (tst (bin jP (ac 8) (ac 4))) (var 8)))
 (ar (dz 7 (bp ak))
 (ar (c_ (cc b_ (var 6)) (nmG 8)
 (ar (ifS (tst (bin eqO (bin aO (ac 5) (cst (.int 3))) (cst (.int 0))))
 (dg 7 (var 8))
 bh)
 (aA 5 (bin aN (ac 5) (cst (.int 3))))))
 (ar (ifS (orT (tst (bin eqO (ac 7) (bp ak))) (tst (bin eqO (un bK (ac 7)) (un bK (ac 1)))))
 (dz 7 (bp (aa (bin ixE (ac 6) (bin aO (ac 5) (un bK (ac 6)))) ak)))
 bh)
 (ar (aA 5 (bin aN (ac 5) (cst (.int 5))))
 (ar (dz 9 (bp ak))
 (ar (c_ (fD (aa (bin cz (cst (.int 1)) (bin aO (ac 5) (cst (.int 5)))) ak)) (nmG 10)
 (ar (aA 5 (bin aN (ac 5) (cst (.int 7))))
 (dg 9 (bin ixE (ac 2) (bin aO (ac 5) (un bK (ac 2)))))))
 (ar (aA 4 (un bt (un cJ (ac 7))))
 (dg 3 (bG (aa (var 4) (aa (un bt (ac 9)) ak))))))))))))))
 (ba (un bt (ac 3))))))
def fO:List D->Option D:=dy 3 11 kz
theorem sr(T:TX K mg):a9 P w K mg base CX0 3 T.f__Lplay T.fd__Lplay (fZ.take 3) (spD 3 fO) :=
 fnA 2 kz T.F__Lplay aX fun hr =>
   (ai (cY 3 aX.nd (bv aq))
   (ai (dX (i:=4) aX.nd rfl (Or.inr rfl) (cS aq))
   (ai (fU DX rfl (eh (aK 0)) (aB 5 aX.nd)
   (ai (aE 5 aX.nd (aT (jN T) T.c__Lmixed hr (ae (aK 5) aq)))
   (ai (ke (i:=6) aX.nd rfl (Or.inl rfl) (js:=[8]) (Blk.of (sc:=ao jF) (N:=fZ) (by decide +kernel) rfl rfl) rfl (eh (aK 1)) bO (fun _ _ _ _=>(aB 8 aX.nd)) (fun _ _ _ _=>(ki (re hr.units (ap 8) (ap 4) rfl))) (fun _ _ _ _=>(aK 8)) rfl)
   (ai (cY 7 aX.nd (bv aq))
   (ai (fU DX rfl (eh (aK 6)) (aB 8 aX.nd)
   (ai (cr (oH hr.units (Ev.obs (bf (ap 5) (Ev.obs am))) (Ev.obs am))
   (av (cu (i:=7) (pv 7) (aK 8)))
   bq)
   (av (aE 5 aX.nd (bA (ap 5) (Ev.obs am))))))
   (ai (cr (Ew.et (ie (oH hr.units (ap 7) (Ev.obs (bv aq))) (fu (oH hr.units (Ev.obs (bI rfl T.n_len (ap 7))) (Ev.obs (bI rfl T.n_len (ap 1)))))))
   (av (cY 7 aX.nd (bv (ae (aV hr.units (ap 6) (Ev.obs (bf (ap 5) (Ev.obs (bI rfl T.n_len (ap 6))))) (fun _ _=>rfl)) aq))))
   bq)
   (ai (aE 5 aX.nd (bA (ap 5) (Ev.obs am)))
   (ai (cY 9 aX.nd (bv aq))
   (ai (fU DX rfl (cv rfl T.n_range (ae (ck (Ev.obs am) (Ev.obs (bf (ap 5) (Ev.obs am)))) aq)) (aB 10 aX.nd)
   (ai (aE 5 aX.nd (bA (ap 5) (Ev.obs am)))
   (av (cu (i:=9) (pv 9) (aV hr.units (ap 2) (Ev.obs (bf (ap 5) (Ev.obs (bI rfl T.n_len (ap 2))))) (fun _ _=>rfl))))))
   (ai (dX (i:=4) aX.nd rfl (Or.inr rfl) (dc rfl T.n_tuple rfl (Ev.obs (ig rfl rfl T.n_sorted rfl (ap 7)))))
   (av (cu (i:=3) (pv 3) (cS (ae (aK 4) (ae (dc rfl T.n_tuple rfl (ap 9)) aq)))))))))))))))
   (av (bg (dc rfl T.n_tuple rfl (ap 3)))))))
def io:DE->Option Out :=
 (ar (dz 3 yg)
 (ar (aA 4 (bin aO (ac 0) (cst (.int 3))))
 (ar (aA 0 (bin aN (ac 0) (cst (.int 3))))
 (ar (c_ (fD (aa (un bK (ac 1)) ak)) (nmG 5)
 (ar (ifS (tst (bin eqE (ac 4) (cst (.int 0))))
 (fG 3 (bin ixE (ac 1) (ac 5)) (bin ixE (ac 1) (bin aO (bin cz (ac 5) (cst (.int 1))) (un bK (ac 1)))))
 (ifS (tst (bin eqE (bin aO (ac 0) (cst (.int 5))) (cst (.int 1))))
 (fG 3 (bin ixE (ac 1) (ac 5)) (bin ixE (ac 1) (ac 5)))
 (ifS (orT (tst (bin eqE (bin aO (ac 0) (cst (.int 5))) (cst (.int 2)))) (kD (tst (bin eqE (ac 4) (cst (.int 1)))) (tst (bin gtD (bin aO (ac 0) (cst (.int 5))) (cst (.int 0))))))
 (fG 3 (bin ixE (ac 1) (ac 5)) (bin ixE (ac 2) (bin aO (ac 5) (cst (.int 2)))))
 (ifS (tst (bin eqE (bin aO (ac 0) (cst (.int 5))) (cst (.int 3))))
 (fG 3 (bin ixE (ac 1) (ac 5)) (bin ixE (ac 1) (bin aO (bin aN (ac 0) (cst (.int 5))) (un bK (ac 1)))))
 bh))))
 (aA 0 (bin aN (ac 0) (cst (.int 100))))))
 (ar (ifS (tst (bin eqE (bin aO (ac 0) (cst (.int 2))) (cst (.int 1))))
 (fG 3 (bin ixE (ac 2) (cst (.int 0))) (bin ixE (ac 1) (cst (.int 0))))
 bh)
 (fun E=>(ba (var 3)) (fzE 3 E)))))))
def h_:List D->Option D:=dy 3 6 io
theorem su(T:TX K mg):a9 P w K mg base CX0 2 T.f__Lcast T.fd__Lcast (iw.take 3) (spD 3 h_) :=
 fnA 1 io T.F__Lcast dE fun hr =>
   (ai (cY 3 dE.nd xX)
   (ai (aE 4 dE.nd (bf (ap 0) (Ev.obs am)))
   (ai (aE 0 dE.nd (bA (ap 0) (Ev.obs am)))
   (ai (fU DX rfl (cv rfl T.n_range (ae (bI rfl T.n_len (ap 1)) aq)) (aB 5 dE.nd)
   (ai (cr (iK hr.units (ap 4) (Ev.obs am))
   (av (eQ hr.units (i:=3) (pv 3) (aV hr.units (ap 1) (ap 5) (fun _ _=>rfl)) (aV hr.units (ap 1) (Ev.obs (bf (Ev.obs (ck (ap 5) (Ev.obs am))) (Ev.obs (bI rfl T.n_len (ap 1))))) (fun _ _=>rfl))))
   (av (cr (iK hr.units (Ev.obs (bf (ap 0) (Ev.obs am))) (Ev.obs am))
   (av (eQ hr.units (i:=3) (pv 3) (aV hr.units (ap 1) (ap 5) (fun _ _=>rfl)) (aV hr.units (ap 1) (ap 5) (fun _ _=>rfl))))
   (av (cr (Ew.et (ie (iK hr.units (Ev.obs (bf (ap 0) (Ev.obs am))) (Ev.obs am)) (fu (Ew.et (pW (iK hr.units (ap 4) (Ev.obs am)) (mE (rg  (Ev.obs (bf (ap 0) (Ev.obs am))) (Ev.obs am))))))))
   (av (eQ hr.units (i:=3) (pv 3) (aV hr.units (ap 1) (ap 5) (fun _ _=>rfl)) (aV hr.units (ap 2) (Ev.obs (bf (ap 5) (Ev.obs am))) (fun _ _=>rfl))))
   (av (cr (iK hr.units (Ev.obs (bf (ap 0) (Ev.obs am))) (Ev.obs am))
   (av (eQ hr.units (i:=3) (pv 3) (aV hr.units (ap 1) (ap 5) (fun _ _=>rfl)) (aV hr.units (ap 1) (Ev.obs (bf (Ev.obs (bA (ap 0) (Ev.obs am))) (Ev.obs (bI rfl T.n_len (ap 1))))) (fun _ _=>rfl))))
   bq)))))))
   (av (aE 0 dE.nd (bA (ap 0) (Ev.obs am))))))
   (ai (cr (iK hr.units (Ev.obs (bf (ap 0) (Ev.obs am))) (Ev.obs am))
   (av (eQ hr.units (i:=3) (pv 3) (aV hr.units (ap 2) (Ev.obs am) (fun _ _=>rfl)) (aV hr.units (ap 1) (Ev.obs am) (fun _ _=>rfl))))
   bq)
   (av (vQ 3 (bg (aK 3)))))))))
def dC:DE->Option Out :=
 (ba (gX (isF "str" (ac 0)) (gX (fV leD leD (cst (.int 1)) (un bK (ac 0)) (ac 1)) (un gY (bn [2] (cc b_ (var 0)) (nmG 2) noT (fV leD leD (cst (.str "a")) (ac 2) (cst (.str "z"))))))))
def bX:List D->Option D:=dy 2 3 dC
theorem kH(T:TX K mg):a9 P w K mg base CX0 2 T.f_is_letters T.fd_is_letters (cH.take 2) (spD 2 bX) :=
 fnA 1 dC T.F_is_letters gF fun hr =>
   (av (bg (gT (bZ (T := "str") rfl rfl T.n_isinstance rfl rfl T.n_str rfl (ap 0)) (gT (q_ (Ev.obs am) (Ev.obs (bI rfl T.n_len (ap 0))) (ap 1)) (iH (mL rfl rfl T.n_all rfl (Ev.obs (dA (js:=[2]) (Blk.of (sc:=ao e_) (N:=cH) (by decide +kernel) rfl rfl) rfl (eh (aK 0)) bO (fun _ _ _ _=>(aB 2 gF.nd)) (fun _ _ _ _=>cF) (fun _ _ _ _=>(q_ (Ev.obs bH) (ap 2) (Ev.obs bH)))))))))))
def gy:DE->Option Out :=
 (ba (ax 2 bX (aa (var 0) (aa (cst (.int 8)) ak))))
def bz:List D->Option D:=dy 1 1 gy
theorem fg(T:TX K mg):a9 P w K mg base CX0 3 T.f_is_name T.fd_is_name (gz.take 1) (spD 1 bz) :=
 fnA 2 gy T.F_is_name pt fun hr =>
   (av (bg (aT (kH T) T.c_is_letters hr (ae (aK 0) (ae (xW (v:=.int 8) rfl T.m_NAME_LETTERS ⟨_,rfl⟩ fun _=>.int _) aq)))))
def im:DE->Option Out :=
 (ifS (orT (fF (tst (isF "dict" (ac 0)))) (fF (tst (un gY (bn [1,2] (cc ft (var 0)) (eE 2 (a8 (nmG 1) (a8 (nmG 2) eK))) noT (gX (ax 1 bz (aa (var 1) ak)) (ax 1 bz (aa (var 2) ak))))))))
 noS
 bh)
def aG:List D->Option D:=dy 1 3 im
theorem gG(T:TX K mg):a9 P w K mg base CX0 4 T.f_check_cast T.fd_check_cast (bJ.take 1) (spD 1 aG) :=
 fnA 3 im T.F_check_cast bN fun hr =>
   (av (cr (Ew.et (ie (iI (fT (bZ (T := "dict") rfl rfl T.n_isinstance rfl rfl T.n_dict rfl (ap 0)))) (fu (iI (fT (mL rfl rfl T.n_all rfl (Ev.obs (dA (js:=[1,2]) (Blk.of (sc:=ao dw) (N:=bJ) (by decide +kernel) rfl rfl) rfl (lK (aK 0)) (g7.js (nH (gm (jk (by decide)) (gm (jk (by decide)) nI)))) (fun _ _ _ _=>(iM rfl (bL (aB 1 bN.nd) (bL (aB 2 bN.nd) gu)))) (fun _ _ _ _=>cF) (fun _ _ _ _=>(gT (aT (fg T) T.c_is_name hr (ae (aK 1) aq)) (iH (aT (fg T) T.c_is_name hr (ae (aK 2) aq)))))))))))))
   (av oK)
   bq))
def kN:DE->Option bC :=
 (ifX (orT (fF (tst (isF "dict" (ac 0)))) (fF (tst (un gY (bn [1,2] (cc ft (var 0)) (eE 2 (a8 (nmG 1) (a8 (nmG 2) eK))) noT (gX (ax 1 bz (aa (var 1) ak)) (ax 1 bz (aa (var 2) ak))))))))
 (jj 1)
 (okX bh))
def bd:List D->Option (Option (Nat×List (Str×D))):=qB 1 3 kN
theorem jJ(T:TX K mg):a9 P w K mg base (CX1 P w) 4 T.f_check_cast T.fd_check_cast (bJ.take 1) (pk (clN K) 1 bd):=by
 exact BI (k:=3) T.F_check_cast bN fun cdv A outer s H E hr =>
   (dW (vP (Ew.et (ie (iI (fT (bZ (T := "dict") rfl rfl T.n_isinstance rfl rfl T.n_dict rfl (ap 0)))) (fu (iI (fT (mL rfl rfl T.n_all rfl (Ev.obs (dA (js:=[1,2]) (Blk.of (sc:=ao dw) (N:=bJ) (by decide +kernel) rfl rfl) rfl (lK (aK 0)) (g7.js (nH (gm (jk (by decide)) (gm (jk (by decide)) nI)))) (fun _ _ _ _=>(iM rfl (bL (aB 1 bN.nd) (bL (aB 2 bN.nd) gu)))) (fun _ _ _ _=>cF) (fun _ _ _ _=>(gT (aT (fg T) T.c_is_name hr (ae (aK 1) aq)) (iH (aT (fg T) T.c_is_name hr (ae (aK 2) aq)))))))))))))
   (dW (p6 rfl T.kd1.er.q rfl rfl T.kd1.mx T.kd1.er.kp))
   (rh bq)))
def i9:DE->Option Out :=
 (ba (i7 (ac 0) (var 1) (var 1)))
def bV:List D->Option D:=dy 2 2 i9
theorem hU(T:TX K mg):a9 P w K mg base CX0 2 T.f_player_of T.fd_player_of (em.take 2) (spD 2 bV) :=
 fnA 1 i9 T.F_player_of l7 fun hr =>
   (av (bg (rc hr.units (ap 0) (aK 1) (aK 1))))
def iO:DE->Option Out :=
 (ba (bn [2] (cc b_ (var 0)) (nmG 2) (orT (tst (bin gtD (bin mQ (ac 0) (var 2)) (cst (.int 1)))) (tst (bin inE (ac 2) (ac 1)))) (var 2)))
def dF:List D->Option D:=dy 2 3 iO
theorem jK(T:TX K mg):a9 P w K mg base CX0 2 T.f_meeting T.fd_meeting (eT.take 2) (spD 2 dF) :=
 fnA 1 iO T.F_meeting jD fun hr =>
   (av (bg (Ev.frz (dA (js:=[2]) (Blk.of (sc:=ao iB) (N:=eT) (by decide +kernel) rfl rfl) rfl (eh (aK 0)) bO (fun _ _ _ _=>(aB 2 jD.nd)) (fun _ _ _ _=>(ki (Ew.et (ie (rg  (Ev.obs (sZ (ap 0) (aK 2))) (Ev.obs am)) (fu (p0 hr.units (ap 2) (ap 1) rfl)))))) (fun _ _ _ _=>(aK 2))))))
def cw:DE->Option Out :=
 (ar (lL (ax 1 aG (aa (var 1) ak)))
 (ar (dz 2 (bp ak))
 (ar (aA 3 (bp ak))
 (ar (c_ (gJ (aa (var 0) ak)) (eE 2 (a8 (nmG 4) (a8 (nmG 5) eK)))
 (ar (aA 6 (bn [8] (cc b_ (bin ixE (ac 5) (cst (.int 0)))) (nmG 8) noT (ax 2 bV (aa (var 1) (aa (var 8) ak)))))
 (ar (aA 7 (ax 2 dF (aa (var 6) (aa (var 3) ak))))
 (ar (ifS (tst (bin gtD (un bK (ac 7)) (cst (.int 0))))
 noS
 bh)
 (ar (dg 2 (bG (aa (un bt (un cJ (ac 6))) (aa (bin ixE (ac 5) (cst (.int 1))) ak))))
 (aA 3 (var 6)))))))
 (ba (un bt (ac 2)))))))
def br:List D->Option D:=dy 2 9 cw
theorem jL(T:TX K mg):a9 P w K mg base CX0 5 T.f_doubled T.fd_doubled (cU.take 2) (spD 2 br) :=
 fnA 4 cw T.F_doubled aL fun hr =>
   (ai (x_ (aT (gG T) T.c_check_cast hr (ae (aK 1) aq)))
   (ai (cY 2 aL.nd (bv aq))
   (ai (aE 3 aL.nd (Ev.frz (bv aq)))
   (ai (fU DX rfl (rn rfl T.n_enumerate (ae (aK 0) aq)) (iM rfl (bL (aB 4 aL.nd) (bL (aB 5 aL.nd) gu)))
   (ai (ke (i:=6) aL.nd rfl (Or.inl rfl) (js:=[8]) (Blk.of (sc:=ao ge) (N:=cU) (by decide +kernel) rfl rfl) rfl (eh (aV hr.units (ap 5) (Ev.obs am) (fun _ _=>rfl))) bO (fun _ _ _ _=>(aB 8 aL.nd)) (fun _ _ _ _=>cF) (fun _ _ _ _=>(aT (hU T) T.c_player_of hr (ae (aK 1) (ae (aK 8) aq)))) rfl)
   (ai (aE 7 aL.nd (aT (jK T) T.c_meeting hr (ae (aK 6) (ae (aK 3) aq))))
   (ai (cr (rg  (Ev.obs (bI rfl T.n_len (ap 7))) (Ev.obs am))
   (av oK)
   bq)
   (ai (cu (i:=2) (pv 2) (cS (ae (dc rfl T.n_tuple rfl (Ev.obs (ig rfl rfl T.n_sorted rfl (ap 6)))) (ae (aV hr.units (ap 5) (Ev.obs am) (fun _ _=>rfl)) aq))))
   (av (aE 3 aL.nd (aK 6))))))))
   (av (bg (dc rfl T.n_tuple rfl (ap 2))))))))
def dZ:DE->Option bC :=
 (d8 (km 1 (b4 aG bd) (aa (var 1) ak))
 (d8 (okX (dz 2 (bp ak)))
 (d8 (okX (aA 3 (bp ak)))
 (d8 (vF (gJ (aa (var 0) ak)) (eE 2 (a8 (nmG 4) (a8 (nmG 5) eK)))
 (d8 (okX (aA 6 (bn [8] (cc b_ (bin ixE (ac 5) (cst (.int 0)))) (nmG 8) noT (ax 2 bV (aa (var 1) (aa (var 8) ak))))))
 (d8 (okX (aA 7 (ax 2 dF (aa (var 6) (aa (var 3) ak)))))
 (d8 (ifX (tst (bin gtD (un bK (ac 7)) (cst (.int 0))))
 (d9 0 "place" "name" (var 4) (un gP (ac 7)))
 (okX bh))
 (d8 (okX (dg 2 (bG (aa (un bt (un cJ (ac 6))) (aa (bin ixE (ac 5) (cst (.int 1))) ak)))))
 (okX (aA 3 (var 6))))))))
 (okX (ba (un bt (ac 2))))))))
def bu:List D->Option (Option (Nat×List (Str×D))):=qB 2 9 dZ
theorem i4(T:TX K mg):a9 P w K mg base (CX1 P w) 5 T.f_doubled T.fd_doubled (cU.take 2) (pk (clN K) 2 bu):=by
 obtain⟨fdI0,oi0,bi0⟩:=T.init0 (P:=P) (w:=w) (base:=base)
 exact BI (k:=4) T.F_doubled aL fun cdv A outer s H E hr =>
   (cq (oJ (Bs (gG T) (jJ T)) (hr.mono (by decide)) rfl T.c_check_cast.m T.c_check_cast.kp T.c_check_cast.b (ae (aK 1) aq))
   (cq (gU (cY 2 aL.nd (bv aq)))
   (cq (gU (aE 3 aL.nd (Ev.frz (bv aq))))
   (cq (xY rfl rfl rfl (rn rfl T.n_enumerate (ae (aK 0) aq)) (iM rfl (bL (aB 4 aL.nd) (bL (aB 5 aL.nd) gu)))
   (cq (gU (ke (i:=6) aL.nd rfl (Or.inl rfl) (js:=[8]) (Blk.of (sc:=ao ge) (N:=cU) (by decide +kernel) rfl rfl) rfl (eh (aV hr.units (ap 5) (Ev.obs am) (fun _ _=>rfl))) bO (fun _ _ _ _=>(aB 8 aL.nd)) (fun _ _ _ _=>cF) (fun _ _ _ _=>(aT (hU T) T.c_player_of hr (ae (aK 1) (ae (aK 8) aq)))) rfl))
   (cq (gU (aE 7 aL.nd (aT (jK T) T.c_meeting hr (ae (aK 6) (ae (aK 3) aq)))))
   (cq (vP (rg  (Ev.obs (bI rfl T.n_len (ap 7))) (Ev.obs am))
   (dW (p5 rfl T.kd0.er.q oi0 bi0 T.kd0.er.fn (hr.mono (by decide)) rfl rfl T.kd0.mx T.kd0.er.kp (aK 4) (q9 rfl rfl T.n_min rfl (ap 7))))
   (rh bq))
   (cq (gU (cu (i:=2) (pv 2) (cS (ae (dc rfl T.n_tuple rfl (Ev.obs (ig rfl rfl T.n_sorted rfl (ap 6)))) (ae (aV hr.units (ap 5) (Ev.obs am) (fun _ _=>rfl)) aq)))))
   (dW (gU (aE 3 aL.nd (aK 6)))))))))
   (dW (gU (bg (dc rfl T.n_tuple rfl (ap 2)))))))))
section
variable {P:Program}{w:World}{K:PySem.W.Frag}{mg:Str->Option Value}{base:Heap}
def cQ(a:Addr)(fs:List (Str×D)):DE->Option Out:=ar (aA 5 (bp (aa (xF 4 a (.bl false)) (aa (xF 4 a (.bl false)) ak))))
 (ar (aA 5 (bin cz (ac 5) (bp (aa (xF 4 a (.bl false)) (aa (xF 4 a (.bl true)) (aa (xF 4 a (.bl true)) ak))))))
 (aA 3 (bG (aa (m4 4 a "place" fs) (aa (m4 4 a "name" fs) (aa (var 5) ak))))))
def dI:DE->Option Out:=ar (aA 2 (cst .non)) (ar (aA 3 (cst .non)) (ar (lZ 0 4 (o7 2 br bu (fun d E=>.nx (E.set 2 (.val d))) (aa (var 0) (aa (var 1) ak))) cQ) (ba (bG (aa (var 2) (aa (var 3) ak))))))
def bY:List D->Option D:=dy 2 6 dI
theorem pK(T:TX K mg):a9 P w K mg base CX0 6 T.f__Lasked T.fd__Lasked (gB.take 2) (spD 2 bY):=by
 obtain⟨cd,xc⟩:=T.kd0.er.xc
 have ms:=T.kd0.ms
 exact fnA 5 dI T.F__Lasked bT fun hr =>
  (ai (aE 2 bT.nd gS)
  (ai (aE 3 bT.nd gS)
  (ai (Az (n:=0) (cl:=clN K) (dW (vO (i:=2) (Cg (jL T) (i4 T)) (hr.mono (by decide)) rfl T.c_doubled.m T.c_doubled.kp T.c_doubled.b (ae (aK 0) (ae (aK 1) aq)) bT.nd rfl (Or.inl rfl))) rfl rfl T.kd0.er.q rfl T.kd0.mx bT.nd rfl rfl
   fun a dx oe od vs fs h1 h2 h3 h4 h5=>ai (aE 5 bT.nd (Ev.frz (bv (ae
    (mF (as:=kA) h1 xc T.kd0.er.cl rfl T.n_isinstance rfl (pv 4) (fun y hy=>ms y (Dg _ (Dg _ hy))) T.kd0.ka) (ae
    (mF (as:=kB) h1 xc T.kd0.er.cl rfl T.n_isinstance rfl (pv 4) (fun y hy=>ms y (Dg _ (C2 _ hy))) T.kd0.kb) aq)))))
    (ai (aE 5 bT.nd (ck (ap 5) (Ev.obs (bv (ae
     (gq h1 xc T.kd0.er.cl rfl T.n_isinstance rfl (pv 4) (gj rfl (ms "Unknown" (by decide)) (v:=.ref (aR K "Unknown")) rfl) (fun u hu=>hu) T.kd0.kc) (ae
     (gq h1 xc T.kd0.er.cl rfl T.n_isinstance rfl (pv 4) (gj rfl (ms "CueError" (by decide)) (v:=.ref (aR K "CueError")) rfl) (fun u hu=>hu) T.kd0.kd) (ae
     (gq h1 xc T.kd0.er.cl rfl T.n_isinstance rfl (pv 4) (ma rfl T.n_ValueError rfl (v:=.ty "ValueError") rfl) (fun u hu=>hu) T.kd0.kv) aq)))))))
    (av (aE 3 bT.nd (cS (ae (qZ h1 h2 h3 h4 xc T.kd0.er.nf h5 (pv 4)) (ae (qZ h1 h2 h3 h4 xc T.ng h5 (pv 4)) (ae (aK 5) aq))))))))
  (av (bg (cS (ae (aK 2) (ae (aK 3) aq))))))))
end
def ju:DE->Option Out :=
 (ar (dz 2 (bp ak))
 (ar (aA 3 (bp ak))
 (ar (c_ (fD (aa (un bK (ac 0)) ak)) (nmG 4)
 (ar (dz 5 (bp ak))
 (ar (dz 6 (bp ak))
 (ar (c_ (cc fN (bin ixE (bin ixE (ac 0) (ac 4)) (cst (.int 0)))) (nmG 7)
 (ar (aA 8 (i7 (ac 1) (var 7) (var 7)))
 (ar (ifS (orT (tst (bin inE (ac 8) (ac 5))) (tst (bin inE (ac 8) (ac 3))))
 (dg 6 (var 8))
 bh)
 (dg 5 (var 8)))))
 (ar (ifS (tst (bin neE (ac 6) (bp ak)))
 (fun E=>(ba (bG (aa (cst .non) (aa (bG (aa (var 4) (aa (un gP (ac 6)) ak))) ak)))) (fzE 6 E))
 bh)
 (ar (dg 2 (bG (aa (un bt (un cJ (ac 5))) (aa (bin ixE (bin ixE (ac 0) (ac 4)) (cst (.int 1))) ak))))
 (fun E=>(aA 3 (var 5)) (fzE 5 E))))))))
 (ba (bG (aa (un ph (ac 2)) (aa (cst .non) ak)))))))
def eg:List D->Option D:=dy 2 9 ju
theorem uV(T:TX K mg):a9 P w K mg base CX0 2 T.f__Ldue T.fd__Ldue (jy.take 2) (spD 2 eg) :=
 fnA 1 ju T.F__Ldue cC fun hr =>
   (ai (cY 2 cC.nd (bv aq))
   (ai (aE 3 cC.nd (Ev.frz (bv aq)))
   (ai (fU DX rfl (cv rfl T.n_range (ae (bI rfl T.n_len (ap 0)) aq)) (aB 4 cC.nd)
   (ai (cY 5 cC.nd (bv aq))
   (ai (cY 6 cC.nd (bv aq))
   (ai (fU DX rfl (rm (aV hr.units (Ev.obs (aV hr.units (ap 0) (ap 4) (fun _ _=>rfl))) (Ev.obs am) (fun _ _=>rfl))) (aB 7 cC.nd)
   (ai (aE 8 cC.nd (rc hr.units (ap 1) (aK 7) (aK 7)))
   (ai (cr (Ew.et (ie (p0 hr.units (ap 8) (ap 5) rfl) (fu (p0 hr.units (ap 8) (ap 3) rfl))))
   (av (cu (i:=6) (pv 6) (aK 8)))
   bq)
   (av (cu (i:=5) (pv 5) (aK 8))))))
   (ai (cr (pZ hr.units (ap 6) (Ev.obs (bv aq)))
   (av (vQ 6 (bg (cS (ae gS (ae (cS (ae (aK 4) (ae (q9 rfl rfl T.n_min rfl (ap 6)) aq))) aq))))))
   bq)
   (ai (cu (i:=2) (pv 2) (cS (ae (dc rfl T.n_tuple rfl (Ev.obs (ig rfl rfl T.n_sorted rfl (ap 5)))) (ae (aV hr.units (Ev.obs (aV hr.units (ap 0) (ap 4) (fun _ _=>rfl))) (Ev.obs am) (fun _ _=>rfl)) aq))))
   (av (vQ 5 (aE 3 cC.nd (aK 5))))))))))
   (av (bg (cS (ae (sY rfl rfl T.n_tuple rfl (ap 2)) (ae gS aq))))))))
def d3(gIH:List D->Option D):DE->Option Out :=
 (ar (ifS (tst (isF "tuple" (ac 1)))
 (ar (ifS (orT (fF (tst (isF "tuple" (ac 0)))) (tst (bin neO (un bK (ac 0)) (un bK (ac 1)))))
 (ba (cst (.bl false)))
 bh)
 (ba (un gY (bn [2] (fD (aa (un bK (ac 1)) ak)) (nmG 2) noT (ax 2 gIH (aa (bin ixE (ac 0) (ac 2)) (aa (bin ixE (ac 1) (ac 2)) ak)))))))
 bh)
 (ar (ifS (tst (isF "str" (ac 1)))
 (ba (gX (isF "str" (ac 0)) (bin eqO (ac 0) (ac 1))))
 bh)
 (ba (gX (isF "int" (ac 0)) (gX (uY (isF "bool" (ac 0))) (bin eqO (ac 0) (ac 1)))))))
def aP:Nat->List D->Option D
 | 0=>fun _=>none
 |k + 1=>dy 2 3 (d3 (aP k))
theorem lj(T:TX K mg):∀k:Nat,a9 P w K mg base CX0 (2 + k) T.f__Lsame T.fd__Lsame (fY.take 2) (spD 2 (aP k))
 | 0=>fnG (k:=1) (b:=noS) T.F__Lsame iA rfl rfl rfl (by funext ds;unfold dy;split <;> rfl) fun cdv A outer s H E hr=>tf
 |k + 1=>fnG (k:=2 + k) (b:=d3 (aP k)) T.F__Lsame iA rfl rfl (by omega) rfl fun cdv A outer s H E hr=>have IH:=lj T k
   (ai (cr (fT (bZ (T := "tuple") rfl rfl T.n_isinstance rfl rfl T.n_tuple rfl (ap 1)))
   (ai (cr (Ew.et (ie (iI (fT (bZ (T := "tuple") rfl rfl T.n_isinstance rfl rfl T.n_tuple rfl (ap 0)))) (fu (BM hr.units (Ev.obs (bI rfl T.n_len (ap 0))) (Ev.obs (bI rfl T.n_len (ap 1)))))))
   (av (bg dU))
   bq)
   (av (bg (mL rfl rfl T.n_all rfl (Ev.obs (dA (js:=[2]) (Blk.of (sc:=ao jE) (N:=fY) (by decide +kernel) rfl rfl) rfl (cv rfl T.n_range (ae (bI rfl T.n_len (ap 1)) aq)) bO (fun _ _ _ _=>(aB 2 iA.nd)) (fun _ _ _ _=>cF) (fun _ _ _ _=>(mK IH (hr.mono (by omega)) rfl T.c__Lsame.m T.c__Lsame.kp T.c__Lsame.b (ae (aV hr.units (ap 0) (ap 2) (fun _ _=>rfl)) (ae (aV hr.units (ap 1) (ap 2) (fun _ _=>rfl)) aq))))))))))
   bq)
   (ai (cr (fT (bZ (T := "str") rfl rfl T.n_isinstance rfl rfl T.n_str rfl (ap 1)))
   (av (bg (gT (bZ (T := "str") rfl rfl T.n_isinstance rfl rfl T.n_str rfl (ap 0)) (iH (yT hr.units (ap 0) (ap 1))))))
   bq)
   (av (bg (gT (bZ (T := "int") rfl rfl T.n_isinstance rfl rfl T.n_int rfl (ap 0)) (gT (Aw (bZ (T := "bool") rfl rfl T.n_isinstance rfl rfl T.n_bool rfl (ap 0))) (iH (yT hr.units (ap 0) (ap 1)))))))))
section
variable {P:Program}{w:World}{K:PySem.W.Frag}{mg:Str->Option Value}{base:Heap}
def c8(a:Addr):DE->Option Out:=ar (aA 2 (bp (aa (xF 3 a (.bl false)) (aa (xF 3 a (.bl false)) ak))))
 (aA 2 (bin cz (ac 2) (bp (aa (xF 3 a (.bl false)) (aa (xF 3 a (.bl true)) (aa (xF 3 a (.bl true)) ak))))))
def ej:DE->Option Out:=ar (aA 2 (cst .non)) (ar (kT 1 3 (km 2 (b4 br bu) (aa (var 0) (aa (var 1) ak))) c8)
 (ba (bin eqE (ac 2) (bp (aa (cst (.bl false)) (aa (cst (.bl false)) (aa (cst (.bl false)) (aa (cst (.bl true)) (aa (cst (.bl true)) ak)))))))))
def cp:List D->Option D:=dy 2 4 ej
theorem mh(T:TX K mg):a9 P w K mg base CX0 6 T.f__Lno_cast T.fd__Lno_cast (eA.take 2) (spD 2 cp):=by
 obtain⟨cd,xc⟩:=T.kd1.er.xc
 have ms:=T.kd1.ms
 exact fnA 5 ej T.F__Lno_cast cB fun hr =>
  (ai (aE 2 cB.nd gS)
  (ai (xZ (n:=1) (cl:=clN K) (dW (oJ (Bs (jL T) (i4 T)) (hr.mono (by decide)) rfl T.c_doubled.m T.c_doubled.kp T.c_doubled.b (ae (aK 0) (ae (aK 1) aq)))) rfl rfl T.kd1.er.q rfl T.kd1.mx cB.nd rfl rfl
   fun a oe vs h1 h3=>ai (aE 2 cB.nd (Ev.frz (bv (ae
    (mF (as:=kA0) h1 xc T.kd1.er.cl rfl T.n_isinstance rfl (pv 3) (fun y hy=>ms y (Dg _ (Dg _ hy))) T.kd1.ka) (ae
    (mF (as:=kB) h1 xc T.kd1.er.cl rfl T.n_isinstance rfl (pv 3) (fun y hy=>ms y (Dg _ (C2 _ hy))) T.kd1.kb) aq)))))
    (av (aE 2 cB.nd (ck (ap 2) (Ev.obs (bv (ae
     (gq h1 xc T.kd1.er.cl rfl T.n_isinstance rfl (pv 3) (gj rfl (ms "Unknown" (by decide)) (v:=.ref (aR K "Unknown")) rfl) (fun u hu=>hu) T.kd1.kc) (ae
     (gq h1 xc T.kd1.er.cl rfl T.n_isinstance rfl (pv 3) (gj rfl (ms "CueError" (by decide)) (v:=.ref (aR K "CueError")) rfl) (fun u hu=>hu) T.kd1.kd) (ae
     (gq h1 xc T.kd1.er.cl rfl T.n_isinstance rfl (pv 3) (ma rfl T.n_ValueError rfl (v:=.ty "ValueError") rfl) (fun u hu=>hu) T.kd1.kv) aq)))))))))
  (av (bg (Ax hr.units (ap 2) (Ev.obs (bv (ae dU (ae dU (ae dU (ae dU (ae dU aq))))))))))))
end
def rH:DE->Option Out :=
 (ar (aA 1 (ax 2 c9 (aa (var 0) (aa (cst (.int 0)) ak))))
 (ar (aA 2 (ax 3 cR (aa (ax 2 c9 (aa (var 0) (aa (cst (.int 1)) ak))) (aa (bin cz (cst (.int 2)) (bin aO (ac 1) (cst (.int 7)))) (aa (cst (.int 8)) ak)))))
 (ar (aA 3 (ax 3 cR (aa (bin aN (ac 1) (cst (.int 100))) (aa (bin cz (cst (.int 1)) (bin aO (bin aN (ac 1) (cst (.int 4))) (cst (.int 4)))) (aa (cst (.int 12)) ak)))))
 (ar (aA 4 (ax 3 fO (aa (cA (ac 0) (di (cst (.int 3))) (di (cst (.int 63)))) (aa (var 2) (aa (var 3) ak)))))
 (ar (aA 5 (cA (bn [14] (cc fN (bp (aa (cst (.str "ann")) (aa (cst (.str "bob")) (aa (cst (.str "cy")) (aa (cst (.str "dee")) (aa (cst (.str "eve")) (aa (cst (.str "flo")) (aa (cst (.str "gus")) (aa (cst (.str "hal")) ak)))))))))) (nmG 14) (tst (bin jP (ac 14) (ac 2))) (var 14)) noP (di (cst (.int 2)))))
 (ar (aA 6 (ax 3 h_ (aa (bin aN (ac 1) (bin ja (cst (.int 10)) (cst (.int 20)))) (aa (var 2) (aa (var 5) ak)))))
 (ar (aA 7 (un kn (ac 6)))
 (ar (ce (ax 2 bY (aa (var 4) (aa (var 6) ak))) (eE 2 (a8 (nmG 8) (a8 (nmG 9) eK))))
 (ar (ce (ax 2 eg (aa (var 4) (aa (var 7) ak))) (eE 2 (a8 (nmG 10) (a8 (nmG 11) eK))))
 (ar (ifS (tst (bin neE (ac 6) (ac 7)))
 (ba (cst (.bl false)))
 bh)
 (ar (ifS (kD (tst (un oA (var 10))) (orT (tst (un ci (var 8))) (tst (bin neE (ac 9) (bin cz (ac 11) (bG (aa (bp (aa (cst (.bl false)) (aa (cst (.bl false)) (aa (cst (.bl false)) (aa (cst (.bl true)) (aa (cst (.bl true)) ak)))))) ak)))))))
 (ba (cst (.bl false)))
 bh)
 (ar (ifS (kD (tst (un ci (var 10))) (orT (tst (un ci (var 9))) (fF (tst (ax 2 (aP 6) (aa (var 8) (aa (var 10) ak)))))))
 (ba (cst (.bl false)))
 bh)
 (ar (aA 1 (bin aN (ac 1) (bin ja (cst (.int 10)) (cst (.int 45)))))
 (ar (aA 12 (bin ixE (bp (aa (cst (.str "")) (aa (cst (.str "Abel")) (aa (cst (.str "a b")) (aa (cst (.str "abcdefghi")) (aa (cst (.int 5)) (aa (cst .non) (aa (cst (.bl true)) (aa (bG (aa (cst (.str "a")) ak)) ak))))))))) (bin aO (bin aN (ac 1) (cst (.int 4))) (cst (.int 8)))))
 (ar (kY 13 (un kn (ac 6)) (un jU (ac 6)) (bin ixE (bp (aa (cst .non) (aa (cst (.str "ann")) (aa (cst (.int 5)) (aa (bG ak) ak))))) (bin aO (bin aN (ac 1) (cst (.int 32))) (cst (.int 4)))) (var 12) (cst (.str "ann")) (bin ixE (ac 5) (cst (.int 1))) (var 12))
 (ba (orV (bin gtD (bin aO (bin aN (ac 1) (cst (.int 128))) (cst (.int 5))) (cst (.int 0))) (ax 2 cp (aa (var 4) (aa (bin ixE (ac 13) (bin aO (ac 1) (cst (.int 4)))) ak))))))))))))))))))))
def vD:List D->Option D:=dy 1 15 rH
theorem zZ(T:TX K mg):a9 P w K mg base CX0 9 T.f_law T.fd_law (o_.take 1) (spD 1 vD) :=
 fnA 8 rH T.F_law b9 fun hr =>
   (ai (aE 1 b9.nd (aT (ll T) T.c__Lcell hr (ae (aK 0) (ae am aq))))
   (ai (dX (i:=2) b9.nd rfl (Or.inr rfl) (aT (jM T) T.c__Ltexts hr (ae (aT (ll T) T.c__Lcell hr (ae (aK 0) (ae am aq))) (ae (ck (Ev.obs am) (Ev.obs (bf (ap 1) (Ev.obs am)))) (ae am aq)))))
   (ai (aE 3 b9.nd (aT (jM T) T.c__Ltexts hr (ae (bA (ap 1) (Ev.obs am)) (ae (ck (Ev.obs am) (Ev.obs (bf (Ev.obs (bA (ap 1) (Ev.obs am))) (Ev.obs am)))) (ae am aq)))))
   (ai (aE 4 b9.nd (aT (sr T) T.c__Lplay hr (ae (fS (ap 0) (fw am) (fw am)) (ae (aK 2) (ae (aK 3) aq)))))
   (ai (aE 5 b9.nd (fS (Ev.obs (dA (js:=[14]) (Blk.of (sc:=ao uk) (N:=o_) (by decide +kernel) rfl rfl) rfl (rm (Ev.frz (bv (ae bH (ae bH (ae bH (ae bH (ae bH (ae bH (ae bH (ae bH aq))))))))))) bO (fun _ _ _ _=>(aB 14 b9.nd)) (fun _ _ _ _=>(ki (re hr.units (ap 14) (ap 2) rfl))) (fun _ _ _ _=>(aK 14)))) mO (fw am)))
   (ai (aE 6 b9.nd (aT (su T) T.c__Lcast hr (ae (bA (ap 1) (Ev.obs (pX (Ev.obs am) (Ev.obs am)))) (ae (aK 2) (ae (aK 5) aq)))))
   (ai (aE 7 b9.nd (Ev.frz (mH rfl T.n_dict rfl (ap 6))))
   (ai (lG (aT (pK T) T.c__Lasked hr (ae (aK 4) (ae (aK 6) aq))) (iM rfl (bL (aB 8 b9.nd) (bL (aB 9 b9.nd) gu))))
   (ai (lG (aT (uV T) T.c__Ldue hr (ae (aK 4) (ae (aK 7) aq))) (iM rfl (bL (aB 10 b9.nd) (bL (aB 11 b9.nd) gu))))
   (ai (cr (pZ hr.units (ap 6) (ap 7))
   (av (bg dU))
   bq)
   (ai (cr (Ew.et (pW (Ay (aK 10)) (mE (Ew.et (ie (iJ (aK 8)) (fu (pZ hr.units (ap 9) (Ev.obs (ck (ap 11) (Ev.obs (cS (ae (Ev.frz (bv (ae dU (ae dU (ae dU (ae dU (ae dU aq))))))) aq))))))))))))
   (av (bg dU))
   bq)
   (ai (cr (Ew.et (pW (iJ (aK 10)) (mE (Ew.et (ie (iJ (aK 9)) (fu (iI (fT (mK (lj T 6) (hr.mono (by decide)) rfl T.c__Lsame.m T.c__Lsame.kp T.c__Lsame.b (ae (aK 8) (ae (aK 10) aq)))))))))))
   (av (bg dU))
   bq)
   (ai (aE 1 b9.nd (bA (ap 1) (Ev.obs (pX (Ev.obs am) (Ev.obs am)))))
   (ai (aE 12 b9.nd (aV hr.units (Ev.obs (bv (ae bH (ae bH (ae bH (ae bH (ae am (ae gS (ae dU (ae (cS (ae bH aq)) aq)))))))))) (Ev.obs (bf (Ev.obs (bA (ap 1) (Ev.obs am))) (Ev.obs am))) (fun _ _=>rfl)))
   (s_ (i:=13) hr.units b9.nd rfl (Or.inl rfl) (mH rfl T.n_dict rfl (ap 6)) (mH rfl T.n_dict rfl (ap 6)) (Ev.frz (vM rfl rfl T.n_list rfl (ap 6))) (aV hr.units (Ev.obs (bv (ae gS (ae bH (ae am (ae (cS aq) aq)))))) (Ev.obs (bf (Ev.obs (bA (ap 1) (Ev.obs am))) (Ev.obs am))) (fun _ _=>rfl)) (pv 13) (Ev.obs am) (fun _ _=>rfl) (aK 12) bH (pv 13) (Ev.obs am) (fun _ _=>rfl) (aV hr.units (ap 5) (Ev.obs am) (fun _ _=>rfl)) (aK 12)
   (av (bg (BK (BL  (Ev.obs (bf (Ev.obs (bA (ap 1) (Ev.obs am))) (Ev.obs am))) (Ev.obs am)) (iH (aT (mh T) T.c__Lno_cast hr (ae (aK 4) (ae (aV hr.units (ap 13) (Ev.obs (bf (ap 1) (Ev.obs am))) (fun _ _=>rfl)) aq))))))))))))))))))))))
end
end L2.Cu.Wk
namespace L2.Cu
open PySem PySem.Spec PyProof.Rows
local macro_rules
| `(tactic|simp![$a,*]$[$l]?)=>`(tactic|simp only[$a,*]$[$l]?)
| `(tactic|dsimp![$a,*]$[$l]?)=>`(tactic|simp only[reduceIte,$a,*]$[$l]?)
theorem nL{α:Type}(f:Nat->α)(m:Nat)(h:∀i j,i < m->j < m->f i=f j->i=j):((List.range m).map f).Nodup:=by
 induction m with
 |zero=>exact List.nodup_nil
 |succ m ih =>
  rw[List.range_succ,Dk,List.nodup_append]
  refine⟨ih fun i j hi hj e=>h i j (by lia) (by lia) e,Fb _ _,fun a ha b hb=>?_⟩
  obtain⟨i,hi,rfl⟩:=List.mem_map.mp ha
  obtain⟨j,hj,rfl⟩:=List.mem_map.mp hb
  rw[List.mem_range]at hi
  rw[Ex]at hj
  subst hj
  intro e
  have:=h i j (by lia) (by lia) e
  lia
def yv(l:List Nat):Prop:=∀c ∈ l,97<=c/\c<=122
structure Wd (M:Nat) (x:Str):Prop where
 pos:1<=x.length
 le:x.length<=M
 low:yv x.cps.toList
theorem Wd.mk'{M:Nat}{l:List Nat}(h1:1<=l.length)(h2:l.length<=M)(h3:yv l):Wd M (L2.Cu.mk l):=⟨by rw[dP];exact h1,by rw[dP];exact h2,by rw[cg];exact h3⟩
theorem wm:Str.ofString "abcdefghijklmnopqrstuvwxyz" = mk (List.range' 97 26):=by decide
theorem vY:Str.ofString "" = mk []:=by decide
theorem tD{i:Int}(h:0<=i)(h2:i < 26):(List.range' 97 26).getD i.toNat 0=97 + i.toNat:=by
 have hlt:i.toNat < 26:=by lia
 rw[DD,List.getElem?_range' hlt]
 simp
theorem iF{i:Int}(h:0<=i)(h2:i < 26):ixE (.str (mk (List.range' 97 26))) (.int i)=some (.str (mk [97 + i.toNat])):=by
 rw[Ai (by decide) h (by simpa using h2),tD h h2]
namespace Sh
open L2.Cu.Wk
theorem va{c:Int}(h:Builtin.Int.intBits c<=2 ^ 20):dG [.int c]=some (.int (c * 271828182845904523536028747135266249775724709369995957496697 % 10 ^ 60)):=by
 have hb:Builtin.Int.intBits 271828182845904523536028747135266249775724709369995957496697<=2 ^ 20:=by decide
 refine cb ?_
 simp only[dG,iQ,al,bF,bx,ba,bin,cst,ac,aH,hG,CA,CC,CI,CJ,CK,CL,CG,CH,Cz,List.replicate,Nat.reduceAdd,Nat.reduceSub,Int.reduceLT,Int.reduceLE,Int.reducePow,Int.reduceToNat,Int.reduceAbs,Nat.reducePow,Nat.reduceLT,u9 h hb]
theorem nR{c:Int}(h:Builtin.Int.intBits c<=2 ^ 20):wp (dG [.int c]) fun d=>∃e:Int,d=.int e/\0<=e:=by
 rw[va h]
 exact⟨_,rfl,Dt _ (by decide)⟩
theorem rE{ns:List Int}(hb:∀i ∈ ns,Builtin.Int.intBits i<=2 ^ 20)(k:Nat):wp (c9 [.scr ns,.int k]) fun d=>∃e:Int,d=.int e/\0<=e:=by
 simp only[c9,kC,al,bF,bi,dJ,bin,un,ac,tst,asB,mj,CA,CI,CJ,CK,CL,CG,CH,Cz,CB,List.replicate,Nat.reduceAdd,Nat.reduceSub,jV]
 refine jo (fun h=>?_) fun h=>?_
 ·have hk:k < ns.length:=by lia
  simp only[de,du,bx,ba,bin,ac,ax,aa,ak,CA,CC,CG,CH,Cz,CB,reduceIte,Nat.reduceAdd,mv,ip,C0 hk]
  exact nR (hb _ (DB hk))
 ·simp only[al,aU,bx,ba,bh,cst,CC,D.int.injEq]
  exact⟨0,rfl,Int.le_refl 0⟩
theorem vZ{c:Int}{i j:Nat}(hi:i < 26)(hj:j < 26)(e:97 + ((c + i) % 26).toNat=97 + ((c + j) % 26).toNat):i=j:=by omega
theorem p8(c:Int):97<=97 + (c % 26).toNat/\97 + (c % 26).toNat<=122:=by lia
end Sh
abbrev Sp:=List Str×List Str
def ii(ss:List Str):D:=.tup (ss.map D.str)
def aw(s:Sp):D:=.tup [ii s.1,ii s.2]
def ay(p:List Sp):D:=.tup (p.map aw)
def ltS(a b:Str):Prop:=a.cps.toList < b.cps.toList
structure AM (names words:List Str) (s:Sp):Prop where
 ne:s.1 ≠ []
 le:s.1.length<=names.length
 lt:s.1.length < names.length\/names.length<=1
 sub:∀n ∈ s.1,n ∈ names
 ris:s.1.Pairwise ltS
 wne:s.2 ≠ []
 wle:s.2.length<=5
 wsub:∀w ∈ s.2,w ∈ words
def wt(a b:Sp):Prop:=∀n ∈ a.1,n ∉ b.1
def lX:List Sp->Prop
 |a :: b :: r=>wt a b/\lX (b :: r)
 |_=>True
theorem lX.snoc:∀{p:List Sp}{s:Sp},lX p->(∀a,p.getLast? = some a->wt a s)->lX (p ++ [s])
 | [],_,_,_=>trivial
 | [a],s,_,h=>⟨h a rfl,trivial⟩
 |a :: b :: r,s,h,hl=>⟨h.1,lX.snoc (p:=b :: r) h.2 fun x hx=>hl x (by rw[List.getLast?_cons_cons];exact hx)⟩
structure yw (names words:List Str) (p:List Sp):Prop where
 each:∀s ∈ p,AM names words s
 apart:lX p
def b7(p:List Sp):List Str:=(p.getLast?.map (·.1)).getD []
theorem jX(p:List Sp)(s:Sp):b7 (p ++ [s])=s.1:=by simp[b7]
theorem ub{ss:List Str}(h:ss.Nodup):(aZ ss).Pairwise ltS:=by
 have h1:=jB ss
 have h2:(aZ ss).Nodup:=(cM ss).nodup_iff.mpr h
 refine List.Pairwise.imp₂ (fun a b hab hne=>?_) h1 h2
 unfold leS at hab
 simp only[EG,Eo]at hab
 rcases List.le_iff_lt_or_eq.mp (List.not_lt.mp hab) with z |z
 ·exact z
 ·exact absurd (ji z) hne
theorem Wd.lowS{M:Nat}{x:Str}(h:Wd M x):jh x:=fun c hc=>(h.low c hc).2
theorem ln{α:Type}[DecidableEq α]:∀{l m:List α},l.Nodup->(∀x ∈ l,x ∈ m)->l.length<=m.length
 | [],_,_,_=>DV _
 |x :: l,m,h,hs=>by
  obtain⟨hx,hn⟩:=List.nodup_cons.mp h
  have hm:=hs x C1
  have:=ln (l:=l) (m:=m.erase x) hn fun y hy=>(List.mem_erase_of_ne (fun z=>hx (by rw[<-z];exact hy))).mpr (hs y (CY _ hy))
  rw[List.length_erase_of_mem hm]at this
  have:=List.length_pos_of_mem hm
  rw[CG]
  lia
namespace Sh
open L2.Cu.Wk
theorem wZ(cells:List Int)(names words:List Str)(hb:∀i ∈ cells,Builtin.Int.intBits i<=2 ^ 20)(hc:cells.length<=61)(hn:names.Nodup)(hn2:2<=names.length)(hn8:names.length<=8)(hnw:∀x ∈ names,jh x)(hw:1<=words.length) :
  wp (fO [.lst (cells.map D.int),.lst (names.map D.str),.lst (words.map D.str)]) fun d=>∃p,d=ay p/\p.length=cells.length/\yw names words p:=by
 simp only[fO,kz,al,bF,bi,aU,aA,dz,gc,var,ak,bG,bp,cc,b_,CA,CC,CI,CJ,CK,CL,CG,CH,CD,CF,Cz,List.replicate,reduceIte,Nat.reduceAdd,Nat.reduceSub,Nat.reduceLeDiff,dj]
 refine f_ D.int cells (fun pre E=>∃(p:List Sp) (s5 s6 s7 s8 s9 s10:Sl),E=[Sl.val (D.lst (cells.map D.int)),Sl.val (D.lst (names.map D.str)),Sl.val (D.lst (words.map D.str)),Sl.own (D.lst (p.map aw)),Sl.val (D.tup ((b7 p).map D.str)),s5,s6,s7,s8,s9,s10] /\
  p.length=pre.length/\yw names words p/\(b7 p).length < names.length) rfl ?_ ?_ ?_
 ·exact⟨[],_,_,_,_,_,_,rfl,rfl,⟨fun _ h=>(by cases h),trivial⟩,by show 0 < _;lia⟩
 ·rintro pre c post E hs ⟨p,s5,s6,s7,s8,s9,s10,rfl,hpl,Gx,Gn⟩
  have hcm:c ∈ cells:=by rw[hs];simp
  have Gk:pre.length < cells.length:=by rw[hs];simp
  try simp only[al,bo,de,bi,aU,aA,dz,gc,var,ax,aa,ak,bp,cc,nmG,aW,bn,b_,CA,CC,CG,CH,CD,CF,Cz,CB,CM,DL,reduceIte,Nat.reduceAdd,Nat.reduceLeDiff,dj]
  refine f9 (nR (hb c hcm)) ?_
  rintro _ ⟨e,rfl,he⟩
  try simp only[al,bo,de,bF,bi,aU,du,bx,qC,aA,dz,dJ,eM,eN,gc,ba,A9,bh,bin,un,fV,cst,var,ac,tst,asB,fF,kD,orT,gX,orV,uY,ifV,ax,aa,ak,bG,bp,cc,cD,nu,noP,di,cA,nmG,eE,a8,eK,isF,dR,jd,yg,oW,noT,aW,bn,ni,aH,aY,hG,Bx,mj,qN,mn,mm,jp,qW,gY,BS,iG,b_,tyN,CA,CC,Option.bind_none,Option.map_none,CI,CJ,CK,CL,CG,CH,CD,CF,Cz,CB,List.replicate,CM,DL,reduceIte,Nat.reduceAdd,Nat.reduceSub,Int.reduceLT,Int.reduceLE,Int.reducePow,Int.reduceToNat,Int.reduceAdd,Int.reduceSub,Int.reduceMul,Int.reduceNeg,Int.reduceAbs,Nat.reducePow,Nat.reduceLT,Nat.reduceLeDiff,Nat.reduceMul,and_true,true_and,and_self,Fc,Bool.not_false,Da,EN,ET,E9,D.int.injEq,D.bl.injEq,gI,String.reduceBEq,DA,Bool.true_or,EJ,Bool.false_or,D_,Bool.and_true,D9,D0,Ef,Bool.or_self,FD,reduceCtorEq,d5,qS,qQ,qR,og,n_,oa,qz,qx,qy,gr,mM,vW,hX,qK,qU,nO,dj,yA,cZ,jn,jm,mv,fM,fL,jV,n9,dg,BJ,BQ,fG,ce,i7,nk,eX,jz,lv,lu,BR,BC,yL,yM,oA,ci]
  refine gM (qw (by simp;lia)) ?_
  rw[dB D.str (fun n => !decide (n ∈ b7 p)) D.str names fun x hx=>?_]
  ·try simp only[al,CC]
   generalize hfr:names.filter (fun n => !decide (n ∈ b7 p))=free
   have Go:∀n ∈ free,n ∈ names/\n ∉ b7 p:=fun n hn=>by
    rw[<-hfr,Fm]at hn
    exact⟨hn.1,by simpa using hn.2⟩
   have G7:free.Nodup:=by rw[<-hfr];exact hn.filter _
   have hfl:free.length<=8:=by rw[<-hfr];exact CZ (List.length_filter_le _ _) hn8
   have Hh:0 < free.length:=by
    rcases Nat.eq_zero_or_pos free.length with h0 |h0
    ·exfalso
     have FX:∀n ∈ names,n ∈ b7 p:=fun n hn'=>by
      by_cases hm:n ∈ b7 p
      ·exact hm
      ·have:n ∈ free:=by rw[<-hfr,Fm];exact⟨hn',by simpa using hm⟩
       rw[List.length_eq_zero_iff.mp h0]at this
       cases this
     have:=ln hn FX
     lia
    ·exact h0
   refine f_ D.str free (fun pr E=>∃(some':List Str) (e':Int) (sl:Sl),E=[Sl.val (D.lst (cells.map D.int)),Sl.val (D.lst (names.map D.str)),Sl.val (D.lst (words.map D.str)),Sl.own (D.lst (p.map aw)),Sl.val (D.tup ((b7 p).map D.str)),Sl.val (D.int e'),Sl.val (D.lst (free.map D.str)),Sl.own (D.lst (some'.map D.str)),sl,s9,s10]/\some'.Sublist pr) rfl ⟨[],_,_,rfl,.slnil⟩ ?_ ?_
   ·rintro pr x po E hsx ⟨so,e',sl,rfl,FW⟩
    have hl:so.length<=8:=CZ FW.length_le (by rw[hsx]at hfl;simp at hfl;lia)
    try simp only[al,bo,bi,dJ,bin,cst,ac,tst,asB,nmG,aH,CA,CD,CF,Cz,CB,Int.reduceLT,gr]
    refine jo (fun h=>?_) fun h=>?_
    ·try simp only[var,CA,CD,CF,Cz,CB,dg]
     refine gM (t_ (by simp;lia)) ?_
     try simp only[al,aU,aA,bin,cst,ac,aY,CA,CC,CD,CF,Cz,CB,Int.reduceLT,Int.reduceLE,Int.reducePow]
     exact⟨so ++ [x],_,_,by rw[Dk];rfl,FW.append (List.Sublist.refl _)⟩
    ·try simp only[al,aU,aA,bh,bin,cst,ac,aY,CA,CC,CD,CF,Cz,CB,Int.reduceLT,Int.reduceLE,Int.reducePow]
     exact⟨so,_,_,rfl,FW.trans (List.sublist_append_left _ _)⟩
   ·rintro E ⟨so,e',sl,rfl,FW⟩
    have hsl:so.length<=8:=CZ FW.length_le hfl
    have Gu:∀n ∈ so,n ∈ free:=fun n hn'=>FW.subset hn'
    have G0:so.Nodup:=FW.nodup G7
    have GF:∀x ∈ so,jh x:=fun x hx=>hnw x (Go x (Gu x hx)).1
    have Hg:(0:Int) < (free.length:Int):=by lia
    have key:∀(so':List Str),so'.Nodup->so' ≠ []->so'.length < names.length->(∀n ∈ so',n ∈ free)->wp ((ar (aA 5 (bin aN (ac 5) (cst (.int 5)))) (ar (dz 9 (bp ak)) (ar (c_ (fD (aa (bin cz (cst (.int 1)) (bin aO (ac 5) (cst (.int 5)))) ak)) (nmG 10) (ar (aA 5 (bin aN (ac 5) (cst (.int 7)))) (dg 9 (bin ixE (ac 2) (bin aO (ac 5) (un bK (ac 2))))))) (ar (aA 4 (un bt (un cJ (ac 7)))) (dg 3 (bG (aa (var 4) (aa (un bt (ac 9)) ak)))))))) [Sl.val (D.lst (cells.map D.int)),Sl.val (D.lst (names.map D.str)),Sl.val (D.lst (words.map D.str)),Sl.own (D.lst (p.map aw)),Sl.val (D.tup ((b7 p).map D.str)),Sl.val (D.int e'),Sl.val (D.lst (free.map D.str)),Sl.own (D.lst (so'.map D.str)),sl,s9,s10])
      (fun r=>match r with |.nx E'=>∃(p:List Sp) (s5 s6 s7 s8 s9 s10:Sl),E'=[Sl.val (D.lst (cells.map D.int)),Sl.val (D.lst (names.map D.str)),Sl.val (D.lst (words.map D.str)),Sl.own (D.lst (p.map aw)),Sl.val (D.tup ((b7 p).map D.str)),s5,s6,s7,s8,s9,s10]/\p.length=(pre ++ [c]).length/\yw names words p/\(b7 p).length < names.length |.ct E'=>∃(p:List Sp) (s5 s6 s7 s8 s9 s10:Sl),E'=[Sl.val (D.lst (cells.map D.int)),Sl.val (D.lst (names.map D.str)),Sl.val (D.lst (words.map D.str)),Sl.own (D.lst (p.map aw)),Sl.val (D.tup ((b7 p).map D.str)),s5,s6,s7,s8,s9,s10]/\p.length=(pre ++ [c]).length/\yw names words p/\(b7 p).length < names.length |_=>False):=by
     intro so' h1 h2 h3 h4
     try simp only[al,bi,aU,aA,dz,gc,bin,cst,ac,aa,ak,bp,cD,aH,aY,CA,CC,CH,CD,CF,Cz,CB,reduceIte,Int.reduceLT,Int.reduceLE,Int.reducePow,Nat.reduceLeDiff,d5,dj]
     have hr:1<=1 + e' / 5 % 5/\1 + e' / 5 % 5<=5:=by lia
     rw[bW (by lia) (by lia)]
     try simp only[al]
     refine f_ (fun i:Nat=>D.int (0 + i)) (List.range (1 + e' / 5 % 5).toNat) (fun pr E=>∃(ws:List Str) (e':Int) (sl2:Sl),E=[Sl.val (D.lst (cells.map D.int)),Sl.val (D.lst (names.map D.str)),Sl.val (D.lst (words.map D.str)),Sl.own (D.lst (p.map aw)),Sl.val (D.tup ((b7 p).map D.str)),Sl.val (D.int e'),Sl.val (D.lst (free.map D.str)),Sl.own (D.lst (so'.map D.str)),sl,Sl.own (D.lst (ws.map D.str)),sl2]/\ws.length=pr.length/\∀w ∈ ws,w ∈ words) rfl ⟨[],_,_,rfl,rfl,fun _ h=>by cases h⟩ ?_ ?_
     ·rintro pr k po E hk ⟨ws,e2,sl2,rfl,hwl,hws⟩
      have hwp:(0:Int) < ((words.map D.str).length:Int):=by simp;lia
      have Hi:pr.length < 5:=by
       have:=DK List.length hk
       simp at this
       lia
      simp only[al,bo,de,bi,aU,aA,bin,un,cst,ac,nmG,aH,aY,CA,CD,CF,Cz,CB,Int.reduceLT,Int.reduceLE,Int.reducePow,jn,fM,dg,aH hwp]
      refine tI (Dt _ (by lia)) (Dn _ hwp) fun d hd=>?_
      obtain⟨x,hx,rfl⟩:=List.mem_map.mp hd
      refine gM (t_ (by simp;lia)) ?_
      try simp only[al]
      exact⟨ws ++ [x],_,_,by rw[Dk];rfl,by simp[hwl],fun w hw'=>by
       rcases List.mem_append.mp hw' with z |z
       ·exact hws w z
       ·rw[List.mem_singleton.mp z];exact hx⟩
     ·rintro E ⟨ws,e2,sl2,rfl,hwl,hws⟩
      rw[D8]at hwl
      simp only[al,bi,aU,aA,un,var,ac,aa,ak,bG,CA,CC,CG,CH,CD,CF,Cz,CB,reduceIte,Nat.reduceAdd,Nat.reduceLeDiff,dj,dg,eX,iz (show so'.length < 64 by lia)]
      refine gM (t_ (by simp;lia)) ?_
      try simp only[al]
      have Hd:=cM so'
      have GK:∀n ∈ b7 p,n ∉ aZ so':=fun n hn' hm=>(Go n (h4 n (Hd.mem_iff.mp hm))).2 hn'
      refine⟨p ++ [(aZ so',ws)],Sl.val (D.int e2),Sl.val (D.lst (free.map D.str)),Sl.own (D.lst (so'.map D.str)),sl,Sl.own (D.lst (ws.map D.str)),sl2,?_,by simp[hpl],⟨fun s hs'=>?_,?_⟩,?_⟩
      ·rw[jX,Dk];rfl
      ·rcases List.mem_append.mp hs' with z |z
       ·exact Gx.each s z
       ·rw[List.mem_singleton.mp z]
        refine⟨fun z=>h2 (List.length_eq_zero_iff.mp (by rw[<-Hd.length_eq,show aZ so'=[] from z];rfl)),by rw[Hd.length_eq];lia,.inl (by rw[Hd.length_eq];exact h3),fun n hn'=>(Go n (h4 n (Hd.mem_iff.mp hn'))).1,ub h1,fun z=>?_,by simp only;lia,hws⟩
        rw[show ws=[] from z]at hwl
        simp at hwl
        lia
      ·refine Gx.apart.snoc fun a ha n hn'=>?_
       have:b7 p=a.1:=by unfold b7;rw[ha];rfl
       exact GK n (by rw[this];exact hn')
      ·rw[jX]
       show(aZ so').length < _
       rw[Hd.length_eq];exact h3
    have one:wp ((dz 7 (bp (aa (bin ixE (ac 6) (bin aO (ac 5) (un bK (ac 6)))) ak))) [Sl.val (D.lst (cells.map D.int)),Sl.val (D.lst (names.map D.str)),Sl.val (D.lst (words.map D.str)),Sl.own (D.lst (p.map aw)),Sl.val (D.tup ((b7 p).map D.str)),Sl.val (D.int e'),Sl.val (D.lst (free.map D.str)),Sl.own (D.lst (so.map D.str)),sl,s9,s10]) (fun r=>∃x,x ∈ free/\r=.nx [Sl.val (D.lst (cells.map D.int)),Sl.val (D.lst (names.map D.str)),Sl.val (D.lst (words.map D.str)),Sl.own (D.lst (p.map aw)),Sl.val (D.tup ((b7 p).map D.str)),Sl.val (D.int e'),Sl.val (D.lst (free.map D.str)),Sl.own (D.lst ([x].map D.str)),sl,s9,s10]):=by
     have hfp:(0:Int) < ((free.map D.str).length:Int):=by simp;lia
     simp only[al,bo,de,dz,bin,un,ac,aa,ak,bp,aH,CA,CC,CI,CJ,CG,CH,CD,CF,Cz,CB,reduceIte,Nat.reduceAdd,Nat.reduceLeDiff,dj,jn,fM,aH hfp]
     refine tI (Dt _ (by lia)) (Dn _ hfp) fun d hd=>?_
     obtain⟨x,hx,rfl⟩:=List.mem_map.mp hd
     skip
     try simp only[al,bo,de,bF,bi,aU,du,bx,qC,aA,dz,dJ,eM,eN,gc,ba,A9,bh,bin,un,fV,cst,var,ac,tst,asB,fF,kD,orT,gX,orV,uY,ifV,ax,aa,ak,bG,bp,cc,cD,nu,noP,di,cA,nmG,eE,a8,eK,isF,dR,jd,yg,oW,noT,aW,bn,ni,aH,aY,hG,Bx,mj,qN,mn,mm,jp,qW,gY,BS,iG,b_,tyN,CA,CC,Option.bind_none,Option.map_none,CI,CJ,CK,CL,CG,CH,CD,CF,Cz,CB,List.replicate,CM,DL,reduceIte,Nat.reduceAdd,Nat.reduceSub,Int.reduceLT,Int.reduceLE,Int.reducePow,Int.reduceToNat,Int.reduceAdd,Int.reduceSub,Int.reduceMul,Int.reduceNeg,Int.reduceAbs,Nat.reducePow,Nat.reduceLT,Nat.reduceLeDiff,Nat.reduceMul,and_true,true_and,and_self,Fc,Bool.not_false,Da,EN,ET,E9,D.int.injEq,D.bl.injEq,gI,String.reduceBEq,DA,Bool.true_or,EJ,Bool.false_or,D_,Bool.and_true,D9,D0,Ef,Bool.or_self,FD,reduceCtorEq,d5,qS,qQ,qR,og,n_,oa,qz,qx,qy,gr,mM,vW,hX,qK,qU,nO,dj,yA,cZ,jn,jm,mv,fM,fL,jV,n9,dg,BJ,BQ,fG,ce,i7,nk,eX,jz,lv,lu,BR,BC,yL,yM,oA,ci]
     exact⟨x,hx,rfl⟩
    have single:∀x,x ∈ free->([x]:List Str).Nodup/\([x]:List Str) ≠ []/\([x]:List Str).length < names.length/\∀n ∈ [x],n ∈ free:=fun x hx=>⟨Fb _ _,by simp,by simp;lia,fun n hn'=>by rw[List.mem_singleton.mp hn'];exact hx⟩
    have GL:orT (tst (bin eqO (ac 7) (bp ak))) (tst (bin eqO (un bK (ac 7)) (un bK (ac 1)))) [Sl.val (D.lst (cells.map D.int)),Sl.val (D.lst (names.map D.str)),Sl.val (D.lst (words.map D.str)),Sl.own (D.lst (p.map aw)),Sl.val (D.tup ((b7 p).map D.str)),Sl.val (D.int e'),Sl.val (D.lst (free.map D.str)),Sl.own (D.lst (so.map D.str)),sl,s9,s10]=some (decide (so=[]) || decide (so.length=names.length)):=by
     refine cb ?_
     simp only[bin,un,ac,tst,asB,orT,ak,bp,CA,CH,Cz,CB,reduceIte,Nat.reduceLeDiff,gr,dj,fM,ti GF]
     by_cases hso:so=[]
     ·simp only[hso,al,CJ,CH,reduceIte,EN,Bool.true_or]
     ·simp only[hso,al,reduceIte,Da,ET,Bool.false_or,CQ]
      congr 1
      exact propext ⟨fun h=>by lia,fun h=>by lia⟩
    rw[aU,bi,dJ,GL,al]
    refine vB (fun h=>?_) fun h=>?_
    ·refine f9 one ?_
     rintro _ ⟨x,hx,rfl⟩
     obtain⟨a1,a2,a3,a4⟩:=single x hx
     rw[aU]
     exact key [x] a1 a2 a3 a4
    ·simp only[Bool.or_eq_false_iff,Eo]at h
     rw[show bh _=some (Out.nx _) from rfl,al,aU]
     refine key so G0 h.1 ?_ Gu
     have h1:so.length ≠ names.length:=h.2
     have h2:so.length<=names.length:=CZ FW.length_le (by rw[<-hfr];exact List.length_filter_le _ _)
     lia
  ·simp only[al,bin,var,ac,tst,asB,nmG,CA,CD,CF,Cz,CB,true_and,D9,u7]
   exact fun _=>trivial
 ·rintro E ⟨p,s5,s6,s7,s8,s9,s10,rfl,hpl,Gx,Gn⟩
  try simp only[al,aU,bx,ba,un,ac,CA,CC,Cz,CB,eX]
  exact⟨p,rfl,hpl,Gx⟩
end Sh
theorem nr(n:Nat):cN 0 n=(List.range n).map (fun i:Nat=>D.int (0 + i)):=rfl
theorem jv{α:Type}{xs:List α}{i:Nat}:atI xs (0 + (i:Int))=xs[i]?:=by rw[Int.zero_add];exact ip
theorem mX{α:Type}[DecidableEq α](xs ys:List α)(h:xs.length=ys.length):((List.range ys.length).map fun i=>decide (xs[i]? = ys[i]?)).all id=decide (xs=ys):=by
 rw[List.all_map]
 by_cases e:xs=ys
 ·subst e
  rw[Df rfl,Dj]
  intro i _
  simp
 ·rw[C9 e]
  rw[Bool.eq_false_iff]
  intro FX
  rw[Dj]at FX
  refine e (List.ext_getElem? fun i=>?_)
  rcases Nat.lt_or_ge i ys.length with hi |hi
  ·have:=FX i (List.mem_range.mpr hi)
   simpa using this
  ·rw[D5 (by lia),D5 hi]
namespace Sh
open L2.Cu.Wk
theorem uh(k:Nat)(a b:Str):aP (k + 1) [.str a,.str b]=some (.bl (decide (a=b))):=by
 refine cb ?_
 simp only[aP,d3,al,bF,bi,aU,du,bx,dJ,eM,eN,ba,bh,bin,ac,tst,asB,gX,isF,dR,jd,Da,En,tyN,CA,CC,CI,CJ,CK,CL,CG,CH,Cz,CB,List.replicate,reduceIte,Nat.reduceAdd,Nat.reduceSub,gI,String.reduceBEq,DA,D_,D0,mM]
theorem ui{α:Type}[DecidableEq α](enc:α->D)(k:Nat)(h:∀a b,aP k [enc a,enc b]=some (.bl (decide (a=b))))(xs ys:List α)(hx:xs.length<=4000000)(hy:ys.length<=4000000):aP (k + 1) [.tup (xs.map enc),.tup (ys.map enc)]=some (.bl (decide (xs=ys))):=by
 have Gv:(ys.map enc).length=ys.length:=CQ ..
 have Gw:(xs.map enc).length=xs.length:=CQ ..
 by_cases hl:xs.length=ys.length
 ·have hc:bD (nmG 2) noT (ax 2 (aP k) (aa (bin ixE (ac 0) (ac 2)) (aa (bin ixE (ac 1) (ac 2)) ak))) [Sl.val (D.tup (xs.map enc)),Sl.val (D.tup (ys.map enc)),Sl.no] (cN 0 ys.length)=some ((List.range ys.length).map fun i=>D.bl (decide (xs[i]? = ys[i]?))):=by
   rw[nr]
   refine dH _ _ _ fun i hi=>?_
   rw[List.mem_range]at hi
   have hi':i < xs.length:=by lia
   refine cb ?_
   simp only[al,bin,ac,ax,aa,ak,CA,CC,CG,CH,CD,CF,Cz,CB,reduceIte,Nat.reduceAdd,E9,jm,jv,Db,C0 hi,C0 hi',h]
  have e0:decide ((xs.length:Int)=(ys.length:Int))=true:=by simp[hl]
  have hz:(cN 0 ys.length).length<=16777216:=by simp[cN];lia
  have hr:g9 [D.int (ys.length:Int)]=some (cN 0 ys.length):=by rw[bW (by lia) (by lia),DF]
  refine cb ?_
  simp only[aP,d3,al,bF,bi,aU,du,bx,dJ,eM,eN,ba,bh,bin,un,ac,tst,asB,fF,orT,aa,ak,cD,isF,dR,jd,Da,En,aW,bn,gY,tyN,CA,CC,CI,CJ,CK,CL,CG,CH,CD,CF,Cz,CB,List.replicate,CM,DL,reduceIte,Nat.reduceAdd,Nat.reduceSub,Fc,Da,D.bl.injEq,gI,String.reduceBEq,DA,D_,D0,hX,dj,fL,Gv,Gw,e0,hr,hc,dj hz,fW]
  rw[mX xs ys hl]
 ·have e0:decide ((xs.length:Int)=(ys.length:Int))=false:=by simp;lia
  have hne:xs ≠ ys:=fun z=>hl (by rw[z])
  refine cb ?_
  simp only[aP,d3,al,bF,bi,du,bx,dJ,eM,ba,bin,un,cst,ac,tst,asB,fF,orT,isF,dR,jd,Da,En,tyN,CA,CC,CI,CJ,CK,CL,CG,CH,Cz,CB,List.replicate,reduceIte,Nat.reduceAdd,Nat.reduceSub,Fc,Bool.not_false,Da,gI,String.reduceBEq,DA,D_,D0,hX,fL,Gv,Gw,e0,C9 hne]
theorem rU(k:Nat)(ss ts:List Str)(hx:ss.length<=4000000)(hy:ts.length<=4000000):aP (k + 2) [.tup (ss.map D.str),.tup (ts.map D.str)]=some (.bl (decide (ss=ts))):=ui D.str (k + 1) (uh k) ss ts hx hy
end Sh
theorem vg{x:Str}(h:x.length<=16777216):bK (.str x)=some (.int x.length):=by
 have:=xG (l:=x.cps.toList) (by rw[<-e9];exact h)
 rw[BA,<-e9]at this
 exact this
theorem vd(a b:Nat):decide ([a] < [b])=decide (a < b):=by
 congr 1
 apply propext
 rw[List.cons_lt_cons_iff]
 simp
theorem Cj(c:Nat):(!decide ([c] < (Str.ofString "a").cps.toList))=decide (97<=c):=by
 have e:(Str.ofString "a").cps.toList=[97]:=by decide
 rw[e,vd]
 by_cases h:97<=c
 ·simp[h]
 ·simp[h];lia
theorem Ci(c:Nat):(!decide ((Str.ofString "z").cps.toList < [c]))=decide (c<=122):=by
 have e:(Str.ofString "z").cps.toList=[122]:=by decide
 rw[e,vd]
 by_cases h:c<=122
 ·simp[h]
 ·simp[h];lia
def xD(x:Str):Bool:=x.cps.toList.all fun c=>decide (97<=c) && decide (c<=122)
def isT(M:Int)(x:Str):Bool:=decide (1<=(x.length:Int)) && (decide ((x.length:Int)<=M) && xD x)
def isL(M:Int):D->Bool
 |.str x=>isT M x
 |_=>false
def Tst(a b:List Nat):Bool:=a.isPrefixOf b || b.isPrefixOf a || (decide (a.length=b.length) && decide ((a.zip b).countP (fun p=>p.1 != p.2)<=1)) || a.all fun c=>c == a.headD 0
theorem tU(l:List Nat)(i j:Nat):Tst (l.take (1 + i)) (l.take (1 + j))=true:=by
 unfold Tst
 rcases Nat.le_total i j with h |h
 ·rw[List.isPrefixOf_iff_prefix.mpr (List.take_prefix_take_left (by lia))];rfl
 ·rw[List.isPrefixOf_iff_prefix.mpr (show l.take (1 + j) <+: l.take (1 + i) from List.take_prefix_take_left (by lia)),EJ];rfl
theorem m3(u:List Nat):(u.zip u).countP (fun p=>p.1 != p.2)=0:=by
 induction u with
 |nil=>rfl
 |cons x r ih=>rw[List.zip_cons_cons,List.countP_cons,ih];simp
theorem wy(u v:List Nat)(x y:Nat):Tst (u ++ [x] ++ v) (u ++ [y] ++ v)=true:=by
 have h:((u ++ [x] ++ v).zip (u ++ [y] ++ v)).countP (fun p=>p.1 != p.2)<=1:=by
  rw[List.zip_append (by simp),List.zip_append rfl,FC,FC,m3,m3]
  have:=List.countP_le_length (p:=fun p:Nat×Nat=>p.1 != p.2) (l:=[x].zip [y])
  simpa using this
 unfold Tst
 rw[Df h,Df (show(u ++ [x] ++ v).length=(u ++ [y] ++ v).length by simp)]
 simp
theorem wx(n x:Nat)(b:List Nat):Tst (List.replicate (1 + n) [x]).flatten b=true:=by
 have e:(List.replicate (1 + n) [x]).flatten=x :: (List.replicate n [x]).flatten:=by rw[Nat.add_comm,DW];rfl
 unfold Tst
 rw[show((List.replicate (1 + n) [x]).flatten.all fun c=>c == (List.replicate (1 + n) [x]).flatten.headD 0)=true from ?_,EJ]
 rw[Dj]
 intro c hc
 obtain⟨y,hy,hcy⟩:=List.mem_flatten.mp hc
 rw[(List.mem_replicate.mp hy).2]at hcy
 rw[List.mem_singleton.mp hcy,e]
 simp
abbrev bP:List Str:=["ann","bob","cy","dee","eve","flo","gus","hal"]
theorem wb:bP.Nodup:=by decide
theorem rF:∀x ∈ bP,isT 8 x=true:=by decide
theorem wa:∀x ∈ bP,∀y ∈ bP,x ≠ y->Tst x.cps.toList y.cps.toList=false:=by decide
theorem zY{α:Type}[DecidableEq α]:∀{l:List α},l.Nodup->(∀x ∈ l,∀y ∈ l,x=y)->l.length<=1
 | [],_,_=>by simp
 | [_],_,_=>by simp
 |x :: y :: r,h,e=>by
  have:=e x (by simp) y (by simp)
  subst this
  simp at h
theorem u_{names:List Str}(h:∀x ∈ names,∀y ∈ names,Tst x.cps.toList y.cps.toList=true):∃a b,(bP.filter fun x => !decide (x ∈ names)).take 2=[a,b]/\a ∈ bP/\b ∈ bP:=by
 have h1:(bP.filter fun x=>decide (x ∈ names)).length<=1:=zY (wb.filter _) fun x hx y hy=>by
  rw[Fm]at hx hy
  have hx2:x ∈ names:=by simpa using hx.2
  have hy2:y ∈ names:=by simpa using hy.2
  refine Du fun n=>?_
  have:=wa x hx.1 y hy.1 n
  rw[h x hx2 y hy2]at this
  cases this
 have h2:bP.length=(bP.filter fun x=>decide (x ∈ names)).length + (bP.filter fun x => !decide (x ∈ names)).length:=by
  rw[<-List.countP_eq_length_filter,<-List.countP_eq_length_filter]
  rw[List.length_eq_countP_add_countP (fun x=>decide (x ∈ names))]
  congr 2
  funext x
  by_cases hx:x ∈ names <;> simp[hx]
 have hm:∀x ∈ bP.filter (fun x => !decide (x ∈ names)),x ∈ bP:=fun x hx=>(List.mem_filter.mp hx).1
 revert hm h2
 generalize bP.filter (fun x => !decide (x ∈ names))=L
 intro h2 hm
 have h3:bP.length=8:=rfl
 match L,h2,hm with
 | [],h2,_=>simp at h2;lia
 | [_],h2,_=>simp at h2;lia
 |a :: b :: r,_,hm=>exact⟨a,b,rfl,hm a (by simp),hm b (by simp)⟩
namespace Sh
open L2.Cu.Wk
theorem kU(c mI MI:Int)(m M:Nat)(hmI:mI=m)(hMI:MI=M)(hm:m<=M)(hM:M<=12)(hM1:1<=M):wp (cR [.int c,.int mI,.int MI]) fun d=>∃ss:List Str,d=.lst (ss.map D.str)/\ss.length=m/\ss.Nodup/\(∀x ∈ ss,Wd M x)/\∀x ∈ ss,∀y ∈ ss,Tst x.cps.toList y.cps.toList=true:=by
 have hM0:(0:Int) < MI:=by lia
 have h26:m<=26:=CZ hm (CZ hM (by decide))
 have fin:∀f:Nat->List Nat,(∀i j,i < m->j < m->f i=f j->i=j)->(∀i,i < m->1<=(f i).length/\(f i).length<=M/\yv (f i))->(∀i j,i < m->j < m->Tst (f i) (f j)=true)->∃ss:List Str,D.lst ((List.range m).map fun k=>D.str (mk (f k)))=.lst (ss.map D.str)/\ss.length=m/\ss.Nodup/\(∀x ∈ ss,Wd M x)/\∀x ∈ ss,∀y ∈ ss,Tst x.cps.toList y.cps.toList=true:=fun f h1 h2 h3 =>
  ⟨(List.range m).map fun k=>mk (f k),by rw[Dq];rfl,by simp,nL _ m fun i j hi hj e=>h1 i j hi hj (z8.mp e),fun x hx=>by
   obtain⟨k,hk,rfl⟩:=List.mem_map.mp hx
   obtain⟨a,b,c⟩:=h2 k (List.mem_range.mp hk)
   exact Wd.mk' a b c,fun x hx y hy=>by
   obtain⟨k,hk,rfl⟩:=List.mem_map.mp hx
   obtain⟨j,hj,rfl⟩:=List.mem_map.mp hy
   rw[cg,cg]
   exact h3 k j (List.mem_range.mp hk) (List.mem_range.mp hj)⟩
 have hs0:0<=c / 3 % MI:=Dt _ (by lia)
 have hs1:c / 3 % MI < MI:=Dn _ hM0
 generalize hsI:c / 3 % MI=sI at hs0 hs1
 have GG:(0:Int) < sI + 1:=by lia
 have ha0:0<=c / 40 % (sI + 1):=Dt _ (by lia)
 have ha1:c / 40 % (sI + 1) < sI + 1:=Dn _ GG
 generalize haI:c / 40 % (sI + 1)=aI at ha0 ha1
 obtain⟨sz,hsz⟩:∃sz:Nat,sI=sz:=⟨sI.toNat,by lia⟩
 obtain⟨at',hat⟩:∃at':Nat,aI=at':=⟨aI.toNat,by lia⟩
 have Hf:at'<=sz:=by lia
 simp only[cR,iP,al,bF,bi,aU,aA,gc,bin,cst,var,ac,aa,ak,cD,aH,aY,CA,CC,CI,CJ,CK,CL,CG,CH,CD,CF,Cz,CB,List.replicate,Nat.reduceAdd,Nat.reduceSub,Int.reduceLT,Int.reduceLE,Int.reducePow,d5,aH hM0,wm,vY,hsI,aH GG,haI]
 rw[bW (by lia) (by lia),show MI.toNat=M by rw[hMI];rfl]
 simp only[al]
 refine f_ (fun i:Nat=>D.int (0 + i)) (List.range M) (fun pre E=>∃(c':Int) (l:List Nat) (sl:Sl),E=[Sl.val (D.int c'),Sl.val (D.int mI),Sl.val (D.int MI),Sl.val (D.str (mk (List.range' 97 26))),Sl.val (D.int (c % 3)),Sl.val (D.int sI),Sl.val (D.int aI),Sl.val (D.str (mk l)),sl]/\l.length=pre.length/\yv l) ?_ ?_ ?_ ?_
 ·rfl
 ·exact⟨c / 600,[],Sl.no,rfl,rfl,fun c h=>by cases h⟩
 ·rintro pre k post E hs ⟨c',l,sl,rfl,hl,FY⟩
  have hl':pre.length < 12:=by
   have:=DK List.length hs
   simp at this
   lia
  have h0:0<=c' % 26:=Dt _ (by decide)
  have h1:c' % 26 < 26:=Dn _ (by decide)
  simp only[al,bo,de,bi,aU,aA,bin,cst,ac,nmG,aH,aY,CA,CD,CF,Cz,CB,Int.reduceLT,Int.reduceLE,Int.reducePow,iF h0 h1]
  rw[mY (by simp;lia)]
  simp only[al]
  refine⟨_,_,_,rfl,by simp[hl],fun x hx=>?_⟩
  rcases List.mem_append.mp hx with h |h
  ·exact FY x h
  ·rw[List.mem_singleton.mp h];exact p8 _
 ·rintro E ⟨c',l,sl,rfl,hl,FY⟩
  rw[D8]at hl
  have hz:l.length<=16777216:=by lia
  simp only[al,bi,aU,dJ,bin,cst,ac,tst,asB,CA,Cz,CB,gr]
  refine jo (fun h=>?_) fun h=>?_
  ·simp only[bo,de,du,bx,ba,var,aa,ak,cD,aW,bn,CA,CC,CD,CF,Cz,CB,CM,DL]
   rw[bW (by lia) (by lia),show mI.toNat=m by rw[hmI];rfl]
   simp only[al]
   refine gM (qw (by simp[cN];lia)) ?_
   rw[show cN 0 m=(List.range m).map (fun i:Nat=>D.int (0 + i)) from rfl,dH (fun i:Nat=>D.int (0 + i)) (fun k=>D.str (mk (l.take (1 + k)))) (List.range m) fun k hk=>?_]
   ·simp only[al,CC]
    have ht:∀i,i < m->(l.take (1 + i)).length=1 + i:=fun i hi=>Fh (by lia)
    refine fin _ (fun i j hi hj e=>?_) (fun i hi=>⟨by rw[ht i hi];exact Nat.le_add_right 1 i,by rw[ht i hi];lia,fun c hc=>FY c (EL hc)⟩) fun i j _ _=>tU l i j
    have:=DK List.length e
    rw[ht i hi,ht j hj]at this
    exact Nat.add_left_cancel this
   ·refine cb ?_
    simp only[al,bin,cst,ac,noP,di,cA,CA,CD,CF,Cz,CB,d5,ue hz]
    rw[show(1:Int) + (0 + (k:Nat))=((1 + k:Nat):Int) by lia,qb]
  ·simp only[al,bi,aU,dJ,bh,bin,cst,ac,tst,asB,CA,Cz,CB,gr]
   refine jo (fun h2=>?_) fun h2=>?_
   ·simp only[bo,de,du,bx,ba,var,aa,ak,cD,aW,bn,CA,CC,CD,CF,Cz,CB,CM,DL]
    rw[bW (by lia) (by lia),show mI.toNat=m by rw[hmI];rfl]
    simp only[al]
    refine gM (qw (by simp[cN];lia)) ?_
    rw[show cN 0 m=(List.range m).map (fun i:Nat=>D.int (0 + i)) from rfl,dH (fun i:Nat=>D.int (0 + i)) (fun k:Nat=>D.str (mk (l.take at' ++ [97 + ((c' + k) % 26).toNat] ++ (l.take sz).drop at'))) (List.range m) fun k hk=>?_]
    ·simp only[al,CC]
     have ht:∀y:Nat,(l.take at' ++ [y] ++ (l.take sz).drop at').length=sz + 1:=fun y=>by
      rw[C8,C8,EK,Fh (by lia),Fh (by lia),Dw];lia
     refine fin _ (fun i j hi hj e=>?_) (fun i hi=>⟨by rw[ht];exact Nat.le_add_left 1 sz,by rw[ht];lia,fun c hc=>?_⟩) fun i j _ _=>wy _ _ _ _
     ·have e1:=List.append_cancel_right e
      have e2:=List.append_cancel_left e1
      injection e2 with e3
      exact vZ (C6 hi h26) (C6 hj h26) e3
     ·simp only[ER]at hc
      rcases hc with(hc |hc) |hc
      ·exact FY c (EL hc)
      ·rw[List.mem_singleton.mp hc];exact p8 _
      ·exact FY c (EL (List.mem_of_mem_drop hc))
    ·refine cb ?_
     have h0:0<=(c' + (0 + (k:Nat))) % 26:=Dt _ (by decide)
     have h1:(c' + (0 + (k:Nat))) % 26 < 26:=Dn _ (by decide)
     simp only[bo,bin,cst,var,ac,noP,di,cA,aH,CA,CD,CF,Cz,CB,Int.reduceLT,d5,ue hz,iF h0 h1]
     rw[hat,hsz,qb,rC]
     have hx:(l.take at').length<=l.length:=List.length_take_le' ..
     have hy:((l.take sz).drop at').length<=l.length:=CZ (by rw[EK];exact Nat.sub_le _ _) (List.length_take_le' sz l)
     have hlm:l.length<=12:=by lia
     rw[mY (CZ (Nat.add_le_add (CZ hx hlm) (CV _)) (by simp only[Dw];decide))]
     simp only[al]
     rw[mY (CZ (Nat.add_le_add (by rw[C8];exact Nat.add_le_add (CZ hx hlm) (CV _)) (CZ hy hlm)) (by simp only[Dw];decide))]
     simp only[al]
     rw[show c' + (0 + (k:Int))=c' + k by lia]
   ·simp only[al,bo,de,aU,bx,ba,bh,var,aa,ak,cD,aW,bn,CA,CC,CD,CF,Cz,CB,CM,DL]
    rw[bW (by lia) (by lia),show mI.toNat=m by rw[hmI];rfl]
    simp only[al]
    refine gM (qw (by simp[cN];lia)) ?_
    rw[show cN 0 m=(List.range m).map (fun i:Nat=>D.int (0 + i)) from rfl,dH (fun i:Nat=>D.int (0 + i)) (fun k:Nat=>D.str (mk (List.replicate (1 + sz) [97 + ((c' + k) % 26).toNat]).flatten)) (List.range m) fun k hk=>?_]
    ·simp only[al,CC]
     refine fin _ (fun i j hi hj e=>?_) (fun i hi=>⟨by simp,by simp;lia,fun c hc=>?_⟩) fun i j _ _=>wx _ _ _
     ·rw[Nat.add_comm 1 sz,DW,DW,E_,E_]at e
      injection e with e3
      exact vZ (C6 hi h26) (C6 hj h26) e3
     ·obtain⟨y,hy,hcy⟩:=List.mem_flatten.mp hc
      rw[(List.mem_replicate.mp hy).2]at hcy
      rw[List.mem_singleton.mp hcy];exact p8 _
    ·refine cb ?_
     have h0:0<=(c' + (0 + (k:Nat))) % 26:=Dt _ (by decide)
     have h1:(c' + (0 + (k:Nat))) % 26 < 26:=Dn _ (by decide)
     simp only[bin,cst,ac,aH,CA,CD,CF,Cz,CB,Int.reduceLT,d5,iF h0 h1]
     rw[xA (by lia) (by lia) (by simp;lia)]
     simp only[al]
     rw[show c' + (0 + (k:Int))=c' + k by lia,show((1:Int) + sI).toNat=1 + sz by lia]
theorem k7(k:Nat)(ds:List D)(h:∀d ∈ ds,aP k [d,d]=some (.bl true))(hx:ds.length<=4000000):aP (k + 1) [.tup ds,.tup ds]=some (.bl true):=by
 have hc:bD (nmG 2) noT (ax 2 (aP k) (aa (bin ixE (ac 0) (ac 2)) (aa (bin ixE (ac 1) (ac 2)) ak))) [Sl.val (D.tup ds),Sl.val (D.tup ds),Sl.no] (cN 0 ds.length)=some ((List.range ds.length).map fun _=>D.bl true):=by
  rw[nr]
  refine dH _ _ _ fun i hi=>?_
  rw[List.mem_range]at hi
  refine cb ?_
  simp only[al,bin,ac,ax,aa,ak,CA,CC,CG,CH,CD,CF,Cz,CB,reduceIte,Nat.reduceAdd,jm,jv,C0 hi,h _ (DB hi)]
 have hz:(cN 0 ds.length).length<=16777216:=by simp[cN];lia
 have hr:g9 [D.int (ds.length:Int)]=some (cN 0 ds.length):=by rw[bW (by lia) (by lia),DF]
 have hb:((List.range ds.length).map fun _=>true).all id=true:=by simp
 refine cb ?_
 simp only[aP,d3,al,bF,bi,aU,du,bx,dJ,eM,eN,ba,bh,bin,un,ac,tst,asB,fF,orT,aa,ak,cD,isF,dR,jd,aW,bn,gY,tyN,CA,CC,CI,CJ,CK,CL,CG,CH,CD,CF,Cz,CB,List.replicate,CM,DL,reduceIte,Nat.reduceAdd,Nat.reduceSub,Fc,Da,EN,gI,String.reduceBEq,DA,D_,FD,hX,dj,fL,hr,hc,dj hz,fW (fun _:Nat=>true),hb]
theorem uj(k:Nat)(ss:List Str)(h:ss.length<=4000000):aP (k + 2) [ii ss,ii ss]=some (.bl true):=by
 have:=rU k ss ss h h
 rwa [Df rfl]at this
theorem zi(k:Nat)(s:Sp)(h1:s.1.length<=4000000)(h2:s.2.length<=4000000):aP (k + 3) [aw s,aw s]=some (.bl true):=by
 refine k7 (k + 2) _ (fun d hd=>?_) (by simp)
 rcases List.mem_cons.mp hd with rfl |hd
 ·exact uj k _ h1
 ·rw[List.mem_singleton.mp hd];exact uj k _ h2
end Sh
theorem qP(a b:Str):decide ((Sum.inr a:Key)=Sum.inr b)=decide (a=b):=by
 by_cases h:a=b
 ·simp[h]
 ·simp[h]
theorem nB{n x:Nat}{pre post:List Nat}(h:List.range n=pre ++ x :: post):x=pre.length/\x < n:=by
 have h1:(List.range n)[pre.length]? = some x:=by rw[h];simp
 obtain⟨h2,h3⟩:=List.getElem?_eq_some_iff.mp h1
 rw[List.getElem_range]at h3
 rw[D8]at h2
 exact⟨h3.symm,by lia⟩
abbrev Ca:=List (Str×Str)
def jI(m:Ca)(n t:Str):Ca:=if(m.any fun q=>decide (q.1=n))=true then m.map (fun q=>if q.1=n then(q.1,t) else q) else m ++ [(n,t)]
def ag(m:Ca):List (Key×D):=m.map fun q=>(Sum.inr q.1,D.str q.2)
theorem uw(m:Ca)(n t:Str):ff (ag m) (.inr n) (.str t)=ag (jI m n t):=by
 have ha:((ag m).any fun kv=>decide (kv.1=Sum.inr n))=m.any fun q=>decide (q.1=n):=by
  unfold ag
  rw[List.any_map]
  congr 1
  funext q
  exact qP q.1 n
 unfold ff jI
 rw[ha]
 split
 ·unfold ag
  rw[Dq,Dq]
  refine Fw fun q _=>?_
  by_cases h:q.1=n
  ·simp[h]
  ·simp[h]
 ·unfold ag;simp
def plr(m:Ca)(n:Str):Str:=((m.find? fun q=>decide (q.1=n)).map (·.2)).getD n
theorem m7(m:Ca)(n:Str):(cj (ag m) (.inr n)).getD (.str n)=.str (plr m n):=by
 unfold cj plr ag
 induction m with
 |nil=>rfl
 |cons q r ih =>
  rw[CI,DO,DO,qP]
  cases decide (q.1=n)
  ·exact ih
  ·rfl
structure OkC (m:Ca):Prop where
 nd:(m.map (·.1)).Nodup
 t1:∀u ∈ m,isT 8 u.1=true
 t2:∀u ∈ m,isT 8 u.2=true
theorem nV{m:Ca}{n t:Str}{u:Str×Str}(h:u ∈ jI m n t):u ∈ m\/(u.2=t/\u.1=n):=by
 unfold jI at h
 split at h
 ·obtain⟨q,hq,rfl⟩:=List.mem_map.mp h
  by_cases e:q.1=n
  ·rw[if_pos e];exact .inr ⟨rfl,e⟩
  ·rw[if_neg e];exact .inl hq
 ·rcases List.mem_append.mp h with h |h
  ·exact .inl h
  ·rw[List.mem_singleton.mp h];exact .inr ⟨rfl,rfl⟩
theorem n6(m:Ca)(n t:Str):(jI m n t).length<=m.length + 1:=by
 unfold jI
 split
 ·rw[CQ];lia
 ·rw[C8];simp
theorem OkC.put{m:Ca}(h:OkC m){n t:Str}(hn:isT 8 n=true)(ht:isT 8 t=true):OkC (jI m n t):=by
 refine⟨?_,fun u hu=>(nV hu).elim (h.t1 u) fun e=>by rw[e.2];exact hn,fun u hu=>(nV hu).elim (h.t2 u) fun e=>by rw[e.1];exact ht⟩
 unfold jI
 split
 ·rw[Dq,show(m.map ((·.1) ∘ fun q=>if q.1=n then(q.1,t) else q))=m.map (·.1) from Fw fun q _=>by
   show(if q.1=n then(q.1,t) else q).1=q.1
   split <;> rfl]
  exact h.nd
 ·rename_i ha
  rw[Dk,List.nodup_append]
  refine⟨h.nd,by simp,fun a ha' b hb=>?_⟩
  rw[CI,CJ,Ex]at hb
  subst hb
  rintro rfl
  obtain⟨q,hq,e⟩:=List.mem_map.mp ha'
  exact ha (List.any_eq_true.mpr ⟨q,hq,by simpa using e⟩)
theorem OkC.nil:OkC []:=⟨List.nodup_nil,fun _ h=>(by cases h),fun _ h=>(by cases h)⟩
theorem sD{a b:List Str}(h:∀x,x ∈ a ↔ x ∈ b)(ha:a ≠ []):dQ a=dQ b:=by
 have hb:b ≠ []:=fun e=>ha (List.eq_nil_iff_forall_not_mem.mpr fun x hx=>by rw[h x,e]at hx;cases hx)
 have h1:=qM ((h _).mpr (jQ hb))
 have h2:=qM ((h _).mp (jQ ha))
 refine ji (List.le_antisymm (List.not_lt.mp h1) (List.not_lt.mp h2))
def df(pl ah:List Str):List Str:=pl.filter fun x=>decide ((1:Int) < (pl.countP (· == x):Nat)) || decide (x ∈ ah)
def Met(ah ps ms:List Str):Prop:=∀x,x ∈ ms ↔ x ∈ ps/\(1 < ps.countP (· == x)\/x ∈ ah)
theorem vb(pl ah:List Str):Met ah pl (df pl ah):=fun x=>by
 unfold df
 rw[Fm,Bool.or_eq_true,FG,FG]
 constructor
 ·rintro⟨h1,h2 |h2⟩
  ·exact⟨h1,.inl (by lia)⟩
  ·exact⟨h1,.inr h2⟩
 ·rintro⟨h1,h2 |h2⟩
  ·exact⟨h1,.inl (by lia)⟩
  ·exact⟨h1,.inr h2⟩
theorem Met.nil(ah:List Str):Met ah [] []:=fun x=>by simp
theorem Met.snoc{ah ps ms:List Str}(h:Met ah ps ms)(y:Str):Met ah (ps ++ [y]) (if y ∈ ps\/y ∈ ah then ms ++ [y] else ms):=fun x=>by
 have hc:∀z,z ∈ ps ↔ 0 < ps.countP (· == z):=fun z=>by
  rw[List.countP_pos_iff]
  exact⟨fun hz=>⟨z,hz,by simp⟩,fun⟨w,hw,e⟩=>by rw[<-FR e];exact hw⟩
 have hx:=h x
 rw[FC,ER,Ex,List.countP_singleton]
 by_cases e:x=y
 ·subst e
  have e1:(if(x == x)=true then 1 else 0)=1:=by simp
  rw[e1]
  by_cases hp:x ∈ ps\/x ∈ ah
  ·rw[if_pos hp,ER,Ex]
   refine⟨fun _=>⟨.inr rfl,?_⟩,fun _=>.inr rfl⟩
   rcases hp with hp |hp
   ·exact .inl (by have:=(hc x).mp hp;lia)
   ·exact .inr hp
  ·rw[if_neg hp,hx]
   refine⟨fun z=>absurd (.inl z.1) hp,fun z=>?_⟩
   rcases z.2 with z |z
   ·exact absurd (.inl ((hc x).mpr (by lia))) hp
   ·exact absurd (.inr z) hp
 ·have e1:(if(y == x)=true then 1 else 0)=0:=by
   have:¬(y == x)=true:=fun z=>e (FR z).symm
   rw[if_neg this]
  rw[e1,Nat.add_zero]
  by_cases hp:y ∈ ps\/y ∈ ah
  ·rw[if_pos hp,ER,Ex,hx];simp[e]
  ·rw[if_neg hp,hx];simp[e]
theorem Met.eq_nil{ah ps a b:List Str}(ha:Met ah ps a)(hb:Met ah ps b):a=[] ↔ b=[]:=by
 rw[List.eq_nil_iff_forall_not_mem,List.eq_nil_iff_forall_not_mem]
 exact⟨fun h x hx=>h x ((ha x).mpr ((hb x).mp hx)),fun h x hx=>h x ((hb x).mpr ((ha x).mp hx))⟩
theorem Met.min{ah ps a b:List Str}(ha:Met ah ps a)(hb:Met ah ps b)(h:a ≠ []):dQ a=dQ b:=sD (fun x=>(ha x).trans (hb x).symm) h
inductive Wk where
 |ok (q:List Sp) |bad (k:Nat) (n:Str)
def plS(m:Ca)(s:Sp):List Str:=s.1.map (plr m)
def Wk.cns(q:List Sp):Wk->Wk
 |.ok r=>.ok (q ++ r)
 |.bad k n=>.bad k n
def wk(m:Ca):List Str->Nat->List Sp->Wk
 |_,_,[]=>.ok []
 |ah,k,s :: r=>if df (plS m s) ah=[] then(wk m (plS m s) (k + 1) r).cns [(aZ (plS m s),s.2)] else .bad k (dQ (df (plS m s) ah))
theorem yj(a b:List Sp)(w:Wk):(w.cns b).cns a=w.cns (a ++ b):=by cases w <;> simp[Wk.cns]
theorem yi(w:Wk):w.cns []=w:=by cases w <;> rfl
theorem tJ{m:Ca}:∀{p:List Sp}{ah:List Str}{k:Nat}{q:List Sp},wk m ah k p=.ok q->q.length=p.length/\∀t ∈ q,∃s ∈ p,t.1=aZ (plS m s)/\t.2=s.2
 | [],_,_,_,h=>by cases h;exact⟨rfl,fun _ h=>(by cases h)⟩
 |s :: r,ah,k,q,h=>by
  unfold wk at h
  split at h
  ·cases hw:wk m (plS m s) (k + 1) r with
   |ok q' =>
    rw[hw]at h
    cases h
    obtain⟨h1,h2⟩:=tJ hw
    refine⟨by simp[h1],fun t ht=>?_⟩
    rcases List.mem_append.mp ht with ht |ht
    ·rw[List.mem_singleton.mp ht];exact⟨s,by simp,rfl,rfl⟩
    ·obtain⟨s',h3,h4⟩:=h2 t ht
     exact⟨s',CY _ h3,h4⟩
   |bad _ _=>rw[hw]at h;cases h
  ·cases h
namespace Wk
theorem nY{x:Str}{m:Int}(hx:x.length<=16777216):bX [.str x,.int m]=some (.bl (isT m x)):=by
 have hs:(fH x).length<=16777216:=by
  unfold fH
  rw[CQ,<-e9];exact hx
 have hc:bD (nmG 2) noT (fV leD leD (cst (D.str (Str.ofString "a"))) (ac 2) (cst (D.str (Str.ofString "z")))) [Sl.val (D.str x),Sl.val (D.int m),Sl.no] (fH x)=some (x.cps.toList.map fun c=>D.bl (decide (97<=c) && decide (c<=122))):=by
  refine gw (fun c:Nat=>D.str ⟨#[c]⟩) (fun c=>D.bl (decide (97<=c) && decide (c<=122))) x.cps.toList fun c _=>?_
  simp only[al,fV,cst,ac,asB,nmG,noT,mm,CA,CD,CF,Cz,CB,true_and,D9]
  rw[Cj]
  by_cases h:97<=c
  ·simp only[h,reduceIte,EN,E9,D.bl.injEq,D9];rw[Ci]
  ·simp only[h,reduceIte,Da,ET,Ef]
 refine cb ?_
 simp only[bX,dC,bo,de,bF,bx,ba,un,fV,cst,var,ac,asB,gX,cc,isF,dR,jd,aW,bn,mn,b_,tyN,CA,CI,CJ,CK,CL,CG,CH,CD,CF,Cz,CB,List.replicate,CM,DL,reduceIte,Nat.reduceAdd,Nat.reduceSub,Da,gI,String.reduceBEq,DA,D_,FD,vg hx,isT]
 by_cases h1:1<=(x.length:Int)
 ·by_cases h2:(x.length:Int)<=m
  ·simp only[h1,h2,al,gY,CA,CC,reduceIte,EN,D.bl.injEq,D9,dj,hs,hc,fW,List.all_map,xD]
   rfl
  ·simp only[h1,h2,al,reduceIte,Da,EN,ET,D0,Ef]
 ·simp only[h1,al,reduceIte,Da,ET,Ef]
def SmN(d:D):Prop:=(∃x,d=.str x/\x.length<=1000)\/(isL 8 d=false/\jd d=false/\gI (tyN d) "str" = false)
theorem qL{d:D}(h:SmN d):bz [d]=some (.bl (isL 8 d)):=by
 rcases h with⟨x,rfl,hx⟩ |⟨h1,h2,h3⟩
 ·refine cb ?_
  simp only[bz,gy,al,bF,bx,ba,cst,var,ax,aa,ak,CA,CC,CI,CJ,CK,CL,CG,CH,Cz,List.replicate,reduceIte,Nat.reduceAdd,Nat.reduceSub,D.bl.injEq,nY (show x.length<=16777216 by lia)]
  rfl
 ·have e:bX [d,.int 8]=some (.bl false):=by
   refine cb ?_
   simp only[bX,dC,bF,al,bo,de,ba,gX,isF,dR,h2,h3,ac,CG,CH,Nat.reduceAdd,Nat.reduceSub,CI,CJ,CK,CL,Cz,asB,Da,reduceIte,bx,En]
  refine cb ?_
  simp only[bz,gy,al,bF,bx,ba,cst,var,ax,aa,ak,CA,CC,CI,CJ,CK,CL,CG,CH,Cz,List.replicate,reduceIte,Nat.reduceAdd,Nat.reduceSub,D.bl.injEq,e]
  rw[h1]
theorem r9(m:Ca)(n:Str):bV [.dic (ag m),.str n]=some (.str (plr m n)):=by
 show some ((cj (ag m) (.inr n)).getD (.str n))=_
 rw[m7]
theorem pF(m:Ca)(ns:List Str)(E:DE)(h1:E[1]? = some (.val (.dic (ag m))))(h8:8 < E.length):bD (nmG 8) noT (ax 2 bV (aa (var 1) (aa (var 8) ak))) E (ns.map D.str)=some ((ns.map (plr m)).map D.str):=by
 rw[Dq]
 refine dH D.str (D.str ∘ plr m) ns fun n _=>?_
 have e1:(E.set 8 (.val (.str n)))[1]? = some (.val (.dic (ag m))):=by rw[CW (by decide)];exact h1
 have e8:(E.set 8 (.val (.str n)))[8]? = some (.val (.str n)):=D1 h8
 have hv:∀i d,(E.set 8 (.val (.str n)))[i]? = some (.val d)->var i (E.set 8 (.val (.str n)))=some d:=fun i d h=>by unfold var;rw[h]
 unfold ax aa ak
 rw[hv 1 _ e1,hv 8 _ e8]
 exact r9 m n
theorem pM(pl ah:List Str)(hl:pl.length<=1000):dF [.lst (pl.map D.str),.lst (ah.map D.str)]=some (.lst ((df pl ah).map D.str)):=by
 have hc:bD (nmG 2) (orT (tst (bin gtD (bin mQ (ac 0) (var 2)) (cst (.int 1)))) (tst (bin inE (ac 2) (ac 1)))) (var 2) [Sl.val (D.lst (pl.map D.str)),Sl.val (D.lst (ah.map D.str)),Sl.no] (pl.map D.str)=some ((df pl ah).map D.str):=by
  refine dB D.str (fun x=>decide ((1:Int) < (pl.countP (· == x):Nat)) || decide (x ∈ ah)) D.str pl fun x _=>?_
  simp only[al,bin,cst,var,ac,tst,asB,orT,nmG,jp,CA,CD,CF,Cz,CB,oX]
  refine⟨?_,fun _=>trivial⟩
  rw[mw]
  cases decide ((1:Int) < (pl.countP (· == x):Nat)) <;> rfl
 have hz:(pl.map D.str).length<=16777216:=by rw[CQ];lia
 refine cb ?_
 simp only[dF,iO,al,bF,bx,ba,var,cc,aW,bn,b_,CA,CC,CI,CJ,CK,CL,CG,CH,CD,CF,Cz,List.replicate,CM,DL,reduceIte,Nat.reduceAdd,Nat.reduceSub,dj,hz,hc]
end Wk
theorem sq1{f g:DE->Option Out}{E E':DE}(h:f E=some (.nx E')):ar f g E=g E':=by unfold ar;rw[h];rfl
theorem sq0{f g:DE->Option Out}{E:DE}(h:f E=none):ar f g E=none:=by unfold ar;rw[h];rfl
theorem sx1{f g:DE->Option bC}{E E':DE}(h:f E=some (.ok (.nx E'))):d8 f g E=g E':=by unfold d8;rw[h];rfl
theorem sxc{f g:DE->Option bC}{E E':DE}{n:Nat}{fs:List (Str×D)}(h:f E=some (.xc n fs E')):d8 f g E=some (.xc n fs E'):=by unfold d8;rw[h];rfl
theorem ox1{f:DE->Option Out}{E E':DE}(h:f E=some (.nx E')):okX f E=some (.ok (.nx E')):=by unfold okX;rw[h];rfl
theorem st1{i:Nat}{f:DE->Option D}{E:DE}{d:D}(h:f E=some d):aA i f E=some (.nx (E.set i (.val d))):=by unfold aA;rw[h];rfl
theorem szL{α:Type}{l:List α}(h:l.length<=1000):l.length<=sizeLine:=CZ h (by decide)
namespace Wk
abbrev itC:DE->Option D:=gX (ax 1 bz (aa (var 1) ak)) (ax 1 bz (aa (var 2) ak))
abbrev cpC:DE->Option D:=bn [1,2] (cc ft (var 0)) (eE 2 (a8 (nmG 1) (a8 (nmG 2) eK))) noT itC
abbrev tCa:DE->Option Bool:=orT (fF (tst (isF "dict" (ac 0)))) (fF (tst (un gY cpC)))
theorem t8{d:D}(h:dR "dict" d=some (.bl false)):tCa [.val d,.no,.no]=some true:=by
 have t1:tst (isF "dict" (ac 0)) [.val d,.no,.no]=some false:=by
  show((dR "dict" d).bind asB)=_
  rw[h];rfl
 unfold tCa orT fF
 rw[t1];rfl
theorem Ar{d a b:D}(ha:SmN a)(hb:SmN b):itC [.val d,.val a,.val b]=some (.bl (isL 8 a && isL 8 b)):=by
 show((bz [a]).bind fun x=>(asB x).bind fun c=>if c=true then bz [b] else some (.bl false))=_
 rw[qL ha,qL hb]
 cases isL 8 a <;> rfl
theorem jA{d:D}{ps:List (D×D)}(hty:dR "dict" d=some (.bl true))(hi:ft d=some (ps.map fun p=>.tup [p.1,p.2]))(hl:ps.length<=1000)(hs:∀p ∈ ps,SmN p.1/\SmN p.2) :
  tCa [.val d,.no,.no]=some (!(ps.all fun p=>isL 8 p.1 && isL 8 p.2)):=by
 have t1:tst (isF "dict" (ac 0)) [.val d,.no,.no]=some true:=by
  show((dR "dict" d).bind asB)=_
  rw[hty];rfl
 have hc:bD (eE 2 (a8 (nmG 1) (a8 (nmG 2) eK))) noT itC [.val d,.no,.no] (ps.map fun p=>.tup [p.1,p.2])=some (ps.map fun p=>D.bl (isL 8 p.1 && isL 8 p.2)) :=
  gw (fun p:D×D=>D.tup [p.1,p.2]) (fun p=>D.bl (isL 8 p.1 && isL 8 p.2)) ps fun p hp=>⟨rfl,Ar (hs p hp).1 (hs p hp).2⟩
 have t2:tst (un gY cpC) [.val d,.no,.no]=some (ps.all fun p=>isL 8 p.1 && isL 8 p.2):=by
  have e:cpC [.val d,.no,.no]=some (.lst (ps.map fun p=>D.bl (isL 8 p.1 && isL 8 p.2))):=by
   show((ft d).bind fun xs=>if xs.length<=sizeLine then(bD (eE 2 (a8 (nmG 1) (a8 (nmG 2) eK))) noT itC [.val d,.no,.no] xs).map D.lst else none)=_
   rw[hi,CA,if_pos (by rw[CQ];exact szL hl),hc];rfl
  show(((cpC [.val d,.no,.no]).bind gY).bind asB)=_
  rw[e]
  show(((mU (ps.map fun p=>D.bl (isL 8 p.1 && isL 8 p.2))).map fun bs=>D.bl (bs.all id)).bind asB)=_
  rw[fW (fun p:D×D=>isL 8 p.1 && isL 8 p.2)]
  show some ((ps.map fun p:D×D=>isL 8 p.1 && isL 8 p.2).all id)=_
  rw[List.all_map];rfl
 unfold tCa orT fF
 rw[t1]
 show((tst (un gY cpC) [.val d,.no,.no]).map (!·))=_
 rw[t2];rfl
theorem o2{d:D}(h:tCa [.val d,.no,.no]=some false):aG [d]=some .non/\bd [d]=some none:=by
 constructor
 ·show((ifS tCa noS bh [.val d,.no,.no]).bind _)=_
  unfold ifS
  rw[h];rfl
 ·show((ifX tCa (jj 1) (okX bh) [.val d,.no,.no]).bind _)=_
  unfold ifX
  rw[h];rfl
theorem yk{d:D}(h:tCa [.val d,.no,.no]=some true):aG [d]=none/\bd [d]=some (some (1,[])):=by
 constructor
 ·show((ifS tCa noS bh [.val d,.no,.no]).bind _)=_
  unfold ifS
  rw[h];rfl
 ·show((ifX tCa (jj 1) (okX bh) [.val d,.no,.no]).bind _)=_
  unfold ifX
  rw[h];rfl
theorem xN{M:Int}{x:Str}(h:isT M x=true):(x.length:Int)<=M:=by
 unfold isT at h
 rw[C_,C_]at h
 exact DM h.2.1
theorem kZ{x:Str}(h:isT 8 x=true):SmN (.str x):=.inl ⟨x,rfl,by have:=xN h;lia⟩
theorem lP{m:Ca}(h:OkC m)(hl:m.length<=1000):tCa [.val (.dic (ag m)),.no,.no]=some false:=by
 have hi:ft (.dic (ag m))=some ((m.map fun u=>(D.str u.1,D.str u.2)).map fun p=>D.tup [p.1,p.2]):=by
  show some (List.map _ (List.map _ m))=_
  rw[Dq,Dq];rfl
 have:=jA rfl hi (by rw[CQ];exact hl) fun p hp=>by
  obtain⟨u,hu,rfl⟩:=List.mem_map.mp hp
  exact⟨kZ (h.t1 u hu),kZ (h.t2 u hu)⟩
 rw[this]
 have ha:((m.map fun u=>(D.str u.1,D.str u.2)).all fun p=>isL 8 p.1 && isL 8 p.2)=true:=by
  rw[Dj]
  intro p hp
  obtain⟨u,hu,rfl⟩:=List.mem_map.mp hp
  show(isT 8 u.1 && isT 8 u.2)=true
  rw[h.t1 u hu,h.t2 u hu];rfl
 rw[ha];rfl
abbrev gPr:D->DE->Option DE:=eE 2 (a8 (nmG 4) (a8 (nmG 5) eK))
abbrev f6:DE->Option D:=bn [8] (cc b_ (bin ixE (ac 5) (cst (.int 0)))) (nmG 8) noT (ax 2 bV (aa (var 1) (aa (var 8) ak)))
abbrev f7:DE->Option D:=ax 2 dF (aa (var 6) (aa (var 3) ak))
abbrev c7:DE->Option Bool:=tst (bin gtD (un bK (ac 7)) (cst (.int 0)))
abbrev a2:DE->Option Out:=dg 2 (bG (aa (un bt (un cJ (ac 6))) (aa (bin ixE (ac 5) (cst (.int 1))) ak)))
abbrev stF:DE->Option Out:=ar (aA 6 f6) (ar (aA 7 f7) (ar (ifS c7 noS bh) (ar a2 (aA 3 (var 6)))))
abbrev stX:DE->Option bC:=d8 (okX (aA 6 f6)) (d8 (okX (aA 7 f7)) (d8 (ifX c7 (d9 0 "place" "name" (var 4) (un gP (ac 7))) (okX bh)) (d8 (okX a2) (okX (aA 3 (var 6))))))
section
variable {m:Ca}{d0:D}{s:Sp}{k:Int}{acc:List Sp}{ah:List Str}{e6 e7:Sl}
theorem yS(hl:s.1.length<=1000):f6 [.val d0,.val (.dic (ag m)),.own (.lst (acc.map aw)),.val (.lst (ah.map D.str)),.val (.int k),.val (aw s),e6,e7,.no]=some (.lst ((plS m s).map D.str)):=by
 show(if(s.1.map D.str).length<=sizeLine then(bD (nmG 8) noT (ax 2 bV (aa (var 1) (aa (var 8) ak))) [.val d0,.val (.dic (ag m)),.own (.lst (acc.map aw)),.val (.lst (ah.map D.str)),.val (.int k),.val (aw s),e6,e7,.no] (s.1.map D.str)).map D.lst else none)=_
 have hp:=pF m s.1 [.val d0,.val (.dic (ag m)),.own (.lst (acc.map aw)),.val (.lst (ah.map D.str)),.val (.int k),.val (aw s),e6,e7,.no] rfl (show 8 < 9 by decide)
 rw[if_pos (by rw[CQ];exact szL hl),hp];rfl
theorem yR{pl:List Str}(hl:pl.length<=1000):f7 [.val d0,.val (.dic (ag m)),.own (.lst (acc.map aw)),.val (.lst (ah.map D.str)),.val (.int k),.val (aw s),.val (.lst (pl.map D.str)),e7,.no]=some (.lst ((df pl ah).map D.str)):=pM pl ah hl
theorem yU{pl ms:List Str}:c7 [.val d0,.val (.dic (ag m)),.own (.lst (acc.map aw)),.val (.lst (ah.map D.str)),.val (.int k),.val (aw s),.val (.lst (pl.map D.str)),.val (.lst (ms.map D.str)),.no]=some (!decide (ms=[])):=by
 show some (decide ((0:Int) < ((ms.map D.str).length:Nat)))=_
 rw[CQ]
 cases ms with
 |nil=>rfl
 |cons x r =>
  congr 1
  rw[C9 (List.cons_ne_nil x r)]
  exact Df (by rw[CG];lia)
theorem BU{pl ms:List Str}(hp:pl.length < 64)(ha:acc.length<=1000):a2 [.val d0,.val (.dic (ag m)),.own (.lst (acc.map aw)),.val (.lst (ah.map D.str)),.val (.int k),.val (aw s),.val (.lst (pl.map D.str)),.val (.lst (ms.map D.str)),.no] =
  some (.nx [.val d0,.val (.dic (ag m)),.own (.lst ((acc ++ [(aZ pl,s.2)]).map aw)),.val (.lst (ah.map D.str)),.val (.int k),.val (aw s),.val (.lst (pl.map D.str)),.val (.lst (ms.map D.str)),.no]):=by
 have hs:cJ (.lst (pl.map D.str))=some (.lst ((aZ pl).map D.str)):=iz hp
 have ht:bG (aa (un bt (un cJ (ac 6))) (aa (bin ixE (ac 5) (cst (.int 1))) ak)) [.val d0,.val (.dic (ag m)),.own (.lst (acc.map aw)),.val (.lst (ah.map D.str)),.val (.int k),.val (aw s),.val (.lst (pl.map D.str)),.val (.lst (ms.map D.str)),.no]=some (aw (aZ pl,s.2)):=by
  have e1:un bt (un cJ (ac 6)) [.val d0,.val (.dic (ag m)),.own (.lst (acc.map aw)),.val (.lst (ah.map D.str)),.val (.int k),.val (aw s),.val (.lst (pl.map D.str)),.val (.lst (ms.map D.str)),.no]=some (ii (aZ pl)):=by
   show(cJ (.lst (pl.map D.str))).bind bt=_
   rw[hs];rfl
  unfold bG aa
  rw[e1]
  show(if([ii (aZ pl),ii s.2]:List D).length<=sizeLine then some (D.tup [ii (aZ pl),ii s.2]) else none)=_
  rw[if_pos (show([ii (aZ pl),ii s.2]:List D).length<=sizeLine from(by decide:2<=sizeLine))];rfl
 unfold a2 dg
 rw[ht]
 show(if(acc.map aw).length < sizeLine then some (Out.nx [.val d0,.val (.dic (ag m)),.own (.lst (acc.map aw ++ [aw (aZ pl,s.2)])),.val (.lst (ah.map D.str)),.val (.int k),.val (aw s),.val (.lst (pl.map D.str)),.val (.lst (ms.map D.str)),.no]) else none)=_
 rw[if_pos (by rw[CQ];exact Dy ha (by decide)),Dk];rfl
abbrev stA(m:Ca)(d0:D)(acc:List Sp)(ah:List Str)(e4 e5 e6 e7:Sl):DE:=[.val d0,.val (.dic (ag m)),.own (.lst (acc.map aw)),.val (.lst (ah.map D.str)),e4,e5,e6,e7,.no]
theorem wC(hl:s.1.length < 64)(ha:acc.length<=1000)(h:df (plS m s) ah=[]){e4 e5:Sl} :
  (gPr (.tup [.int k,aw s]) (stA m d0 acc ah e4 e5 e6 e7)).bind stF=some (.nx (stA m d0 (acc ++ [(aZ (plS m s),s.2)]) (plS m s) (.val (.int k)) (.val (aw s)) (.val (.lst ((plS m s).map D.str))) (.val (.lst [])))) /\
  (gPr (.tup [.int k,aw s]) (stA m d0 acc ah e4 e5 e6 e7)).bind stX=some (.ok (.nx (stA m d0 (acc ++ [(aZ (plS m s),s.2)]) (plS m s) (.val (.int k)) (.val (aw s)) (.val (.lst ((plS m s).map D.str))) (.val (.lst []))))):=by
 have hpl:(plS m s).length=s.1.length:=by unfold plS;rw[CQ]
 have h6:=st1 (i:=6) (yS (m:=m) (d0:=d0) (s:=s) (k:=k) (acc:=acc) (ah:=ah) (e6:=e6) (e7:=e7) (by lia))
 have h7:=st1 (i:=7) (yR (m:=m) (d0:=d0) (s:=s) (k:=k) (acc:=acc) (ah:=ah) (e7:=e7) (pl:=plS m s) (by lia))
 rw[h]at h7
 have hc:=yU (m:=m) (d0:=d0) (s:=s) (k:=k) (acc:=acc) (ah:=ah) (pl:=plS m s) (ms:=[])
 have h2:=BU (m:=m) (d0:=d0) (s:=s) (k:=k) (acc:=acc) (ah:=ah) (pl:=plS m s) (ms:=[]) (by lia) ha
 have h3:∀E:DE,(∃d,E[6]? = some (.val d))->∃d,E[6]? = some (.val d)/\aA 3 (var 6) E=some (.nx (E.set 3 (.val d))):=fun E ⟨d,e⟩=>⟨d,e,st1 (by unfold var;rw[e])⟩
 have e5:gPr (.tup [.int k,aw s]) (stA m d0 acc ah e4 e5 e6 e7)=some [.val d0,.val (.dic (ag m)),.own (.lst (acc.map aw)),.val (.lst (ah.map D.str)),.val (.int k),.val (aw s),e6,e7,.no]:=rfl
 rw[e5,CA,CA]
 constructor
 ·refine(sq1 h6).trans ((sq1 h7).trans ((sq1 (E':=[.val d0,.val (.dic (ag m)),.own (.lst (acc.map aw)),.val (.lst (ah.map D.str)),.val (.int k),.val (aw s),.val (.lst ((plS m s).map D.str)),.val (.lst (([]:List Str).map D.str)),.no]) ?_).trans ((sq1 h2).trans rfl)))
  show ifS c7 noS bh [.val d0,.val (.dic (ag m)),.own (.lst (acc.map aw)),.val (.lst (ah.map D.str)),.val (.int k),.val (aw s),.val (.lst ((plS m s).map D.str)),.val (.lst (([]:List Str).map D.str)),.no]=_
  unfold ifS
  rw[hc];rfl
 ·refine(sx1 (ox1 h6)).trans ((sx1 (ox1 h7)).trans ((sx1 (E':=[.val d0,.val (.dic (ag m)),.own (.lst (acc.map aw)),.val (.lst (ah.map D.str)),.val (.int k),.val (aw s),.val (.lst ((plS m s).map D.str)),.val (.lst (([]:List Str).map D.str)),.no]) ?_).trans ((sx1 (ox1 h2)).trans rfl)))
  show ifX c7 (d9 0 "place" "name" (var 4) (un gP (ac 7))) (okX bh) [.val d0,.val (.dic (ag m)),.own (.lst (acc.map aw)),.val (.lst (ah.map D.str)),.val (.int k),.val (aw s),.val (.lst ((plS m s).map D.str)),.val (.lst (([]:List Str).map D.str)),.no]=_
  unfold ifX
  rw[hc];rfl
theorem za(hl:s.1.length < 64)(h:df (plS m s) ah ≠ []){e4 e5:Sl} :
  (gPr (.tup [.int k,aw s]) (stA m d0 acc ah e4 e5 e6 e7)).bind stF=none /\
  ∃E',(gPr (.tup [.int k,aw s]) (stA m d0 acc ah e4 e5 e6 e7)).bind stX=some (.xc 0 [("place",.int k),("name",.str (dQ (df (plS m s) ah)))] E'):=by
 have hpl:(plS m s).length=s.1.length:=by unfold plS;rw[CQ]
 have h6:=st1 (i:=6) (yS (m:=m) (d0:=d0) (s:=s) (k:=k) (acc:=acc) (ah:=ah) (e6:=e6) (e7:=e7) (by lia))
 have h7:=st1 (i:=7) (yR (m:=m) (d0:=d0) (s:=s) (k:=k) (acc:=acc) (ah:=ah) (e7:=e7) (pl:=plS m s) (by lia))
 have hc:=yU (m:=m) (d0:=d0) (s:=s) (k:=k) (acc:=acc) (ah:=ah) (pl:=plS m s) (ms:=df (plS m s) ah)
 rw[C9 h]at hc
 have e5:gPr (.tup [.int k,aw s]) (stA m d0 acc ah e4 e5 e6 e7)=some [.val d0,.val (.dic (ag m)),.own (.lst (acc.map aw)),.val (.lst (ah.map D.str)),.val (.int k),.val (aw s),e6,e7,.no]:=rfl
 rw[e5,CA,CA]
 constructor
 ·refine(sq1 h6).trans ((sq1 h7).trans (sq0 ?_))
  show ifS c7 noS bh [.val d0,.val (.dic (ag m)),.own (.lst (acc.map aw)),.val (.lst (ah.map D.str)),.val (.int k),.val (aw s),.val (.lst ((plS m s).map D.str)),.val (.lst ((df (plS m s) ah).map D.str)),.no]=_
  unfold ifS
  rw[hc];rfl
 ·refine⟨[.val d0,.val (.dic (ag m)),.own (.lst (acc.map aw)),.val (.lst (ah.map D.str)),.val (.int k),.val (aw s),.val (.lst ((plS m s).map D.str)),.val (.lst ((df (plS m s) ah).map D.str)),.no],(sx1 (ox1 h6)).trans ((sx1 (ox1 h7)).trans (sxc ?_))⟩
  show ifX c7 (d9 0 "place" "name" (var 4) (un gP (ac 7))) (okX bh) [.val d0,.val (.dic (ag m)),.own (.lst (acc.map aw)),.val (.lst (ah.map D.str)),.val (.int k),.val (aw s),.val (.lst ((plS m s).map D.str)),.val (.lst ((df (plS m s) ah).map D.str)),.no]=_
  unfold ifX
  rw[hc]
  show d9 0 "place" "name" (var 4) (un gP (ac 7)) [.val d0,.val (.dic (ag m)),.own (.lst (acc.map aw)),.val (.lst (ah.map D.str)),.val (.int k),.val (aw s),.val (.lst ((plS m s).map D.str)),.val (.lst ((df (plS m s) ah).map D.str)),.no]=_
  have hm:un gP (ac 7) [.val d0,.val (.dic (ag m)),.own (.lst (acc.map aw)),.val (.lst (ah.map D.str)),.val (.int k),.val (aw s),.val (.lst ((plS m s).map D.str)),.val (.lst ((df (plS m s) ah).map D.str)),.no]=some (.str (dQ (df (plS m s) ah))):=lr h
  unfold d9
  rw[hm];rfl
end
theorem jT{m:Ca}{d0:D}:∀(p:List Sp) (k:Nat) (acc:List Sp) (ah:List Str) (e4 e5 e6 e7:Sl),(∀s ∈ p,s.1.length < 64)->acc.length + p.length<=1000 ->
  (∀q,wk m ah k p=.ok q->∃ah' e4' e5' e6' e7',d_ (fun x E1=>(gPr x E1).bind stF) (dY (p.map aw) (k:Int)) (stA m d0 acc ah e4 e5 e6 e7)=some (.nx (stA m d0 (acc ++ q) ah' e4' e5' e6' e7'))) /\
  (∀j n,wk m ah k p=.bad j n->d_ (fun x E1=>(gPr x E1).bind stF) (dY (p.map aw) (k:Int)) (stA m d0 acc ah e4 e5 e6 e7)=none /\
   ∃E',hY (fun x E1=>(gPr x E1).bind stX) (dY (p.map aw) (k:Int)) (stA m d0 acc ah e4 e5 e6 e7)=some (.xc 0 [("place",.int (j:Int)),("name",.str n)] E'))
 | [],k,acc,ah,e4,e5,e6,e7,_,_=>by
  refine⟨fun q h=>?_,fun j n h=>?_⟩
  ·cases h
   exact⟨ah,e4,e5,e6,e7,by rw[DI];rfl⟩
  ·cases h
 |s :: r,k,acc,ah,e4,e5,e6,e7,hs,hl=>by
  have h1:s.1.length < 64:=hs s C1
  have hl':acc.length + (r.length + 1)<=1000:=hl
  have ee:dY ((s :: r).map aw) (k:Int)=.tup [.int (k:Int),aw s] :: dY (r.map aw) ((k + 1:Nat):Int):=rfl
  rw[ee]
  by_cases hm:df (plS m s) ah=[]
  ·obtain⟨g1,g2⟩:=wC (d0:=d0) (k:=(k:Int)) (e4:=e4) (e5:=e5) (e6:=e6) (e7:=e7) h1 (show acc.length<=1000 by lia) hm
   have hw:wk m ah k (s :: r)=(wk m (plS m s) (k + 1) r).cns [(aZ (plS m s),s.2)]:=by rw[wk,if_pos hm]
   obtain⟨i1,i2⟩:=jT (m:=m) (d0:=d0) r (k + 1) (acc ++ [(aZ (plS m s),s.2)]) (plS m s) (.val (.int (k:Int))) (.val (aw s)) (.val (.lst ((plS m s).map D.str))) (.val (.lst [])) (fun t ht=>hs t (CY _ ht)) (by rw[C8,Dw];lia)
   rw[hw]
   refine⟨fun q h=>?_,fun j n h=>?_⟩
   ·cases hr:wk m (plS m s) (k + 1) r with
    |ok q' =>
     rw[hr]at h
     cases h
     obtain⟨ah',a4,a5,a6,a7,e⟩:=i1 q' hr
     refine⟨ah',a4,a5,a6,a7,?_⟩
     rw[d_,g1]
     show d_ _ _ _=_
     rw[e,List.append_assoc]
    |bad _ _=>rw[hr]at h;cases h
   ·cases hr:wk m (plS m s) (k + 1) r with
    |ok q'=>rw[hr]at h;cases h
    |bad j' n' =>
     rw[hr]at h
     cases h
     obtain⟨q1,E',q2⟩:=i2 _ _ hr
     refine⟨?_,E',?_⟩
     ·rw[d_,g1];exact q1
     ·rw[hY,g2];exact q2
  ·obtain⟨g1,E',g2⟩:=za (d0:=d0) (acc:=acc) (k:=(k:Int)) (e4:=e4) (e5:=e5) (e6:=e6) (e7:=e7) h1 hm
   have hw:wk m ah k (s :: r)=.bad k (dQ (df (plS m s) ah)):=by rw[wk,if_neg hm]
   rw[hw]
   refine⟨fun q h=>(by cases h),fun j n h=>?_⟩
   cases h
   refine⟨?_,E',?_⟩
   ·rw[d_,g1];rfl
   ·rw[hY,g2];rfl
end Wk
abbrev cP:D:=.lst [.bl false,.bl false,.bl false,.bl true,.bl true]
abbrev mtF(k:Int)(n:Str):List (Str×D):=[("place",.int k),("name",.str n)]
theorem By(k:Int)(n:Str):(mtF k n).lookup ("place" : Str)=some (.int k):=by
 unfold mtF
 rw[Dd,DA]
theorem Bz(k:Int)(n:Str):(mtF k n).lookup ("name" : Str)=some (.str n):=by
 unfold mtF
 rw[Dd,show(("name" : Str) == "place")=false from by decide,Dd,DA]
theorem z6(a b c d:D):d7 [Sl.val a,Sl.val b,Sl.val c,Sl.val d,Sl.no,Sl.no]:=nM fun z hz=>by
 simp only[Ey,DZ,Fy]at hz
 rcases hz with rfl |rfl |rfl |rfl |rfl |rfl <;> constructor <;> intro _ e <;> cases e
theorem z7(a b c:D):d7 [Sl.val a,Sl.val b,Sl.val c,Sl.no]:=nM fun z hz=>by
 simp only[Ey,DZ,Fy]at hz
 rcases hz with rfl |rfl |rfl |rfl <;> constructor <;> intro _ e <;> cases e
namespace Wk
theorem p9{m:Ca}{p q:List Sp}(hm:OkC m)(hl:m.length<=1000)(hp:∀s ∈ p,s.1.length < 64)(hpl:p.length<=1000)(hw:wk m [] 0 p=.ok q):br [ay p,.dic (ag m)]=some (ay q):=by
 obtain⟨ah,e4,e5,e6,e7,e⟩:=(jT (m:=m) (d0:=ay p) p 0 [] [] .no .no .no .no hp (by rw[CH];lia)).1 q hw
 have h1:lL (ax 1 aG (aa (var 1) ak)) [.val (ay p),.val (.dic (ag m)),.no,.no,.no,.no,.no,.no,.no]=some (.nx [.val (ay p),.val (.dic (ag m)),.no,.no,.no,.no,.no,.no,.no]):=by
  show((aG [.dic (ag m)]).map _)=_
  rw[(o2 (lP hm hl)).1];rfl
 have h2:c_ (gJ (aa (var 0) ak)) gPr stF (stA m (ay p) [] [] .no .no .no .no)=some (.nx (stA m (ay p) ([] ++ q) ah e4 e5 e6 e7)):=e
 have hb:cw [.val (ay p),.val (.dic (ag m)),.no,.no,.no,.no,.no,.no,.no]=some (.rt (ay q)):=by
  show ar _ (ar _ (ar _ (ar (c_ (gJ (aa (var 0) ak)) gPr stF) _))) _=_
  exact(sq1 h1).trans ((sq1 (E':=[.val (ay p),.val (.dic (ag m)),.own (.lst []),.no,.no,.no,.no,.no,.no]) rfl).trans ((sq1 (E':=stA m (ay p) [] [] .no .no .no .no) rfl).trans ((sq1 h2).trans rfl)))
 show((cw [.val (ay p),.val (.dic (ag m)),.no,.no,.no,.no,.no,.no,.no]).bind _)=_
 rw[hb];rfl
theorem oR{m:Ca}{p:List Sp}{j:Nat}{n:Str}(hm:OkC m)(hl:m.length<=1000)(hp:∀s ∈ p,s.1.length < 64)(hpl:p.length<=1000)(hw:wk m [] 0 p=.bad j n) :
  br [ay p,.dic (ag m)]=none/\bu [ay p,.dic (ag m)]=some (some (0,(mtF (j:Int) n))):=by
 obtain⟨e,E',ex⟩:=(jT (m:=m) (d0:=ay p) p 0 [] [] .no .no .no .no hp (by rw[CH];lia)).2 j n hw
 obtain⟨c1,c2⟩:=o2 (lP hm hl)
 constructor
 ·have h1:lL (ax 1 aG (aa (var 1) ak)) [.val (ay p),.val (.dic (ag m)),.no,.no,.no,.no,.no,.no,.no]=some (.nx [.val (ay p),.val (.dic (ag m)),.no,.no,.no,.no,.no,.no,.no]):=by
   show((aG [.dic (ag m)]).map _)=_
   rw[c1];rfl
  have h2:c_ (gJ (aa (var 0) ak)) gPr stF (stA m (ay p) [] [] .no .no .no .no)=none:=e
  have hb:cw [.val (ay p),.val (.dic (ag m)),.no,.no,.no,.no,.no,.no,.no]=none:=by
   show ar _ (ar _ (ar _ (ar (c_ (gJ (aa (var 0) ak)) gPr stF) _))) _=_
   exact(sq1 h1).trans ((sq1 (E':=[.val (ay p),.val (.dic (ag m)),.own (.lst []),.no,.no,.no,.no,.no,.no]) rfl).trans ((sq1 (E':=stA m (ay p) [] [] .no .no .no .no) rfl).trans (sq0 h2)))
  show((cw [.val (ay p),.val (.dic (ag m)),.no,.no,.no,.no,.no,.no,.no]).bind _)=_
  rw[hb];rfl
 ·have h1:km 1 (b4 aG bd) (aa (var 1) ak) [.val (ay p),.val (.dic (ag m)),.no,.no,.no,.no,.no,.no,.no]=some (.ok (.nx [.val (ay p),.val (.dic (ag m)),.no,.no,.no,.no,.no,.no,.no])):=by
   show((b4 aG bd [.dic (ag m)]).map _)=_
   unfold b4
   rw[c1];rfl
  have h2:vF (gJ (aa (var 0) ak)) gPr stX (stA m (ay p) [] [] .no .no .no .no)=some (.xc 0 (mtF (j:Int) n) E'):=ex
  have hb:dZ [.val (ay p),.val (.dic (ag m)),.no,.no,.no,.no,.no,.no,.no]=some (.xc 0 (mtF (j:Int) n) E'):=by
   show d8 _ (d8 _ (d8 _ (d8 (vF (gJ (aa (var 0) ak)) gPr stX) _))) _=_
   exact(sx1 h1).trans ((sx1 (E':=[.val (ay p),.val (.dic (ag m)),.own (.lst []),.no,.no,.no,.no,.no,.no]) rfl).trans ((sx1 (E':=stA m (ay p) [] [] .no .no .no .no) rfl).trans (sxc h2)))
  show((dZ [.val (ay p),.val (.dic (ag m)),.no,.no,.no,.no,.no,.no,.no]).bind _)=_
  rw[hb];rfl
theorem p_{p d:D}(h:tCa [.val d,.no,.no]=some true):br [p,d]=none/\bu [p,d]=some (some (1,[])):=by
 obtain⟨c1,c2⟩:=yk h
 constructor
 ·have h1:lL (ax 1 aG (aa (var 1) ak)) [.val p,.val d,.no,.no,.no,.no,.no,.no,.no]=none:=by
   show((aG [d]).map _)=_
   rw[c1];rfl
  have hb:cw [.val p,.val d,.no,.no,.no,.no,.no,.no,.no]=none:=sq0 h1
  show((cw [.val p,.val d,.no,.no,.no,.no,.no,.no,.no]).bind _)=_
  rw[hb];rfl
 ·have h1:km 1 (b4 aG bd) (aa (var 1) ak) [.val p,.val d,.no,.no,.no,.no,.no,.no,.no]=some (.xc 1 [] [.val p,.val d,.no,.no,.no,.no,.no,.no,.no]):=by
   show((b4 aG bd [d]).map _)=_
   unfold b4
   rw[c1]
   show((bd [d]).map _)=_
   rw[c2];rfl
  have hb:dZ [.val p,.val d,.no,.no,.no,.no,.no,.no,.no]=some (.xc 1 [] [.val p,.val d,.no,.no,.no,.no,.no,.no,.no]):=sxc h1
  show((dZ [.val p,.val d,.no,.no,.no,.no,.no,.no,.no]).bind _)=_
  rw[hb];rfl
abbrev asX:DE->Option bC:=o7 2 br bu (fun d E=>.nx (E.set 2 (.val d))) (aa (var 0) (aa (var 1) ak))
theorem wj{p d q:D}(h:br [p,d]=some q):bY [p,d]=some (.tup [q,.non]):=by
 have hx:asX [Sl.val p,Sl.val d,Sl.val .non,Sl.val .non,Sl.no,Sl.no]=some (.ok (.nx [Sl.val p,Sl.val d,Sl.val q,Sl.val .non,Sl.no,Sl.no])):=by
  show(match br [p,d] with |some d'=>_ |none=>_)=_
  rw[h];rfl
 have ht:lZ 0 4 asX cQ [Sl.val p,Sl.val d,Sl.val .non,Sl.val .non,Sl.no,Sl.no]=some (.nx [Sl.val p,Sl.val d,Sl.val q,Sl.val .non,Sl.no,Sl.no]):=by
  unfold lZ
  rw[hx];rfl
 have hb:dI [Sl.val p,Sl.val d,Sl.no,Sl.no,Sl.no,Sl.no]=some (.rt (.tup [q,.non])):=by
  show ar _ (ar _ (ar (lZ 0 4 asX cQ) _)) _=_
  exact(sq1 (E':=[Sl.val p,Sl.val d,Sl.val .non,Sl.no,Sl.no,Sl.no]) rfl).trans ((sq1 (E':=[Sl.val p,Sl.val d,Sl.val .non,Sl.val .non,Sl.no,Sl.no]) rfl).trans ((sq1 ht).trans rfl))
 show((dI [Sl.val p,Sl.val d,Sl.no,Sl.no,Sl.no,Sl.no]).bind _)=_
 rw[hb];rfl
theorem tz{p d:D}{k:Int}{n:Str}(h:br [p,d]=none)(hx:bu [p,d]=some (some (0,(mtF k n)))):bY [p,d]=some (.tup [.non,.tup [.int k,.str n,cP]]):=by
 have hx:asX [Sl.val p,Sl.val d,Sl.val .non,Sl.val .non,Sl.no,Sl.no]=some (.xc 0 (mtF k n) [Sl.val p,Sl.val d,Sl.val .non,Sl.val .non,Sl.no,Sl.no]):=by
  show(match br [p,d] with |some d'=>_ |none=>(bu [p,d]).bind _)=_
  rw[h,hx];rfl
 have ht:lZ 0 4 asX cQ [Sl.val p,Sl.val d,Sl.val .non,Sl.val .non,Sl.no,Sl.no]=some (.nx [Sl.val p,Sl.val d,Sl.val .non,Sl.val (.tup [.int k,.str n,cP]),Sl.no,Sl.val cP]):=by
  unfold lZ
  rw[hx]
  show @ite _ _ (Classical.propDecidable _) _ _=_
  rw[if_pos ⟨rfl,z6 _ _ _ _⟩]
  have FX:∀a,cQ a (mtF k n) ([Sl.val p,Sl.val d,Sl.val .non,Sl.val .non,Sl.no,Sl.no].set 4 (dN a))=some (.nx [Sl.val p,Sl.val d,Sl.val .non,Sl.val (.tup [.int k,.str n,cP]),dN a,Sl.val cP]):=fun a=>by
   have xx:∀(e3 e5:Sl) (z:D),xF 4 a z [Sl.val p,Sl.val d,Sl.val .non,e3,dN a,e5]=some z:=fun e3 e5 z=>if_pos rfl
   have xl:∀(e3 e5:Sl),m4 4 a "place" (mtF k n) [Sl.val p,Sl.val d,Sl.val .non,e3,dN a,e5]=some (.int k):=fun e3 e5=>by
    unfold m4
    rw[By]
    show(some (D.int k)).bind (fun z=>if jc z=true then xF 4 a z _ else none)=_
    rw[CA,if_pos (show jc (D.int k)=true from rfl),xx]
   have xn:∀(e3 e5:Sl),m4 4 a "name" (mtF k n) [Sl.val p,Sl.val d,Sl.val .non,e3,dN a,e5]=some (.str n):=fun e3 e5=>by
    unfold m4
    rw[Bz]
    show(some (D.str n)).bind (fun z=>if jc z=true then xF 4 a z _ else none)=_
    rw[CA,if_pos (show jc (D.str n)=true from rfl),xx]
   refine cb ?_
   simp only[cQ,al,bi,aU,aA,bin,var,ac,aa,ak,bG,bp,CA,CC,CK,CL,CG,CH,CD,CF,Cz,CB,reduceIte,Nat.reduceAdd,Nat.reduceLeDiff,dj,xx,xl,xn,cz]
  exact rK fun a=>by rw[FX a];rfl
 have hb:dI [Sl.val p,Sl.val d,Sl.no,Sl.no,Sl.no,Sl.no]=some (.rt (.tup [.non,.tup [.int k,.str n,cP]])):=by
  show ar _ (ar _ (ar (lZ 0 4 asX cQ) _)) _=_
  exact(sq1 (E':=[Sl.val p,Sl.val d,Sl.val .non,Sl.no,Sl.no,Sl.no]) rfl).trans ((sq1 (E':=[Sl.val p,Sl.val d,Sl.val .non,Sl.val .non,Sl.no,Sl.no]) rfl).trans ((sq1 ht).trans rfl))
 show((dI [Sl.val p,Sl.val d,Sl.no,Sl.no,Sl.no,Sl.no]).bind _)=_
 rw[hb];rfl
abbrev ncX:DE->Option bC:=km 2 (b4 br bu) (aa (var 0) (aa (var 1) ak))
theorem pL{p d:D}(h:tCa [.val d,.no,.no]=some true):cp [p,d]=some (.bl true):=by
 obtain⟨h1,h2⟩:=p_ (p:=p) h
 have hx:ncX [Sl.val p,Sl.val d,Sl.val .non,Sl.no]=some (.xc 1 [] [Sl.val p,Sl.val d,Sl.val .non,Sl.no]):=by
  show((b4 br bu [p,d]).map _)=_
  unfold b4
  rw[h1]
  show((bu [p,d]).map _)=_
  rw[h2];rfl
 have ht:kT 1 3 ncX c8 [Sl.val p,Sl.val d,Sl.val .non,Sl.no]=some (.nx [Sl.val p,Sl.val d,Sl.val cP,Sl.no]):=by
  unfold kT
  rw[hx]
  show @ite _ _ (Classical.propDecidable _) _ _=_
  rw[if_pos ⟨rfl,z7 _ _ _⟩]
  have FX:∀a,c8 a ([Sl.val p,Sl.val d,Sl.val .non,Sl.no].set 3 (dN a))=some (.nx [Sl.val p,Sl.val d,Sl.val cP,dN a]):=fun a=>by
   have xx:∀(e2:Sl) (z:D),xF 3 a z [Sl.val p,Sl.val d,e2,dN a]=some z:=fun e2 z=>if_pos rfl
   refine cb ?_
   simp only[c8,al,bi,aU,aA,bin,ac,aa,ak,bp,CA,CC,CK,CL,CG,CH,CD,CF,Cz,CB,reduceIte,Nat.reduceAdd,Nat.reduceLeDiff,dj,xx,cz]
  exact rK fun a=>by rw[FX a];rfl
 have hq:bin eqE (ac 2) (bp (aa (cst (.bl false)) (aa (cst (.bl false)) (aa (cst (.bl false)) (aa (cst (.bl true)) (aa (cst (.bl true)) ak)))))) [Sl.val p,Sl.val d,Sl.val cP,Sl.no]=some (.bl true):=by
  show eqO cP cP=_
  rw[oO (n:=1) (x:=cP) (y:=cP) (dS D.bl [false,false,false,true,true] fun x _=>mC x) (dS D.bl [false,false,false,true,true] fun x _=>mC x) (by decide) rfl]
  rfl
 have hb:ej [Sl.val p,Sl.val d,Sl.no,Sl.no]=some (.rt (.bl true)):=by
  show ar _ (ar (kT 1 3 ncX c8) _) _=_
  refine(sq1 (E':=[Sl.val p,Sl.val d,Sl.val .non,Sl.no]) rfl).trans ((sq1 ht).trans ?_)
  unfold ba
  rw[hq];rfl
 show((ej [Sl.val p,Sl.val d,Sl.no,Sl.no]).bind _)=_
 rw[hb];rfl
end Wk
def yd:Wk->D
 |.ok q=>.tup [ay q,.non]
 |.bad j n=>.tup [.non,.tup [.int (j:Int),.str n]]
theorem yf{α:Type}{l:List α}{k:Nat}(h:k < l.length):l.drop k=l[k] :: l.drop (k + 1):=by simp
theorem tR{f g:DE->Option D}{E:DE}{a b:D}(h1:f E=some a)(h2:g E=some b):bG (aa f (aa g ak)) E=some (.tup [a,b]):=by
 unfold bG aa ak
 rw[h1,h2]
 show(if([a,b]:List D).length<=sizeLine then some (D.tup [a,b]) else none)=_
 exact if_pos (show([a,b]:List D).length<=sizeLine from(by decide:2<=sizeLine))
namespace Wk
abbrev inB:DE->Option Out:=ar (aA 8 (i7 (ac 1) (var 7) (var 7))) (ar (ifS (orT (tst (bin inE (ac 8) (ac 5))) (tst (bin inE (ac 8) (ac 3)))) (dg 6 (var 8)) bh) (dg 5 (var 8)))
abbrev t6:DE->Option Bool:=tst (bin neE (ac 6) (bp ak))
abbrev r6:DE->Option Out:=fun E=>(ba (bG (aa (cst .non) (aa (bG (aa (var 4) (aa (un gP (ac 6)) ak))) ak)))) (fzE 6 E)
abbrev d2:DE->Option Out:=dg 2 (bG (aa (un bt (un cJ (ac 5))) (aa (bin ixE (bin ixE (ac 0) (ac 4)) (cst (.int 1))) ak)))
abbrev duB:DE->Option Out:=ar (dz 5 (bp ak)) (ar (dz 6 (bp ak)) (ar (c_ (cc fN (bin ixE (bin ixE (ac 0) (ac 4)) (cst (.int 0)))) (nmG 7) inB) (ar (ifS t6 r6 bh) (ar d2 (fun E=>(aA 3 (var 5)) (fzE 5 E))))))
section
variable {m:Ca}{d0 d2' d4:D}{ah:List Str}
theorem xP{ps ms:List Str}{n:Str}(hl:ps.length<=1000)(hm:ms.length<=1000){s8:Sl}:inB [.val d0,.val (.dic (ag m)),.own d2',.val (.lst (ah.map D.str)),.val d4,.own (.lst (ps.map D.str)),.own (.lst (ms.map D.str)),.val (.str n),s8] =
  some (.nx [.val d0,.val (.dic (ag m)),.own d2',.val (.lst (ah.map D.str)),.val d4,.own (.lst ((ps ++ [plr m n]).map D.str)),.own (.lst ((if plr m n ∈ ps\/plr m n ∈ ah then ms ++ [plr m n] else ms).map D.str)),.val (.str n),.val (.str (plr m n))]):=by
 have h8:i7 (ac 1) (var 7) (var 7) [.val d0,.val (.dic (ag m)),.own d2',.val (.lst (ah.map D.str)),.val d4,.own (.lst (ps.map D.str)),.own (.lst (ms.map D.str)),.val (.str n),s8]=some (.str (plr m n)):=by
  show some ((cj (ag m) (.inr n)).getD (.str n))=_
  rw[m7]
 have hi:ifS (orT (tst (bin inE (ac 8) (ac 5))) (tst (bin inE (ac 8) (ac 3)))) (dg 6 (var 8)) bh [.val d0,.val (.dic (ag m)),.own d2',.val (.lst (ah.map D.str)),.val d4,.own (.lst (ps.map D.str)),.own (.lst (ms.map D.str)),.val (.str n),.val (.str (plr m n))] =
   some (.nx [.val d0,.val (.dic (ag m)),.own d2',.val (.lst (ah.map D.str)),.val d4,.own (.lst (ps.map D.str)),.own (.lst ((if plr m n ∈ ps\/plr m n ∈ ah then ms ++ [plr m n] else ms).map D.str)),.val (.str n),.val (.str (plr m n))]):=by
  have e1:tst (bin inE (ac 8) (ac 5)) [.val d0,.val (.dic (ag m)),.own d2',.val (.lst (ah.map D.str)),.val d4,.own (.lst (ps.map D.str)),.own (.lst (ms.map D.str)),.val (.str n),.val (.str (plr m n))]=some (decide (plr m n ∈ ps)):=by
   show((inE (.str (plr m n)) (.lst (ps.map D.str))).bind asB)=_
   rw[mw];rfl
  have e2:tst (bin inE (ac 8) (ac 3)) [.val d0,.val (.dic (ag m)),.own d2',.val (.lst (ah.map D.str)),.val d4,.own (.lst (ps.map D.str)),.own (.lst (ms.map D.str)),.val (.str n),.val (.str (plr m n))]=some (decide (plr m n ∈ ah)):=by
   show((inE (.str (plr m n)) (.lst (ah.map D.str))).bind asB)=_
   rw[mw];rfl
  have e3:dg 6 (var 8) [.val d0,.val (.dic (ag m)),.own d2',.val (.lst (ah.map D.str)),.val d4,.own (.lst (ps.map D.str)),.own (.lst (ms.map D.str)),.val (.str n),.val (.str (plr m n))]=some (.nx [.val d0,.val (.dic (ag m)),.own d2',.val (.lst (ah.map D.str)),.val d4,.own (.lst (ps.map D.str)),.own (.lst ((ms ++ [plr m n]).map D.str)),.val (.str n),.val (.str (plr m n))]):=by
   show(if(ms.map D.str).length < sizeLine then some (Out.nx [.val d0,.val (.dic (ag m)),.own d2',.val (.lst (ah.map D.str)),.val d4,.own (.lst (ps.map D.str)),.own (.lst (ms.map D.str ++ [.str (plr m n)])),.val (.str n),.val (.str (plr m n))]) else none)=_
   rw[if_pos (by rw[CQ];exact Dy hm (by decide)),Dk];rfl
  unfold ifS orT
  rw[e1,e2]
  by_cases hp:plr m n ∈ ps
  ·rw[if_pos (.inl hp),Df hp];exact e3
  ·by_cases ha:plr m n ∈ ah
   ·rw[if_pos (.inr ha),C9 hp,Df ha];exact e3
   ·rw[if_neg (fun z=>z.elim hp ha),C9 hp,C9 ha];rfl
 refine(sq1 (st1 h8)).trans ((sq1 hi).trans ?_)
 show(if(ps.map D.str).length < sizeLine then some (Out.nx [.val d0,.val (.dic (ag m)),.own d2',.val (.lst (ah.map D.str)),.val d4,.own (.lst (ps.map D.str ++ [.str (plr m n)])),.own (.lst ((if plr m n ∈ ps\/plr m n ∈ ah then ms ++ [plr m n] else ms).map D.str)),.val (.str n),.val (.str (plr m n))]) else none)=_
 rw[if_pos (by rw[CQ];exact Dy hl (by decide)),Dk];rfl
theorem xQ{ns:List Str}(hl:ns.length<=1000){s7 s8:Sl}:∃(ms:List Str) (s7' s8':Sl),d_ (fun x E1=>(nmG 7 x E1).bind inB) (ns.map D.str) [.val d0,.val (.dic (ag m)),.own d2',.val (.lst (ah.map D.str)),.val d4,.own (.lst []),.own (.lst []),s7,s8] =
  some (.nx [.val d0,.val (.dic (ag m)),.own d2',.val (.lst (ah.map D.str)),.val d4,.own (.lst ((ns.map (plr m)).map D.str)),.own (.lst (ms.map D.str)),s7',s8'])/\Met ah (ns.map (plr m)) ms/\∀x ∈ ms,x ∈ ns.map (plr m):=by
 have key:wp (i5 (nmG 7) inB (ns.map D.str) [.val d0,.val (.dic (ag m)),.own d2',.val (.lst (ah.map D.str)),.val d4,.own (.lst (([]:List Str).map D.str)),.own (.lst (([]:List Str).map D.str)),s7,s8]) fun r=>∃(ms:List Str) (s7' s8':Sl),r=.nx [.val d0,.val (.dic (ag m)),.own d2',.val (.lst (ah.map D.str)),.val d4,.own (.lst ((ns.map (plr m)).map D.str)),.own (.lst (ms.map D.str)),s7',s8']/\Met ah (ns.map (plr m)) ms/\∀x ∈ ms,x ∈ ns.map (plr m):=by
  refine f_ D.str ns (fun pre E=>∃(ms:List Str) (s7' s8':Sl),E=[.val d0,.val (.dic (ag m)),.own d2',.val (.lst (ah.map D.str)),.val d4,.own (.lst ((pre.map (plr m)).map D.str)),.own (.lst (ms.map D.str)),s7',s8']/\Met ah (pre.map (plr m)) ms/\(∀x ∈ ms,x ∈ pre.map (plr m))/\ms.length<=pre.length) rfl ⟨[],_,_,rfl,Met.nil ah,fun _ h=>(by cases h),CV _⟩ ?_ ?_
  ·rintro pre n post E hs ⟨ms,s7',s8',rfl,hM,FW,hml⟩
   have Gk:pre.length < ns.length:=by rw[hs];simp
   have h:=xP (m:=m) (d0:=d0) (d2':=d2') (d4:=d4) (ah:=ah) (ps:=pre.map (plr m)) (ms:=ms) (n:=n) (s8:=s8') (by rw[CQ];lia) (by lia)
   show wp (some [.val d0,.val (.dic (ag m)),.own d2',.val (.lst (ah.map D.str)),.val d4,.own (.lst ((pre.map (plr m)).map D.str)),.own (.lst (ms.map D.str)),.val (.str n),s8']) _
   rw[al,h,al]
   refine⟨_,_,_,by rw[Dk (f:=plr m)];rfl,?_,fun x hx=>?_,?_⟩
   ·rw[Dk];exact hM.snoc (plr m n)
   ·rw[Dk,ER]
    split at hx
    ·rcases List.mem_append.mp hx with hx |hx
     ·exact .inl (FW x hx)
     ·exact .inr hx
    ·exact .inl (FW x hx)
   ·rw[C8,Dw]
    split
    ·rw[C8,Dw];lia
    ·lia
  ·rintro E ⟨ms,s7',s8',rfl,hM,FW,_⟩
   exact⟨ms,s7',s8',rfl,hM,FW⟩
 obtain⟨r,h1,ms,s7',s8',rfl,hM,FW⟩:=eB.mp key
 exact⟨ms,s7',s8',h1,hM,FW⟩
end
theorem ye{m:Ca}{p q0:List Sp}{ah:List Str}{i:Nat}(hi:i < p.length)(hp:∀s ∈ p,s.1.length < 64)(FY:∀s ∈ p,∀x ∈ plS m s,jh x)(hq:q0.length<=1000){s5 s6 s7 s8:Sl} :
  ∃s5' s6' s7' s8',duB [.val (ay p),.val (.dic (ag m)),.own (.lst (q0.map aw)),.val (.lst (ah.map D.str)),.val (.int (0 + (i:Int))),s5,s6,s7,s8] =
   if df (plS m p[i]) ah=[] then some (.nx [.val (ay p),.val (.dic (ag m)),.own (.lst ((q0 ++ [(aZ (plS m p[i]),p[i].2)]).map aw)),.val (.lst ((plS m p[i]).map D.str)),.val (.int (0 + (i:Int))),s5',s6',s7',s8'])
   else some (.rt (.tup [.non,.tup [.int (i:Int),.str (dQ (df (plS m p[i]) ah))]])):=by
 have Gj:p[i] ∈ p:=DB hi
 have hsl:=hp _ Gj
 have hix:ixE (ay p) (.int (0 + (i:Int)))=some (aw p[i]):=by
  show atI (p.map aw) (0 + (i:Int))=_
  rw[jv,Db,C0 hi];rfl
 obtain⟨ms,s7',s8',hlp,hM,FW⟩:=xQ (m:=m) (d0:=ay p) (d2':=.lst (q0.map aw)) (d4:=.int (0 + (i:Int))) (ah:=ah) (ns:=p[i].1) (by lia) (s7:=s7) (s8:=s8)
 have hM:Met ah (plS m p[i]) ms:=hM
 have Gp:c_ (cc fN (bin ixE (bin ixE (ac 0) (ac 4)) (cst (.int 0)))) (nmG 7) inB [.val (ay p),.val (.dic (ag m)),.own (.lst (q0.map aw)),.val (.lst (ah.map D.str)),.val (.int (0 + (i:Int))),.own (.lst []),.own (.lst []),s7,s8] =
   some (.nx [.val (ay p),.val (.dic (ag m)),.own (.lst (q0.map aw)),.val (.lst (ah.map D.str)),.val (.int (0 + (i:Int))),.own (.lst ((plS m p[i]).map D.str)),.own (.lst (ms.map D.str)),s7',s8']):=by
  have hv:cc fN (bin ixE (bin ixE (ac 0) (ac 4)) (cst (.int 0))) [.val (ay p),.val (.dic (ag m)),.own (.lst (q0.map aw)),.val (.lst (ah.map D.str)),.val (.int (0 + (i:Int))),.own (.lst []),.own (.lst []),s7,s8]=some (p[i].1.map D.str):=by
   have e:bin ixE (bin ixE (ac 0) (ac 4)) (cst (.int 0)) [.val (ay p),.val (.dic (ag m)),.own (.lst (q0.map aw)),.val (.lst (ah.map D.str)),.val (.int (0 + (i:Int))),.own (.lst []),.own (.lst []),s7,s8]=some (ii p[i].1):=by
    show((ixE (ay p) (.int (0 + (i:Int)))).bind fun x=>(some (D.int 0)).bind fun y=>ixE x y)=_
    rw[hix];rfl
   unfold cc
   rw[e];rfl
  unfold c_
  rw[hv];exact hlp
 have ht:t6 [.val (ay p),.val (.dic (ag m)),.own (.lst (q0.map aw)),.val (.lst (ah.map D.str)),.val (.int (0 + (i:Int))),.own (.lst ((plS m p[i]).map D.str)),.own (.lst (ms.map D.str)),s7',s8']=some (!decide (ms=[])):=by
  show((neO (.lst (ms.map D.str)) (.lst (([]:List Str).map D.str))).bind asB)=_
  have hf:∀x ∈ ms,jh x:=fun x hx=>FY _ Gj x (FW x hx)
  rw[nQ (n:=1) (dS D.str ms fun x hx=>fQ (hf x hx)) (dS D.str [] fun x hx=>by cases hx) (by decide) rfl,oM D.str kf];rfl
 have start:∀E',ar (ifS t6 r6 bh) (ar d2 (fun E=>(aA 3 (var 5)) (fzE 5 E))) [.val (ay p),.val (.dic (ag m)),.own (.lst (q0.map aw)),.val (.lst (ah.map D.str)),.val (.int (0 + (i:Int))),.own (.lst ((plS m p[i]).map D.str)),.own (.lst (ms.map D.str)),s7',s8']=E' ->
   duB [.val (ay p),.val (.dic (ag m)),.own (.lst (q0.map aw)),.val (.lst (ah.map D.str)),.val (.int (0 + (i:Int))),s5,s6,s7,s8]=E':=fun E' h =>
  (sq1 (E':=[.val (ay p),.val (.dic (ag m)),.own (.lst (q0.map aw)),.val (.lst (ah.map D.str)),.val (.int (0 + (i:Int))),.own (.lst []),s6,s7,s8]) rfl).trans ((sq1 (E':=[.val (ay p),.val (.dic (ag m)),.own (.lst (q0.map aw)),.val (.lst (ah.map D.str)),.val (.int (0 + (i:Int))),.own (.lst []),.own (.lst []),s7,s8]) rfl).trans ((sq1 Gp).trans h))
 by_cases h0:df (plS m p[i]) ah=[]
 ·have hm0:ms=[]:=(hM.eq_nil (vb _ _)).mpr h0
  refine⟨.val (.lst ((plS m p[i]).map D.str)),.own (.lst (ms.map D.str)),s7',s8',start _ ?_⟩
  rw[if_pos h0]
  have h1:ifS t6 r6 bh [.val (ay p),.val (.dic (ag m)),.own (.lst (q0.map aw)),.val (.lst (ah.map D.str)),.val (.int (0 + (i:Int))),.own (.lst ((plS m p[i]).map D.str)),.own (.lst (ms.map D.str)),s7',s8']=some (.nx [.val (ay p),.val (.dic (ag m)),.own (.lst (q0.map aw)),.val (.lst (ah.map D.str)),.val (.int (0 + (i:Int))),.own (.lst ((plS m p[i]).map D.str)),.own (.lst (ms.map D.str)),s7',s8']):=by
   unfold ifS
   rw[ht,Df hm0];rfl
  have h2:d2 [.val (ay p),.val (.dic (ag m)),.own (.lst (q0.map aw)),.val (.lst (ah.map D.str)),.val (.int (0 + (i:Int))),.own (.lst ((plS m p[i]).map D.str)),.own (.lst (ms.map D.str)),s7',s8']=some (.nx [.val (ay p),.val (.dic (ag m)),.own (.lst ((q0 ++ [(aZ (plS m p[i]),p[i].2)]).map aw)),.val (.lst (ah.map D.str)),.val (.int (0 + (i:Int))),.own (.lst ((plS m p[i]).map D.str)),.own (.lst (ms.map D.str)),s7',s8']):=by
   have hs:cJ (.lst ((plS m p[i]).map D.str))=some (.lst ((aZ (plS m p[i])).map D.str)):=iz (by unfold plS;rw[CQ];exact hsl)
   have e1:un bt (un cJ (ac 5)) [.val (ay p),.val (.dic (ag m)),.own (.lst (q0.map aw)),.val (.lst (ah.map D.str)),.val (.int (0 + (i:Int))),.own (.lst ((plS m p[i]).map D.str)),.own (.lst (ms.map D.str)),s7',s8']=some (ii (aZ (plS m p[i]))):=by
    show(cJ (.lst ((plS m p[i]).map D.str))).bind bt=_
    rw[hs];rfl
   have e2:bin ixE (bin ixE (ac 0) (ac 4)) (cst (.int 1)) [.val (ay p),.val (.dic (ag m)),.own (.lst (q0.map aw)),.val (.lst (ah.map D.str)),.val (.int (0 + (i:Int))),.own (.lst ((plS m p[i]).map D.str)),.own (.lst (ms.map D.str)),s7',s8']=some (ii p[i].2):=by
    show((ixE (ay p) (.int (0 + (i:Int)))).bind fun x=>(some (D.int 1)).bind fun y=>ixE x y)=_
    rw[hix];rfl
   have ht:bG (aa (un bt (un cJ (ac 5))) (aa (bin ixE (bin ixE (ac 0) (ac 4)) (cst (.int 1))) ak)) [.val (ay p),.val (.dic (ag m)),.own (.lst (q0.map aw)),.val (.lst (ah.map D.str)),.val (.int (0 + (i:Int))),.own (.lst ((plS m p[i]).map D.str)),.own (.lst (ms.map D.str)),s7',s8']=some (aw (aZ (plS m p[i]),p[i].2)):=tR e1 e2
   unfold d2 dg
   rw[ht]
   show(if(q0.map aw).length < sizeLine then some (Out.nx [.val (ay p),.val (.dic (ag m)),.own (.lst (q0.map aw ++ [aw (aZ (plS m p[i]),p[i].2)])),.val (.lst (ah.map D.str)),.val (.int (0 + (i:Int))),.own (.lst ((plS m p[i]).map D.str)),.own (.lst (ms.map D.str)),s7',s8']) else none)=_
   rw[if_pos (by rw[CQ];exact Dy hq (by decide)),Dk];rfl
  exact(sq1 h1).trans ((sq1 h2).trans rfl)
 ·have hm0:ms ≠ []:=fun z=>h0 ((hM.eq_nil (vb _ _)).mp z)
  refine⟨.no,.no,.no,.no,start _ ?_⟩
  rw[if_neg h0]
  have GZ:dQ ms=dQ (df (plS m p[i]) ah):=hM.min (vb _ _) hm0
  have h1:ifS t6 r6 bh [.val (ay p),.val (.dic (ag m)),.own (.lst (q0.map aw)),.val (.lst (ah.map D.str)),.val (.int (0 + (i:Int))),.own (.lst ((plS m p[i]).map D.str)),.own (.lst (ms.map D.str)),s7',s8']=some (.rt (.tup [.non,.tup [.int (i:Int),.str (dQ (df (plS m p[i]) ah))]])):=by
   unfold ifS
   rw[ht,C9 hm0]
   show r6 [.val (ay p),.val (.dic (ag m)),.own (.lst (q0.map aw)),.val (.lst (ah.map D.str)),.val (.int (0 + (i:Int))),.own (.lst ((plS m p[i]).map D.str)),.own (.lst (ms.map D.str)),s7',s8']=_
   have hmn:un gP (ac 6) [.val (ay p),.val (.dic (ag m)),.own (.lst (q0.map aw)),.val (.lst (ah.map D.str)),.val (.int (0 + (i:Int))),.own (.lst ((plS m p[i]).map D.str)),.val (.lst (ms.map D.str)),s7',s8']=some (.str (dQ ms)):=lr hm0
   show((bG (aa (cst .non) (aa (bG (aa (var 4) (aa (un gP (ac 6)) ak))) ak)) [.val (ay p),.val (.dic (ag m)),.own (.lst (q0.map aw)),.val (.lst (ah.map D.str)),.val (.int (0 + (i:Int))),.own (.lst ((plS m p[i]).map D.str)),.val (.lst (ms.map D.str)),s7',s8']).map Out.rt)=_
   have e3:bG (aa (var 4) (aa (un gP (ac 6)) ak)) [.val (ay p),.val (.dic (ag m)),.own (.lst (q0.map aw)),.val (.lst (ah.map D.str)),.val (.int (0 + (i:Int))),.own (.lst ((plS m p[i]).map D.str)),.val (.lst (ms.map D.str)),s7',s8']=some (.tup [.int (i:Int),.str (dQ ms)]):=by
    rw[tR (a:=.int (0 + (i:Int))) rfl hmn,Int.zero_add]
   rw[tR (a:=.non) rfl e3,GZ];rfl
  unfold ar
  rw[h1];rfl
theorem AF{m:Ca}{p:List Sp}(hp:∀s ∈ p,s.1.length < 64)(hpl:p.length<=1000)(FY:∀s ∈ p,∀x ∈ plS m s,jh x):eg [ay p,.dic (ag m)]=some (yd (wk m [] 0 p)):=by
 have hr:fD (aa (un bK (ac 0)) ak) [.val (ay p),.val (.dic (ag m)),.own (.lst []),.val (.lst []),.no,.no,.no,.no,.no]=some (cN 0 p.length):=by
  show g9 [.int ((p.map aw).length:Nat)]=_
  rw[CQ,bW (by lia) (by lia),DF]
 have key:wp (i5 (nmG 4) duB (cN 0 p.length) [.val (ay p),.val (.dic (ag m)),.own (.lst (([]:List Sp).map aw)),.val (.lst (([]:List Str).map D.str)),.no,.no,.no,.no,.no]) fun r=>match r with
   |.nx E'=>∃(q:List Sp) (ah:List Str) (s4 s5 s6 s7 s8:Sl),wk m [] 0 p=.ok q/\E'=[.val (ay p),.val (.dic (ag m)),.own (.lst (q.map aw)),.val (.lst (ah.map D.str)),s4,s5,s6,s7,s8]
   |.rt d=>d=yd (wk m [] 0 p)
   |_=>False:=by
  refine m5 (fun i:Nat=>D.int (0 + i)) (List.range p.length) (fun pre E=>∃(q0:List Sp) (ah:List Str) (s4 s5 s6 s7 s8:Sl),E=[.val (ay p),.val (.dic (ag m)),.own (.lst (q0.map aw)),.val (.lst (ah.map D.str)),s4,s5,s6,s7,s8]/\q0.length=pre.length/\wk m [] 0 p=(wk m ah pre.length (p.drop pre.length)).cns q0) rfl ⟨[],[],_,_,_,_,_,rfl,rfl,by rw[yi];rfl⟩ ?_ ?_
  ·rintro pre i post E hs ⟨q0,ah,s4,s5,s6,s7,s8,rfl,hq,hw⟩
   obtain⟨rfl,hi⟩:=nB hs
   show wp (some [.val (ay p),.val (.dic (ag m)),.own (.lst (q0.map aw)),.val (.lst (ah.map D.str)),.val (.int (0 + (pre.length:Int))),s5,s6,s7,s8]) _
   rw[al]
   obtain⟨s5',s6',s7',s8',hd⟩:=ye (m:=m) (q0:=q0) (ah:=ah) hi hp FY (by lia) (s5:=s5) (s6:=s6) (s7:=s7) (s8:=s8)
   rw[hd]
   rw[yf hi,wk]at hw
   by_cases h0:df (plS m p[pre.length]) ah=[]
   ·rw[if_pos h0]at hw ⊢
    rw[al]
    refine⟨q0 ++ [(aZ (plS m p[pre.length]),p[pre.length].2)],plS m p[pre.length],_,_,_,_,_,rfl,by simp[hq],?_⟩
    rw[hw,yj,C8];rfl
   ·rw[if_neg h0]at hw ⊢
    rw[al,hw];rfl
  ·rintro E ⟨q0,ah,s4,s5,s6,s7,s8,rfl,hq,hw⟩
   rw[D8]at hq hw
   rw[Ff,wk]at hw
   refine⟨q0,ah,s4,s5,s6,s7,s8,?_,rfl⟩
   rw[hw]
   show Wk.ok (q0 ++ [])=_
   rw[DI]
 obtain⟨r,h1,h2⟩:=eB.mp key
 have Gp:c_ (fD (aa (un bK (ac 0)) ak)) (nmG 4) duB [.val (ay p),.val (.dic (ag m)),.own (.lst []),.val (.lst []),.no,.no,.no,.no,.no]=some r:=by
  unfold c_
  rw[hr];exact h1
 have hb:ju [.val (ay p),.val (.dic (ag m)),.no,.no,.no,.no,.no,.no,.no]=some (.rt (yd (wk m [] 0 p))):=by
  show ar _ (ar _ (ar (c_ (fD (aa (un bK (ac 0)) ak)) (nmG 4) duB) _)) _=_
  refine(sq1 (E':=[.val (ay p),.val (.dic (ag m)),.own (.lst []),.no,.no,.no,.no,.no,.no]) rfl).trans ((sq1 (E':=[.val (ay p),.val (.dic (ag m)),.own (.lst []),.val (.lst []),.no,.no,.no,.no,.no]) rfl).trans ?_)
  unfold ar
  rw[Gp]
  cases r with
  |nx E' =>
   obtain⟨q,ah,s4,s5,s6,s7,s8,hw,rfl⟩:=h2
   rw[hw];rfl
  |rt d =>
   have h2:d=yd (wk m [] 0 p):=h2
   rw[h2];rfl
  |bk _=>exact False.elim h2
  |ct _=>exact False.elim h2
 show((ju [.val (ay p),.val (.dic (ag m)),.no,.no,.no,.no,.no,.no,.no]).bind _)=_
 rw[hb];rfl
end Wk
theorem pT{ns:List Str}(h:0 < ns.length)(x:Int):∃n ∈ ns,ixE (.lst (ns.map D.str)) (.int (x % (ns.length:Int)))=some (.str n):=by
 have h0:0<=x % (ns.length:Int):=Dt _ (by lia)
 have h1:x % (ns.length:Int) < ns.length:=Dn _ (by lia)
 obtain⟨j,hj⟩:∃j:Nat,x % (ns.length:Int)=j:=⟨(x % (ns.length:Int)).toNat,by lia⟩
 have hj':j < ns.length:=by lia
 refine⟨ns[j],DB hj',?_⟩
 rw[hj]
 show atI (ns.map D.str) (j:Int)=_
 rw[ip,Db,C0 hj'];rfl
theorem yO{ns:List Str}{k:Nat}(h:k < ns.length):ixE (.lst (ns.map D.str)) (.int (0 + (k:Int)))=some (.str ns[k]):=by
 show atI (ns.map D.str) (0 + (k:Int))=_
 rw[jv,Db,C0 h];rfl
theorem yy{m:Ca}{i:Nat}{fk fv:DE->Option D}{E:DE}{n v:Str}(h3:E[i]? = some (.own (.dic (ag m))))(hk:fk E=some (.str n))(hv:fv E=some (.str v))(hl:m.length<=1000):fG i fk fv E=some (.nx (E.set i (.own (.dic (ag (jI m n v)))))):=by
 unfold fG
 rw[h3]
 show((fk E).bind fun x=>(cZ x).bind fun k=>(fv E).bind fun v=>if(ag m).length < sizeLine then some (Out.nx (E.set i (.own (.dic (ff (ag m) k v))))) else none)=_
 rw[hk,hv]
 show(if(ag m).length < sizeLine then some (Out.nx (E.set i (.own (.dic (ff (ag m) (.inr n) (.str v)))))) else none)=_
 rw[if_pos (by unfold ag;rw[CQ];exact Dy hl (by decide)),uw]
namespace Wk
abbrev caT:DE->Option Out:=(ifS (tst (bin eqE (ac 4) (cst (.int 0))))
 (fG 3 (bin ixE (ac 1) (ac 5)) (bin ixE (ac 1) (bin aO (bin cz (ac 5) (cst (.int 1))) (un bK (ac 1)))))
 (ifS (tst (bin eqE (bin aO (ac 0) (cst (.int 5))) (cst (.int 1))))
 (fG 3 (bin ixE (ac 1) (ac 5)) (bin ixE (ac 1) (ac 5)))
 (ifS (orT (tst (bin eqE (bin aO (ac 0) (cst (.int 5))) (cst (.int 2)))) (kD (tst (bin eqE (ac 4) (cst (.int 1)))) (tst (bin gtD (bin aO (ac 0) (cst (.int 5))) (cst (.int 0))))))
 (fG 3 (bin ixE (ac 1) (ac 5)) (bin ixE (ac 2) (bin aO (ac 5) (cst (.int 2)))))
 (ifS (tst (bin eqE (bin aO (ac 0) (cst (.int 5))) (cst (.int 3))))
 (fG 3 (bin ixE (ac 1) (ac 5)) (bin ixE (ac 1) (bin aO (bin aN (ac 0) (cst (.int 5))) (un bK (ac 1)))))
 bh))))
theorem j4{c:DE->Option Bool}{f g:DE->Option Out}{E:DE}{b:Bool}(h:c E=some b):ifS c f g E=if b=true then f E else g E:=by unfold ifS;rw[h];rfl
theorem yn{c way:Int}{names:List Str}{a b:Str}{m:Ca}{k:Nat}(hk:k < names.length)(hn:∀x ∈ names,isT 8 x=true)(ha:isT 8 a=true)(hb:isT 8 b=true)(hm:OkC m)(hl:m.length<=1000) :
  ∃m',caT [.val (.int c),.val (.lst (names.map D.str)),.val (.lst [.str a,.str b]),.own (.dic (ag m)),.val (.int way),.val (.int (0 + (k:Int)))]=some (.nx [.val (.int c),.val (.lst (names.map D.str)),.val (.lst [.str a,.str b]),.own (.dic (ag m')),.val (.int way),.val (.int (0 + (k:Int)))])/\OkC m'/\m'.length<=m.length + 1:=by
 have h0:0 < names.length:=by lia
 have h0':(0:Int) < (names.length:Int):=by lia
 generalize hE:[Sl.val (.int c),.val (.lst (names.map D.str)),.val (.lst [.str a,.str b]),.own (.dic (ag m)),.val (.int way),.val (.int (0 + (k:Int)))]=E
 have G3:∀d,E.set 3 (.own d)=[.val (.int c),.val (.lst (names.map D.str)),.val (.lst [.str a,.str b]),.own d,.val (.int way),.val (.int (0 + (k:Int)))]:=fun d=>by rw[<-hE];rfl
 have h3:E[3]? = some (.own (.dic (ag m))):=by rw[<-hE];rfl
 have Ga:bin ixE (ac 1) (ac 5) E=some (.str names[k]):=by
  rw[<-hE]
  show ixE (.lst (names.map D.str)) (.int (0 + (k:Int)))=_
  exact yO hk
 have hkt:=hn _ (DB hk)
 have done:∀(fv:DE->Option D) (v:Str),fv E=some (.str v)->isT 8 v=true->∃m',fG 3 (bin ixE (ac 1) (ac 5)) fv E=some (.nx [.val (.int c),.val (.lst (names.map D.str)),.val (.lst [.str a,.str b]),.own (.dic (ag m')),.val (.int way),.val (.int (0 + (k:Int)))])/\OkC m'/\m'.length<=m.length + 1:=fun fv v hv hvt =>
  ⟨jI m names[k] v,by rw[yy h3 Ga hv hl,G3],hm.put hkt hvt,n6 m _ _⟩
 have Hj:∀x:Int,bin ixE (ac 1) (fun _=>some (.int (x % (names.length:Int)))) E=ixE (.lst (names.map D.str)) (.int (x % (names.length:Int))):=fun x=>by rw[<-hE];rfl
 have v1:∃v,bin ixE (ac 1) (bin aO (bin cz (ac 5) (cst (.int 1))) (un bK (ac 1))) E=some (.str v)/\isT 8 v=true:=by
  obtain⟨v,hv,e⟩:=pT h0 (0 + (k:Int) + 1)
  refine⟨v,?_,hn v hv⟩
  rw[<-hE]
  show((aO (.int (0 + (k:Int) + 1)) (.int ((names.map D.str).length:Nat))).bind fun y=>ixE (.lst (names.map D.str)) y)=_
  rw[CQ,aH h0']
  exact e
 have v3:∃v,bin ixE (ac 2) (bin aO (ac 5) (cst (.int 2))) E=some (.str v)/\isT 8 v=true:=by
  obtain⟨v,hv,e⟩:=pT (ns:=[a,b]) (by simp) (0 + (k:Int))
  refine⟨v,?_,?_⟩
  ·rw[<-hE]
   show((aO (.int (0 + (k:Int))) (.int 2)).bind fun y=>ixE (.lst [.str a,.str b]) y)=_
   rw[aH (by decide)]
   exact e
  ·simp only[Ey,DZ,Fy]at hv
   rcases hv with rfl |rfl
   ·exact ha
   ·exact hb
 have v4:∃v,bin ixE (ac 1) (bin aO (bin aN (ac 0) (cst (.int 5))) (un bK (ac 1))) E=some (.str v)/\isT 8 v=true:=by
  obtain⟨v,hv,e⟩:=pT h0 (c / 5)
  refine⟨v,?_,hn v hv⟩
  rw[<-hE]
  show((aN (.int c) (.int 5)).bind fun x=>(some (D.int ((names.map D.str).length:Nat))).bind fun y=>(aO x y)).bind (fun y=>ixE (.lst (names.map D.str)) y)=_
  have e5:aN (.int c) (.int 5)=some (.int (c / 5)):=by
   refine cb ?_
   simp only[al,aY,Int.reduceLT,Int.reduceLE,Int.reducePow]
  rw[e5,CA,CA,CQ,aH h0']
  exact e
 have tb:∀(t:DE->Option Bool),(∃bb,t E=some bb)->∀f g:DE->Option Out,(∃m',f E=some (.nx [.val (.int c),.val (.lst (names.map D.str)),.val (.lst [.str a,.str b]),.own (.dic (ag m')),.val (.int way),.val (.int (0 + (k:Int)))])/\OkC m'/\m'.length<=m.length + 1)->(∃m',g E=some (.nx [.val (.int c),.val (.lst (names.map D.str)),.val (.lst [.str a,.str b]),.own (.dic (ag m')),.val (.int way),.val (.int (0 + (k:Int)))])/\OkC m'/\m'.length<=m.length + 1) ->
   ∃m',ifS t f g E=some (.nx [.val (.int c),.val (.lst (names.map D.str)),.val (.lst [.str a,.str b]),.own (.dic (ag m')),.val (.int way),.val (.int (0 + (k:Int)))])/\OkC m'/\m'.length<=m.length + 1:=fun t zz150_0 f g hf hg=>by
  obtain⟨bb,hb⟩:=zz150_0
  rw[j4 hb]
  cases bb
  ·exact hg
  ·exact hf
 have hm5:bin aO (ac 0) (cst (.int 5)) E=some (.int (c % 5)):=by
  rw[<-hE]
  show aO (.int c) (.int 5)=_
  exact aH (by decide)
 have teq:∀(f:DE->Option D) (i j:Int),f E=some (.int i)->tst (bin eqE f (cst (.int j))) E=some (decide (i=j)):=fun f i j h=>by
  unfold tst bin
  rw[h];rfl
 have h4:ac 4 E=some (.int way):=by rw[<-hE];rfl
 obtain⟨w1,q1,t1⟩:=v1
 obtain⟨w3,q3,t3⟩:=v3
 obtain⟨w4,q4,t4⟩:=v4
 refine tb _ ⟨_,teq _ _ 0 h4⟩ _ _ (done _ _ q1 t1) (tb _ ⟨_,teq _ _ 1 hm5⟩ _ _ (done _ _ Ga hkt) (tb _ ?_ _ _ (done _ _ q3 t3) (tb _ ⟨_,teq _ _ 3 hm5⟩ _ _ (done _ _ q4 t4) ⟨m,by rw[<-hE];rfl,hm,by lia⟩)))
 have tg:tst (bin gtD (bin aO (ac 0) (cst (.int 5))) (cst (.int 0))) E=some (decide ((0:Int) < c % 5)):=by
  unfold tst
  rw[show bin gtD (bin aO (ac 0) (cst (.int 5))) (cst (.int 0)) E=some (.bl (decide ((0:Int) < c % 5))) from by
   unfold bin
   unfold bin at hm5
   rw[hm5];rfl];rfl
 unfold orT kD
 rw[teq _ _ 2 hm5,teq _ _ 1 h4,tg]
 cases decide (c % 5=2) <;> cases decide (way=1) <;> exact⟨_,rfl⟩
theorem ym{c:Int}{names:List Str}{a b:Str}(hl:0 < names.length)(hl8:names.length<=8)(hn:∀x ∈ names,isT 8 x=true)(ha:isT 8 a=true)(hb:isT 8 b=true):∃m:Ca,h_ [.int c,.lst (names.map D.str),.lst [.str a,.str b]]=some (.dic (ag m))/\OkC m/\m.length<=9:=by
 have hr:fD (aa (un bK (ac 1)) ak) [.val (.int (c / 3)),.val (.lst (names.map D.str)),.val (.lst [.str a,.str b]),.own (.dic []),.val (.int (c % 3)),.no]=some (cN 0 names.length):=by
  show g9 [.int ((names.map D.str).length:Nat)]=_
  rw[CQ,bW (by lia) (by lia),DF]
 have key:wp (i5 (nmG 5) (ar caT (aA 0 (bin aN (ac 0) (cst (.int 100))))) (cN 0 names.length) [.val (.int (c / 3)),.val (.lst (names.map D.str)),.val (.lst [.str a,.str b]),.own (.dic (ag [])),.val (.int (c % 3)),.no]) fun r=>∃(m:Ca) (c':Int) (s5:Sl),r=.nx [.val (.int c'),.val (.lst (names.map D.str)),.val (.lst [.str a,.str b]),.own (.dic (ag m)),.val (.int (c % 3)),s5]/\OkC m/\m.length<=names.length:=by
  refine f_ (fun i:Nat=>D.int (0 + i)) (List.range names.length) (fun pre E=>∃(m:Ca) (c':Int) (s5:Sl),E=[.val (.int c'),.val (.lst (names.map D.str)),.val (.lst [.str a,.str b]),.own (.dic (ag m)),.val (.int (c % 3)),s5]/\OkC m/\m.length<=pre.length) rfl ⟨[],_,_,rfl,OkC.nil,CV _⟩ ?_ ?_
  ·rintro pre k post E hs ⟨m,c',s5,rfl,hm,hml⟩
   obtain⟨rfl,hk⟩:=nB hs
   show wp (some ([.val (.int c'),.val (.lst (names.map D.str)),.val (.lst [.str a,.str b]),.own (.dic (ag m)),.val (.int (c % 3)),.val (.int (0 + (pre.length:Int)))]:DE)) _
   rw[al]
   obtain⟨m',h1,h2,h3⟩:=yn (c:=c') (way:=c % 3) (m:=m) hk hn ha hb hm (by lia)
   rw[sq1 h1]
   have e:aA 0 (bin aN (ac 0) (cst (.int 100))) [.val (.int c'),.val (.lst (names.map D.str)),.val (.lst [.str a,.str b]),.own (.dic (ag m')),.val (.int (c % 3)),.val (.int (0 + (pre.length:Int)))]=some (.nx [.val (.int (c' / 100)),.val (.lst (names.map D.str)),.val (.lst [.str a,.str b]),.own (.dic (ag m')),.val (.int (c % 3)),.val (.int (0 + (pre.length:Int)))]):=by
    refine cb ?_
    simp only[al,aA,bin,cst,ac,aY,CA,CC,CD,Cz,Int.reduceLT,Int.reduceLE,Int.reducePow]
   rw[e,al]
   exact⟨m',_,_,rfl,h2,by rw[C8,Dw];lia⟩
  ·rintro E ⟨m,c',s5,rfl,hm,hml⟩
   exact⟨m,c',s5,rfl,hm,by rw[D8]at hml;exact hml⟩
 obtain⟨r,h1,m,c',s5,rfl,hm,hml⟩:=eB.mp key
 have Gp:c_ (fD (aa (un bK (ac 1)) ak)) (nmG 5) (ar caT (aA 0 (bin aN (ac 0) (cst (.int 100))))) [.val (.int (c / 3)),.val (.lst (names.map D.str)),.val (.lst [.str a,.str b]),.own (.dic []),.val (.int (c % 3)),.no]=some (.nx [.val (.int c'),.val (.lst (names.map D.str)),.val (.lst [.str a,.str b]),.own (.dic (ag m)),.val (.int (c % 3)),s5]):=by
  unfold c_
  rw[hr];exact h1
 have e4:aA 4 (bin aO (ac 0) (cst (.int 3))) [.val (.int c),.val (.lst (names.map D.str)),.val (.lst [.str a,.str b]),.own (.dic []),.no,.no]=some (.nx [.val (.int c),.val (.lst (names.map D.str)),.val (.lst [.str a,.str b]),.own (.dic []),.val (.int (c % 3)),.no]):=by
  refine st1 ?_
  show aO (.int c) (.int 3)=_
  exact aH (by decide)
 have e0:aA 0 (bin aN (ac 0) (cst (.int 3))) [.val (.int c),.val (.lst (names.map D.str)),.val (.lst [.str a,.str b]),.own (.dic []),.val (.int (c % 3)),.no]=some (.nx [.val (.int (c / 3)),.val (.lst (names.map D.str)),.val (.lst [.str a,.str b]),.own (.dic []),.val (.int (c % 3)),.no]):=by
  refine cb ?_
  simp only[al,aA,bin,cst,ac,aY,CA,CC,CD,Cz,Int.reduceLT,Int.reduceLE,Int.reducePow]
 have Gn:∃m':Ca,ifS (tst (bin eqE (bin aO (ac 0) (cst (.int 2))) (cst (.int 1)))) (fG 3 (bin ixE (ac 2) (cst (.int 0))) (bin ixE (ac 1) (cst (.int 0)))) bh [.val (.int c'),.val (.lst (names.map D.str)),.val (.lst [.str a,.str b]),.own (.dic (ag m)),.val (.int (c % 3)),s5]=some (.nx [.val (.int c'),.val (.lst (names.map D.str)),.val (.lst [.str a,.str b]),.own (.dic (ag m')),.val (.int (c % 3)),s5])/\OkC m'/\m'.length<=9:=by
  have hm2:tst (bin eqE (bin aO (ac 0) (cst (.int 2))) (cst (.int 1))) [.val (.int c'),.val (.lst (names.map D.str)),.val (.lst [.str a,.str b]),.own (.dic (ag m)),.val (.int (c % 3)),s5]=some (decide (c' % 2=1)):=by
   have e:bin aO (ac 0) (cst (.int 2)) [.val (.int c'),.val (.lst (names.map D.str)),.val (.lst [.str a,.str b]),.own (.dic (ag m)),.val (.int (c % 3)),s5]=some (.int (c' % 2)):=by
    show aO (.int c') (.int 2)=_
    exact aH (by decide)
   unfold tst
   unfold bin at e ⊢
   rw[e];rfl
  rw[j4 hm2]
  cases decide (c' % 2=1)
  ·exact⟨m,rfl,hm,by lia⟩
  ·refine⟨jI m a names[0],?_,hm.put ha (hn _ (DB hl)),by have:=n6 m a names[0];lia⟩
   rw[if_pos rfl]
   exact yy (E:=[.val (.int c'),.val (.lst (names.map D.str)),.val (.lst [.str a,.str b]),.own (.dic (ag m)),.val (.int (c % 3)),s5]) (n:=a) (v:=names[0]) rfl rfl (yO (k:=0) hl) (by lia)
 obtain⟨m',hl1,hl2,hl3⟩:=Gn
 refine⟨m',?_,hl2,hl3⟩
 have hb:io [.val (.int c),.val (.lst (names.map D.str)),.val (.lst [.str a,.str b]),.no,.no,.no]=some (.rt (.dic (ag m'))):=by
  show ar _ (ar _ (ar _ (ar (c_ (fD (aa (un bK (ac 1)) ak)) (nmG 5) (ar caT (aA 0 (bin aN (ac 0) (cst (.int 100)))))) _))) _=_
  exact(sq1 (E':=[.val (.int c),.val (.lst (names.map D.str)),.val (.lst [.str a,.str b]),.own (.dic []),.no,.no]) rfl).trans ((sq1 e4).trans ((sq1 e0).trans ((sq1 Gp).trans ((sq1 hl1).trans rfl))))
 show((io [.val (.int c),.val (.lst (names.map D.str)),.val (.lst [.str a,.str b]),.no,.no,.no]).bind _)=_
 rw[hb];rfl
end Wk
theorem qT{x:Str}{M:Int}(h:isT M x=true):jh x:=fun c hc=>by
 unfold isT xD at h
 rw[C_,C_,Dj]at h
 have:=h.2.2 c hc
 rw[C_]at this
 exact DM this.2
theorem Wd.isT{M:Nat}{x:Str}(h:Wd M x):isT M x=true:=by
 unfold L2.Cu.isT xD
 have h1:1<=x.length:=by rw[e9];exact h.pos
 have h2:x.length<=M:=by rw[e9];exact h.le
 rw[Df (show 1<=(x.length:Int) by lia),Df (show(x.length:Int)<=M by lia),D9,D9,Dj]
 intro c hc
 have:=h.low c hc
 rw[Df this.1,Df this.2];rfl
theorem Ab(m:Ca):(ag m).map (·.1)=(m.map (·.1)).map (fun x=>(Sum.inr x:Key)):=by unfold ag;rw[Dq,Dq];rfl
theorem qp:∀{kvs:List (Key×D)} {k:Key}{v:D},(kvs.map (·.1)).Nodup->(k,v) ∈ kvs->cj kvs k=some v
 | [],_,_,_,h=>by cases h
 | (k',v') :: r,k,v,hn,h=>by
  rw[CI,List.nodup_cons]at hn
  rcases List.mem_cons.mp h with e |h
  ·cases e;simp[cj]
  ·have hne:¬k'=k:=fun e=>hn.1 (List.mem_map.mpr ⟨(k,v),h,e.symm⟩)
   have:=qp hn.2 h
   unfold cj at this ⊢
   rw[DO]
   simp only[C9 hne]
   exact this
theorem Bw{m:Ca}(h:OkC m):neE (.dic (ag m)) (.dic (ag m))=some (.bl false):=by
 have hd:((ag m).all fun p=>bB p.2)=true:=by
  rw[Dj]
  intro p hp
  obtain⟨q,hq,rfl⟩:=List.mem_map.mp hp
  exact(fQ (qT (h.t2 q hq))).ok (by decide)
 have hnd:((ag m).map (·.1)).Nodup:=by
  rw[Ab]
  exact List.Pairwise.map _ (fun a b hab e=>hab (Sum.inr.inj e)) h.nd
 have ha:(ag m).all (jf (ag m))=true:=by
  rw[Dj]
  intro p hp
  obtain⟨q,hq,rfl⟩:=List.mem_map.mp hp
  have hv:cj (ag m) (Sum.inr q.1)=some (.str q.2):=qp hnd (List.mem_map.mpr ⟨q,hq,rfl⟩)
  unfold jf
  show(match cj (ag m) (Sum.inr q.1) with |some y=>PyData.eqv (toP (.str q.2)) (toP y) |none=>false)=true
  rw[hv]
  have:=kf q.2 q.2
  rw[Df rfl]at this
  exact this
 have e:eqK (.dic (ag m)) (.dic (ag m))=some true:=by
  show(if(((ag m).all fun p=>bB p.2) && (ag m).all fun p=>bB p.2)=true then some (((ag m).length == (ag m).length) && (ag m).all (jf (ag m))) else none)=_
  rw[hd,ha]
  simp
 show(eqK (.dic (ag m)) (.dic (ag m))).map (fun b=>D.bl (!b))=_
 rw[e];rfl
theorem xz(k:Int){n:Str}(h:jh n):neO (.tup [.int k,.str n,cP]) (.tup [.int k,.str n,cP])=some (.bl false):=by
 have hf:fB 2 (.tup [.int k,.str n,cP]):=sU _ fun x hx=>by
  simp only[Ey,DZ,Fy]at hx
  rcases hx with rfl |rfl |rfl
  ·exact(vJ _).le (by decide)
  ·exact(fQ h).le (by decide)
  ·exact dS D.bl [false,false,false,true,true] fun x _=>mC x
 rw[nQ hf hf (by decide) rfl]
 have:oN (.tup [.int k,.str n,cP]) (.tup [.int k,.str n,cP])=true:=PySem.SeqAt.eqv_refl _ hf.lay
 rw[this];rfl
def sw:List D:=[.str "",.str "Abel",.str "a b",.str "abcdefghi",.int 5,.non,.bl true,.tup [.str "a"]]
def qO:List D:=[.non,.str "ann",.int 5,.tup []]
namespace Wk
theorem uW:∀d ∈ sw,SmN d/\isL 8 d=false/\((cZ d).isSome=true\/uX d=true):=by
 intro d hd
 simp only[sw,Ey,DZ,Fy]at hd
 rcases hd with rfl |rfl |rfl |rfl |rfl |rfl |rfl |rfl
 ·exact⟨.inl ⟨_,rfl,by decide⟩,by decide,.inl rfl⟩
 ·exact⟨.inl ⟨_,rfl,by decide⟩,by decide,.inl rfl⟩
 ·exact⟨.inl ⟨_,rfl,by decide⟩,by decide,.inl rfl⟩
 ·exact⟨.inl ⟨_,rfl,by decide⟩,by decide,.inl rfl⟩
 ·exact⟨.inr ⟨rfl,rfl,rfl⟩,rfl,.inl rfl⟩
 ·exact⟨.inr ⟨rfl,rfl,rfl⟩,rfl,.inl rfl⟩
 ·exact⟨.inr ⟨rfl,rfl,rfl⟩,rfl,.inr rfl⟩
 ·exact⟨.inr ⟨rfl,rfl,rfl⟩,rfl,.inr rfl⟩
theorem xI:∀d ∈ qO,dR "dict" d=some (.bl false):=by
 intro d hd
 simp only[qO,Ey,DZ,Fy]at hd
 rcases hd with rfl |rfl |rfl |rfl <;> rfl
theorem oj{d:D}{ky:Key}(h:cZ d=some ky):b8 ky=d:=by
 cases d <;> first | (cases h;rfl) |cases h
theorem v7{kvs:List (Key×D)}(hl:kvs.length<=1000)(hs:∀p ∈ kvs,SmN (b8 p.1)/\SmN p.2)(h:∃p ∈ kvs,(isL 8 (b8 p.1) && isL 8 p.2)=false):tCa [.val (.dic kvs),.no,.no]=some true:=by
 have hi:ft (.dic kvs)=some ((kvs.map fun p=>(b8 p.1,p.2)).map fun p=>D.tup [p.1,p.2]):=by
  show some (List.map _ kvs)=_
  rw[Dq];rfl
 have:=jA rfl hi (by rw[CQ];exact hl) fun p hp=>by
  obtain⟨u,hu,rfl⟩:=List.mem_map.mp hp
  exact hs u hu
 rw[this,show((kvs.map fun p=>(b8 p.1,p.2)).all fun p=>isL 8 p.1 && isL 8 p.2)=false from ?_];· rfl
 obtain⟨p,hp,e⟩:=h
 rw[Bool.eq_false_iff]
 intro z
 rw[Dj]at z
 have:=z (b8 p.1,p.2) (List.mem_map.mpr ⟨p,hp,rfl⟩)
 rw[e]at this
 cases this
theorem nU{kvs:List (Key×D)}{k:Key}{v:D}{p:Key×D}(h:p ∈ ff kvs k v):p ∈ kvs\/p=(k,v):=by
 unfold ff at h
 split at h
 ·obtain⟨q,hq,rfl⟩:=List.mem_map.mp h
  by_cases e:q.1=k
  ·rw[if_pos e,e];exact .inr rfl
  ·rw[if_neg e];exact .inl hq
 ·rcases List.mem_append.mp h with h |h
  ·exact .inl h
  ·exact .inr (List.mem_singleton.mp h)
theorem nD(kvs:List (Key×D))(k:Key)(v:D):(k,v) ∈ ff kvs k v:=by
 unfold ff
 split
 ·rename_i h
  obtain⟨q,hq,e⟩:=List.any_eq_true.mp h
  have e:q.1=k:=DM e
  exact List.mem_map.mpr ⟨q,hq,by rw[if_pos e,e]⟩
 ·exact List.mem_append.mpr (.inr (List.mem_singleton.mpr rfl))
theorem n5(kvs:List (Key×D))(k:Key)(v:D):(ff kvs k v).length<=kvs.length + 1:=by
 unfold ff
 split
 ·rw[CQ];lia
 ·rw[C8];simp
theorem smC{m:Ca}(h:OkC m):∀p ∈ ag m,SmN (b8 p.1)/\SmN p.2:=fun p hp=>by
 obtain⟨u,hu,rfl⟩:=List.mem_map.mp hp
 exact⟨kZ (h.t1 u hu),kZ (h.t2 u hu)⟩
theorem A6{m:Ca}(hm:OkC m)(hl:m.length<=100){d:D}(hd:d ∈ sw):∃d0,wn (ag m) d (.str "ann")=some d0/\tCa [.val d0,.no,.no]=some true:=by
 obtain⟨s1,s2,s3⟩:=uW d hd
 have hl':(ag m).length=m.length:=by unfold ag;rw[CQ]
 have sa:SmN (.str "ann"):=kZ (by decide)
 unfold wn
 cases hk:cZ d with
 |some ky =>
  refine⟨_,rfl,v7 (by have:=n5 (ag m) ky (.str "ann");lia) (fun p hp=>?_) ⟨(ky,.str "ann"),nD _ _ _,?_⟩⟩
  ·rcases nU hp with hp |rfl
   ·exact smC hm p hp
   ·rw[oj hk];exact⟨s1,sa⟩
  ·rw[oj hk,s2];rfl
 |none =>
  rw[hk]at s3
  have so:uX d=true:=s3.resolve_left (fun z=>nomatch z)
  have ht:((ag m).all fun p=>vx p.1)=true:=by
   rw[Dj]
   intro p hp
   obtain⟨u,hu,rfl⟩:=List.mem_map.mp hp
   rfl
  refine⟨.odd ((ag m).map (fun p=>b8 p.1) ++ [d]) ((ag m).map (·.2) ++ [.str "ann"]),if_pos (by rw[so,ht];rfl),?_⟩
  have hi:ft (.odd ((ag m).map (fun p=>b8 p.1) ++ [d]) ((ag m).map (·.2) ++ [.str "ann"]))=some (((ag m).map (fun p:Key×D=>(b8 p.1,p.2)) ++ [(d,D.str "ann")]).map fun p:D×D=>D.tup [p.1,p.2]):=by
   show some (List.map _ (List.zip _ _))=_
   rw[List.zip_append (by rw[CQ,CQ]),<-List.zip_map',List.zip_cons_cons,List.zip_nil_left]
  have:=jA rfl hi (by rw[C8,CQ,hl'];simp;lia) fun p hp=>by
   rcases List.mem_append.mp hp with hp |hp
   ·obtain⟨u,hu,rfl⟩:=List.mem_map.mp hp
    exact smC hm u hu
   ·rw[List.mem_singleton.mp hp];exact⟨s1,sa⟩
  rw[this,List.all_append,show([(d,D.str "ann")].all fun p=>isL 8 p.1 && isL 8 p.2)=false from by rw[DH,s2];rfl,D0];rfl
theorem A5{m:Ca}(hm:OkC m)(hl:m.length<=100){b:Str}(hb:isT 8 b=true){d:D}(hd:d ∈ sw):tCa [.val (.dic (ff (ag m) (.inr b) d)),.no,.no]=some true:=by
 obtain⟨s1,s2,s3⟩:=uW d hd
 have hl':(ag m).length=m.length:=by unfold ag;rw[CQ]
 refine v7 (by have:=n5 (ag m) (.inr b) d;lia) (fun p hp=>?_) ⟨(.inr b,d),nD _ _ _,?_⟩
 ·rcases nU hp with hp |rfl
  ·exact smC hm p hp
  ·exact⟨kZ hb,s1⟩
 ·show(isT 8 b && isL 8 d)=false
  rw[s2,D0]
theorem v5:∀k,aP k=Wk.aP k
 | 0=>rfl
 |k + 1=>by
  exact DK (fun g=>dy 2 3 (d3 g)) (v5 k)
theorem mr{xs:List D}(h:0 < xs.length)(x:Int):∃d ∈ xs,ixE (.lst xs) (.int (x % (xs.length:Int)))=some d:=by
 have h0:0<=x % (xs.length:Int):=Dt _ (by lia)
 have h1:x % (xs.length:Int) < xs.length:=Dn _ (by lia)
 obtain⟨j,hj⟩:∃j:Nat,x % (xs.length:Int)=j:=⟨(x % (xs.length:Int)).toNat,by lia⟩
 have hj':j < xs.length:=by lia
 refine⟨xs[j],DB hj',?_⟩
 rw[hj]
 show atI xs (j:Int)=_
 rw[ip,C0 hj']
theorem Bm{m:Ca}(hm:OkC m){x:Str}(hx:isT 8 x=true):isT 8 (plr m x)=true:=by
 unfold plr
 cases hf:m.find? fun q=>decide (q.1=x) with
 |none=>exact hx
 |some u=>exact hm.t2 u (List.mem_of_find?_eq_some hf)
theorem tK{m:Ca}{n:Str}{j:Nat}:∀{p:List Sp}{ah:List Str}{k:Nat},wk m ah k p=.bad j n->∃s ∈ p,n ∈ plS m s
 | [],_,_,h=>by cases h
 |s :: r,ah,k,h=>by
  unfold wk at h
  split at h
  ·cases hw:wk m (plS m s) (k + 1) r with
   |ok q'=>rw[hw]at h;cases h
   |bad j' n' =>
    rw[hw]at h
    cases h
    obtain⟨s',h1,h2⟩:=tK hw
    exact⟨s',CY _ h1,h2⟩
  ·rename_i hm
   cases h
   exact⟨s,C1,(List.mem_filter.mp (jQ hm)).1⟩
abbrev lE(ns:List Int)(c:Int)(names words:List Str)(p:List Sp)(a b:Str)(s6 s7 s8 s9 s10 s11 s12 s13:Sl):DE :=
 [.val (.scr ns),.val (.int c),.val (.lst (names.map D.str)),.val (.lst (words.map D.str)),.val (ay p),.val (.lst [.str a,.str b]),s6,s7,s8,s9,s10,s11,s12,s13,.no]
abbrev tlB:DE->Option Out:=(ar (aA 1 (bin aN (ac 1) (bin ja (cst (.int 10)) (cst (.int 45)))))
 (ar (aA 12 (bin ixE (bp (aa (cst (.str "")) (aa (cst (.str "Abel")) (aa (cst (.str "a b")) (aa (cst (.str "abcdefghi")) (aa (cst (.int 5)) (aa (cst .non) (aa (cst (.bl true)) (aa (bG (aa (cst (.str "a")) ak)) ak))))))))) (bin aO (bin aN (ac 1) (cst (.int 4))) (cst (.int 8)))))
 (ar (kY 13 (un kn (ac 6)) (un jU (ac 6)) (bin ixE (bp (aa (cst .non) (aa (cst (.str "ann")) (aa (cst (.int 5)) (aa (bG ak) ak))))) (bin aO (bin aN (ac 1) (cst (.int 32))) (cst (.int 4)))) (var 12) (cst (.str "ann")) (bin ixE (ac 5) (cst (.int 1))) (var 12))
 (ba (orV (bin gtD (bin aO (bin aN (ac 1) (cst (.int 128))) (cst (.int 5))) (cst (.int 0))) (ax 2 cp (aa (var 4) (aa (bin ixE (ac 13) (bin aO (ac 1) (cst (.int 4)))) ak))))))))
theorem fX{o:D->D->Option D}{f g:DE->Option D}{E:DE}{x y:D}(h1:f E=some x)(h2:g E=some y):bin o f g E=o x y:=by unfold bin;rw[h1,h2];rfl
theorem qr{ns:List Int}{c:Int}{names words:List Str}{p:List Sp}{a b:Str}{m:Ca}{s7 s8 s9 s10 s11:Sl}(hm:OkC m)(hl:m.length<=100)(hb:isT 8 b=true) :
  tlB (lE ns c names words p a b (.val (.dic (ag m))) s7 s8 s9 s10 s11 .no .no)=some (.rt (.bl true)):=by
 have p45:ja (.int 10) (.int 45)=some (.int (10 ^ 45)):=hG (by lia) (by lia) (by decide)
 generalize hc:c / 10 ^ 45=c'
 have h1:bin aN (ac 1) (bin ja (cst (.int 10)) (cst (.int 45))) (lE ns c names words p a b (.val (.dic (ag m))) s7 s8 s9 s10 s11 .no .no)=some (.int c'):=by
  rw[fX (x:=.int c) (y:=.int (10 ^ 45)) rfl (by rw[fX (x:=.int 10) (y:=.int 45) rfl rfl];exact p45),aY (by decide) (by decide),hc]
 have hd:∀(k:Int) (s12 s13:Sl),0 < k->k<=1000->bin aN (ac 1) (cst (.int k)) (lE ns c' names words p a b (.val (.dic (ag m))) s7 s8 s9 s10 s11 s12 s13)=some (.int (c' / k)):=fun k s12 s13 h0 h1=>by
  rw[fX (x:=.int c') (y:=.int k) rfl rfl]
  exact aY h0 (Int.le_trans h1 (by decide))
 have hdm:∀(k j:Int) (s12 s13:Sl),0 < k->k<=1000->0 < j->bin aO (bin aN (ac 1) (cst (.int k))) (cst (.int j)) (lE ns c' names words p a b (.val (.dic (ag m))) s7 s8 s9 s10 s11 s12 s13)=some (.int (c' / k % j)):=fun k j s12 s13 h0 h1 h2=>by
  rw[fX (hd k s12 s13 h0 h1) (y:=.int j) rfl]
  exact aH h2
 obtain⟨od,hod,eod⟩:=mr (xs:=sw) (by decide) (c' / 4)
 obtain⟨la,hla,ela⟩:=mr (xs:=qO) (by decide) (c' / 32)
 have h2:bin ixE (bp (aa (cst (.str "")) (aa (cst (.str "Abel")) (aa (cst (.str "a b")) (aa (cst (.str "abcdefghi")) (aa (cst (.int 5)) (aa (cst .non) (aa (cst (.bl true)) (aa (bG (aa (cst (.str "a")) ak)) ak))))))))) (bin aO (bin aN (ac 1) (cst (.int 4))) (cst (.int 8))) (lE ns c' names words p a b (.val (.dic (ag m))) s7 s8 s9 s10 s11 .no .no)=some od:=by
  rw[fX (x:=.lst sw) rfl (hdm 4 8 .no .no (by decide) (by decide) (by decide))]
  exact eod
 have h3:bin ixE (bp (aa (cst .non) (aa (cst (.str "ann")) (aa (cst (.int 5)) (aa (bG ak) ak))))) (bin aO (bin aN (ac 1) (cst (.int 32))) (cst (.int 4))) (lE ns c' names words p a b (.val (.dic (ag m))) s7 s8 s9 s10 s11 (.val od) .no)=some la:=by
  rw[fX (x:=.lst qO) rfl (hdm 32 4 (.val od) .no (by decide) (by decide) (by decide))]
  exact ela
 obtain⟨d0,e0,t0⟩:=A6 hm hl hod
 have t1:=A5 hm hl hb hod
 have hl':(ag m).length=m.length:=by unfold ag;rw[CQ]
 generalize hL:[d0,.dic (ff (ag m) (.inr b) od),.lst ((ag m).map fun p=>b8 p.1),la]=L
 have hs3:kY 13 (un kn (ac 6)) (un jU (ac 6)) (bin ixE (bp (aa (cst .non) (aa (cst (.str "ann")) (aa (cst (.int 5)) (aa (bG ak) ak))))) (bin aO (bin aN (ac 1) (cst (.int 32))) (cst (.int 4)))) (var 12) (cst (.str "ann")) (bin ixE (ac 5) (cst (.int 1))) (var 12) (lE ns c' names words p a b (.val (.dic (ag m))) s7 s8 s9 s10 s11 (.val od) .no) =
   some (.nx (lE ns c' names words p a b (.val (.dic (ag m))) s7 s8 s9 s10 s11 (.val od) (.val (.lst L)))):=by
  unfold kY
  rw[show un kn (ac 6) (lE ns c' names words p a b (.val (.dic (ag m))) s7 s8 s9 s10 s11 (.val od) .no)=some (.dic (ag m)) from rfl,CA]
  show((un jU (ac 6) (lE ns c' names words p a b (.val (.dic (ag m))) s7 s8 s9 s10 s11 (.val od) .no)).bind _)=_
  rw[show un jU (ac 6) (lE ns c' names words p a b (.val (.dic (ag m))) s7 s8 s9 s10 s11 (.val od) .no)=some (.lst ((ag m).map fun p=>b8 p.1)) from rfl,CA,h3,CA]
  show((wn (ag m) od (.str "ann")).bind fun d0=>if(ag m).length < sizeLine/\13 < 15 then some (Out.nx (lE ns c' names words p a b (.val (.dic (ag m))) s7 s8 s9 s10 s11 (.val od) (.val (.lst [d0,.dic (ff (ag m) (.inr b) od),.lst ((ag m).map fun p=>b8 p.1),la])))) else none)=_
  rw[e0,CA,if_pos ⟨by rw[hl'];exact Dy hl (by decide),by decide⟩,hL]
 have hLl:L.length=4:=by rw[<-hL];rfl
 obtain⟨th,hth,eth⟩:=mr (xs:=L) (by rw[hLl];decide) c'
 rw[hLl]at eth
 have tth:tCa [.val th,.no,.no]=some true:=by
  rw[<-hL]at hth
  simp only[Ey,DZ,Fy]at hth
  rcases hth with rfl |rfl |rfl |rfl
  ·exact t0
  ·exact t1
  ·exact t8 rfl
  ·exact t8 (xI _ hla)
 have hnc:ax 2 cp (aa (var 4) (aa (bin ixE (ac 13) (bin aO (ac 1) (cst (.int 4)))) ak)) (lE ns c' names words p a b (.val (.dic (ag m))) s7 s8 s9 s10 s11 (.val od) (.val (.lst L)))=some (.bl true):=by
  have ei:bin ixE (ac 13) (bin aO (ac 1) (cst (.int 4))) (lE ns c' names words p a b (.val (.dic (ag m))) s7 s8 s9 s10 s11 (.val od) (.val (.lst L)))=some th:=by
   rw[fX (x:=.lst L) (y:=.int (c' % 4)) rfl (by rw[fX (x:=.int c') (y:=.int 4) rfl rfl];exact aH (by decide))]
   exact eth
  unfold ax aa ak
  rw[ei]
  exact pL tth
 have hg:∃bb,bin gtD (bin aO (bin aN (ac 1) (cst (.int 128))) (cst (.int 5))) (cst (.int 0)) (lE ns c' names words p a b (.val (.dic (ag m))) s7 s8 s9 s10 s11 (.val od) (.val (.lst L)))=some (.bl bb):=⟨_,by
  rw[fX (hdm 128 5 (.val od) (.val (.lst L)) (by decide) (by decide) (by decide)) (y:=.int 0) rfl]
  exact jp⟩
 have ho:orV (bin gtD (bin aO (bin aN (ac 1) (cst (.int 128))) (cst (.int 5))) (cst (.int 0))) (ax 2 cp (aa (var 4) (aa (bin ixE (ac 13) (bin aO (ac 1) (cst (.int 4)))) ak))) (lE ns c' names words p a b (.val (.dic (ag m))) s7 s8 s9 s10 s11 (.val od) (.val (.lst L)))=some (.bl true):=by
  obtain⟨bb,e⟩:=hg
  unfold orV
  rw[e,hnc]
  cases bb <;> rfl
 refine(sq1 (st1 h1)).trans ((sq1 (st1 h2)).trans ((sq1 hs3).trans ?_))
 unfold ba
 rw[ho];rfl
abbrev i1:DE->Option Bool:=tst (bin neE (ac 6) (ac 7))
abbrev i2':DE->Option Bool:=kD (tst (un oA (var 10))) (orT (tst (un ci (var 8))) (tst (bin neE (ac 9) (bin cz (ac 11) (bG (aa (bp (aa (cst (.bl false)) (aa (cst (.bl false)) (aa (cst (.bl false)) (aa (cst (.bl true)) (aa (cst (.bl true)) ak)))))) ak))))))
abbrev i3:DE->Option Bool:=kD (tst (un ci (var 10))) (orT (tst (un ci (var 9))) (fF (tst (ax 2 (aP 6) (aa (var 8) (aa (var 10) ak))))))
theorem z_{ns:List Int}{c:Int}{names words:List Str}{p:List Sp}{a b:Str}{m:Ca}(hm:OkC m)(hl:m.length<=100)(hb:isT 8 b=true)(hp:∀s ∈ p,s.1.length < 64/\s.2.length<=1000)(hpl:p.length<=1000)(hpt:∀s ∈ p,∀x ∈ s.1,isT 8 x=true) :
  ar (ce (ax 2 bY (aa (var 4) (aa (var 6) ak))) (eE 2 (a8 (nmG 8) (a8 (nmG 9) eK)))) (ar (ce (ax 2 eg (aa (var 4) (aa (var 7) ak))) (eE 2 (a8 (nmG 10) (a8 (nmG 11) eK)))) (ar (ifS i1 (ba (cst (.bl false))) bh) (ar (ifS i2' (ba (cst (.bl false))) bh) (ar (ifS i3 (ba (cst (.bl false))) bh) tlB))))
   (lE ns c names words p a b (.val (.dic (ag m))) (.val (.dic (ag m))) .no .no .no .no .no .no)=some (.rt (.bl true)):=by
 have FY:∀s ∈ p,∀x ∈ plS m s,jh x:=fun s hs x hx=>by
  obtain⟨y,hy,rfl⟩:=List.mem_map.mp hx
  exact qT (Bm hm (hpt s hs y hy))
 have hp1:∀s ∈ p,s.1.length < 64:=fun s hs=>(hp s hs).1
 have Gs:=AF (m:=m) hp1 hpl FY
 have hne:∀s8 s9 s10 s11:Sl,ifS i1 (ba (cst (.bl false))) bh (lE ns c names words p a b (.val (.dic (ag m))) (.val (.dic (ag m))) s8 s9 s10 s11 .no .no)=some (.nx (lE ns c names words p a b (.val (.dic (ag m))) (.val (.dic (ag m))) s8 s9 s10 s11 .no .no)):=fun s8 s9 s10 s11=>by
  have e:i1 (lE ns c names words p a b (.val (.dic (ag m))) (.val (.dic (ag m))) s8 s9 s10 s11 .no .no)=some false:=by
   show((neE (.dic (ag m)) (.dic (ag m))).bind asB)=_
   rw[Bw hm];rfl
  rw[j4 e];rfl
 cases hw:wk m [] 0 p with
 |ok q =>
  rw[hw]at Gs
  have has:=wj (p9 hm (by lia) hp1 hpl hw)
  obtain⟨q1,q2⟩:=tJ hw
  have GP:aP 6 [ay q,ay q]=some (.bl true):=by
   rw[v5]
   refine Sh.k7 5 _ (fun d hd=>?_) (by rw[CQ,q1];lia)
   obtain⟨t,ht,rfl⟩:=List.mem_map.mp hd
   obtain⟨s,hs,h1,h2⟩:=q2 t ht
   refine Sh.zi 2 t ?_ ?_
   ·rw[h1,(cM _).length_eq]
    unfold plS
    rw[CQ]
    have:=(hp s hs).1
    lia
   ·rw[h2]
    have:=(hp s hs).2
    lia
  have u1:ce (ax 2 bY (aa (var 4) (aa (var 6) ak))) (eE 2 (a8 (nmG 8) (a8 (nmG 9) eK))) (lE ns c names words p a b (.val (.dic (ag m))) (.val (.dic (ag m))) .no .no .no .no .no .no)=some (.nx (lE ns c names words p a b (.val (.dic (ag m))) (.val (.dic (ag m))) (.val (ay q)) (.val .non) .no .no .no .no)):=by
   show((bY [ay p,.dic (ag m)]).bind _)=_
   rw[has];rfl
  have u2:ce (ax 2 eg (aa (var 4) (aa (var 7) ak))) (eE 2 (a8 (nmG 10) (a8 (nmG 11) eK))) (lE ns c names words p a b (.val (.dic (ag m))) (.val (.dic (ag m))) (.val (ay q)) (.val .non) .no .no .no .no)=some (.nx (lE ns c names words p a b (.val (.dic (ag m))) (.val (.dic (ag m))) (.val (ay q)) (.val .non) (.val (ay q)) (.val .non) .no .no)):=by
   show((eg [ay p,.dic (ag m)]).bind _)=_
   rw[Gs];rfl
  have e2:i2' (lE ns c names words p a b (.val (.dic (ag m))) (.val (.dic (ag m))) (.val (ay q)) (.val .non) (.val (ay q)) (.val .non) .no .no)=some false:=rfl
  have e3:i3 (lE ns c names words p a b (.val (.dic (ag m))) (.val (.dic (ag m))) (.val (ay q)) (.val .non) (.val (ay q)) (.val .non) .no .no)=some false:=by
   show(((aP 6 [ay q,ay q]).bind asB).map (!·))=_
   rw[GP];rfl
  refine(sq1 u1).trans ((sq1 u2).trans ((sq1 (hne _ _ _ _)).trans ((sq1 (E':=lE ns c names words p a b (.val (.dic (ag m))) (.val (.dic (ag m))) (.val (ay q)) (.val .non) (.val (ay q)) (.val .non) .no .no) ?_).trans ((sq1 (E':=lE ns c names words p a b (.val (.dic (ag m))) (.val (.dic (ag m))) (.val (ay q)) (.val .non) (.val (ay q)) (.val .non) .no .no) ?_).trans (qr hm hl hb)))))
  ·rw[j4 e2];rfl
  ·rw[j4 e3];rfl
 |bad j n =>
  rw[hw]at Gs
  obtain⟨g1,g2⟩:=oR hm (by lia) hp1 hpl hw
  have has:=tz g1 g2
  obtain⟨s,hs,hn⟩:=tK hw
  have hnl:=FY s hs n hn
  have u1:ce (ax 2 bY (aa (var 4) (aa (var 6) ak))) (eE 2 (a8 (nmG 8) (a8 (nmG 9) eK))) (lE ns c names words p a b (.val (.dic (ag m))) (.val (.dic (ag m))) .no .no .no .no .no .no)=some (.nx (lE ns c names words p a b (.val (.dic (ag m))) (.val (.dic (ag m))) (.val .non) (.val (.tup [.int (j:Int),.str n,cP])) .no .no .no .no)):=by
   show((bY [ay p,.dic (ag m)]).bind _)=_
   rw[has];rfl
  have u2:ce (ax 2 eg (aa (var 4) (aa (var 7) ak))) (eE 2 (a8 (nmG 10) (a8 (nmG 11) eK))) (lE ns c names words p a b (.val (.dic (ag m))) (.val (.dic (ag m))) (.val .non) (.val (.tup [.int (j:Int),.str n,cP])) .no .no .no .no)=some (.nx (lE ns c names words p a b (.val (.dic (ag m))) (.val (.dic (ag m))) (.val .non) (.val (.tup [.int (j:Int),.str n,cP])) (.val .non) (.val (.tup [.int (j:Int),.str n])) .no .no)):=by
   show((eg [ay p,.dic (ag m)]).bind _)=_
   rw[Gs];rfl
  have e2:i2' (lE ns c names words p a b (.val (.dic (ag m))) (.val (.dic (ag m))) (.val .non) (.val (.tup [.int (j:Int),.str n,cP])) (.val .non) (.val (.tup [.int (j:Int),.str n])) .no .no)=some false:=by
   show((neO (.tup [.int (j:Int),.str n,cP]) (.tup [.int (j:Int),.str n,cP])).bind asB)=_
   rw[xz _ hnl];rfl
  have e3:i3 (lE ns c names words p a b (.val (.dic (ag m))) (.val (.dic (ag m))) (.val .non) (.val (.tup [.int (j:Int),.str n,cP])) (.val .non) (.val (.tup [.int (j:Int),.str n])) .no .no)=some false:=rfl
  refine(sq1 u1).trans ((sq1 u2).trans ((sq1 (hne _ _ _ _)).trans ((sq1 (E':=lE ns c names words p a b (.val (.dic (ag m))) (.val (.dic (ag m))) (.val .non) (.val (.tup [.int (j:Int),.str n,cP])) (.val .non) (.val (.tup [.int (j:Int),.str n])) .no .no) ?_).trans ((sq1 (E':=lE ns c names words p a b (.val (.dic (ag m))) (.val (.dic (ag m))) (.val .non) (.val (.tup [.int (j:Int),.str n,cP])) (.val .non) (.val (.tup [.int (j:Int),.str n])) .no .no) ?_).trans (qr hm hl hb)))))
  ·rw[j4 e2];rfl
  ·rw[j4 e3];rfl
theorem wf{g:List D->Option D}{f1 f2 f3:DE->Option D}{E:DE}{x y z:D}(h1:f1 E=some x)(h2:f2 E=some y)(h3:f3 E=some z):ax 3 g (aa f1 (aa f2 (aa f3 ak))) E=g [x,y,z]:=by
 unfold ax aa ak
 rw[h1,h2,h3];rfl
theorem xC{ns:List Int}{c:Int}{names words:List Str}{p:List Sp}{a b:Str}(h:(bP.filter fun x => !decide (x ∈ names)).take 2=[a,b]) :
  cA (bn [14] (cc fN (bp (aa (cst (.str "ann")) (aa (cst (.str "bob")) (aa (cst (.str "cy")) (aa (cst (.str "dee")) (aa (cst (.str "eve")) (aa (cst (.str "flo")) (aa (cst (.str "gus")) (aa (cst (.str "hal")) ak)))))))))) (nmG 14) (tst (bin jP (ac 14) (ac 2))) (var 14)) noP (di (cst (.int 2)))
   [.val (.scr ns),.val (.int c),.val (.lst (names.map D.str)),.val (.lst (words.map D.str)),.val (ay p),.no,.no,.no,.no,.no,.no,.no,.no,.no,.no]=some (.lst [.str a,.str b]):=by
 have hc:bD (nmG 14) (tst (bin jP (ac 14) (ac 2))) (var 14) [.val (.scr ns),.val (.int c),.val (.lst (names.map D.str)),.val (.lst (words.map D.str)),.val (ay p),.no,.no,.no,.no,.no,.no,.no,.no,.no,.no] (bP.map D.str)=some ((bP.filter fun x => !decide (x ∈ names)).map D.str):=by
  refine dB D.str (fun x => !decide (x ∈ names)) D.str bP fun x _=>⟨?_,fun _=>rfl⟩
  show((jP (.str x) (.lst (names.map D.str))).bind asB)=_
  rw[nP];rfl
 have hf:bn [14] (cc fN (bp (aa (cst (.str "ann")) (aa (cst (.str "bob")) (aa (cst (.str "cy")) (aa (cst (.str "dee")) (aa (cst (.str "eve")) (aa (cst (.str "flo")) (aa (cst (.str "gus")) (aa (cst (.str "hal")) ak)))))))))) (nmG 14) (tst (bin jP (ac 14) (ac 2))) (var 14)
   [.val (.scr ns),.val (.int c),.val (.lst (names.map D.str)),.val (.lst (words.map D.str)),.val (ay p),.no,.no,.no,.no,.no,.no,.no,.no,.no,.no]=some (.lst ((bP.filter fun x => !decide (x ∈ names)).map D.str)):=by
  show(if(bP.map D.str).length<=sizeLine then(bD (nmG 14) (tst (bin jP (ac 14) (ac 2))) (var 14) [.val (.scr ns),.val (.int c),.val (.lst (names.map D.str)),.val (.lst (words.map D.str)),.val (ay p),.no,.no,.no,.no,.no,.no,.no,.no,.no,.no] (bP.map D.str)).map D.lst else none)=_
  rw[if_pos (show(bP.map D.str).length<=sizeLine from(by decide:8<=sizeLine)),hc];rfl
 unfold cA
 rw[hf]
 show some (D.lst (cT ((bP.filter fun x => !decide (x ∈ names)).map D.str) none (some ((2:Nat):Int))))=_
 rw[qb,<-List.map_take,h];rfl
theorem vm(ns:List Int)(hn:ns.length<=63)(hb:∀i ∈ ns,Builtin.Int.intBits i<=2 ^ 20):vD [.scr ns]=some (.bl true):=by
 obtain⟨_,k0,c,rfl,hc⟩:=eB.mp (Sh.rE hb 0)
 obtain⟨_,k1,c1,rfl,hc1⟩:=eB.mp (Sh.rE hb 1)
 have a0:0<=c % 7:=Dt _ (by decide)
 have a1:c % 7 < 7:=Dn _ (by decide)
 have b0:0<=c / 4 % 4:=Dt _ (by decide)
 have b1:c / 4 % 4 < 4:=Dn _ (by decide)
 obtain⟨_,hnm,names,rfl,nl,nd,nw,nt⟩:=eB.mp (Sh.kU c1 (2 + c % 7) 8 (2 + (c % 7).toNat) 8 (by lia) rfl (by lia) (by lia) (by lia))
 obtain⟨_,hwd,words,rfl,wl,wd,ww,_⟩:=eB.mp (Sh.kU (c / 100) (1 + c / 4 % 4) 12 (1 + (c / 4 % 4).toNat) 12 (by lia) rfl (by lia) (by lia) (by lia))
 have n8:names.length<=8:=by lia
 have n0:0 < names.length:=by lia
 obtain⟨cs,hcs⟩:∃cs,cs=cT ns (some 3) (some 63):=⟨_,rfl⟩
 have hcl:cs.length<=60:=by
  have e:cT ns (some 3) (some 63)=(ns.take 63).drop 3:=rC ns 3 63
  rw[hcs,e,EK,Fe];lia
 have hcm:∀i ∈ cs,Builtin.Int.intBits i<=2 ^ 20:=fun i hi=>hb i (by
  rw[hcs]at hi
  unfold cT at hi
  exact List.mem_of_mem_drop (EL hi))
 obtain⟨_,hpl,p,rfl,plen,pgood⟩:=eB.mp (Sh.wZ cs names words hcm (by lia) nd (by lia) n8 (fun x hx=>(nw x hx).lowS) (by lia))
 obtain⟨a,b,hab,ha,hb'⟩:=u_ nt
 have hnt:∀x ∈ names,isT 8 x=true:=fun x hx=>(nw x hx).isT
 have ta:=rF a ha
 have tb:=rF b hb'
 obtain⟨m,hca,hm,hml⟩:=ym (c:=c / 10 ^ 20) n0 n8 hnt ta tb
 have GU:=z_ (ns:=ns) (c:=c) (names:=names) (words:=words) (p:=p) (a:=a) hm (show m.length<=100 by lia) tb (fun s hs=>⟨by have:=(pgood.each s hs).le;lia,by have:=(pgood.each s hs).wle;lia⟩) (by lia) (fun s hs x hx=>hnt x ((pgood.each s hs).sub x hx))
 have p20:ja (.int 10) (.int 20)=some (.int (10 ^ 20)):=hG (by lia) (by lia) (by decide)
 have h1:ax 2 c9 (aa (var 0) (aa (cst (.int 0)) ak)) [.val (.scr ns),.no,.no,.no,.no,.no,.no,.no,.no,.no,.no,.no,.no,.no,.no]=some (.int c):=k0
 have h2:ax 3 cR (aa (ax 2 c9 (aa (var 0) (aa (cst (.int 1)) ak))) (aa (bin cz (cst (.int 2)) (bin aO (ac 1) (cst (.int 7)))) (aa (cst (.int 8)) ak))) [.val (.scr ns),.val (.int c),.no,.no,.no,.no,.no,.no,.no,.no,.no,.no,.no,.no,.no]=some (.lst (names.map D.str)):=by
  have e1:ax 2 c9 (aa (var 0) (aa (cst (.int 1)) ak)) [.val (.scr ns),.val (.int c),.no,.no,.no,.no,.no,.no,.no,.no,.no,.no,.no,.no,.no]=some (.int c1):=k1
  have e2:bin cz (cst (.int 2)) (bin aO (ac 1) (cst (.int 7))) [.val (.scr ns),.val (.int c),.no,.no,.no,.no,.no,.no,.no,.no,.no,.no,.no,.no,.no]=some (.int (2 + c % 7)):=by
   rw[fX (x:=.int 2) (y:=.int (c % 7)) rfl (by rw[fX (x:=.int c) (y:=.int 7) rfl rfl];exact aH (by decide))];rfl
  exact(wf e1 e2 rfl).trans hnm
 have h3:ax 3 cR (aa (bin aN (ac 1) (cst (.int 100))) (aa (bin cz (cst (.int 1)) (bin aO (bin aN (ac 1) (cst (.int 4))) (cst (.int 4)))) (aa (cst (.int 12)) ak))) [.val (.scr ns),.val (.int c),.val (.lst (names.map D.str)),.no,.no,.no,.no,.no,.no,.no,.no,.no,.no,.no,.no]=some (.lst (words.map D.str)):=by
  have e1:bin aN (ac 1) (cst (.int 100)) [.val (.scr ns),.val (.int c),.val (.lst (names.map D.str)),.no,.no,.no,.no,.no,.no,.no,.no,.no,.no,.no,.no]=some (.int (c / 100)):=by
   rw[fX (x:=.int c) (y:=.int 100) rfl rfl]
   exact aY (by decide) (by decide)
  have e2:bin cz (cst (.int 1)) (bin aO (bin aN (ac 1) (cst (.int 4))) (cst (.int 4))) [.val (.scr ns),.val (.int c),.val (.lst (names.map D.str)),.no,.no,.no,.no,.no,.no,.no,.no,.no,.no,.no,.no]=some (.int (1 + c / 4 % 4)):=by
   rw[fX (x:=.int 1) (y:=.int (c / 4 % 4)) rfl (by
    rw[fX (x:=.int (c / 4)) (y:=.int 4) (by rw[fX (x:=.int c) (y:=.int 4) rfl rfl];exact aY (by decide) (by decide)) rfl]
    exact aH (by decide))];rfl
  exact(wf e1 e2 rfl).trans hwd
 have h4:ax 3 fO (aa (cA (ac 0) (di (cst (.int 3))) (di (cst (.int 63)))) (aa (var 2) (aa (var 3) ak))) [.val (.scr ns),.val (.int c),.val (.lst (names.map D.str)),.val (.lst (words.map D.str)),.no,.no,.no,.no,.no,.no,.no,.no,.no,.no,.no]=some (ay p):=by
  rw[hcs]at hpl
  exact hpl
 have h5:=xC (ns:=ns) (c:=c) (words:=words) (p:=p) hab
 have h6:ax 3 h_ (aa (bin aN (ac 1) (bin ja (cst (.int 10)) (cst (.int 20)))) (aa (var 2) (aa (var 5) ak))) (lE ns c names words p a b .no .no .no .no .no .no .no .no)=some (.dic (ag m)):=by
  have e1:bin aN (ac 1) (bin ja (cst (.int 10)) (cst (.int 20))) (lE ns c names words p a b .no .no .no .no .no .no .no .no)=some (.int (c / 10 ^ 20)):=by
   rw[fX (x:=.int c) (y:=.int (10 ^ 20)) rfl (by rw[fX (x:=.int 10) (y:=.int 20) rfl rfl];exact p20)]
   exact aY (by decide) (by decide)
  exact(wf e1 rfl rfl).trans hca
 have hbl:rH [.val (.scr ns),.no,.no,.no,.no,.no,.no,.no,.no,.no,.no,.no,.no,.no,.no]=some (.rt (.bl true)):=by
  show ar _ (ar _ (ar _ (ar _ (ar _ (ar _ (ar _ _)))))) _=_
  exact(sq1 (st1 h1)).trans ((sq1 (st1 h2)).trans ((sq1 (st1 h3)).trans ((sq1 (st1 h4)).trans ((sq1 (st1 h5)).trans ((sq1 (st1 h6)).trans ((sq1 (E':=lE ns c names words p a b (.val (.dic (ag m))) (.val (.dic (ag m))) .no .no .no .no .no .no) rfl).trans GU))))))
 show((rH [.val (.scr ns),.no,.no,.no,.no,.no,.no,.no,.no,.no,.no,.no,.no,.no,.no]).bind _)=_
 rw[hbl];rfl
end Wk
end L2.Cu
namespace L2.Cu.Wk
open PySem PySem.W PyProof.Rows
set_option maxRecDepth 100000
set_option maxHeartbeats 0
theorem BB(hw:PySem.Challenge.rw_cuebook_k61_roles_doubled.row.toRowW.promised):PySem.Challenge.rw_cuebook_k61_roles_doubled.Holds :=
  Bt (l:=PySem.Challenge.rw_cuebook_k61_roles_doubled) (n:=63) (k:=9) (x := "_law_script") (g:=vD) Cd A8 (by kernel_rfl) rfl (fun s=>by kernel_rfl) rfl rfl rfl (by decide +kernel) ⟨rfl,rfl,rfl,rfl,rfl,by decide +kernel⟩ hw rfl (by decide) rfl ⟨rfl,by decide,by decide⟩ rfl (by decide) (fun T base kb nb=>zZ T) (fun _ _ _ _ _ _ _=>rfl) vm
end L2.Cu.Wk
open PySem PySem.W PyProof.Rows
set_option maxRecDepth 100000 in
set_option maxHeartbeats 0 in
theorem PySem.Challenge.cw_cuebook_k61_roles_doubled_holds : PySem.Challenge.rw_cuebook_k61_roles_doubled.Holds := by
  refine L2.Cu.Wk.BB ?hw
  case hw=>w_witness2
