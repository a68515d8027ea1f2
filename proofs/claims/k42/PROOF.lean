import PyProof.Rows.All
import Wide.All
import OpenK.AllK
import Wide.FinOn
import Lean
import PyProof.EqAt
import PyProof.EqKinds
import PyProof.TupleCall
import PyProof.Rows.SetFrom
import PyProof.SetRoads
import PyProof.TableTree
import PyProof.FactsTree
import KE.KDictSum
import PyProof.WalksMore
import PyProof.Rows.SortStr
import PyProof.DictUpdate
import PyProof.ZipIter
import PyProof.Draws
import PyProof.Rows.FactsT2
import PyProof.EnumMake
import PyProof.Rows.EnumRows
import KE.KTupSum
import PyProof.Rows.SumAny
import PyProof.DictItemsLoops
import KE.KPairComp
import KE.KEqDict
import PyProof.Rows.Range3
import PyProof.TupleOfSeq
import PyProof.AttrMissSeq
import KE.KDictOf
import PyProof.Rows.StrJoin2
import PyProof.Rows.StrOrd
import PyProof.Rows.StrInSeq3
import KE.KRevIter
import PyProof.ListRange
import PyProof.ListMulAny
import PyProof.ExcClass3
import PyProof.ExcInit
import PyProof.StationsW
import OpenK.KMake
import PyProof.InstStore
import PyProof.ExcArgsOwn
import OpenK.KOwn
import PyProof.ExcBaseAll.ValueError
import PyProof.InstStoreFacts
import PyProof.NsDelKeeps
import PyProof.IsiH_list
import KE.KIsAll
import KE.RegKIsAll
import PySem.Challenge.RW_cuebook_k42_thrift_told
set_option Elab.async false
set_option linter.all false
set_option maxRecDepth 100000
noncomputable section
abbrev DN:=@List.getElem?_eq_getElem
abbrev DO:=@PySem.wpAny_bind
abbrev DP:=@List.length_map
abbrev DQ:=@PySem.Heap.get?_push_of_some
abbrev DR:=@Option.some.inj
abbrev DS:=@List.mem_cons_of_mem
abbrev DT:=@PySem.wpAny_pure
abbrev DU:=@PySem.Heap.lt_size
abbrev DV:=@List.size_toArray
abbrev DW:=@List.mem_cons_self
abbrev DX:=@List.getElem?_map
abbrev DY:=@Nat.le_refl
abbrev DZ:=@List.length_append
abbrev D0:=@PySem.Heap.get?_push_size
abbrev D1:=@List.length_range
abbrev D2:=@List.getElem?_set_ne
abbrev D3:=@List.getD_eq_getElem?_getD
abbrev D4:=@Bool.false_ne_true
abbrev D5:=@decide_eq_false
abbrev D6:=@Nat.le_trans
abbrev D7:=@List.map_map
abbrev D8:=@List.foldl_nil
abbrev D9:=@Nat.ne_of_lt
abbrev D_:=@PySem.PassesOwn.never
abbrev Eb:=@List.replicate_succ
abbrev Ec:=@PySem.Heap.get?_update_other
abbrev Ed:=@Bool.false_eq_true
abbrev Ee:=@List.getElem?_set
abbrev Ef:=@Nat.lt_of_lt_of_le
abbrev Eh:=@List.getElem?_eq_none
abbrev Ej:=@List.map_append
abbrev Ek:=@decide_eq_true
abbrev El:=@List.mem_append_right
abbrev Em:=@List.flatten_cons
abbrev En:=@List.getElem?_replicate
abbrev Eo:=@PySem.wpAny_loadPart_at
abbrev Er:=@PySem.Heap.get?_update_self
abbrev Eu:=@PyProof.Rows.callWith_type1
abbrev Ex:=@Nat.zero_le
abbrev Ey:=@Int.toNat_natCast
abbrev Ez:=@List.append_nil
abbrev EA:=@Bool.and_eq_true
abbrev EB:=@PySem.wpAny_mono
abbrev EC:=@Classical.byContradiction
abbrev ED:=@congrArg
abbrev EE:=@PySem.W.kia_one
abbrev EF:=@List.length_set
abbrev EG:=@PySem.wpAny_field
abbrev EH:=@List.sum_cons
abbrev EI:=@List.lookup_cons
abbrev EJ:=@List.getElem?_range
abbrev EK:=@PySem.wpAny_newObj_type
abbrev EL:=@List.length_take
abbrev EM:=@List.getElem_mem
abbrev EN:=@Int.zero_add
abbrev EO:=@of_decide_eq_true
abbrev EQ:=@List.ext_getElem?
abbrev ER:=@Nat.lt_irrefl
abbrev ES:=@List.take_append_drop
abbrev ET:=@List.length_singleton
abbrev EU:=@List.find?_cons
abbrev EV:=@List.mem_of_mem_take
abbrev EW:=@List.mem_of_mem_drop
abbrev EY:=@List.mem_of_getElem?
abbrev EZ:=@PySem.wpAny_Call_Name_kw
abbrev E4:=@Nat.le_of_lt
abbrev E6:=@List.append_assoc
abbrev E7:=@Int.natCast_add
abbrev E8:=@List.getElem?_set_self
abbrev E9:=@PySem.wpAny_holding
abbrev E_:=@List.all_cons
abbrev Fa:=@PyProof.Rows.slot_tuple_getitem
abbrev Fb:=@PySem.wpAny_seqItems
abbrev Fc:=@Prod.mk.inj
abbrev Fd:=@Nat.mul_le_mul_left
abbrev Fe:=@List.any_cons
abbrev Ff:=@Array.length_toList
abbrev Fg:=@beq_self_eq_true
abbrev Fh:=@PySem.codeAny_builtin
abbrev Fi:=@List.length_drop
abbrev Fj:=@List.mem_range
abbrev Fk:=@List.take_of_length_le
abbrev Fl:=@PySem.wpAny_callSpecial?_slot
abbrev Fm:=@PySem.wpAny_call_entry
abbrev Fo:=@PySem.F.plain_max_loop
abbrev Fp:=@List.length_replicate
abbrev Fq:=@Int.emod_nonneg
abbrev Fs:=@PySem.Heap.size_push
abbrev Ft:=@PySem.F.excAttr_ValueError
abbrev Fu:=@PySem.wpAny_updateSeq
abbrev Fv:=@PySem.wpAny_passesOwn
abbrev Fw:=@List.getElem?_append_left
abbrev Fx:=@Bool.and_false
abbrev Fy:=@Array.getElem?_eq_getElem
abbrev Fz:=@PySem.wpAny_truthy_bool
abbrev FA:=@PySem.plainId_quiet
abbrev FB:=@PySem.mem_of_lookup
abbrev FC:=@List.map_congr_left
abbrev FD:=@List.length_reverse
abbrev FE:=@PySem.F.slot_tuple_iterator_next
abbrev FF:=@PySem.Around.under_plainId
abbrev FG:=@List.pairwise_singleton
abbrev FH:=@List.map_take
abbrev FI:=@Int.emod_lt_of_pos
abbrev FJ:=@Bool.or_false
abbrev FK:=@PySem.wpAny_typeOf
abbrev FL:=@PySem.AutoSeq1.wpAny_loadPart'
abbrev FM:=@List.reverse_cons
abbrev FN:=@PySem.wpAny_execs_nil
abbrev FO:=@PySem.Obj.data_mapFields
abbrev FP:=@PySem.Calls.spliced_cons
abbrev FQ:=@Nat.zero_add
abbrev FR:=@Nat.ne_of_gt
abbrev FT:=@List.drop_length
abbrev FU:=@if_false
abbrev FV:=@List.map_drop
abbrev FW:=@PySem.codeAny_mono
abbrev FX:=@List.range_succ
abbrev FY:=@List.idxOf_lt_length_of_mem
abbrev FZ:=@PySem.wpAny_execs_cons
abbrev F0:=@List.getElem?_append_right
abbrev F7:=@PySem.codeAny_call_builtin
abbrev F8:=@Nat.eq_zero_or_pos
abbrev F9:=@List.getElem_range
abbrev F_:=@List.getElem?_drop
abbrev Ga:=@List.filter_append
abbrev Gb:=@List.drop_eq_getElem_cons
abbrev Gc:=@PySem.F.args_tuple_add_2
abbrev Gd:=@Option.some.injEq
abbrev Ge:=@Nat.lt_succ_of_lt
abbrev Gf:=@List.foldl_append
abbrev Gg:=@Bool.not_eq_true'
abbrev Gh:=@decide_eq_false_iff_not
abbrev Gi:=@PySem.F.plainAttrs_list
abbrev Gj:=@PySem.F.entry_tuple_add
abbrev Gk:=@List.mem_cons
abbrev Gm:=@Bool.true_and
abbrev Gn:=@PySem.wpAny_setField_rec
abbrev Go:=@PySem.tupleKind_room_in1
abbrev Gp:=@PySem.Code.quiet_builtin
abbrev Gq:=@List.not_mem_nil
abbrev Gr:=@List.all_eq_true
abbrev Gs:=@PySem.wpAny_tryCatch
abbrev Gu:=@PySem.wpAny_setField
abbrev Gv:=@PySem.F.slot_tuple_add
abbrev Gw:=@List.range_succ_eq_map
abbrev Gx:=@List.drop_eq_nil_of_le
abbrev Gy:=@PySem.F.slot_dict_get
abbrev Gz:=@PySem.Calls.spliced_nil
abbrev GA:=@Nat.le_of_eq
abbrev GB:=@List.length_filter_le
abbrev GC:=@Classical.choose_spec
abbrev GD:=@Bool.eq_iff_iff
abbrev GE:=@Array.getElem?_toList
abbrev GF:=@PySem.wpAny_standAt
abbrev GG:=@PySem.wpAny_letGo
abbrev GH:=@PySem.sizeLine_eq
abbrev GI:=@List.getElem?_zipIdx
abbrev GJ:=@Nat.le_succ
abbrev GK:=@List.flatMap_append
abbrev GL:=@List.filterMap_cons
abbrev GM:=@of_decide_eq_false
abbrev GN:=@PySem.W.callWith_K
abbrev GO:=@PySem.Obj.isFreed_of_fields
abbrev GP:=@PySem.F.typeOf_object_class
abbrev GQ:=@Nat.lt_of_le_of_lt
abbrev GR:=@List.mem_singleton
abbrev GS:=@List.map_replicate
abbrev GT:=@List.getElem_idxOf
abbrev GU:=@List.getElem?_take
abbrev GV:=@Bool.not_true
abbrev GW:=@Bool.and_true
abbrev GX:=@PySem.wpAny_pyIter_revIter
abbrev GY:=@PySem.W.kitx_dict
abbrev GZ:=@List.nodup_append
abbrev G0:=@PySem.Heap.SameBut.update
abbrev G1:=@PySem.wpAny_rule
abbrev G2:=@PySem.call_meets
universe u v
theorem on{α:Type u}{a:α}{l:List α}:(a::l)[0]?=some a:=rfl
theorem DA{α:Type u}{β:Type v}(a:α)(f:α→Option β):(some a).bind f=f a:=rfl
theorem DB{α:Type u}{a:α}{i:Nat}{l:List α}:(a::l)[i+1]?=l[i]?:=rfl
theorem DC{α:Type u}{β:Type v}(a:α)(f:α→β):(some a).map f=some (f a):=rfl
theorem DD{α:Type u}{x:α}{xs:List α}{a:α}:(x::xs).set 0 a=a::xs:=rfl
theorem DF{α:Type u}{x:α}{xs:List α}{i:Nat}{a:α}:(x::xs).set (i+1) a=x::xs.set i a:=rfl
theorem DG{α:Type u}{a:α}{as:List α}:(a::as).length=as.length+1:=rfl
theorem DH{α:Type u}:([]:List α).length=0:=rfl
theorem DI{α:Type u}{β:Type v}{f:α→β}{a:α}{l:List α}:(a::l).map f=f a::l.map f:=rfl
theorem DJ{α:Type u}{β:Type v}{f:α→β}:[].map f=([]:List β):=rfl
theorem DK{α:Type u}{a:α}{as bs:List α}:a::as++bs=a::(as++bs):=rfl
theorem DL{α:Type u}(as:List α):[]++as=as:=rfl
theorem DM{α:Type u}{β:Type v}{a:α}{l:List α}{f:β→α→β}{b:β}:(a::l).foldl f b=l.foldl f (f b a):=rfl
namespace L2
open PySem PySem.Spec PyProof.Rows
abbrev Key:=Sum (Option Int) Str
def iG:Key→Value→Bool
 | .inl (some k),v=>Value.isInt k v
 | .inl none,v=>match v with | .none=>true | _=>false
 | .inr x,v=>Value.isStrOf x v
def Dg (w:World):Key→Int
 | .inl (some k)=>hashInt k
 | .inl none=>reduceHash 0xFCA86420
 | .inr x=>hashStr w x
theorem b_:∀ {k:Key}{v:Value},iG k v=true→(∃ i t,k=Sum.inl (some i)∧v=Value.int i t)∨(∃ x t,k=Sum.inr x∧v=Value.str x t)∨(k=Sum.inl none∧v=Value.none)
 | .inl (some i),v,h=>by
  obtain ⟨t,e⟩:=Value.isInt_shape (k:=i) (v:=v) h
  exact .inl ⟨i,t,rfl,e⟩
 | .inl none,v,h=>by
  cases v <;> first | exact .inr (.inr ⟨rfl,rfl⟩) | exact absurd h (by decide) | (simp [iG] at h)
 | .inr x,v,h=>by
  obtain ⟨t,e⟩:=Value.isStrOf_shape (x:=x) (v:=v) h
  exact .inr (.inl ⟨x,t,rfl,e⟩)
theorem ux (i:Int) (t:Tok):iG (.inl (some i)) (.int i t)=true:=by simp [iG,Value.isInt]
theorem uv (x:Str) (t:Tok):iG (.inr x) (.str x t)=true:=by simp [iG,Value.isStrOf]
theorem uw:iG (.inl none) .none=true:=rfl
theorem A6 (a b:Int):decide ((Sum.inl (some a):Key)=Sum.inl (some b))=(a == b):=by
 by_cases e:a=b
 ·subst e; simp
 ·have h:¬ (Sum.inl (some a):Key)=Sum.inl (some b):=fun q=>e (DR (Sum.inl.inj q))
  rw [D5 h]
  exact (beq_eq_false_iff_ne.mpr e).symm
theorem A3 (a b:Str):decide ((Sum.inr a:Key)=Sum.inr b)=decide (a=b):=by
 by_cases e:a=b
 ·subst e; simp
 ·have h:¬ (Sum.inr a:Key)=Sum.inr b:=fun q=>e (Sum.inr.inj q)
  rw [D5 h,D5 e]
theorem wJ (a:Option Int) (b:Str):decide ((Sum.inl a:Key)=Sum.inr b)=false:=D5 (fun q=>nomatch q)
theorem wI (a:Str) (b:Option Int):decide ((Sum.inr a:Key)=Sum.inl b)=false:=D5 (fun q=>nomatch q)
theorem A5 (a:Int):decide ((Sum.inl (some a):Key)=Sum.inl none)=false:=D5 (fun q=>nomatch q)
theorem A4 (a:Int):decide ((Sum.inl none:Key)=Sum.inl (some a))=false:=D5 (fun q=>nomatch q)
theorem uD {prog:Program}{w:World}{A:Around}{E:Value→Shared→Prop}{s:Shared}{Q:Int→Shared→Prop} (h:Q (reduceHash 0xFCA86420) { s with toks:=s.toks + 1 }):wpAny (model prog w) A (pyHash .none) Q E s:=by
 exact PySem.W.pyHash_slot (T := "NoneType") rfl F.slot_NoneType_hash F.entry_NoneType_hash (F.args_NoneType_hash_1 _) (PySem.beq_builtin_none _) (.inl rfl) (DO (DT (DO (wpAny_mkInt (DT ⟨_,_,rfl,h⟩)))))
def b9 (prog:Program) (w:World):PySem.KeyKind prog w Key where
 is:=iG
 hash:=Dg w
 inj:=fun v a b ha hb=>by
  rcases b_ ha with ⟨i,t,rfl,rfl⟩ | ⟨x,t,rfl,rfl⟩ | ⟨rfl,rfl⟩ <;> rcases b_ hb with ⟨j,u,rfl,e⟩ | ⟨y,u,rfl,e⟩ | ⟨rfl,e⟩ <;> first | rfl | (injection e with e1 _; rw [e1]; done) | (cases e; done)
 byValue:=fun k v h=>by
  rcases b_ h with ⟨i,t,rfl,rfl⟩ | ⟨x,t,rfl,rfl⟩ | ⟨rfl,rfl⟩ <;> rfl
 pyHash:=fun hv h=>by
  rcases b_ hv with ⟨i,t,rfl,rfl⟩ | ⟨x,t,rfl,rfl⟩ | ⟨rfl,rfl⟩
  ·exact wpAny_pyHash_int h
  ·exact wpAny_pyHash_str h
  ·exact uD h
 eqBool:=fun hu hv h=>by
  rcases b_ hu with ⟨i,t,rfl,rfl⟩ | ⟨x,t,rfl,rfl⟩ | ⟨rfl,rfl⟩
  ·rcases b_ hv with ⟨j,u,rfl,rfl⟩ | ⟨y,u,rfl,rfl⟩ | ⟨rfl,rfl⟩
   ·rw [A6] at h; exact wpAny_eqBool_int h
   ·rw [wJ] at h; exact SeqAt.EqAt.int_str i t y u _ _ _ _ h
   ·rw [A5] at h; exact SeqAt.EqAt.int_none i t _ _ _ _ h
  ·rcases b_ hv with ⟨j,u,rfl,rfl⟩ | ⟨y,u,rfl,rfl⟩ | ⟨rfl,rfl⟩
   ·rw [wI] at h; exact SeqAt.EqAt.str_int x t j u _ _ _ _ h
   ·rw [A3] at h; exact wpAny_eqBool_str h
   ·rw [wI] at h; exact SeqAt.EqAt.str_none x t _ _ _ _ h
  ·rcases b_ hv with ⟨j,u,rfl,rfl⟩ | ⟨y,u,rfl,rfl⟩ | ⟨rfl,rfl⟩
   ·rw [A4] at h; exact SeqAt.EqAt.none_int j u _ _ _ _ h
   ·rw [wJ] at h; exact SeqAt.EqAt.none_str y u _ _ _ _ h
   ·rw [Ek rfl] at h; exact SeqAt.EqAt.same _ _ _ _ _ h
 «strs»:=fun k x t v h=>by
  rcases b_ h with ⟨i,u,rfl,e⟩ | ⟨y,u,rfl,e⟩ | ⟨rfl,e⟩
  ·exact nomatch e
  ·injection e with e1 _
   subst e1
   cases v <;> rfl
  ·exact nomatch e
theorem pe (prog:Program) (w:World) (i:Int) (t:Tok):(b9 prog w).is (.inl (some i)) (.int i t)=true:=ux i t
theorem pd (prog:Program) (w:World) (x:Str) (t:Tok):(b9 prog w).is (.inr x) (.str x t)=true:=uv x t
inductive V where
 | non | bl (b:Bool) | int (i:Int) | str (x:Str) | byt (b:Array UInt8) | flt (b:UInt64) | ref (a:Addr) | ty (n:String)
 deriving DecidableEq
def bh:V→Value→Prop
 | .non,u=>u=Value.none
 | .bl b,u=>u=Value.bool b
 | .int i,u=>∃ t,u=Value.int i t
 | .str x,u=>∃ t,u=Value.str x t
 | .byt b,u=>∃ t,u=Value.bytes b t
 | .flt b,u=>∃ t,u=Value.float b t
 | .ref a,u=>u=Value.ref a
 | .ty n,u=>u=Value.type n
abbrev a_:List V→List Value→Prop:=Paired bh
theorem a_.length {xs:List V}{us:List Value} (r:a_ xs us):xs.length=us.length:=Paired.length r
theorem a_.get:∀ {xs:List V}{us:List Value}{i:Nat}{x:V},a_ xs us→xs[i]? = some x→∃ u,us[i]? = some u∧bh x u
 := fun {xs us i x} r e=>by
  cases r with
  | nil=>cases e
  | cons r t =>
   cases i with
   | zero=>cases e; exact ⟨_,rfl,r⟩
   | succ i=>exact a_.get (i:=i) t e
theorem a_.set {x:V}{u:Value} (r:bh x u):∀ {xs:List V}{us:List Value} (i:Nat),a_ xs us→a_ (xs.set i x) (us.set i u)
 | _,_,_,.nil=>.nil
 | _,_,0,.cons _ t=>.cons r t
 | _,_,i + 1,.cons q t=>.cons q (a_.set r i t)
theorem a_.append:∀ {xs ys:List V}{us ws:List Value},a_ xs us→a_ ys ws→a_ (xs ++ ys) (us ++ ws)
 := fun r s=>by
  cases r with
  | nil=>exact s
  | cons r t=>exact .cons r (a_.append t s)
theorem a_.take:∀ {xs:List V}{us:List Value} (n:Nat),a_ xs us→a_ (xs.take n) (us.take n)
 := fun n r=>by
  cases n with
  | zero=>exact .nil
  | succ n =>
   cases r with
   | nil=>exact .nil
   | cons r t=>exact .cons r (a_.take n t)
theorem a_.drop:∀ {xs:List V}{us:List Value} (n:Nat),a_ xs us→a_ (xs.drop n) (us.drop n)
 := fun n r=>by
  cases n with
  | zero=>exact r
  | succ n =>
   cases r with
   | nil=>exact .nil
   | cons _ t=>exact a_.drop n t
def gw:Option V→Option Value→Prop
 | some v,some u=>bh v u
 | none,none=>True
 | _,_=>False
def KV {κ:Type}:List (κ×V)→List (κ×Value)→Prop:=Paired fun (p:κ×V) (q:κ×Value)=>p.1=q.1∧bh p.2 q.2
def kV:Key→V
 | .inl (some i)=>.int i
 | .inl none=>.non
 | .inr x=>.str x
inductive HO where
 | lst (xs:List V)
 | tup (xs:List V)
 | dK (kvs:List (Key×V)) | dT (kvs:List (List Key×V))
 | set (S:Int→Bool) (n:Nat)
 | ins (C dx:Addr) (fs:List (Str×V))
 | own (x:Addr)
 | xd (fs:List (Str×V))
 | met (f x:Addr)
 | rng (lo hi:Int)
 | frz (o:Obj) (u:HO)
 | tbl (ps:Array Value)
 | ext (φ:Heap→Prop)
abbrev Hp:=Addr→Option HO
def upd (H:Hp) (a:Addr) (o:HO):Hp:=fun b=>if b=a then some o else H b
theorem aD {H:Hp}{a:Addr}{o:HO}:upd H a o a=some o:=by unfold upd; rw [if_pos rfl]
theorem av {H:Hp}{a b:Addr}{o:HO} (h:b ≠ a):upd H a o b=H b:=by unfold upd; rw [if_neg h]
theorem Cy {H:Hp}{a b:Addr}{o u:HO} (h:H a=some o) (h':H b=some u) (d:o ≠ u):a ≠ b:=by
 intro e; subst e; rw [h] at h'; exact d (DR h')
theorem b7 {H:Hp}{a b:Addr}{o:HO} (h:H a=some o) (h':H b=none):a ≠ b:=by
 intro e; subst e; rw [h] at h'; cases h'
section
variable (P:Program) (w:World)
def cF (H:Hp) (h:Heap) (a:Addr):HO→Prop
 | .lst xs=>xs.length≤sizeLine∧∃ (its:List Value) (n:Nat),a_ xs its∧h.get? a=some { cls:=.type "list",data:=.seq its.toArray n }
 | .tup xs=>xs.length≤sizeLine∧∃ its:List Value,a_ xs its∧IsTup h a its.toArray
 | .dK kvs=>kvs.length≤sizeLine∧(a == sysModules)=false∧∃ vs,KV kvs vs∧h.DictOf (b9 P w) a vs
 | .dT kvs=>kvs.length≤sizeLine∧(a == sysModules)=false∧∃ xs:List (List Key×Addr×Value),
   Paired (fun (p:List Key×V) (q:List Key×Addr×Value)=>p.1=q.1∧H q.2.1=some (.tup (p.1.map kV))∧bh p.2 q.2.2) kvs xs ∧
   ∃ o es ep,h.get? a=some o∧o.ExactDict∧o.data=.dict es ep∧es.toList=xs.map (entryOfKey (tupleKind (b9 P w)))∧(xs.map (·.1)).Nodup
 | .set S n=>h.SetOf (intKind P w) a S n
 | .ins C dx fs=>H dx=some (.own a)∧fs.length≤1000∧dx ≠ a∧h.get? a=some (PySem.W.instObj C dx) ∧
   ∃ mA,h.Ns1 dx mA∧(∀ f,gw (fs.lookup f) (mA f))∧PySem.Within mA (fs.map (·.1))
 | .own _=>∃ o,h.get? a=some o
 | .xd fs=>∃ mA,h.Ns1 a mA∧∀ f,gw (fs.lookup f) (mA f)
 | .rng lo hi=>∃ t u v,h.get? a=some { cls:=.type "range",data:=.fields #[.int lo t,.int hi u,.int 1 v] }
 | .frz o u=>h.get? a=some o∧cF H h a u
 | .tbl ps=>h.get? a=some { cls:=.none,data:=.fields ps }
 | .met f x=>h.get? a=some (PySem.W.methodObj (.ref f) (.ref x))
 | .ext φ=>φ h∧(∃ o,h.get? a=some o)∧∀ h1 h2:Heap,φ h1→(∀ o,h1.get? a=some o→h2.get? a=some o)→φ h2
def HOk (H:Hp) (h:Heap):Prop:=∀ a o,H a=some o→cF P w H h a o
end
section
variable {P:Program}{w:World}{H H':Hp}{h h':Heap}{a:Addr}{o:HO}
theorem cF.lt (x:cF P w H h a o):a < h.objs.size:=by
 cases o with
 | lst xs=>obtain ⟨_,_,_,_,e⟩:=x; exact DU e
 | tup xs=>obtain ⟨_,_,_,p⟩:=x; exact p.lt
 | dK kvs=>obtain ⟨_,_,_,_,o,_,_,e,_⟩:=x; exact DU e
 | dT kvs=>obtain ⟨_,_,_,_,o,_,_,e,_⟩:=x; exact DU e
 | set S n=>obtain ⟨o,_,_,_,e,_⟩:=x; exact DU e
 | ins C dx fs=>obtain ⟨_,_,_,e,_⟩:=x; exact DU e
 | own y=>obtain ⟨_,e⟩:=x; exact DU e
 | xd fs=>obtain ⟨_,⟨_,_,_,e,_⟩,_⟩:=x; exact DU e
 | rng lo hi=>obtain ⟨_,_,_,e⟩:=x; exact DU e
 | frz ob u=>obtain ⟨e,_⟩:=x; exact DU e
 | tbl ps=>exact DU (show h.get? a=some _ from x)
 | met f y=>exact DU (show h.get? a=some _ from x)
 | ext φ=>obtain ⟨_,⟨_,e⟩,_⟩:=x; exact DU e
theorem Paired.mapP {α β:Type}{F G:α→β→Prop}:∀ {l₁:List α}{l₂:List β},Paired F l₁ l₂→(∀ a b,F a b→G a b)→Paired G l₁ l₂
 := fun r f=>by
  cases r with
  | nil=>exact .nil
  | cons r t=>exact .cons (f _ _ r) (Paired.mapP t f)
theorem cF.stay (x:cF P w H h a o) (k:∀ b u,(b=a∨H b=some (.own a))→h.get? b=some u→h'.get? b=some u)
  (ho:∀ b,H b=some (.own a)→H' b=some (.own a)) (ht:∀ b xs,H b=some (.tup xs)→H' b=some (.tup xs)):cF P w H' h' a o:=by
 induction o with
 | lst xs=>obtain ⟨z,its,n,r,e⟩:=x; exact ⟨z,its,n,r,k _ _ (.inl rfl) e⟩
 | tup xs=>obtain ⟨z,its,r,ob,e,c⟩:=x; exact ⟨z,its,r,ob,k _ _ (.inl rfl) e,c⟩
 | dK kvs=>obtain ⟨z,y,vs,r,ob,es,ep,e,c⟩:=x; exact ⟨z,y,vs,r,ob,es,ep,k _ _ (.inl rfl) e,c⟩
 | dT kvs =>
  obtain ⟨z,y,xs,r,ob,es,ep,e,c⟩:=x
  exact ⟨z,y,xs,Paired.mapP r fun p q z=>⟨z.1,ht _ _ z.2.1,z.2.2⟩,ob,es,ep,k _ _ (.inl rfl) e,c⟩
 | set S n=>obtain ⟨ob,es,ep,t,e,c⟩:=x; exact ⟨ob,es,ep,t,k _ _ (.inl rfl) e,c⟩
 | ins C dx fs =>
  obtain ⟨d,z,ne,e,mA,⟨od,es,ep,e2,c⟩,r⟩:=x
  exact ⟨ho _ d,z,ne,k _ _ (.inl rfl) e,mA,⟨od,es,ep,k _ _ (.inr d) e2,c⟩,r⟩
 | own y=>obtain ⟨ob,e⟩:=x; exact ⟨ob,k _ _ (.inl rfl) e⟩
 | xd fs=>obtain ⟨mA,⟨od,es,ep,e,c⟩,r⟩:=x; exact ⟨mA,⟨od,es,ep,k _ _ (.inl rfl) e,c⟩,r⟩
 | rng lo hi=>obtain ⟨t,u,v,e⟩:=x; exact ⟨t,u,v,k _ _ (.inl rfl) e⟩
 | frz ob u ih=>obtain ⟨e,q⟩:=x; exact ⟨k _ _ (.inl rfl) e,ih q⟩
 | tbl ps =>
  have e:h.get? a=some { cls:=.none,data:=.fields ps }:=x
  show h'.get? a=some { cls:=.none,data:=.fields ps }
  exact k a _ (.inl rfl) e
 | met f y =>
  have e:h.get? a=some (PySem.W.methodObj (.ref f) (.ref y)):=x
  show h'.get? a=some (PySem.W.methodObj (.ref f) (.ref y))
  exact k a _ (.inl rfl) e
 | ext φ=>obtain ⟨p,⟨o,e⟩,st⟩:=x; exact ⟨st _ _ p fun o q=>k _ _ (.inl rfl) q,⟨o,k _ _ (.inl rfl) e⟩,st⟩
theorem HOk.lt (x:HOk P w H h) (e:H a=some o):a < h.objs.size:=(x a o e).lt
theorem HOk.fresh (x:HOk P w H h) (e:h.objs.size≤a):H a=none:=by
 cases q:H a with
 | none=>rfl
 | some u=>exact absurd (Ef (x.lt q) e) (ER _)
theorem HOk.kept (x:HOk P w H h) (k:∀ b u,h.get? b=some u→h'.get? b=some u):HOk P w H h':=fun a o e =>
 (x a o e).stay (fun b u _ q=>k b u q) (fun _ q=>q) fun _ _ q=>q
theorem HOk.laid (x:HOk P w H h) (k:∀ b u,h.get? b=some u→h'.get? b=some u) (hp:h.objs.size≤a) (new:cF P w (upd H a o) h' a o):HOk P w (upd H a o) h':=fun b u e=>by
 have hn:=x.fresh hp
 by_cases hb:b=a
 ·subst hb; rw [aD] at e; cases e; exact new
 ·rw [av hb] at e
  exact (x b u e).stay (fun c v _ q=>k c v q) (fun c q=>by rw [av (b7 q hn)]; exact q) fun c xs q=>by rw [av (b7 q hn)]; exact q
end
def Rd (H:Hp) (a:Addr) (u:HO):Prop:=H a=some u∨∃ o,H a=some (.frz o u)
theorem Rd.ok {P:Program}{w:World}{H:Hp}{h:Heap}{a:Addr}{u:HO} (r:Rd H a u) (x:HOk P w H h):cF P w H h a u:=by
 rcases r with r | ⟨o,r⟩
 ·exact x a u r
 ·obtain ⟨_,q⟩:=x a _ r
  exact q
def Mut:Option HO→Prop
 | some (.lst _)=>True
 | some (.dK _)=>True
 | some (.dT _)=>True
 | some (.set _ _)=>True
 | some (.ins _ _ _)=>True
 | some (.ext _)=>True
 | _=>False
section
variable {P:Program}{w:World}{H:Hp}{h h':Heap}{x e:Addr}{o':HO}
theorem HOk.write (ok:HOk P w H h) (mu:Mut (H x)) (he:e=x∨H e=some (.own x)) (k:∀ b u,b ≠ e→h.get? b=some u→h'.get? b=some u) (heo:∃ u,h'.get? e=some u)
  (new:cF P w (upd H x o') h' x o'):HOk P w (upd H x o') h':=fun b u q=>by
 have nown:∀ c y,H c=some (.own y)→c ≠ x:=fun c y r z=>by subst z; rw [r] at mu; exact mu
 have ntup:∀ c xs,H c=some (.tup xs)→c ≠ x:=fun c xs r z=>by subst z; rw [r] at mu; exact mu
 by_cases hb:b=x
 ·subst hb; rw [aD] at q; cases q; exact new
 ·rw [av hb] at q
  by_cases hbe:b=e
  ·have q':H b=some (.own x):=by
    rcases he with z | z
    ·exact absurd (hbe.trans z) hb
    ·rw [hbe]; exact z
   rw [q] at q'; cases q'
   obtain ⟨v,hv⟩:=heo
   exact ⟨v,by rw [hbe]; exact hv⟩
  ·refine (ok b u q).stay (fun c v hc r=>k c v ?_ r) (fun c r=>by rw [av (nown c b r)]; exact r) fun c xs r=>by rw [av (ntup c xs r)]; exact r
   rcases hc with rfl | hc
   ·exact hbe
   ·rintro rfl
    rcases he with z | z
    ·exact nown c b hc z
    ·rw [hc] at z; cases z; exact hb rfl
end
structure Un (fs ex:List Addr) (H H':Hp) (h h':Heap):Prop where
 keep:∀ b o,h.get? b=some o→H b=none→b ∉ fs→b ∉ ex→h'.get? b=some o
 slot:∀ b o,h.get? b=some o→H b=none→b ∈ fs→b ∉ ex→∃ sl,h'.get? b=some { o with slots:=sl }
 free:∀ b o,h.get? b=some o→H b=none→b ∉ ex→H' b=none
 there:∀ b o,h.get? b=some o→b ∉ ex→∃ o',h'.get? b=some o'
 tups:∀ b xs,H b=some (.tup xs)→H' b=some (.tup xs)
 frzs:∀ b o u,H b=some (.frz o u)→H' b=some (.frz o u)
 tbls:∀ b ps,H b=some (.tbl ps)→∃ more,H' b=some (.tbl (ps ++ more))
section
variable {fs fs' ex ex':List Addr}{H H1 H2:Hp}{h h1 h2 h':Heap}{a x e:Addr}{o:HO}
theorem Un.any (u:Un fs ex H H1 h h1) {b:Addr}{ob:Obj} (q:h.get? b=some ob) (n:H b=none) (hx:b ∉ ex):∃ sl,h1.get? b=some { ob with slots:=sl }:=by
 by_cases hb:b ∈ fs
 ·exact u.slot b ob q n hb hx
 ·exact ⟨ob.slots,u.keep b ob q n hb hx⟩
theorem Un.kept (k:∀ b u,h.get? b=some u→h'.get? b=some u):Un fs ex H H h h' :=
 ⟨fun b ob q _ _ _=>k b ob q,fun b ob q _ _ _=>⟨ob.slots,k b ob q⟩,fun _ _ _ n _=>n,fun b ob q _=>⟨ob,k b ob q⟩,fun _ _ q=>q,fun _ _ _ q=>q,fun _ ps q=>⟨#[],by rw [q]; simp⟩⟩
theorem Un.refl:Un fs ex H H h h:=Un.kept fun _ _ q=>q
theorem Un.laid (k:∀ b u,h.get? b=some u→h'.get? b=some u) (hp:h.objs.size≤a) (hn:H a=none):Un fs ex H (upd H a o) h h' where
 keep:=fun b u q _ _ _=>k b u q
 slot:=fun b u q _ _ _=>⟨u.slots,k b u q⟩
 free:=fun b u q n _=>by rw [av (D9 (Ef (DU q) hp))]; exact n
 there:=fun b u q _=>⟨u,k b u q⟩
 tups:=fun b xs q=>by rw [av (b7 q hn)]; exact q
 frzs:=fun b u xs q=>by rw [av (b7 q hn)]; exact q
 tbls:=fun b ps q=>⟨#[],by rw [av (b7 q hn),q]; simp⟩
theorem Un.write (mu:Mut (H x)) (he:e=x∨H e=some (.own x)) (k:∀ b u,b ≠ e→h.get? b=some u→h'.get? b=some u) (heo:∃ u,h'.get? e=some u):Un fs ex H (upd H x o) h h':=by
 have hx:∀ b,H b=none→b ≠ x:=fun b n z=>by subst z; rw [n] at mu; exact mu
 have hb:∀ b,H b=none→b ≠ e:=fun b n z=>by
  subst z
  rcases he with r | r
  ·exact hx b n r
  ·rw [n] at r; cases r
 have hm:∀ b u,H b=some u→¬ Mut (some u)→b ≠ x:=fun b u q nm z=>by subst z; rw [q] at mu; exact nm mu
 refine ⟨fun b u q n _ _=>k b u (hb b n) q,fun b u q n _ _=>⟨u.slots,k b u (hb b n) q⟩,fun b u q n _=>by rw [av (hx b n)]; exact n,fun b u q _=>?_,
  fun b xs q=>by rw [av (hm b _ q fun z=>z)]; exact q,fun b u xs q=>by rw [av (hm b _ q fun z=>z)]; exact q,fun b ps q=>⟨#[],by rw [av (hm b _ q fun z=>z),q]; simp⟩⟩
 by_cases hbe:b=e
 ·subst hbe; exact heo
 ·exact ⟨u,k b u hbe q⟩
end
def trk (h:Heap) (H:Hp):List Addr:=(List.range h.objs.size).filter fun a=>(H a).isSome
def nC (h:Heap) (H:Hp):Heap:=PySem.W.hideAll h (trk h H)
theorem uC (h:Heap) (H:Hp):(nC h H).objs.size=h.objs.size:=PySem.W.hideAll_size _ _
theorem wU {h:Heap}{H:Hp}{b:Addr}{o:Obj} (e:h.get? b=some o) (n:H b=none):(nC h H).get? b=some o :=
 PySem.W.hideAll_get _ e fun hm=>by
  have q:(H b).isSome=true:=(List.mem_filter.mp hm).2
  rw [n] at q; simp at q
theorem yI {h:Heap}{H:Hp}{b:Addr}{o:Obj} (e:(nC h H).get? b=some o):h.get? b=some o∧H b=none:=by
 have e':h.get? b=some o:=PySem.W.of_hideAll (trk h H) e
 refine ⟨e',?_⟩
 cases q:H b with
 | none=>rfl
 | some x =>
  have hm:b ∈ trk h H:=List.mem_filter.mpr ⟨List.mem_range.mpr (DU e'),by simp [q]⟩
  have z:(nC h H).get? b=none:=PySem.W.hideAll_none (trk h H) hm
  rw [z] at e; cases e
def zz (g h:Heap) (L:Addr):List (Addr×Obj):=(List.range h.objs.size).filterMap fun a=>if a=L∨(g.get? a).isSome=true then none else (h.get? a).map fun o=>(a,o)
def cg (g h:Heap) (L d:Addr):List (Addr×Obj):=(zz g h L).filter fun p=>decide (p.1 ≠ d)
structure Mod (K:PySem.W.Frag) (mg:Str→Option Value) (base:Heap):Prop where
 kin:K.In base
 glob:base.Ns mainGlobals mg
 blt:∃ mb,base.Ns builtinsNs mb∧∀ x:Str,x ≠ "__name__"→mb x=bootBuiltins x
 nolimit:base.NoLimit
structure Cx where
 prog:Program
 w:World
 K:PySem.W.Frag
 mg:Str→Option Value
 base:Heap
 A:Around
 N:List Str
 s₀:Shared
 H₀:Hp
 env:Env
 outer:List Env
 stack:List Env
 ex:List Addr
 fn:Str→Bool
 calm:Bool
 pn:List (Addr×Obj)
 xe:Value→Shared→Prop
def frs (l:List Env):List Addr:=l.filterMap (·.frame)
abbrev Cx.fs (X:Cx):List Addr:=frs X.outer
def Vis (sc:Scope) (x:Str):Prop:=sc.names.lookup x=some .local∨sc.names.lookup x=some .cell∨sc.names.lookup x=some .free
def Loc (sc:Scope) (x:Str):Prop:=sc.names.lookup x=some .local∨sc.names.lookup x=some .cell
def Dx (env:Env) (h:Heap) (m:Str→Option Value) (x:Str) (u:Value):Prop :=
 (env.kindOf x=some .local∧m x=some u)∨((env.kindOf x=some .cell∨env.kindOf x=some .free)∧∃ c,env.cells.lookup x=some c∧h.IsCell c (some u))
structure Cx.Ok (X:Cx):Prop where
 mod:Mod X.K X.mg X.base
 kind:X.env.scope.kind=.function
 glob:X.env.globals=mainGlobals
 blt:X.env.builtins=builtinsNs
 above:X.s₀.heap.objs.size≤X.env.locals
 inj:∀ x y c,X.env.cells.lookup x=some c→X.env.cells.lookup y=some c→x=y
 has:∀ x,(X.env.kindOf x=some .cell∨X.env.kindOf x=some .free)→∃ c,X.env.cells.lookup x=some c
 cab:∀ x c,X.fn x=true→X.env.cells.lookup x=some c→X.s₀.heap.objs.size≤c
 hd:X.calm=true→X.A.handled=none
 frames:X.A.frames=some X.stack
 stk:X.stack=X.outer∨(X.stack=X.env :: X.outer∧X.env.frame=some X.env.locals)
 exf:∀ b ∈ X.ex,b ≠ X.env.locals∧∀ x c,X.env.cells.lookup x=some c→c ≠ b
 bs:∀ b o,X.base.get? b=some o→X.s₀.heap.get? b=some o∧X.H₀ b=none
 bsz:X.base.objs.size≤X.s₀.heap.objs.size
 noex:∀ b o,X.base.get? b=some o→b ∉ X.ex
 exfs:∀ b ∈ X.ex,b ∉ X.fs
 funs:X.s₀.heap.FunFrames X.base X.outer
 frf:∀ b ∈ X.fs,X.H₀ b=none
structure Inv (X:Cx) (pins:List (Addr×Obj)) (σ:List (Option V)) (H:Hp) (s:Shared):Prop where
 ok:X.Ok
 os:s.os=X.s₀.os
 bare:AllBare s.gens
 base:Un X.fs X.ex X.H₀ H X.s₀.heap s.heap
 loc:∃ m,s.heap.Ns X.env.locals m∧∀ (i:Nat) (x:Str) (v:V),X.N[i]? = some x→σ[i]? = some (some v)→Vis X.env.scope x→∃ u,bh v u∧Dx X.env s.heap m x u
 cell:∀ x c,X.env.cells.lookup x=some c→∃ v,s.heap.IsCell c v
 free:H X.env.locals=none
 freeC:∀ x c,X.env.cells.lookup x=some c→H c=none
 pin:∀ p ∈ X.pn ++ pins,s.heap.get? p.1=some p.2∧H p.1=none∧p.1 ≠ X.env.locals∧p.1 ∉ X.fs∧∀ v,p.2.data ≠ .cell v
 hok:HOk X.prog X.w H s.heap
 len:σ.length=X.N.length
section
variable {X:Cx}{pins:List (Addr×Obj)} {σ:List (Option V)} {H H':Hp}{s:Shared}{h':Heap}
theorem Cx.Ok.nofr (ok:X.Ok) {b:Addr}{o:Obj} (e:X.base.get? b=some o):b ∉ X.fs:=fun hb=>by
 have:=(ok.funs.mem hb).1
 rw [e] at this; cases this
theorem Inv.bs (I:Inv X pins σ H s):∀ b o,X.base.get? b=some o→s.heap.get? b=some o∧H b=none:=fun b o e =>
 ⟨I.base.keep b o (I.ok.bs b o e).1 (I.ok.bs b o e).2 (I.ok.nofr e) (I.ok.noex b o e),I.base.free b o (I.ok.bs b o e).1 (I.ok.bs b o e).2 (I.ok.noex b o e)⟩
theorem Inv.bk (I:Inv X pins σ H s):∀ b o,X.base.get? b=some o→s.heap.get? b=some o:=fun b o e=>(I.bs b o e).1
theorem Inv.mod (I:Inv X pins σ H s):Mod X.K X.mg X.base:=I.ok.mod
theorem Inv.kIn (I:Inv X pins σ H s):X.K.In s.heap:=I.ok.mod.kin.keeps I.bk
theorem Inv.lt (I:Inv X pins σ H s):X.env.locals < s.heap.objs.size:=let ⟨_,hn,_⟩:=I.loc; hn.lt
theorem Inv.sz (I:Inv X pins σ H s):X.s₀.heap.objs.size≤s.heap.objs.size:=D6 I.ok.above (E4 I.lt)
theorem Inv.nofs (I:Inv X pins σ H s) {a:Addr} (h:s.heap.objs.size≤a):a ∉ X.fs:=fun hb=>by
 obtain ⟨_,o,ho,_⟩:=I.ok.funs.mem hb
 exact absurd (Ef (DU ho) (D6 I.sz h)) (ER _)
theorem Inv.cne (I:Inv X pins σ H s):∀ x c,X.env.cells.lookup x=some c→c ≠ X.env.locals:=fun x c e z=>by
 obtain ⟨v,o,ho,hd⟩:=I.cell x c e
 obtain ⟨m,⟨o',es,ep,ho',hd',_⟩,_⟩:=I.loc
 rw [z,ho'] at ho; cases ho; rw [hd'] at hd; cases hd
theorem Inv.funs (I:Inv X pins σ H s):s.heap.FunFrames X.base X.outer:=by
 have all:∀ (l:List Env),(∀ b ∈ frs l,b ∈ X.fs)→X.s₀.heap.FunFrames X.base l→s.heap.FunFrames X.base l:=by
  intro l
  induction l with
  | nil=>intro _ _; trivial
  | cons env r ih =>
   intro hs hl
   obtain ⟨hk,⟨L,o,hf,hn,ho,hd⟩,hr⟩:=hl
   have hL:L ∈ X.fs:=hs L (by unfold frs; rw [GL,hf]; exact DW)
   obtain ⟨sl,e⟩:=I.base.slot L o ho (I.ok.frf L hL) hL fun z=>I.ok.exfs L z hL
   exact ⟨hk,⟨L,_,hf,hn,e,hd⟩,ih (fun b hb=>hs b (by unfold frs; rw [GL,hf]; exact DS _ hb)) hr⟩
 exact all X.outer (fun _ hb=>hb) I.ok.funs
theorem Inv.stack (I:Inv X pins σ H s):s.heap.FunFrames X.base X.stack:=by
 rcases I.ok.stk with e | ⟨e,hf⟩
 ·rw [e]; exact I.funs
 ·rw [e]
  obtain ⟨m,hn,_⟩:=I.loc
  refine .cons (by rw [I.ok.kind]; decide) hf hn ?_ I.funs
  exact Heap.get?_none_of_le (D6 I.ok.bsz I.ok.above)
theorem Inv.stkSub (I:Inv X pins σ H s):∀ b ∈ frs X.stack,b ∈ X.env.locals :: X.fs:=fun b hb=>by
 rcases I.ok.stk with e | ⟨e,hf⟩
 ·rw [e] at hb; exact DS _ hb
 ·rw [e] at hb
  unfold frs at hb
  rw [GL,hf] at hb
  exact hb
theorem Inv.stkFree (I:Inv X pins σ H s):∀ b ∈ frs X.stack,H b=none:=fun b hb=>by
 rcases List.mem_cons.mp (I.stkSub b hb) with e | hb
 ·rw [e]; exact I.free
 ·obtain ⟨_,o,ho,_⟩:=I.ok.funs.mem hb
  exact I.base.free b o ho (I.ok.frf b hb) fun z=>I.ok.exfs b z hb
theorem Inv.step {g':Array GenState}{t':Nat}{d':Drawn}{ch:List Addr} (I:Inv X pins σ H s)
  (hch:∀ b ∈ ch,(b ∈ X.ex∨X.s₀.heap.objs.size≤b)∧b ≠ X.env.locals∧(∀ x c,X.env.cells.lookup x=some c→c ≠ b)∧∀ p ∈ X.pn ++ pins,p.1 ≠ b)
  (keep:∀ b o,b ≠ X.env.locals→b ∉ X.fs→b ∉ ch→s.heap.get? b=some o→H b=none→h'.get? b=some o)
  (slot:∀ b o,b ≠ X.env.locals→b ∈ X.fs→b ∉ ch→s.heap.get? b=some o→H b=none→∃ sl,h'.get? b=some { o with slots:=sl }) (free:∀ b o,b ∉ ch→s.heap.get? b=some o→H b=none→H' b=none)
  (there:∀ b o,b ∉ ch→s.heap.get? b=some o→∃ o',h'.get? b=some o')
  (tups:∀ b xs,H b=some (.tup xs)→H' b=some (.tup xs)) (frzs:∀ b o u,H b=some (.frz o u)→H' b=some (.frz o u)) (tbls:∀ b ps,H b=some (.tbl ps)→∃ more,H' b=some (.tbl (ps ++ more)))
  (ns:∀ m,s.heap.Ns X.env.locals m→h'.Ns X.env.locals m) (hok:HOk X.prog X.w H' h') (hg:AllBare g') :
  Inv X pins σ H' { s with heap:=h',gens:=g',drawn:=d',toks:=t' }:=by
 have neL:∀ b o,X.s₀.heap.get? b=some o→b ≠ X.env.locals:=fun b o e=>D9 (Ef (DU e) I.ok.above)
 have neC:∀ b o,X.s₀.heap.get? b=some o→b ∉ X.ex→b ∉ ch:=fun b o e hx hb=>by
  rcases (hch b hb).1 with z | z
  ·exact hx z
  ·exact absurd (Ef (DU e) z) (ER _)
 have cellK:∀ x c,X.env.cells.lookup x=some c→∀ v,s.heap.IsCell c v→h'.IsCell c v:=fun x c e v zz1_0=>by
  obtain ⟨o,ho,hd⟩:=zz1_0
  have nch:c ∉ ch:=fun z=>(hch c z).2.2.1 x c e rfl
  by_cases hc:c ∈ X.fs
  ·obtain ⟨sl,q⟩:=slot c o (I.cne x c e) hc nch ho (I.freeC x c e)
   exact ⟨_,q,hd⟩
  ·exact ⟨o,keep c o (I.cne x c e) hc nch ho (I.freeC x c e),hd⟩
 refine ⟨I.ok,I.os,hg,⟨fun b o e n hb hx=>?_,fun b o e n hb hx=>?_,fun b o e n hx=>?_,fun b o e hx=>?_,fun b xs e=>tups b xs (I.base.tups b xs e),fun b o xs e=>frzs b o xs (I.base.frzs b o xs e),fun b ps e=>?_⟩,?_,fun x c e=>?_,?_,fun x c e=>?_,fun p hp=>?_,hok,I.len⟩
 ·exact keep b o (neL b o e) hb (neC b o e hx) (I.base.keep b o e n hb hx) (I.base.free b o e n hx)
 ·obtain ⟨sl,e1⟩:=I.base.slot b o e n hb hx
  obtain ⟨sl',e2⟩:=slot b _ (neL b o e) hb (neC b o e hx) e1 (I.base.free b o e n hx)
  exact ⟨sl',e2⟩
 ·obtain ⟨o',e1⟩:=I.base.there b o e hx
  exact free b o' (neC b o e hx) e1 (I.base.free b o e n hx)
 ·obtain ⟨o',e1⟩:=I.base.there b o e hx
  exact there b o' (neC b o e hx) e1
 ·obtain ⟨m1,e1⟩:=I.base.tbls b ps e
  obtain ⟨m2,e2⟩:=tbls b _ e1
  exact ⟨m1 ++ m2,by rw [e2,Array.append_assoc]⟩
 ·obtain ⟨m,hn,hl⟩:=I.loc
  refine ⟨m,ns m hn,fun i x v e1 e2 e3=>?_⟩
  obtain ⟨u,r,l⟩:=hl i x v e1 e2 e3
  refine ⟨u,r,?_⟩
  rcases l with l | ⟨k,c,e,z⟩
  ·exact .inl l
  ·exact .inr ⟨k,c,e,cellK x c e _ z⟩
 ·obtain ⟨v,z⟩:=I.cell x c e
  exact ⟨v,cellK x c e v z⟩
 ·obtain ⟨m,⟨o,_,_,ho,_⟩,_⟩:=I.loc
  exact free _ o (fun z=>(hch _ z).2.1 rfl) ho I.free
 ·obtain ⟨v,o,ho,hd⟩:=I.cell x c e
  exact free c o (fun z=>(hch c z).2.2.1 x c e rfl) ho (I.freeC x c e)
 ·obtain ⟨e,n,ne,nf,d⟩:=I.pin p hp
  have nch:p.1 ∉ ch:=fun z=>(hch p.1 z).2.2.2 p hp rfl
  exact ⟨keep p.1 p.2 ne nf nch e n,free p.1 p.2 nch e n,ne,nf,d⟩
theorem Inv.un {t':Nat} (I:Inv X pins σ H s) (u:Un X.fs [] H H' s.heap h') (hok:HOk X.prog X.w H' h'):Inv X pins σ H' { s with heap:=h',toks:=t' }:=by
 obtain ⟨m,⟨o,es,ep,ho,r⟩,_⟩:=id I.loc
 obtain ⟨sl,hL⟩:=u.any ho I.free (by simp)
 exact I.step (g':=s.gens) (d':=s.drawn) (ch:=[]) (fun _ z=>nomatch z) (fun b o _ hb _ e n=>u.keep b o e n hb (by simp)) (fun b o _ hb _ e n=>u.slot b o e n hb (by simp)) (fun b o _ e n=>u.free b o e n (by simp)) (fun b o _ e=>u.there b o e (by simp)) u.tups u.frzs u.tbls (fun m' hm=>by
  obtain ⟨o',es',ep',ho',r'⟩:=hm
  rw [ho] at ho'; cases ho'
  exact ⟨_,es',ep',hL,r'⟩) hok I.bare
theorem Inv.call {g':Array GenState}{t':Nat}{d':Drawn}{ch:List Addr} (I:Inv X pins σ H s) (u:Un (frs X.stack) ch H H' s.heap h') (hok:HOk X.prog X.w H' h') (hg:AllBare g')
  (hch:∀ b ∈ ch,(b ∈ X.ex∨X.s₀.heap.objs.size≤b)∧b ≠ X.env.locals∧(∀ x c,X.env.cells.lookup x=some c→c ≠ b)∧∀ p ∈ X.pn ++ pins,p.1 ≠ b) :
  Inv X pins σ H' { s with heap:=h',gens:=g',drawn:=d',toks:=t' }:=by
 obtain ⟨m,⟨o,es,ep,ho,r⟩,_⟩:=id I.loc
 obtain ⟨sl,hL⟩:=u.any ho I.free fun z=>(hch _ z).2.1 rfl
 exact I.step (ch:=ch) hch (fun b o hL hb hc e n=>u.keep b o e n (fun z=>(List.mem_cons.mp (I.stkSub b z)).elim hL hb) hc) (fun b o _ _ hc e n=>u.any e n hc) (fun b o hc e n=>u.free b o e n hc) (fun b o hc e=>u.there b o e hc) u.tups u.frzs u.tbls (fun m' hm=>by
  obtain ⟨o',es',ep',ho',r'⟩:=hm
  rw [ho] at ho'; cases ho'
  exact ⟨_,es',ep',hL,r'⟩) hok hg
theorem Inv.turned {t':Nat}{it:Addr} (I:Inv X pins σ H s) (k:∀ b o,b ≠ it→s.heap.get? b=some o→h'.get? b=some o) (hn:H it=none) (hL:it ≠ X.env.locals)
  (h1:it ∈ X.ex∨X.s₀.heap.objs.size≤it) (h2:∀ x c,X.env.cells.lookup x=some c→c ≠ it) (h3:∀ p ∈ X.pn ++ pins,p.1 ≠ it):Inv X pins σ H { s with heap:=h',toks:=t' }:=by
 have nit:∀ b u,H b=some u→b ≠ it:=fun b u e z=>by rw [z,hn] at e; cases e
 refine I.step (g':=s.gens) (d':=s.drawn) (ch:=[it]) (fun b hb=>?_) (fun b o _ _ hc e _=>k b o (fun z=>hc (by simp [z])) e) (fun b o _ _ hc e _=>⟨o.slots,k b o (fun z=>hc (by simp [z])) e⟩) (fun _ _ _ _ n=>n)
  (fun b o hc e=>⟨o,k b o (fun z=>hc (by simp [z])) e⟩) (fun _ _ e=>e) (fun _ _ _ e=>e) (fun b ps e=>⟨#[],by rw [e]; simp⟩) (fun m hm=>?_) (fun b u e=>?_) I.bare
 ·have e:b=it:=by simpa using hb
  subst e
  exact ⟨h1,hL,h2,h3⟩
 ·obtain ⟨o,es,ep,ho,r⟩:=hm
  exact ⟨o,es,ep,k _ o (Ne.symm hL) ho,r⟩
 ·refine (I.hok b u e).stay (fun c v hc q=>k c v ?_ q) (fun _ q=>q) fun _ _ q=>q
  rcases hc with z | z
  ·rw [z]; exact nit b u e
  ·exact nit c _ z
theorem Inv.tok (I:Inv X pins σ H s) (t:Nat):Inv X pins σ H { s with toks:=t }:=I.un (h':=s.heap) (t':=t) Un.refl I.hok
theorem Inv.kept {t':Nat} (I:Inv X pins σ H s) (k:∀ b u,s.heap.get? b=some u→h'.get? b=some u):Inv X pins σ H { s with heap:=h',toks:=t' }:=I.un (Un.kept k) (I.hok.kept k)
theorem Inv.laid {a:Addr}{o:HO}{t':Nat} (I:Inv X pins σ H s) (k:∀ b u,s.heap.get? b=some u→h'.get? b=some u) (hp:s.heap.objs.size≤a) (new:cF X.prog X.w (upd H a o) h' a o) :
  Inv X pins σ (upd H a o) { s with heap:=h',toks:=t' }:=I.un (Un.laid k hp (I.hok.fresh hp)) (I.hok.laid k hp new)
theorem Inv.write {x e:Addr}{o:HO}{t':Nat} (I:Inv X pins σ H s) (mu:Mut (H x)) (he:e=x∨H e=some (.own x)) (k:∀ b u,b ≠ e→s.heap.get? b=some u→h'.get? b=some u) (heo:∃ u,h'.get? e=some u)
  (new:cF X.prog X.w (upd H x o) h' x o):Inv X pins σ (upd H x o) { s with heap:=h',toks:=t' }:=I.un (Un.write mu he k heo) (I.hok.write mu he k heo new)
theorem Inv.pins_of {pins':List (Addr×Obj)} (I:Inv X pins σ H s) (h:∀ p ∈ pins',s.heap.get? p.1=some p.2∧H p.1=none∧p.1 ≠ X.env.locals∧p.1 ∉ X.fs∧∀ v,p.2.data ≠ .cell v):Inv X pins' σ H s :=
 ⟨I.ok,I.os,I.bare,I.base,I.loc,I.cell,I.free,I.freeC,fun p hp=>(List.mem_append.mp hp).elim (fun z=>I.pin p (List.mem_append_left _ z)) (h p),I.hok,I.len⟩
theorem kn {N:List Str} (hN:N.Nodup) {i j:Nat}{x:Str} (a:N[i]? = some x) (b:N[j]? = some x):i=j:=by
 obtain ⟨h1,e1⟩:=List.getElem?_eq_some_iff.mp a
 obtain ⟨h2,e2⟩:=List.getElem?_eq_some_iff.mp b
 exact (List.getElem_inj hN).mp (e1.trans e2.symm)
theorem tD {M:Model}{A:Around}{E:Value→Shared→Prop}{i:Nat}{x:Str}{v:V}{u:Value}{Q:Unit→Shared→Prop} (I:Inv X pins σ H s) (hN:X.N.Nodup) (hi:X.N[i]? = some x) (hx:Loc X.env.scope x) (r:bh v u)
  (h:∀ s',Inv X pins (σ.set i (some v)) H s'→(∃ a,Heap.SameBut a s.heap s'.heap∧(a=X.env.locals∨X.env.cells.lookup x=some a))→Q () s') (hf:X.fn x=true∨X.env.scope.names.lookup x=some .local:=by first | exact .inl rfl | exact .inr rfl | assumption):wpAny M A (storeName X.env x u) Q E s:=by
 obtain ⟨m,hn,hl⟩:=id I.loc
 have hcls:(X.env.scope.kind == .class || (X.env.scope.kind == .module && X.env.locals != X.env.globals))=false:=by rw [I.ok.kind]; rfl
 have hiσ:i < σ.length:=by rw [I.len]; exact (List.getElem?_eq_some_iff.mp hi).1
 have cne:=I.cne
 have tracked:∀ {a:Addr}{h':Heap},(∃ o,s.heap.get? a=some o∧H a=none)→Heap.SameBut a s.heap h'→HOk X.prog X.w H h':=fun {a h'} ha hs b ob e=>by
  obtain ⟨_,_,hfree⟩:=ha
  refine (I.hok b ob e).stay (fun c w' hc q=>(hs.2 c ?_).trans q) (fun _ q=>q) fun _ _ q=>q
  rintro rfl
  rcases hc with rfl | hc
  ·rw [hfree] at e; cases e
  ·rw [hfree] at hc; cases hc
 rcases hx with hk | hk
 ·refine wpAny_storeName_local hk hn (fun h' hn' hs=>?_) hcls
  obtain ⟨oL,_,_,hoL,_⟩:=id hn
  refine h _ ⟨I.ok,I.os,I.bare,⟨fun b o e n hb hx=>?_,fun b o e n hb hx=>?_,I.base.free,fun b o e hx=>?_,I.base.tups,I.base.frzs,I.base.tbls⟩,⟨_,hn',fun j y v' e1 e2 e3=>?_⟩,fun y c e=>?_,I.free,I.freeC,fun p hp=>?_,tracked ⟨oL,hoL,I.free⟩ hs,by simpa using I.len⟩ ⟨_,hs,.inl rfl⟩
  ·exact (hs.2 b (D9 (Ef (DU e) I.ok.above))).trans (I.base.keep b o e n hb hx)
  ·obtain ⟨sl,e1⟩:=I.base.slot b o e n hb hx
   exact ⟨sl,(hs.2 b (D9 (Ef (DU e) I.ok.above))).trans e1⟩
  ·obtain ⟨o',e1⟩:=I.base.there b o e hx
   exact ⟨o',(hs.2 b (D9 (Ef (DU e) I.ok.above))).trans e1⟩
  ·by_cases hj:j=i
   ·subst hj
    rw [hi] at e1; cases e1
    rw [E8 hiσ] at e2
    cases e2
    exact ⟨u,r,.inl ⟨hk,by simp⟩⟩
   ·rw [D2 (Ne.symm hj)] at e2
    obtain ⟨u',r',q⟩:=hl j y v' e1 e2 e3
    refine ⟨u',r',?_⟩
    rcases q with ⟨k,e⟩ | ⟨k,c,e,z⟩
    ·refine .inl ⟨k,?_⟩
     have:y ≠ x:=fun e=>hj (kn hN e1 (e ▸ hi))
     simp [this,e]
    ·exact .inr ⟨k,c,e,z.sameBut hs (cne y c e)⟩
  ·obtain ⟨w',z⟩:=I.cell y c e
   exact ⟨w',z.sameBut hs (cne y c e)⟩
  ·obtain ⟨e,n,ne,nf,d⟩:=I.pin p hp
   exact ⟨(hs.2 p.1 ne).trans e,n,ne,nf,d⟩
 ·have hfn:X.fn x=true:=by
   rcases hf with z | z
   ·exact z
   ·rw [z] at hk; cases hk
  obtain ⟨c,hc⟩:=I.ok.has x (.inl hk)
  obtain ⟨w',z⟩:=I.cell x c hc
  refine wpAny_storeName_cell I.ok.kind hk hc z (fun h' hc' hs=>?_)
  obtain ⟨oc,hoc,hocd⟩:=id z
  refine h { s with heap:=h' } ⟨I.ok,I.os,I.bare,⟨fun b o e n hb hx=>?_,fun b o e n hb hx=>?_,I.base.free,fun b o e hx=>?_,I.base.tups,I.base.frzs,I.base.tbls⟩,⟨m,hn.sameBut hs (Ne.symm (cne x c hc)),fun j y v' e1 e2 e3=>?_⟩,fun y c' e=>?_,I.free,I.freeC,fun p hp=>?_,tracked ⟨oc,hoc,I.freeC x c hc⟩ hs,by simpa using I.len⟩ ⟨c,hs,.inr hc⟩
  ·exact (hs.2 b (D9 (Ef (DU e) (I.ok.cab x c hfn hc)))).trans (I.base.keep b o e n hb hx)
  ·obtain ⟨sl,e1⟩:=I.base.slot b o e n hb hx
   exact ⟨sl,(hs.2 b (D9 (Ef (DU e) (I.ok.cab x c hfn hc)))).trans e1⟩
  ·obtain ⟨o',e1⟩:=I.base.there b o e hx
   exact ⟨o',(hs.2 b (D9 (Ef (DU e) (I.ok.cab x c hfn hc)))).trans e1⟩
  ·by_cases hj:j=i
   ·subst hj
    rw [hi] at e1; cases e1
    rw [E8 hiσ] at e2
    cases e2
    exact ⟨u,r,.inr ⟨.inl hk,c,hc,hc'⟩⟩
   ·rw [D2 (Ne.symm hj)] at e2
    obtain ⟨u',r',q⟩:=hl j y v' e1 e2 e3
    refine ⟨u',r',?_⟩
    rcases q with q | ⟨k,c',e,z'⟩
    ·exact .inl q
    ·refine .inr ⟨k,c',e,z'.sameBut hs ?_⟩
     rintro rfl
     exact hj (kn hN e1 (I.ok.inj _ _ _ e hc ▸ hi))
  ·by_cases hcc:c'=c
   ·subst hcc; exact ⟨_,hc'⟩
   ·obtain ⟨w2,z2⟩:=I.cell y c' e
    exact ⟨w2,z2.sameBut hs hcc⟩
  ·obtain ⟨e,n,ne,nf,d⟩:=I.pin p hp
   refine ⟨(hs.2 p.1 ?_).trans e,n,ne,nf,d⟩
   intro q
   rw [q,hoc] at e
   have q':oc=p.2:=DR e
   exact d w' (by rw [← q']; exact hocd)
theorem gC {M:Model}{A:Around}{E:Value→Shared→Prop}{i:Nat}{x:Str}{v:V}{u:Value}{Q:Unit→Shared→Prop} (I:Inv X pins σ H s) (hN:X.N.Nodup) (hi:X.N[i]? = some x) (hx:Loc X.env.scope x) (r:bh v u)
  (h:∀ s',Inv X pins (σ.set i (some v)) H s'→Q () s') (hf:X.fn x=true∨X.env.scope.names.lookup x=some .local:=by first | exact .inl rfl | exact .inr rfl | assumption):wpAny M A (storeName X.env x u) Q E s :=
 tD I hN hi hx r (fun s' I' _=>h s' I') hf
theorem Inv.call' {s':Shared}{ch:List Addr} (I:Inv X pins σ H s) (ho:s'.os=s.os) (u:Un (frs X.stack) ch H H' s.heap s'.heap) (hok:HOk X.prog X.w H' s'.heap) (hg:AllBare s'.gens)
  (hch:∀ b ∈ ch,(b ∈ X.ex∨X.s₀.heap.objs.size≤b)∧b ≠ X.env.locals∧(∀ x c,X.env.cells.lookup x=some c→c ≠ b)∧∀ p ∈ X.pn ++ pins,p.1 ≠ b):Inv X pins σ H' s':=by
 obtain ⟨h',g',d',t',o'⟩:=s'
 have e:o'=s.os:=ho
 subst e
 exact I.call (g':=g') (t':=t') (d':=d') u hok hg hch
end
abbrev XK:=Value→Option Addr→Hp→Prop
abbrev St:=List (Option V)
abbrev VK:=V→Hp→Prop
abbrev TE:=St→Hp→VK→Prop
abbrev TT:=St→Hp→(Bool→Hp→Prop)→Prop
abbrev TA:=St→Hp→(List V→Hp→Prop)→Prop
structure eC where
 nx:St→Hp→Prop
 rt:VK
 bk:St→Hp→Prop:=fun _ _=>False
 ct:St→Hp→Prop:=fun _ _=>False
abbrev TS:=eC→St→Hp→Prop
def EP (X:Cx) (pins:List (Addr×Obj)) (σ:St) (Q:VK) (u:Value) (s':Shared):Prop:=∃ v H',Inv X pins σ H' s'∧bh v u∧Q v H'
def TP (X:Cx) (pins:List (Addr×Obj)) (σ:St) (Q:Bool→Hp→Prop) (b:Bool) (s':Shared):Prop:=∃ H',Inv X pins σ H' s'∧Q b H'
def AP (X:Cx) (pins:List (Addr×Obj)) (σ:St) (Q:List V→Hp→Prop) (us:List Value) (s':Shared):Prop:=∃ vs H',Inv X pins σ H' s'∧a_ vs us∧Q vs H'
def SP (X:Cx) (pins:List (Addr×Obj)) (D:eC) (f:Flow) (s':Shared):Prop :=
 match f with
 | .next=>∃ σ' H',Inv X pins σ' H' s'∧D.nx σ' H'
 | .brk=>∃ σ' H',Inv X pins σ' H' s'∧D.bk σ' H'
 | .cont=>∃ σ' H',Inv X pins σ' H' s'∧D.ct σ' H'
 | .ret u=>∃ v σ' H',Inv X pins σ' H' s'∧bh v u∧D.rt v H'
def PE (X:Cx) (e:Expr) (t:TE):Prop :=
 ∀ (pins:List (Addr×Obj)) (s:Shared) (σ:St) (H:Hp) (Q:VK),Inv X pins σ H s→t σ H Q→wpAny (model X.prog X.w) X.A (eval e X.env) (EP X pins σ Q) X.xe s
def PT (X:Cx) (e:Expr) (t:TT):Prop :=
 ∀ (pins:List (Addr×Obj)) (s:Shared) (σ:St) (H:Hp) (Q:Bool→Hp→Prop),Inv X pins σ H s→t σ H Q→wpAny (model X.prog X.w) X.A (isTrue e X.env (eval e X.env)) (TP X pins σ Q) X.xe s
def PW (X:Cx) (e:Expr) (t:TT):Prop :=
 ∀ (whole:Sem Value) (pins:List (Addr×Obj)) (s:Shared) (σ:St) (H:Hp) (Q:Bool→Hp→Prop),Inv X pins σ H s→t σ H Q→wpAny (model X.prog X.w) X.A (isTrue e X.env whole) (TP X pins σ Q) X.xe s
def PA (X:Cx) (es:List Expr) (t:TA):Prop :=
 ∀ (pos:Pos) (pins:List (Addr×Obj)) (s:Shared) (σ:St) (H:Hp) (Q:List V→Hp→Prop),Inv X pins σ H s→t σ H Q→wpAny (model X.prog X.w) X.A (spliced (backTo pos (starEach es X.env))) (AP X pins σ Q) X.xe s
def PS (X:Cx) (st:Stmt) (t:TS):Prop :=
 ∀ (pins:List (Addr×Obj)) (s:Shared) (σ:St) (H:Hp) (D:eC),Inv X pins σ H s→t D σ H→wpAny (model X.prog X.w) X.A (exec st X.env) (SP X pins D) X.xe s
def PSs (X:Cx) (st:List Stmt) (t:TS):Prop :=
 ∀ (pins:List (Addr×Obj)) (s:Shared) (σ:St) (H:Hp) (D:eC),Inv X pins σ H s→t D σ H→wpAny (model X.prog X.w) X.A (execs st X.env) (SP X pins D) X.xe s
theorem thn {α:Type}{t:Sem α}{Q Q':α→Shared→Prop}{M:Model}{A:Around}{E:Value→Shared→Prop}{s:Shared} (h:wpAny M A t Q E s) (hQ:∀ a s,Q a s→Q' a s):wpAny M A t Q' E s:=EB h hQ fun _ _ x=>x
section
variable {X:Cx}
def jT (i:Nat):TE:=fun σ H Q=>∃ v,σ[i]? = some (some v)∧Q v H
def tC (v:V):TE:=fun _ H Q=>Q v H
theorem kc {i:Nat}{x:Str}{pos:Pos} (hN:X.N[i]? = some x) (hv:Vis X.env.scope x) (hd:(x == ("__debug__" : Str))=false:=by decide) (hcd:(x == ("__classdict__" : Str))=false:=by decide):PE X (.Name x pos) (jT i):=by
 intro pins s σ H Q I h
 obtain ⟨v,e,h⟩:=h
 obtain ⟨m,hn,hl⟩:=I.loc
 obtain ⟨u,r,l⟩:=hl i x v hN e hv
 have fin:EP X pins σ Q u s:=⟨v,H,I,r,h⟩
 rcases l with ⟨hk,hm⟩ | ⟨hk,c,hc,hcell⟩
 ·exact wpAny_Name (wpAny_loadName_local I.ok.kind hk hn hm fin) hd
 ·rcases hk with hk | hk
  ·exact wpAny_Name (wpAny_loadName_cell I.ok.kind hk hc hcell fin) hd
  ·exact wpAny_Name (wpAny_loadName_free I.ok.kind hk hc hcell fin hcd) hd
theorem v9 {i j pos}:PE X (.Constant (.int i) j pos) (tC (.int i)):=fun _ _ _ H _ I h=>wpAny_Constant_int ⟨.int i,H,I.tok _,⟨_,rfl⟩,h⟩
theorem Co {b j pos}:PE X (.Constant (.bool b) j pos) (tC (.bl b)):=fun _ _ _ H _ I h=>Constant_bool ⟨.bl b,H,I,rfl,h⟩
theorem qz {j pos}:PE X (.Constant .none j pos) (tC .non):=fun _ _ _ H _ I h=>Constant_none ⟨.non,H,I,rfl,h⟩
theorem AL {x j pos}:PE X (.Constant (.str x) j pos) (tC (.str x)):=fun _ _ _ H _ I h=>Calls.Constant_str ⟨.str x,H,I.tok _,⟨_,rfl⟩,h⟩
def Gl (X:Cx) (x:Str):Prop:=X.env.kindOf x=some .globalImplicit
theorem iF {E:Value→Shared→Prop}{pins:List (Addr×Obj)} {s:Shared} {σ:St}{H:Hp}{x:Str}{u:Value}{pos:Pos}{Q:Value→Shared→Prop} (I:Inv X pins σ H s) (hg:Gl X x) (hm:X.mg x=some u) (h:Q u s)
  (hd:(x == ("__debug__" : Str))=false:=by decide):wpAny (model X.prog X.w) X.A (eval (.Name x pos) X.env) Q E s :=
 Calls.Name_function_global I.ok.kind hg (Calls.loadGlobal_global (by rw [I.ok.glob]; exact I.mod.glob.keeps I.bk) hm h) hd
theorem eW {E:Value→Shared→Prop}{pins:List (Addr×Obj)} {s:Shared} {σ:St}{H:Hp}{x:Str}{u:Value}{pos:Pos}{Q:Value→Shared→Prop} (I:Inv X pins σ H s) (hg:Gl X x) (hm:X.mg x=none) (hv:bootBuiltins x=some u) (h:Q u s)
  (hn:x ≠ "__name__" := by decide) (hd:(x == ("__debug__" : Str))=false:=by decide):wpAny (model X.prog X.w) X.A (eval (.Name x pos) X.env) Q E s:=by
 obtain ⟨mb,h1,h2⟩:=I.mod.blt
 exact Calls.Name_function_global I.ok.kind hg (Calls.loadGlobal_builtin (by rw [I.ok.glob]; exact I.mod.glob.keeps I.bk) hm (by rw [I.ok.blt]; exact h1.keeps I.bk) ((h2 x hn).trans hv) h) hd
theorem dY {x:Str}{v:V}{u:Value}{pos:Pos} (hg:Gl X x) (hm:X.mg x=some u) (r:bh v u) (hd:(x == ("__debug__" : Str))=false:=by decide):PE X (.Name x pos) (tC v) :=
 fun _ _ _ H _ I h=>iF I hg hm ⟨v,H,I,r,h⟩ hd
theorem rW {x:Str}{v:V}{u:Value}{pos:Pos} (hg:Gl X x) (hm:X.mg x=none) (hv:bootBuiltins x=some u) (r:bh v u) (hn:x ≠ "__name__" := by decide) (hd:(x == ("__debug__" : Str))=false:=by decide):PE X (.Name x pos) (tC v) :=
 fun _ _ _ H _ I h=>eW I hg hm hv ⟨v,H,I,r,h⟩ hn hd
variable {a b:Expr}{ta tb:TE}{pos:Pos}
def PC (X:Cx) (op:CmpOp) (a b:Expr) (t:TE):Prop :=
 ∀ (pins:List (Addr×Obj)) (s:Shared) (σ:St) (H:Hp) (Q:VK),Inv X pins σ H s→t σ H Q →
  wpAny (model X.prog X.w) X.A (eval a X.env) (fun v s₁=>wpAny (model X.prog X.w) X.A (eval b X.env) (fun u s₂=>wpAny (model X.prog X.w) X.A (compareOp op v u) (EP X pins σ Q) X.xe s₂) X.xe s₁) X.xe s
theorem wf (b:Expr) {op:CmpOp} (h:op ≠ .In) (h2:op ≠ .NotIn):behindInMarks op b=false:=by
 have e1:(op == CmpOp.In)=false:=by cases op <;> first | rfl | exact absurd rfl h
 have e2:(op == CmpOp.NotIn)=false:=by cases op <;> first | rfl | exact absurd rfl h2
 cases b <;> simp [behindInMarks,e1,e2]
def tB (t:TE):TT:=fun σ H Q=>t σ H fun x H1=>∃ c,x=.bl c∧Q c H1
theorem AB {op:CmpOp}{t:TE} (h:PC X op a b t) (h1:behindInMarks op b=false:=by first | exact wf _ (by decide) (by decide) | rfl):PT X (.Compare a [op] [b] pos) (tB t):=by
 intro pins s σ H Q I hw
 refine wpAny_isTrue_Compare1 (thn (h pins s σ H _ I hw) fun v s1 h1=>thn h1 fun u s2 h2=>thn h2 fun c s3 zz2_0=>?_) h1
 obtain ⟨x,H1,I1,r1,q1⟩:=zz2_0
 obtain ⟨d,rfl,q⟩:=q1
 cases r1
 exact Fz ⟨H1,I1,q⟩
theorem Az {e:Expr}{t:TE} (h:PE X e t) (he:∀ whole,isTrue e X.env whole=(do let v ← whole; standAt e.pos; holding [v] (truthy v)):=by intro _; rfl):PT X e (tB t):=by
 intro pins s σ H Q I hw
 refine isTrue_plain (thn (h pins s σ H _ I hw) fun v s1 zz3_0=>?_) (he _)
 obtain ⟨x,H1,I1,r1,q1⟩:=zz3_0
 obtain ⟨d,rfl,q⟩:=q1
 cases r1
 exact Fz ⟨H1,I1,q⟩
variable {tA tB':TT}{cg:List Expr}
def Da (t u:TT):TT:=fun σ H Q=>t σ H fun c H1=>if c=true then u σ H1 Q else Q false H1
def tOr (t u:TT):TT:=fun σ H Q=>t σ H fun c H1=>if c=true then Q true H1 else u σ H1 Q
def C6 (t:TT):TT:=fun σ H Q=>t σ H fun c H1=>Q (!c) H1
theorem yj (ha:PT X a tA):PW X (.BoolOp .And [a] pos) tA:=by
 intro wh pins s σ H Q I h
 refine isTrue_and (thn (ha pins s σ H Q I h) fun c s1 e=>?_)
 cases c with
 | true=>exact isTrue_and_nil e
 | false=>exact e
theorem Ax (ha:PT X a tA):PW X (.BoolOp .Or [a] pos) tA:=by
 intro wh pins s σ H Q I h
 refine isTrue_or (thn (ha pins s σ H Q I h) fun c s1 e=>?_)
 cases c with
 | false=>exact isTrue_or_nil e
 | true=>exact e
theorem Ay (ha:PT X a tA) (hb:PW X (.BoolOp .And (b :: cg) pos) tB'):PW X (.BoolOp .And (a :: b :: cg) pos) (Da tA tB'):=by
 intro wh pins s σ H Q I h
 refine isTrue_and (thn (ha pins s σ H _ I h) fun c s1 zz4_0=>?_)
 obtain ⟨H1,I1,q1⟩:=zz4_0
 cases c with
 | true=>exact hb wh pins s1 σ H1 Q I1 q1
 | false=>exact ⟨H1,I1,q1⟩
theorem Ci (ha:PT X a tA) (hb:PW X (.BoolOp .Or (b :: cg) pos) tB'):PW X (.BoolOp .Or (a :: b :: cg) pos) (tOr tA tB'):=by
 intro wh pins s σ H Q I h
 refine isTrue_or (thn (ha pins s σ H _ I h) fun c s1 zz5_0=>?_)
 obtain ⟨H1,I1,q1⟩:=zz5_0
 cases c with
 | true=>exact ⟨H1,I1,q1⟩
 | false=>exact hb wh pins s1 σ H1 Q I1 q1
theorem AA (ha:PT X a tA):PT X (.UnaryOp .Not a pos) (C6 tA):=by
 intro pins s σ H Q I h
 exact isTrue_not (ha pins s σ H (fun c H1=>Q (!c) H1) I h)
def BX (ta tb:TE):TE:=fun σ H Q=>ta σ H fun x H1=>∃ c,x=.bl c∧if c=true then tb σ H1 Q else Q (.bl false) H1
def BQ (ta:TE):TE:=fun σ H Q=>ta σ H fun x H1=>∃ c,x=.bl c∧Q (.bl (!c)) H1
theorem AM {op}{t:TE} (h:PE X a t):PE X (.BoolOp op [a] pos) t:=fun pins s σ H Q I hw=>BoolOp_one (h pins s σ H Q I hw)
theorem AQ (ha:PE X a ta) (hb:PE X (.BoolOp .And (b :: cg) pos) tb):PE X (.BoolOp .And (a :: b :: cg) pos) (BX ta tb):=by
 intro pins s σ H Q I h
 refine BoolOp_and (thn (ha pins s σ H _ I h) fun v s1 zz6_0=>?_)
 obtain ⟨x,H1,I1,r1,q1⟩:=zz6_0
 obtain ⟨c,rfl,q1⟩:=q1
 cases r1
 refine Fz ?_
 cases c with
 | true=>exact hb pins s1 σ H1 Q I1 q1
 | false=>exact ⟨.bl false,H1,I1,rfl,q1⟩
theorem AN (ha:PE X a ta):PE X (.UnaryOp .Not a pos) (BQ ta):=by
 intro pins s σ H Q I h
 refine UnaryOp_ (thn (ha pins s σ H _ I h) fun v s1 zz7_0=>?_)
 obtain ⟨x,H1,I1,r1,q1⟩:=zz7_0
 obtain ⟨c,rfl,q1⟩:=q1
 cases r1
 exact not_of (Fz ⟨.bl (!c),H1,I1,rfl,q1⟩)
end
def SqL (K:PySem.W.Frag) (H:Hp) (a:Addr) (xs:List V):Prop :=
 Rd H a (.lst xs) ∨
  ∃ (o:Obj) (its:Array Value) (n:Nat),K.lookup a=some o∧o.cls=.type "list"∧o.dict=none∧o.data=.seq its n∧its.size≤sizeLine∧a_ xs its.toList
def SqT (K:PySem.W.Frag) (H:Hp) (a:Addr) (xs:List V):Prop :=
 Rd H a (.tup xs) ∨
  ∃ (o:Obj) (its:Array Value) (n:Nat),K.lookup a=some o∧o.cls=.type "tuple"∧o.data=.seq its n∧its.size≤sizeLine∧a_ xs its.toList
def Dw:Value→Option V
 | .none=>some .non
 | .bool b=>some (.bl b)
 | .int i _=>some (.int i)
 | .str x _=>some (.str x)
 | .bytes b _=>some (.byt b)
 | .float b _=>some (.flt b)
 | .ref a=>some (.ref a)
 | .type n=>some (.ty n)
 | _=>none
theorem bh.abs {x:V}{u:Value} (r:bh x u):Dw u=some x:=by
 cases x with
 | non=>cases r; rfl
 | bl _=>cases r; rfl
 | int _=>obtain ⟨t,rfl⟩:=r; rfl
 | str _=>obtain ⟨t,rfl⟩:=r; rfl
 | byt _=>obtain ⟨t,rfl⟩:=r; rfl
 | flt _=>obtain ⟨t,rfl⟩:=r; rfl
 | ref _=>cases r; rfl
 | ty _=>cases r; rfl
theorem bh.inj {x y:V}{u:Value} (r:bh x u) (q:bh y u):x=y:=DR (r.abs.symm.trans q.abs)
theorem a_.inj:∀ {xs ys:List V}{us:List Value},a_ xs us→a_ ys us→xs=ys
 := by
  intro xs ys us h
  revert ys
  induction h with
  | nil =>
   intro ys k
   cases k
   rfl
  | cons r t ih =>
   intro ys k
   cases k with
   | cons r' t'=>rw [r.inj r',ih t']
section
variable {X:Cx}{pins:List (Addr×Obj)} {σ:St}{H:Hp}{s:Shared}{a:Addr}{xs ys:List V}
theorem SqL.of {K:PySem.W.Frag} (h:H a=some (.lst xs)):SqL K H a xs:=.inl (.inl h)
theorem SqT.of {K:PySem.W.Frag} (h:H a=some (.tup xs)):SqT K H a xs:=.inl (.inl h)
theorem Inv.list (I:Inv X pins σ H s) (h:SqL X.K H a xs):∃ its:List Value,a_ xs its∧PlainL s.heap a its.toArray∧xs.length≤sizeLine:=by
 rcases h with h | ⟨o,its,n,hk,hc,hd,hs,hz,r⟩
 ·obtain ⟨z,its,n,r,e⟩:=h.ok I.hok
  exact ⟨its,r,⟨_,n,e,rfl,rfl,rfl⟩,z⟩
 ·refine ⟨its.toList,r,⟨o,n,I.kIn a o hk,hc,hd,by simpa using hs⟩,?_⟩
  have e:=r.length
  simp only [Ff] at e
  omega
theorem Inv.tuple (I:Inv X pins σ H s) (h:SqT X.K H a xs):∃ its:List Value,a_ xs its∧IsTup s.heap a its.toArray∧xs.length≤sizeLine:=by
 rcases h with h | ⟨o,its,n,hk,hc,hs,hz,r⟩
 ·obtain ⟨z,its,r,p⟩:=h.ok I.hok
  exact ⟨its,r,p,z⟩
 ·refine ⟨its.toList,r,⟨o,I.kIn a o hk,hc,n,by simpa using hs⟩,?_⟩
  have e:=r.length
  simp only [Ff] at e
  omega
theorem Inv.list_inj (I:Inv X pins σ H s) (h:SqL X.K H a xs) (h':SqL X.K H a ys):xs=ys:=by
 obtain ⟨its,r,⟨o,n,e,_,_,d⟩,_⟩:=I.list h
 obtain ⟨its',r',⟨o',n',e',_,_,d'⟩,_⟩:=I.list h'
 rw [e] at e'; cases e'
 rw [d] at d'
 injection d' with d1 _
 have:its=its':=by simpa using ED Array.toList d1
 subst this
 exact r.inj r'
theorem Inv.tuple_inj (I:Inv X pins σ H s) (h:SqT X.K H a xs) (h':SqT X.K H a ys):xs=ys:=by
 obtain ⟨its,r,⟨o,e,_,n,d⟩,_⟩:=I.tuple h
 obtain ⟨its',r',⟨o',e',_,n',d'⟩,_⟩:=I.tuple h'
 rw [e] at e'; cases e'
 rw [d] at d'
 injection d' with d1 _
 have:its=its':=by simpa using ED Array.toList d1
 subst this
 exact r.inj r'
end
abbrev Cx.wish (X:Cx) (E:Value→Shared→Prop):Cx:={ X with xe:=E }
abbrev Cx.nox (X:Cx):Cx:=X.wish fun _ _=>False
theorem Cx.Ok.wish {X:Cx} (ok:X.Ok) (E:Value→Shared→Prop):(X.wish E).Ok :=
 ⟨ok.mod,ok.kind,ok.glob,ok.blt,ok.above,ok.inj,ok.has,ok.cab,ok.hd,ok.frames,ok.stk,ok.exf,ok.bs,ok.bsz,ok.noex,ok.exfs,ok.funs,ok.frf⟩
theorem Cx.Ok.unwish {X:Cx}{E:Value→Shared→Prop} (ok:(X.wish E).Ok):X.Ok :=
 ⟨ok.mod,ok.kind,ok.glob,ok.blt,ok.above,ok.inj,ok.has,ok.cab,ok.hd,ok.frames,ok.stk,ok.exf,ok.bs,ok.bsz,ok.noex,ok.exfs,ok.funs,ok.frf⟩
section
variable {X:Cx}{pins:List (Addr×Obj)} {σ:St}{H:Hp}{s:Shared}{E:Value→Shared→Prop}
theorem Inv.wish (I:Inv X pins σ H s) (E:Value→Shared→Prop):Inv (X.wish E) pins σ H s:=⟨I.ok.wish E,I.os,I.bare,I.base,I.loc,I.cell,I.free,I.freeC,I.pin,I.hok,I.len⟩
theorem Inv.unwish (I:Inv (X.wish E) pins σ H s):Inv X pins σ H s:=⟨I.ok.unwish,I.os,I.bare,I.base,I.loc,I.cell,I.free,I.freeC,I.pin,I.hok,I.len⟩
theorem SP.unwish {D:eC}{f:Flow}{s':Shared} (h:SP (X.wish E) pins D f s'):SP X pins D f s':=by
 cases f with
 | next=>obtain ⟨σ',H',I,q⟩:=h; exact ⟨σ',H',I.unwish,q⟩
 | brk=>obtain ⟨σ',H',I,q⟩:=h; exact ⟨σ',H',I.unwish,q⟩
 | cont=>obtain ⟨σ',H',I,q⟩:=h; exact ⟨σ',H',I.unwish,q⟩
 | ret u=>obtain ⟨v,σ',H',I,r,q⟩:=h; exact ⟨v,σ',H',I.unwish,r,q⟩
theorem PSs.nox {st:List Stmt}{t:TS} (h:PSs X.nox st t):PSs X st t:=fun pins s σ H D I hw =>
 EB (h pins s σ H D (I.wish _) hw) (fun _ _ q=>q.unwish) fun _ _ z=>False.elim z
end
section
variable {X:Cx}{st:Stmt}{cg:List Stmt}{t u:TS}{e:Expr}{te:TE}{pos:Pos}
def BS:TS:=fun D σ H=>D.nx σ H
def C4 (t u:TS):TS:=fun D σ H=>t { D with nx:=u D } σ H
theorem yn:PSs X [] BS:=fun _ _ σ H _ I h=>FN ⟨σ,H,I,h⟩
theorem vR (h1:PS X st t) (h2:PSs X cg u):PSs X (st :: cg) (C4 t u):=by
 intro pins s σ H D I h
 refine FZ (thn (h1 pins s σ H { D with nx:=u D } I h) fun f s1 q=>?_)
 cases f with
 | next =>
  obtain ⟨σ',H',I',q⟩:=q
  exact h2 pins s1 σ' H' D I' q
 | ret v=>exact q
 | brk=>exact q
 | cont=>exact q
theorem rP (h1:PS X st t):PSs X [st] t:=by
 intro pins s σ H D I h
 refine FZ (thn (h1 pins s σ H D I h) fun f s1 q=>?_)
 cases f with
 | next=>exact FN q
 | ret v=>exact q
 | brk=>exact q
 | cont=>exact q
theorem Inv.quiet {pins:List (Addr×Obj)} {σ:St}{H:Hp}{s:Shared} (I:Inv X pins σ H s):interactive X.env=false:=by simp [interactive,I.ok.kind]
def BU (te:TE):TS:=fun D σ H=>te σ H fun _ H1=>D.nx σ H1
theorem rQ (he:PE X e te) (hs:swapsWith e none pos.line X.env=pure false:=by rfl):PS X (.Expr e pos) (BU te):=by
 intro pins s σ H D I h
 exact wpAny_Expr_any (thn (he pins s σ H _ I h) fun v s1 zz8_0=>by obtain ⟨x,H1,I1,r1,q1⟩:=zz8_0; exact ⟨σ,H1,I1,q1⟩) I.quiet hs
def C5 (te:TE):TS:=fun D σ H=>te σ H D.rt
theorem AE (he:PE X e te):PS X (.Return (some e) pos) (C5 te):=by
 intro pins s σ H D I h
 exact wpAny_Return_some (thn (he pins s σ H _ I h) fun v s1 zz9_0=>by obtain ⟨x,H1,I1,r1,q1⟩:=zz9_0; exact ⟨x,σ,H1,I1,r1,q1⟩)
def C8 (c:TT) (t u:TS):TS:=fun D σ H=>c σ H fun b H1=>if b=true then t D σ H1 else u D σ H1
theorem Ck {c:Expr}{a b:List Stmt}{tc:TT} (hc:PT X c tc) (ha:PSs X a t) (hb:PSs X b u):PS X (.If c a b pos) (C8 tc t u):=by
 intro pins s σ H D I h
 refine wpAny_If (thn (hc pins s σ H _ I h) fun d s1 zz10_0=>?_)
 obtain ⟨H1,I1,q1⟩:=zz10_0
 cases d with
 | true=>exact ha pins s1 σ H1 D I1 q1
 | false=>exact hb pins s1 σ H1 D I1 q1
def vw:TS:=fun _ _ _=>False
theorem vT:PS X st vw:=fun _ _ _ _ _ _ h=>h.elim
theorem tU {sts:List Stmt}:PSs X sts vw:=fun _ _ _ _ _ _ h=>h.elim
end
abbrev TG:=V→St→Hp→(St→Hp→Prop)→Prop
abbrev TGs:=List V→St→Hp→(St→Hp→Prop)→Prop
def PG (X:Cx) (target:Expr) (t:TG):Prop :=
 ∀ (pins:List (Addr×Obj)) (s:Shared) (σ:St) (H:Hp) (v:V) (u:Value) (Q:St→Hp→Prop),Inv X pins σ H s→bh v u→t v σ H Q →
  wpAny (model X.prog X.w) X.A (assign target X.env u) (fun _ s'=>∃ σ' H',Inv X pins σ' H' s'∧Q σ' H') X.xe s
def PGs (X:Cx) (ts:List Expr) (t:TGs):Prop :=
 ∀ (pins:List (Addr×Obj)) (s:Shared) (σ:St) (H:Hp) (vs:List V) (us:List Value) (Q:St→Hp→Prop),Inv X pins σ H s→a_ vs us→t vs σ H Q →
  wpAny (model X.prog X.w) X.A (assignInOrder ((assignEach ts X.env).map (·.2)) us) (fun _ s'=>∃ σ' H',Inv X pins σ' H' s'∧Q σ' H') X.xe s
abbrev BB:=V→V→V→Hp→(Hp→Prop)→Prop
def CV (X:Cx) (t:BB):Prop :=
 ∀ (pins:List (Addr×Obj)) (s:Shared) (σ:St) (H:Hp) (o i v:V) (ov iv u:Value) (Q:Hp→Prop),Inv X pins σ H s→bh o ov→bh i iv→bh v u→t o i v H Q →
  wpAny (model X.prog X.w) X.A (setItem ov iv u) (fun _ s'=>∃ H',Inv X pins σ H' s'∧Q H') X.xe s
abbrev TIp:=V→V→Hp→VK→Prop
def PIp (X:Cx) (op:Operator) (t:TIp):Prop :=
 ∀ (pins:List (Addr×Obj)) (s:Shared) (σ:St) (H:Hp) (x y:V) (v u:Value) (Q:VK),Inv X pins σ H s→bh x v→bh y u→t x y H Q →
  wpAny (model X.prog X.w) X.A (inplaceOp op v u) (EP X pins σ Q) X.xe s
section
variable {X:Cx}{pos:Pos}
def ml (i:Nat):TG:=fun v σ H Q=>Q (σ.set i (some v)) H
theorem yv {i:Nat}{x:Str} (hN:X.N.Nodup) (hi:X.N[i]? = some x) (hx:Loc X.env.scope x) (hf:X.fn x=true∨X.env.scope.names.lookup x=some .local:=by first | exact .inl rfl | exact .inr rfl | assumption):PG X (.Name x pos) (ml i):=by
 intro pins s σ H v u Q I r h
 exact wpAny_assign_Name (gC I hN hi hx r (fun s' I'=>⟨_,H,I',h⟩) hf)
def Ds:TGs:=fun vs σ H Q=>vs=[]∧Q σ H
def CJ (t:TG) (u:TGs):TGs:=fun vs σ H Q=>∃ v r,vs=v :: r∧t v σ H fun σ' H'=>u r σ' H' Q
theorem yu:PGs X [] Ds:=by
 intro pins s σ H vs us Q I r h
 obtain ⟨e,h⟩:=h
 subst e
 cases r
 exact assignInOrder_nil ⟨σ,H,I,h⟩
theorem v5 {e:Expr}{es:List Expr}{t:TG}{u:TGs} (h1:PG X e t) (h2:PGs X es u)
  (hs:(assignEach (e :: es) X.env).map (·.2)=assign e X.env :: (assignEach es X.env).map (·.2):=by rfl):PGs X (e :: es) (CJ t u):=by
 intro pins s σ H vs us Q I r h
 obtain ⟨v,vr,e1,h⟩:=h
 subst e1
 cases r with
 | cons r rr =>
  rw [hs]
  refine assignInOrder_cons (thn (h1 pins s σ H _ _ _ I r h) fun _ s1 zz11_0=>?_)
  obtain ⟨σ1,H1,I1,q1⟩:=zz11_0
  exact h2 pins s1 σ1 H1 _ _ Q I1 rr q1
def Dq (K:PySem.W.Frag) (n:Nat) (t:TGs):TG:=fun v σ H Q=>∃ a xs,v=.ref a∧SqT K H a xs∧xs.length=n∧t xs σ H Q
theorem AI {es:List Expr}{k:Nat}{t:TGs}{n:Nat} (hc:X.calm=true) (h:PGs X es t)
  (hn:(assignEach es X.env).length=n:=by rfl) (hst:(assignEach es X.env).findIdx? (·.1)=none:=by rfl):PG X (.Tuple es k pos) (Dq X.K n t):=by
 intro pins s σ H v u Q I r hw
 obtain ⟨a,xs,e1,hq,hl,hw⟩:=hw
 subst e1
 cases r
 obtain ⟨its,rv,ht,hz⟩:=I.tuple hq
 refine assign_Tuple_tuple (I.ok.hd hc) ht (by simp [hn,← hl,rv.length]) hst fun h' hx=>?_
 have I1:Inv X pins σ H { s with heap:=h' }:=I.kept (t':=s.toks) fun b o e=>hx b o (D9 (DU e)) e
 exact h pins _ σ H xs _ Q I1 (by simpa using rv) hw
def Dr (to ti:TE) (t:BB):TG:=fun v σ H Q=>to σ H fun o H1=>ti σ H1 fun i H2=>t o i v H2 fun H3=>Q σ H3
theorem AJ {o i:Expr}{to ti:TE}{t:BB} (ho:PE X o to) (hi:PE X i ti) (hs:CV X t)
  (ha:∀ v,assign (.Subscript o i pos) X.env v=(do
   let ov ← holding [v] (eval o X.env)
   let iv ← holding [v,ov] (eval i X.env)
   standAt pos
   holding [v,ov,iv] (setItem ov iv v)
   release [v,ov,iv] []):=by intro _; rfl):PG X (.Subscript o i pos) (Dr to ti t):=by
 intro pins s σ H v u Q I r h
 rw [ha]
 refine DO (E9 (thn (ho pins s σ H _ I h) fun ov s1 zz12_0=>?_))
 obtain ⟨x,H1,I1,r1,q1⟩:=zz12_0
 refine DO (E9 (thn (hi pins s1 σ H1 _ I1 q1) fun iv s2 zz13_0=>?_))
 obtain ⟨y,H2,I2,r2,q2⟩:=zz13_0
 refine DO (GF (DO (E9 (thn (hs pins s2 σ H2 x y v ov iv u _ I2 r1 r2 r q2) fun _ s3 zz14_0=>?_))))
 obtain ⟨H3,I3,q3⟩:=zz14_0
 exact wpAny_release ⟨σ,H3,I3,q3⟩
def vz (te:TE) (g:TG):TS:=fun D σ H=>te σ H fun x H1=>g x σ H1 D.nx
theorem vV {tg e:Expr}{te:TE}{g:TG} (he:PE X e te) (hg:PG X tg g) (hs:swapsWithSole [tg] e pos.line X.env=pure false:=by rfl) (hw:swappedStores [tg] e X.env=pure none:=by rfl)
  (h1:(assignEach [tg] X.env).map (·.2)=[assign tg X.env]:=by rfl):PS X (.Assign [tg] e pos) (vz te g):=by
 intro pins s σ H D I h
 refine wpAny_Assign_stores (thn (he pins s σ H _ I h) fun v s1 zz15_0=>?_) hs hw
 obtain ⟨x,H1,I1,r1,q1⟩:=zz15_0
 rw [h1]
 exact thn (hg pins s1 σ H1 x v _ I1 r1 q1) fun _ s2 q=>q
theorem qx {i:Nat}{x:Str}{e:Expr}{te:TE}{pos':Pos} (hN:X.N.Nodup) (hi:X.N[i]? = some x) (hx:Loc X.env.scope x) (he:PE X e te) (hs:swapsWith e (some (.Name x pos')) pos.line X.env=pure false:=by rfl) (hf:X.fn x=true∨X.env.scope.names.lookup x=some .local:=by first | exact .inl rfl | exact .inr rfl | assumption) :
  PS X (.Assign [.Name x pos'] e pos) (vz te (ml i)):=by
 intro pins s σ H D I h
 refine wpAny_Assign_Name (thn (he pins s σ H _ I h) fun v s1 zz16_0=>?_) hs
 obtain ⟨y,H1,I1,r1,q1⟩:=zz16_0
 exact gC I1 hN hi hx r1 (fun s2 I2=>⟨_,H1,I2,q1⟩) hf
def C_ (i:Nat) (te:TE) (ti:TIp):TS:=fun D σ H=>∃ x,σ[i]? = some (some x)∧te σ H fun y H1=>ti x y H1 fun z H2=>D.nx (σ.set i (some z)) H2
theorem vU {i:Nat}{x:Str}{e:Expr}{te:TE}{op:Operator}{ti:TIp}{pos':Pos} (hN:X.N.Nodup) (hi:X.N[i]? = some x) (hx:Loc X.env.scope x) (he:PE X e te) (ho:PIp X op ti) (hf:X.fn x=true∨X.env.scope.names.lookup x=some .local:=by first | exact .inl rfl | exact .inr rfl | assumption) :
  PS X (.AugAssign (.Name x pos') op e pos) (C_ i te ti):=by
 intro pins s σ H D I h
 obtain ⟨v,e1,h⟩:=h
 obtain ⟨m,hn,hl⟩:=I.loc
 have vis:Vis X.env.scope x:=by rcases hx with k | k; exact .inl k; exact .inr (.inl k)
 obtain ⟨u,r,l⟩:=hl i x v hi e1 vis
 refine wpAny_AugAssign_Name ?_
 have go:wpAny (model X.prog X.w) X.A (eval e X.env) (fun w s₂=>wpAny (model X.prog X.w) X.A (inplaceOp op u w) (fun r s₃=>wpAny (model X.prog X.w) X.A (storeName X.env x r) (fun _=>SP X pins D .next) X.xe s₃) X.xe s₂) X.xe s:=by
  refine thn (he pins s σ H _ I h) fun w s1 zz17_0=>?_
  obtain ⟨y,H1,I1,r1,q1⟩:=zz17_0
  refine thn (ho pins s1 σ H1 v y u w _ I1 r r1 q1) fun z s2 zz18_0=>?_
  obtain ⟨zv,H2,I2,r2,q2⟩:=zz18_0
  exact gC I2 hN hi hx r2 (fun s3 I3=>⟨_,H2,I3,q2⟩) hf
 rcases l with ⟨hk,hm⟩ | ⟨hk,c,hc,hcell⟩
 ·exact wpAny_loadName_local I.ok.kind hk hn hm go
 ·rcases hk with hk | hk
  ·exact wpAny_loadName_cell I.ok.kind hk hc hcell go
  ·rcases hx with k | k
   ·have:X.env.scope.names.lookup x=some .free:=hk
    rw [k] at this; cases this
   ·have:X.env.scope.names.lookup x=some .free:=hk
    rw [k] at this; cases this
def ipI (f:Int→Int→Int):TIp:=fun x y H Q=>∃ i j,x=.int i∧y=.int j∧Q (.int (f i j)) H
theorem Bh:PIp X .Add (ipI fun i j=>i + j):=by
 intro pins s σ H x y v u Q I r1 r2 h
 obtain ⟨i,j,e1,e2,q⟩:=h
 subst e1; subst e2
 obtain ⟨t,rfl⟩:=r1
 obtain ⟨t',rfl⟩:=r2
 exact iadd_int ⟨.int _,H,I.tok _,⟨_,rfl⟩,q⟩
theorem Bg:PIp X .Sub (ipI fun i j=>i - j):=by
 intro pins s σ H x y v u Q I r1 r2 h
 obtain ⟨i,j,e1,e2,q⟩:=h
 subst e1; subst e2
 obtain ⟨t,rfl⟩:=r1
 obtain ⟨t',rfl⟩:=r2
 exact isub_int ⟨.int _,H,I.tok _,⟨_,rfl⟩,q⟩
end
section
variable {X:Cx}{pos:Pos}
def z7 (c:TT) (tb:TS):TS:=fun D σ H=>∃ W:Nat→St→Hp→Prop,(∃ m,W m σ H)∧∀ m σ H,W m σ H →
 c σ H fun b H1=>if b=true then ∃ N:St→Hp→Prop,(∀ σ' H',N σ' H'→∃ m',m' < m∧W m' σ' H')∧tb { D with nx:=N,ct:=N,bk:=D.nx } σ H1 else D.nx σ H1
theorem vS {c:Expr}{body:List Stmt}{tc:TT}{tb:TS} (hp:PassesOwn (model X.prog X.w) X.A X.env X.xe) (hc:PT X c tc) (hb:PSs X body tb):PS X (.While c body [] pos) (z7 tc tb):=by
 intro pins s σ H D I h
 obtain ⟨W,⟨m0,w0⟩,turn⟩:=h
 refine wpAny_While (codeAny_whileLoop (fun n s'=>∃ σ' H',Inv X pins σ' H' s'∧W n σ' H') ?_ m0 ⟨σ,H,I,w0⟩)
 rintro n s1 ⟨σ1,H1,I1,w1⟩
 refine Fv hp (thn (hc pins s1 σ1 H1 _ I1 (turn n σ1 H1 w1)) fun b s2 zz19_0=>?_)
 obtain ⟨H2,I2,q2⟩:=zz19_0
 cases b with
 | true =>
  obtain ⟨N,hN,q2⟩:=q2
  rw [if_pos rfl]
  refine Fv hp (thn (hb pins s2 σ1 H2 _ I2 q2) fun f s3 q3=>?_)
  cases f with
  | next =>
   obtain ⟨σ3,H3,I3,n3⟩:=q3
   obtain ⟨m',hm,w3⟩:=hN σ3 H3 n3
   exact ⟨m',hm,σ3,H3,I3,w3⟩
  | cont =>
   obtain ⟨σ3,H3,I3,n3⟩:=q3
   obtain ⟨m',hm,w3⟩:=hN σ3 H3 n3
   exact ⟨m',hm,σ3,H3,I3,w3⟩
  | brk=>exact q3
  | ret v=>exact q3
 | false =>
  rw [if_neg D4]
  exact FN ⟨σ1,H2,I2,q2⟩
end
structure It where
 go:Nat→Hp→Prop
 yld:Nat→Hp→V→Hp→Prop
 stop:Nat→Hp→Prop
def ip (X:Cx) (pins:List (Addr×Obj)) (H:Hp) (b:Addr):Prop :=
 H b=none∧b ≠ X.env.locals∧b ∉ X.fs∧(b ∈ X.ex∨X.s₀.heap.objs.size≤b)∧(∀ x c,X.env.cells.lookup x=some c→c ≠ b)∧∀ p ∈ X.pn ++ pins,p.1 ≠ b
theorem Inv.fpOk {X:Cx}{pins:List (Addr×Obj)} {σ:St}{H H':Hp}{s:Shared}{b:Addr} (I:Inv X pins σ H s) (hb:s.heap.objs.size≤b) (hn:H' b=none):ip X pins H' b:=by
 refine ⟨hn,FR (Ef I.lt hb),I.nofs hb,.inr (D6 I.sz hb),fun x c e z=>?_,fun p hp z=>?_⟩
 ·obtain ⟨v,q⟩:=I.cell x c e
  exact absurd (Ef q.lt (by rw [z]; exact hb)) (ER _)
 ·exact absurd (Ef (DU (I.pin p hp).1) (by rw [z]; exact hb)) (ER _)
structure nU (P:Program) (w:World) (K:PySem.W.Frag) (tg:Expr) (J:It) (fp:List Addr) (it:Addr) (tn:Nat→Heap→Prop):Prop where
 mem:it ∈ fp
 obj:∀ i h,tn i h→∀ b ∈ fp,∃ o,h.get? b=some o∧∀ v,o.data ≠ .cell v
 keep:∀ i h h',tn i h→(∀ b ∈ fp,∀ o,h.get? b=some o→h'.get? b=some o)→tn i h'
 item:∀ (X:Cx),X.prog=P→X.w=w→X.K=K→X.calm=true→∀ (i:Nat) (pins:List (Addr×Obj)) (s:Shared) (σ:St) (H:Hp) (E:Value→Shared→Prop),Inv X pins σ H s→(∀ b ∈ fp,ip X pins H b)→tn i s.heap→J.go i H →
  wpAny (model P w) X.A (pyNext (.ref it)) (fun r s1=>∃ u,r=some u ∧
   wpAny (model P w) X.A (letOwnedTupleGo tg (.ref it) u) (fun _ s2=>∃ x H',Inv X pins σ H' s2∧bh x u∧J.yld i H x H'∧tn (i + 1) s2.heap∧∀ b ∈ fp,H' b=none) E s1) E s
 done:∀ (X:Cx),X.prog=P→X.w=w→X.K=K→X.calm=true→∀ (i:Nat) (pins:List (Addr×Obj)) (s:Shared) (σ:St) (H:Hp) (E:Value→Shared→Prop),Inv X pins σ H s→(∀ b ∈ fp,ip X pins H b)→tn i s.heap→J.stop i H →
  wpAny (model P w) X.A (pyNext (.ref it)) (fun r s1=>r=none∧Inv X pins σ H s1) E s
 self:∀ (A:Around) (i:Nat) (s:Shared) (Q:Value→Shared→Prop) (E:Value→Shared→Prop),tn i s.heap→Q (.ref it) s→wpAny (model P w) A (pyIter (.ref it)) Q E s
abbrev TI:=St→Hp→(It→Hp→Prop)→Prop
def PIE (X:Cx) (pins:List (Addr×Obj)) (σ:St) (tg:Expr) (R:It→Hp→Prop) (itv:Value) (s2:Shared):Prop :=
 ∃ (it:Addr) (fp:List Addr) (tn:Nat→Heap→Prop) (J:It) (H':Hp),itv=.ref it∧Inv X pins σ H' s2∧nU X.prog X.w X.K tg J fp it tn∧tn 0 s2.heap∧(∀ b ∈ fp,ip X pins H' b)∧R J H'
def PI (X:Cx) (tg iter:Expr) (wi:TI):Prop :=
 ∀ (pins:List (Addr×Obj)) (s:Shared) (σ:St) (H:Hp) (R:It→Hp→Prop),Inv X pins σ H s→wi σ H R →
  wpAny (model X.prog X.w) X.A (eval iter X.env) (fun v s1=>wpAny (model X.prog X.w) X.A (pyIter v) (PIE X pins σ tg R) X.xe s1) X.xe s
theorem sk {M:Model}{A:Around}{E:Value→Shared→Prop}{s:Shared}{tg:Expr}{it:Addr}{u:Value}{o:Obj}{n:String}{vs:Array Value}{Q:Unit→Shared→Prop} (ho:s.heap.get? it=some o) (hc:o.cls=.type n) (hd:o.data=.fields vs)
    (hn:["enumerate","zip","dict_itemiterator","dict_reverseitemiterator","odict_iterator","itertools.zip_longest","itertools.pairwise"].contains n=false) (hQ:Q () s):wpAny M A (letOwnedTupleGo tg (.ref it) u) Q E s:=by
  unfold letOwnedTupleGo
  cases tg <;> first
    | exact DT hQ
    | (cases u <;> first
        | exact DT hQ
        | (refine DO (wpAny_load ho ?_)
           rw [hc,hd]
           show wpAny M A (if (["enumerate","zip","dict_itemiterator","dict_reverseitemiterator","odict_iterator","itertools.zip_longest","itertools.pairwise"].contains n && vs[0]? == some (rawInt _))=true then _ else _) Q E s
           rw [if_neg (by intro h; rw [hn,Bool.false_and] at h; cases h)]
           exact DT hQ))
def Itl (K:PySem.W.Frag) (a:Addr):It :=
 ⟨fun i H=>∃ xs x,SqL K H a xs∧xs[i]? = some x,fun i H x H'=>H'=H∧∀ xs,SqL K H a xs→xs[i]? = some x,fun i H=>∃ xs,SqL K H a xs∧xs.length≤i⟩
def Itt (K:PySem.W.Frag) (a:Addr):It :=
 ⟨fun i H=>∃ xs x,SqT K H a xs∧xs[i]? = some x,fun i H x H'=>H'=H∧∀ xs,SqT K H a xs→xs[i]? = some x,fun i H=>∃ xs,SqT K H a xs∧xs.length≤i⟩
def Itr (lo:Int) (n:Nat):It:=⟨fun i _=>i < n,fun i H x H'=>H'=H∧x=.int (lo + i),fun i _=>n≤i⟩
theorem tm {P:Program}{w:World}{K:PySem.W.Frag}{tg:Expr} (a it:Addr):nU P w K tg (Itl K a) [it] it (fun i h=>h.IsListIter it a i) where
 mem:=by simp
 obj:=fun i h st b hb=>by
  have e:b=it:=by simpa using hb
  subst e
  obtain ⟨o,e,c,d⟩:=st
  exact ⟨o,e,fun v z=>by rw [d] at z; cases z⟩
 keep:=fun i h h' st k=>st.at fun o e=>k it (by simp) o e
 item:=by
  intro X hP hw hK hc i pins s σ H E I hf st hg
  subst hP hw hK
  obtain ⟨xs,x,hq,hx⟩:=hg
  obtain ⟨its,rv,p,hz⟩:=I.list hq
  obtain ⟨u,hu,ru⟩:=rv.get hx
  obtain ⟨f0,f1,f2,f3,f4,f5⟩:=hf it (by simp)
  refine wpAny_pyNext_list_item st p.isList (x:=u) (by simpa using hu) fun h' st' sb=>?_
  have I1:Inv X pins σ H { s with heap:=h' }:=I.turned (t':=s.toks) (fun b o hb e=>(sb.2 b hb).trans e) f0 f1 f3 f4 f5
  obtain ⟨o,e,c,d⟩:=id st'
  exact ⟨u,rfl,sk (s:={ s with heap:=h' }) e c d (by decide) ⟨x,H,I1,ru,⟨rfl,fun ys hy=>by rw [I.list_inj hy hq]; exact hx⟩,st',fun b hb=>(hf b hb).1⟩⟩
 done:=by
  intro X hP hw hK hc i pins s σ H E I hf st hg
  subst hP hw hK
  obtain ⟨xs,hq,hx⟩:=hg
  obtain ⟨its,rv,p,hz⟩:=I.list hq
  obtain ⟨f0,f1,f2,f3,f4,f5⟩:=hf it (by simp)
  have hl:=rv.length
  exact wpAny_pyNext_list_end (I.ok.hd hc) st p.isList (by simp; omega) fun h' eb=>⟨rfl,I.turned (t':=s.toks) (fun b o hb e=>eb b o hb e) f0 f1 f3 f4 f5⟩
 self:=fun _ _ _ _ _ st h=>wpAny_pyIter_listiter st h
theorem qg {P:Program}{w:World}{K:PySem.W.Frag}{tg:Expr} (a it:Addr):nU P w K tg (Itt K a) [it] it (fun i h=>h.IsTupleIter it a i) where
 mem:=by simp
 obj:=fun i h st b hb=>by
  have e:b=it:=by simpa using hb
  subst e
  obtain ⟨o,e,c,d⟩:=st
  exact ⟨o,e,fun v z=>by rw [d] at z; cases z⟩
 keep:=fun i h h' st k=>st.at fun o e=>k it (by simp) o e
 item:=by
  intro X hP hw hK hc i pins s σ H E I hf st hg
  subst hP hw hK
  obtain ⟨xs,x,hq,hx⟩:=hg
  obtain ⟨its,rv,p,hz⟩:=I.tuple hq
  obtain ⟨u,hu,ru⟩:=rv.get hx
  obtain ⟨f0,f1,f2,f3,f4,f5⟩:=hf it (by simp)
  refine wpAny_pyNext_tuple_item st (show s.heap.IsTuple a its.toArray from p) (x:=u) (by simpa using hu) fun h' st' sb=>?_
  have I1:Inv X pins σ H { s with heap:=h' }:=I.turned (t':=s.toks) (fun b o hb e=>(sb.2 b hb).trans e) f0 f1 f3 f4 f5
  obtain ⟨o,e,c,d⟩:=id st'
  exact ⟨u,rfl,sk (s:={ s with heap:=h' }) e c d (by decide) ⟨x,H,I1,ru,⟨rfl,fun ys hy=>by rw [I.tuple_inj hy hq]; exact hx⟩,st',fun b hb=>(hf b hb).1⟩⟩
 done:=by
  intro X hP hw hK hc i pins s σ H E I hf st hg
  subst hP hw hK
  obtain ⟨xs,hq,hx⟩:=hg
  obtain ⟨its,rv,p,hz⟩:=I.tuple hq
  obtain ⟨f0,f1,f2,f3,f4,f5⟩:=hf it (by simp)
  have hl:=rv.length
  exact wpAny_pyNext_tuple_end (I.ok.hd hc) st (show s.heap.IsTuple a its.toArray from p) (by simp; omega) fun h' eb=>⟨rfl,I.turned (t':=s.toks) (fun b o hb e=>eb b o hb e) f0 f1 f3 f4 f5⟩
 self:=fun _ _ _ _ _ st h=>wpAny_pyIter_tupleiter st h
theorem qh {P:Program}{w:World}{K:PySem.W.Frag}{tg:Expr} (it:Addr) (lo:Int) (n:Nat):nU P w K tg (Itr lo n) [it] it (fun i h=>IsRangeIter h it (lo + (i:Nat) * 1) ((n:Int) - (i:Nat)) 1) where
 mem:=by simp
 obj:=fun i h st b hb=>by
  have e:b=it:=by simpa using hb
  subst e
  exact ⟨_,st,fun v z=>by
   have z':Data.fields _=Data.cell v:=z
   cases z'⟩
 keep:=fun i h h' st k=>k it (by simp) _ st
 item:=by
  intro X hP hw hK hc i pins s σ H E I hf st hg
  subst hP hw hK
  obtain ⟨f0,f1,f2,f3,f4,f5⟩:=hf it (by simp)
  have W:=Walks.range (prog:=X.prog) (w:=X.w) (I.ok.hd hc) it lo 1 n
  refine W.item i s _ _ hg st fun v h' tk hv st' kk=>?_
  obtain ⟨t,rfl⟩:=hv
  have I1:Inv X pins σ H { s with heap:=h',toks:=tk }:=I.turned (fun b o hb e=>kk b o (by simpa using hb) e) f0 f1 f3 f4 f5
  refine ⟨_,rfl,sk (s:={ s with heap:=h',toks:=tk }) (n := "range_iterator") st' rfl rfl (by decide) ⟨.int (lo + i),H,I1,⟨t,?_⟩,⟨rfl,rfl⟩,st',fun b hb=>(hf b hb).1⟩⟩
  rw [Int.mul_one]
 done:=by
  intro X hP hw hK hc i pins s σ H E I hf st hg
  subst hP hw hK
  obtain ⟨f0,f1,f2,f3,f4,f5⟩:=hf it (by simp)
  exact wpAny_pyNext_range_end (I.ok.hd hc) st (by have:n≤i:=hg; omega) fun h' eb=>⟨rfl,I.turned (t':=s.toks) (fun b o hb e=>eb b o hb e) f0 f1 f3 f4 f5⟩
 self:=fun _ _ _ _ _ st h=>wpAny_pyIter_rangeiter st h
section
variable {X:Cx}{tg:Expr}
def CH (K:PySem.W.Frag) (tl:TE):TI:=fun σ H R=>tl σ H fun x H1=>∃ a,x=.ref a∧(∃ xs,SqL K H1 a xs)∧R (Itl K a) H1
def Dk (K:PySem.W.Frag) (tl:TE):TI:=fun σ H R=>tl σ H fun x H1=>∃ a,x=.ref a∧(∃ xs,SqT K H1 a xs)∧R (Itt K a) H1
theorem rS {l:Expr}{tl:TE} (hl:PE X l tl):PI X tg l (CH X.K tl):=by
 intro pins s σ H R I h
 refine thn (hl pins s σ H _ I h) fun v s1 zz20_0=>?_
 obtain ⟨x,H1,I1,r1,q1⟩:=zz20_0
 obtain ⟨a,e,⟨xs,hq⟩,q⟩:=q1
 subst e
 cases r1
 obtain ⟨its,rv,p,hz⟩:=I1.list hq
 refine wpAny_pyIter_list p.isList ?_
 refine ⟨s1.heap.objs.size,[s1.heap.objs.size],_,_,H1,rfl,I1.kept (t':=s1.toks) fun b o e=>DQ _ e,tm a _,⟨_,D0 _ rfl,rfl,rfl⟩,fun b hb=>?_,q⟩
 have e:b=s1.heap.objs.size:=by simpa using hb
 subst e
 exact I1.fpOk (DY _) (I1.hok.fresh (DY _))
theorem v4 {l:Expr}{tl:TE} (hl:PE X l tl):PI X tg l (Dk X.K tl):=by
 intro pins s σ H R I h
 refine thn (hl pins s σ H _ I h) fun v s1 zz21_0=>?_
 obtain ⟨x,H1,I1,r1,q1⟩:=zz21_0
 obtain ⟨a,e,⟨xs,hq⟩,q⟩:=q1
 subst e
 cases r1
 obtain ⟨its,rv,p,hz⟩:=I1.tuple hq
 refine wpAny_pyIter_tuple (show s1.heap.IsTuple a its.toArray from p) ?_
 refine ⟨s1.heap.objs.size,[s1.heap.objs.size],_,_,H1,rfl,I1.kept (t':=s1.toks) fun b o e=>DQ _ e,qg a _,⟨_,D0 _ rfl,rfl,rfl⟩,fun b hb=>?_,q⟩
 have e:b=s1.heap.objs.size:=by simpa using hb
 subst e
 exact I1.fpOk (DY _) (I1.hok.fresh (DY _))
theorem oN {pins:List (Addr×Obj)} {σ:St}{H:Hp}{s:Shared}{R:It→Hp→Prop}{E:Value→Shared→Prop}{lo hi:Int}{t u v:Tok}{tk:Nat} (I:Inv X pins σ H s) (h1 : -(2 ^ 62)≤lo) (h2:lo < 2 ^ 62) (h3 : -(2 ^ 62)≤hi) (h4:hi < 2 ^ 62)
  (q:R (Itr lo (hi - lo).toNat) H):wpAny (model X.prog X.w) X.A (pyIter (.ref s.heap.objs.size)) (PIE X pins σ tg R) E { s with heap:=s.heap.push { cls:=.type "range",data:=.fields #[.int lo t,.int hi u,.int 1 v] },toks:=tk }:=by
 refine wpAny_pyIter_range (IsRange.new ..) (small_one h1 h2 h3 h4) ?_
 have I1:Inv X pins σ H { s with heap:=s.heap.push { cls:=.type "range",data:=.fields #[.int lo t,.int hi u,.int 1 v] },toks:=tk }:=I.kept fun b o e=>DQ _ e
 refine ⟨(s.heap.push { cls:=.type "range",data:=.fields #[.int lo t,.int hi u,.int 1 v] }).objs.size,[(s.heap.push { cls:=.type "range",data:=.fields #[.int lo t,.int hi u,.int 1 v] }).objs.size],_,_,H,rfl,
  I1.kept (t':=tk) fun b o e=>DQ _ e,qh _ lo (hi - lo).toNat,?_,fun b hb=>?_,q⟩
 ·have e1:lo + ((0:Nat):Int) * 1=lo:=by simp
  have e2:(((hi - lo).toNat:Nat):Int) - ((0:Nat):Int)=Builtin.Range.rangeSize lo hi 1:=by rw [rangeSize_one]; split <;> omega
  show IsRangeIter _ _ (lo + ((0:Nat):Int) * 1) ((((hi - lo).toNat:Nat):Int) - ((0:Nat):Int)) 1
  rw [e1,e2]
  exact D0 _ rfl
 ·have e:b=(s.heap.push { cls:=.type "range",data:=.fields #[.int lo t,.int hi u,.int 1 v] }).objs.size:=by simpa using hb
  subst e
  exact I1.fpOk (DY _) (I1.hok.fresh (DY _))
def CG (ta:TA):TI:=fun σ H R=>ta σ H fun vs H1=>∃ j:Int,vs=[.int j]∧-(2 ^ 62)≤j∧j < 2 ^ 62∧R (Itr 0 j.toNat) H1
def CF (ta:TA):TI:=fun σ H R=>ta σ H fun vs H1=>∃ i j:Int,vs=[.int i,.int j]∧(-(2 ^ 62)≤i∧i < 2 ^ 62∧-(2 ^ 62)≤j∧j < 2 ^ 62)∧R (Itr i (j - i).toNat) H1
theorem tX {a:Expr}{ta:TA}{p pos:Pos} (hg:Gl X "range") (hm:X.mg "range" = none) (ha:PA X [a] ta) (hs:starEach [a] X.env=[(false,eval a X.env)]:=by rfl):PI X tg (.Call (.Name "range" p) [a] [] pos) (CG ta):=by
 intro pins s σ H R I h
 refine Call_ (eW I hg hm boot_range (Eu (thn (ha pos pins s σ H _ I h) fun us s1 zz22_0=>?_) hs rfl))
 obtain ⟨vs,H1,I1,r1,q1⟩:=zz22_0
 obtain ⟨j,e,q1,q2,q⟩:=q1
 subst e
 cases r1 with
 | cons r rr =>
  cases rr
  obtain ⟨t,rfl⟩:=r
  exact call_range_1 (oN I1 (by omega) (by omega) q1 q2 (by simpa using q))
theorem tW {a b:Expr}{ta:TA}{p pos:Pos} (hg:Gl X "range") (hm:X.mg "range" = none) (ha:PA X [a,b] ta) (hs:starEach [a,b] X.env=[(false,eval a X.env),(false,eval b X.env)]:=by rfl) (hs2:starEach [b] X.env=[(false,eval b X.env)]:=by rfl) :
  PI X tg (.Call (.Name "range" p) [a,b] [] pos) (CF ta):=by
 intro pins s σ H R I h
 refine Call_ (eW I hg hm boot_range (Eu (thn (ha pos pins s σ H _ I h) fun us s1 zz23_0=>?_) (by rw [hs,hs2]) (by rw [hs2]; rfl)))
 obtain ⟨vs,H1,I1,r1,q1⟩:=zz23_0
 obtain ⟨i,j,e,⟨q1,q2,q3,q4⟩,q⟩:=q1
 subst e
 cases r1 with
 | cons r rr =>
  cases rr with
  | cons r' rr =>
   cases rr
   obtain ⟨t,rfl⟩:=r
   obtain ⟨t',rfl⟩:=r'
   exact call_range_2 (oN I1 q1 q2 q3 q4 q)
def C9 (wi:TI) (g:TG) (tb:TS):TS:=fun D σ H=>wi σ H fun J H1=>∃ W:Nat→Nat→St→Hp→Prop,(∃ m,W 0 m σ H1)∧∀ i m σ H,W i m σ H →
 (J.stop i H∧D.nx σ H)∨(J.go i H∧∃ N:St→Hp→Prop,(∀ σ' H',N σ' H'→∃ m',m' < m∧W (i + 1) m' σ' H')∧∀ x H',J.yld i H x H'→g x σ H' fun σ2 H2=>tb { D with nx:=N,ct:=N,bk:=D.nx } σ2 H2)
def ka (fp:List Addr) (h:Heap):List (Addr×Obj):=fp.filterMap fun b=>(h.get? b).map fun o=>(b,o)
theorem gb {fp:List Addr}{h:Heap}{b:Addr}{o:Obj} (hb:b ∈ fp) (e:h.get? b=some o):(b,o) ∈ ka fp h:=List.mem_filterMap.mpr ⟨b,hb,by rw [e]; rfl⟩
theorem ue {fp:List Addr}{h:Heap}{p:Addr×Obj} (hp:p ∈ ka fp h):p.1 ∈ fp∧h.get? p.1=some p.2:=by
 obtain ⟨b,hb,e⟩:=List.mem_filterMap.mp hp
 cases q:h.get? b with
 | none=>rw [q] at e; cases e
 | some o =>
  rw [q] at e
  have e':(b,o)=p:=DR e
  subst e'
  exact ⟨hb,q⟩
theorem Inv.pinned {pins:List (Addr×Obj)} {σ:St}{H:Hp}{s:Shared}{fp:List Addr} (I:Inv X pins σ H s) (hf:∀ b ∈ fp,ip X pins H b) (ho:∀ b ∈ fp,∃ o,s.heap.get? b=some o∧∀ v,o.data ≠ .cell v):Inv X (pins ++ ka fp s.heap) σ H s :=
 I.pins_of fun p hp=>(List.mem_append.mp hp).elim (fun z=>I.pin p (El _ z)) fun z=>by
  obtain ⟨hb,e⟩:=ue z
  obtain ⟨f0,f1,f2,_⟩:=hf p.1 hb
  obtain ⟨o,e',d⟩:=ho p.1 hb
  rw [e] at e'; cases e'
  exact ⟨e,f0,f1,f2,d⟩
theorem Inv.unpinned {pins pl:List (Addr×Obj)} {σ:St}{H:Hp}{s:Shared} (I:Inv X (pins ++ pl) σ H s):Inv X pins σ H s:=I.pins_of fun p hp=>I.pin p (El _ (List.mem_append_left _ hp))
theorem AF {iter:Expr}{body:List Stmt}{wi:TI}{g:TG}{tb:TS}{pos:Pos} (hp:PassesOwn (model X.prog X.w) X.A X.env X.xe) (hc:X.calm=true) (hi:PI X tg iter wi) (hg:PG X tg g) (hb:PSs X body tb)
  (hs:∀ x,foldedSetIterable iter X.env x=pure x:=by intro _; rfl):PS X (.For tg iter body [] pos) (C9 wi g tb):=by
 intro pins s σ H D I h
 refine wpAny_For (thn (hi pins s σ H _ I h) fun v s1 h1=>thn h1 fun itv s2 h2=>?_) hs
 obtain ⟨it,fp,tn,J,H2,e,I2,T,st2,f2,W,⟨m0,w0⟩,turn⟩:=h2
 subst e
 have stat:∀ {H':Hp},(∀ b ∈ fp,H' b=none)→∀ b ∈ fp,ip X pins H' b:=fun hn b hb=>⟨hn b hb,(f2 b hb).2⟩
 refine codeAny_forLoop_any (fun n s'=>∃ i σ' H',Inv X pins σ' H' s'∧tn i s'.heap∧(∀ b ∈ fp,H' b=none)∧W i n σ' H') ?_ m0 ⟨0,σ,H2,I2,st2,fun b hb=>(f2 b hb).1,w0⟩
 rintro n s3 ⟨i,σ3,H3,I3,st3,fr3,w3⟩
 rcases turn i n σ3 H3 w3 with ⟨stop,qn⟩ | ⟨go,N,hN,step⟩
 ·refine Fv hp (thn (T.done X rfl rfl rfl hc i pins s3 σ3 H3 X.xe I3 (stat fr3) st3 stop) fun r s4 zz24_0=>?_)
  obtain ⟨hr,I4⟩:=zz24_0
  subst hr
  exact FN ⟨σ3,H3,I4,qn⟩
 ·refine Fv hp (thn (T.item X rfl rfl rfl hc i pins s3 σ3 H3 X.xe I3 (stat fr3) st3 go) fun r s4 zz25_0=>?_)
  obtain ⟨u,hr,h4⟩:=zz25_0
  subst hr
  refine Fv hp (thn h4 fun _ s5 zz26_0=>?_)
  obtain ⟨x,H5,I5,r5,y5,st5,fr5⟩:=zz26_0
  have I5':=I5.pinned (stat fr5) (T.obj _ _ st5)
  refine Fv hp (thn (hg _ s5 σ3 H5 x u _ I5' r5 (step x H5 y5)) fun _ s6 zz27_0=>?_)
  obtain ⟨σ6,H6,I6,q6⟩:=zz27_0
  refine Fv hp (thn (hb _ s6 σ6 H6 _ I6 q6) fun f s7 q7=>?_)
  have again:∀ {σ7:St}{H7:Hp},Inv X (pins ++ ka fp s5.heap) σ7 H7 s7→N σ7 H7→∃ m,m < n∧∃ i σ' H',Inv X pins σ' H' s7∧tn i s7.heap∧(∀ b ∈ fp,H' b=none)∧W i m σ' H':=fun {σ7 H7} I7 n7=>by
   obtain ⟨m',hm,w7⟩:=hN σ7 H7 n7
   refine ⟨m',hm,i + 1,σ7,H7,I7.unpinned,T.keep _ _ _ st5 fun b hb o e=>(I7.pin (b,o) (El _ (El _ (gb hb e)))).1,fun b hb=>?_,w7⟩
   obtain ⟨o,e,d⟩:=T.obj _ _ st5 b hb
   exact (I7.pin (b,o) (El _ (El _ (gb hb e)))).2.1
  cases f with
  | next=>obtain ⟨σ7,H7,I7,n7⟩:=q7; exact again I7 n7
  | cont=>obtain ⟨σ7,H7,I7,n7⟩:=q7; exact again I7 n7
  | brk=>obtain ⟨σ7,H7,I7,q7⟩:=q7; exact ⟨σ7,H7,I7.unpinned,q7⟩
  | ret v=>obtain ⟨x7,σ7,H7,I7,r7,q7⟩:=q7; exact ⟨x7,σ7,H7,I7.unpinned,r7,q7⟩
end
abbrev R2:=V→V→Hp→VK→Prop
def OpR (X:Cx) (f:Value→Value→Sem Value) (r:R2):Prop :=
 ∀ (pins:List (Addr×Obj)) (s:Shared) (σ:St) (H:Hp) (x y:V) (v u:Value) (Q:VK),Inv X pins σ H s→bh x v→bh y u→r x y H Q →
  wpAny (model X.prog X.w) X.A (f v u) (EP X pins σ Q) X.xe s
def UnR (X:Cx) (f:Value→Sem Value) (r:V→Hp→VK→Prop):Prop :=
 ∀ (pins:List (Addr×Obj)) (s:Shared) (σ:St) (H:Hp) (x:V) (v:Value) (Q:VK),Inv X pins σ H s→bh x v→r x H Q →
  wpAny (model X.prog X.w) X.A (f v) (EP X pins σ Q) X.xe s
def dc (X:Cx) (f:Value) (r:List V→Hp→VK→Prop):Prop :=
 ∀ (pins:List (Addr×Obj)) (s:Shared) (σ:St) (H:Hp) (xs:List V) (us:List Value) (Q:VK),Inv X pins σ H s→a_ xs us→r xs H Q →
  wpAny (model X.prog X.w) X.A (call f us) (EP X pins σ Q) X.xe s
def tOp (r:R2) (ta tb:TE):TE:=fun σ H Q=>ta σ H fun x H1=>tb σ H1 fun y H2=>r x y H2 Q
def tUn (r:V→Hp→VK→Prop) (ta:TE):TE:=fun σ H Q=>ta σ H fun x H1=>r x H1 Q
def rI (C:Int→Int→Prop) (g:Int→Int→V):R2:=fun x y H Q=>∃ i j,x=.int i∧y=.int j∧C i j∧Q (g i j) H
def rI0 (g:Int→Int→V):R2:=fun x y H Q=>∃ i j,x=.int i∧y=.int j∧Q (g i j) H
def rU (g:Int→V):V→Hp→VK→Prop:=fun x H Q=>∃ i,x=.int i∧Q (g i) H
section
variable {X:Cx}{a b c:Expr}{ta tb tc:TE}{pos:Pos}
theorem BA (ha:PE X a ta) (hb:PE X b tb) {pins:List (Addr×Obj)} {s:Shared} {σ:St}{H:Hp}{R:V→V→Hp→Prop} (I:Inv X pins σ H s)
  (h:ta σ H fun x H1=>tb σ H1 fun y H2=>R x y H2) {Q:Value→Shared→Prop}{f:Value→Value→Sem Value}
  (hf:∀ v u s2 x y H2,Inv X pins σ H2 s2→bh x v→bh y u→R x y H2→wpAny (model X.prog X.w) X.A (f v u) Q X.xe s2) :
  wpAny (model X.prog X.w) X.A (eval a X.env) (fun v s₁=>wpAny (model X.prog X.w) X.A (eval b X.env) (fun u s₂=>wpAny (model X.prog X.w) X.A (f v u) Q X.xe s₂) X.xe s₁) X.xe s:=by
 refine thn (ha pins s σ H _ I h) fun v s1 zz28_0=>?_
 obtain ⟨x,H1,I1,r1,q1⟩:=zz28_0
 refine thn (hb pins s1 σ H1 _ I1 q1) fun u s2 zz29_0=>?_
 obtain ⟨y,H2,I2,r2,q2⟩:=zz29_0
 exact hf v u s2 x y H2 I2 r1 r2 q2
theorem Cm {op:Operator}{r:R2} (ho:OpR X (binaryOp op) r) (ha:PE X a ta) (hb:PE X b tb):PE X (.BinOp a op b pos) (tOp r ta tb):=by
 intro pins s σ H Q I h
 exact wpAny_BinOp (BA ha hb I h fun v u s2 x y H2 I2 rx ry q=>ho pins s2 σ H2 x y v u Q I2 rx ry q)
theorem Cl {op:UnaryOp}{r:V→Hp→VK→Prop} (ho:UnR X (unaryOp op) r) (ha:PE X a ta):PE X (.UnaryOp op a pos) (tUn r ta):=by
 intro pins s σ H Q I h
 exact UnaryOp_ (thn (ha pins s σ H _ I h) fun v s1 zz30_0=>by obtain ⟨x,H1,I1,r1,q1⟩:=zz30_0; exact ho pins s1 σ H1 x v Q I1 r1 q1)
theorem opI {f:Value→Value→Sem Value}{C:Int→Int→Prop}{g:Int→Int→Int}
  (rule:∀ (i j:Int) (t u:Tok) (s:Shared) (Q:Value→Shared→Prop) (E:Value→Shared→Prop),C i j→Q (.int (g i j) s.toks) { s with toks:=s.toks + 1 }→wpAny (model X.prog X.w) X.A (f (.int i t) (.int j u)) Q E s) :
  OpR X f (rI C fun i j=>.int (g i j)):=by
 intro pins s σ H x y v u Q I rx ry h
 obtain ⟨i,j,rfl,rfl,hc,q⟩:=h
 obtain ⟨t,rfl⟩:=rx
 obtain ⟨t',rfl⟩:=ry
 exact rule i j t t' s _ _ hc ⟨.int (g i j),H,I.tok _,⟨_,rfl⟩,q⟩
theorem Cw {f:Value→Value→Sem Value}{g:Int→Int→Int}
  (rule:∀ (i j:Int) (t u:Tok) (s:Shared) (Q:Value→Shared→Prop) (E:Value→Shared→Prop),Q (.int (g i j) s.toks) { s with toks:=s.toks + 1 }→wpAny (model X.prog X.w) X.A (f (.int i t) (.int j u)) Q E s) :
  OpR X f (rI0 fun i j=>.int (g i j)):=by
 intro pins s σ H x y v u Q I rx ry h
 obtain ⟨i,j,rfl,rfl,q⟩:=h
 obtain ⟨t,rfl⟩:=rx
 obtain ⟨t',rfl⟩:=ry
 exact rule i j t t' s _ _ ⟨.int (g i j),H,I.tok _,⟨_,rfl⟩,q⟩
theorem yG {f:Value→Value→Sem Value}{g:Int→Int→Bool}
  (rule:∀ (i j:Int) (t u:Tok) (s:Shared) (Q:Value→Shared→Prop) (E:Value→Shared→Prop),Q (.bool (g i j)) s→wpAny (model X.prog X.w) X.A (f (.int i t) (.int j u)) Q E s) :
  OpR X f (rI0 fun i j=>.bl (g i j)):=by
 intro pins s σ H x y v u Q I rx ry h
 obtain ⟨i,j,rfl,rfl,q⟩:=h
 obtain ⟨t,rfl⟩:=rx
 obtain ⟨t',rfl⟩:=ry
 exact rule i j t t' s _ _ ⟨.bl (g i j),H,I,rfl,q⟩
def C0 (i j:Int):Prop:=0≤j∧j≤1000000∧i.natAbs < 2 ^ 64
theorem AZ:OpR X (binaryOp .Add) (rI0 fun i j=>.int (i + j)):=Cw fun _ _ _ _ _ _ _ q=>add_int q
theorem AS:OpR X (binaryOp .Sub) (rI0 fun i j=>.int (i - j)):=Cw fun _ _ _ _ _ _ _ q=>sub_int q
theorem AU:OpR X (binaryOp .Mod) (rI (fun _ j=>0 < j) fun i j=>.int (i % j)):=opI fun i j _ _ _ _ _ hc q=>by
 have h1:(0:Int) < j:=hc
 exact mod_int' (by omega) (by rw [Int.fmod_eq_emod_of_nonneg i (by omega)]; exact q)
theorem AT:OpR X (binaryOp .Pow) (rI C0 fun i j=>.int (i ^ j.toNat)):=opI fun _ _ _ _ _ _ _ hc q=>pow_int_small hc.1 hc.2.1 hc.2.2 q
theorem unI {f:Value→Sem Value}{g:Int→Int}
  (rule:∀ (i:Int) (t:Tok) (s:Shared) (Q:Value→Shared→Prop) (E:Value→Shared→Prop),Q (.int (g i) s.toks) { s with toks:=s.toks + 1 }→wpAny (model X.prog X.w) X.A (f (.int i t)) Q E s) :
  UnR X f (rU fun i=>.int (g i)):=by
 intro pins s σ H x v Q I rx h
 obtain ⟨i,rfl,q⟩:=h
 obtain ⟨t,rfl⟩:=rx
 exact rule i t s _ _ ⟨.int (g i),H,I.tok _,⟨_,rfl⟩,q⟩
theorem z0:UnR X (unaryOp .USub) (rU fun i=>.int (-i)):=unI fun _ _ _ _ _ q=>neg_int q
end
def BY:V→V→Bool
 | .non,.non=>true | .non,.int _=>true | .int _,.non=>true | .non,.bl _=>true | .bl _,.non=>true | .non,.str _=>true | .str _,.non=>true
 | .int _,.int _=>true | .bl _,.bl _=>true | .str _,.str _=>true | .byt _,.byt _=>true
 | .int _,.str _=>true | .str _,.int _=>true | .bl _,.str _=>true | .str _,.bl _=>true
 | _,_=>false
def rEq:R2:=fun x y H Q=>BY x y=true∧Q (.bl (decide (x=y))) H
def rNe:R2:=fun x y H Q=>BY x y=true∧Q (.bl (!decide (x=y))) H
theorem sJ {i j:Int}:decide (V.int i=V.int j)=(i == j):=by
 rw [GD]
 simp
theorem xp {i j:Bool}:decide (V.bl i=V.bl j)=(i == j):=by
 rw [GD]
 simp
theorem sH {i j:Str}:decide (V.str i=V.str j)=(i == j):=by
 rw [GD]
 simp
theorem sK {i j:Array UInt8}:decide (V.byt i=V.byt j)=(i.toList == j.toList):=by
 rw [GD]
 cases i
 cases j
 simp
section
variable {X:Cx}{a b c:Expr}{ta tb tc:TE}{pos:Pos}
theorem bu {pins:List (Addr×Obj)} {σ:St}{H:Hp}{s:Shared}{Q:VK}{k k':Bool} (I:Inv X pins σ H s) (q:Q (.bl k) H) (e:k=k'):EP X pins σ Q (.bool k') s:=by
 subst e
 exact ⟨.bl k,H,I,rfl,q⟩
theorem zL:OpR X (compareOp .Eq) rEq:=by
 intro pins s σ H x y v u Q I rx ry h
 obtain ⟨hs,q⟩:=h
 cases x with
 | non =>
  cases rx
  cases y with
  | non=>cases ry; exact PySem.EqNone.eq_none_none (bu I q (by simp))
  | bl j=>cases ry; exact PySem.EqNone.eq_none_bool (bu I q (by simp))
  | int j=>obtain ⟨t',rfl⟩:=ry; exact PySem.EqNone.eq_none_int (bu I q (by simp))
  | str j=>obtain ⟨t',rfl⟩:=ry; exact PySem.EqNone.eq_none_str (bu I q (by simp))
  | _=>exact absurd (show false=true from hs) D4
 | bl i =>
  cases rx
  cases y with
  | non=>cases ry; exact PySem.EqNone.eq_bool_none (bu I q (by simp))
  | bl j=>cases ry; exact eq_bool (bu I q xp)
  | str j=>obtain ⟨t',rfl⟩:=ry; exact PySem.EqMixed.eq_bool_str (bu I q (by simp))
  | _=>exact absurd (show false=true from hs) D4
 | int i =>
  obtain ⟨t,rfl⟩:=rx
  cases y with
  | non=>cases ry; exact PySem.EqNone.eq_int_none (bu I q (by simp))
  | int j=>obtain ⟨t',rfl⟩:=ry; exact eq_int (bu I q sJ)
  | str j=>obtain ⟨t',rfl⟩:=ry; exact PySem.EqMixed.eq_int_str (bu I q (by simp))
  | _=>exact absurd (show false=true from hs) D4
 | str i =>
  obtain ⟨t,rfl⟩:=rx
  cases y with
  | non=>cases ry; exact PySem.EqNone.eq_str_none (bu I q (by simp))
  | bl j=>cases ry; exact PySem.EqMixed.eq_str_bool (bu I q (by simp))
  | int j=>obtain ⟨t',rfl⟩:=ry; exact PySem.EqMixed.eq_str_int (bu I q (by simp))
  | str j=>obtain ⟨t',rfl⟩:=ry; exact eq_str (bu I q sH)
  | _=>exact absurd (show false=true from hs) D4
 | byt i =>
  obtain ⟨t,rfl⟩:=rx
  cases y with
  | byt j=>obtain ⟨t',rfl⟩:=ry; exact PySem.W.eq_bytes (bu I q sK)
  | _=>exact absurd (show false=true from hs) D4
 | _=>cases y <;> exact absurd (show false=true from hs) D4
theorem Cq:OpR X (compareOp .NotEq) rNe:=by
 intro pins s σ H x y v u Q I rx ry h
 obtain ⟨hs,q⟩:=h
 cases x with
 | non =>
  cases rx
  cases y with
  | non=>cases ry; exact PySem.EqNone.ne_none_none (bu I q (by simp))
  | bl j=>cases ry; exact PySem.EqNone.ne_none_bool (bu I q (by simp))
  | int j=>obtain ⟨t',rfl⟩:=ry; exact PySem.EqNone.ne_none_int (bu I q (by simp))
  | str j=>obtain ⟨t',rfl⟩:=ry; exact PySem.EqNone.ne_none_str (bu I q (by simp))
  | _=>exact absurd (show false=true from hs) D4
 | bl i =>
  cases rx
  cases y with
  | non=>cases ry; exact PySem.EqNone.ne_bool_none (bu I q (by simp))
  | bl j=>cases ry; exact ne_bool (bu I q (ED not xp))
  | str j=>obtain ⟨t',rfl⟩:=ry; exact PySem.EqMixed.ne_bool_str (bu I q (by simp))
  | _=>exact absurd (show false=true from hs) D4
 | int i =>
  obtain ⟨t,rfl⟩:=rx
  cases y with
  | non=>cases ry; exact PySem.EqNone.ne_int_none (bu I q (by simp))
  | int j=>obtain ⟨t',rfl⟩:=ry; exact ne_int (bu I q (ED not sJ))
  | str j=>obtain ⟨t',rfl⟩:=ry; exact PySem.EqMixed.ne_int_str (bu I q (by simp))
  | _=>exact absurd (show false=true from hs) D4
 | str i =>
  obtain ⟨t,rfl⟩:=rx
  cases y with
  | non=>cases ry; exact PySem.EqNone.ne_str_none (bu I q (by simp))
  | bl j=>cases ry; exact PySem.EqMixed.ne_str_bool (bu I q (by simp))
  | int j=>obtain ⟨t',rfl⟩:=ry; exact PySem.EqMixed.ne_str_int (bu I q (by simp))
  | str j=>obtain ⟨t',rfl⟩:=ry; exact ne_str (bu I q (ED not sH))
  | _=>exact absurd (show false=true from hs) D4
 | byt i =>
  obtain ⟨t,rfl⟩:=rx
  cases y with
  | byt j=>obtain ⟨t',rfl⟩:=ry; exact PySem.W.ne_bytes (bu I q (ED not sK))
  | _=>exact absurd (show false=true from hs) D4
 | _=>cases y <;> exact absurd (show false=true from hs) D4
theorem Cr:OpR X (compareOp .Lt) (rI0 fun i j=>.bl (decide (i < j))):=yG fun _ _ _ _ _ _ _ q=>lt_int q
theorem Cs:OpR X (compareOp .LtE) (rI0 fun i j=>.bl (decide (i≤j))):=yG fun _ _ _ _ _ _ _ q=>le_int q
theorem Ct:OpR X (compareOp .Gt) (rI0 fun i j=>.bl (decide (j < i))):=yG fun _ _ _ _ _ _ _ q=>gt_int q
theorem Cv:OpR X (compareOp .GtE) (rI0 fun i j=>.bl (decide (j≤i))):=yG fun _ _ _ _ _ _ _ q=>ge_int q
theorem t9:OpR X (compareOp .Lt) (fun x y H Q=>∃ i j,x=.str i∧y=.str j∧Q (.bl (decide (i.cps.toList < j.cps.toList))) H):=by
 intro pins s σ H x y v u Q I rx ry h
 obtain ⟨i,j,rfl,rfl,q⟩:=h
 obtain ⟨t,rfl⟩:=rx
 obtain ⟨t',rfl⟩:=ry
 exact lt_str (bu I q rfl)
theorem AX:OpR X (compareOp .Is) (fun x y H Q=>y=.non∧Q (.bl (decide (x=.non))) H):=by
 intro pins s σ H x y v u Q I rx ry h
 obtain ⟨rfl,q⟩:=h
 cases ry
 refine is_none_gen (bu I q ?_)
 cases x <;> first
  | (cases rx; rfl)
  | (obtain ⟨t,rfl⟩:=rx; rfl)
theorem yC:OpR X (compareOp .IsNot) (fun x y H Q=>y=.non∧Q (.bl (!decide (x=.non))) H):=by
 intro pins s σ H x y v u Q I rx ry h
 obtain ⟨rfl,q⟩:=h
 cases ry
 refine isnot_none_gen (bu I q ?_)
 cases x <;> first
  | (cases rx; rfl)
  | (obtain ⟨t,rfl⟩:=rx; rfl)
theorem na:OpR X (compareOp .NotIn) (fun x y H Q=>∃ i j,x=.str i∧y=.str j∧Q (.bl (!(!(Builtin.Str.occurrences j i 0 j.length 1).isEmpty))) H):=by
 intro pins s σ H x y v u Q I rx ry h
 obtain ⟨i,j,rfl,rfl,q⟩:=h
 obtain ⟨t,rfl⟩:=rx
 obtain ⟨t',rfl⟩:=ry
 exact notIn_str (bu I q rfl)
theorem OpR.or {f:Value→Value→Sem Value}{r r':R2} (h:OpR X f r) (h':OpR X f r'):OpR X f (fun x y H Q=>r x y H Q∨r' x y H Q):=by
 intro pins s σ H x y v u Q I rx ry q
 rcases q with q | q
 ·exact h pins s σ H x y v u Q I rx ry q
 ·exact h' pins s σ H x y v u Q I rx ry q
theorem f_ (b:Expr) {op:CmpOp} (h:op ≠ .In:=by decide) (h2:op ≠ .NotIn:=by decide):behindInMarks op b=false:=by
 have e1:(op == CmpOp.In)=false:=by cases op <;> first | rfl | exact absurd rfl h
 have e2:(op == CmpOp.NotIn)=false:=by cases op <;> first | rfl | exact absurd rfl h2
 cases b <;> simp [behindInMarks,e1,e2]
theorem yz {op:CmpOp}{r:R2} (ho:OpR X (compareOp op) r) (ha:PE X a ta) (hb:PE X b tb) (hm:behindInMarks op b=false):PE X (.Compare a [op] [b] pos) (tOp r ta tb):=by
 intro pins s σ H Q I h
 exact wpAny_Compare1 (BA ha hb I h fun v u s2 x y H2 I2 rx ry q=>ho pins s2 σ H2 x y v u Q I2 rx ry q) hm
def BO (t:TE):TT:=fun σ H Q=>t σ H fun x H'=>∃ k,x=.bl k∧Q k H'
theorem jG {op:CmpOp}{r:R2} (ho:OpR X (compareOp op) r) (ha:PE X a ta) (hb:PE X b tb) (hm:behindInMarks op b=false):PT X (.Compare a [op] [b] pos) (BO (tOp r ta tb)):=by
 intro pins s σ H Q I h
 refine wpAny_isTrue_Compare1 (thn (ha pins s σ H _ I h) fun v s1 ⟨x,H1,I1,r1,q1⟩=>thn (hb pins s1 σ H1 _ I1 q1) fun u s2 ⟨y,H2,I2,r2,q2⟩ =>
  thn (ho pins s2 σ H2 x y v u _ I2 r1 r2 q2) fun c s3 ⟨z,H3,I3,r3,k,e,q3⟩=>?_) hm
 subst e
 cases r3
 exact Fz ⟨H3,I3,q3⟩
theorem kA:(sizeLine:Nat) < 2 ^ 63:=by rw [GH]; decide
theorem qC:OpR X (binaryOp .Add) (fun x y H Q=>∃ i j,x=.str i∧y=.str j∧i.length + j.length≤sizeLine∧Q (.str (i ++ j)) H):=by
 intro pins s σ H x y v u Q I rx ry h
 obtain ⟨i,j,rfl,rfl,hz,q⟩:=h
 obtain ⟨t,rfl⟩:=rx
 obtain ⟨t',rfl⟩:=ry
 exact add_str (fun t' tk=>⟨.str (i ++ j),H,I.tok _,⟨_,rfl⟩,q⟩) hz
theorem gz {x:V}{us:List Value} (r:a_ [x] us):∃ u,us=[u]∧bh x u:=by
 cases r with
 | cons r1 r2=>cases r2; exact ⟨_,rfl,r1⟩
theorem zB {x y:V}{us:List Value} (r:a_ [x,y] us):∃ u w',us=[u,w']∧bh x u∧bh y w':=by
 cases r with
 | cons r1 r2 =>
  cases r2 with
  | cons r3 r4=>cases r4; exact ⟨_,_,rfl,r1,r3⟩
theorem uZ (hc:X.calm=true):dc X (.builtin "min") (fun xs H Q=>∃ i j,xs=[.int i,.int j]∧Q (.int (if j < i then j else i)) H):=by
 intro pins s σ H xs us Q I r h
 obtain ⟨i,j,rfl,q⟩:=h
 obtain ⟨u,w',rfl,⟨t,rfl⟩,⟨t',rfl⟩⟩:=zB r
 refine min_two_ints (I.ok.hd hc) fun h' tk k=>⟨_,H,I.kept k,?_,q⟩
 by_cases hj:j < i
 ·rw [if_pos hj,if_pos hj]; exact ⟨_,rfl⟩
 ·rw [if_neg hj,if_neg hj]; exact ⟨_,rfl⟩
theorem u4:dc X (.type "int") (fun xs H Q=>(∃ i,xs=[.int i]∧Q (.int i) H)∨∃ k,xs=[.bl k]∧Q (.int (if k then 1 else 0)) H):=by
 intro pins s σ H xs us Q I r h
 rcases h with ⟨i,rfl,q⟩ | ⟨k,rfl,q⟩
 ·obtain ⟨u,rfl,t,rfl⟩:=gz r
  exact call_int_int ⟨.int i,H,I,⟨_,rfl⟩,q⟩
 ·obtain ⟨u,rfl,r1⟩:=gz r
  cases r1
  exact call_int_bool ⟨.int (if k then 1 else 0),H,I.tok _,⟨_,rfl⟩,q⟩
def BF (K:PySem.W.Frag) (x:V) (H:Hp) (n:Nat):Prop :=
 match x with
 | .str y=>y.length≤sizeLine∧n=y.length
 | .byt y=>y.size≤sizeLine∧n=y.size
 | .ref p=>(∃ xs,SqL K H p xs∧n=xs.length)∨∃ xs,SqT K H p xs∧n=xs.length
 | _=>False
theorem xr:dc X (.builtin "len") (fun xs H Q=>∃ x n,xs=[x]∧BF X.K x H n∧Q (.int n) H):=by
 intro pins s σ H xs us Q I r h
 obtain ⟨x,n,rfl,e,q⟩:=h
 obtain ⟨u,rfl,rx⟩:=gz r
 have hl:=kA
 have hs:sizeLine=16777216:=GH
 cases x with
 | str y =>
  obtain ⟨t,rfl⟩:=rx
  obtain ⟨hy,e'⟩:y.length≤sizeLine∧n=y.length:=e
  subst e'
  exact len_str (by omega) ⟨.int _,H,I.tok _,⟨_,rfl⟩,q⟩
 | byt y =>
  obtain ⟨t,rfl⟩:=rx
  obtain ⟨hy,e'⟩:y.size≤sizeLine∧n=y.size:=e
  subst e'
  exact PySem.W.len_bytes (by omega) ⟨.int _,H,I.tok _,⟨_,rfl⟩,q⟩
 | ref p =>
  cases rx
  have e':(∃ xs,SqL X.K H p xs∧n=xs.length)∨∃ xs,SqT X.K H p xs∧n=xs.length:=e
  rcases e' with ⟨xs,hx,e'⟩ | ⟨xs,hx,e'⟩
  ·subst e'
   obtain ⟨its,r',pl,hz⟩:=I.list hx
   have hlen:=r'.length
   exact Calls.call_len_list pl.isList (by simp only [DV]; omega) ⟨.int xs.length,H,I.tok _,⟨_,by simp only [DV]; rw [hlen]⟩,q⟩
  ·subst e'
   obtain ⟨its,r',pl,hz⟩:=I.tuple hx
   have hlen:=r'.length
   exact len_tuple pl (by simp only [DV]; omega) ⟨.int xs.length,H,I.tok _,⟨_,by simp only [DV]; rw [hlen]⟩,q⟩
 | _=>exact (show False from e).elim
end
structure BE (h:Heap) (x dx C:Addr) (mA:Str→Option Value):Prop where
 obj:h.get? x=some (PySem.W.instObj C dx)
 ns:h.Ns1 dx mA
 ne:dx ≠ x
theorem uq {h:Heap}{dx:Addr}{mA:Str→Option Value} (n:h.Ns1 dx mA):∃ od,h.get? dx=some od∧∀ name,PySem.W.lookIn name od=some (mA name):=by
 obtain ⟨o,es,ep,ho,hd,hk,_,hm⟩:=n
 refine ⟨o,ho,fun name=>?_⟩
 have e:=hm name
 unfold nsFind findBy at e
 rw [← Array.find?_toList] at e
 unfold PySem.W.lookIn
 rw [hd]
 dsimp only
 split
 ·rename_i y q
  rw [q] at e
  exact ED some e
 ·rename_i q
  rw [q] at e
  have a:es.toList.any (·.refKey)=false:=by
   rw [List.any_eq_false]
   intro y hy
   obtain ⟨z,t,hkey⟩:=hk y (Array.mem_toList_iff.mp hy)
   simp [DictEntry.refKey,hkey]
  have a':¬ es.toList.any (·.refKey)=true:=by rw [a]; exact D4
  rw [if_neg a']
  exact ED some e
theorem BE.look {h:Heap}{x dx C:Addr}{mA:Str→Option Value} (I:BE h x dx C mA):∃ od,PySem.W.InstAt h x (PySem.W.instObj C dx) C (some od)∧∀ name,PySem.W.lookIn name od=some (mA name) :=
 let ⟨od,ho,hl⟩:=uq I.ns
 ⟨od,⟨I.obj,rfl,rfl,ho⟩,hl⟩
theorem gw.some_of {v:V}{o:Option Value} (r:gw (some v) o):∃ u,o=some u∧bh v u:=by
 cases o with
 | none=>exact (show False from r).elim
 | some u=>exact ⟨u,rfl,r⟩
theorem uE {v:V}{u:Value} (r:bh v u):PySem.W.handedIn u=true:=by
 cases v with
 | non=>cases (show u=Value.none from r); rfl
 | bl b=>cases (show u=Value.bool b from r); rfl
 | int i=>obtain ⟨t,e⟩:=(show ∃ t,u=Value.int i t from r); cases e; rfl
 | str x=>obtain ⟨t,e⟩:=(show ∃ t,u=Value.str x t from r); cases e; rfl
 | byt b=>obtain ⟨t,e⟩:=(show ∃ t,u=Value.bytes b t from r); cases e; rfl
 | flt b=>obtain ⟨t,e⟩:=(show ∃ t,u=Value.float b t from r); cases e; rfl
 | ref a=>cases (show u=Value.ref a from r); rfl
 | ty n=>cases (show u=Value.type n from r); rfl
section
variable {P:Program}{w:World}{H H':Hp}{h h':Heap}{a C dx:Addr}{fs fs':List (Str×V)}
theorem y6 (hok:HOk P w H h) (e:H a=some (.ins C dx fs)):∃ mA,BE h a dx C mA∧(∀ f,gw (fs.lookup f) (mA f))∧PySem.Within mA (fs.map (·.1))∧fs.length≤1000∧H dx=some (.own a):=by
 obtain ⟨d,z,ne,ob,mA,n,r,q⟩:=(show cF P w H h a (.ins C dx fs) from hok a _ e)
 exact ⟨mA,⟨ob,n,ne⟩,r,q,z,d⟩
end
structure Cls (K:PySem.W.Frag) (C:Addr):Prop where
 pg:PySem.W.plainGet K C Str.empty=true
 hd:PySem.W.hasDictIn K C=true
 po:PySem.W.plainOver K C=true
 sa:PySem.W.findIn K (.ref C) "__setattr__" = some (some (.builtin "object.__setattr__"))
theorem Cls.get {K:PySem.W.Frag}{C:Addr} (c:Cls K C) (f:Str):PySem.W.plainGet K C f=true:=c.pg
section
variable {X:Cx}{pins:List (Addr×Obj)} {σ:St}{H:Hp}{s:Shared}{a C dx:Addr}{fs:List (Str×V)} {f:Str}{v:V}{A:Around}{E:Value→Shared→Prop}
theorem zy {prog:Program}{w:World}{env:Env}{e:Expr}{f:Str}{pos:Pos}{s:Shared}{Q:Value→Shared→Prop} (hb:attributeBase e f env (eval e env)=eval e env)
  (h:wpAny (model prog w) A (eval e env) (fun o s₁=>wpAny (model prog w) A (getAttr o f true) Q E s₁) E s):wpAny (model prog w) A (eval (.Attribute e f pos) env) Q E s :=
 Attribute_any_ h (by rw [arm_eval_Attribute,hb])
end
section
variable {X:Cx}{pins:List (Addr×Obj)} {σ:St}{H:Hp}{s:Shared}{A:Around}{E:Value→Shared→Prop}{Q:Value→Shared→Prop}{c:Value}{b:Bool}
inductive io (K:PySem.W.Frag) (H:Hp):V→Value→Prop where
 | non:io K H .non (.type "NoneType")
 | bl (x:Bool):io K H (.bl x) (.type "bool")
 | int (i:Int):io K H (.int i) (.type "int")
 | str (x:Str):io K H (.str x) (.type "str")
 | flt (x:UInt64):io K H (.flt x) (.type "float")
 | lst {a:Addr}{xs:List V} (e:H a=some (.lst xs)):io K H (.ref a) (.type "list")
 | frz {a:Addr}{o:Obj}{xs:List V} (e:H a=some (.frz o (.lst xs))):io K H (.ref a) (.type "list")
 | tup {a:Addr}{xs:List V} (e:H a=some (.tup xs)):io K H (.ref a) (.type "tuple")
 | dK {a:Addr}{kvs:List (Key×V)} (e:H a=some (.dK kvs)):io K H (.ref a) (.type "dict")
 | dT {a:Addr}{kvs:List (List Key×V)} (e:H a=some (.dT kvs)):io K H (.ref a) (.type "dict")
 | frzD {a:Addr}{o:Obj}{kvs:List (Key×V)} (e:H a=some (.frz o (.dK kvs))):io K H (.ref a) (.type "dict")
 | ins {a C dx:Addr}{fs:List (Str×V)} (e:H a=some (.ins C dx fs)) (cl:Cls K C) (ha:PySem.W.findIn K (.ref C) "__class__" = some (some (.builtin "object.__class__")))
   (hn:PySem.W.specialIn K (.builtin "object.__class__") "__get__" = some (some (.builtin "getset_descriptor.__get__"))) (htk:PySem.W.takesIn K (.builtin "object.__class__")=some true)
   (hm:PySem.W.mroIn K C (.type "object")=some true):io K H (.ref a) (.ref C)
theorem uy {x:V}{u t:Value} (I:Inv X pins σ H s) (rx:bh x u) (ty:io X.K H x t) (e:PySem.W.kitOne X.K t c=some b) (h:∀ tk,Q (.bool b) { s with toks:=tk }) :
  wpAny (model X.prog X.w) A (call (.builtin "isinstance") [u,c]) Q E s:=by
 cases ty with
 | non=>cases (show u=Value.none from rx); exact EE PySem.W.kitx_none I.kIn True.intro e (fun z=>nomatch z) h
 | bl y=>cases (show u=Value.bool y from rx); exact EE PySem.W.kitx_bool I.kIn True.intro e (fun z=>nomatch z) h
 | int i=>obtain ⟨t,q⟩:=(show ∃ t,u=Value.int i t from rx); cases q; exact EE PySem.W.kitx_int I.kIn True.intro e (fun z=>nomatch z) h
 | str y=>obtain ⟨t,q⟩:=(show ∃ t,u=Value.str y t from rx); cases q; exact EE PySem.W.kitx_str I.kIn True.intro e (fun z=>nomatch z) h
 | flt y=>obtain ⟨t,q⟩:=(show ∃ t,u=Value.float y t from rx); cases q; exact EE PySem.W.kitx_float I.kIn True.intro e (fun z=>nomatch z) h
 | @lst a xs ea =>
  cases (show u=Value.ref a from rx)
  obtain ⟨_,_,n,_,h1⟩:=(show cF X.prog X.w H s.heap a (.lst xs) from I.hok a _ ea)
  exact EE PySem.W.kitx_list I.kIn ⟨_,h1,rfl⟩ e (fun z=>nomatch z) h
 | @frz a ob xs ea =>
  cases (show u=Value.ref a from rx)
  obtain ⟨_,_,_,n,_,h1⟩:=(show cF X.prog X.w H s.heap a (.frz ob (.lst xs)) from I.hok a _ ea)
  exact EE PySem.W.kitx_list I.kIn ⟨_,h1,rfl⟩ e (fun z=>nomatch z) h
 | @tup a xs ea =>
  cases (show u=Value.ref a from rx)
  obtain ⟨_,_,_,p⟩:=(show cF X.prog X.w H s.heap a (.tup xs) from I.hok a _ ea)
  obtain ⟨o,h1,h2,_⟩:=p
  exact EE PySem.W.kitx_tuple I.kIn ⟨o,h1,h2⟩ e (fun z=>nomatch z) h
 | @dK a kvs ea =>
  cases (show u=Value.ref a from rx)
  obtain ⟨_,_,vs,_,p⟩:=(show cF X.prog X.w H s.heap a (.dK kvs) from I.hok a _ ea)
  obtain ⟨o,es,ep,h1,h2,_⟩:=p
  exact EE GY I.kIn ⟨o,h1,h2.1⟩ e (fun z=>nomatch z) h
 | @frzD a ob kvs ea =>
  cases (show u=Value.ref a from rx)
  obtain ⟨_,_,_,vs,_,p⟩:=(show cF X.prog X.w H s.heap a (.frz ob (.dK kvs)) from I.hok a _ ea)
  obtain ⟨o,es,ep,h1,h2,_⟩:=p
  exact EE GY I.kIn ⟨o,h1,h2.1⟩ e (fun z=>nomatch z) h
 | @dT a kvs ea =>
  cases (show u=Value.ref a from rx)
  obtain ⟨_,_,xs,_,o,es,ep,h1,h2,_⟩:=(show cF X.prog X.w H s.heap a (.dT kvs) from I.hok a _ ea)
  exact EE GY I.kIn ⟨o,h1,h2.1⟩ e (fun z=>nomatch z) h
 | @ins a C dx fs ea cl ha hn htk hm =>
  cases (show u=Value.ref a from rx)
  obtain ⟨mA,O,_⟩:=y6 I.hok ea
  obtain ⟨od,J,_⟩:=O.look
  exact EE (PySem.W.kitx_own (cl.get _) cl.hd ha hn htk hm) I.kIn J e (fun z=>nomatch z) h
end
structure du (k:Nat) (A:Around):Prop where
 hd:A.handled=none
 dp:A.depth + 3 * k + 5 < recursionLimit
 un:A.units + 16 * k + 200 < cLine
theorem du.mono {j k:Nat}{A:Around} (r:du k A) (h:j≤k):du j A:=⟨r.hd,by have:=r.dp; omega,by have:=r.un; omega⟩
theorem du.deeper {k:Nat}{A:Around} (r:du (k + 1) A) (env:Env):du k (A.deeper env) :=
 ⟨r.hd,by have:=r.dp; show A.depth + 1 + 3 * k + 5 < _; omega,by have:=r.un; show A.units + 3 + 16 * k + 200 < _; omega⟩
theorem qN {A:Around}{C:Addr}{us:List Value}{kw:List (Str×Value)}:(A.under (.builtin "type.__call__" ⟨.ref C :: us,kw⟩)).depth=A.depth + 1:=by
 first | rfl | simp [Around.under,Code.weight,Code.isCreation,Code.isGuard,Code.isCaller,Code.frames,Code.isFrame,guardIds]
theorem qM {A:Around}{C:Addr}{us:List Value}{kw:List (Str×Value)}:(A.under (.builtin "type.__call__" ⟨.ref C :: us,kw⟩)).units=A.units + 1:=by
 first | rfl | simp [Around.under,Code.cUnits,Code.frames,Code.isFrame]
theorem du.make {k:Nat}{A:Around} (r:du (k + 1) A) (C:Addr) (us:List Value) (kw:List (Str×Value)):du k (A.under (.builtin "type.__call__" ⟨.ref C :: us,kw⟩)) :=
 ⟨r.hd,by have:=r.dp; rw [qN]; omega,by have:=r.un; rw [qM]; omega⟩
theorem du.depth {k:Nat}{A:Around} (r:du k A):A.depth < recursionLimit:=by have:=r.dp; omega
theorem du.units {k:Nat}{A:Around} (r:du k A):A.units + 64 < cLine:=by have:=r.un; omega
def BR:TA:=fun _ H Q=>Q [] H
def zD (ta:TE) (tr:TA):TA:=fun σ H Q=>ta σ H fun x H1=>tr σ H1 fun xs H2=>Q (x :: xs) H2
section
variable {X:Cx}{e:Expr}{es:List Expr}{te:TE}{t:TA}{pos:Pos}
theorem fH:PA X [] BR:=fun _ _ _ _ H Q I h=>Gz ⟨[],H,I,.nil,h⟩
theorem di (ha:PE X e te) (hr:PA X es t) (hs:starEach (e :: es) X.env=(false,eval e X.env) :: starEach es X.env:=by rfl):PA X (e :: es) (zD te t):=by
 intro pos pins s σ H Q I h
 rw [hs]
 show wpAny _ _ (spliced ((false,eval e X.env) :: backTo pos (starEach es X.env))) _ _ s
 refine FP (thn (ha pins s σ H _ I h) fun u s1 zz34_0=>?_)
 obtain ⟨x,H1,I1,r1,q1⟩:=zz34_0
 exact thn (hr pos pins s1 σ H1 _ I1 q1) fun us s2 zz35_0=>by obtain ⟨xs,H2,I2,r2,q2⟩:=zz35_0; exact ⟨x :: xs,H2,I2,.cons r1 r2,q2⟩
def C3 (t:TA):TE:=fun σ H Q=>t σ H fun xs H1=>xs.length≤sizeLine∧∀ p,H1 p=none→Q (.ref p) (upd H1 p (.tup xs))
def C7 (t:TA):TE:=fun σ H Q=>t σ H fun xs H1=>xs.length≤sizeLine∧∀ p,H1 p=none→Q (.ref p) (upd H1 p (.lst xs))
theorem AK {x1} (h:PA X es t):PE X (.Tuple es x1 pos) (C3 t):=by
 intro pins s σ H Q I hq
 refine wpAny_Tuple_spliced (thn (h pos pins s σ H _ I hq) fun us s1 ⟨xs,H1,I1,r,z,q⟩=>⟨by rw [← r.length]; exact z,?_⟩)
 have hf:H1 s1.heap.objs.size=none:=I1.hok.fresh (DY _)
 refine ⟨.ref s1.heap.objs.size,upd H1 s1.heap.objs.size (.tup xs),I1.laid (t':=s1.toks) (fun b u e=>DQ _ e) (DY _) ?_,rfl,q _ hf⟩
 exact ⟨z,us,r,⟨_,D0 _ rfl,rfl,_,rfl⟩⟩
theorem AO (h:PA X es t):PE X (.List es pos) (C7 t):=by
 intro pins s σ H Q I hq
 refine wpAny_List_spliced (thn (h pos pins s σ H _ I hq) fun us s1 ⟨xs,H1,I1,r,z,q⟩=>⟨by rw [← r.length]; exact z,?_⟩)
 have hf:H1 s1.heap.objs.size=none:=I1.hok.fresh (DY _)
 refine ⟨.ref s1.heap.objs.size,upd H1 s1.heap.objs.size (.lst xs),I1.laid (t':=s1.toks) (fun b u e=>DQ _ e) (DY _) ?_,rfl,q _ hf⟩
 exact ⟨z,us,0,r,D0 _ rfl⟩
end
abbrev Sp:=List V→Hp→VK→XK→Prop
abbrev CXT:=List Env→Hp→Shared→XK→Value→Shared→Prop
structure rA (P:Program) (w:World) (K:PySem.W.Frag) (mg:Str→Option Value) (base:Heap) (A:Around) (outer:List Env) (s:Shared) (H:Hp):Prop where
 frames:A.frames=some outer
 mod:Mod K mg base
 bs:∀ b o,base.get? b=some o→s.heap.get? b=some o∧H b=none
 bsz:base.objs.size≤s.heap.objs.size
 funs:s.heap.FunFrames base outer
 frf:∀ b ∈ frs outer,H b=none
 hok:HOk P w H s.heap
 bare:AllBare s.gens
def CE (outer:List Env) (P:Program) (w:World) (H:Hp) (s:Shared) (Q:VK) (u:Value) (s':Shared):Prop :=
 ∃ v H',s'.os=s.os∧AllBare s'.gens∧Un (frs outer) [] H H' s.heap s'.heap∧HOk P w H' s'.heap∧bh v u∧Q v H'
def CR (CX:CXT) (outer:List Env) (P:Program) (w:World) (H:Hp) (s:Shared) (Q:VK) (E:XK) (r:Result) (s':Shared):Prop :=
 match r with
 | .ok (.ret u)=>CE outer P w H s Q u s'
 | .ok _=>False
 | .error e=>CX outer H s E e s'
structure bD (P:Program) (w:World) (K:PySem.W.Frag) (mg:Str→Option Value) (base:Heap) (CX:CXT) (k:Nat) (f:Addr) (fd:FuncData) (ps:List Str) (sp:Sp):Prop where
 len:∀ vs H Q E,sp vs H Q E→vs.length=ps.length
 run:∀ (A:Around) (outer:List Env) (s:Shared) (H:Hp) (args:Args) (us:List Value) (vs:List V) (Q:VK) (E:XK),du k A→rA P w K mg base A outer s H→BindsTo s fd args (ps.zip us)→a_ vs us→sp vs H Q E →
  codeAny (model P w) A (.call (.ref f) args) (CR CX outer P w H s Q E) s
theorem rA.make {P:Program}{w:World}{K:PySem.W.Frag}{mg:Str→Option Value}{base:Heap}{A:Around}{outer:List Env}{s:Shared}{H:Hp} (e:rA P w K mg base A outer s H) (C:Addr) (us:List Value) (kw:List (Str×Value)) :
  rA P w K mg base (A.under (.builtin "type.__call__" ⟨.ref C :: us,kw⟩)) outer s H:=⟨by first | exact e.frames | (simpa [Around.under,Code.envs,Code.isFrame,pushEnvs] using e.frames),e.mod,e.bs,e.bsz,e.funs,e.frf,e.hok,e.bare⟩
section
variable {X:Cx}{pins:List (Addr×Obj)} {σ:St}{H:Hp}{s s':Shared}
theorem Inv.env0 (I:Inv X pins σ H s):rA X.prog X.w X.K X.mg X.base X.A X.stack s H :=
 ⟨I.ok.frames,I.ok.mod,I.bs,D6 I.ok.bsz I.sz,I.stack,I.stkFree,I.hok,I.bare⟩
theorem Inv.after {Q:VK}{u:Value} (I:Inv X pins σ H s) (h:CE X.stack X.prog X.w H s Q u s'):EP X pins σ Q u s':=by
 obtain ⟨v,H',os,bare,un,hok,r,q⟩:=h
 obtain ⟨hh,g,d,t,os'⟩:=s'
 obtain rfl:os'=s.os:=os
 exact ⟨v,H',I.call (h':=hh) (g':=g) (d':=d) (t':=t) (ch:=[]) un hok bare (fun b z=>absurd z (by simp)),r,q⟩
end
def BW (sp:Sp) (dvs:List V) (E:XK) (t:TA):TE:=fun σ H Q=>t σ H fun vs H1=>sp (vs ++ dvs) H1 Q E
def bB (K:PySem.W.Frag) (fd:FuncData) (ps:List Str) (ds:List Value):Prop :=
 ∀ (s:Shared) (us:List Value),K.In s.heap→(us ++ ds).length=ps.length→BindsTo s fd ⟨us,[]⟩ (ps.zip (us ++ ds))
theorem bB.all {K:PySem.W.Frag}{fd:FuncData}{ps:List Str} (h:∀ us:List Value,us.length=ps.length→bindArgs fd ⟨us,[]⟩=pure (ps.zip us)):bB K fd ps []:=fun s us _ hl=>by
 rw [Ez] at hl ⊢
 exact .of_eq (h us hl)
def rl (CX:CXT) (X:Cx) (E:XK):Prop:=∀ (pins:List (Addr×Obj)) (σ:St) (H:Hp) (s:Shared) (e:Value) (s':Shared),Inv X pins σ H s→CX X.stack H s E e s'→X.xe e s'
section
variable {X:Cx}{CX:CXT}{k:Nat}{f C:Addr}{fd:FuncData}{ps:List Str}{sp:Sp}{dvs:List V}{ds:List Value}{E:XK}{x m:Str}{p pos apos:Pos}{e o:Expr}{es:List Expr}{ta:TE}{t:TA}
theorem Ah {pins:List (Addr×Obj)} {σ:St}{H:Hp}{s:Shared}{Q:VK}{us:List Value}{vs:List V} (F:bD X.prog X.w X.K X.mg X.base CX k f fd ps sp) (hr:du k X.A) (hb:bB X.K fd ps ds) (hd:a_ dvs ds) (hx:rl CX X E)
  (I:Inv X pins σ H s) (r:a_ vs us) (h:sp (vs ++ dvs) H Q E):wpAny (model X.prog X.w) X.A (call (.ref f) us) (EP X pins σ Q) X.xe s:=by
 have r2:a_ (vs ++ dvs) (us ++ ds):=r.append hd
 have hl:(us ++ ds).length=ps.length:=by rw [← r2.length]; exact F.len _ _ _ _ h
 refine wpAny_call (FW (F.run X.A X.stack s H ⟨us,[]⟩ (us ++ ds) (vs ++ dvs) Q E hr I.env0 (hb s us I.kIn hl) r2 h) fun r s' hq=>?_)
 cases r with
 | error e=>exact hx pins σ H s e s' I hq
 | ok fl =>
  cases fl with
  | ret u=>exact I.after hq
  | next=>exact False.elim hq
  | brk=>exact False.elim hq
  | cont=>exact False.elim hq
theorem rT (F:bD X.prog X.w X.K X.mg X.base CX k f fd ps sp) (hr:du k X.A) (hg:Gl X x) (hm:X.mg x=some (.ref f)) (hk:PySem.W.keepIn X.K (.ref f)=true) (hb:bB X.K fd ps ds) (hd:a_ dvs ds) (hx:rl CX X E)
  (ha:PA X (e :: es) t) (hdb:(x == ("__debug__" : Str))=false:=by decide) (he:starEach (e :: es) X.env=(false,eval e X.env) :: starEach es X.env:=by rfl) (hpl:(backTo pos (starEach es X.env)).any (·.1)=false:=by rfl) :
  PE X (.Call (.Name x p) (e :: es) [] pos) (BW sp dvs E t):=by
 intro pins s σ H Q I h
 refine EZ (iF I hg hm ?_ hdb)
 refine GN (h₀:=X.base) I.ok.mod.kin hk (thn (ha pos pins s σ H _ I h) fun us s1 ⟨vs,H1,I1,r,q⟩=>⟨I1.kIn,?_⟩) he hpl
 exact Ah F hr hb hd hx I1 r q
end
structure aP (N P:List Str) (sc:Scope):Prop where
 kind:sc.kind=.function
 co:sc.isCoroutine=false
 gen:sc.isGenerator=false
 nd:N.Nodup
 pre:N.take P.length=P
 par:∀ x ∈ P,sc.names.lookup x=some .local∨sc.names.lookup x=some .cell
 nofree:∀ y ∈ sc.names,y.2 ≠ .free
theorem mJ {kindOf:Str→Option NameKind}{x:Str}:∀ {binds:List (Str×Value)} {m:Str→Option Value},(∀ v,(x,v) ∉ binds)→bindL kindOf binds m x=m x
 | [],_,_=>rfl
 | (n,v) :: r,m,h=>by
  unfold bindL
  rw [mJ fun w hw=>h w (DS _ hw)]
  split
  ·have:x ≠ n:=by rintro rfl; exact h v DW
   simp [this]
  ·rfl
theorem mL {kindOf:Str→Option NameKind}{x:Str}:∀ {binds:List (Str×Value)} {m:Str→Option Value},(∀ v,(x,v) ∉ binds)→bindC kindOf binds m x=m x
 | [],_,_=>rfl
 | (n,v) :: r,m,h=>by
  unfold bindC
  rw [mL fun w hw=>h w (DS _ hw)]
  split
  ·rfl
  ·have:x ≠ n:=by rintro rfl; exact h v DW
   simp [this]
theorem mK {kindOf:Str→Option NameKind}{x:Str}{v:Value}:∀ {P:List Str}{vs:List Value}{i:Nat}{m:Str→Option Value},P.Nodup→P[i]? = some x→vs[i]? = some v→kindOf x=some .local →
  bindL kindOf (P.zip vs) m x=some v
 | [],_,_,_,_,h,_,_=>by simp at h
 | _ :: _,[],_,_,_,_,h,_=>by simp at h
 | p :: P,w :: vs,0,m,nd,h1,h2,hk=>by
  simp at h1 h2; subst h1; subst h2
  show bindL kindOf ((p,w) :: P.zip vs) m p=_
  unfold bindL
  rw [mJ fun v hv=>(List.nodup_cons.mp nd).1 (List.of_mem_zip hv).1,if_pos hk]
  simp
 | p :: P,w :: vs,i + 1,m,nd,h1,h2,hk=>by
  show bindL kindOf ((p,w) :: P.zip vs) m x=_
  unfold bindL
  exact mK (i:=i) (List.nodup_cons.mp nd).2 (by simpa using h1) (by simpa using h2) hk
theorem mM {kindOf:Str→Option NameKind}{x:Str}{v:Value}:∀ {P:List Str}{vs:List Value}{i:Nat}{m:Str→Option Value},P.Nodup→P[i]? = some x→vs[i]? = some v→kindOf x ≠ some .local →
  bindC kindOf (P.zip vs) m x=some v
 | [],_,_,_,_,h,_,_=>by simp at h
 | _ :: _,[],_,_,_,_,h,_=>by simp at h
 | p :: P,w :: vs,0,m,nd,h1,h2,hk=>by
  simp at h1 h2; subst h1; subst h2
  show bindC kindOf ((p,w) :: P.zip vs) m p=_
  unfold bindC
  rw [mL fun v hv=>(List.nodup_cons.mp nd).1 (List.of_mem_zip hv).1,if_neg hk]
  simp
 | p :: P,w :: vs,i + 1,m,nd,h1,h2,hk=>by
  show bindC kindOf ((p,w) :: P.zip vs) m x=_
  unfold bindC
  exact mM (i:=i) (List.nodup_cons.mp nd).2 (by simpa using h1) (by simpa using h2) hk
def start (N:List Str) (vs:List V):St:=vs.map some ++ List.replicate (N.length - vs.length) none
def jB (CX:CXT) (P:Program) (w:World) (K:PySem.W.Frag) (mg:Str→Option Value) (base:Heap) (N:List Str) (qual:Str) (scope:Scope) (f:Addr) (cd:Value) (A:Around) (outer:List Env) (s:Shared) (H:Hp) (E:XK):Cx where
 prog:=P
 w:=w
 K:=K
 mg:=mg
 base:=base
 A:=A.deeper (envOfC qual scope s.heap.objs.size f cd)
 N:=N
 s₀:=s
 H₀:=H
 env:=envOfC qual scope s.heap.objs.size f cd
 outer:=outer
 stack:=envOfC qual scope s.heap.objs.size f cd :: outer
 ex:=[]
 calm:=true
 fn:=fun _=>true
 pn:=[]
 xe:=fun e s'=>wpAny (model P w) (A.deeper (envOfC qual scope s.heap.objs.size f cd)) (leaving (envOfC qual scope s.heap.objs.size f cd) e) (fun _ s''=>CX outer H s E e s'') (fun e' s''=>CX outer H s E e' s'') s'
theorem pS {sc:Scope}{n:Nat}{x:Str} (h:sc.names.lookup x=some .cell):∃ c,(cellsFrom n sc.names []).lookup x=some c:=by
 have q:=PySem.W.cellsFrom_some sc.names n [] (.inl h)
 exact Option.isSome_iff_exists.mp q
theorem uz {CX:CXT}{P:Program}{w:World}{K:PySem.W.Frag}{mg:Str→Option Value}{base:Heap}{N ps:List Str}{qual:Str}{scope:Scope}{f:Addr}{cd:Value}{A:Around}{outer:List Env}{s s1:Shared}{H:Hp}{E:XK}{us:List Value}{vs:List V}
  (S:aP N ps scope) (hd:A.handled=none) (e0:rA P w K mg base A outer s H) (hl:vs.length=ps.length) (r:a_ vs us)
  (x:InCallC s s.heap.objs.size (bindL (envOfC qual scope s.heap.objs.size f cd).kindOf (ps.zip us) fun _=>none) (cellsFrom (s.heap.objs.size + 1) scope.names []) (bindC (envOfC qual scope s.heap.objs.size f cd).kindOf (ps.zip us) fun _=>none) s1) :
  Inv (jB CX P w K mg base N qual scope f cd A outer s H E) [] (start N vs) H s1:=by
 have hpl:ps.length≤N.length:=by have:=ED List.length S.pre; rw [EL] at this; omega
 obtain ⟨h1,tk,rfl,hk⟩:=x.done
 have noA:∀ b:Addr,b ∉ (jB CX P w K mg base N qual scope f cd A outer s H E).ex:=fun b z=>absurd (show b ∈ ([]:List Addr) from z) (by simp)
 refine ⟨⟨e0.mod,S.kind,rfl,rfl,DY _,fun y z c h1 h2=>?_,fun y hy=>?_,fun y c _ h=>?_,fun _=>hd,Around.frames_deeper e0.frames,.inr ⟨rfl,rfl⟩,fun b z=>absurd z (noA b),e0.bs,e0.bsz,fun b _ _=>noA b,fun b z=>absurd z (noA b),e0.funs,e0.frf⟩,
  rfl,e0.bare,Un.kept hk,⟨_,x.toInCall.ns,fun i y v h1 h2 h3=>?_⟩,fun y c h=>⟨_,x.cell y c h⟩,e0.hok.fresh (DY _),fun y c h=>?_,fun p hp=>absurd (show p ∈ ([]:List (Addr×Obj)) from hp) (by simp),e0.hok.kept hk,?_⟩
 ·exact name_of_addr x.apart (FB h1) (FB h2)
 ·have hy:scope.names.lookup y=some .cell∨scope.names.lookup y=some .free:=hy
  rcases hy with hy | hy
  ·exact pS hy
  ·exact absurd rfl (S.nofree _ (FB hy))
 ·exact E4 (x.above y c (FB h))
 ·have hi:i < vs.length:=by
   unfold start at h2
   by_cases hi:i < vs.length
   ·exact hi
   ·rw [F0 (by simpa using hi)] at h2
    rw [En] at h2
    split at h2 <;> cases h2
  have ha:vs[i]? = some v:=by
   unfold start at h2
   rw [Fw (by simpa using hi),DX] at h2
   cases e:vs[i]? with
   | none=>rw [e] at h2; cases h2
   | some a=>rw [e] at h2; cases h2; rfl
  obtain ⟨u,hu,rv⟩:=r.get ha
  have hp:ps[i]? = some y:=by
   rw [← S.pre,List.getElem?_take_of_lt (by omega)]; exact h1
  have ndP:ps.Nodup:=by rw [← S.pre]; exact S.nd.sublist (List.take_sublist _ _)
  refine ⟨u,rv,?_⟩
  rcases S.par y (EY hp) with k | k
  ·exact .inl ⟨k,mK ndP hp hu k⟩
  ·obtain ⟨c,e⟩:=pS (n:=s.heap.objs.size + 1) k
   refine .inr ⟨.inl k,c,e,?_⟩
   have q:=x.cell y c e
   rw [mM ndP hp hu (by show scope.names.lookup y ≠ _; rw [k]; decide)] at q
   exact q
 ·exact e0.hok.fresh (E4 (x.above y c (FB h)))
 ·unfold start
  show _=N.length
  rw [DZ,DP,Fp]
  omega
theorem zO {CX:CXT}{P:Program}{w:World}{K:PySem.W.Frag}{mg:Str→Option Value}{base:Heap}{k:Nat}{f:Addr}{name qual:Str}{params:Arguments}{body:List Stmt}{scope:Scope}{dV kV doc pm cdv ct oc:Value}{an od:Option Addr}
  {osl:Array (Option Value)} {N ps:List Str}{sp:Sp} (lk:K.lookup f=some ⟨oc,od,.func (PySem.W.fnOf name qual params body scope dV kV doc pm an cdv ct),osl⟩) (hcd:PySem.W.codeIn K cdv qual=true) (S:aP N ps scope)
  (len:∀ vs H Q E,sp vs H Q E→vs.length=ps.length)
  (hbody:∀ (A:Around) (outer:List Env) (s:Shared) (H:Hp) (vs:List V) (Q:VK) (E:XK),du k (A.deeper (envOfC qual scope s.heap.objs.size f cdv))→sp vs H Q E →
   ∃ t,PSs (jB CX P w K mg base N qual scope f cdv A outer s H E) body t∧t { nx:=fun _ H'=>Q .non H',rt:=Q } (start N vs) H) :
  bD P w K mg base CX (k + 1) f (PySem.W.fnOf name qual params body scope dV kV doc pm an cdv ct) ps sp:=by
 refine ⟨len,fun A outer s H args us vs Q E hr e0 hb r hsp=>?_⟩
 have hl:=len _ _ _ _ hsp
 have KX:K.In s.heap:=e0.mod.kin.keeps fun b o e=>(e0.bs b o e).1
 have lim:s.heap.NoLimit:=e0.mod.nolimit.keeps fun b o e=>(e0.bs b o e).1
 have hkind:∀ y ∈ ps.zip us,scope.names.lookup y.1=some .local∨(scope.names.lookup y.1=some .cell∧((cellsFrom (s.heap.objs.size + 1) scope.names []).lookup y.1).isSome=true):=fun zz39_0 hy=>by
  obtain ⟨n,v⟩:=zz39_0
  rcases S.par n (List.of_mem_zip hy).1 with q | q
  ·exact .inl q
  ·exact .inr ⟨q,PySem.W.cellsFrom_some _ _ _ (.inl q)⟩
 refine codeAny_call_function hr.depth (KX _ _ lk) rfl S.co S.gen rfl (PySem.W.codeRec_of KX hcd) (hb _ _ _ _ ?_)
 refine wpAny_newFunctionEnv_cells S.kind hkind fun env he s1 x=>?_
 subst he
 refine ⟨lim.keeps x.toInCall.keep,codeAny_func ?_⟩
 obtain ⟨t,ht,hq⟩:=hbody A outer s H vs Q E (hr.deeper _) hsp
 have I:Inv (jB CX P w K mg base N qual scope f cdv A outer s H E) [] (start N vs) H s1:=uz S hr.hd e0 hl r x
 refine EB (ht [] s1 (start N vs) H _ I hq) (fun fl s' hs=>?_) fun e s' hs=>hs
 have fin:∀ {σ':St}{H':Hp}{v:V}{u:Value},Inv (jB CX P w K mg base N qual scope f cdv A outer s H E) [] σ' H' s'→bh v u→Q v H'→CE outer P w H s Q u s' :=
  fun {σ' H' v u} J rv q=>⟨v,H',J.os,J.bare,J.base,J.hok,rv,q⟩
 cases fl with
 | ret u =>
  obtain ⟨v,σ',H',J,rv,q⟩:=hs
  exact fin J rv q
 | next =>
  obtain ⟨σ',H',J,q⟩:=hs
  exact fin (v:=V.non) (u:=Value.none) J rfl q
 | brk =>
  obtain ⟨_,_,_,q⟩:=hs
  exact False.elim q
 | cont =>
  obtain ⟨_,_,_,q⟩:=hs
  exact False.elim q
section
variable {X:Cx}{x:Str}{p pos:Pos}{e:Expr}{es:List Expr}{t:TA}{id T:String}{r:List V→Hp→VK→Prop}
def tCB (r:List V→Hp→VK→Prop) (t:TA):TE:=fun σ H Q=>t σ H fun vs H1=>r vs H1 Q
theorem iA (hc:dc X (.builtin id) r) (hg:Gl X x) (hm:X.mg x=none) (hv:bootBuiltins x=some (.builtin id)) (ha:PA X (e :: es) t) (hn:x ≠ "__name__" := by decide) (hdb:(x == ("__debug__" : Str))=false:=by decide)
  (he:starEach (e :: es) X.env=(false,eval e X.env) :: starEach es X.env:=by rfl) (hpl:(backTo pos (starEach es X.env)).any (·.1)=false:=by rfl):PE X (.Call (.Name x p) (e :: es) [] pos) (tCB r t):=by
 intro pins s σ H Q I h
 refine EZ (eW I hg hm hv ?_ hn hdb)
 exact PyProof.Rows.callWith_builtin1 (thn (ha pos pins s σ H _ I h) fun us s1 zz40_0=>by obtain ⟨vs,H1,I1,r1,q1⟩:=zz40_0; exact hc pins s1 σ H1 vs us Q I1 r1 q1) he hpl
theorem tY (hc:dc X (.type T) r) (hg:Gl X x) (hm:X.mg x=none) (hv:bootBuiltins x=some (.type T)) (ha:PA X (e :: es) t) (hn:x ≠ "__name__" := by decide) (hdb:(x == ("__debug__" : Str))=false:=by decide)
  (he:starEach (e :: es) X.env=(false,eval e X.env) :: starEach es X.env:=by rfl) (hpl:(backTo pos (starEach es X.env)).any (·.1)=false:=by rfl):PE X (.Call (.Name x p) (e :: es) [] pos) (tCB r t):=by
 intro pins s σ H Q I h
 refine EZ (eW I hg hm hv ?_ hn hdb)
 exact Eu (thn (ha pos pins s σ H _ I h) fun us s1 zz41_0=>by obtain ⟨vs,H1,I1,r1,q1⟩:=zz41_0; exact hc pins s1 σ H1 vs us Q I1 r1 q1) he hpl
end
end L2
namespace HT
open PySem PyProof.Rows
section
open PySem.SeqAt
open PySem.AutoSeq1 (wpAny_loadPart')
open PySem.MeetsSeq PySem.MeetsSeq2 PySem.MeetsSeq3
end
section
variable {prog:Program}{w:World}{A:Around}{E:Value→Shared→Prop}{s:Shared}
theorem cat_tup {t b:Addr}{vs ws:List Value}{Q:Value→Shared→Prop} (ht:IsTup s.heap t vs.toArray) (hb:IsTup s.heap b ws.toArray) (hv:vs ≠ [])
  (h1:ws=[]→Q (.ref t) s) (h2:ws ≠ []→Q (.ref s.heap.objs.size) { s with heap:=s.heap.push { cls:=.type "tuple",data:=.seq (vs ++ ws).toArray } })
  (hsz:vs.length + ws.length≤sizeLine):wpAny (model prog w) A (binaryOp .Add (.ref t) (.ref b)) Q E s:=by
 obtain ⟨⟨cls,dd,data,sl⟩,ho,hc,n,hd⟩:=id ht
 obtain ⟨⟨cls2,dd2,data2,sl2⟩,ho2,hc2,n2,hd2⟩:=id hb
 simp only at hc hd hc2 hd2
 subst hc hd hc2 hd2
 have e:vs.toArray ++ ws.toArray=(vs ++ ws).toArray:=by simp
 by_cases hw:ws=[]
 ·exact concat_meets ⟨_,ho,rfl⟩ ⟨_,ho2,rfl⟩ noFill_tuple_add seq_tuple_add Gv Gj (Gc _ _)
   (tuple_addW1 t b vs.toArray ws.toArray n n2 dd dd2 sl sl2 (by simpa using hv) (by simp [hw])) ⟨ho,ho2,h1 hw⟩
 ·refine concat_meets ⟨_,ho,rfl⟩ ⟨_,ho2,rfl⟩ noFill_tuple_add seq_tuple_add Gv Gj (Gc _ _)
   (tuple_addW2 t b vs.toArray ws.toArray n n2 dd dd2 sl sl2 (by simpa using hv) (by simpa using hw) (by rw [DV,DV]; exact hsz)) ⟨ho,ho2,?_⟩
  rw [e]
  exact h2 hw
def sIx (n d:Nat):Option Int→Nat
 | none=>d
 | some v=>if v < 0 then (v + (n:Int)).toNat else min v.toNat n
theorem sIx_none (n d:Nat):sIx n d none=d:=rfl
theorem sIx_nat (n d k:Nat):sIx n d (some (k:Int))=min k n:=by
 show (if (k:Int) < 0 then ((k:Int) + (n:Int)).toNat else min (k:Int).toNat n)=min k n
 rw [if_neg (by omega),Ey]
theorem sIx_le (n d:Nat) (hd:d≤n) (o:Option Int):sIx n d o≤n:=by
 cases o with
 | none=>exact hd
 | some v =>
  show (if v < 0 then (v + (n:Int)).toNat else min v.toNat n)≤n
  by_cases hv:v < 0
  ·rw [if_pos hv]; omega
  ·rw [if_neg hv]; exact Nat.min_le_right _ _
theorem clip_eq (v:Int) (n d:Nat):(if v < 0 then max (v + (n:Int)) 0 else min v (n:Int))=((sIx n d (some v):Nat):Int):=by
 show (if v < 0 then max (v + (n:Int)) 0 else min v (n:Int))=(((if v < 0 then (v + (n:Int)).toNat else min v.toNat n):Nat):Int)
 by_cases hv:v < 0
 ·simp only [if_pos hv]; omega
 ·simp only [if_neg hv]; omega
theorem rj (lo hi:Option Int) (n:Nat):Builtin.Slice.sliceAdjust lo hi 1 (n:Int)=(((sIx n 0 lo:Nat):Int),((sIx n n hi:Nat):Int)):=by
 have h1:¬ ((1:Int) < 0):=by omega
 unfold Builtin.Slice.sliceAdjust
 simp only [h1,FU]
 refine Prod.ext ?_ ?_
 ·cases lo with
  | none=>rfl
  | some v=>exact clip_eq v n 0
 ·cases hi with
  | none=>rfl
  | some v=>exact clip_eq v n n
theorem qy (i j:Nat):Builtin.Slice.slicePlaces (i:Int) (j:Int) 1=j - i:=by
 unfold Builtin.Slice.slicePlaces
 have h1:(1:Int) > 0:=by omega
 simp only [h1,if_true,Int.ediv_one]
 split <;> omega
theorem jW {v:Value}{o:Option Int}{Q:Option Int→Shared→Prop} (p:IsPart v o) (h:Q o s):wpAny (model prog w) A (Builtin.Slice.slicePartIndex v) Q E s:=by
 cases p with
 | none=>exact slicePart_none h
 | int i t=>exact slicePart_int h
theorem sliceApplied_gen {sl:Addr}{vl vu:Value}{lo hi:Option Int}{n:Nat}{Q:Int×Int×Nat→Shared→Prop} (hs:s.heap.IsSliceOf sl vl vu .none) (pl:IsPart vl lo) (pu:IsPart vu hi)
  (h:Q (((sIx n 0 lo:Nat):Int),1,sIx n n hi - sIx n 0 lo) s):wpAny (model prog w) A (Builtin.Slice.sliceApplied (.ref sl) (pure (n:Int))) Q E s:=by
 obtain ⟨os,hos,hcs,hds⟩:=id hs
 unfold Builtin.Slice.sliceApplied Builtin.Slice.sliceFields
 refine DO (DO (EG hos hds (x:=vl) rfl (DO (EG hos hds (x:=vu) rfl (DO (EG hos hds (x:=.none) rfl (DT ?_)))))))
 refine DO (slicePart_none ?_)
 show wpAny _ _ (if ((1:Int) == 0)=true then _ else _) _ _ s
 rw [if_neg (by decide)]
 refine DO (jW pl (DO (jW pu (DO (DT ?_)))))
 show wpAny _ _ (match Builtin.Slice.sliceAdjust lo hi 1 (n:Int) with | (lo,hi)=>pure (lo,(1:Int),Builtin.Slice.slicePlaces lo hi 1)) _ _ s
 rw [rj lo hi n]
 show wpAny _ _ (pure (((sIx n 0 lo:Nat):Int),(1:Int),Builtin.Slice.slicePlaces ((sIx n 0 lo:Nat):Int) ((sIx n n hi:Nat):Int) 1)) _ _ s
 rw [qy]
 exact DT h
theorem vZ (xs:Array Value) (i k:Nat):((List.range k).filterMap fun (m:Nat)=>xs[((i:Int) + (m:Int) * 1).toNat]?).toArray=((xs.toList.drop i).take k).toArray:=by
 have e:(fun (m:Nat)=>xs[((i:Int) + (m:Int) * 1).toNat]?)=fun m=>xs[i + m]?:=by
  funext m
  have:((i:Int) + (m:Int) * 1).toNat=i + m:=by omega
  rw [this]
 rw [e]
 have:=pick_run xs i k
 rw [List.filterMap_map] at this
 have e2:((fun x=>xs[x]?) ∘ fun x=>i + x)=fun m=>xs[i + m]?:=rfl
 rw [e2] at this
 rw [this]
theorem getItem_tuple_cut {t sl:Addr}{items:Array Value}{vl vu:Value}{lo hi:Option Int}{Q:Value→Shared→Prop} (ht:IsTup s.heap t items) (hs:s.heap.IsSliceOf sl vl vu .none) (pl:IsPart vl lo) (pu:IsPart vu hi)
  (hw:¬ (sIx items.size 0 lo=0∧sIx items.size items.size hi=items.size))
  (h:Q (.ref s.heap.objs.size) { s with heap:=s.heap.push { cls:=.type "tuple",data:=.seq ((items.toList.drop (sIx items.size 0 lo)).take (sIx items.size items.size hi - sIx items.size 0 lo)).toArray } })
  (hsz:items.size≤sizeLine):wpAny (model prog w) A (getItem (.ref t) (.ref sl)) Q E s:=by
 have htake:sizeOk (.seq ((items.toList.drop (sIx items.size 0 lo)).take (sIx items.size items.size hi - sIx items.size 0 lo)).toArray):=by
  show ((items.toList.drop (sIx items.size 0 lo)).take (sIx items.size items.size hi - sIx items.size 0 lo)).toArray.size≤sizeLine
  rw [DV,EL,Fi,Ff]
  omega
 have hj:sIx items.size items.size hi≤items.size:=sIx_le _ _ (DY _) hi
 obtain ⟨os,hos,hcs,hds⟩:=id hs
 have hTs:s.TypeIs (.ref sl) "slice" := ⟨os,hos,hcs⟩
 unfold getItem
 try with_reducible refine E9 ?_
 first | refine DO (DT ?_) | skip
 refine DO (wpAny_sequenceKey ht.typeIs (by decide) ?_)
 refine DO (Fl (name:=Str.ofString "__getitem__") ht.typeIs Fa
  (Fm Fa ht.typeIs entry_tuple_getitem ?_ (args_tuple_getitem _ _)))
 show wpAny _ _ (Builtin.Tuple.tupleItemsOf (.ref t) >>= _) _ _ s
 refine DO (tupleItemsOf_ ht ?_)
 refine DO (FK hTs ?_)
 rw [if_pos (by decide)]
 refine DO (sliceApplied_gen hs pl pu ?_)
 have hno:¬ ((((sIx items.size 0 lo:Nat):Int) == 0 && (1:Int) == 1 && (sIx items.size items.size hi - sIx items.size 0 lo) == items.size)=true):=by
  intro q
  rw [EA,EA] at q
  have q1:((sIx items.size 0 lo:Nat):Int)=0:=eq_of_beq q.1.1
  have q2:sIx items.size items.size hi - sIx items.size 0 lo=items.size:=eq_of_beq q.2
  exact hw ⟨by omega,by omega⟩
 show wpAny _ _ (if (((sIx items.size 0 lo:Nat):Int) == 0 && (1:Int) == 1 && (sIx items.size items.size hi - sIx items.size 0 lo) == items.size)=true then _ else _) _ _ s
 rw [if_neg hno,vZ]
 first
  | exact DO (m:=Builtin.Tuple.tupleExact _) (EK (DT ⟨_,rfl,DT h⟩) htake)
  | exact DO (m:=Builtin.Tuple.tupleExact _) (EK (DO (DT (DT ⟨_,rfl,DT h⟩))) htake)
  | exact DO (DO (m:=Builtin.Tuple.tupleExact _) (EK (DT (DT ⟨_,rfl,DT h⟩)) htake))
  | exact DO (DO (m:=Builtin.Tuple.tupleExact _) (EK (DT ⟨_,rfl,DT h⟩) htake))
end
end HT
namespace L2
open PySem PySem.Spec PyProof.Rows
abbrev TO:=St→Hp→(Option Int→Hp→Prop)→Prop
def PO (X:Cx) (e:Option Expr) (t:TO):Prop :=
 ∀ (pins:List (Addr×Obj)) (s:Shared) (σ:St) (H:Hp) (Q:Option Int→Hp→Prop),Inv X pins σ H s→t σ H Q →
  wpAny (model X.prog X.w) X.A (evalPart e X.env) (fun u s'=>∃ o H',Inv X pins σ H' s'∧IsPart u o∧Q o H') X.xe s
def xS:TO:=fun _ H Q=>Q none H
def BP (t:TE):TO:=fun σ H Q=>t σ H fun x H1=>∃ i,x=.int i∧Q (some i) H1
section
variable {X:Cx}{e:Expr}{te:TE}{lo hi:Option Expr}{tl th:TO}{pos p2:Pos}
theorem yq:PO X none xS:=by
 intro pins s σ H Q I h
 rw [evalPart_none]
 exact DT ⟨none,H,I,.none,h⟩
theorem yp (h:PE X e te):PO X (some e) (BP te):=by
 intro pins s σ H Q I hw
 rw [evalPart_some]
 refine thn (h pins s σ H _ I hw) fun u s1 zz42_0=>?_
 obtain ⟨x,H1,I1,r1,q1⟩:=zz42_0
 obtain ⟨i,rfl,q⟩:=q1
 obtain ⟨t,rfl⟩:=r1
 exact ⟨some i,H1,I1,.int i t,q⟩
def SlR (X:Cx) (r:V→Option Int→Option Int→Hp→VK→Prop):Prop :=
 ∀ (pins:List (Addr×Obj)) (s:Shared) (σ:St) (H:Hp) (x:V) (v vl vu:Value) (lo hi:Option Int) (sl:Addr) (Q:VK),Inv X pins σ H s→bh x v→s.heap.IsSliceOf sl vl vu .none→IsPart vl lo→IsPart vu hi→r x lo hi H Q →
  ∃ T id,typeLookup (.type T) "__getitem__" = pure (some (.builtin id))∧s.TypeIs v T∧wpAny (model X.prog X.w) X.A (getItem v (.ref sl)) (EP X pins σ Q) X.xe s
theorem SlR.or {r r':V→Option Int→Option Int→Hp→VK→Prop} (h:SlR X r) (h':SlR X r'):SlR X (fun x lo hi H Q=>r x lo hi H Q∨r' x lo hi H Q):=by
 intro pins s σ H x v vl vu lo hi sl Q I rx hs pl pu q
 rcases q with q | q
 ·exact h pins s σ H x v vl vu lo hi sl Q I rx hs pl pu q
 ·exact h' pins s σ H x v vl vu lo hi sl Q I rx hs pl pu q
def tSl (r:V→Option Int→Option Int→Hp→VK→Prop) (te:TE) (tl th:TO):TE:=fun σ H Q=>te σ H fun x H1=>tl σ H1 fun l H2=>th σ H2 fun u H3=>r x l u H3 Q
theorem v8 {r:V→Option Int→Option Int→Hp→VK→Prop} (hr:SlR X r) (he:PE X e te) (hl:PO X lo tl) (hu:PO X hi th):PE X (.Subscript e (.Slice lo hi none p2) pos) (tSl r te tl th):=by
 intro pins s σ H Q I h
 refine Subscript_ (thn (he pins s σ H _ I h) fun v s1 zz43_0=>?_)
 obtain ⟨x,H1,I1,r1,q1⟩:=zz43_0
 refine wpAny_Slice (thn (hl pins s1 σ H1 _ I1 q1) fun vl s2 ⟨l,H2,I2,pl,q2⟩=>thn (hu pins s2 σ H2 _ I2 q2) fun vu s3 zz45_0=>?_)
 obtain ⟨u,H3,I3,pu,q3⟩:=zz45_0
 rw [evalPart_none]
 refine DT ?_
 have I4:Inv X pins σ H3 { s3 with heap:=s3.heap.push { cls:=.type "slice",data:=.fields #[vl,vu,.none] } }:=I3.kept (t':=s3.toks) fun b ob q=>DQ _ q
 obtain ⟨T,id,hT,ht,hg⟩:=hr pins { s3 with heap:=s3.heap.push { cls:=.type "slice",data:=.fields #[vl,vu,.none] } } σ H3 x v vl vu l u s3.heap.objs.size Q I4 r1 (Heap.IsSliceOf.new ..) pl pu q3
 show wpAny (model X.prog X.w) X.A (subscriptTail e (.Slice lo hi none p2) v (.ref s3.heap.objs.size)) (EP X pins σ Q) X.xe { s3 with heap:=s3.heap.push { cls:=.type "slice",data:=.fields #[vl,vu,.none] } }
 exact tail_any (ops:=[.ref s3.heap.objs.size,v]) ht hT hg (by with_unfolding_all rfl)
def jC (xs:List V) (lo hi:Option Int):List V:=(xs.drop (HT.sIx xs.length 0 lo)).take (HT.sIx xs.length xs.length hi - HT.sIx xs.length 0 lo)
theorem jw (xs:List V) (lo hi:Option Int):(jC xs lo hi).length≤xs.length:=by
 unfold jC
 rw [EL,Fi]
 omega
def Ca (K:PySem.W.Frag):V→Option Int→Option Int→Hp→VK→Prop:=fun x lo hi H Q=>∃ a xs,x=.ref a∧SqT K H a xs ∧
 ¬ (HT.sIx xs.length 0 lo=0∧HT.sIx xs.length xs.length hi=xs.length)∧∀ p,H p=none→Q (.ref p) (upd H p (.tup (jC xs lo hi)))
theorem Ac:SlR X (Ca X.K):=by
 intro pins s σ H x v vl vu lo hi sl Q I rx hs pl pu h
 obtain ⟨a,xs,rfl,hx,hw,q⟩:=h
 cases rx
 obtain ⟨its,r,ht,hz⟩:=I.tuple hx
 have hlen:its.toArray.size=xs.length:=by rw [DV]; exact r.length.symm
 refine ⟨"tuple",_,PyProof.Rows.slot_tuple_getitem.lookup,ht.typeIs,?_⟩
 refine HT.getItem_tuple_cut ht hs pl pu (by rw [hlen]; exact hw) ?_ (by rw [hlen]; exact hz)
 rw [hlen]
 refine ⟨.ref s.heap.objs.size,_,I.laid (t':=s.toks) (o:=.tup (jC xs lo hi)) (fun b ob q=>DQ _ q) (DY _) ?_,rfl,q _ (I.hok.fresh (DY _))⟩
 exact ⟨D6 (jw xs lo hi) hz,_,(r.drop (HT.sIx xs.length 0 lo)).take (HT.sIx xs.length xs.length hi - HT.sIx xs.length 0 lo),IsTup.new _ _⟩
def zI (K:PySem.W.Frag):R2:=fun x y H Q=>∃ a b xs ys,x=.ref a∧y=.ref b∧SqT K H a xs∧SqT K H b ys∧xs ≠ []∧xs.length + ys.length≤sizeLine ∧
 (ys=[]→Q (.ref a) H)∧(ys ≠ []→∀ p,H p=none→Q (.ref p) (upd H p (.tup (xs ++ ys))))
theorem a_.nil_iff {xs:List V}{us:List Value} (r:a_ xs us):us=[] ↔ xs=[]:=by
 cases r with
 | nil=>simp
 | cons _ _=>simp
theorem yE:OpR X (binaryOp .Add) (zI X.K):=by
 intro pins s σ H x y v u Q I rx ry h
 obtain ⟨a,b,xs,ys,rfl,rfl,ha,hb,hx,hz,q1,q2⟩:=h
 cases rx
 cases ry
 obtain ⟨its,r1,p1,_⟩:=I.tuple ha
 obtain ⟨its2,r2,p2,_⟩:=I.tuple hb
 refine HT.cat_tup p1 p2 (fun z=>hx (r1.nil_iff.mp z)) (fun z=>⟨.ref a,H,I,rfl,q1 (r2.nil_iff.mp z)⟩) (fun z=>?_) (by rw [← r1.length,← r2.length]; exact hz)
 refine ⟨.ref s.heap.objs.size,_,I.laid (t':=s.toks) (o:=.tup (xs ++ ys)) (fun b ob q=>DQ _ q) (DY _) ?_,rfl,q2 (fun w=>z (r2.nil_iff.mpr w)) _ (I.hok.fresh (DY _))⟩
 exact ⟨by rw [DZ]; exact hz,_,r1.append r2,IsTup.new _ _⟩
end
def ixN (n:Nat) (i:Int):Option Nat:=if 0≤i then (if i < n then some i.toNat else none) else if -(n:Int)≤i then some (i + n).toNat else none
def atI {α:Type} (xs:List α) (i:Int):Option α:=(ixN xs.length i).bind fun j=>xs[j]?
theorem sg {n:Nat}{i:Int}{j:Nat} (h:ixN n i=some j):seqIndex? i n=some j∧j < n∧-(n:Int)≤i∧i < n:=by
 unfold ixN at h
 by_cases h0:0≤i
 ·rw [if_pos h0] at h
  by_cases h1:i < n
  ·rw [if_pos h1] at h
   have e:i.toNat=j:=DR h
   exact ⟨by rw [seqIndex_of h0 h1,e],by omega,by omega,h1⟩
  ·rw [if_neg h1] at h; cases h
 ·rw [if_neg h0] at h
  by_cases h1 : -(n:Int)≤i
  ·rw [if_pos h1] at h
   have e:(i + n).toNat=j:=DR h
   exact ⟨by rw [seqIndex_neg (by omega) h1,e],by omega,h1,by omega⟩
  ·rw [if_neg h1] at h; cases h
theorem nR {α:Type}{xs:List α}{i:Int}{v:α} (h:atI xs i=some v):∃ j,seqIndex? i xs.length=some j∧xs[j]? = some v∧j < xs.length∧-(xs.length:Int)≤i∧i < xs.length:=by
 unfold atI at h
 cases e:ixN xs.length i with
 | none=>rw [e] at h; cases h
 | some j =>
  rw [e] at h
  obtain ⟨h1,h2,h3,h4⟩:=sg e
  exact ⟨j,h1,h,h2,h3,h4⟩
def sR (b:Expr):Prop:=∀ o i,subscripted b false o i=operate [o,i] (getItem o i)
def IxR (X:Cx) (r:R2):Prop :=
 ∀ (value slice:Expr) (pins:List (Addr×Obj)) (s:Shared) (σ:St) (H:Hp) (x y:V) (v u:Value) (Q:VK),Inv X pins σ H s→bh x v→bh y u→r x y H Q →
  subscripted slice false v u=operate [v,u] (getItem v u)→wpAny (model X.prog X.w) X.A (subscriptTail value slice v u) (EP X pins σ Q) X.xe s
def MtR (X:Cx) (id:String) (r:V→List V→Hp→VK→Prop):Prop :=
 ∀ (pins:List (Addr×Obj)) (s:Shared) (σ:St) (H:Hp) (x:V) (xs:List V) (v:Value) (us:List Value) (Q:VK),Inv X pins σ H s→bh x v→a_ xs us→r x xs H Q →
  wpAny (model X.prog X.w) X.A (call (.builtin id) (v :: us)) (EP X pins σ Q) X.xe s
section
variable {X:Cx}{a b:Expr}{ta tb:TE}{pos:Pos}
theorem IxR.or {r r':R2} (h:IxR X r) (h':IxR X r'):IxR X (fun x y H Q=>r x y H Q∨r' x y H Q):=by
 intro value slice pins s σ H x y v u Q I rx ry q hs
 rcases q with q | q
 ·exact h value slice pins s σ H x y v u Q I rx ry q hs
 ·exact h' value slice pins s σ H x y v u Q I rx ry q hs
theorem Cn {r:R2} (hr:IxR X r) (ha:PE X a ta) (hb:PE X b tb) (hs:sR b):PE X (.Subscript a b pos) (tOp r ta tb):=by
 intro pins s σ H Q I h
 exact Subscript_ (BA ha hb I h fun v u s2 x y H2 I2 rx ry q=>hr a b pins s2 σ H2 x y v u Q I2 rx ry q (hs _ _))
def Cg (K:PySem.W.Frag):R2:=fun x y H Q=>∃ p xs i v,x=.ref p∧y=.int i∧SqL K H p xs∧atI xs i=some v∧Q v H
def Ce (K:PySem.W.Frag):R2:=fun x y H Q=>∃ p xs i v,x=.ref p∧y=.int i∧SqT K H p xs∧atI xs i=some v∧Q v H
def Cf:R2:=fun x y H Q=>∃ z i c,x=.str z∧y=.int i∧z.length≤sizeLine∧atI z.cps.toList i=some c∧Q (.str ⟨#[c]⟩) H
theorem yX:IxR X (Cg X.K):=by
 intro value slice pins s σ H x y v u Q I rx ry h hs
 obtain ⟨p,xs,i,z,rfl,rfl,hq,he,q⟩:=h
 cases rx
 obtain ⟨t,rfl⟩:=ry
 obtain ⟨its,r,pl,hz⟩:=I.list hq
 obtain ⟨j,h1,h2,h3,h4,h5⟩:=nR he
 obtain ⟨w,ew,rw'⟩:=r.get h2
 have hl:=r.length
 have hn:=kA
 have fin:EP X pins σ Q w s:=⟨z,H,I,rw',q⟩
 by_cases h0:0≤i
 ·have hj:i.toNat=j:=by
   rw [seqIndex_of h0 h5] at h1
   exact DR h1
  exact item_listR pl.isList h0 (by omega) (by rw [hj]; simpa using ew) fin hs
 ·have hj:(i + (its.toArray.size:Int)).toNat=j:=by
   rw [seqIndex_neg (by omega) h4] at h1
   rw [DV,← hl]
   exact DR h1
  exact subscriptTail_builtinR (x:=w) pl.isList.typeIs slot_list_getitem.lookup
   (wpAny_getItem_list_neg (Q:=fun r s'=>r=w∧EP X pins σ Q r s') pl.isList (by omega) (by rw [DV] <;> omega) (by omega) (by rw [hj]; simpa using ew) ⟨rfl,fin⟩) hs
theorem A7:IxR X (Ce X.K):=by
 intro value slice pins s σ H x y v u Q I rx ry h hs
 obtain ⟨p,xs,i,z,rfl,rfl,hq,he,q⟩:=h
 cases rx
 obtain ⟨t,rfl⟩:=ry
 obtain ⟨its,r,pl,hz⟩:=I.tuple hq
 obtain ⟨j,h1,h2,h3,h4,h5⟩:=nR he
 obtain ⟨w,ew,rw'⟩:=r.get h2
 have hl:=r.length
 have hn:=kA
 have fin:EP X pins σ Q w s:=⟨z,H,I,rw',q⟩
 exact subscriptTail_builtinR (x:=w) pl.typeIs slot_tuple_getitem.lookup
  (getItem_tuple (j:=j) (Q:=fun r s'=>r=w∧EP X pins σ Q r s') pl (by omega) (by omega) (by rw [DV,← hl]; exact h1) (by simpa using ew) ⟨rfl,fin⟩) hs
theorem A8:IxR X Cf:=by
 intro value slice pins s σ H x y v u Q I rx ry h hs
 obtain ⟨z,i,c,rfl,rfl,hz,he,q⟩:=h
 obtain ⟨t,rfl⟩:=rx
 obtain ⟨t',rfl⟩:=ry
 obtain ⟨j,h1,h2,h3,h4,h5⟩:=nR he
 have hl:z.cps.toList.length=z.length:=by simp [Str.length]
 rw [hl] at h1 h4 h5
 have hn:=kA
 exact tail_any (typeIs_str s z t) slot_str_getitem.lookup (getItem_str (c:=c) (by
  have e1:decide (i < -(2 ^ 63:Int))=false:=D5 (by omega)
  have e2:decide (i ≥ 2 ^ 63)=false:=D5 (by omega)
  rw [e1,e2,FJ]) (by rw [h1]; simpa using h2) ⟨.str ⟨#[c]⟩,H,I.tok _,⟨_,rfl⟩,q⟩) hs
def rIx (K:PySem.W.Frag):R2:=fun x y H Q=>Cg K x y H Q∨Ce K x y H Q∨Cf x y H Q
theorem A9:IxR X (rIx X.K):=yX.or (A7.or A8)
theorem qL (its:List Value) (n j:Nat) (u:Value):Obj.mapSeq (·.setIfInBounds j u) { cls:=.type "list",data:=.seq its.toArray n }={ cls:=.type "list",data:=.seq (its.set j u).toArray n }:=by
 simp [Obj.mapSeq]
theorem Inv.lst {pins:List (Addr×Obj)} {σ:St}{H:Hp}{s:Shared}{p:Addr}{xs:List V} (I:Inv X pins σ H s) (h:H p=some (.lst xs)) :
  ∃ (its:List Value) (n:Nat),a_ xs its∧s.heap.get? p=some { cls:=.type "list",data:=.seq its.toArray n }∧xs.length≤sizeLine:=by
 obtain ⟨z,its,n,r,e⟩:=I.hok p _ h
 exact ⟨its,n,r,e,z⟩
theorem Inv.lstUpd {pins:List (Addr×Obj)} {σ:St}{H:Hp}{s:Shared}{p:Addr}{xs ys:List V}{its its':List Value}{n n':Nat}{f:Obj→Obj} (I:Inv X pins σ H s) (h:H p=some (.lst xs))
  (ho:s.heap.get? p=some { cls:=.type "list",data:=.seq its.toArray n }) (hf:f { cls:=.type "list",data:=.seq its.toArray n }={ cls:=.type "list",data:=.seq its'.toArray n' }) (r:a_ ys its') (hz:ys.length≤sizeLine) (t:Nat) :
  Inv X pins σ (upd H p (.lst ys)) { s with heap:=s.heap.update p f,toks:=t }:=by
 have e:(s.heap.update p f).get? p=some { cls:=.type "list",data:=.seq its'.toArray n' }:=by
  rw [Er f ho (by rw [hf] <;> rfl),hf]
 refine I.write (x:=p) (e:=p) (by rw [h]; trivial) (.inl rfl) (fun b u hb q=>(Ec _ _ (Ne.symm hb)).trans q) ⟨_,e⟩ ?_
 exact ⟨hz,its',n',r,e⟩
def Cc:V→V→V→Hp→(Hp→Prop)→Prop:=fun o i v H Q=>∃ p xs k j,o=.ref p∧i=.int k∧H p=some (.lst xs)∧ixN xs.length k=some j∧Q (upd H p (.lst (xs.set j v)))
theorem vH:CV X Cc:=by
 intro pins s σ H o i v ov iv u Q I ro ri rv h
 obtain ⟨p,xs,k,j,rfl,rfl,hp,hj,q⟩:=h
 cases ro
 obtain ⟨t,rfl⟩:=ri
 obtain ⟨its,n,r,ho,hz⟩:=I.lst hp
 obtain ⟨h1,h2,h3,h4⟩:=sg hj
 have hl:=r.length
 have hn:=kA
 have I':Inv X pins σ (upd H p (.lst (xs.set j v))) { s with heap:=s.heap.update p (Obj.mapSeq (·.setIfInBounds j u)) } :=
  I.lstUpd hp ho (qL its n j u) (r.set rv j) (by rw [EF]; exact hz) s.toks
 by_cases h0:0≤k
 ·have hk:k.toNat=j:=by
   rw [seqIndex_of h0 h4] at h1
   exact DR h1
  exact PySem.W.ki_setAt ho h0 (by omega) (by rw [DV,← hl]; exact h4) (by rw [hk]; exact ⟨_,I',q⟩)
 ·have hk:(k + (its.toArray.size:Int)).toNat=j:=by
   rw [seqIndex_neg (by omega) h3] at h1
   rw [DV,← hl]
   exact DR h1
  exact PySem.W.ki_setBack ho (by omega) (by rw [DV,← hl]; exact h3) (by omega) (by rw [hk]; exact ⟨_,I',q⟩)
theorem m4 (lo hi:Option Int) (n:Nat):(sliceBounds lo hi none n).1=((HT.sIx n 0 lo:Nat):Int)∧(sliceBounds lo hi none n).2.1=((HT.sIx n n hi:Nat):Int)∧(sliceBounds lo hi none n).2.2=1:=by
 refine ⟨?_,?_,rfl⟩
 ·cases lo with
  | none=>simp [sliceBounds,HT.sIx]
  | some i =>
   simp only [sliceBounds,HT.sIx,Option.getD_none,show (1:Int) > 0 by decide,if_true]
   by_cases h:i < 0
   ·simp only [h,if_true] <;> omega
   ·simp only [h,FU] <;> omega
 ·cases hi with
  | none=>simp [sliceBounds,HT.sIx]
  | some i =>
   simp only [sliceBounds,HT.sIx,Option.getD_none,show (1:Int) > 0 by decide,if_true]
   by_cases h:i < 0
   ·simp only [h,if_true] <;> omega
   ·simp only [h,FU] <;> omega
theorem ly (its:List Value) (lo hi:Option Int):slicePick its.toArray lo hi none=((its.drop (HT.sIx its.length 0 lo)).take (HT.sIx its.length its.length hi - HT.sIx its.length 0 lo)).toArray:=by
 obtain ⟨h1,h2,h3⟩:=m4 lo hi its.toArray.size
 unfold slicePick
 rw [h1,h2,h3]
 simp only [sliceRange_one,pick_run,DV] <;> rfl
def Cb (K:PySem.W.Frag):V→Option Int→Option Int→Hp→VK→Prop:=fun x lo hi H Q=>∃ a xs,x=.ref a∧SqL K H a xs∧∀ p,H p=none→Q (.ref p) (upd H p (.lst (jC xs lo hi)))
theorem xW:SlR X (Cb X.K):=by
 intro pins s σ H x v vl vu lo hi sl Q I rx hs pl pu h
 obtain ⟨a,xs,rfl,hx,q⟩:=h
 cases rx
 obtain ⟨its,r,ht,hz⟩:=I.list hx
 have hlen:=r.length
 refine ⟨"list",_,slot_list_getitem.lookup,ht.isList.typeIs,?_⟩
 refine wpAny_getItem_list_slice ht.isList hs pl pu .none (by simp) ?_ (by rw [DV] <;> omega)
 rw [ly,← hlen]
 refine ⟨.ref s.heap.objs.size,_,I.laid (t':=s.toks) (o:=.lst (jC xs lo hi)) (fun b ob q=>DQ _ q) (DY _) ?_,rfl,q _ (I.hok.fresh (DY _))⟩
 exact ⟨D6 (jw xs lo hi) hz,_,0,(r.drop (HT.sIx xs.length 0 lo)).take (HT.sIx xs.length xs.length hi - HT.sIx xs.length 0 lo),D0 _ rfl⟩
def gK:V→Bool
 | .non=>true
 | .bl _=>true
 | .int _=>true
 | .str _=>true
 | _=>false
def eqV:V→V→Bool
 | .non,.non=>true
 | .bl a,.bl b=>a == b
 | .bl a,.int b=>(if a then 1 else 0) == b
 | .int a,.bl b=>a == (if b then 1 else 0)
 | .int a,.int b=>a == b
 | .str a,.str b=>a == b
 | _,_=>false
theorem Bs {A:Around}{s:Shared}{y x:V}{u v:Value} (ry:bh y u) (rx:bh x v) (fy:gK y=true) (fx:gK x=true):SeqAt.EqAt A s u v (eqV y x):=by
 cases y with
 | non =>
  cases ry
  cases x with
  | non=>cases rx; exact SeqAt.EqAt.same _
  | bl b=>cases rx; exact SeqAt.EqAt.none_bool b
  | int b=>obtain ⟨t,rfl⟩:=rx; exact SeqAt.EqAt.none_int b t
  | str b=>obtain ⟨t,rfl⟩:=rx; exact SeqAt.EqAt.none_str b t
  | _=>exact absurd (show false=true from fx) D4
 | bl a =>
  cases ry
  cases x with
  | non=>cases rx; exact SeqAt.EqAt.bool_none a
  | bl b=>cases rx; exact SeqAt.EqAt.bool_bool a b
  | int b=>obtain ⟨t,rfl⟩:=rx; exact SeqAt.EqAt.bool_int a b t
  | str b=>obtain ⟨t,rfl⟩:=rx; exact SeqAt.EqAt.bool_str a b t
  | _=>exact absurd (show false=true from fx) D4
 | int a =>
  obtain ⟨t',rfl⟩:=ry
  cases x with
  | non=>cases rx; exact SeqAt.EqAt.int_none a t'
  | bl b=>cases rx; exact SeqAt.EqAt.int_bool a t' b
  | int b=>obtain ⟨t,rfl⟩:=rx; exact SeqAt.EqAt.int_int a t' b t
  | str b=>obtain ⟨t,rfl⟩:=rx; exact SeqAt.EqAt.int_str a t' b t
  | _=>exact absurd (show false=true from fx) D4
 | str a =>
  obtain ⟨t',rfl⟩:=ry
  cases x with
  | non=>cases rx; exact SeqAt.EqAt.str_none a t'
  | bl b=>cases rx; exact SeqAt.EqAt.str_bool a t' b
  | int b=>obtain ⟨t,rfl⟩:=rx; exact SeqAt.EqAt.str_int a t' b t
  | str b=>obtain ⟨t,rfl⟩:=rx; exact SeqAt.EqAt.str_str a t' b t
  | _=>exact absurd (show false=true from fx) D4
 | _=>exact absurd (show false=true from fy) D4
def eqU (x:V) (u:Value):Bool:=match u with
 | .none=>eqV .non x
 | .bool b=>eqV (.bl b) x
 | .int i _=>eqV (.int i) x
 | .str z _=>eqV (.str z) x
 | _=>false
theorem xj {x y:V}{u:Value} (r:bh y u) (f:gK y=true):eqU x u=eqV y x:=by
 cases y with
 | non=>cases r; rfl
 | bl b=>cases r; rfl
 | int i=>obtain ⟨t,rfl⟩:=r; rfl
 | str z=>obtain ⟨t,rfl⟩:=r; rfl
 | _=>exact absurd (show false=true from f) D4
theorem nS {x:V}:∀ {xs:List V}{us:List Value},a_ xs us→xs.all gK=true→us.any (eqU x)=xs.any fun y=>eqV y x
 | _,_,.nil,_=>rfl
 | y :: xs,u :: us,.cons r t,f=>by
  rw [E_,EA] at f
  rw [Fe,Fe,xj r f.1,nS t f.2]
theorem kt {A:Around}{s:Shared}{x:V}{v:Value} (rx:bh x v) (fx:gK x=true):∀ {xs:List V}{us:List Value},a_ xs us→xs.all gK=true→∀ u ∈ us,SeqAt.EqAt A s u v (eqU x u)
 | _,_,.nil,_=>fun u hu=>by cases hu
 | y :: xs,u :: us,.cons r t,f=>fun u' hu=>by
  rw [E_,EA] at f
  rcases List.mem_cons.mp hu with rfl | hu
  ·rw [xj r f.1]; exact Bs r rx f.1 fx
  ·exact kt rx fx t f.2 u' hu
def inV (x:V) (xs:List V):Bool:=xs.any fun y=>eqV y x
def rIn (K:PySem.W.Frag) (neg:Bool):R2:=fun x y H Q=>∃ p xs,y=.ref p∧(SqL K H p xs∨SqT K H p xs)∧gK x=true∧xs.all gK=true∧Q (.bl (if neg then !inV x xs else inV x xs)) H
theorem nc:OpR X (compareOp .NotIn) (rIn X.K true):=by
 intro pins s σ H x y v u Q I rx ry h
 obtain ⟨p,xs,rfl,hq,fx,fs,q⟩:=h
 cases ry
 rcases hq with hq | hq
 ·obtain ⟨its,r,pl,hz⟩:=I.list hq
  refine SeqAt.notIn_listAt (eqU x) pl.isList (fun w hw=>kt rx fx r fs w (by simpa using hw)) ⟨.bl _,H,I,rfl,?_⟩
  rw [show its.toArray.any (eqU x)=its.any (eqU x) by simp,nS r fs]
  exact q
 ·obtain ⟨its,r,pl,hz⟩:=I.tuple hq
  refine SeqAt.notIn_tupleAt (eqU x) pl (fun w hw=>kt rx fx r fs w (by simpa using hw)) ⟨.bl _,H,I,rfl,?_⟩
  rw [show its.toArray.any (eqU x)=its.any (eqU x) by simp,nS r fs]
  exact q
theorem lI:dc X (.type "tuple") (fun xs H Q=>∃ p ys,xs=[.ref p]∧((SqL X.K H p ys∧∀ l,H l=none→Q (.ref l) (upd H l (.tup ys)))∨(SqT X.K H p ys∧Q (.ref p) H))):=by
 intro pins s σ H xs us Q I r h
 obtain ⟨p,ys,rfl,h⟩:=h
 obtain ⟨u,rfl,rx⟩:=gz r
 cases rx
 rcases h with ⟨hq,q⟩ | ⟨hq,q⟩
 ·obtain ⟨its,r',pl,hz⟩:=I.list hq
  have hlen:=r'.length
  refine call_tuple_list pl.isList (fun h' kp=>?_) (by simp only [DV] <;> omega)
  have I1:Inv X pins σ H { s with heap:=h' }:=I.kept (t':=s.toks) kp
  have I2:Inv X pins σ (upd H h'.objs.size (.tup ys)) { s with heap:=h'.push { cls:=.type "tuple",data:=.seq its.toArray } } :=
   I1.laid (t':=s.toks) (fun b o e=>DQ _ e) (DY _) (show cF X.prog X.w _ _ _ (.tup ys) from ⟨hz,its,r',IsTup.new _ _⟩)
  exact ⟨.ref h'.objs.size,_,I2,rfl,q _ (I1.hok.fresh (DY _))⟩
 ·obtain ⟨its,r',pl,hz⟩:=I.tuple hq
  exact call_tuple_same pl ⟨.ref p,H,I,rfl,q⟩
def tyV (K:PySem.W.Frag) (T:String) (x:V) (H:Hp):Prop:=match x with
 | .str _=>T = "str"
 | .int _=>T = "int"
 | .ref p=>(T = "list"∧∃ xs,SqL K H p xs)∨(T = "tuple"∧∃ o,K.lookup p=some o∧o.cls=.type "tuple"∧o.dict=none) ∨
   (T = "dict"∧((∃ kvs,H p=some (.dK kvs))∨∃ kvs,H p=some (.dT kvs)))∨(T = "set"∧∃ S n,H p=some (.set S n))
 | _=>False
theorem z6 {pins:List (Addr×Obj)} {σ:St}{H:Hp}{s:Shared}{T:String}{x:V}{v:Value} (I:Inv X pins σ H s) (r:bh x v) (ty:tyV X.K T x H) :
  s.TypeIs v T∧∀ a,v=.ref a→∃ ob,s.heap.get? a=some ob∧ob.dict=none:=by
 cases x with
 | str z =>
  obtain ⟨t,rfl⟩:=r
  cases (show T = "str" from ty)
  exact ⟨typeIs_str s z t,fun _ e=>nomatch e⟩
 | int i =>
  obtain ⟨t,rfl⟩:=r
  cases (show T = "int" from ty)
  exact ⟨typeIs_int s i t,fun _ e=>nomatch e⟩
 | ref p =>
  cases r
  rcases ty with ⟨rfl,xs,hq⟩ | ⟨rfl,o,hk,hc,hd⟩ | ⟨rfl,hk⟩ | ⟨rfl,S,n,hk⟩
  ·obtain ⟨its,_,pl,_⟩:=I.list hq
   refine ⟨pl.isList.typeIs,fun a e=>?_⟩
   cases e
   obtain ⟨o,n,e,c,hd,_⟩:=pl
   exact ⟨o,e,hd⟩
  ·refine ⟨⟨o,I.kIn p o hk,hc⟩,fun a e=>?_⟩
   cases e
   exact ⟨o,I.kIn _ o hk,hd⟩
  ·have z:∃ o,s.heap.get? p=some o∧o.ExactDict:=by
    rcases hk with ⟨kvs,hk⟩ | ⟨kvs,hk⟩
    ·obtain ⟨_,_,_,_,o,_,_,e,ex,_⟩:=I.hok p _ hk
     exact ⟨o,e,ex⟩
    ·obtain ⟨_,_,_,_,o,_,_,e,ex,_⟩:=I.hok p _ hk
     exact ⟨o,e,ex⟩
   obtain ⟨o,e,ex⟩:=z
   refine ⟨⟨o,e,ex.1⟩,fun a e2=>?_⟩
   cases e2
   exact ⟨o,e,ex.2.1⟩
  ·obtain ⟨o,_,_,_,e,ex,_⟩:=I.hok p _ hk
   refine ⟨⟨o,e,ex.1⟩,fun a e2=>?_⟩
   cases e2
   exact ⟨o,e,ex.2.1⟩
 | _=>exact False.elim ty
def tBM (K:PySem.W.Frag) (T:String) (r:V→List V→Hp→VK→Prop) (to:TE) (t:TA):TE:=fun σ H Q=>to σ H fun x H1=>tyV K T x H1∧t σ H1 fun xs H2=>r x xs H2 Q
variable {o e:Expr}{es:List Expr}{to:TE}{t:TA}{name:Str}{apos cpos:Pos}{T id:String}{r:V→List V→Hp→VK→Prop}
theorem rV (pa:PlainAttrs T) (slot:Slot T name id) (hty:typeOf (.builtin id)=pure (.type "method_descriptor")) (hm:MtR X id r) (ho:PE X o to) (ha:PA X (e :: es) t)
  (hbase:attributeBase o name X.env (eval o X.env)=eval o X.env:=by rfl)
  (hfew:((backTo cpos (starEach (e :: es) X.env)).all (fun x => !x.1) && (backToKw cpos (keywordEach [] X.env)).all (fun x=>x.1.isSome)
   && decide ((e :: es).length + ([]:List Keyword).length + (if ([]:List Keyword).isEmpty then 0 else 1) < 30))=true:=by rfl)
  (hline:(apos.endLine == cpos.line)=true:=by rfl) (hs:starEach (e :: es) X.env=(false,eval e X.env) :: starEach es X.env:=by rfl) (hplain:(backTo cpos (starEach es X.env)).any (·.1)=false:=by rfl) :
  PE X (.Call (.Attribute o name apos) (e :: es) [] cpos) (tBM X.K T r to t):=by
 intro pins s σ H Q I h
 refine wpAny_Call_method_late hbase hfew hline rfl (thn (ho pins s σ H _ I h) fun v s1 zz46_0=>?_)
 obtain ⟨x,H1,I1,r1,ty,q1⟩:=zz46_0
 obtain ⟨h1,h2⟩:=z6 I1 r1 ty
 refine ⟨T,id,pa,slot,hty,h1,h2,?_⟩
 have hA:=ha cpos pins s1 σ H1 _ I1 q1
 rw [hs] at hA ⊢
 refine Calls.callWith_builtin (by show (false || (backTo cpos (starEach es X.env)).any (·.1))=false; rw [hplain] <;> rfl) (Calls.evalArgs_plain ?_)
 exact thn hA fun us s2 zz47_0=>by obtain ⟨vs,H2,I2,r2,q2⟩:=zz47_0; exact hm pins s2 σ H2 x vs v us Q I2 r1 r2 q2
end
def MtM (X:Cx) (id:String) (r:V→List V→Hp→VK→Prop):Prop :=
 ∀ (pins:List (Addr×Obj)) (s:Shared) (σ:St) (H:Hp) (x:V) (xs:List V) (v:Value) (us:List Value) (Q:VK),Inv X pins σ H s→bh x v→a_ xs us→r x xs H Q →
  wpAny (model X.prog X.w) X.A (call (.builtin id) (v :: us)) (EP X pins σ Q) X.xe s
theorem a_.one:∀ {x:V}{us:List Value},a_ [x] us→∃ u,us=[u]∧bh x u:=by
 intro x us h
 cases h with
 | cons r h=>cases h; exact ⟨_,rfl,r⟩
theorem a_.two:∀ {x y:V}{us:List Value},a_ [x,y] us→∃ u v,us=[u,v]∧bh x u∧bh y v:=by
 intro x y us h
 cases h with
 | cons r h=>cases h with
  | cons q h=>cases h; exact ⟨_,_,rfl,r,q⟩
theorem a_.zero:∀ {us:List Value},a_ [] us→us=[]
 | _,.nil=>rfl
theorem a_.reverse {xs:List V}{us:List Value} (h:a_ xs us):a_ xs.reverse us.reverse:=by
 induction h with
 | nil=>exact .nil
 | cons r t ih=>rw [FM,FM]; exact a_.append ih (.cons r .nil)
theorem a_.rep {xs:List V}{us:List Value} (h:a_ xs us):∀ k:Nat,a_ (List.replicate k xs).flatten (List.replicate k us).flatten
 | 0=>.nil
 | k + 1=>by
  rw [Eb,Eb,Em,Em]
  exact a_.append h (a_.rep h k)
theorem mm (its:List Value):∀ (k:Nat) (acc:List Value),
  List.foldl (fun x1 x2=>x1 ++ x2) acc.toArray (List.replicate k its.toArray)=(acc ++ (List.replicate k its).flatten).toArray
 | 0,acc=>by simp
 | k + 1,acc=>by
  have e:acc.toArray ++ its.toArray=(acc ++ its).toArray:=by simp
  have e2:(acc ++ its) ++ (List.replicate k its).flatten=acc ++ (List.replicate (k + 1) its).flatten:=by
   rw [Eb,Em,E6]
  rw [← e2,← mm its k (acc ++ its),← e,Eb,DM]
section
variable {X:Cx}{pins:List (Addr×Obj)} {σ:St}{H:Hp}{s:Shared}{l b:Addr}{xs ys zs:List V}
theorem Inv.lset {its its':List Value}{n:Nat}{f:Array Value→Array Value}{t':Nat} (I:Inv X pins σ H s) (hH:H l=some (.lst xs))
  (e:s.heap.get? l=some { cls:=.type "list",data:=.seq its.toArray n }) (hf:f its.toArray=its'.toArray) (hv:a_ ys its') (hz:ys.length≤sizeLine) :
  Inv X pins σ (upd H l (.lst ys)) { s with heap:=s.heap.update l (Obj.mapSeq f),toks:=t' }:=by
 have q:=PySem.IsL.update e f
 rw [hf] at q
 refine I.write (x:=l) (e:=l) (by rw [hH]; exact trivial) (.inl rfl) (fun b' u hb hu=>(Ec s.heap (Obj.mapSeq f) (Ne.symm hb)).trans hu) ⟨_,q⟩ ?_
 exact ⟨hz,its',_,hv,q⟩
theorem Inv.lnew {its:List Value}{t':Nat} (I:Inv X pins σ H s) (hv:a_ ys its) (hz:ys.length≤sizeLine) :
  Inv X pins σ (upd H s.heap.objs.size (.lst ys)) { s with heap:=s.heap.push { cls:=.type "list",data:=.seq its.toArray },toks:=t' } :=
 I.laid (fun _ _ q=>DQ _ q) (DY _) ⟨hz,its,0,hv,D0 _ rfl⟩
theorem Inv.fresh (I:Inv X pins σ H s):H s.heap.objs.size=none:=I.hok.fresh (DY _)
theorem Inv.lstM (I:Inv X pins σ H s) (hH:H l=some (.lst xs)):xs.length≤sizeLine∧∃ (its:List Value) (n:Nat),a_ xs its∧xs.length=its.length∧s.heap.get? l=some { cls:=.type "list",data:=.seq its.toArray n }:=by
 obtain ⟨z,its,n,r,e⟩:=I.hok l _ hH
 exact ⟨z,its,n,r,r.length,e⟩
theorem o5 {n:Nat} (h:n≤sizeLine):Builtin.List.listTooLong n=false:=by
 unfold Builtin.List.listTooLong
 exact D5 (by omega)
end
section
variable {X:Cx}
def yi:V→List V→Hp→VK→Prop:=fun x vs H Q=>∃ l xs y,x=.ref l∧vs=[y]∧H l=some (.lst xs)∧xs.length < sizeLine∧Q .non (upd H l (.lst (xs ++ [y])))
theorem l9:MtM X "list.append" yi:=by
 intro pins s σ H x vs v us Q I rx rv h
 obtain ⟨l,xs,y,rfl,rfl,hH,hz,q⟩:=h
 cases rx
 obtain ⟨u,rfl,ru⟩:=rv.one
 obtain ⟨z,its,n,r,hl,e⟩:=I.lstM hH
 refine G2 F.slot_list_append ⟨_,e,rfl⟩ F.entry_list_append (F.args_list_append_2 _ _) (PySem.list_append l its.toArray n u (by rw [DV]; omega)) ⟨e,?_⟩
 refine ⟨.non,_,I.lset (its':=its ++ [u]) hH e (by simp) (r.append (.cons ru .nil)) ?_,rfl,q⟩
 rw [DZ,ET]
 omega
def yh:V→List V→Hp→VK→Prop:=fun x vs H Q=>∃ l b xs zs,x=.ref l∧vs=[.ref b]∧H l=some (.lst xs)∧H b=some (.lst zs)∧xs.length + zs.length≤sizeLine∧Q .non (upd H l (.lst (xs ++ zs)))
theorem uk:MtM X "list.extend" yh:=by
 intro pins s σ H x vs v us Q I rx rv h
 obtain ⟨l,b,xs,zs,rfl,rfl,hH,hB,hz,q⟩:=h
 cases rx
 obtain ⟨u,rfl,ru⟩:=rv.one
 cases ru
 obtain ⟨z,its,n,r,hl,e⟩:=I.lstM hH
 obtain ⟨z2,its2,n2,r2,hl2,e2⟩:=I.lstM hB
 have hsz:its.toArray.size + its2.toArray.size≤sizeLine:=by rw [DV,DV]; omega
 have hlong:¬ (!its.toArray.isEmpty && Builtin.List.listTooLong (its.toArray.size + its2.toArray.size))=true:=by
  rw [o5 hsz,Fx]
  exact D4
 refine G2 F.slot_list_extend ⟨_,e,rfl⟩ F.entry_list_extend (F.args_list_extend_2 _ _)
  (AutoSeq1.list_extend_list_list_0 l its.toArray n b its2.toArray n2 hlong (by rw [DV]; omega) (by omega)) ⟨e,e2,?_⟩
 refine ⟨.non,_,I.lset (its':=its ++ its2) hH e (by simp) (r.append r2) ?_,rfl,q⟩
 rw [DZ]
 omega
def Ch:R2:=fun x y H Q=>∃ l b xs zs,x=.ref l∧y=.ref b∧H l=some (.lst xs)∧H b=some (.lst zs)∧xs.length + zs.length≤sizeLine∧∀ p,H p=none→Q (.ref p) (upd H p (.lst (xs ++ zs)))
theorem AY:OpR X (binaryOp .Add) Ch:=by
 intro pins s σ H x y v u Q I rx ry h
 obtain ⟨l,b,xs,zs,rfl,rfl,hH,hB,hz,q⟩:=h
 cases rx
 cases ry
 obtain ⟨z,its,n,r,hl,e⟩:=I.lstM hH
 obtain ⟨z2,its2,n2,r2,hl2,e2⟩:=I.lstM hB
 refine PySem.P.add_list e e2 ?_ (by rw [DV,DV]; omega)
 have ea:its.toArray ++ its2.toArray=(its ++ its2).toArray:=by simp
 rw [ea]
 exact ⟨.ref _,_,I.lnew (t':=s.toks) (r.append r2) (by rw [DZ]; omega),rfl,q _ I.fresh⟩
theorem se {α:Type} (xs:List α) (k:Nat):(List.replicate k xs).flatten.length=k * xs.length:=by
 induction k with
 | zero=>simp
 | succ k ih=>rw [Eb,Em,DZ,ih,Nat.succ_mul,Nat.add_comm]
end
end L2
namespace Att
open PySem PySem.W PySem.Calls PyProof.Rows
theorem jA {P:Params}{h:Heap}:∀ (ns:List Int) (vs:List Value),WellAll P h vs (ns.map WData.int)→IntsAre vs ns:=by
 intro ns
 induction ns with
 | nil =>
  intro vs w
  rw [DJ] at w
  cases w
  exact .nil
 | cons n ns ih =>
  intro vs w
  rw [DI] at w
  cases w with
  | cons a b =>
   cases a
   exact .cons _ _ (ih _ b)
theorem tH {l:OpenLaw}{n:Nat} (hn:l.most=some n) {P:Params}{h:Heap}{args:List WData}{vals:List Value}
  (hpre:l.row.toRowW.claim.pre args=true) (hwl:WellAll P h vals args) :
  ∃ a vs ns,vals=[Value.ref a]∧args=[WData.list (ns.map WData.int)]∧h.get? a=some { cls:=.type "list",data:=.seq vs.toArray }∧IntsAre vs ns∧ns.length≤n:=by
 have hsh:WShape.hasAll [] args [.list .int]=true:=(pre_splitW hpre).1
 have hc:l.pre.holds [] { args:=args }=true:=(pre_splitW hpre).2
 obtain ⟨d,r,rfl,h1,h2⟩:=hasAllW_cons hsh
 obtain rfl:=hasAllW_nil h2
 obtain ⟨xs,rfl,h3⟩:=hasW_list h1
 obtain ⟨ns,rfl⟩:=items_int h3
 have hlen:ns.length≤n:=by
  unfold OpenLaw.pre at hc
  have h4:(WTm.not (.lt (.lit (.int (n:Int))) (.len (.arg 0)))).holds [] { args:=[.list (ns.map .int)] }=true:=by
   have h4:=(holds_andW hc).1
   rw [hn] at h4
   exact h4
  have h5:=condW_of h4 (w_not (w_lt w_lit (w_len_list (w_arg rfl))))
  rw [DP] at h5
  refine Nat.le_of_not_lt fun q=>?_
  have q':(n:Int) < ((ns.length:Nat):Int):=by omega
  first
   | (rw [Ek q'] at h5; exact absurd h5 (by decide))
   | (simp at h5; omega)
 cases hwl with
 | cons w1 w2 =>
  cases w2
  cases w1 with
  | list ho hall=>exact ⟨_,_,ns,rfl,rfl,ho,jA ns _ hall,hlen⟩
theorem tV (l:OpenLaw) (args:List WData):l.row.toRowW.claim.post args (.bool true) args=true :=
 postW_of (r:=l.row.toRowW) (X:=(true == true))
  (show WShape.has [] (.bool true) .bool=true by first | rfl | decide | simp [WShape.has,WShape.arms,WShape.armsAll])
  (show (WTm.eq .res (.lit (.bool true))).value [] { args:=args,res:=some (.bool true),after:=args }=some (.bool (true == true)) from w_eq_bool (w_res rfl) w_lit) rfl
end Att
namespace L2
open PySem PySem.Spec PyProof.Rows
theorem lP:∀ {vs:List Value}{ns:List Int},IntsAre vs ns→a_ (ns.map V.int) vs
 | _,_,.nil=>.nil
 | _,_,.cons n t h=>.cons ⟨t,rfl⟩ (lP h)
def BD (H:Hp):Prop:=∀ b,H b=none∨∃ o xs,H b=some (.frz o (.lst xs))
theorem wF {P:Program}{w:World}{K:PySem.W.Frag}{mg mb:Str→Option Value}{CX:CXT}{k:Nat}{fa a:Addr}{fd:FuncData}{x:Str}{sp:Sp}{s₁:Shared}{vs:List Value}{ns:List Int}
  (KX:K.In s₁.heap) (hns:s₁.heap.Ns mainGlobals mg) (hb:s₁.heap.Ns builtinsNs mb) (hbb:∀ x:Str,x ≠ "__name__"→mb x=bootBuiltins x) (hlim:s₁.heap.NoLimit) (hg:s₁.gens=#[])
  (ha:s₁.heap.get? a=some { cls:=.type "list",data:=.seq vs.toArray }) (hi:IntsAre vs ns) (hl:ns.length≤sizeLine) (hr:du k callerA)
  (F:∀ base:Heap,K.In base→base.Ns mainGlobals mg→bD P w K mg base CX k fa fd [x] sp) (hbind:∀ (s:Shared) (u:Value),BindsTo s fd ⟨[u],[]⟩ [(x,u)])
  (hsp:∀ H:Hp,BD H→SqL K H a (ns.map V.int)→sp [.ref a] H (fun v _=>v=.bl true) fun _ _ _=>False)
  (hCX:∀ H e s',CX [] H s₁ (fun _ _ _=>False) e s'→False) :
  codeAny (model P w) callerA (.call (.ref fa) ⟨[.ref a],[]⟩) (fun r s'=>r=.ok (.ret (.bool true))∧OldK s₁.heap s'.heap∧s'.os=s₁.os∧AllBare s'.gens) s₁:=by
 have rv:=lP hi
 have lenV:=hi.length
 have core:∀ H:Hp,BD H→SqL K H a (ns.map V.int)→HOk P w H s₁.heap→(∀ b,H b ≠ none→b=a)→(H a ≠ none→K.lookup a=none) →
   codeAny (model P w) callerA (.call (.ref fa) ⟨[.ref a],[]⟩) (fun r s'=>r=.ok (.ret (.bool true))∧OldK s₁.heap s'.heap∧s'.os=s₁.os∧AllBare s'.gens) s₁:=by
  intro H hO hS hok hA hK
  have base_of:∀ {b:Addr}{o:Obj},s₁.heap.get? b=some o→H b=none→(nC s₁.heap H).get? b=some o:=fun e n=>wU e n
  have noA:∀ {b:Addr}{o:Obj}{es:Array DictEntry}{ep:Nat},s₁.heap.get? b=some o→o.data=.dict es ep→H b=none:=fun {b o es ep} e d=>by
   cases q:H b with
   | none=>rfl
   | some u =>
    have e':b=a:=hA b (by rw [q]; simp)
    subst e'
    rw [ha] at e; cases e
    have d':Data.seq vs.toArray _=Data.dict es ep:=d
    cases d'
  have nsK:∀ {b:Addr}{m:Str→Option Value},s₁.heap.Ns b m→(nC s₁.heap H).Ns b m:=fun {b m} zz48_0=>by obtain ⟨o,es,ep,e,d,r⟩:=zz48_0; exact ⟨o,es,ep,base_of e (noA e d),d,r⟩
  have hKb:K.In (nC s₁.heap H):=fun b o e=>base_of (KX b o e) (by
   cases q:H b with
   | none=>rfl
   | some u =>
    have e':b=a:=hA b (by rw [q]; simp)
    subst e'
    rw [hK (by rw [q]; simp)] at e; cases e)
  have hM:Mod K mg (nC s₁.heap H):=⟨hKb,nsK hns,⟨mb,nsK hb,hbb⟩,let ⟨mc,h1,h2⟩:=hlim; ⟨mc,nsK h1,h2⟩⟩
  have e0:rA P w K mg (nC s₁.heap H) callerA [] s₁ H:=⟨rfl,hM,fun b o e=>yI e,GA (uC _ _),trivial,fun b hb=>absurd (show b ∈ ([]:List Addr) from hb) (by simp),hok,.of_eq hg⟩
  refine FW ((F _ hKb (nsK hns)).run callerA [] s₁ H ⟨[.ref a],[]⟩ [.ref a] [.ref a] _ _ hr e0 (hbind s₁ (.ref a)) (.cons rfl .nil) (hsp H hO hS)) fun r s' h=>?_
  cases r with
  | error e=>exact (hCX H e s' h).elim
  | ok fl =>
   cases fl with
   | next=>exact False.elim h
   | brk=>exact False.elim h
   | cont=>exact False.elim h
   | ret u =>
    obtain ⟨v,H',os,bare,un,hok',r',q⟩:=h
    have q':v=.bl true:=q
    subst q'
    obtain rfl:u=Value.bool true:=r'
    refine ⟨rfl,OldK.of_keep fun b o e=>?_,os,bare⟩
    cases q:H b with
    | none=>exact un.keep b o e q (by intro z; exact absurd (show b ∈ ([]:List Addr) from z) (by simp)) (by simp)
    | some u =>
     rcases hO b with z | ⟨ob,xs,z⟩
     ·rw [q] at z; cases z
     ·have z2:=un.frzs b ob _ z
      obtain ⟨e1,_⟩:=hok b _ z
      obtain ⟨e2,_⟩:=hok' b _ z2
      rw [e] at e1; cases e1
      exact e2
 cases hk:K.lookup a with
 | some o =>
  have e:=KX a o hk
  rw [ha] at e
  cases e
  refine core (fun _=>none) (fun _=>.inl rfl) (.inr ⟨_,vs.toArray,_,hk,rfl,rfl,rfl,by rw [DV,lenV]; exact hl,by simpa using rv⟩) (fun b u z=>by have z':(none:Option HO)=some u:=z; cases z') (fun b z=>absurd rfl z) fun z=>absurd rfl z
 | none =>
  refine core (fun b=>if b=a then some (.frz { cls:=.type "list",data:=.seq vs.toArray } (.lst (ns.map V.int))) else none) (fun b=>?_) (.inl (.inr ⟨{ cls:=.type "list",data:=.seq vs.toArray },if_pos rfl⟩)) (fun b u z=>?_) (fun b z=>?_) fun _=>hk
  ·by_cases hb:b=a
   ·exact .inr ⟨_,_,if_pos hb⟩
   ·exact .inl (if_neg hb)
  ·by_cases hb:b=a
   ·have z':=(if_pos hb).symm.trans z
    cases z'
    subst hb
    exact ⟨ha,by rw [DP]; exact hl,vs,_,rv,ha⟩
   ·have z':=(if_neg hb).symm.trans z
    cases z'
  ·by_cases hb:b=a
   ·exact hb
   ·exact absurd (if_neg hb) z
def nA (s:Stmt) (j:Nat):Stmt:=match s with
 | .ClassDef _ _ _ body _ _ _ _ _ _ _=>body.getD j (.Pass ⟨0,0,0,0⟩)
 | _=>.Pass ⟨0,0,0,0⟩
def jM (s:Stmt):Arguments:=match s with
 | .FunctionDef _ a _ _ _ _ _ _ _ _=>a
 | _=>{ posonlyargs:=[],args:=[],vararg:=none,kwonlyargs:=[],kw_defaults:=[],kwarg:=none,defaults:=[] }
def eB (s:Stmt):List Stmt:=match s with
 | .FunctionDef _ _ b _ _ _ _ _ _ _=>b
 | _=>[]
def ai (s:Stmt):Scope:=match s with
 | .FunctionDef _ _ _ _ _ _ sc _ _ _=>sc
 | _=>{ kind:=.function,names:=[],isGenerator:=false,isCoroutine:=false }
abbrev CX0:CXT:=fun _ _ _ _ _ _=>False
abbrev E0:XK:=fun _ _ _=>False
theorem zK {X:Cx}:rl CX0 X E0:=fun _ _ _ _ _ _ _ h=>h.elim
structure Fun (K:PySem.W.Frag) (x qual:Str) (st:Stmt) (f:Addr) (fd:FuncData):Prop where
 ex:∃ (oc:Value) (od:Option Addr) (kV doc pm:Value) (an:Option Addr) (cdv ct:Value) (osl:Array (Option Value)),
  fd=PySem.W.fnOf x qual (jM st) (eB st) (ai st) .none kV doc pm an cdv ct∧K.lookup f=some ⟨oc,od,.func fd,osl⟩∧PySem.W.codeIn K cdv qual=true
 kp:PySem.W.keepIn K (.ref f)=true
section
variable {P:Program}{w:World}{K:PySem.W.Frag}{mg:Str→Option Value}{base:Heap}
theorem Fun.ok {x qual:Str}{st:Stmt}{f:Addr}{fd:FuncData}{N ps:List Str}{k:Nat}{sp:Sp} (F:Fun K x qual st f fd) (S:aP N ps (ai st)) (len:∀ vs H Q E,sp vs H Q E→vs.length=ps.length)
  (hbody:∀ (cdv:Value) (A:Around) (outer:List Env) (s:Shared) (H:Hp) (vs:List V) (Q:VK) (E:XK),du k (A.deeper (envOfC qual (ai st) s.heap.objs.size f cdv))→sp vs H Q E →
   ∃ t,PSs (jB CX0 P w K mg base N qual (ai st) f cdv A outer s H E).nox (eB st) t∧t { nx:=fun _ H'=>Q .non H',rt:=Q } (start N vs) H):bD P w K mg base CX0 (k + 1) f fd ps sp:=by
 obtain ⟨oc,od,kV,doc,pm,an,cdv,ct,osl,rfl,lk,hcd⟩:=F.ex
 refine zO lk hcd S len fun A outer s H vs Q E hr hsp=>?_
 obtain ⟨t,h,q⟩:=hbody cdv A outer s H vs Q E hr hsp
 exact ⟨t,h.nox,q⟩
theorem Fun.binds {x qual:Str}{st:Stmt}{f:Addr}{fd:FuncData}{ps:List Str} (F:Fun K x qual st f fd)
  (h:∀ (kV doc pm:Value) (an:Option Addr) (cdv ct:Value) (us:List Value),us.length=ps.length→bindArgs (PySem.W.fnOf x qual (jM st) (eB st) (ai st) .none kV doc pm an cdv ct) ⟨us,[]⟩=pure (ps.zip us)):bB K fd ps []:=by
 obtain ⟨oc,od,kV,doc,pm,an,cdv,ct,osl,rfl,lk,hcd⟩:=F.ex
 exact .all (h kV doc pm an cdv ct)
end
section
variable {X:Cx}
theorem pv (i:Nat) {x:Str}{pos:Pos} (hN:X.N[i]? = some x:=by rfl) (hv:Vis X.env.scope x:=by first | exact Or.inl rfl | exact Or.inr (Or.inl rfl) | exact Or.inr (Or.inr rfl)) (hd:(x == ("__debug__" : Str))=false:=by decide)
  (hcd:(x == ("__classdict__" : Str))=false:=by decide):PE X (.Name x pos) (jT i):=kc hN hv hd hcd
end
theorem qU {A B:Prop} (h:B):if false=true then A else B:=by
 rw [if_neg D4]
 exact h
theorem qT {A B:Prop} (h:A):if true=true then A else B:=by
 rw [if_pos rfl]
 exact h
section
variable {κ:Type} [DecidableEq κ]
def fB (kvs:List (κ×V)) (k:κ):Option V:=(kvs.find? fun kv=>decide (kv.1=k)).map (·.2)
def iz (kvs:List (κ×V)) (k:κ) (v:V):List (κ×V) :=
 if (kvs.any fun kv=>decide (kv.1=k))=true then kvs.map (fun kv=>if kv.1=k then (kv.1,v) else kv) else kvs ++ [(k,v)]
theorem jQ {p:κ×V}{r:List (κ×V)} {k:κ} (e:p.1=k):fB (p :: r) k=some p.2:=by simp [fB,EU,e]
theorem jR {p:κ×V}{r:List (κ×V)} {k:κ} (e:¬ p.1=k):fB (p :: r) k=fB r k:=by simp [fB,EU,e]
theorem n5 (k:κ):∀ kvs:List (κ×V),(kvs.any fun kv=>decide (kv.1=k))=(fB kvs k).isSome
 | []=>rfl
 | p :: r=>by
  rw [Fe]
  by_cases e:p.1=k
  ·simp only [jQ e,Ek e,Bool.true_or,Option.isSome_some]
  ·rw [jR e,D5 e,Bool.false_or]; exact n5 k r
theorem ju (kvs:List (κ×V)) (k:κ) (v:V):(iz kvs k v).length≤kvs.length + 1:=by
 unfold iz
 split
 ·rw [DP]; omega
 ·rw [DZ,DG,DH]; omega
theorem gw.isSome_eq {o:Option V}{u:Option Value} (r:gw o u):o.isSome=u.isSome:=by
 cases o with
 | none=>cases u with
  | none=>rfl
  | some _=>exact (show False from r).elim
 | some _=>cases u with
  | none=>exact (show False from r).elim
  | some _=>rfl
theorem gw.getD {o:Option V}{u:Option Value}{d:V}{d':Value} (r:gw o u) (rd:bh d d'):bh (o.getD d) (u.getD d'):=by
 cases o with
 | none=>cases u with
  | none=>exact rd
  | some _=>exact (show False from r).elim
 | some _=>cases u with
  | none=>exact (show False from r).elim
  | some _=>exact r
theorem KV.val {kvs:List (κ×V)} {vs:List (κ×Value)} (r:KV kvs vs) (k:κ):gw (fB kvs k) (valueAt vs k):=by
 unfold KV at r
 induction r with
 | nil=>exact True.intro
 | @cons p q ps qs h t ih =>
  obtain ⟨h1,h2⟩:=h
  by_cases e:p.1=k
  ·have e':q.1=k:=h1.symm.trans e
   have b:valueAt (q :: qs) k=some q.2:=by simp [valueAt,EU,e']
   rw [jQ e,b]; exact h2
  ·have e':¬ q.1=k:=fun z=>e (h1.trans z)
   have b:valueAt (q :: qs) k=valueAt qs k:=by simp [valueAt,EU,e']
   rw [jR e,b]; exact ih
theorem KV.any {kvs:List (κ×V)} {vs:List (κ×Value)} (r:KV kvs vs) (k:κ):(kvs.any fun kv=>decide (kv.1=k))=vs.any fun kv=>decide (kv.1=k):=by
 unfold KV at r
 induction r with
 | nil=>rfl
 | cons h t ih=>rw [Fe,Fe,ih,h.1]
theorem KV.repl {kvs:List (κ×V)} {vs:List (κ×Value)} (r:KV kvs vs) (k:κ) {y:V}{u:Value} (ry:bh y u) :
  KV (kvs.map fun kv=>if kv.1=k then (kv.1,y) else kv) (vs.map fun kv=>if kv.1=k then (kv.1,u) else kv):=by
 unfold KV at r ⊢
 induction r with
 | nil=>exact .nil
 | @cons p q ps qs h t ih =>
  rw [DI,DI]
  refine .cons ?_ ih
  obtain ⟨h1,h2⟩:=h
  by_cases e:p.1=k
  ·rw [if_pos e,if_pos (h1.symm.trans e)]; exact ⟨h1,ry⟩
  ·rw [if_neg e,if_neg (fun z=>e (h1.trans z))]; exact ⟨h1,h2⟩
theorem KV.put {kvs:List (κ×V)} {vs:List (κ×Value)} (r:KV kvs vs) (k:κ) {y:V}{u:Value} (ry:bh y u):KV (iz kvs k y) (stored vs k u):=by
 unfold iz stored
 rw [r.any k]
 by_cases e:(vs.any fun kv=>decide (kv.1=k))=true
 ·rw [if_pos e,if_pos e]; exact r.repl k ry
 ·rw [if_neg e,if_neg e]; exact Paired.snoc r ⟨rfl,ry⟩
theorem KV.keys {kvs:List (κ×V)} {vs:List (κ×Value)} (r:KV kvs vs):kvs.map (·.1)=vs.map (·.1):=by
 unfold KV at r
 induction r with
 | nil=>rfl
 | cons h t ih=>rw [DI,DI,ih,h.1]
theorem KV.length {kvs:List (κ×V)} {vs:List (κ×Value)} (r:KV kvs vs):kvs.length=vs.length:=Paired.length r
end
theorem pw {P:Program}{w:World}{k:Key}{u:Value} (r:bh (kV k) u):(b9 P w).is k u=true:=by
 match k,r with
 | .inl (some i),r=>obtain ⟨t,e⟩:=(show ∃ t,u=Value.int i t from r); subst e; exact pe P w i t
 | .inl none,r=>cases (show u=Value.none from r); exact uw
 | .inr x,r=>obtain ⟨t,e⟩:=(show ∃ t,u=Value.str x t from r); subst e; exact pd P w x t
theorem mj {P:Program}{w:World}:∀ {ks:List Key}{us:List Value},a_ (ks.map kV) us→ItemsAre (b9 P w) ks us
 | [],_,r=>by rw [DJ] at r; cases r; exact .nil
 | k :: ks,_,r=>by
  rw [DI] at r
  cases r with
  | cons h t=>exact .cons (pw h) (mj t)
abbrev KT (H:Hp):List (List Key×V)→List (List Key×Addr×Value)→Prop:=Paired fun p q=>p.1=q.1∧H q.2.1=some (.tup (p.1.map kV))∧bh p.2 q.2.2
theorem KT.val {H:Hp}{kvs:List (List Key×V)} {xs:List (List Key×Addr×Value)} (r:KT H kvs xs) (k:List Key):gw (fB kvs k) ((atKey xs k).map (·.2)):=by
 induction r with
 | nil=>exact True.intro
 | @cons p q ps qs h t ih =>
  obtain ⟨h1,_,h2⟩:=h
  by_cases e:p.1=k
  ·have e':q.1=k:=h1.symm.trans e
   have b:atKey (q :: qs) k=some q.2:=by simp [atKey,EU,e']
   rw [jQ e,b]; exact h2
  ·have e':¬ q.1=k:=fun z=>e (h1.trans z)
   have b:atKey (q :: qs) k=atKey qs k:=by simp [atKey,EU,e']
   rw [jR e,b]; exact ih
theorem KT.repl {H:Hp}{kvs:List (List Key×V)} {xs:List (List Key×Addr×Value)} (r:KT H kvs xs) (k:List Key) {y:V}{u:Value} (ry:bh y u) :
  KT H (kvs.map fun kv=>if kv.1=k then (kv.1,y) else kv) (xs.map (putAt k u)):=by
 induction r with
 | nil=>exact .nil
 | @cons p q ps qs h t ih =>
  rw [DI,DI]
  refine .cons ?_ ih
  obtain ⟨h1,h2,h3⟩:=h
  unfold putAt
  by_cases e:p.1=k
  ·rw [if_pos e,if_pos (h1.symm.trans e)]; exact ⟨h1,h2,ry⟩
  ·rw [if_neg e,if_neg (fun z=>e (h1.trans z))]; exact ⟨h1,h2,h3⟩
theorem KT.put {H:Hp}{kvs:List (List Key×V)} {xs:List (List Key×Addr×Value)} (r:KT H kvs xs) (k:List Key) {b:Addr}{y:V}{u:Value} (hb:H b=some (.tup (k.map kV))) (ry:bh y u) :
  KT H (iz kvs k y) (storedH xs k b u):=by
 have e:(kvs.any fun kv=>decide (kv.1=k))=(atKey xs k).isSome:=by
  rw [n5,(r.val k).isSome_eq,Option.isSome_map]
 unfold iz storedH
 rw [e]
 by_cases q:(atKey xs k).isSome=true
 ·rw [if_pos q,if_pos q]; exact r.repl k ry
 ·rw [if_neg q,if_neg q]; exact Paired.snoc r ⟨rfl,hb,ry⟩
theorem KT.keeps {H H':Hp}{kvs:List (List Key×V)} {xs:List (List Key×Addr×Value)} (r:KT H kvs xs) (ht:∀ b ys,H b=some (.tup ys)→H' b=some (.tup ys)):KT H' kvs xs :=
 Paired.mapP r fun _ _ z=>⟨z.1,ht _ _ z.2.1,z.2.2⟩
section
variable {P:Program}{w:World}{H:Hp}{h:Heap}{a:Addr}
theorem zE {u:HO} (ok:HOk P w H h) (e:Rd H a u):cF P w H h a u:=e.ok ok
theorem jv {kvs:List (Key×V)} (ok:HOk P w H h) (e:Rd H a (.dK kvs)):kvs.length≤sizeLine∧(a == sysModules)=false∧∃ vs,KV kvs vs∧h.DictOf (b9 P w) a vs :=
 show cF P w H h a (.dK kvs) from zE ok e
theorem CN {kvs:List (Key×V)} (ok:HOk P w H h) (e:H a=some (.dK kvs)):kvs.length≤sizeLine∧(a == sysModules)=false∧∃ vs,KV kvs vs∧h.DictOf (b9 P w) a vs:=jv ok (.inl e)
theorem kE {ks:List Key} (ok:HOk P w H h) (e:H a=some (.tup (ks.map kV))):(tupleKind (b9 P w)).is h ks a:=by
 obtain ⟨_,its,r,o,h1,h2,n,h3⟩:=(show cF P w H h a (.tup (ks.map kV)) from ok a _ e)
 exact ⟨o,its.toArray,n,h1,h2,h3,by simpa using mj r⟩
theorem mE {kvs:List (List Key×V)} (ok:HOk P w H h) (e:Rd H a (.dT kvs)):kvs.length≤sizeLine∧(a == sysModules)=false ∧
  ∃ xs,KT H kvs xs∧h.DictOfH (tupleKind (b9 P w)) a xs:=by
 obtain ⟨z,y,xs,r,o,es,ep,h1,h2,h3,h4,h5⟩:=(show cF P w H h a (.dT kvs) from zE ok e)
 refine ⟨z,y,xs,r,o,es,ep,h1,h2,h3,h4,fun x hx=>?_,h5⟩
 have all:∀ {l:List (List Key×V)} {m:List (List Key×Addr×Value)},KT H l m→∀ x ∈ m,(tupleKind (b9 P w)).is h x.1 x.2.1:=by
  intro l m q
  induction q with
  | nil=>intro x hx; exact nomatch hx
  | @cons p q ps qs hq t ih =>
   intro x hx
   rcases List.mem_cons.mp hx with e | hx
   ·subst e
    exact kE ok (by rw [← hq.1]; exact hq.2.1)
   ·exact ih x hx
 exact all r x hx
theorem CM {kvs:List (List Key×V)} (ok:HOk P w H h) (e:H a=some (.dT kvs)):kvs.length≤sizeLine∧(a == sysModules)=false ∧
  ∃ xs,KT H kvs xs∧h.DictOfH (tupleKind (b9 P w)) a xs:=mE ok (.inl e)
end
def qc (H:Hp) (a:Addr) (y:V) (r:Option V):Prop :=
 (∃ kvs k,Rd H a (.dK kvs)∧y=kV k∧r=fB kvs k)∨∃ kvs k b,Rd H a (.dT kvs)∧y=.ref b∧H b=some (.tup (k.map kV))∧r=fB kvs k
def xJ (H:Hp) (a:Addr) (y v:V) (H':Hp):Prop :=
 (∃ kvs k,H a=some (.dK kvs)∧y=kV k∧kvs.length < sizeLine∧H'=upd H a (.dK (iz kvs k v))) ∨
 ∃ kvs k b,H a=some (.dT kvs)∧y=.ref b∧H b=some (.tup (k.map kV))∧kvs.length < sizeLine∧H'=upd H a (.dT (iz kvs k v))
theorem xJ.k {H:Hp}{a:Addr}{kvs:List (Key×V)} {k:Key}{v:V} (e:H a=some (.dK kvs)) (hl:kvs.length < sizeLine):xJ H a (kV k) v (upd H a (.dK (iz kvs k v))):=.inl ⟨kvs,k,e,rfl,hl,rfl⟩
section
variable {X:Cx}{pins:List (Addr×Obj)} {σ:St}{H:Hp}{s:Shared}{a:Addr}{y v:V}{u r:Value}{o:Option V}{A:Around}{E:Value→Shared→Prop}
theorem Inv.big (I:Inv X pins σ H s):sysModules < s.heap.objs.size:=by
 have h:mainGlobals < s.heap.objs.size:=(I.mod.glob.keeps I.bk).lt
 exact Nat.lt_trans (by decide) h
theorem uS {Q:Value→Shared→Prop} (hu:A.units + 1 < cLine) (I:Inv X pins σ H s) (g:qc H a y (some v)) (ry:bh y u) (h:∀ w' s',Inv X pins σ H s'→bh v w'→Q w' s') :
  wpAny (model X.prog X.w) A (getItem (.ref a) u) Q E s:=by
 rcases g with ⟨kvs,k,e,ey,l⟩ | ⟨kvs,k,b,e,ey,eb,l⟩
 ·subst ey
  obtain ⟨z,hd,vs,rel,dd⟩:=jv I.hok e
  obtain ⟨w',hw,rw'⟩:=gw.some_of (v:=v) (o:=valueAt vs k) (by rw [l]; exact rel.val k)
  exact wpAny_getItem_of (pw ry) dd.mapOf hw (h w' _ (I.tok _) rw')
 ·subst ey
  cases (show u=Value.ref b from ry)
  obtain ⟨z,hd,xs,rel,dd⟩:=mE I.hok e
  obtain ⟨w',hw,rw'⟩:=gw.some_of (v:=v) (o:=(atKey xs k).map (·.2)) (by rw [l]; exact rel.val k)
  obtain ⟨p,hp,hp2⟩:=Option.map_eq_some_iff.mp hw
  refine wpAny_getItem_heap (Go hu) (kE I.hok eb) dd hp ?_
  rw [hp2]
  exact h w' _ (I.tok _) rw'
theorem zt {Q:Value→Shared→Prop} (hu:A.units + 1 < cLine) (I:Inv X pins σ H s) (g:qc H a y o) (ry:bh y u) (h:∀ s',Inv X pins σ H s'→Q (.bool (!o.isSome)) s') :
  wpAny (model X.prog X.w) A (compareOp .NotIn u (.ref a)) Q E s:=by
 rcases g with ⟨kvs,k,e,ey,l⟩ | ⟨kvs,k,b,e,ey,eb,l⟩
 ·subst ey
  obtain ⟨z,hd,vs,rel,dd⟩:=jv I.hok e
  refine wpAny_notIn_of (pw ry) hd dd.mapOf ?_
  rw [← (rel.val k).isSome_eq,← l]
  exact h _ (I.tok _)
 ·subst ey
  cases (show u=Value.ref b from ry)
  obtain ⟨z,hd,xs,rel,dd⟩:=mE I.hok e
  refine wpAny_notIn_heap (Go hu) (kE I.hok eb) hd dd ?_
  have q:=(rel.val k).isSome_eq
  rw [Option.isSome_map] at q
  rw [← q,← l]
  exact h _ (I.tok _)
theorem sL {h':Heap}{t':Nat}{ob:HO} (I:Inv X pins σ H s) (mu:Mut (H a)) (hs:Heap.SameBut a s.heap h') (he:∃ q,h'.get? a=some q) (new:cF X.prog X.w (upd H a ob) h' a ob) :
  Inv X pins σ (upd H a ob) { s with heap:=h',toks:=t' } :=
 I.write (x:=a) (e:=a) mu (.inl rfl) (fun b q hb z=>(hs.2 b hb).trans z) he new
theorem Bw {P:Program}{w:World}{H':Hp}{h':Heap}{kvs:List (Key×V)} {vs:List (Key×Value)} (z:kvs.length≤sizeLine) (hd:(a == sysModules)=false) (rel:KV kvs vs) (dd:h'.DictOf (b9 P w) a vs) :
  cF P w H' h' a (.dK kvs):=⟨z,hd,vs,rel,dd⟩
theorem uR {H':Hp}{Q:Unit→Shared→Prop} (hu:A.units + 1 < cLine) (I:Inv X pins σ H s) (g:xJ H a y v H') (ry:bh y u) (rv:bh v r) (h:∀ s',Inv X pins σ H' s'→Q () s') :
  wpAny (model X.prog X.w) A (setItem (.ref a) u r) Q E s:=by
 rcases g with ⟨kvs,k,e,ey,l,eH⟩ | ⟨kvs,k,b,e,ey,eb,l,eH⟩
 ·subst ey eH
  obtain ⟨z,hd,vs,rel,dd⟩:=CN I.hok e
  have hz:vs.length≤sizeLine:=by rw [← rel.length]; exact z
  have hl:(iz kvs k v).length≤sizeLine:=by have:=ju kvs k v; omega
  refine wpAny_setItem_pairs (hsz:=hz) (pw ry) dd fun h' dd' hs=>h _ ?_
  have he:∃ q,h'.get? a=some q:=let ⟨q,_,_,hq,_⟩:=dd'; ⟨q,hq⟩
  exact sL I (by rw [e]; exact True.intro) hs he (Bw hl hd (rel.put k rv) dd')
 ·subst ey eH
  cases (show u=Value.ref b from ry)
  obtain ⟨z,hd,xs,rel,dd⟩:=CM I.hok e
  have hz:xs.length≤sizeLine:=by rw [← Paired.length rel]; exact z
  have hl:(iz kvs k v).length≤sizeLine:=by have:=ju kvs k v; omega
  refine wpAny_setItem_heap (hsz:=hz) (Go hu) (kE I.hok eb) dd fun h' dd' hs=>h _ ?_
  obtain ⟨q,es,ep,hq,h2,h3,h4,_,h5⟩:=dd'
  refine sL I (by rw [e]; exact True.intro) hs ⟨q,hq⟩ ⟨hl,hd,_,(rel.put k eb rv).keeps fun c ys ec=>?_,q,es,ep,hq,h2,h3,h4,h5⟩
  rw [av (Cy ec e (fun z=>nomatch z))]
  exact ec
end
section
variable {X:Cx}{pins:List (Addr×Obj)} {σ:St}{H:Hp}{s:Shared}{a:Addr}{kvs:List (Key×V)} {k:Key}{u:Value}{A:Around}{E:Value→Shared→Prop}
theorem CO {Q:Value→Shared→Prop} (I:Inv X pins σ H s) (e:Rd H a (.dK kvs)) (h:∀ t s',Inv X pins σ H s'→Q (.int kvs.length t) s'):wpAny (model X.prog X.w) A (call (.builtin "len") [.ref a]) Q E s:=by
 obtain ⟨z,hd,vs,rel,dd⟩:=jv I.hok e
 refine call_len_dict hd dd (by rw [← rel.length]; rw [GH] at z; omega) ?_
 rw [← rel.length]
 exact h _ _ (I.tok _)
end
def CY (i:Expr):Prop:=∀ ov iv,subscripted i false ov iv=operate [ov,iv] (getItem ov iv)
theorem xU {prog:Program}{w:World}{A:Around}{E:Value→Shared→Prop}{s:Shared}{env:Env}{value slice:Expr}{pos:Pos}{T id:String}{Q:Value→Shared→Prop}
  (hl:typeLookup (.type T) "__getitem__" = pure (some (.builtin id))) (hs:CY slice)
  (h:wpAny (model prog w) A (eval value env) (fun o s₁=>wpAny (model prog w) A (eval slice env) (fun i s₂=>s₂.TypeIs o T∧wpAny (model prog w) A (getItem o i) Q E s₂) E s₁) E s) :
  wpAny (model prog w) A (eval (.Subscript value slice pos) env) Q E s:=by
 refine Subscript_ (EB h (fun o s₁ h₁=>EB h₁ (fun i s₂ h₂=>?_) fun _ _ x=>x) fun _ _ x=>x)
 obtain ⟨hT,h₂⟩:=h₂
 unfold subscriptTail
 refine DO ?_
 rw [getitemInPython_of_ne hT.not_modules]
 refine DO (wpAny_specialOf hT hl ?_)
 have fin:wpAny (model prog w) A (subscripted slice false o i) (fun r s₃=>wpAny (model prog w) A (letTemporaryGo value o r >>= fun _=>pure r) Q E s₃) E s₂:=by
  rw [hs o i]
  exact wpAny_operating (EB h₂ (fun r s₃ h₃=>DO (wpAny_letTemporaryGo (DT h₃))) fun _ _ x=>x)
 first
  | exact DT (DO fin)
  | exact DO (DT (DO fin))
  | exact DO fin
theorem pO {X:Cx}{pins:List (Addr×Obj)} {σ:St}{H:Hp}{s:Shared}{a:Addr}{y:V}{o:Option V} (I:Inv X pins σ H s) (g:qc H a y o):s.TypeIs (.ref a) "dict" := by
 rcases g with ⟨kvs,k,e,_,_⟩ | ⟨kvs,k,b,e,_,_,_⟩
 ·obtain ⟨_,_,vs,_,dd⟩:=jv I.hok e
  exact dd.typeIs
 ·obtain ⟨_,_,xs,_,dd⟩:=mE I.hok e
  exact dd.typeIs
def BV (td ty:TE):TE:=fun σ H Q=>td σ H fun x H1=>ty σ H1 fun y H2=>∃ a v,x=.ref a∧qc H2 a y (some v)∧Q v H2
def rF (ty td:TE):TE:=fun σ H Q=>ty σ H fun y H1=>td σ H1 fun x H2=>∃ a o,x=.ref a∧qc H2 a y o∧Q (.bl (!o.isSome)) H2
def B0 (td ty tv:TE):TS:=fun D σ H=>tv σ H fun v H1=>td σ H1 fun x H2=>ty σ H2 fun y H3=>∃ a H4,x=.ref a∧xJ H3 a y v H4∧D.nx σ H4
section
variable {X:Cx}{o i e value:Expr}{pos pos' tpos:Pos}{td ty tv:TE}
theorem yx (hu:X.A.units + 1 < cLine) (ho:PE X o td) (hi:PE X i ty) (hs:CY i):PE X (.Subscript o i pos) (BV td ty):=by
 intro pins s σ H Q I h
 refine xU PySem.F.slot_dict_getitem.lookup hs (thn (ho pins s σ H _ I h) fun u s1 ⟨x,H1,I1,rx,q1⟩=>thn (hi pins s1 σ H1 _ I1 q1) fun iv s2 zz50_0=>?_)
 obtain ⟨y,H2,I2,ry,a,v,ex,g,q2⟩:=zz50_0
 subst ex
 obtain rfl:u=Value.ref a:=rx
 exact ⟨pO I2 g,uS hu I2 g ry fun w' s3 I3 rw'=>⟨v,H2,I3,rw',q2⟩⟩
theorem tZ (hu:X.A.units + 1 < cLine) (hi:PE X i ty) (ho:PE X o td):PC X .NotIn i o (rF ty td):=by
 intro pins s σ H Q I h
 refine thn (hi pins s σ H _ I h) fun iv s1 ⟨y,H1,I1,ry,q1⟩=>thn (ho pins s1 σ H1 _ I1 q1) fun u s2 zz52_0=>?_
 obtain ⟨x,H2,I2,rx,a,ov,ex,g,q2⟩:=zz52_0
 subst ex
 obtain rfl:u=Value.ref a:=rx
 exact zt hu I2 g ry fun s3 I3=>⟨.bl (!ov.isSome),H2,I3,rfl,q2⟩
theorem yo (hu:X.A.units + 1 < cLine) (ho:PE X o td) (hi:PE X i ty) (hv:PE X value tv) (hs:swapsWith value (some (.Subscript o i pos')) pos.line X.env=pure false) :
  PS X (.Assign [.Subscript o i pos'] value pos) (B0 td ty tv):=by
 intro pins s σ H D I h
 refine wpAny_Assign_Subscript (thn (hv pins s σ H _ I h) fun r s1 ⟨v,H1,I1,rv,q1⟩=>thn (ho pins s1 σ H1 _ I1 q1) fun u s2 ⟨x,H2,I2,rx,q2⟩=>thn (hi pins s2 σ H2 _ I2 q2) fun iv s3 zz55_0=>?_) hs
 obtain ⟨y,H3,I3,ry,a,H4,ex,g,q3⟩:=zz55_0
 subst ex
 obtain rfl:u=Value.ref a:=rx
 exact uR hu I3 g ry rv fun s4 I4=>⟨σ,H4,I4,q3⟩
end
theorem xo {P:Program}{w:World}{H:Hp} (h:Heap) (hb:sysModules < h.objs.size):cF P w H (h.push { cls:=.type "dict",data:=.dict #[] }) h.objs.size (.dK []) :=
 ⟨Ex _,beq_eq_false_iff_ne.mpr (Ne.symm (D9 hb)),[],.nil,Heap.DictOf.new h⟩
def z9:TE:=fun _ H Q=>∀ p,H p=none→Q (.ref p) (upd H p (.dK []))
section
variable {X:Cx}{pos:Pos}
theorem v_:PE X (.Dict [] [] pos) z9:=fun pins s σ H Q I h =>
 wpAny_Dict_empty ⟨.ref s.heap.objs.size,_,I.laid (a:=s.heap.objs.size) (o:=.dK []) (t':=s.toks) (fun _ _ q=>DQ _ q) (DY _) (xo s.heap I.big),rfl,h _ (I.hok.fresh (DY _))⟩
end
structure M2 (X:Cx) (o:Expr) (m:Str) (apos:Pos) (e f:Expr) (cpos:Pos):Prop where
 base:attributeBase o m X.env (eval o X.env)=eval o X.env
 few:((backTo cpos (starEach [e,f] X.env)).all (fun x => !x.1) && (backToKw cpos (keywordEach [] X.env)).all (fun x=>x.1.isSome)
  && decide (([e,f]:List Expr).length + ([]:List Keyword).length + (if ([]:List Keyword).isEmpty then 0 else 1) < 30))=true
 line:(apos.endLine == cpos.line)=true
 trees:backTo cpos (starEach [e,f] X.env)=[(false,eval e X.env),(false,eval f X.env)]
def IsD (H:Hp) (a:Addr):Prop:=(∃ kvs,Rd H a (.dK kvs))∨∃ kvs,Rd H a (.dT kvs)
theorem Bf {X:Cx}{pins:List (Addr×Obj)} {σ:St}{H:Hp}{s:Shared}{a:Addr} (I:Inv X pins σ H s) (d:IsD H a) :
  s.TypeIs (.ref a) "dict"∧(∀ b,Value.ref a=.ref b→∃ ob,s.heap.get? b=some ob∧ob.dict=none)∧(a == sysModules)=false:=by
 rcases d with ⟨kvs,e⟩ | ⟨kvs,e⟩
 ·obtain ⟨_,hd,vs,_,dd⟩:=jv I.hok e
  refine ⟨dd.typeIs,fun b q=>?_,hd⟩
  cases q
  obtain ⟨ob,_,_,h1,h2,_⟩:=dd
  exact ⟨ob,h1,h2.2.1⟩
 ·obtain ⟨_,hd,xs,_,dd⟩:=mE I.hok e
  refine ⟨dd.typeIs,fun b q=>?_,hd⟩
  cases q
  obtain ⟨ob,_,_,h1,h2,_⟩:=dd
  exact ⟨ob,h1,h2.2.1⟩
section
variable {X:Cx}{pins:List (Addr×Obj)} {σ:St}{H:Hp}{s:Shared}{a:Addr}{y d:V}{u r:Value}{o:Option V}{A:Around}{E:Value→Shared→Prop}
theorem Bx {Q:Value→Shared→Prop} (hu:A.units + 1 < cLine) (I:Inv X pins σ H s) (g:qc H a y o) (ry:bh y u) (rd:bh d r) (h:∀ w' s',Inv X pins σ H s'→bh (o.getD d) w'→Q w' s') :
  wpAny (model X.prog X.w) A (call (.builtin "dict.get") [.ref a,u,r]) Q E s:=by
 rcases g with ⟨kvs,k,e,ey,l⟩ | ⟨kvs,k,b,e,ey,eb,l⟩
 ·subst ey
  obtain ⟨z,hd,vs,rel,dd⟩:=jv I.hok e
  refine call_meetsIn Gy dd.typeIs PySem.F.entry_dict_get (PySem.F.args_dict_get_3 _ _ _) (meets_dict_get_default (b9 X.prog X.w) a (pw ry) hd r) ⟨_,dd.mapOf,h _ _ (I.tok _) ?_⟩
  rw [l]
  exact (rel.val k).getD rd
 ·subst ey
  cases (show u=Value.ref b from ry)
  obtain ⟨z,hd,xs,rel,dd⟩:=mE I.hok e
  refine call_meetsIn Gy dd.typeIs PySem.F.entry_dict_get (PySem.F.args_dict_get_3 _ _ _) (meetsH_dict_get_default (tupleKind (b9 X.prog X.w)) a b hd r) ⟨Go hu,k,xs,kE I.hok eb,dd,h _ _ (I.tok _) ?_⟩
  rw [l]
  exact (rel.val k).getD rd
end
def z_ (td ty tx:TE):TE:=fun σ H Q=>td σ H fun x H1=>∃ a,x=.ref a∧IsD H1 a∧ty σ H1 fun y H2=>tx σ H2 fun z H3=>∃ o,qc H3 a y o∧Q (o.getD z) H3
section
variable {X:Cx}{o e f:Expr}{apos cpos:Pos}{td ty tx:TE}
theorem wa (hu:X.A.units + 1 < cLine) (ho:PE X o td) (he:PE X e ty) (hf:PE X f tx) (m:M2 X o "get" apos e f cpos):PE X (.Call (.Attribute o "get" apos) [e,f] [] cpos) (z_ td ty tx):=by
 intro pins s σ H Q I h
 refine wpAny_Call_method m.base m.few m.line PySem.F.plainAttrs_dict Gy PySem.F.type_dict_get (thn (ho pins s σ H _ I h) fun u s1 zz56_0=>?_)
 obtain ⟨x,H1,I1,rx,a,ex,d,q1⟩:=zz56_0
 subst ex
 obtain rfl:u=Value.ref a:=rx
 obtain ⟨t1,t2,_⟩:=Bf I1 d
 refine ⟨t1,t2,?_⟩
 rw [m.trees]
 refine Calls.callWith_builtin rfl (Calls.evalArgs_plain (FP (thn (he pins s1 σ H1 _ I1 q1) fun iv s2 ⟨y,H2,I2,ry,q2⟩ =>
  FP (thn (hf pins s2 σ H2 _ I2 q2) fun fv s3 ⟨z,H3,I3,rz,ov,g,q3⟩=>Gz ?_))))
 exact Bx hu I3 g ry rz fun w' s4 I4 rw'=>⟨_,H3,I4,rw',q3⟩
end
end L2
set_option maxHeartbeats 4000000
namespace L2
open PySem PySem.Spec PyProof.Rows
def hV (env:Env):List (Str×NameKind)→List (Str×Addr)→List (Str×Addr)
 | [],acc=>acc
 | p :: r,acc=>hV env r (if p.2=NameKind.free then (p.1,(env.cells.lookup p.1).getD 0) :: acc else acc)
theorem lg {env:Env} (body:Str×NameKind→List (Str×Addr)→Sem (ForInStep (List (Str×Addr))))
  (hb:∀ x cs,(x.2=NameKind.free→(env.cells.lookup x.1).isSome=true)→body x cs=pure (ForInStep.yield (if x.2=NameKind.free then (x.1,(env.cells.lookup x.1).getD 0) :: cs else cs))) :
  ∀ (l:List (Str×NameKind)) (acc:List (Str×Addr)),(∀ x ∈ l,x.2=NameKind.free→(env.cells.lookup x.1).isSome=true)→(forIn l acc body:Sem (List (Str×Addr)))=pure (hV env l acc)
 | [],acc,_=>by rw [List.forIn_nil]; rfl
 | x :: l,acc,h=>by
  rw [List.forIn_cons,hb x acc (h x DW),pure_bind]
  exact lg body hb l _ fun y hy=>h y (DS _ hy)
theorem sN {scope:Scope}{env:Env} (h:∀ x ∈ scope.names,x.2=NameKind.free→(env.cells.lookup x.1).isSome=true):closureFor scope env=pure (hV env scope.names []):=by
 simp only [closureFor]
 rw [lg (env:=env) _ ?_ scope.names [] h]
 ·rfl
 ·intro x cs hx
  obtain ⟨n,k⟩:=x
  by_cases hk:k=NameKind.free
  ·subst hk
   obtain ⟨c,hc⟩:=Option.isSome_iff_exists.mp (hx rfl)
   have hc':env.cells.lookup n=some c:=hc
   simp [cellOf,hc']
  ·have e:(k == NameKind.free)=false:=by simpa using hk
   simp [e,hk]
theorem lh {env:Env}:∀ (l:List (Str×NameKind)) (acc:List (Str×Addr)) (x:Str) (c:Addr),(∀ y ∈ l,y.2=NameKind.free→(env.cells.lookup y.1).isSome=true) →
  (hV env l acc).lookup x=some c→acc.lookup x=some c∨env.cells.lookup x=some c
 | [],acc,x,c,_,h=>.inl h
 | p :: l,acc,x,c,hs,h=>by
  rcases lh l _ x c (fun y hy=>hs y (DS _ hy)) h with q | q
  ·by_cases hk:p.2=NameKind.free
   ·rw [if_pos hk,EI] at q
    cases hx:x == p.1 with
    | false=>rw [hx] at q; exact .inl q
    | true =>
     rw [hx] at q
     have ex:x=p.1:=by simpa using hx
     obtain ⟨c',hc⟩:=Option.isSome_iff_exists.mp (hs p DW hk)
     rw [hc] at q
     right
     rw [ex,hc]
     exact q
   ·rw [if_neg hk] at q; exact .inl q
  ·exact .inr q
theorem li {env:Env}:∀ (l:List (Str×NameKind)) (acc:List (Str×Addr)) (x:Str),(acc.lookup x).isSome=true→((hV env l acc).lookup x).isSome=true
 | [],acc,x,h=>h
 | p :: l,acc,x,h=>by
  refine li l _ x ?_
  by_cases hk:p.2=NameKind.free
  ·rw [if_pos hk,EI]
   cases x == p.1
   ·exact h
   ·rfl
  ·rw [if_neg hk]; exact h
theorem im {env:Env}:∀ (l:List (Str×NameKind)) (acc:List (Str×Addr)) (x:Str),(x,NameKind.free) ∈ l→((hV env l acc).lookup x).isSome=true
 | p :: l,acc,x,h=>by
  rcases List.mem_cons.mp h with e | h
  ·refine li l _ x ?_
   subst e
   simp [EI]
  ·exact im l _ x h
theorem dX {env:Env}{x:Str}:∀ {l:List (Str×NameKind)},(l.map fun (p:Str×NameKind)=>match p with | (n,k)=>if (k == NameKind.free && env.scope.kind == .function && env.kindOf n == some .cell)=true then (n,NameKind.cell) else (n,k)).lookup x=some NameKind.local→l.lookup x=some NameKind.local
 | [],h=>by simp at h
 | (n,k) :: r,h=>by
  rw [DI,EI] at h
  rw [EI]
  by_cases hc:(k == NameKind.free && env.scope.kind == .function && env.kindOf n == some .cell)=true
  ·simp only [hc,if_true] at h
   cases hx:x == n with
   | true=>rw [hx] at h; simp at h
   | false=>rw [hx] at h; exact dX h
  ·simp only [hc,Ed,FU] at h
   cases hx:x == n with
   | true=>rw [hx] at h; simpa using h
   | false=>rw [hx] at h; exact dX (by simpa using h)
theorem dW {env:Env}{x:Str}:∀ {l:List (Str×NameKind)},(∀ y ∈ l,y.2 ≠ NameKind.cell) →
    ((l.map fun (p:Str×NameKind)=>match p with | (n,k)=>if (k == NameKind.free && env.scope.kind == .function && env.kindOf n == some .cell)=true then (n,NameKind.cell) else (n,k)).lookup x=some NameKind.cell ∨
     (l.map fun (p:Str×NameKind)=>match p with | (n,k)=>if (k == NameKind.free && env.scope.kind == .function && env.kindOf n == some .cell)=true then (n,NameKind.cell) else (n,k)).lookup x=some NameKind.free)→(x,NameKind.free) ∈ l
  | [],_,h=>by simp at h
  | (n,k) :: r,hn,h=>by
    rw [DI,EI] at h
    by_cases hc:(k == NameKind.free && env.scope.kind == .function && env.kindOf n == some .cell)=true
    · simp only [hc,if_true] at h
      have hk:k=NameKind.free:=by
        have:=(Bool.and_eq_true_iff.mp (Bool.and_eq_true_iff.mp hc).1).1
        simpa using this
      cases hx:x == n with
      | true =>
        have ex:x=n:=by simpa using hx
        rw [ex,hk]; exact DW
      | false=>rw [hx] at h; exact DS _ (dW (fun y hy=>hn y (DS _ hy)) h)
    · simp only [hc,Ed,FU] at h
      cases hx:x == n with
      | true =>
        have ex:x=n:=by simpa using hx
        rw [hx] at h
        have h':k=NameKind.cell∨k=NameKind.free:=by simpa using h
        rcases h' with e | e
        · exact absurd e (hn (n,k) DW)
        · rw [ex,e]; exact DW
      | false=>rw [hx] at h; exact DS _ (dW (fun y hy=>hn y (DS _ hy)) (by simpa using h))
def maskS (js:List Nat) (σ:St):St:=js.foldl (fun a j=>a.set j none) σ
theorem um (js:List Nat):∀ σ:St,(maskS js σ).length=σ.length:=by
 induction js with
 | nil=>intro σ; rfl
 | cons j r ih=>intro σ; show (maskS r (σ.set j none)).length=_; rw [ih,EF]
theorem uo (js:List Nat):∀ (σ:St) (i:Nat) (v:V),(maskS js σ)[i]? = some (some v)→σ[i]? = some (some v)∧i ∉ js:=by
 induction js with
 | nil=>intro σ i v h; exact ⟨h,by simp⟩
 | cons j r ih =>
  intro σ i v h
  obtain ⟨h1,h2⟩:=ih (σ.set j none) i v h
  have nij:i ≠ j:=by
   rintro rfl
   rw [Ee] at h1
   split at h1
   ·split at h1 <;> simp at h1
   ·contradiction
  rw [D2 (Ne.symm nij)] at h1
  exact ⟨h1,by simp [nij,h2]⟩
structure Blk (X:Cx) (scope:Scope) (js:List Nat):Prop where
 kind:scope.kind=.function
 nocell:∀ y ∈ scope.names,y.2 ≠ NameKind.cell
 names:∀ y ∈ scope.names,y.2=NameKind.local→scope.names.lookup y.1=some .local
 free:∀ y ∈ scope.names,y.2=NameKind.free→X.env.kindOf y.1=some .cell∨X.env.kindOf y.1=some .free
 own:∀ (i:Nat) x,X.N[i]? = some x→scope.names.lookup x=some .local→i ∈ js
def cB (X:Cx) (scope:Scope) (C:Addr) (fp:List Addr) (s₂:Shared) (H₂:Hp):Cx :=
 { X with s₀:=s₂,H₀:=H₂,env:=compEnvC scope (hV X.env scope.names []) C X.env,outer:=X.stack,ex:=fp,fn:=fun _=>false,pn:=[],xe:=fun _ _=>False }
section
variable {X:Cx}{scope:Scope}{js:List Nat}{pins:List (Addr×Obj)} {σ:St}{H:Hp}{s:Shared}
theorem Blk.has (b:Blk X scope js) (ok:X.Ok):∀ y ∈ scope.names,y.2=NameKind.free→(X.env.cells.lookup y.1).isSome=true:=fun y hy hk=>by
 obtain ⟨c,e⟩:=ok.has y.1 (b.free y hy hk)
 rw [e]; rfl
theorem Blk.cell (b:Blk X scope js) (ok:X.Ok) {x:Str}{c:Addr} (h:(hV X.env scope.names []).lookup x=some c):X.env.cells.lookup x=some c:=by
 rcases lh scope.names [] x c (b.has ok) h with q | q
 ·simp at q
 ·exact q
theorem Blk.start (b:Blk X scope js) (I:Inv X pins σ H s) {fp:List Addr} (hf:∀ a ∈ fp,ip X pins H a) {h₁:Heap}{tk:Nat} (hn:h₁.Ns s.heap.objs.size fun _=>none)
  (hk:∀ a o,s.heap.get? a=some o→h₁.get? a=some o) (hfs:∀ a ∈ fp,a < s.heap.objs.size):Inv (cB X scope s.heap.objs.size fp s H) [] (maskS js σ) H { s with heap:=h₁,toks:=tk }:=by
 have ok:=I.ok
 have hC:H s.heap.objs.size=none:=I.hok.fresh (DY _)
 refine ⟨⟨ok.mod,b.kind,ok.glob,ok.blt,DY _,fun x y c h1 h2=>ok.inj x y c (b.cell ok h1) (b.cell ok h2),fun x hx=>?_,fun x c hx _=>Bool.noConfusion hx,ok.hd,ok.frames,.inl rfl,fun a ha=>⟨D9 (hfs a ha),fun x c h=>(hf a ha).2.2.2.2.1 x c (b.cell ok h)⟩,
  I.bs,D6 ok.bsz I.sz,fun a o e ha=>?_,fun a ha hx=>?_,I.stack,I.stkFree⟩,rfl,I.bare,Un.kept hk,⟨_,hn,fun i x v h1 h2 h3=>?_⟩,fun x c h=>?_,hC,fun x c h=>I.freeC x c (b.cell ok h),fun p hp=>absurd hp (by simp [cB]),I.hok.kept hk,?_⟩
 ·exact Option.isSome_iff_exists.mp (im scope.names [] x (dW b.nocell hx))
 ·rcases (hf a ha).2.2.2.1 with q | q
  ·exact ok.noex a o e q
  ·exact absurd (Ef (DU e) (D6 ok.bsz q)) (ER _)
 ·rcases List.mem_cons.mp (I.stkSub a hx) with q | q
  ·exact (hf a ha).2.1 q
  ·exact (hf a ha).2.2.1 q
 ·obtain ⟨h2,h4⟩:=uo js σ i v h2
  have hfr:(x,NameKind.free) ∈ scope.names:=by
   rcases h3 with q | q
   ·exact absurd (b.own i x h1 (dX q)) h4
   ·exact dW b.nocell q
  obtain ⟨c,hc⟩:=Option.isSome_iff_exists.mp (im (env:=X.env) scope.names [] x hfr)
  have hc':=b.cell ok hc
  have hv:=b.free _ hfr rfl
  obtain ⟨m,_,hl⟩:=I.loc
  obtain ⟨u,r,lk⟩:=hl i x v h1 h2 (.inr hv)
  refine ⟨u,r,.inr ⟨?_,c,hc,?_⟩⟩
  ·rcases h3 with q | q
   ·exact absurd (b.own i x h1 (dX q)) h4
   ·exact q
  ·rcases lk with ⟨z,_⟩ | ⟨_,c2,e2,o,ho,hd⟩
   ·have hv':X.env.kindOf x=some .cell∨X.env.kindOf x=some .free:=hv
    rw [z] at hv'
    rcases hv' with q | q <;> cases q
   ·rw [hc'] at e2
    cases e2
    exact ⟨o,hk _ _ ho,hd⟩
 ·obtain ⟨v,o,ho,hd⟩:=I.cell x c (b.cell ok h)
  exact ⟨v,o,hk _ _ ho,hd⟩
 ·rw [um]; exact I.len
theorem Blk.back (I:Inv X pins σ H s) {fp:List Addr} (hf:∀ a ∈ fp,ip X pins H a) {σ':St}{H':Hp}{s':Shared} (J:Inv (cB X scope s.heap.objs.size fp s H) [] σ' H' s') {h':Heap}
  (hs:Heap.SameBut s.heap.objs.size s'.heap h'):Inv X pins σ H' { s' with heap:=h' }:=by
 have hC:H' s.heap.objs.size=none:=J.free
 refine I.call' (ch:=fp) J.os ?_ ?_ J.bare fun a ha=>⟨(hf a ha).2.2.2.1,(hf a ha).2.1,(hf a ha).2.2.2.2.1,(hf a ha).2.2.2.2.2⟩
 ·have u:Un (frs X.stack) fp H H' s.heap s'.heap:=J.base
  have ne:∀ a o,s.heap.get? a=some o→a ≠ s.heap.objs.size:=fun a o e=>D9 (DU e)
  exact ⟨fun a o e n h1 h2=>hs.extBut a _ (ne a o e) (u.keep a o e n h1 h2),fun a o e n h1 h2=>(let ⟨sl,q⟩:=u.slot a o e n h1 h2; ⟨sl,hs.extBut a _ (ne a o e) q⟩),u.free,fun a o e h=>(let ⟨o',q⟩:=u.there a o e h; ⟨o',hs.extBut a _ (ne a o e) q⟩),u.tups,u.frzs,u.tbls⟩
 ·intro a o e
  refine (J.hok a o e).stay (fun b u hb q=>hs.extBut b u ?_ q) (fun _ q=>q) fun _ _ q=>q
  rintro rfl
  rcases hb with q | q
  ·rw [q,e] at hC; cases hC
  ·rw [q] at hC; cases hC
end
def vy (js:List Nat) (wi:TI) (g:TG) (tc:TT) (te:TE):TE:=fun σ H Q=>wi σ H fun J H1=>∀ D,H1 D=none →
 ∃ W:Nat→Nat→St→Hp→Prop,(∃ m,W 0 m (maskS js σ) (upd H1 D (.lst [])))∧∀ i m σ' H',W i m σ' H' →
  (J.stop i H'∧Q (.ref D) H')∨(J.go i H'∧∀ x H2,J.yld i H' x H2→g x σ' H2 fun σ3 H3=>tc σ3 H3 fun c H4 =>
   if c=true then te σ3 H4 fun v H5=>∃ vs,H5 D=some (.lst vs)∧vs.length < sizeLine∧∃ m',m' < m∧W (i + 1) m' σ3 (upd H5 D (.lst (vs ++ [v]))) else ∃ m',m' < m∧W (i + 1) m' σ3 H4)
def u_ (X:Cx) (ifs:List Expr) (tc:TT):Prop :=
 ∀ (pins:List (Addr×Obj)) (s:Shared) (σ:St) (H:Hp) (Q:Bool→Hp→Prop),Inv X pins σ H s→tc σ H Q →
  wpAny (model X.prog X.w) X.A (forIn ifs true fun c r=>if r=true then do let ok ← isTrue c X.env (eval c X.env); pure (ForInStep.yield ok) else pure (ForInStep.yield r)) (TP X pins σ Q) X.xe s
def zC:TT:=fun _ H Q=>Q true H
theorem vY {X:Cx}:u_ X [] zC:=fun _ _ _ H _ I h=>wpAny_tests_nil ⟨H,I,h⟩
theorem vX {X:Cx}{c:Expr}{tc:TT} (h:PT X c tc):u_ X [c] tc:=fun pins s σ H Q I q=>wpAny_tests_one (h pins s σ H Q I q)
theorem nN {prog:Program}{w:World}{A:Around}{R:Result→Shared→Prop}{s:Shared}{elt tg iter:Expr}{ifs:List Expr}{scope:Scope}{pos:Pos}{it acc:Value}{env:Env} (Iv:Nat→Shared→Prop)
  (turn:∀ n s,Iv n s→wpAny (model prog w) A (pyNext it) (fun r s1=>match r with
   | none=>R (.ok .next) s1
   | some v=>wpAny (model prog w) A (letOwnedTupleGo tg it v) (fun _ s2=>wpAny (model prog w) A (assign tg env v) (fun _ s3 =>
     wpAny (model prog w) A (forIn ifs true fun c r=>if r=true then do let ok ← isTrue c env (eval c env); pure (ForInStep.yield ok) else pure (ForInStep.yield r)) (fun ok s4 =>
      if ok=true then wpAny (model prog w) A (eval elt env) (fun x s5=>wpAny (model prog w) A (call (.builtin "list.append") [acc,x]) (fun _ s6=>∃ m,m < n∧Iv m s6) (fun _ _=>False) s5) (fun _ _=>False) s4
      else ∃ m,m < n∧Iv m s4) (fun _ _=>False) s3) (fun _ _=>False) s2) (fun _ _=>False) s1) (fun _ _=>False) s)
  (n:Nat) (h:Iv n s):codeAny (model prog w) A (.compLoop (.ListComp elt [⟨tg,iter,ifs,0⟩] scope pos) 0 it acc env) R s:=by
 refine codeAny_loop rfl Iv (fun k t hI=>?_) n h
 show wpAny _ A ((compTurn (.ListComp elt [⟨tg,iter,ifs,0⟩] scope pos) 0 it acc env).onRaise _) _ _ t
 refine wpAny_noted ?_
 rw [compTurn_list]
 have no:∀ {E:Value→Shared→Prop} (e:Value) (z:Shared),(fun (_:Value) (_:Shared)=>False) e z→E e z:=fun _ _ f=>f.elim
 refine DO (GF (DO (EB (turn k t hI) (fun r s1 q1=>?_) no)))
 cases r with
 | none=>exact DT q1
 | some v =>
  refine DO (EB q1 (fun _ s2 q2=>?_) no)
  refine DO (EB q2 (fun _ s3 q3=>?_) no)
  refine DO (EB q3 (fun ok s4 q4=>?_) no)
  cases ok with
  | false=>exact DT ⟨rfl,by simpa using q4⟩
  | true =>
   have q4':=q4
   simp only [if_true] at q4'
   refine DO (DO (EB q4' (fun x s5 q5=>?_) no))
   exact DO (EB q5 (fun _ s6 q6=>DT (DT ⟨rfl,q6⟩)) no)
section
variable {X:Cx}{scope:Scope}{js:List Nat}{elt tg iter:Expr}{ifs:List Expr}{pos:Pos}{wi:TI}{g:TG}{tc:TT}{te:TE}
theorem sO (b:Blk X scope js) (hc:X.calm=true) {pins:List (Addr×Obj)} {σ:St}{H2:Hp}{s2:Shared}{Q:VK}{it:Addr}{fp:List Addr}{tn:Nat→Heap→Prop}{J:It}
  (I2:Inv X pins σ H2 s2) (T:nU X.prog X.w X.K tg J fp it tn) (st:tn 0 s2.heap) (hf:∀ a ∈ fp,ip X pins H2 a)
  (hg:∀ C fp s0 H0,PG (cB X scope C fp s0 H0) tg g) (hi:∀ C fp s0 H0,u_ (cB X scope C fp s0 H0) ifs tc) (he:∀ C fp s0 H0,PE (cB X scope C fp s0 H0) elt te)
  (hq:∀ D,H2 D=none→∃ W:Nat→Nat→St→Hp→Prop,(∃ m,W 0 m (maskS js σ) (upd H2 D (.lst [])))∧∀ i m σ' H',W i m σ' H' →
   (J.stop i H'∧Q (.ref D) H')∨(J.go i H'∧∀ x H3,J.yld i H' x H3→g x σ' H3 fun σ3 H3=>tc σ3 H3 fun c H4 =>
    if c=true then te σ3 H4 fun v H5=>∃ vs,H5 D=some (.lst vs)∧vs.length < sizeLine∧∃ m',m' < m∧W (i + 1) m' σ3 (upd H5 D (.lst (vs ++ [v]))) else ∃ m',m' < m∧W (i + 1) m' σ3 H4))
  {E:Value→Shared→Prop}{RR:Value→Addr→Result→Shared→Prop}
  (hR:∀ (D C:Addr) (s3:Shared) (H3:Hp) (σ':St) (H':Hp) (s':Shared),C=s3.heap.objs.size→Inv X pins σ H3 s3→(∀ a ∈ fp,ip X pins H3 a)→Inv (cB X scope C fp s3 H3) [] σ' H' s'→Q (.ref D) H'→RR (.ref D) C (.ok .next) s') :
  wpAny (model X.prog X.w) X.A (newList []) (fun acc s3=>wpAny (model X.prog X.w) X.A (newFunctionEnv scope X.env.globals (hV X.env scope.names []) [] X.env.qual none .none (some X.env)) (fun cenv s4 =>
   codeAny (model X.prog X.w) X.A (.compStart (.ListComp elt [⟨tg,iter,ifs,0⟩] scope pos) 0 (.ref it) acc { cenv with scope:=relabel scope X.env }) (RR acc cenv.locals) s4) E s3) E s2:=by
 refine EK ?_
 have hD:H2 s2.heap.objs.size=none:=I2.hok.fresh (DY _)
 have I3:=I2.lnew (ys:=[]) (its:=[]) (t':=s2.toks) .nil (Ex _)
 obtain ⟨W,⟨m0,w0⟩,turn⟩:=hq _ hD
 have fpLt:∀ a ∈ fp,a < s2.heap.objs.size:=fun a ha=>by
  obtain ⟨o,e,_⟩:=T.obj _ _ st a ha
  exact DU e
 generalize hs3:({ s2 with heap:=s2.heap.push { cls:=.type "list",dict:=none,data:=.seq ([]:List Value).toArray } }:Shared)=s3
 have I3':Inv X pins σ (upd H2 s2.heap.objs.size (.lst [])) s3:=by rw [← hs3]; exact I3
 have st3:tn 0 s3.heap:=T.keep _ _ _ st fun a _ o e=>by rw [← hs3]; exact DQ _ e
 have sz3:s3.heap.objs.size=s2.heap.objs.size + 1:=by rw [← hs3]; exact Fs ..
 have hf3:∀ a ∈ fp,ip X pins (upd H2 s2.heap.objs.size (.lst [])) a:=fun a ha=>⟨by rw [av (D9 (fpLt a ha))]; exact (hf a ha).1,(hf a ha).2⟩
 refine wpAny_newFunctionEnv b.nocell (by intro y hy; simp at hy) (fun h₁ hns hsb=>?_) b.kind
 have keep:∀ a o,s3.heap.get? a=some o→h₁.get? a=some o:=fun a o e=>hsb.extBut a o (D9 (DU e)) (DQ _ e)
 have J0:=b.start I3' hf3 (tk:=s3.toks + ([]:List (Str×Value)).length) (by simpa using hns) keep fun a ha=>by rw [sz3]; exact Ge (fpLt a ha)
 have st4:tn 0 h₁:=T.keep _ _ _ st3 fun a _ o e=>keep a o e
 have loop:∀ s4:Shared,s4={ s3 with heap:=h₁,toks:=s3.toks + ([]:List (Str×Value)).length }→codeAny (model X.prog X.w) X.A (.compLoop (.ListComp elt [⟨tg,iter,ifs,0⟩] scope pos) 0 (.ref it) (.ref s2.heap.objs.size) (compEnvC scope (hV X.env scope.names []) s3.heap.objs.size X.env))
   (RR (.ref s2.heap.objs.size) s3.heap.objs.size) s4:=by
  rintro s4 rfl
  refine nN (fun n t=>∃ i σ' H',Inv (cB X scope s3.heap.objs.size fp s3 (upd H2 s2.heap.objs.size (.lst []))) [] σ' H' t∧tn i t.heap∧(∀ a ∈ fp,H' a=none)∧W i n σ' H') ?_ m0 ⟨0,_,_,J0,st4,fun a ha=>(hf3 a ha).1,w0⟩
  rintro n t ⟨i,σ',H',J1,st',fr,w'⟩
  have stat:∀ {H':Hp},(∀ a ∈ fp,H' a=none)→∀ a ∈ fp,ip (cB X scope s3.heap.objs.size fp s3 (upd H2 s2.heap.objs.size (.lst []))) [] H' a:=fun hn a ha =>
   ⟨hn a ha,D9 (by rw [sz3]; exact Ge (fpLt a ha)),fun hx=>(by
    rcases List.mem_cons.mp (I2.stkSub a hx) with q | q
    ·exact (hf a ha).2.1 q
    ·exact (hf a ha).2.2.1 q),.inl ha,fun x c h=>(hf a ha).2.2.2.2.1 x c (b.cell I2.ok h),fun p hp=>absurd hp (by simp [cB])⟩
  rcases turn i n σ' H' w' with ⟨stop,qn⟩ | ⟨go,step⟩
  ·refine thn (T.done (cB X scope s3.heap.objs.size fp s3 (upd H2 s2.heap.objs.size (.lst []))) rfl rfl rfl hc i [] t σ' H' _ J1 (stat fr) st' stop) fun r t1 zz59_0=>?_
   obtain ⟨hr,J2⟩:=zz59_0
   subst hr
   exact hR _ _ s3 _ σ' H' t1 rfl I3' hf3 J2 qn
  ·refine thn (T.item (cB X scope s3.heap.objs.size fp s3 (upd H2 s2.heap.objs.size (.lst []))) rfl rfl rfl hc i [] t σ' H' _ J1 (stat fr) st' go) fun r t1 zz60_0=>?_
   obtain ⟨u,hr,q1⟩:=zz60_0
   subst hr
   refine thn q1 fun _ t2 zz61_0=>?_
   obtain ⟨x,H3,J3,r3,y3,st3',fr3⟩:=zz61_0
   have J3':=J3.pinned (stat fr3) (T.obj _ _ st3')
   have again:∀ {σ7:St}{H7:Hp}{t7:Shared},Inv (cB X scope s3.heap.objs.size fp s3 (upd H2 s2.heap.objs.size (.lst []))) ([] ++ ka fp t2.heap) σ7 H7 t7→(∃ m',m' < n∧W (i + 1) m' σ7 H7) →
     ∃ m,m < n∧∃ i σ' H',Inv (cB X scope s3.heap.objs.size fp s3 (upd H2 s2.heap.objs.size (.lst []))) [] σ' H' t7∧tn i t7.heap∧(∀ a ∈ fp,H' a=none)∧W i m σ' H':=fun {σ7 H7 t7} J7 w7=>by
    obtain ⟨m',hm,w7⟩:=w7
    refine ⟨m',hm,i + 1,σ7,H7,J7.unpinned,T.keep _ _ _ st3' fun a ha o e=>(J7.pin (a,o) (El _ (El _ (gb ha e)))).1,fun a ha=>?_,w7⟩
    obtain ⟨o,e,_⟩:=T.obj _ _ st3' a ha
    exact (J7.pin (a,o) (El _ (El _ (gb ha e)))).2.1
   refine thn (hg _ _ _ _ _ t2 σ' H3 x u _ J3' r3 (step x H3 y3)) fun _ t3 zz62_0=>?_
   obtain ⟨σ4,H4,J4,q4⟩:=zz62_0
   refine thn (hi _ _ _ _ _ t3 σ4 H4 _ J4 q4) fun ok t4 zz63_0=>?_
   obtain ⟨H5,J5,q5⟩:=zz63_0
   cases ok with
   | false=>exact again J5 (by simpa using q5)
   | true =>
    simp only [if_true] at q5 ⊢
    refine thn (he _ _ _ _ _ t4 σ4 H5 _ J5 q5) fun y t5 zz64_0=>?_
    obtain ⟨v,H6,J6,r6,vs,hl,hz,q6⟩:=zz64_0
    refine thn (l9 _ t5 σ4 H6 (.ref s2.heap.objs.size) [v] (.ref s2.heap.objs.size) [y] (fun _ H7=>∃ m',m' < n∧W (i + 1) m' σ4 H7) J6 rfl (.cons r6 .nil) ⟨_,vs,v,rfl,rfl,hl,hz,q6⟩) fun _ t6 zz65_0=>?_
    obtain ⟨_,H7,J7,_,q7⟩:=zz65_0
    exact again J7 q7
 refine codeAny_compStart_list (loop _ rfl) (T.self _ 0 _ _ _ st4 (loop _ rfl))
theorem yy (b:Blk X scope js) (hc:X.calm=true) (hI:PI X tg iter wi)
  (hg:∀ C fp s0 H0,PG (cB X scope C fp s0 H0) tg g) (hi:∀ C fp s0 H0,u_ (cB X scope C fp s0 H0) ifs tc) (he:∀ C fp s0 H0,PE (cB X scope C fp s0 H0) elt te)
  (hs:∀ x,foldedSetIterable iter X.env x=pure x:=by intro _; rfl):PE X (.ListComp elt [⟨tg,iter,ifs,0⟩] scope pos) (vy js wi g tc te):=by
 intro pins s σ H Q I h
 rw [eval_ListComp]
 refine wpAny_comprehension_free (use:=none) rfl hs (sN (b.has I.ok)) b.kind b.names (thn (hI pins s σ H _ I h) fun v s1 q1=>thn q1 fun itv s2 q2=>?_)
 obtain ⟨it,fp,tn,J,H2,rfl,I2,T,st,hf,hq⟩:=q2
 refine sO b hc I2 T st hf hg hi he hq fun D C s3 H3 σ' H' s' hC I3 hf3 J3 q3=>?_
 subst hC
 obtain ⟨m,hn,_⟩:=J3.loc
 exact ⟨m,hn,fun h' hs'=>⟨.ref D,H',Blk.back I3 hf3 J3 hs',rfl,q3⟩⟩
theorem rR {i:Nat}{x:Str}{px:Pos}{spos:Pos} (hN:X.N.Nodup) (hix:X.N[i]? = some x) (hx:Loc X.env.scope x) (b:Blk X scope js) (hc:X.calm=true) (hI:PI X tg iter wi)
  (hg:∀ C fp s0 H0,PG (cB X scope C fp s0 H0) tg g) (hi:∀ C fp s0 H0,u_ (cB X scope C fp s0 H0) ifs tc) (he:∀ C fp s0 H0,PE (cB X scope C fp s0 H0) elt te)
  (hsw:swapsWith (.ListComp elt [⟨tg,iter,ifs,0⟩] scope pos) (some (.Name x px)) spos.line X.env=pure true)
  (hfn:X.fn x=true∨X.env.scope.names.lookup x=some .local:=by first | exact .inl rfl | exact .inr rfl | assumption) (hs:∀ x,foldedSetIterable iter X.env x=pure x:=by intro _; rfl) :
  PS X (.Assign [.Name x px] (.ListComp elt [⟨tg,iter,ifs,0⟩] scope pos) spos) (vz (vy js wi g tc te) (ml i)):=by
 intro pins s σ H D I h
 rw [exec_Assign_Name_used _ _ _ _ hsw]
 refine DO (GF (DO ?_))
 show wpAny _ _ (do let _ ← comprehension (.ListComp elt [⟨tg,iter,ifs,0⟩] scope pos) scope X.env _ (newList []) false (eval iter X.env) (some (assign (.Name x px) X.env))) _ _ s
 refine DO (EB (wpAny_comprehension_free (use:=some (assign (.Name x px) X.env)) (Q:=fun _ s'=>SP X pins D .next s') rfl hs (sN (b.has I.ok)) b.kind b.names
  (thn (hI pins s σ H _ I h) fun v s1 q1=>thn q1 fun itv s2 q2=>?_)) (fun _ s' q=>DT (DT q)) fun _ _ e=>e)
 obtain ⟨it,fp,tn,J,H2,rfl,I2,T,st,hf,hq⟩:=q2
 refine sO (Q:=fun y H1=>ml i y σ H1 D.nx) b hc I2 T st hf hg hi he hq fun A C s3 H3 σ' H' s' hC I3 hf3 J3 q3=>?_
 subst hC
 obtain ⟨m,hn,_⟩:=J3.loc
 obtain ⟨oC,es,ep,hoC,hdC,hrC⟩:=id hn
 have hJf:H' s3.heap.objs.size=none:=J3.free
 have I4:Inv X pins σ H' s':=Blk.back I3 hf3 J3 (Heap.SameBut.refl _ _)
 have neL:s3.heap.objs.size ≠ X.env.locals:=FR I3.lt
 have nfs:s3.heap.objs.size ∉ X.fs:=I3.nofs (DY _)
 have ncell:∀ y c,X.env.cells.lookup y=some c→c ≠ s3.heap.objs.size:=fun y c e z=>by
  obtain ⟨v,o,ho,_⟩:=I3.cell y c e
  rw [z] at ho
  exact absurd (DU ho) (ER _)
 have npin:∀ p ∈ X.pn ++ pins,p.1 ≠ s3.heap.objs.size:=fun p hp z=>by
  have ho:=(I3.pin p hp).1
  rw [z] at ho
  exact absurd (DU ho) (ER _)
 have I5:Inv X (pins ++ [(s3.heap.objs.size,oC)]) σ H' s':=I4.pins_of fun p hp=>(List.mem_append.mp hp).elim (fun z=>I4.pin p (El _ z)) fun z=>by
  have e:p=(s3.heap.objs.size,oC):=by simpa using z
  subst e
  exact ⟨hoC,hJf,neL,nfs,fun v z=>by rw [hdC] at z; cases z⟩
 show wpAny _ _ (assign (.Name x px) X.env (.ref A)) _ _ s'
 refine wpAny_assign_Name (gC (i:=i) (v:=.ref A) I5 hN hix hx rfl (fun s5 I6=>?_) hfn)
 obtain ⟨p1,p2,_⟩:=I6.pin (s3.heap.objs.size,oC) (El _ (El _ (by simp)))
 refine ⟨m,⟨oC,es,ep,p1,hdC,hrC⟩,fun h' hs'=>?_⟩
 have I7:Inv X pins (σ.set i (some (.ref A))) H' { s5 with heap:=h',toks:=s5.toks }:=Inv.turned (it:=s3.heap.objs.size) I6.unpinned (fun a o ha e=>hs'.extBut a o ha e) p2 neL (.inr (D6 I3.sz (DY _))) ncell npin
 exact ⟨_,H',I7,q3⟩
end
end L2
namespace L2.Cu
open PySem PySem.Spec PyProof.Rows
inductive D where
 | non | bl (b:Bool) | int (i:Int) | str (x:Str) | tup (xs:List D) | lst (xs:List D) | dic (kvs:List (Key×D)) | scr (ns:List Int)
mutual
inductive Rep (F:Hp):V→D→Prop
 | non:Rep F .non .non
 | bl (b:Bool):Rep F (.bl b) (.bl b)
 | int (i:Int):Rep F (.int i) (.int i)
 | str (x:Str):Rep F (.str x) (.str x)
 | tup {a:Addr}{vs:List V}{ds:List D}:F a=some (.tup vs)→Reps F vs ds→Rep F (.ref a) (.tup ds)
 | lst {a:Addr}{vs:List V}{ds:List D}:F a=some (.lst vs)→Reps F vs ds→Rep F (.ref a) (.lst ds)
 | dic {a:Addr}{ob:Obj}{vs:List (Key×V)} {ds:List (Key×D)}:F a=some (.frz ob (.dK vs))→RepK F vs ds→Rep F (.ref a) (.dic ds)
 | scr {a:Addr}{o:Obj}{ns:List Int}:F a=some (.frz o (.lst (ns.map V.int)))→Rep F (.ref a) (.scr ns)
inductive Reps (F:Hp):List V→List D→Prop
 | nil:Reps F [] []
 | cons {v:V}{d:D}{vs:List V}{ds:List D}:Rep F v d→Reps F vs ds→Reps F (v :: vs) (d :: ds)
inductive RepK (F:Hp):List (Key×V)→List (Key×D)→Prop
 | nil:RepK F [] []
 | cons {k:Key}{v:V}{d:D}{vs:List (Key×V)} {ds:List (Key×D)}:Rep F v d→RepK F vs ds→RepK F ((k,v) :: vs) ((k,d) :: ds)
end
section
variable {F F':Hp}
mutual
theorem Rep.mono (h:∀ a o,F a=some o→F' a=some o):∀ {v:V}{d:D},Rep F v d→Rep F' v d
 := fun r=>by
  cases r with
  | non=>exact .non
  | bl b=>exact .bl b
  | int i=>exact .int i
  | str x=>exact .str x
  | tup e r=>exact .tup (h _ _ e) (Reps.mono h r)
  | lst e r=>exact .lst (h _ _ e) (Reps.mono h r)
  | dic e r=>exact .dic (h _ _ e) (RepK.mono h r)
  | scr e=>exact .scr (h _ _ e)
theorem Reps.mono (h:∀ a o,F a=some o→F' a=some o):∀ {vs:List V}{ds:List D},Reps F vs ds→Reps F' vs ds:=fun r=>by
 cases r with
 | nil=>exact .nil
 | cons r t=>exact .cons (Rep.mono h r) (Reps.mono h t)
theorem RepK.mono (h:∀ a o,F a=some o→F' a=some o):∀ {vs:List (Key×V)} {ds:List (Key×D)},RepK F vs ds→RepK F' vs ds
 := fun r=>by
  cases r with
  | nil=>exact .nil
  | cons r t=>exact .cons (Rep.mono h r) (RepK.mono h t)
end
theorem Reps.c1 {vs:List V}{d:D}{ds:List D} (r:Reps F vs (d :: ds)):∃ v ws,vs=v :: ws∧Rep F v d∧Reps F ws ds:=by
 cases r with
 | cons a b=>exact ⟨_,_,rfl,a,b⟩
theorem Reps.c0 {vs:List V} (r:Reps F vs []):vs=[]:=by
 cases r
 rfl
theorem Reps.length:∀ {vs:List V}{ds:List D},Reps F vs ds→vs.length=ds.length:=fun r=>by
 cases r with
 | nil=>rfl
 | cons _ t=>exact ED Nat.succ (Reps.length t)
theorem Reps.append:∀ {vs ws:List V}{ds es:List D},Reps F vs ds→Reps F ws es→Reps F (vs ++ ws) (ds ++ es)
 := fun r s=>by
  cases r with
  | nil=>exact s
  | cons r t=>exact .cons r (Reps.append t s)
theorem Reps.get:∀ {vs:List V}{ds:List D}{i:Nat}{d:D},Reps F vs ds→ds[i]? = some d→∃ v,vs[i]? = some v∧Rep F v d
 := fun {vs ds i d} r e=>by
  cases r with
  | nil=>cases e
  | cons r t =>
   cases i with
   | zero=>cases e; exact ⟨_,rfl,r⟩
   | succ i=>exact Reps.get (i:=i) t e
theorem Reps.drop:∀ {vs:List V}{ds:List D} (n:Nat),Reps F vs ds→Reps F (vs.drop n) (ds.drop n)
 := fun n r=>by
  cases n with
  | zero=>exact r
  | succ n =>
   cases r with
   | nil=>exact .nil
   | cons _ t=>exact Reps.drop n t
theorem Reps.take:∀ {vs:List V}{ds:List D} (n:Nat),Reps F vs ds→Reps F (vs.take n) (ds.take n)
 := fun n r=>by
  cases n with
  | zero=>exact .nil
  | succ n =>
   cases r with
   | nil=>exact .nil
   | cons r t=>exact .cons r (Reps.take n t)
theorem Reps.set {v:V}{d:D} (r:Rep F v d):∀ {vs:List V}{ds:List D} (i:Nat),Reps F vs ds→Reps F (vs.set i v) (ds.set i d)
 | _,_,_,.nil=>.nil
 | _,_,0,.cons _ t=>.cons r t
 | _,_,i + 1,.cons q t=>.cons q (Reps.set r i t)
theorem Reps.reverse {vs:List V}{ds:List D} (h:Reps F vs ds):Reps F vs.reverse ds.reverse:=by
 induction vs generalizing ds with
 | nil=>cases h; exact .nil
 | cons v vs ih =>
  cases h with
  | cons r t=>rw [FM,FM]; exact (ih t).append (.cons r .nil)
theorem Reps.ints:∀ (ns:List Int),Reps F (ns.map V.int) (ns.map D.int)
 | []=>.nil
 | n :: ns=>.cons (.int n) (Reps.ints ns)
end
inductive FS where
 | v (d:D) | l (d:D)
structure OSt where
 C:Addr
 ia:Option Addr
 fs:List (Str×FS)
inductive Sl where
 | no | val (d:D) | own (d:D) | obj (s:OSt) | rob (s:OSt)
abbrev DE:=List Sl
def gq (F:Hp):HO→D→Prop
 | .lst vs,.lst ds=>Reps F vs ds
 | .dK vs,.dic ds=>RepK F vs ds
 | _,_=>False
theorem gq.mono {F F':Hp} (h:∀ a o,F a=some o→F' a=some o) {o:HO}{d:D} (r:gq F o d):gq F' o d:=by
 cases o <;> cases d <;> first | exact Reps.mono h r | exact RepK.mono h r | exact r
def fzO (ob:Obj):HO→HO
 | .dK vs=>.frz ob (.dK vs)
 | o=>o
theorem gq.rep {F:Hp}{a:Addr}{ob:Obj}{o:HO}{d:D} (r:gq F o d) (h:F a=some (fzO ob o)):Rep F (.ref a) d:=by
 cases o <;> cases d <;> first | exact .lst h r | exact .dic h r | exact False.elim r
theorem zZ {H:Hp}{a:Addr}{o:HO} (h:H a=some o):upd H a o=H:=by
 funext b
 by_cases hb:b=a
 ·subst hb; rw [aD,h]
 ·rw [av hb]
theorem zN {X:Cx}{pins:List (Addr×Obj)} {σ:St}{H:Hp}{s:Shared}{a:Addr}{o:HO} (I:Inv X pins σ H s) (e:H a=some o):∃ ob,Inv X pins σ (upd H a (fzO ob o)) s:=by
 cases o with
 | dK vs =>
  have z:=I.hok a _ e
  obtain ⟨h1,h2,us,h3,h4⟩:=id z
  obtain ⟨ob,es,ep,h5,h6⟩:=id h4
  exact ⟨ob,I.write (t':=s.toks) (x:=a) (e:=a) (h':=s.heap) (by rw [e]; exact trivial) (.inl rfl) (fun _ _ _ q=>q) ⟨ob,h5⟩ ⟨h5,h1,h2,us,h3,h4⟩⟩
 | _=>exact ⟨default,by
   unfold fzO
   rw [zZ e]; exact I⟩
inductive gU (F H:Hp):List (Str×V)→List (Str×FS)→List Addr→Prop
 | nil:gU F H [] [] []
 | val {f:Str}{v:V}{d:D}{vs:List (Str×V)} {xs:List (Str×FS)} {ps:List Addr}:Rep F v d→gU F H vs xs ps→gU F H ((f,v) :: vs) ((f,.v d) :: xs) ps
 | own {f:Str}{p:Addr}{o:HO}{d:D}{vs:List (Str×V)} {xs:List (Str×FS)} {ps:List Addr}:H p=some o→gq F o d→gU F H vs xs ps→gU F H ((f,.ref p) :: vs) ((f,.l d) :: xs) (p :: ps)
def lu (F H:Hp) (s:OSt) (fp:List Addr):Prop:=∃ a ps dx fs,fp=a :: ps∧(∀ b,s.ia=some b→a=b)∧H a=some (.ins s.C dx fs)∧gU F H fs s.fs ps
theorem gU.move {F H F' H':Hp} (hf:∀ a o,F a=some o→F' a=some o):∀ {vs:List (Str×V)} {xs:List (Str×FS)} {ps:List Addr},gU F H vs xs ps→(∀ p ∈ ps,∀ o,H p=some o→H' p=some o)→gU F' H' vs xs ps
 := fun r=>by
  induction r with
  | nil=>exact fun _=>.nil
  | val r t ih=>exact fun h=>.val (Rep.mono hf r) (ih h)
  | own e r t ih=>exact fun h=>.own (h _ DW _ e) (r.mono hf) (ih fun q hq=>h q (DS _ hq))
theorem gU.dom {F H:Hp}:∀ {vs:List (Str×V)} {xs:List (Str×FS)} {ps:List Addr},gU F H vs xs ps→∀ p ∈ ps,H p ≠ none
 := fun r=>by
  induction r with
  | nil=>exact fun p h=>nomatch h
  | val r t ih=>exact ih
  | own e r t ih=>exact fun p h=>(List.mem_cons.mp h).elim (fun z q=>by rw [z,e] at q; cases q) (ih p)
theorem lu.move {F H F' H':Hp}{s:OSt}{fp:List Addr} (hf:∀ a o,F a=some o→F' a=some o) (h:∀ p ∈ fp,∀ o,H p=some o→H' p=some o) (r:lu F H s fp):lu F' H' s fp:=by
 obtain ⟨a,ps,dx,fs,rfl,h0,h1,h2⟩:=r
 exact ⟨a,ps,dx,fs,rfl,h0,h a DW _ h1,h2.move hf fun p hp=>h p (DS _ hp)⟩
theorem lu.dom {F H:Hp}{s:OSt}{fp:List Addr} (r:lu F H s fp):∀ p ∈ fp,H p ≠ none:=by
 obtain ⟨a,ps,dx,fs,rfl,h0,h1,h2⟩:=r
 intro p hp
 rcases List.mem_cons.mp hp with z | z
 ·rw [z,h1]; simp
 ·exact h2.dom p z
structure Ext (F H F' H':Hp):Prop where
 same:∀ a o,H a=some o→H' a=some o
 fr:∀ a o,F a=some o→F' a=some o
 sub:∀ a o,F' a=some o→H' a=some o
 new:∀ a,F a=none→H a ≠ none→F' a=none
theorem Ext.refl {F H:Hp} (h:∀ a o,F a=some o→H a=some o):Ext F H F H:=⟨fun _ _ e=>e,fun _ _ e=>e,h,fun _ e _=>e⟩
theorem Ext.trans {F H F1 H1 F2 H2:Hp} (a:Ext F H F1 H1) (b:Ext F1 H1 F2 H2):Ext F H F2 H2 :=
 ⟨fun c o e=>b.same c o (a.same c o e),fun c o e=>b.fr c o (a.fr c o e),b.sub,fun c e n=>b.new c (a.new c e n) fun z=>n (by
  cases q:H c with
  | none=>rfl
  | some o=>rw [a.same c o q] at z; cases z)⟩
theorem Ext.freeze {F H:Hp}{p:Addr}{o:HO} (h:∀ a o,F a=some o→H a=some o) (hp:H p=none):Ext F H (upd F p o) (upd H p o) where
 same:=fun a u e=>by rw [av (b7 e hp)]; exact e
 fr:=fun a u e=>by rw [av (b7 (h a u e) hp)]; exact e
 sub:=fun a u e=>by
  by_cases ha:a=p
  ·subst ha; rw [aD] at e ⊢; exact e
  ·rw [av ha] at e ⊢; exact h a u e
 new:=fun a e n=>by
  have ha:a ≠ p:=fun z=>n (by rw [z]; exact hp)
  rw [av ha]; exact e
theorem Ext.lay {F H:Hp}{p:Addr}{o:HO} (h:∀ a o,F a=some o→H a=some o) (hp:H p=none):Ext F H F (upd H p o) where
 same:=fun a u e=>by rw [av (b7 e hp)]; exact e
 fr:=fun _ _ e=>e
 sub:=fun a u e=>by rw [av (b7 (h a u e) hp)]; exact h a u e
 new:=fun _ e _=>e
theorem Ext.nofree {F H F' H':Hp} (x:Ext F H F' H') {p:Addr} (h:H' p=none):H p=none:=by
 cases q:H p with
 | none=>rfl
 | some o=>rw [x.same p o q] at h; cases h
theorem nofr {F H:Hp} (h:∀ a o,F a=some o→H a=some o) {p:Addr} (hp:H p=none):F p=none:=by
 cases q:F p with
 | none=>rfl
 | some o=>rw [h p o q] at hp; cases hp
structure OkF (fp:Nat→List Addr) (B:Hp×Hp) (F H:Hp) (σ:St) (E:DE):Prop where
 at_:∀ (i:Nat) s,E[i]? = some (.obj s)→(∃ a,(fp i).head? = some a∧σ[i]? = some (some (.ref a)))∧lu F H s (fp i)∧(fp i).Nodup∧∀ x ∈ fp i,F x=none∧B.2 x=none
 sep:∀ (i j:Nat) s d b,E[i]? = some (.obj s)→E[j]? = some (.own d)→σ[j]? = some (some (.ref b))→b ∉ fp i
 two:∀ (i j:Nat) s t,i ≠ j→E[i]? = some (.obj s)→E[j]? = some (.obj t)→∀ x ∈ fp i,x ∉ fp j
 rob:∀ (i:Nat) s,E[i]? = some (.rob s)→(∃ a ps,σ[i]? = some (some (.ref a))∧lu F F s (a :: ps))∨(s.fs=[]∧∃ a,s.ia=some a∧σ[i]? = some (some (.ref a)))
def CW (B:Hp×Hp) (F H:Hp) (σ:St) (E:DE):Prop:=∃ fp,OkF fp B F H σ E
theorem OkF.to {fp:Nat→List Addr}{B B':Hp×Hp}{F H F' H':Hp} {σ σ':St}{E E':DE} (k:OkF fp B F H σ E) (hf:∀ a o,F a=some o→F' a=some o) (ho:∀ (i:Nat) s,E'[i]? = some (.obj s)→E[i]? = some (.obj s)∧σ'[i]? = σ[i]?)
  (hr:∀ (i:Nat) s,E'[i]? = some (.rob s)→E[i]? = some (.rob s)∧σ'[i]? = σ[i]?)
  (hp:∀ (i:Nat) s,E'[i]? = some (.obj s)→∀ x ∈ fp i,(∀ o,H x=some o→H' x=some o)∧F' x=none∧B'.2 x=none)
  (hs:∀ (i j:Nat) s d b,E'[i]? = some (.obj s)→E'[j]? = some (.own d)→σ'[j]? = some (some (.ref b))→b ∉ fp i):OkF fp B' F' H' σ' E' where
 at_:=fun i s h=>by
  obtain ⟨h1,h2⟩:=ho i s h
  obtain ⟨a1,a2,a3,a4⟩:=k.at_ i s h1
  exact ⟨by rw [h2]; exact a1,a2.move hf fun p hpp=>(hp i s h p hpp).1,a3,fun x hx=>(hp i s h x hx).2⟩
 sep:=hs
 two:=fun i j s t hij h1 h2=>k.two i j s t hij (ho i s h1).1 (ho j t h2).1
 rob:=fun i s h=>by
  obtain ⟨h1,h2⟩:=hr i s h
  rcases k.rob i s h1 with ⟨a,ps,q1,q2⟩ | ⟨q0,a,q1,q2⟩
  ·exact .inl ⟨a,ps,by rw [h2]; exact q1,q2.move hf fun p _ o e=>hf p o e⟩
  ·exact .inr ⟨q0,a,q1,by rw [h2]; exact q2⟩
theorem OkF.ext {fp:Nat→List Addr}{B:Hp×Hp}{F H F' H':Hp} {σ:St}{E:DE} (q:OkF fp B F H σ E) (x:Ext F H F' H'):OkF fp B F' H' σ E :=
 q.to x.fr (fun i s h=>⟨h,rfl⟩) (fun i s h=>⟨h,rfl⟩) (fun i s h y hy=>⟨fun o e=>x.same y o e,x.new y ((q.at_ i s h).2.2.2 y hy).1 ((q.at_ i s h).2.1.dom y hy),((q.at_ i s h).2.2.2 y hy).2⟩) q.sep
structure Ok (B:Hp×Hp) (F H:Hp) (σ:St) (E:DE):Prop where
 ent:Ext B.1 B.2 F H
 len:σ.length=E.length
 val:∀ (i:Nat) d,E[i]? = some (.val d)→∃ v,σ[i]? = some (some v)∧Rep F v d
 own:∀ (i:Nat) d,E[i]? = some (.own d)→∃ a o,σ[i]? = some (some (.ref a))∧H a=some o∧F a=none∧B.2 a=none∧gq F o d
 sep:∀ (i j:Nat) d e a,i ≠ j→E[i]? = some (.own d)→E[j]? = some (.own e)→σ[i]? = some (some (.ref a))→σ[j]? ≠ some (some (.ref a))
 ob:CW B F H σ E
section
variable {B:Hp×Hp}{F H F' H':Hp} {σ:St}{E:DE}
theorem Ok.sub (k:Ok B F H σ E):∀ a o,F a=some o→H a=some o:=k.ent.sub
theorem Ok.ext (k:Ok B F H σ E) (x:Ext F H F' H'):Ok B F' H' σ E :=
 ⟨k.ent.trans x,k.len,fun i d e=>(let ⟨v,h1,h2⟩:=k.val i d e; ⟨v,h1,h2.mono x.fr⟩),
  fun i d e=>(let ⟨a,o,h1,h2,h3,h4,h5⟩:=k.own i d e; ⟨a,o,h1,x.same a o h2,x.new a h3 (by rw [h2]; simp),h4,h5.mono x.fr⟩),k.sep,
  let ⟨fp,q⟩:=k.ob; ⟨fp,q.ext x⟩⟩
theorem Ok.set_val (k:Ok B F H σ E) {v:V}{d:D} (r:Rep F v d) (i:Nat):Ok B F H (σ.set i (some v)) (E.set i (.val d)):=by
 have hl:=k.len
 have nown:∀ (j:Nat) e,(E.set i (.val d))[j]? = some (.own e)→i ≠ j∧E[j]? = some (.own e):=fun j e h=>by
  rw [Ee] at h
  split at h
  ·split at h <;> simp at h
  ·exact ⟨by assumption,h⟩
 refine ⟨k.ent,by rw [EF,EF]; exact hl,fun j e h=>?_,fun j e h=>?_,fun j l d' e' a hjl h1 h2 h3 h4=>?_,?_⟩
 ·rw [Ee] at h
  rw [Ee]
  split at h
  ·subst_vars
   split at h
   ·simp at h; subst h
    rename_i hlt
    exact ⟨v,by simp [hl,hlt],r⟩
   ·simp at h
  ·rename_i hne
   rw [if_neg hne]
   exact k.val j e h
 ·obtain ⟨hne,h⟩:=nown j e h
  rw [D2 hne]
  exact k.own j e h
 ·obtain ⟨n1,h1⟩:=nown j d' h1
  obtain ⟨n2,h2⟩:=nown l e' h2
  rw [D2 n1] at h3
  rw [D2 n2] at h4
  exact k.sep j l d' e' a hjl h1 h2 h3 h4
 ·have bk:∀ (j:Nat) z,(∀ q,z ≠ Sl.val q)→(E.set i (.val d))[j]? = some z→i ≠ j∧E[j]? = some z:=fun j z hz h=>by
   rw [Ee] at h
   split at h
   ·split at h
    ·simp at h; exact absurd h.symm (hz d)
    ·simp at h
   ·exact ⟨by assumption,h⟩
  obtain ⟨fp,q⟩:=k.ob
  exact ⟨fp,q.to (fun _ _ e=>e) (fun j s h=>⟨(bk j _ (by simp) h).2,D2 (bk j _ (by simp) h).1⟩) (fun j s h=>⟨(bk j _ (by simp) h).2,D2 (bk j _ (by simp) h).1⟩)
   (fun j s h x hx=>⟨fun _ e=>e,(q.at_ j s (bk j _ (by simp) h).2).2.2.2 x hx⟩) (fun j l s e b h1 h2 h3=>by
    obtain ⟨n2,h2⟩:=bk l _ (by simp) h2
    rw [D2 n2] at h3
    exact q.sep j l s e b (bk j _ (by simp) h1).2 h2 h3)⟩
theorem Ok.put_own (k:Ok B F H σ E) {a:Addr}{o:HO}{d:D} (i:Nat) (hn:F a=none) (hb:B.2 a=none) (r:gq F o d)
  (hfree:∀ (j:Nat) e,j ≠ i→E[j]? = some (.own e)→σ[j]? ≠ some (some (.ref a))) (hobj:∃ fp,OkF fp B F H σ E∧∀ (j:Nat) s,E[j]? = some (.obj s)→a ∉ fp j):Ok B F (upd H a o) (σ.set i (some (.ref a))) (E.set i (.own d)):=by
 have hl:=k.len
 have oth:∀ (j:Nat) s,i ≠ j→(E.set i (.own d))[j]? = some s→E[j]? = some s:=fun j s hne h=>by rw [D2 hne] at h; exact h
 refine ⟨⟨fun b u e=>?_,k.ent.fr,fun b u e=>?_,k.ent.new⟩,by rw [EF,EF]; exact hl,fun j e h=>?_,fun j e h=>?_,fun j l d' e' b hjl h1 h2 h3 h4=>?_,?_⟩
 ·have:b ≠ a:=fun z=>by rw [z,hb] at e; cases e
  rw [av this]; exact k.ent.same b u e
 ·have:b ≠ a:=fun z=>by rw [z,hn] at e; cases e
  rw [av this]; exact k.sub b u e
 ·rw [Ee] at h
  split at h
  ·split at h <;> simp at h
  ·rename_i hne
   rw [D2 hne]
   exact k.val j e h
 ·rw [Ee] at h
  rw [Ee]
  split at h
  ·rename_i hij
   subst hij
   split at h
   ·rename_i hlt
    simp at h; subst h
    exact ⟨a,o,by simp [hl,hlt],aD,hn,hb,r⟩
   ·simp at h
  ·rename_i hne
   rw [if_neg hne]
   obtain ⟨b,u,h1,h2,h3,h4,h5⟩:=k.own j e h
   have nba:b ≠ a:=fun z=>hfree j e (Ne.symm hne) h (by rw [h1,z])
   exact ⟨b,u,h1,by rw [av nba]; exact h2,h3,h4,h5⟩
 ·have key:∀ (p q:Nat) (dp dq:D),p ≠ q→(E.set i (.own d))[p]? = some (.own dp)→(E.set i (.own d))[q]? = some (.own dq)→(σ.set i (some (.ref a)))[p]? = some (some (.ref b))→(σ.set i (some (.ref a)))[q]? = some (some (.ref b))→i ≠ p→False:=by
   intro p q dp dq hpq g1 g2 g3 g4 hip
   rw [D2 hip] at g3
   have g1':=oth p _ hip g1
   by_cases hiq:i=q
   ·subst hiq
    rw [Ee] at g4
    rw [if_pos rfl] at g4
    split at g4
    ·simp at g4; subst g4
     exact hfree p dp (Ne.symm hip) g1' g3
    ·simp at g4
   ·rw [D2 hiq] at g4
    exact k.sep p q dp dq b hpq g1' (oth q _ hiq g2) g3 g4
  by_cases hij:i=j
  ·exact key l j e' d' (Ne.symm hjl) h2 h1 h4 h3 (fun z=>hjl (by rw [← hij,z]))
  ·exact key j l d' e' hjl h1 h2 h3 h4 hij
 ·have bk:∀ (j:Nat) z,(∀ q,z ≠ Sl.own q)→(E.set i (.own d))[j]? = some z→i ≠ j∧E[j]? = some z:=fun j z hz h=>by
   rw [Ee] at h
   split at h
   ·split at h
    ·simp at h; exact absurd h.symm (hz d)
    ·simp at h
   ·exact ⟨by assumption,h⟩
  obtain ⟨fp,q,hobj⟩:=hobj
  refine ⟨fp,q.to (fun _ _ e=>e) (fun j s h=>⟨(bk j _ (by simp) h).2,D2 (bk j _ (by simp) h).1⟩) (fun j s h=>⟨(bk j _ (by simp) h).2,D2 (bk j _ (by simp) h).1⟩)
   (fun j s h x hx=>⟨fun _ e=>?_,(q.at_ j s (bk j _ (by simp) h).2).2.2.2 x hx⟩) (fun j l s e c h1 h2 h3=>?_)⟩
  ·rw [av (fun z=>hobj j s (bk j _ (by simp) h).2 (by rw [← z]; exact hx))]; exact e
  ·have h1':=(bk j _ (by simp) h1).2
   by_cases hil:i=l
   ·subst hil
    rw [Ee,if_pos rfl] at h3
    split at h3
    ·simp at h3; subst h3; exact hobj j s h1'
    ·simp at h3
   ·rw [D2 hil] at h2 h3
    exact q.sep j l s e c h1' h2 h3
end
def fzE (i:Nat) (E:DE):DE:=match E[i]? with
 | some (.own d)=>E.set i (.val d)
 | _=>E
theorem Ok.fzG {B:Hp×Hp}{F H:Hp} {σ:St}{E:DE} (k:Ok B F H σ E) {i:Nat}{d:D}{a:Addr}{o':HO} (h:E[i]? = some (.own d)) (h1:σ[i]? = some (some (.ref a))) (h3:F a=none) (h4:B.2 a=none) (hr:Rep (upd F a o') (.ref a) d):Ok B (upd F a o') (upd H a o') σ (E.set i (.val d)):=by
 have up:∀ b u,F b=some u→(upd F a o') b=some u:=fun b u e=>by rw [av (fun z=>by rw [z,h3] at e; cases e)]; exact e
 have nown:∀ (j:Nat) e,(E.set i (.val d))[j]? = some (.own e)→i ≠ j∧E[j]? = some (.own e):=fun j e q=>by
  rw [Ee] at q
  split at q
  ·split at q <;> simp at q
  ·exact ⟨by assumption,q⟩
 refine ⟨⟨fun b u e=>?_,fun b u e=>up b u (k.ent.fr b u e),fun b u e=>?_,fun b e n=>?_⟩,by rw [EF]; exact k.len,fun j e q=>?_,fun j e q=>?_,fun j l d' e' b hjl g1 g2=>k.sep j l d' e' b hjl (nown j d' g1).2 (nown l e' g2).2,?_⟩
 ·have:b ≠ a:=fun z=>by rw [z,h4] at e; cases e
  rw [av this]; exact k.ent.same b u e
 ·by_cases hb:b=a
  ·subst hb; rw [aD] at e ⊢; exact e
  ·rw [av hb] at e ⊢; exact k.sub b u e
 ·have hb:b ≠ a:=fun z=>n (by rw [z]; exact h4)
  rw [av hb]; exact k.ent.new b e n
 ·rw [Ee] at q
  split at q
  ·rename_i hij
   subst hij
   split at q
   ·simp at q; subst q
    exact ⟨_,h1,hr⟩
   ·simp at q
  ·obtain ⟨v,r1,r2⟩:=k.val j e q
   exact ⟨v,r1,r2.mono up⟩
 ·obtain ⟨hne,q⟩:=nown j e q
  obtain ⟨b,u,r1,r2,r3,r4,r5⟩:=k.own j e q
  have nba:b ≠ a:=fun z=>k.sep j i e d a (Ne.symm hne) q h (by rw [r1,z]) h1
  exact ⟨b,u,r1,by rw [av nba]; exact r2,by rw [av nba]; exact r3,r4,r5.mono up⟩
 ·have bk:∀ (j:Nat) z,(∀ q,z ≠ Sl.val q)→(E.set i (.val d))[j]? = some z→i ≠ j∧E[j]? = some z:=fun j z hz h=>by
   rw [Ee] at h
   split at h
   ·split at h
    ·simp at h; exact absurd h.symm (hz d)
    ·simp at h
   ·exact ⟨by assumption,h⟩
  obtain ⟨fp,m⟩:=k.ob
  have nfp:∀ (j:Nat) s,(E.set i (.val d))[j]? = some (.obj s)→∀ x ∈ fp j,x ≠ a:=fun j s q x hx z=>m.sep j i s d a (bk j _ (by simp) q).2 h h1 (by rw [← z]; exact hx)
  refine ⟨fp,m.to up (fun j s q=>⟨(bk j _ (by simp) q).2,rfl⟩) (fun j s q=>⟨(bk j _ (by simp) q).2,rfl⟩) (fun j s q x hx=>⟨fun _ e=>?_,?_,((m.at_ j s (bk j _ (by simp) q).2).2.2.2 x hx).2⟩) (fun j l s e c g1 g2=>m.sep j l s e c (bk j _ (by simp) g1).2 (bk l _ (by simp) g2).2)⟩
  ·rw [av (nfp j s q x hx)]; exact e
  ·rw [av (nfp j s q x hx)]
   exact ((m.at_ j s (bk j _ (by simp) q).2).2.2.2 x hx).1
theorem Ok.fz {X:Cx}{pins:List (Addr×Obj)} {s:Shared}{B:Hp×Hp}{F H:Hp} {σ:St}{E:DE} (I:Inv X pins σ H s) (k:Ok B F H σ E) (i:Nat):∃ F' H',Inv X pins σ H' s∧Ok B F' H' σ (fzE i E)∧∀ a o,F a=some o→F' a=some o:=by
 unfold fzE
 cases h:E[i]? with
 | none=>exact ⟨F,H,I,k,fun _ _ e=>e⟩
 | some z =>
  cases z with
  | no=>exact ⟨F,H,I,k,fun _ _ e=>e⟩
  | val d=>exact ⟨F,H,I,k,fun _ _ e=>e⟩
  | obj z=>exact ⟨F,H,I,k,fun _ _ e=>e⟩
  | rob z=>exact ⟨F,H,I,k,fun _ _ e=>e⟩
  | own d =>
   obtain ⟨a,o,h1,h2,h3,h4,h5⟩:=k.own i d h
   obtain ⟨ob,I'⟩:=zN I h2
   have up:∀ b u,F b=some u→(upd F a (fzO ob o)) b=some u:=fun b u e=>by rw [av (fun z=>by rw [z,h3] at e; cases e)]; exact e
   exact ⟨upd F a (fzO ob o),_,I',k.fzG h h1 h3 h4 ((h5.mono up).rep aD),up⟩
inductive Md where
 | V | O | F
def rM:Md→Hp→Hp→Hp→V→D→Prop
 | .V,_,F,_,v,d=>Rep F v d
 | .O,_,F,H,v,d=>Rep F v d∨∃ a o,v=.ref a∧H a=some o∧gq F o d
 | .F,H0,F,H,v,d=>∃ a o,v=.ref a∧H0 a=none∧H a=some o∧F a=none∧gq F o d
abbrev OB (F H:Hp) (v:V) (d:D):Prop:=Rep F v d∨∃ a o,v=.ref a∧H a=some o∧gq F o d
theorem OB.ext {F H F' H':Hp}{v:V}{d:D} (x:Ext F H F' H') (r:OB F H v d):OB F' H' v d:=by
 rcases r with r | ⟨a,o,h1,h2,h3⟩
 ·exact .inl (r.mono x.fr)
 ·exact .inr ⟨a,o,h1,x.same a o h2,h3.mono x.fr⟩
theorem rM.anti {m:Md}{H0 H1 F H:Hp}{v:V}{d:D} (h:∀ p,H1 p=none→H0 p=none) (r:rM m H1 F H v d):rM m H0 F H v d:=by
 cases m with
 | V=>exact r
 | O=>exact r
 | F=>obtain ⟨a,o,h1,h2,h3,h4,h5⟩:=r; exact ⟨a,o,h1,h a h2,h3,h4,h5⟩
theorem rM.ob {m:Md}{H0 F H:Hp}{v:V}{d:D} (r:rM m H0 F H v d):OB F H v d:=by
 cases m with
 | V=>exact .inl r
 | O=>exact r
 | F=>obtain ⟨a,o,h1,h2,h3,h4,h5⟩:=r; exact .inr ⟨a,o,h1,h3,h5⟩
def tM (m:Md) (f:DE→Option D):TE:=fun σ H Q=>∃ B F E d,Ok B F H σ E∧f E=some d∧∀ v F' H',Ext F H F' H'→rM m H F' H' v d→Q v H'
def tT (f:DE→Option Bool):TT:=fun σ H Q=>∃ B F E b,Ok B F H σ E∧f E=some b∧∀ F' H',Ext F H F' H'→Q b H'
def tL (f:DE→Option (List D)):TA:=fun σ H Q=>∃ B F E ds,Ok B F H σ E∧f E=some ds∧∀ vs F' H',Ext F H F' H'→Reps F' vs ds→Q vs H'
structure Ev (X:Cx) (m:Md) (e:Expr) (f:DE→Option D):Prop where
 h:PE X e (tM m f)
structure Et (X:Cx) (e:Expr) (f:DE→Option Bool):Prop where
 h:PT X e (tT f)
structure Ea (X:Cx) (es:List Expr) (f:DE→Option (List D)):Prop where
 h:PA X es (tL f)
inductive Out where
 | nx (E:DE) | rt (d:D) | bk (E:DE) | ct (E:DE)
abbrev Fr (F F':Hp):Prop:=∀ a o,F a=some o→F' a=some o
def nY (B:Hp×Hp) (F:Hp) (Z:eC):Out→Prop
 | .nx E=>∀ σ F' H,Ok B F' H σ E→Fr F F'→Z.nx σ H
 | .rt d=>∀ v F' H,Ext B.1 B.2 F' H→Rep F' v d→Z.rt v H
 | .bk E=>∀ σ F' H,Ok B F' H σ E→Fr F F'→Z.bk σ H
 | .ct E=>∀ σ F' H,Ok B F' H σ E→Fr F F'→Z.ct σ H
theorem nY.mono {B:Hp×Hp}{F F1:Hp}{Z:eC}{r:Out} (h:nY B F Z r) (x:Fr F F1):nY B F1 Z r:=by
 cases r with
 | nx E=>exact fun σ F' H k y=>h σ F' H k fun a o e=>y a o (x a o e)
 | rt d=>exact h
 | bk E=>exact fun σ F' H k y=>h σ F' H k fun a o e=>y a o (x a o e)
 | ct E=>exact fun σ F' H k y=>h σ F' H k fun a o e=>y a o (x a o e)
def tS (f:DE→Option Out):TS:=fun Z σ H=>∃ B F E r,Ok B F H σ E∧f E=some r∧nY B F Z r
structure Es (X:Cx) (st:Stmt) (f:DE→Option Out):Prop where
 h:PS X st (tS f)
structure Ess (X:Cx) (st:List Stmt) (f:DE→Option Out):Prop where
 h:PSs X st (tS f)
section
variable {X:Cx}{e a b c:Expr}{pos:Pos}
theorem PE.by {t:TE}{m:Md}{f:DE→Option D} (h:PE X e t) (w:∀ σ H Q,tM m f σ H Q→t σ H Q):Ev X m e f:=⟨fun pins s σ H Q I q=>h pins s σ H Q I (w σ H Q q)⟩
theorem PT.by {t:TT}{f:DE→Option Bool} (h:PT X e t) (w:∀ σ H Q,tT f σ H Q→t σ H Q):Et X e f:=⟨fun pins s σ H Q I q=>h pins s σ H Q I (w σ H Q q)⟩
theorem PA.by {es:List Expr}{t:TA}{f:DE→Option (List D)} (h:PA X es t) (w:∀ σ H Q,tL f σ H Q→t σ H Q):Ea X es f:=⟨fun pos pins s σ H Q I q=>h pos pins s σ H Q I (w σ H Q q)⟩
theorem PS.by {st:Stmt}{t:TS}{f:DE→Option Out} (h:PS X st t) (w:∀ Z σ H,tS f Z σ H→t Z σ H):Es X st f:=⟨fun pins s σ H Z I q=>h pins s σ H Z I (w Z σ H q)⟩
theorem PSs.by {st:List Stmt}{t:TS}{f:DE→Option Out} (h:PSs X st t) (w:∀ Z σ H,tS f Z σ H→t Z σ H):Ess X st f:=⟨fun pins s σ H Z I q=>h pins s σ H Z I (w Z σ H q)⟩
theorem Ev.frz {f:DE→Option D} (h:Ev X .F e f):Ev X .V e f:=⟨fun pins s σ H Q I zz66_0=>by
 obtain ⟨B,F,E,d,k,q,w⟩:=zz66_0
 refine thn (h.h pins s σ H (fun v H1=>∃ a o,v=.ref a∧H1 a=some o∧∀ ob,Q v (upd H1 a (fzO ob o))) I ⟨B,F,E,d,k,q,fun v F' H' x r=>?_⟩) fun u s1 ⟨x,H1,I1,r1,a,o,e1,e2,q1⟩=>?_
 ·obtain ⟨p,o,h1,h2,h3,h4,h5⟩:=r
  subst h1
  refine ⟨p,o,rfl,h3,fun ob=>?_⟩
  have up:∀ c u,F' c=some u→(upd F' p (fzO ob o)) c=some u:=fun c u z=>by rw [av (fun y=>by rw [y,h4] at z; cases z)]; exact z
  refine w _ (upd F' p (fzO ob o)) _ ⟨fun c u z=>?_,fun c u z=>up c u (x.fr c u z),fun c u z=>?_,fun c z n=>?_⟩ ((h5.mono up).rep aD)
  ·have hc:c ≠ p:=fun y=>by rw [y,h2] at z; cases z
   rw [av hc]; exact x.same c u z
  ·by_cases hc:c=p
   ·subst hc; rw [aD] at z ⊢; exact z
   ·rw [av hc] at z ⊢; exact x.sub c u z
  ·have hc:c ≠ p:=fun y=>n (by rw [y]; exact h2)
   rw [av hc]; exact x.new c z n
 ·obtain ⟨ob,I2⟩:=zN I1 e2
  exact ⟨x,_,I2,r1,q1 ob⟩⟩
theorem Ev.obs {m:Md}{f:DE→Option D} (h:Ev X m e f):Ev X .O e f:=PE.by h.h fun σ H Q zz68_0=>by obtain ⟨B,F,E,d,k,q,w⟩:=zz68_0; exact ⟨B,F,E,d,k,q,fun v F' H' x r=>w v F' H' x r.ob⟩
def var (i:Nat) (E:DE):Option D:=match E[i]? with
 | some (.val d)=>some d
 | _=>none
def aa (i:Nat) (E:DE):Option D:=match E[i]? with
 | some (.val d)=>some d
 | some (.own d)=>some d
 | _=>none
theorem Bj (i:Nat) (h:PE X e (jT i)):Ev X .V e (var i):=PE.by h fun σ H Q zz69_0=>by
 obtain ⟨B,F,E,d,k,q,w⟩:=zz69_0
 unfold var at q
 split at q
 ·rename_i d' hd
  cases q
  obtain ⟨v,h1,h2⟩:=k.val i d hd
  exact ⟨v,h1,w v F H (Ext.refl k.sub) h2⟩
 ·cases q
theorem ze (i:Nat) (h:PE X e (jT i)):Ev X .O e (aa i):=PE.by h fun σ H Q zz70_0=>by
 obtain ⟨B,F,E,d,k,q,w⟩:=zz70_0
 unfold aa at q
 split at q
 ·rename_i d' hd
  cases q
  obtain ⟨v,h1,h2⟩:=k.val i d hd
  exact ⟨v,h1,w v F H (Ext.refl k.sub) (.inl h2)⟩
 ·rename_i d' hd
  cases q
  obtain ⟨p,o,h1,h2,h3,h4,h5⟩:=k.own i d hd
  exact ⟨_,h1,w _ F H (Ext.refl k.sub) (.inr ⟨p,o,rfl,h2,h5⟩)⟩
 ·cases q
def cst (d:D) (_:DE):Option D:=some d
theorem nJ {v:V}{d:D} (h:PE X e (tC v)) (r:∀ F,Rep F v d):Ev X .V e (cst d):=PE.by h fun σ H Q zz71_0=>by
 obtain ⟨B,F,E,d',k,q,w⟩:=zz71_0
 cases q
 exact w v F H (Ext.refl k.sub) (r F)
theorem ag {i:Int}{j pos}:Ev X .V (.Constant (.int i) j pos) (cst (.int i)):=nJ v9 fun _=>.int i
theorem hU {i:Bool}{j pos}:Ev X .V (.Constant (.bool i) j pos) (cst (.bl i)):=nJ Co fun _=>.bl i
theorem jb {j pos}:Ev X .V (.Constant .none j pos) (cst .non):=nJ qz fun _=>.non
theorem gd {i:Str}{j pos}:Ev X .V (.Constant (.str i) j pos) (cst (.str i)):=nJ AL fun _=>.str i
def fV (m:Md) (r:R2) (o:D→D→Option D):Prop:=∀ (F H:Hp) (v w:V) (x y d:D) (Q:VK),(∀ a u,F a=some u→H a=some u)→OB F H v x→OB F H w y→o x y=some d →
 (∀ u F' H',Ext F H F' H'→rM m H F' H' u d→Q u H')→r v w H Q
def bin (o:D→D→Option D) (f g:DE→Option D) (E:DE):Option D:=(f E).bind fun x=>(g E).bind fun y=>o x y
theorem gP {m:Md}{r:R2}{o:D→D→Option D}{f g:DE→Option D} (hr:fV m r o) (σ:St) (H:Hp) (Q:VK) (h:tM m (bin o f g) σ H Q):tOp r (tM .O f) (tM .O g) σ H Q:=by
 obtain ⟨B,F,E,d,k,q,w⟩:=h
 unfold bin at q
 cases hf:f E with
 | none=>rw [hf] at q; cases q
 | some x =>
  rw [hf] at q
  cases hg:g E with
  | none=>rw [hg] at q; cases q
  | some y =>
   rw [hg] at q
   refine ⟨B,F,E,x,k,hf,fun v F1 H1 x1 r1=>⟨B,F1,E,y,k.ext x1,hg,fun u F2 H2 x2 r2=>?_⟩⟩
   exact hr F2 H2 v u x y d Q x2.sub (OB.ext x2 r1) r2 q fun z F3 H3 x3 r3=>w z F3 H3 ((x1.trans x2).trans x3) (rM.anti (fun p hp=>(x1.trans x2).nofree hp) r3)
theorem il {m:Md}{op:Operator}{r:R2}{o:D→D→Option D}{f g:DE→Option D} (ho:OpR X (binaryOp op) r) (hr:fV m r o) (ha:Ev X .O a f) (hb:Ev X .O b g):Ev X m (.BinOp a op b pos) (bin o f g) :=
 PE.by (Cm ho ha.h hb.h) (gP hr)
theorem Bo {op:CmpOp}{r:R2}{o:D→D→Option D}{f g:DE→Option D} (ho:OpR X (compareOp op) r) (hr:fV .V r o) (ha:Ev X .O a f) (hb:Ev X .O b g) (hm:behindInMarks op b=false):Ev X .V (.Compare a [op] [b] pos) (bin o f g) :=
 PE.by (yz ho ha.h hb.h hm) (gP hr)
def asB:D→Option Bool
 | .bl b=>some b
 | _=>none
def tst (f:DE→Option D) (E:DE):Option Bool:=(f E).bind asB
theorem gA {f:DE→Option D} (σ:St) (H:Hp) (Q:Bool→Hp→Prop) (h:tT (tst f) σ H Q):tM .V f σ H fun x H'=>∃ k,x=.bl k∧Q k H':=by
 obtain ⟨B,F,E,b,k,q,w⟩:=h
 unfold tst at q
 cases hf:f E with
 | none=>rw [hf] at q; cases q
 | some x =>
  rw [hf] at q
  refine ⟨B,F,E,x,k,hf,fun v F' H' x1 r1=>?_⟩
  cases x with
  | bl c =>
   cases q
   cases (show Rep F' v (.bl b) from r1)
   exact ⟨b,rfl,w F' H' x1⟩
  | _=>cases q
theorem jd {op:CmpOp}{r:R2}{o:D→D→Option D}{f g:DE→Option D} (ho:OpR X (compareOp op) r) (hr:fV .V r o) (ha:Ev X .O a f) (hb:Ev X .O b g) (hm:behindInMarks op b=false):Et X (.Compare a [op] [b] pos) (tst (bin o f g)) :=
 PT.by (jG ho ha.h hb.h hm) fun σ H Q h=>gP hr σ H _ (gA σ H Q h)
theorem jc {f:DE→Option D} (h:Ev X .V e f) (he:∀ whole,isTrue e X.env whole=(do let v ← whole; standAt e.pos; holding [v] (truthy v)):=by intro _; rfl):Et X e (tst f) :=
 PT.by (Az h.h he) fun σ H Q q=>gA σ H Q q
def nn (f:DE→Option Bool) (E:DE):Option Bool:=(f E).map (!·)
theorem q8 {f:DE→Option Bool} (h:Et X a f):Et X (.UnaryOp .Not a pos) (nn f):=PT.by (AA h.h) fun σ H Q zz72_0=>by
 obtain ⟨B,F,E,b,k,q,w⟩:=zz72_0
 unfold nn at q
 cases hf:f E with
 | none=>rw [hf] at q; cases q
 | some c =>
  rw [hf] at q
  cases q
  exact ⟨B,F,E,c,k,hf,w⟩
def gu (f g:DE→Option Bool) (E:DE):Option Bool:=(f E).bind fun c=>if c=true then g E else some false
def orT (f g:DE→Option Bool) (E:DE):Option Bool:=(f E).bind fun c=>if c=true then some true else g E
structure Ew (X:Cx) (e:Expr) (f:DE→Option Bool):Prop where
 h:PW X e (tT f)
theorem PW.by {t:TT}{f:DE→Option Bool} (h:PW X e t) (w:∀ σ H Q,tT f σ H Q→t σ H Q):Ew X e f:=⟨fun whole pins s σ H Q I q=>h whole pins s σ H Q I (w σ H Q q)⟩
theorem jK {f:DE→Option Bool} (h:Et X a f):Ew X (.BoolOp .And [a] pos) f:=⟨yj h.h⟩
theorem i_ {f:DE→Option Bool} (h:Et X a f):Ew X (.BoolOp .Or [a] pos) f:=⟨Ax h.h⟩
theorem nE {cg:List Expr}{f g:DE→Option Bool} (h:Et X a f) (h2:Ew X (.BoolOp .And (b :: cg) pos) g):Ew X (.BoolOp .And (a :: b :: cg) pos) (gu f g):=PW.by (Ay h.h h2.h) fun σ H Q zz73_0=>by
 obtain ⟨B,F,E,d,k,q,w⟩:=zz73_0
 unfold gu at q
 cases hf:f E with
 | none=>rw [hf] at q; cases q
 | some c =>
  rw [hf] at q
  refine ⟨B,F,E,c,k,hf,fun F1 H1 x1=>?_⟩
  cases c with
  | false=>cases q; exact qU (w F1 H1 x1)
  | true=>exact qT ⟨B,F1,E,d,k.ext x1,q,fun F2 H2 x2=>w F2 H2 (x1.trans x2)⟩
theorem kR {cg:List Expr}{f g:DE→Option Bool} (h:Et X a f) (h2:Ew X (.BoolOp .Or (b :: cg) pos) g):Ew X (.BoolOp .Or (a :: b :: cg) pos) (orT f g):=PW.by (Ci h.h h2.h) fun σ H Q zz74_0=>by
 obtain ⟨B,F,E,d,k,q,w⟩:=zz74_0
 unfold orT at q
 cases hf:f E with
 | none=>rw [hf] at q; cases q
 | some c =>
  rw [hf] at q
  refine ⟨B,F,E,c,k,hf,fun F1 H1 x1=>?_⟩
  cases c with
  | true=>cases q; exact qT (w F1 H1 x1)
  | false=>exact qU ⟨B,F1,E,d,k.ext x1,q,fun F2 H2 x2=>w F2 H2 (x1.trans x2)⟩
theorem Ew.et {f:DE→Option Bool} (h:Ew X e f):Et X e f:=⟨h.h _⟩
def xz (f g:DE→Option D) (E:DE):Option D:=(f E).bind fun x=>(asB x).bind fun c=>if c=true then g E else some (.bl false)
def yK (f:DE→Option D) (E:DE):Option D:=(f E).bind fun x=>(asB x).map fun c=>.bl (!c)
theorem pY {x:D}{c:Bool} (h:asB x=some c):x=.bl c:=by cases x <;> simp [asB] at h; rw [h]
theorem Bl {op}{f:DE→Option D} (h:Ev X .V a f):Ev X .V (.BoolOp op [a] pos) f:=⟨AM h.h⟩
theorem w_ {cg:List Expr}{f g:DE→Option D} (h:Ev X .V a f) (h2:Ev X .V (.BoolOp .And (b :: cg) pos) g):Ev X .V (.BoolOp .And (a :: b :: cg) pos) (xz f g):=PE.by (AQ h.h h2.h) fun σ H Q zz75_0=>by
 obtain ⟨B,F,E,d,k,q,w⟩:=zz75_0
 unfold xz at q
 cases hf:f E with
 | none=>rw [hf] at q; cases q
 | some x =>
  rw [hf] at q
  refine ⟨B,F,E,x,k,hf,fun v F1 H1 x1 r1=>?_⟩
  cases hx:asB x with
  | none=>simp [hx] at q
  | some c =>
   have ex:=pY hx
   subst ex
   simp only [DA,hx] at q
   cases (show Rep F1 v (.bl c) from r1)
   refine ⟨c,rfl,?_⟩
   cases c with
   | false=>cases q; exact qU (w _ F1 H1 x1 (.bl false))
   | true=>exact qT ⟨B,F1,E,d,k.ext x1,q,fun u F2 H2 x2 r2=>w u F2 H2 (x1.trans x2) r2⟩
theorem Bm {f:DE→Option D} (h:Ev X .V a f):Ev X .V (.UnaryOp .Not a pos) (yK f):=PE.by (L2.AN h.h) fun σ H Q zz76_0=>by
 obtain ⟨B,F,E,d,k,q,w⟩:=zz76_0
 unfold yK at q
 cases hf:f E with
 | none=>rw [hf] at q; cases q
 | some x =>
  rw [hf] at q
  refine ⟨B,F,E,x,k,hf,fun v F1 H1 x1 r1=>?_⟩
  cases hx:asB x with
  | none=>simp [hx] at q
  | some c =>
   have ex:=pY hx
   subst ex
   simp only [DA,hx,DC] at q
   cases q
   cases (show Rep F1 v (.bl c) from r1)
   exact ⟨c,rfl,w _ F1 H1 x1 (.bl _)⟩
def aV:Expr→Bool
 | .Starred _ _=>false
 | _=>true
theorem aF (e:Expr) (es:List Expr) (env:Env) (h:aV e=true):starEach (e :: es) env=(false,eval e env) :: starEach es env:=by
 cases e <;> first | rfl | cases h
theorem dQ (pos:Pos) (env:Env):∀ es:List Expr,es.all aV=true→(backTo pos (starEach es env)).any (·.1)=false
 | [],_=>rfl
 | e :: es,h=>by
  rw [E_,EA] at h
  rw [aF e es env h.1]
  show (false || (backTo pos (starEach es env)).any (·.1))=false
  rw [dQ pos env es h.2]; rfl
def ah (_:DE):Option (List D):=some []
def ac (f:DE→Option D) (g:DE→Option (List D)) (E:DE):Option (List D):=(f E).bind fun x=>(g E).map fun xs=>x :: xs
theorem al:Ea X [] ah:=PA.by fH fun σ H Q ⟨B,F,E,d,k,q,w⟩=>by cases q; exact w [] F H (Ext.refl k.sub) .nil
theorem ae {es:List Expr}{f:DE→Option D}{g:DE→Option (List D)} (h:Ev X .V e f) (h2:Ea X es g) (hs:aV e=true:=by rfl):Ea X (e :: es) (ac f g) :=
 PA.by (di h.h h2.h (aF e es X.env hs)) fun σ H Q zz78_0=>by
  obtain ⟨B,F,E,d,k,q,w⟩:=zz78_0
  unfold ac at q
  cases hf:f E with
  | none=>simp [hf] at q
  | some x =>
   cases hg:g E with
   | none=>simp [hf,hg] at q
   | some xs =>
    simp only [hf,hg,DA,DC] at q
    cases q
    exact ⟨B,F,E,x,k,hf,fun v F1 H1 x1 r1=>⟨B,F1,E,xs,k.ext x1,hg,fun vs F2 H2 x2 r2=>w _ F2 H2 (x1.trans x2) (.cons (r1.mono x2.fr) r2)⟩⟩
def e8 (f:DE→Option (List D)) (E:DE):Option D:=(f E).bind fun xs=>if xs.length≤sizeLine then some (.tup xs) else none
def bf (f:DE→Option (List D)) (E:DE):Option D:=(f E).bind fun xs=>if xs.length≤sizeLine then some (.lst xs) else none
theorem nF {es:List Expr}{x1}{f:DE→Option (List D)} (h:Ea X es f):Ev X .V (.Tuple es x1 pos) (e8 f):=PE.by (AK h.h) fun σ H Q zz79_0=>by
 obtain ⟨B,F,E,d,k,q,w⟩:=zz79_0
 unfold e8 at q
 cases hf:f E with
 | none=>simp [hf] at q
 | some xs =>
  simp only [hf,DA] at q
  split at q
  ·rename_i hz
   cases q
   refine ⟨B,F,E,xs,k,hf,fun vs F1 H1 x1 r1=>⟨by rw [r1.length]; exact hz,fun p hp=>?_⟩⟩
   have x2:=Ext.freeze (o:=HO.tup vs) x1.sub hp
   exact w _ _ _ (x1.trans x2) (.tup aD (r1.mono x2.fr))
  ·cases q
theorem bJ {es:List Expr}{f:DE→Option (List D)} (h:Ea X es f):Ev X .F (.List es pos) (bf f):=PE.by (AO h.h) fun σ H Q zz80_0=>by
 obtain ⟨B,F,E,d,k,q,w⟩:=zz80_0
 unfold bf at q
 cases hf:f E with
 | none=>simp [hf] at q
 | some xs =>
  simp only [hf,DA] at q
  split at q
  ·rename_i hz
   cases q
   refine ⟨B,F,E,xs,k,hf,fun vs F1 H1 x1 r1=>⟨by rw [r1.length]; exact hz,fun p hp=>?_⟩⟩
   have x2:=Ext.lay (o:=HO.lst vs) x1.sub hp
   exact w _ _ _ (x1.trans x2) ⟨p,_,rfl,x1.nofree hp,aD,nofr x1.sub hp,r1⟩
  ·cases q
def spD (n:Nat) (g:List D→Option D):Sp:=fun vs H Q _=>∃ F ds d,(∀ a o,F a=some o→H a=some o)∧Reps F vs ds∧ds.length=n∧g ds=some d∧∀ v F' H',Ext F H F' H'→Rep F' v d→Q v H'
def ay (n:Nat) (g:List D→Option D) (f:DE→Option (List D)) (E:DE):Option D:=(f E).bind fun ds=>if ds.length=n then g ds else none
theorem aK {k:Nat}{fa:Addr}{fd:FuncData}{ps:List Str}{x:Str}{p:Pos}{es:List Expr}{n:Nat}{g:List D→Option D}{f:DE→Option (List D)} (Fn:bD X.prog X.w X.K X.mg X.base CX0 k fa fd ps (spD n g)) (hr:du k X.A) (hg:Gl X x)
  (hm:X.mg x=some (.ref fa)) (hk:PySem.W.keepIn X.K (.ref fa)=true) (hb:bB X.K fd ps []) (ha:Ea X (e :: es) f) (hdb:(x == ("__debug__" : Str))=false:=by decide)
  (he:aV e=true:=by rfl) (hpl:es.all aV=true:=by rfl):Ev X .V (.Call (.Name x p) (e :: es) [] pos) (ay n g f) :=
 PE.by (rT Fn hr hg hm hk hb .nil zK ha.h hdb (aF e es X.env he) (dQ pos X.env es hpl)) fun σ H Q zz81_0=>by
  obtain ⟨B,F,E,d,k,q,w⟩:=zz81_0
  unfold ay at q
  cases hf:f E with
  | none=>simp [hf] at q
  | some ds =>
   simp only [hf,DA] at q
   split at q
   ·rename_i hn
    refine ⟨B,F,E,ds,k,hf,fun vs F1 H1 x1 r1=>⟨F1,ds,d,x1.sub,by rw [Ez]; exact r1,hn,q,fun v F2 H2 x2 r2=>w v F2 H2 (x1.trans x2) r2⟩⟩
   ·cases q
def RdC (m:Md) (r:List V→Hp→VK→Prop) (o:List D→Option D):Prop:=∀ (F H:Hp) (vs:List V) (ds:List D) (d:D) (Q:VK),(∀ a u,F a=some u→H a=some u)→Reps F vs ds→o ds=some d →
 (∀ u F' H',Ext F H F' H'→rM m H F' H' u d→Q u H')→r vs H Q
def lq (o:List D→Option D) (f:DE→Option (List D)) (E:DE):Option D:=(f E).bind o
theorem xy {m:Md}{r:List V→Hp→VK→Prop}{o:List D→Option D}{f:DE→Option (List D)} (hr:RdC m r o) (σ:St) (H:Hp) (Q:VK) (h:tM m (lq o f) σ H Q):tCB r (tL f) σ H Q:=by
 obtain ⟨B,F,E,d,k,q,w⟩:=h
 unfold lq at q
 cases hf:f E with
 | none=>simp [hf] at q
 | some ds =>
  simp only [hf,DA] at q
  exact ⟨B,F,E,ds,k,hf,fun vs F1 H1 x1 r1=>hr F1 H1 vs ds d Q x1.sub r1 q fun u F2 H2 x2 r2=>w u F2 H2 (x1.trans x2) (rM.anti (fun p hp=>x1.nofree hp) r2)⟩
def jD (m:Md) (r:List V→Hp→VK→Prop) (o:D→Option D):Prop:=∀ (F H:Hp) (v:V) (x:D) (d:D) (Q:VK),(∀ a u,F a=some u→H a=some u)→OB F H v x→o x=some d →
 (∀ u F' H',Ext F H F' H'→rM m H F' H' u d→Q u H')→r [v] H Q
def un (o:D→Option D) (f:DE→Option D) (E:DE):Option D:=(f E).bind o
theorem rE {m:Md}{r:List V→Hp→VK→Prop}{o:D→Option D}{f:DE→Option D} (hr:jD m r o) (σ:St) (H:Hp) (Q:VK) (h:tM m (un o f) σ H Q):tCB r (zD (tM .O f) BR) σ H Q:=by
 obtain ⟨B,F,E,d,k,q,w⟩:=h
 unfold un at q
 cases hf:f E with
 | none=>simp [hf] at q
 | some x =>
  simp only [hf,DA] at q
  exact ⟨B,F,E,x,k,hf,fun v F1 H1 x1 r1=>hr F1 H1 v x d Q x1.sub r1 q fun u F2 H2 x2 r2=>w u F2 H2 (x1.trans x2) (rM.anti (fun p hp=>x1.nofree hp) r2)⟩
theorem iP {m:Md}{x:Str}{p:Pos}{id:String}{r:List V→Hp→VK→Prop}{o:D→Option D}{f:DE→Option D} (hc:dc X (.builtin id) r) (hr:jD m r o) (hg:Gl X x) (hm:X.mg x=none) (hv:bootBuiltins x=some (.builtin id))
  (ha:Ev X .O e f) (hn:x ≠ "__name__" := by decide) (hdb:(x == ("__debug__" : Str))=false:=by decide) (he:aV e=true:=by rfl):Ev X m (.Call (.Name x p) [e] [] pos) (un o f) :=
 PE.by (iA hc hg hm hv (di ha.h fH (aF e [] X.env he)) hn hdb (aF e [] X.env he) rfl) (rE hr)
theorem w6 {m:Md}{x:Str}{p:Pos}{T:String}{r:List V→Hp→VK→Prop}{o:D→Option D}{f:DE→Option D} (hc:dc X (.type T) r) (hr:jD m r o) (hg:Gl X x) (hm:X.mg x=none) (hv:bootBuiltins x=some (.type T))
  (ha:Ev X .O e f) (hn:x ≠ "__name__" := by decide) (hdb:(x == ("__debug__" : Str))=false:=by decide) (he:aV e=true:=by rfl):Ev X m (.Call (.Name x p) [e] [] pos) (un o f) :=
 PE.by (tY hc hg hm hv (di ha.h fH (aF e [] X.env he)) hn hdb (aF e [] X.env he) rfl) (rE hr)
end
section
variable {X:Cx}{e:Expr}{pos:Pos}{st:Stmt}{cg:List Stmt}
def br (E:DE):Option Out:=some (.nx E)
def aq (f g:DE→Option Out) (E:DE):Option Out:=(f E).bind fun r=>match r with
 | .nx E'=>g E'
 | r=>some r
theorem bo:Ess X [] br:=PSs.by yn fun Z σ H ⟨B,F,E,r,k,q,w⟩=>by cases q; exact w σ F H k fun _ _ e=>e
theorem ap {f:DE→Option Out} (h:Es X st f):Ess X [st] f:=⟨rP h.h⟩
theorem af {f g:DE→Option Out} (h:Es X st f) (h2:Ess X cg g):Ess X (st :: cg) (aq f g):=PSs.by (vR h.h h2.h) fun Z σ H zz83_0=>by
 obtain ⟨B,F,E,r,k,q,w⟩:=zz83_0
 unfold aq at q
 cases hf:f E with
 | none=>simp [hf] at q
 | some r1 =>
  rw [hf] at q
  cases r1 with
  | nx E'=>exact ⟨B,F,E,.nx E',k,hf,fun σ' F' H' k' y=>⟨B,F',E',r,k',q,w.mono y⟩⟩
  | rt d=>cases q; exact ⟨B,F,E,.rt d,k,hf,w⟩
  | bk E'=>cases q; exact ⟨B,F,E,.bk E',k,hf,w⟩
  | ct E'=>cases q; exact ⟨B,F,E,.ct E',k,hf,w⟩
theorem gp {f:DE→Option Out} (i:Nat) (h:Es X st f):Es X st (fun E=>f (fzE i E)):=⟨fun pins s σ H Z I zz84_0=>by
 obtain ⟨B,F,E,r,k,q,w⟩:=zz84_0
 obtain ⟨F',H',I',k',y⟩:=Ok.fz I k i
 exact h.h pins s σ H' Z I' ⟨B,F',fzE i E,r,k',q,w.mono y⟩⟩
def aH (f:DE→Option D) (E:DE):Option Out:=(f E).map Out.rt
theorem aW {f:DE→Option D} (h:Ev X .V e f):Es X (.Return (some e) pos) (aH f):=PS.by (AE h.h) fun Z σ H zz85_0=>by
 obtain ⟨B,F,E,r,k,q,w⟩:=zz85_0
 unfold aH at q
 cases hf:f E with
 | none=>simp [hf] at q
 | some d =>
  simp only [hf,DC] at q
  cases q
  exact ⟨B,F,E,d,k,hf,fun v F' H' x r=>w v F' H' (k.ent.trans x) r⟩
def ifS (c:DE→Option Bool) (f g:DE→Option Out) (E:DE):Option Out:=(c E).bind fun b=>if b=true then f E else g E
theorem cJ {c:Expr}{a b:List Stmt}{cf:DE→Option Bool}{f g:DE→Option Out} (hc:Et X c cf) (ha:Ess X a f) (hb:Ess X b g):Es X (.If c a b pos) (ifS cf f g):=PS.by (Ck hc.h ha.h hb.h) fun Z σ H zz86_0=>by
 obtain ⟨B,F,E,r,k,q,w⟩:=zz86_0
 unfold ifS at q
 cases hf:cf E with
 | none=>simp [hf] at q
 | some x =>
  rw [hf] at q
  refine ⟨B,F,E,x,k,hf,fun F1 H1 x1=>?_⟩
  cases x with
  | true=>exact qT ⟨B,F1,E,r,k.ext x1,q,w.mono x1.fr⟩
  | false=>exact qU ⟨B,F1,E,r,k.ext x1,q,w.mono x1.fr⟩
def az (i:Nat) (f:DE→Option D) (E:DE):Option Out:=(f E).map fun d=>.nx (E.set i (.val d))
def bL (i:Nat) (f:DE→Option D) (E:DE):Option Out:=(f E).map fun d=>.nx (E.set i (.own d))
theorem oo {i:Nat}{f:DE→Option D} (Z:eC) (σ:St) (H:Hp) (h:tS (az i f) Z σ H):vz (tM .V f) (ml i) Z σ H:=by
 obtain ⟨B,F,E,r,k,q,w⟩:=h
 unfold az at q
 cases hf:f E with
 | none=>simp [hf] at q
 | some d =>
  simp only [hf,DC] at q
  cases q
  exact ⟨B,F,E,d,k,hf,fun v F' H' x r=>w _ F' H' ((k.ext x).set_val r i) x.fr⟩
theorem oR {i:Nat}{f:DE→Option D} (Z:eC) (σ:St) (H:Hp) (h:tS (bL i f) Z σ H):vz (tM .F f) (ml i) Z σ H:=by
 obtain ⟨B,F,E,r,k,q,w⟩:=h
 unfold bL at q
 cases hf:f E with
 | none=>simp [hf] at q
 | some d =>
  simp only [hf,DC] at q
  cases q
  refine ⟨B,F,E,d,k,hf,fun v F' H' x r=>?_⟩
  obtain ⟨a,o,rfl,h2,h3,h4,h5⟩:=r
  have k':=k.ext x
  have hb:B.2 a=none:=k.ent.nofree h2
  have hfr:∃ fp,OkF fp B F' H' σ E∧∀ (j:Nat) s,E[j]? = some (.obj s)→a ∉ fp j:=by
   obtain ⟨fp,m⟩:=k.ob
   exact ⟨fp,m.ext x,fun j t hj hm=>(m.at_ j t hj).2.1.dom a hm h2⟩
  have z:=k'.put_own (a:=a) (o:=o) i h4 hb h5 fun j e hj he hs=>by
   obtain ⟨b,u,g1,g2,_⟩:=k.own j e he
   rw [g1] at hs
   cases hs
   rw [h2] at g2
   cases g2
  have z:=z hfr
  have eu:upd H' a o=H':=by
   funext c
   unfold upd
   split
   ·rename_i hc; rw [hc,h3]
   ·rfl
  rw [eu] at z
  exact w _ F' H' z x.fr
theorem aC {i:Nat}{x:Str}{pos':Pos}{f:DE→Option D} (hN:X.N.Nodup) (hi:X.N[i]? = some x) (hx:Loc X.env.scope x) (he:Ev X .V e f) (hs:swapsWith e (some (.Name x pos')) pos.line X.env=pure false:=by rfl)
  (hf:X.fn x=true∨X.env.scope.names.lookup x=some .local:=by first | exact .inl rfl | exact .inr rfl | assumption):Es X (.Assign [.Name x pos'] e pos) (az i f):=PS.by (qx hN hi hx he.h hs hf) oo
theorem cE {i:Nat}{x:Str}{pos':Pos}{f:DE→Option D} (hN:X.N.Nodup) (hi:X.N[i]? = some x) (hx:Loc X.env.scope x) (he:Ev X .F e f) (hs:swapsWith e (some (.Name x pos')) pos.line X.env=pure false:=by rfl)
  (hf:X.fn x=true∨X.env.scope.names.lookup x=some .local:=by first | exact .inl rfl | exact .inr rfl | assumption):Es X (.Assign [.Name x pos'] e pos) (bL i f):=PS.by (qx hN hi hx he.h hs hf) oR
end
def qb (F:Hp) (J:It) (xs:List D):Prop:=∀ (i:Nat) (F2 H2:Hp),Fr F F2→(∀ a o,F2 a=some o→H2 a=some o) →
 (xs.length=i→J.stop i H2)∧∀ d,xs[i]? = some d→J.go i H2∧∀ x H',J.yld i H2 x H'→∃ F3,Ext F2 H2 F3 H'∧Rep F3 x d
def tIt (f:DE→Option (List D)):TI:=fun σ H R=>∃ B F E xs,Ok B F H σ E∧f E=some xs∧∀ J F' H',Ext F H F' H'→qb F' J xs→R J H'
structure Ei (X:Cx) (tg iter:Expr) (f:DE→Option (List D)):Prop where
 h:PI X tg iter (tIt f)
def tG (gf:D→DE→Option DE):TG:=fun v σ H Q=>∃ B F E d E',Ok B F H σ E∧Rep F v d∧gf d E=some E'∧∀ σ' F' H',Ok B F' H' σ' E'→Ext F H F' H'→Q σ' H'
structure Eg (X:Cx) (tg:Expr) (gf:D→DE→Option DE):Prop where
 h:PG X tg (tG gf)
section
variable {X:Cx}{pos:Pos}
theorem PI.by {tg iter:Expr}{wi:TI}{f:DE→Option (List D)} (h:PI X tg iter wi) (w:∀ σ H R,tIt f σ H R→wi σ H R):Ei X tg iter f:=⟨fun pins s σ H R I q=>h pins s σ H R I (w σ H R q)⟩
theorem PI.or {tg iter:Expr}{wi wi':TI} (h:PI X tg iter wi) (h':PI X tg iter wi'):PI X tg iter (fun σ H R=>wi σ H R∨wi' σ H R):=fun pins s σ H R I q=>q.elim (h pins s σ H R I) (h' pins s σ H R I)
theorem PG.by {tg:Expr}{t:TG}{gf:D→DE→Option DE} (h:PG X tg t) (w:∀ v σ H Q,tG gf v σ H Q→t v σ H Q):Eg X tg gf:=⟨fun pins s σ H v u Q I r q=>h pins s σ H v u Q I r (w v σ H Q q)⟩
def nmG (i:Nat) (d:D) (E:DE):Option DE:=some (E.set i (.val d))
theorem aw {i:Nat}{x:Str} (hN:X.N.Nodup) (hi:X.N[i]? = some x) (hx:Loc X.env.scope x) (hf:X.fn x=true∨X.env.scope.names.lookup x=some .local:=by first | exact .inl rfl | exact .inr rfl | assumption):Eg X (.Name x pos) (nmG i) :=
 PG.by (yv hN hi hx hf) fun v σ H Q ⟨B,F,E,d,E',k,r,q,w⟩=>by cases q; exact w _ F H (k.set_val r i) (Ext.refl k.sub)
def tGs (gf:List D→DE→Option DE):TGs:=fun vs σ H Q=>∃ B F E ds E',Ok B F H σ E∧Reps F vs ds∧gf ds E=some E'∧∀ σ' F' H',Ok B F' H' σ' E'→Ext F H F' H'→Q σ' H'
structure Egs (X:Cx) (ts:List Expr) (gf:List D→DE→Option DE):Prop where
 h:PGs X ts (tGs gf)
def cL (ds:List D) (E:DE):Option DE:=match ds with
 | []=>some E
 | _=>none
def aQ (g:D→DE→Option DE) (gs:List D→DE→Option DE) (ds:List D) (E:DE):Option DE:=match ds with
 | d :: r=>(g d E).bind fun E'=>gs r E'
 | _=>none
theorem dk:Egs X [] cL:=⟨fun pins s σ H vs us Q I r zz88_0=>by
 obtain ⟨B,F,E,ds,E',k,rd,q,w⟩:=zz88_0
 cases ds with
 | nil=>cases q; cases rd; exact yu pins s σ H [] us Q I r ⟨rfl,w σ F H k (Ext.refl k.sub)⟩
 | cons _ _=>cases q⟩
theorem bb {e:Expr}{es:List Expr}{g:D→DE→Option DE}{gs:List D→DE→Option DE} (h1:Eg X e g) (h2:Egs X es gs)
  (he:(assignEach (e :: es) X.env).map (·.2)=assign e X.env :: (assignEach es X.env).map (·.2):=by rfl):Egs X (e :: es) (aQ g gs):=⟨fun pins s σ H vs us Q I r zz89_0=>by
 obtain ⟨B,F,E,ds,E',k,rd,q,w⟩:=zz89_0
 cases ds with
 | nil=>cases q
 | cons d ds =>
  cases rd with
  | @cons v _ vs _ r1 r2 =>
   unfold aQ at q
   cases hg:g d E with
   | none=>simp [hg] at q
   | some E1 =>
    simp only [hg,DA] at q
    refine v5 h1.h h2.h he pins s σ H _ us Q I r ⟨v,vs,rfl,B,F,E,d,E1,k,r1,hg,fun σ1 F1 H1 k1 x1=>⟨B,F1,E1,ds,E',k1,r2.mono x1.fr,q,fun σ2 F2 H2 k2 x2=>w σ2 F2 H2 k2 (x1.trans x2)⟩⟩⟩
def cK (n:Nat) (gs:List D→DE→Option DE) (d:D) (E:DE):Option DE:=match d with
 | .tup ds=>if ds.length=n then gs ds E else none
 | _=>none
theorem d_ {es:List Expr}{kk:Nat}{gs:List D→DE→Option DE}{n:Nat} (hc:X.calm=true) (h:Egs X es gs) (hn:(assignEach es X.env).length=n:=by rfl) (hst:(assignEach es X.env).findIdx? (·.1)=none:=by rfl) :
  Eg X (.Tuple es kk pos) (cK n gs):=PG.by (AI hc h.h hn hst) fun v σ H Q zz90_0=>by
 obtain ⟨B,F,E,d,E',k,r,q,w⟩:=zz90_0
 cases d with
 | tup ds =>
  have q':(if ds.length=n then gs ds E else none)=some E':=q
  by_cases hl:ds.length=n
  ·rw [if_pos hl] at q'
   cases r with
   | @tup a vs _ e rs=>exact ⟨a,vs,rfl,SqT.of (k.sub _ _ e),by rw [rs.length]; exact hl,B,F,E,ds,E',k,rs,q',w⟩
  ·rw [if_neg hl] at q'; cases q'
 | _=>cases q
end
def ku (body:D→DE→Option Out):List D→DE→Option Out
 | [],E=>some (.nx E)
 | x :: xs,E=>(body x E).bind fun r=>match r with
  | .nx E'=>ku body xs E'
  | .ct E'=>ku body xs E'
  | .bk E'=>some (.nx E')
  | .rt d=>some (.rt d)
def cD (fi:DE→Option (List D)) (gf:D→DE→Option DE) (fb:DE→Option Out) (E:DE):Option Out:=(fi E).bind fun xs=>ku (fun x E1=>(gf x E1).bind fb) xs E
section
variable {X:Cx}{pos:Pos}
theorem b8 {tg iter:Expr}{body:List Stmt}{fi:DE→Option (List D)} {gf:D→DE→Option DE}{fb:DE→Option Out} (hp:PassesOwn (model X.prog X.w) X.A X.env X.xe) (hc:X.calm=true) (hi:Ei X tg iter fi) (hg:Eg X tg gf) (hb:Ess X body fb)
  (hs:∀ x,foldedSetIterable iter X.env x=pure x:=by intro _; rfl):Es X (.For tg iter body [] pos) (cD fi gf fb):=PS.by (AF hp hc hi.h hg.h hb.h hs) fun Z σ H zz91_0=>by
 obtain ⟨B,F,E,r,k,q,w⟩:=zz91_0
 unfold cD at q
 cases hf:fi E with
 | none=>simp [hf] at q
 | some xs =>
  simp only [hf,DA] at q
  refine ⟨B,F,E,xs,k,hf,fun J F1 H1 x1 it=>?_⟩
  refine ⟨fun i m σ' H'=>∃ F' E',Ok B F' H' σ' E'∧Fr F1 F'∧i≤xs.length∧m=xs.length - i∧ku (fun x E1=>(gf x E1).bind fb) (xs.drop i) E'=some r,⟨_,F1,E,k.ext x1,fun _ _ e=>e,Ex _,rfl,q⟩,?_⟩
  rintro i m σ' H' ⟨F',E',k',y,hi,rfl,ql⟩
  have fitF:nY B F' Z r:=w.mono fun a o e=>y a o (x1.fr a o e)
  obtain ⟨st,gn⟩:=it i F' H' y k'.sub
  by_cases hlt:i < xs.length
  ·right
   have hx:xs[i]? = some xs[i]:=by simp [hlt]
   obtain ⟨go,yl⟩:=gn _ hx
   rw [Gb hlt] at ql
   unfold ku at ql
   refine ⟨go,fun σ2 H2=>∃ F2 E2,Ok B F2 H2 σ2 E2∧Fr F1 F2∧ku (fun x E1=>(gf x E1).bind fb) (xs.drop (i + 1)) E2=some r,?_,?_⟩
   ·rintro σ2 H2 ⟨F2,E2,k2,y2,q2⟩
    exact ⟨xs.length - (i + 1),by omega,F2,E2,k2,y2,hlt,rfl,q2⟩
   ·intro x H2 hy
    obtain ⟨F3,x3,r3⟩:=yl x H2 hy
    cases hgf:gf xs[i] E' with
    | none=>simp [hgf] at ql
    | some E3 =>
     cases hfb:fb E3 with
     | none=>simp [hgf,hfb] at ql
     | some r1 =>
      simp only [hgf,hfb,DA] at ql
      have k3:=k'.ext x3
      refine ⟨B,F3,E',xs[i],E3,k3,r3,hgf,fun σ4 F4 H4 k4 x4=>⟨B,F4,E3,r1,k4,hfb,?_⟩⟩
      have y4:Fr F1 F4:=fun a o e=>x4.fr a o (x3.fr a o (y a o e))
      have f4:Fr F' F4:=fun a o e=>x4.fr a o (x3.fr a o e)
      cases r1 with
      | nx E5=>exact fun σ5 F5 H5 k5 y5=>⟨F5,E5,k5,fun a o e=>y5 a o (y4 a o e),ql⟩
      | ct E5=>exact fun σ5 F5 H5 k5 y5=>⟨F5,E5,k5,fun a o e=>y5 a o (y4 a o e),ql⟩
      | bk E5 =>
       simp only at ql
       cases ql
       exact fun σ5 F5 H5 k5 y5=>fitF σ5 F5 H5 k5 fun a o e=>y5 a o (f4 a o e)
      | rt d =>
       simp only at ql
       cases ql
       exact fitF
  ·left
   have e:i=xs.length:=by omega
   subst e
   refine ⟨st rfl,?_⟩
   rw [FT] at ql
   cases ql
   exact fitF σ' F' H' k' fun _ _ e=>e
end
def aX (js:List Nat) (E:DE):DE:=js.foldl (fun a j=>a.set j .no) E
theorem Ok.no {B:Hp×Hp}{F H:Hp} {σ:St}{E:DE} (k:Ok B F H σ E) (i:Nat):Ok B F H σ (E.set i .no):=by
 have bk:∀ (j:Nat) s,s ≠ Sl.no→(E.set i .no)[j]? = some s→E[j]? = some s:=fun j s hs h=>by
  rw [Ee] at h
  split at h
  ·split at h
   ·simp at h; exact absurd h.symm hs
   ·simp at h
  ·exact h
 exact ⟨k.ent,by rw [EF]; exact k.len,fun j d h=>k.val j d (bk j _ (by simp) h),fun j d h=>k.own j d (bk j _ (by simp) h),fun j l d e a hjl h1 h2=>k.sep j l d e a hjl (bk j _ (by simp) h1) (bk l _ (by simp) h2),
  let ⟨fp,q⟩:=k.ob; ⟨fp,q.to (fun _ _ e=>e) (fun j s h=>⟨bk j _ (by simp) h,rfl⟩) (fun j s h=>⟨bk j _ (by simp) h,rfl⟩) (fun j s h x hx=>⟨fun _ e=>e,(q.at_ j s (bk j _ (by simp) h)).2.2.2 x hx⟩) (fun j l s d b h1 h2=>q.sep j l s d b (bk j _ (by simp) h1) (bk l _ (by simp) h2))⟩⟩
theorem Ok.noS {B:Hp×Hp}{F H:Hp} {σ:St}{E:DE} (k:Ok B F H σ E) (i:Nat):Ok B F H (σ.set i none) (E.set i .no):=by
 have bk:∀ (j:Nat) s,s ≠ Sl.no→(E.set i .no)[j]? = some s→i ≠ j∧E[j]? = some s:=fun j s hs h=>by
  rw [Ee] at h
  split at h
  ·split at h
   ·simp at h; exact absurd h.symm hs
   ·simp at h
  ·exact ⟨by assumption,h⟩
 refine ⟨k.ent,by rw [EF,EF]; exact k.len,fun j d h=>?_,fun j d h=>?_,fun j l d e a hjl h1 h2 h3 h4=>?_,?_⟩
 ·obtain ⟨n,h⟩:=bk j _ (by simp) h
  rw [D2 n]; exact k.val j d h
 ·obtain ⟨n,h⟩:=bk j _ (by simp) h
  rw [D2 n]; exact k.own j d h
 ·obtain ⟨n1,h1⟩:=bk j _ (by simp) h1
  obtain ⟨n2,h2⟩:=bk l _ (by simp) h2
  rw [D2 n1] at h3
  rw [D2 n2] at h4
  exact k.sep j l d e a hjl h1 h2 h3 h4
 ·obtain ⟨fp,q⟩:=k.ob
  exact ⟨fp,q.to (fun _ _ e=>e) (fun j s h=>⟨(bk j _ (by simp) h).2,D2 (bk j _ (by simp) h).1⟩) (fun j s h=>⟨(bk j _ (by simp) h).2,D2 (bk j _ (by simp) h).1⟩)
   (fun j s h x hx=>⟨fun _ e=>e,(q.at_ j s (bk j _ (by simp) h).2).2.2.2 x hx⟩) (fun j l s e b h1 h2 h3=>by
    obtain ⟨n2,h2⟩:=bk l _ (by simp) h2
    rw [D2 n2] at h3
    exact q.sep j l s e b (bk j _ (by simp) h1).2 h2 h3)⟩
theorem Ok.mask {B:Hp×Hp}{F H:Hp} {σ:St} (js:List Nat):∀ {E:DE},Ok B F H σ E→Ok B F H σ (aX js E):=by
 induction js with
 | nil=>intro E k; exact k
 | cons j r ih=>intro E k; exact ih (k.no j)
theorem Ok.maskS {B:Hp×Hp}{F H:Hp} (js:List Nat):∀ {σ:St}{E:DE},Ok B F H σ E→Ok B F H (L2.maskS js σ) (aX js E):=by
 induction js with
 | nil=>intro σ E k; exact k
 | cons j r ih=>intro σ E k; exact ih (k.noS j)
theorem Ok.withD {B:Hp×Hp}{F H:Hp} {σ:St}{E:DE} (k:Ok B F H σ E) {p:Addr}{o:HO} (hp:H p=none):Ok (B.1,upd B.2 p o) F (upd H p o) σ E:=by
 have nb:∀ a u,B.2 a=some u→a ≠ p:=fun a u e z=>by rw [z] at e; rw [k.ent.same p u e] at hp; cases hp
 obtain ⟨fp,m⟩:=k.ob
 have np:∀ (i:Nat) s,E[i]? = some (.obj s)→∀ x ∈ fp i,x ≠ p:=fun i s h x hx z=>(m.at_ i s h).2.1.dom x hx (by rw [z]; exact hp)
 refine ⟨⟨fun a u e=>?_,k.ent.fr,fun a u e=>?_,fun a e n=>?_⟩,k.len,k.val,fun i d h=>?_,k.sep,
  fp,m.to (fun _ _ e=>e) (fun i s h=>⟨h,rfl⟩) (fun i s h=>⟨h,rfl⟩) (fun i s h x hx=>⟨fun u e=>by rw [av (np i s h x hx)]; exact e,((m.at_ i s h).2.2.2 x hx).1,by show upd B.2 p o x=none; rw [av (np i s h x hx)]; exact ((m.at_ i s h).2.2.2 x hx).2⟩) m.sep⟩
 ·by_cases ha:a=p
  ·subst ha
   have e':upd B.2 a o a=some u:=e
   rw [aD] at e' ⊢; exact e'
  ·have e':upd B.2 p o a=some u:=e
   rw [av ha] at e' ⊢; exact k.ent.same a u e'
 ·rw [av (b7 (k.sub a u e) hp)]; exact k.sub a u e
 ·by_cases ha:a=p
  ·subst ha; exact nofr k.sub hp
  ·refine k.ent.new a e fun z=>n ?_
   show upd B.2 p o a=none
   rw [av ha]; exact z
 ·obtain ⟨a,u,h1,h2,h3,h4,h5⟩:=k.own i d h
  have ha:a ≠ p:=b7 h2 hp
  exact ⟨a,u,h1,by rw [av ha]; exact h2,h3,by show upd B.2 p o a=none; rw [av ha]; exact h4,h5⟩
theorem Ok.stepD {B1 B2 F H:Hp} {σ:St}{E:DE}{p:Addr}{o o':HO} (k:Ok (B1,upd B2 p o) F H σ E) (hb:B1 p=none):Ok (B1,upd B2 p o') F (upd H p o') σ E:=by
 have fp:F p=none:=k.ent.new p hb (by show upd B2 p o p ≠ none; rw [aD]; simp)
 obtain ⟨fq,m⟩:=k.ob
 have np:∀ (i:Nat) s,E[i]? = some (.obj s)→∀ x ∈ fq i,x ≠ p:=fun i s h x hx z=>by
  have q:upd B2 p o x=none:=((m.at_ i s h).2.2.2 x hx).2
  rw [z,aD] at q; cases q
 refine ⟨⟨fun a u e=>?_,k.ent.fr,fun a u e=>?_,fun a e n=>?_⟩,k.len,k.val,fun i d h=>?_,k.sep,
  fq,m.to (fun _ _ e=>e) (fun i s h=>⟨h,rfl⟩) (fun i s h=>⟨h,rfl⟩) (fun i s h x hx=>⟨fun u e=>by rw [av (np i s h x hx)]; exact e,((m.at_ i s h).2.2.2 x hx).1,by
   have q:upd B2 p o x=none:=((m.at_ i s h).2.2.2 x hx).2
   rw [av (np i s h x hx)] at q
   show upd B2 p o' x=none
   rw [av (np i s h x hx)]; exact q⟩) m.sep⟩
 ·by_cases ha:a=p
  ·subst ha
   have e':upd B2 a o' a=some u:=e
   rw [aD] at e' ⊢; exact e'
  ·have e':upd B2 p o' a=some u:=e
   rw [av ha] at e' ⊢
   exact k.ent.same a u (by show upd B2 p o a=some u; rw [av ha]; exact e')
 ·rw [av (fun z=>by rw [z,fp] at e; cases e)]; exact k.sub a u e
 ·by_cases ha:a=p
  ·subst ha; exact fp
  ·have n':upd B2 p o' a ≠ none:=n
   rw [av ha] at n'
   exact k.ent.new a e (by show upd B2 p o a ≠ none; rw [av ha]; exact n')
 ·obtain ⟨a,u,h1,h2,h3,h4,h5⟩:=k.own i d h
  have ha:a ≠ p:=fun z=>by
   have h4':upd B2 p o a=none:=h4
   rw [z,aD] at h4'; cases h4'
  have h4':upd B2 p o a=none:=h4
  rw [av ha] at h4'
  exact ⟨a,u,h1,by rw [av ha]; exact h2,h3,by show upd B2 p o' a=none; rw [av ha]; exact h4',h5⟩
theorem Ext.stepD {F H F' H':Hp}{p:Addr}{o o':HO} (x:Ext F (upd H p o) F' H') (hf:F p=none):Ext F (upd H p o') F' (upd H' p o'):=by
 have fp:F' p=none:=x.new p hf (by rw [aD]; simp)
 refine ⟨fun a u e=>?_,x.fr,fun a u e=>?_,fun a e n=>?_⟩
 ·by_cases ha:a=p
  ·subst ha; rw [aD] at e ⊢; exact e
  ·rw [av ha] at e ⊢; exact x.same a u (by rw [av ha]; exact e)
 ·rw [av (fun z=>by rw [z,fp] at e; cases e)]; exact x.sub a u e
 ·by_cases ha:a=p
  ·subst ha; exact fp
  ·rw [av ha] at n
   exact x.new a e (by rw [av ha]; exact n)
def bw (gf:D→DE→Option DE) (cf:DE→Option Bool) (ef:DE→Option D) (E:DE):List D→Option (List D)
 | []=>some []
 | x :: xs=>(gf x E).bind fun E1=>(cf E1).bind fun b=>if b=true then (ef E1).bind fun y=>(bw gf cf ef E xs).map fun ys=>y :: ys else bw gf cf ef E xs
def aE (js:List Nat) (fi:DE→Option (List D)) (gf:D→DE→Option DE) (cf:DE→Option Bool) (ef:DE→Option D) (E:DE):Option D :=
 (fi E).bind fun xs=>if xs.length≤sizeLine then (bw gf cf ef (aX js E) xs).map D.lst else none
def jj (js:List Nat) (gf:D→DE→Option DE):Prop:=∀ d E E1,gf d (aX js E)=some E1→aX js E1=aX js E
theorem jg {js:List Nat}{fi:DE→Option (List D)} {gf:D→DE→Option DE}{cf:DE→Option Bool}{ef:DE→Option D} (hj:jj js gf) (σ:St) (H:Hp) (Q:VK)
  (h:tM .F (aE js fi gf cf ef) σ H Q):vy js (tIt fi) (tG gf) (tT cf) (tM .V ef) σ H Q:=by
 refine EC fun hn=>?_
 obtain ⟨B,F,E,d,k,q,w⟩:=h
 unfold aE at q
 cases hf:fi E with
 | none=>simp [hf] at q
 | some xs =>
  simp only [hf,DA] at q
  split at q
  ·rename_i hz
   cases hq:bw gf cf ef (aX js E) xs with
   | none=>simp [hq] at q
   | some ys =>
    rw [hq] at q
    cases q
    refine hn ⟨B,F,E,xs,k,hf,fun J F1 H1 x1 it p hp=>?_⟩
    have k1:=k.ext x1
    have f1p:F1 p=none:=nofr x1.sub hp
    have b1p:B.1 p=none:=by
     cases z:B.1 p with
     | none=>rfl
     | some u=>rw [k1.ent.fr p u z] at f1p; cases f1p
    refine ⟨fun i m σ' H'=>∃ F' vs dn rs,Ok (B.1,upd B.2 p (.lst vs)) F' H' σ' (aX js E)∧Ext F1 (upd H1 p (.lst vs)) F' H'∧Reps F' vs dn∧i≤xs.length∧m=xs.length - i∧vs.length≤i∧bw gf cf ef (aX js E) (xs.drop i)=some rs∧ys=dn ++ rs,
     ⟨_,F1,[],[],ys,((k1.maskS js).withD hp),Ext.refl fun a o e=>by rw [av (b7 (x1.sub a o e) hp)]; exact x1.sub a o e,.nil,Ex _,rfl,DY _,hq,rfl⟩,?_⟩
    intro i m σ' H' hw
    refine EC fun hn=>?_
    obtain ⟨F',vs,dn,rs,k',x',rp,hi,rfl,hvi,hl,rfl⟩:=hw
    obtain ⟨st,gn⟩:=it i F' H' x'.fr x'.sub
    have hHp:H' p=some (.lst vs):=x'.same p _ aD
    by_cases hlt:i < xs.length
    ·have hx:xs[i]? = some xs[i]:=by simp [hlt]
     obtain ⟨go,yl⟩:=gn _ hx
     refine hn (.inr ⟨go,fun x H2 hy=>?_⟩)
     clear hn
     refine EC fun hn=>?_
     obtain ⟨F3,x3,r3⟩:=yl x H2 hy
     rw [Gb hlt] at hl
     unfold bw at hl
     cases h1:gf xs[i] (aX js E) with
     | none=>simp [h1] at hl
     | some E1 =>
      cases h2:cf E1 with
      | none=>simp [h1,h2] at hl
      | some b =>
       simp only [h1,h2,DA] at hl
       refine hn ⟨_,F3,_,xs[i],E1,k'.ext x3,r3,h1,fun σ4 F4 H4 k4 x4=>⟨_,F4,E1,b,k4,h2,fun F5 H5 x5=>?_⟩⟩
       clear hn
       refine EC fun hn=>?_
       have x45:=(x3.trans x4).trans x5
       cases b with
       | false =>
        simp only [Ed,FU] at hl
        refine hn (qU ⟨xs.length - (i + 1),by omega,F5,vs,dn,rs,?_,x'.trans x45,rp.mono x45.fr,hlt,rfl,by omega,hl,rfl⟩)
        have kk:=(k4.ext x5).mask js
        rw [hj _ _ _ h1] at kk
        exact kk
       | true =>
        cases h3:ef E1 with
        | none=>simp [h3] at hl
        | some y =>
         cases h4:bw gf cf ef (aX js E) (xs.drop (i + 1)) with
         | none=>simp [h3,h4] at hl
         | some zs =>
          simp only [h3,h4,DA,if_true,DC] at hl
          cases hl
          refine hn (qT ⟨_,F5,E1,y,k4.ext x5,h3,fun v F6 H6 x6 r6=>⟨vs,(x45.trans x6).same p _ hHp,by omega,xs.length - (i + 1),by omega,F6,vs ++ [v],dn ++ [y],zs,?_,?_,?_,hlt,rfl,by rw [DZ]; simp; omega,h4,by simp⟩⟩)
          ·have kk:=((k4.ext x5).ext x6).mask js
           rw [hj _ _ _ h1] at kk
           exact kk.stepD b1p
          ·exact (x'.trans (x45.trans x6)).stepD f1p
          ·exact (rp.mono (x45.trans x6).fr).append (.cons r6 .nil)
    ·have e:i=xs.length:=by omega
     subst e
     refine hn (.inl ⟨st rfl,?_⟩)
     rw [FT] at hl
     cases hl
     refine w _ F' H' (x1.trans ((Ext.lay x1.sub hp).trans x')) ⟨p,_,rfl,x1.nofree hp,hHp,x'.new p f1p (by rw [aD]; simp),?_⟩
     rw [Ez]
     exact rp
  ·cases q
def noT (_:DE):Option Bool:=some true
theorem ug (σ:St) (H:Hp) (Q:Bool→Hp→Prop) (h:tT noT σ H Q):zC σ H Q:=by
 obtain ⟨B,F,E,b,k,q,w⟩:=h
 cases q
 exact w F H (Ext.refl k.sub)
structure xI (X:Cx) (ifs:List Expr) (f:DE→Option Bool):Prop where
 h:u_ X ifs (tT f)
theorem ba {X:Cx}:xI X [] noT:=⟨fun pins s σ H Q I h=>vY pins s σ H Q I (ug σ H Q h)⟩
theorem gN {X:Cx}{c:Expr}{f:DE→Option Bool} (h:Et X c f):xI X [c] f:=⟨vX h.h⟩
section
variable {X:Cx}{scope:Scope}{js:List Nat}{elt tg iter:Expr}{ifs:List Expr}{pos:Pos}{fi:DE→Option (List D)} {gf:D→DE→Option DE}{cf:DE→Option Bool}{ef:DE→Option D}
theorem bn (b:Blk X scope js) (hc:X.calm=true) (hI:Ei X tg iter fi) (hj:jj js gf) (hg:∀ C fp s0 H0,Eg (cB X scope C fp s0 H0) tg gf) (hi:∀ C fp s0 H0,xI (cB X scope C fp s0 H0) ifs cf)
  (he:∀ C fp s0 H0,Ev (cB X scope C fp s0 H0) .V elt ef) (hs:∀ x,foldedSetIterable iter X.env x=pure x:=by intro _; rfl):Ev X .F (.ListComp elt [⟨tg,iter,ifs,0⟩] scope pos) (aE js fi gf cf ef) :=
 PE.by (yy b hc hI.h (fun C fp s0 H0=>(hg C fp s0 H0).h) (fun C fp s0 H0=>(hi C fp s0 H0).h) (fun C fp s0 H0=>(he C fp s0 H0).h) hs) (jg hj)
theorem zl {i:Nat}{x:Str}{px:Pos}{spos:Pos} (hN:X.N.Nodup) (hix:X.N[i]? = some x) (hx:Loc X.env.scope x) (b:Blk X scope js) (hc:X.calm=true) (hI:Ei X tg iter fi) (hj:jj js gf)
  (hg:∀ C fp s0 H0,Eg (cB X scope C fp s0 H0) tg gf) (hi:∀ C fp s0 H0,xI (cB X scope C fp s0 H0) ifs cf) (he:∀ C fp s0 H0,Ev (cB X scope C fp s0 H0) .V elt ef)
  (hsw:swapsWith (.ListComp elt [⟨tg,iter,ifs,0⟩] scope pos) (some (.Name x px)) spos.line X.env=pure true)
  (hfn:X.fn x=true∨X.env.scope.names.lookup x=some .local:=by first | exact .inl rfl | exact .inr rfl | assumption) (hs:∀ x,foldedSetIterable iter X.env x=pure x:=by intro _; rfl) :
  Es X (.Assign [.Name x px] (.ListComp elt [⟨tg,iter,ifs,0⟩] scope pos) spos) (bL i (aE js fi gf cf ef)):=PS.by (rR hN hix hx b hc hI.h (fun C fp s0 H0=>(hg C fp s0 H0).h) (fun C fp s0 H0=>(hi C fp s0 H0).h) (fun C fp s0 H0=>(he C fp s0 H0).h) hsw hfn hs) fun Z σ H h=>jg hj σ H _ (oR Z σ H h)
end
def zS (sc:Scope) (N:List Str) (scope:Scope) (js:List Nat):Bool :=
 decide (scope.kind=.function) && scope.names.all (fun y=>decide (y.2 ≠ NameKind.cell)) && scope.names.all (fun y=>decide (y.2=NameKind.local→scope.names.lookup y.1=some NameKind.local)) &&
 scope.names.all (fun y=>decide (y.2=NameKind.free→sc.names.lookup y.1=some NameKind.cell∨sc.names.lookup y.1=some NameKind.free)) &&
 (List.range N.length).all (fun i=>decide (((N[i]?).bind fun x=>scope.names.lookup x)=some NameKind.local→i ∈ js))
theorem Blk.of {X:Cx}{sc:Scope}{N:List Str}{scope:Scope}{js:List Nat} (h:zS sc N scope js=true) (h1:X.env.scope=sc) (h2:X.N=N):Blk X scope js:=by
 unfold zS at h
 simp only [EA,Gr,decide_eq_true_eq] at h
 obtain ⟨⟨⟨⟨a,b⟩,c⟩,d⟩,e⟩:=h
 refine ⟨a,b,c,fun y hy hk=>?_,fun i x hi hx=>?_⟩
 ·show X.env.scope.names.lookup y.1=_∨X.env.scope.names.lookup y.1=_
  rw [h1]; exact d y hy hk
 ·rw [h2] at hi
  refine e i (List.mem_range.mpr (List.getElem?_eq_some_iff.mp hi).1) ?_
  rw [hi]; exact hx
theorem aS {i:Nat}:jj [i] (nmG i):=fun d E E1 h=>by
 cases h
 show (((E.set i .no).set i (.val d)).set i .no)=E.set i .no
 rw [List.set_set,List.set_set]
end L2.Cu
namespace L2
open PySem PySem.Spec PyProof.Rows
def Its (x:Str):It:=⟨fun i _=>i < x.cps.size,fun i H v H'=>H'=H∧∃ c,x.cps[i]? = some c∧v=.str ⟨#[c]⟩,fun i _=>i=x.cps.size⟩
theorem n6 {P:Program}{w:World}{K:PySem.W.Frag}{y:Str}{py:Pos}{x:Str}{t:Tok}{ty:String}{it:Addr}
  (W:∀ A:Around,A.handled=none→Walks P w A it [it] [it] x.cps.size (SignAt x) (fun i h=>h.IsStrIter it ty x t i)) (hself:∀ (A:Around) (i:Nat) (s:Shared) (Q:Value→Shared→Prop) (E:Value→Shared→Prop),s.heap.IsStrIter it ty x t i→Q (.ref it) s→wpAny (model P w) A (pyIter (.ref it)) Q E s) :
  nU P w K (.Name y py) (Its x) [it] it (fun i h=>h.IsStrIter it ty x t i) where
 mem:=by simp
 obj:=fun i h st b hb=>by
  have e:b=it:=by simpa using hb
  subst e
  obtain ⟨o,ho,_,hd⟩:=st
  exact ⟨o,ho,fun v z=>by rw [hd] at z; cases z⟩
 keep:=fun i h h' st k=>by
  obtain ⟨o,ho,r⟩:=st
  exact ⟨o,k it (by simp) o ho,r⟩
 item:=by
  intro X hP hw hK hc i pins s σ H E I hf st hg
  subst hP hw hK
  obtain ⟨f0,f1,f2,f3,f4,f5⟩:=hf it (by simp)
  refine (W _ (I.ok.hd hc)).item i s _ _ hg st fun v h' tk hv st' kk=>?_
  obtain ⟨c,u,hcc,rfl⟩:=hv
  have I1:Inv X pins σ H { s with heap:=h',toks:=tk }:=I.turned (fun b o hb e=>kk b o (by simpa using hb) e) f0 f1 f3 f4 f5
  exact ⟨_,rfl,DT ⟨.str ⟨#[c]⟩,H,I1,⟨u,rfl⟩,⟨rfl,c,hcc,rfl⟩,st',fun b hb=>(hf b hb).1⟩⟩
 done:=by
  intro X hP hw hK hc i pins s σ H E I hf st hg
  subst hP hw hK
  obtain ⟨f0,f1,f2,f3,f4,f5⟩:=hf it (by simp)
  have hi:i=x.cps.size:=hg
  subst hi
  exact (W _ (I.ok.hd hc)).done s _ _ st fun h' tk kk=>⟨rfl,I.turned (fun b o hb e=>kk b o (by simpa using hb) e) f0 f1 f3 f4 f5⟩
 self:=hself
def Dl (tl:TE):TI:=fun σ H R=>tl σ H fun v H1=>∃ x,v=.str x∧R (Its x) H1
theorem AG {X:Cx}{y:Str}{py:Pos}{l:Expr}{tl:TE} (hl:PE X l tl):PI X (.Name y py) l (Dl tl):=by
 intro pins s σ H R I h
 refine thn (hl pins s σ H _ I h) fun u s1 zz92_0=>?_
 obtain ⟨v,H1,I1,r1,x,e,q⟩:=zz92_0
 subst e
 obtain ⟨t,rfl⟩:=r1
 have ht:H1 s1.heap.objs.size=none:=I1.hok.fresh (DY _)
 cases ha:x.cps.all (· < 128)
 ·refine wpAny_pyIter_wide ha ?_
  refine ⟨s1.heap.objs.size,[s1.heap.objs.size],_,Its x,H1,rfl,I1.kept (t':=s1.toks) fun b o e=>DQ _ e,n6 (t:=t) (ty := "str_iterator") (fun A hA=>Walks.strWide hA _ x t) (fun A i s Q E st hQ=>wpAny_pyIter_striter_wide st hQ),⟨_,D0 _ rfl,rfl,rfl⟩,fun b hb=>?_,q⟩
  have e:b=s1.heap.objs.size:=by simpa using hb
  subst e
  exact I1.fpOk (DY _) ht
 ·refine wpAny_pyIter_ascii ha ?_
  refine ⟨s1.heap.objs.size,[s1.heap.objs.size],_,Its x,H1,rfl,I1.kept (t':=s1.toks) fun b o e=>DQ _ e,n6 (t:=t) (ty := "str_ascii_iterator") (fun A hA=>Walks.strAscii hA _ x t) (fun A i s Q E st hQ=>wpAny_pyIter_striter_ascii st hQ),⟨_,D0 _ rfl,rfl,rfl⟩,fun b hb=>?_,q⟩
  have e:b=s1.heap.objs.size:=by simpa using hb
  subst e
  exact I1.fpOk (DY _) ht
section
variable {X:Cx}
theorem yD:OpR X (binaryOp .Mult) (rI (fun i j=>Builtin.Int.intBits i≤2 ^ 20∧Builtin.Int.intBits j≤2 ^ 20) fun i j=>.int (i * j)):=opI fun _ _ _ _ _ _ _ hc q=>mul_int q (IntMulOk.of_bits hc.1 hc.2)
theorem wd:OpR X (binaryOp .FloorDiv) (rI (fun _ j=>0 < j∧j.natAbs.log2 < 9000) fun i j=>.int (i / j)):=opI fun i j _ _ _ _ _ hc q=>by
 refine floordiv_int (by omega) ?_ (.inl (PyProof.noPylong_of_log2 hc.2))
 rw [Int.fdiv_eq_ediv_of_nonneg _ (by omega)]
 exact q
theorem t_:OpR X (compareOp .LtE) (fun x y H Q=>∃ i j,x=.str i∧y=.str j∧Q (.bl (!decide (j.cps.toList < i.cps.toList))) H):=by
 intro pins s σ H x y v u Q I rx ry h
 obtain ⟨i,j,rfl,rfl,q⟩:=h
 obtain ⟨t,rfl⟩:=rx
 obtain ⟨t',rfl⟩:=ry
 exact PySem.P.le_str ⟨.bl _,H,I,rfl,q⟩
theorem Ad:SlR X (fun x lo hi H Q=>∃ z,x=.str z∧z.length≤sizeLine∧Q (.str (Txt.slice z lo hi)) H):=by
 intro pins s σ H x v vl vu lo hi sl Q I rx hs pl pu h
 obtain ⟨z,rfl,hz,q⟩:=h
 obtain ⟨t,rfl⟩:=rx
 refine ⟨"str",_,F.slot_str_getitem.lookup,typeIs_str _ _ _,?_⟩
 have fin:∀ (l u:Option (Int×Tok)),l.map (·.1)=lo→u.map (·.1)=hi→s.heap.IsSlice sl l u none→wpAny (model X.prog X.w) X.A (getItem (.str z t) (.ref sl)) (EP X pins σ Q) X.xe s:=by
  intro l u hl hu hsl
  refine wpAny_getItem_str_slice hsl rfl ?_
  unfold sliceMade slicePicked
  rw [hl,hu]
  have e:Txt.slice z lo hi=if ((1:Int) == 1 && (Builtin.Str.strSliceIndices lo hi 1 z.length).length == z.length)=true then z else ⟨((Builtin.Str.strSliceIndices lo hi 1 z.length).filterMap (z.cps[·]?)).toArray⟩:=rfl
  rw [e] at q
  show (if ((1:Int) == 1 && (Builtin.Str.strSliceIndices lo hi 1 z.length).length == z.length)=true then Made.val (.str z t) else Made.str ⟨((Builtin.Str.strSliceIndices lo hi 1 z.length).filterMap (z.cps[·]?)).toArray⟩).post _ s
  by_cases hc:((1:Int) == 1 && (Builtin.Str.strSliceIndices lo hi 1 z.length).length == z.length)=true
  ·rw [if_pos hc] at q ⊢
   exact ⟨.str z,H,I,⟨t,rfl⟩,q⟩
  ·rw [if_neg hc] at q ⊢
   have hlen:(⟨((Builtin.Str.strSliceIndices lo hi 1 z.length).filterMap (z.cps[·]?)).toArray⟩:Str).length≤sizeLine:=by
    show ((Builtin.Str.strSliceIndices lo hi 1 z.length).filterMap (z.cps[·]?)).toArray.size≤sizeLine
    rw [DV]
    exact D6 (List.length_filterMap_le _ _) (D6 (sliceIndices_le lo hi z.length) hz)
   refine ⟨hlen,?_⟩
   exact ⟨.str _,H,I.tok _,⟨_,rfl⟩,q⟩
 obtain ⟨o,ho,hc,hd⟩:=hs
 cases pl with
 | none =>
  cases pu with
  | none=>exact fin none none rfl rfl ⟨o,ho,hc,hd⟩
  | int j u=>exact fin none (some (j,u)) rfl rfl ⟨o,ho,hc,hd⟩
 | int i t' =>
  cases pu with
  | none=>exact fin (some (i,t')) none rfl rfl ⟨o,ho,hc,hd⟩
  | int j u=>exact fin (some (i,t')) (some (j,u)) rfl rfl ⟨o,ho,hc,hd⟩
theorem pU:dc X (.builtin "isinstance") (fun xs H Q=>∃ x T t b,xs=[x,.ty T]∧io X.K H x t∧PySem.W.kitOne X.K t (.type T)=some b∧Q (.bl b) H):=by
 intro pins s σ H xs us Q I r h
 obtain ⟨x,T,t,b,rfl,ty,e,q⟩:=h
 obtain ⟨u,w',rfl,ru,rw'⟩:=zB r
 obtain rfl:w'=Value.type T:=rw'
 exact uy I ru ty e fun tk=>⟨.bl b,H,I.tok tk,rfl,q⟩
end
end L2
namespace L2.Cu
open PySem PySem.Spec PyProof.Rows
section
variable {F H:Hp}{v:V}
theorem OB.int {i:Int} (r:OB F H v (.int i)):v=.int i:=by
 rcases r with r | ⟨a,o,h1,h2,h3⟩
 ·cases r; rfl
 ·cases o <;> exact False.elim h3
theorem OB.bl {i:Bool} (r:OB F H v (.bl i)):v=.bl i:=by
 rcases r with r | ⟨a,o,h1,h2,h3⟩
 ·cases r; rfl
 ·cases o <;> exact False.elim h3
theorem OB.str {i:Str} (r:OB F H v (.str i)):v=.str i:=by
 rcases r with r | ⟨a,o,h1,h2,h3⟩
 ·cases r; rfl
 ·cases o <;> exact False.elim h3
theorem OB.non (r:OB F H v .non):v=.non:=by
 rcases r with r | ⟨a,o,h1,h2,h3⟩
 ·cases r; rfl
 ·cases o <;> exact False.elim h3
theorem OB.lst {ds:List D} (s:∀ a u,F a=some u→H a=some u) (r:OB F H v (.lst ds)):∃ a vs,v=.ref a∧H a=some (.lst vs)∧Reps F vs ds:=by
 rcases r with r | ⟨a,o,h1,h2,h3⟩
 ·cases r with
  | lst e rs=>exact ⟨_,_,rfl,s _ _ e,rs⟩
 ·cases o with
  | lst vs=>exact ⟨a,vs,h1,h2,h3⟩
  | _=>exact False.elim h3
theorem qv {H H':Hp}{a:Addr}{u:HO} (h:∀ a o,H a=some o→H' a=some o) (r:Rd H a u):Rd H' a u:=r.elim (fun e=>.inl (h _ _ e)) fun zz93_0=>by obtain ⟨o,e⟩:=zz93_0; exact .inr ⟨o,h _ _ e⟩
theorem nM {H:Hp}{a:Addr}{kvs:List (Key×V)} {k:Key} (e:Rd H a (.dK kvs)):qc H a (kV k) (fB kvs k):=.inl ⟨kvs,k,e,rfl,rfl⟩
theorem OB.dic {ds:List (Key×D)} (s:∀ a u,F a=some u→H a=some u) (r:OB F H v (.dic ds)):∃ a vs,v=.ref a∧Rd H a (.dK vs)∧RepK F vs ds:=by
 rcases r with r | ⟨a,o,h1,h2,h3⟩
 ·cases r with
  | dic e rs=>exact ⟨_,_,rfl,.inr ⟨_,s _ _ e⟩,rs⟩
 ·cases o with
  | dK vs=>exact ⟨a,vs,h1,.inl h2,h3⟩
  | _=>exact False.elim h3
theorem OB.tup {ds:List D} (r:OB F H v (.tup ds)):∃ a vs,v=.ref a∧F a=some (.tup vs)∧Reps F vs ds:=by
 rcases r with r | ⟨a,o,h1,h2,h3⟩
 ·cases r with
  | tup e rs=>exact ⟨_,_,rfl,e,rs⟩
 ·cases o <;> exact False.elim h3
theorem OB.scr {ns:List Int} (r:OB F H v (.scr ns)):∃ a o,v=.ref a∧F a=some (.frz o (.lst (ns.map V.int))):=by
 rcases r with r | ⟨a,o,h1,h2,h3⟩
 ·cases r with
  | scr e=>exact ⟨_,_,rfl,e⟩
 ·cases o <;> exact False.elim h3
end
def bW:D→Option (List D)
 | .lst xs=>some xs
 | .tup xs=>some xs
 | _=>none
def jZ (x:Str):List D:=x.cps.toList.map fun c=>.str ⟨#[c]⟩
def aL:D→Option (List D)
 | .lst xs=>some xs
 | .tup xs=>some xs
 | .str x=>some (jZ x)
 | _=>none
def bg (o:D→Option (List D)) (f:DE→Option D) (E:DE):Option (List D):=(f E).bind o
section
variable {X:Cx}{e:Expr}{pos:Pos}
theorem wN {K:PySem.W.Frag}{F:Hp}{a:Addr}{vs:List V}{ds:List D} (h:F a=some (.lst vs)) (r:Reps F vs ds):qb F (Itl K a) ds:=by
 intro i F2 H2 y s
 have q:SqL K H2 a vs:=SqL.of (s _ _ (y _ _ h))
 refine ⟨fun hl=>⟨vs,q,by rw [r.length,hl]; exact DY _⟩,fun d hd=>?_⟩
 obtain ⟨v,hv,rv⟩:=r.get hd
 refine ⟨⟨vs,v,q,hv⟩,fun x H' yl=>?_⟩
 obtain ⟨rfl,yl⟩:=yl
 have e2:=yl vs q
 rw [hv] at e2
 cases e2
 exact ⟨F2,Ext.refl s,rv.mono y⟩
theorem wL {K:PySem.W.Frag}{F:Hp}{a:Addr}{vs:List V}{ds:List D} (h:F a=some (.tup vs)) (r:Reps F vs ds):qb F (Itt K a) ds:=by
 intro i F2 H2 y s
 have q:SqT K H2 a vs:=SqT.of (s _ _ (y _ _ h))
 refine ⟨fun hl=>⟨vs,q,by rw [r.length,hl]; exact DY _⟩,fun d hd=>?_⟩
 obtain ⟨v,hv,rv⟩:=r.get hd
 refine ⟨⟨vs,v,q,hv⟩,fun x H' yl=>?_⟩
 obtain ⟨rfl,yl⟩:=yl
 have e2:=yl vs q
 rw [hv] at e2
 cases e2
 exact ⟨F2,Ext.refl s,rv.mono y⟩
theorem Bc {F:Hp} (x:Str):qb F (Its x) (jZ x):=by
 intro i F2 H2 y s
 have hl:(jZ x).length=x.cps.size:=by simp [jZ]
 refine ⟨fun h=>by rw [hl] at h; exact h.symm,fun d hd=>?_⟩
 unfold jZ at hd
 rw [DX] at hd
 cases hc:x.cps.toList[i]? with
 | none=>rw [hc] at hd; cases hd
 | some c =>
  rw [hc] at hd
  cases hd
  have hlt:i < x.cps.size:=by
   have:=(List.getElem?_eq_some_iff.mp hc).1
   simpa using this
  have hc':x.cps[i]? = some c:=by simpa using hc
  refine ⟨hlt,fun z H' yl=>?_⟩
  obtain ⟨rfl,c',h1,h2⟩:=yl
  rw [hc'] at h1
  cases h1
  subst h2
  exact ⟨F2,Ext.refl s,.str _⟩
theorem k9 {tg:Expr}{f:DE→Option D} (h:Ev X .V e f):Ei X tg e (bg bW f):=PI.by (PI.or (rS h.h) (v4 h.h)) fun σ H R zz94_0=>by
 obtain ⟨B,F,E,xs,k,q,w⟩:=zz94_0
 unfold bg at q
 cases hf:f E with
 | none=>simp [hf] at q
 | some d =>
  simp only [hf,DA] at q
  cases d with
  | lst ds =>
   cases q
   refine .inl ⟨B,F,E,_,k,hf,fun v F' H' x r=>?_⟩
   cases r with
   | lst e rs=>exact ⟨_,rfl,⟨_,SqL.of (x.sub _ _ e)⟩,w _ F' H' x (wN e rs)⟩
  | tup ds =>
   cases q
   refine .inr ⟨B,F,E,_,k,hf,fun v F' H' x r=>?_⟩
   cases r with
   | tup e rs=>exact ⟨_,rfl,⟨_,SqT.of (x.sub _ _ e)⟩,w _ F' H' x (wL e rs)⟩
  | _=>cases q
theorem bN {y:Str}{py:Pos}{f:DE→Option D} (h:Ev X .V e f):Ei X (.Name y py) e (bg aL f):=PI.by (PI.or (AG h.h) (PI.or (rS h.h) (v4 h.h))) fun σ H R zz95_0=>by
 obtain ⟨B,F,E,xs,k,q,w⟩:=zz95_0
 unfold bg at q
 cases hf:f E with
 | none=>simp [hf] at q
 | some d =>
  simp only [hf,DA] at q
  cases d with
  | str z =>
   cases q
   refine .inl ⟨B,F,E,_,k,hf,fun v F' H' x r=>?_⟩
   cases r with
   | str=>exact ⟨z,rfl,w _ F' H' x (Bc z)⟩
  | lst ds =>
   cases q
   refine .inr (.inl ⟨B,F,E,_,k,hf,fun v F' H' x r=>?_⟩)
   cases r with
   | lst e rs=>exact ⟨_,rfl,⟨_,SqL.of (x.sub _ _ e)⟩,w _ F' H' x (wN e rs)⟩
  | tup ds =>
   cases q
   refine .inr (.inr ⟨B,F,E,_,k,hf,fun v F' H' x r=>?_⟩)
   cases r with
   | tup e rs=>exact ⟨_,rfl,⟨_,SqT.of (x.sub _ _ e)⟩,w _ F' H' x (wL e rs)⟩
  | _=>cases q
def bQ (lo:Int) (n:Nat):List D:=(List.range n).map fun i=>.int (lo + (i:Nat))
def df (ds:List D):Option (List D):=match ds with
 | [.int j]=>@ite _ (-(2 ^ 62)≤j∧j < 2 ^ 62) (Classical.propDecidable _) (some (bQ 0 j.toNat)) none
 | _=>none
def jq (ds:List D):Option (List D):=match ds with
 | [.int i,.int j]=>@ite _ ((-(2 ^ 62)≤i∧i < 2 ^ 62)∧(-(2 ^ 62)≤j∧j < 2 ^ 62)) (Classical.propDecidable _) (some (bQ i (j - i).toNat)) none
 | _=>none
def c4 (f:DE→Option (List D)) (E:DE):Option (List D):=(f E).bind df
def tK (f:DE→Option (List D)) (E:DE):Option (List D):=(f E).bind jq
theorem qt {ds xs:List D} (h:df ds=some xs):∃ j,ds=[.int j]:=by
 unfold df at h
 split at h
 ·exact ⟨_,rfl⟩
 ·cases h
theorem qr {ds xs:List D} (h:jq ds=some xs):∃ i j,ds=[.int i,.int j]:=by
 unfold jq at h
 split at h
 ·exact ⟨_,_,rfl⟩
 ·cases h
theorem wM {F:Hp} (lo:Int) (n:Nat):qb F (Itr lo n) (bQ lo n):=by
 intro i F2 H2 y s
 have hl:(bQ lo n).length=n:=by simp [bQ]
 refine ⟨fun h=>by rw [hl] at h; exact GA h,fun d hd=>?_⟩
 unfold bQ at hd
 rw [DX] at hd
 cases hc:(List.range n)[i]? with
 | none=>rw [hc] at hd; cases hd
 | some c =>
  rw [hc] at hd
  cases hd
  obtain ⟨hlt,rfl⟩:=List.getElem?_eq_some_iff.mp hc
  rw [D1] at hlt
  refine ⟨hlt,fun z H' yl=>?_⟩
  obtain ⟨rfl,rfl⟩:=yl
  rw [F9]
  exact ⟨F2,Ext.refl s,.int _⟩
theorem bE {tg a:Expr}{f:DE→Option (List D)} {p:Pos} (hg:Gl X "range") (hm:X.mg "range" = none) (ha:Ea X [a] f) (hs:aV a=true:=by rfl):Ei X tg (.Call (.Name "range" p) [a] [] pos) (c4 f) :=
 PI.by (tX hg hm ha.h (aF a [] X.env hs)) fun σ H R zz96_0=>by
  obtain ⟨B,F,E,xs,k,q,w⟩:=zz96_0
  unfold c4 at q
  cases hf:f E with
  | none=>simp [hf] at q
  | some ds =>
   rw [hf] at q
   refine ⟨B,F,E,ds,k,hf,fun vs F' H' x r=>?_⟩
   obtain ⟨j,rfl⟩:=qt q
   obtain ⟨v1,ws,rfl,r1,r⟩:=r.c1
   obtain rfl:=r.c0
   cases r1
   ·have q':@ite _ (-(2 ^ 62)≤j∧j < 2 ^ 62) (Classical.propDecidable _) (some (bQ 0 j.toNat)) none=some xs:=q
    by_cases hj : -(2 ^ 62)≤j∧j < 2 ^ 62
    ·rw [if_pos hj] at q'
     cases q'
     exact ⟨j,rfl,hj.1,hj.2,w _ F' H' x (wM 0 _)⟩
    ·rw [if_neg hj] at q'; cases q'
theorem jf {tg a b:Expr}{f:DE→Option (List D)} {p:Pos} (hg:Gl X "range") (hm:X.mg "range" = none) (ha:Ea X [a,b] f) (hs:aV a=true:=by rfl) (hs2:aV b=true:=by rfl):Ei X tg (.Call (.Name "range" p) [a,b] [] pos) (tK f) :=
 PI.by (tW hg hm ha.h (by rw [aF a [b] X.env hs,aF b [] X.env hs2]; rfl) (aF b [] X.env hs2)) fun σ H R zz97_0=>by
  obtain ⟨B,F,E,xs,k,q,w⟩:=zz97_0
  unfold tK at q
  cases hf:f E with
  | none=>simp [hf] at q
  | some ds =>
   rw [hf] at q
   refine ⟨B,F,E,ds,k,hf,fun vs F' H' x r=>?_⟩
   obtain ⟨i,j,rfl⟩:=qr q
   obtain ⟨v1,ws,rfl,r1,r⟩:=r.c1
   obtain ⟨v2,ws,rfl,r2,r⟩:=r.c1
   obtain rfl:=r.c0
   cases r1
   cases r2
   ·have q':@ite _ ((-(2 ^ 62)≤i∧i < 2 ^ 62)∧(-(2 ^ 62)≤j∧j < 2 ^ 62)) (Classical.propDecidable _) (some (bQ i (j - i).toNat)) none=some xs:=q
    by_cases hj:(-(2 ^ 62)≤i∧i < 2 ^ 62)∧(-(2 ^ 62)≤j∧j < 2 ^ 62)
    ·rw [if_pos hj] at q'
     cases q'
     exact ⟨i,j,rfl,⟨hj.1.1,hj.1.2,hj.2.1,hj.2.2⟩,w _ F' H' x (wM i _)⟩
    ·rw [if_neg hj] at q'; cases q'
end
def i2 (g:Int→Int→Option D):D→D→Option D
 | .int i,.int j=>g i j
 | _,_=>none
theorem gc {g:Int→Int→Option D}{x y d:D} (h:i2 g x y=some d):∃ i j,x=.int i∧y=.int j∧g i j=some d:=by
 cases x <;> cases y <;> simp [i2] at h
 exact ⟨_,_,rfl,rfl,h⟩
def cX:D→D→Option D:=i2 fun i j=>some (.int (i - j))
theorem Ak:fV .V (rI0 fun i j=>.int (i - j)) cX:=fun F H v w x y d Q s rx ry h q=>by
 obtain ⟨i,j,rfl,rfl,h'⟩:=gc h
 cases h'
 exact ⟨i,j,rx.int,ry.int,q _ F H (Ext.refl s) (.int _)⟩
def yN:D→D→Option D:=i2 fun i j=>if Builtin.Int.intBits i≤2 ^ 20∧Builtin.Int.intBits j≤2 ^ 20 then some (.int (i * j)) else none
theorem Aq:fV .V (rI (fun i j=>Builtin.Int.intBits i≤2 ^ 20∧Builtin.Int.intBits j≤2 ^ 20) fun i j=>.int (i * j)) yN:=fun F H v w x y d Q s rx ry h q=>by
 obtain ⟨i,j,rfl,rfl,h'⟩:=gc h
 split at h'
 ·rename_i hc
  cases h'
  exact ⟨i,j,rx.int,ry.int,hc,q _ F H (Ext.refl s) (.int _)⟩
 ·cases h'
def bC:D→D→Option D:=i2 fun i j=>if 0 < j then some (.int (i % j)) else none
theorem Ar:fV .V (rI (fun _ j=>0 < j) fun i j=>.int (i % j)) bC:=fun F H v w x y d Q s rx ry h q=>by
 obtain ⟨i,j,rfl,rfl,h'⟩:=gc h
 split at h'
 ·rename_i hc
  cases h'
  exact ⟨i,j,rx.int,ry.int,hc,q _ F H (Ext.refl s) (.int _)⟩
 ·cases h'
def bS:D→D→Option D:=i2 fun i j=>if 0 < j∧j.natAbs.log2 < 9000 then some (.int (i / j)) else none
theorem yg:fV .V (rI (fun _ j=>0 < j∧j.natAbs.log2 < 9000) fun i j=>.int (i / j)) bS:=fun F H v w x y d Q s rx ry h q=>by
 obtain ⟨i,j,rfl,rfl,h'⟩:=gc h
 split at h'
 ·rename_i hc
  cases h'
  exact ⟨i,j,rx.int,ry.int,hc,q _ F H (Ext.refl s) (.int _)⟩
 ·cases h'
def e9:D→D→Option D:=i2 fun i j=>if 0≤j∧j≤1000000∧i.natAbs < 2 ^ 64 then some (.int (i ^ j.toNat)) else none
theorem Am:fV .V (rI C0 fun i j=>.int (i ^ j.toNat)) e9:=fun F H v w x y d Q s rx ry h q=>by
 obtain ⟨i,j,rfl,rfl,h'⟩:=gc h
 split at h'
 ·rename_i hc
  cases h'
  exact ⟨i,j,rx.int,ry.int,hc,q _ F H (Ext.refl s) (.int _)⟩
 ·cases h'
def AR (pi:Int→Int→Bool) (ps:List Nat→List Nat→Bool):D→D→Option D
 | .int i,.int j=>some (.bl (pi i j))
 | .str i,.str j=>some (.bl (ps i.cps.toList j.cps.toList))
 | _,_=>none
def ltD:D→D→Option D:=AR (fun i j=>decide (i < j)) fun i j=>decide (i < j)
def leD:D→D→Option D:=AR (fun i j=>decide (i≤j)) fun i j => !decide (j < i)
def gtD:D→D→Option D:=i2 fun i j=>some (.bl (decide (j < i)))
def geD:D→D→Option D:=i2 fun i j=>some (.bl (decide (j≤i)))
theorem oS {pi:Int→Int→Bool}{ps:List Nat→List Nat→Bool}{x y d:D} (h:AR pi ps x y=some d) :
  (∃ i j,x=.int i∧y=.int j∧d=.bl (pi i j))∨∃ i j,x=.str i∧y=.str j∧d=.bl (ps i.cps.toList j.cps.toList):=by
 match x,y,h with
 | .int i,.int j,h=>exact .inl ⟨i,j,rfl,rfl,(DR h).symm⟩
 | .str i,.str j,h=>exact .inr ⟨i,j,rfl,rfl,(DR h).symm⟩
theorem B5:fV .V (fun x y H Q=>(rI0 fun i j=>.bl (decide (i < j))) x y H Q∨∃ i j,x=.str i∧y=.str j∧Q (.bl (decide (i.cps.toList < j.cps.toList))) H) ltD:=fun F H v w x y d Q s rx ry h q=>by
 rcases oS h with ⟨i,j,rfl,rfl,rfl⟩ | ⟨i,j,rfl,rfl,rfl⟩
 ·exact .inl ⟨_,_,rx.int,ry.int,q _ F H (Ext.refl s) (.bl _)⟩
 ·exact .inr ⟨_,_,rx.str,ry.str,q _ F H (Ext.refl s) (.bl _)⟩
theorem B6:fV .V (fun x y H Q=>(rI0 fun i j=>.bl (decide (i≤j))) x y H Q∨∃ i j,x=.str i∧y=.str j∧Q (.bl (!decide (j.cps.toList < i.cps.toList))) H) leD:=fun F H v w x y d Q s rx ry h q=>by
 rcases oS h with ⟨i,j,rfl,rfl,rfl⟩ | ⟨i,j,rfl,rfl,rfl⟩
 ·exact .inl ⟨_,_,rx.int,ry.int,q _ F H (Ext.refl s) (.bl _)⟩
 ·exact .inr ⟨_,_,rx.str,ry.str,q _ F H (Ext.refl s) (.bl _)⟩
theorem B8:fV .V (rI0 fun i j=>.bl (decide (j < i))) gtD:=fun F H v w x y d Q s rx ry h q=>by
 obtain ⟨i,j,rfl,rfl,h'⟩:=gc h
 cases h'
 exact ⟨i,j,rx.int,ry.int,q _ F H (Ext.refl s) (.bl _)⟩
theorem B9:fV .V (rI0 fun i j=>.bl (decide (j≤i))) geD:=fun F H v w x y d Q s rx ry h q=>by
 obtain ⟨i,j,rfl,rfl,h'⟩:=gc h
 cases h'
 exact ⟨i,j,rx.int,ry.int,q _ F H (Ext.refl s) (.bl _)⟩
section
variable {X:Cx}{a b:Expr}{pos:Pos}{f g:DE→Option D}
theorem cS (ha:Ev X .O a f) (hb:Ev X .O b g):Ev X .V (.BinOp a .Sub b pos) (bin cX f g):=il AS Ak ha hb
theorem bO (ha:Ev X .O a f) (hb:Ev X .O b g):Ev X .V (.BinOp a .Mod b pos) (bin bC f g):=il AU Ar ha hb
theorem cj (ha:Ev X .O a f) (hb:Ev X .O b g):Ev X .V (.BinOp a .FloorDiv b pos) (bin bS f g):=il wd yg ha hb
theorem ik (ha:Ev X .O a f) (hb:Ev X .O b g):Ev X .V (.BinOp a .Pow b pos) (bin e9 f g):=il AT Am ha hb
theorem AV:OpR X (compareOp .Lt) (fun x y H Q=>(rI0 fun i j=>.bl (decide (i < j))) x y H Q∨∃ i j,x=.str i∧y=.str j∧Q (.bl (decide (i.cps.toList < j.cps.toList))) H):=OpR.or Cr t9
theorem AW:OpR X (compareOp .LtE) (fun x y H Q=>(rI0 fun i j=>.bl (decide (i≤j))) x y H Q∨∃ i j,x=.str i∧y=.str j∧Q (.bl (!decide (j.cps.toList < i.cps.toList))) H):=OpR.or Cs t_
end
mutual
def toP:D→PyData
 | .non=>.none
 | .bl b=>.bool b
 | .int i=>.int i
 | .str x=>.str x
 | .tup xs=>.tuple (toPs xs)
 | .lst xs=>.list (toPs xs)
 | .dic _=>.dict []
 | .scr _=>.dict []
def toPs:List D→List PyData
 | []=>[]
 | x :: xs=>toP x :: toPs xs
end
section
variable {X:Cx}{pins:List (Addr×Obj)} {σ:St}{F H:Hp}{s:Shared}
mutual
theorem Rep.reads (I:Inv X pins σ H s) (hs:∀ a o,F a=some o→H a=some o):∀ {v:V}{d:D}{u:Value},Rep F v d→bh v u→(toP d).canLay0=true→∃ as,Reads s.heap u (toP d) as
 := fun {v d u} q r c=>by
  refine EC fun hn=>?_
  cases q with
  | non=>cases r; exact hn ⟨_,.none⟩
  | bl b=>cases r; exact hn ⟨_,.bool b⟩
  | int i=>obtain ⟨t,rfl⟩:=r; exact hn ⟨_,.int i t⟩
  | str x=>obtain ⟨t,rfl⟩:=r; exact hn ⟨_,.str x t⟩
  | @tup a vs ds e rs =>
   cases r
   obtain ⟨its,rv,ht,hz⟩:=I.tuple (SqT.of (hs _ _ e))
   obtain ⟨o,ho,hc,n,hd⟩:=ht
   have c':PyData.canLayAll0 (toPs ds)=true:=by simpa [toP,PyData.canLay0] using c
   obtain ⟨as,ra⟩:=Reps.reads I hs rs rv c'
   exact hn ⟨_,by rw [toP]; exact .tuple ho hc hd (by simpa using ra)⟩
  | @lst a vs ds e rs =>
   cases r
   obtain ⟨z,its,n,rv,hl,ho⟩:=I.lstM (hs _ _ e)
   have c':PyData.canLayAll0 (toPs ds)=true:=by simpa [toP,PyData.canLay0] using c
   obtain ⟨as,ra⟩:=Reps.reads I hs rs rv c'
   exact hn ⟨_,by rw [toP]; exact .list ho rfl rfl (by simpa using ra)⟩
  | dic _ _=>simp [toP,PyData.canLay0] at c
  | scr _=>simp [toP,PyData.canLay0] at c
theorem Reps.reads (I:Inv X pins σ H s) (hs:∀ a o,F a=some o→H a=some o):∀ {vs:List V}{ds:List D}{us:List Value},Reps F vs ds→a_ vs us→PyData.canLayAll0 (toPs ds)=true→∃ as,ReadsAll s.heap us (toPs ds) as
 := fun {vs ds us} z w c=>by
  refine EC fun hn=>?_
  cases z with
  | nil=>cases w; exact hn ⟨_,.nil⟩
  | @cons v d vs ds r rs =>
   cases w with
   | cons q qs =>
    have c':(toP d).canLay0=true∧PyData.canLayAll0 (toPs ds)=true:=by simpa [toPs,PyData.canLayAll0] using c
    obtain ⟨as,h1⟩:=Rep.reads I hs r q c'.1
    obtain ⟨bs,h2⟩:=Reps.reads I hs rs qs c'.2
    exact hn ⟨_,by rw [toPs]; exact .cons h1 h2⟩
end
theorem OB.reads (I:Inv X pins σ H s) (hs:∀ a o,F a=some o→H a=some o) {v:V}{d:D}{u:Value} (r:OB F H v d) (q:bh v u) (c:(toP d).canLay0=true):∃ as,Reads s.heap u (toP d) as:=by
 rcases r with r | ⟨a,o,rfl,h2,h3⟩
 ·exact Rep.reads I hs r q c
 ·cases q
  cases o with
  | lst vs =>
   cases d with
   | lst ds =>
    obtain ⟨z,its,n,rv,hl,ho⟩:=I.lstM h2
    have c':PyData.canLayAll0 (toPs ds)=true:=by simpa [toP,PyData.canLay0] using c
    obtain ⟨as,ra⟩:=Reps.reads I hs (show Reps F vs ds from h3) rv c'
    exact ⟨_,by rw [toP]; exact .list ho rfl rfl (by simpa using ra)⟩
   | _=>exact False.elim h3
  | dK vs =>
   cases d with
   | dic ds=>simp [toP,PyData.canLay0] at c
   | _=>exact False.elim h3
  | _=>exact False.elim h3
end
def rO (neg:Bool) (u:Nat):R2:=fun v w H Q=>∃ F x y,(∀ a o,F a=some o→H a=some o)∧OB F H v x∧OB F H w y∧(toP x).canLay0=true∧(toP y).canLay0=true∧u + min (toP x).depth (toP y).depth < cLine ∧
 Q (.bl (if neg then !PyData.eqv (toP x) (toP y) else PyData.eqv (toP x) (toP y))) H
section
variable {X:Cx}
theorem l5:OpR X (compareOp .Eq) (rO false X.A.units):=by
 intro pins s σ H v w u z Q I rv rw h
 obtain ⟨F,x,y,hs,ox,oy,cx,cy,hu,q⟩:=h
 obtain ⟨as,ra⟩:=ox.reads I hs rv cx
 obtain ⟨bs,rb⟩:=oy.reads I hs rw cy
 exact SeqAt.rcAt_reads ra rb cx cy hu X.prog X.w X.xe _ ⟨.bl _,H,I,rfl,q⟩
theorem t8:OpR X (compareOp .NotEq) (rO true X.A.units):=by
 intro pins s σ H v w u z Q I rv rw h
 obtain ⟨F,x,y,hs,ox,oy,cx,cy,hu,q⟩:=h
 obtain ⟨as,ra⟩:=ox.reads I hs rv cx
 obtain ⟨bs,rb⟩:=oy.reads I hs rw cy
 exact SeqAt.compareNe_reads ra rb cx cy hu ⟨.bl _,H,I,rfl,q⟩
end
def scD:D→D→Option Bool
 | .str x,.str y=>some (decide (x=y))
 | .int x,.int y=>some (decide (x=y))
 | .bl x,.bl y=>some (decide (x=y))
 | _,_=>none
def fK (x:D):Bool:=(toP x).canLay0 && decide ((toP x).depth≤60)
def eqD (x y:D):Option Bool:=match scD x y with
 | some b=>some b
 | none=>if fK x && fK y then some (PyData.eqv (toP x) (toP y)) else none
def eqO (x y:D):Option D:=(eqD x y).map D.bl
def neO (x y:D):Option D:=(eqD x y).map fun b=>.bl (!b)
theorem my {x y:D}{b:Bool} (h:eqD x y=some b):(∃ i j,x=.str i∧y=.str j∧b=decide (i=j))∨(∃ i j,x=.int i∧y=.int j∧b=decide (i=j))∨(∃ i j,x=.bl i∧y=.bl j∧b=decide (i=j)) ∨
  (fK x=true∧fK y=true∧b=PyData.eqv (toP x) (toP y)):=by
 unfold eqD at h
 cases hs:scD x y with
 | some c =>
  rw [hs] at h
  cases h
  match x,y,hs with
  | .str i,.str j,hs=>exact .inl ⟨i,j,rfl,rfl,(DR hs).symm⟩
  | .int i,.int j,hs=>exact .inr (.inl ⟨i,j,rfl,rfl,(DR hs).symm⟩)
  | .bl i,.bl j,hs=>exact .inr (.inr (.inl ⟨i,j,rfl,rfl,(DR hs).symm⟩))
 | none =>
  rw [hs] at h
  have h':(if (fK x && fK y)=true then some (PyData.eqv (toP x) (toP y)) else none)=some b:=h
  split at h'
  ·rename_i hc
   obtain ⟨h1,h2⟩:=Bool.and_eq_true_iff.mp hc
   exact .inr (.inr (.inr ⟨h1,h2,(DR h').symm⟩))
  ·cases h'
theorem vN (u:Nat) (hu:u + 64 < cLine):fV .V (fun x y H Q=>rEq x y H Q∨rO false u x y H Q) eqO:=fun F H v w x y d Q s rx ry h q=>by
 unfold eqO at h
 cases he:eqD x y with
 | none=>rw [he] at h; cases h
 | some b =>
  rw [he] at h
  cases h
  have fin:=q (.bl b) F H (Ext.refl s) (.bl b)
  rcases my he with ⟨i,j,rfl,rfl,rfl⟩ | ⟨i,j,rfl,rfl,rfl⟩ | ⟨i,j,rfl,rfl,rfl⟩ | ⟨h1,h2,rfl⟩
  ·left; cases rx.str; cases ry.str; exact ⟨rfl,by simpa using fin⟩
  ·left; cases rx.int; cases ry.int; exact ⟨rfl,by simpa using fin⟩
  ·left; cases rx.bl; cases ry.bl; exact ⟨rfl,by simpa using fin⟩
  ·right
   obtain ⟨a1,a2⟩:=Bool.and_eq_true_iff.mp h1
   obtain ⟨b1,b2⟩:=Bool.and_eq_true_iff.mp h2
   have:=EO a2
   exact ⟨F,x,y,s,rx,ry,a1,b1,by omega,fin⟩
theorem Ap (u:Nat) (hu:u + 64 < cLine):fV .V (fun x y H Q=>rNe x y H Q∨rO true u x y H Q) neO:=fun F H v w x y d Q s rx ry h q=>by
 unfold neO at h
 cases he:eqD x y with
 | none=>rw [he] at h; cases h
 | some b =>
  rw [he] at h
  cases h
  have fin:=q (.bl (!b)) F H (Ext.refl s) (.bl (!b))
  rcases my he with ⟨i,j,rfl,rfl,rfl⟩ | ⟨i,j,rfl,rfl,rfl⟩ | ⟨i,j,rfl,rfl,rfl⟩ | ⟨h1,h2,rfl⟩
  ·left; cases rx.str; cases ry.str; exact ⟨rfl,by simpa using fin⟩
  ·left; cases rx.int; cases ry.int; exact ⟨rfl,by simpa using fin⟩
  ·left; cases rx.bl; cases ry.bl; exact ⟨rfl,by simpa using fin⟩
  ·right
   obtain ⟨a1,a2⟩:=Bool.and_eq_true_iff.mp h1
   obtain ⟨b1,b2⟩:=Bool.and_eq_true_iff.mp h2
   have:=EO a2
   exact ⟨F,x,y,s,rx,ry,a1,b1,by omega,fin⟩
def c9:D→Bool
 | .non | .bl _ | .int _ | .str _=>true
 | _=>false
def toV:D→V
 | .bl b=>.bl b
 | .int i=>.int i
 | .str x=>.str x
 | _=>.non
theorem pC {F:Hp}{v:V}{d:D} (r:Rep F v d) (h:c9 d=true):v=toV d∧gK v=true:=by
 cases r <;> first | exact ⟨rfl,rfl⟩ | cases h
theorem i9 {F:Hp}:∀ {vs:List V}{ds:List D},Reps F vs ds→ds.all c9=true→vs=ds.map toV∧vs.all gK=true
 := fun z h=>by
  cases z with
  | nil=>exact ⟨rfl,rfl⟩
  | cons r t =>
   rw [E_,EA] at h
   obtain ⟨e1,f1⟩:=pC r h.1
   obtain ⟨e2,f2⟩:=i9 t h.2
   subst e1 e2
   exact ⟨rfl,by rw [E_,f1,f2]; rfl⟩
def inD (x y:D):Option Bool:=match x,y with
 | .str i,.str j=>some (!(Builtin.Str.occurrences j i 0 j.length 1).isEmpty)
 | x,.tup ds=>if c9 x && ds.all c9 then some (inV (toV x) (ds.map toV)) else none
 | x,.lst ds=>if c9 x && ds.all c9 then some (inV (toV x) (ds.map toV)) else none
 | _,_=>none
theorem uB {x y:D}{b:Bool} (h:inD x y=some b):(∃ i j,x=.str i∧y=.str j∧b = !(Builtin.Str.occurrences j i 0 j.length 1).isEmpty) ∨
  (∃ ds,(y=.tup ds∨y=.lst ds)∧c9 x=true∧ds.all c9=true∧b=inV (toV x) (ds.map toV)):=by
 cases y with
 | str j =>
  cases x with
  | str i=>exact .inl ⟨i,j,rfl,rfl,(DR h).symm⟩
  | _=>cases h
 | tup ds =>
  have h':(if c9 x && ds.all c9 then some (inV (toV x) (ds.map toV)) else none)=some b:=by cases x <;> exact h
  split at h'
  ·rename_i hc
   obtain ⟨h1,h2⟩:=Bool.and_eq_true_iff.mp hc
   exact .inr ⟨ds,.inl rfl,h1,h2,(DR h').symm⟩
  ·cases h'
 | lst ds =>
  have h':(if c9 x && ds.all c9 then some (inV (toV x) (ds.map toV)) else none)=some b:=by cases x <;> exact h
  split at h'
  ·rename_i hc
   obtain ⟨h1,h2⟩:=Bool.and_eq_true_iff.mp hc
   exact .inr ⟨ds,.inr rfl,h1,h2,(DR h').symm⟩
  ·cases h'
 | _=>cases x <;> cases h
theorem y9 {F H:Hp}{v:V}{d:D} (r:OB F H v d) (h:c9 d=true):v=toV d∧gK v=true:=by
 rcases r with r | ⟨a,o,h1,h2,h3⟩
 ·exact pC r h
 ·cases o <;> cases d <;> first | exact False.elim h3 | cases h
def yL (x y:D):Option D:=(inD x y).map fun b=>.bl (!b)
theorem Ao {K:PySem.W.Frag}:fV .V (fun x y H Q=>(∃ i j,x=.str i∧y=.str j∧Q (.bl (!(!(Builtin.Str.occurrences j i 0 j.length 1).isEmpty))) H)∨rIn K true x y H Q) yL:=fun F H v w x y d Q s rx ry h q=>by
 unfold yL at h
 cases he:inD x y with
 | none=>rw [he] at h; cases h
 | some b =>
  rw [he] at h
  cases h
  have fin:=q (.bl (!b)) F H (Ext.refl s) (.bl (!b))
  rcases uB he with ⟨i,j,rfl,rfl,rfl⟩ | ⟨ds,hy,h1,h2,rfl⟩
  ·exact .inl ⟨i,j,rx.str,ry.str,fin⟩
  ·right
   obtain ⟨ex,fx⟩:=y9 rx h1
   rcases hy with rfl | rfl
   ·obtain ⟨a,vs,rfl,ha,rs⟩:=ry.tup
    obtain ⟨e2,f2⟩:=i9 rs h2
    subst e2
    exact ⟨a,_,rfl,.inr (SqT.of (s _ _ ha)),fx,f2,by rw [ex]; exact fin⟩
   ·obtain ⟨a,vs,rfl,ha,rs⟩:=OB.lst s ry
    obtain ⟨e2,f2⟩:=i9 rs h2
    subst e2
    exact ⟨a,_,rfl,.inl (SqL.of ha),fx,f2,by rw [ex]; exact fin⟩
def ixD (x y:D):Option D:=match x,y with
 | .lst xs,.int i=>atI xs i
 | .tup xs,.int i=>atI xs i
 | .str z,.int i=>if z.length≤sizeLine then (atI z.cps.toList i).map fun c=>.str ⟨#[c]⟩ else none
 | .scr ns,.int i=>(atI ns i).map D.int
 | _,_=>none
theorem Reps.atI {F:Hp}{vs:List V}{ds:List D} (r:Reps F vs ds) {i:Int}{d:D} (h:L2.atI ds i=some d):∃ v,L2.atI vs i=some v∧Rep F v d:=by
 unfold L2.atI at h ⊢
 rw [r.length]
 cases hx:ixN ds.length i with
 | none=>rw [hx] at h; cases h
 | some j=>rw [hx] at h; exact r.get h
theorem B7 {K:PySem.W.Frag}:fV .V (rIx K) ixD:=fun F H v w x y d Q s rx ry h q=>by
 cases y with
 | int i =>
  cases ry.int
  cases x with
  | lst xs =>
   obtain ⟨a,vs,rfl,ha,rs⟩:=OB.lst s rx
   obtain ⟨u,hu,ru⟩:=rs.atI (show atI xs i=some d from h)
   exact .inl ⟨a,vs,i,u,rfl,rfl,SqL.of ha,hu,q u F H (Ext.refl s) ru⟩
  | tup xs =>
   obtain ⟨a,vs,rfl,ha,rs⟩:=rx.tup
   obtain ⟨u,hu,ru⟩:=rs.atI (show atI xs i=some d from h)
   exact .inr (.inl ⟨a,vs,i,u,rfl,rfl,SqT.of (s _ _ ha),hu,q u F H (Ext.refl s) ru⟩)
  | str z =>
   cases rx.str
   have h':(if z.length≤sizeLine then (atI z.cps.toList i).map (fun c=>D.str ⟨#[c]⟩) else none)=some d:=h
   split at h'
   ·rename_i hz
    cases hc:atI z.cps.toList i with
    | none=>rw [hc] at h'; cases h'
    | some c =>
     rw [hc] at h'
     cases h'
     exact .inr (.inr ⟨z,i,c,rfl,rfl,hz,hc,q _ F H (Ext.refl s) (.str _)⟩)
   ·cases h'
  | scr ns =>
   obtain ⟨a,o,rfl,ha⟩:=rx.scr
   have h':(atI ns i).map D.int=some d:=h
   cases hc:atI ns i with
   | none=>rw [hc] at h'; cases h'
   | some c =>
    rw [hc] at h'
    cases h'
    refine .inl ⟨a,_,i,.int c,rfl,rfl,.inl (.inr ⟨o,s _ _ ha⟩),?_,q _ F H (Ext.refl s) (.int _)⟩
    unfold atI at hc ⊢
    rw [DP]
    cases hx:ixN ns.length i with
    | none=>rw [hx] at hc; cases hc
    | some j =>
     rw [hx] at hc
     show (ns.map V.int)[j]? = _
     have hc':ns[j]? = some c:=hc
     rw [DX,hc']; rfl
  | _=>cases h
 | _=>cases x <;> cases h
def cY {α:Type} (xs:List α) (lo hi:Option Int):List α:=(xs.drop (HT.sIx xs.length 0 lo)).take (HT.sIx xs.length xs.length hi - HT.sIx xs.length 0 lo)
def noP (_:DE):Option (Option Int):=some none
def be (f:DE→Option D) (E:DE):Option (Option Int):=(f E).bind fun d=>match d with
 | .int i=>some (some i)
 | _=>none
def tP (f:DE→Option (Option Int)):TO:=fun σ H Q=>∃ B F E o,Ok B F H σ E∧f E=some o∧∀ F' H',Ext F H F' H'→Q o H'
structure Ep (X:Cx) (e:Option Expr) (f:DE→Option (Option Int)):Prop where
 h:PO X e (tP f)
theorem PO.by {X:Cx}{e:Option Expr}{t:TO}{f:DE→Option (Option Int)} (h:PO X e t) (w:∀ σ H Q,tP f σ H Q→t σ H Q):Ep X e f:=⟨fun pins s σ H Q I q=>h pins s σ H Q I (w σ H Q q)⟩
theorem fu {X:Cx}:Ep X none noP:=PO.by yq fun σ H Q ⟨B,F,E,o,k,q,w⟩=>by cases q; exact w F H (Ext.refl k.sub)
theorem ck {X:Cx}{e:Expr}{f:DE→Option D} (h:Ev X .V e f):Ep X (some e) (be f):=PO.by (yp h.h) fun σ H Q zz99_0=>by
 obtain ⟨B,F,E,o,k,q,w⟩:=zz99_0
 unfold be at q
 cases hf:f E with
 | none=>simp [hf] at q
 | some d =>
  rw [hf] at q
  cases d with
  | int i =>
   cases q
   exact ⟨B,F,E,_,k,hf,fun v F' H' x r=>⟨i,by cases r; rfl,w F' H' x⟩⟩
  | _=>cases q
def slD (x:D) (lo hi:Option Int):Option D:=match x with
 | .lst xs=>some (.lst (cY xs lo hi))
 | .scr ns=>some (.lst ((cY ns lo hi).map D.int))
 | .tup xs=>some (.tup (cY xs lo hi))
 | .str z=>if z.length≤sizeLine then some (.str (Txt.slice z lo hi)) else none
 | _=>none
def aY (f:DE→Option D) (l h:DE→Option (Option Int)) (E:DE):Option D:=(f E).bind fun x=>(l E).bind fun lo=>(h E).bind fun hi=>slD x lo hi
theorem xq {α β:Type} (g:α→β) (xs:List α) (lo hi:Option Int):cY (xs.map g) lo hi=(cY xs lo hi).map g:=by
 unfold cY
 rw [DP,FH,FV]
theorem qj {X:Cx}:SlR X (fun x lo hi H Q=>∃ a xs,x=.ref a∧SqT X.K H a xs∧(HT.sIx xs.length 0 lo=0∧HT.sIx xs.length xs.length hi=xs.length)∧Q (.ref a) H):=by
 intro pins s σ H x v vl vu lo hi sl Q I rx hs pl pu h
 obtain ⟨a,xs,rfl,hx,⟨hw1,hw2⟩,q⟩:=h
 cases rx
 obtain ⟨its,r,ht,hz⟩:=I.tuple hx
 have hlen:its.toArray.size=xs.length:=by rw [DV]; exact r.length.symm
 refine ⟨"tuple",_,PyProof.Rows.slot_tuple_getitem.lookup,ht.typeIs,?_⟩
 obtain ⟨os,hos,hcs,hds⟩:=id hs
 have hTs:s.TypeIs (.ref sl) "slice" := ⟨os,hos,hcs⟩
 unfold getItem
 try with_reducible refine E9 ?_
 first | refine DO (DT ?_) | skip
 refine DO (wpAny_sequenceKey ht.typeIs (by decide) ?_)
 refine DO (Fl (name:=Str.ofString "__getitem__") ht.typeIs Fa (Fm Fa ht.typeIs entry_tuple_getitem ?_ (args_tuple_getitem _ _)))
 show wpAny _ _ (Builtin.Tuple.tupleItemsOf (.ref a) >>= _) _ _ s
 refine DO (tupleItemsOf_ ht ?_)
 refine DO (FK hTs ?_)
 rw [if_pos (by decide)]
 refine DO (HT.sliceApplied_gen hs pl pu ?_)
 rw [hlen,hw1,hw2]
 dsimp only
 rw [if_pos (by simp)]
 refine DO (m:=Builtin.Tuple.tupleIsExact (.ref a)) ?_
 unfold Builtin.Tuple.tupleIsExact
 refine DO (FK ht.typeIs (DT ?_))
 rw [if_pos (by decide)]
 exact DO (G1 (DT ⟨_,rfl,DT ⟨.ref a,H,I,rfl,q⟩⟩))
end L2.Cu
namespace L2
open PySem PySem.Spec PyProof.Rows
theorem we {X:Cx}:OpR X (binaryOp .Add) (fun x y H Q=>∃ a b ys,x=.ref a∧y=.ref b∧SqT X.K H a []∧SqT X.K H b ys∧Q (.ref b) H):=by
 intro pins s σ H x y v u Q I rx ry h
 obtain ⟨a,b,ys,rfl,rfl,ha,hb,q⟩:=h
 cases rx
 cases ry
 obtain ⟨its,r1,p1,_⟩:=I.tuple ha
 obtain ⟨its2,r2,p2,_⟩:=I.tuple hb
 have e0:its=[]:=r1.nil_iff.mpr rfl
 subst e0
 obtain ⟨⟨cls,dd,data,sl⟩,ho,hc,n,hd⟩:=id p1
 obtain ⟨⟨cls2,dd2,data2,sl2⟩,ho2,hc2,n2,hd2⟩:=id p2
 simp only at hc hd hc2 hd2
 subst hc hd hc2 hd2
 exact concat_meets ⟨_,ho,rfl⟩ ⟨_,ho2,rfl⟩ noFill_tuple_add seq_tuple_add Gv Gj (Gc _ _)
  (tuple_addW0 a b [].toArray its2.toArray n n2 dd dd2 sl sl2 (by simp)) ⟨ho,ho2,⟨.ref b,H,I,rfl,q⟩⟩
end L2
namespace L2.Cu
open PySem PySem.Spec PyProof.Rows
section
variable {X:Cx}{a b e:Expr}{pos p2:Pos}{f g:DE→Option D}
def aM (x y:D):Option D:=match x,y with
 | .int i,.int j=>some (.int (i + j))
 | .str i,.str j=>if i.length + j.length≤sizeLine then some (.str (i ++ j)) else none
 | .tup i,.tup j=>if i.length + j.length≤sizeLine then some (.tup (i ++ j)) else none
 | .lst i,.lst j=>if i.length + j.length≤sizeLine then some (.lst (i ++ j)) else none
 | _,_=>none
def zJ (K:PySem.W.Frag):R2:=fun x y H Q=>(((rI0 fun i j=>.int (i + j)) x y H Q∨∃ i j,x=.str i∧y=.str j∧i.length + j.length≤sizeLine∧Q (.str (i ++ j)) H)∨(zI K x y H Q∨∃ a b ys,x=.ref a∧y=.ref b∧SqT K H a []∧SqT K H b ys∧Q (.ref b) H))∨Ch x y H Q
theorem yF:OpR X (binaryOp .Add) (zJ X.K):=OpR.or (OpR.or (OpR.or AZ qC) (OpR.or yE we)) AY
theorem Av {K:PySem.W.Frag}:fV .V (zJ K) aM:=fun F H v w x y d Q s rx ry h q=>by
 match x,y,h with
 | .int i,.int j,h =>
  cases DR h
  exact .inl (.inl (.inl ⟨i,j,rx.int,ry.int,q _ F H (Ext.refl s) (.int _)⟩))
 | .str i,.str j,h =>
  have h':(if i.length + j.length≤sizeLine then some (D.str (i ++ j)) else none)=some d:=h
  split at h'
  ·rename_i hz
   cases DR h'
   exact .inl (.inl (.inr ⟨i,j,rx.str,ry.str,hz,q _ F H (Ext.refl s) (.str _)⟩))
  ·cases h'
 | .tup i,.tup j,h =>
  have h':(if i.length + j.length≤sizeLine then some (D.tup (i ++ j)) else none)=some d:=h
  split at h'
  ·rename_i hz
   cases DR h'
   obtain ⟨p,vs,rfl,hp,rp⟩:=rx.tup
   obtain ⟨r,ws,rfl,hr,rr⟩:=ry.tup
   by_cases he:vs=[]
   ·subst he
    cases rp
    exact .inl (.inr (.inr ⟨p,r,ws,rfl,rfl,SqT.of (s _ _ hp),SqT.of (s _ _ hr),q _ F H (Ext.refl s) (.tup hr rr)⟩))
   ·refine .inl (.inr (.inl ⟨p,r,vs,ws,rfl,rfl,SqT.of (s _ _ hp),SqT.of (s _ _ hr),he,by rw [rp.length,rr.length]; exact hz,fun hw=>?_,fun _ c hc=>?_⟩))
    ·subst hw
     cases rr
     exact q _ F H (Ext.refl s) (.tup hp (by rw [Ez]; exact rp))
    ·have x2:=Ext.freeze (o:=HO.tup (vs ++ ws)) s hc
     exact q _ _ _ x2 (.tup aD ((rp.append rr).mono x2.fr))
  ·cases h'
 | .lst i,.lst j,h =>
  have h':(if i.length + j.length≤sizeLine then some (D.lst (i ++ j)) else none)=some d:=h
  split at h'
  ·rename_i hz
   cases DR h'
   obtain ⟨p,vs,rfl,hp,rp⟩:=OB.lst s rx
   obtain ⟨r,ws,rfl,hr,rr⟩:=OB.lst s ry
   refine .inr ⟨p,r,vs,ws,rfl,rfl,hp,hr,by rw [rp.length,rr.length]; exact hz,fun c hc=>?_⟩
   have x2:=Ext.freeze (o:=HO.lst (vs ++ ws)) s hc
   exact q _ _ _ x2 (.lst aD ((rp.append rr).mono x2.fr))
  ·cases h'
theorem aJ (ha:Ev X .O a f) (hb:Ev X .O b g):Ev X .V (.BinOp a .Add b pos) (bin aM f g):=il yF Av ha hb
theorem sy (hr:X.A.units + 64 < cLine) (ha:Ev X .O a f) (hb:Ev X .O b g):Ev X .V (.Compare a [.Eq] [b] pos) (bin eqO f g):=Bo (OpR.or zL l5) (vN _ hr) ha hb (f_ _)
theorem fS (hr:X.A.units + 64 < cLine) (ha:Ev X .O a f) (hb:Ev X .O b g):Et X (.Compare a [.Eq] [b] pos) (tst (bin eqO f g)):=jd (OpR.or zL l5) (vN _ hr) ha hb (f_ _)
theorem pG (hr:X.A.units + 64 < cLine) (ha:Ev X .O a f) (hb:Ev X .O b g):Et X (.Compare a [.NotEq] [b] pos) (tst (bin neO f g)):=jd (OpR.or Cq t8) (Ap _ hr) ha hb (f_ _)
theorem iQ (ha:Ev X .O a f) (hb:Ev X .O b g):Et X (.Compare a [.Lt] [b] pos) (tst (bin ltD f g)):=jd AV B5 ha hb (f_ _)
theorem sC (ha:Ev X .O a f) (hb:Ev X .O b g):Et X (.Compare a [.Gt] [b] pos) (tst (bin gtD f g)):=jd Ct B8 ha hb (f_ _)
def Dd (K:PySem.W.Frag):V→Option Int→Option Int→Hp→VK→Prop:=fun x lo hi H Q=>(Cb K x lo hi H Q∨∃ z,x=.str z∧z.length≤sizeLine∧Q (.str (Txt.slice z lo hi)) H) ∨
 (Ca K x lo hi H Q∨∃ a xs,x=.ref a∧SqT K H a xs∧(HT.sIx xs.length 0 lo=0∧HT.sIx xs.length xs.length hi=xs.length)∧Q (.ref a) H)
theorem Ae:SlR X (Dd X.K):=SlR.or (SlR.or xW Ad) (SlR.or Ac qj)
theorem Reps.cut {F:Hp}{vs:List V}{ds:List D} (r:Reps F vs ds) (lo hi:Option Int):Reps F (jC vs lo hi) (cY ds lo hi):=by
 unfold jC cY
 rw [r.length]
 exact (r.drop _).take _
theorem cI {lo hi:Option Expr}{l h:DE→Option (Option Int)} (ha:Ev X .O e f) (hl:Ep X lo l) (hh:Ep X hi h):Ev X .V (.Subscript e (.Slice lo hi none p2) pos) (aY f l h):=PE.by (v8 Ae ha.h hl.h hh.h) fun σ H Q zz100_0=>by
 obtain ⟨B,F,E,d,k,q,w⟩:=zz100_0
 unfold aY at q
 cases h1:f E with
 | none=>simp [h1] at q
 | some x =>
  cases h2:l E with
  | none=>simp [h1,h2] at q
  | some lo =>
   cases h3:h E with
   | none=>simp [h1,h2,h3] at q
   | some hi =>
    simp only [h1,h2,h3,DA] at q
    refine ⟨B,F,E,x,k,h1,fun v F1 H1 x1 r1=>⟨B,F1,E,lo,k.ext x1,h2,fun F2 H2 x2=>⟨B,F2,E,hi,(k.ext x1).ext x2,h3,fun F3 H3 x3=>?_⟩⟩⟩
    have x13:=(x1.trans x2).trans x3
    have r3:OB F3 H3 v x:=OB.ext (x2.trans x3) r1
    have s:=x3.sub
    cases x with
    | lst xs =>
     cases DR q
     obtain ⟨p,vs,rfl,hp,rp⟩:=OB.lst s r3
     refine .inl (.inl ⟨p,vs,rfl,SqL.of hp,fun c hc=>?_⟩)
     have x4:=Ext.freeze (o:=HO.lst (jC vs lo hi)) s hc
     exact w _ _ _ (x13.trans x4) (.lst aD ((rp.cut lo hi).mono x4.fr))
    | scr ns =>
     cases DR q
     obtain ⟨p,o,rfl,hp⟩:=r3.scr
     refine .inl (.inl ⟨p,_,rfl,.inl (.inr ⟨o,s _ _ hp⟩),fun c hc=>?_⟩)
     have x4:=Ext.freeze (o:=HO.lst (jC (ns.map V.int) lo hi)) s hc
     refine w _ _ _ (x13.trans x4) (.lst aD ?_)
     have e1:jC (ns.map V.int) lo hi=(cY ns lo hi).map V.int:=xq V.int ns lo hi
     rw [e1]
     exact Reps.ints _
    | tup xs =>
     cases DR q
     obtain ⟨p,vs,rfl,hp,rp⟩:=r3.tup
     by_cases hw:HT.sIx vs.length 0 lo=0∧HT.sIx vs.length vs.length hi=vs.length
     ·refine .inr (.inr ⟨p,vs,rfl,SqT.of (s _ _ hp),hw,?_⟩)
      refine w _ F3 H3 x13 ?_
      have:cY xs lo hi=xs:=by
       unfold cY
       rw [← rp.length,hw.1,hw.2,rp.length]
       simp
      rw [this]
      exact .tup hp rp
     ·refine .inr (.inl ⟨p,vs,rfl,SqT.of (s _ _ hp),hw,fun c hc=>?_⟩)
      have x4:=Ext.freeze (o:=HO.tup (jC vs lo hi)) s hc
      exact w _ _ _ (x13.trans x4) (.tup aD ((rp.cut lo hi).mono x4.fr))
    | str z =>
     have q':(if z.length≤sizeLine then some (D.str (Txt.slice z lo hi)) else none)=some d:=q
     split at q'
     ·rename_i hz
      cases DR q'
      exact .inl (.inr ⟨z,r3.str,hz,w _ F3 H3 x13 (.str _)⟩)
     ·cases q'
    | _=>cases q
def CB:D→Option D
 | .lst xs=>some (.int xs.length)
 | .tup xs=>some (.int xs.length)
 | .scr xs=>some (.int xs.length)
 | .str x=>if x.length≤sizeLine then some (.int x.length) else none
 | _=>none
theorem At {K:PySem.W.Frag}:jD .V (fun xs H Q=>∃ x n,xs=[x]∧BF K x H n∧Q (.int n) H) CB:=fun F H v x d Q s rx h q=>by
 match x,h with
 | .lst xs,h =>
  cases DR h
  obtain ⟨p,vs,rfl,hp,rp⟩:=OB.lst s rx
  exact ⟨_,xs.length,rfl,.inl ⟨vs,SqL.of hp,rp.length.symm⟩,q _ F H (Ext.refl s) (.int _)⟩
 | .tup xs,h =>
  cases DR h
  obtain ⟨p,vs,rfl,hp,rp⟩:=rx.tup
  exact ⟨_,xs.length,rfl,.inr ⟨vs,SqT.of (s _ _ hp),rp.length.symm⟩,q _ F H (Ext.refl s) (.int _)⟩
 | .scr ns,h =>
  cases DR h
  obtain ⟨p,o,rfl,hp⟩:=rx.scr
  exact ⟨_,ns.length,rfl,.inl ⟨_,.inl (.inr ⟨o,s _ _ hp⟩),by rw [DP]⟩,q _ F H (Ext.refl s) (.int _)⟩
 | .str z,h =>
  have h':(if z.length≤sizeLine then some (D.int z.length) else none)=some d:=h
  split at h'
  ·rename_i hz
   cases DR h'
   cases rx.str
   exact ⟨_,z.length,rfl,⟨hz,rfl⟩,q _ F H (Ext.refl s) (.int _)⟩
  ·cases h'
def tyN:D→String
 | .non => "NoneType" | .bl _ => "bool" | .int _ => "int" | .str _ => "str" | .tup _ => "tuple" | .lst _ => "list" | .dic _ => "dict" | .scr _ => "list"
def kG (t T:String):Bool:=t == T || (t == "bool" && T == "int")
def qQ (T:String):Bool:=T == "str" || T == "int" || T == "bool" || T == "tuple" || T == "list" || T == "dict"
theorem BL {K:PySem.W.Frag}{F H:Hp}{v:V}{d:D} (s:∀ a u,F a=some u→H a=some u) (r:OB F H v d):io K H v (.type (tyN d)):=by
 cases d with
 | non=>rw [r.non]; exact .non
 | bl b=>rw [r.bl]; exact .bl b
 | int i=>rw [r.int]; exact .int i
 | str x=>rw [r.str]; exact .str x
 | tup xs=>obtain ⟨p,vs,rfl,hp,_⟩:=r.tup; exact .tup (s _ _ hp)
 | lst xs=>obtain ⟨p,vs,rfl,hp,_⟩:=OB.lst s r; exact .lst hp
 | dic xs=>obtain ⟨p,vs,rfl,hp,_⟩:=OB.dic s r; exact hp.elim (fun h=>.dK h) fun zz101_0=>by obtain ⟨_,h⟩:=zz101_0; exact .frzD h
 | scr ns=>obtain ⟨p,o,rfl,hp⟩:=r.scr; exact .frz (s _ _ hp)
theorem yV (K:PySem.W.Frag) (d:D) {T:String} (h:qQ T=true):PySem.W.kitOne K (.type (tyN d)) (.type T)=some (kG (tyN d) T):=by
 have hT:T = "str"∨T = "int"∨T = "bool"∨T = "tuple"∨T = "list"∨T = "dict" := by simpa [qQ,or_assoc] using h
 rcases hT with rfl | rfl | rfl | rfl | rfl | rfl <;> cases d <;> rfl
def isF (T:String) (f:DE→Option D) (E:DE):Option D:=(f E).map fun d=>.bl (kG (tyN d) T)
theorem eL {p px:Pos}{x:Str}{T:String} (hT:qQ T=true) (hg:Gl X "isinstance") (hm:X.mg "isinstance" = none) (hv:bootBuiltins "isinstance" = some (.builtin "isinstance")) (hgx:Gl X x) (hmx:X.mg x=none) (hvx:bootBuiltins x=some (.type T))
  (ha:Ev X .O e f) (hn:x ≠ "__name__" := by decide) (hd:(x == ("__debug__" : Str))=false:=by decide) (he:aV e=true:=by rfl):Ev X .V (.Call (.Name "isinstance" p) [e,.Name x px] [] pos) (isF T f) :=
 PE.by (iA pU hg hm hv (di ha.h (di (rW hgx hmx hvx (v:=.ty T) rfl hn hd) fH (aF _ [] X.env rfl)) (aF e [.Name x px] X.env he)) (by decide) (by decide) (aF e [.Name x px] X.env he) (dQ pos X.env [.Name x px] rfl)) fun σ H Q zz102_0=>by
  obtain ⟨B,F,E,d,k,q,w⟩:=zz102_0
  unfold isF at q
  cases hf:f E with
  | none=>simp [hf] at q
  | some x =>
   simp only [hf,DC] at q
   cases q
   exact ⟨B,F,E,x,k,hf,fun v F' H' x1 r1=>⟨v,T,_,_,rfl,BL x1.sub r1,yV X.K x hT,w _ F' H' x1 (.bl _)⟩⟩
def bx:D→Option D
 | .lst xs=>some (.tup xs)
 | .tup xs=>some (.tup xs)
 | _=>none
theorem vL {K:PySem.W.Frag}:jD .V (fun xs H Q=>∃ p ys,xs=[.ref p]∧((SqL K H p ys∧∀ l,H l=none→Q (.ref l) (upd H l (.tup ys)))∨(SqT K H p ys∧Q (.ref p) H))) bx:=fun F H v x d Q s rx h q=>by
 match x,h with
 | .lst xs,h =>
  cases DR h
  obtain ⟨p,vs,rfl,hp,rp⟩:=OB.lst s rx
  refine ⟨p,vs,rfl,.inl ⟨SqL.of hp,fun c hc=>?_⟩⟩
  have x4:=Ext.freeze (o:=HO.tup vs) s hc
  exact q _ _ _ x4 (.tup aD (rp.mono x4.fr))
 | .tup xs,h =>
  cases DR h
  obtain ⟨p,vs,rfl,hp,rp⟩:=rx.tup
  exact ⟨p,vs,rfl,.inr ⟨SqT.of (s _ _ hp),q _ F H (Ext.refl s) (.tup hp rp)⟩⟩
theorem cH {p:Pos} (hg:Gl X "tuple") (hm:X.mg "tuple" = none) (hv:bootBuiltins "tuple" = some (.type "tuple")) (ha:Ev X .O e f) (he:aV e=true:=by rfl):Ev X .V (.Call (.Name "tuple" p) [e] [] pos) (un bx f) :=
 w6 lI vL hg hm hv ha (by decide) (by decide) he
end
theorem uU {js:List Nat}{fi:DE→Option (List D)} {gf:D→DE→Option DE}{cf:DE→Option Bool}{ef:DE→Option D}:∀ E d,aE js fi gf cf ef E=some d→∃ xs,d=.lst xs:=fun E d h=>by
 unfold aE at h
 cases h1:fi E with
 | none=>rw [h1] at h; cases h
 | some xs =>
  rw [h1] at h
  have h':(if xs.length≤sizeLine then (bw gf cf ef (aX js E) xs).map D.lst else none)=some d:=h
  split at h'
  ·cases h2:bw gf cf ef (aX js E) xs with
   | none=>rw [h2] at h'; cases h'
   | some ys=>rw [h2] at h'; cases h'; exact ⟨_,rfl⟩
  ·cases h'
theorem wW {f:DE→Option D} (hl:∀ E d,f E=some d→∃ xs,d=.lst xs) (σ:St) (H:Hp) (Q:VK) (h:tM .V f σ H Q):tM .F f σ H Q:=by
 obtain ⟨B,F,E,d,k,q,w⟩:=h
 refine ⟨B,F,E,d,k,q,fun v F' H' x r=>?_⟩
 obtain ⟨p,o,h1,h2,h3,h4,h5⟩:=r
 have up:∀ c u,F' c=some u→(upd F' p o) c=some u:=fun c u z=>by rw [av (fun y=>by rw [y,h4] at z; cases z)]; exact z
 subst h1
 obtain ⟨xs,rfl⟩:=hl E d q
 have hfz:fzO default o=o:=by
  cases o <;> first | rfl | exact False.elim h5
 refine w _ (upd F' p o) H' ⟨x.same,fun c u z=>up c u (x.fr c u z),fun c u z=>?_,fun c z n=>?_⟩ ((h5.mono up).rep (ob:=default) (by rw [hfz]; exact aD))
 ·by_cases hc:c=p
  ·subst hc; rw [aD] at z; cases z; exact h3
  ·rw [av hc] at z; exact x.sub c u z
 ·have hc:c ≠ p:=fun y=>n (by rw [y]; exact h2)
  rw [av hc]; exact x.new c z n
theorem pH {X:Cx}{scope:Scope}{js:List Nat}{elt tg iter:Expr}{ifs:List Expr}{pos:Pos}{fi:DE→Option (List D)} {gf:D→DE→Option DE}{cf:DE→Option Bool}{ef:DE→Option D}{i:Nat}{x:Str}{px:Pos}{spos:Pos} (hN:X.N.Nodup) (hix:X.N[i]? = some x) (hx:Loc X.env.scope x) (b:Blk X scope js) (hc:X.calm=true) (hI:Ei X tg iter fi) (hj:jj js gf)
  (hg:∀ C fp s0 H0,Eg (cB X scope C fp s0 H0) tg gf) (hi:∀ C fp s0 H0,xI (cB X scope C fp s0 H0) ifs cf) (he:∀ C fp s0 H0,Ev (cB X scope C fp s0 H0) .V elt ef)
  (hsw:swapsWith (.ListComp elt [⟨tg,iter,ifs,0⟩] scope pos) (some (.Name x px)) spos.line X.env=pure true)
  (hfn:X.fn x=true∨X.env.scope.names.lookup x=some .local:=by first | exact .inl rfl | exact .inr rfl | assumption) (hs:∀ x,foldedSetIterable iter X.env x=pure x:=by intro _; rfl) :
  Es X (.Assign [.Name x px] (.ListComp elt [⟨tg,iter,ifs,0⟩] scope pos) spos) (az i (aE js fi gf cf ef)):=PS.by (rR hN hix hx b hc hI.h (fun C fp s0 H0=>(hg C fp s0 H0).h) (fun C fp s0 H0=>(hi C fp s0 H0).h) (fun C fp s0 H0=>(he C fp s0 H0).h) hsw hfn hs) fun Z σ H h=>jg hj σ H _ (wW uU σ H _ (oo Z σ H h))
def bV (n m:Nat) (b:DE→Option Out) (ds:List D):Option D:=if ds.length=n then (b (ds.map Sl.val ++ List.replicate (m - n) Sl.no)).bind fun r=>match r with
 | .rt d=>some d
 | .nx _=>some .non
 | _=>none
 else none
theorem oX {F H:Hp}{vs:List V}{ds:List D}{N:List Str} (s:∀ a o,F a=some o→H a=some o) (r:Reps F vs ds):Ok (F,H) F H (start N vs) (ds.map Sl.val ++ List.replicate (N.length - ds.length) Sl.no):=by
 have noown:∀ (i:Nat) d,(ds.map Sl.val ++ List.replicate (N.length - ds.length) Sl.no)[i]? = some (.own d)→False:=fun i d h=>by
  have:=EY h
  rcases List.mem_append.mp this with q | q
  ·obtain ⟨x,_,e⟩:=List.mem_map.mp q; cases e
  ·have:=(List.mem_replicate.mp q).2; cases this
 refine ⟨Ext.refl s,?_,fun i d h=>?_,fun i d h=>(noown i d h).elim,fun i j d e a _ h=>(noown i d h).elim,?_⟩
 ·unfold start
  rw [DZ,DZ,DP,DP,Fp,Fp,r.length]
 ·have hl:=r.length
  by_cases hi:i < ds.length
  ·rw [Fw (by simpa using hi),DX] at h
   cases hd:ds[i]? with
   | none=>rw [hd] at h; cases h
   | some d' =>
    rw [hd] at h
    cases h
    obtain ⟨v,h1,h2⟩:=r.get hd
    refine ⟨v,?_,h2⟩
    unfold start
    rw [Fw (by simpa [hl] using hi),DX,h1]; rfl
  ·rw [F0 (by simpa using hi)] at h
   have:=EY h
   have:=(List.mem_replicate.mp this).2
   cases this
 ·have no:∀ (i:Nat) z,(ds.map Sl.val ++ List.replicate (N.length - ds.length) Sl.no)[i]? = some z→(∃ d,z=.val d)∨z=.no:=fun i z h=>by
   rcases List.mem_append.mp (EY h) with q | q
   ·obtain ⟨x,_,e⟩:=List.mem_map.mp q; exact .inl ⟨x,e.symm⟩
   ·exact .inr (List.mem_replicate.mp q).2
  have n1:∀ (i:Nat) t,(ds.map Sl.val ++ List.replicate (N.length - ds.length) Sl.no)[i]? = some (.obj t)→False:=fun i t h=>by rcases no i _ h with ⟨d,e⟩ | e <;> cases e
  exact ⟨fun _=>[],fun i t h=>(n1 i t h).elim,fun i j t d b h=>(n1 i t h).elim,fun i j t u _ h=>(n1 i t h).elim,fun i t h=>by rcases no i _ h with ⟨d,e⟩ | e <;> cases e⟩
theorem fnD {P:Program}{w:World}{K:PySem.W.Frag}{mg:Str→Option Value}{base:Heap}{x qual:Str}{st:Stmt}{f:Addr}{fd:FuncData}{N ps:List Str}{k:Nat}{b:DE→Option Out} (Fn:Fun K x qual st f fd) (S:aP N ps (ai st))
  (hbody:∀ (cdv:Value) (A:Around) (outer:List Env) (s:Shared) (H:Hp) (E:XK),du k (A.deeper (envOfC qual (ai st) s.heap.objs.size f cdv)) →
   Ess (jB CX0 P w K mg base N qual (ai st) f cdv A outer s H E).nox (eB st) b):bD P w K mg base CX0 (k + 1) f fd ps (spD ps.length (bV ps.length N.length b)):=by
 refine Fn.ok S (fun vs H Q E h=>?_) (fun cdv A outer s H vs Q E hr h=>?_)
 ·obtain ⟨F,ds,d,_,r,hl,_⟩:=h
  rw [r.length,hl]
 ·obtain ⟨F,ds,d,hs,r,hl,hg,q⟩:=h
  refine ⟨_,(hbody cdv A outer s H E hr).h,?_⟩
  unfold bV at hg
  rw [if_pos hl] at hg
  cases hb:b (ds.map Sl.val ++ List.replicate (N.length - ps.length) Sl.no) with
  | none=>rw [hb] at hg; cases hg
  | some rr =>
   rw [hb] at hg
   have k0:=oX (N:=N) hs r
   rw [hl] at k0
   refine ⟨(F,H),F,_,rr,k0,hb,?_⟩
   cases rr with
   | rt d'=>cases hg; exact fun v F' H' x r'=>q v F' H' x r'
   | nx E'=>cases hg; exact fun σ' F' H' k' _=>q .non F' H' k'.ent .non
   | bk E'=>cases hg
   | ct E'=>cases hg
open PySem.W in
theorem zw {ns:List Int} (h:WData.layableAll [WData.list (ns.map WData.int)]=true):∀ n ∈ ns,Builtin.Int.intBits n≤2 ^ 20:=by
 have h1:(WData.list (ns.map WData.int)).layable=true:=by
  have:=h
  simp only [WData.layableAll,E_,List.all_nil,GW] at this
  exact this
 intro n hn
 have h2:=layableW_item h1 (WData.int n) (List.mem_map.mpr ⟨n,hn,rfl⟩)
 have h3:=(layableW_iff.mp h2).2.2
 exact h3
def nq (K:PySem.W.Frag):Bool:=K.all fun p => !(p.2.cls == Value.type "list")
theorem o7 {K:PySem.W.Frag} (h:nq K=true) {a:Addr}{o:Obj} (e:K.lookup a=some o):o.cls ≠ Value.type "list" := by
 intro hc
 have hm:(a,o) ∈ K:=by
  clear h
  induction K with
  | nil=>cases e
  | cons p r ih =>
   obtain ⟨b,u⟩:=p
   rw [EI] at e
   cases hb:a == b with
   | true =>
    rw [hb] at e
    have e1:a=b:=by simpa using hb
    have e2:u=o:=by simpa using e
    rw [e1,e2]; exact DW
   | false=>rw [hb] at e; exact DS _ (ih e)
 have:=List.all_eq_true.mp h (a,o) hm
 rw [hc] at this
 simp at this
theorem A2 {K:PySem.W.Frag}{H:Hp}{a:Addr}{ns:List Int}{g:List D→Option D} (hK:∀ o,K.lookup a=some o→o.cls ≠ Value.type "list") (hS:SqL K H a (ns.map V.int)) (hO:BD H) (law:g [.scr ns]=some (.bl true)) :
  spD 1 g [.ref a] H (fun v _=>v=.bl true) fun _ _ _=>False:=by
 rcases hS with hS | ⟨o,its,n,hl,hc,_⟩
 ·have e:∃ o,H a=some (.frz o (.lst (ns.map V.int))):=by
   rcases hS with hS | hS
   ·rcases hO a with z | ⟨o,xs,z⟩
    ·rw [hS] at z; cases z
    ·rw [hS] at z; cases z
   ·exact hS
  obtain ⟨o,e⟩:=e
  refine ⟨H,[.scr ns],.bl true,fun _ _ q=>q,.cons (.scr e) .nil,rfl,law,fun v F' H' x r=>?_⟩
  cases r
  rfl
 ·exact absurd hc (hK o hl)
section
variable {X:Cx}{a b e:Expr}{pos:Pos}{f g:DE→Option D}
def ij:D→Option Key
 | .int i=>some (.inl (some i))
 | .non=>some (.inl none)
 | .str x=>some (.inr x)
 | _=>none
theorem iH {F H:Hp}{v:V}{d:D}{k:Key} (h:ij d=some k) (r:OB F H v d):v=kV k:=by
 match d,h with
 | .int i,h=>cases h; rw [r.int]; rfl
 | .non,h=>cases h; rw [r.non]; rfl
 | .str x,h=>cases h; rw [r.str]; rfl
def uP (_:DE):Option D:=some (.dic [])
theorem sA:Ev X .F (.Dict [] [] pos) uP:=PE.by v_ fun σ H Q zz103_0=>by
 obtain ⟨B,F,E,d,k,q,w⟩:=zz103_0
 cases q
 intro p hp
 exact w _ F _ (Ext.lay k.sub hp) ⟨p,_,rfl,hp,aD,nofr k.sub hp,RepK.nil⟩
end
theorem fnG {P:Program}{w:World}{K:PySem.W.Frag}{mg:Str→Option Value}{base:Heap}{x qual:Str}{st:Stmt}{f:Addr}{fd:FuncData}{N ps:List Str}{k k1 n m:Nat}{b:DE→Option Out}{g:List D→Option D} (Fn:Fun K x qual st f fd) (S:aP N ps (ai st))
  (hn:ps.length=n) (hm:N.length=m) (hk:k + 1=k1) (hg:g=bV n m b)
  (hbody:∀ (cdv:Value) (A:Around) (outer:List Env) (s:Shared) (H:Hp) (E:XK),du k (A.deeper (envOfC qual (ai st) s.heap.objs.size f cdv)) →
   Ess (jB CX0 P w K mg base N qual (ai st) f cdv A outer s H E).nox (eB st) b):bD P w K mg base CX0 k1 f fd ps (spD n g):=by
 subst hn hm hk hg
 exact fnD Fn S hbody
section
variable {X:Cx}
theorem aA (i:Nat) {x:Str}{pos:Pos} (hN:X.N[i]? = some x:=by rfl) (hv:Vis X.env.scope x:=by first | exact Or.inl rfl | exact Or.inr (Or.inl rfl) | exact Or.inr (Or.inr rfl)) (hd:(x == ("__debug__" : Str))=false:=by decide)
  (hcd:(x == ("__classdict__" : Str))=false:=by decide):Ev X .V (.Name x pos) (var i):=Bj i (kc hN hv hd hcd)
theorem ak (i:Nat) {x:Str}{pos:Pos} (hN:X.N[i]? = some x:=by rfl) (hv:Vis X.env.scope x:=by first | exact Or.inl rfl | exact Or.inr (Or.inl rfl) | exact Or.inr (Or.inr rfl)) (hd:(x == ("__debug__" : Str))=false:=by decide)
  (hcd:(x == ("__classdict__" : Str))=false:=by decide):Ev X .O (.Name x pos) (aa i):=ze i (kc hN hv hd hcd)
end
section
variable {X:Cx}{a b e:Expr}{pos apos cpos spos:Pos}{f g:DE→Option D}
theorem vG {α:Type}{l:List α}{i:Nat}{x:α} (h:l[i]? = some x):l.set i x=l:=by
 obtain ⟨hi,rfl⟩:=List.getElem?_eq_some_iff.mp h
 exact List.set_getElem_self hi
theorem Ok.rewrite {B:Hp×Hp}{F H:Hp} {σ:St}{E:DE} (k:Ok B F H σ E) {i:Nat}{d d':D}{p:Addr}{o':HO} (h:E[i]? = some (.own d)) (hs:σ[i]? = some (some (.ref p))) (r:gq F o' d'):Ok B F (upd H p o') σ (E.set i (.own d')):=by
 obtain ⟨q,o,h1,h2,h3,h4,h5⟩:=k.own i d h
 have e:p=q:=by rw [hs] at h1; cases h1; rfl
 subst e
 have z:=k.put_own i h3 h4 r (fun j e' hj he hq=>k.sep j i e' d p hj he h hq hs) (let ⟨fp,m⟩:=k.ob; ⟨fp,m,fun j t hb=>m.sep j i t d p hb h hs⟩)
 rwa [vG hs] at z
def cm (i:Nat) (f:DE→Option D) (E:DE):Option Out:=match E[i]? with
 | some (.own (.lst ds))=>(f E).bind fun d=>if ds.length < sizeLine then some (.nx (E.set i (.own (.lst (ds ++ [d]))))) else none
 | _=>none
theorem m_ {B:Hp×Hp}{F H:Hp} {σ:St}{E:DE} (k:Ok B F H σ E) {i:Nat}{ds:List D} (h:E[i]? = some (.own (.lst ds))):∃ p vs,σ[i]? = some (some (.ref p))∧H p=some (.lst vs)∧F p=none∧Reps F vs ds:=by
 obtain ⟨q,o,h1,h2,h3,h4,h5⟩:=k.own i _ h
 cases o with
 | lst vs=>exact ⟨q,vs,h1,h2,h3,h5⟩
 | _=>exact False.elim h5
theorem yA {B:Hp×Hp}{F H:Hp} {σ:St}{E:DE} (k:Ok B F H σ E) {i:Nat}{ds:List (Key×D)} (h:E[i]? = some (.own (.dic ds))):∃ p vs,σ[i]? = some (some (.ref p))∧H p=some (.dK vs)∧F p=none∧RepK F vs ds:=by
 obtain ⟨q,o,h1,h2,h3,h4,h5⟩:=k.own i _ h
 cases o with
 | dK vs=>exact ⟨q,vs,h1,h2,h3,h5⟩
 | _=>exact False.elim h5
theorem b5 {i:Nat}{o:Expr} (ho:PE X o (jT i)) (he:Ev X .V e f) (hbase:attributeBase o "append" X.env (eval o X.env)=eval o X.env:=by rfl)
  (hfew:((backTo cpos (starEach [e] X.env)).all (fun x => !x.1) && (backToKw cpos (keywordEach [] X.env)).all (fun x=>x.1.isSome) && decide (([e]:List Expr).length + ([]:List Keyword).length + (if ([]:List Keyword).isEmpty then 0 else 1) < 30))=true:=by rfl)
  (hline:(apos.endLine == cpos.line)=true:=by rfl) (hns:aV e=true:=by rfl) (hs:swapsWith (.Call (.Attribute o "append" apos) [e] [] cpos) none spos.line X.env=pure false:=by rfl) :
  Es X (.Expr (.Call (.Attribute o "append" apos) [e] [] cpos) spos) (cm i f) :=
 PS.by (rQ (rV Gi PySem.F.slot_list_append PySem.F.type_list_append l9 ho (di he.h fH (aF e [] X.env hns)) hbase hfew hline (aF e [] X.env hns) rfl) hs) fun Z σ H zz104_0=>by
  obtain ⟨B,F,E,r,k,q,w⟩:=zz104_0
  unfold cm at q
  split at q
  ·rename_i ds hd
   cases hf:f E with
   | none=>simp [hf] at q
   | some d =>
    simp only [hf,DA] at q
    split at q
    ·rename_i hz
     cases q
     obtain ⟨p,vs,h1,h2,h3,h4⟩:=m_ k hd
     refine ⟨.ref p,h1,.inl ⟨rfl,vs,SqL.of h2⟩,B,F,E,d,k,hf,fun v F' H' x rv=>⟨p,vs,v,rfl,rfl,x.same _ _ h2,by rw [h4.length]; exact hz,?_⟩⟩
     exact w σ F' _ ((k.ext x).rewrite hd h1 (o':=.lst (vs ++ [v])) ((h4.mono x.fr).append (.cons rv .nil))) x.fr
    ·cases q
  ·cases q
def zH (K:PySem.W.Frag):V→List V→Hp→VK→Prop:=fun x vs H Q=>∃ l b xs zs,x=.ref l∧vs=[.ref b]∧H l=some (.lst xs)∧(H b=some (.lst zs)∨SqT K H b zs)∧xs.length + zs.length≤sizeLine∧Q .non (upd H l (.lst (xs ++ zs)))
theorem qH:MtM X "list.extend" (zH X.K):=by
 intro pins s σ H x vs v us Q I rx rv h
 obtain ⟨l,b,xs,zs,rfl,rfl,hH,hB,hz,q⟩:=h
 rcases hB with hB | hB
 ·exact uk pins s σ H _ _ v us Q I rx rv ⟨l,b,xs,zs,rfl,rfl,hH,hB,hz,q⟩
 cases rx
 obtain ⟨u,rfl,ru⟩:=rv.one
 cases ru
 obtain ⟨z,its,n,r,hl,e⟩:=I.lstM hH
 obtain ⟨its2,r2,ht,hz2⟩:=I.tuple hB
 obtain ⟨o2,ho2,hc2,n2,hd2⟩:=id ht
 have hsz:its.toArray.size + its2.toArray.size≤sizeLine:=by rw [DV,DV,← r2.length]; omega
 have hlong:¬ (!its.toArray.isEmpty && Builtin.List.listTooLong (its.toArray.size + its2.toArray.size))=true:=by
  rw [o5 hsz,Fx]
  exact D4
 refine Fm F.slot_list_extend ⟨_,e,rfl⟩ F.entry_list_extend ?_ (F.args_list_extend_2 _ _)
 show wpAny _ _ (Builtin.List.listExtendWith (.ref l) (.ref b) .none) _ _ s
 unfold Builtin.List.listExtendWith
 refine DO (FK (T := "tuple") ⟨o2,ho2,hc2⟩ ?_)
 rw [if_pos (by rw [show (Value.type "tuple" == Value.type "tuple")=true from rfl]; simp)]
 refine DO (listItems_at ho2 hd2 ?_)
 refine DO (listItems_at e rfl ?_)
 rw [if_neg hlong]
 refine DO (listUpdate_at e rfl ?_ (by rw [DV]; omega) (by simp only [Array.size_append]; omega))
 refine DT ⟨_,rfl,?_⟩
 refine ⟨.non,_,I.lset (t':=s.toks) (its':=its ++ its2) hH e (by simp) (r.append r2) ?_,rfl,q⟩
 rw [DZ]
 omega
def gD:D→Option (List D)
 | .lst xs=>some xs
 | .tup xs=>some xs
 | _=>none
def lE (i:Nat) (f:DE→Option D) (E:DE):Option Out:=match E[i]? with
 | some (.own (.lst ds))=>(f E).bind fun d=>(gD d).bind fun es=>if ds.length + es.length≤sizeLine then some (.nx (E.set i (.own (.lst (ds ++ es))))) else none
 | _=>none
theorem je {i:Nat}{o:Expr} (ho:PE X o (jT i)) (he:Ev X .O e f) (hbase:attributeBase o "extend" X.env (eval o X.env)=eval o X.env:=by rfl)
  (hfew:((backTo cpos (starEach [e] X.env)).all (fun x => !x.1) && (backToKw cpos (keywordEach [] X.env)).all (fun x=>x.1.isSome) && decide (([e]:List Expr).length + ([]:List Keyword).length + (if ([]:List Keyword).isEmpty then 0 else 1) < 30))=true:=by rfl)
  (hline:(apos.endLine == cpos.line)=true:=by rfl) (hns:aV e=true:=by rfl) (hs:swapsWith (.Call (.Attribute o "extend" apos) [e] [] cpos) none spos.line X.env=pure false:=by rfl) :
  Es X (.Expr (.Call (.Attribute o "extend" apos) [e] [] cpos) spos) (lE i f) :=
 PS.by (rQ (rV Gi PySem.F.slot_list_extend PySem.F.type_list_extend qH ho (di he.h fH (aF e [] X.env hns)) hbase hfew hline (aF e [] X.env hns) rfl) hs) fun Z σ H zz105_0=>by
  obtain ⟨B,F,E,r,k,q,w⟩:=zz105_0
  unfold lE at q
  split at q
  ·rename_i ds hd
   cases hf:f E with
   | none=>simp [hf] at q
   | some d =>
    simp only [hf,DA] at q
    cases hq:gD d with
    | none=>simp [hq] at q
    | some es =>
    simp only [hq,DA] at q
    split at q
    ·rename_i hz
     cases q
     obtain ⟨p,vs,h1,h2,h3,h4⟩:=m_ k hd
     refine ⟨.ref p,h1,.inl ⟨rfl,vs,SqL.of h2⟩,B,F,E,d,k,hf,fun v F' H' x rv=>?_⟩
     have fin:∀ (c:Addr) (zs:List V),(H' c=some (.lst zs)∨SqT X.K H' c zs)→Reps F' zs es→zH X.K (.ref p) [.ref c] H' fun _ H1=>Z.nx σ H1:=fun c zs hc rz =>
      ⟨p,c,vs,zs,rfl,rfl,x.same _ _ h2,hc,by rw [h4.length,rz.length]; exact hz,w σ F' _ ((k.ext x).rewrite hd h1 (o':=.lst (vs ++ zs)) ((h4.mono x.fr).append rz)) x.fr⟩
     cases d with
     | lst xs =>
      cases hq
      obtain ⟨c,zs,rfl,hc,rz⟩:=OB.lst x.sub rv
      exact fin c zs (.inl hc) rz
     | tup xs =>
      cases hq
      obtain ⟨c,zs,rfl,hc,rz⟩:=OB.tup rv
      exact fin c zs (.inr (SqT.of (x.sub _ _ hc))) rz
     | _=>cases hq
    ·cases q
  ·cases q
def jh (i:Nat) (f:DE→Option D) (E:DE):Option Out:=match E[i]? with
 | some (.val (.int n))=>(f E).bind fun d=>match d with
  | .int m=>some (.nx (E.set i (.val (.int (n + m)))))
  | _=>none
 | _=>none
theorem q9 {i:Nat}{x:Str}{pos':Pos} (hN:X.N.Nodup) (hi:X.N[i]? = some x) (hx:Loc X.env.scope x) (he:Ev X .V e f) (hf:X.fn x=true∨X.env.scope.names.lookup x=some .local:=by first | exact .inl rfl | exact .inr rfl | assumption) :
  Es X (.AugAssign (.Name x pos') .Add e pos) (jh i f):=PS.by (vU hN hi hx he.h Bh hf) fun Z σ H zz106_0=>by
 obtain ⟨B,F,E,r,k,q,w⟩:=zz106_0
 unfold jh at q
 split at q
 ·rename_i n hn
  cases hf:f E with
  | none=>simp [hf] at q
  | some d =>
   rw [hf] at q
   cases d with
   | int m =>
    cases q
    obtain ⟨v,h1,h2⟩:=k.val i _ hn
    cases h2
    refine ⟨_,h1,B,F,E,.int m,k,hf,fun u F' H' x r=>?_⟩
    cases r
    exact ⟨n,m,rfl,rfl,w _ F' H' ((k.ext x).set_val (.int _) i) x.fr⟩
   | _=>cases q
 ·cases q
def dU (f:DE→Option D) (gf:D→DE→Option DE) (E:DE):Option Out:=(f E).bind fun d=>(gf d E).map Out.nx
theorem mv {tg:Expr}{gf:D→DE→Option DE} (he:Ev X .V e f) (hg:Eg X tg gf) (hs:swapsWithSole [tg] e pos.line X.env=pure false:=by rfl) (hw:swappedStores [tg] e X.env=pure none:=by rfl)
  (h1:(assignEach [tg] X.env).map (·.2)=[assign tg X.env]:=by rfl):Es X (.Assign [tg] e pos) (dU f gf):=PS.by (vV he.h hg.h hs hw h1) fun Z σ H zz107_0=>by
 obtain ⟨B,F,E,r,k,q,w⟩:=zz107_0
 unfold dU at q
 cases hf:f E with
 | none=>simp [hf] at q
 | some d =>
  simp only [hf,DA] at q
  cases hg:gf d E with
  | none=>simp [hg] at q
  | some E' =>
   simp only [hg,DC] at q
   cases q
   exact ⟨B,F,E,d,k,hf,fun v F1 H1 x1 r1=>⟨B,F1,E,d,E',k.ext x1,r1,hg,fun σ2 F2 H2 k2 x2=>w σ2 F2 H2 k2 fun a o e=>x2.fr a o (x1.fr a o e)⟩⟩
def fL (kvs:List (Key×D)) (k:Key):Option D:=(kvs.find? fun p=>decide (p.1=k)).map (·.2)
def kL (fo fk fe:DE→Option D) (E:DE):Option D:=(fo E).bind fun d=>match d with
 | .dic kvs=>(fk E).bind fun x=>(ij x).bind fun k=>(fe E).map fun y=>(fL kvs k).getD y
 | _=>none
theorem RepK.val {F:Hp}{k:Key}:∀ {vs:List (Key×V)} {ds:List (Key×D)},RepK F vs ds→(∀ d,fL ds k=some d→∃ v,fB vs k=some v∧Rep F v d)∧(fL ds k=none→fB vs k=none)
 | _,_,.nil=>⟨fun d h=>(by cases h),fun _=>rfl⟩
 | _,_,@RepK.cons _ k' v d vs ds r t=>by
  obtain ⟨h1,h2⟩:=RepK.val (k:=k) t
  by_cases e:k'=k
  ·have e1:fL ((k',d) :: ds) k=some d:=by simp [fL,e]
   have e2:fB ((k',v) :: vs) k=some v:=by simp [fB,e]
   refine ⟨fun d' h=>?_,fun h=>?_⟩
   ·rw [e1] at h; cases h; exact ⟨v,e2,r⟩
   ·rw [e1] at h; cases h
  ·have e1:fL ((k',d) :: ds) k=fL ds k:=by simp [fL,e]
   have e2:fB ((k',v) :: vs) k=fB vs k:=by simp [fB,e]
   rw [e1,e2]
   exact ⟨h1,h2⟩
theorem RepK.length {F:Hp}:∀ {vs:List (Key×V)} {ds:List (Key×D)},RepK F vs ds→vs.length=ds.length
 | _,_,.nil=>rfl
 | _,_,.cons _ t=>by simp [RepK.length t]
theorem nB (h:X.A.units + 64 < cLine):X.A.units + 1 < cLine:=by omega
theorem sx {o:Expr}{fo fk fe:DE→Option D} (hu:X.A.units + 64 < cLine) (ho:Ev X .O o fo) (ha:Ev X .V a fk) (hb:Ev X .V b fe) (hbase:attributeBase o "get" X.env (eval o X.env)=eval o X.env:=by rfl)
  (hfew:((backTo cpos (starEach [a,b] X.env)).all (fun x => !x.1) && (backToKw cpos (keywordEach [] X.env)).all (fun x=>x.1.isSome) && decide (([a,b]:List Expr).length + ([]:List Keyword).length + (if ([]:List Keyword).isEmpty then 0 else 1) < 30))=true:=by rfl)
  (hline:(apos.endLine == cpos.line)=true:=by rfl) (htr:backTo cpos (starEach [a,b] X.env)=[(false,eval a X.env),(false,eval b X.env)]:=by rfl):Ev X .V (.Call (.Attribute o "get" apos) [a,b] [] cpos) (kL fo fk fe) :=
 PE.by (wa (nB hu) ho.h ha.h hb.h ⟨hbase,hfew,hline,htr⟩) fun σ H Q zz108_0=>by
  obtain ⟨B,F,E,d,k,q,w⟩:=zz108_0
  unfold kL at q
  cases h1:fo E with
  | none=>simp [h1] at q
  | some dd =>
   rw [h1] at q
   cases dd with
   | dic kvs =>
    simp only [DA] at q
    cases h2:fk E with
    | none=>simp [h2] at q
    | some x =>
     cases h3:ij x with
     | none=>simp [h2,h3] at q
     | some ky =>
      cases h4:fe E with
      | none=>simp [h2,h3,h4] at q
      | some y =>
       simp only [h2,h3,h4,DA,DC] at q
       cases q
       refine ⟨B,F,E,_,k,h1,fun v F1 H1 x1 r1=>?_⟩
       obtain ⟨p,vs,rfl,hp,rk⟩:=OB.dic x1.sub r1
       refine ⟨p,rfl,.inl ⟨vs,hp⟩,B,F1,E,x,k.ext x1,h2,fun u F2 H2 x2 r2=>⟨B,F2,E,y,(k.ext x1).ext x2,h4,fun z F3 H3 x3 r3=>?_⟩⟩
       have e2:=iH (F:=F2) (H:=H2) h3 (.inl r2)
       have hp3:Rd H3 p (.dK vs):=qv x3.same (qv x2.same hp)
       refine ⟨fB vs ky,by rw [e2]; exact nM hp3,?_⟩
       have x13:=(x1.trans x2).trans x3
       obtain ⟨v1,v2⟩:=RepK.val (k:=ky) (rk.mono (x2.trans x3).fr)
       cases hv:fL kvs ky with
       | some d' =>
        obtain ⟨v',e',r'⟩:=v1 d' hv
        rw [e']
        rw [hv] at w
        exact w v' F3 H3 x13 r'
       | none =>
        rw [v2 hv]
        rw [hv] at w
        exact w z F3 H3 x13 r3
   | _=>cases q
def nz:D→Option D
 | .non=>some (.bl true)
 | _=>some (.bl false)
def cR:D→Option D
 | .non=>some (.bl false)
 | _=>some (.bl true)
theorem rN {F:Hp}{v:V}{d:D} (r:Rep F v d):nz d=some (.bl (decide (v=.non)))∧cR d=some (.bl (!decide (v=.non))):=by
 cases r <;> exact ⟨by simp [nz],by simp [cR]⟩
theorem wO (σ:St) (H:Hp) (Q:VK) (h:tM .V (un nz f) σ H Q):tOp (fun x y H Q=>y=.non∧Q (.bl (decide (x=.non))) H) (tM .V f) (tC .non) σ H Q:=by
 obtain ⟨B,F,E,d,k,q,w⟩:=h
 unfold un at q
 cases hf:f E with
 | none=>simp [hf] at q
 | some x =>
  simp only [hf,DA] at q
  refine ⟨B,F,E,x,k,hf,fun v F1 H1 x1 r1=>⟨rfl,?_⟩⟩
  rw [(rN r1).1] at q
  cases q
  exact w _ F1 H1 x1 (.bl _)
theorem pA (σ:St) (H:Hp) (Q:VK) (h:tM .V (un cR f) σ H Q):tOp (fun x y H Q=>y=.non∧Q (.bl (!decide (x=.non))) H) (tM .V f) (tC .non) σ H Q:=by
 obtain ⟨B,F,E,d,k,q,w⟩:=h
 unfold un at q
 cases hf:f E with
 | none=>simp [hf] at q
 | some x =>
  simp only [hf,DA] at q
  refine ⟨B,F,E,x,k,hf,fun v F1 H1 x1 r1=>⟨rfl,?_⟩⟩
  rw [(rN r1).2] at q
  cases q
  exact w _ F1 H1 x1 (.bl _)
theorem xa {j p} (h:Ev X .V e f):Et X (.Compare e [.Is] [.Constant .none j p] pos) (tst (un nz f)):=PT.by (jG AX h.h qz (f_ _)) fun σ H Q q=>wO σ H _ (gA σ H Q q)
theorem mr {j p} (h:Ev X .V e f):Et X (.Compare e [.IsNot] [.Constant .none j p] pos) (tst (un cR f)):=PT.by (jG yC h.h qz (f_ _)) fun σ H Q q=>pA σ H _ (gA σ H Q q)
def gm:List D→Option D
 | [.int i,.int j]=>some (.int (if j < i then j else i))
 | _=>none
theorem qJ {ds:List D}{d:D} (h:gm ds=some d):∃ i j,ds=[.int i,.int j]∧d=.int (if j < i then j else i):=by
 unfold gm at h
 split at h
 ·cases h
  exact ⟨_,_,rfl,rfl⟩
 ·cases h
theorem As:RdC .V (fun xs H Q=>∃ i j,xs=[V.int i,.int j]∧Q (.int (if j < i then j else i)) H) gm:=fun F H vs ds d Q s r h q=>by
 obtain ⟨i,j,rfl,rfl⟩:=qJ h
 obtain ⟨v1,ws,rfl,r1,r⟩:=r.c1
 obtain ⟨v2,ws,rfl,r2,r⟩:=r.c1
 obtain rfl:=r.c0
 cases r1
 cases r2
 exact ⟨i,j,rfl,q _ F H (Ext.refl s) (.int _)⟩
theorem nH {p:Pos}{f:DE→Option (List D)} (hc:X.calm=true) (hg:Gl X "min") (hm:X.mg "min" = none) (hv:bootBuiltins "min" = some (.builtin "min")) (ha:Ea X [a,b] f) (h1:aV a=true:=by rfl) (h2:aV b=true:=by rfl) :
  Ev X .V (.Call (.Name "min" p) [a,b] [] pos) (lq gm f) :=
 PE.by (iA (uZ hc) hg hm hv ha.h (by decide) (by decide) (aF a [b] X.env h1) (dQ pos X.env [b] (by rw [E_,h2]; rfl))) (xy As)
def uA:D→Option D
 | .int i=>some (.int i)
 | .bl k=>some (.int (if k then 1 else 0))
 | _=>none
theorem Au:jD .V (fun xs H Q=>(∃ i,xs=[V.int i]∧Q (.int i) H)∨∃ k,xs=[V.bl k]∧Q (.int (if k then 1 else 0)) H) uA:=fun F H v x d Q s rx h q=>by
 match x,h with
 | .int i,h=>cases DR h; cases rx.int; exact .inl ⟨i,rfl,q _ F H (Ext.refl s) (.int _)⟩
 | .bl k,h=>cases DR h; cases rx.bl; exact .inr ⟨k,rfl,q _ F H (Ext.refl s) (.int _)⟩
theorem zg {p:Pos} (hg:Gl X "int") (hm:X.mg "int" = none) (hv:bootBuiltins "int" = some (.type "int")) (ha:Ev X .O e f) (he:aV e=true:=by rfl):Ev X .V (.Call (.Name "int" p) [e] [] pos) (un uA f) :=
 w6 u4 Au hg hm hv ha (by decide) (by decide) he
theorem Bn {n:Int}{j p pos}:Ev X .V (.UnaryOp .USub (.Constant (.int n) j p) pos) (cst (.int (-n))):=PE.by (Cl z0 v9) fun σ H Q zz109_0=>by
 obtain ⟨B,F,E,d,k,q,w⟩:=zz109_0
 cases q
 exact ⟨n,rfl,w _ F H (Ext.refl k.sub) (.int _)⟩
end
def noS (_:DE):Option Out:=none
theorem xg {X:Cx}{st:Stmt}:Es X st noS:=PS.by vT fun Z σ H ⟨B,F,E,r,k,q,w⟩=>by cases q
theorem uM {X:Cx}{sts:List Stmt}:Ess X sts noS:=PSs.by tU fun Z σ H ⟨B,F,E,r,k,q,w⟩=>by cases q
theorem ma {js:List Nat}{i:Nat}{s:Sl} (hi:i ∈ js):∀ E:DE,aX js (E.set i s)=aX js E:=by
 induction js with
 | nil=>cases hi
 | cons j r ih =>
  intro E
  show aX r ((E.set i s).set j .no)=aX r (E.set j .no)
  by_cases h:i=j
  ·subst h; rw [List.set_set]
  ·rw [List.set_comm _ _ h]
   rcases List.mem_cons.mp hi with e | e
   ·exact absurd e h
   ·exact ih e _
theorem ph (js:List Nat) (E:DE):aX js (aX js E)=aX js E:=by
 have key:∀ (ks:List Nat) (E:DE),(∀ k ∈ ks,k ∈ js)→aX js (aX ks E)=aX js E:=by
  intro ks
  induction ks with
  | nil=>intro E _; rfl
  | cons k r ih =>
   intro E h
   show aX js (aX r (E.set k .no))=_
   rw [ih _ fun x hx=>h x (DS _ hx),ma (h k DW)]
 exact key js E fun _ h=>h
def gQ (js:List Nat) (gf:D→DE→Option DE):Prop:=∀ d E E1,gf d E=some E1→aX js E1=aX js E
theorem gQ.js {js:List Nat}{gf:D→DE→Option DE} (h:gQ js gf):jj js gf:=fun d E E1 e=>by rw [h d _ E1 e,ph]
theorem g0 {js:List Nat}{i:Nat} (h:i ∈ js):gQ js (nmG i):=fun d E E1 e=>by
 cases e; exact ma h E
def jO (js:List Nat) (gf:List D→DE→Option DE):Prop:=∀ ds E E1,gf ds E=some E1→aX js E1=aX js E
theorem kf {js:List Nat}:jO js cL:=fun ds E E1 e=>by
 cases ds with
 | nil=>cases e; rfl
 | cons _ _=>cases e
theorem eG {js:List Nat}{g:D→DE→Option DE}{gs:List D→DE→Option DE} (h1:gQ js g) (h2:jO js gs):jO js (aQ g gs):=fun ds E E1 e=>by
 cases ds with
 | nil=>cases e
 | cons d r =>
  have e':(g d E).bind (fun E'=>gs r E')=some E1:=e
  cases hg:g d E with
  | none=>rw [hg] at e'; cases e'
  | some E2 =>
   rw [hg] at e'
   rw [h2 r E2 E1 e',h1 d E E2 hg]
theorem ke {js:List Nat}{n:Nat}{gs:List D→DE→Option DE} (h:jO js gs):gQ js (cK n gs):=fun d E E1 e=>by
 cases d with
 | tup ds =>
  have e':(if ds.length=n then gs ds E else none)=some E1:=e
  split at e'
  ·exact h ds E E1 e'
  ·cases e'
 | _=>cases e
theorem ul1 {us:List Value} (hl:us.length=1):∃ a,us=[a]:=List.length_eq_one_iff.mp hl
theorem ul2 {us:List Value} (hl:us.length=2):∃ a b,us=[a,b]:=by
 cases us with
 | nil=>cases hl
 | cons a us =>
  obtain ⟨b,rfl⟩:=ul1 (Nat.succ.inj hl)
  exact ⟨a,b,rfl⟩
theorem ul3 {us:List Value} (hl:us.length=3):∃ a b c,us=[a,b,c]:=by
 cases us with
 | nil=>cases hl
 | cons a us =>
  obtain ⟨b,c,rfl⟩:=ul2 (Nat.succ.inj hl)
  exact ⟨a,b,c,rfl⟩
end L2.Cu
namespace L2
open PySem PySem.Spec PyProof.Rows
abbrev Dv (w:World):Bool:=w.params.followText "set-order"
def BC (prog:Program) (w:World) (h:Heap) (a:Addr) (S:Str→Bool) (n:Nat):Prop :=
 ∃ o es ep t,h.get? a=some o∧o.ExactSet∧o.data=.set es ep t∧ElemsOf (strKind prog w) es.toList∧(∀ k,S k=true ↔ ∃ e ∈ es.toList,(strKind prog w).is k e.2=true)
 ∧es.size < scanBound∧t.fits es.size=true∧es.size=n∧t.led=(!Dv w)∧(es.size ≠ 0→t.plain=false)
def ded (xs:List Str):List Str:=xs.foldl (fun acc x=>if x ∈ acc then acc else acc ++ [x]) []
theorem BC.at {prog:Program}{w:World}{h h':Heap}{a:Addr}{S:Str→Bool}{n:Nat} (q:BC prog w h a S n) (e:∀ o,h.get? a=some o→h'.get? a=some o):BC prog w h' a S n :=
 let ⟨o,es,ep,t,ho,r⟩:=q; ⟨o,es,ep,t,e o ho,r⟩
section
variable {prog:Program}{w:World}{A:Around}{E:Value→Shared→Prop}{s:Shared}
theorem uQ (xs:List Str):(ded xs).Nodup:=by
 have key:∀ (ys acc:List Str),acc.Nodup→(ys.foldl (fun acc x=>if x ∈ acc then acc else acc ++ [x]) acc).Nodup:=by
  intro ys
  induction ys with
  | nil=>intro acc h; exact h
  | cons y ys ih =>
   intro acc h
   rw [DM]
   refine ih _ ?_
   split
   ·exact h
   ·rename_i hy
    rw [GZ]
    exact ⟨h,FG _ _,fun a ha b hb=>by rw [GR] at hb; subst hb; exact fun z=>hy (by rw [← z]; exact ha)⟩
 exact key xs [] List.nodup_nil
theorem zq (xs:List Str) (k:Str):k ∈ ded xs ↔ k ∈ xs:=by
 have key:∀ (ys acc:List Str),k ∈ ys.foldl (fun acc x=>if x ∈ acc then acc else acc ++ [x]) acc ↔ k ∈ acc∨k ∈ ys:=by
  intro ys
  induction ys with
  | nil=>intro acc; simp
  | cons y ys ih =>
   intro acc
   rw [DM,ih]
   split
   ·rename_i hy
    constructor
    ·rintro (h | h)
     ·exact .inl h
     ·exact .inr (DS _ h)
    ·rintro (h | h)
     ·exact .inl h
     ·rcases List.mem_cons.mp h with e | e
      ·exact .inl (by rw [e]; exact hy)
      ·exact .inr e
   ·rw [List.mem_append,GR,Gk]
    constructor
    ·rintro ((h | h) | h)
     ·exact .inl h
     ·exact .inr (.inl h)
     ·exact .inr (.inr h)
    ·rintro (h | h | h)
     ·exact .inl (.inl h)
     ·exact .inl (.inr h)
     ·exact .inr h
 have:=key xs []
 simpa [ded] using this
end
section
variable {prog:Program}{w:World}{A:Around}{E:Value→Shared→Prop}{s:Shared}
def sQ (prog:Program) (w:World) (s:Shared) (S:Addr) (Pv:List Value→Prop) (itv:Value) (s1:Shared):Prop :=
 ∃ (it:Addr) (fp:List Addr) (n:Nat) (P:Nat→Value→Prop) (St:Nat→Heap→Prop) (h1:Heap) (d1:Drawn),itv=.ref it∧s1={ s with heap:=h1,drawn:=d1 }∧(∀ b o,s.heap.get? b=some o→h1.get? b=some o) ∧
  (∀ b ∈ fp,b=S∨s.heap.objs.size≤b)∧s.heap.objs.size≤it∧(∀ A:Around,A.handled=none→Walks prog w A it fp [it] n P St)∧St 0 h1∧n≤sizeLine∧∀ acc:Array Value,ItemsOf P acc n→Pv acc.toList
theorem oj {T:String}{S:Addr}{o:Obj}{Pv:List Value→Prop}{R:List Value→Shared→Prop} (hh:A.handled=none) (ho:s.heap.get? S=some o) (hc:o.cls=.type T) (hT1:(Value.type T == Value.type "list")=false) (hT2:(Value.type T == Value.type "tuple")=false)
  (hint:∀ (A:Around) (E:Value→Shared→Prop) (s':Shared) (Q:Bool→Shared→Prop),s'.TypeIs (.ref S) T→Q false s'→wpAny (model prog w) A (Builtin.List.listLengthHint (.ref S)) Q E s')
  (iter:∀ (A:Around) (E:Value→Shared→Prop) (s':Shared) (Q:Value→Shared→Prop),(∀ o,s.heap.get? S=some o→s'.heap.get? S=some o)→(∀ itv s1,sQ prog w s' S Pv itv s1→Q itv s1)→wpAny (model prog w) A (pyIter (.ref S)) Q E s')
  (h:∀ (h':Heap) (d':Drawn) (tk:Nat) (vs:List Value),(∀ b o,s.heap.get? b=some o→h'.get? b=some o)→s.heap.objs.size≤h'.objs.size→Pv vs→R vs { s with heap:=h',drawn:=d',toks:=tk }) :
  wpAny (model prog w) A (collect (.ref S)) R E s:=by
 have hSlt:S < s.heap.objs.size:=DU ho
 let RR:Result→Shared→Prop:=fun r s'=>∃ (h':Heap) (d':Drawn) (tk:Nat) (acc:Array Value) (c:Nat),r=.ok (.ret (.ref s.heap.objs.size))∧s'={ s with heap:=h',drawn:=d',toks:=tk } ∧
  (∀ b o,s.heap.get? b=some o→h'.get? b=some o)∧h'.get? s.heap.objs.size=some { cls:=.type "list",dict:=none,data:=.seq acc c,slots:=#[] }∧Pv acc.toList
 have ext:wpAny (model prog w) A.in1 (Builtin.List.listExtendWith (.ref s.heap.objs.size) (.ref S) (.ref s.heap.objs.size))
   (fun fin s'=>match fin with | .done f=>RR (.ok f) s' | .again c'=>c'.quiet=true∧codeAny (model prog w) A c' RR s') (fun e s'=>RR (.error e) s') { s with heap:=s.heap.push { cls:=.type "list",data:=.seq ([]:List Value).toArray } }:=by
  have hL1:(s.heap.push { cls:=.type "list",data:=.seq ([]:List Value).toArray }).get? s.heap.objs.size=some { cls:=.type "list",data:=.seq #[] }:=D0 _ rfl
  have sz1:(s.heap.push { cls:=.type "list",data:=.seq ([]:List Value).toArray }).objs.size=s.heap.objs.size + 1:=Fs ..
  have hSL:s.heap.objs.size ≠ S:=FR hSlt
  unfold Builtin.List.listExtendWith
  refine DO (FK (T:=T) ⟨o,DQ _ ho,hc⟩ ?_)
  have e1:Builtin.List.listSameRef (.ref s.heap.objs.size) (.ref S)=false:=by simp [Builtin.List.listSameRef,hSL]
  rw [if_neg (by rw [e1,hT1,hT2]; decide)]
  refine DO (iter _ _ _ _ (fun o e=>DQ _ e) fun itv s2 came=>?_)
  obtain ⟨it,fp,n,P,St,h1,d1,rfl,rfl,kp,hfp,hit,hW,hst,hn,hacc⟩:=came
  have hL2:h1.get? s.heap.objs.size=some { cls:=.type "list",data:=.seq #[] }:=kp _ _ hL1
  have hLf:s.heap.objs.size ∉ fp:=fun hb=>by
   rcases hfp _ hb with e | e
   ·exact hSL e
   ·have e':s.heap.objs.size + 1≤s.heap.objs.size:=by rw [← sz1]; exact e
    exact absurd e' (Nat.not_succ_le_self _)
  refine DO (E9 (hint _ _ _ _ ⟨o,kp _ _ (DQ _ ho),hc⟩ ?_))
  have key:∀ (h:Heap) (c₁:Nat),St 0 h→(∀ b o,b ≠ s.heap.objs.size→h1.get? b=some o→h.get? b=some o)→h.get? s.heap.objs.size=some { cls:=.type "list",data:=.seq #[] c₁ } →
    codeAny (model prog w) A (.builtin "list.extend.loop" ⟨[.ref s.heap.objs.size,.ref it,.ref s.heap.objs.size],[]⟩) RR { s with heap:=h,drawn:=d1 }:=by
   intro h c₁ st hk hL
   refine codeAny_extend_loopS (hW A.in1 hh).toS hn s.heap.objs.size hLf _ n 0 _ #[] c₁ rfl (Ex _) st hL (ItemsOf.nil _) fun s' acc' c' hm hS' hacc'=>?_
   refine ⟨s'.heap,d1,s'.toks,acc',c',rfl,Moved.eq_with hm,fun b o' e=>?_,hS',hacc acc' hacc'⟩
   have hb:b < s.heap.objs.size:=DU e
   refine hm.heap b o' (fun hmem=>?_) (hk b o' (D9 hb) (kp b o' (DQ _ e)))
   rcases List.mem_cons.mp hmem with e' | hmem
   ·exact absurd e' (D9 hb)
   ·have e2:=List.mem_singleton.mp hmem
    have e3:s.heap.objs.size + 1≤it:=by rw [← sz1]; exact hit
    rw [e2] at hb
    exact absurd e3 (Nat.not_le.mpr (Ge hb))
  refine wpAny_ite_split (fun _=>?_) (fun _=>DT ⟨FA PySem.F.plain_extend_loop _,key h1 0 hst (fun _ _ _ e=>e) hL2⟩)
  refine DO (G1 ?_)
  refine DO ?_
  show wpAny _ _ (updateSeq s.heap.objs.size (·.push .none) >>= fun _=>updateSeq s.heap.objs.size (·.pop)) _ _ _
  refine DO (Fu hL2 rfl ?_)
  have hS2:=Er (Obj.mapSeq (·.push Value.none)) hL2 rfl
  refine Fu (hz:=by seq_fits) hS2 rfl ?_
  have hS3:=Er (Obj.mapSeq (·.pop)) hS2 rfl
  have oth:∀ b o,b ≠ s.heap.objs.size→h1.get? b=some o→((h1.update s.heap.objs.size (Obj.mapSeq (·.push Value.none))).update s.heap.objs.size (Obj.mapSeq (·.pop))).get? b=some o:=fun b o hb e=>(Ec _ _ (Ne.symm hb)).trans ((Ec _ _ (Ne.symm hb)).trans e)
  exact DT ⟨FA PySem.F.plain_extend_loop _,key _ _ ((hW A.in1 hh).frame 0 _ _ hst fun b hb o e=>oth b o (fun z=>hLf (by rw [← z]; exact hb)) e) oth hS3⟩
 unfold collect
 refine DO (wpAny_runValue (Fh entry_proto_collect' ?_))
 rw [FF PySem.F.plain_proto_collect _]
 show wpAny _ A.in1 (newList [] >>= fun l=>again (.builtin "list.__iadd__" ⟨[l,.ref S],[]⟩)) _ _ s
 refine DO (EK ?_)
 refine DT ⟨FA PySem.F.plain_list_iadd _,Fh entry_list_iadd' ?_⟩
 rw [FF PySem.F.plain_list_iadd _]
 show wpAny _ A.in1 (Builtin.List.listExtendWith (.ref s.heap.objs.size) (.ref S) (.ref s.heap.objs.size)) _ _ _
 refine EB ext (fun fin s' x=>?_) fun e s' x=>?_
 ·cases fin with
  | done f =>
   obtain ⟨h',d',tk,acc',c',e,rfl,hk,hS',a1⟩:=x
   cases e
   show wpAny _ A (load s.heap.objs.size >>= _) _ _ _
   refine DO (wpAny_load hS' ?_)
   exact DT (h h' d' tk _ hk (E4 (DU hS')) a1)
  | again c₁ =>
   refine ⟨x.1,FW x.2 fun q s₂ y=>?_⟩
   obtain ⟨h',d',tk,acc',c',rfl,rfl,hk,hS',a1⟩:=y
   show wpAny _ A (load s.heap.objs.size >>= _) _ _ _
   refine DO (wpAny_load hS' ?_)
   exact DT (h h' d' tk _ hk (E4 (DU hS')) a1)
 ·obtain ⟨_,_,_,_,_,e',_⟩:=x
  cases e'
end
def leS (a b:Str):Bool:=!decide (b.cps.toList < a.cps.toList)
def dA (ss:List Str):List Str:=ss.mergeSort leS
theorem ur {a b c:List Nat} (h1:¬ b < a) (h2:¬ c < b):¬ c < a:=by
 have h1':a≤b:=List.not_lt.mp h1
 have h2':b≤c:=List.not_lt.mp h2
 exact List.not_lt.mpr (List.le_trans h1' h2')
theorem me (a b c:Str) (h1:leS a b=true) (h2:leS b c=true):leS a c=true:=by
 unfold leS at *
 simp only [Gg,Gh] at *
 exact ur h1 h2
theorem ut (a b:Str):(leS a b || leS b a)=true:=by
 unfold leS
 rcases List.le_total a.cps.toList b.cps.toList with h | h
 ·rw [D5 (List.not_lt.mpr h)]; rfl
 ·rw [D5 (p:=a.cps.toList < b.cps.toList) (List.not_lt.mpr h)]; simp
theorem mX {a b:Str} (h:a.cps.toList=b.cps.toList):a=b:=by
 cases a; cases b
 congr 1
 exact Array.toList_inj.mp h
theorem wD {a b:Str} (h1:leS a b=true) (h2:leS b a=true):a=b:=by
 unfold leS at *
 simp only [Gg,Gh] at *
 exact mX (List.le_antisymm (List.not_lt.mp h1) (List.not_lt.mp h2))
theorem eN (ss:List Str):(dA ss).Perm ss:=List.mergeSort_perm ss leS
theorem jV (ss:List Str):(dA ss).Pairwise (fun a b=>leS a b=true):=List.pairwise_mergeSort me ut ss
theorem m3 {ss ts:List Str} (hp:ts.Perm ss) (hs:ts.Pairwise (fun a b=>leS a b=true)):ts=dA ss :=
 List.Perm.eq_of_pairwise (fun a b _ _ h1 h2=>wD h1 h2) hs (jV ss) (hp.trans (eN ss).symm)
theorem jr:∀ (p:Str) (l:List Str),risingS p l=true→(p :: l).Pairwise (fun a b=>leS a b=true)
 | p,[],_=>FG _ _
 | p,x :: r,h=>by
  have h':(!ltCps x.cps.toList p.cps.toList && risingS x r)=true:=h
  rw [EA] at h'
  have ih:=jr x r h'.2
  have hpx:leS p x=true:=by unfold leS; rw [← ltCps_eq]; exact h'.1
  refine List.pairwise_cons.mpr ⟨fun y hy=>?_,ih⟩
  rcases List.mem_cons.mp hy with rfl | hy
  ·exact hpx
  ·exact me _ _ _ hpx ((List.pairwise_cons.mp ih).1 y hy)
theorem mZ:∀ (l:List Str),sortedS l=true→l.Pairwise (fun a b=>leS a b=true)
 | [],_=>.nil
 | x :: r,h=>jr x r h
section
variable {prog:Program}{w:World}{A:Around}{E:Value→Shared→Prop}{s:Shared}
theorem pR {T:String}{l:Addr}{o:Obj}{vs:List Value}{n:Nat}{Q:List Value→Shared→Prop} (ho:s.heap.get? l=some o) (hc:o.cls=.type T) (hd:o.data=.seq vs.toArray n) (hT:T = "list"∨T = "tuple") (hsz:vs.length≤sizeLine)
  (h:∀ h',(∀ b o,s.heap.get? b=some o→h'.get? b=some o)→s.heap.objs.size≤h'.objs.size→Q vs { s with heap:=h' }):wpAny (model prog w) A (collect (.ref l)) Q E s:=by
 unfold collect
 refine DO (wpAny_runValue (Fh entry_proto_collect' ?_))
 show wpAny _ _ (do again (.builtin "list.__iadd__" ⟨[← newList [],.ref l],[]⟩)) _ _ s
 refine DO (wpAny_newList (DT ⟨Gp _ (by decide +kernel),Fh entry_list_iadd' ?_⟩))
 show wpAny _ _ (Builtin.List.listExtendWith (.ref s.heap.objs.size) (.ref l) (.ref s.heap.objs.size)) _ _ { s with heap:=s.heap.push (seqObj "list" #[] 0) }
 unfold Builtin.List.listExtendWith
 have ho':(s.heap.push (seqObj "list" #[] 0)).get? l=some o:=DQ _ ho
 refine DO (FK (T:=T) ⟨o,ho',hc⟩ ?_)
 rw [if_pos (by rcases hT with rfl | rfl <;> simp)]
 refine DO (listItems_at ho' hd ?_)
 refine DO (listItems_at (xs:=#[]) (n:=0) (D0 _ rfl) rfl ?_)
 rw [if_neg (by simp)]
 refine DO (listUpdate_at (xs:=#[]) (n:=0) (D0 _ rfl) rfl ?_ (Ex _) (by show (#[] ++ vs.toArray).size≤sizeLine + 1; simp only [Array.size_append,DV,DH]; omega))
 refine DT ?_
 show wpAny (model prog w) A (do
   let o ← load s.heap.objs.size
   match o.data with
   | .seq xs _=>pure xs.toList
   | _=>unsupported "internal:collect") Q E { s with heap:=(s.heap.push (seqObj "list" #[] 0)).update s.heap.objs.size (Obj.mapSeq (· ++ vs.toArray)) }
 refine DO (wpAny_load (get?_update_seq (D0 _ rfl) _) ?_)
 show wpAny _ _ (pure ((#[]:Array Value) ++ vs.toArray).toList) Q E _
 rw [show ((#[]:Array Value) ++ vs.toArray).toList=vs by simp]
 exact DT (h _ (fun b o e=>(Ec _ _ (FR (DU e))).trans (DQ _ e)) (by rw [Heap.size_update,size_push']; exact GJ _))
theorem jm {r:Addr}{ss0:List Str}{Q:Value→Shared→Prop} (h64:ss0.length < 64)
  (hc:∀ R:List Value→Shared→Prop,(∀ (h':Heap) (d':Drawn) (tk:Nat) (vs:List Value) (ss:List Str),(∀ b o,s.heap.get? b=some o→h'.get? b=some o)→s.heap.objs.size≤h'.objs.size→StrsAre vs ss→ss.Perm ss0→R vs { s with heap:=h',drawn:=d',toks:=tk })→wpAny (model prog w) A.in1 (collect (.ref r)) R E s)
  (h:∀ (D:Addr) (h':Heap) (d':Drawn) (tk:Nat) (its:List Value) (e:Nat),(∀ b o,s.heap.get? b=some o→h'.get? b=some o)→s.heap.objs.size≤D→h'.get? D=some { cls:=.type "list",data:=.seq its.toArray e }→StrsAre its (dA ss0)→Q (.ref D) { s with heap:=h',drawn:=d',toks:=tk }) :
  wpAny (model prog w) A (call (.builtin "sorted") [.ref r]) Q E s:=by
 refine Calls.call_function_entry kind_sorted plain_sorted entry_sorted (args_sorted1 _) ?_
 unfold Builtin.«sorted»
 refine DO (m:=checkCount "sorted" 1 1 _) (DT ?_)
 refine DO (hc _ fun h' d' tk vs ss kp hD hS hp=>?_)
 have hlen:vs.length=ss0.length:=by rw [StrsAre.length hS,hp.length_eq]
 refine DO (wpAny_newList ?_ (by rw [hlen]; exact D6 (E4 h64) (by decide)))
 have hoL:(h'.push (seqObj "list" vs.toArray 0)).get? h'.objs.size=some (seqObj "list" vs.toArray 0):=D0 _ rfl
 show wpAny _ _ _ _ _ { s with heap:=h'.push (seqObj "list" vs.toArray 0),drawn:=d',toks:=tk }
 refine DO (E9 (Fm slot_list_sort ⟨_,hoL,rfl⟩ entry_list_sort (list_sort_treeK strKind_oneLt hoL hS.keysOf (fun v₁ v₂ cg e=>keyKind_strs (by rw [← e]; exact hS)) (by rw [hlen]; exact h64) fun st' a1 a2=>⟨_,rfl,?_⟩) (args_list_sort _)))
 obtain ⟨ss',b1,b2,b3⟩:=sorted_out_str hS a1 a2
 obtain ⟨e,he⟩:=sortedHeap_at (out:=(arrOf st').map (·.2)) hoL
 have hlt:∀ b o,s.heap.get? b=some o→(sortedHeap (h'.push (seqObj "list" vs.toArray 0)) h'.objs.size vs ((arrOf st').map (·.2))).get? b=some o:=fun b o eb=>by
  have e1:=kp b o eb
  have e2:=DU e1
  rw [sortedHeap_old (D9 e2) (by rw [size_push']; exact Ge e2)]
  exact DQ _ e1
 refine DT ⟨_,rfl,h _ _ d' tk ((arrOf st').map (·.2)).toList e hlt hD (by rw [Array.toArray_toList]; exact he) ?_⟩
 rw [← m3 (b2.trans hp) (mZ ss' b3)]
 exact b1
end
theorem lO:∀ {ss:List Str}{its:List Value},StrsAre its ss→a_ (ss.map V.str) its
 := fun h=>by
  cases h with
  | nil=>exact .nil
  | cons _ t h=>exact .cons ⟨t,rfl⟩ (lO h)
theorem gW:∀ {ss:List Str}{its:List Value},a_ (ss.map V.str) its→StrsAre its ss
 := fun {ss its} z=>by
  cases ss with
  | nil=>cases z; exact .nil
  | cons x ss =>
   cases z with
   | cons r h=>obtain ⟨t,e⟩:=r; subst e; exact .cons x t (gW h)
section
variable {X:Cx}
theorem Inv.laidS {pins:List (Addr×Obj)} {σ:St}{H:Hp}{s:Shared} (I:Inv X pins σ H s) {h':Heap}{d':Drawn}{tk:Nat}{D:Addr}{its:List Value}{e:Nat}{ss:List Str} (kp:∀ b o,s.heap.get? b=some o→h'.get? b=some o) (hD:s.heap.objs.size≤D)
  (hl:h'.get? D=some { cls:=.type "list",data:=.seq its.toArray e }) (hS:StrsAre its ss) (hz:ss.length≤sizeLine):Inv X pins σ (upd H D (.lst (ss.map V.str))) { s with heap:=h',drawn:=d',toks:=tk }:=by
 have I1:Inv X pins σ (upd H D (.lst (ss.map V.str))) { s with heap:=h',toks:=tk }:=I.laid kp hD ⟨by rw [DP]; exact hz,its,e,lO hS,hl⟩
 exact ⟨I1.ok,I1.os,I1.bare,I1.base,I1.loc,I1.cell,I1.free,I1.freeC,I1.pin,I1.hok,I1.len⟩
def m9 (K:PySem.W.Frag):List V→Hp→VK→Prop:=fun xs H Q=>∃ p ss,xs=[.ref p]∧(SqL K H p (ss.map V.str)∨SqT K H p (ss.map V.str))∧ss.length < 64∧∀ l,H l=none→Q (.ref l) (upd H l (.lst ((dA ss).map V.str)))
theorem pT:dc X (.builtin "sorted") (m9 X.K):=by
 intro pins s σ H xs us Q I r h
 obtain ⟨p,ss,rfl,hq,h64,q⟩:=h
 obtain ⟨u,rfl,ru⟩:=gz r
 cases ru
 have hz:ss.length≤sizeLine:=D6 (E4 h64) (by decide)
 obtain ⟨T,o,its,n,ho,hc,hd,hT,rv⟩:∃ T o its n,s.heap.get? p=some o∧o.cls=.type T∧o.data=.seq (List.toArray its) n∧(T = "list"∨T = "tuple")∧a_ (ss.map V.str) its:=by
  rcases hq with hq | hq
  ·obtain ⟨its,rv,pl,_⟩:=I.list hq
   obtain ⟨o,n,e,c,hd,hdata⟩:=pl
   exact ⟨"list",o,its,_,e,c,hdata,.inl rfl,rv⟩
  ·obtain ⟨its,rv,⟨o,e,c,n,hd⟩,_⟩:=I.tuple hq
   exact ⟨"tuple",o,its,n,e,c,hd,.inr rfl,rv⟩
 have hS:=gW rv
 refine jm (ss0:=ss) h64 (fun R hR=>pR ho hc hd hT (by rw [StrsAre.length hS]; exact hz) fun h' kp hsz=>?_) fun D h' d' tk its' e kp hD hl hS'=>?_
 ·have z:=hR h' s.drawn s.toks its ss kp hsz hS (.refl _)
  exact z
 ·exact ⟨.ref D,_,I.laidS kp hD hl hS' (by rw [(eN ss).length_eq]; exact hz),rfl,q D (I.hok.fresh hD)⟩
end
end L2
namespace L2.Cu
open PySem PySem.Spec PyProof.Rows
def e_:List D→Option (List Str)
 | []=>some []
 | .str x :: r=>(e_ r).map fun xs=>x :: xs
 | _=>none
theorem jU:∀ {ds:List D}{ss:List Str},e_ ds=some ss→ds=ss.map D.str
 | [],ss,h=>by cases h; rfl
 | .str x :: r,ss,h=>by
  unfold e_ at h
  cases hr:e_ r with
  | none=>rw [hr] at h; cases h
  | some cs =>
   rw [hr] at h
   cases h
   rw [jU hr]; rfl
theorem lU (ss:List Str):e_ (ss.map D.str)=some ss:=by
 induction ss with
 | nil=>rfl
 | cons x r ih=>show (e_ (r.map D.str)).map _=_; rw [ih]; rfl
theorem Reps.strs {F:Hp}:∀ {vs:List V}{ss:List Str},Reps F vs (ss.map D.str)→vs=ss.map V.str
 := fun {vs ss} z=>by
  cases ss with
  | nil=>cases z; rfl
  | cons x ss =>
   cases z with
   | cons r t=>cases r; rw [Reps.strs t]; rfl
theorem Reps.ofStrs {F:Hp}:∀ (ss:List Str),Reps F (ss.map V.str) (ss.map D.str)
 | []=>.nil
 | x :: ss=>.cons (.str x) (Reps.ofStrs ss)
def vD (d:D):Option D:=(gD d).bind fun ds=>(e_ ds).bind fun ss=>if ss.length < 64 then some (.lst ((dA ss).map D.str)) else none
section
variable {X:Cx}{e:Expr}{p p2 pos pos2:Pos}{f:DE→Option D}
theorem vI {K:PySem.W.Frag}{F H:Hp}{v:V}{d:D}{ds:List D}{ss:List Str} (s:∀ a u,F a=some u→H a=some u) (r:OB F H v d) (h:gD d=some ds) (h2:e_ ds=some ss):∃ a,v=.ref a∧(SqL K H a (ss.map V.str)∨SqT K H a (ss.map V.str)):=by
 have e2:=jU h2
 subst e2
 cases d with
 | lst xs =>
  cases h
  obtain ⟨a,vs,rfl,ha,rs⟩:=OB.lst s r
  rw [Reps.strs rs] at ha
  exact ⟨a,rfl,.inl (SqL.of ha)⟩
 | tup xs =>
  cases h
  obtain ⟨a,vs,rfl,ha,rs⟩:=r.tup
  rw [Reps.strs rs] at ha
  exact ⟨a,rfl,.inr (SqT.of (s _ _ ha))⟩
 | _=>cases h
theorem tN {K:PySem.W.Frag}:jD .F (m9 K) vD:=fun F H v x d Q s rx h q=>by
 unfold vD at h
 cases h1:gD x with
 | none=>simp [h1] at h
 | some ds =>
  cases h2:e_ ds with
  | none=>simp [h1,h2] at h
  | some ss =>
   simp only [h1,h2,DA] at h
   split at h
   ·rename_i h64
    cases h
    obtain ⟨a,rfl,hq⟩:=vI (K:=K) s rx h1 h2
    exact ⟨a,ss,rfl,hq,h64,fun l hl=>q _ F _ (Ext.lay s hl) ⟨l,_,rfl,hl,aD,nofr s hl,Reps.ofStrs _⟩⟩
   ·cases h
end
end L2.Cu
namespace L2
open PySem PySem.Spec PyProof.Rows
section
variable {X:Cx}
def oM (x:Str) (n:Int):Str:=⟨(List.replicate n.toNat x.cps.toList).flatten.toArray⟩
theorem oK (a:List Nat):∀ (k:Nat) (acc:List Nat),List.foldl (fun x1 x2=>x1 ++ x2) acc.toArray (List.replicate k a.toArray)=(acc ++ (List.replicate k a).flatten).toArray
 | 0,acc=>by simp
 | k + 1,acc=>by
  have e:acc.toArray ++ a.toArray=(acc ++ a).toArray:=by simp
  have e2:(acc ++ a) ++ (List.replicate k a).flatten=acc ++ (List.replicate (k + 1) a).flatten:=by rw [Eb,Em,E6]
  rw [Eb,DM,e,oK a k (acc ++ a),e2]
theorem qB:OpR X (binaryOp .Mult) (fun x y H Q=>∃ z n,x=.str z∧y=.int n∧0≤n∧n < 2 ^ 20∧z.length * n.toNat≤sizeLine∧Q (.str (oM z n)) H):=by
 intro pins s σ H x y v u Q I rx ry h
 obtain ⟨z,n,rfl,rfl,h0,h1,hz,q⟩:=h
 obtain ⟨t,rfl⟩:=rx
 obtain ⟨t',rfl⟩:=ry
 have hzl:z.length * n.toNat≤2 ^ 24:=hz
 refine PySem.P.mul_str ?_ (fun hn hb=>?_) (fun hn hb=>?_) ?_
 ·rw [D5 (by omega),D5 (by omega)]; rfl
 ·have hn1:1≤n:=by omega
  have hzn:(z.length:Int)≤2 ^ 24:=by
   have h2:z.length * 1≤z.length * n.toNat:=Fd _ (by omega)
   omega
  have hdiv:(2 ^ 63 - 1) / 2 ^ 20≤(2 ^ 63 - 1) / n:=by
   refine Int.le_ediv_of_mul_le (by omega) ?_
   have h3:(2 ^ 63 - 1) / 2 ^ 20 * n≤(2 ^ 63 - 1) / 2 ^ 20 * 2 ^ 20:=Int.mul_le_mul_of_nonneg_left (by omega) (by decide)
   omega
  omega
 ·unfold Builtin.Str.tooLong
  exact D5 (by have:sizeLine=2 ^ 24:=rfl; omega)
 ·have e0:(List.replicate n.toNat z.cps).foldl (· ++ ·) #[]=(List.replicate n.toNat z.cps.toList).flatten.toArray:=by
   have:=oK z.cps.toList n.toNat []
   simpa using this
  by_cases hn:n < 1
  ·rw [if_pos hn]
   refine ⟨by decide,?_⟩
   have e:oM z n=Str.empty:=by
    have:n.toNat=0:=by omega
    unfold oM; rw [this]; rfl
   rw [e] at q
   exact ⟨.str _,H,I.tok _,⟨_,rfl⟩,q⟩
  ·rw [if_neg hn]
   by_cases hb:(n == 1 || z.length == 0)=true
   ·rw [if_pos hb]
    have e:oM z n=z:=by
     unfold oM
     rcases Bool.or_eq_true_iff.mp hb with hb | hb
     ·have:n=1:=by simpa using hb
      subst this
      simp
     ·have hl:z.cps.size=0:=(by simpa using hb:z.length=0)
      have:z.cps=#[]:=Array.eq_empty_of_size_eq_zero hl
      cases z
      simp only at this
      subst this
      simp
    rw [e] at q
    exact ⟨.str z,H,I,⟨t,rfl⟩,q⟩
   ·rw [if_neg hb,e0]
    refine ⟨?_,⟨.str _,H,I.tok _,⟨_,rfl⟩,q⟩⟩
    show ((List.replicate n.toNat z.cps.toList).flatten.toArray).size≤sizeLine
    rw [DV,se,Ff,Nat.mul_comm]
    exact hz
end
end L2
namespace L2.Cu
open PySem PySem.Spec PyProof.Rows
section
variable {X:Cx}{a b e:Expr}{pos apos cpos spos dpos pos':Pos}{f g:DE→Option D}
theorem PE.or {e:Expr}{t t':TE} (h:PE X e t) (h':PE X e t'):PE X e (fun σ H Q=>t σ H Q∨t' σ H Q):=fun pins s σ H Q I q=>q.elim (h pins s σ H Q I) (h' pins s σ H Q I)
theorem PT.or {e:Expr}{t t':TT} (h:PT X e t) (h':PT X e t'):PT X e (fun σ H Q=>t σ H Q∨t' σ H Q):=fun pins s σ H Q I q=>q.elim (h pins s σ H Q I) (h' pins s σ H Q I)
def fJ (x y:D):Option D:=match x,y with
 | .str z,.int n=>if 0≤n∧n < 2 ^ 20∧z.length * n.toNat≤sizeLine then some (.str (oM z n)) else none
 | x,y=>yN x y
theorem yd:fV .V (fun x y H Q=>(rI (fun i j=>Builtin.Int.intBits i≤2 ^ 20∧Builtin.Int.intBits j≤2 ^ 20) fun i j=>.int (i * j)) x y H Q∨∃ z n,x=V.str z∧y=V.int n∧0≤n∧n < 2 ^ 20∧z.length * n.toNat≤sizeLine∧Q (.str (oM z n)) H) fJ:=fun F H v w x y d Q s rx ry h q=>by
 have onI:yN x y=some d→(rI (fun i j=>Builtin.Int.intBits i≤2 ^ 20∧Builtin.Int.intBits j≤2 ^ 20) fun i j=>V.int (i * j)) v w H Q:=fun h=>Aq F H v w x y d Q s rx ry h q
 cases x with
 | str z =>
  cases y with
  | int n =>
   have h':(if 0≤n∧n < 2 ^ 20∧z.length * n.toNat≤sizeLine then some (D.str (oM z n)) else none)=some d:=h
   split at h'
   ·rename_i hc
    cases h'
    exact .inr ⟨z,n,rx.str,ry.int,hc.1,hc.2.1,hc.2.2,q _ F H (Ext.refl s) (.str _)⟩
   ·cases h'
  | _=>exact .inl (onI h)
 | _=>exact .inl (onI h)
theorem ge (ha:Ev X .O a f) (hb:Ev X .O b g):Ev X .V (.BinOp a .Mult b pos) (bin fJ f g):=il (OpR.or yD qB) yd ha hb
def tO (kvs:List (Key×D)) (k:Key) (v:D):List (Key×D):=if (kvs.any fun kv=>decide (kv.1=k))=true then kvs.map (fun kv=>if kv.1=k then (kv.1,v) else kv) else kvs ++ [(k,v)]
theorem RepK.any {F:Hp}{k:Key}:∀ {vs:List (Key×V)} {ds:List (Key×D)},RepK F vs ds→(vs.any fun kv=>decide (kv.1=k))=ds.any fun kv=>decide (kv.1=k)
 := fun r=>by
  cases r with
  | nil=>rfl
  | cons _ t=>rw [Fe,Fe,RepK.any t]
theorem RepK.map1 {F:Hp}{k:Key}{v:V}{d:D} (r:Rep F v d):∀ {vs:List (Key×V)} {ds:List (Key×D)},RepK F vs ds→RepK F (vs.map (fun kv=>if kv.1=k then (kv.1,v) else kv)) (ds.map (fun kv=>if kv.1=k then (kv.1,d) else kv))
 := fun q=>by
  cases q with
  | nil=>exact .nil
  | @cons k' v' d' vs ds r' t =>
   rw [DI,DI]
   by_cases e:k'=k
   ·rw [if_pos e,if_pos e]; exact .cons r (RepK.map1 r t)
   ·rw [if_neg e,if_neg e]; exact .cons r' (RepK.map1 r t)
theorem RepK.snoc {F:Hp}{k:Key}{v:V}{d:D} (r:Rep F v d):∀ {vs:List (Key×V)} {ds:List (Key×D)},RepK F vs ds→RepK F (vs ++ [(k,v)]) (ds ++ [(k,d)])
 := fun q=>by
  cases q with
  | nil=>exact .cons r .nil
  | cons r' t=>exact .cons r' (RepK.snoc r t)
theorem RepK.put {F:Hp}{k:Key}{v:V}{d:D} (r:Rep F v d) {vs:List (Key×V)} {ds:List (Key×D)} (h:RepK F vs ds):RepK F (iz vs k v) (tO ds k d):=by
 unfold iz tO
 rw [h.any]
 split
 ·exact h.map1 r
 ·exact h.snoc r
def qf (i:Nat) (fk fv:DE→Option D) (E:DE):Option Out:=match E[i]? with
 | some (.own (.dic kvs))=>(fk E).bind fun x=>(ij x).bind fun k=>(fv E).bind fun v=>if kvs.length < sizeLine then some (.nx (E.set i (.own (.dic (tO kvs k v))))) else none
 | _=>none
theorem sD (hu:X.A.units + 64 < cLine) {i:Nat}{o:Expr} (ho:PE X o (jT i)) (ha:Ev X .V a f) (hb:Ev X .V b g) (hs:swapsWith b (some (.Subscript o a pos')) pos.line X.env=pure false:=by rfl) :
  Es X (.Assign [.Subscript o a pos'] b pos) (qf i f g):=PS.by (yo (nB hu) ho ha.h hb.h hs) fun Z σ H zz112_0=>by
 obtain ⟨B,F,E,r,k,q,w⟩:=zz112_0
 unfold qf at q
 split at q
 ·rename_i kvs hd
  cases hf:f E with
  | none=>simp [hf] at q
  | some x =>
   cases hk:ij x with
   | none=>simp [hf,hk] at q
   | some ky =>
    cases hg:g E with
    | none=>simp [hf,hk,hg] at q
    | some y =>
     simp only [hf,hk,hg,DA] at q
     split at q
     ·rename_i hz
      cases q
      obtain ⟨p,vs,h1,h2,h3,h4⟩:=yA k hd
      refine ⟨B,F,E,y,k,hg,fun v F1 H1 x1 r1=>⟨.ref p,h1,B,F1,E,x,k.ext x1,hf,fun u F2 H2 x2 r2=>?_⟩⟩
      have ek:=iH (F:=F2) (H:=H2) hk (.inl r2)
      subst ek
      refine ⟨p,_,rfl,xJ.k (x2.same _ _ (x1.same _ _ h2)) (by rw [h4.length]; exact hz),?_⟩
      have z:=((k.ext x1).ext x2).rewrite hd h1 (o':=.dK (iz vs ky v)) (d':=.dic (tO kvs ky y)) ((h4.mono (x1.trans x2).fr).put (r1.mono x2.fr))
      exact w σ F2 _ z (x1.trans x2).fr
     ·cases q
 ·cases q
def ixE (x y:D):Option D:=match x with
 | .dic kvs=>(ij y).bind fun k=>fL kvs k
 | x=>ixD x y
theorem bd (hu:X.A.units + 64 < cLine) (ha:Ev X .O a f) (hb:Ev X .O b g) (hs:sR b):Ev X .V (.Subscript a b pos) (bin ixE f g) :=
 PE.by (PE.or (Cn A9 ha.h hb.h hs) (yx (nB hu) ha.h hb.h hs)) fun σ H Q h=>by
  obtain ⟨B,F,E,d,k,q,w⟩:=h
  have q0:=q
  unfold bin at q
  cases hf:f E with
  | none=>rw [hf] at q; cases q
  | some x =>
   rw [hf] at q
   cases hg:g E with
   | none=>rw [hg] at q; cases q
   | some y =>
    rw [hg] at q
    have seq:ixD x y=some d→tOp (rIx X.K) (tM .O f) (tM .O g) σ H Q:=fun hq=>gP (m:=.V) B7 σ H Q ⟨B,F,E,d,k,by unfold bin; rw [hf,hg]; exact hq,w⟩
    cases x with
    | dic kvs =>
     right
     have q':(ij y).bind (fun k=>fL kvs k)=some d:=q
     cases hk:ij y with
     | none=>rw [hk] at q'; cases q'
     | some ky =>
      rw [hk] at q'
      have q2:fL kvs ky=some d:=q'
      refine ⟨B,F,E,_,k,hf,fun v F1 H1 x1 r1=>⟨B,F1,E,y,k.ext x1,hg,fun u F2 H2 x2 r2=>?_⟩⟩
      obtain ⟨p,vs,rfl,hp,rk⟩:=OB.dic x1.sub r1
      have eu:u=kV ky:=iH hk r2
      obtain ⟨v',e',r'⟩:=(RepK.val (k:=ky) (rk.mono x2.fr)).1 d q2
      refine ⟨p,v',rfl,?_,w v' F2 H2 (x1.trans x2) r'⟩
      rw [eu,← e']
      exact nM (qv x2.same hp)
    | _=>exact .inl (seq q)
def nr (x y:D):Option D:=match y with
 | .dic kvs=>(ij x).map fun k=>.bl (!(fL kvs k).isSome)
 | y=>yL x y
theorem qV {F:Hp}{vs:List (Key×V)} {ds:List (Key×D)} {k:Key} (r:RepK F vs ds):(fB vs k).isSome=(fL ds k).isSome:=by
 obtain ⟨h1,h2⟩:=RepK.val (k:=k) r
 cases h:fL ds k with
 | some d=>obtain ⟨v,e,_⟩:=h1 d h; rw [e]; rfl
 | none=>rw [h2 h]; rfl
theorem uh {K:PySem.W.Frag} (σ:St) (H:Hp) (Q:VK) (h:tM .V (bin nr f g) σ H Q):tOp (fun x y H Q=>(∃ i j,x=V.str i∧y=V.str j∧Q (.bl (!(!(Builtin.Str.occurrences j i 0 j.length 1).isEmpty))) H)∨rIn K true x y H Q) (tM .O f) (tM .O g) σ H Q∨rF (tM .O f) (tM .O g) σ H Q:=by
 obtain ⟨B,F,E,d,k,q,w⟩:=h
 unfold bin at q
 cases hf:f E with
 | none=>rw [hf] at q; cases q
 | some x =>
  rw [hf] at q
  cases hg:g E with
  | none=>rw [hg] at q; cases q
  | some y =>
   rw [hg] at q
   have seq:yL x y=some d→tOp (fun x y H Q=>(∃ i j,x=V.str i∧y=V.str j∧Q (.bl (!(!(Builtin.Str.occurrences j i 0 j.length 1).isEmpty))) H)∨rIn K true x y H Q) (tM .O f) (tM .O g) σ H Q:=fun hq=>gP (m:=.V) Ao σ H Q ⟨B,F,E,d,k,by unfold bin; rw [hf,hg]; exact hq,w⟩
   cases y with
   | dic kvs =>
    right
    have q':(ij x).map (fun k=>D.bl (!(fL kvs k).isSome))=some d:=q
    cases hk:ij x with
    | none=>rw [hk] at q'; cases q'
    | some ky =>
     rw [hk] at q'
     cases q'
     refine ⟨B,F,E,x,k,hf,fun v F1 H1 x1 r1=>⟨B,F1,E,_,k.ext x1,hg,fun u F2 H2 x2 r2=>?_⟩⟩
     obtain ⟨p,vs,rfl,hp,rk⟩:=OB.dic x2.sub r2
     have eu:v=kV ky:=iH hk r1
     refine ⟨p,fB vs ky,rfl,by rw [eu]; exact nM hp,?_⟩
     rw [qV rk]
     exact w _ F2 H2 (x1.trans x2) (.bl _)
   | _=>exact .inl (seq q)
theorem sB (hu:X.A.units + 64 < cLine) (ha:Ev X .O a f) (hb:Ev X .O b g) (hm:behindInMarks .NotIn b=false):Et X (.Compare a [.NotIn] [b] pos) (tst (bin nr f g)) :=
 PT.by (PT.or (jG (OpR.or na nc) ha.h hb.h hm) (AB (tZ (nB hu) ha.h hb.h) hm)) fun σ H Q q=>uh σ H _ (gA σ H Q q)
def bj (x:D):Option D:=match x with
 | .dic kvs=>some (.int kvs.length)
 | x=>CB x
theorem dc.or {f:Value}{r r':List V→Hp→VK→Prop} (h:dc X f r) (h':dc X f r'):dc X f (fun xs H Q=>r xs H Q∨r' xs H Q):=fun pins s σ H xs us Q I rv q=>q.elim (h pins s σ H xs us Q I rv) (h' pins s σ H xs us Q I rv)
theorem yf {K:PySem.W.Frag}:jD .V (fun xs H Q=>(∃ x n,xs=[x]∧BF K x H n∧Q (.int n) H)∨∃ a kvs,xs=[V.ref a]∧Rd H a (.dK kvs)∧Q (.int kvs.length) H) bj:=fun F H v x d Q s rx h q=>by
 cases x with
 | dic kvs =>
  cases DR h
  obtain ⟨p,vs,rfl,hp,rk⟩:=OB.dic s rx
  refine .inr ⟨p,vs,rfl,hp,?_⟩
  rw [rk.length]
  exact q _ F H (Ext.refl s) (.int _)
 | _=>exact .inl (At F H v _ d Q s rx h q)
theorem u3:dc X (.builtin "len") (fun xs H Q=>∃ a kvs,xs=[V.ref a]∧Rd H a (.dK kvs)∧Q (.int kvs.length) H):=by
 intro pins s σ H xs us Q I r h
 obtain ⟨a,kvs,rfl,ha,q⟩:=h
 obtain ⟨u,rfl,ru⟩:=gz r
 cases ru
 exact CO I ha fun t s' I'=>⟨.int kvs.length,H,I',⟨t,rfl⟩,q⟩
theorem aT {p:Pos} (hg:Gl X "len") (hm:X.mg "len" = none) (ha:Ev X .O e f) (he:aV e=true:=by rfl):Ev X .V (.Call (.Name "len" p) [e] [] pos) (un bj f) :=
 iP (dc.or xr u3) yf hg hm PySem.boot_len ha (by decide) (by decide) he
def qR:List (Key×D)→Option (List Str)
 | []=>some []
 | (.inr x,_) :: r=>(qR r).map fun xs=>x :: xs
 | _=>none
def oO:List V→Hp→VK→Prop:=fun xs H Q=>∃ p kvs ss,xs=[.ref p]∧Rd H p (.dK kvs)∧kvs.map (·.1)=ss.map (Sum.inr:Str→Key)∧ss.length < 64∧∀ l,H l=none→Q (.ref l) (upd H l (.lst ((dA ss).map V.str)))
theorem mh:∀ {ds:List (Key×D)} {ss:List Str},qR ds=some ss→ds.map (·.1)=ss.map (Sum.inr:Str→Key)
 | [],ss,h=>by cases h; rfl
 | (.inr x,d) :: r,ss,h=>by
  unfold qR at h
  cases hr:qR r with
  | none=>rw [hr] at h; cases h
  | some xs=>rw [hr] at h; cases h; rw [DI,mh hr]; rfl
theorem RepK.keys {F:Hp}:∀ {vs:List (Key×V)} {ds:List (Key×D)},RepK F vs ds→vs.map (·.1)=ds.map (·.1)
 := fun r=>by
  cases r with
  | nil=>rfl
  | cons _ t=>rw [DI,DI,RepK.keys t]
end
end L2.Cu
namespace L2
open PySem PySem.Spec PyProof.Rows
theorem uO {prog:Program}{w:World}{A:Around}{E:Value→Shared→Prop}{s:Shared}{d:Addr}{kvs:List (Key×Value)} {ep:Nat}{Pv:List Value→Prop}{Q:Value→Shared→Prop} (lo:(d == sysModules)=false) (hm:s.heap.DictAt (b9 prog w) d kvs ep) (hz:kvs.length≤sizeLine)
  (hP:∀ vs:List Value,vs.length=kvs.length→(∀ (i:Nat) v,vs[i]? = some v→∃ k x,kvs[i]? = some (k,x)∧(b9 prog w).is k v=true)→Pv vs) (h:∀ itv s1,sQ prog w s d Pv itv s1→Q itv s1):wpAny (model prog w) A (pyIter (.ref d)) Q E s:=by
 refine wpAny_pyIter_dict lo hm (h _ _ ⟨_,[s.heap.objs.size,d],kvs.length,_,_,_,s.drawn,rfl,rfl,fun b o e=>DQ _ e,fun b hb=>?_,DY _,fun A hA=>Walks.dictKeys (knd:=b9 prog w) hA _ d (D9 hm.lt_size) kvs ep,⟨⟨_,D0 _ rfl,rfl,rfl⟩,hm.push _⟩,hz,fun acc hacc=>?_⟩)
 ·rcases List.mem_cons.mp hb with rfl | hb
  ·exact .inr (DY _)
  ·exact .inl (List.mem_singleton.mp hb)
 ·exact hP _ (by rw [Ff]; exact hacc.1) fun i v e=>hacc.2 i v (by rw [← GE]; exact e)
theorem lT {P:Program}{w:World}:∀ {ss:List Str}{kvs:List (Key×Value)} {vs:List Value},kvs.map (·.1)=ss.map (Sum.inr:Str→Key)→vs.length=kvs.length→(∀ (i:Nat) v,vs[i]? = some v→∃ k x,kvs[i]? = some (k,x)∧(b9 P w).is k v=true)→StrsAre vs ss
 | [],kvs,vs,hk,hl,h=>by
  have e1:kvs=[]:=List.map_eq_nil_iff.mp hk
  subst e1
  have e2:vs=[]:=List.length_eq_zero_iff.mp hl
  subst e2
  exact .nil
 | x :: ss,[],vs,hk,hl,h=>by simp at hk
 | x :: ss,(k,y) :: kvs,[],hk,hl,h=>by simp at hl
 | x :: ss,(k,y) :: kvs,v :: vs,hk,hl,h=>by
  rw [DI,DI] at hk
  injection hk with hk1 hk2
  obtain ⟨k',x',e,hi⟩:=h 0 v rfl
  cases e
  have hk1':k=Sum.inr x:=hk1
  subst hk1'
  rcases b_ (show iG (Sum.inr x) v=true from hi) with ⟨i,t,e,_⟩ | ⟨z,t,e,rfl⟩ | ⟨e,_⟩
  ·cases e
  rotate_left
  ·cases e
  ·cases e
   exact .cons x t (lT hk2 (by simpa using hl) fun i v hv=>by simpa using h (i + 1) v (by simpa using hv))
theorem nO {X:Cx} (hc:X.calm=true):dc X (.builtin "sorted") Cu.oO:=by
 intro pins s σ H xs us Q I r h
 obtain ⟨p,kvs,ss,rfl,hp,hk,h64,q⟩:=h
 obtain ⟨u,rfl,ru⟩:=gz r
 cases ru
 obtain ⟨z,hd,vs,rel,dd⟩:=jv I.hok hp
 obtain ⟨ep,hat⟩:=dd.dictAt
 have hz:ss.length≤sizeLine:=D6 (E4 h64) (by decide)
 have hks:=rel.keys.symm.trans hk
 obtain ⟨o,es,ho,hx,_⟩:=id hat
 refine jm (ss0:=ss) h64 (fun R hR=>?_) fun D h' d' tk its' e kp hD hl hS'=>?_
 ·refine oj (T := "dict") (Pv:=fun us=>StrsAre us ss) (show X.A.in1.handled=none from I.ok.hd hc) ho hx.1 (by decide) (by decide) (fun A E s' Q hT hq=>PySem.W.kdl_hint_dict hT hq) (fun A E s' Q kp hq=>uO hd (hat.at' kp) (by rw [← rel.length]; exact z) (fun us h1 h2=>lT hks h1 h2) hq) fun h' d' tk us kp hsz hS=>hR h' d' tk us ss kp hsz hS (.refl _)
 ·exact ⟨.ref D,_,I.laidS kp hD hl hS' (by rw [(eN ss).length_eq]; exact hz),rfl,q D (I.hok.fresh hD)⟩
end L2
namespace L2.Cu
open PySem PySem.Spec PyProof.Rows
section
variable {X:Cx}{a b e:Expr}{p pos:Pos}{f g:DE→Option D}
def lV (x:D):Option D:=match x with
 | .dic kvs=>(qR kvs).bind fun ss=>if ss.length < 64 then some (.lst ((dA ss).map D.str)) else none
 | x=>vD x
theorem vM {K:PySem.W.Frag}:jD .F (fun xs H Q=>m9 K xs H Q∨oO xs H Q) lV:=fun F H v x d Q s rx h q=>by
 cases x with
 | dic kvs =>
  have h':(qR kvs).bind (fun ss=>if ss.length < 64 then some (D.lst ((dA ss).map D.str)) else none)=some d:=h
  cases hk:qR kvs with
  | none=>rw [hk] at h'; cases h'
  | some ss =>
   simp only [hk,DA] at h'
   split at h'
   ·rename_i h64
    cases h'
    obtain ⟨c,vs,rfl,hc,rk⟩:=OB.dic s rx
    exact .inr ⟨c,vs,ss,rfl,hc,rk.keys.trans (mh hk),h64,fun l hl=>q _ F _ (Ext.lay s hl) ⟨l,_,rfl,hl,aD,nofr s hl,Reps.ofStrs _⟩⟩
   ·cases h'
 | _=>exact .inl (tN F H v _ d Q s rx h q)
theorem w8 (hc:X.calm=true) (hg:Gl X "sorted") (hm:X.mg "sorted" = none) (hv:bootBuiltins "sorted" = some (.builtin "sorted")) (ha:Ev X .O e f) (he:aV e=true:=by rfl):Ev X .F (.Call (.Name "sorted" p) [e] [] pos) (un lV f) :=
 iP (dc.or pT (nO hc)) vM hg hm hv ha (by decide) (by decide) he
end
end L2.Cu
namespace L2
open PySem PySem.Spec PyProof.Rows
def RIt (b:Bool) (h:Heap) (it a:Addr) (i:Nat):Prop:=match b with
 | true=>h.IsListIter it a i
 | false=>h.IsTupleIter it a i
def RSq (b:Bool) (h:Heap) (a:Addr) (vs:Array Value):Prop:=match b with
 | true=>h.IsList a vs
 | false=>h.IsTuple a vs
theorem RIt.keep {b:Bool}{h h':Heap}{it a:Addr}{i:Nat} (x:RIt b h it a i) (k:∀ o,h.get? it=some o→h'.get? it=some o):RIt b h' it a i:=by
 cases b <;> exact let ⟨o,e,r⟩:=x; ⟨o,k o e,r⟩
theorem RSq.keep {b:Bool}{h h':Heap}{a:Addr}{vs:Array Value} (x:RSq b h a vs) (k:∀ o,h.get? a=some o→h'.get? a=some o):RSq b h' a vs:=by
 cases b <;> exact let ⟨o,e,r⟩:=x; ⟨o,k o e,r⟩
theorem RIt.obj {b:Bool}{h:Heap}{it a:Addr}{i:Nat} (x:RIt b h it a i):∃ o,h.get? it=some o∧∃ vs,o.data=.fields vs:=by
 cases b <;> exact let ⟨o,e,_,r⟩:=x; ⟨o,e,_,r⟩
section
variable {prog:Program}{w:World}{A:Around}{E:Value→Shared→Prop}{s:Shared}
theorem vt {it t:Addr}{i:Nat}{vs:Array Value}{x:Value}{Q:Value→Shared→Prop} (st:s.heap.IsTupleIter it t i) (ht:s.heap.IsTuple t vs) (hx:vs[i]? = some x)
  (q:∀ h',h'.IsTupleIter it t (i + 1)→Heap.SameBut it s.heap h'→Q x { s with heap:=h' }):wpAny (model prog w) A (Builtin.SmallTypes.nextOf (.ref it)) Q E s:=by
 obtain ⟨o,ho,hc,hd⟩:=id st
 obtain ⟨p,hp,_,n,hn⟩:=ht
 unfold Builtin.SmallTypes.nextOf
 refine DO (Fl (name:=Str.ofString "__next__") st.typeIs FE (Fm FE st.typeIs F.entry_tuple_iterator_next ?_ (F.args_tuple_iterator_next_1 _)))
 show wpAny _ _ (field (.ref it) 0 >>= _) _ _ s
 refine DO (EG ho hd (x:=.ref t) rfl ?_)
 show wpAny _ _ (if (Value.ref t == Value.none)=true then _ else field (.ref it) 1 >>= _) _ _ s
 rw [if_neg (show ¬ (Value.ref t == Value.none)=true from D4)]
 refine DO (EG ho hd (x:=.int i 0) rfl (DO (Fb hp hn ?_)))
 simp only [Ey,hx]
 exact DO (Gu ho hd (by simp) (DT ⟨x,rfl,DT (q _ ⟨_,Er _ ho (GO (FO hd _)),(Obj.cls_mapFields ..).trans hc,by rw [FO hd]; simp [rawInt]⟩ (G0 ..))⟩))
theorem xR {it t:Addr}{i:Nat}{vs:Array Value}{Q:Value→Shared→Prop} (hh:A.handled=none) (st:s.heap.IsTupleIter it t i) (ht:s.heap.IsTuple t vs) (hx:vs[i]? = none)
  (q:∀ h' e,Heap.ExtBut it s.heap h'→(∃ o,h'.get? e=some o∧o.cls=.type "StopIteration")→E (.ref e) { s with heap:=h' }):wpAny (model prog w) A (Builtin.SmallTypes.nextOf (.ref it)) Q E s:=by
 obtain ⟨o,ho,hc,hd⟩:=id st
 obtain ⟨p,hp,_,n,hn⟩:=ht
 unfold Builtin.SmallTypes.nextOf
 refine DO (Fl (name:=Str.ofString "__next__") st.typeIs FE (Fm FE st.typeIs F.entry_tuple_iterator_next ?_ (F.args_tuple_iterator_next_1 _)))
 show wpAny _ _ (field (.ref it) 0 >>= _) _ _ s
 refine DO (EG ho hd (x:=.ref t) rfl ?_)
 show wpAny _ _ (if (Value.ref t == Value.none)=true then _ else field (.ref it) 1 >>= _) _ _ s
 rw [if_neg (show ¬ (Value.ref t == Value.none)=true from D4)]
 refine DO (EG ho hd (x:=.int i 0) rfl (DO (Fb hp hn ?_)))
 simp only [Ey,hx]
 refine DO (G1 (DO (Gu ho hd (by simp) ?_)))
 show wpAny _ _ (newExc (.type "StopIteration") [] >>= _) _ _ _
 refine DO ?_
 simp only [newExc,newTuple]
 refine DO (EK (DO (m:=firstArgMember _ _) (wpAny_of_eq (a:=Value.none) (by first | rfl | (simp only [firstArgMember]; rfl)) (EK ?_ (by size_fits)))) (by size_fits))
 simp only [raiseNew]
 refine DO (wpAny_handled ?_)
 rw [show A.in1.handled=none from hh]
 exact DO (DT (wpAny_throw (q _ _ (((G0 ..).extBut.push _).push _) ⟨_,D0 _ rfl,rfl⟩)))
theorem oH {b:Bool}{it t:Addr}{i:Nat}{vs:Array Value}{x:Value}{Q:Value→Shared→Prop} (st:RIt b s.heap it t i) (ht:RSq b s.heap t vs) (hx:vs[i]? = some x)
  (q:∀ h',RIt b h' it t (i + 1)→Heap.SameBut it s.heap h'→Q x { s with heap:=h' }):wpAny (model prog w) A (Builtin.SmallTypes.nextOf (.ref it)) Q E s:=by
 cases b with
 | true=>exact wpAny_nextOf_list_item st ht hx q
 | false=>exact vt st ht hx q
theorem rK {b:Bool}{it t:Addr}{i:Nat}{vs:Array Value}{Q:Value→Shared→Prop} (hh:A.handled=none) (st:RIt b s.heap it t i) (ht:RSq b s.heap t vs) (hx:vs[i]? = none)
  (q:∀ h' e,Heap.ExtBut it s.heap h'→(∃ o,h'.get? e=some o∧o.cls=.type "StopIteration")→E (.ref e) { s with heap:=h' }):wpAny (model prog w) A (Builtin.SmallTypes.nextOf (.ref it)) Q E s:=by
 cases b with
 | true=>exact wpAny_nextOf_list_end hh st ht hx q
 | false=>exact xR hh st ht hx q
def cN (b:Bool) (a:Addr):Obj:=match b with
 | true=>{ cls:=.type "list_iterator",data:=.fields #[.ref a,.int 0 0] }
 | false=>{ cls:=.type "tuple_iterator",data:=.fields #[.ref a,.int 0 0] }
theorem m7 {b:Bool}{a it:Addr}{h:Heap} (e:h.get? it=some (cN b a)):RIt b h it a 0:=by
 cases b <;> exact ⟨_,e,rfl,rfl⟩
theorem oJ {b:Bool}{a:Addr}{vs:Array Value}{Q:Value→Shared→Prop} (h:RSq b s.heap a vs) (q:Q (.ref s.heap.objs.size) { s with heap:=s.heap.push (cN b a) }):wpAny (model prog w) A (pyIter (.ref a)) Q E s:=by
 cases b with
 | true=>exact wpAny_pyIter_list h q
 | false=>exact wpAny_pyIter_tuple h q
end
theorem cM {a b:Nat} (h:a ≠ b):@Ne Addr a b:=h
structure ZSt (so:List (Bool×Addr)) (m:Nat) (f0:Value) (i:Nat→Nat) (ws:List Value) (h:Heap):Prop where
 its:∀ (k:Nat) (b:Bool) (a:Addr),so[k]? = some (b,a)→RIt b h (m + k) a (i k)
 ti:h.get? (m + so.length)=some { cls:=.type "tuple",data:=.seq ((List.range so.length).map fun k=>Value.ref (m + k)).toArray }
 to:h.get? (m + so.length + 1)=some { cls:=.type "tuple",data:=.seq ws.toArray }
 lw:ws.length=so.length
 z:IsZip h (m + so.length + 2) (m + so.length) (m + so.length + 1) f0
section
variable {prog:Program}{w:World}{A:Around}{E:Value→Shared→Prop}{s:Shared}
theorem xZ {T:Addr}{ws:List Value}{x:Value}{k:Nat}{Q:Unit→Shared→Prop} (hn:ws.length≤sizeLine) (hT:s.heap.get? T=some { cls:=.type "tuple",data:=.seq ws.toArray })
  (h:∀ h',h'.get? T=some { cls:=.type "tuple",data:=.seq (ws.set k x).toArray }→Heap.SameBut T s.heap h'→Q () { s with heap:=h' }) :
  wpAny (model prog w) A (updateSeq T (·.setIfInBounds k x)) Q E s:=by
 refine Fu hT rfl (h _ ?_ (G0 ..)) (by simpa using hn) (by simp; omega)
 rw [Er _ hT rfl]
 simp [Obj.mapSeq]
theorem vF {α:Type _} (xs ws:List α) (k:Nat) (x:α) (hx:xs[k]? = some x) (hk:k < ws.length):(xs.take k ++ ws.drop k).set k x=xs.take (k + 1) ++ ws.drop (k + 1):=by
 have hk':k < xs.length:=(List.getElem?_eq_some_iff.mp hx).1
 rw [List.set_append_right _ _ (by simp; omega)]
 have e:k - (xs.take k).length=0:=by simp; omega
 rw [e,Gb hk,DD,List.take_succ,hx]
 simp
theorem xK {so:List (Bool×Addr)} {m:Nat}{i K:Nat}{ws xs:List Value}{Q:Value→Shared→Prop} (hh:A.handled=none) (hn:so.length≤sizeLine) (h0:so ≠ []) (hlt:∀ p ∈ so,p.2 < m) (st:ZSt so m .none (fun _=>i) ws s.heap)
  (hl:xs.length=K) (hK:K≤so.length) (hv:∀ (k:Nat) (b:Bool) (a:Addr),so[k]? = some (b,a)→∃ vs,RSq b s.heap a vs∧(k < K→vs[i]? = xs[k]?)∧(k=K→vs[i]? = none))
  (hQ:K=so.length→∀ h',ZSt so m (rawInt s.heap.objs.size) (fun _=>i + 1) xs h'→h'.get? s.heap.objs.size=some { cls:=.type "tuple",data:=.seq xs.toArray }→h'.objs.size=s.heap.objs.size + 1 →
   (∀ (c:Nat) o,(c < m∨m + so.length + 2 < c)→s.heap.get? c=some o→h'.get? c=some o)→Q (.ref s.heap.objs.size) { s with heap:=h' })
  (hE:K < so.length→∀ h' e,(∀ (c:Nat) o,(c < m∨m + so.length + 2 < c)→s.heap.get? c=some o→h'.get? c=some o)→(∃ o,h'.get? e=some o∧o.cls=.type "StopIteration")→E (.ref e) { s with heap:=h' }) :
  wpAny (model prog w) A (Builtin.«zip.__next__» ⟨[.ref (m + so.length + 2)],[]⟩) (fun fin s'=>∃ v,fin=.done (.ret v)∧Q v s') E s:=by
 have hz:=st.z
 show wpAny _ _ (field (.ref _) 2 >>= _) _ _ _
 refine DO (EG hz rfl (x:=.bool false) rfl ?_)
 show wpAny _ _ (field (.ref _) 3 >>= _) _ _ _
 refine DO (EG hz rfl (x:=.ref (m + so.length)) rfl ?_)
 refine DO (Fb st.ti rfl ?_)
 have he:((List.range so.length).map fun k=>Value.ref (m + k)).toArray.isEmpty=false:=by
  cases so with
  | nil=>exact absurd rfl h0
  | cons _ _=>simp
 simp only [he,Ed,FU]
 refine DO ?_
 unfold Builtin.SmallTypes.ownedTupleIsFree
 refine DO (EG hz rfl (x:=.none) rfl (DT ?_))
 simp only [if_true]
 refine DO (G1 ?_)
 refine DO (EG hz rfl (x:=.ref (m + so.length + 1)) rfl ?_)
 refine DO (Gn hz (by simp) fun h₁ hz₁ hs₁=>?_)
 replace hz₁:IsZip h₁ (m + so.length + 2) (m + so.length) (m + so.length + 1) .ellipsis:=hz₁
 have k₁:∀ c o,c ≠ m + so.length + 2→s.heap.get? c=some o→h₁.get? c=some o:=fun c o hc e=>hs₁.extBut _ _ hc e
 refine DO (wpAny_forIn_list _ (fun cg b s'=>∃ k h',k≤K∧cg=(((List.range so.length).map fun k=>Value.ref (m + k)).toArray.toList.zipIdx).drop k∧b=(none,())∧s'={ s with heap:=h' } ∧
  ZSt so m .ellipsis (fun j=>if j < k then i + 1 else i) (xs.take k ++ ws.drop k) h'∧h'.objs.size=s.heap.objs.size∧∀ (c:Nat) o,(c < m∨m + so.length + 2 < c)→s.heap.get? c=some o→h'.get? c=some o) _ ?_ ?_ _ _ ?_)
 ·intro x cg b s' hI
  refine EC fun hno=>?_
  obtain ⟨k,h',hk,hr,hb,hs,Z,hz',kk⟩:=hI
  subst hb hs
  apply hno
  clear hno
  have hkn:k < so.length:=by
   have:=ED List.length hr
   simp at this
   omega
  have hx0:(((List.range so.length).map fun k=>Value.ref (m + k)).toArray.toList.zipIdx)[k]? = some x:=by
   have:=ED (fun l=>l[0]?) hr
   simpa using this.symm
  have hx1:x=(.ref (m + k),k):=by
   simp [GI,hkn] at hx0
   exact hx0.symm
  have hr1:cg=(((List.range so.length).map fun k=>Value.ref (m + k)).toArray.toList.zipIdx).drop (k + 1):=by
   have:=ED List.tail hr
   simpa [List.tail_drop] using this
  subst hx1
  obtain ⟨⟨b,a⟩,hba⟩:∃ p,so[k]? = some p:=⟨so[k],DN hkn⟩
  have ham:(a:Nat) < m:=hlt (b,a) (EY hba)
  obtain ⟨vs,r0,v1,v2⟩:=hv k b a hba
  have r1:RSq b h' a vs:=r0.keep fun o e=>kk a o (.inl ham) e
  have i1:RIt b h' (m + k) a i:=by have:=Z.its k b a hba; simpa using this
  refine DO (wpAny_onRaise ?_)
  show wpAny _ _ (Builtin.SmallTypes.nextOf (.ref (m + k)) >>= _) _ _ _
  rcases Nat.lt_or_ge k K with hlk | hge
  ·have hxk:vs[i]? = some xs[k]:=by rw [v1 hlk]; exact DN (by omega)
   refine DO (oH (s:={ s with heap:=h' }) i1 r1 hxk fun h2 i2 s2=>DT ?_)
   have t2:=s2.extBut _ _ (show m + so.length + 1 ≠ m + k by first | omega | exact cM (by omega)) Z.to
   refine DO (Fb t2 rfl ?_)
   refine DO (xZ (s:={ s with heap:=h2 }) (by rw [Z.lw]; exact hn) t2 fun h3 t3 s3=>?_)
   refine DO (GG (DT ?_))
   refine ⟨k + 1,h3,by omega,hr1,rfl,rfl,⟨?_,?_,?_,?_,?_⟩,?_,?_⟩
   ·intro j b' a' hj
    have hjn:j < so.length:=(List.getElem?_eq_some_iff.mp hj).1
    have up:∀ c o,c ≠ m + k→c ≠ m + so.length + 1→h'.get? c=some o→h3.get? c=some o:=fun c o c1 c2 e=>s3.extBut _ _ c2 (s2.extBut _ _ c1 e)
    by_cases ejk:j=k
    ·subst ejk
     rw [hba] at hj
     cases hj
     rw [if_pos (Nat.lt_succ_self _)]
     exact i2.keep fun o e=>s3.extBut _ _ (by first | omega | exact cM (by omega)) e
    ·have q:=Z.its j b' a' hj
     have ee:(if j < k + 1 then i + 1 else i)=if j < k then i + 1 else i:=by
      by_cases h:j < k
      ·rw [if_pos h,if_pos (by omega)]
      ·rw [if_neg h,if_neg (by omega)]
     show RIt b' h3 (m + j) a' (if j < k + 1 then i + 1 else i)
     rw [ee]
     exact q.keep fun o e=>up _ o (by first | omega | exact cM (by omega)) (by first | omega | exact cM (by omega)) e
   ·exact s3.extBut _ _ (by first | omega | exact cM (by omega)) (s2.extBut _ _ (by first | omega | exact cM (by omega)) Z.ti)
   ·rw [← vF xs ws k xs[k] (DN (by omega)) (by rw [st.lw]; exact hkn)]
    exact t3
   ·have:=st.lw
    simp
    omega
   ·exact s3.extBut _ _ (by first | omega | exact cM (by omega)) (s2.extBut _ _ (by first | omega | exact cM (by omega)) Z.z)
   ·rw [s3.1,s2.1]; exact hz'
   ·exact fun c o hc e=>s3.extBut _ _ (by first | omega | exact cM (by omega)) (s2.extBut _ _ (by first | omega | exact cM (by omega)) (kk c o hc e))
  ·have hkK:k=K:=by omega
   refine DO (rK (s:={ s with heap:=h' }) hh i1 r1 (v2 hkK) fun h2 e s2 he=>?_)
   obtain ⟨oe,hoe,hce⟩:=he
   have hz2:IsZip h2 (m + so.length + 2) (m + so.length) (m + so.length + 1) .ellipsis:=s2 _ _ (by first | omega | exact cM (by omega)) Z.z
   have hez:e ≠ m + so.length + 2:=fun x=>by subst x; rw [hz2] at hoe; cases hoe; simp at hce
   exact Gn (s:={ s with heap:=h2 }) hz2 (by simp) fun h3 _ s3=>hE (by omega) h3 e (fun c o hc x=>s3.extBut _ _ (by first | omega | exact cM (by omega)) (s2 _ _ (by first | omega | exact cM (by omega)) (kk c o hc x))) ⟨oe,s3.extBut _ _ hez hoe,hce⟩
 ·intro b s' hI
  refine EC fun hno=>?_
  obtain ⟨k,h',hk,hr,hb,hs,Z,hz',kk⟩:=hI
  subst hb hs
  apply hno
  clear hno
  have hkn:so.length≤k:=by
   have:=ED List.length hr
   simp at this
   omega
  have hKn:K=so.length:=by omega
  have e1:xs.take k ++ ws.drop k=xs:=by rw [Fk (by omega),Gx (by rw [st.lw]; exact hkn),Ez]
  have e2:∀ (j:Nat) (b:Bool) (a:Addr),so[j]? = some (b,a)→RIt b h' (m + j) a (i + 1):=fun j b a hj=>by
   have hjn:j < so.length:=(List.getElem?_eq_some_iff.mp hj).1
   have:=Z.its j b a hj
   rwa [if_pos (show j < k by omega)] at this
  have t1:=Z.to
  rw [e1] at t1
  refine DO (Fb t1 rfl ?_)
  refine DO (wpAny_newTuple ?_ (by simp; omega))
  show wpAny _ _ (Builtin.SmallTypes.ownedTupleHandOut _ (.ref h'.objs.size) >>= _) _ _ _
  refine DO ?_
  unfold Builtin.SmallTypes.ownedTupleHandOut
  have z3:=DQ { cls:=.type "tuple",data:=.seq xs.toArray } Z.z
  refine DO (Gn (s:={ s with heap:=h'.push { cls:=.type "tuple",data:=.seq xs.toArray } }) z3 (by simp) fun h4 z4 s4=>?_)
  replace z4:IsZip h4 (m + so.length + 2) (m + so.length) (m + so.length + 1) (rawInt h'.objs.size):=z4
  refine Gn (s:={ s with heap:=h4 }) z4 (by simp) fun h5 z5 s5=>?_
  replace z5:IsZip h5 (m + so.length + 2) (m + so.length) (m + so.length + 1) (rawInt h'.objs.size):=z5
  have up:∀ (c:Nat) o,c ≠ m + so.length + 2→h'.get? c=some o→h5.get? c=some o:=fun c o hc e=>s5.extBut _ _ hc (s4.extBut _ _ hc (DQ _ e))
  have hzl:m + so.length + 2 < h'.objs.size:=DU Z.z
  have t5:=s5.extBut _ _ (show h'.objs.size ≠ m + so.length + 2 by first | omega | exact cM (by omega)) (s4.extBut _ _ (show h'.objs.size ≠ m + so.length + 2 by first | omega | exact cM (by omega)) (D0 _ rfl))
  have z8:h5.objs.size=h'.objs.size + 1:=by rw [s5.1,s4.1,Fs]
  refine DT ⟨_,rfl,?_⟩
  show Q (.ref h'.objs.size) _
  rw [hz'] at z5 t5 z8 ⊢
  exact hQ hKn h5 ⟨fun j b a hj=>(e2 j b a hj).keep fun o e=>by
   have hjn:j < so.length:=(List.getElem?_eq_some_iff.mp hj).1
   exact up _ o (by first | omega | exact cM (by omega)) e,up _ _ (by first | omega | exact cM (by omega)) Z.ti,up _ _ (by first | omega | exact cM (by omega)) t1,by omega,z5⟩ (by simpa using t5) z8 fun c o hc e=>up c o (by first | omega | exact cM (by omega)) (kk c o hc e)
 ·refine ⟨0,h₁,Ex _,rfl,rfl,rfl,⟨?_,?_,?_,?_,?_⟩,hs₁.1,fun c o hc e=>k₁ c o (by first | omega | exact cM (by omega)) e⟩
  ·intro j b a hj
   have hjn:j < so.length:=(List.getElem?_eq_some_iff.mp hj).1
   exact (st.its j b a hj).keep fun o e=>k₁ _ o (by first | omega | exact cM (by omega)) e
  ·exact k₁ _ _ (by first | omega | exact cM (by omega)) st.ti
  ·exact k₁ _ _ (by first | omega | exact cM (by omega)) st.to
  ·exact st.lw
  ·exact hz₁
theorem BJ {so:List (Bool×Addr)} {m:Nat}{T:Addr}{i:Nat→Nat}{ws:List Value}{elts:List Expr}{x1}{pos:Pos}{Q:Unit→Shared→Prop} (st:ZSt so m (rawInt T) i ws s.heap)
  (q:∀ h',ZSt so m .none i ws h'→Heap.SameBut (m + so.length + 2) s.heap h'→Q () { s with heap:=h' }):wpAny (model prog w) A (letOwnedTupleGo (.Tuple elts x1 pos) (.ref (m + so.length + 2)) (.ref T)) Q E s :=
 wpAny_letOwnedTupleGo_zip st.z fun h' z' s'=>q h' ⟨fun j b a hj=>(st.its j b a hj).keep fun o e=>by
  have hjn:j < so.length:=(List.getElem?_eq_some_iff.mp hj).1
  exact s'.extBut _ _ (by first | omega | exact cM (by omega)) e,s'.extBut _ _ (by first | omega | exact cM (by omega)) st.ti,s'.extBut _ _ (by first | omega | exact cM (by omega)) st.to,st.lw,z'⟩ s'
theorem rC {so:List (Bool×Addr)} {m:Nat}{i K:Nat}{ws xs:List Value}{Q:Option Value→Shared→Prop} (hh:A.handled=none) (hn:so.length≤sizeLine) (h0:so ≠ []) (hlt:∀ p ∈ so,p.2 < m) (st:ZSt so m .none (fun _=>i) ws s.heap)
  (hl:xs.length=K) (hK:K≤so.length) (hv:∀ (k:Nat) (b:Bool) (a:Addr),so[k]? = some (b,a)→∃ vs,RSq b s.heap a vs∧(k < K→vs[i]? = xs[k]?)∧(k=K→vs[i]? = none))
  (hQ:K=so.length→∀ h',ZSt so m (rawInt s.heap.objs.size) (fun _=>i + 1) xs h'→h'.get? s.heap.objs.size=some { cls:=.type "tuple",data:=.seq xs.toArray }→h'.objs.size=s.heap.objs.size + 1 →
   (∀ (c:Nat) o,(c < m∨m + so.length + 2 < c)→s.heap.get? c=some o→h'.get? c=some o)→Q (some (.ref s.heap.objs.size)) { s with heap:=h' })
  (hE:K < so.length→∀ h',(∀ (c:Nat) o,(c < m∨m + so.length + 2 < c)→s.heap.get? c=some o→h'.get? c=some o)→Q none { s with heap:=h' }) :
  wpAny (model prog w) A (pyNext (.ref (m + so.length + 2))) Q E s:=by
 have hT:s.TypeIs (.ref (m + so.length + 2)) "zip" := ⟨_,st.z,rfl⟩
 unfold pyNext
 refine DO (wpAny_attempt (Fl (name:=Str.ofString "__next__") hT F.slot_zip_next (Fm F.slot_zip_next hT F.entry_zip_next
  (xK (A:=A.in1) hh hn h0 hlt st hl hK hv (fun e h' a1 a2 a3 a4=>DT (hQ e h' a1 a2 a3 a4)) fun e h' x kk hx=>?_) (F.args_zip_next_1 _))))
 obtain ⟨o,ho,hc⟩:=hx
 exact DO (wpAny_isInstance (T := "StopIteration") (b:=true) ⟨o,ho,hc⟩ isSubtype_stop (DT (hE e h' kk)))
end
def SqB (K:PySem.W.Frag) (b:Bool) (H:Hp) (a:Addr) (xs:List V):Prop:=match b with
 | true=>SqL K H a xs
 | false=>SqT K H a xs
theorem Inv.sqB {X:Cx}{pins:List (Addr×Obj)} {σ:St}{H:Hp}{s:Shared}{b:Bool}{a:Addr}{xs:List V} (I:Inv X pins σ H s) (h:SqB X.K b H a xs):∃ its:List Value,a_ xs its∧RSq b s.heap a its.toArray:=by
 cases b with
 | true=>obtain ⟨its,r,p,_⟩:=I.list h; exact ⟨its,r,p.isList⟩
 | false=>obtain ⟨its,r,p,_⟩:=I.tuple h; exact ⟨its,r,p⟩
theorem Inv.sqB_inj {X:Cx}{pins:List (Addr×Obj)} {σ:St}{H:Hp}{s:Shared}{b:Bool}{a:Addr}{xs ys:List V} (I:Inv X pins σ H s) (h:SqB X.K b H a xs) (h':SqB X.K b H a ys):xs=ys:=by
 cases b with
 | true=>exact I.list_inj h h'
 | false=>exact I.tuple_inj h h'
theorem Inv.turnedN {X:Cx}{pins:List (Addr×Obj)} {σ:St}{H:Hp}{s:Shared}{h':Heap}{t':Nat}{fp:List Addr} (I:Inv X pins σ H s) (k:∀ b o,b ∉ fp→s.heap.get? b=some o→h'.get? b=some o) (hf:∀ b ∈ fp,ip X pins H b):Inv X pins σ H { s with heap:=h',toks:=t' }:=by
 have nit:∀ b u,H b=some u→b ∉ fp:=fun b u e z=>by rw [(hf b z).1] at e; cases e
 refine I.step (g':=s.gens) (d':=s.drawn) (ch:=fp) (fun b hb=>?_) (fun b o _ _ hc e _=>k b o hc e) (fun b o _ _ hc e _=>⟨o.slots,k b o hc e⟩) (fun _ _ _ _ n=>n)
  (fun b o hc e=>⟨o,k b o hc e⟩) (fun _ _ e=>e) (fun _ _ _ e=>e) (fun b ps e=>⟨#[],by rw [e]; simp⟩) (fun m hm=>?_) (fun b u e=>?_) I.bare
 ·obtain ⟨_,f1,_,f3,f4,f5⟩:=hf b hb
  exact ⟨f3,f1,f4,f5⟩
 ·obtain ⟨o,es,ep,ho,r⟩:=hm
  exact ⟨o,es,ep,k _ o (fun z=>(hf _ z).2.1 rfl) ho,r⟩
 ·refine (I.hok b u e).stay (fun c v hc q=>k c v ?_ q) (fun _ q=>q) fun _ _ q=>q
  rcases hc with z | z
  ·rw [z]; exact nit b u e
  ·exact nit c _ z
def Itz (K:PySem.W.Frag) (so:List (Bool×Addr)):It :=
  ⟨fun i H=>∃ xs:List V,xs.length=so.length∧∀ (k:Nat) (b:Bool) (a:Addr),so[k]? = some (b,a)→∃ ys,SqB K b H a ys∧ys[i]? = xs[k]?,
   fun i H x H'=>∃ (T:Addr) (xs:List V),x=.ref T∧H T=none∧H'=upd H T (.tup xs)∧xs.length=so.length∧∀ (k:Nat) (b:Bool) (a:Addr),so[k]? = some (b,a)→∀ ys,SqB K b H a ys→ys[i]? = xs[k]?,
   fun i H=>∃ k0,k0 < so.length∧∀ (k:Nat) (b:Bool) (a:Addr),so[k]? = some (b,a)→∃ ys,SqB K b H a ys∧(k < k0→i < ys.length)∧(k=k0→ys.length≤i)⟩
theorem fw {α:Type _}{P:Nat→α→Prop}:∀ (n:Nat),(∀ k,k < n→∃ u,P k u)→∃ us:List α,us.length=n∧∀ (k:Nat) u,us[k]? = some u→P k u
 | 0,_=>⟨[],rfl,fun k u e=>by simp at e⟩
 | n + 1,h=>by
  obtain ⟨us,hl,hp⟩:=fw n fun k hk=>h k (by omega)
  obtain ⟨u,hu⟩:=h n (by omega)
  refine ⟨us ++ [u],by simp [hl],fun k v e=>?_⟩
  by_cases hk:k < us.length
  ·rw [Fw hk] at e; exact hp k v e
  ·rw [F0 (by omega)] at e
   have:k - us.length=0:=by
    have:=(List.getElem?_eq_some_iff.mp e).1
    simp at this
    omega
   rw [this] at e
   cases e
   have:k=n:=by omega
   subst this
   exact hu
theorem rD:∀ {xs:List V}{us:List Value},xs.length=us.length→(∀ (k:Nat) x u,xs[k]? = some x→us[k]? = some u→bh x u)→a_ xs us
 | [],[],_,_=>.nil
 | x :: xs,u :: us,hl,h=>.cons (h 0 x u rfl rfl) (rD (by simpa using hl) fun k a b e1 e2=>h (k + 1) a b (by simpa using e1) (by simpa using e2))
 | [],_ :: _,hl,_=>by simp at hl
 | _ :: _,[],hl,_=>by simp at hl
abbrev zfp (so:List (Bool×Addr)) (m:Nat):List Addr:=(List.range (so.length + 3)).map (m + ·)
theorem dj {so:List (Bool×Addr)} {m:Nat}{b:Nat}:b ∈ zfp so m ↔ m≤b∧b≤m + so.length + 2:=by
 simp only [List.mem_map,Fj]
 exact ⟨fun ⟨k,h,e⟩=>by subst e; omega,fun h=>⟨b - m,by omega,by omega⟩⟩
theorem vo {P:Program}{w:World}{K:PySem.W.Frag}{elts:List Expr}{x1}{pos:Pos} (so:List (Bool×Addr)) (m:Nat) (hn:so.length≤sizeLine) (h0:so ≠ []) (hlt:∀ p ∈ so,p.2 < m) :
  nU P w K (.Tuple elts x1 pos) (Itz K so) (zfp so m) (m + so.length + 2) (fun i h=>∃ ws,ZSt so m .none (fun _=>i) ws h) where
 mem:=dj.mpr (by omega)
 obj:=fun i h zz114_0 (b:Nat) hb=>by
  obtain ⟨ws,st⟩:=zz114_0
  have hb:m≤b∧b≤m + so.length + 2:=dj.mp hb
  by_cases h1:b < m + so.length
  ·obtain ⟨k,hk⟩:∃ k,b=m + k:=⟨b - m,by omega⟩
   subst hk
   obtain ⟨o,e,vs,d⟩:=(st.its k (so[k]'(by omega)).1 (so[k]'(by omega)).2 (DN _)).obj
   exact ⟨o,e,fun v z=>by rw [d] at z; cases z⟩
  ·by_cases h2:b=m + so.length
   ·subst h2; exact ⟨_,st.ti,fun v z=>by have z':Data.seq _ _=Data.cell v:=z; cases z'⟩
   ·by_cases h3:b=m + so.length + 1
    ·subst h3; exact ⟨_,st.to,fun v z=>by have z':Data.seq _ _=Data.cell v:=z; cases z'⟩
    ·have h4:b=m + so.length + 2:=by omega
     subst h4; exact ⟨_,st.z,fun v z=>by have z':Data.fields _=Data.cell v:=z; cases z'⟩
 keep:=fun i h h' ⟨ws,st⟩ k=>⟨ws,fun j b a hj=>(st.its j b a hj).keep fun o e=>by
  have hjn:j < so.length:=(List.getElem?_eq_some_iff.mp hj).1
  exact k _ (dj.mpr (by omega)) o e,k _ (dj.mpr (by omega)) _ st.ti,k _ (dj.mpr (by omega)) _ st.to,st.lw,k _ (dj.mpr (by omega)) _ st.z⟩
 item:=by
  intro X hP hw hK hc i pins s σ H E I hf ⟨ws,st⟩ hg
  subst hP hw hK
  obtain ⟨xs,hxl,hx⟩:=hg
  obtain ⟨us,hul,hu⟩:=fw (P:=fun k u=>∃ x,xs[k]? = some x∧bh x u∧∀ b a,so[k]? = some (b,a)→∃ vs:Array Value,RSq b s.heap a vs∧vs[i]? = some u) so.length fun k hk=>by
   obtain ⟨ys,q,e⟩:=hx k (so[k]'hk).1 (so[k]'hk).2 (DN hk)
   obtain ⟨its,rv,p⟩:=I.sqB q
   have e2:xs[k]? = some (xs[k]'(by omega)):=DN _
   obtain ⟨u,hu,ru⟩:=rv.get (e.trans e2)
   refine ⟨u,_,e2,ru,fun b a hba=>⟨its.toArray,?_,by simpa using hu⟩⟩
   have e3:=(DN hk).symm.trans hba
   rw [DR e3] at p
   exact p
  have hvals:a_ xs us:=rD (by omega) fun k x u e1 e2=>by
   obtain ⟨x',e3,r,_⟩:=hu k u e2
   rw [e1] at e3; cases e3; exact r
  refine rC (xs:=us) (K:=so.length) (I.ok.hd hc) hn h0 hlt st hul (DY _) (fun k b a hba=>?_) (fun _ h' st' t' z' kk=>?_) (fun hlt=>absurd hlt (ER _))
  ·have hk:k < so.length:=(List.getElem?_eq_some_iff.mp hba).1
   have e2:us[k]? = some (us[k]'(by omega)):=DN _
   obtain ⟨x,_,_,q⟩:=hu k _ e2
   obtain ⟨vs,r,e⟩:=q b a hba
   exact ⟨vs,r,fun _=>by rw [e,e2],fun z=>by omega⟩
  ·refine ⟨_,rfl,BJ (s:={ s with heap:=h' }) st' fun h2 st2 s2=>?_⟩
   have hT:H s.heap.objs.size=none:=I.fresh
   have hfl:∀ b ∈ zfp so m,b < s.heap.objs.size:=fun b hb=>GQ (dj.mp hb).2 (DU st.z)
   have hf1:∀ b ∈ zfp so m,ip X pins (upd H s.heap.objs.size (.tup xs)) b:=fun b hb=>⟨by rw [av (D9 (hfl b hb))]; exact (hf b hb).1,(hf b hb).2⟩
   have I1:Inv X pins σ (upd H s.heap.objs.size (.tup xs)) { s with heap:=s.heap.push { cls:=.type "tuple",data:=.seq us.toArray } }:=I.laid (t':=s.toks) (fun b u e=>DQ _ e) (DY _)
    ⟨by omega,us,hvals,⟨_,D0 _ rfl,rfl,_,rfl⟩⟩
   have I2:Inv X pins σ (upd H s.heap.objs.size (.tup xs)) { s with heap:=h2 }:=I1.turnedN (t':=s.toks) (h':=h2) (fun (b:Nat) o hb e=>by
    have hbz:b ≠ m + so.length + 2:=fun z=>hb (dj.mpr (by omega))
    refine s2.extBut _ _ hbz ?_
    rcases Heap.get?_push_cases e with ⟨e1,e2⟩ | e'
    ·subst e1 e2
     exact t'
    ·exact kk b o (by have:¬ (m≤b∧b≤m + so.length + 2):=mt dj.mpr hb; omega) e') hf1
   refine ⟨.ref s.heap.objs.size,_,I2,rfl,⟨_,xs,rfl,hT,rfl,hxl,fun k b a hba ys hy=>?_⟩,⟨_,st2⟩,fun b hb=>(hf1 b hb).1⟩
   obtain ⟨ys',q,e⟩:=hx k b a hba
   rw [I.sqB_inj hy q]
   exact e
 done:=by
  intro X hP hw hK hc i pins s σ H E I hf ⟨ws,st⟩ hg
  subst hP hw hK
  obtain ⟨k0,hk0,hx⟩:=hg
  obtain ⟨us,hul,hu⟩:=fw (P:=fun k u=>∀ b a,so[k]? = some (b,a)→∃ vs:Array Value,RSq b s.heap a vs∧vs[i]? = some u) k0 fun k hk=>by
   obtain ⟨ys,q,e,_⟩:=hx k (so[k]'(by omega)).1 (so[k]'(by omega)).2 (DN _)
   obtain ⟨its,rv,p⟩:=I.sqB q
   obtain ⟨u,hu,ru⟩:=rv.get (DN (e hk))
   refine ⟨u,fun b a hba=>⟨its.toArray,?_,by simpa using hu⟩⟩
   have e3:=(DN (show k < so.length by omega)).symm.trans hba
   rw [DR e3] at p
   exact p
  refine rC (xs:=us) (K:=k0) (I.ok.hd hc) hn h0 hlt st hul (E4 hk0) (fun k b a hba=>?_) (fun z=>by omega) (fun _ h' kk=>⟨rfl,I.turnedN (t':=s.toks) (fun (b:Nat) o hb e=>kk b o (by have:¬ (m≤b∧b≤m + so.length + 2):=mt dj.mpr hb; omega) e) hf⟩)
  have hk:k < so.length:=(List.getElem?_eq_some_iff.mp hba).1
  by_cases hkk:k < k0
  ·have e2:us[k]? = some (us[k]'(by omega)):=DN _
   obtain ⟨vs,r,e⟩:=hu k _ e2 b a hba
   exact ⟨vs,r,fun _=>by rw [e,e2],fun z=>by omega⟩
  ·obtain ⟨ys,q,_,e⟩:=hx k b a hba
   obtain ⟨its,rv,p⟩:=I.sqB q
   exact ⟨_,p,fun z=>absurd z hkk,fun z=>by
    have:=e z
    have:=rv.length
    simp
    omega⟩
 self:=fun A i s Q E zz116_0 h=>by obtain ⟨ws,st⟩:=zz116_0; exact wpAny_pyIter_zip st.z h
def BH (a b:Addr):Obj:={ cls:=.type "zip",data:=.fields #[.none,.bool false,.bool false,.ref a,.ref b] }
def sV (vs:List Value):Obj:={ cls:=.type "tuple",data:=.seq vs.toArray }
abbrev zn2 (h:Heap) (b1 b2:Bool) (l1 l2:Addr):Heap:=((((h.push (cN b1 l1)).push (cN b2 l2)).push (sV [.ref h.objs.size,.ref (h.push (cN b1 l1)).objs.size])).push (sV [.none,.none]))
abbrev zl2 (h:Heap) (b1 b2:Bool) (l1 l2:Addr):Heap:=(zn2 h b1 b2 l1 l2).push (BH ((h.push (cN b1 l1)).push (cN b2 l2)).objs.size (((h.push (cN b1 l1)).push (cN b2 l2)).push (sV [.ref h.objs.size,.ref (h.push (cN b1 l1)).objs.size])).objs.size)
theorem BI (b1 b2:Bool) (l1 l2:Addr) (xs ys:Array Value) :
  Meets (Builtin.«zip.__new__» ⟨[.type "zip",.ref l1,.ref l2],[]⟩) (fun _ R s=>RSq b1 s.heap l1 xs∧RSq b2 s.heap l2 ys ∧
   R (.ok (.ret (.ref (zn2 s.heap b1 b2 l1 l2).objs.size))) { s with heap:=zl2 s.heap b1 b2 l1 l2 }) :=
 .of_wp fun prog w A R s h=>by
  obtain ⟨hp,g,d,tk,os⟩:=s; obtain ⟨hl1,hl2,h⟩:=h
  have hsub:=sub_zip
  have hL1:RSq b1 (Shared.heap ⟨hp,g,d,tk,os⟩) l1 xs:=hl1
  have hL2:RSq b2 (Shared.heap ⟨hp.push (cN b1 l1),g,d,tk,os⟩) l2 ys:=hl2.keep fun o e=>DQ _ e
  wp_walk using oJ hL1,oJ hL2
  exact ⟨_,rfl,h⟩
section
variable {prog:Program}{w:World}{A:Around}{E:Value→Shared→Prop}{s:Shared}
theorem zY {b1 b2:Bool}{l1 l2:Addr}{xs ys:Array Value}{Q:Value→Shared→Prop} (hl1:RSq b1 s.heap l1 xs) (hl2:RSq b2 s.heap l2 ys)
  (h:∀ h',ZSt [(b1,l1),(b2,l2)] s.heap.objs.size .none (fun _=>0) [.none,.none] h'→(∀ c o,s.heap.get? c=some o→h'.get? c=some o)→Q (.ref (s.heap.objs.size + 2 + 2)) { s with heap:=h' }) :
  wpAny (model prog w) A (call (.type "zip") [.ref l1,.ref l2]) Q E s:=by
 refine callType_new F.called_zip (by decide) (F.typeCall_zip_2 _ _) (F.newCall_zip_2 _ _) (fun obj=>F.args_object_init_3 obj _ _) F.entry_zip_new (BI b1 b2 l1 l2 xs ys) ⟨hl1,hl2,?_⟩
 have up:∀ {hp:Heap}{c:Addr}{o u:Obj},hp.get? c=some u→(hp.push o).get? c=some u:=fun e=>DQ _ e
 have z1:(s.heap.push (cN b1 l1)).objs.size=s.heap.objs.size + 1:=Fs ..
 have z2:((s.heap.push (cN b1 l1)).push (cN b2 l2)).objs.size=s.heap.objs.size + 2:=by rw [Fs,z1]
 have z3:(((s.heap.push (cN b1 l1)).push (cN b2 l2)).push (sV [.ref s.heap.objs.size,.ref (s.heap.push (cN b1 l1)).objs.size])).objs.size=s.heap.objs.size + 3:=by rw [Fs,z2]
 have z4:(zn2 s.heap b1 b2 l1 l2).objs.size=s.heap.objs.size + 4:=by rw [Fs,z3]
 have f1:∀ b l,(cN b l).isFreed=false:=fun b l=>by cases b <;> rfl
 have g1:(zl2 s.heap b1 b2 l1 l2).get? s.heap.objs.size=some (cN b1 l1):=up (up (up (up (D0 _ (f1 _ _)))))
 have g2:(zl2 s.heap b1 b2 l1 l2).get? (s.heap.objs.size + 1)=some (cN b2 l2):=by rw [← z1]; exact up (up (up (D0 _ (f1 _ _))))
 have g3:(zl2 s.heap b1 b2 l1 l2).get? (s.heap.objs.size + 2)=some (sV [.ref s.heap.objs.size,.ref (s.heap.objs.size + 1)]):=by rw [← z2,← z1]; exact up (up (D0 _ rfl))
 have g4:(zl2 s.heap b1 b2 l1 l2).get? (s.heap.objs.size + 3)=some (sV [.none,.none]):=by rw [← z3]; exact up (D0 _ rfl)
 have g5:(zl2 s.heap b1 b2 l1 l2).get? (s.heap.objs.size + 4)=some (BH (s.heap.objs.size + 2) (s.heap.objs.size + 3)):=by rw [← z4,← z3,← z2]; exact D0 _ rfl
 show _∧_
 rw [z4]
 refine ⟨⟨_,g5,rfl⟩,h _ ⟨fun k b a hk=>?_,?_,g4,rfl,g5⟩ fun c o e=>up (up (up (up (up e))))⟩
 ·match k,hk with
  | 0,hk=>cases hk; exact m7 g1
  | 1,hk=>cases hk; exact m7 g2
 ·exact g3
end
def sqI (K:PySem.W.Frag) (H:Hp) (p:Bool×Addr):Prop:=∃ ys,SqB K p.1 H p.2 ys
def Dj (K:PySem.W.Frag) (n:Nat) (ta:TA):TI:=fun σ H R=>ta σ H fun vs H1=>∃ so:List (Bool×Addr),so.length=n∧vs=so.map (fun p=>V.ref p.2)∧(∀ p ∈ so,sqI K H1 p)∧R (Itz K so) H1
theorem qo {b:Bool}{h:Heap}{a:Addr}{vs:Array Value} (x:RSq b h a vs):a < h.objs.size:=by
 cases b <;> exact let ⟨o,e,_⟩:=x; DU e
theorem yr {X:Cx}{elts:List Expr}{x1}{tp:Pos}{a b:Expr}{ta:TA}{p pos:Pos} (hg:Gl X "zip") (hm:X.mg "zip" = none) (ha:PA X [a,b] ta) (hs:starEach [a,b] X.env=[(false,eval a X.env),(false,eval b X.env)]:=by rfl) (hs2:starEach [b] X.env=[(false,eval b X.env)]:=by rfl) :
  PI X (.Tuple elts x1 tp) (.Call (.Name "zip" p) [a,b] [] pos) (Dj X.K 2 ta):=by
 intro pins s σ H R I h
 refine Call_ (eW I hg hm boot_zip (Eu (thn (ha pos pins s σ H _ I h) fun us s1 zz117_0=>?_) (by rw [hs,hs2]) (by rw [hs2]; rfl)))
 obtain ⟨vs,H1,I1,r1,q1⟩:=zz117_0
 obtain ⟨so,hl,e,hq,q⟩:=q1
 match so,hl with
 | [(b1,l1),(b2,l2)],_ =>
  subst e
  obtain ⟨ys1,y1⟩:=hq (b1,l1) (by simp)
  obtain ⟨ys2,y2⟩:=hq (b2,l2) (by simp)
  obtain ⟨i1,_,p1⟩:=I1.sqB y1
  obtain ⟨i2,_,p2⟩:=I1.sqB y2
  obtain ⟨u,v,e,ru,rv⟩:=a_.two r1
  subst e
  cases ru
  cases rv
  refine zY p1 p2 fun h' st kk=>wpAny_pyIter_zip (s:={ s1 with heap:=h' }) st.z ?_
  refine ⟨_,zfp [(b1,l1),(b2,l2)] s1.heap.objs.size,_,_,H1,rfl,I1.kept (t':=s1.toks) kk,vo _ _ (by show 2≤sizeLine; decide) (by simp) (fun p hp=>?_),⟨_,st⟩,fun c hc=>I1.fpOk (dj.mp hc).1 (I1.hok.fresh (dj.mp hc).1),q⟩
  rcases List.mem_cons.mp hp with z | hp
  ·rw [z]; exact qo p1
  ·have z:p=(b2,l2):=by simpa using hp
   rw [z]; exact qo p2
end L2
namespace L2.Cu
open PySem PySem.Spec PyProof.Rows
def RpB (F:Hp) (p:Bool×Addr) (ds:List D):Prop:=∃ vs,F p.2=some (bif p.1 then .lst vs else .tup vs)∧Reps F vs ds
theorem RpB.sq {K:PySem.W.Frag}{F H:Hp}{p:Bool×Addr}{ds:List D} (h:RpB F p ds) (s:∀ a o,F a=some o→H a=some o):∃ vs,SqB K p.1 H p.2 vs∧Reps F vs ds:=by
 obtain ⟨vs,e,r⟩:=h
 obtain ⟨b,a⟩:=p
 cases b with
 | true=>exact ⟨vs,SqL.of (s _ _ e),r⟩
 | false=>exact ⟨vs,SqT.of (s _ _ e),r⟩
theorem RpB.mono {F F':Hp}{p:Bool×Addr}{ds:List D} (h:RpB F p ds) (y:Fr F F'):RpB F' p ds:=by
 obtain ⟨vs,e,r⟩:=h
 exact ⟨vs,y _ _ e,r.mono y⟩
theorem qp {F:Hp}{v:V}{d:D}{ds:List D} (r:Rep F v d) (h:bW d=some ds):∃ b a,v=.ref a∧RpB F (b,a) ds:=by
 cases d with
 | lst xs=>cases h; cases r with | lst e rs=>exact ⟨true,_,rfl,_,e,rs⟩
 | tup xs=>cases h; cases r with | tup e rs=>exact ⟨false,_,rfl,_,e,rs⟩
 | _=>cases h
theorem rL {F:Hp}:∀ {vs:List V}{ds:List D},vs.length=ds.length→(∀ (k:Nat) v d,vs[k]? = some v→ds[k]? = some d→Rep F v d)→Reps F vs ds
 | [],[],_,_=>.nil
 | x :: xs,u :: us,hl,h=>.cons (h 0 x u rfl rfl) (rL (by simpa using hl) fun k a b e1 e2=>h (k + 1) a b (by simpa using e1) (by simpa using e2))
 | [],_ :: _,hl,_=>by simp at hl
 | _ :: _,[],hl,_=>by simp at hl
def xB (srcs:List (List D)) (xs:List D):Prop:=∀ i:Nat,
 (xs.length=i→∃ k0,k0 < srcs.length∧∀ (k:Nat) ds,srcs[k]? = some ds→(k < k0→i < ds.length)∧(k=k0→ds.length≤i)) ∧
 ∀ d,xs[i]? = some d→∃ row,d=.tup row∧row.length=srcs.length∧∀ (k:Nat) ds,srcs[k]? = some ds→ds[i]? = row[k]?
theorem Ba {K:PySem.W.Frag}{F:Hp}{so:List (Bool×Addr)} {srcs:List (List D)} {xs:List D} (hl:so.length=srcs.length) (hr:∀ (k:Nat) p ds,so[k]? = some p→srcs[k]? = some ds→RpB F p ds) (ok:xB srcs xs):qb F (Itz K so) xs:=by
 intro i F2 H2 y s
 have src:∀ {k:Nat}{p:Bool×Addr},so[k]? = some p→∃ ds,srcs[k]? = some ds:=fun {k p} e=>⟨srcs[k]'(by have:=(List.getElem?_eq_some_iff.mp e).1; omega),DN _⟩
 refine ⟨fun hx=>?_,fun d hd=>?_⟩
 ·obtain ⟨k0,h0,q⟩:=(ok i).1 hx
  refine ⟨k0,by omega,fun k b a e=>?_⟩
  obtain ⟨ds,e2⟩:=src e
  obtain ⟨vs,sq,rs⟩:=((hr k _ ds e e2).mono y).sq (K:=K) s
  have:=rs.length
  have q:=q k ds e2
  exact ⟨vs,sq,fun z=>by have:=q.1 z; omega,fun z=>by have:=q.2 z; omega⟩
 ·obtain ⟨row,rfl,hrl,q⟩:=(ok i).2 d hd
  refine ⟨?_,fun x H' yl=>?_⟩
  ·obtain ⟨ws,hwl,hw⟩:=fw (P:=fun k v=>∀ b a,so[k]? = some (b,a)→∃ ys,SqB K b H2 a ys∧ys[i]? = some v) so.length fun k hk=>by
    have e:so[k]? = some so[k]:=DN hk
    obtain ⟨ds,e2⟩:=src e
    obtain ⟨vs,sq,rs⟩:=((hr k _ ds e e2).mono y).sq (K:=K) s
    have e3:=q k ds e2
    rw [DN (show k < row.length by omega)] at e3
    obtain ⟨v,hv,_⟩:=rs.get e3
    refine ⟨v,fun b a hba=>?_⟩
    have e4:=e.symm.trans hba
    rw [DR e4] at sq
    exact ⟨vs,sq,hv⟩
   refine ⟨ws,hwl,fun k b a e=>?_⟩
   have hk:k < so.length:=(List.getElem?_eq_some_iff.mp e).1
   have e5:ws[k]? = some (ws[k]'(by omega)):=DN _
   obtain ⟨ys,sq,z⟩:=hw k _ e5 b a e
   exact ⟨ys,sq,by rw [z,e5]⟩
  ·obtain ⟨T,ws,rfl,hT,rfl,hwl,hw⟩:=yl
   refine ⟨upd F2 T (.tup ws),Ext.freeze s hT,?_⟩
   have X:=Ext.freeze (o:=.tup ws) s hT
   refine Rep.tup aD (rL (by omega) fun k v d ev ed=>?_)
   have hk:k < so.length:=by have:=(List.getElem?_eq_some_iff.mp ev).1; omega
   have e:so[k]? = some so[k]:=DN hk
   obtain ⟨ds,e2⟩:=src e
   obtain ⟨vs,sq,rs⟩:=((hr k _ ds e e2).mono y).sq (K:=K) s
   have e3:=q k ds e2
   rw [ed] at e3
   obtain ⟨v',hv',rv⟩:=rs.get e3
   have e6:=hw k _ _ e vs sq
   rw [hv',ev] at e6
   cases e6
   exact rv.mono X.fr
theorem B3 (xs ys:List D):xB [xs,ys] (List.zipWith (fun a b=>D.tup [a,b]) xs ys):=by
 intro i
 refine ⟨fun h=>?_,fun d hd=>?_⟩
 ·rw [List.length_zipWith] at h
  by_cases hx:xs.length≤i
  ·exact ⟨0,by simp,fun k ds e=>⟨fun z=>by omega,fun z=>by subst z; cases e; exact hx⟩⟩
  ·refine ⟨1,by simp,fun k ds e=>⟨fun z=>?_,fun z=>?_⟩⟩
   ·have:k=0:=by omega
    subst this; cases e; omega
   ·subst z; cases e; omega
 ·rw [List.getElem?_zipWith] at hd
  cases hx:xs[i]? with
  | none=>rw [hx] at hd; cases hd
  | some x =>
   cases hy:ys[i]? with
   | none=>rw [hx,hy] at hd; cases hd
   | some y =>
    rw [hx,hy] at hd
    cases hd
    refine ⟨[x,y],rfl,rfl,fun k ds e=>?_⟩
    match k,e with
    | 0,e=>cases e; exact hx
    | 1,e=>cases e; exact hy
def sZ (ds:List D):Option (List D):=match ds with
 | [a,b]=>(bW a).bind fun xs=>(bW b).bind fun ys=>some (List.zipWith (fun a b=>D.tup [a,b]) xs ys)
 | _=>none
theorem sY {ds xs:List D} (h:sZ ds=some xs):∃ a b,ds=[a,b]:=by
 unfold sZ at h
 split at h
 ·exact ⟨_,_,rfl⟩
 ·cases h
def mS (f:DE→Option (List D)) (E:DE):Option (List D):=(f E).bind sZ
section
variable {X:Cx}{pos:Pos}
theorem nL {elts:List Expr}{x1}{tp:Pos}{a b:Expr}{f:DE→Option (List D)} {p:Pos} (hg:Gl X "zip") (hm:X.mg "zip" = none) (ha:Ea X [a,b] f) (hs:aV a=true:=by rfl) (hs2:aV b=true:=by rfl):Ei X (.Tuple elts x1 tp) (.Call (.Name "zip" p) [a,b] [] pos) (mS f) :=
 PI.by (yr hg hm ha.h (by rw [aF a [b] X.env hs,aF b [] X.env hs2]; rfl) (aF b [] X.env hs2)) fun σ H R zz118_0=>by
  obtain ⟨B,F,E,xs,k,q,w⟩:=zz118_0
  unfold mS at q
  cases hf:f E with
  | none=>simp [hf] at q
  | some ds =>
   rw [hf] at q
   refine ⟨B,F,E,ds,k,hf,fun vs F' H' x r=>?_⟩
   obtain ⟨d1,d2,rfl⟩:=sY q
   obtain ⟨v1,ws,rfl,r1,r⟩:=r.c1
   obtain ⟨v2,ws,rfl,r2,r⟩:=r.c1
   obtain rfl:=r.c0
   ·have q':((bW d1).bind fun xs=>(bW d2).bind fun ys=>some (List.zipWith (fun a b=>D.tup [a,b]) xs ys))=some xs:=q
    cases h1:bW d1 with
    | none=>rw [h1] at q'; cases q'
    | some s1 =>
     cases h2:bW d2 with
     | none=>rw [h1,h2] at q'; cases q'
     | some s2 =>
      rw [h1,h2] at q'
      cases q'
      obtain ⟨b1,l1,rfl,p1⟩:=qp r1 h1
      obtain ⟨b2,l2,rfl,p2⟩:=qp r2 h2
      refine ⟨[(b1,l1),(b2,l2)],rfl,rfl,fun p hp=>?_,w _ F' H' x (Ba (srcs:=[s1,s2]) rfl (fun k p ds e1 e2=>?_) (B3 s1 s2))⟩
      ·rcases List.mem_cons.mp hp with z | hp
       ·rw [z]; obtain ⟨vs,sq,_⟩:=p1.sq (K:=X.K) x.sub; exact ⟨vs,sq⟩
       ·have z:p=(b2,l2):=by simpa using hp
        rw [z]; obtain ⟨vs,sq,_⟩:=p2.sq (K:=X.K) x.sub; exact ⟨vs,sq⟩
      ·match k,e1,e2 with
       | 0,e1,e2=>cases e1; cases e2; exact p1
       | 1,e1,e2=>cases e1; cases e2; exact p2
end
end L2.Cu
namespace L2
open PySem PySem.Spec PyProof.Rows
theorem mG {prog:Program}{w:World}{A:Around} (hh:A.handled=none) (b:Bool) (it a:Addr) (hne:a ≠ it) (vs:Array Value) :
  Draws prog w A it [it,a] vs.size (fun i v=>vs[i]? = some v) (fun i h=>RIt b h it a i∧RSq b h a vs) where
 live:=fun _ _ st=>let ⟨o,e,_⟩:=st.1.obj; ⟨o,e⟩
 frame:=fun _ _ _ st k=>⟨st.1.keep fun o e=>k it (by simp) o e,st.2.keep fun o e=>k a (by simp) o e⟩
 item:=fun i s Q E hi st q=>oH st.1 st.2 (x:=vs[i]) (Fy hi) fun h' st' sb=>q _ h' s.toks (Fy hi) ⟨st',st.2.keep fun o e=>sb.extBut _ _ hne e⟩ sb
 done:=fun s Q E st q=>rK hh st.1 st.2 (Array.getElem?_eq_none (DY _)) q
theorem Du (b:Bool) (l:Addr) (xs:Array Value) :
  Meets (Builtin.«enumerate.__new__» ⟨[.type "enumerate",.ref l],[]⟩) (fun _ R s=>RSq b s.heap l xs ∧
   R (.ok (.ret (.ref (s.heap.push (cN b l)).objs.size))) { s with heap:=(s.heap.push (cN b l)).push { cls:=.type "enumerate",data:=.fields #[.none,.bool false,.ref s.heap.objs.size,rawInt 0,.none,.none] } }) :=
 .of_wp fun prog w A R s h=>by
  obtain ⟨hp,g,d,tk,os⟩:=s; obtain ⟨hl,h⟩:=h
  have hsub:=sub_enumerate
  have hL:RSq b (Shared.heap ⟨hp,g,d,tk,os⟩) l xs:=hl
  obtain ⟨o,ho⟩:∃ o,(Shared.heap ⟨hp,g,d,tk,os⟩).get? l=some o:=by
   cases b <;> exact let ⟨o,e,_⟩:=hL; ⟨o,e⟩
  wp_walk using FL ho
  refine wpAny_stack_any fun st=>DT ?_
  split
  ·rename_i c _ _ _ _ _
   cases (c == Value.type "enumerate")
   ·wp_walk using FL ho,oJ hL
    exact ⟨_,rfl,h⟩
   ·wp_walk using FL ho,oJ hL
    exact ⟨_,rfl,h⟩
  ·wp_walk using FL ho,oJ hL
   exact ⟨_,rfl,h⟩
def Dy (b:Bool) (a m:Addr) (i:Nat) (h:Heap):Prop:=(∃ old,IsEnum h (m + 1) m i old)∧RIt b h m a i
def Ite (K:PySem.W.Frag) (b:Bool) (a:Addr):It :=
  ⟨fun i H=>∃ ys y,SqB K b H a ys∧ys[i]? = some y,
   fun i H x H'=>∃ (T:Addr) (y:V),x=.ref T∧H T=none∧H'=upd H T (.tup [.int i,y])∧∀ ys,SqB K b H a ys→ys[i]? = some y,
   fun i H=>∃ ys,SqB K b H a ys∧ys.length=i⟩
theorem tq {P:Program}{w:World}{K:PySem.W.Frag}{elts:List Expr}{x1}{pos:Pos} (b:Bool) (a m:Nat) (hlt:a < m) :
  nU P w K (.Tuple elts x1 pos) (Ite K b a) [m,m + 1] (m + 1) (fun i h=>Dy b a m i h) where
 mem:=by simp
 obj:=fun i h zz119_0 c hc=>by
  obtain ⟨⟨old,st⟩,it⟩:=zz119_0
  have hc:c=m∨c=m + 1:=by simpa using hc
  rcases hc with z | z
  ·subst z
   obtain ⟨o,e,vs,d⟩:=it.obj
   exact ⟨o,e,fun v z=>by rw [d] at z; cases z⟩
  ·subst z; exact ⟨_,st,fun v z=>by have z':Data.fields _=Data.cell v:=z; cases z'⟩
 keep:=fun i h h' ⟨⟨old,st⟩,it⟩ k=>⟨⟨old,k (m + 1) (by simp) _ st⟩,it.keep fun o e=>k m (by simp) o e⟩
 item:=by
  intro X hP hw hK hc i pins s σ H E I hf st hg
  subst hP hw hK
  obtain ⟨⟨old,he⟩,hit⟩:=st
  obtain ⟨ys,y,hq,hy⟩:=hg
  obtain ⟨its,rv,p⟩:=I.sqB hq
  obtain ⟨u,hu,ru⟩:=rv.get hy
  have hul:i < its.toArray.size:=by
   have:=(List.getElem?_eq_some_iff.mp hu).1
   simpa using this
  have hh:X.A.in1.handled=none:=I.ok.hd hc
  refine wpAny_pyNext_enum_itemD (mG hh b m a (D9 hlt) its.toArray) he ⟨hit,p⟩ hul (show (m + 1:Nat) ≠ m by omega) (fun z=>by have z:(m + 1:Nat)=m∨(m + 1:Nat)=a:=(by simpa using z); omega) fun x h' tk hP ho st' hT hsz kk=>?_
  have hxu:x=u:=by
   have e2:its.toArray[i]? = some u:=by simpa using hu
   rw [e2] at hP; cases hP; rfl
  subst hxu
  refine ⟨_,rfl,wpAny_letOwnedTupleGo_enum (s:={ s with heap:=h',toks:=tk + 1 }) ho fun h2 he2 s2=>?_⟩
  have hT0:H s.heap.objs.size=none:=I.fresh
  have hml:m + 1 < s.heap.objs.size:=DU he
  have hf1:∀ c ∈ [m,m + 1],ip X pins (upd H s.heap.objs.size (.tup [.int i,y])) c:=fun c hcm=>by
   have hcc:c=m∨c=m + 1:=by simpa using hcm
   refine ⟨?_,(hf c hcm).2⟩
   rw [av (by rcases hcc with z | z <;> (subst z; exact D9 (by omega)))]
   exact (hf c hcm).1
  have I1:Inv X pins σ (upd H s.heap.objs.size (.tup [.int i,y])) { s with heap:=s.heap.push { cls:=.type "tuple",data:=.seq #[.int i tk,x] },toks:=tk + 1 }:=I.laid (t':=tk + 1) (fun c v e=>DQ _ e) (DY _)
   ⟨by show 2≤sizeLine; decide,[.int i tk,x],.cons ⟨tk,rfl⟩ (.cons ru .nil),⟨_,D0 _ rfl,rfl,_,rfl⟩⟩
  have I2:Inv X pins σ (upd H s.heap.objs.size (.tup [.int i,y])) { s with heap:=h2,toks:=tk + 1 }:=I1.turnedN (t':=tk + 1) (h':=h2) (fun (c:Nat) o hcn e=>by
   have h1:¬ (c=m∨c=m + 1):=by simpa using hcn
   refine s2.extBut _ _ (show (c:Nat) ≠ m + 1 by omega) ?_
   rcases Heap.get?_push_cases e with ⟨e1,e2⟩ | e'
   ·subst e1 e2; exact hT
   ·exact kk c o (show (c:Nat) ≠ m + 1 by omega) (show (c:Nat) ≠ m by omega) e') hf1
  refine ⟨.ref s.heap.objs.size,_,I2,rfl,⟨_,y,rfl,hT0,rfl,fun zs hz=>by rw [I.sqB_inj hz hq]; exact hy⟩,⟨⟨_,by simpa using he2⟩,st'.1.keep fun o e=>s2.extBut _ _ (show (m:Nat) ≠ m + 1 by omega) e⟩,fun c hcm=>(hf1 c hcm).1⟩
 done:=by
  intro X hP hw hK hc i pins s σ H E I hf st hg
  subst hP hw hK
  obtain ⟨⟨old,he⟩,hit⟩:=st
  obtain ⟨ys,hq,hy⟩:=hg
  obtain ⟨its,rv,p⟩:=I.sqB hq
  have hl:i=its.toArray.size:=by rw [← hy,rv.length]; simp
  have hh:X.A.in1.handled=none:=I.ok.hd hc
  subst hl
  exact wpAny_pyNext_enum_endD (mG hh b m a (D9 hlt) its.toArray) he ⟨hit,p⟩ fun h' kk=>⟨rfl,I.turnedN (t':=s.toks) (fun c o hcn e=>kk c o (fun z=>hcn (by simp [z])) e) hf⟩
 self:=fun A i s Q E zz121_0 h=>by obtain ⟨⟨old,st⟩,_⟩:=zz121_0; exact wpAny_pyIter_enum st h
def CI (K:PySem.W.Frag) (ta:TA):TI:=fun σ H R=>ta σ H fun vs H1=>∃ b a,vs=[.ref a]∧sqI K H1 (b,a)∧R (Ite K b a) H1
theorem yt {X:Cx}{elts:List Expr}{x1}{tp:Pos}{e:Expr}{ta:TA}{p pos:Pos} (hg:Gl X "enumerate") (hm:X.mg "enumerate" = none) (ha:PA X [e] ta) (hs:starEach [e] X.env=[(false,eval e X.env)]:=by rfl) :
  PI X (.Tuple elts x1 tp) (.Call (.Name "enumerate" p) [e] [] pos) (CI X.K ta):=by
 intro pins s σ H R I h
 refine Call_ (eW I hg hm boot_enumerate (Eu (thn (ha pos pins s σ H _ I h) fun us s1 zz122_0=>?_) hs rfl))
 obtain ⟨vs,H1,I1,r1,q1⟩:=zz122_0
 obtain ⟨b,a,rfl,⟨ys,hy⟩,q⟩:=q1
 obtain ⟨u,rfl,ru⟩:=a_.one r1
 cases ru
 obtain ⟨its,_,p1⟩:=I1.sqB hy
 refine callType_new F.called_enumerate (by decide) (F.typeCall_enumerate_1 _) (F.newCall_enumerate_1 _) (fun obj=>F.args_object_init_2 obj _) F.entry_enumerate_new (Du b a its.toArray) ⟨p1,?_⟩
 have hz:(s1.heap.push (cN b a)).objs.size=s1.heap.objs.size + 1:=Fs ..
 have f1:(cN b a).isFreed=false:=by cases b <;> rfl
 have he:IsEnum ((s1.heap.push (cN b a)).push { cls:=.type "enumerate",data:=.fields #[.none,.bool false,.ref s1.heap.objs.size,rawInt 0,.none,.none] }) (s1.heap.objs.size + 1) s1.heap.objs.size 0 .none:=by
  rw [← hz]; exact D0 _ rfl
 show _∧_
 rw [hz]
 refine ⟨⟨_,he,rfl⟩,wpAny_pyIter_enum (s:={ s1 with heap:=(s1.heap.push (cN b a)).push { cls:=.type "enumerate",data:=.fields #[.none,.bool false,.ref s1.heap.objs.size,rawInt 0,.none,.none] } }) he ?_⟩
 exact ⟨_,[s1.heap.objs.size,s1.heap.objs.size + 1],_,_,H1,rfl,I1.kept (t':=s1.toks) fun c o e=>DQ _ (DQ _ e),tq b a s1.heap.objs.size (qo p1),⟨⟨_,he⟩,m7 (DQ _ (D0 _ f1))⟩,fun c hc=>by
  have hcc:c=s1.heap.objs.size∨c=s1.heap.objs.size + 1:=by simpa using hc
  have hle:s1.heap.objs.size≤c:=by rcases hcc with z | z <;> (subst z; omega)
  exact I1.fpOk hle (I1.hok.fresh hle),q⟩
end L2
namespace L2.Cu
open PySem PySem.Spec PyProof.Rows
def gM:List D→Int→List D
 | [],_=>[]
 | x :: r,i=>.tup [.int i,x] :: gM r (i + 1)
theorem mz:∀ (xs:List D) (i:Int),(gM xs i).length=xs.length
 | [],_=>rfl
 | _ :: r,i=>by rw [gM,DG,mz r,DG]
theorem mB:∀ (xs:List D) (k:Int) (i:Nat),(gM xs k)[i]? = xs[i]?.map fun x=>.tup [.int (k + i),x]
 | [],_,_=>by simp [gM]
 | x :: r,k,0=>by simp [gM]
 | x :: r,k,i + 1=>by
  rw [gM,DB,DB,mB r (k + 1) i]
  congr 1
  funext y
  have:k + 1 + (i:Int)=k + ((i + 1:Nat):Int):=by omega
  rw [this]
theorem Bd {K:PySem.W.Frag}{F:Hp}{p:Bool×Addr}{ds:List D} (h:RpB F p ds):qb F (Ite K p.1 p.2) (gM ds 0):=by
 intro i F2 H2 y s
 obtain ⟨vs,sq,rs⟩:=(h.mono y).sq (K:=K) s
 refine ⟨fun hl=>⟨vs,sq,by rw [rs.length,← hl,mz]⟩,fun d hd=>?_⟩
 rw [mB] at hd
 cases hx:ds[i]? with
 | none=>rw [hx] at hd; cases hd
 | some x =>
  rw [hx] at hd
  cases hd
  obtain ⟨v,hv,rv⟩:=rs.get hx
  refine ⟨⟨vs,v,sq,hv⟩,fun z H' yl=>?_⟩
  obtain ⟨T,w,rfl,hT,rfl,hw⟩:=yl
  have e:=hw vs sq
  rw [hv] at e
  cases e
  have X:=Ext.freeze (o:=.tup [.int i,v]) s hT
  refine ⟨upd F2 T (.tup [.int i,v]),X,Rep.tup aD (.cons ?_ (.cons (rv.mono X.fr) .nil))⟩
  rw [EN]; exact .int _
def mD (ds:List D):Option (List D):=match ds with
 | [a]=>(bW a).map fun xs=>gM xs 0
 | _=>none
theorem q_ {ds xs:List D} (h:mD ds=some xs):∃ a,ds=[a]:=by
 unfold mD at h
 split at h
 ·exact ⟨_,rfl⟩
 ·cases h
def mC (f:DE→Option (List D)) (E:DE):Option (List D):=(f E).bind mD
theorem sG {X:Cx}{pos:Pos}{elts:List Expr}{x1}{tp:Pos}{a:Expr}{f:DE→Option (List D)} {p:Pos} (hg:Gl X "enumerate") (hm:X.mg "enumerate" = none) (ha:Ea X [a] f) (hs:aV a=true:=by rfl):Ei X (.Tuple elts x1 tp) (.Call (.Name "enumerate" p) [a] [] pos) (mC f) :=
 PI.by (yt hg hm ha.h (aF a [] X.env hs)) fun σ H R zz123_0=>by
  obtain ⟨B,F,E,xs,k,q,w⟩:=zz123_0
  unfold mC at q
  cases hf:f E with
  | none=>simp [hf] at q
  | some ds =>
   rw [hf] at q
   refine ⟨B,F,E,ds,k,hf,fun vs F' H' x r=>?_⟩
   obtain ⟨d1,rfl⟩:=q_ q
   obtain ⟨v1,ws,rfl,r1,r⟩:=r.c1
   obtain rfl:=r.c0
   ·have q':(bW d1).map (fun xs=>gM xs 0)=some xs:=q
    cases h1:bW d1 with
    | none=>rw [h1] at q'; cases q'
    | some s1 =>
     rw [h1] at q'
     cases q'
     obtain ⟨b1,l1,rfl,p1⟩:=qp r1 h1
     refine ⟨b1,l1,rfl,?_,w _ F' H' x (Bd (p:=(b1,l1)) p1)⟩
     obtain ⟨vs,sq,_⟩:=p1.sq (K:=X.K) x.sub
     exact ⟨vs,sq⟩
def l0 (i:Nat) (fk fv:DE→Option D) (E:DE):Option Out:=match E[i]? with
 | some (.own (.lst ds))=>(fv E).bind fun v=>(fk E).bind fun x=>match x with
  | .int j=>(ixN ds.length j).map fun k=>.nx (E.set i (.own (.lst (ds.set k v))))
  | _=>none
 | _=>none
section
variable {X:Cx}{a b:Expr}{f g:DE→Option D}{pos pos':Pos}
theorem zj {i:Nat}{o:Expr} (ho:PE X o (jT i)) (ha:Ev X .V a f) (hb:Ev X .V b g)
  (hasg:∀ v,assign (.Subscript o a pos') X.env v=(do
   let ov ← holding [v] (eval o X.env)
   let iv ← holding [v,ov] (eval a X.env)
   standAt pos'
   holding [v,ov,iv] (setItem ov iv v)
   release [v,ov,iv] []):=by intro _; rfl) (hs:swapsWithSole [.Subscript o a pos'] b pos.line X.env=pure false:=by rfl) (hw:swappedStores [.Subscript o a pos'] b X.env=pure none:=by rfl)
  (h1:(assignEach [.Subscript o a pos'] X.env).map (·.2)=[assign (.Subscript o a pos') X.env]:=by rfl) :
  Es X (.Assign [.Subscript o a pos'] b pos) (l0 i f g):=PS.by (vV hb.h (AJ ho ha.h vH hasg) hs hw h1) fun Z σ H zz124_0=>by
 obtain ⟨B,F,E,r,k,q,w⟩:=zz124_0
 unfold l0 at q
 split at q
 ·rename_i ds hd
  cases hgE:g E with
  | none=>simp [hgE] at q
  | some y =>
   cases hf:f E with
   | none=>simp [hgE,hf] at q
   | some x =>
    simp only [hf,hgE,DA] at q
    match x,q with
    | .int j,q =>
     have q':(ixN ds.length j).map (fun k=>Out.nx (E.set i (.own (.lst (ds.set k y)))))=some r:=q
     cases hk:ixN ds.length j with
     | none=>rw [hk] at q'; cases q'
     | some kk =>
      rw [hk] at q'
      cases q'
      obtain ⟨p,vs,h1,h2,h3,h4⟩:=m_ k hd
      refine ⟨B,F,E,y,k,hgE,fun v F1 H1 x1 r1=>⟨.ref p,h1,B,F1,E,_,k.ext x1,hf,fun u F2 H2 x2 r2=>?_⟩⟩
      cases r2
      refine ⟨p,vs,j,kk,rfl,rfl,x2.same _ _ (x1.same _ _ h2),by rw [h4.length]; exact hk,?_⟩
      have z:=((k.ext x1).ext x2).rewrite hd h1 (o':=.lst (vs.set kk v)) (d':=.lst (ds.set kk y)) ((h4.mono (x1.trans x2).fr).set (r1.mono x2.fr) kk)
      exact w σ F2 _ z (x1.trans x2).fr
 ·cases q
end
end L2.Cu
namespace L2
open PySem PySem.Spec PyProof.Rows
theorem Dc (its:List Value) (k:Nat):List.foldl (fun x1 x2=>x1 ++ x2) #[] (List.replicate k its.toArray)=(List.replicate k its).flatten.toArray:=by
 have:=mm its k []
 rwa [DL] at this
end L2
namespace L2.Cu
open PySem PySem.Spec PyProof.Rows
section
variable {X:Cx}{a b:Expr}{f g:DE→Option D}{pos:Pos}
theorem Reps.rep {F:Hp}{vs:List V}{ds:List D} (r:Reps F vs ds):∀ k:Nat,Reps F (List.replicate k vs).flatten (List.replicate k ds).flatten
 | 0=>by simp; exact .nil
 | k + 1=>by rw [Eb,Eb,Em,Em]; exact r.append (Reps.rep r k)
end
def fY (c:DE→Option Bool) (fb:DE→Option Out):Nat→DE→Option Out
  | 0,_=>none
  | n + 1,E=>(c E).bind fun b=>if b=true then (fb E).bind fun r=>match r with
    | .nx E'=>fY c fb n E'
    | .ct E'=>fY c fb n E'
    | .bk E'=>some (.nx E')
    | .rt d=>some (.rt d)
   else some (.nx E)
theorem jl (c:DE→Option Bool) (fb:DE→Option Out) (n:Nat) (E:DE):fY c fb (n + 1) E=(c E).bind fun b=>if b=true then (fb E).bind fun r=>match r with
    | .nx E'=>fY c fb n E'
    | .ct E'=>fY c fb n E'
    | .bk E'=>some (.nx E')
    | .rt d=>some (.rt d)
   else some (.nx E):=rfl
def mU (c:DE→Option Bool) (fb:DE→Option Out) (E:DE):Option Out:=fY c fb 100000 E
section
variable {X:Cx}{pos:Pos}
theorem xf {c:Expr}{body:List Stmt}{fc:DE→Option Bool}{fb:DE→Option Out} (hp:PassesOwn (model X.prog X.w) X.A X.env X.xe) (hc:Et X c fc) (hb:Ess X body fb):Es X (.While c body [] pos) (mU fc fb) :=
 PS.by (vS hp hc.h hb.h) fun Z σ H zz125_0=>by
 obtain ⟨B,F,E,r,k,q,w⟩:=zz125_0
 refine ⟨fun m σ' H'=>∃ F' E',Ok B F' H' σ' E'∧Fr F F'∧fY fc fb m E'=some r,⟨100000,F,E,k,fun _ _ e=>e,q⟩,?_⟩
 rintro m σ' H' ⟨F',E',k',y,ql⟩
 cases m with
 | zero=>cases ql
 | succ m =>
  rw [jl] at ql
  cases hc':fc E' with
  | none=>rw [hc'] at ql; cases ql
  | some b =>
   rw [hc',DA] at ql
   refine ⟨B,F',E',b,k',hc',fun F1 H1 x1=>?_⟩
   have y1:Fr F F1:=fun a o e=>x1.fr a o (y a o e)
   cases b with
   | false =>
    rw [if_neg D4] at ql
    cases ql
    refine qU ?_
    exact w σ' F1 H1 (k'.ext x1) y1
   | true =>
    rw [if_pos rfl] at ql
    refine qT ?_
    cases hfb:fb E' with
    | none=>rw [hfb] at ql; cases ql
    | some r1 =>
     rw [hfb,DA] at ql
     refine ⟨fun σ2 H2=>∃ F2 E2,Ok B F2 H2 σ2 E2∧Fr F F2∧fY fc fb m E2=some r,fun σ2 H2 h=>⟨m,Nat.lt_succ_self m,h⟩,B,F1,E',r1,k'.ext x1,hfb,?_⟩
     cases r1 with
     | nx E5=>exact fun σ5 F5 H5 k5 y5=>⟨F5,E5,k5,fun a o e=>y5 a o (y1 a o e),ql⟩
     | ct E5=>exact fun σ5 F5 H5 k5 y5=>⟨F5,E5,k5,fun a o e=>y5 a o (y1 a o e),ql⟩
     | bk E5 =>
      simp only at ql
      cases ql
      exact fun σ5 F5 H5 k5 y5=>w σ5 F5 H5 k5 fun a o e=>y5 a o (y1 a o e)
     | rt d =>
      simp only at ql
      cases ql
      exact w
end
section
variable {X:Cx}{e:Expr}{f g:DE→Option D}{pos apos cpos spos apos' cpos':Pos}
theorem CL {a b:Expr} (ha:Ev X .O a f) (hb:Ev X .O b g):Et X (.Compare a [.GtE] [b] pos) (tst (bin geD f g)):=jd Cv B9 ha hb (f_ _)
theorem CK {a b:Expr} (ha:Ev X .O a f) (hb:Ev X .O b g):Et X (.Compare a [.LtE] [b] pos) (tst (bin leD f g)):=jd AW B6 ha hb (f_ _)
end
end L2.Cu
namespace L2
open PySem PySem.Spec PyProof.Rows
def eV (is:List Int):Int:=is.foldl max (is.headD 0)
theorem mq (l:List Int):∀ a:Int,a≤l.foldl max a∧(∀ x ∈ l,x≤l.foldl max a)∧(l.foldl max a=a∨l.foldl max a ∈ l):=by
 induction l with
 | nil=>intro a; exact ⟨Int.le_refl _,fun _ h=>(by cases h),.inl rfl⟩
 | cons y l ih =>
  intro a
  rw [DM]
  obtain ⟨h1,h2,h3⟩:=ih (max a y)
  refine ⟨by omega,fun x hx=>?_,?_⟩
  ·rcases List.mem_cons.mp hx with z | z
   ·subst z; omega
   ·exact h2 x z
  ·rcases h3 with z | z
   ·rcases Int.le_total a y with q | q
    ·rw [Int.max_eq_right q] at z ⊢; rw [z]; exact .inr DW
    ·rw [Int.max_eq_left q] at z ⊢; exact .inl z
   ·exact .inr (DS _ z)
theorem pf {is:List Int} (h:is ≠ []):eV is ∈ is:=by
 unfold eV
 cases is with
 | nil=>exact absurd rfl h
 | cons x r =>
  obtain ⟨_,_,h3⟩:=mq (x :: r) x
  rcases h3 with z | z
  ·show List.foldl max x (x :: r) ∈ _
   rw [z]; exact DW
  ·exact z
theorem rZ {is:List Int}{x:Int} (h:x ∈ is):x≤eV is:=(mq is _).2.1 x h
theorem yQ {is:List Int}{M:Int} (h1:M ∈ is) (h2:∀ a ∈ is,a≤M):eV is=M:=by
 have a:=h2 _ (pf (List.ne_nil_of_mem h1))
 have b:=rZ h1
 omega
theorem lQ:∀ {is:List Int}{us:List Value},a_ (is.map V.int) us→∃ ps:List (Int×Tok),us=ps.map (fun p=>Value.int p.1 p.2)∧ps.map (·.1)=is
 | [],_,.nil=>⟨[],rfl,rfl⟩
 | i :: is,_,.cons ⟨t,e⟩ h=>by
  obtain ⟨ps,h1,h2⟩:=lQ h
  exact ⟨(i,t) :: ps,by rw [e,h1]; rfl,by rw [DI,h2]⟩
theorem dZ (ps:List (Int×Tok)):intItems ps.toArray=(ps.map fun p=>Value.int p.1 p.2).toArray:=by simp [intItems]
theorem f9 (ps:List (Int×Tok)) (i:Nat):numAt ps.toArray i=((ps.map (·.1))[i]?).getD 0:=by simp [numAt]
theorem xu {ps:List (Int×Tok)} (h:ps ≠ []):numAt ps.toArray (argBest (fun i j=>decide (numAt ps.toArray i > numAt ps.toArray j)) (ps.toArray.size - 1))=eV (ps.map (·.1)):=by
 obtain ⟨h1,h2⟩:=argBest_gt (numAt ps.toArray) (ps.toArray.size - 1)
 have hp:0 < ps.length:=List.length_pos_iff.mpr h
 rw [DV] at h1 h2 ⊢
 refine (yQ ?_ fun a ha=>?_).symm
 ·rw [f9]
  have hb:argBest (fun i j=>decide (numAt ps.toArray i > numAt ps.toArray j)) (ps.length - 1) < (ps.map (·.1)).length:=by rw [DP]; omega
  rw [DN hb]
  exact EM hb
 ·obtain ⟨j,hj,rfl⟩:=List.mem_iff_getElem.mp ha
  have:=h2 j (by rw [DP] at hj; omega)
  rw [f9,DN hj] at this
  exact this
theorem wq (a d:Value):argsOk "max" ⟨[a],[(Str.ofString "default",d)]⟩:=by unfold argsOk; kernel_rfl
theorem iB:(toString "max" ++ toString ".loop" : String) = "max.loop" := by decide
section
variable {prog:Program}{w:World}{A:Around}{R:Result→Shared→Prop}{I:Addr}{fp wr:List Addr}{n:Nat}{P:Nat→Value→Prop}{St:Nat→Heap→Prop}
theorem wn (W:Walks prog w A.in1 I fp wr n P St) (bt:Nat→Nat→Bool) (hcmp:CmpOf prog w A.in1 .Gt P bt) (S:Addr) (hSf:S ∉ fp) (kw:List (Str×Value)):∀ (k j:Nat) (s:Shared) (vb:Value) (c:Nat),n - (j + 1)=k→j + 1≤n→St (j + 1) s.heap→P (argBest bt j) vb→s.heap.get? S=some { cls:=.type "list",dict:=none,data:=.seq #[vb,vb] c,slots:=#[] } →
  (∀ v h' tk,P (argBest bt (n - 1)) v→(∀ b o,b ∉ wr→b ≠ S→s.heap.get? b=some o→h'.get? b=some o)→R (.ok (.ret v)) { s with heap:=h',toks:=tk })→codeAny (model prog w) A (.builtin "max.loop" ⟨[.ref I,.none,.ref S],kw⟩) R s:=by
 have hSw:S ∉ wr:=fun z=>hSf (W.sub _ z)
 intro k
 induction k with
 | zero =>
  intro j s vb c e0 hj st pb gS fin
  have ej:j + 1=n:=by omega
  refine Fh F.entry_max_loop ?_
  rw [FF Fo _]
  refine DO (m:=seqItems? (.ref S)) (Fb gS rfl ?_)
  refine DO (m:=tryCatch (pyNext (.ref I)) _) (Gs (W.done s _ _ (ej ▸ st) fun h1 tk1 keep1=>?_))
  refine DO (m:=updateSeq S (fun _=>#[])) (Fu (keep1 S _ hSw gS) rfl (DO (GG (DT ?_))))
  exact fin vb _ tk1 (by rw [← ej]; exact pb) fun b o q1 q2 e=>(Ec _ _ (Ne.symm q2)).trans (keep1 b o q1 e)
 | succ k ih =>
  intro j s vb c e0 hj st pb gS fin
  have lj:j + 1 < n:=by omega
  refine Fh F.entry_max_loop ?_
  rw [FF Fo _]
  refine DO (m:=seqItems? (.ref S)) (Fb gS rfl ?_)
  refine DO (m:=tryCatch (pyNext (.ref I)) _) (Gs (W.item (j + 1) s _ _ lj st fun v h1 tk1 pv st1 keep1=>?_))
  have gS1:=keep1 S _ hSw gS
  refine DO (m:=tryCatch (holding [v,v] (richCompare .Gt v vb >>= _)) _) (Gs (E9 (DO (hcmp (j + 1) (argBest bt j) v vb _ _ _ pv pb (DO (E9 (Fz (DO (GG (DT ?_))))))))))
  cases hb:bt (j + 1) (argBest bt j) with
  | true =>
   simp only [if_true]
   refine DO (Fu gS1 rfl (DO (GG ?_)))
   rw [iB]
   refine DT ⟨FA Fo _,ih (j + 1) _ v _ (by omega) lj (W.frame _ _ _ st1 fun b hbf o e=>(Ec _ _ (fun z:S=b=>hSf (by rw [z]; exact hbf))).trans e) (by simp only [argBest,hb,if_true]; exact pv) (Er _ gS1 rfl) fun u h2 tk2 pu keep2=>?_⟩
   exact fin u h2 tk2 pu fun b o q1 q2 e=>keep2 b o q1 q2 ((Ec _ _ (Ne.symm q2)).trans (keep1 b o q1 e))
  | false =>
   simp only [Ed,FU]
   refine DO (GG ?_)
   rw [iB]
   refine DT ⟨FA Fo _,ih (j + 1) _ vb c (by omega) lj st1 (by simp only [argBest,hb,Ed,FU]; exact pb) gS1 fun u h2 tk2 pu keep2=>?_⟩
   exact fin u h2 tk2 pu fun b o q1 q2 e=>keep2 b o q1 q2 (keep1 b o q1 e)
theorem ui (W:Walks prog w A.in1 I fp wr n P St) (bt:Nat→Nat→Bool) (hcmp:CmpOf prog w A.in1 .Gt P bt) (S:Addr) (hSf:S ∉ fp) (x:Str) (d:Value) {s:Shared}{c:Nat} (st:St 0 s.heap) (gS:s.heap.get? S=some { cls:=.type "list",dict:=none,data:=.seq #[] c,slots:=#[] })
  (f0:n=0→∀ h' tk,(∀ b o,b ∉ wr→b ≠ S→s.heap.get? b=some o→h'.get? b=some o)→R (.ok (.ret d)) { s with heap:=h',toks:=tk })
  (fin:0 < n→∀ v h' tk,P (argBest bt (n - 1)) v→(∀ b o,b ∉ wr→b ≠ S→s.heap.get? b=some o→h'.get? b=some o)→R (.ok (.ret v)) { s with heap:=h',toks:=tk }):codeAny (model prog w) A (.builtin "max.loop" ⟨[.ref I,.none,.ref S],[(x,d)]⟩) R s:=by
 have hSw:S ∉ wr:=fun z=>hSf (W.sub _ z)
 refine Fh F.entry_max_loop ?_
 rw [FF Fo _]
 refine DO (m:=seqItems? (.ref S)) (Fb gS rfl ?_)
 rcases F8 n with h0 | hn
 ·refine DO (m:=tryCatch (pyNext (.ref I)) _) (Gs (W.done s _ _ (h0 ▸ st) fun h1 tk1 keep1=>?_))
  refine DO (m:=rule _) (G1 (DT ?_))
  exact f0 h0 h1 tk1 fun b o q1 _ e=>keep1 b o q1 e
 ·refine DO (m:=tryCatch (pyNext (.ref I)) _) (Gs (W.item 0 s _ _ hn st fun v h1 tk1 pv st1 keep1=>?_))
  have gS1:=keep1 S _ hSw gS
  refine DO (m:=updateSeq S (fun _=>#[v,v])) (Fu gS1 rfl ?_)
  rw [iB]
  refine DT ⟨FA Fo _,wn W bt hcmp S hSf _ _ 0 _ v _ rfl hn (W.frame _ _ _ st1 fun b hbf o e=>(Ec _ _ (fun z:S=b=>hSf (by rw [z]; exact hbf))).trans e) pv (Er _ gS1 rfl) fun u h2 tk2 pu keep2=>?_⟩
  exact fin hn u h2 tk2 pu fun b o q1 q2 e=>keep2 b o q1 q2 ((Ec _ _ (Ne.symm q2)).trans (keep1 b o q1 e))
end
section
variable {prog:Program}{w:World}{A:Around}{E:Value→Shared→Prop}{s:Shared}
theorem wo {l:Addr}{ps:List (Int×Tok)} {d:Value}{Q:Value→Shared→Prop} (hh:A.handled=none) (hl:s.heap.IsList l (intItems ps.toArray))
  (h0:ps=[]→∀ h' tk,(∀ b o,s.heap.get? b=some o→h'.get? b=some o)→Q d { s with heap:=h',toks:=tk })
  (h:ps ≠ []→∀ t h' tk,(∀ b o,s.heap.get? b=some o→h'.get? b=some o)→Q (.int (eV (ps.map (·.1))) t) { s with heap:=h',toks:=tk }) :
  wpAny (model prog w) A (call (.builtin "max") [.ref l] [(Str.ofString "default",d)]) Q E s:=by
 refine kmb_tree F.kind_max F.plain_max F.entry_max (wq _ _) ?_
 refine DO (m:=Builtin.Builtins.bindParams "max" ["key","default"] 0 ⟨[],[(Str.ofString "default",d)]⟩) (wpAny_of_eq (show Builtin.Builtins.bindParams "max" ["key","default"] 0 ⟨[],[(Str.ofString "default",d)]⟩=pure [none,some d] from rfl) ?_)
 refine DO (DT ?_)
 refine DO (iter_intList hl fun s₂ e st hfp hlI=>?_)
 subst e
 refine DO (EK ?_)
 have W:=Walks.list (prog:=prog) (w:=w) (A:=A.in1) hh _ l hlI (intItems ps.toArray)
 have hsz:(intItems ps.toArray).size=ps.length:=by simp [intItems]
 rw [iB]
 refine DT ⟨FA Fo _,ui W _ (CmpOf.ints_gt (numAt ps.toArray) (fun _ _=>intItems_at)) _ (fun hm=>ER _ (hfp _ hm)) _ d (W.frame _ _ _ st fun b _ o e=>DQ _ e) (D0 _ rfl) (fun hn h' tk hk=>?_) fun hn v h' tk hv hk=>?_⟩
 ·exact h0 (List.length_eq_zero_iff.mp (by rw [← hsz]; exact hn)) h' tk (old_kept fun b o q e=>hk b o q (D9 (DU e)) (DQ _ e))
 ·have hne:ps ≠ []:=fun z=>by rw [hsz,z] at hn; exact ER _ hn
  obtain ⟨t,rfl⟩:=intItems_at hv
  have e:=xu hne
  rw [show ps.toArray.size=(intItems ps.toArray).size by rw [hsz,DV]] at e
  rw [e]
  exact h hne t h' tk (old_kept fun b o q e=>hk b o q (D9 (DU e)) (DQ _ e))
end
section
variable {X:Cx}
def Aw:V→List V→Hp→VK→Prop:=fun x vs H Q=>∃ (l:Addr) (is:List Int) (v:Int) (j:Nat),x=.ref l∧vs=[.int v]∧H l=some (.lst (is.map V.int))∧is[j]? = some v∧(∀ m,m < j→is[m]? ≠ some v)∧Q (.int j) H
def Be (v:Int):Value→Bool
 | .int a _=>a == v
 | _=>false
theorem wu:MtM X "list.index" Aw:=by
 intro pins s σ H x vs v us Q I rx rv h
 obtain ⟨l,is,i,j,rfl,rfl,hH,hj,hno,q⟩:=h
 cases rx
 obtain ⟨u,rfl,ru⟩:=rv.one
 obtain ⟨t,rfl⟩:=ru
 obtain ⟨z,its,n,r,hl,e⟩:=I.lstM hH
 obtain ⟨ps,rfl,rfl⟩:=lQ r
 have hjl:j < ps.length:=by
  have:=(List.getElem?_eq_some_iff.mp hj).1
  rwa [DP] at this
 have hz:ps.length≤16777216:=by rw [DP,DP] at z; exact z
 have at_:∀ (m:Nat) (hm:m < (ps.map (fun p=>Value.int p.1 p.2)).toArray.size),(ps.map (fun p=>Value.int p.1 p.2)).toArray[m]=Value.int (ps[m]'(by simpa using hm)).1 (ps[m]'(by simpa using hm)).2:=fun m hm=>by simp
 refine G2 F.slot_list_index ⟨_,e,rfl⟩ F.entry_list_index (F.args_list_index_2 _ _)
  (MeetsSeq.list_index l (ps.map (fun p=>Value.int p.1 p.2)).toArray n (.int i t) (Be i) (fun y hy=>?_) j (by simpa using hjl) (by omega) ?_ fun m hm hmj=>?_) ⟨e,?_⟩
 ·have hy':y ∈ ps.map (fun p=>Value.int p.1 p.2):=by simpa using hy
  obtain ⟨p,_,rfl⟩:=List.mem_map.mp hy'
  exact MeetsSeq.EqGives.int _ _ _ _
 ·rw [at_ j (by simpa using hjl)]
  have:(ps[j]).1=i:=by
   rw [DX,DN hjl] at hj
   exact DR hj
  show ((ps[j]).1 == i)=true
  rw [this]; simp
 ·rw [at_ m hm]
  have hml:m < ps.length:=by simpa using hm
  have:=hno m hmj
  rw [DX,DN hml] at this
  show ((ps[m]).1 == i)=false
  exact beq_false_of_ne fun z=>this (by rw [← z]; rfl)
 ·exact ⟨.int j,H,I.tok _,⟨_,rfl⟩,q⟩
end
end L2
namespace L2.Cu
open PySem PySem.Spec PyProof.Rows
def cT:List D→Option (List Int)
 | []=>some []
 | .int i :: r=>(cT r).map fun is=>i :: is
 | _=>none
theorem dR:∀ {ds:List D}{is:List Int},cT ds=some is→ds=is.map D.int
 | [],is,h=>by cases h; rfl
 | .int b :: r,is,h=>by
  unfold cT at h
  cases hr:cT r with
  | none=>rw [hr] at h; cases h
  | some cs =>
   rw [hr] at h
   cases h
   rw [dR hr]; rfl
theorem eJ:∀ is:List Int,cT (is.map D.int)=some is
 | []=>rfl
 | i :: is=>by
  show (cT (is.map D.int)).map _=_
  rw [eJ is]; rfl
theorem Reps.intsV {F:Hp}:∀ {vs:List V}{is:List Int},Reps F vs (is.map D.int)→vs=is.map V.int
 | _,[],.nil=>rfl
 | _,i :: is,.cons r t=>by cases r; rw [Reps.intsV t]; rfl
def Dz:D→Option D
 | .lst xs=>(cT xs).bind fun is=>if is=[] then none else some (.int (eV is))
 | _=>none
def rY (x y:D):Option D:=match x,y with
 | .lst xs,.int d=>(cT xs).map fun is=>.int (if is=[] then d else eV is)
 | _,_=>none
theorem qK {is:List Int}{d:Int}:rY (.lst (is.map D.int)) (.int d)=some (.int (if is=[] then d else eV is)):=by
 show (cT (is.map D.int)).map _=_
 rw [eJ]; rfl
def qX (x y:D):Option D:=match x,y with
 | .lst xs,.int v=>(cT xs).bind fun is=>if v ∈ is then some (.int (is.idxOf v:Nat)) else none
 | _,_=>none
section
variable {X:Cx}{e a:Expr}{f g:DE→Option D}{pos apos cpos:Pos}
def BT (te td:TE):TE:=fun σ H Q=>te σ H fun x H1=>td σ H1 fun y H2=>∃ (p:Addr) (is:List Int) (d:Int),x=.ref p∧y=.int d∧H2 p=some (.lst (is.map V.int))∧Q (.int (if is=[] then d else eV is)) H2
theorem yw {p kp:Pos}{te td:TE} (hc:X.calm=true) (hg:Gl X "max") (hm:X.mg "max" = none) (hv:bootBuiltins "max" = some (.builtin "max")) (ha:PE X e te) (hb:PE X a td) (he:aV e=true:=by rfl) :
  PE X (.Call (.Name "max" p) [e] [⟨some (Str.ofString "default"),a,kp⟩] pos) (BT te td):=by
 intro pins s σ H Q I h
 have hst:=aF e [] X.env he
 refine EZ (eW I hg hm hv ?_ (by decide) (by decide))
 refine PyProof.Rows.callWith_kw ?_ (by rw [hst]; rfl) (by rw [hst]; rfl) rfl rfl
 refine thn (di ha fH hst pos pins s σ H (fun vs H1=>match vs with
  | [x]=>td σ H1 fun y H2=>∃ (p:Addr) (is:List Int) (d:Int),x=.ref p∧y=.int d∧H2 p=some (.lst (is.map V.int))∧Q (.int (if is=[] then d else eV is)) H2
  | _=>False) I h) fun us s1 ⟨vs,H1,I1,r1,q1⟩=>?_
 match vs,r1,q1 with
 | [x],r1,q1 =>
  refine PyProof.Rows.kws_cons (thn (hb pins s1 σ H1 _ I1 q1) fun u s2 ⟨y,H2,I2,r2,q2⟩=>PyProof.Rows.kws_nil ?_)
  obtain ⟨l,is,d,rfl,rfl,hp,q⟩:=q2
  obtain ⟨u1,rfl,ru⟩:=gz r1
  cases ru
  obtain ⟨t,rfl⟩:=r2
  obtain ⟨z,its,n,rv,hl,e⟩:=I2.lstM hp
  obtain ⟨ps,rfl,rfl⟩:=lQ rv
  show wpAny _ _ (call (.builtin "max") [.ref l] [(Str.ofString "default",.int d t)]) _ _ s2
  refine wo (I2.ok.hd hc) (ps:=ps) ⟨_,e,rfl,n,by rw [dZ]⟩ (fun h0 h' tk hk=>?_) fun hne t' h' tk hk=>?_
  ·rw [if_pos (by rw [h0]; rfl)] at q
   exact ⟨.int d,H2,I2.kept hk,⟨t,rfl⟩,q⟩
  ·rw [if_neg (by simpa using hne)] at q
   exact ⟨.int (eV (ps.map (·.1))),H2,I2.kept hk,⟨t',rfl⟩,q⟩
theorem zf {p kp:Pos} (hc:X.calm=true) (hg:Gl X "max") (hm:X.mg "max" = none) (hv:bootBuiltins "max" = some (.builtin "max")) (ha:Ev X .O e f) (hb:Ev X .V a g) (he:aV e=true:=by rfl) :
  Ev X .V (.Call (.Name "max" p) [e] [⟨some (Str.ofString "default"),a,kp⟩] pos) (bin rY f g) :=
 PE.by (yw hc hg hm hv ha.h hb.h he) fun σ H Q zz128_0=>by
  obtain ⟨B,F,E,d,k,q,w⟩:=zz128_0
  unfold bin at q
  cases hf:f E with
  | none=>simp [hf] at q
  | some x =>
   cases hgE:g E with
   | none=>simp [hf,hgE] at q
   | some y =>
    simp only [hf,hgE,DA] at q
    refine ⟨B,F,E,x,k,hf,fun v F1 H1 x1 r1=>⟨B,F1,E,y,k.ext x1,hgE,fun u F2 H2 x2 r2=>?_⟩⟩
    match x,y,q with
    | .lst xs,.int i,q =>
     have q':((cT xs).map fun is=>D.int (if is=[] then i else eV is))=some d:=q
     cases hb:cT xs with
     | none=>rw [hb] at q'; cases q'
     | some is =>
      rw [hb] at q'
      cases q'
      obtain ⟨p,vs,rfl,hp,rp⟩:=OB.lst x2.sub (OB.ext x2 r1)
      rw [dR hb] at rp
      rw [Reps.intsV rp] at hp
      cases r2
      exact ⟨p,is,i,rfl,rfl,hp,w _ F2 H2 (x1.trans x2) (.int _)⟩
theorem w9 {o:Expr} (ho:Ev X .O o f) (ha:Ev X .V a g) (hbase:attributeBase o "index" X.env (eval o X.env)=eval o X.env:=by rfl)
  (hfew:((backTo cpos (starEach [a] X.env)).all (fun x => !x.1) && (backToKw cpos (keywordEach [] X.env)).all (fun x=>x.1.isSome) && decide (([a]:List Expr).length + ([]:List Keyword).length + (if ([]:List Keyword).isEmpty then 0 else 1) < 30))=true:=by rfl)
  (hline:(apos.endLine == cpos.line)=true:=by rfl) (hns:aV a=true:=by rfl):Ev X .V (.Call (.Attribute o "index" apos) [a] [] cpos) (bin qX f g) :=
 PE.by (rV Gi PySem.F.slot_list_index PySem.F.type_list_index wu ho.h (di ha.h fH (aF a [] X.env hns)) hbase hfew hline (aF a [] X.env hns) rfl) fun σ H Q zz129_0=>by
  obtain ⟨B,F,E,d,k,q,w⟩:=zz129_0
  unfold bin at q
  cases hf:f E with
  | none=>simp [hf] at q
  | some x =>
   cases hgE:g E with
   | none=>simp [hf,hgE] at q
   | some y =>
    simp only [hf,hgE,DA] at q
    refine ⟨B,F,E,x,k,hf,fun v F1 H1 x1 r1=>?_⟩
    match x,y,q,hgE with
    | .lst xs,.int i,q,hgE =>
     have q':((cT xs).bind fun is=>if i ∈ is then some (D.int (is.idxOf i:Nat)) else none)=some d:=q
     cases hb:cT xs with
     | none=>rw [hb] at q'; cases q'
     | some is =>
      rw [hb,DA] at q'
      split at q'
      ·rename_i hmem
       cases q'
       obtain ⟨p,vs,rfl,hp,rp⟩:=OB.lst x1.sub r1
       rw [dR hb] at rp
       rw [Reps.intsV rp] at hp
       refine ⟨.inl ⟨rfl,_,SqL.of hp⟩,B,F1,E,_,k.ext x1,hgE,fun u F2 H2 x2 r2=>?_⟩
       cases r2
       refine ⟨p,is,i,is.idxOf i,rfl,rfl,x2.same _ _ hp,?_,fun m hm z=>?_,w _ F2 H2 (x1.trans x2) (.int _)⟩
       ·rw [DN (FY hmem)]
        exact ED some (GT _)
       ·obtain ⟨hl,he⟩:=List.getElem?_eq_some_iff.mp z
        exact absurd he (by
         have:=List.not_of_lt_findIdx (p:=(· == i)) (xs:=is) (i:=m) hm
         simpa using this)
      ·cases q'
end
def B_:List V→Hp→VK→Prop:=fun xs H Q=>∃ (p:Addr) (is:List Int),xs=[.ref p]∧(H p=some (.lst (is.map V.int))∨H p=some (.tup (is.map V.int)))∧Q (.int is.sum) H
theorem uW {X:Cx} (hc:X.calm=true):dc X (.builtin "sum") B_:=by
 intro pins s σ H xs us Q I r h
 obtain ⟨p,is,rfl,hp,q⟩:=h
 obtain ⟨u,rfl,ru⟩:=gz r
 cases ru
 have fin:∀ (ps:List (Int×Tok)),is=ps.map (·.1)→∀ h' tk t',(∀ b o,s.heap.get? b=some o→h'.get? b=some o)→EP X pins σ Q (.int (preSum (numAt ps.toArray) ps.toArray.size) t') { s with heap:=h',toks:=tk }:=fun ps e h' tk t' hk=>by
  have e2:preSum (numAt ps.toArray) ps.toArray.size=is.sum:=by
   rw [preSum_eq,Fk (by simp),e]
  rw [e2]
  exact ⟨.int is.sum,H,I.kept hk,⟨_,rfl⟩,q⟩
 rcases hp with hp | hp
 ·obtain ⟨z,its,n,rv,hl,e⟩:=I.lstM hp
  obtain ⟨ps,rfl,e1⟩:=lQ rv
  exact sum_intListG (I.ok.hd hc) (xs:=ps.toArray) ⟨_,e,rfl,n,by rw [dZ]⟩ (fin ps e1.symm)
 ·obtain ⟨_,its,rv,o,g,g2,n,g3⟩:=I.hok p _ hp
  obtain ⟨ps,rfl,e1⟩:=lQ rv
  exact PySem.W.ktm_sumG (I.ok.hd hc) (xs:=ps.toArray) ⟨o,g,g2,n,by rw [dZ]; exact g3⟩ (fin ps e1.symm)
def i0:D→Option D
 | .lst xs=>(cT xs).map fun is=>.int is.sum
 | .tup xs=>(cT xs).map fun is=>.int is.sum
 | _=>none
theorem iw (is:List Int):i0 (.lst (is.map D.int))=some (.int is.sum):=by
 show (cT (is.map D.int)).map _=_
 rw [eJ]; rfl
theorem vB (is:List Int):i0 (.tup (is.map D.int))=some (.int is.sum):=by
 show (cT (is.map D.int)).map _=_
 rw [eJ]; rfl
theorem Aj:jD .V B_ i0:=fun F H v x d Q s rx h q=>by
 match x,h with
 | .lst xs,h =>
  have h':(cT xs).map (fun is=>D.int is.sum)=some d:=h
  obtain ⟨is,hb,rfl⟩:=Option.map_eq_some_iff.mp h'
  obtain ⟨p,vs,rfl,hp,rp⟩:=OB.lst s rx
  rw [dR hb] at rp
  rw [Reps.intsV rp] at hp
  exact ⟨p,is,rfl,.inl hp,q _ F H (Ext.refl s) (.int _)⟩
 | .tup xs,h =>
  have h':(cT xs).map (fun is=>D.int is.sum)=some d:=h
  obtain ⟨is,hb,rfl⟩:=Option.map_eq_some_iff.mp h'
  obtain ⟨p,vs,rfl,hp,rp⟩:=OB.tup rx
  rw [dR hb] at rp
  rw [Reps.intsV rp] at hp
  exact ⟨p,is,rfl,.inr (s _ _ hp),q _ F H (Ext.refl s) (.int _)⟩
theorem ja {X:Cx}{e:Expr}{f:DE→Option D}{pos p:Pos} (hc:X.calm=true) (hg:Gl X "sum") (hm:X.mg "sum" = none) (hv:bootBuiltins "sum" = some (.builtin "sum")) (ha:Ev X .O e f) (he:aV e=true:=by rfl):Ev X .V (.Call (.Name "sum" p) [e] [] pos) (un i0 f) :=
 iP (uW hc) Aj hg hm hv ha (by decide) (by decide) he
end L2.Cu
namespace L2
open PySem PySem.Spec PyProof.Rows
theorem KV.at {kvs:List (Key×V)} {vs:List (Key×Value)} (r:KV kvs vs) {i:Nat}{k:Key}{u:Value} (h:vs[i]? = some (k,u)):∃ v,kvs[i]? = some (k,v)∧bh v u:=by
 induction r generalizing i with
 | nil=>simp at h
 | @cons p q _ _ h1 t ih =>
  cases i with
  | zero =>
   simp at h
   subst h
   have h3:p.1=k:=h1.1
   exact ⟨p.2,by rw [← h3]; rfl,h1.2⟩
  | succ j =>
   simp at h
   obtain ⟨v,e1,e2⟩:=ih h
   exact ⟨v,by simpa using e1,e2⟩
end L2
namespace L2.Cu
open PySem PySem.Spec PyProof.Rows
theorem RepK.at {F:Hp}:∀ {vs:List (Key×V)} {ds:List (Key×D)} {i:Nat}{k:Key}{v:V},RepK F vs ds→vs[i]? = some (k,v)→∃ d,ds[i]? = some (k,d)∧Rep F v d
 := fun {vs ds i k v} r e=>by
  cases r with
  | nil=>cases e
  | cons r t =>
   cases i with
   | zero=>cases e; exact ⟨_,rfl,r⟩
   | succ i=>exact RepK.at (i:=i) t e
section
variable {X:Cx}{a b e:Expr}{p pos:Pos}{f g:DE→Option D}
def Do (es:List (Key×D)) (p:Key×D):Bool:=match fL es p.1 with
 | some y=>PyData.eqv (toP p.2) (toP y)
 | none=>false
end
def wp {α:Type} (o:Option α) (P:α→Prop):Prop:=match o with
 | some a=>P a
 | none=>False
theorem ad {α:Type}{a:α}{P:α→Prop}:wp (some a) P=P a:=rfl
theorem aN {α β:Type}{o:Option α}{k:α→Option β}{P:β→Prop}:wp (o.bind k) P=wp o (fun a=>wp (k a) P):=by cases o <;> rfl
theorem cc {α β:Type}{o:Option α}{k:α→β}{P:β→Prop}:wp (o.map k) P=wp o (fun a=>P (k a)):=by cases o <;> rfl
theorem eh {α:Type}{o:Option α}{P Q:α→Prop} (h:wp o P) (w:∀ a,P a→Q a):wp o Q:=by
 cases o with
 | none=>exact h
 | some a=>exact w a h
theorem bv {α:Type}{o:Option α}{a:α} (h:wp o (fun b=>b=a)):o=some a:=by
 cases o with
 | none=>exact False.elim h
 | some b=>exact ED some h
theorem cp {α:Type}{o:Option α}{P:α→Prop}:wp o P ↔ ∃ a,o=some a∧P a:=by
 cases o with
 | none=>exact ⟨False.elim,fun ⟨_,h,_⟩=>by cases h⟩
 | some b=>exact ⟨fun h=>⟨b,rfl,h⟩,fun ⟨_,h,p⟩=>by cases h; exact p⟩
theorem eM {α:Type}{c:Prop} [Decidable c] {a b:Option α}{P:α→Prop} (h:c) (q:wp a P):wp (if c then a else b) P:=by rw [if_pos h]; exact q
theorem aU {i j:Int} (h:0 < j):bC (.int i) (.int j)=some (.int (i % j)):=if_pos h
theorem qO {j:Int} (h:j≤10 ^ 200) (h0:0 < j):j.natAbs.log2 < 9000:=by
 rw [Nat.log2_lt (by omega)]
 have h1:(j.natAbs:Int)≤10 ^ 200:=by omega
 have h2:((10:Nat) ^ 200:Nat) < 2 ^ 9000:=by decide
 have h3:j.natAbs≤(10:Nat) ^ 200:=by
  have:((10:Int) ^ 200)=(((10:Nat) ^ 200:Nat):Int):=by decide
  omega
 exact GQ h3 h2
theorem bc {i j:Int} (h:0 < j) (h2:j≤10 ^ 200):bS (.int i) (.int j)=some (.int (i / j)):=if_pos ⟨h,qO h2 h⟩
theorem uj {i j:Int} (h:Builtin.Int.intBits i≤2 ^ 20) (h2:Builtin.Int.intBits j≤2 ^ 20):yN (.int i) (.int j)=some (.int (i * j)):=if_pos ⟨h,h2⟩
theorem gZ {i j:Int} (h:0≤j) (h2:j≤1000000) (h3:i.natAbs < 2 ^ 64):e9 (.int i) (.int j)=some (.int (i ^ j.toNat)):=if_pos ⟨h,h2,h3⟩
theorem c_ {i j:Int}:ltD (.int i) (.int j)=some (.bl (decide (i < j))):=rfl
theorem iE {i j:Int}:leD (.int i) (.int j)=some (.bl (decide (i≤j))):=rfl
theorem iJ {i j:Int}:gtD (.int i) (.int j)=some (.bl (decide (j < i))):=rfl
theorem y7 {i j:Int}:geD (.int i) (.int j)=some (.bl (decide (j≤i))):=rfl
theorem ce {i j:Int}:cX (.int i) (.int j)=some (.int (i - j)):=rfl
theorem iV {α:Type}{xs:List α}{i:Int} (h:0≤i) (h2:i < xs.length):atI xs i=xs[i.toNat]?:=by
 unfold atI ixN
 rw [if_pos h,if_pos h2]; rfl
theorem dL {α:Type}{xs:List α}{i:Nat}:atI xs (i:Int)=xs[i]?:=by
 unfold atI ixN
 rw [if_pos (by omega)]
 by_cases h:(i:Int) < xs.length
 ·rw [if_pos h]; rfl
 ·rw [if_neg h]
  exact (Eh (by omega)).symm
theorem mW (x:Str):x.length=x.cps.toList.length:=by
 show x.cps.size=_
 simp
theorem yY {z:Str}{i:Int} (hz:z.length≤16777216) (h:0≤i) (h2:i < z.length):ixD (.str z) (.int i)=some (.str ⟨#[z.cps.toList.getD i.toNat 0]⟩):=by
 show (if z.length≤16777216 then (atI z.cps.toList i).map fun c=>D.str ⟨#[c]⟩ else none)=_
 rw [mW] at h2
 rw [if_pos hz,iV h h2]
 have hlt:i.toNat < z.cps.toList.length:=by omega
 rw [DN hlt,D3,DN hlt]
 rfl
theorem mY (x y:Str):(x ++ y).cps.toList=x.cps.toList ++ y.cps.toList:=by
 show (x.cps ++ y.cps).toList=_
 simp
theorem aG {i j:Int}:aM (.int i) (.int j)=some (.int (i + j)):=rfl
theorem xA {i j:Str} (h:i.length + j.length≤16777216):aM (.str i) (.str j)=some (.str (i ++ j)):=if_pos h
theorem ix {xs:List D}{lo hi:Option Int}:slD (.lst xs) lo hi=some (.lst (cY xs lo hi)):=rfl
theorem xX {xs:List D}{lo hi:Option Int}:slD (.tup xs) lo hi=some (.tup (cY xs lo hi)):=rfl
theorem rJ {xs:List Int}{lo hi:Option Int}:slD (.scr xs) lo hi=some (.lst ((cY xs lo hi).map D.int)):=rfl
theorem xY {x:Str}{lo hi:Option Int} (h:x.length≤16777216):slD (.str x) lo hi=some (.str (Txt.slice x lo hi)):=if_pos h
theorem cV {i j:Int}:eqO (.int i) (.int j)=some (.bl (decide (i=j))):=rfl
theorem nK {i j:Str}:eqO (.str i) (.str j)=some (.bl (decide (i=j))):=rfl
theorem jI {i j:Int}:neO (.int i) (.int j)=some (.bl (!decide (i=j))):=rfl
def vJ (g:DE→Option Out) (P:Out→Prop):Out→Prop
 | .nx E=>wp (g E) P
 | r=>P r
theorem aj {g:DE→Option Out}{P:Out→Prop}{E:DE}:vJ g P (.nx E)=wp (g E) P:=rfl
theorem fZ {g:DE→Option Out}{P:Out→Prop}{d:D}:vJ g P (.rt d)=P (.rt d):=rfl
theorem ax {f g:DE→Option Out}{E:DE}{P:Out→Prop}:wp (aq f g E) P=wp (f E) (vJ g P):=by
 unfold aq; rw [aN]
 congr 1
 funext r
 cases r <;> rfl
def ifK (f g:DE→Option Out) (E:DE) (P:Out→Prop) (b:Bool):Prop:=wp (if b=true then f E else g E) P
theorem eX {f g:DE→Option Out}{E:DE}{P:Out→Prop}:ifK f g E P true=wp (f E) P:=rfl
theorem cb {f g:DE→Option Out}{E:DE}{P:Out→Prop}:ifK f g E P false=wp (g E) P:=rfl
theorem bF {c:DE→Option Bool}{f g:DE→Option Out}{E:DE}{P:Out→Prop}:wp (ifS c f g E) P=wp (c E) (ifK f g E P):=by
 unfold ifS; rw [aN]; rfl
theorem wS {f g:DE→Option Out}{E:DE}{P:Out→Prop}{b:Bool} (h1:b=true→wp (f E) P) (h2:b=false→wp (g E) P):ifK f g E P b:=by
 cases b with
 | true=>exact h1 rfl
 | false=>exact h2 rfl
theorem cU {f g:DE→Option Out}{E:DE}{P:Out→Prop}{c:Prop} [Decidable c] (h1:c→wp (f E) P) (h2:¬ c→wp (g E) P):ifK f g E P (decide c) :=
 wS (fun h=>h1 (EO h)) fun h=>h2 (GM h)
theorem wR {f g:DE→Option Out}{E:DE}{P:Out→Prop}{c:Prop} [Decidable c] (h1:¬ c→wp (f E) P) (h2:c→wp (g E) P):ifK f g E P (!decide c) :=
 wS (fun h=>h1 (GM (by simpa using h))) fun h=>h2 (EO (by simpa using h))
def qm (P:D→Prop):Out→Prop
 | .rt d=>P d
 | .nx _=>P .non
 | _=>False
theorem aO {P:D→Prop}{d:D}:qm P (.rt d)=P d:=rfl
theorem aZ {n m:Nat}{b:DE→Option Out}{ds:List D}{P:D→Prop} (h:ds.length=n):wp (bV n m b ds) P=wp (b (ds.map Sl.val ++ List.replicate (m - n) Sl.no)) (qm P):=by
 unfold bV
 rw [if_pos h,aN]
 congr 1
 funext r
 cases r <;> rfl
theorem lS {n:Nat} (h:n≤16777216):n≤sizeLine:=h
theorem lR {n:Nat} (h:n < 16777216):n < sizeLine:=h
theorem aR {n:Nat} (h:n≤16777216):(n≤sizeLine)=True:=eq_true h
theorem d5 {n:Nat} (h:n < 16777216):(n < sizeLine)=True:=eq_true h
theorem bR {f:DE→Option (List D)} {E:DE}:c4 f E=(f E).bind df:=rfl
theorem j_ {f:DE→Option (List D)} {E:DE}:tK f E=(f E).bind jq:=rfl
theorem bT {j:Int} (h : -4000000000≤j) (h2:j≤4000000000):df [.int j]=some (bQ 0 j.toNat):=if_pos ⟨by omega,by omega⟩
theorem i6 {i j:Int} (h : -4000000000≤i) (h2:i≤4000000000) (h3 : -4000000000≤j) (h4:j≤4000000000):jq [.int i,.int j]=some (bQ i (j - i).toNat):=if_pos ⟨⟨by omega,by omega⟩,⟨by omega,by omega⟩⟩
def kx (gf:D→DE→Option DE) (fb:DE→Option Out) (xs:List D) (E:DE):Option Out:=ku (fun x E1=>(gf x E1).bind fb) xs E
theorem bA {fi:DE→Option (List D)} {gf:D→DE→Option DE}{fb:DE→Option Out}{E:DE}{P:Out→Prop}:wp (cD fi gf fb E) P=wp (fi E) (fun xs=>wp (kx gf fb xs E) P):=by
 unfold cD; rw [aN]; rfl
section
variable {α:Type} (enc:α→D) (ys:List α) (I:List α→DE→Prop) {gf:D→DE→Option DE}{fb:DE→Option Out}{xs:List D}{E:DE}{P:Out→Prop}
theorem vi (hx:xs=ys.map enc) (h0:I [] E)
  (step:∀ pre x post E,ys=pre ++ x :: post→I pre E→wp (gf (enc x) E) fun E1=>wp (fb E1) fun r=>match r with | .nx E'=>I (pre ++ [x]) E' | .ct E'=>I (pre ++ [x]) E' | .bk E'=>P (.nx E') | .rt d=>P (.rt d)) (fin:∀ E',I ys E'→P (.nx E')):wp (kx gf fb xs E) P:=by
 subst hx
 have go:∀ (post pre:List α) (E:DE),ys=pre ++ post→I pre E→wp (kx gf fb (post.map enc) E) P:=by
  intro post
  induction post with
  | nil=>intro pre E h i; rw [Ez] at h; subst h; exact fin E i
  | cons x post ih =>
   intro pre E h i
   show wp (((gf (enc x) E).bind fb).bind _) P
   rw [aN,aN]
   refine eh (step pre x post E h i) fun E1 q1=>eh q1 fun r q=>?_
   have nxt:∀ E',I (pre ++ [x]) E'→wp (kx gf fb (post.map enc) E') P:=fun E' i'=>ih (pre ++ [x]) E' (by rw [h]; simp) i'
   cases r with
   | nx E'=>exact nxt E' q
   | ct E'=>exact nxt E' q
   | bk E'=>exact q
   | rt d=>exact q
 exact go ys [] E rfl h0
theorem bz (hx:xs=ys.map enc) (h0:I [] E)
  (step:∀ pre x post E,ys=pre ++ x :: post→I pre E→wp (gf (enc x) E) fun E1=>wp (fb E1) fun r=>match r with | .nx E'=>I (pre ++ [x]) E' | .ct E'=>I (pre ++ [x]) E' | _=>False) (fin:∀ E',I ys E'→P (.nx E')):wp (kx gf fb xs E) P :=
 vi enc ys I hx h0 (fun pre x post E h i=>eh (step pre x post E h i) fun E1 q=>eh q fun r q=>by cases r <;> first | exact q | exact False.elim q) fin
end
theorem fU {α:Type} (enc:α→D) (f:α→D) {gf:D→DE→Option DE}{cf:DE→Option Bool}{ef:DE→Option D}{E:DE}:∀ (ys:List α),(∀ x ∈ ys,wp (gf (enc x) E) fun E1=>cf E1=some true∧ef E1=some (f x))→bw gf cf ef E (ys.map enc)=some (ys.map f)
 | [],_=>rfl
 | x :: ys,h=>by
  obtain ⟨E1,h1,h2,h3⟩:=cp.mp (h x DW)
  show (gf (enc x) E).bind _=_
  rw [h1]
  show (cf E1).bind _=_
  rw [h2]
  show (if true=true then (ef E1).bind (fun y=>(bw gf cf ef E (ys.map enc)).map fun zs=>y :: zs) else bw gf cf ef E (ys.map enc))=_
  rw [if_pos rfl,h3,fU enc f ys fun y hy=>h y (DS _ hy)]
  rfl
theorem dJ {α:Type} (enc:α→D) (p:α→Bool) (f:α→D) {gf:D→DE→Option DE}{cf:DE→Option Bool}{ef:DE→Option D}{E:DE}:∀ (ys:List α),(∀ x ∈ ys,wp (gf (enc x) E) fun E1=>cf E1=some (p x)∧(p x=true→ef E1=some (f x)))→bw gf cf ef E (ys.map enc)=some ((ys.filter p).map f)
 | [],_=>rfl
 | x :: ys,h=>by
  obtain ⟨E1,h1,h2,h3⟩:=cp.mp (h x DW)
  have ih:=dJ enc p f (gf:=gf) (cf:=cf) (ef:=ef) (E:=E) ys fun y hy=>h y (DS _ hy)
  show (gf (enc x) E).bind _=_
  rw [h1]
  show (cf E1).bind _=_
  rw [h2]
  show (if p x=true then (ef E1).bind (fun y=>(bw gf cf ef E (ys.map enc)).map fun zs=>y :: zs) else bw gf cf ef E (ys.map enc))=_
  cases hp:p x with
  | true =>
   rw [if_pos rfl,h3 hp,ih,List.filter_cons_of_pos hp]
   rfl
  | false =>
   rw [if_neg (by simp),ih,List.filter_cons_of_neg (by simp [hp])]
def mk (l:List Nat):Str:=⟨l.toArray⟩
theorem eA (l:List Nat):(mk l).cps.toList=l:=by simp [mk]
theorem zM (x:Str):mk x.cps.toList=x:=by cases x; simp [mk]
theorem d9 (l:List Nat):(mk l).length=l.length:=by rw [mW,eA]
theorem qI (a b:List Nat):mk a ++ mk b=mk (a ++ b):=mX (by rw [mY,eA,eA,eA])
theorem wy {a b:List Nat}:mk a=mk b ↔ a=b:=⟨fun h=>by rw [← eA a,h,eA],fun h=>by rw [h]⟩
theorem clip_eq (v:Option Int) (n d:Nat) (hd:d≤n):(match v with | none=>(d:Int) | some i=>max (0:Int) (min (if i < 0 then i + (n:Int) else i) (n:Int)):Int)=((HT.sIx n d v:Nat):Int):=by
 cases v with
 | none=>rfl
 | some i =>
  show max 0 (min (if i < 0 then i + (n:Int) else i) n)=((if i < 0 then (i + (n:Int)).toNat else min i.toNat n:Nat):Int)
  by_cases h:i < 0
  ·rw [if_pos h,if_pos h,Int.min_eq_left (Int.add_le_of_le_sub_right (by rw [Int.sub_self]; exact Int.le_of_lt h)),Int.ofNat_toNat,Int.max_comm]
  ·have h0:=Int.not_lt.mp h
   rw [if_neg h,if_neg h,Int.max_eq_right (Int.le_min.mpr ⟨h0,Int.natCast_nonneg n⟩)]; omega
theorem sIx_le (v:Option Int) (n d:Nat) (hd:d≤n):HT.sIx n d v≤n:=by
 cases v with
 | none=>exact hd
 | some i =>
  show (if i < 0 then (i + (n:Int)).toNat else min i.toNat n)≤n
  split <;> omega
theorem qW (lo hi:Option Int) (n:Nat):Builtin.Str.strSliceIndices lo hi 1 n=(List.range (HT.sIx n n hi - HT.sIx n 0 lo)).map fun k=>HT.sIx n 0 lo + k:=by
 have e1:=clip_eq lo n 0 (Ex _)
 have e2:=clip_eq hi n n (DY _)
 have e:Builtin.Str.strSliceIndices lo hi 1 n=sliceRange (HT.sIx n 0 lo:Nat) (HT.sIx n n hi:Nat) 1:=by
  rw [← e1,← e2]
  unfold Builtin.Str.strSliceIndices
  cases lo <;> cases hi <;> rfl
 rw [e]
 unfold sliceRange
 rw [if_pos (by decide)]
 dsimp only
 have ec:(if ((HT.sIx n 0 lo:Nat):Int) < ((HT.sIx n n hi:Nat):Int) then (((HT.sIx n n hi:Nat):Int) - ((HT.sIx n 0 lo:Nat):Int) + 1 - 1) / 1 else 0).toNat=HT.sIx n n hi - HT.sIx n 0 lo:=by
  split <;> omega
 rw [ec]
 refine FC fun k _=>?_
 omega
theorem gL {α:Type} (l:List α) (a m:Nat):((List.range m).map (fun k=>a + k)).filterMap (fun i=>l[i]?)=(l.drop a).take m:=by
 induction m with
 | zero=>simp
 | succ m ih =>
  rw [FX,Ej,List.filterMap_append,ih,List.take_add_one]
  congr 1
  rw [F_]
  show List.filterMap (fun i=>l[i]?) [a + m]=_
  cases h:l[a + m]? with
  | none=>simp [h]
  | some x=>simp [h]
theorem vE (l:List Nat) (lo hi:Option Int):Txt.slice (mk l) lo hi=mk (cY l lo hi):=by
 unfold Txt.slice
 rw [qW,d9]
 have hf:(((List.range (HT.sIx l.length l.length hi - HT.sIx l.length 0 lo)).map fun k=>HT.sIx l.length 0 lo + k).filterMap fun i=>(mk l).cps[i]?)=cY l lo hi:=by
  have e:(fun i:Nat=>(mk l).cps[i]?)=fun i=>l[i]?:=by
   funext i
   rw [← GE,eA]
  rw [e,gL]; rfl
 split
 ·rename_i hc
  have hlen:HT.sIx l.length l.length hi - HT.sIx l.length 0 lo=l.length:=by
   simpa using hc
  have h1:=sIx_le hi l.length l.length (DY _)
  have:cY l lo hi=l:=by
   unfold cY
   rcases F8 l.length with h0 | h0
   ·rw [List.length_eq_zero_iff.mp h0]; simp
   ·have h2:HT.sIx l.length 0 lo=0:=by omega
    rw [hlen,h2]; simp
  rw [this]
 ·show mk _=_
  rw [hf]
theorem la {α:Type} (l:List α) (k:Nat):cY l none (some (k:Int))=l.take k:=by
 unfold cY
 rw [HT.sIx_none,HT.sIx_nat]
 simp
theorem iU {α:Type} (l:List α) (k:Nat):cY l (some (k:Int)) none=l.drop k:=by
 unfold cY
 rw [HT.sIx_none,HT.sIx_nat]
 rcases Nat.le_total k l.length with h | h
 ·rw [Nat.min_eq_left h,Fk (by simp)]
 ·rw [Nat.min_eq_right h]; simp [Gx h]
theorem iT {α:Type} (l:List α) (a b:Nat):cY l (some (a:Int)) (some (b:Int))=(l.take b).drop a:=by
 unfold cY
 rw [HT.sIx_nat,HT.sIx_nat,List.drop_take]
 rcases Nat.le_total a l.length with h | h
 ·rw [Nat.min_eq_left h]
  rcases Nat.le_total b l.length with h2 | h2
  ·rw [Nat.min_eq_left h2]
  ·rw [Nat.min_eq_right h2,Fk (by simp),Fk (by simp; omega)]
 ·rw [Nat.min_eq_right h]; simp [Gx h]
theorem cz {xs:List D}{i:Int}:ixE (.lst xs) (.int i)=atI xs i:=rfl
theorem ny {xs:List D}{i:Int}:ixE (.tup xs) (.int i)=atI xs i:=rfl
theorem si {xs:List Int}{i:Int}:ixE (.scr xs) (.int i)=(atI xs i).map D.int:=rfl
theorem A_ {l:List Nat}{i:Int} (hz:l.length≤16777216) (h:0≤i) (h2:i < l.length):ixE (.str (mk l)) (.int i)=some (.str (mk [l.getD i.toNat 0])):=by
 have e:=yY (z:=mk l) (i:=i) (by rw [d9]; exact hz) h (by rw [d9]; exact h2)
 rw [eA] at e
 exact e
theorem bH {xs:List D}:bj (.lst xs)=some (.int xs.length):=rfl
theorem dF {xs:List D}:bj (.tup xs)=some (.int xs.length):=rfl
theorem pp {xs:List Int}:bj (.scr xs)=some (.int xs.length):=rfl
theorem kq {i j:Int} (h:Builtin.Int.intBits i≤2 ^ 20) (h2:Builtin.Int.intBits j≤2 ^ 20):fJ (.int i) (.int j)=some (.int (i * j)):=uj h h2
theorem jN {a b:List Nat} (h:a.length + b.length≤16777216):aM (.str (mk a)) (.str (mk b))=some (.str (mk (a ++ b))):=by
 rw [xA (by rw [d9,d9]; exact h),qI]
theorem jX {l:List Nat}{lo hi:Option Int} (h:l.length≤16777216):slD (.str (mk l)) lo hi=some (.str (mk (cY l lo hi))):=by
 rw [xY (by rw [d9]; exact h),vE]
theorem bM {α:Type} (enc:α→D) (f:α→D) {i:Nat}{ef:DE→Option D}{E:DE} (ys:List α) (h:∀ x ∈ ys,ef (E.set i (.val (enc x)))=some (f x)):bw (nmG i) noT ef E (ys.map enc)=some (ys.map f) :=
 fU enc f ys fun x hx=>⟨rfl,h x hx⟩
theorem uG (ss:List Str):(ss.map D.str).all c9=true:=by
 rw [Gr]
 intro d hd
 obtain ⟨x,_,rfl⟩:=List.mem_map.mp hd
 rfl
theorem zn (a b:Str):eqV (.str a) (.str b)=decide (a=b):=by
 show decide _=_
 by_cases h:a=b
 ·simp [h]
 ·simp [h]
theorem wQ (x:Str) (ss:List Str):inV (.str x) ((ss.map D.str).map toV)=decide (x ∈ ss):=by
 unfold inV
 induction ss with
 | nil=>rfl
 | cons y r ih =>
  rw [DI,DI,Fe,ih]
  show (eqV (.str y) (.str x) || decide (x ∈ r))=_
  rw [zn]
  by_cases h:x=y
  ·simp [h]
  ·have h':¬ y=x:=fun z=>h z.symm
   simp [h,h']
theorem o8 {x:Str}{ss:List Str}:nr (.str x) (.lst (ss.map D.str))=some (.bl (!decide (x ∈ ss))):=by
 show (inD (.str x) (.lst (ss.map D.str))).map (fun b=>D.bl (!b))=_
 show ((if c9 (.str x) && (ss.map D.str).all c9 then some (inV (toV (.str x)) ((ss.map D.str).map toV)) else none):Option Bool).map (fun b=>D.bl (!b))=_
 rw [uG]
 show some (D.bl (!inV (.str x) ((ss.map D.str).map toV)))=_
 rw [wQ]
theorem tF {ss:List Str} (h:ss.length < 64):lV (.lst (ss.map D.str))=some (.lst ((dA ss).map D.str)):=by
 show (e_ (ss.map D.str)).bind _=_
 rw [lU]
 exact if_pos h
theorem bP {xs:List D}:bx (.lst xs)=some (.tup xs):=rfl
theorem gB {α:Type} (f:α→D):∀ xs:List α,toPs (xs.map f)=xs.map fun x=>toP (f x)
 | []=>by rw [DJ,toPs]; rfl
 | x :: xs=>by rw [DI,toPs,gB f xs]; rfl
theorem kW {α:Type} [DecidableEq α] (f:α→PyData) (h:∀ a b,PyData.eqv (f a) (f b)=decide (a=b)):∀ xs ys:List α,PyData.eqvAll (xs.map f) (ys.map f)=decide (xs=ys)
 | [],[]=>by simp [PyData.eqvAll]
 | [],_ :: _=>by simp [PyData.eqvAll]
 | _ :: _,[]=>by simp [PyData.eqvAll]
 | x :: xs,y :: ys=>by
  rw [DI,DI,PyData.eqvAll,h,kW f h xs ys]
  by_cases e:x=y
  ·by_cases e2:xs=ys
   ·simp [e,e2]
   ·simp [e2]
  ·simp [e]
theorem ll {α:Type} (f:α→PyData):∀ xs:List α,(∀ x ∈ xs,(f x).canLay0=true)→PyData.canLayAll0 (xs.map f)=true
 | [],_=>by simp [PyData.canLayAll0]
 | x :: xs,h=>by
  rw [DI,PyData.canLayAll0,h x DW,ll f xs fun y hy=>h y (DS _ hy)]; rfl
theorem iS {α:Type} (f:α→PyData) (n:Nat):∀ xs:List α,(∀ x ∈ xs,(f x).depth≤n)→PyData.depthAll (xs.map f)≤n
 | [],_=>by rw [DJ,PyData.depthAll]; exact Ex _
 | x :: xs,h=>by
  rw [DI,PyData.depthAll]
  exact Nat.max_le.mpr ⟨h x DW,iS f n xs fun y hy=>h y (DS _ hy)⟩
structure lx (n:Nat) (d:D):Prop where
 lay:(toP d).canLay0=true
 dep:(toP d).depth≤n
theorem lx.ok {n:Nat}{d:D} (h:lx n d) (hn:n≤60):fK d=true:=by
 unfold fK
 rw [h.lay,Ek (D6 h.dep hn)]; rfl
theorem pD {x:Str} (h:∀ c ∈ x.cps.toList,c≤122):lx 0 (.str x):=by
 refine ⟨?_,by rw [toP,PyData.depth]; exact DY _⟩
 rw [toP,PyData.canLay0]
 unfold PyData.strOk
 rw [← Array.all_toList,Gr]
 intro c hc
 exact Ek (GQ (h c hc) (by decide))
theorem za (i:Bool):lx 0 (.bl i):=⟨by rw [toP,PyData.canLay0],by rw [toP,PyData.depth]; exact DY _⟩
theorem kO {α:Type}{n:Nat} (f:α→D) (xs:List α) (h:∀ x ∈ xs,lx n (f x)):lx (n + 1) (.lst (xs.map f)):=by
 constructor
 ·rw [toP,PyData.canLay0,gB]; exact ll _ xs fun x hx=>(h x hx).lay
 ·rw [toP,PyData.depth,gB]; exact Nat.succ_le_succ (iS _ n xs fun x hx=>(h x hx).dep)
def pI (x y:D):Bool:=PyData.eqv (toP x) (toP y)
theorem xh (a b:Str):pI (.str a) (.str b)=decide (a=b):=by
 unfold pI
 rw [toP,toP,PyData.eqv]
 by_cases h:a=b
 ·simp [h]
 ·simp [h]
theorem xi {α:Type} [DecidableEq α] (f:α→D) (h:∀ a b,pI (f a) (f b)=decide (a=b)) (xs ys:List α):pI (.lst (xs.map f)) (.lst (ys.map f))=decide (xs=ys):=by
 unfold pI
 rw [toP,toP,PyData.eqv,gB,gB]
 exact kW _ h xs ys
theorem xm {n:Nat}{x y:D} (hx:lx n x) (hy:lx n y) (hn:n≤60) (hs:scD x y=none):eqO x y=some (.bl (pI x y)):=by
 unfold eqO eqD
 rw [hs,hx.ok hn,hy.ok hn]; rfl
theorem wk {n:Nat}{x y:D} (hx:lx n x) (hy:lx n y) (hn:n≤60) (hs:scD x y=none):neO x y=some (.bl (!pI x y)):=by
 unfold neO eqD
 rw [hs,hx.ok hn,hy.ok hn]; rfl
def jE (x:Str):Prop:=∀ c ∈ x.cps.toList,c≤122
theorem pJ {ss ts:List Str} (hs:∀ x ∈ ss,jE x) (ht:∀ x ∈ ts,jE x):eqO (.lst (ss.map D.str)) (.lst (ts.map D.str))=some (.bl (decide (ss=ts))):=by
 rw [xm (n:=1) (kO _ _ fun x hx=>pD (hs x hx)) (kO _ _ fun x hx=>pD (ht x hx)) (by decide) rfl,xi _ xh]
theorem mw {ss:List Str} (hs:∀ x ∈ ss,jE x):eqO (.lst (ss.map D.str)) (.lst [])=some (.bl (decide (ss=[]))):=pJ hs (ts:=[]) fun _ h=>by cases h
abbrev Dm:=List (Key×List D)
def dv (qs:List (Key×Addr)):List (Key×V):=qs.map fun q=>(q.1,V.ref q.2)
inductive Lds (B:Hp×Hp) (F H:Hp):List (Key×Addr)→Dm→Prop
 | nil:Lds B F H [] []
 | cons {k:Key}{p:Addr}{xs:List V}{ds:List D}{qs:List (Key×Addr)} {m:Dm}:H p=some (.lst xs)→F p=none→B.2 p=none→Reps F xs ds→Lds B F H qs m→Lds B F H ((k,p) :: qs) ((k,ds) :: m)
def eg (a:Addr):Sl:=.rob ⟨0,some a,[]⟩
def fW (E:DE):Prop:=(∀ (j:Nat) d,E[j]? ≠ some (.own d))∧∀ (j:Nat) s,E[j]? ≠ some (.obj s)
theorem fW.set {E:DE} (h:fW E) (i:Nat) {z:Sl} (h1:∀ d,z ≠ .own d) (h2:∀ s,z ≠ .obj s):fW (E.set i z):=by
 refine ⟨fun j d e=>?_,fun j s e=>?_⟩
 ·rw [Ee] at e
  split at e
  ·split at e
   ·exact h1 d (DR e)
   ·cases e
  ·exact h.1 j d e
 ·rw [Ee] at e
  split at e
  ·split at e
   ·exact h2 s (DR e)
   ·cases e
  ·exact h.2 j s e
structure Ok2 (i:Nat) (a:Addr) (B:Hp×Hp) (F H:Hp) (σ:St) (E:DE) (m:Dm):Prop where
 ok:Ok B F H σ E
 at_:E[i]? = some (eg a)
 no:fW E
 dol:∃ qs,H a=some (.dK (dv qs))∧F a=none∧B.2 a=none∧(a :: qs.map (·.2)).Nodup∧Lds B F H qs m
abbrev Fin:=Hp×Hp→Hp→eC→Out→Prop
def t2 (Φ:Fin) (i:Nat) (a:Addr) (G:DE→Dm→Option Out):TS:=fun Z σ H=>∃ B F E m r,Ok2 i a B F H σ E m∧G E m=some r∧Φ B F Z r
section
variable {X:Cx} {Φ:Fin}{i:Nat}{a:Addr}
def u9 (G:Addr→Option Out):Option Out:=@dite _ (∃ r,∀ a,G a=some r) (Classical.propDecidable _) (fun h=>some (Classical.choose h)) fun _=>none
theorem zA {G:Addr→Option Out}{r:Out} (h:∀ a,G a=some r):u9 G=some r:=by
 unfold u9
 have hx:∃ r,∀ a,G a=some r:=⟨r,h⟩
 rw [dif_pos hx]
 have:=GC hx 0
 rw [h 0] at this
 exact this.symm
theorem u8 {G:Addr→Option Out}{r:Out} (h:u9 G=some r):∀ a,G a=some r:=by
 unfold u9 at h
 by_cases hx:∃ r,∀ a,G a=some r
 ·rw [dif_pos hx] at h
  cases h
  exact GC hx
 ·rw [dif_neg hx] at h; cases h
theorem Ok.set_raw {B:Hp×Hp}{F H:Hp} {σ:St}{E:DE} (k:Ok B F H σ E) (hn:fW E) (i:Nat) (c:Addr):Ok B F H (σ.set i (some (.ref c))) (E.set i (eg c)):=by
 have hl:=k.len
 have hn':fW (E.set i (eg c)):=hn.set i (by intro d e; cases e) (by intro d e; cases e)
 refine ⟨k.ent,by rw [EF,EF]; exact hl,fun j d h=>?_,fun j d h=>(hn'.1 j d h).elim,fun j l d e b _ h=>(hn'.1 j d h).elim,?_⟩
 ·rw [Ee] at h
  split at h
  ·split at h
   ·cases h
   ·cases h
  ·rename_i hne
   rw [D2 hne]; exact k.val j d h
 ·obtain ⟨fp,q⟩:=k.ob
  refine ⟨fp,fun j s h=>(hn'.2 j s h).elim,fun j l s d b h=>(hn'.2 j s h).elim,fun j l s t _ h=>(hn'.2 j s h).elim,fun j s h=>?_⟩
  rw [Ee] at h
  split at h
  ·rename_i hij
   subst hij
   split at h
   ·rename_i hlt
    cases h
    exact .inr ⟨rfl,c,rfl,by rw [E8 (by omega)]⟩
   ·cases h
  ·rename_i hne
   rw [D2 hne]
   exact q.rob j s h
end
theorem wg {E:DE} (h:∀ z ∈ E,(∀ d,z ≠ .own d)∧∀ s,z ≠ .obj s):fW E :=
 ⟨fun j d e=>(h _ (EY e)).1 d rfl,fun j s e=>(h _ (EY e)).2 s rfl⟩
def bkL (ns:List Str) (f:Str→D):List (Key×D):=ns.map fun n=>(Sum.inr n,f n)
def bk (ns:List Str) (f:Str→D):D:=.dic (bkL ns f)
def bm (ns:List Str) (f:Str→List D):Dm:=ns.map fun n=>(Sum.inr n,f n)
open L2 PySem PyProof
variable {X:Cx}
def Af (x:D):Bool:=fK x || match x with
 | .dic ds=>ds.all (fun p=>fK p.2) && ds.all (Do ds)
 | _=>false
open Classical in
def neL (x y:D):Option D:=if x=y∧∃ xs,x=.lst xs∧xs.all Af=true then some (.bl false) else none
end L2.Cu
namespace L2
open PySem PySem.Spec PyProof.Rows
section
variable {X:Cx}
def Cd (K:PySem.W.Frag):V→List V→Hp→VK→Prop:=fun x vs H Q=>∃ sep p ss,x=.str sep∧vs=[.ref p]∧(SqL K H p (ss.map V.str)∨SqT K H p (ss.map V.str))∧(ss.map (·.length)).sum + ss.length * sep.length≤16777216∧Q (.str (Txt.join sep ss)) H
theorem yO:MtM X "str.join" (Cd X.K):=by
 intro pins s σ H x vs v us Q I rx rv h
 obtain ⟨sep,p,ss,rfl,rfl,hq,hok,q⟩:=h
 obtain ⟨t,rfl⟩:=rx
 obtain ⟨u,rfl,ru⟩:=rv.one
 cases ru
 rcases hq with hq | hq
 ·obtain ⟨its,r,⟨o,n,e,c,hd,hdata⟩,_⟩:=I.list hq
  exact join_list (items:=its.toArray) ⟨o,e,c,n,hdata⟩ (by rw [List.toList_toArray]; exact gW r) hok fun t' k=>⟨.str _,H,I.tok k,⟨t',rfl⟩,q⟩
 ·obtain ⟨its,r,hT,_⟩:=I.tuple hq
  exact join_tuple hT (by rw [List.toList_toArray]; exact gW r) hok fun t' k=>⟨.str _,H,I.tok k,⟨t',rfl⟩,q⟩
theorem uX:dc X (.builtin "ord") (fun xs H Q=>∃ x:Str,xs=[.str x]∧x.length=1∧Q (.int (x.cps.getD 0 0:Nat)) H):=by
 intro pins s σ H xs us Q I r h
 obtain ⟨x,rfl,h1,q⟩:=h
 obtain ⟨u,rfl,t,rfl⟩:=gz r
 exact ord_of_one h1 ⟨.int _,H,I.tok _,⟨_,rfl⟩,q⟩
end
end L2
namespace L2.Cu
open PySem PySem.Spec PyProof.Rows
def kF (x y:D):Option D:=match x with
 | .str sep=>(gD y).bind fun ds=>(e_ ds).bind fun ss=>if (ss.map (·.length)).sum + ss.length * sep.length≤16777216 then some (.str (Txt.join sep ss)) else none
 | _=>none
theorem qS {sep:Str}{ss:List Str} (h:(ss.map (·.length)).sum + ss.length * sep.length≤16777216):kF (.str sep) (.lst (ss.map D.str))=some (.str (Txt.join sep ss)):=by
 show (e_ (ss.map D.str)).bind _=_
 rw [lU]
 exact if_pos h
def t0:D→Option D
 | .str x=>if x.length=1 then some (.int (x.cps.getD 0 0:Nat)) else none
 | _=>none
theorem An:jD .V (fun xs H Q=>∃ x:Str,xs=[V.str x]∧x.length=1∧Q (.int (x.cps.getD 0 0:Nat)) H) t0:=fun F H v x d Q s rx h q=>by
 cases x with
 | str y =>
  have h':(if y.length=1 then some (D.int (y.cps.getD 0 0:Nat)) else none)=some d:=h
  by_cases h1:y.length=1
  ·rw [if_pos h1] at h'
   cases h'
   cases OB.str rx
   exact ⟨y,rfl,h1,q _ F H (Ext.refl s) (.int _)⟩
  ·rw [if_neg h1] at h'
   cases h'
 | _=>cases h
section
variable {X:Cx}{e:Expr}{f:DE→Option D}{p pos:Pos}
theorem Bk (hg:Gl X "ord") (hm:X.mg "ord" = none) (hv:bootBuiltins "ord" = some (.builtin "ord")) (ha:Ev X .O e f) (he:aV e=true:=by rfl):Ev X .V (.Call (.Name "ord" p) [e] [] pos) (un t0 f) :=
 iP uX An hg hm hv ha (by decide) (by decide) he
end
section
variable {X:Cx}{a:Expr}{f g:DE→Option D}{apos cpos:Pos}
theorem sw {o:Expr} (ho:Ev X .O o f) (ha:Ev X .O a g) (hbase:attributeBase o "join" X.env (eval o X.env)=eval o X.env:=by rfl)
  (hfew:((backTo cpos (starEach [a] X.env)).all (fun x => !x.1) && (backToKw cpos (keywordEach [] X.env)).all (fun x=>x.1.isSome) && decide (([a]:List Expr).length + ([]:List Keyword).length + (if ([]:List Keyword).isEmpty then 0 else 1) < 30))=true:=by rfl)
  (hline:(apos.endLine == cpos.line)=true:=by rfl) (hns:aV a=true:=by rfl):Ev X .V (.Call (.Attribute o "join" apos) [a] [] cpos) (bin kF f g) :=
 PE.by (rV PySem.F.plainAttrs_str PySem.F.slot_str_join PySem.F.type_str_join yO ho.h (di ha.h fH (aF a [] X.env hns)) hbase hfew hline (aF a [] X.env hns) rfl) fun σ H Q zz132_0=>by
  obtain ⟨B,F,E,d,k,q,w⟩:=zz132_0
  unfold bin at q
  cases hf:f E with
  | none=>simp [hf] at q
  | some x =>
   cases hgE:g E with
   | none=>simp [hf,hgE] at q
   | some y =>
    simp only [hf,hgE,DA] at q
    refine ⟨B,F,E,x,k,hf,fun v F1 H1 x1 r1=>?_⟩
    cases x with
    | str sep =>
     have q':((gD y).bind fun ds=>(e_ ds).bind fun ss=>if (ss.map (·.length)).sum + ss.length * sep.length≤16777216 then some (D.str (Txt.join sep ss)) else none)=some d:=q
     cases h1:gD y with
     | none=>rw [h1] at q'; cases q'
     | some ds =>
      cases h2:e_ ds with
      | none=>simp [h1,h2] at q'
      | some ss =>
       simp only [h1,h2,DA] at q'
       split at q'
       ·rename_i hok
        cases q'
        cases OB.str r1
        refine ⟨rfl,B,F1,E,_,k.ext x1,hgE,fun u F2 H2 x2 r2=>?_⟩
        obtain ⟨p,rfl,hq⟩:=vI (K:=X.K) x2.sub r2 h1 h2
        exact ⟨sep,p,ss,rfl,rfl,hq,hok,w _ F2 H2 (x1.trans x2) (.str _)⟩
       ·cases q'
    | _=>cases q
end
theorem Rep.flat {F F':Hp}{v:V}{d:D} (h:c9 d=true) (r:Rep F v d):Rep F' v d:=by
 cases r with
 | non=>exact .non
 | bl b=>exact .bl b
 | int i=>exact .int i
 | str x=>exact .str x
 | tup _ _=>cases h
 | lst _ _=>cases h
 | dic _ _=>cases h
 | scr _=>cases h
theorem Reps.flat {F F':Hp}:∀ {vs:List V}{ds:List D},ds.all c9=true→Reps F vs ds→Reps F' vs ds
 | _,_,_,.nil=>.nil
 | _,_,h,.cons r t=>by
  rw [E_,EA] at h
  exact .cons (r.flat h.1) (Reps.flat h.2 t)
def zQ:D→Bool
 | .lst xs=>xs.all c9
 | _=>false
def jx (n:Nat) (g:List D→Option D) (f:DE→Option (List D)) (E:DE):Option D:=(f E).bind fun ds=>if ds.length=n∧ds.all c9=true then (g ds).bind fun d=>if zQ d=true then some d else none else none
section
variable {X:Cx}{e:Expr}{pos:Pos}
theorem pF {k:Nat}{fa:Addr}{fd:FuncData}{ps:List Str}{x:Str}{p:Pos}{es:List Expr}{n:Nat}{g:List D→Option D}{f:DE→Option (List D)} (Fn:bD X.prog X.w X.K X.mg X.base CX0 k fa fd ps (spD n g)) (hr:du k X.A) (hg:Gl X x)
  (hm:X.mg x=some (.ref fa)) (hk:PySem.W.keepIn X.K (.ref fa)=true) (hb:bB X.K fd ps []) (ha:Ea X (e :: es) f) (hdb:(x == ("__debug__" : Str))=false:=by decide)
  (he:aV e=true:=by rfl) (hpl:es.all aV=true:=by rfl):Ev X .F (.Call (.Name x p) (e :: es) [] pos) (jx n g f) :=
 PE.by (rT Fn hr hg hm hk hb .nil zK ha.h hdb (aF e es X.env he) (dQ pos X.env es hpl)) fun σ H Q zz133_0=>by
  obtain ⟨B,F,E,d,k,q,w⟩:=zz133_0
  unfold jx at q
  cases hf:f E with
  | none=>simp [hf] at q
  | some ds =>
   simp only [hf,DA] at q
   split at q
   ·rename_i hn
    cases hgd:g ds with
    | none=>simp [hgd] at q
    | some d' =>
     simp only [hgd,DA] at q
     split at q
     ·rename_i hfl
      cases q
      refine ⟨B,F,E,ds,k,hf,fun vs F1 H1 x1 r1=>⟨fun _=>none,ds,d,(fun a o z=>by cases z),by rw [Ez]; exact r1.flat hn.2,hn.1,hgd,fun v F2 H2 x2 r2=>?_⟩⟩
      cases d with
      | lst xs =>
       cases r2 with
       | lst ea rs =>
        rename_i a us
        have h1a:H1 a=none:=by
         cases z:H1 a with
         | none=>rfl
         | some o =>
          have:=x2.new a rfl (by rw [z]; simp)
          rw [this] at ea; cases ea
        have h0a:H a=none:=x1.nofree h1a
        have f1a:F1 a=none:=by
         cases z:F1 a with
         | none=>rfl
         | some o=>rw [x1.sub a o z] at h1a; cases h1a
        have x3:Ext F1 H1 F1 H2:=⟨x2.same,fun _ _ z=>z,fun c o z=>x2.same c o (x1.sub c o z),fun _ z _=>z⟩
        exact w _ F1 H2 (x1.trans x3) ⟨a,.lst us,rfl,h0a,x2.sub a _ ea,f1a,Reps.flat hfl rs⟩
      | _=>cases hfl
     ·cases q
   ·cases q
end
end L2.Cu
namespace L2
open PySem PySem.Spec PyProof.Rows
def ii (is:List Int):Int:=is.foldl min (is.headD 0)
theorem mn (l:List Int):∀ a:Int,l.foldl min a≤a∧(∀ x ∈ l,l.foldl min a≤x)∧(l.foldl min a=a∨l.foldl min a ∈ l):=by
 induction l with
 | nil=>intro a; exact ⟨Int.le_refl _,fun _ h=>(by cases h),.inl rfl⟩
 | cons y l ih =>
  intro a
  rw [DM]
  obtain ⟨h1,h2,h3⟩:=ih (min a y)
  refine ⟨by omega,fun x hx=>?_,?_⟩
  ·rcases List.mem_cons.mp hx with z | z
   ·subst z; omega
   ·exact h2 x z
  ·rcases h3 with z | z
   ·rcases Int.le_total a y with q | q
    ·rw [Int.min_eq_left q] at z ⊢; exact .inl z
    ·rw [Int.min_eq_right q] at z ⊢; rw [z]; exact .inr DW
   ·exact .inr (DS _ z)
theorem iC {is:List Int} (h:is ≠ []):ii is ∈ is:=by
 unfold ii
 cases is with
 | nil=>exact absurd rfl h
 | cons x r =>
  obtain ⟨_,_,h3⟩:=mn (x :: r) x
  rcases h3 with z | z
  ·show List.foldl min x (x :: r) ∈ _
   rw [z]; exact DW
  ·exact z
theorem nu {is:List Int}{x:Int} (h:x ∈ is):ii is≤x:=(mn is _).2.1 x h
theorem yP {is:List Int}{M:Int} (h1:M ∈ is) (h2:∀ a ∈ is,M≤a):ii is=M:=by
 have a:=h2 _ (iC (List.ne_nil_of_mem h1))
 have b:=nu h1
 omega
theorem xt {ps:List (Int×Tok)} (h:ps ≠ []):numAt ps.toArray (argBest (fun i j=>decide (numAt ps.toArray i < numAt ps.toArray j)) (ps.toArray.size - 1))=ii (ps.map (·.1)):=by
 obtain ⟨h1,h2⟩:=argBest_lt (numAt ps.toArray) (ps.toArray.size - 1)
 have hp:0 < ps.length:=List.length_pos_iff.mpr h
 rw [DV] at h1 h2 ⊢
 refine (yP ?_ fun a ha=>?_).symm
 ·rw [f9]
  have hb:argBest (fun i j=>decide (numAt ps.toArray i < numAt ps.toArray j)) (ps.length - 1) < (ps.map (·.1)).length:=by rw [DP]; omega
  rw [DN hb]
  exact EM hb
 ·obtain ⟨j,hj,rfl⟩:=List.mem_iff_getElem.mp ha
  have:=h2 j (by rw [DP] at hj; omega)
  rw [f9 ps j,DN hj] at this
  exact this
section
variable {X:Cx}
def zG:List V→Hp→VK→Prop:=fun xs H Q=>∃ (p:Addr) (is:List Int),xs=[.ref p]∧H p=some (.lst (is.map V.int))∧is ≠ []∧Q (.int (ii is)) H
theorem uY (hc:X.calm=true):dc X (.builtin "min") zG:=by
 intro pins s σ H xs us Q I r h
 obtain ⟨p,is,rfl,hp,hne,q⟩:=h
 obtain ⟨u,rfl,ru⟩:=gz r
 cases ru
 obtain ⟨z,its,n,rv,hl,e⟩:=I.lstM hp
 obtain ⟨ps,rfl,rfl⟩:=lQ rv
 have hps:ps ≠ []:=fun z=>hne (by rw [z]; rfl)
 refine min_intList (I.ok.hd hc) (xs:=ps.toArray) ⟨_,e,rfl,n,by rw [dZ]⟩ (by rw [DV]; exact List.length_pos_iff.mpr hps) fun v h' tk hv hk=>?_
 obtain ⟨t,rfl⟩:=intItems_at hv
 rw [xt hps]
 exact ⟨.int (ii (ps.map (·.1))),H,I.kept hk,⟨_,rfl⟩,q⟩
end
end L2
namespace L2.Cu
open PySem PySem.Spec PyProof.Rows
def ul:D→Option D
 | .lst xs=>(cT xs).bind fun is=>if is=[] then none else some (.int (ii is))
 | _=>none
theorem l_ {is:List Int} (h:is ≠ []):ul (.lst (is.map D.int))=some (.int (ii is)):=by
 unfold ul
 simp only [eJ,DA,h,FU]
section
variable {X:Cx}{e a:Expr}{f g:DE→Option D}{pos apos cpos:Pos}
theorem ye:jD .V zG ul:=fun F H v x d Q s rx h q=>by
 match x,h with
 | .lst xs,h =>
  have h':((cT xs).bind fun is=>if is=[] then none else some (D.int (ii is)))=some d:=h
  cases hb:cT xs with
  | none=>rw [hb] at h'; cases h'
  | some is =>
   rw [hb,DA] at h'
   split at h'
   ·cases h'
   ·rename_i hne
    cases h'
    obtain ⟨p,vs,rfl,hp,rp⟩:=OB.lst s rx
    rw [dR hb] at rp
    rw [Reps.intsV rp] at hp
    exact ⟨p,is,rfl,hp,hne,q _ F H (Ext.refl s) (.int _)⟩
theorem sv {p:Pos} (hc:X.calm=true) (hg:Gl X "min") (hm:X.mg "min" = none) (hv:bootBuiltins "min" = some (.builtin "min")) (ha:Ev X .O e f) (he:aV e=true:=by rfl):Ev X .V (.Call (.Name "min" p) [e] [] pos) (un ul f) :=
 iP (uY hc) ye hg hm hv ha (by decide) (by decide) he
end
def zx (i:Nat) (f:DE→Option D) (E:DE):Option Out:=match E[i]? with
 | some (.val (.int n))=>(f E).bind fun d=>match d with
  | .int m=>some (.nx (E.set i (.val (.int (n - m)))))
  | _=>none
 | _=>none
section
variable {X:Cx}{e:Expr}{f:DE→Option D}{pos:Pos}
theorem zm {i:Nat}{x:Str}{pos':Pos} (hN:X.N.Nodup) (hi:X.N[i]? = some x) (hx:Loc X.env.scope x) (he:Ev X .V e f) (hf:X.fn x=true∨X.env.scope.names.lookup x=some .local:=by first | exact .inl rfl | exact .inr rfl | assumption) :
  Es X (.AugAssign (.Name x pos') .Sub e pos) (zx i f):=PS.by (vU hN hi hx he.h Bg hf) fun Z σ H zz134_0=>by
 obtain ⟨B,F,E,r,k,q,w⟩:=zz134_0
 unfold zx at q
 split at q
 ·rename_i n hn
  cases hf:f E with
  | none=>simp [hf] at q
  | some d =>
   rw [hf] at q
   cases d with
   | int m =>
    cases q
    obtain ⟨v,h1,h2⟩:=k.val i _ hn
    cases h2
    refine ⟨_,h1,B,F,E,.int m,k,hf,fun u F' H' x r=>?_⟩
    cases r
    exact ⟨n,m,rfl,rfl,w _ F' H' ((k.ext x).set_val (.int _) i) x.fr⟩
   | _=>cases q
 ·cases q
end
end L2.Cu
namespace L2
open PySem PySem.Spec PyProof.Rows
def Itv (K:PySem.W.Frag) (a:Addr) (n:Nat):It :=
 ⟨fun i H=>∃ xs x,SqL K H a xs∧xs.length=n∧xs.reverse[i]? = some x,fun i H x H'=>H'=H∧∀ xs,SqL K H a xs→xs.reverse[i]? = some x,fun i _=>n≤i⟩
theorem vp {P:Program}{w:World}{K:PySem.W.Frag}{tg:Expr} (a it:Addr) (n:Nat):nU P w K tg (Itv K a n) [it] it (fun i h=>i≤n∧h.IsRevIter it a ((n:Int) - 1 - (i:Int))) where
 mem:=by simp
 obj:=fun i h st b hb=>by
  have e:b=it:=by simpa using hb
  subst e
  obtain ⟨_,o,e,c,d⟩:=st
  exact ⟨o,e,fun v z=>by rw [d] at z; cases z⟩
 keep:=fun i h h' st k=>⟨st.1,st.2.at fun o e=>k it (by simp) o e⟩
 item:=by
  intro X hP hw hK hc i pins s σ H E I hf st hg
  subst hP hw hK
  obtain ⟨xs,x,hq,hn,hx⟩:=hg
  obtain ⟨its,rv,p,hz⟩:=I.list hq
  have hi:i < xs.length:=by
   have:=(List.getElem?_eq_some_iff.mp hx).1
   rwa [FD] at this
  have hx':=hx
  rw [List.getElem?_reverse hi] at hx'
  obtain ⟨u,hu,ru⟩:=rv.get hx'
  obtain ⟨f0,f1,f2,f3,f4,f5⟩:=hf it (by simp)
  have e:(n:Int) - 1 - (i:Int)=((xs.length - 1 - i:Nat):Int):=by omega
  have hit:=st.2
  rw [e] at hit
  refine wpAny_pyNext_rev_item hit p.isList (x:=u) (by simpa using hu) fun h' st' sb=>?_
  have e2:((xs.length - 1 - i:Nat):Int) - 1=(n:Int) - 1 - ((i + 1:Nat):Int):=by omega
  rw [e2] at st'
  have I1:Inv X pins σ H { s with heap:=h' }:=I.turned (t':=s.toks) (fun b o hb e=>(sb.2 b hb).trans e) f0 f1 f3 f4 f5
  obtain ⟨o,e,c,d⟩:=id st'
  exact ⟨u,rfl,sk (s:={ s with heap:=h' }) e c d (by decide) ⟨x,H,I1,ru,⟨rfl,fun ys hy=>by rw [I.list_inj hy hq]; exact hx⟩,⟨by omega,st'⟩,fun b hb=>(hf b hb).1⟩⟩
 done:=by
  intro X hP hw hK hc i pins s σ H E I hf st hg
  subst hP hw hK
  obtain ⟨f0,f1,f2,f3,f4,f5⟩:=hf it (by simp)
  have hg':n≤i:=hg
  have h1:=st.1
  have e:(n:Int) - 1 - (i:Int) = -1:=by omega
  have hit:=st.2
  rw [e] at hit
  exact wpAny_pyNext_rev_end (I.ok.hd hc) hit fun h' eb=>⟨rfl,I.turned (t':=s.toks) (fun b o hb e=>eb b o hb e) f0 f1 f3 f4 f5⟩
 self:=fun _ _ _ _ _ st h=>GX st.2 h
def Dn (K:PySem.W.Frag) (ta:TA):TI:=fun σ H R=>ta σ H fun vs H1=>∃ a xs,vs=[.ref a]∧SqL K H1 a xs∧R (Itv K a xs.length) H1
theorem AH {X:Cx}{tg:Expr}{e:Expr}{ta:TA}{p pos:Pos} (hg:Gl X "reversed") (hm:X.mg "reversed" = none) (ha:PA X [e] ta) (hs:starEach [e] X.env=[(false,eval e X.env)]:=by rfl) :
  PI X tg (.Call (.Name "reversed" p) [e] [] pos) (Dn X.K ta):=by
 intro pins s σ H R I h
 refine Call_ (eW I hg hm boot_reversed (Eu (thn (ha pos pins s σ H _ I h) fun us s1 zz135_0=>?_) hs rfl))
 obtain ⟨vs,H1,I1,r1,q1⟩:=zz135_0
 obtain ⟨a,xs,rfl,hy,q⟩:=q1
 obtain ⟨u,rfl,ru⟩:=a_.one r1
 cases ru
 obtain ⟨its,rv,p1,hz⟩:=I1.list hy
 refine call_reversed_list p1.isList ?_
 have hl:its.toArray.size=xs.length:=by rw [DV,rv.length]
 rw [hl]
 have hr:(s1.heap.push (revObj a ((xs.length:Int) - 1))).IsRevIter s1.heap.objs.size a ((xs.length:Int) - 1):=⟨_,D0 _ rfl,rfl,rfl⟩
 refine GX (s:={ s1 with heap:=s1.heap.push (revObj a ((xs.length:Int) - 1)) }) hr ?_
 refine ⟨s1.heap.objs.size,[s1.heap.objs.size],_,_,H1,rfl,I1.kept (t':=s1.toks) fun b o e=>DQ _ e,vp a _ xs.length,⟨Ex _,by simpa using hr⟩,fun b hb=>?_,q⟩
 have e:b=s1.heap.objs.size:=by simpa using hb
 subst e
 exact I1.fpOk (DY _) (I1.hok.fresh (DY _))
theorem uf:typeLookup (.type "list_reverseiterator") "__len__" = pure none:=by rw [typeLookup_type,builtinLookup_eq_fast]; kernel_rfl
theorem wT:typeLookup (.type "list_reverseiterator") "__length_hint__" = pure (some (.builtin "list_reverseiterator.__length_hint__")):=by rw [typeLookup_type,builtinLookup_eq_fast]; kernel_rfl
section
variable {prog:Program}{w:World}{A:Around}{E:Value→Shared→Prop}{s:Shared}
theorem qY {R:Result→Shared→Prop}{I l:Addr}{items:Array Value} (hh:A.handled=none) (hne:l ≠ I) (hit:s.heap.IsRevIter I l ((items.size:Int) - 1)) (hl:s.heap.IsList l items) (hn:items.size≤sizeLine) (S:Addr) (res:Value) (c₀:Nat) (hS:s.heap.get? S=some { cls:=.type "list",data:=.seq #[] c₀ }) (hSI:S ≠ I) (hSl:S ≠ l)
  (hR:∀ h' tk acc' c',(∀ b o,b ≠ S→b ≠ I→s.heap.get? b=some o→h'.get? b=some o)→h'.get? S=some { cls:=.type "list",dict:=none,data:=.seq acc' c',slots:=#[] } →
   ItemsOf (fun i v=>items[items.size - 1 - i]? = some v) acc' items.size→R (.ok (.ret res)) { s with heap:=h',toks:=tk }) :
  wpAny (model prog w) A.in1 (Builtin.List.listExtendWith (.ref S) (.ref I) res)
   (fun fin s'=>match fin with | .done f=>R (.ok f) s' | .again c'=>c'.quiet=true∧codeAny (model prog w) A c' R s') (fun e s'=>R (.error e) s') s:=by
 have hSf:S ∉ [I,l]:=fun hm=>by
  simp only [Gk,Gq,or_false] at hm
  rcases hm with z | z
  ·exact hSI z
  ·exact hSl z
 have W:=(Walks.listRev (prog:=prog) (w:=w) (A:=A.in1) hh I l hne items).toS
 have st:0≤items.size∧s.heap.IsRevIter I l ((items.size:Int) - 1 - ((0:Nat):Int))∧s.heap.IsList l items:=⟨Ex _,by simpa using hit,hl⟩
 unfold Builtin.List.listExtendWith
 refine DO (FK hit.typeIs ?_)
 have h1:Builtin.List.listSameRef (.ref S) (.ref I)=false:=by simp [Builtin.List.listSameRef,hSI]
 have h2:(Value.type "list_reverseiterator" == Value.type "list")=false:=by decide
 have h3:(Value.type "list_reverseiterator" == Value.type "tuple")=false:=by decide
 simp only [h1,h2,h3,FJ,Ed,FU]
 refine DO (GX hit ?_)
 refine DO (E9 ?_)
 unfold Builtin.List.listLengthHint
 refine DO (wpAny_specialOf hit.typeIs uf ?_)
 show wpAny _ A.in1 (specialOf (Value.ref I) (Str.ofString "__length_hint__") >>= _) _ _ _
 refine DO (wpAny_specialOf hit.typeIs wT ?_)
 (generalize hid:("list_reverseiterator.__length_hint__" : String)=id0; (fail_if_success (clear hid id0)); wp_delta; rw [show splitId id0=some ("list_reverseiterator","__length_hint__") from by subst hid; decide +kernel]; subst hid)
 refine DO (wpAny_isInstance (b:=true) hit.typeIs (by rw [isSubtype_type]; kernel_rfl) ?_)
 refine DT ?_
 rw [if_neg (by decide)]
 refine DT ⟨FA F.plain_extend_loop _,codeAny_extend_loopS W hn S hSf res items.size 0 _ #[] c₀ rfl (Ex _) st hS (ItemsOf.nil _) fun s' acc' c' hm hS' hacc=>?_⟩
 rw [Moved.eq_with hm]
 exact hR s'.heap s'.toks acc' c' (fun b o hb hb2 e=>hm.heap b o (fun hmem=>by
  simp only [Gk,Gq,or_false] at hmem
  rcases hmem with z | z
  ·exact hb z
  ·exact hb2 z) e) hS' hacc
theorem lJ {Q:Value→Shared→Prop}{I l:Addr}{items:Array Value} (hh:A.handled=none) (hne:l ≠ I) (hit:s.heap.IsRevIter I l ((items.size:Int) - 1)) (hl:s.heap.IsList l items) (hn:items.size≤sizeLine)
  (hQ:∀ h' tk acc' c',(∀ b o,b ≠ I→s.heap.get? b=some o→h'.get? b=some o)→h'.get? s.heap.objs.size=some { cls:=.type "list",dict:=none,data:=.seq acc' c',slots:=#[] } →
   ItemsOf (fun i v=>items[items.size - 1 - i]? = some v) acc' items.size→Q (.ref s.heap.objs.size) { s with heap:=h',toks:=tk }) :
  wpAny (model prog w) A (call (.type "list") [.ref I]) Q E s:=by
 refine callType_codes (Q₁:=fun obj s₁=>obj=.ref s.heap.objs.size∧s₁={ s with heap:=s.heap.push { cls:=.type "list",data:=.seq #[] } }) F.called_list (F.typeCall_list_1 _) F.entry_list_init
  (code_list_new _ ⟨rfl,rfl⟩) fun obj s₁ h₁=>?_
 obtain ⟨rfl,rfl⟩:=h₁
 have hS:(s.heap.push { cls:=.type "list",data:=.seq #[] }).get? s.heap.objs.size=some { cls:=.type "list",data:=.seq #[] }:=D0 _ rfl
 refine ⟨⟨_,hS,rfl⟩,F.args_list_init_2 _ _,?_⟩
 have hIlt:I < s.heap.objs.size:=by obtain ⟨o,ho,_⟩:=hit; exact DU ho
 have hllt:l < s.heap.objs.size:=by obtain ⟨o,ho,_⟩:=hl; exact DU ho
 show wpAny _ _ (do let old ← Builtin.List.listItems (.ref s.heap.objs.size); Builtin.List.listUpdate (.ref s.heap.objs.size) (fun _=>#[]); letGo old.toList.reverse; Builtin.List.listExtendWith (.ref s.heap.objs.size) (.ref I) .none) _ _ _
 refine DO ?_
 unfold Builtin.List.listItems
 refine DO (Fb hS rfl (DT ?_))
 show wpAny _ _ (updateSeq s.heap.objs.size (fun _=>#[]) >>= fun _=>letGo (#[]:Array Value).toList.reverse >>= fun _=>Builtin.List.listExtendWith (.ref s.heap.objs.size) (.ref I) .none) _ _ _
 refine DO (Fu hS rfl ?_)
 have hS₂:=Er (Obj.mapSeq (fun _=>(#[]:Array Value))) hS rfl
 have oth:∀ b o,b ≠ s.heap.objs.size→s.heap.get? b=some o→((s.heap.push { cls:=.type "list",data:=.seq #[] }).update s.heap.objs.size (Obj.mapSeq (fun _=>(#[]:Array Value)))).get? b=some o :=
  fun b o hb e=>(Ec _ _ (Ne.symm hb)).trans (DQ _ e)
 refine DO (GG ?_)
 refine qY (A:=A.in1) hh hne (hit.at fun o e=>oth I o (D9 hIlt) e) (hl.at fun o e=>oth l o (D9 hllt) e) hn _ .none _ hS₂ (FR hIlt) (FR hllt) fun h' tk acc' c' hk hS' hacc=>?_
 exact ⟨rfl,hQ h' tk acc' c' (fun b o hb e=>hk b o (D9 (DU e)) hb (oth b o (D9 (DU e)) e)) hS' hacc⟩
end
end L2
namespace L2.Cu
open PySem PySem.Spec PyProof.Rows
theorem Bb {K:PySem.W.Frag}{F:Hp}{a:Addr}{vs:List V}{ds:List D} (h:F a=some (.lst vs)) (r:Reps F vs ds):qb F (Itv K a vs.length) ds.reverse:=by
 intro i F2 H2 y s
 have q:SqL K H2 a vs:=SqL.of (s _ _ (y _ _ h))
 refine ⟨fun hl=>by
  rw [FD,← r.length] at hl
  exact GA hl,fun d hd=>?_⟩
 obtain ⟨v,hv,rv⟩:=r.reverse.get hd
 refine ⟨⟨vs,v,q,rfl,hv⟩,fun x H' yl=>?_⟩
 obtain ⟨rfl,yl⟩:=yl
 have e2:=yl vs q
 rw [hv] at e2
 cases e2
 exact ⟨F2,Ext.refl s,rv.mono y⟩
def B4 (ds:List D):Option (List D):=match ds with
 | [.lst xs]=>some xs.reverse
 | _=>none
def yb (f:DE→Option (List D)) (E:DE):Option (List D):=(f E).bind B4
theorem Bt {X:Cx}{pos:Pos}{tg:Expr}{a:Expr}{f:DE→Option (List D)} {p:Pos} (hg:Gl X "reversed") (hm:X.mg "reversed" = none) (ha:Ea X [a] f) (hs:aV a=true:=by rfl):Ei X tg (.Call (.Name "reversed" p) [a] [] pos) (yb f) :=
 PI.by (AH hg hm ha.h (aF a [] X.env hs)) fun σ H R zz136_0=>by
  obtain ⟨B,F,E,xs,k,q,w⟩:=zz136_0
  unfold yb at q
  cases hf:f E with
  | none=>simp [hf] at q
  | some ds =>
   rw [hf] at q
   refine ⟨B,F,E,ds,k,hf,fun vs F' H' x r=>?_⟩
   match ds,q,r with
   | [.lst ys],q,r =>
    have q':some ys.reverse=some xs:=q
    cases q'
    obtain ⟨v1,ws,rfl,r1,r⟩:=r.c1
    obtain rfl:=r.c0
    cases r1 with
    | lst e rs=>exact ⟨_,_,rfl,SqL.of (x.sub _ _ e),w _ F' H' x (Bb e rs)⟩
def kz:D→Option D
 | .lst xs=>some (.lst xs.reverse)
 | _=>none
def vx (K:PySem.W.Frag) (te:TE):TE:=fun σ H Q=>te σ H fun x H1=>∃ a xs,x=.ref a∧SqL K H1 a xs∧∀ l,H1 l=none→Q (.ref l) (upd H1 l (.lst xs.reverse))
theorem vm {xs:List V}{its:List Value} (rv:a_ xs its) {acc:Array Value} (h:ItemsOf (fun i v=>its.toArray[its.toArray.size - 1 - i]? = some v) acc its.toArray.size):a_ xs.reverse acc.toList:=by
 have e:acc.toList=its.reverse:=by
  refine EQ fun i=>?_
  by_cases hi:i < its.length
  ·have hi2:i < acc.size:=by rw [h.1]; simpa using hi
   have:=h.2 i acc[i] (Fy hi2)
   rw [List.getElem?_reverse hi]
   simp at this
   rw [GE,Fy hi2]
   rw [← this]
  ·rw [Eh (by rw [Ff,h.1]; simpa using Nat.le_of_not_lt hi),Eh (by rw [FD]; exact Nat.le_of_not_lt hi)]
 rw [e]
 exact rv.reverse
section
variable {X:Cx}{e:Expr}{p p2 pos pos2:Pos}{te:TE}{f:DE→Option D}
theorem qA (hc:X.calm=true) (hg:Gl X "list") (hm:X.mg "list" = none) (hv:bootBuiltins "list" = some (.type "list")) (hg2:Gl X "reversed") (hm2:X.mg "reversed" = none) (he:PE X e te)
  (hs:starEach [e] X.env=[(false,eval e X.env)]:=by rfl):PE X (.Call (.Name "list" p) [.Call (.Name "reversed" p2) [e] [] pos2] [] pos) (vx X.K te):=by
 intro pins s σ H Q I h
 refine EZ (eW I hg hm hv ?_ (by decide) (by decide))
 refine Eu ?_ rfl rfl
 show wpAny _ _ (spliced [(false,eval (.Call (.Name "reversed" p2) [e] [] pos2) X.env)]) _ _ s
 refine FP ?_
 refine EZ (eW I hg2 hm2 boot_reversed ?_ (by decide) (by decide))
 refine Eu ?_ hs rfl
 rw [hs]
 show wpAny _ _ (spliced [(false,eval e X.env)]) _ _ s
 refine FP (thn (he pins s σ H _ I h) fun u s1 ⟨x,H1,I1,r1,a,xs,ex,hy,q⟩=>Gz ?_)
 subst ex
 cases r1
 obtain ⟨its,rv,p1,hz⟩:=I1.list hy
 refine call_reversed_list p1.isList (Gz ?_)
 have halt:a < s1.heap.objs.size:=by obtain ⟨o,ho,_⟩:=p1.isList; exact DU ho
 have hr:(s1.heap.push (revObj a ((its.toArray.size:Int) - 1))).IsRevIter s1.heap.objs.size a ((its.toArray.size:Int) - 1):=⟨_,D0 _ rfl,rfl,rfl⟩
 refine lJ (s:={ s1 with heap:=s1.heap.push (revObj a ((its.toArray.size:Int) - 1)) }) (I1.ok.hd hc) (D9 halt) hr (p1.isList.at fun o e=>DQ _ e) (by rw [DV,← rv.length]; exact hz) fun h' tk acc c kp hS hI=>?_
 have kp':∀ b o,s1.heap.get? b=some o→h'.get? b=some o:=fun b o eo=>kp b o (D9 (DU eo)) (DQ _ eo)
 have rr:=vm rv hI
 refine ⟨.ref _,_,I1.laid (t':=tk) kp' (E4 ?_) (show cF X.prog X.w _ h' _ (.lst _) from ⟨?_,acc.toList,c,rr,by rw [Array.toArray_toList]; exact hS⟩),rfl,q _ (I1.hok.fresh (E4 ?_))⟩
 ·simp
 ·rw [FD]; exact hz
 ·simp
theorem qZ (hc:X.calm=true) (hg:Gl X "list") (hm:X.mg "list" = none) (hv:bootBuiltins "list" = some (.type "list")) (hg2:Gl X "reversed") (hm2:X.mg "reversed" = none) (ha:Ev X .O e f) (he:aV e=true:=by rfl) :
  Ev X .F (.Call (.Name "list" p) [.Call (.Name "reversed" p2) [e] [] pos2] [] pos) (un kz f) :=
 PE.by (qA hc hg hm hv hg2 hm2 ha.h (aF e [] X.env he)) fun σ H Q zz138_0=>by
  obtain ⟨B,F,E,d,k,q,w⟩:=zz138_0
  unfold un at q
  cases hf:f E with
  | none=>rw [hf] at q; cases q
  | some x =>
   rw [hf,DA] at q
   match x,hf,q with
   | .lst ys,hf,q =>
    have q':some (D.lst ys.reverse)=some d:=q
    cases q'
    refine ⟨B,F,E,.lst ys,k,hf,fun v F1 H1 x1 r1=>?_⟩
    obtain ⟨a,vs,rfl,ha,rs⟩:=OB.lst x1.sub (r1:OB F1 H1 v (.lst ys))
    exact ⟨a,vs,rfl,SqL.of ha,fun l hl=>w _ F1 _ (x1.trans (Ext.lay x1.sub hl)) ⟨l,_,rfl,x1.nofree hl,aD,nofr x1.sub hl,rs.reverse⟩⟩
end
end L2.Cu
namespace L2
open PySem PySem.Spec PyProof.Rows
def zF (K:PySem.W.Frag):V→V→Hp→VK→Prop:=fun x y H Q=>∃ l k xs,x=.ref l∧y=.int k∧SqL K H l xs∧0≤k∧k < 2 ^ 20∧xs.length * k.toNat≤sizeLine∧∀ c,H c=none→Q (.ref c) (upd H c (.lst (List.replicate k.toNat xs).flatten))
theorem yB {X:Cx}:OpR X (binaryOp .Mult) (zF X.K):=by
 intro pins s σ H x y v u Q I rx ry h
 obtain ⟨l,k,xs,rfl,rfl,hx,h0,h1,hz,q⟩:=h
 cases rx
 obtain ⟨t,rfl⟩:=ry
 obtain ⟨its,r,p,hzx⟩:=I.list hx
 have hT:=p.isList
 have hlen:=r.length
 have hzn:its.length * k.toNat≤sizeLine:=by rw [← hlen]; exact hz
 have e0:sizeLine=16777216:=rfl
 have c0:¬ (!Builtin.List.listFitsIndex k)=true:=by simp [Builtin.List.listFitsIndex]; omega
 have c1:¬ its.toArray.size * k.toNat > (2 ^ 63 - 1) / 8:=by rw [DV]; omega
 have c2:¬ Builtin.List.listTooLong (its.toArray.size * k.toNat)=true:=by rw [DV]; simp [Builtin.List.listTooLong]; omega
 obtain ⟨⟨c,d,dd,sl⟩,ho,hcl,n,hd⟩:=id hT
 simp only at hcl hd
 subst hcl hd
 refine wpAny_binaryOp_repeat_ref (T := "list") (U := "int") (by decide) hT.typeIs (fun s'=>typeIs_int s' k t) noFill_list_mul F.fills_int_mul F.slot_int_rmul repeat_list F.slot_int_index.lookup
  (G2 F.slot_int_rmul (typeIs_int s k t) F.entry_int_rmul (F.args_int_rmul_2 _ _) (lm_int_rmul_list_any k t l its.toArray n d sl) ⟨ho,rfl,hT.typeIs,?_⟩)
 refine G2 F.slot_list_mul hT.typeIs F.entry_list_mul (F.args_list_mul_2 _ _) (lm_list_mul_any l its.toArray n d sl k t c0 c1 c2) ⟨ho,?_⟩
 have e:List.foldl (fun x1 x2=>x1 ++ x2) #[] (List.replicate (if its.toArray.isEmpty=true then 0 else k.toNat) its.toArray)=((List.replicate k.toNat its).flatten).toArray:=by
  split
  ·rename_i he
   have:its=[]:=by simpa using he
   subst this
   simp
  ·exact Dc ..
 rw [e]
 exact ⟨.ref _,_,I.laid (t':=s.toks) (o:=.lst (List.replicate k.toNat xs).flatten) (fun b u e=>DQ _ e) (DY _) ⟨by rw [se,Nat.mul_comm]; exact hz,_,0,r.rep k.toNat,D0 _ rfl⟩,rfl,q _ I.fresh⟩
end L2
namespace L2.Cu
open PySem PySem.Spec PyProof.Rows
def o_ (x y:D):Option D:=match x,y with
 | .lst z,.int n=>@ite _ (0≤n∧n < 2 ^ 20∧z.length * n.toNat≤sizeLine) (Classical.propDecidable _) (some (.lst (List.replicate n.toNat z).flatten)) none
 | _,_=>none
section
variable {X:Cx}{a b:Expr}{f g:DE→Option D}{pos:Pos}
theorem yc {K:PySem.W.Frag}:fV .V (zF K) o_:=fun F H v w x y d Q s rx ry h q=>by
 match x,y,rx,ry,h with
 | .lst z,.int n,rx,ry,h =>
  have h':@ite _ (0≤n∧n < 2 ^ 20∧z.length * n.toNat≤sizeLine) (Classical.propDecidable _) (some (D.lst (List.replicate n.toNat z).flatten)) none=some d:=h
  by_cases hc:0≤n∧n < 2 ^ 20∧z.length * n.toNat≤sizeLine
  ·rw [if_pos hc] at h'
   cases h'
   obtain ⟨p,vs,rfl,hp,rp⟩:=OB.lst s rx
   refine ⟨p,n,vs,rfl,ry.int,SqL.of hp,hc.1,hc.2.1,by rw [rp.length]; exact hc.2.2,fun c hcn=>?_⟩
   have x2:=Ext.freeze (o:=HO.lst (List.replicate n.toNat vs).flatten) s hcn
   exact q _ _ _ x2 (.lst aD ((rp.rep n.toNat).mono x2.fr))
  ·rw [if_neg hc] at h'; cases h'
theorem nG (ha:Ev X .O a f) (hb:Ev X .O b g):Ev X .V (.BinOp a .Mult b pos) (bin o_ f g):=il yB yc ha hb
theorem yM (z:List D) (n:Int):o_ (.lst z) (.int n)=@ite _ (0≤n∧n < 2 ^ 20∧z.length * n.toNat≤sizeLine) (Classical.propDecidable _) (some (.lst (List.replicate n.toNat z).flatten)) none:=rfl
theorem o9 {x:D}{n:Nat} (h:n < 1048576):o_ (.lst [x]) (.int (n:Int))=some (.lst (List.replicate n x)):=by
 have e:(List.replicate n [x]).flatten=List.replicate n x:=by
  induction n with
  | zero=>rfl
  | succ n ih=>rw [Eb,Em,ih (by omega),Eb]; rfl
 have hz:[x].length * ((n:Int)).toNat≤sizeLine:=by
  show (0 + 1) * ((n:Int)).toNat≤16777216
  omega
 rw [yM,if_pos ⟨Int.natCast_nonneg n,by omega,hz⟩,Ey,e]
end
open PySem PySem.W PySem.Calls PyProof.Rows PySem.Spec Att
theorem Bz (P:Params):((boot_heap P).isNs mainGlobals,(boot_heap P).objs.size,(boot_heap P).nsMap mainGlobals "__annotations__")=(true,11,some (.ref 6)):=by kernel_rfl
abbrev rn (p q:Program) (loose:List Str) (Xt:Shared→Bool) {α:Type} (Yf:Shared→α) (a:α) (N:Nat):Prop:=∀ (w:World) (os:OsState),
 (PySem.W.Fast.tw14082659384304107361 PySem.W.Fast.tw14364793385576792824 p w 11 (some (.ref 6)) N ⟨boot_heap w.params,Array.mk [],boot_drawn,boot_toks,os⟩ (topStub p)).map
  (fun s=>(staticsOk (importedModules p.main.body) (boot_heap w.params) s.heap && namesBound p s.heap && gensDone s && laidKept (boot_heap w.params) s.heap,
   PySem.W.Fast.tw4187177175401517315 q loose (importedModules p.main.body) Xt true s,Yf s))=some (true,openGood q loose,a)
theorem yT {p q:Program}{loose:List Str}{Xt:Shared→Bool} {α:Type}{Yf:Shared→α}{a:α}{N:Nat} (e:opening p=plainProg p.main.scope.names) (hN:Nat.ble 600 N=true) (f:∀ s,fenceModules? p s=some s)
  (h:rn p q loose Xt Yf a N):LeftO p q loose Xt Yf (fun _=>a) N:=fun w=>by
 obtain ⟨⟨hp,gs,d,k,os⟩,e1,e2⟩:=Option.map_eq_some_iff.mp (boot_open e hN f w)
 obtain ⟨rfl,rfl,rfl,rfl⟩:hp=boot_heap w.params∧gs=Array.mk []∧d=boot_drawn∧k=boot_toks:=by simpa using e2
 obtain ⟨s,r1,r2⟩:=Option.map_eq_some_iff.mp (h w os)
 rw [← PySem.W.Fast.te14082659384304107361,← PySem.W.Fast.te14364793385576792824] at r1
 rw [← PySem.W.Fast.te4187177175401517315] at r2
 obtain ⟨b1,b2⟩:=Fc (Bz w.params)
 obtain ⟨b2,b3⟩:=Fc b2
 obtain ⟨c1,c2⟩:=Fc r2
 have t:topFrom treeTable p w N ⟨boot_heap w.params,Array.mk [],boot_drawn,boot_toks,os⟩=some s:=by
  unfold topFrom
  dsimp only
  rw [b1,b2,b3,r1]
  show (match staticsOk (importedModules p.main.body) (boot_heap w.params) s.heap && namesBound p s.heap && gensDone s && laidKept (boot_heap w.params) s.heap with | true=>some s | false=>none)=_
  rw [c1]
 unfold openEnds
 rw [e1]
 show (topFrom treeTable p w N _).map _=_
 rw [t]
 exact ED some c2
def KH (h:Heap):Frag:=(List.range h.objs.size).filterMap fun a=>match h.get? a with
 | some o=>if o.cls == Value.type "list" then none else some (a,o)
 | none=>none
theorem wA {K:Frag}{a:Addr}{o:Obj}:K.lookup a=some o→(a,o) ∈ K:=by
 induction K with
 | nil=>intro e; cases e
 | cons p r ih =>
  intro e
  obtain ⟨b,x⟩:=p
  rw [EI] at e
  cases hb:a == b with
  | true=>rw [hb] at e; cases e; rw [beq_iff_eq.mp hb]; exact .head _
  | false=>rw [hb] at e; exact .tail _ (ih e)
theorem wz {h:Heap}{a:Addr}{o:Obj} (m:(a,o) ∈ KH h):h.get? a=some o∧o.cls ≠ Value.type "list" := by
 obtain ⟨b,_,e⟩:=List.mem_filterMap.mp m
 cases hb:h.get? b with
 | none=>rw [hb] at e; cases e
 | some x =>
  rw [hb] at e
  dsimp only at e
  by_cases hc:(x.cls == Value.type "list")=true
  ·rw [if_pos hc] at e; cases e
  ·rw [if_neg hc] at e; cases e; exact ⟨hb,fun q=>hc (beq_iff_eq.mpr q)⟩
theorem CZ (h:Heap):(KH h).In h:=fun _ _ e=>(wz (wA e)).1
theorem ve (h:Heap):nq (KH h)=true:=List.all_eq_true.mpr fun p m=>by
 have:=(wz (a:=p.1) (o:=p.2) m).2
 simpa using this
def db (s:Stmt):Str:=match s with
 | .FunctionDef n _ _ _ _ _ _ _ _ _=>n
 | _ => ""
abbrev dO (p:Program) (i:Nat):Stmt:=p.main.body.getD i (.Pass ⟨0,0,0,0⟩)
def zT (fd:FuncData):FuncData:={ fd with kwdefaults:=.none,doc:=.none,pyModule:=.none,annotations:=none,code:=.none,closureTuple:=.none }
def y8 (K:Frag) (qual:Str) (f:Addr):Option (FuncData×Bool×Bool):=match K.lookup f with
 | some ⟨_,_,.func fd,_⟩=>some (zT fd,codeIn K fd.code qual,keepIn K (.ref f))
 | _=>none
def wX (K:Frag) (st:Stmt):Option (FuncData×Bool×Bool):=match nsIn K mainGlobals (db st) with
 | some (some (.ref f))=>y8 K (db st) f
 | _=>none
abbrev wY (x qual:Str) (st:Stmt):Option (FuncData×Bool×Bool):=some (fnOf x qual (jM st) (eB st) (ai st) .none .none .none .none none .none .none,true,true)
def BN:Option (Option Value)→Option (Option Value)
 | some (some (.int n _))=>some (some (.int n 0))
 | x=>x
theorem zP {K:Frag}{x qual:Str}{st:Stmt}{f:Addr} (e:y8 K qual f=wY x qual st):∃ fd,Fun K x qual st f fd:=by
 unfold y8 at e
 split at e
 ·rename_i oc od fd sl hl
  obtain ⟨e1,e2⟩:=Fc (DR e)
  obtain ⟨e2,e3⟩:=Fc e2
  refine ⟨fd,⟨oc,od,fd.kwdefaults,fd.doc,fd.pyModule,fd.annotations,fd.code,fd.closureTuple,sl,?_,hl,e2⟩,e3⟩
  cases fd
  simp only [zT,FuncData.mk.injEq,true_and] at e1 ⊢
  exact e1
 ·cases e
structure TT (p:Program) (ds:List Nat) (zs:List Str) (cs:List (Str×Int)) {β:Type} (mo:Frag→β) (mb:β) (K:Frag) (mg:Str→Option Value) where
 f:Nat→Addr
 fd:Nat→FuncData
 F:∀ i,i ∈ ds→Fun K (db (dO p i)) (db (dO p i)) (dO p i) (f i) (fd i)
 m:∀ i,i ∈ ds→mg (db (dO p i))=some (.ref (f i))
 z:∀ x,x ∈ zs→mg x=none
 t:Str→Tok
 c:∀ y,y ∈ cs→mg y.1=some (.int y.2 (t y.1))
 o:mo K=mb
 g:∀ (x:Str) (v:Value),nsIn K mainGlobals x=some (some v)→mg x=some v
abbrev iO (p:Program) (ds:List Nat) (zs:List Str) (cs:List (Str×Int)) {β:Type} (mo:Frag→β) (K:Frag):=(ds.map fun i=>wX K (dO p i),zs.map (nsIn K mainGlobals),(cs.map fun c=>BN (nsIn K mainGlobals c.1)),mo K)
abbrev pM (p:Program) (ds:List Nat) (zs:List Str) (cs:List (Str×Int)) {β:Type} (mb:β):=((ds.map fun i=>wY (db (dO p i)) (db (dO p i)) (dO p i)),(zs.map fun _=>some none:List (Option (Option Value))),(cs.map fun c=>(some (some (.int c.2 0)):Option (Option Value))),mb)
theorem BM {p:Program}{ds:List Nat}{zs:List Str}{cs:List (Str×Int)} {β:Type}{mo:Frag→β}{mb:β}{K:Frag}{h:Heap}{mg:Str→Option Value} (X:K.In h) (G:h.Ns mainGlobals mg) (e:iO p ds zs cs mo K=pM p ds zs cs mb):Nonempty (TT p ds zs cs mo mb K mg):=by
 obtain ⟨e1,e⟩:=Fc e
 obtain ⟨e2,e⟩:=Fc e
 obtain ⟨e3,e4⟩:=Fc e
 have A:∀ i,∃ f fd,i ∈ ds→Fun K (db (dO p i)) (db (dO p i)) (dO p i) f fd∧mg (db (dO p i))=some (.ref f):=fun i=>by
  by_cases hi:i ∈ ds
  ·have q:=List.map_inj_left.mp e1 i hi
   unfold wX at q
   split at q
   ·rename_i f hf
    obtain ⟨fd,r⟩:=zP q
    exact ⟨f,fd,fun _=>⟨r,mg_of X G hf⟩⟩
   ·cases q
  ·exact ⟨0,default,fun q=>absurd q hi⟩
 have B:∀ x,∃ t,∀ n,(x,n) ∈ cs→mg x=some (.int n t):=fun x=>by
  by_cases hx:∃ n,(x,n) ∈ cs
  ·obtain ⟨n,hn⟩:=hx
   have q:=List.map_inj_left.mp e3 _ hn
   dsimp only at q
   have u:∃ n' t,nsIn K mainGlobals x=some (some (.int n' t)):=by
    unfold BN at q
    split at q
    ·rename_i n' t hh; exact ⟨n',t,hh⟩
    ·rename_i hh; exact absurd q (hh n 0)
   obtain ⟨n',t,hh⟩:=u
   refine ⟨t,fun n₂ h₂=>?_⟩
   have q₂:=List.map_inj_left.mp e3 _ h₂
   dsimp only at q₂
   rw [hh] at q₂
   have z:=DR (DR q₂)
   injection z with z
   subst z
   exact mg_of X G hh
  ·exact ⟨0,fun n hn=>absurd ⟨n,hn⟩ hx⟩
 exact ⟨⟨fun i=>(A i).choose,fun i=>(A i).choose_spec.choose,fun i hi=>((A i).choose_spec.choose_spec hi).1,fun i hi=>((A i).choose_spec.choose_spec hi).2,
  fun x hx=>mg_none_of X G (List.map_inj_left.mp e2 x hx),fun x=>(B x).choose,fun y hy=>(B y.1).choose_spec y.2 hy,e4,fun x v q=>mg_of X G q⟩⟩
theorem BK {l:OpenLaw}{n k:Nat}{q:Program}{loose:List Str}{XP:(Str→Option Value)→Heap→Prop}{YP:World→Heap→Prop}{d:DefRec}{x:Str}{g:List D→Option D}
  (hn:l.most=some n) (hn2:n≤sizeLine) (hdf:d.params.defaults=[]) (hr:du k callerA)
  (F:∀ (w:World) (mg:Str→Option Value) (fa:Addr) (h:Heap),YP w h→h.Ns mainGlobals mg→mg d.name=some (.ref fa)→∃ K:Frag,K.In h∧nq K=true ∧
   ∃ fd:FuncData,(∀ (s:Shared) (u:Value),BindsTo s fd ⟨[u],[]⟩ [(x,u)])∧∀ base:Heap,K.In base→base.Ns mainGlobals mg→bD l.prog w K mg base CX0 k fa fd [x] (spD 1 g))
  (law:∀ ns:List Int,ns.length≤n→(∀ i ∈ ns,Builtin.Int.intBits i≤2 ^ 20)→g [.scr ns]=some (.bl true)):WalkO q loose XP YP l.row.toRowW d [] (fun f vs=>PySem.call f vs):=by
 intro w s₀ s₁ mg mb G Y fa o pm cd doc dV kV ho hd hcd hD hmg hg args vals as hpre hlay hrd hwl hlo
 obtain rfl:dV=.none:=Dflts.none hD hdf
 obtain rfl:kV=.none:=Dflts.noKw hD
 obtain ⟨a,vs,ns,rfl,rfl,hobj,hints,hlen⟩:=tH hn hpre hwl
 obtain ⟨K,KX,hK,fd,hb,hF⟩:=F w mg fa _ Y G.T.g hmg
 have run:=wF (CX:=CX0) (sp:=spD 1 g) KX G.T.g G.T.b G.T.builtins G.T.nolimit hg hobj hints (D6 hlen hn2) hr hF hb
  (fun H hO hS=>A2 (fun o ho=>o7 hK ho) hS hO (law ns hlen (zw hlay))) fun _ _ _ z=>z
 refine enter_call (FW run fun r s' hq=>?_)
 obtain ⟨rfl,h2,h3,h4⟩:=hq
 exact ⟨.inl ⟨.bool true,.bool true,[],rfl,fun _=>rfl,.bool true,tV l _,fun _=>⟨List.Pairwise.nil,fun _ hm=>(nomatch hm)⟩⟩,h2,h3,h4⟩
abbrev ie (p:Program):List Str:=(p.main.scope.names.map (·.1)).filter fun x => !(x == ("law" : Str))
theorem Cp {l:OpenLaw}{n k i N:Nat}{x:Str}{g:List D→Option D}{ds:List Nat}{zs:List Str}{cs:List (Str×Int)} {β:Type}{mo:Frag→β}{mb:β}{d:DefRec}
  (run:rn l.prog (view l.prog [i]) (ie l.prog) (fun s=>xlAt (view l.prog [i]) [] s && recOk [] s) (fun s=>iO l.prog ds zs cs mo (KH s.heap)) (pM l.prog ds zs cs mb) N)
  (said:PySem.W.Fast.tw9446332074065402090 l=true) (e:opening l.prog=plainProg l.prog.main.scope.names) (hN:Nat.ble 600 N=true) (f:∀ s,fenceModules? l.prog s=some s)
  (hdef:defOf (view l.prog [i]) l.name=some (d,[])) (hp:l.prog.theDef l.name=some (d.params,d.body,d.scope)) (hk:kwWritten? d.params.kwonlyargs d.params.kw_defaults=some [])
  (ok:(chainsOk (view l.prog [i]) && opensWell l.prog && (frees l.row.toRowW && l.row.within.isEmpty))=true) (hb:l.prog.bare) (hw:l.row.toRowW.promised)
  (hn:l.most=some n) (hn2:n≤sizeLine) (hdf:d.params.defaults=[]) (hr:du k callerA) (hnm:d.name=db (dO l.prog i)) (hi:i ∈ ds)
  (F:∀ {w:World}{K:Frag}{mg:Str→Option Value} (T:TT l.prog ds zs cs mo mb K mg) (base:Heap),K.In base→base.Ns mainGlobals mg→bD l.prog w K mg base CX0 k (T.f i) (T.fd i) [x] (spD 1 g))
  (B:∀ (kV doc pm:Value) (an:Option Addr) (cdv ct:Value) (u:Value),bindArgs (fnOf (db (dO l.prog i)) (db (dO l.prog i)) (jM (dO l.prog i)) (eB (dO l.prog i)) (ai (dO l.prog i)) .none kV doc pm an cdv ct) ⟨[u],[]⟩=pure [(x,u)])
  (law:∀ ns:List Int,ns.length≤n→(∀ i ∈ ns,Builtin.Int.intBits i≤2 ^ 20)→g [.scr ns]=some (.bl true)):l.Holds:=by
 have sd:l.wellSaid=true:=by rw [PySem.W.Fast.te9446332074065402090]; exact said
 refine holds_law sd fun k1=>holds_open (q:=view l.prog [i]) (loose:=ie l.prog) (Xt:=fun s=>xlAt (view l.prog [i]) [] s && recOk [] s) (XP:=XL (view l.prog [i]) []) (Yf:=fun s=>iO l.prog ds zs cs mo (KH s.heap)) (Ya:=fun _=>pM l.prog ds zs cs mb)
  (YP:=fun _ h=>∃ K:Frag,K.In h∧nq K=true∧iO l.prog ds zs cs mo K=pM l.prog ds zs cs mb) (N:=N) (d:=d) (kwd:=[])
  (yT e hN f run) (fun w s y=>⟨KH s.heap,CZ _,ve _,y⟩) (fun w h h' y kp=>?_) (fun s q=>xl_of s (Bool.and_eq_true_iff.mp q).1) XL.keeps hdef hp hk (fun s q=>recFacts_of (Bool.and_eq_true_iff.mp q).2) (Bool.or_true _) k1 ok hb hw ?_
 ·obtain ⟨K,a,b,c⟩:=y
  exact ⟨K,a.keeps kp,b,c⟩
 ·refine BK (x:=x) hn hn2 hdf hr (fun w mg fa h Y G hm=>?_) law
  obtain ⟨K,a,b,c⟩:=Y
  obtain ⟨T⟩:=BM (mg:=mg) a G c
  refine ⟨K,a,b,T.fd i,?_,?_⟩
  ·obtain ⟨oc,od,kV,doc,pm,an,cdv,ct,osl,q,_⟩:=(T.F i hi).ex
   rw [q]
   exact fun s u=>.of_eq (B kV doc pm an cdv ct u)
  ·have:=hm.symm.trans (hnm ▸ T.m i hi)
   cases this
   exact fun base kb nb=>F T base kb nb
end L2.Cu
namespace L2
open PySem
abbrev e7 (C t:Addr):Obj:={ cls:=.ref C,data:=.fields #[.ref t,.none,.none,.none,.bool false,.none] }
section
variable {prog:Program}{w:World}{A:Around}{E:Value→Shared→Prop}{h:Heap}{g:Array GenState}{d:Drawn}{t:Nat}{os:OsState}
variable {nm q:Str}{C N:Addr}{bs bm bmB:List Value}{hdct:Bool}{sn:List Str}{sub:List Value}{ab:Bool}{col:Option Bool}{dd:Option Addr}{k0 k1 k2 k3 k5:Option Value}{B newId initId:String}
theorem lF (F:ExcBaseFacts B newId initId bmB) (T:OwnTail h bmB bm) {mN:Str→Option Value}{us:List Value}{fI:Addr}{oI:Obj}{Q:Fin→Shared→Prop}
  (hC:h.get? C=some (excClassObj nm q C N bs bm hdct sn sub ab col dd k0 k1 k2 k3 k5 newId)) (hN:h.Ns N mN) (hini:mN "__init__" = some (.ref fI)) (hfun:h.get? fI=some oI) (hcls:oI.cls=.type "function")
  (hrun:wpAny (model prog w) A (call (.ref fI) (.ref (h.objs.size + 1) :: us)) (fun r s'=>r=.none∧Q (.done (.ret (.ref (h.objs.size + 1)))) s') E ⟨(h.push { cls:=.type "tuple",data:=.seq us.toArray }).push (e7 C h.objs.size),g,d,t,os⟩)
  (hus:us.length≤sizeLine):wpAny (model prog w) A (Builtin.«type.__call__» ⟨.ref C :: us,[]⟩) Q E ⟨h,g,d,t,os⟩:=by
 let t1:Obj:={ cls:=.type "tuple",data:=.seq us.toArray }
 let e1:Obj:={ cls:=.ref C,data:=.fields #[.ref h.objs.size,.none,.none,.none,.bool false,.none] }
 have kp:∀ b o,h.get? b=some o→((h.push t1).push e1).get? b=some o:=fun b o z=>DQ e1 (DQ t1 z)
 repeat (first | with_reducible refine Eo hC ?_ | with_reducible refine wpAny_madeBy_exc hC ?_ | wp_step)
 refine codeAny_call_builtin_code (Gp _ F.quiet) (wpAny_check_new_subT F T hC (codeAny_exc_new_subT F T hC ?_ hus))
 show wpAny _ _ _ _ _ _
 have hC1:=kp _ _ hC
 have hget:((h.push t1).push e1).get? (h.objs.size + 1)=some e1:=by heap_get
 have hself:(Value.ref C :: bm).contains (.ref C)=true:=by simp
 unfold isInstance
 repeat (first | with_reducible refine Eo hget ?_ | (with_reducible refine wpAny_isSubtype_exc hC1 ?_; rw [hself]) | wp_step)
 show wpAny _ _ (typeLookup (.ref C) _) _ _ _
 refine wpAny_typeLookup_tail hC1 (hN.keeps kp) (T.keeps kp) F.mroIs F.init.lookup ?_
 rw [hini]
 refine E9 (DO ?_)
 unfold bindSpecial
 refine DO (FK (T := "function") ⟨_,kp _ _ hfun,hcls⟩ ?_)
 rw [if_pos (by decide)]
 refine DT (DO (EB hrun (fun r s' z=>?_) fun _ _ z=>z))
 obtain ⟨rfl,hQ⟩:=z
 wp_walk
 exact hQ
theorem w5 (F:ExcBaseFacts B newId initId bmB) (T:OwnTail h bmB bm) {mN:Str→Option Value}{us:List Value}{fI:Addr}{oI:Obj}{Q:Value→Shared→Prop}
  (hC:h.get? C=some (excClassObj nm q C N bs bm hdct sn sub ab col dd k0 k1 k2 k3 k5 newId)) (hN:h.Ns N mN) (hini:mN "__init__" = some (.ref fI)) (hfun:h.get? fI=some oI) (hcls:oI.cls=.type "function")
  (hrun:wpAny (model prog w) (A.under (.builtin "type.__call__" ⟨.ref C :: us,[]⟩)) (call (.ref fI) (.ref (h.objs.size + 1) :: us)) (fun r s'=>r=.none∧Q (.ref (h.objs.size + 1)) s') E ⟨(h.push { cls:=.type "tuple",data:=.seq us.toArray }).push (e7 C h.objs.size),g,d,t,os⟩)
  (hus:us.length≤sizeLine):wpAny (model prog w) A (call (.ref C) us) Q E ⟨h,g,d,t,os⟩:=by
 have c1:=tc_lookup
 have c2:=tc_bind (.ref C)
 have hT:(⟨h,g,d,t,os⟩:Shared).TypeIs (.ref C) "type" := ⟨_,hC,rfl⟩
 refine wpAny_call (codeAny_of_tree ?_)
 show wpAny _ _ (callAny (.ref C) _) _ _ _
 repeat (any_goals (first | assumption | with_reducible refine Eo hC ?_ | wp_step))
 refine ⟨rfl,codeAny_call_builtin_at (Gp _ (by decide +kernel)) entry_typeCall (wpAny_check_type_call_sub hC (lF F T hC hN hini hfun hcls ?_ hus))⟩
 exact hrun
end
open PySem PySem.W
open Builtin Builtin.ObjectAttr
section
variable {prog:Program}{w:World}{A:Around}{E:Value→Shared→Prop}{s:Shared}{K:Frag}{x C:Addr}{mA:Str→Option Value}{cd:ClassData}{name:Str}{v:Value}
theorem kP {R:Fin→Shared→Prop}{tk:Tok}{b:Bool}{ns:List Str} (X:K.In s.heap) (I:s.heap.Inst x C mA) (hc:clsIn K C=some cd) (hd:cd.hasDict=true) (hw:Within mA ns) (hz:ns.length≤1000)
  (h:∀ h' tk',h'.Inst x C (fun y=>if y=name then some v else mA y) →
   (∀ b o,b ≠ x→(∀ o₀ dx,s.heap.get? x=some o₀→o₀.dict=some dx→b ≠ dx)→s.heap.get? b=some o→h'.get? b=some o) →
   (∀ o₀,s.heap.get? x=some o₀→∃ dx,h'.get? x=some { o₀ with dict:=some dx }∧(o₀.dict=some dx∨o₀.dict=none∧s.heap.objs.size≤dx))→R (.done (.ret .none)) { s with heap:=h',toks:=tk' }) :
  wpAny (model prog w) A (storeInOwnDict (.ref x) (.ref C) (.str name tk) name v b) R E s:=by
 obtain ⟨o,hx,hcl,hnc,hdict⟩:=I
 obtain ⟨hh,g,dr,tt,os⟩:=s
 unfold storeInOwnDict ownDictForStores instanceDict
 refine DO (DT (DO (DO (wpAny_loadPart hx ?_))))
 rw [hcl]
 refine DO ((looks_clsIn X hc).here ?_)
 rw [hd]
 rcases hdict with ⟨e0,hm0⟩ | ⟨dx,e1,hne,hns⟩
 ·rw [e0,if_neg (by decide)]
  show wpAny _ _ (if (!true || !typeHasDict (Value.ref C))=true then pure none else _) _ _ _
  rw [if_neg (by simp [typeHasDict])]
  have hxs:x ≠ hh.objs.size:=D9 (DU hx)
  have hx1:(hh.push { cls:=.type "dict",data:=.dict #[] }).get? x=some o:=DQ _ hx
  split
  ·rename_i c hcd
   exact absurd hcd (hnc c)
  ·refine DO (wpAny_alloc' (DO (wpAny_update' hx1 (DT ?_))))
   have hgd:((hh.push { cls:=.type "dict",data:=.dict #[] }).update x fun o=>{ cls:=o.cls,dict:=some hh.objs.size,data:=o.data,slots:=o.slots }).get? hh.objs.size=some { cls:=.type "dict",data:=.dict #[] } :=
    (Heap.get?_update_ne _ _ _ _ hxs.symm).trans (Heap.get?_push_at rfl rfl)
   have hnd:((hh.push { cls:=.type "dict",data:=.dict #[] }).update x fun o=>{ cls:=o.cls,dict:=some hh.objs.size,data:=o.data,slots:=o.slots }).Ns hh.objs.size (fun _=>none) :=
    ⟨_,#[],_,hgd,rfl,fun e he=>absurd he (by simp),fun _=>rfl⟩
   show wpAny _ _ (storeInDict hh.objs.size (.str name tk) name v) _ _ _
   unfold storeInDict newKeyGuard
   refine DO (DT (DO (wpAny_nsSet1 (Heap.Ns1.of_empty hnd) fun h' n1 sb=>?_)))
   obtain ⟨oD,esD,epD,hoD,hdD,hcD⟩:=n1.count (Within.cons name v Within.nil)
   refine DO (wpAny_lookBehind hoD (by rw [hdD]; exact pastItsLine_dict (D6 hcD (by rw [DG,DH,GH]; omega))) ?_)
   refine DT ?_
   have hx':h'.get? x=some { o with dict:=some hh.objs.size }:=by
    refine (sb.2 x hxs).trans (Er _ hx1 ?_)
    have hfr:=(Heap.get?_some_iff.mp hx).2
    obtain ⟨oc,od,odt,osl⟩:=o
    cases odt <;> first | rfl | exact hfr
   refine h h' _ ⟨_,hx',hcl,hnc,.inr ⟨hh.objs.size,rfl,hxs.symm,?_⟩⟩ (fun b ob hbx _ hb=>?_) fun o₀ q=>?_
   ·obtain ⟨o',es,ep,a1,a2,a3,au,a4⟩:=n1
    exact ⟨o',es,ep,a1,a2,a3,au,fun y=>by rw [a4 y]; by_cases hy:y=name <;> simp [hy,hm0]⟩
   ·exact (sb.2 b (D9 (DU hb))).trans ((Heap.get?_update_ne _ _ _ _ hbx).trans (DQ _ hb))
   ·obtain rfl:o=o₀:=DR (hx.symm.trans q)
    exact ⟨hh.objs.size,hx',.inr ⟨e0,DY _⟩⟩
 ·rw [e1,if_neg (by decide)]
  refine DT ?_
  show wpAny _ _ (storeInDict dx (.str name tk) name v) _ _ _
  unfold storeInDict newKeyGuard
  refine DO (DT (DO (wpAny_nsSet1 hns fun h' n1 sb=>?_)))
  obtain ⟨oD,esD,epD,hoD,hdD,hcD⟩:=n1.count (Within.cons name v hw)
  refine DO (wpAny_lookBehind hoD (by rw [hdD]; exact pastItsLine_dict (D6 hcD (by rw [DG,GH]; omega))) ?_)
  refine DT ?_
  refine h h' _ ⟨o,(sb.2 x hne.symm).trans hx,hcl,hnc,.inr ⟨dx,e1,hne,n1⟩⟩ (fun b ob _ hbd hb=>(sb.2 b (hbd o dx hx e1)).trans hb) fun o₀ q=>?_
  obtain rfl:o=o₀:=DR (hx.symm.trans q)
  refine ⟨dx,?_,.inl e1⟩
  rw [show ({ o with dict:=some dx }:Obj)=o by rw [← e1]]
  exact (sb.2 x hne.symm).trans hx
theorem uJ {Q:Unit→Shared→Prop}{ns:List Str} (X:K.In s.heap) (I:s.heap.Inst x C mA) (hc:clsIn K C=some cd) (hp:∀ self,refuseLoop self "__setattr__" cd.mro=pure ()) (ho:cd.mro.contains (.type "object")=true) (hd:cd.hasDict=true)
  (hs:findIn K (.ref C) "__setattr__" = some (some (.builtin "object.__setattr__"))) (hn:findIn K (.ref C) name=some none) (hw:Within mA ns) (hz:ns.length≤1000)
  (h:∀ h' tk',h'.Inst x C (fun y=>if y=name then some v else mA y) →
   (∀ b o,b ≠ x→(∀ o₀ dx,s.heap.get? x=some o₀→o₀.dict=some dx→b ≠ dx)→s.heap.get? b=some o→h'.get? b=some o) →
   (∀ o₀,s.heap.get? x=some o₀→∃ dx,h'.get? x=some { o₀ with dict:=some dx }∧(o₀.dict=some dx∨o₀.dict=none∧s.heap.objs.size≤dx))→Q () { s with heap:=h',toks:=tk' }) :
  wpAny (model prog w) A (setAttr (.ref x) name v) Q E s:=by
 obtain ⟨o,hx,hcl,hnc,hdict⟩:=id I
 have hno:notCls o=true:=by
  unfold notCls
  split
  ·rename_i c q
   exact absurd q (hnc c)
  ·rfl
 obtain ⟨od,IA⟩:∃ od,InstAt s.heap x o C od:=by
  rcases hdict with ⟨e0,_⟩ | ⟨dx,e1,_,hns⟩
  ·exact ⟨none,hx,hcl,hno,by rw [e0]; trivial⟩
  ·obtain ⟨od,es,ep,e,_⟩:=hns
   exact ⟨some od,hx,hcl,hno,by rw [e1]; exact e⟩
 have SF:=PySem.F.store_object
 have hmro:Looks (model prog w) s.heap (mroOf (.ref C)) cd.mro:=(looks_clsIn X hc).andThen .now
 have ne:cd.mro.isEmpty=false:=by
  cases q:cd.mro with
  | nil=>rw [q] at ho; cases ho
  | cons _ _=>rfl
 have sub:Looks (model prog w) s.heap (isInstance (.ref x) (.type "object")) true:=IA.type.andThen (looks_mroIn X (by unfold mroIn; rw [hc,DA,if_neg (by rw [ne]; decide),ho]))
 refine set_plain X IA hs (F7 SF.slot.plain SF.entry (@check_slot (model prog w) _ _ { s with toks:=s.toks + 1 } "object.__setattr__" "object" "__setattr__" (.ref x) [.str name s.toks,v] [] _ SF.kind SF.split sub (SF.args (.ref x) (.str name s.toks) v) ?_))
 rw [osa_eq,refuse_eq]
 refine DO (DO (IA.type _ _ _ _ (fun _ _ e=>e) (DO (hmro _ _ _ _ (fun _ _ e=>e) ?_))))
 rw [hp]
 refine DT (DO (IA.type _ _ _ _ (fun _ _ e=>e) (DO (looks_findIn X hn _ _ _ _ (fun _ _ e=>e) ?_))))
 refine DO (DT ?_)
 exact kP (s:={ s with toks:=s.toks + 1 }) X I hc hd hw hz fun h' tk' i1 i2 i3=>h h' tk' i1 i2 i3
end
section
variable {prog:Program}{w:World}{A:Around}{E:Value→Shared→Prop}{h:Heap}{g:Array GenState}{dr:Drawn}{t:Nat}{os:OsState}{K:Frag}{x C:Addr}{mA:Str→Option Value}{cd:ClassData}{name:Str}{v:Value}
theorem lkF {M:Model}{r:Option Value}{n:Str}{Q:Option Value→Shared→Prop} (X:K.In h) (e:findIn K (.ref C) n=some r) (q:Q r ⟨h,g,dr,t,os⟩):wpAny M A (typeLookup (.ref C) n) Q E ⟨h,g,dr,t,os⟩:=looks_findIn X e _ _ _ _ (fun _ _ z=>z) q
theorem lkC {M:Model}{Q:ClassData→Shared→Prop} (X:K.In h) (e:clsIn K C=some cd) (q:Q cd ⟨h,g,dr,t,os⟩):wpAny M A (classData C) Q E ⟨h,g,dr,t,os⟩:=looks_clsIn X e _ _ _ _ (fun _ _ z=>z) q
theorem kQ {Q:Fin→Shared→Prop}{tk:Tok} (X:K.In h) (I:h.Inst x C mA) (hc:clsIn K C=some cd) (hd:cd.hasDict=true) (hn:findIn K (.ref C) name=some none) (hv:mA name=some v)
  (q:Q (.done (.ret v)) ⟨h,g,dr,t,os⟩):wpAny (model prog w) A (Builtin.«object.__getattribute__» ⟨[.ref x,.str name tk],[]⟩) Q E ⟨h,g,dr,t,os⟩:=by
 obtain ⟨o,hx,hcl,hnc,hdict⟩:=I
 rcases hdict with ⟨_,hm0⟩ | ⟨dx,e1,hne,hns⟩
 ·rw [hm0 name] at hv; cases hv
 unfold Builtin.«object.__getattribute__»
 repeat (first | (with_reducible refine Eo hx ?_; rw [hcl]) | with_reducible refine lkF X hn ?_ | wp_step)
 split
 ·rename_i c hcd
  exact absurd hcd (hnc c)
 unfold instanceDict
 repeat (first | (with_reducible refine Eo hx ?_; rw [hcl]) | (with_reducible refine lkC X hc ?_; rw [hd]) | wp_step)
 rw [e1]
 repeat (first | (with_reducible refine wpAny_nsGet hns.ns ?_; rw [hv]) | wp_step)
 exact q
theorem w4 {Q:Value→Shared→Prop}{expr:Bool} (X:K.In h) (I:h.Inst x C mA) (hc:clsIn K C=some cd) (hd:cd.hasDict=true) (hb:cd.mro.contains (.type "BaseException")=true)
  (hga:findIn K (.ref C) "__getattribute__" = some (some (.builtin "BaseException.__getattribute__"))) (hgt:findIn K (.ref C) "__getattr__" = some none) (hn:findIn K (.ref C) name=some none) (hv:mA name=some v)
  (hh:handedOut v=pure v) (q:Q v ⟨h,g,dr,t + 1,os⟩):wpAny (model prog w) A (getAttr (.ref x) name expr) Q E ⟨h,g,dr,t,os⟩:=by
 obtain ⟨o,hx,hcl,_⟩:=id I
 have hx0:(expr && onTheHeap (Value.builtin "BaseException.__getattribute__"))=false:=by cases expr <;> rfl
 have hx1:(onTheHeap (Value.ref C) && Value.builtin "BaseException.__getattribute__" == Value.builtin "object.__getattribute__")=false:=by
  rw [show (Value.builtin "BaseException.__getattribute__" == Value.builtin "object.__getattribute__")=false by decide +kernel]; rfl
 have hbs:bindSpecial (.builtin "BaseException.__getattribute__") (.ref x)=pure (.builtin "BaseException.__getattribute__",[.ref x]):=(Ft).ga.bind (.ref x)
 unfold getAttr getAttrBy
 repeat (first | (with_reducible refine Eo hx ?_; rw [hcl]) | with_reducible refine lkF X hga ?_ | with_reducible refine lkF X hgt ?_ | wp_step)
 have IA:Looks (model prog w) h (typeOf (.ref x)) (.ref C):=(Looks.ld (part:=none) hx).andThen (by rw [hcl]; exact .now)
 have ne:cd.mro.isEmpty=false:=by
  cases z:cd.mro with
  | nil=>rw [z] at hb; cases hb
  | cons _ _=>rfl
 have sub:Looks (model prog w) h (isInstance (.ref x) (.type "BaseException")) true:=IA.andThen (looks_mroIn X (by unfold mroIn; rw [hc,DA,if_neg (by rw [ne]; decide),hb]))
 have hk:builtinKind "BaseException.__getattribute__" = some .slot:=by decide +kernel
 have hsp:splitId "BaseException.__getattribute__" = some ("BaseException","__getattribute__"):=by decide +kernel
 refine F7 (Ft).ga.plain PySem.F.entry_bexc_ga (@check_slot (model prog w) _ _ ⟨h,g,dr,t + 1,os⟩ "BaseException.__getattribute__" "BaseException" "__getattribute__" (.ref x) [.str name t] [] _ hk hsp sub (PySem.F.args_bexc_ga (.ref x) (.str name t)) ?_)
 refine kQ X I hc hd hn hv ?_
 show wpAny _ _ (handedOut v) _ _ _
 rw [hh]
 exact DT q
end
structure Kp (fs xs:List Addr) (h h':Heap):Prop where
 keep:∀ b o,b ∉ fs→b ∉ xs→h.get? b=some o→h'.get? b=some o
 slot:∀ b o,b ∈ fs→b ∉ xs→h.get? b=some o→∃ sl,h'.get? b=some { o with slots:=sl }
theorem Kp.trans {fs xs:List Addr}{h h1 h2:Heap} (a:Kp fs xs h h1) (b:Kp fs xs h1 h2):Kp fs xs h h2 :=
 ⟨fun c o n1 n2 e=>b.keep c o n1 n2 (a.keep c o n1 n2 e),fun c o n1 n2 e=>by
  obtain ⟨sl,e1⟩:=a.slot c o n1 n2 e
  obtain ⟨sl',e2⟩:=b.slot c _ n1 n2 e1
  exact ⟨sl',e2⟩⟩
theorem Kp.wide {fs fs' xs xs':List Addr}{h h':Heap} (a:Kp fs xs h h') (h1:∀ b ∈ fs,b ∈ fs') (h2:∀ b ∈ xs,b ∈ xs'):Kp fs' xs' h h' :=
 ⟨fun c o n1 n2 e=>a.keep c o (fun z=>n1 (h1 c z)) (fun z=>n2 (h2 c z)) e,fun c o n1 n2 e=>by
  by_cases hc:c ∈ fs
  ·exact a.slot c o hc (fun z=>n2 (h2 c z)) e
  ·exact ⟨o.slots,a.keep c o hc (fun z=>n2 (h2 c z)) e⟩⟩
theorem Kp.funs {base:Heap}{xs:List Addr}{h h':Heap}{l:List Env}{fs:List Addr} (k:Kp fs xs h h') (hl:h.FunFrames base l) (hx:∀ b o,b ∈ xs→h.get? b=some o→∃ vs,o.data=.fields vs):h'.FunFrames base l :=
 hl.of_keeps fun b o e hn=>by
  have hb:b ∉ xs:=fun z=>by
   obtain ⟨vs,q⟩:=hx b o z e
   exact hn vs q
  by_cases hf:b ∈ fs
  ·obtain ⟨sl,e'⟩:=k.slot b o hf hb e
   exact ⟨_,e',rfl⟩
  ·exact ⟨o,k.keep b o hf hb e,rfl⟩
def Fly (h:Heap) (o0:Obj) (e T:Addr) (fl:Value):Prop :=
 ∃ vs oT ts,h.get? e=some { o0 with data:=.fields vs }∧vs[1]? = some (.ref T)∧T ≠ e∧h.get? T=some oT∧oT.data=.fields ts∧ts[3]? = some fl
section
variable {M:Model}{A:Around}{E:Value→Shared→Prop}{s:Shared}
theorem l8 {base h:Heap}{l:List Env}{e:Addr}{o:Obj}{vs:Array Value} (hl:h.FunFrames base l) (he:h.get? e=some o) (hd:o.data=.fields vs):e ∉ l.filterMap (·.frame):=fun hm=>by
 obtain ⟨_,o',ho,hnf⟩:=hl.mem hm
 rw [he] at ho
 cases ho
 exact hnf vs hd
theorem kX {base:Heap}{env:Env}{outer:List Env}{L e:Addr}{o0:Obj}{vs:Array Value}{head:Value}{nx:Bool}{Q:Unit→Shared→Prop}
  (hfr:A.frames=some (env :: outer)) (hl:s.heap.FunFrames base (env :: outer)) (hf:env.frame=some L) (he:s.heap.get? e=some { o0 with data:=.fields vs }) (hsz:1 < vs.size)
  (h:∀ h' T,Kp ((env :: outer).filterMap (·.frame)) [e] s.heap h'→s.heap.objs.size≤T→Fly h' o0 e T (rawInt L)→Q () { s with heap:=h' }) :
  wpAny M A (do let a ← frameOf env; let pl ← entryPlaceOf L nx; let b ← EntryCells.newEntry head a .none (rawInt L) .none pl; setField (.ref e) 1 b) Q E s:=by
 have hene:=l8 hl he rfl
 refine DO (wpAny_frameOf_fun hfr hl hf fun h1 so=>?_)
 refine DO (wpAny_entryPlaceOf fun pl hpl=>?_)
 unfold EntryCells.newEntry newFields
 refine DO (EK ?_ (hpl.sizeOk5 _ _ _ _ _))
 have he1:h1.get? e=some { o0 with data:=.fields vs }:=(so.2.1 e hene).trans he
 generalize hO:({ cls:=.type "traceback",dict:=none,data:=.fields ([head,.ref L,.none,rawInt L,.none] ++ (if pl.isEmpty then List.replicate 6 Value.none else pl)).toArray }:Obj)=O
 have he2:=DQ (h:=h1) O he1
 have hne:h1.objs.size ≠ e:=FR (DU he1)
 refine Gu he2 rfl hsz ?_
 have he3:=Er (Obj.mapFields (·.setIfInBounds 1 (Value.ref h1.objs.size))) he2 (GO (FO rfl _))
 have hT:((h1.push O).update e (Obj.mapFields (·.setIfInBounds 1 (Value.ref h1.objs.size)))).get? h1.objs.size=some O :=
  (Ec _ _ (Ne.symm hne)).trans (D0 h1 (by rw [← hO]; rfl))
 have hsize:s.heap.objs.size≤h1.objs.size:=GA so.1.symm
 refine h _ h1.objs.size ⟨fun b o nb nx' q=>?_,fun b o hb nx' q=>?_⟩ hsize ⟨_,O,_,he3,by simp [hsz],hne,hT,by rw [← hO],?_⟩
 ·have hbe:b ≠ e:=fun z=>nx' (by simp [z])
  rw [Ec _ _ (Ne.symm hbe)]
  exact DQ _ ((so.2.1 b nb).trans q)
 ·have hbe:b ≠ e:=fun z=>nx' (by simp [z])
  obtain ⟨sl,q1⟩:=so.2.2 b o q
  refine ⟨sl,?_⟩
  rw [Ec _ _ (Ne.symm hbe)]
  exact DQ _ q1
 ·simp
theorem km {base:Heap}{env:Env}{outer:List Env}{L e:Addr}{o0:Obj}{vs:Array Value}{Q:Unit→Shared→Prop}
  (hfr:A.frames=some (env :: outer)) (hl:s.heap.FunFrames base (env :: outer)) (hf:env.frame=some L) (he:s.heap.get? e=some { o0 with data:=.fields vs }) (h1:vs[1]? = some .none)
  (h:∀ h' T,Kp ((env :: outer).filterMap (·.frame)) [e] s.heap h'→s.heap.objs.size≤T→Fly h' o0 e T (rawInt L)→Q () { s with heap:=h' }):wpAny M A (noteFrame (.ref e) env) Q E s:=by
 unfold noteFrame
 simp only [hf]
 refine DO (EG he rfl h1 ?_)
 rw [if_neg (by decide)]
 exact kX hfr hl hf he (Array.getElem?_eq_some_iff.mp h1).1 h
theorem l7 {base:Heap}{env:Env}{outer:List Env}{L e T:Addr}{o0:Obj}{Q:Unit→Shared→Prop}
  (hfr:A.frames=some (env :: outer)) (hl:s.heap.FunFrames base (env :: outer)) (hf:env.frame=some L) (he:Fly s.heap o0 e T .none)
  (h:∀ h' T',Kp ((env :: outer).filterMap (·.frame)) [e,T] s.heap h'→s.heap.objs.size≤T'→Fly h' o0 e T' (rawInt L)→Q () { s with heap:=h' }):wpAny M A (noteFrame (.ref e) env) Q E s:=by
 obtain ⟨vs,oT,ts,q1,q2,hTe,q3,q4,q5⟩:=he
 unfold noteFrame
 simp only [hf]
 refine DO (EG q1 rfl q2 ?_)
 rw [if_pos (show (Value.ref T != Value.none)=true from by simp)]
 refine DO (EG q3 q4 q5 ?_)
 rw [if_neg (show ¬ ((Value.none == rawInt L)=true) from by simp [rawInt])]
 refine DO (Gu q3 q4 (Array.getElem?_eq_some_iff.mp q5).1 ?_)
 have oth:∀ b,b ≠ T→(s.heap.update T (Obj.mapFields (·.setIfInBounds 3 Value.none))).get? b=s.heap.get? b:=fun b hb=>Ec _ _ (Ne.symm hb)
 have k0:Kp ((env :: outer).filterMap (·.frame)) [e,T] s.heap (s.heap.update T (Obj.mapFields (·.setIfInBounds 3 Value.none))) :=
  ⟨fun b o _ nx q=>(oth b fun z=>nx (by simp [z])).trans q,fun b o _ nx q=>⟨o.slots,(oth b fun z=>nx (by simp [z])).trans q⟩⟩
 refine kX hfr (k0.funs hl fun b o hb q=>?_) hf ((oth e (Ne.symm hTe)).trans q1) (Array.getElem?_eq_some_iff.mp q2).1 fun h' T' k1 k2 k3=>h h' T' (k0.trans (k1.wide (fun _ z=>z) fun b z=>by simp at z; simp [z])) ?_ k3
 ·rcases List.mem_cons.mp hb with rfl | hb
  ·rw [q1] at q; cases q; exact ⟨vs,rfl⟩
  ·rw [List.mem_singleton.mp hb,q3] at q; cases q; exact ⟨ts,q4⟩
 ·have:(s.heap.update T (Obj.mapFields (·.setIfInBounds 3 Value.none))).objs.size=s.heap.objs.size:=by simp [Heap.update]
  rw [← this]; exact k2
theorem o4 {env:Env}{L e T:Addr}{o0:Obj}{Q:Unit→Shared→Prop} (hf:env.frame=some L) (he:Fly s.heap o0 e T (rawInt L)) (h:Q () s):wpAny M A (noteFrame (.ref e) env) Q E s:=by
 obtain ⟨vs,oT,ts,q1,q2,hTe,q3,q4,q5⟩:=he
 unfold noteFrame
 simp only [hf]
 refine DO (EG q1 rfl q2 ?_)
 rw [if_pos (show (Value.ref T != Value.none)=true from by simp)]
 refine DO (EG q3 q4 q5 ?_)
 rw [if_pos (Fg _)]
 exact DT h
theorem eO {e T:Addr}{o0:Obj}{fl:Value}{fr:Option Addr}{Q:Unit→Shared→Prop} (he:Fly s.heap o0 e T fl)
  (h:∀ h',Kp [] [T] s.heap h'→h'.objs.size=s.heap.objs.size→Fly h' o0 e T (fr.elim Value.none fun f=>rawInt f)→Q () { s with heap:=h' }):wpAny M A (setFlight (.ref e) fr) Q E s:=by
 obtain ⟨vs,oT,ts,q1,q2,hTe,q3,q4,q5⟩:=he
 have hz:3 < ts.size:=(Array.getElem?_eq_some_iff.mp q5).1
 have oth:∀ b,b ≠ T→(s.heap.update T (Obj.mapFields (·.setIfInBounds 3 (fr.elim Value.none fun f=>rawInt f)))).get? b=s.heap.get? b:=fun b hb=>Ec _ _ (Ne.symm hb)
 unfold setFlight
 refine DO (EG q1 rfl q2 ?_)
 rw [if_pos (show (Value.ref T != Value.none)=true from by simp)]
 refine Gu q3 q4 hz (h _ ⟨fun b o _ nx q=>(oth b fun z=>nx (by simp [z])).trans q,fun b o hb=>by cases hb⟩ (by simp [Heap.update]) ?_)
 exact ⟨vs,_,_,(oth e (Ne.symm hTe)).trans q1,q2,hTe,Er _ q3 (GO (FO q4 _)),FO q4 _,by simp [hz]⟩
theorem pq {base:Heap}{env:Env}{outer:List Env}{L e:Addr}{o0:Obj}{vs:Array Value}{Q:Unit→Shared→Prop}
  (hfr:A.frames=some (env :: outer)) (hl:s.heap.FunFrames base (env :: outer)) (hf:env.frame=some L) (he:s.heap.get? e=some { o0 with data:=.fields vs }) (h1:vs[1]? = some .none)
  (h:∀ h' T,Kp ((env :: outer).filterMap (·.frame)) [e] s.heap h'→s.heap.objs.size≤T→Fly h' o0 e T .none→Q () { s with heap:=h' }):wpAny M A (leaving env (.ref e)) Q E s:=by
 unfold leaving
 refine DO (km hfr hl hf he h1 fun h' T k1 k2 k3=>eO k3 fun h'' j1 _ j3=>h h'' T ?_ k2 j3)
 refine ⟨fun b o n1 n2 q=>j1.keep b o (by simp) (fun z=>?_) (k1.keep b o n1 n2 q),fun b o n1 n2 q=>?_⟩
 ·rw [List.mem_singleton.mp z] at q
  exact absurd (DU q) (Nat.not_lt.mpr k2)
 ·obtain ⟨sl,q1⟩:=k1.slot b o n1 n2 q
  refine ⟨sl,j1.keep b _ (by simp) (fun z=>?_) q1⟩
  rw [List.mem_singleton.mp z] at q
  exact absurd (DU q) (Nat.not_lt.mpr k2)
theorem qP {base:Heap}{env:Env}{outer:List Env}{L e T:Addr}{o0:Obj}{Q:Unit→Shared→Prop}
  (hfr:A.frames=some (env :: outer)) (hl:s.heap.FunFrames base (env :: outer)) (hf:env.frame=some L) (he:Fly s.heap o0 e T .none)
  (h:∀ h' T',Kp ((env :: outer).filterMap (·.frame)) [e,T] s.heap h'→s.heap.objs.size≤T'→Fly h' o0 e T' .none→Q () { s with heap:=h' }):wpAny M A (leaving env (.ref e)) Q E s:=by
 unfold leaving
 refine DO (l7 hfr hl hf he fun h' T' k1 k2 k3=>eO k3 fun h'' j1 _ j3=>h h'' T' ?_ k2 j3)
 refine ⟨fun b o n1 n2 q=>j1.keep b o (by simp) (fun z=>?_) (k1.keep b o n1 n2 q),fun b o n1 n2 q=>?_⟩
 ·rw [List.mem_singleton.mp z] at q
  exact absurd (DU q) (Nat.not_lt.mpr k2)
 ·obtain ⟨sl,q1⟩:=k1.slot b o n1 n2 q
  refine ⟨sl,j1.keep b _ (by simp) (fun z=>?_) q1⟩
  rw [List.mem_singleton.mp z] at q
  exact absurd (DU q) (Nat.not_lt.mpr k2)
end
open PySem PySem.Spec PyProof.Rows
section
variable {X:Cx}{pins:List (Addr×Obj)} {σ:St}{H:Hp}{s:Shared}{h':Heap}{ch:List Addr}
theorem Inv.recd (I:Inv X pins σ H s) {b:Addr}{o:Obj}{vs:Array Value} (e:s.heap.get? b=some o) (hd:o.data=.fields vs):b ≠ X.env.locals∧(∀ x c,X.env.cells.lookup x=some c→c ≠ b)∧b ∉ frs X.stack:=by
 refine ⟨fun z=>?_,fun x c q z=>?_,l8 I.stack e hd⟩
 ·obtain ⟨m,⟨o',es,ep,ho',hd',_⟩,_⟩:=I.loc
  rw [← z,e] at ho'; cases ho'; rw [hd'] at hd; cases hd
 ·obtain ⟨v,o',ho',hd'⟩:=I.cell x c q
  rw [z,e] at ho'; cases ho'; rw [hd'] at hd; cases hd
theorem Inv.kp (I:Inv X pins σ H s) (k:Kp (frs X.stack) ch s.heap h')
  (hch:∀ b ∈ ch,X.s₀.heap.objs.size≤b∧(∃ o vs,s.heap.get? b=some o∧o.data=.fields vs)∧(∀ p ∈ X.pn ++ pins,p.1 ≠ b)∧H b=none):Inv X pins σ H { s with heap:=h' }:=by
 have trk:∀ b o,H b ≠ none→s.heap.get? b=some o→h'.get? b=some o:=fun b o n e=>k.keep b o (fun z=>n (I.stkFree b z)) (fun z=>n (hch b z).2.2.2) e
 refine I.step (ch:=ch) (fun b hb=>?_) (fun b o n1 n2 n3 e n=>?_) (fun b o n1 n2 n3 e n=>?_) (fun _ _ _ _ n=>n) (fun b o n3 e=>?_) (fun _ _ q=>q) (fun _ _ _ q=>q) (fun _ ps q=>⟨#[],by rw [q]; simp⟩) (fun m hm=>?_) (fun a o e=>?_) I.bare
 ·obtain ⟨a1,⟨o,vs,a2,a3⟩,a4,a5⟩:=hch b hb
  obtain ⟨b1,b2,_⟩:=I.recd a2 a3
  exact ⟨.inr a1,b1,b2,a4⟩
 ·exact k.keep b o (fun z=>by rcases List.mem_cons.mp (I.stkSub b z) with q | q; exact n1 q; exact n2 q) n3 e
 ·by_cases hb:b ∈ frs X.stack
  ·exact k.slot b o hb n3 e
  ·exact ⟨o.slots,k.keep b o hb n3 e⟩
 ·by_cases hb:b ∈ frs X.stack
  ·obtain ⟨sl,q⟩:=k.slot b o hb n3 e
   exact ⟨_,q⟩
  ·exact ⟨o,k.keep b o hb n3 e⟩
 ·obtain ⟨o,es,ep,e,hd,r⟩:=hm
  have nch:X.env.locals ∉ ch:=fun z=>by
   obtain ⟨_,⟨o',vs,a2,a3⟩,_⟩:=hch _ z
   rw [e] at a2; cases a2; rw [hd] at a3; cases a3
  by_cases hb:X.env.locals ∈ frs X.stack
  ·obtain ⟨sl,q⟩:=k.slot _ o hb nch e
   exact ⟨_,es,ep,q,hd,r⟩
  ·exact ⟨o,es,ep,k.keep _ o hb nch e,hd,r⟩
 ·exact (I.hok a o e).stay (fun b u hb q=>trk b u (fun z=>by
   rcases hb with rfl | hb
   ·rw [e] at z; cases z
   ·rw [hb] at z; cases z) q) (fun _ q=>q) fun _ _ q=>q
end
def Err (L:Addr) (h:Heap) (H:Hp) (z:Nat) (ps:List (Addr×Obj)) (o0:Obj) (a:Addr):Prop :=
 (∃ vs,h.get? a=some { o0 with data:=.fields vs }∧vs[1]? = some .none)∨∃ T fl,Fly h o0 a T fl∧(fl=.none∨fl=rawInt L)∧H T=none∧z≤T∧∀ p ∈ ps,p.1 ≠ T
structure zX (H:Hp) (z:Nat) (o0:Obj) (a C dx:Addr):Prop where
 cls:o0.cls=.ref C
 dict:o0.dict=some dx
 ne:dx ≠ a
 free:H a=none
 new:z≤a
def CX1 (P:Program) (w:World):CXT:=fun outer H s E e s'=>∃ (a C dx T:Addr) (o0:Obj) (H':Hp),e=.ref a∧s'.os=s.os∧AllBare s'.gens∧Un (frs outer) [] H H' s.heap s'.heap∧HOk P w H' s'.heap ∧
 Fly s'.heap o0 a T .none∧H' T=none∧s.heap.objs.size≤T∧zX H' s.heap.objs.size o0 a C dx∧E (.ref C) (some dx) H'
abbrev XW:=St→Value→Option Addr→Hp→Prop
def EX (X:Cx) (pins:List (Addr×Obj)) (W:XW) (e:Value) (s:Shared):Prop:=∃ (σ:St) (a C dx:Addr) (o0:Obj) (H:Hp),e=.ref a∧Inv X pins σ H s∧Err X.env.locals s.heap H X.s₀.heap.objs.size (X.pn ++ pins) o0 a∧zX H X.s₀.heap.objs.size o0 a C dx∧(∀ p ∈ X.pn ++ pins,p.1 ≠ a)∧W σ (.ref C) (some dx) H
section
variable {P:Program}{w:World}{K:PySem.W.Frag}{mg:Str→Option Value}{base:Heap}{N:List Str}{qual:Str}{scope:Scope}{f:Addr}{cd:Value}{A:Around}{outer:List Env}{s₀:Shared}{H₀:Hp}{E:XK}
theorem Fly.recd {h:Heap}{o0:Obj}{e T:Addr}{fl:Value} (x:Fly h o0 e T fl):(∃ o vs,h.get? e=some o∧o.data=.fields vs)∧∃ o vs,h.get? T=some o∧o.data=.fields vs:=by
 obtain ⟨vs,oT,ts,q1,q2,q3,q4,q5,q6⟩:=x
 exact ⟨⟨_,vs,q1,rfl⟩,oT,ts,q4,q5⟩
theorem uK {pins:List (Addr×Obj)} {e:Value}{s:Shared} (x:EX (jB (CX1 P w) P w K mg base N qual scope f cd A outer s₀ H₀ E) pins (fun _ c d H=>E c d H) e s):(jB (CX1 P w) P w K mg base N qual scope f cd A outer s₀ H₀ E).xe e s:=by
 obtain ⟨σ,a,C,dx,o0,H,rfl,I,er,eo,hp,hw⟩:=x
 have hz:s₀.heap.objs.size≤s.heap.objs.size:=I.sz
 rcases er with ⟨vs,q1,q2⟩ | ⟨T,fl,hf,rfl | rfl,hT,hTz,hTp⟩
 ·refine pq (base:=base) I.ok.frames I.stack rfl q1 q2 fun h' T k k2 k3=>?_
  have I':=I.kp (ch:=[a]) k fun b hb=>by
   rw [List.mem_singleton.mp hb]
   exact ⟨eo.new,⟨_,vs,q1,rfl⟩,hp,eo.free⟩
  exact ⟨a,C,dx,T,o0,H,rfl,I'.os,I'.bare,I'.base,I'.hok,k3,I.hok.fresh k2,D6 hz k2,eo,hw⟩
 ·refine qP (base:=base) I.ok.frames I.stack rfl hf fun h' T' k k2 k3=>?_
  have I':=I.kp (ch:=[a,T]) k fun b hb=>by
   rcases List.mem_cons.mp hb with rfl | hb
   ·exact ⟨eo.new,hf.recd.1,hp,eo.free⟩
   ·rw [List.mem_singleton.mp hb]
    exact ⟨hTz,hf.recd.2,hTp,hT⟩
  exact ⟨a,C,dx,T',o0,H,rfl,I'.os,I'.bare,I'.base,I'.hok,k3,I.hok.fresh k2,D6 hz k2,eo,hw⟩
 ·show wpAny _ _ (leaving _ _) _ _ _
  unfold leaving
  refine DO (o4 rfl hf (eO hf fun h' k _ k3=>?_))
  have I':=I.kp (ch:=[T]) (k.wide (fun _ z=>by cases z) fun _ z=>z) fun b hb=>by
   rw [List.mem_singleton.mp hb]
   exact ⟨hTz,hf.recd.2,hTp,hT⟩
  exact ⟨a,C,dx,T,o0,H,rfl,I'.os,I'.bare,I'.base,I'.hok,k3,hT,hTz,eo,hw⟩
end
section
variable {X:Cx}{pins:List (Addr×Obj)} {σ:St}{H:Hp}{s s':Shared}{E:XK}{W:XW}{e:Value}
theorem Inv.raised (I:Inv X pins σ H s) (h:CX1 X.prog X.w X.stack H s E e s') (hE:∀ c d H',E c d H'→W σ c d H'):EX X pins W e s':=by
 obtain ⟨a,C,dx,T,o0,H',rfl,h1,h2,h3,h4,h5,h6,h7,h8,h9⟩:=h
 have hce:CE X.stack X.prog X.w H s (fun v H''=>H''=H') .none s':=⟨.non,H',h1,h2,h3,h4,rfl,rfl⟩
 obtain ⟨x,H'',I',_,rfl⟩:=I.after hce
 refine ⟨σ,a,C,dx,o0,_,rfl,I',.inr ⟨T,_,h5,.inl rfl,h6,D6 I.sz h7,fun p hp z=>absurd (DU (I.pin p hp).1) (by rw [z]; exact Nat.not_lt.mpr h7)⟩,⟨h8.cls,h8.dict,h8.ne,h8.free,D6 I.sz h8.new⟩,fun p hp z=>?_,hE _ _ _ h9⟩
 have q:=(I.pin p hp).1
 exact absurd (DU q) (by rw [z]; exact Nat.not_lt.mpr h8.new)
end
abbrev TEX:=St→Hp→VK→XW→Prop
abbrev TSX:=eC→XW→St→Hp→Prop
def PEX (X:Cx) (e:Expr) (t:TEX):Prop :=
 ∀ (pins:List (Addr×Obj)) (s:Shared) (σ:St) (H:Hp) (Q:VK) (W:XW) (xe:Value→Shared→Prop),Inv X pins σ H s→t σ H Q W→(∀ e s',EX X pins W e s'→xe e s')→wpAny (model X.prog X.w) X.A (eval e X.env) (EP X pins σ Q) xe s
def PSX (X:Cx) (st:Stmt) (t:TSX):Prop :=
 ∀ (pins:List (Addr×Obj)) (s:Shared) (σ:St) (H:Hp) (D:eC) (W:XW) (xe:Value→Shared→Prop),Inv X pins σ H s→t D W σ H→(∀ e s',EX X pins W e s'→xe e s')→wpAny (model X.prog X.w) X.A (exec st X.env) (SP X pins D) xe s
def iW (X:Cx) (st:List Stmt) (t:TSX):Prop :=
 ∀ (pins:List (Addr×Obj)) (s:Shared) (σ:St) (H:Hp) (D:eC) (W:XW) (xe:Value→Shared→Prop),Inv X pins σ H s→t D W σ H→(∀ e s',EX X pins W e s'→xe e s')→wpAny (model X.prog X.w) X.A (execs st X.env) (SP X pins D) xe s
section
variable {X:Cx}{st:Stmt}{cg:List Stmt}{t:TS}{e:Expr}{pos:Pos}
theorem AC (h:PS X.nox st t):PSX X st (fun D _ σ H=>t D σ H):=fun pins s σ H D W xe I hw _ =>
 EB (h pins s σ H D (I.wish _) hw) (fun _ _ q=>q.unwish) fun _ _ z=>False.elim z
theorem yk (h:PSs X.nox cg t):iW X cg (fun D _ σ H=>t D σ H):=fun pins s σ H D W xe I hw _ =>
 EB (h pins s σ H D (I.wish _) hw) (fun _ _ q=>q.unwish) fun _ _ z=>False.elim z
theorem tQ {t u:TSX} (h1:PSX X st t) (h2:iW X cg u):iW X (st :: cg) (fun D W σ H=>t { D with nx:=u D W } W σ H):=by
 intro pins s σ H D W xe I h hx
 refine FZ (thn (h1 pins s σ H { D with nx:=u D W } W xe I h hx) fun f s1 q=>?_)
 cases f with
 | next =>
  obtain ⟨σ',H',I',q⟩:=q
  exact h2 pins s1 σ' H' D W xe I' q hx
 | ret v=>exact q
 | brk=>exact q
 | cont=>exact q
theorem vP {t:TSX} (h1:PSX X st t):iW X [st] t:=by
 intro pins s σ H D W xe I h hx
 refine FZ (thn (h1 pins s σ H D W xe I h hx) fun f s1 q=>?_)
 cases f with
 | next=>exact FN q
 | ret v=>exact q
 | brk=>exact q
 | cont=>exact q
theorem AD {c:Expr}{a b:List Stmt}{tc:TT}{t u:TSX} (hc:PT X.nox c tc) (ha:iW X a t) (hb:iW X b u):PSX X (.If c a b pos) (fun D W σ H=>tc σ H fun b H1=>if b=true then t D W σ H1 else u D W σ H1):=by
 intro pins s σ H D W xe I h hx
 refine wpAny_If (EB (hc pins s σ H _ (I.wish _) h) (fun d s1 zz139_0=>?_) fun _ _ z=>False.elim z)
 obtain ⟨H1,I1,q1⟩:=zz139_0
 cases d with
 | true=>exact ha pins s1 σ H1 D W xe I1.unwish q1 hx
 | false=>exact hb pins s1 σ H1 D W xe I1.unwish q1 hx
theorem vQ {te:TEX} (he:PEX X e te) (hs:swapsWith e none pos.line X.env=pure false:=by rfl):PSX X (.Expr e pos) (fun D W σ H=>te σ H (fun _ H1=>D.nx σ H1) W):=by
 intro pins s σ H D W xe I h hx
 exact wpAny_Expr_any (thn (he pins s σ H _ W xe I h hx) fun v s1 zz140_0=>by obtain ⟨x,H1,I1,r1,q1⟩:=zz140_0; exact ⟨σ,H1,I1,q1⟩) I.quiet hs
end
section
variable {X:Cx}{k:Nat}{f:Addr}{fd:FuncData}{ps:List Str}{sp:Sp}{x:Str}{p pos:Pos}{e:Expr}{es:List Expr}{t:TA}
theorem v6 (F:bD X.prog X.w X.K X.mg X.base (CX1 X.prog X.w) k f fd ps sp) (hr:du k X.A) (hg:Gl X x) (hm:X.mg x=some (.ref f)) (hk:PySem.W.keepIn X.K (.ref f)=true) (hb:bB X.K fd ps [])
  (ha:PA X.nox (e :: es) t) (hdb:(x == ("__debug__" : Str))=false:=by decide) (he:starEach (e :: es) X.env=(false,eval e X.env) :: starEach es X.env:=by rfl) (hpl:(backTo pos (starEach es X.env)).any (·.1)=false:=by rfl) :
  PEX X (.Call (.Name x p) (e :: es) [] pos) (fun σ H Q W=>t σ H fun vs H1=>∃ E:XK,sp vs H1 Q E∧∀ c d H',E c d H'→W σ c d H'):=by
 intro pins s σ H Q W xe I h hx
 refine EZ (iF I hg hm ?_ hdb)
 refine GN (h₀:=X.base) I.ok.mod.kin hk (EB (ha pos pins s σ H _ (I.wish _) h) (fun us s1 ⟨vs,H1,I1,r,q⟩=>⟨I1.unwish.kIn,?_⟩) fun _ _ z=>False.elim z) he hpl
 have I1:=I1.unwish
 obtain ⟨E,h1,hE⟩:=q
 have hl:us.length=ps.length:=by rw [← r.length]; exact F.len _ _ _ _ h1
 have hb':=hb s1 us I1.kIn (by rw [Ez]; exact hl)
 rw [Ez] at hb'
 refine wpAny_call (FW (F.run X.A X.stack s1 H1 ⟨us,[]⟩ us vs Q E hr I1.env0 hb' r h1) fun r s' hq=>?_)
 cases r with
 | error e=>exact hx e s' (I1.raised hq hE)
 | ok fl =>
  cases fl with
  | ret u=>exact I1.after hq
  | next=>exact False.elim hq
  | brk=>exact False.elim hq
  | cont=>exact False.elim hq
end
theorem Bi {P:Program}{w:World}{K:PySem.W.Frag}{mg:Str→Option Value}{base:Heap}{k:Nat}{f:Addr}{name qual:Str}{params:Arguments}{body:List Stmt}{scope:Scope}{dV kV doc pm cdv ct oc:Value}{an od:Option Addr}
  {osl:Array (Option Value)} {N ps:List Str}{sp:Sp} (lk:K.lookup f=some ⟨oc,od,.func (PySem.W.fnOf name qual params body scope dV kV doc pm an cdv ct),osl⟩) (hcd:PySem.W.codeIn K cdv qual=true) (S:aP N ps scope)
  (len:∀ vs H Q E,sp vs H Q E→vs.length=ps.length)
  (hbody:∀ (A:Around) (outer:List Env) (s:Shared) (H:Hp) (vs:List V) (Q:VK) (E:XK),du k (A.deeper (envOfC qual scope s.heap.objs.size f cdv))→sp vs H Q E →
   ∃ t,iW (jB (CX1 P w) P w K mg base N qual scope f cdv A outer s H E) body t∧t { nx:=fun _ H'=>Q .non H',rt:=Q } (fun _ c d H'=>E c d H') (start N vs) H) :
  bD P w K mg base (CX1 P w) (k + 1) f (PySem.W.fnOf name qual params body scope dV kV doc pm an cdv ct) ps sp:=by
 refine zO lk hcd S len fun A outer s H vs Q E hr hs=>?_
 obtain ⟨t,h1,h2⟩:=hbody A outer s H vs Q E hr hs
 exact ⟨fun D σ H'=>t D (fun _ c d H'=>E c d H') σ H',fun pins s' σ H' D I h=>h1 pins s' σ H' D _ _ I h fun e s'' x=>uK x,h2⟩
structure nT (K:PySem.W.Frag) (C:Addr) (cd:ClassData):Prop where
 cls:PySem.W.clsIn K C=some cd
 pass:∀ self,refuseLoop self "__setattr__" cd.mro=pure ()
 obj:cd.mro.contains (.type "object")=true
 exc:cd.mro.contains (.type "BaseException")=true
 hd:cd.hasDict=true
 sa:PySem.W.findIn K (.ref C) "__setattr__" = some (some (.builtin "object.__setattr__"))
 ga:PySem.W.findIn K (.ref C) "__getattribute__" = some (some (.builtin "BaseException.__getattribute__"))
 gt:PySem.W.findIn K (.ref C) "__getattr__" = some none
def er0 (e C t:Addr) (h:Heap):Prop:=h.get? e=some (e7 C t)
def er1 (e C t dx:Addr) (h:Heap):Prop:=h.get? e=some { e7 C t with dict:=some dx }
section
variable {X:Cx}{o value:Expr}{ta tv:TE}{f:Str}{pos pos':Pos}
def sXf (K:PySem.W.Frag) (ta tv:TE) (f:Str):TS:=fun D σ H=>tv σ H fun y H1=>ta σ H1 fun x H2=>∃ e C t cd,x=.ref e∧H2 e=some (.ext (er0 e C t))∧nT K C cd∧PySem.W.findIn K (.ref C) f=some none ∧
 ∀ dx,H2 dx=none→dx ≠ e→D.nx σ (upd (upd H2 e (.ext (er1 e C t dx))) dx (.xd [(f,y)]))
theorem Cj (ha:PE X o ta) (hv:PE X value tv) (hs:swapsWith value (some (.Attribute o f pos')) pos.line X.env=pure false):PS X (.Assign [.Attribute o f pos'] value pos) (sXf X.K ta tv f):=by
 intro pins s σ H D I h
 refine plainObj_wpAny_Assign_Attribute (thn (hv pins s σ H _ I h) fun u s1 ⟨y,H1,I1,ry,q⟩=>thn (ha pins s1 σ H1 _ I1 q) fun ov s2 zz143_0=>?_) hs
 obtain ⟨x,H2,I2,rx,e,C,t,cd,ex,ee,c,hn,q2⟩:=zz143_0
 subst ex
 obtain rfl:ov=Value.ref e:=rx
 have he:s2.heap.get? e=some (e7 C t):=(I2.hok e _ ee).1
 have hI:s2.heap.Inst e C (fun _=>none):=⟨_,he,rfl,fun c z=>(by cases z),.inl ⟨rfl,fun _=>rfl⟩⟩
 refine uJ (ns:=[]) I2.kIn hI c.cls c.pass c.obj c.hd c.sa hn Within.nil (by simp) fun h' tk' i1 i2 i3=>?_
 obtain ⟨dx,e1,e2⟩:=i3 _ he
 have hdz:s2.heap.objs.size≤dx:=by
  rcases e2 with z | ⟨_,z⟩
  ·cases z
  ·exact z
 have hdH:H2 dx=none:=I2.hok.fresh hdz
 have hde:dx ≠ e:=fun z=>absurd (DU he) (by rw [← z]; exact Nat.not_lt.mpr hdz)
 have kp:∀ b ob,b ≠ e→s2.heap.get? b=some ob→h'.get? b=some ob:=fun b ob hb z=>i2 b ob hb (fun o0 d0 z1 z2=>by rw [he] at z1; cases z1; cases z2) z
 have hns:h'.Ns1 dx (fun g=>if g=f then some u else none):=by
  obtain ⟨o',a1,a2,a3,a4⟩:=i1
  rw [e1] at a1; cases a1
  rcases a4 with ⟨z,_⟩ | ⟨d',z1,z2,z3⟩
  ·cases z
  ·cases z1; exact z3
 have nd:∀ b ob,H2 b=some ob→b ≠ dx:=fun b ob z w=>by rw [w,hdH] at z; cases z
 have I3:Inv X pins σ (upd (upd H2 e (.ext (er1 e C t dx))) dx (.xd [(f,y)])) { s2 with heap:=h',toks:=tk' }:=by
  refine I2.un ⟨fun b ob z n _ _=>?_,fun b ob z n _ _=>?_,fun b ob z n _=>?_,fun b ob z _=>?_,fun b xs z=>?_,fun b ob xs z=>?_,fun b ps z=>?_⟩ fun b u' z=>?_
  ·exact kp b ob (fun w=>by rw [w,ee] at n; cases n) z
  ·exact ⟨ob.slots,kp b ob (fun w=>by rw [w,ee] at n; cases n) z⟩
  ·rw [av (D9 (Ef (DU z) hdz)),av (fun w=>by rw [w,ee] at n; cases n)]; exact n
  ·by_cases hb:b=e
   ·rw [hb]; exact ⟨_,e1⟩
   ·exact ⟨ob,kp b ob hb z⟩
  ·rw [av (nd b _ z),av (fun w=>by rw [w,ee] at z; cases z)]; exact z
  ·rw [av (nd b _ z),av (fun w=>by rw [w,ee] at z; cases z)]; exact z
  ·exact ⟨#[],by rw [av (nd b _ z),av (fun w=>by rw [w,ee] at z; cases z),z]; simp⟩
  ·by_cases hb:b=dx
   ·subst hb
    rw [aD] at z
    cases z
    refine ⟨_,hns,fun g=>?_⟩
    show gw (List.lookup g [(f,y)]) (if g=f then some u else none)
    by_cases hg:g=f
    ·subst hg; rw [if_pos rfl]; simp [gw,ry]
    ·rw [if_neg hg]
     have:(g == f)=false:=by simpa using hg
     simp [List.lookup,this,gw]
   ·rw [av hb] at z
    by_cases hb2:b=e
    ·subst hb2
     rw [aD] at z
     cases z
     exact ⟨e1,⟨_,e1⟩,fun h1 h2 z1 z2=>z2 _ z1⟩
    ·rw [av hb2] at z
     refine (I2.hok b u' z).stay (fun c v hc w=>kp c v (fun z3=>?_) w) (fun c w=>?_) fun c xs w=>?_
     ·rcases hc with rfl | hc
      ·exact hb2 z3
      ·rw [z3,ee] at hc; cases hc
     ·rw [av (nd c _ w),av (fun z3=>by rw [z3,ee] at w; cases w)]; exact w
     ·rw [av (nd c _ w),av (fun z3=>by rw [z3,ee] at w; cases w)]; exact w
 exact ⟨σ,_,I3,q2 dx hdH hde⟩
end
def bmV:List Value:=[.type "ValueError",.type "Exception",.type "BaseException",.type "object"]
def pE (K:PySem.W.Frag) (C fI:Addr):Bool:=match K.lookup C with
 | some ⟨.type "type",_,.cls cd,sl⟩=>(match cd.mro,sl.toList with
  | .ref C' :: bm,[_,_,_,_,some (.builtin n),_]=>C' == C && (n == "ValueError.__new__" && (!cd.hasDel && (PySem.W.tailIn K bmV bm && (PySem.W.nsOkIn K cd.ns && PySem.W.nsIn K cd.ns "__init__" == some (some (.ref fI))))))
  | _,_=>false)
 | _=>false
theorem yJ {K:PySem.W.Frag}{h:Heap}{N:Addr}{m:Str→Option Value}{n:Str}{v:Value} (X:K.In h) (G:h.Ns N m) (z:PySem.W.nsIn K N n=some (some v)):m n=some v:=by
 obtain ⟨ob,es,ep,hob,hdt,_,hfind⟩:=G
 unfold PySem.W.nsIn at z
 split at z
 ·rename_i c d es' n' sl q
  have w:=X _ _ q
  rw [hob] at w
  cases w
  cases hdt
  split at z
  ·rename_i en hen
   cases z
   rw [← hfind]
   unfold nsFind findBy
   rw [← Array.find?_toList,hen]; rfl
  ·split at z <;> cases z
 ·cases z
theorem sr {K:PySem.W.Frag}{h:Heap}{C fI:Addr} (X:K.In h) (q:pE K C fI=true):∃ nm qn N bs bm hdct sn sub ab col dd k0 k1 k2 k3 k5 mN,h.get? C=some (excClassObj nm qn C N bs bm hdct sn sub ab col dd k0 k1 k2 k3 k5 "ValueError.__new__")∧h.Ns N mN∧mN "__init__" = some (.ref fI)∧OwnTail h bmV bm:=by
 unfold pE at q
 split at q
 ·rename_i dd cd sl ho
  split at q
  ·rename_i C' bm k0 k1 k2 k3 n k5 hm hs
   simp only [EA,beq_iff_eq,Gg] at q
   obtain ⟨q1,q2,hdel,ht,hok,hni⟩:=q
   subst q1 q2
   obtain ⟨nm,bs,mro,ns,qn,hd,sn,sub,ab,col,del⟩:=cd
   dsimp only at hm hdel hok hni
   subst hm hdel
   have hsl:sl=#[k0,k1,k2,k3,some (.builtin "ValueError.__new__"),k5]:=by
    obtain ⟨l⟩:=sl
    simp only at hs
    rw [hs]
   subst hsl
   have hN:h.Ns ns (h.nsMap ns):=.of_isNs (PySem.W.isNs_of_in X hok)
   exact ⟨nm,qn,ns,bs,bm,hd,sn,sub,ab,col,dd,k0,k1,k2,k3,k5,_,X _ _ ho,hN,yJ X hN hni,PySem.W.tail_of_in X ht⟩
  ·cases q
 ·cases q
section
variable {M:Model}{A:Around}{E:Value→Shared→Prop}{env:Env}{s:Shared}
variable {nm q:Str}{C N:Addr}{bs bm:List Value}{hdct:Bool}{sn:List Str}{sub:List Value}{ab:Bool}{col:Option Bool}{dd:Option Addr}{k0 k1 k2 k3 k5:Option Value}{newId:String}
theorem qw {x:Sem Value}{Q:Flow→Shared→Prop} (hbase:bm.contains (.type "BaseException")=true) (hh:A.handled=none)
  (h:wpAny M A x (fun v s1=>∃ e o vs,v=.ref e∧s1.heap.get? C=some (excClassObj nm q C N bs bm hdct sn sub ab col dd k0 k1 k2 k3 k5 newId)∧s1.heap.get? e=some o∧o.cls=.ref C∧o.data=.fields vs∧vs[1]? = some .none∧E (.ref e) s1) E s) :
  wpAny M A (raiseStmt env (some x) none) Q E s:=by
 have hcB:(Value.ref C :: bm).contains (.type "BaseException")=true:=by rw [List.contains_cons,hbase,Bool.or_true]
 unfold raiseStmt
 refine DO (EB h (fun v s1 z=>?_) fun _ _ z=>z)
 obtain ⟨e,o,vs,rfl,hC,he,hcl,hd,h1,hE⟩:=z
 obtain ⟨hp,g,d,tk,os⟩:=s1
 repeat (first | (with_reducible refine Eo he ?_; rw [hcl]) | with_reducible refine Eo hC ?_ | (with_reducible refine wpAny_isSubtype_exc hC ?_; rw [hcB]) | with_reducible refine EG he hd h1 ?_ | wp_step)
 exact wpAny_raiseNew_none hh hE
end
def rmH (H:Hp) (e:Addr):Hp:=fun b=>if b=e then none else H b
theorem c8 {H:Hp}{e b:Addr} (h:b ≠ e):rmH H e b=H b:=if_neg h
theorem eS {H:Hp}{e:Addr}:rmH H e e=none:=if_pos rfl
theorem Inv.untrack {X:Cx}{pins:List (Addr×Obj)} {σ:St}{H:Hp}{s:Shared}{e:Addr} {φ:Heap→Prop} (I:Inv X pins σ H s) (he:H e=some (.ext φ)):Inv X pins σ (rmH H e) s:=by
 have ne:∀ b u,H b=some u→(∀ ψ,u ≠ .ext ψ)→b ≠ e:=fun b u z n w=>by rw [w,he] at z; cases z; exact n φ rfl
 have J:=I.un (t':=s.toks) (H':=rmH H e) (h':=s.heap) ⟨fun b o z _ _ _=>z,fun b o z _ _ _=>⟨o.slots,z⟩,fun b o z n _=>?_,fun b o z _=>⟨o,z⟩,fun b xs z=>?_,fun b o xs z=>?_,fun b ps z=>?_⟩ fun b u z=>?_
 ·exact J
 ·by_cases hb:b=e
  ·rw [hb]; exact eS
  ·rw [c8 hb]; exact n
 ·rw [c8 (ne b _ z fun ψ w=>by cases w)]; exact z
 ·rw [c8 (ne b _ z fun ψ w=>by cases w)]; exact z
 ·exact ⟨#[],by rw [c8 (ne b _ z fun ψ w=>by cases w),z]; simp⟩
 ·have hb:b ≠ e:=fun w=>by rw [w,eS] at z; cases z
  rw [c8 hb] at z
  refine (I.hok b u z).stay (fun c v _ w=>w) (fun c w=>?_) fun c xs w=>?_
  ·rw [c8 (ne c _ w fun ψ z=>by cases z)]; exact w
  ·rw [c8 (ne c _ w fun ψ z=>by cases z)]; exact w
def spI (C:Addr) (f:Str):Sp:=fun vs H Q _=>∃ e t v,vs=[V.ref e,v]∧H e=some (.ext (er0 e C t))∧∀ dx,H dx=none→dx ≠ e→Q .non (upd (upd H e (.ext (er1 e C t dx))) dx (.xd [(f,v)]))
theorem zd {K:PySem.W.Frag}{C fI:Addr} (q:pE K C fI=true):∃ o,K.lookup C=some o:=by
 unfold pE at q
 split at q
 ·rename_i z; exact ⟨_,z⟩
 ·cases q
section
variable {X:Cx}{k:Nat}{fI C:Addr}{fd:FuncData}{f p x:Str}{np cpos pos:Pos}{arg:Expr}{t:TA}
theorem tR (hq:pE X.K C fI=true) (F:bD X.prog X.w X.K X.mg X.base CX0 k fI fd ["self",p] (spI C f)) (hb:bB X.K fd ["self",p] []) (hfn:PySem.W.isFn X.K (.ref fI)=true) (hr:du (k + 1) X.A) (hc:X.calm=true)
  (hg:Gl X x) (hm:X.mg x=some (.ref C)) (hk:PySem.W.keepIn X.K (.ref C)=true) (ha:PA X.nox [arg] t) (hdb:(x == ("__debug__" : Str))=false:=by decide) (he:starEach [arg] X.env=(false,eval arg X.env) :: starEach [] X.env:=by rfl) (hpl:(backTo cpos (starEach [] X.env)).any (·.1)=false:=by rfl) :
  PSX X (.Raise (some (.Call (.Name x np) [arg] [] cpos)) none pos) (fun D W σ H=>t σ H fun vs H1=>∃ v,vs=[v]∧∀ dx,H1 dx=none→W σ (.ref C) (some dx) (upd H1 dx (.xd [(f,v)]))):=by
 intro pins s σ H D W xe I h hx
 obtain ⟨nm,qn,N,bs,bm,hdct,sn,sub,ab,col,dd,k0,k1,k2,k3,k5,mN0,hC0,_,_,T0⟩:=sr I.kIn hq
 have hbase:bm.contains (.type "BaseException")=true:=T0.hasType (PySem.F.excBase_ValueError).hasBase
 rw [arm_exec_Raise]
 refine DO (GF (qw (C:=C) (nm:=nm) (q:=qn) (N:=N) (bs:=bs) (bm:=bm) (hdct:=hdct) (sn:=sn) (sub:=sub) (ab:=ab) (col:=col) (dd:=dd) (k0:=k0) (k1:=k1) (k2:=k2) (k3:=k3) (k5:=k5) (newId := "ValueError.__new__") hbase (I.ok.hd hc) ?_))
 refine DO (EB (EZ (iF I hg hm ?_ hdb)) (fun v s3 z=>DO (GF (DT z))) fun _ _ z=>z)
 refine GN (h₀:=X.base) I.ok.mod.kin hk (EB (ha cpos pins s σ H _ (I.wish _) h) (fun us s1 ⟨vs,H1,I1,r,v,hvs,q⟩=>⟨I1.unwish.kIn,?_⟩) fun _ _ z=>False.elim z) he hpl
 have I1:=I1.unwish
 subst hvs
 obtain ⟨u,rv,rfl⟩:∃ u,bh v u∧us=[u]:=by
  cases r with
  | cons a b=>cases b; exact ⟨_,a,rfl⟩
 obtain ⟨oC,hoC⟩:=zd hq
 have sameC:∀ s':Shared,X.K.In s'.heap→s'.heap.get? C=s.heap.get? C:=fun s' z=>(z _ _ hoC).trans (I.kIn _ _ hoC).symm
 obtain ⟨nm1,qn1,N1,bs1,bm1,hdct1,sn1,sub1,ab1,col1,dd1,j0,j1,j2,j3,j5,mN1,hC1,hN1,hi1,T1⟩:=sr I1.kIn hq
 obtain ⟨oI,hoI,hclI⟩:∃ oI,s1.heap.get? fI=some oI∧oI.cls=.type "function" := by
  have z:PySem.W.typeIn X.K (.ref fI)=some (.type "function"):=beq_iff_eq.mp hfn
  obtain ⟨o,w1,w2⟩:=Option.map_eq_some_iff.mp z
  exact ⟨o,I1.kIn _ _ w1,w2⟩
 have hz:X.s₀.heap.objs.size≤s1.heap.objs.size:=I1.sz
 have hpin:∀ p ∈ X.pn ++ pins,p.1 < s1.heap.objs.size:=fun p hp=>DU (I1.pin p hp).1
 have hHe:H1 (s1.heap.objs.size + 1)=none:=I1.hok.fresh (GJ _)
 obtain ⟨hh,g,dr,tk,os⟩:=s1
 show wpAny _ _ (call (.ref C) [u]) _ _ _
 refine w5 (PySem.F.excBase_ValueError) T1 hC1 hN1 hi1 hoI hclI ?_ (by rw [GH]; simp)
 have he2:((hh.push { cls:=.type "tuple",data:=.seq [u].toArray }).push (e7 C hh.objs.size)).get? (hh.objs.size + 1)=some (e7 C hh.objs.size):=by heap_get
 have I2:Inv X pins σ (upd H1 (hh.objs.size + 1) (.ext (er0 (hh.objs.size + 1) C hh.objs.size))) ⟨(hh.push { cls:=.type "tuple",data:=.seq [u].toArray }).push (e7 C hh.objs.size),g,dr,tk,os⟩ :=
  I1.laid (t':=tk) (fun b o z=>DQ _ (DQ _ z)) (GJ _) ⟨he2,⟨_,he2⟩,fun h1 h2 z1 z2=>z2 _ z1⟩
 have hsp:spI C f [V.ref (hh.objs.size + 1),v] (upd H1 (hh.objs.size + 1) (.ext (er0 (hh.objs.size + 1) C hh.objs.size))) (fun r H'=>r=.non∧∃ dx,H1 dx=none∧dx ≠ hh.objs.size + 1∧H'=upd (upd (upd H1 (hh.objs.size + 1) (.ext (er0 (hh.objs.size + 1) C hh.objs.size))) (hh.objs.size + 1) (.ext (er1 (hh.objs.size + 1) C hh.objs.size dx))) dx (.xd [(f,v)])) E0 :=
  ⟨_,_,v,rfl,aD,fun dx z1 z2=>⟨rfl,dx,by rw [av z2] at z1; exact z1,z2,rfl⟩⟩
 have hb':=hb ⟨(hh.push { cls:=.type "tuple",data:=.seq [u].toArray }).push (e7 C hh.objs.size),g,dr,tk,os⟩ [.ref (hh.objs.size + 1),u] I2.kIn rfl
 refine wpAny_call (FW (F.run _ X.stack _ _ ⟨[.ref (hh.objs.size + 1),u],[]⟩ [.ref (hh.objs.size + 1),u] [V.ref (hh.objs.size + 1),v] _ E0 (hr.make C [u] []) (I2.env0.make C [u] []) hb' (.cons rfl (.cons rv .nil)) hsp) fun r s' hq'=>?_)
 cases r with
 | error e=>exact False.elim hq'
 | ok fl =>
  cases fl with
  | ret w =>
   obtain ⟨v',H',I3,rv',ev,dx,d1,d2,eH⟩:=I2.after hq'
   subst ev
   have hHe':H' (hh.objs.size + 1)=some (.ext (er1 (hh.objs.size + 1) C hh.objs.size dx)):=by rw [eH,av (Ne.symm d2),aD]
   have hobj:s'.heap.get? (hh.objs.size + 1)=some { e7 C hh.objs.size with dict:=some dx }:=(I3.hok _ _ hHe').1
   have I4:=I3.untrack hHe'
   have eR:rmH H' (hh.objs.size + 1)=upd H1 dx (.xd [(f,v)]):=by
    funext b
    by_cases hb0:b=hh.objs.size + 1
    ·rw [hb0,eS,av (Ne.symm d2)]; exact hHe.symm
    ·rw [c8 hb0,eH]
     by_cases hb1:b=dx
     ·rw [hb1,aD,aD]
     ·rw [av hb1,av hb1,av hb0,av hb0]
   rw [eR] at I4
   refine ⟨rv',hh.objs.size + 1,_,_,rfl,(sameC s' I3.kIn).trans hC0,hobj,rfl,rfl,rfl,hx _ _ ⟨σ,hh.objs.size + 1,C,dx,{ e7 C hh.objs.size with dict:=some dx },_,rfl,I4,.inl ⟨_,hobj,rfl⟩,⟨rfl,rfl,d2,?_,D6 hz (GJ _)⟩,fun p hp z=>?_,q dx d1⟩⟩
   ·rw [av (Ne.symm d2)]; exact hHe
   ·have:=hpin p hp
    rw [z] at this
    exact absurd this (Nat.not_lt.mpr (GJ _))
  | next=>exact False.elim hq'
  | brk=>exact False.elim hq'
  | cont=>exact False.elim hq'
end
def Cx.hnd (X:Cx) (a:Addr) (oe:Obj):Cx:={ X with A:=X.A.mark (some (.ref a)),calm:=false,pn:=(a,oe) :: X.pn,xe:=fun _ _=>False }
def Cx.hnd2 (X:Cx) (a:Addr) (oe:Obj) (dx:Addr) (od:Obj):Cx:={ X.hnd a oe with pn:=(a,oe) :: (dx,od) :: X.pn }
def eD (dx:Addr) (od:Obj) (vs:List (Str×V)):Prop:=∃ mA,(∀ h:Heap,h.get? dx=some od→h.Ns1 dx mA)∧∀ f,gw (vs.lookup f) (mA f)
section
variable {X:Cx}{pins:List (Addr×Obj)} {σ:St}{H:Hp}{s:Shared}{a:Addr}{oe:Obj}
theorem Inv.untrackX {e:Addr}{vs:List (Str×V)} (I:Inv X pins σ H s) (he:H e=some (.xd vs)):Inv X pins σ (rmH H e) s:=by
 have ne:∀ b u,H b=some u→(∀ ψ,u ≠ .xd ψ)→b ≠ e:=fun b u z n w=>by rw [w,he] at z; cases z; exact n vs rfl
 have J:=I.un (t':=s.toks) (H':=rmH H e) (h':=s.heap) ⟨fun b o z _ _ _=>z,fun b o z _ _ _=>⟨o.slots,z⟩,fun b o z n _=>?_,fun b o z _=>⟨o,z⟩,fun b xs z=>?_,fun b o xs z=>?_,fun b ps z=>?_⟩ fun b u z=>?_
 ·exact J
 ·by_cases hb:b=e
  ·rw [hb]; exact eS
  ·rw [c8 hb]; exact n
 ·rw [c8 (ne b _ z fun ψ w=>by cases w)]; exact z
 ·rw [c8 (ne b _ z fun ψ w=>by cases w)]; exact z
 ·exact ⟨#[],by rw [c8 (ne b _ z fun ψ w=>by cases w),z]; simp⟩
 ·have hb:b ≠ e:=fun w=>by rw [w,eS] at z; cases z
  rw [c8 hb] at z
  refine (I.hok b u z).stay (fun c v _ w=>w) (fun c w=>?_) fun c xs w=>?_
  ·rw [c8 (ne c _ w fun ψ z=>by cases z)]; exact w
  ·rw [c8 (ne c _ w fun ψ z=>by cases z)]; exact w
theorem Inv.hnd (I:Inv X pins σ H s) {vs:Array Value} (he:s.heap.get? a=some oe) (hd:oe.data=.fields vs) (hH:H a=none):Inv (X.hnd a oe) pins σ H s:=by
 obtain ⟨q1,q2,q3⟩:=I.recd he hd
 have nf:a ∉ X.fs:=fun z=>by
  obtain ⟨_,o',ho,hnf⟩:=I.funs.mem z
  rw [he] at ho; cases ho
  exact hnf vs hd
 refine ⟨⟨I.ok.mod,I.ok.kind,I.ok.glob,I.ok.blt,I.ok.above,I.ok.inj,I.ok.has,I.ok.cab,fun z=>(by cases z),I.ok.frames,I.ok.stk,I.ok.exf,I.ok.bs,I.ok.bsz,I.ok.noex,I.ok.exfs,I.ok.funs,I.ok.frf⟩,I.os,I.bare,I.base,I.loc,I.cell,I.free,I.freeC,fun p hp=>?_,I.hok,I.len⟩
 rcases List.mem_cons.mp hp with rfl | hp
 ·exact ⟨he,hH,q1,nf,fun v z=>by rw [hd] at z; cases z⟩
 ·exact I.pin p hp
theorem Inv.hnd2 (I:Inv X pins σ H s) {vs:Array Value}{dx:Addr}{fs:List (Str×V)} (he:s.heap.get? a=some oe) (hd:oe.data=.fields vs) (hH:H a=none) (hx:H dx=some (.xd fs)):∃ od,eD dx od fs∧Inv (X.hnd2 a oe dx od) pins σ (rmH H dx) s:=by
 obtain ⟨mA,⟨od,es,ep,e1,e2⟩,hr⟩:=I.hok dx _ hx
 have I2:=I.untrackX hx
 obtain ⟨q1,q2,q3⟩:=I.recd he hd
 have nf:a ∉ X.fs:=fun z=>by
  obtain ⟨_,o',ho,hnf⟩:=I.funs.mem z
  rw [he] at ho; cases ho
  exact hnf vs hd
 have ndx:dx ∉ X.fs:=fun z=>by
  obtain ⟨_,o',ho,_⟩:=I.ok.funs.mem z
  have w:=I.base.free dx o' ho (I.ok.frf dx z) fun y=>I.ok.exfs dx y z
  rw [hx] at w; cases w
 have hane:a ≠ dx:=fun z=>by rw [← z,hH] at hx; cases hx
 refine ⟨od,⟨mA,fun h z=>⟨od,es,ep,z,e2⟩,hr⟩,?_⟩
 refine ⟨⟨I.ok.mod,I.ok.kind,I.ok.glob,I.ok.blt,I.ok.above,I.ok.inj,I.ok.has,I.ok.cab,fun z=>(by cases z),I.ok.frames,I.ok.stk,I.ok.exf,I.ok.bs,I.ok.bsz,I.ok.noex,I.ok.exfs,I.ok.funs,I.ok.frf⟩,I2.os,I2.bare,I2.base,I2.loc,I2.cell,I2.free,I2.freeC,fun p hp=>?_,I2.hok,I2.len⟩
 rcases List.mem_cons.mp hp with rfl | hp
 ·exact ⟨he,by rw [c8 hane]; exact hH,q1,nf,fun v z=>by rw [hd] at z; cases z⟩
 ·rcases List.mem_cons.mp hp with rfl | hp
  ·exact ⟨e1,eS,fun z=>(by rw [show dx=X.env.locals from z,I.free] at hx; cases hx),ndx,fun v z=>by rw [e2.1] at z; cases z⟩
  ·exact I2.pin p hp
theorem gV {M:Model}{A:Around}{E:Value→Shared→Prop}{i:Nat}{x:Str}{pos:Pos}{Q:Unit→Shared→Prop} (I:Inv X pins σ H s) (hN:X.N.Nodup) (hi:X.N[i]? = some x) (hx:X.env.scope.names.lookup x=some .local)
  (h:∀ s',Inv X pins (σ.set i none) H s'→Q () s'):wpAny M A (do bindName X.env x .none; unbindBehindTheSuite X.env x pos) Q E s:=by
 obtain ⟨m,hn,hl⟩:=id I.loc
 have hcls:(X.env.scope.kind == .class || (X.env.scope.kind == .module && X.env.locals != X.env.globals))=false:=by rw [I.ok.kind]; rfl
 obtain ⟨oL,_,_,hoL,_⟩:=id hn
 refine wpAny_nameGoes_keeps hx hn hcls fun h' v hn' hs=>h _ ?_
 have lt:∀ b o,X.s₀.heap.get? b=some o→b ≠ X.env.locals:=fun b o e=>D9 (Ef (DU e) I.ok.above)
 refine ⟨I.ok,I.os,I.bare,⟨fun b o e n hb hx=>(hs.2 b (lt b o e)).trans (I.base.keep b o e n hb hx),fun b o e n hb hx=>?_,I.base.free,fun b o e hx=>?_,I.base.tups,I.base.frzs,I.base.tbls⟩,⟨_,hn',fun j y v' e1 e2 e3=>?_⟩,fun y c e=>?_,I.free,I.freeC,fun p hp=>?_,fun b ob e=>?_,by simpa using I.len⟩
 ·obtain ⟨sl,e1⟩:=I.base.slot b o e n hb hx
  exact ⟨sl,(hs.2 b (lt b o e)).trans e1⟩
 ·obtain ⟨o',e1⟩:=I.base.there b o e hx
  exact ⟨o',(hs.2 b (lt b o e)).trans e1⟩
 ·have hj:j ≠ i:=fun z=>by
   subst z
   have hlt:j < σ.length:=by rw [I.len]; exact (List.getElem?_eq_some_iff.mp e1).1
   rw [E8 hlt] at e2
   cases e2
  rw [D2 (Ne.symm hj)] at e2
  obtain ⟨u',r',q⟩:=hl j y v' e1 e2 e3
  refine ⟨u',r',?_⟩
  rcases q with ⟨k,e⟩ | ⟨k,c,e,z⟩
  ·refine .inl ⟨k,?_⟩
   have:y ≠ x:=fun e=>hj (kn hN e1 (e ▸ hi))
   simp [this,e]
  ·exact .inr ⟨k,c,e,z.sameBut hs (I.cne y c e)⟩
 ·obtain ⟨w',z⟩:=I.cell y c e
  exact ⟨w',z.sameBut hs (I.cne y c e)⟩
 ·obtain ⟨e,n,ne,nf,d⟩:=I.pin p hp
  exact ⟨(hs.2 p.1 ne).trans e,n,ne,nf,d⟩
 ·refine (I.hok b ob e).stay (fun c w' hc q=>(hs.2 c ?_).trans q) (fun _ q=>q) fun _ _ q=>q
  intro z
  subst z
  rcases hc with hc | hc
  ·rw [← hc,I.free] at e; cases e
  ·rw [I.free] at hc; cases hc
end
section
variable {X:Cx}{body suite:List Stmt}{b₀:Stmt}{cn en:Str}{C fI:Addr}{i:Nat}{np hpos pos:Pos}{tb:TSX}{th:Addr→List (Str×V)→TS}
def iY (i:Nat) (D:eC):eC:=⟨fun σ H=>D.nx (σ.set i none) H,D.rt,fun σ H=>D.bk (σ.set i none) H,fun σ H=>D.ct (σ.set i none) H⟩
end
section
variable {prog:Program}{w:World}{A:Around}{E:Value→Shared→Prop}{h:Heap}{g:Array GenState}{dr:Drawn}{t:Nat}{os:OsState}{K:PySem.W.Frag}{a C:Addr}{o:Obj}{cd:ClassData}
theorem lkS {M:Model}{base:Value}{r:Bool}{Q:Bool→Shared→Prop} (X:K.In h) (e:PySem.W.mroIn K C base=some r) (q:Q r ⟨h,g,dr,t,os⟩):wpAny M A (isSubtype (.ref C) base) Q E ⟨h,g,dr,t,os⟩:=PySem.W.looks_mroIn X e _ _ _ _ (fun _ _ z=>z) q
theorem vg {R:Result→Shared→Prop} (X:K.In h) (hx:h.get? a=some o) (hcl:o.cls=.ref C) (ho:PySem.W.mroIn K C (.type "object")=some true) (q:R (.ok (.ret (.ref C))) ⟨h,g,dr,t,os⟩) :
  codeAny (model prog w) A (.call (.builtin "getset_descriptor.__get__") ⟨[.builtin "object.__class__",.ref a,.ref C],[]⟩) R ⟨h,g,dr,t,os⟩:=by
 have hT5:(⟨h,g,dr,t,os⟩:Shared).TypeIs (.builtin "object.__class__") "getset_descriptor" := GP
 have hs:PySem.W.mroIn K C (.type (".".intercalate ("object.__class__".cutAt '.').dropLast))=some true:=by rw [F.owner_object_class]; exact ho
 refine F7 F.slot_gs_get.plain F.entry_gs_get (F.slot_gs_get.check _ _ _ _ _ _ _ _ hT5 (F.args_gs_get _ _ _) ?_)
 repeat (any_goals (first | assumption | (with_reducible refine Eo hx ?_; rw [hcl]) | with_reducible refine lkS X hs ?_ | wp_step))
 refine ⟨Gp _ (by decide +kernel),Fh F.entry_object_class ?_⟩
 repeat (any_goals (first | assumption | (with_reducible refine Eo hx ?_; rw [hcl]) | wp_step))
theorem qd {Q:Fin→Shared→Prop}{tk:Tok} (X:K.In h) (hx:h.get? a=some o) (hcl:o.cls=.ref C) (ho:PySem.W.mroIn K C (.type "object")=some true) (hc:PySem.W.findIn K (.ref C) "__class__" = some (some (.builtin "object.__class__")))
  (q:Q (.done (.ret (.ref C))) ⟨h,g,dr,t,os⟩):wpAny (model prog w) A (Builtin.«object.__getattribute__» ⟨[.ref a,.str "__class__" tk],[]⟩) Q E ⟨h,g,dr,t,os⟩:=by
 have hT5:(⟨h,g,dr,t,os⟩:Shared).TypeIs (.builtin "object.__class__") "getset_descriptor" := GP
 have c5:=GP
 have c6:=F.slot_gs_get.lookup
 have c7:=F.slot_gs_set.lookup
 repeat (any_goals (first | assumption | (with_reducible refine Eo hx ?_; rw [hcl]) | with_reducible refine lkF X hc ?_ | wp_step))
 refine vg X hx hcl ho ?_
 repeat (any_goals (first | assumption | wp_step))
theorem xO {Q:Value→Shared→Prop}{tk:Tok}{fill expr:Bool} (X:K.In h) (hx:h.get? a=some o) (hcl:o.cls=.ref C) (ho:PySem.W.mroIn K C (.type "object")=some true) (hb:PySem.W.mroIn K C (.type "BaseException")=some true)
  (hc:PySem.W.findIn K (.ref C) "__class__" = some (some (.builtin "object.__class__"))) (hga:PySem.W.findIn K (.ref C) "__getattribute__" = some (some (.builtin "BaseException.__getattribute__"))) (hgt:PySem.W.findIn K (.ref C) "__getattr__" = some none)
  (q:Q (.ref C) ⟨h,g,dr,t,os⟩):wpAny (model prog w) A (getAttrBy (.ref a) (.str "__class__" tk) fill expr) Q E ⟨h,g,dr,t,os⟩:=by
 have hx0:(expr && onTheHeap (Value.builtin "BaseException.__getattribute__"))=false:=by cases expr <;> rfl
 have hx1:(onTheHeap (Value.ref C) && Value.builtin "BaseException.__getattribute__" == Value.builtin "object.__getattribute__")=false:=by
  rw [show (Value.builtin "BaseException.__getattribute__" == Value.builtin "object.__getattribute__")=false by decide +kernel]; rfl
 have hbs:bindSpecial (.builtin "BaseException.__getattribute__") (.ref a)=pure (.builtin "BaseException.__getattribute__",[.ref a]):=(Ft).ga.bind (.ref a)
 have IA:PySem.W.Looks (model prog w) h (typeOf (.ref a)) (.ref C):=(PySem.W.Looks.ld (part:=none) hx).andThen (by rw [hcl]; exact .now)
 have sub:PySem.W.Looks (model prog w) h (isInstance (.ref a) (.type "BaseException")) true:=IA.andThen (PySem.W.looks_mroIn X hb)
 have hk:builtinKind "BaseException.__getattribute__" = some .slot:=by decide +kernel
 have hsp:splitId "BaseException.__getattribute__" = some ("BaseException","__getattribute__"):=by decide +kernel
 repeat (any_goals (first | assumption | (with_reducible refine Eo hx ?_; rw [hcl]) | with_reducible refine lkF X hga ?_ | with_reducible refine lkF X hgt ?_ | wp_step))
 refine F7 (Ft).ga.plain PySem.F.entry_bexc_ga (@PySem.W.check_slot (model prog w) _ _ ⟨h,g,dr,t,os⟩ "BaseException.__getattribute__" "BaseException" "__getattribute__" (.ref a) [.str "__class__" tk] [] _ hk hsp sub (PySem.F.args_bexc_ga (.ref a) (.str "__class__" tk)) ?_)
 refine qd X hx hcl ho hc ?_
 repeat (any_goals (first | assumption | wp_step))
theorem s_ {Q:Option Value→Shared→Prop} (X:K.In h) (hx:h.get? a=some o) (hcl:o.cls=.ref C) (ho:PySem.W.mroIn K C (.type "object")=some true) (hb:PySem.W.mroIn K C (.type "BaseException")=some true)
  (hc:PySem.W.findIn K (.ref C) "__class__" = some (some (.builtin "object.__class__"))) (hga:PySem.W.findIn K (.ref C) "__getattribute__" = some (some (.builtin "BaseException.__getattribute__"))) (hgt:PySem.W.findIn K (.ref C) "__getattr__" = some none)
  (q:Q (some (.ref C)) ⟨h,g,dr,t + 1,os⟩):wpAny (model prog w) A (getAttr? (.ref a) "__class__") Q E ⟨h,g,dr,t,os⟩:=by
 unfold getAttr? getAttrBy?
 repeat (any_goals (first | assumption | with_reducible apply xO X hx hcl ho hb hc hga hgt | wp_step))
theorem wG (xc:nT K C cd) (hc:PySem.W.findIn K (.ref C) "__class__" = some (some (.builtin "object.__class__"))):PySem.W.KitX K (.ref a) (.ref C) (fun h=>∃ o,h.get? a=some o∧o.cls=.ref C):=by
 have ne0:cd.mro.isEmpty=false:=by
  cases z:cd.mro with
  | nil=>have w:=xc.obj; rw [z] at w; cases w
  | cons _ _=>rfl
 have ho:PySem.W.mroIn K C (.type "object")=some true:=by unfold PySem.W.mroIn; rw [xc.cls,DA,if_neg (by rw [ne0]; decide),xc.obj]
 have hb:PySem.W.mroIn K C (.type "BaseException")=some true:=by unfold PySem.W.mroIn; rw [xc.cls,DA,if_neg (by rw [ne0]; decide),xc.exc]
 have lk:∃ c' d' sl',K.lookup C=some ⟨c',d',.cls cd,sl'⟩:=by
  have z:=xc.cls
  unfold PySem.W.clsIn at z
  split at z
  ·rename_i hl
   cases z
   exact ⟨_,_,_,hl⟩
  ·cases z
 obtain ⟨c',d',sl',hl⟩:=lk
 refine ⟨fun M h X p=>?_,fun M h X p=>?_,fun h tp dd its n sl X htp=>?_,fun {prog w A E Q s} X p k=>?_⟩
 ·obtain ⟨o,z1,z2⟩:=p
  exact (PySem.W.Looks.ld (part:=none) z1).andThen (by rw [z2]; exact .now)
 ·intro A' Q' E' s' k q
  unfold isType loadHead
  exact DO (wpAny_loadPart (k _ _ (X _ _ hl)) (DT q))
 ·refine Bool.eq_false_iff.mpr fun q=>?_
  have e:C=tp:=Value.ref.inj (beq_iff_eq.mp q)
  subst e
  have z:=(X _ _ hl).symm.trans htp
  cases z
 ·obtain ⟨o,z1,z2⟩:=p
  obtain ⟨hh,gg,d,tt,oss⟩:=s
  exact s_ X z1 z2 ho hb hc xc.ga xc.gt k
end
section
variable {X:Cx}{a C dx:Addr}{oe od:Obj}{cd:ClassData}
theorem lK (hcl:oe.cls=.ref C) (xc:nT X.K C cd) (hc:PySem.W.findIn X.K (.ref C) "__class__" = some (some (.builtin "object.__class__"))) :
  dc (X.hnd2 a oe dx od) (.builtin "isinstance") (fun xs H Q=>∃ (y:V) (c:Value) (b:Bool),xs=[.ref a,y]∧(∀ u,bh y u→u=c)∧PySem.W.kitOne X.K (.ref C) c=some b∧Q (.bl b) H):=by
 intro pins s σ H xs us Q I r h
 obtain ⟨y,c,b,rfl,hy,e,q⟩:=h
 obtain ⟨u,w',rfl,ru,rw'⟩:=a_.two r
 obtain rfl:u=Value.ref a:=ru
 obtain rfl:=hy w' rw'
 have hp:=(I.pin (a,oe) (DW ..)).1
 exact EE (wG xc hc) I.kIn ⟨_,hp,hcl⟩ e (fun z=>nomatch z) fun tk=>⟨.bl b,H,I.tok tk,rfl,q⟩
end
end L2
namespace L2.Cu
open PySem PySem.Spec PyProof.Rows
def kH:D→Bool
 | .non=>true
 | .bl _=>true
 | .int _=>true
 | .str _=>true
 | _=>false
def scV:D→V
 | .bl b=>.bl b
 | .int i=>.int i
 | .str x=>.str x
 | _=>.non
theorem Ai {F:Hp}{v:V}{d:D} (r:Rep F v d) (h:kH d=true):v=scV d:=by cases r <;> first | rfl | cases h
theorem Ag {F:Hp}{d:D} (h:kH d=true):Rep F (scV d) d:=by cases d <;> first | exact .non | exact .bl _ | exact .int _ | exact .str _ | cases h
abbrev scF (fs:List (Str×D)):List (Str×V):=fs.map fun p=>(p.1,scV p.2)
inductive dS where
 | ok (r:Out) | xc (n:Nat) (fs:List (Str×D)) (E:DE)
def sU (cl:Nat→Addr) (B:Hp×Hp) (F:Hp) (Z:eC) (W:XW):dS→Prop
 | .ok r=>nY B F Z r
 | .xc n fs E=>∀ σ F' H dx,Ok B F' H σ E→Fr F F'→H dx=none→W σ (.ref (cl n)) (some dx) (upd H dx (.xd (scF fs)))
theorem sU.mono {cl:Nat→Addr}{B:Hp×Hp}{F F1:Hp}{Z:eC}{W:XW}{r:dS} (h:sU cl B F Z W r) (x:Fr F F1):sU cl B F1 Z W r:=by
 cases r with
 | ok r=>exact nY.mono h x
 | xc n fs E=>exact fun σ F' H dx k y=>h σ F' H dx k fun a o e=>y a o (x a o e)
def tSX (cl:Nat→Addr) (f:DE→Option dS):TSX:=fun Z W σ H=>∃ B F E r,Ok B F H σ E∧f E=some r∧sU cl B F Z W r
structure EsX (X:Cx) (cl:Nat→Addr) (st:Stmt) (f:DE→Option dS):Prop where
 h:PSX X st (tSX cl f)
structure nZ (X:Cx) (cl:Nat→Addr) (st:List Stmt) (f:DE→Option dS):Prop where
 h:iW X st (tSX cl f)
section
variable {X:Cx}{cl:Nat→Addr}{st:Stmt}{cg:List Stmt}{pos:Pos}
theorem PSX.by {t:TSX}{f:DE→Option dS} (h:PSX X st t) (w:∀ Z W σ H,tSX cl f Z W σ H→t Z W σ H):EsX X cl st f:=⟨fun pins s σ H Z W xe I q=>h pins s σ H Z W xe I (w Z W σ H q)⟩
theorem iW.by {t:TSX}{f:DE→Option dS} (h:iW X cg t) (w:∀ Z W σ H,tSX cl f Z W σ H→t Z W σ H):nZ X cl cg f:=⟨fun pins s σ H Z W xe I q=>h pins s σ H Z W xe I (w Z W σ H q)⟩
def okX (f:DE→Option Out) (E:DE):Option dS:=(f E).map dS.ok
theorem o3 {f:DE→Option Out}{Z:eC}{W:XW} {σ:St}{H:Hp} (h:tSX cl (okX f) Z W σ H):tS f Z σ H:=by
 obtain ⟨B,F,E,r,k,q,w⟩:=h
 unfold okX at q
 cases hf:f E with
 | none=>rw [hf] at q; cases q
 | some r1=>rw [hf] at q; cases q; exact ⟨B,F,E,r1,k,hf,w⟩
theorem kT {f:DE→Option Out} (h:Es X.nox st f):EsX X cl st (okX f):=PSX.by (AC h.h) fun _ _ _ _ q=>o3 q
theorem zh {f:DE→Option Out} (h:Ess X.nox cg f):nZ X cl cg (okX f):=iW.by (yk h.h) fun _ _ _ _ q=>o3 q
def oq (f g:DE→Option dS) (E:DE):Option dS:=(f E).bind fun r=>match r with
 | .ok (.nx E')=>g E'
 | r=>some r
theorem fT {f g:DE→Option dS} (h:EsX X cl st f) (h2:nZ X cl cg g):nZ X cl (st :: cg) (oq f g):=iW.by (tQ h.h h2.h) fun Z W σ H z=>by
 obtain ⟨B,F,E,r,k,q,w⟩:=z
 unfold oq at q
 cases hf:f E with
 | none=>rw [hf] at q; cases q
 | some r1 =>
  rw [hf] at q
  cases r1 with
  | xc n fs E'=>cases q; exact ⟨B,F,E,_,k,hf,w⟩
  | ok r1 =>
   cases r1 with
   | nx E'=>exact ⟨B,F,E,_,k,hf,fun σ' F' H' k' y=>⟨B,F',E',r,k',q,w.mono y⟩⟩
   | rt d=>cases q; exact ⟨B,F,E,_,k,hf,w⟩
   | bk E'=>cases q; exact ⟨B,F,E,_,k,hf,w⟩
   | ct E'=>cases q; exact ⟨B,F,E,_,k,hf,w⟩
theorem kU {f:DE→Option dS} (h:EsX X cl st f):nZ X cl [st] f:=⟨vP h.h⟩
def ifX (c:DE→Option Bool) (f g:DE→Option dS) (E:DE):Option dS:=(c E).bind fun b=>if b=true then f E else g E
theorem Bp {c:Expr}{a b:List Stmt}{cf:DE→Option Bool}{f g:DE→Option dS} (hc:Et X.nox c cf) (ha:nZ X cl a f) (hb:nZ X cl b g):EsX X cl (.If c a b pos) (ifX cf f g):=PSX.by (AD hc.h ha.h hb.h) fun Z W σ H z=>by
 obtain ⟨B,F,E,r,k,q,w⟩:=z
 unfold ifX at q
 cases hf:cf E with
 | none=>rw [hf] at q; cases q
 | some x =>
  rw [hf] at q
  refine ⟨B,F,E,x,k,hf,fun F1 H1 x1=>?_⟩
  cases x with
  | true=>exact qT ⟨B,F1,E,r,k.ext x1,q,w.mono x1.fr⟩
  | false=>exact qU ⟨B,F1,E,r,k.ext x1,q,w.mono x1.fr⟩
def m8 (n:Nat) (fld:Str) (f:DE→Option D) (E:DE):Option dS:=(f E).bind fun d=>if kH d=true then some (.xc n [(fld,d)] E) else none
theorem uL {k:Nat}{fI C:Addr}{fd:FuncData}{fld p x:Str}{np cpos:Pos}{arg:Expr}{f:DE→Option D}{n:Nat} (hn:cl n=C) (hq:pE X.K C fI=true) (F:bD X.prog X.w X.K X.mg X.base CX0 k fI fd ["self",p] (spI C fld)) (hb:bB X.K fd ["self",p] [])
  (hfn:PySem.W.isFn X.K (.ref fI)=true) (hr:du (k + 1) X.A) (hc:X.calm=true) (hg:Gl X x) (hm:X.mg x=some (.ref C)) (hk:PySem.W.keepIn X.K (.ref C)=true) (ha:Ev X.nox .V arg f) (hdb:(x == ("__debug__" : Str))=false:=by decide) (hs:aV arg=true:=by rfl) :
  EsX X cl (.Raise (some (.Call (.Name x np) [arg] [] cpos)) none pos) (m8 n fld f) :=
 PSX.by (tR hq F hb hfn hr hc hg hm hk (ae ha al (by first | assumption | rfl)).h hdb (aF arg [] X.env hs) rfl) fun Z W σ H z=>by
  obtain ⟨B,G,E,r,k,q,w⟩:=z
  unfold m8 at q
  cases hf:f E with
  | none=>rw [hf] at q; cases q
  | some d =>
   rw [hf] at q
   by_cases hd:kH d=true
   ·have q':some (dS.xc n [(fld,d)] E)=some r:=by
     rw [← q]
     show _=if kH d=true then _ else _
     rw [if_pos hd]
    cases q'
    refine ⟨B,G,E,[d],k,?_,fun vs F' H' x r=>?_⟩
    ·unfold ac ah
     rw [hf]; rfl
    ·obtain ⟨v,ws,rfl,r1,r2⟩:=r.c1
     obtain rfl:=r2.c0
     subst hn
     obtain rfl:=Ai r1 hd
     exact ⟨_,rfl,fun dx hdx=>w σ F' H' dx (k.ext x) x.fr hdx⟩
   ·have:(none:Option dS)=some r:=by
     rw [← q]
     show _=if kH d=true then _ else _
     rw [if_neg hd]
    cases this
end
def tE (cl:Nat→Addr) (n:Nat) (g:List D→Option (Option (Nat×List (Str×D)))):Sp:=fun vs H Q E=>∃ F ds r,(∀ a o,F a=some o→H a=some o)∧Reps F vs ds∧ds.length=n∧g ds=some r ∧
 match r with
 | none=>∀ v F' H',Ext F H F' H'→Q v H'
 | some (m,fs)=>∀ F' H' dx,Ext F H F' H'→H' dx=none→E (.ref (cl m)) (some dx) (upd H' dx (.xd (scF fs)))
def mF (n:Nat) (g:List D→Option (Option (Nat×List (Str×D)))) (f:DE→Option (List D)) (E:DE):Option dS:=(f E).bind fun ds=>if ds.length=n then (g ds).map fun r=>match r with
 | none=>.ok (.nx E)
 | some (m,fs)=>.xc m fs E else none
section
variable {X:Cx}{cl:Nat→Addr}
theorem xb {k:Nat}{fa:Addr}{fd:FuncData}{ps:List Str}{x:Str}{p cpos pos:Pos}{e:Expr}{es:List Expr}{n:Nat}{g:List D→Option (Option (Nat×List (Str×D)))} {f:DE→Option (List D)} (Fn:bD X.prog X.w X.K X.mg X.base (CX1 X.prog X.w) k fa fd ps (tE cl n g)) (hr:du k X.A) (hg:Gl X x)
  (hm:X.mg x=some (.ref fa)) (hk:PySem.W.keepIn X.K (.ref fa)=true) (hb:bB X.K fd ps []) (ha:Ea X.nox (e :: es) f) (hdb:(x == ("__debug__" : Str))=false:=by decide)
  (he:aV e=true:=by rfl) (hpl:es.all aV=true:=by rfl) (hs:swapsWith (.Call (.Name x p) (e :: es) [] cpos) none pos.line X.env=pure false:=by rfl):EsX X cl (.Expr (.Call (.Name x p) (e :: es) [] cpos) pos) (mF n g f) :=
 PSX.by (vQ (v6 Fn hr hg hm hk hb ha.h hdb (aF e es X.env he) (dQ cpos X.env es hpl)) hs) fun Z W σ H z=>by
  obtain ⟨B,F,E,r,k,q,w⟩:=z
  unfold mF at q
  cases hf:f E with
  | none=>rw [hf] at q; cases q
  | some ds =>
   rw [hf] at q
   by_cases hn:ds.length=n
   ·have q':(g ds).map (fun r=>match r with | none=>dS.ok (.nx E) | some (m,fs)=>.xc m fs E)=some r:=by
     have:=q
     simpa [hn] using this
    cases hgd:g ds with
    | none=>rw [hgd] at q'; cases q'
    | some r0 =>
     rw [hgd] at q'
     refine ⟨B,F,E,ds,k,hf,fun vs F1 H1 x1 r1=>⟨fun c d H'=>W σ c d H',⟨F1,ds,r0,x1.sub,r1,hn,hgd,?_⟩,fun _ _ _ z=>z⟩⟩
     cases r0 with
     | none =>
      cases q'
      exact fun v F2 H2 x2=>w σ F2 H2 (k.ext (x1.trans x2)) (x1.trans x2).fr
     | some mf =>
      obtain ⟨m,fs⟩:=mf
      cases q'
      exact fun F2 H2 dx x2 hd=>w σ F2 H2 dx (k.ext (x1.trans x2)) (x1.trans x2).fr hd
   ·have:(none:Option dS)=some r:=by
     have:=q
     simpa [hn] using this
    cases this
end
def lZ (n m:Nat) (b:DE→Option dS) (ds:List D):Option (Option (Nat×List (Str×D))):=if ds.length=n then (b (ds.map Sl.val ++ List.replicate (m - n) Sl.no)).bind fun r=>match r with
 | .ok (.nx _)=>some none
 | .ok (.rt _)=>some none
 | .xc k fs _=>some (some (k,fs))
 | _=>none else none
theorem Dt {P:Program}{w:World}{K:PySem.W.Frag}{mg:Str→Option Value}{base:Heap}{x qual:Str}{st:Stmt}{f:Addr}{fd:FuncData}{N ps:List Str}{k:Nat}{cl:Nat→Addr}{b:DE→Option dS} (Fn:Fun K x qual st f fd) (S:aP N ps (ai st))
  (hbody:∀ (cdv:Value) (A:Around) (outer:List Env) (s:Shared) (H:Hp) (E:XK),du k (A.deeper (envOfC qual (ai st) s.heap.objs.size f cdv)) →
   nZ (jB (CX1 P w) P w K mg base N qual (ai st) f cdv A outer s H E) cl (eB st) b):bD P w K mg base (CX1 P w) (k + 1) f fd ps (tE cl ps.length (lZ ps.length N.length b)):=by
 obtain ⟨oc,od,kV,doc,pm,an,cdv,ct,osl,rfl,lk,hcd⟩:=Fn.ex
 refine Bi lk hcd S (fun vs H Q E h=>?_) fun A outer s H vs Q E hr h=>?_
 ·obtain ⟨F,ds,d,_,r,hl,_⟩:=h
  rw [r.length,hl]
 ·obtain ⟨F,ds,r0,hs,r,hl,hg,q⟩:=h
  refine ⟨_,(hbody cdv A outer s H E hr).h,?_⟩
  unfold lZ at hg
  rw [if_pos hl] at hg
  cases hb:b (ds.map Sl.val ++ List.replicate (N.length - ps.length) Sl.no) with
  | none=>rw [hb] at hg; cases hg
  | some rr =>
   rw [hb] at hg
   have k0:=oX (N:=N) hs r
   rw [hl] at k0
   refine ⟨(F,H),F,_,rr,k0,hb,?_⟩
   cases rr with
   | xc m fs E'=>cases hg; exact fun σ' F' H' dx k' _ hd=>q F' H' dx k'.ent hd
   | ok rr =>
    cases rr with
    | rt d'=>cases hg; exact fun v F' H' x r'=>q v F' H' x
    | nx E'=>cases hg; exact fun σ' F' H' k' _=>q .non F' H' k'.ent
    | bk E'=>cases hg
    | ct E'=>cases hg
def sj (i:Nat):Out→Out
 | .nx E=>.nx (E.set i .no)
 | .bk E=>.bk (E.set i .no)
 | .ct E=>.ct (E.set i .no)
 | .rt d=>.rt d
theorem uH {B:Hp×Hp}{F:Hp}{D:eC}{i:Nat}{r:Out} (w:nY B F D (sj i r)):nY B F (iY i D) r:=by
 cases r with
 | nx E=>exact fun σ F' H k x=>w (σ.set i none) F' H (k.noS i) x
 | bk E=>exact fun σ F' H k x=>w (σ.set i none) F' H (k.noS i) x
 | ct E=>exact fun σ F' H k x=>w (σ.set i none) F' H (k.noS i) x
 | rt d=>exact w
theorem ya {H:Hp}{dx:Addr}{o:HO} (h:H dx=none):rmH (upd H dx o) dx=H:=by
 funext b
 by_cases hb:b=dx
 ·rw [hb,eS,h]
 ·rw [c8 hb,av hb]
def xF (i:Nat) (a:Addr) (d:D) (E:DE):Option D:=(E[i]?).bind fun s=>match s with
 | .rob o=>if o.ia=some a then some d else none
 | _=>none
theorem mT {i:Nat}{a:Addr}{d d':D}{B:Hp×Hp}{F H:Hp} {σ:St}{E:DE} (k:Ok B F H σ E) (h:xF i a d E=some d'):d'=d∧σ[i]? = some (some (.ref a)):=by
 unfold xF at h
 cases he:E[i]? with
 | none=>rw [he] at h; cases h
 | some s =>
  rw [he] at h
  cases s with
  | rob o =>
   have h:(if o.ia=some a then some d else none)=some d':=h
   by_cases ho:o.ia=some a
   ·rw [if_pos ho] at h
    cases h
    refine ⟨rfl,?_⟩
    obtain ⟨fp,q⟩:=k.ob
    rcases q.rob i _ he with ⟨b,ps,q1,q2⟩ | ⟨_,b,q1,q2⟩
    ·obtain ⟨b',ps',dx,fs,e1,e2,e3,_⟩:=q2
     have e4:=e2 a ho
     cases e1
     rw [e4] at q1; exact q1
    ·rw [ho] at q1; cases q1; exact q2
   ·rw [if_neg ho] at h; cases h
  | no=>cases h
  | val _=>cases h
  | own _=>cases h
  | obj _=>cases h
section
variable {X:Cx}{a C dx:Addr}{oe od:Obj}{cd:ClassData}{i:Nat}{p pos np:Pos}{en:Str}
def qe (i:Nat) (a:Addr) (f:Str) (fs:List (Str×D)) (E:DE):Option D:=(fs.lookup f).bind fun d=>if kH d=true then xF i a d E else none
theorem dI {e:Expr}{c:Value}{y:V}{b:Bool} (hcl:oe.cls=.ref C) (xc:nT X.K C cd) (hc:PySem.W.findIn X.K (.ref C) "__class__" = some (some (.builtin "object.__class__"))) (hg:Gl (X.hnd2 a oe dx od) "isinstance") (hm:X.mg "isinstance" = none) (hbi:bootBuiltins "isinstance" = some (.builtin "isinstance")) (hv:PE (X.hnd2 a oe dx od) (.Name en p) (jT i))
  (he:PE (X.hnd2 a oe dx od) e (tC y)) (hy:∀ u,bh y u→u=c) (hk:PySem.W.kitOne X.K (.ref C) c=some b) (hs:aV e=true:=by rfl) :
  Ev (X.hnd2 a oe dx od) .V (.Call (.Name "isinstance" np) [.Name en p,e] [] pos) (xF i a (.bl b)) :=
 PE.by (iA (lK hcl xc hc) hg hm hbi (di hv (di he fH (aF e [] X.env hs)) rfl) (by decide) (by decide) rfl (dQ pos X.env [e] (by simp [hs]))) fun σ H Q z=>by
  obtain ⟨B,F,E,d',k,q,w⟩:=z
  obtain ⟨rfl,e⟩:=mT k q
  exact ⟨_,e,y,c,b,rfl,hy,hk,w _ F H (Ext.refl k.sub) (.bl b)⟩
end
theorem bD.wide {P:Program}{w:World}{K:PySem.W.Frag}{mg:Str→Option Value}{base:Heap}{CX:CXT}{k:Nat}{f:Addr}{fd:FuncData}{ps:List Str}{sp:Sp} (F:bD P w K mg base CX0 k f fd ps sp):bD P w K mg base CX k f fd ps sp :=
 ⟨F.len,fun A outer s H args us vs Q E hr he hb hv hs=>FW (F.run A outer s H args us vs Q E hr he hb hv hs) fun r s' z=>by
  cases r with
  | error e=>exact False.elim z
  | ok fl=>cases fl <;> exact z⟩
theorem bD.or {P:Program}{w:World}{K:PySem.W.Frag}{mg:Str→Option Value}{base:Heap}{CX:CXT}{k:Nat}{f:Addr}{fd:FuncData}{ps:List Str}{sp sp' sp2:Sp} (F:bD P w K mg base CX k f fd ps sp) (F':bD P w K mg base CX k f fd ps sp')
  (h:∀ vs H Q E,sp2 vs H Q E→sp vs H Q E∨sp' vs H Q E):bD P w K mg base CX k f fd ps sp2 :=
 ⟨fun vs H Q E q=>(h _ _ _ _ q).elim (F.len vs H Q E) (F'.len vs H Q E),fun A outer s H args us vs Q E hr he hb hv hs=>(h _ _ _ _ hs).elim (fun z=>F.run A outer s H args us vs Q E hr he hb hv z) fun z=>F'.run A outer s H args us vs Q E hr he hb hv z⟩
def jL (g:List D→Option D) (gx:List D→Option (Option (Nat×List (Str×D)))) (ds:List D):Option (Option (Nat×List (Str×D))):=match g ds with
 | some _=>some none
 | none=>gx ds
open PySem PySem.Spec PyProof.Rows PySem.W
def iR:List Value→List Value
 | .ref _ :: r=>iR r
 | l=>l
theorem jt (self:Value):∀ l:List Value,refuseLoop self "__setattr__" l=refuseLoop self "__setattr__" (iR l)
 | []=>rfl
 | v :: r=>by
  cases v with
  | ref c=>rw [refuseLoop_ref]; exact jt self r
  | _=>rfl
theorem k_ {x:Value}:∀ l:List Value,(iR l).contains x=true→l.contains x=true
 | [],h=>h
 | v :: r,h=>by
  cases v with
  | ref c=>rw [List.contains_cons,k_ r h,Bool.or_true]
  | _=>exact h
def vh (K:Frag) (C:Addr):Bool:=match clsIn K C with
 | some cd=>iR cd.mro == bmV && (cd.hasDict && (findIn K (.ref C) "__setattr__" == some (some (.builtin "object.__setattr__")) && (findIn K (.ref C) "__getattribute__" == some (some (.builtin "BaseException.__getattribute__")) && findIn K (.ref C) "__getattr__" == some none)))
 | none=>false
theorem xN {K:Frag}{C:Addr} (h:vh K C=true):∃ cd,nT K C cd:=by
 unfold vh at h
 split at h
 ·rename_i cd hc
  simp only [EA,beq_iff_eq] at h
  obtain ⟨h1,h2,h3,h4,h5⟩:=h
  exact ⟨cd,hc,fun self=>by rw [jt,h1]; exact PySem.F.store_ValueError.passes self,k_ _ (by rw [h1]; decide +kernel),k_ _ (by rw [h1]; decide +kernel),h2,h3,h4,h5⟩
 ·cases h
def cq (K:Frag) (x:Str):Addr:=match nsIn K mainGlobals x with
 | some (some (.ref a))=>a
 | _=>0
def kJ (K:Frag) (C:Addr):Addr:=match findIn K (.ref C) "__init__" with
 | some (some (.ref a))=>a
 | _=>0
def By (K:Frag) (x:Str):Bool:=nsIn K mainGlobals x == some (some (.ref (cq K x)))
def Br (K:Frag) (x f:Str):Bool:=By K x && (pE K (cq K x) (kJ K (cq K x)) && (isFn K (.ref (kJ K (cq K x))) && (keepIn K (.ref (cq K x)) && (vh K (cq K x) && (findIn K (.ref (cq K x)) f == some none && findIn K (.ref (cq K x)) "__class__" == some (some (.builtin "object.__class__")))))))
structure zW (K:Frag) (x f:Str):Prop where
 ns:nsIn K mainGlobals x=some (some (.ref (cq K x)))
 q:pE K (cq K x) (kJ K (cq K x))=true
 fn:isFn K (.ref (kJ K (cq K x)))=true
 kp:keepIn K (.ref (cq K x))=true
 xc:∃ cd,nT K (cq K x) cd
 nf:findIn K (.ref (cq K x)) f=some none
 cl:findIn K (.ref (cq K x)) "__class__" = some (some (.builtin "object.__class__"))
theorem Bq {K:Frag}{x f:Str} (h:Br K x f=true):zW K x f:=by
 unfold Br By at h
 simp only [EA,beq_iff_eq] at h
 obtain ⟨h1,h2,h3,h4,h5,h6,h7⟩:=h
 exact ⟨h1,h2,h3,h4,xN h5,h6,h7⟩
theorem yH {P:Program}{w:World}{K:Frag}{mg:Str→Option Value}{base:Heap}{qual:Str}{st:Stmt}{C fI:Addr}{fd:FuncData}{f p:Str}{cd:ClassData}{p1 p2 p3 p4:Pos} (F:Fun K "__init__" qual st fI fd) (S:aP ["self",p] ["self",p] (ai st)) (xc:nT K C cd) (hn:findIn K (.ref C) f=some none)
  (hb:eB st=[.Assign [.Attribute (.Name "self" p1) f p2] (.Name p p3) p4]) (hv0:Vis (ai st) "self") (hv1:Vis (ai st) p) (hd:(p == ("__debug__" : Str))=false) (hcd:(p == ("__classdict__" : Str))=false)
  (hsw:∀ (env:Env),swapsWith (.Name p p3) (some (.Attribute (.Name "self" p1) f p2)) p4.line env=pure false):bD P w K mg base CX0 1 fI fd ["self",p] (spI C f):=by
 refine Fun.ok (k:=0) F S (fun vs H Q E z=>?_) fun cdv A outer s H vs Q E hr z=>?_
 ·obtain ⟨e,t,v,rfl,_⟩:=z; rfl
 ·rw [hb]
  refine ⟨_,rP (Cj (kc (i:=0) rfl hv0) (kc (i:=1) rfl hv1 hd hcd) (hsw _)),?_⟩
  obtain ⟨e,t,v,rfl,he,hq⟩:=z
  exact ⟨v,rfl,V.ref e,rfl,e,C,t,cd,rfl,he,xc,hn,fun dx h1 h2=>hq dx h1 h2⟩
end L2.Cu
namespace L2
open PySem PySem.Spec PyProof.Rows
def oa (K:PySem.W.Frag) (C C':Addr):Bool:=(match K.lookup C' with
 | some ⟨.type "type",_,.cls _,_⟩=>true
 | _=>false) && (PySem.W.mroIn K C' (.type "BaseException") == some true && PySem.W.mroIn K C (.ref C') == some true)
theorem Aa {K:PySem.W.Frag}{C C':Addr} (h:oa K C C'=true):(∃ d cd sl,K.lookup C'=some ⟨.type "type",d,.cls cd,sl⟩)∧PySem.W.mroIn K C' (.type "BaseException")=some true∧PySem.W.mroIn K C (.ref C')=some true:=by
 unfold oa at h
 simp only [EA,beq_iff_eq] at h
 obtain ⟨h1,h2,h3⟩:=h
 refine ⟨?_,h2,h3⟩
 split at h1
 ·rename_i hl
  exact ⟨_,_,_,hl⟩
 ·cases h1
theorem zc {M:Model}{A:Around}{E:Value→Shared→Prop}{K:PySem.W.Frag}{C C' e:Addr}{oe:Obj}{h:Heap}{g:Array GenState}{dr:Drawn}{t:Nat}{os:OsState}{Q:Bool→Shared→Prop} (X:K.In h) (he:h.get? e=some oe) (hcls:oe.cls=.ref C) (hs:oa K C C'=true)
  (hq:Q true ⟨h,g,dr,t,os⟩):wpAny M A (excMatches (.ref e) (.ref C')) Q E ⟨h,g,dr,t,os⟩:=by
 obtain ⟨⟨d,cd,sl,hl⟩,h2,h3⟩:=Aa hs
 have hC:=X _ _ hl
 have f:=tc_notTuple
 unfold excMatches
 repeat (first | (with_reducible refine Eo he ?_; rw [hcls]) | with_reducible refine Eo hC ?_ | with_reducible refine lkS X h2 ?_ | with_reducible refine lkS X h3 ?_ | wp_step)
 exact hq
def Cx.pin2 (X:Cx) (a:Addr) (oe:Obj) (dx:Addr) (od:Obj):Cx:={ X with pn:=(a,oe) :: (dx,od) :: X.pn }
section
variable {X:Cx}{pins:List (Addr×Obj)} {σ:St}{H:Hp}{s:Shared}{a dx:Addr}{oe od:Obj}
theorem Inv.toPin (ok:X.Ok) (I:Inv (X.hnd2 a oe dx od) pins σ H s):Inv (X.pin2 a oe dx od) pins σ H s :=
 ⟨⟨ok.mod,ok.kind,ok.glob,ok.blt,ok.above,ok.inj,ok.has,ok.cab,ok.hd,ok.frames,ok.stk,ok.exf,ok.bs,ok.bsz,ok.noex,ok.exfs,ok.funs,ok.frf⟩,I.os,I.bare,I.base,I.loc,I.cell,I.free,I.freeC,I.pin,I.hok,I.len⟩
theorem Inv.unpin (ok:X.Ok) (I:Inv (X.pin2 a oe dx od) pins σ H s):Inv X pins σ H s :=
 ⟨ok,I.os,I.bare,I.base,I.loc,I.cell,I.free,I.freeC,fun p hp=>I.pin p (DS _ (DS _ hp)),I.hok,I.len⟩
end
section
variable {X:Cx}{body suite cg:List Stmt}{b₀:Stmt}{cn en:Str}{C C':Addr}{i:Nat}{np hpos pos:Pos}{tb:TSX}{th tr:Addr→List (Str×V)→TS}{tr0:TS}
theorem SP.goneP {M:Model}{A:Around}{E:Value→Shared→Prop}{pins:List (Addr×Obj)} {a dx:Addr}{oe od:Obj}{D:eC}{f:Flow}{s:Shared} (ok:X.Ok) (hN:X.N.Nodup) (hi:X.N[i]? = some en) (hl:X.env.scope.names.lookup en=some .local)
  (h:SP (X.hnd2 a oe dx od) pins (iY i D) f s):wpAny M A (do bindName X.env en .none; unbindBehindTheSuite X.env en pos) (fun _ s5=>SP (X.pin2 a oe dx od) pins D f s5) E s:=by
 cases f with
 | next=>obtain ⟨σ',H',I,q⟩:=h; exact gV (X:=X.pin2 a oe dx od) (I.toPin ok) hN hi hl fun s' J=>⟨_,H',J,q⟩
 | brk=>obtain ⟨σ',H',I,q⟩:=h; exact gV (X:=X.pin2 a oe dx od) (I.toPin ok) hN hi hl fun s' J=>⟨_,H',J,q⟩
 | cont=>obtain ⟨σ',H',I,q⟩:=h; exact gV (X:=X.pin2 a oe dx od) (I.toPin ok) hN hi hl fun s' J=>⟨_,H',J,q⟩
 | ret u=>obtain ⟨v,σ',H',I,r,q⟩:=h; exact gV (X:=X.pin2 a oe dx od) (I.toPin ok) hN hi hl fun s' J=>⟨v,_,H',J,r,q⟩
theorem SP.unpin {pins:List (Addr×Obj)} {a dx:Addr}{oe od:Obj}{D:eC}{f:Flow}{s:Shared} (ok:X.Ok) (h:SP (X.pin2 a oe dx od) pins D f s):SP X pins D f s:=by
 cases f with
 | next=>obtain ⟨σ',H',I,q⟩:=h; exact ⟨σ',H',I.unpin ok,q⟩
 | brk=>obtain ⟨σ',H',I,q⟩:=h; exact ⟨σ',H',I.unpin ok,q⟩
 | cont=>obtain ⟨σ',H',I,q⟩:=h; exact ⟨σ',H',I.unpin ok,q⟩
 | ret u=>obtain ⟨v,σ',H',I,r,q⟩:=h; exact ⟨v,σ',H',I.unpin ok,r,q⟩
def WR (C:Addr) (i:Nat) (th:Addr→List (Str×V)→TS) (Dh:Addr→List (Str×V)→eC):XW:=fun σ c d H=>∃ dx fs,c=.ref C∧d=some dx∧H dx=some (.xd fs)∧∀ a,H a=none→th a fs (iY i (Dh a fs)) (σ.set i (some (.ref a))) (rmH H dx)
theorem xP {pins:List (Addr×Obj)} {s:Shared} {σ:St}{H:Hp}{D:eC}{Dh:Addr→List (Str×V)→eC}{Z:Flow→Shared→Prop} (I:Inv X pins σ H s) (h:tb D (WR C i th Dh) σ H) (hb:iW X body tb) (hst:X.stack=X.env :: X.outer) (hfr:X.env.frame=some X.env.locals) (hsup:oa X.K C C'=true) (hg:Gl X cn) (hm:X.mg cn=some (.ref C')) (hN:X.N.Nodup) (hi:X.N[i]? = some en) (hl:X.env.scope.names.lookup en=some .local)
  (hs:∀ (a dx:Addr) (oe od:Obj) (vs:Array Value) (fs:List (Str×V)),oe.cls=.ref C→oe.dict=some dx→oe.data=.fields vs→dx ≠ a→eD dx od fs→PSs (X.hnd2 a oe dx od) (b₀ :: suite) (th a fs)) (hf:X.fn en=true∨X.env.scope.names.lookup en=some .local) (hdb:(cn == ("__debug__" : Str))=false)
  (pass:∀ f s1,SP X pins D f s1→Z f s1) (fin:∀ (a dx:Addr) (oe od:Obj) (vs:Array Value) (fs:List (Str×V)) (f:Flow) (s1:Shared),oe.cls=.ref C→oe.dict=some dx→oe.data=.fields vs→dx ≠ a→eD dx od fs→SP (X.pin2 a oe dx od) pins (Dh a fs) f s1→Z f s1) :
  wpAny (model X.prog X.w) X.A (exec (.Try body [.ExceptHandler (some (.Name cn np)) (some en) (b₀ :: suite) hpos] [] [] pos) X.env) Z X.xe s:=by
 have ok:=I.ok
 have pass':∀ (f:Flow) (s1:Shared),SP X pins D f s1→(match f with | .next=>wpAny (model X.prog X.w) X.A (execs [] X.env) Z X.xe s1 | f=>Z f s1):=fun f s1 q=>by
  cases f with
  | next=>exact FN (pass _ _ q)
  | ret v=>exact pass _ _ q
  | brk=>exact pass _ _ q
  | cont=>exact pass _ _ q
 refine wpAny_Try_except (EB (hb pins s σ H D (WR C i th Dh) _ I h fun e s' x=>x) pass' fun e s1 x=>?_)
 obtain ⟨σ1,a,C',dx,o0,H1,rfl,I1,er,eo,hp,dx',fs,hc,hd,hxd,hw⟩:=x
 cases hc
 cases hd
 have landed:∀ (h4:Heap) (T:Addr),Inv X pins σ1 H1 { s1 with heap:=h4 }→Fly h4 o0 a T (rawInt X.env.locals)→H1 T=none→X.s₀.heap.objs.size≤T→(∀ p ∈ X.pn ++ pins,p.1 ≠ T) →
   wpAny (model X.prog X.w) X.A (setFlight (.ref a) none) (fun _ s3=>wpAny (model X.prog X.w) X.A (handleBy (.ref a) X.env [.ExceptHandler (some (.Name cn np)) (some en) (b₀ :: suite) hpos]) Z X.xe s3) X.xe { s1 with heap:=h4 }:=by
  intro h4 T I4 f4 hT1 hT2 hT3
  refine eO (s:={ s1 with heap:=h4 }) f4 fun h5 k5 _ f5=>?_
  have I5:Inv X pins σ1 H1 { s1 with heap:=h5 }:=Inv.kp (s:={ s1 with heap:=h4 }) (ch:=[T]) I4 (k5.wide (fun _ z=>by cases z) fun _ z=>z) fun b hb=>by
   rw [List.mem_singleton.mp hb]
   exact ⟨hT2,f4.recd.2,hT3,hT1⟩
  obtain ⟨vs5,oT5,ts5,g1,g2,g3,g4,g5,g6⟩:=id f5
  have Ih:=I5.hnd (a:=a) g1 rfl eo.free
  refine wpAny_handleBy_cons (codeAny_handlers_test (iF (X:=X.hnd a _) Ih hg hm ?_ hdb)) (by intro q; cases q)
  have kin:=I5.kIn
  obtain ⟨hh1,gg,dr,tk,os⟩:=s1
  refine zc kin g1 eo.cls hsup ?_
  refine codeAny_handlers_suite_as (eO (s:=⟨h5,gg,dr,tk,os⟩) f5 fun h6 k6 _ f6=>?_)
  have I6:Inv X pins σ1 H1 ⟨h6,gg,dr,tk,os⟩:=Inv.kp (s:=⟨h5,gg,dr,tk,os⟩) (ch:=[T]) I5 (k6.wide (fun _ z=>by cases z) fun _ z=>z) fun b hb=>by
   rw [List.mem_singleton.mp hb]
   exact ⟨hT2,f5.recd.2,hT3,hT1⟩
  obtain ⟨vs6,oT6,ts6,r1,_⟩:=id f6
  obtain ⟨od,hdh,Ih6⟩:=I6.hnd2 (a:=a) r1 rfl eo.free hxd
  refine gC (X:=X.hnd2 a _ dx od) Ih6 hN hi (.inl hl) (v:=V.ref a) rfl (fun s7 I7=>?_) hf
  exact EB (hs a dx { o0 with data:=.fields vs6 } od vs6 fs eo.cls eo.dict rfl eo.ne hdh pins s7 _ _ (iY i (Dh a fs)) I7 (hw a eo.free)) (fun f s8 q=>thn (q.goneP ok hN hi hl) fun _ s9 z=>fin a dx { o0 with data:=.fields vs6 } od vs6 fs f s9 eo.cls eo.dict rfl eo.ne hdh z) fun _ _ z=>False.elim z
 have hA:X.A.frames=some (X.env :: X.outer):=by rw [← hst]; exact ok.frames
 have hF:s1.heap.FunFrames X.base (X.env :: X.outer):=by rw [← hst]; exact I1.stack
 have hz:=I1.sz
 have pinT:∀ T,s1.heap.objs.size≤T→∀ p ∈ X.pn ++ pins,p.1 ≠ T:=fun T hT p hp z=>absurd (DU (I1.pin p hp).1) (by rw [z]; exact Nat.not_lt.mpr hT)
 rcases er with ⟨vs,q1,q2⟩ | ⟨T,fl,hf1,rfl | rfl,hT,hTz,hTp⟩
 ·refine km (base:=X.base) hA hF hfr q1 q2 fun h4 T k4 z4 f4=>?_
  have I4:Inv X pins σ1 H1 { s1 with heap:=h4 }:=I1.kp (ch:=[a]) (by unfold frs; rw [hst]; exact k4) fun b hb=>by
   rw [List.mem_singleton.mp hb]
   exact ⟨eo.new,⟨_,vs,q1,rfl⟩,hp,eo.free⟩
  exact landed h4 T I4 f4 (I1.hok.fresh z4) (D6 hz z4) (pinT T z4)
 ·refine l7 (base:=X.base) hA hF hfr hf1 fun h4 T' k4 z4 f4=>?_
  have I4:Inv X pins σ1 H1 { s1 with heap:=h4 }:=I1.kp (ch:=[a,T]) (by unfold frs; rw [hst]; exact k4) fun b hb=>by
   rcases List.mem_cons.mp hb with rfl | hb
   ·exact ⟨eo.new,hf1.recd.1,hp,eo.free⟩
   ·rw [List.mem_singleton.mp hb]
    exact ⟨hTz,hf1.recd.2,hTp,hT⟩
  exact landed h4 T' I4 f4 (I1.hok.fresh z4) (D6 hz z4) (pinT T' z4)
 ·exact o4 hfr hf1 (landed s1.heap T I1 hf1 hT hTz hTp)
theorem ym (hb:iW X body tb) (hst:X.stack=X.env :: X.outer) (hfr:X.env.frame=some X.env.locals) (hsup:oa X.K C C'=true) (hg:Gl X cn) (hm:X.mg cn=some (.ref C')) (hN:X.N.Nodup) (hi:X.N[i]? = some en) (hl:X.env.scope.names.lookup en=some .local)
  (hs:∀ (a dx:Addr) (oe od:Obj) (vs:Array Value) (fs:List (Str×V)),oe.cls=.ref C→oe.dict=some dx→oe.data=.fields vs→dx ≠ a→eD dx od fs→PSs (X.hnd2 a oe dx od) (b₀ :: suite) (th a fs))
  (hr:PSs X cg tr0) (hr2:∀ (a dx:Addr) (oe od:Obj) (vs:Array Value) (fs:List (Str×V)),oe.cls=.ref C→oe.dict=some dx→oe.data=.fields vs→dx ≠ a→eD dx od fs→PSs (X.pin2 a oe dx od) cg (tr a fs))
  (hf:X.fn en=true∨X.env.scope.names.lookup en=some .local:=by exact .inr (by assumption)) (hdb:(cn == ("__debug__" : Str))=false:=by decide) :
  PSs X (.Try body [.ExceptHandler (some (.Name cn np)) (some en) (b₀ :: suite) hpos] [] [] pos :: cg) (fun D σ H=>tb { D with nx:=tr0 D } (WR C i th fun a fs=>{ D with nx:=tr a fs D }) σ H):=by
 intro pins s σ H D I h
 have ok:=I.ok
 refine FZ (xP I h hb hst hfr hsup hg hm hN hi hl hs hf hdb (fun f s1 q=>?_) fun a dx oe od vs fs f s1 h1 h2 h3 h4 h5 q=>?_)
 ·cases f with
  | next =>
   obtain ⟨σ',H',I',q⟩:=q
   exact hr pins s1 σ' H' D I' q
  | ret v=>exact q
  | brk=>exact q
  | cont=>exact q
 ·cases f with
  | next =>
   obtain ⟨σ',H',I',q⟩:=q
   exact thn (hr2 a dx oe od vs fs h1 h2 h3 h4 h5 pins s1 σ' H' D I' q) fun f s2 z=>z.unpin ok
  | ret v=>exact SP.unpin (f:=.ret v) ok q
  | brk=>exact SP.unpin (f:=.brk) ok q
  | cont=>exact SP.unpin (f:=.cont) ok q
end
end L2
namespace L2.Cu
open PySem PySem.Spec PyProof.Rows
def vq (n i:Nat) (fb:DE→Option dS) (fh:Addr→List (Str×D)→DE→Option Out) (f0:DE→Option Out) (fr:Addr→List (Str×D)→DE→Option Out) (E:DE):Option Out:=(fb E).bind fun r=>match r with
 | .ok (.nx E')=>f0 E'
 | .ok r=>some r
 | .xc m fs E'=>@ite _ (m=n∧fW E') (Classical.propDecidable _) (u9 fun a=>(fh a fs (E'.set i (eg a))).bind fun r=>match sj i r with
  | .nx E2=>fr a fs E2
  | r=>some r) none
theorem zi {X:Cx}{cl:Nat→Addr}{body suite cg:List Stmt}{b₀:Stmt}{cn en:Str}{C':Addr}{i n:Nat}{np hpos pos:Pos}{fb:DE→Option dS}{fh fr:Addr→List (Str×D)→DE→Option Out}{f0:DE→Option Out} (hb:nZ X cl body fb) (hst:X.stack=X.env :: X.outer) (hfr:X.env.frame=some X.env.locals) (hq:oa X.K (cl n) C'=true)
  (hg:Gl X cn) (hm:X.mg cn=some (.ref C')) (hN:X.N.Nodup) (hi:X.N[i]? = some en) (hl:X.env.scope.names.lookup en=some .local)
  (hs:∀ (a dx:Addr) (oe od:Obj) (vs:Array Value) (fs:List (Str×D)),oe.cls=.ref (cl n)→oe.dict=some dx→oe.data=.fields vs→dx ≠ a→eD dx od (scF fs)→Ess (X.hnd2 a oe dx od) (b₀ :: suite) (fh a fs))
  (h0:Ess X cg f0) (hr:∀ (a dx:Addr) (oe od:Obj) (vs:Array Value) (fs:List (Str×D)),oe.cls=.ref (cl n)→oe.dict=some dx→oe.data=.fields vs→dx ≠ a→eD dx od (scF fs)→Ess (X.pin2 a oe dx od) cg (fr a fs)) (hdb:(cn == ("__debug__" : Str))=false:=by decide) :
  Ess X (.Try body [.ExceptHandler (some (.Name cn np)) (some en) (b₀ :: suite) hpos] [] [] pos :: cg) (vq n i fb fh f0 fr) :=
 PSs.by (ym (C:=cl n) (th:=fun a vs D σ H=>∃ fs,vs=scF fs∧tS (fh a fs) D σ H) (tr:=fun a vs D σ H=>∃ fs,vs=scF fs∧tS (fr a fs) D σ H) (tr0:=tS f0) hb.h hst hfr hq hg hm hN hi hl (fun a dx oe od vs fsV h1 h2 h3 h4 h5=>fun pins s σ H D I z=>by
  obtain ⟨fs,e,q⟩:=z
  subst e
  exact (hs a dx oe od vs fs h1 h2 h3 h4 h5).h pins s σ H D I q) h0.h (fun a dx oe od vs fsV h1 h2 h3 h4 h5=>fun pins s σ H D I z=>by
  obtain ⟨fs,e,q⟩:=z
  subst e
  exact (hr a dx oe od vs fs h1 h2 h3 h4 h5).h pins s σ H D I q) (.inr hl) hdb) fun Z σ H z=>by
  obtain ⟨B,F,E,r,k,q,w⟩:=z
  unfold vq at q
  cases hf:fb E with
  | none=>rw [hf] at q; cases q
  | some r1 =>
   rw [hf] at q
   refine ⟨B,F,E,r1,k,hf,?_⟩
   cases r1 with
   | ok r1 =>
    cases r1 with
    | nx E'=>exact fun σ' F' H' k' x=>⟨B,F',E',r,k',q,w.mono x⟩
    | rt d=>cases q; exact w
    | bk E'=>cases q; exact w
    | ct E'=>cases q; exact w
   | xc m fs E' =>
    have q2:@ite _ (m=n∧fW E') (Classical.propDecidable _) (u9 fun a=>(fh a fs (E'.set i (eg a))).bind fun r=>match sj i r with
     | .nx E2=>fr a fs E2
     | r=>some r) none=some r:=q
    by_cases hc:m=n∧fW E'
    ·rw [if_pos hc] at q2
     obtain ⟨hmn,hno⟩:=hc
     subst hmn
     refine fun σ' F' H' dx k' x hd=>⟨dx,scF fs,rfl,rfl,aD,fun a _=>?_⟩
     obtain ⟨r2,e1,e2⟩:=Option.bind_eq_some_iff.mp (u8 q2 a)
     refine ⟨fs,rfl,B,F',_,r2,?_,e1,uH ?_⟩
     ·rw [ya hd]
      exact k'.set_raw hno i a
     ·have w2:=w.mono x
      generalize sj i r2=r3 at e2
      cases r3 with
      | nx E3=>exact fun σ2 F2 H2 k2 x2=>⟨fs,rfl,B,F2,E3,r,k2,e2,w2.mono x2⟩
      | rt d=>cases e2; exact w2
      | bk E3=>cases e2; exact w2
      | ct E3=>cases e2; exact w2
    ·rw [if_neg hc] at q2; cases q2
def pt (j i:Nat) (a:Addr) (E:DE):Option Out:=@ite _ (xF i a .non E=some .non∧fW E) (Classical.propDecidable _) (some (.nx (E.set j (eg a)))) none
theorem zk {X:Cx}{i j:Nat}{a:Addr}{x en:Str}{p pos pos':Pos} (hN:X.N.Nodup) (hj:X.N[j]? = some x) (hx:Loc X.env.scope x) (hv:PE X (.Name en p) (jT i)) (hs:swapsWith (.Name en p) (some (.Name x pos')) pos.line X.env=pure false:=by rfl)
  (hf:X.fn x=true∨X.env.scope.names.lookup x=some .local:=by first | exact .inl rfl | exact .inr rfl | assumption):Es X (.Assign [.Name x pos'] (.Name en p) pos) (pt j i a):=PS.by (qx hN hj hx hv hs hf) fun Z σ H zz145_0=>by
 obtain ⟨B,F,E,r,k,q,w⟩:=zz145_0
 unfold pt at q
 by_cases hc:xF i a .non E=some .non∧fW E
 ·rw [if_pos hc] at q
  cases q
  obtain ⟨_,e⟩:=mT k hc.1
  exact ⟨_,e,w _ F H (k.set_raw hc.2 j a) fun _ _ z=>z⟩
 ·rw [if_neg hc] at q; cases q
section
variable {X:Cx}{a dx C:Addr}{oe od:Obj}{vs:Array Value}{fs:List (Str×V)} {cd:ClassData}{e:Expr}{f:Str}{ta:TE}{pos:Pos}
theorem v7 (hc:oe.cls=.ref C) (hd:oe.dict=some dx) (hdata:oe.data=.fields vs) (hne:dx ≠ a) (xc:nT X.K C cd) (hn:PySem.W.findIn X.K (.ref C) f=some none) (hdh:eD dx od fs) (he:PE (X.pin2 a oe dx od) e ta) (hb:attributeBase e f X.env (eval e X.env)=eval e X.env:=by rfl) :
  PE (X.pin2 a oe dx od) (.Attribute e f pos) (fun σ H Q=>ta σ H fun x H1=>x=.ref a∧∃ v,fs.lookup f=some v∧Q v H1):=by
 intro pins s σ H Q I h
 refine zy hb (thn (he pins s σ H _ I h) fun u s1 z=>?_)
 obtain ⟨x,H1,I1,rx,ex,v,hl,q⟩:=z
 subst ex
 obtain rfl:u=Value.ref a:=rx
 have hp:=(I1.pin (a,oe) (DW ..)).1
 obtain ⟨mA,hns,hr⟩:=hdh
 have hns:=hns s1.heap (I1.pin (dx,od) (DS _ (DW ..))).1
 obtain ⟨u',hu,ru⟩:=gw.some_of (v:=v) (o:=mA f) (by rw [← hl]; exact hr f)
 have hI:s1.heap.Inst a C mA:=⟨oe,hp,hc,fun c z=>(by rw [hdata] at z; cases z),.inr ⟨dx,hd,hne,hns⟩⟩
 have hk:=I1.kIn
 have hfin:∀ tk,EP (X.pin2 a oe dx od) pins σ Q u' { s1 with toks:=tk }:=fun tk=>⟨v,H1,I1.tok tk,ru,q⟩
 obtain ⟨hh,g,dr,tk,os⟩:=s1
 exact w4 hk hI xc.cls xc.hd xc.exc xc.ga xc.gt hn hu (PySem.W.handedOut_of (uE ru)) (hfin _)
end
section
variable {X:Cx}{a C dx:Addr}{oe od:Obj}{cd:ClassData}{i:Nat}{p pos np:Pos}{en:Str}
theorem kS {f:Str}{vs:Array Value}{fs:List (Str×D)} (hc:oe.cls=.ref C) (hd:oe.dict=some dx) (hdata:oe.data=.fields vs) (hne:dx ≠ a) (xc:nT X.K C cd) (hn:PySem.W.findIn X.K (.ref C) f=some none) (hdh:eD dx od (scF fs)) (hv:PE (X.pin2 a oe dx od) (.Name en p) (jT i))
  (hb:attributeBase (.Name en p) f X.env (eval (.Name en p) X.env)=eval (.Name en p) X.env:=by rfl):Ev (X.pin2 a oe dx od) .V (.Attribute (.Name en p) f pos) (qe i a f fs) :=
 PE.by (v7 hc hd hdata hne xc hn hdh hv hb) fun σ H Q z=>by
  obtain ⟨B,F,E,d',k,q,w⟩:=z
  unfold qe at q
  obtain ⟨d,hl,q⟩:=Option.bind_eq_some_iff.mp q
  by_cases hsc:kH d=true
  ·rw [if_pos hsc] at q
   obtain ⟨rfl,e⟩:=mT k q
   refine ⟨_,e,rfl,scV d',?_,w _ F H (Ext.refl k.sub) (Ag hsc)⟩
   have:∀ l:List (Str×D),l.lookup f=some d'→(scF l).lookup f=some (scV d'):=fun l=>by
    induction l with
    | nil=>intro z; cases z
    | cons y l ih =>
     intro z
     obtain ⟨g,x⟩:=y
     rw [EI] at z
     show List.lookup f ((g,scV x) :: scF l)=_
     rw [EI]
     cases hg:f == g with
     | true=>rw [hg] at z; cases z; rfl
     | false=>rw [hg] at z; exact ih z
   exact this fs hl
  ·rw [if_neg hsc] at q; cases q
end
open PySem PySem.Spec PyProof.Rows PySem.W
abbrev sE (K:Frag) (x f qual b:Str) (ys:List Str):=(y8 K qual (kJ K (cq K x)),Br K x f && (oa K (cq K x) (cq K b) && (b :: ys).all (By K)),ys.map (fun y=>kitOne K (.ref (cq K x)) (.ref (cq K y))),kitOne K (.ref (cq K x)) (.type "ValueError"))
abbrev sF (qual:Str) (st:Stmt) (bs:List Bool):=(wY "__init__" qual st,true,bs.map some,some true)
structure nW (K:Frag) (mg:Str→Option Value) (x f qual:Str) (st:Stmt) (b:Str) (ys:List Str) (bs:List Bool):Prop where
 fn:∃ fd,Fun K "__init__" qual st (kJ K (cq K x)) fd
 er:zW K x f
 mx:mg x=some (.ref (cq K x))
 sup:oa K (cq K x) (cq K b)=true
 ms:∀ y ∈ b :: ys,mg y=some (.ref (cq K y))
 ks:ys.map (fun y=>kitOne K (.ref (cq K x)) (.ref (cq K y)))=bs.map some
 kv:kitOne K (.ref (cq K x)) (.type "ValueError")=some true
theorem uu {K:Frag}{mg:Str→Option Value}{x f qual:Str}{st:Stmt}{b:Str}{ys:List Str}{bs:List Bool} (h:sE K x f qual b ys=sF qual st bs) (g:∀ (x:Str) (v:Value),nsIn K mainGlobals x=some (some v)→mg x=some v):nW K mg x f qual st b ys bs:=by
 obtain ⟨h1,h⟩:=Fc h
 obtain ⟨h2,h⟩:=Fc h
 obtain ⟨h3,h4⟩:=Fc h
 obtain ⟨e1,e2⟩:=Bool.and_eq_true_iff.mp h2
 obtain ⟨e2,e3⟩:=Bool.and_eq_true_iff.mp e2
 have er:=Bq e1
 exact ⟨zP h1,er,g _ _ er.ns,e2,fun y hy=>g _ _ (beq_iff_eq.mp (List.all_eq_true.mp e3 y hy)),h3,h4⟩
theorem nW.k {K:Frag}{mg:Str→Option Value}{x f qual:Str}{st:Stmt}{b:Str}{ys:List Str}{bs:List Bool} (h:nW K mg x f qual st b ys bs) (j:Nat) {y:Str}{c:Bool} (hy:ys[j]? = some y) (hc:bs[j]? = some c):kitOne K (.ref (cq K x)) (.ref (cq K y))=some c:=by
 have e:=ED (fun l=>l[j]?) h.ks
 simp only [DX,hy,hc,DC] at e
 exact DR e
theorem De {P:Program}{w:World}{K:PySem.W.Frag}{mg:Str→Option Value}{base:Heap}{k n:Nat}{f:Addr}{fd:FuncData}{ps:List Str}{cl:Nat→Addr}{g:List D→Option D}{gx:List D→Option (Option (Nat×List (Str×D)))} (F:bD P w K mg base CX0 k f fd ps (spD n g))
  (F':bD P w K mg base (CX1 P w) k f fd ps (tE cl n gx)):bD P w K mg base (CX1 P w) k f fd ps (tE cl n (jL g gx)) :=
 bD.or (bD.wide F) F' fun vs H Q E h=>by
  obtain ⟨G,ds,r,h1,h2,h3,h4,h5⟩:=h
  unfold jL at h4
  cases hg:g ds with
  | none=>rw [hg] at h4; exact .inr ⟨G,ds,r,h1,h2,h3,h4,h5⟩
  | some d=>rw [hg] at h4; cases h4; exact .inl ⟨G,ds,d,h1,h2,h3,hg,fun v F' H' x _=>h5 v F' H' x⟩
def Al:List (List Nat)→List Nat→Nat→Nat→Prop
 | [],[],w,v=>w=0∧v=0
 | r :: rs,x :: xs,w,v=>∃ w' v' c,r[x]? = some c∧Al rs xs w' v'∧w=x + w'∧v=c + v'
 | _,_,_,_=>False
theorem Al.snoc:∀ {rs:List (List Nat)} {xs:List Nat}{w v:Nat}{r:List Nat}{x c:Nat},Al rs xs w v→r[x]? = some c→Al (rs ++ [r]) (xs ++ [x]) (w + x) (v + c)
 | [],[],w,v,r,x,c,h,hc=>⟨0,0,c,hc,⟨rfl,rfl⟩,by have:=h.1; omega,by have:=h.2; omega⟩
 | a :: rs,y :: xs,w,v,r,x,c,⟨w',v',d,h1,h2,h3,h4⟩,hc=>⟨w' + x,v' + c,d,h1,h2.snoc hc,by omega,by omega⟩
theorem Al.split:∀ {rs:List (List Nat)} {r:List Nat}{ys:List Nat}{w v:Nat},Al (rs ++ [r]) ys w v→∃ xs x c w' v',ys=xs ++ [x]∧r[x]? = some c∧Al rs xs w' v'∧w=w' + x∧v=v' + c
 | [],r,y :: ys,w,v,⟨w',v',c,h1,h2,h3,h4⟩=>by
  match ys,h2 with
  | [],h2=>exact ⟨[],y,c,0,0,rfl,h1,⟨rfl,rfl⟩,by have:=h2.1; omega,by have:=h2.2; omega⟩
 | a :: rs,r,y :: ys,w,v,⟨w',v',c,h1,h2,h3,h4⟩=>by
  obtain ⟨xs,x,d,w2,v2,rfl,e1,e2,e3,e4⟩:=Al.split (rs:=rs) h2
  exact ⟨y :: xs,x,d,y + w2,c + v2,rfl,e1,⟨w2,v2,c,h1,e2,rfl,rfl⟩,by omega,by omega⟩
 | [],r,[],w,v,h=>False.elim h
 | a :: rs,r,[],w,v,h=>False.elim h
theorem Al.len:∀ {rs:List (List Nat)} {xs:List Nat}{w v:Nat},Al rs xs w v→xs.length=rs.length
 | [],[],_,_,_=>rfl
 | _ :: rs,_ :: xs,_,_,⟨_,_,_,_,h,_⟩=>ED Nat.succ (Al.len h)
structure CU (S:Nat) (r F ms F':List Nat):Prop where
 lm:ms.length=S + 1
 lf:F'.length=S + 1
 at_:∀ s,s≤S→∃ x c a,x≤s∧ms[s]? = some x∧r[x]? = some c∧F[s - x]? = some a∧F'[s]? = some (a + c)∧∀ y c' b,y≤s→r[y]? = some c'→F[s - y]? = some b→a + c≤b + c'
inductive Dp (S:Nat):List (List Nat)→List (List Nat)→List Nat→Prop
 | nil:Dp S [] [] (List.replicate (S + 1) 0)
 | snoc {rs T r F ms F'} (h:Dp S rs T F) (st:CU S r F ms F'):Dp S (rs ++ [r]) (T ++ [ms]) F'
theorem Dp.len {S:Nat}{rs T:List (List Nat)} {F:List Nat} (h:Dp S rs T F):F.length=S + 1:=by
 cases h with
 | nil=>simp
 | snoc h st=>exact st.lf
def jS:List (List Nat)→Nat→List Nat
 | [],_=>[]
 | m :: ms,s=>m.getD s 0 :: jS ms (s - m.getD s 0)
theorem Dp.best {S:Nat}{rs T:List (List Nat)} {F:List Nat} (h:Dp S rs T F):∀ s,s≤S→∃ v,F[s]? = some v∧∀ xs w v',Al rs xs w v'→w≤s→v≤v':=by
 induction h with
 | nil =>
  intro s hs
  exact ⟨0,by rw [En,if_pos (by omega)],fun xs w v' h _=>by omega⟩
 | @snoc rs T r F ms F' h st ih =>
  intro s hs
  obtain ⟨x,c,a,hx,h1,h2,h3,h4,h5⟩:=st.at_ s hs
  refine ⟨a + c,h4,fun ys w v' h6 hw=>?_⟩
  obtain ⟨xs,y,c',w',v2,rfl,e1,e2,e3,e4⟩:=h6.split
  obtain ⟨b,hb,hm⟩:=ih (s - y) (by omega)
  have:=h5 y c' b (by omega) e1 hb
  have:=hm xs w' v2 e2 (by omega)
  omega
theorem Dp.tr {S:Nat}{rs T:List (List Nat)} {F:List Nat} (h:Dp S rs T F):∀ s,s≤S→∃ w v,F[s]? = some v∧w≤s∧Al rs (jS T.reverse s).reverse w v:=by
 induction h with
 | nil =>
  intro s hs
  exact ⟨0,0,by rw [En,if_pos (by omega)],by omega,⟨rfl,rfl⟩⟩
 | @snoc rs T r F ms F' h st ih =>
  intro s hs
  obtain ⟨x,c,a,hx,h1,h2,h3,h4,h5⟩:=st.at_ s hs
  obtain ⟨w,v,e1,e2,e3⟩:=ih (s - x) (by omega)
  rw [h3] at e1
  cases e1
  refine ⟨w + x,a + c,h4,by omega,?_⟩
  rw [List.reverse_append]
  show Al (rs ++ [r]) (jS (ms :: T.reverse) s).reverse (w + x) (a + c)
  unfold jS
  have:ms.getD s 0=x:=by rw [D3,h1]; rfl
  rw [this,FM]
  exact e3.snoc h2
structure ExB (rs:List (List Nat)) (s:Nat) (o:Option Nat):Prop where
 ex:∀ v,o=some v→∃ xs w,Al rs xs w v∧w + rs.length=s
 le:∀ xs w v',Al rs xs w v'→w + rs.length=s→∃ v,o=some v∧v≤v'
theorem su (s:Nat):ExB [] s (if s=0 then some 0 else none):=by
 constructor
 ·intro v h
  split at h
  ·cases h; exact ⟨[],0,⟨rfl,rfl⟩,by simp; omega⟩
  ·cases h
 ·intro xs w v' h hw
  match xs,h with
  | [],h =>
   have h1:w=0:=h.1
   have h2:v'=0:=h.2
   refine ⟨0,?_,by omega⟩
   rw [if_pos]
   have:w + 0=s:=hw
   omega
structure CT (R M:List Nat):Prop where
 ne:M ≠ []
 pre:∀ (x c:Nat),M[x]? = some c→R[x]? = some c
 tail:∀ x c,R[x]? = some c→∃ c',M[min x (M.length - 1)]? = some c'∧c'≤c
def p6:List (List Nat)→List (List Nat)→Prop
 | [],[]=>True
 | R :: Rs,M :: Ms=>CT R M∧p6 Rs Ms
 | _,_=>False
theorem Al.up:∀ {Rs Ms:List (List Nat)} {xs:List Nat}{w v:Nat},Al Ms xs w v→p6 Rs Ms→Al Rs xs w v
 | [],[],[],_,_,h,_=>h
 | _ :: _,_ :: _,x :: _,_,_,⟨w',v',c,h1,h2,h3,h4⟩,ht=>⟨w',v',c,ht.1.pre x c h1,h2.up ht.2,h3,h4⟩
 | _ :: _,[],_,_,_,_,ht=>False.elim ht
 | [],_ :: _,_,_,_,_,ht=>False.elim ht
def fN (Ms:List (List Nat)):Nat:=(Ms.map fun M=>M.length - 1).sum
theorem Al.down:∀ {Rs Ms:List (List Nat)} {ks:List Nat}{w v:Nat},Al Rs ks w v→p6 Rs Ms→∃ xs w' v',Al Ms xs w' v'∧w'≤w∧w'≤fN Ms∧v'≤v
 | [],[],[],_,_,_,_=>⟨[],0,0,⟨rfl,rfl⟩,by omega,by omega,by omega⟩
 | R :: Rs,M :: Ms,k :: ks,w,v,⟨w',v',c,h1,h2,h3,h4⟩,ht=>by
  obtain ⟨xs,w2,v2,e1,e2,e3,e4⟩:=h2.down ht.2
  obtain ⟨c',q1,q2⟩:=ht.1.tail k c h1
  refine ⟨min k (M.length - 1) :: xs,min k (M.length - 1) + w2,c' + v2,⟨w2,v2,c',q1,e1,rfl,rfl⟩,by omega,?_,by omega⟩
  show _≤((M :: Ms).map fun M=>M.length - 1).sum
  rw [DI,EH]
  have:w2≤(Ms.map fun M=>M.length - 1).sum:=e3
  omega
 | _ :: _,[],_,_,_,_,ht=>False.elim ht
 | [],_ :: _,_,_,_,_,ht=>False.elim ht
theorem qk {Rs Ms:List (List Nat)} (ht:p6 Rs Ms) {most n rm spare v u:Nat}{xs:List Nat}{w:Nat} (hn:n≤most) (hr:fN Ms + n≤rm) (hs:spare=min (most - n) (fN Ms))
  (h1:Al Ms xs w v) (h2:w≤spare) (h3:∀ xs w v',Al Ms xs w v'→w≤spare→v≤v')
  (h4:∃ xs w,Al Rs xs w u∧w + n≤min most rm) (h5:∀ xs w v',Al Rs xs w v'→w + n≤min most rm→u≤v'):v=u:=by
 obtain ⟨ks,w2,h6,h7⟩:=h4
 obtain ⟨ys,w3,v3,e1,e2,e3,e4⟩:=h6.down ht
 have a:=h3 ys w3 v3 e1 (by omega)
 have b:=h5 xs w v (h1.up ht) (by omega)
 omega
structure Rx (M:Nat) (rs:List (List Nat)) (r:List Nat) (B more:List (Option Nat)) (dn:Nat→Nat→Prop):Prop where
 len:more.length=M + 1
 snd:∀ t v,more[t]? = some (some v)→∃ xs w,Al (rs ++ [r]) xs w v∧w + (rs.length + 1)=t
 dom:∀ s k b c,dn s k→B[s]? = some (some b)→r[k]? = some c→s + k + 1≤M→∃ v,more[s + k + 1]? = some (some v)∧v≤b + c
structure Tb (M:Nat) (rs:List (List Nat)) (B:List (Option Nat)):Prop where
 len:B.length=M + 1
 at_:∀ s o,B[s]? = some o→ExB rs s o
theorem Rx.start {M:Nat}{rs:List (List Nat)} {r:List Nat}{B:List (Option Nat)}:Rx M rs r B (List.replicate (M + 1) none) fun _ _=>False :=
 ⟨by simp,fun t v h=>(by
  rw [En] at h
  split at h
  ·cases h
  ·cases h),fun _ _ _ _ h=>False.elim h⟩
theorem Rx.skip {M:Nat}{rs:List (List Nat)} {r:List Nat}{B more:List (Option Nat)} {dn dn':Nat→Nat→Prop} (h:Rx M rs r B more dn) (hd:∀ s k b,dn' s k→B[s]? = some (some b)→s + k + 1≤M→k < r.length→dn s k):Rx M rs r B more dn' :=
 ⟨h.len,h.snd,fun s k b c h1 h2 h3 h4=>h.dom s k b c (hd s k b h1 h2 h4 (List.getElem?_eq_some_iff.mp h3).1) h2 h3 h4⟩
theorem Rx.keep {M:Nat}{rs:List (List Nat)} {r:List Nat}{B more:List (Option Nat)} {dn:Nat→Nat→Prop} (h:Rx M rs r B more dn) {s k b c v:Nat} (hb:B[s]? = some (some b)) (hc:r[k]? = some c) (hv:more[s + k + 1]? = some (some v)) (hle:v≤b + c):Rx M rs r B more fun s' k'=>dn s' k'∨(s'=s∧k'=k) :=
 ⟨h.len,h.snd,fun s' k' b' c' h1 h2 h3 h4=>by
  rcases h1 with h1 | ⟨rfl,rfl⟩
  ·exact h.dom s' k' b' c' h1 h2 h3 h4
  ·rw [hb] at h2; rw [hc] at h3; cases h2; cases h3
   exact ⟨v,hv,hle⟩⟩
theorem Rx.put {M:Nat}{rs:List (List Nat)} {r:List Nat}{B more:List (Option Nat)} {dn:Nat→Nat→Prop} (h:Rx M rs r B more dn) (T:Tb M rs B) {s k b c:Nat} (hb:B[s]? = some (some b)) (hc:r[k]? = some c) (hm:s + k + 1≤M) (hv:∀ v,more[s + k + 1]? = some (some v)→b + c≤v):Rx M rs r B (more.set (s + k + 1) (some (b + c))) fun s' k'=>dn s' k'∨(s'=s∧k'=k):=by
 have hl:=h.len
 have hi:s + k + 1 < more.length:=by omega
 refine ⟨by rw [EF]; exact hl,fun t v ht=>?_,fun s' k' b' c' h1 h2 h3 h4=>?_⟩
 ·by_cases e:t=s + k + 1
  ·subst e
   rw [E8 hi] at ht
   cases ht
   obtain ⟨xs,w,h1,h2⟩:=(T.at_ s _ hb).ex b rfl
   exact ⟨xs ++ [k],w + k,h1.snoc hc,by omega⟩
  ·rw [D2 (Ne.symm e)] at ht
   exact h.snd t v ht
 ·by_cases e:s' + k' + 1=s + k + 1
  ·rw [e,E8 hi]
   refine ⟨b + c,rfl,?_⟩
   rcases h1 with h1 | ⟨rfl,rfl⟩
   ·obtain ⟨v,q1,q2⟩:=h.dom s' k' b' c' h1 h2 h3 h4
    rw [e] at q1
    exact D6 (hv v q1) q2
   ·rw [hb] at h2; rw [hc] at h3; cases h2; cases h3
    exact DY _
  ·rcases h1 with h1 | ⟨rfl,rfl⟩
   ·rw [D2 (Ne.symm e)]
    exact h.dom s' k' b' c' h1 h2 h3 h4
   ·exact absurd rfl e
theorem Rx.done {M:Nat}{rs:List (List Nat)} {r:List Nat}{B more:List (Option Nat)} {dn:Nat→Nat→Prop} (h:Rx M rs r B more dn) (T:Tb M rs B) (hd:∀ s k,s≤M→k < r.length→dn s k):Tb M (rs ++ [r]) more:=by
 refine ⟨h.len,fun t o ht=>⟨fun v hv=>?_,fun ys w v' h1 h2=>?_⟩⟩
 ·subst hv
  obtain ⟨xs,w,a,b⟩:=h.snd t v ht
  exact ⟨xs,w,a,by rw [DZ]; exact b⟩
 ·obtain ⟨xs,x,c,w',v2,rfl,e1,e2,e3,e4⟩:=h1.split
  rw [DZ,ET] at h2
  have htM:t < more.length:=(List.getElem?_eq_some_iff.mp ht).1
  have hl:=h.len
  have hs:w' + rs.length < B.length:=by have:=T.len; omega
  obtain ⟨b,q1,q2⟩:=(T.at_ (w' + rs.length) _ (DN hs)).le xs w' v2 e2 rfl
  have hx:x < r.length:=(List.getElem?_eq_some_iff.mp e1).1
  obtain ⟨v,p1,p2⟩:=h.dom (w' + rs.length) x b c (hd _ _ (by omega) hx) (by rw [DN hs,q1]) e1 (by omega)
  have et:w' + rs.length + x + 1=t:=by omega
  rw [et,ht] at p1
  exact ⟨v,DR p1,by omega⟩
theorem vv (M:Nat):Tb M [] (some 0 :: List.replicate M none):=by
 refine ⟨by simp,fun s o h=>?_⟩
 cases s with
 | zero=>cases h; exact su 0
 | succ s =>
  rw [DB,En] at h
  split at h
  ·cases h; exact su (s + 1)
  ·cases h
theorem sP:∀ {rs:List (List Nat)},(∀ r ∈ rs,r ≠ [])→∃ v,Al rs (List.replicate rs.length 0) 0 v
 | [],_=>⟨0,rfl,rfl⟩
 | r :: rs,h=>by
  obtain ⟨v,hv⟩:=sP (rs:=rs) fun x hx=>h x (DS _ hx)
  cases r with
  | nil=>exact absurd rfl (h [] DW)
  | cons c r=>exact ⟨c + v,0,v,c,rfl,hv,rfl,rfl⟩
theorem Tb.least {M:Nat}{rs:List (List Nat)} {B:List (Option Nat)} (T:Tb M rs B) {u:Nat} (h1:some u ∈ B) (h2:∀ v,some v ∈ B→u≤v):(∃ xs w,Al rs xs w u∧w + rs.length≤M)∧∀ xs w v',Al rs xs w v'→w + rs.length≤M→u≤v':=by
 constructor
 ·obtain ⟨s,hs,e⟩:=List.mem_iff_getElem.mp h1
  obtain ⟨xs,w,a,b⟩:=(T.at_ s _ (DN hs)).ex u e
  exact ⟨xs,w,a,by have:=T.len; omega⟩
 ·intro xs w v' a b
  have hs:w + rs.length < B.length:=by have:=T.len; omega
  obtain ⟨v,p,q⟩:=(T.at_ _ _ (DN hs)).le xs w v' a rfl
  exact D6 (h2 v (by rw [← p]; exact EM hs)) q
theorem Tb.some {M:Nat}{rs:List (List Nat)} {B:List (Option Nat)} (T:Tb M rs B) (hr:∀ r ∈ rs,r ≠ []) (hM:rs.length≤M):∃ v,some v ∈ B:=by
 obtain ⟨v,hv⟩:=sP hr
 have hs:rs.length < B.length:=by have:=T.len; omega
 obtain ⟨u,p,_⟩:=(T.at_ _ _ (DN hs)).le _ 0 v hv (by omega)
 exact ⟨u,by rw [← p]; exact EM hs⟩
theorem Al.zeros:∀ {k:Nat}{Ms:List (List Nat)} {ys:List Nat}{w v:Nat},Al (List.replicate k [0] ++ Ms) ys w v→∃ xs,ys=List.replicate k 0 ++ xs∧Al Ms xs w v
 | 0,_,ys,_,_,h=>⟨ys,rfl,h⟩
 | k + 1,Ms,y :: ys,w,v,h=>by
  rw [Eb,DK] at h
  obtain ⟨w',v',c,h1,h2,h3,h4⟩:=h
  obtain ⟨xs,rfl,e⟩:=h2.zeros
  cases y with
  | zero =>
   cases h1
   refine ⟨xs,rfl,?_⟩
   rw [h3,h4,FQ,FQ]; exact e
  | succ y=>cases h1
 | k + 1,Ms,[],w,v,h=>by rw [Eb,DK] at h; exact False.elim h
theorem Al.put0:∀ {k:Nat}{Ms:List (List Nat)} {xs:List Nat}{w v:Nat},Al Ms xs w v→Al (List.replicate k [0] ++ Ms) (List.replicate k 0 ++ xs) w v
 | 0,_,_,_,_,h=>h
 | k + 1,_,_,w,v,h=>by
  rw [Eb,Eb,DK,DK]
  exact ⟨w,v,0,rfl,h.put0,(FQ w).symm,(FQ v).symm⟩
theorem qq (k:Nat) (Ms:List (List Nat)):fN (List.replicate k [0] ++ Ms)=fN Ms:=by
 induction k with
 | zero=>rfl
 | succ k ih =>
  rw [Eb,DK]
  show (List.map _ _).sum=_
  rw [DI,EH]
  show 0 + fN (List.replicate k [0] ++ Ms)=_
  rw [ih,FQ]
end L2.Cu
namespace L2.Cu.Sh
open PySem PySem.Spec PyProof.Rows
def u6:DE→Option Out :=
 (aH (bin bC (bin fJ (aa 0) (cst (.int 271828182845904523536028747135266249775724709369995957496697))) (bin e9 (cst (.int 10)) (cst (.int 60)))))
def uF:List D→Option D:=bV 1 1 u6
def b__Lcell:DE→Option Out :=
 (aq (ifS (tst (bin ltD (aa 1) (un bj (aa 0))))
 (aH (ay 1 uF (ac (bin ixE (aa 0) (aa 1)) ah)))
 br)
 (aH (cst (.int 0))))
def g__Lcell:List D→Option D:=bV 2 2 b__Lcell
end L2.Cu.Sh
namespace L2.Cu
open PySem PySem.Spec PyProof.Rows
theorem o6 {α:Type} (f:Nat→α) (m:Nat) (h:∀ i j,i < m→j < m→f i=f j→i=j):((List.range m).map f).Nodup:=by
 induction m with
 | zero=>exact List.nodup_nil
 | succ m ih =>
  rw [FX,Ej,GZ]
  refine ⟨ih fun i j hi hj e=>h i j (by omega) (by omega) e,FG _ _,fun a ha b hb=>?_⟩
  obtain ⟨i,hi,rfl⟩:=List.mem_map.mp ha
  obtain ⟨j,hj,rfl⟩:=List.mem_map.mp hb
  rw [Fj] at hi
  rw [GR] at hj
  subst hj
  intro e
  have:=h i j (by omega) (by omega) e
  omega
def vd (l:List Nat):Prop:=∀ c ∈ l,97≤c∧c≤122
structure Wd (M:Nat) (x:Str):Prop where
 pos:1≤x.length
 le:x.length≤M
 low:vd x.cps.toList
theorem Wd.mk' {M:Nat}{l:List Nat} (h1:1≤l.length) (h2:l.length≤M) (h3:vd l):Wd M (L2.Cu.mk l):=⟨by rw [d9]; exact h1,by rw [d9]; exact h2,by rw [eA]; exact h3⟩
theorem lr:Str.ofString "abcdefghijklmnopqrstuvwxyz" = mk (List.range' 97 26):=by decide
theorem k8:Str.ofString "" = mk []:=by decide
theorem u7 {i:Int} (h:0≤i) (h2:i < 26):(List.range' 97 26).getD i.toNat 0=97 + i.toNat:=by
 have hlt:i.toNat < 26:=by omega
 rw [D3,List.getElem?_range' hlt]
 simp
theorem fQ {i:Int} (h:0≤i) (h2:i < 26):ixE (.str (mk (List.range' 97 26))) (.int i)=some (.str (mk [97 + i.toNat])):=by
 rw [A_ (by decide) h (by simpa using h2),u7 h h2]
abbrev Sp:=List Str×List Str
def dt (ss:List Str):D:=.tup (ss.map D.str)
def de (s:Sp):D:=.tup [dt s.1,dt s.2]
def bX (p:List Sp):D:=.tup (p.map de)
def ltS (a b:Str):Prop:=a.cps.toList < b.cps.toList
structure BG (names words:List Str) (s:Sp):Prop where
 ne:s.1 ≠ []
 le:s.1.length≤names.length
 lt:s.1.length < names.length∨names.length≤1
 sub:∀ n ∈ s.1,n ∈ names
 ris:s.1.Pairwise ltS
 wne:s.2 ≠ []
 wle:s.2.length≤5
 wsub:∀ w ∈ s.2,w ∈ words
def rB (a b:Sp):Prop:=∀ n ∈ a.1,n ∉ b.1
def iZ:List Sp→Prop
 | a :: b :: r=>rB a b∧iZ (b :: r)
 | _=>True
theorem iZ.snoc:∀ {p:List Sp}{s:Sp},iZ p→(∀ a,p.getLast? = some a→rB a s)→iZ (p ++ [s])
 | [],_,_,_=>trivial
 | [a],s,_,h=>⟨h a rfl,trivial⟩
 | a :: b :: r,s,h,hl=>⟨h.1,iZ.snoc (p:=b :: r) h.2 fun x hx=>hl x (by rw [List.getLast?_cons_cons]; exact hx)⟩
structure nX (names words:List Str) (p:List Sp):Prop where
 each:∀ s ∈ p,BG names words s
 apart:iZ p
def dy (p:List Sp):List Str:=(p.getLast?.map (·.1)).getD []
theorem kC (p:List Sp) (s:Sp):dy (p ++ [s])=s.1:=by simp [dy]
theorem vC {ss:List Str} (h:ss.Nodup):(dA ss).Pairwise ltS:=by
 have h1:=jV ss
 have h2:(dA ss).Nodup:=(eN ss).nodup_iff.mpr h
 refine List.Pairwise.imp₂ (fun a b hab hne=>?_) h1 h2
 unfold leS at hab
 simp only [Gg,Gh] at hab
 rcases List.le_iff_lt_or_eq.mp (List.not_lt.mp hab) with z | z
 ·exact z
 ·exact absurd (mX z) hne
theorem Wd.lowS {M:Nat}{x:Str} (h:Wd M x):jE x:=fun c hc=>(h.low c hc).2
theorem i8 {α:Type} [DecidableEq α]:∀ {l m:List α},l.Nodup→(∀ x ∈ l,x ∈ m)→l.length≤m.length
 | [],_,_,_=>Ex _
 | x :: l,m,h,hs=>by
  obtain ⟨hx,hn⟩:=List.nodup_cons.mp h
  have hm:=hs x DW
  have:=i8 (l:=l) (m:=m.erase x) hn fun y hy=>(List.mem_erase_of_ne (fun z=>hx (by rw [← z]; exact hy))).mpr (hs y (DS _ hy))
  rw [List.length_erase_of_mem hm] at this
  have:=List.length_pos_of_mem hm
  rw [DG]
  omega
theorem j9 (n:Nat):bQ 0 n=(List.range n).map (fun i:Nat=>D.int (0 + i)):=rfl
end L2.Cu
namespace L2.Cu.Sh
open PySem PySem.Spec PyProof.Rows
def b_begins:DE→Option Out :=
 (aq (bL 1 (bf ah))
 (aq (az 2 (cst (.int 0)))
 (aq (cD (bg bW (var 0)) (cK 2 (aQ (nmG 3) (aQ (nmG 4) cL)))
 (aq (cm 1 (var 2))
 (jh 2 (un bj (aa 4)))))
 (aH (un bx (aa 1))))))
def g_begins:List D→Option D:=bV 1 5 b_begins
def b_words_in:DE→Option Out :=
 (aq (bL 1 (bf ah))
 (aq (cD (bg bW (var 0)) (cK 2 (aQ (nmG 2) (aQ (nmG 3) cL)))
 (lE 1 (aa 3)))
 (aH (un bx (aa 1)))))
def g_words_in:List D→Option D:=bV 1 4 b_words_in
end L2.Cu.Sh
namespace L2.Cu
open PySem PySem.Spec PyProof.Rows
def cu (p:List Sp) (n:Str):List Str:=p.foldl (fun h s=>if n ∈ s.1 then [] else h ++ s.2) []
theorem lM (p:List Sp) (s:Sp) (n:Str):cu (p ++ [s]) n=if n ∈ s.1 then [] else cu p n ++ s.2:=by unfold cu; rw [Gf]; rfl
def ao (p:List Sp):List Str:=p.flatMap (·.2)
def ci (p:List Sp):List Str:=p.flatMap (·.1)
theorem cr (p:List Sp) (s:Sp):ao (p ++ [s])=ao p ++ s.2:=by simp [ao]
theorem gI (p:List Sp) (s:Sp):ci (p ++ [s])=ci p ++ s.1:=by simp [ci]
theorem dP {p pre post:List Sp} (h:p=pre ++ post):(ao pre).length≤(ao p).length:=by
 subst h; simp [ao]
theorem ko {p pre post:List Sp} (h:p=pre ++ post):(ci pre).length≤(ci p).length:=by
 subst h; simp [ci]
theorem gy (n:Str):∀ p:List Sp,(cu p n).length≤(ao p).length:=by
 intro p
 have key:∀ (q:List Sp) (h:List Str),(q.foldl (fun h s=>if n ∈ s.1 then [] else h ++ s.2) h).length≤h.length + (ao q).length:=by
  intro q
  induction q with
  | nil=>intro h; simp [ao]
  | cons s q ih =>
   intro h
   rw [DM]
   refine D6 (ih _) ?_
   have e:(ao (s :: q)).length=s.2.length + (ao q).length:=by simp [ao]
   rw [e]
   split
   ·simp; omega
   ·rw [DZ]; omega
 have:=key p []
 simpa [cu] using this
def g_:List Sp→Int→List Int
 | [],_=>[]
 | s :: r,t=>t :: g_ r (t + s.2.length)
theorem mO:∀ (p:List Sp) (s:Sp) (t:Int),g_ (p ++ [s]) t=g_ p t ++ [t + (ao p).length]
 | [],s,t=>by simp [g_,ao]
 | a :: p,s,t=>by
  rw [DK,g_,mO p s,g_,DK]
  have e:(ao (a :: p)).length=a.2.length + (ao p).length:=by simp [ao]
  rw [e]
  congr 3
  omega
theorem lp:∀ (p:List Sp) (t:Int),(g_ p t).length=p.length
 | [],_=>rfl
 | s :: p,t=>by rw [g_,DG,lp p,DG]
theorem iD {α β:Type} (f:α→β) (l:List α) (x:α):l.map f ++ [f x]=(l ++ [x]).map f:=by simp
namespace Sh
theorem n0 (p:List Sp) (hw:(ao p).length≤1000000):g_words_in [bX p]=some (dt (ao p)):=by
 refine bv ?_
 simp only [g_words_in,b_words_in,ad,aZ,ax,aj,bL,bA,var,ah,bf,bg,bW,DA,DC,DI,DJ,DK,DL,DG,DH,DD,DF,on,List.replicate,reduceIte,Nat.reduceAdd,Nat.reduceSub,Nat.reduceLeDiff,aR,bX]
 refine bz de p (fun pre E=>∃ s2 s3,E=[Sl.val (D.tup (p.map de)),Sl.own (D.lst ((ao pre).map D.str)),s2,s3]) rfl ⟨_,_,rfl⟩ ?_ ?_
 ·rintro pre s post E hs ⟨s4,s5,rfl⟩
  have h2:=dP (p:=p) (pre:=pre ++ [s]) (post:=post) (by rw [hs]; simp)
  rw [cr,DZ] at h2
  simp only [ad,aa,nmG,cK,aQ,cL,DA,DG,DH,DD,DF,on,DB,reduceIte,Nat.reduceAdd,lE,gD,de,dt]
  refine eM (lS (by simp; omega)) ?_
  simp only [ad]
  exact ⟨_,_,by rw [cr,Ej]⟩
 ·rintro E ⟨s4,s5,rfl⟩
  simp only [ad,aj,aO,aH,un,aa,DA,DC,on,DB,bP,dt]
theorem u5 (p:List Sp) (hp:p.length≤1000000):g_begins [bX p]=some (.tup ((g_ p 0).map D.int)):=by
 refine bv ?_
 simp only [g_begins,b_begins,ad,aZ,ax,aj,az,bL,bA,cst,var,ah,bf,bg,bW,DA,DC,DI,DJ,DK,DL,DG,DH,DD,DF,on,List.replicate,reduceIte,Nat.reduceAdd,Nat.reduceSub,Nat.reduceLeDiff,aR,bX]
 refine bz de p (fun pre E=>∃ t s3 s4,E=[Sl.val (D.tup (p.map de)),Sl.own (D.lst ((g_ pre 0).map D.int)),Sl.val (D.int t),s3,s4]∧t=(ao pre).length) rfl ⟨_,_,_,rfl,rfl⟩ ?_ ?_
 ·rintro pre s post E hs ⟨t,s3,s4,rfl,ht⟩
  have hl:pre.length < p.length:=by rw [hs]; simp
  simp only [ad,ax,var,nmG,cK,aQ,cL,DA,DG,DH,DD,DF,on,DB,reduceIte,Nat.reduceAdd,cm,de,dt]
  refine eM (lR (by simp [lp]; omega)) ?_
  simp only [ad,aj,un,aa,DA,DD,DF,on,DB,dF,jh]
  refine ⟨t + ((s.2.map D.str).length:Nat),Sl.val (D.tup (s.1.map D.str)),Sl.val (D.tup (s.2.map D.str)),?_,?_⟩
  ·rw [iD,mO,← ht,EN]
  ·rw [ht,cr]; simp
 ·rintro E ⟨t,s3,s4,rfl,ht⟩
  simp only [ad,aj,aO,aH,un,aa,DA,DC,on,DB,bP]
end Sh
def ic (m:List (Str×Int)) (n:Str) (t:Int):List (Str×Int):=if (m.any fun q=>decide (q.1=n))=true then m.map (fun q=>if q.1=n then (q.1,t) else q) else m ++ [(n,t)]
def g9 (m:List (Str×Int)):List (Key×D):=m.map fun q=>(Sum.inr q.1,D.int q.2)
theorem sf (a b:Str):decide ((Sum.inr a:Key)=Sum.inr b)=decide (a=b):=by
 by_cases h:a=b
 ·simp [h]
 ·simp [h]
theorem oP (m:List (Str×Int)) (n:Str) (t:Int):tO (g9 m) (.inr n) (.int t)=g9 (ic m n t):=by
 have ha:((g9 m).any fun kv=>decide (kv.1=Sum.inr n))=m.any fun q=>decide (q.1=n):=by
  unfold g9
  rw [List.any_map]
  congr 1
  funext q
  exact sf q.1 n
 unfold tO ic
 rw [ha]
 split
 ·unfold g9
  rw [D7,D7]
  refine FC fun q _=>?_
  by_cases h:q.1=n
  ·simp [h]
  ·simp [h]
 ·unfold g9; simp
def lD (m:List (Str×Int)) (n:Str):Option Int:=(m.find? fun q=>decide (q.1=n)).map (·.2)
theorem vn (m:List (Str×Int)) (n:Str):fL (g9 m) (.inr n)=(lD m n).map D.int:=by
 unfold fL lD g9
 induction m with
 | nil=>rfl
 | cons q r ih =>
  rw [DI,EU,EU,sf]
  cases decide (q.1=n)
  ·exact ih
  ·rfl
theorem wV (m:List (Str×Int)) (n k:Str) (t:Int):lD (ic m n t) k=if k=n then some t else lD m k:=by
 unfold ic
 by_cases ha:(m.any fun q=>decide (q.1=n))=true
 ·rw [if_pos ha]
  unfold lD
  induction m with
  | nil=>simp at ha
  | cons q r ih =>
   rw [DI,EU,EU]
   by_cases hq:q.1=n
   ·rw [if_pos hq]
    by_cases hk:k=n
    ·subst hk; simp [hq]
    ·have h1:¬ q.1=k:=fun z=>hk (by rw [← z,hq])
     simp only [D5 h1,if_neg hk]
     by_cases hr:(r.any fun q=>decide (q.1=n))=true
     ·have:=ih hr
      rw [if_neg hk] at this
      exact this
     ·have e:r.map (fun q=>if q.1=n then (q.1,t) else q)=r:=by
       conv=>rhs; rw [← List.map_id r]
       refine FC fun x hx=>?_
       have:¬ x.1=n:=fun z=>hr (List.any_eq_true.mpr ⟨x,hx,Ek z⟩)
       simp [this]
      rw [e]
   ·rw [if_neg hq]
    by_cases hqk:q.1=k
    ·have hk:¬ k=n:=fun z=>hq (by rw [hqk,z])
     simp [hqk,if_neg hk]
    ·simp only [D5 hqk]
     have hr:(r.any fun q=>decide (q.1=n))=true:=by
      rw [Fe,D5 hq] at ha
      simpa using ha
     exact ih hr
 ·rw [if_neg ha]
  unfold lD
  rw [List.find?_append]
  by_cases hk:k=n
  ·subst hk
   have:m.find? (fun q=>decide (q.1=k))=none:=List.find?_eq_none.mpr fun x hx z=>ha (List.any_eq_true.mpr ⟨x,hx,z⟩)
   rw [this]
   simp
  ·have h1:¬ n=k:=fun z=>hk z.symm
   rw [if_neg hk]
   cases m.find? (fun q=>decide (q.1=k)) with
   | some x=>rfl
   | none=>simp [h1]
theorem wH (m:List (Str×Int)) (n:Str) (t:Int):(ic m n t).map (·.1)=if n ∈ m.map (·.1) then m.map (·.1) else m.map (·.1) ++ [n]:=by
 have hm:(m.any fun q=>decide (q.1=n))=true ↔ n ∈ m.map (·.1):=by
  rw [List.any_eq_true,List.mem_map]
  exact ⟨fun zz146_0=>by obtain ⟨x,h1,h2⟩:=zz146_0; exact ⟨x,h1,EO h2⟩,fun zz147_0=>by obtain ⟨x,h1,h2⟩:=zz147_0; exact ⟨x,h1,Ek h2⟩⟩
 unfold ic
 by_cases h:(m.any fun q=>decide (q.1=n))=true
 ·rw [if_pos h,if_pos (hm.mp h),D7]
  refine FC fun q _=>?_
  show (if q.1=n then (q.1,t) else q).1=q.1
  split <;> rfl
 ·rw [if_neg h,if_neg fun z=>h (hm.mpr z)]; simp
theorem dE {n x:Nat}{pre post:List Nat} (h:List.range n=pre ++ x :: post):x=pre.length∧x < n:=by
 have h1:(List.range n)[pre.length]? = some x:=by rw [h]; simp
 obtain ⟨h2,h3⟩:=List.getElem?_eq_some_iff.mp h1
 rw [F9] at h3
 rw [D1] at h2
 exact ⟨h3.symm,by omega⟩
theorem zr (xs ys:List Str):ded (xs ++ ys)=ys.foldl (fun acc x=>if x ∈ acc then acc else acc ++ [x]) (ded xs):=by unfold ded; rw [Gf]
structure gk (p:List Sp) (m:List (Str×Int)):Prop where
 keys:m.map (·.1)=ded (ci p)
 win:∀ n,∃ k:Nat,(lD m n).getD 0=(k:Int)∧k≤(ao p).length∧cu p n=(ao p).drop k
theorem gk.next {p:List Sp}{m:List (Str×Int)} (h:gk p m) (s:Sp):gk (p ++ [s]) (s.1.foldl (fun m n=>ic m n ((ao (p ++ [s])).length:Int)) m):=by
 have hk:∀ (ns:List Str) (m:List (Str×Int)) (t:Int),(ns.foldl (fun m n=>ic m n t) m).map (·.1)=ns.foldl (fun acc x=>if x ∈ acc then acc else acc ++ [x]) (m.map (·.1)):=by
  intro ns
  induction ns with
  | nil=>intro m t; rfl
  | cons n ns ih=>intro m t; rw [DM,ih,wH,DM]
 have hg:∀ (ns:List Str) (m:List (Str×Int)) (t:Int) (k:Str),lD (ns.foldl (fun m n=>ic m n t) m) k=if k ∈ ns then some t else lD m k:=by
  intro ns
  induction ns with
  | nil=>intro m t k; simp
  | cons n ns ih =>
   intro m t k
   rw [DM,ih,wV]
   by_cases h1:k ∈ ns
   ·simp [h1]
   ·by_cases h2:k=n
    ·simp [h2]
    ·simp [h1,h2]
 refine ⟨?_,fun n=>?_⟩
 ·rw [hk,h.keys,gI,zr]
 ·rw [hg,lM]
  by_cases hn:n ∈ s.1
  ·rw [if_pos hn,if_pos hn]
   exact ⟨_,rfl,DY _,by rw [FT]⟩
  ·rw [if_neg hn,if_neg hn]
   obtain ⟨k,h1,h2,h3⟩:=h.win n
   refine ⟨k,h1,by rw [cr,DZ]; omega,?_⟩
   rw [h3,cr,List.drop_append_of_le_length h2]
theorem tw {α:Type}{l:List α}{k:Nat} (h:k < l.length):l.take (k + 1)=l.take k ++ [l[k]]:=by
 rw [List.take_add_one,DN h]; rfl
end L2.Cu
namespace L2.Cu.S2
open PySem PySem.Spec PyProof.Rows
def b_common_end:DE→Option Out :=
 (aq (az 2 (cst (.int 0)))
 (aq (mU (gu (tst (bin ltD (aa 2) (aa 1))) (tst (bin eqO (bin ixE (aa 0) (bin cX (bin cX (aa 1) (cst (.int 1))) (aa 2))) (bin ixE (aa 0) (bin cX (bin cX (un bj (aa 0)) (cst (.int 1))) (aa 2))))))
 (jh 2 (cst (.int 1))))
 (aH (var 2))))
def g_common_end:List D→Option D:=bV 2 3 b_common_end
def b_common_ends:DE→Option Out :=
 (aH (aE [1] (c4 (ac (un bj (aa 0)) ah)) (nmG 1) noT (ay 2 g_common_end (ac (var 0) (ac (var 1) ah)))))
def g_common_ends:List D→Option D:=bV 1 2 b_common_ends
end L2.Cu.S2
namespace L2.Cu
open PySem PySem.Spec PyProof.Rows
theorem ln {i:Int} (h:i.natAbs < 1267650600228229401496703205376):Builtin.Int.intBits i≤2 ^ 20:=by
 unfold Builtin.Int.intBits
 split
 ·exact Ex _
 ·rename_i h0
  have h1:i.natAbs ≠ 0:=by
   intro z
   apply h0
   rw [Int.natAbs_eq_zero.mp z]; rfl
  have h2:i.natAbs.log2 < 100:=(Nat.log2_lt h1).mpr h
  show _≤1048576
  omega
theorem eU {i j:Int} (h:i.natAbs < 1267650600228229401496703205376) (h2:j.natAbs < 1267650600228229401496703205376):fJ (.int i) (.int j)=some (.int (i * j)):=kq (ln h) (ln h2)
theorem gO {α β:Type} (enc:α→D) (en:β→D) (Pw:β→Prop) {i:Nat}{ef:DE→Option D}{E:DE}:∀ (ys:List α),(∀ x ∈ ys,∃ w,Pw w∧ef (E.set i (.val (enc x)))=some (en w))→∃ ws:List β,bw (nmG i) noT ef E (ys.map enc)=some (ws.map en)∧ws.length=ys.length∧∀ w ∈ ws,Pw w
 | [],_=>⟨[],rfl,rfl,fun _ h=>by cases h⟩
 | x :: ys,h=>by
  obtain ⟨w,hw,e⟩:=h x DW
  obtain ⟨ws,h1,h2,h3⟩:=gO enc en Pw (i:=i) (ef:=ef) (E:=E) ys fun y hy=>h y (DS _ hy)
  refine ⟨w :: ws,?_,by simp [h2],fun z hz=>?_⟩
  ·show ((some true:Option Bool).bind fun b=>if b=true then (ef (E.set i (.val (enc x)))).bind (fun y=>(bw (nmG i) noT ef E (ys.map enc)).map fun zs=>y :: zs) else bw (nmG i) noT ef E (ys.map enc))=_
   rw [DA,if_pos rfl,e,h1]; rfl
  ·rcases List.mem_cons.mp hz with q | q
   ·rw [q]; exact hw
   ·exact h3 z q
theorem tj {c:DE→Option Bool}{fb:DE→Option Out}{P:Out→Prop} (I:Nat→DE→Prop)
  (step:∀ m E,I m E→wp (c E) fun b=>(b=true→wp (fb E) fun r=>match r with | .nx E'=>∃ m',m' < m∧I m' E' | .ct E'=>∃ m',m' < m∧I m' E' | .bk E'=>P (.nx E') | .rt d=>P (.rt d))∧(b=false→P (.nx E))) :
  ∀ (n m:Nat) (E:DE),m < n→I m E→wp (fY c fb n E) P:=by
 intro n
 induction n with
 | zero=>intro m E h; omega
 | succ n ih =>
  intro m E h i
  rw [jl,aN]
  refine eh (step m E i) fun b hb=>?_
  cases b with
  | false=>rw [if_neg D4]; exact hb.2 rfl
  | true =>
   rw [if_pos rfl,aN]
   refine eh (hb.1 rfl) fun r hr=>?_
   cases r with
   | nx E'=>obtain ⟨m',h1,h2⟩:=hr; exact ih m' E' (by omega) h2
   | ct E'=>obtain ⟨m',h1,h2⟩:=hr; exact ih m' E' (by omega) h2
   | bk E'=>exact hr
   | rt d=>exact hr
theorem tf {c:DE→Option Bool}{fb:DE→Option Out}{P:Out→Prop}{E:DE} (I:Nat→DE→Prop) (m:Nat) (hm:m < 100000) (h0:I m E)
  (step:∀ m E,I m E→wp (c E) fun b=>(b=true→wp (fb E) fun r=>match r with | .nx E'=>∃ m',m' < m∧I m' E' | .ct E'=>∃ m',m' < m∧I m' E' | .bk E'=>P (.nx E') | .rt d=>P (.rt d))∧(b=false→P (.nx E))):wp (mU c fb E) P :=
 tj I step 100000 m E hm h0
def stW (p:List Sp) (n:Str):Int:=((ao p).length:Int) - ((cu p n).length:Int)
theorem gk.get {p:List Sp}{m:List (Str×Int)} (h:gk p m) (n:Str):((fL (g9 m) (Sum.inr n)).getD (D.int 0))=D.int (stW p n)∧∀ (hz:True),cY ((ao p).map D.str) (some (stW p n)) none=(cu p n).map D.str:=by
 obtain ⟨k,hk1,hk2,hk3⟩:=h.win n
 have e:stW p n=(k:Int):=by unfold stW; rw [hk3,Fi]; omega
 refine ⟨?_,fun _=>?_⟩
 ·rw [e,vn]
  cases hgp:lD m n with
  | none=>rw [hgp] at hk1; simp at hk1; simp [hk1]
  | some v=>rw [hgp] at hk1; simp at hk1; simp [hk1]
 ·rw [e,iU,← FV,← hk3]
theorem vO (m:List (Str×Int)) (n:Str) (t:Int):(ic m n t).length≤m.length + 1:=by
 unfold ic; split <;> simp
theorem kM (t:Int):∀ (ns:List Str) (m:List (Str×Int)),(ns.foldl (fun m n=>ic m n t) m).length≤m.length + ns.length
 | [],m=>by simp
 | a :: r,m=>by
  refine D6 (kM t r _) ?_
  have:=vO m a t
  show (ic m a t).length + r.length≤_
  rw [DG]; omega
theorem gk.len {p:List Sp}{m:List (Str×Int)} (h:gk p m):m.length≤(ci p).length:=by
 have h3:m.length=(ded (ci p)).length:=by rw [← h.keys,DP]
 rw [h3]
 exact i8 (uQ _) fun x hx=>(zq _ _).mp hx
def cO (ws:List Str) (m k:Nat):Prop:=k≤m∧∀ j,j < k→ws[m - 1 - j]? = ws[ws.length - 1 - j]?
theorem cO.zero (ws:List Str) (m:Nat):cO ws m 0:=⟨Ex _,fun j h=>by omega⟩
theorem cO.mono {ws:List Str}{m k l:Nat} (h:cO ws m k) (hl:l≤k):cO ws m l:=⟨D6 hl h.1,fun j hj=>h.2 j (by omega)⟩
theorem cO.succ {ws:List Str}{m k:Nat} (h:cO ws m k) (hk:k < m) (e:ws[m - 1 - k]? = ws[ws.length - 1 - k]?):cO ws m (k + 1):=⟨hk,fun j hj=>by
 by_cases hjk:j=k
 ·subst hjk; exact e
 ·exact h.2 j (by omega)⟩
open Classical in
def dz (ws:List Str) (m:Nat):Nat:=if h:∃ c,∀ k,k≤c ↔ cO ws m k then Classical.choose h else 0
theorem zu {ws:List Str}{m c:Nat} (h1:cO ws m c) (h2:¬ cO ws m (c + 1)):dz ws m=c∧∀ k,k≤dz ws m ↔ cO ws m k:=by
 have hc:∀ k,k≤c ↔ cO ws m k:=fun k=>⟨fun h=>h1.mono h,fun h=>by
  rcases Nat.lt_or_ge c k with z | z
  ·exact absurd (h.mono z) h2
  ·exact z⟩
 have hex:∃ c,∀ k,k≤c ↔ cO ws m k:=⟨c,hc⟩
 have e:dz ws m=Classical.choose hex:=by unfold dz; rw [dif_pos hex]
 have sp:=GC hex
 refine ⟨?_,fun k=>by rw [e]; exact sp k⟩
 rw [e]
 have a:=(hc (Classical.choose hex)).mpr ((sp _).mp (DY _))
 have b:=(sp c).mpr ((hc c).mp (DY _))
 omega
theorem p0 {ws:List Str}{e m:Nat} (h:m≤e) (he:e≤ws.length):((ws.take e).drop (e - m)=ws.drop (ws.length - m)) ↔ cO ws e m:=by
 constructor
 ·intro q
  refine ⟨h,fun j hj=>?_⟩
  have:=ED (fun l:List Str=>l[m - 1 - j]?) q
  simp only [F_,GU] at this
  rw [if_pos (by omega)] at this
  rw [show e - 1 - j=e - m + (m - 1 - j) by omega,show ws.length - 1 - j=ws.length - m + (m - 1 - j) by omega]
  exact this
 ·intro q
  refine EQ fun i=>?_
  rw [F_,F_,GU]
  by_cases hi:i < m
  ·rw [if_pos (by omega)]
   have:=q.2 (m - 1 - i) (by omega)
   rw [show e - 1 - (m - 1 - i)=e - m + i by omega,show ws.length - 1 - (m - 1 - i)=ws.length - m + i by omega] at this
   exact this
  ·rw [if_neg (by omega),Eh (by omega)]
namespace S2
theorem common_end_eq (ws:List Str) (m:Nat) (mI:Int) (hmI:mI=m) (hm:m≤ws.length) (hl:ws.length≤90000):g_common_end [dt ws,.int mI]=some (.int (dz ws m))∧∀ k,k≤dz ws m ↔ cO ws m k:=by
 have key:∃ c,cO ws m c∧¬ cO ws m (c + 1)∧g_common_end [dt ws,.int mI]=some (.int (c:Nat)):=by
  suffices h:wp (g_common_end [dt ws,.int mI]) (fun d=>∃ c:Nat,cO ws m c∧¬ cO ws m (c + 1)∧d=.int c) by
   obtain ⟨d,h1,c,h2,h3,rfl⟩:=cp.mp h
   exact ⟨c,h2,h3,h1⟩
  simp only [g_common_end,b_common_end,ad,aZ,ax,aj,az,cst,DC,DI,DJ,DK,DL,DG,DH,DD,DF,List.replicate,Nat.reduceAdd,Nat.reduceSub,dt]
  refine tf (fun r E=>∃ c:Nat,E=[Sl.val (D.tup (ws.map D.str)),Sl.val (D.int mI),Sl.val (D.int c)]∧r=m - c∧cO ws m c) m (by omega) ⟨0,rfl,rfl,cO.zero ws m⟩ ?_
  rintro r E ⟨c,rfl,rfl,ha⟩
  have hcm:=ha.1
  by_cases hlt:c < m
  ·have i1:mI - 1 - (c:Int)=((m - 1 - c:Nat):Int):=by omega
   have i2:((ws.map D.str).length:Int) - 1 - (c:Int)=((ws.length - 1 - c:Nat):Int):=by rw [DP]; omega
   have l1:m - 1 - c < ws.length:=by omega
   have l2:ws.length - 1 - c < ws.length:=by omega
   have g1:(ws.map D.str)[m - 1 - c]? = some (.str ws[m - 1 - c]):=by rw [DX,DN l1]; rfl
   have g2:(ws.map D.str)[ws.length - 1 - c]? = some (.str ws[ws.length - 1 - c]):=by rw [DX,DN l2]; rfl
   have d1:decide ((c:Int) < mI)=true:=Ek (by omega)
   simp only [ad,cc,aj,fZ,aO,aH,bin,un,cst,var,aa,tst,asB,gu,ce,c_,DA,DC,DD,DF,on,DB,reduceIte,D.int.injEq,nK,ny,dF,jh,d1,i1,i2,dL,g1,g2]
   refine ⟨fun hb=>⟨m - (c + 1),by omega,c + 1,by simp,rfl,ha.succ hlt ?_⟩,fun hb=>⟨c,ha,fun z=>?_,rfl⟩⟩
   ·rw [DN l1,DN l2,EO hb]
   ·have:=z.2 c (Nat.lt_succ_self c)
    rw [DN l1,DN l2] at this
    exact GM hb (DR this)
  ·have d1:decide ((c:Int) < mI)=false:=D5 (by omega)
   simp only [ad,cc,aj,fZ,aO,aH,bin,un,cst,var,aa,tst,asB,gu,ce,c_,DA,DC,DD,DF,on,DB,reduceIte,Ed,D.int.injEq,ny,dF,jh,d1]
   exact ⟨fun z=>z.elim,fun _=>⟨c,ha,fun z=>by have:=z.1; omega,rfl⟩⟩
 obtain ⟨c,h1,h2,h3⟩:=key
 obtain ⟨e1,e2⟩:=zu h1 h2
 exact ⟨by rw [e1]; exact h3,e2⟩
theorem lc (ws:List Str) (hl:ws.length≤90000):g_common_ends [dt ws]=some (.lst ((List.range ws.length).map fun m=>D.int (dz ws m))):=by
 have hr:df [D.int ((ws.map D.str).length:Int)]=some (bQ 0 ws.length):=by rw [DP,bT (by omega) (by omega),Ey]
 have hrl:(bQ 0 ws.length).length≤16777216:=by simp [bQ]; omega
 refine bv ?_
 simp only [g_common_ends,b_common_ends,cc,aZ,aO,aH,un,aa,ac,ah,bR,aX,aE,DA,DC,DI,DJ,DK,DL,DG,DH,DD,DF,on,List.replicate,DM,D8,reduceIte,Nat.reduceAdd,Nat.reduceSub,aR,dF,dt,hr,aR hrl]
 rw [j9,bM (fun i:Nat=>D.int (0 + i)) (fun m=>D.int (dz ws m)) (List.range ws.length) fun k hk=>?_]
 ·simp only [ad]
 ·have hk2:=List.mem_range.mp hk
  have:=(common_end_eq ws k (0 + (k:Int)) (by omega) (by omega) hl).1
  refine bv ?_
  simp only [dt] at this
  simp only [ad,var,ay,ac,ah,DA,DC,DG,DH,DD,DF,on,DB,reduceIte,Nat.reduceAdd,this]
end S2
theorem pV:∀ (p:List Sp) (t:Int) (k:Nat),k < p.length→(g_ p t)[k]? = some (t + (ao (p.take k)).length)
 | [],_,k,h=>by simp at h
 | s :: p,t,0,_=>by simp [g_,ao]
 | s :: p,t,k + 1,h=>by
  rw [g_,DB,pV p (t + s.2.length) k (by simpa using h)]
  have e:(ao ((s :: p).take (k + 1))).length=s.2.length + (ao (p.take k)).length:=by simp [ao]
  rw [e]
  congr 1
  omega
theorem iZ.at_:∀ {p:List Sp} (h:iZ p) (k:Nat) (a b:Sp),p[k]? = some a→p[k + 1]? = some b→rB a b
 | [],_,_,_,_,h1,_=>by simp at h1
 | [x],_,k,_,_,_,h2=>by simp at h2
 | x :: y :: r,h,0,a,b,h1,h2=>by simp at h1 h2; subst h1; subst h2; exact h.1
 | x :: y :: r,h,k + 1,a,b,h1,h2=>by
  rw [DB] at h1 h2
  exact iZ.at_ (p:=y :: r) h.2 k a b h1 h2
theorem nX.heard {names words:List Str}{p:List Sp} (h:nX names words p) {k:Nat} (hk:k + 1 < p.length) {n:Str} (hn:n ∈ (p[k + 1]).1):1≤(cu (p.take (k + 1)) n).length:=by
 have hk':k < p.length:=by omega
 have hap:=h.apart.at_ k p[k] p[k + 1] (DN hk') (DN hk)
 have hnn:n ∉ (p[k]).1:=fun z=>hap n z hn
 rw [tw hk',lM,if_neg hnn,DZ]
 have hw:=(h.each p[k] (EM hk')).wne
 have:0 < (p[k]).2.length:=List.length_pos_iff.mpr hw
 omega
theorem vj {q:List Sp} (h:∀ s ∈ q,s.2.length≤5):(ao q).length≤5 * q.length:=by
 induction q with
 | nil=>simp [ao]
 | cons s q ih =>
  have h1:=ih fun x hx=>h x (DS _ hx)
  have h2:=h s DW
  have e:(ao (s :: q)).length=s.2.length + (ao q).length:=by simp [ao]
  rw [e,DG]; omega
theorem wm {q:List Sp} (h:∀ s ∈ q,s.1.length≤8):(ci q).length≤8 * q.length:=by
 induction q with
 | nil=>simp [ci]
 | cons s q ih =>
  have h1:=ih fun x hx=>h x (DS _ hx)
  have h2:=h s DW
  have e:(ci (s :: q)).length=s.1.length + (ci q).length:=by simp [ci]
  rw [e,DG]; omega
end L2.Cu
namespace L2.Cu.S2
open PySem PySem.Spec PyProof.Rows
def b_words_in:DE→Option Out :=
 (aq (bL 1 (bf ah))
 (aq (cD (bg bW (var 0)) (cK 2 (aQ (nmG 2) (aQ (nmG 3) cL)))
 (lE 1 (aa 3)))
 (aH (un bx (aa 1)))))
def g_words_in:List D→Option D:=bV 1 4 b_words_in
def b_begins:DE→Option Out :=
 (aq (bL 1 (bf ah))
 (aq (az 2 (cst (.int 0)))
 (aq (cD (bg bW (var 0)) (cK 2 (aQ (nmG 3) (aQ (nmG 4) cL)))
 (aq (cm 1 (var 2))
 (jh 2 (un bj (aa 4)))))
 (aH (un bx (aa 1))))))
def g_begins:List D→Option D:=bV 1 5 b_begins
def b_whole_counts:DE→Option Out :=
 (aq (bL 1 uP)
 (aq (az 2 (cst (.int 0)))
 (aq (bL 3 (bf ah))
 (aq (cD (bg bW (var 0)) (cK 2 (aQ (nmG 4) (aQ (nmG 5) cL)))
 (aq (cm 3 (un bx (aE [6] (bg aL (var 4)) (nmG 6) noT (bin cX (aa 2) (kL (aa 1) (var 6) (cst (.int 0)))))))
 (aq (jh 2 (un bj (aa 5)))
 (cD (bg aL (var 4)) (nmG 6)
 (qf 1 (var 6) (var 2))))))
 (aH (un bx (aa 3)))))))
def g_whole_counts:List D→Option D:=bV 1 7 b_whole_counts
def b_all_windows:DE→Option Out :=
 (aq (az 1 (ay 1 g_words_in (ac (var 0) ah)))
 (aq (bL 2 (bf ah))
 (aq (cD (mS (ac (ay 1 g_begins (ac (var 0) ah)) (ac (ay 1 g_whole_counts (ac (var 0) ah)) ah))) (cK 2 (aQ (nmG 3) (aQ (nmG 4) cL)))
 (cm 2 (un bx (aE [5] (bg aL (var 4)) (nmG 5) noT (aY (aa 1) (be (bin cX (aa 3) (aa 5))) (be (var 3)))))))
 (aH (un bx (aa 2))))))
def g_all_windows:List D→Option D:=bV 1 6 b_all_windows
end L2.Cu.S2
namespace L2.Cu
open PySem PySem.Spec PyProof.Rows
theorem n4 (p:List Sp) (n:Str):cu p n <:+ ao p:=by
 have key:∀ (q:List Sp) (a w:List Str),a <:+ w→q.foldl (fun h s=>if n ∈ s.1 then [] else h ++ s.2) a <:+ w ++ ao q:=by
  intro q
  induction q with
  | nil=>intro a w h; simpa [ao] using h
  | cons s q ih =>
   intro a w h
   rw [DM,show ao (s :: q)=s.2 ++ ao q by simp [ao],← E6]
   refine ih _ _ ?_
   split
   ·exact List.nil_suffix
   ·obtain ⟨t,ht⟩:=h
    exact ⟨t,by rw [← ht,E6]⟩
 have:=key p [] [] (List.suffix_refl _)
 rw [DL] at this
 exact this
theorem lN (p:List Sp) (n:Str):(ao p).drop ((ao p).length - (cu p n).length)=cu p n:=by
 obtain ⟨t,ht⟩:=n4 p n
 rw [← ht,DZ,Nat.add_sub_cancel,List.drop_left]
theorem ir (p:List Sp) (k:Nat):(ao p).take (ao (p.take k)).length=ao (p.take k):=by
 have e:ao p=ao (p.take k) ++ ao (p.drop k):=by
  unfold ao
  rw [← GK,ES]
 conv=>lhs; rw [e]
 rw [List.take_left]
theorem rg (p:List Sp):g_ p 0=(List.range p.length).map fun k=>((ao (p.take k)).length:Int):=by
 refine EQ fun k=>?_
 rcases Nat.lt_or_ge k p.length with h | h
 ·rw [pV p 0 k h,DX,EJ h,EN]; rfl
 ·rw [Eh (by rw [lp]; exact h),Eh (by simpa using h)]
theorem iq {α β γ δ:Type} (f:β→γ→δ) (a:α→β) (b:α→γ):∀ l:List α,List.zipWith f (l.map a) (l.map b)=l.map fun x=>f (a x) (b x)
 | []=>rfl
 | x :: l=>by rw [DI,DI,List.zipWith_cons_cons,iq f a b l,DI]
def bG (p:List Sp) (k:Nat):List Str:=(p.getD k ([],[])).1
theorem rH {p:List Sp}{k:Nat} (h:k < p.length):bG p k=(p[k]).1:=by
 unfold bG
 rw [D3,DN h]; rfl
def wcD (p:List Sp) (k:Nat):D:=.tup ((bG p k).map fun n=>D.int ((cu (p.take k) n).length:Int))
def awD (p:List Sp) (k:Nat):D:=.tup ((bG p k).map fun n=>dt (cu (p.take k) n))
def ca (ws:List Str):List Int:=(List.range ws.length).map fun m=>(dz ws m:Int)
def wC (ws:List Str):Int:=if ws=[] then 0 else 1 + eV (ca ws)
theorem k7 {ws:List Str} (h:ws ≠ []):ca ws ≠ []:=fun z=>h (by
 have:=ED List.length z
 simp [ca] at this
 exact this)
theorem md {ws:List Str} (h:ws ≠ []) (hl:ws.length≤90000):∃ L:Nat,wC ws=(L + 1:Nat)∧eV (ca ws)=(L:Int)∧L + 1≤ws.length∧(∀ e,e < ws.length→¬ cO ws e (L + 1))∧∃ i,(ca ws).idxOf (eV (ca ws))=i∧i < ws.length∧cO ws i L:=by
 have hne:=k7 h
 have hmem:=pf hne
 obtain ⟨m,hm,hme⟩:=List.mem_map.mp hmem
 rw [Fj] at hm
 have hag:∀ e k,e≤ws.length→(k≤dz ws e ↔ cO ws e k):=fun e k he=>(S2.common_end_eq ws e e rfl he hl).2 k
 have hle:dz ws m≤m:=((hag m (dz ws m) (by omega)).mp (DY _)).1
 refine ⟨dz ws m,?_,hme.symm,by omega,fun e he z=>?_,_,rfl,?_,?_⟩
 ·unfold wC
  rw [if_neg h,← hme]; omega
 ·have h1:=(hag e _ (by omega)).mpr z
  have h2:(dz ws e:Int)≤eV (ca ws):=rZ (List.mem_map.mpr ⟨e,List.mem_range.mpr he,rfl⟩)
  rw [← hme] at h2
  omega
 ·have:=FY hmem
  simpa [ca] using this
 ·have hi:=FY hmem
  have hi':(ca ws).idxOf (eV (ca ws)) < ws.length:=by simpa [ca] using hi
  have e1:(ca ws)[(ca ws).idxOf (eV (ca ws))]=eV (ca ws):=GT hi
  have gen:∀ (i:Nat) (h:i < (ca ws).length),(ca ws)[i]=(dz ws i:Int):=fun i h=>by simp [ca]
  have e2:=gen _ hi
  refine (hag _ _ (by omega)).mp ?_
  have e3:(dz ws ((ca ws).idxOf (eV (ca ws))):Int)=(dz ws m:Int):=by rw [← e2,e1,hme]
  omega
namespace S2
theorem zo:g_words_in=Sh.g_words_in:=rfl
theorem xn:g_begins=Sh.g_begins:=rfl
theorem whole_counts_eq (p:List Sp) (hp:p.length≤1000) (hN:(ci p).length≤10000) (hW:(ao p).length≤10000):g_whole_counts [bX p]=some (.tup ((List.range p.length).map (wcD p))):=by
 refine bv ?_
 simp only [g_whole_counts,b_whole_counts,ad,aZ,ax,aj,az,bL,bA,cst,var,ah,bf,bg,uP,bW,DA,DC,DI,DJ,DK,DL,DG,DH,DD,DF,on,List.replicate,reduceIte,Nat.reduceAdd,Nat.reduceSub,Nat.reduceLeDiff,aR,bX]
 refine bz de p (fun pre E=>∃ (m:List (Str×Int)) (s4 s5 s6:Sl),E=[Sl.val (D.tup (p.map de)),Sl.own (D.dic (g9 m)),Sl.val (D.int ((ao pre).length:Int)),Sl.own (D.lst ((List.range pre.length).map (wcD p))),s4,s5,s6]∧gk pre m) rfl ⟨[],_,_,_,rfl,⟨rfl,fun n=>⟨0,rfl,Ex _,rfl⟩⟩⟩ ?_ ?_
 ·rintro pre s post E hs ⟨m,s4,s5,s6,rfl,hm⟩
  have h2:=ko (p:=p) (pre:=pre ++ [s]) (post:=post) (by rw [hs]; simp)
  rw [gI,DZ] at h2
  have hpl:pre.length < p.length:=by rw [hs]; simp
  have hml:=hm.len
  have htk:p.take pre.length=pre:=by rw [hs]; simp
  have hgd:bG p pre.length=s.1:=by unfold bG; rw [hs]; simp
  have hrow:wcD p pre.length=D.tup (s.1.map fun n=>D.int ((cu pre n).length:Int)):=by unfold wcD; rw [htk,hgd]
  simp only [ad,aN,ax,un,var,bg,nmG,cK,aQ,cL,aX,aE,aL,DA,DG,DH,DD,DF,on,DB,DM,D8,reduceIte,Nat.reduceAdd,cm,de,dt]
  refine eM (lS (by simp; omega)) ?_
  rw [bM D.str (fun n=>D.int ((cu pre n).length:Int)) s.1 fun n hn=>?_]
  ·simp only [ad,DC,bP]
   refine eM (lR (by simp; omega)) ?_
   simp only [ad,ax,aj,bA,un,var,aa,bg,aL,DA,DD,DF,on,DB,dF,jh]
   have hlen:((ao pre).length:Int) + ((s.2.map D.str).length:Int)=((ao (pre ++ [s])).length:Int):=by rw [cr]; simp
   rw [hlen]
   refine bz D.str s.1 (fun pr E=>∃ s6,E=[Sl.val (D.tup (p.map de)),Sl.own (D.dic (g9 (pr.foldl (fun m n=>ic m n ((ao (pre ++ [s])).length:Int)) m))),Sl.val (D.int ((ao (pre ++ [s])).length:Int)),Sl.own (D.lst ((List.range pre.length).map (wcD p) ++ [D.tup (s.1.map fun n=>D.int ((cu pre n).length:Int))])),Sl.val (D.tup (s.1.map D.str)),Sl.val (D.tup (s.2.map D.str)),s6]) rfl ⟨_,rfl⟩ ?_ ?_
   ·rintro pr n po E hpr ⟨s6',rfl⟩
    simp only [ad,var,nmG,DA,DD,DF,on,DB,ij,qf]
    refine eM (lR ?_) ?_
    ·have q1:=kM ((ao (pre ++ [s])).length:Int) pr m
     have q2:pr.length≤s.1.length:=by rw [hpr]; simp
     unfold g9
     rw [DP]
     omega
    ·simp only [ad]
     refine ⟨Sl.val (D.str n),?_⟩
     rw [oP,Gf]; rfl
   ·rintro E ⟨s6',rfl⟩
    refine ⟨_,Sl.val (D.tup (s.1.map D.str)),Sl.val (D.tup (s.2.map D.str)),s6',?_,hm.next s⟩
    rw [DZ,ET,FX,Ej,List.map_singleton,hrow]
  ·obtain ⟨g1,g2⟩:=hm.get n
   refine bv ?_
   simp only [ad,bin,cst,var,aa,ce,DA,DC,DD,DF,on,DB,D.int.injEq,ij,kL,g1]
   congr 1
   unfold stW
   omega
 ·rintro E ⟨m,s4,s5,s6,rfl,hm⟩
  simp only [ad,aj,aO,aH,un,aa,DA,DC,on,DB,bP]
theorem all_windows_eq (p:List Sp) (hp:p.length≤1000) (hN:(ci p).length≤10000) (hW:(ao p).length≤10000) (h8:∀ k,k < p.length→(bG p k).length≤1000):g_all_windows [bX p]=some (.tup ((List.range p.length).map (awD p))):=by
 have hw:g_words_in [bX p]=some (dt (ao p)):=by rw [zo]; exact Sh.n0 p (by omega)
 have hb:g_begins [bX p]=some (.tup ((g_ p 0).map D.int)):=by rw [xn]; exact Sh.u5 p (by omega)
 have hc:=whole_counts_eq p hp hN hW
 have hz:List.zipWith (fun a b=>D.tup [a,b]) ((g_ p 0).map D.int) ((List.range p.length).map (wcD p))=(List.range p.length).map fun k=>D.tup [.int ((ao (p.take k)).length:Int),wcD p k]:=by
  rw [rg,D7,iq]; rfl
 simp only [bX] at hw hb hc ⊢
 refine bv ?_
 simp only [g_all_windows,b_all_windows,ad,aZ,ax,aj,az,bL,bA,var,ay,ac,ah,bf,bW,DA,DC,DI,DJ,DK,DL,DG,DH,DD,DF,on,List.replicate,reduceIte,Nat.reduceAdd,Nat.reduceSub,Nat.reduceLeDiff,aR,hw,mS,sZ,hb,hc,hz]
 refine bz (fun k=>D.tup [.int ((ao (p.take k)).length:Int),wcD p k]) (List.range p.length) (fun pre E=>∃ s3 s4 s5,E=[Sl.val (D.tup (p.map de)),Sl.val (dt (ao p)),Sl.own (D.lst (pre.map (awD p))),s3,s4,s5]) rfl ⟨_,_,_,rfl⟩ ?_ ?_
 ·rintro pre k post E hs ⟨s3,s4,s5,rfl⟩
  obtain ⟨hk1,hk2⟩:=dE hs
  have h9:=h8 k hk2
  simp only [ad,aN,un,var,bg,nmG,cK,aQ,cL,aX,aE,aL,DA,DG,DH,DD,DF,on,DB,DM,D8,reduceIte,Nat.reduceAdd,cm,wcD]
  refine eM (lS (by simp; omega)) ?_
  rw [show ((bG p k).map fun n=>D.int ((cu (p.take k) n).length:Int))=((bG p k).map fun n=>((cu (p.take k) n).length:Nat)).map (fun z:Nat=>D.int (z:Int)) by rw [D7]; rfl]
  obtain ⟨E0,hE0⟩:∃ E0:DE,E0=[Sl.val (D.tup (p.map de)),Sl.val (dt (ao p)),Sl.own (D.lst (pre.map (awD p))),Sl.val (D.int ((ao (p.take k)).length:Int)),Sl.val (D.tup (((bG p k).map fun n=>((cu (p.take k) n).length:Nat)).map (fun z:Nat=>D.int (z:Int)))),Sl.no]:=⟨_,rfl⟩
  have hcomp:bw (nmG 5) noT (aY (aa 1) (be (bin cX (aa 3) (aa 5))) (be (var 3))) E0 (((bG p k).map fun n=>((cu (p.take k) n).length:Nat)).map (fun z:Nat=>D.int (z:Int)))=some (((bG p k).map fun n=>((cu (p.take k) n).length:Nat)).map fun z=>dt ((ao (p.take k)).drop ((ao (p.take k)).length - z))):=by
   rw [hE0]
   refine bM (fun z:Nat=>D.int (z:Int)) _ _ fun z hz=>?_
   obtain ⟨n,hn,rfl⟩:=List.mem_map.mp hz
   have hle:=gy n (p.take k)
   have hcut:cY ((ao p).map D.str) (some (((ao (p.take k)).length:Int) - ((cu (p.take k) n).length:Int))) (some ((ao (p.take k)).length:Int))=((ao (p.take k)).drop ((ao (p.take k)).length - (cu (p.take k) n).length)).map D.str:=by
    rw [show ((ao (p.take k)).length:Int) - ((cu (p.take k) n).length:Int)=(((ao (p.take k)).length - (cu (p.take k) n).length:Nat):Int) by omega,iT,← FH,ir,← FV]
   refine bv ?_
   simp only [ad,bin,var,aa,be,aY,ce,DA,DD,DF,on,DB,xX,dt,hcut]
  rw [hE0] at hcomp
  simp only [hcomp,ad,DC,bP]
  refine eM (lR (by rw [DP]; omega)) ?_
  simp only [ad]
  have hfin:pre.map (awD p) ++ [D.tup (((bG p k).map fun n=>((cu (p.take k) n).length:Nat)).map fun z=>dt ((ao (p.take k)).drop ((ao (p.take k)).length - z)))]=(pre ++ [k]).map (awD p):=by
   rw [Ej,List.map_singleton]
   congr 2
   unfold awD
   rw [D7]
   congr 1
   refine FC fun n _=>?_
   show dt _=_
   rw [lN]
  exact ⟨_,_,_,by rw [hfin]⟩
 ·rintro E ⟨s3,s4,s5,rfl⟩
  simp only [ad,aj,aO,aH,un,aa,DA,DC,on,DB,bP]
theorem common_ends_I (ws:List Str) (hl:ws.length≤90000):g_common_ends [dt ws]=some (.lst ((ca ws).map D.int)):=by
 rw [lc ws hl,ca,D7]; rfl
end S2
end L2.Cu
namespace L2.Cu.Wk
open PySem PySem.Spec PyProof.Rows
def cW (i:Nat):Stmt:=PySem.Challenge.pw_cuebook_k42_thrift_told.main.body.getD i (.Pass ⟨0,0,0,0⟩)
abbrev oA:Stmt:=cW 35
abbrev xD:List Str:=["_law_cell_here","_law_turn","_law_many","_law_number"]
theorem lW:aP xD ["_law_cell_here","_law_turn","_law_many"] (ai oA):=⟨rfl,rfl,rfl,by decide +kernel,rfl,by decide +kernel,by decide +kernel⟩
abbrev eF:Stmt:=cW 36
abbrev fX:List Str:=["_law_cell_here","_law_letters","_law_root","_law_at","_law_first","_law_k"]
theorem cQ:aP fX ["_law_cell_here"] (ai eF):=⟨rfl,rfl,rfl,by decide +kernel,rfl,by decide +kernel,by decide +kernel⟩
abbrev oF:Stmt:=cW 33
abbrev xH:List Str:=["_law_script","_law_at"]
theorem tJ:aP xH ["_law_script","_law_at"] (ai oF):=⟨rfl,rfl,rfl,by decide +kernel,rfl,by decide +kernel,by decide +kernel⟩
abbrev cZ:Stmt:=cW 37
abbrev dM:List Str:=["_law_cell_here","_law_letters","_law_root","_law_found","_law_k","_law_word"]
theorem bU:aP dM ["_law_cell_here"] (ai cZ):=⟨rfl,rfl,rfl,by decide +kernel,rfl,by decide +kernel,by decide +kernel⟩
abbrev lY:Stmt:=cW 38
abbrev vc:List Str:=["_law_number","_law_many","_law_most","_law_letters","_law_found","_law_k","_law_size","_law_text","_law_j"]
theorem cC:aP vc ["_law_number","_law_many","_law_most"] (ai lY):=⟨rfl,rfl,rfl,by decide +kernel,rfl,by decide +kernel,by decide +kernel⟩
abbrev oB:Stmt:=cW 34
abbrev xE:List Str:=["_law_script","_law_at"]
theorem tI:aP xE ["_law_script","_law_at"] (ai oB):=⟨rfl,rfl,rfl,by decide +kernel,rfl,by decide +kernel,by decide +kernel⟩
abbrev fg:Stmt:=cW 40
abbrev gT:List Str:=["_law_number","_law_free","_law_words_here","_law_some","_law_k"]
theorem dC:aP gT ["_law_number","_law_free","_law_words_here"] (ai fg):=⟨rfl,rfl,rfl,by decide +kernel,rfl,by decide +kernel,by decide +kernel⟩
abbrev hG:Stmt:=cW 39
abbrev lL:List Str:=["_law_number","_law_free","_law_words_here","_law_most","_law_some","_law_name","_law_many","_law_line","_law_k"]
theorem bp:aP lL ["_law_number","_law_free","_law_words_here","_law_most"] (ai hG):=⟨rfl,rfl,rfl,by decide +kernel,rfl,by decide +kernel,by decide +kernel⟩
abbrev j7:Stmt:=cW 41
abbrev p9:List Str:=["_law_script","_law_at","_law_most","_law_names_here","_law_words_here","_law_digits","_law_play_here","_law_ahead","_law_cell_here","_law_free","_law_line","_law_name"]
theorem bY:aP p9 ["_law_script","_law_at","_law_most"] (ai j7):=⟨rfl,rfl,rfl,by decide +kernel,rfl,by decide +kernel,by decide +kernel⟩
abbrev lX:Stmt:=cW 43
abbrev va:List Str:=["_law_play_here","_law_found","_law_names_here","_law_words_here"]
theorem f7:aP va ["_law_play_here"] (ai lX):=⟨rfl,rfl,rfl,by decide +kernel,rfl,by decide +kernel,by decide +kernel⟩
abbrev jp:Stmt:=cW 42
abbrev qa:List Str:=["_law_play_here","_law_found","_law_last","_law_place","_law_at","_law_name"]
theorem cw:aP qa ["_law_play_here"] (ai jp):=⟨rfl,rfl,rfl,by decide +kernel,rfl,by decide +kernel,by decide +kernel⟩
abbrev i5:Stmt:=cW 44
abbrev mR:List Str:=["_law_words_here","_law_start","_law_end","_law_many","_law_cue","_law_place"]
theorem h_:aP mR ["_law_words_here","_law_start","_law_end","_law_many"] (ai i5):=⟨rfl,rfl,rfl,by decide +kernel,rfl,by decide +kernel,by decide +kernel⟩
abbrev j8:Stmt:=cW 45
abbrev p_:List Str:=["_law_play_here","_law_words_here","_law_found","_law_at","_law_name","_law_start","_law_end","_law_many"]
theorem dw:aP p_ ["_law_play_here"] (ai j8):=⟨rfl,rfl,rfl,by decide +kernel,rfl,by decide +kernel,by decide +kernel⟩
abbrev i4:Stmt:=cW 17
abbrev mQ:List Str:=["row","many","size"]
theorem j4:aP mQ ["row","many"] (ai i4):=⟨rfl,rfl,rfl,by decide +kernel,rfl,by decide +kernel,by decide +kernel⟩
abbrev eP:Stmt:=cW 16
abbrev gR:List Str:=["play","last_ends","place","counts","names","words","name"]
theorem bK:aP gR ["play"] (ai eP):=⟨rfl,rfl,rfl,by decide +kernel,rfl,by decide +kernel,by decide +kernel⟩
abbrev m6:Stmt:=cW 18
abbrev sT:List Str:=["play","many","row"]
theorem ou:aP sT ["play","many"] (ai m6):=⟨rfl,rfl,rfl,by decide +kernel,rfl,by decide +kernel,by decide +kernel⟩
abbrev m5:Stmt:=cW 19
abbrev sS:List Str:=["counts","row"]
theorem ot:aP sS ["counts"] (ai m5):=⟨rfl,rfl,rfl,by decide +kernel,rfl,by decide +kernel,by decide +kernel⟩
abbrev j6:Stmt:=cW 13
abbrev rq:List Str:=["play","found","names","words"]
theorem ff:aP rq ["play"] (ai j6):=⟨rfl,rfl,rfl,by decide +kernel,rfl,by decide +kernel,by decide +kernel⟩
abbrev ow:Stmt:=cW 14
abbrev xC:List Str:=["play","places","spoken","names","words"]
theorem eE:aP xC ["play"] (ai ow):=⟨rfl,rfl,rfl,by decide +kernel,rfl,by decide +kernel,by decide +kernel⟩
abbrev fG:Stmt:=cW 23
abbrev hZ:List Str:=["play","words","rows","begin","row","size"]
theorem cG:aP hZ ["play"] (ai fG):=⟨rfl,rfl,rfl,by decide +kernel,rfl,by decide +kernel,by decide +kernel⟩
abbrev iy:Stmt:=cW 21
abbrev nV:List Str:=["heard","many","common"]
theorem fD:aP nV ["heard","many"] (ai iy):=⟨rfl,rfl,rfl,by decide +kernel,rfl,by decide +kernel,by decide +kernel⟩
abbrev fF:Stmt:=cW 22
abbrev hY:List Str:=["heard","many"]
theorem gE:aP hY ["heard"] (ai fF):=⟨rfl,rfl,rfl,by decide +kernel,rfl,by decide +kernel,by decide +kernel⟩
abbrev ib:Stmt:=cW 25
abbrev lv:List Str:=["numbers","many","number"]
theorem jn:aP lv ["numbers","many"] (ai ib):=⟨rfl,rfl,rfl,by decide +kernel,rfl,by decide +kernel,by decide +kernel⟩
abbrev f8:Stmt:=cW 26
abbrev iX:List Str:=["heard","ends","many"]
theorem fC:aP iX ["heard"] (ai f8):=⟨rfl,rfl,rfl,by decide +kernel,rfl,by decide +kernel,by decide +kernel⟩
abbrev dD:Stmt:=cW 27
abbrev fA:List Str:=["play","found","row","heard"]
theorem cP:aP fA ["play"] (ai dD):=⟨rfl,rfl,rfl,by decide +kernel,rfl,by decide +kernel,by decide +kernel⟩
abbrev fE:Stmt:=cW 30
abbrev hX:List Str:=["counts","shares","rows","first","row","behind","many","more"]
theorem bZ:aP hX ["counts","shares"] (ai fE):=⟨rfl,rfl,rfl,by decide +kernel,rfl,by decide +kernel,by decide +kernel⟩
abbrev gF:Stmt:=cW 28
abbrev jy:List Str:=["fewest","moments","spare","sums","more","many"]
theorem el:aP jy ["fewest","moments","spare"] (ai gF):=⟨rfl,rfl,rfl,by decide +kernel,rfl,by decide +kernel,by decide +kernel⟩
abbrev ez:Stmt:=cW 29
abbrev gi:List Str:=["cues","spare","fewest","taken","moments","mores","shares","many","more"]
theorem bq:aP gi ["cues","spare"] (ai ez):=⟨rfl,rfl,rfl,by decide +kernel,rfl,by decide +kernel,by decide +kernel⟩
abbrev gY:Stmt:=cW 31
abbrev jk:List Str:=["play","most","ones","needed","cues","spare","moments"]
theorem b6:aP jk ["play","most"] (ai gY):=⟨rfl,rfl,rfl,by decide +kernel,rfl,by decide +kernel,by decide +kernel⟩
abbrev jo:Stmt:=cW 48
abbrev p7:List Str:=["_law_play_here","_law_most","_law_needed","_law_kinds","_law_told","e"]
theorem cv:aP p7 ["_law_play_here","_law_most","_law_needed"] (ai jo):=⟨rfl,rfl,rfl,by decide +kernel,rfl,by decide +kernel,by decide +kernel⟩
abbrev oE:Stmt:=cW 47
abbrev xG:List Str:=["_law_play_here","_law_counts","_law_found","_law_at","_law_many"]
theorem gX:aP xG ["_law_play_here","_law_counts"] (ai oE):=⟨rfl,rfl,rfl,by decide +kernel,rfl,by decide +kernel,by decide +kernel⟩
abbrev eQ:Stmt:=cW 46
abbrev gj:List Str:=["_law_rows","_law_most","_law_best","_law_row","_law_more","_law_spent","_law_k","_law_left_here"]
theorem b4:aP gj ["_law_rows","_law_most"] (ai eQ):=⟨rfl,rfl,rfl,by decide +kernel,rfl,by decide +kernel,by decide +kernel⟩
abbrev vK:Stmt:=cW 49
abbrev zV:List Str:=["_law_script","_law_play_here","_law_rows","_law_room","_law_cell_here","_law_most","_law_found","_law_left_here","_law_row","_law_many"]
theorem dB:aP zV ["_law_script"] (ai vK):=⟨rfl,rfl,rfl,by decide +kernel,rfl,by decide +kernel,by decide +kernel⟩
abbrev kY:List Str:=["TooFew","Apart","Meets","NoBooks","NoCast","NoCounts","NoLine","NoPlay","NoText","Unknown"]
abbrev kZ:List Bool:=[true,false,false,false,false,false,false,false,false,false]
abbrev moK (K:PySem.W.Frag):=sE K "TooFew" "needed" "TooFew.__init__" "CueError" kY
abbrev moB:=sF "TooFew.__init__" (nA (cW 4) 0) kZ
abbrev ds:List Nat:=[35,36,33,37,38,34,40,39,41,43,42,44,45,17,16,18,19,13,14,23,21,22,25,26,27,30,28,29,31,48,47,46,49]
abbrev zs:List Str:=["ValueError","bool","enumerate","int","isinstance","len","list","max","min","ord","range","reversed","sorted","sum","tuple","zip"]
abbrev cs:List (Str×Int):=[]
abbrev TX (K:PySem.W.Frag) (mg:Str→Option Value):=TT PySem.Challenge.pw_cuebook_k42_thrift_told ds zs cs moK moB K mg
section
variable {K:PySem.W.Frag}{mg:Str→Option Value} (T:TX K mg)
abbrev TX.f__Lspin:=T.f 35
abbrev TX.fd__Lspin:=T.fd 35
theorem TX.F__Lspin:Fun K "_law_spin" "_law_spin" oA T.f__Lspin T.fd__Lspin:=T.F 35 (by decide)
theorem TX.m__Lspin:mg "_law_spin" = some (.ref T.f__Lspin):=T.m 35 (by decide)
theorem TX.b__Lspin:bB K T.fd__Lspin ["_law_cell_here","_law_turn","_law_many"] []:=T.F__Lspin.binds fun _ _ _ _ _ _ us hl=>by obtain ⟨u0,u1,u2,rfl⟩:=ul3 hl; rfl
abbrev TX.f__Lnames:=T.f 36
abbrev TX.fd__Lnames:=T.fd 36
theorem TX.F__Lnames:Fun K "_law_names" "_law_names" eF T.f__Lnames T.fd__Lnames:=T.F 36 (by decide)
theorem TX.m__Lnames:mg "_law_names" = some (.ref T.f__Lnames):=T.m 36 (by decide)
theorem TX.b__Lnames:bB K T.fd__Lnames ["_law_cell_here"] []:=T.F__Lnames.binds fun _ _ _ _ _ _ us hl=>by obtain ⟨u0,rfl⟩:=ul1 hl; rfl
abbrev TX.f__Lcell:=T.f 33
abbrev TX.fd__Lcell:=T.fd 33
theorem TX.F__Lcell:Fun K "_law_cell" "_law_cell" oF T.f__Lcell T.fd__Lcell:=T.F 33 (by decide)
theorem TX.m__Lcell:mg "_law_cell" = some (.ref T.f__Lcell):=T.m 33 (by decide)
theorem TX.b__Lcell:bB K T.fd__Lcell ["_law_script","_law_at"] []:=T.F__Lcell.binds fun _ _ _ _ _ _ us hl=>by obtain ⟨u0,u1,rfl⟩:=ul2 hl; rfl
abbrev TX.f__Lvocabulary:=T.f 37
abbrev TX.fd__Lvocabulary:=T.fd 37
theorem TX.F__Lvocabulary:Fun K "_law_vocabulary" "_law_vocabulary" cZ T.f__Lvocabulary T.fd__Lvocabulary:=T.F 37 (by decide)
theorem TX.m__Lvocabulary:mg "_law_vocabulary" = some (.ref T.f__Lvocabulary):=T.m 37 (by decide)
theorem TX.b__Lvocabulary:bB K T.fd__Lvocabulary ["_law_cell_here"] []:=T.F__Lvocabulary.binds fun _ _ _ _ _ _ us hl=>by obtain ⟨u0,rfl⟩:=ul1 hl; rfl
abbrev TX.f__Ltexts:=T.f 38
abbrev TX.fd__Ltexts:=T.fd 38
theorem TX.F__Ltexts:Fun K "_law_texts" "_law_texts" lY T.f__Ltexts T.fd__Ltexts:=T.F 38 (by decide)
theorem TX.m__Ltexts:mg "_law_texts" = some (.ref T.f__Ltexts):=T.m 38 (by decide)
theorem TX.b__Ltexts:bB K T.fd__Ltexts ["_law_number","_law_many","_law_most"] []:=T.F__Ltexts.binds fun _ _ _ _ _ _ us hl=>by obtain ⟨u0,u1,u2,rfl⟩:=ul3 hl; rfl
abbrev TX.f__Llong:=T.f 34
abbrev TX.fd__Llong:=T.fd 34
theorem TX.F__Llong:Fun K "_law_long" "_law_long" oB T.f__Llong T.fd__Llong:=T.F 34 (by decide)
theorem TX.m__Llong:mg "_law_long" = some (.ref T.f__Llong):=T.m 34 (by decide)
theorem TX.b__Llong:bB K T.fd__Llong ["_law_script","_law_at"] []:=T.F__Llong.binds fun _ _ _ _ _ _ us hl=>by obtain ⟨u0,u1,rfl⟩:=ul2 hl; rfl
abbrev TX.f__Lby_spin:=T.f 40
abbrev TX.fd__Lby_spin:=T.fd 40
theorem TX.F__Lby_spin:Fun K "_law_by_spin" "_law_by_spin" fg T.f__Lby_spin T.fd__Lby_spin:=T.F 40 (by decide)
theorem TX.m__Lby_spin:mg "_law_by_spin" = some (.ref T.f__Lby_spin):=T.m 40 (by decide)
theorem TX.b__Lby_spin:bB K T.fd__Lby_spin ["_law_number","_law_free","_law_words_here"] []:=T.F__Lby_spin.binds fun _ _ _ _ _ _ us hl=>by obtain ⟨u0,u1,u2,rfl⟩:=ul3 hl; rfl
abbrev TX.f__Lby_digits:=T.f 39
abbrev TX.fd__Lby_digits:=T.fd 39
theorem TX.F__Lby_digits:Fun K "_law_by_digits" "_law_by_digits" hG T.f__Lby_digits T.fd__Lby_digits:=T.F 39 (by decide)
theorem TX.m__Lby_digits:mg "_law_by_digits" = some (.ref T.f__Lby_digits):=T.m 39 (by decide)
theorem TX.b__Lby_digits:bB K T.fd__Lby_digits ["_law_number","_law_free","_law_words_here","_law_most"] []:=T.F__Lby_digits.binds fun _ _ _ _ _ _ us hl=>match us,hl with | [_,_,_,_],_=>rfl
abbrev TX.f__Lplay:=T.f 41
abbrev TX.fd__Lplay:=T.fd 41
theorem TX.F__Lplay:Fun K "_law_play" "_law_play" j7 T.f__Lplay T.fd__Lplay:=T.F 41 (by decide)
theorem TX.m__Lplay:mg "_law_play" = some (.ref T.f__Lplay):=T.m 41 (by decide)
theorem TX.b__Lplay:bB K T.fd__Lplay ["_law_script","_law_at","_law_most"] []:=T.F__Lplay.binds fun _ _ _ _ _ _ us hl=>by obtain ⟨u0,u1,u2,rfl⟩:=ul3 hl; rfl
abbrev TX.f__Lwords:=T.f 43
abbrev TX.fd__Lwords:=T.fd 43
theorem TX.F__Lwords:Fun K "_law_words" "_law_words" lX T.f__Lwords T.fd__Lwords:=T.F 43 (by decide)
theorem TX.m__Lwords:mg "_law_words" = some (.ref T.f__Lwords):=T.m 43 (by decide)
theorem TX.b__Lwords:bB K T.fd__Lwords ["_law_play_here"] []:=T.F__Lwords.binds fun _ _ _ _ _ _ us hl=>by obtain ⟨u0,rfl⟩:=ul1 hl; rfl
abbrev TX.f__Lentries:=T.f 42
abbrev TX.fd__Lentries:=T.fd 42
theorem TX.F__Lentries:Fun K "_law_entries" "_law_entries" jp T.f__Lentries T.fd__Lentries:=T.F 42 (by decide)
theorem TX.m__Lentries:mg "_law_entries" = some (.ref T.f__Lentries):=T.m 42 (by decide)
theorem TX.b__Lentries:bB K T.fd__Lentries ["_law_play_here"] []:=T.F__Lentries.binds fun _ _ _ _ _ _ us hl=>by obtain ⟨u0,rfl⟩:=ul1 hl; rfl
abbrev TX.f__Learly:=T.f 44
abbrev TX.fd__Learly:=T.fd 44
theorem TX.F__Learly:Fun K "_law_early" "_law_early" i5 T.f__Learly T.fd__Learly:=T.F 44 (by decide)
theorem TX.m__Learly:mg "_law_early" = some (.ref T.f__Learly):=T.m 44 (by decide)
theorem TX.b__Learly:bB K T.fd__Learly ["_law_words_here","_law_start","_law_end","_law_many"] []:=T.F__Learly.binds fun _ _ _ _ _ _ us hl=>match us,hl with | [_,_,_,_],_=>rfl
abbrev TX.f__Lleft:=T.f 45
abbrev TX.fd__Lleft:=T.fd 45
theorem TX.F__Lleft:Fun K "_law_left" "_law_left" j8 T.f__Lleft T.fd__Lleft:=T.F 45 (by decide)
theorem TX.m__Lleft:mg "_law_left" = some (.ref T.f__Lleft):=T.m 45 (by decide)
theorem TX.b__Lleft:bB K T.fd__Lleft ["_law_play_here"] []:=T.F__Lleft.binds fun _ _ _ _ _ _ us hl=>by obtain ⟨u0,rfl⟩:=ul1 hl; rfl
abbrev TX.f_at_most:=T.f 17
abbrev TX.fd_at_most:=T.fd 17
theorem TX.F_at_most:Fun K "at_most" "at_most" i4 T.f_at_most T.fd_at_most:=T.F 17 (by decide)
theorem TX.m_at_most:mg "at_most" = some (.ref T.f_at_most):=T.m 17 (by decide)
theorem TX.b_at_most:bB K T.fd_at_most ["row","many"] []:=T.F_at_most.binds fun _ _ _ _ _ _ us hl=>by obtain ⟨u0,u1,rfl⟩:=ul2 hl; rfl
abbrev TX.f_whole_counts:=T.f 16
abbrev TX.fd_whole_counts:=T.fd 16
theorem TX.F_whole_counts:Fun K "whole_counts" "whole_counts" eP T.f_whole_counts T.fd_whole_counts:=T.F 16 (by decide)
theorem TX.m_whole_counts:mg "whole_counts" = some (.ref T.f_whole_counts):=T.m 16 (by decide)
theorem TX.b_whole_counts:bB K T.fd_whole_counts ["play"] []:=T.F_whole_counts.binds fun _ _ _ _ _ _ us hl=>by obtain ⟨u0,rfl⟩:=ul1 hl; rfl
abbrev TX.f_alike:=T.f 18
abbrev TX.fd_alike:=T.fd 18
theorem TX.F_alike:Fun K "alike" "alike" m6 T.f_alike T.fd_alike:=T.F 18 (by decide)
theorem TX.m_alike:mg "alike" = some (.ref T.f_alike):=T.m 18 (by decide)
theorem TX.b_alike:bB K T.fd_alike ["play","many"] []:=T.F_alike.binds fun _ _ _ _ _ _ us hl=>by obtain ⟨u0,u1,rfl⟩:=ul2 hl; rfl
abbrev TX.f_total:=T.f 19
abbrev TX.fd_total:=T.fd 19
theorem TX.F_total:Fun K "total" "total" m5 T.f_total T.fd_total:=T.F 19 (by decide)
theorem TX.m_total:mg "total" = some (.ref T.f_total):=T.m 19 (by decide)
theorem TX.b_total:bB K T.fd_total ["counts"] []:=T.F_total.binds fun _ _ _ _ _ _ us hl=>by obtain ⟨u0,rfl⟩:=ul1 hl; rfl
abbrev TX.f_words_in:=T.f 13
abbrev TX.fd_words_in:=T.fd 13
theorem TX.F_words_in:Fun K "words_in" "words_in" j6 T.f_words_in T.fd_words_in:=T.F 13 (by decide)
theorem TX.m_words_in:mg "words_in" = some (.ref T.f_words_in):=T.m 13 (by decide)
theorem TX.b_words_in:bB K T.fd_words_in ["play"] []:=T.F_words_in.binds fun _ _ _ _ _ _ us hl=>by obtain ⟨u0,rfl⟩:=ul1 hl; rfl
abbrev TX.f_begins:=T.f 14
abbrev TX.fd_begins:=T.fd 14
theorem TX.F_begins:Fun K "begins" "begins" ow T.f_begins T.fd_begins:=T.F 14 (by decide)
theorem TX.m_begins:mg "begins" = some (.ref T.f_begins):=T.m 14 (by decide)
theorem TX.b_begins:bB K T.fd_begins ["play"] []:=T.F_begins.binds fun _ _ _ _ _ _ us hl=>by obtain ⟨u0,rfl⟩:=ul1 hl; rfl
abbrev TX.f_all_windows:=T.f 23
abbrev TX.fd_all_windows:=T.fd 23
theorem TX.F_all_windows:Fun K "all_windows" "all_windows" fG T.f_all_windows T.fd_all_windows:=T.F 23 (by decide)
theorem TX.m_all_windows:mg "all_windows" = some (.ref T.f_all_windows):=T.m 23 (by decide)
theorem TX.b_all_windows:bB K T.fd_all_windows ["play"] []:=T.F_all_windows.binds fun _ _ _ _ _ _ us hl=>by obtain ⟨u0,rfl⟩:=ul1 hl; rfl
abbrev TX.f_common_end:=T.f 21
abbrev TX.fd_common_end:=T.fd 21
theorem TX.F_common_end:Fun K "common_end" "common_end" iy T.f_common_end T.fd_common_end:=T.F 21 (by decide)
theorem TX.m_common_end:mg "common_end" = some (.ref T.f_common_end):=T.m 21 (by decide)
theorem TX.b_common_end:bB K T.fd_common_end ["heard","many"] []:=T.F_common_end.binds fun _ _ _ _ _ _ us hl=>by obtain ⟨u0,u1,rfl⟩:=ul2 hl; rfl
abbrev TX.f_common_ends:=T.f 22
abbrev TX.fd_common_ends:=T.fd 22
theorem TX.F_common_ends:Fun K "common_ends" "common_ends" fF T.f_common_ends T.fd_common_ends:=T.F 22 (by decide)
theorem TX.m_common_ends:mg "common_ends" = some (.ref T.f_common_ends):=T.m 22 (by decide)
theorem TX.b_common_ends:bB K T.fd_common_ends ["heard"] []:=T.F_common_ends.binds fun _ _ _ _ _ _ us hl=>by obtain ⟨u0,rfl⟩:=ul1 hl; rfl
abbrev TX.f_at_least:=T.f 25
abbrev TX.fd_at_least:=T.fd 25
theorem TX.F_at_least:Fun K "at_least" "at_least" ib T.f_at_least T.fd_at_least:=T.F 25 (by decide)
theorem TX.m_at_least:mg "at_least" = some (.ref T.f_at_least):=T.m 25 (by decide)
theorem TX.b_at_least:bB K T.fd_at_least ["numbers","many"] []:=T.F_at_least.binds fun _ _ _ _ _ _ us hl=>by obtain ⟨u0,u1,rfl⟩:=ul2 hl; rfl
abbrev TX.f_moments_in:=T.f 26
abbrev TX.fd_moments_in:=T.fd 26
theorem TX.F_moments_in:Fun K "moments_in" "moments_in" f8 T.f_moments_in T.fd_moments_in:=T.F 26 (by decide)
theorem TX.m_moments_in:mg "moments_in" = some (.ref T.f_moments_in):=T.m 26 (by decide)
theorem TX.b_moments_in:bB K T.fd_moments_in ["heard"] []:=T.F_moments_in.binds fun _ _ _ _ _ _ us hl=>by obtain ⟨u0,rfl⟩:=ul1 hl; rfl
abbrev TX.f_moments_of_cues:=T.f 27
abbrev TX.fd_moments_of_cues:=T.fd 27
theorem TX.F_moments_of_cues:Fun K "moments_of_cues" "moments_of_cues" dD T.f_moments_of_cues T.fd_moments_of_cues:=T.F 27 (by decide)
theorem TX.m_moments_of_cues:mg "moments_of_cues" = some (.ref T.f_moments_of_cues):=T.m 27 (by decide)
theorem TX.b_moments_of_cues:bB K T.fd_moments_of_cues ["play"] []:=T.F_moments_of_cues.binds fun _ _ _ _ _ _ us hl=>by obtain ⟨u0,rfl⟩:=ul1 hl; rfl
abbrev TX.f_with_shares:=T.f 30
abbrev TX.fd_with_shares:=T.fd 30
theorem TX.F_with_shares:Fun K "with_shares" "with_shares" fE T.f_with_shares T.fd_with_shares:=T.F 30 (by decide)
theorem TX.m_with_shares:mg "with_shares" = some (.ref T.f_with_shares):=T.m 30 (by decide)
theorem TX.b_with_shares:bB K T.fd_with_shares ["counts","shares"] []:=T.F_with_shares.binds fun _ _ _ _ _ _ us hl=>by obtain ⟨u0,u1,rfl⟩:=ul2 hl; rfl
abbrev TX.f_best_more:=T.f 28
abbrev TX.fd_best_more:=T.fd 28
theorem TX.F_best_more:Fun K "best_more" "best_more" gF T.f_best_more T.fd_best_more:=T.F 28 (by decide)
theorem TX.m_best_more:mg "best_more" = some (.ref T.f_best_more):=T.m 28 (by decide)
theorem TX.b_best_more:bB K T.fd_best_more ["fewest","moments","spare"] []:=T.F_best_more.binds fun _ _ _ _ _ _ us hl=>by obtain ⟨u0,u1,u2,rfl⟩:=ul3 hl; rfl
abbrev TX.f_shared_out:=T.f 29
abbrev TX.fd_shared_out:=T.fd 29
theorem TX.F_shared_out:Fun K "shared_out" "shared_out" ez T.f_shared_out T.fd_shared_out:=T.F 29 (by decide)
theorem TX.m_shared_out:mg "shared_out" = some (.ref T.f_shared_out):=T.m 29 (by decide)
theorem TX.b_shared_out:bB K T.fd_shared_out ["cues","spare"] []:=T.F_shared_out.binds fun _ _ _ _ _ _ us hl=>by obtain ⟨u0,u1,rfl⟩:=ul2 hl; rfl
abbrev TX.f_thrifty:=T.f 31
abbrev TX.fd_thrifty:=T.fd 31
theorem TX.F_thrifty:Fun K "thrifty" "thrifty" gY T.f_thrifty T.fd_thrifty:=T.F 31 (by decide)
theorem TX.m_thrifty:mg "thrifty" = some (.ref T.f_thrifty):=T.m 31 (by decide)
theorem TX.b_thrifty:bB K T.fd_thrifty ["play","most"] []:=T.F_thrifty.binds fun _ _ _ _ _ _ us hl=>by obtain ⟨u0,u1,rfl⟩:=ul2 hl; rfl
abbrev TX.f__Lrefused:=T.f 48
abbrev TX.fd__Lrefused:=T.fd 48
theorem TX.F__Lrefused:Fun K "_law_refused" "_law_refused" jo T.f__Lrefused T.fd__Lrefused:=T.F 48 (by decide)
theorem TX.m__Lrefused:mg "_law_refused" = some (.ref T.f__Lrefused):=T.m 48 (by decide)
theorem TX.b__Lrefused:bB K T.fd__Lrefused ["_law_play_here","_law_most","_law_needed"] []:=T.F__Lrefused.binds fun _ _ _ _ _ _ us hl=>by obtain ⟨u0,u1,u2,rfl⟩:=ul3 hl; rfl
abbrev TX.f__Lflat:=T.f 47
abbrev TX.fd__Lflat:=T.fd 47
theorem TX.F__Lflat:Fun K "_law_flat" "_law_flat" oE T.f__Lflat T.fd__Lflat:=T.F 47 (by decide)
theorem TX.m__Lflat:mg "_law_flat" = some (.ref T.f__Lflat):=T.m 47 (by decide)
theorem TX.b__Lflat:bB K T.fd__Lflat ["_law_play_here","_law_counts"] []:=T.F__Lflat.binds fun _ _ _ _ _ _ us hl=>by obtain ⟨u0,u1,rfl⟩:=ul2 hl; rfl
abbrev TX.f__Lfewest:=T.f 46
abbrev TX.fd__Lfewest:=T.fd 46
theorem TX.F__Lfewest:Fun K "_law_fewest" "_law_fewest" eQ T.f__Lfewest T.fd__Lfewest:=T.F 46 (by decide)
theorem TX.m__Lfewest:mg "_law_fewest" = some (.ref T.f__Lfewest):=T.m 46 (by decide)
theorem TX.b__Lfewest:bB K T.fd__Lfewest ["_law_rows","_law_most"] []:=T.F__Lfewest.binds fun _ _ _ _ _ _ us hl=>by obtain ⟨u0,u1,rfl⟩:=ul2 hl; rfl
abbrev TX.f_law:=T.f 49
abbrev TX.fd_law:=T.fd 49
theorem TX.F_law:Fun K "law" "law" vK T.f_law T.fd_law:=T.F 49 (by decide)
theorem TX.n_ValueError (T:TX K mg):mg "ValueError" = none:=T.z _ (.head _)
theorem TX.n_bool (T:TX K mg):mg "bool" = none:=T.z _ (.tail _ (.head _))
theorem TX.n_enumerate (T:TX K mg):mg "enumerate" = none:=T.z _ (.tail _ (.tail _ (.head _)))
theorem TX.n_int (T:TX K mg):mg "int" = none:=T.z _ (.tail _ (.tail _ (.tail _ (.head _))))
theorem TX.n_isinstance (T:TX K mg):mg "isinstance" = none:=T.z _ (.tail _ (.tail _ (.tail _ (.tail _ (.head _)))))
theorem TX.n_len (T:TX K mg):mg "len" = none:=T.z _ (.tail _ (.tail _ (.tail _ (.tail _ (.tail _ (.head _))))))
theorem TX.n_list (T:TX K mg):mg "list" = none:=T.z _ (.tail _ (.tail _ (.tail _ (.tail _ (.tail _ (.tail _ (.head _)))))))
theorem TX.n_max (T:TX K mg):mg "max" = none:=T.z _ (.tail _ (.tail _ (.tail _ (.tail _ (.tail _ (.tail _ (.tail _ (.head _))))))))
theorem TX.n_min (T:TX K mg):mg "min" = none:=T.z _ (.tail _ (.tail _ (.tail _ (.tail _ (.tail _ (.tail _ (.tail _ (.tail _ (.head _)))))))))
theorem TX.n_ord (T:TX K mg):mg "ord" = none:=T.z _ (.tail _ (.tail _ (.tail _ (.tail _ (.tail _ (.tail _ (.tail _ (.tail _ (.tail _ (.head _))))))))))
theorem TX.n_range (T:TX K mg):mg "range" = none:=T.z _ (.tail _ (.tail _ (.tail _ (.tail _ (.tail _ (.tail _ (.tail _ (.tail _ (.tail _ (.tail _ (.head _)))))))))))
theorem TX.n_reversed (T:TX K mg):mg "reversed" = none:=T.z _ (.tail _ (.tail _ (.tail _ (.tail _ (.tail _ (.tail _ (.tail _ (.tail _ (.tail _ (.tail _ (.tail _ (.head _))))))))))))
theorem TX.n_sorted (T:TX K mg):mg "sorted" = none:=T.z _ (.tail _ (.tail _ (.tail _ (.tail _ (.tail _ (.tail _ (.tail _ (.tail _ (.tail _ (.tail _ (.tail _ (.tail _ (.head _)))))))))))))
theorem TX.n_sum (T:TX K mg):mg "sum" = none:=T.z _ (.tail _ (.tail _ (.tail _ (.tail _ (.tail _ (.tail _ (.tail _ (.tail _ (.tail _ (.tail _ (.tail _ (.tail _ (.tail _ (.head _))))))))))))))
theorem TX.n_tuple (T:TX K mg):mg "tuple" = none:=T.z _ (.tail _ (.tail _ (.tail _ (.tail _ (.tail _ (.tail _ (.tail _ (.tail _ (.tail _ (.tail _ (.tail _ (.tail _ (.tail _ (.tail _ (.head _)))))))))))))))
theorem TX.n_zip (T:TX K mg):mg "zip" = none:=T.z _ (.tail _ (.tail _ (.tail _ (.tail _ (.tail _ (.tail _ (.tail _ (.tail _ (.tail _ (.tail _ (.tail _ (.tail _ (.tail _ (.tail _ (.tail _ (.head _))))))))))))))))
end
section
variable {P:Program}{w:World}{K:PySem.W.Frag}{mg:Str→Option Value}{base:Heap}
theorem TX.kd (T:TX K mg):nW K mg "TooFew" "needed" "TooFew.__init__" (nA (cW 4) 0) "CueError" kY kZ:=uu T.o T.g
abbrev clN (K:PySem.W.Frag):Nat→Addr:=fun _=>cq K "TooFew"
theorem x8:aP ["self","needed"] ["self","needed"] (ai (nA (cW 4) 0)):=⟨rfl,rfl,rfl,by decide +kernel,rfl,by decide +kernel,by decide +kernel⟩
theorem TX.init (T:TX K mg):∃ fd,bD P w K mg base CX0 1 (kJ K (cq K "TooFew")) fd ["self","needed"] (spI (cq K "TooFew") "needed")∧bB K fd ["self","needed"] []:=by
 obtain ⟨fd,F⟩:=T.kd.fn
 obtain ⟨cd,xc⟩:=T.kd.er.xc
 exact ⟨fd,yH F x8 xc T.kd.er.nf rfl (Or.inl rfl) (Or.inl rfl) (by decide) (by decide) fun _=>rfl,F.binds fun _ _ _ _ _ _ us hl=>by obtain ⟨u0,u1,rfl⟩:=ul2 hl; rfl⟩
end
section
variable {P:Program}{w:World}{K:PySem.W.Frag}{mg:Str→Option Value}{base:Heap}
def b__Lspin:DE→Option Out :=
 (aq (az 3 (bin bC (bin fJ (bin aM (bin bC (aa 0) (cst (.int 1000000007))) (cst (.int 3))) (bin aM (bin aM (bin fJ (aa 1) (aa 1)) (bin fJ (cst (.int 5)) (aa 1))) (cst (.int 11)))) (cst (.int 998244353))))
 (aH (bin bC (bin bS (bin bC (bin aM (bin fJ (aa 3) (aa 3)) (bin bS (aa 3) (cst (.int 4096)))) (cst (.int 999999937))) (cst (.int 32))) (aa 2))))
def g__Lspin:List D→Option D:=bV 3 4 b__Lspin
theorem fO (T:TX K mg):bD P w K mg base CX0 2 T.f__Lspin T.fd__Lspin ["_law_cell_here","_law_turn","_law_many"] (spD 3 g__Lspin) :=
 fnG (k:=1) (b:=b__Lspin) T.F__Lspin lW rfl rfl rfl rfl fun cdv A outer s H E hr =>
   (af (aC (i:=3) lW.nd rfl (Or.inl rfl) (bO (Ev.obs (ge (Ev.obs (aJ (Ev.obs (bO (ak 0) (Ev.obs ag))) (Ev.obs ag))) (Ev.obs (aJ (Ev.obs (aJ (Ev.obs (ge (ak 1) (ak 1))) (Ev.obs (ge (Ev.obs ag) (ak 1))))) (Ev.obs ag))))) (Ev.obs ag)))
   (ap (aW (bO (Ev.obs (cj (Ev.obs (bO (Ev.obs (aJ (Ev.obs (ge (ak 3) (ak 3))) (Ev.obs (cj (ak 3) (Ev.obs ag))))) (Ev.obs ag))) (Ev.obs ag))) (ak 2)))))
def b__Lnames:DE→Option Out :=
 (aq (az 1 (cst (.str "abcdefghijklmnopqrstuvwxyz")))
 (aq (az 2 (bin kF (cst (.str "")) (aE [5] (c4 (ac (cst (.int 7)) ah)) (nmG 5) noT (bin ixE (aa 1) (ay 3 g__Lspin (ac (var 0) (ac (bin aM (cst (.int 3)) (aa 5)) (ac (cst (.int 26)) ah))))))))
 (aq (ifS (tst (bin eqO (bin bC (aa 0) (cst (.int 3))) (cst (.int 0))))
 (aH (aE [5] (c4 (ac (cst (.int 5)) ah)) (nmG 5) noT (aY (aa 2) noP (be (bin aM (aa 5) (cst (.int 1)))))))
 br)
 (aq (ifS (tst (bin eqO (bin bC (aa 0) (cst (.int 3))) (cst (.int 1))))
 (aH (aE [5] (c4 (ac (cst (.int 5)) ah)) (nmG 5) noT (aY (aa 2) (be (var 5)) noP)))
 br)
 (aq (az 3 (bin bC (bin bS (aa 0) (cst (.int 3))) (cst (.int 7))))
 (aq (az 4 (bin bC (bin bS (aa 0) (cst (.int 21))) (cst (.int 26))))
 (aH (aE [5] (c4 (ac (cst (.int 5)) ah)) (nmG 5) noT (bin aM (bin aM (aY (aa 2) noP (be (var 3))) (bin ixE (aa 1) (bin bC (bin aM (aa 4) (bin fJ (cst (.int 3)) (aa 5))) (cst (.int 26))))) (aY (aa 2) (be (bin aM (aa 3) (cst (.int 1)))) noP))))))))))
def g__Lnames:List D→Option D:=bV 1 6 b__Lnames
theorem qF (T:TX K mg):bD P w K mg base CX0 3 T.f__Lnames T.fd__Lnames ["_law_cell_here"] (spD 1 g__Lnames) :=
 fnG (k:=2) (b:=b__Lnames) T.F__Lnames cQ rfl rfl rfl rfl fun cdv A outer s H E hr =>
   (af (aC (i:=1) cQ.nd rfl (Or.inr rfl) gd)
   (af (aC (i:=2) cQ.nd rfl (Or.inr rfl) (sw (Ev.obs gd) (Ev.obs (bn (js:=[5]) (Blk.of (sc:=ai eF) (N:=fX) (by decide +kernel) rfl rfl) rfl (bE rfl T.n_range (ae ag al)) aS (fun _ _ _ _=>(aw (i:=5) cQ.nd rfl (Or.inl rfl))) (fun _ _ _ _=>ba) (fun _ _ _ _=>(bd hr.units (ak 1) (Ev.obs (aK (fO T) (hr.mono (by decide)) rfl T.m__Lspin T.F__Lspin.kp T.b__Lspin (ae (aA 0) (ae (aJ (Ev.obs ag) (ak 5)) (ae ag al))))) (fun _ _=>rfl)))))))
   (af (cJ (fS hr.units (Ev.obs (bO (ak 0) (Ev.obs ag))) (Ev.obs ag))
   (ap (aW (Ev.frz (bn (js:=[5]) (Blk.of (sc:=ai eF) (N:=fX) (by decide +kernel) rfl rfl) rfl (bE rfl T.n_range (ae ag al)) aS (fun _ _ _ _=>(aw (i:=5) cQ.nd rfl (Or.inl rfl))) (fun _ _ _ _=>ba) (fun _ _ _ _=>(cI (ak 2) fu (ck (aJ (ak 5) (Ev.obs ag)))))))))
   bo)
   (af (cJ (fS hr.units (Ev.obs (bO (ak 0) (Ev.obs ag))) (Ev.obs ag))
   (ap (aW (Ev.frz (bn (js:=[5]) (Blk.of (sc:=ai eF) (N:=fX) (by decide +kernel) rfl rfl) rfl (bE rfl T.n_range (ae ag al)) aS (fun _ _ _ _=>(aw (i:=5) cQ.nd rfl (Or.inl rfl))) (fun _ _ _ _=>ba) (fun _ _ _ _=>(cI (ak 2) (ck (aA 5)) fu))))))
   bo)
   (af (aC (i:=3) cQ.nd rfl (Or.inr rfl) (bO (Ev.obs (cj (ak 0) (Ev.obs ag))) (Ev.obs ag)))
   (af (aC (i:=4) cQ.nd rfl (Or.inr rfl) (bO (Ev.obs (cj (ak 0) (Ev.obs ag))) (Ev.obs ag)))
   (ap (aW (Ev.frz (bn (js:=[5]) (Blk.of (sc:=ai eF) (N:=fX) (by decide +kernel) rfl rfl) rfl (bE rfl T.n_range (ae ag al)) aS (fun _ _ _ _=>(aw (i:=5) cQ.nd rfl (Or.inl rfl))) (fun _ _ _ _=>ba) (fun _ _ _ _=>(aJ (Ev.obs (aJ (Ev.obs (cI (ak 2) fu (ck (aA 3)))) (Ev.obs (bd hr.units (ak 1) (Ev.obs (bO (Ev.obs (aJ (ak 4) (Ev.obs (ge (Ev.obs ag) (ak 5))))) (Ev.obs ag))) (fun _ _=>rfl))))) (Ev.obs (cI (ak 2) (ck (aJ (ak 3) (Ev.obs ag))) fu))))))))))))))
def b__Lcell:DE→Option Out :=
 (aq (ifS (tst (bin ltD (aa 1) (un bj (aa 0))))
 (aH (bin bC (bin ixE (aa 0) (aa 1)) (bin e9 (cst (.int 10)) (cst (.int 18)))))
 br)
 (aH (cst (.int 0))))
def g__Lcell:List D→Option D:=bV 2 2 b__Lcell
theorem g7 (T:TX K mg):bD P w K mg base CX0 2 T.f__Lcell T.fd__Lcell ["_law_script","_law_at"] (spD 2 g__Lcell) :=
 fnG (k:=1) (b:=b__Lcell) T.F__Lcell tJ rfl rfl rfl rfl fun cdv A outer s H E hr =>
   (af (cJ (iQ  (ak 1) (Ev.obs (aT rfl T.n_len (ak 0))))
   (ap (aW (bO (Ev.obs (bd hr.units (ak 0) (ak 1) (fun _ _=>rfl))) (Ev.obs (ik (Ev.obs ag) (Ev.obs ag))))))
   bo)
   (ap (aW ag)))
def b__Lvocabulary:DE→Option Out :=
 (aq (az 1 (cst (.str "abcdefghijklmnopqrstuvwxyz")))
 (aq (az 2 (bin kF (cst (.str "")) (aE [4] (c4 (ac (cst (.int 12)) ah)) (nmG 4) noT (bin ixE (aa 1) (ay 3 g__Lspin (ac (var 0) (ac (bin aM (cst (.int 17)) (aa 4)) (ac (cst (.int 26)) ah))))))))
 (aq (az 3 (aE [4] (c4 (ac (bin aM (cst (.int 1)) (bin bC (aa 0) (cst (.int 4)))) ah)) (nmG 4) noT (aY (aa 2) noP (be (bin aM (cst (.int 1)) (ay 3 g__Lspin (ac (var 0) (ac (bin aM (cst (.int 31)) (aa 4)) (ac (cst (.int 12)) ah)))))))))
 (aq (ifS (tst (bin eqO (bin bC (bin bS (aa 0) (cst (.int 4))) (cst (.int 3))) (cst (.int 0))))
 (az 3 (bin aM (aE [5] (bg aL (var 3)) (nmG 5) noT (bin aM (bin ixE (aa 1) (bin bC (bin aM (un t0 (bin ixE (aa 5) (cst (.int (-1))))) (un bj (aa 3))) (cst (.int 26)))) (aY (aa 5) (be (cst (.int 1))) noP))) (aa 3)))
 br)
 (aH (var 3))))))
def g__Lvocabulary:List D→Option D:=bV 1 6 b__Lvocabulary
theorem jz (T:TX K mg):bD P w K mg base CX0 3 T.f__Lvocabulary T.fd__Lvocabulary ["_law_cell_here"] (spD 1 g__Lvocabulary) :=
 fnG (k:=2) (b:=b__Lvocabulary) T.F__Lvocabulary bU rfl rfl rfl rfl fun cdv A outer s H E hr =>
   (af (aC (i:=1) bU.nd rfl (Or.inr rfl) gd)
   (af (aC (i:=2) bU.nd rfl (Or.inr rfl) (sw (Ev.obs gd) (Ev.obs (bn (js:=[4]) (Blk.of (sc:=ai cZ) (N:=dM) (by decide +kernel) rfl rfl) rfl (bE rfl T.n_range (ae ag al)) aS (fun _ _ _ _=>(aw (i:=4) bU.nd rfl (Or.inl rfl))) (fun _ _ _ _=>ba) (fun _ _ _ _=>(bd hr.units (ak 1) (Ev.obs (aK (fO T) (hr.mono (by decide)) rfl T.m__Lspin T.F__Lspin.kp T.b__Lspin (ae (aA 0) (ae (aJ (Ev.obs ag) (ak 4)) (ae ag al))))) (fun _ _=>rfl)))))))
   (af (aC (i:=3) bU.nd rfl (Or.inr rfl) (Ev.frz (bn (js:=[4]) (Blk.of (sc:=ai cZ) (N:=dM) (by decide +kernel) rfl rfl) rfl (bE rfl T.n_range (ae (aJ (Ev.obs ag) (Ev.obs (bO (ak 0) (Ev.obs ag)))) al)) aS (fun _ _ _ _=>(aw (i:=4) bU.nd rfl (Or.inl rfl))) (fun _ _ _ _=>ba) (fun _ _ _ _=>(cI (ak 2) fu (ck (aJ (Ev.obs ag) (Ev.obs (aK (fO T) (hr.mono (by decide)) rfl T.m__Lspin T.F__Lspin.kp T.b__Lspin (ae (aA 0) (ae (aJ (Ev.obs ag) (ak 4)) (ae ag al))))))))))))
   (af (cJ (fS hr.units (Ev.obs (bO (Ev.obs (cj (ak 0) (Ev.obs ag))) (Ev.obs ag))) (Ev.obs ag))
   (ap (aC (i:=3) bU.nd rfl (Or.inr rfl) (aJ (Ev.obs (bn (js:=[5]) (Blk.of (sc:=ai cZ) (N:=dM) (by decide +kernel) rfl rfl) rfl (bN (aA 3)) aS (fun _ _ _ _=>(aw (i:=5) bU.nd rfl (Or.inl rfl))) (fun _ _ _ _=>ba) (fun _ _ _ _=>(aJ (Ev.obs (bd hr.units (ak 1) (Ev.obs (bO (Ev.obs (aJ (Ev.obs (Bk rfl T.n_ord rfl (Ev.obs (bd hr.units (ak 5) (Ev.obs Bn) (fun _ _=>rfl))))) (Ev.obs (aT rfl T.n_len (ak 3))))) (Ev.obs ag))) (fun _ _=>rfl))) (Ev.obs (cI (ak 5) (ck ag) fu)))))) (ak 3))))
   bo)
   (ap (aW (aA 3)))))))
def b__Ltexts:DE→Option Out :=
 (aq (az 3 (cst (.str "abcdefghijklmnopqrstuvwxyz")))
 (aq (bL 4 (bf ah))
 (aq (cD (c4 (ac (var 1) ah)) (nmG 5)
 (aq (az 6 (bin aM (cst (.int 1)) (bin bC (aa 0) (aa 2))))
 (aq (az 0 (bin bS (aa 0) (aa 2)))
 (aq (az 7 (cst (.str "")))
 (aq (cD (c4 (ac (var 6) ah)) (nmG 8)
 (aq (az 7 (bin aM (aa 7) (bin ixE (aa 3) (bin bC (aa 0) (cst (.int 26))))))
 (az 0 (bin bS (aa 0) (cst (.int 26))))))
 (ifS (tst (bin nr (aa 7) (aa 4)))
 (cm 4 (var 7))
 br))))))
 (fun E=>(aH (var 4)) (fzE 4 E)))))
def g__Ltexts:List D→Option D:=bV 3 9 b__Ltexts
theorem kj (T:TX K mg):bD P w K mg base CX0 2 T.f__Ltexts T.fd__Ltexts ["_law_number","_law_many","_law_most"] (spD 3 g__Ltexts) :=
 fnG (k:=1) (b:=b__Ltexts) T.F__Ltexts cC rfl rfl rfl rfl fun cdv A outer s H E hr =>
   (af (aC (i:=3) cC.nd rfl (Or.inl rfl) gd)
   (af (cE (i:=4) cC.nd rfl (Or.inl rfl) (bJ al))
   (af (b8 D_ rfl (bE rfl T.n_range (ae (aA 1) al)) (aw (i:=5) cC.nd rfl (Or.inl rfl))
   (af (aC (i:=6) cC.nd rfl (Or.inl rfl) (aJ (Ev.obs ag) (Ev.obs (bO (ak 0) (ak 2)))))
   (af (aC (i:=0) cC.nd rfl (Or.inl rfl) (cj (ak 0) (ak 2)))
   (af (aC (i:=7) cC.nd rfl (Or.inl rfl) gd)
   (af (b8 D_ rfl (bE rfl T.n_range (ae (aA 6) al)) (aw (i:=8) cC.nd rfl (Or.inl rfl))
   (af (aC (i:=7) cC.nd rfl (Or.inl rfl) (aJ (ak 7) (Ev.obs (bd hr.units (ak 3) (Ev.obs (bO (ak 0) (Ev.obs ag))) (fun _ _=>rfl)))))
   (ap (aC (i:=0) cC.nd rfl (Or.inl rfl) (cj (ak 0) (Ev.obs ag))))))
   (ap (cJ (sB hr.units (ak 7) (ak 4) rfl)
   (ap (b5 (i:=4) (pv 4) (aA 7)))
   bo)))))))
   (ap (gp 4 (aW (aA 4)))))))
def b__Llong:DE→Option Out :=
 (aq (ifS (tst (bin ltD (aa 1) (un bj (aa 0))))
 (aH (bin bC (bin ixE (aa 0) (aa 1)) (bin fJ (bin fJ (bin e9 (cst (.int 10)) (cst (.int 60))) (bin e9 (cst (.int 10)) (cst (.int 60)))) (bin e9 (cst (.int 10)) (cst (.int 60))))))
 br)
 (aH (cst (.int 0))))
def g__Llong:List D→Option D:=bV 2 2 b__Llong
theorem i7 (T:TX K mg):bD P w K mg base CX0 2 T.f__Llong T.fd__Llong ["_law_script","_law_at"] (spD 2 g__Llong) :=
 fnG (k:=1) (b:=b__Llong) T.F__Llong tI rfl rfl rfl rfl fun cdv A outer s H E hr =>
   (af (cJ (iQ  (ak 1) (Ev.obs (aT rfl T.n_len (ak 0))))
   (ap (aW (bO (Ev.obs (bd hr.units (ak 0) (ak 1) (fun _ _=>rfl))) (Ev.obs (ge (Ev.obs (ge (Ev.obs (ik (Ev.obs ag) (Ev.obs ag))) (Ev.obs (ik (Ev.obs ag) (Ev.obs ag))))) (Ev.obs (ik (Ev.obs ag) (Ev.obs ag))))))))
   bo)
   (ap (aW ag)))
def b__Lby_spin:DE→Option Out :=
 (aq (az 3 (aY (aE [4] (c4 (ac (un bj (aa 1)) ah)) (nmG 4) (tst (bin eqO (ay 3 g__Lspin (ac (var 0) (ac (var 4) (ac (cst (.int 4)) ah)))) (cst (.int 0)))) (bin ixE (aa 1) (aa 4))) noP (be (cst (.int 3)))))
 (aq (ifS (tst (bin eqO (aa 3) (bf ah)))
 (az 3 (bf (ac (bin ixE (aa 1) (bin bC (bin bS (aa 0) (cst (.int 11))) (un bj (aa 1)))) ah)))
 br)
 (aH (e8 (ac (var 3) (ac (aE [4] (c4 (ac (bin aM (cst (.int 1)) (bin bC (bin bS (aa 0) (cst (.int 5))) (cst (.int 4)))) ah)) (nmG 4) noT (bin ixE (aa 2) (ay 3 g__Lspin (ac (var 0) (ac (bin aM (cst (.int 40)) (aa 4)) (ac (un bj (aa 2)) ah)))))) ah))))))
def g__Lby_spin:List D→Option D:=bV 3 5 b__Lby_spin
theorem nk (T:TX K mg):bD P w K mg base CX0 3 T.f__Lby_spin T.fd__Lby_spin ["_law_number","_law_free","_law_words_here"] (spD 3 g__Lby_spin) :=
 fnG (k:=2) (b:=b__Lby_spin) T.F__Lby_spin dC rfl rfl rfl rfl fun cdv A outer s H E hr =>
   (af (aC (i:=3) dC.nd rfl (Or.inl rfl) (cI (Ev.obs (bn (js:=[4]) (Blk.of (sc:=ai fg) (N:=gT) (by decide +kernel) rfl rfl) rfl (bE rfl T.n_range (ae (aT rfl T.n_len (ak 1)) al)) aS (fun _ _ _ _=>(aw (i:=4) dC.nd rfl (Or.inl rfl))) (fun _ _ _ _=>(gN (fS hr.units (Ev.obs (aK (fO T) (hr.mono (by decide)) rfl T.m__Lspin T.F__Lspin.kp T.b__Lspin (ae (aA 0) (ae (aA 4) (ae ag al))))) (Ev.obs ag)))) (fun _ _ _ _=>(bd hr.units (ak 1) (ak 4) (fun _ _=>rfl))))) fu (ck ag)))
   (af (cJ (fS hr.units (ak 3) (Ev.obs (bJ al)))
   (ap (aC (i:=3) dC.nd rfl (Or.inl rfl) (Ev.frz (bJ (ae (bd hr.units (ak 1) (Ev.obs (bO (Ev.obs (cj (ak 0) (Ev.obs ag))) (Ev.obs (aT rfl T.n_len (ak 1))))) (fun _ _=>rfl)) al)))))
   bo)
   (ap (aW (nF (ae (aA 3) (ae (Ev.frz (bn (js:=[4]) (Blk.of (sc:=ai fg) (N:=gT) (by decide +kernel) rfl rfl) rfl (bE rfl T.n_range (ae (aJ (Ev.obs ag) (Ev.obs (bO (Ev.obs (cj (ak 0) (Ev.obs ag))) (Ev.obs ag)))) al)) aS (fun _ _ _ _=>(aw (i:=4) dC.nd rfl (Or.inl rfl))) (fun _ _ _ _=>ba) (fun _ _ _ _=>(bd hr.units (ak 2) (Ev.obs (aK (fO T) (hr.mono (by decide)) rfl T.m__Lspin T.F__Lspin.kp T.b__Lspin (ae (aA 0) (ae (aJ (Ev.obs ag) (ak 4)) (ae (aT rfl T.n_len (ak 2)) al))))) (fun _ _=>rfl))))) al)))))))
def b__Lby_digits:DE→Option Out :=
 (aq (bL 4 (bf ah))
 (aq (cD (bg aL (var 1)) (nmG 5)
 (aq (ifS (gu (tst (bin eqO (bin bC (aa 0) (cst (.int 2))) (cst (.int 1)))) (tst (bin ltD (un bj (aa 4)) (aa 3))))
 (cm 4 (var 5))
 br)
 (az 0 (bin bS (aa 0) (cst (.int 2))))))
 (aq (ifS (tst (bin eqO (aa 4) (bf ah)))
 (aq (bL 4 (bf (ac (bin ixE (aa 1) (bin bC (aa 0) (un bj (aa 1)))) ah)))
 (az 0 (bin bS (aa 0) (un bj (aa 1)))))
 br)
 (aq (az 6 (bin aM (cst (.int 1)) (bin bC (aa 0) (cst (.int 4)))))
 (aq (az 0 (bin bS (aa 0) (cst (.int 4))))
 (aq (bL 7 (bf ah))
 (aq (cD (c4 (ac (var 6) ah)) (nmG 8)
 (aq (cm 7 (bin ixE (aa 2) (bin bC (aa 0) (un bj (aa 2)))))
 (az 0 (bin bS (aa 0) (un bj (aa 2))))))
 (fun E=>(fun E=>(aH (e8 (ac (var 4) (ac (var 7) ah)))) (fzE 4 E)) (fzE 7 E)))))))))
def g__Lby_digits:List D→Option D:=bV 4 9 b__Lby_digits
theorem kl (T:TX K mg):bD P w K mg base CX0 2 T.f__Lby_digits T.fd__Lby_digits ["_law_number","_law_free","_law_words_here","_law_most"] (spD 4 g__Lby_digits) :=
 fnG (k:=1) (b:=b__Lby_digits) T.F__Lby_digits bp rfl rfl rfl rfl fun cdv A outer s H E hr =>
   (af (cE (i:=4) bp.nd rfl (Or.inl rfl) (bJ al))
   (af (b8 D_ rfl (bN (aA 1)) (aw (i:=5) bp.nd rfl (Or.inl rfl))
   (af (cJ (Ew.et (nE (fS hr.units (Ev.obs (bO (ak 0) (Ev.obs ag))) (Ev.obs ag)) (jK (iQ  (Ev.obs (aT rfl T.n_len (ak 4))) (ak 3)))))
   (ap (b5 (i:=4) (pv 4) (aA 5)))
   bo)
   (ap (aC (i:=0) bp.nd rfl (Or.inl rfl) (cj (ak 0) (Ev.obs ag))))))
   (af (cJ (fS hr.units (ak 4) (Ev.obs (bJ al)))
   (af (cE (i:=4) bp.nd rfl (Or.inl rfl) (bJ (ae (bd hr.units (ak 1) (Ev.obs (bO (ak 0) (Ev.obs (aT rfl T.n_len (ak 1))))) (fun _ _=>rfl)) al)))
   (ap (aC (i:=0) bp.nd rfl (Or.inl rfl) (cj (ak 0) (Ev.obs (aT rfl T.n_len (ak 1)))))))
   bo)
   (af (aC (i:=6) bp.nd rfl (Or.inl rfl) (aJ (Ev.obs ag) (Ev.obs (bO (ak 0) (Ev.obs ag)))))
   (af (aC (i:=0) bp.nd rfl (Or.inl rfl) (cj (ak 0) (Ev.obs ag)))
   (af (cE (i:=7) bp.nd rfl (Or.inl rfl) (bJ al))
   (af (b8 D_ rfl (bE rfl T.n_range (ae (aA 6) al)) (aw (i:=8) bp.nd rfl (Or.inl rfl))
   (af (b5 (i:=7) (pv 7) (bd hr.units (ak 2) (Ev.obs (bO (ak 0) (Ev.obs (aT rfl T.n_len (ak 2))))) (fun _ _=>rfl)))
   (ap (aC (i:=0) bp.nd rfl (Or.inl rfl) (cj (ak 0) (Ev.obs (aT rfl T.n_len (ak 2))))))))
   (ap (gp 7 (gp 4 (aW (nF (ae (aA 4) (ae (aA 7) al))))))))))))))
def b__Lplay:DE→Option Out :=
 (aq (bL 3 (jx 1 g__Lnames (ac (ay 2 g__Lcell (ac (var 0) (ac (var 1) ah))) ah)))
 (aq (az 4 (ay 1 g__Lvocabulary (ac (ay 2 g__Lcell (ac (var 0) (ac (bin aM (aa 1) (cst (.int 1))) ah))) ah)))
 (aq (az 5 (bin eqO (bin bC (bin bS (ay 2 g__Lcell (ac (var 0) (ac (cst (.int 0)) ah))) (cst (.int 1000))) (cst (.int 2))) (cst (.int 1))))
 (aq (ifS (tst (var 5))
 (aq (bL 3 (jx 3 g__Ltexts (ac (ay 2 g__Llong (ac (var 0) (ac (var 1) ah))) (ac (cst (.int 5)) (ac (cst (.int 8)) ah)))))
 (aq (az 4 (ay 3 g__Ltexts (ac (bin bS (ay 2 g__Llong (ac (var 0) (ac (bin aM (aa 1) (cst (.int 1))) ah))) (cst (.int 8))) (ac (bin aM (cst (.int 1)) (bin bC (ay 2 g__Llong (ac (var 0) (ac (bin aM (aa 1) (cst (.int 1))) ah))) (cst (.int 8)))) (ac (cst (.int 12)) ah)))))
 (ifS (tst (bin eqO (un bj (aa 3)) (cst (.int 1))))
 (cm 3 (bin ixE (bf (ac (cst (.str "a")) (ac (cst (.str "b")) ah))) (un uA (bin eqO (bin ixE (aa 3) (cst (.int 0))) (cst (.str "a"))))))
 br)))
 br)
 (aq (bL 6 (bf ah))
 (aq (az 7 (bf ah))
 (aq (cD (bg aL (aY (aa 0) (be (bin aM (aa 1) (cst (.int 2)))) (be (bin aM (bin aM (aa 1) (cst (.int 2))) (aa 2))))) (nmG 8)
 (aq (fun E=>(az 9 (un lV (aE [11] (bg aL (var 3)) (nmG 11) (tst (bin nr (aa 11) (aa 7))) (var 11)))) (fzE 3 E))
 (aq (dU (ay 3 g__Lby_spin (ac (bin bC (aa 8) (bin e9 (cst (.int 10)) (cst (.int 18)))) (ac (var 9) (ac (var 4) ah)))) (cK 2 (aQ (nmG 7) (aQ (nmG 10) cL))))
 (aq (ifS (tst (var 5))
 (dU (ay 4 g__Lby_digits (ac (bin bC (aa 8) (bin e9 (cst (.int 10)) (cst (.int 18)))) (ac (var 9) (ac (var 4) (ac (bin cX (un bj (aa 3)) (cst (.int 1))) ah))))) (cK 2 (aQ (nmG 7) (aQ (nmG 10) cL))))
 br)
 (cm 6 (e8 (ac (un bx (aa 7)) (ac (un bx (aa 10)) ah))))))))
 (aH (un bx (aa 6))))))))))
def g__Lplay:List D→Option D:=bV 3 12 b__Lplay
theorem ub (T:TX K mg):bD P w K mg base CX0 4 T.f__Lplay T.fd__Lplay ["_law_script","_law_at","_law_most"] (spD 3 g__Lplay) :=
 fnG (k:=3) (b:=b__Lplay) T.F__Lplay bY rfl rfl rfl rfl fun cdv A outer s H E hr =>
   (af (cE (i:=3) bY.nd rfl (Or.inl rfl) (pF (qF T) (hr.mono (by decide)) rfl T.m__Lnames T.F__Lnames.kp T.b__Lnames (ae (aK (g7 T) (hr.mono (by decide)) rfl T.m__Lcell T.F__Lcell.kp T.b__Lcell (ae (aA 0) (ae (aA 1) al))) al)))
   (af (aC (i:=4) bY.nd rfl (Or.inl rfl) (aK (jz T) (hr.mono (by decide)) rfl T.m__Lvocabulary T.F__Lvocabulary.kp T.b__Lvocabulary (ae (aK (g7 T) (hr.mono (by decide)) rfl T.m__Lcell T.F__Lcell.kp T.b__Lcell (ae (aA 0) (ae (aJ (ak 1) (Ev.obs ag)) al))) al)))
   (af (aC (i:=5) bY.nd rfl (Or.inl rfl) (sy hr.units (Ev.obs (bO (Ev.obs (cj (Ev.obs (aK (g7 T) (hr.mono (by decide)) rfl T.m__Lcell T.F__Lcell.kp T.b__Lcell (ae (aA 0) (ae ag al)))) (Ev.obs ag))) (Ev.obs ag))) (Ev.obs ag)))
   (af (cJ (jc (aA 5))
   (af (cE (i:=3) bY.nd rfl (Or.inl rfl) (pF (kj T) (hr.mono (by decide)) rfl T.m__Ltexts T.F__Ltexts.kp T.b__Ltexts (ae (aK (i7 T) (hr.mono (by decide)) rfl T.m__Llong T.F__Llong.kp T.b__Llong (ae (aA 0) (ae (aA 1) al))) (ae ag (ae ag al)))))
   (af (aC (i:=4) bY.nd rfl (Or.inl rfl) (aK (kj T) (hr.mono (by decide)) rfl T.m__Ltexts T.F__Ltexts.kp T.b__Ltexts (ae (cj (Ev.obs (aK (i7 T) (hr.mono (by decide)) rfl T.m__Llong T.F__Llong.kp T.b__Llong (ae (aA 0) (ae (aJ (ak 1) (Ev.obs ag)) al)))) (Ev.obs ag)) (ae (aJ (Ev.obs ag) (Ev.obs (bO (Ev.obs (aK (i7 T) (hr.mono (by decide)) rfl T.m__Llong T.F__Llong.kp T.b__Llong (ae (aA 0) (ae (aJ (ak 1) (Ev.obs ag)) al)))) (Ev.obs ag)))) (ae ag al)))))
   (ap (cJ (fS hr.units (Ev.obs (aT rfl T.n_len (ak 3))) (Ev.obs ag))
   (ap (b5 (i:=3) (pv 3) (bd hr.units (Ev.obs (bJ (ae gd (ae gd al)))) (Ev.obs (zg rfl T.n_int rfl (Ev.obs (sy hr.units (Ev.obs (bd hr.units (ak 3) (Ev.obs ag) (fun _ _=>rfl))) (Ev.obs gd))))) (fun _ _=>rfl))))
   bo))))
   bo)
   (af (cE (i:=6) bY.nd rfl (Or.inl rfl) (bJ al))
   (af (aC (i:=7) bY.nd rfl (Or.inr rfl) (Ev.frz (bJ al)))
   (af (b8 D_ rfl (bN (cI (ak 0) (ck (aJ (ak 1) (Ev.obs ag))) (ck (aJ (Ev.obs (aJ (ak 1) (Ev.obs ag))) (ak 2))))) (aw (i:=8) bY.nd rfl (Or.inl rfl))
   (af (gp 3 (aC (i:=9) bY.nd rfl (Or.inl rfl) (Ev.frz (w8 rfl rfl T.n_sorted rfl (Ev.obs (bn (js:=[11]) (Blk.of (sc:=ai j7) (N:=p9) (by decide +kernel) rfl rfl) rfl (bN (aA 3)) aS (fun _ _ _ _=>(aw (i:=11) bY.nd rfl (Or.inl rfl))) (fun _ _ _ _=>(gN (sB hr.units (ak 11) (ak 7) rfl))) (fun _ _ _ _=>(aA 11))))))))
   (af (mv (aK (nk T) (hr.mono (by decide)) rfl T.m__Lby_spin T.F__Lby_spin.kp T.b__Lby_spin (ae (bO (ak 8) (Ev.obs (ik (Ev.obs ag) (Ev.obs ag)))) (ae (aA 9) (ae (aA 4) al)))) (d_ rfl (bb (aw (i:=7) bY.nd rfl (Or.inr rfl)) (bb (aw (i:=10) bY.nd rfl (Or.inl rfl)) dk))))
   (af (cJ (jc (aA 5))
   (ap (mv (aK (kl T) (hr.mono (by decide)) rfl T.m__Lby_digits T.F__Lby_digits.kp T.b__Lby_digits (ae (bO (ak 8) (Ev.obs (ik (Ev.obs ag) (Ev.obs ag)))) (ae (aA 9) (ae (aA 4) (ae (cS (Ev.obs (aT rfl T.n_len (ak 3))) (Ev.obs ag)) al))))) (d_ rfl (bb (aw (i:=7) bY.nd rfl (Or.inr rfl)) (bb (aw (i:=10) bY.nd rfl (Or.inl rfl)) dk)))))
   bo)
   (ap (b5 (i:=6) (pv 6) (nF (ae (cH rfl T.n_tuple rfl (ak 7)) (ae (cH rfl T.n_tuple rfl (ak 10)) al)))))))))
   (ap (aW (cH rfl T.n_tuple rfl (ak 6)))))))))))
def b__Lwords:DE→Option Out :=
 (aq (bL 1 (bf ah))
 (aq (cD (bg bW (var 0)) (cK 2 (aQ (nmG 2) (aQ (nmG 3) cL)))
 (lE 1 (aa 3)))
 (fun E=>(aH (var 1)) (fzE 1 E))))
def g8:List D→Option D:=bV 1 4 b__Lwords
theorem qE (T:TX K mg):bD P w K mg base CX0 2 T.f__Lwords T.fd__Lwords ["_law_play_here"] (spD 1 g8) :=
 fnG (k:=1) (b:=b__Lwords) T.F__Lwords f7 rfl rfl rfl rfl fun cdv A outer s H E hr =>
   (af (cE (i:=1) f7.nd rfl (Or.inl rfl) (bJ al))
   (af (b8 D_ rfl (k9 (aA 0)) (d_ rfl (bb (aw (i:=2) f7.nd rfl (Or.inl rfl)) (bb (aw (i:=3) f7.nd rfl (Or.inl rfl)) dk)))
   (ap (je (i:=1) (pv 1) (ak 3))))
   (ap (gp 1 (aW (aA 1))))))
def b__Lentries:DE→Option Out :=
 (aq (bL 1 (bf ah))
 (aq (bL 2 uP)
 (aq (az 3 (cst (.int 0)))
 (aq (cD (c4 (ac (un bj (aa 0)) ah)) (nmG 4)
 (aq (cD (bg aL (bin ixE (bin ixE (aa 0) (aa 4)) (cst (.int 0)))) (nmG 5)
 (cm 1 (e8 (ac (var 4) (ac (var 5) (ac (kL (aa 2) (var 5) (cst (.int 0))) (ac (var 3) ah)))))))
 (aq (az 3 (bin aM (aa 3) (un bj (bin ixE (bin ixE (aa 0) (aa 4)) (cst (.int 1))))))
 (cD (bg aL (bin ixE (bin ixE (aa 0) (aa 4)) (cst (.int 0)))) (nmG 5)
 (qf 2 (var 5) (var 3))))))
 (fun E=>(aH (var 1)) (fzE 1 E))))))
def ft:List D→Option D:=bV 1 6 b__Lentries
theorem nj (T:TX K mg):bD P w K mg base CX0 2 T.f__Lentries T.fd__Lentries ["_law_play_here"] (spD 1 ft) :=
 fnG (k:=1) (b:=b__Lentries) T.F__Lentries cw rfl rfl rfl rfl fun cdv A outer s H E hr =>
   (af (cE (i:=1) cw.nd rfl (Or.inl rfl) (bJ al))
   (af (cE (i:=2) cw.nd rfl (Or.inl rfl) sA)
   (af (aC (i:=3) cw.nd rfl (Or.inl rfl) ag)
   (af (b8 D_ rfl (bE rfl T.n_range (ae (aT rfl T.n_len (ak 0)) al)) (aw (i:=4) cw.nd rfl (Or.inl rfl))
   (af (b8 D_ rfl (bN (bd hr.units (Ev.obs (bd hr.units (ak 0) (ak 4) (fun _ _=>rfl))) (Ev.obs ag) (fun _ _=>rfl))) (aw (i:=5) cw.nd rfl (Or.inl rfl))
   (ap (b5 (i:=1) (pv 1) (nF (ae (aA 4) (ae (aA 5) (ae (sx hr.units (ak 2) (aA 5) ag) (ae (aA 3) al))))))))
   (af (aC (i:=3) cw.nd rfl (Or.inl rfl) (aJ (ak 3) (Ev.obs (aT rfl T.n_len (Ev.obs (bd hr.units (Ev.obs (bd hr.units (ak 0) (ak 4) (fun _ _=>rfl))) (Ev.obs ag) (fun _ _=>rfl)))))))
   (ap (b8 D_ rfl (bN (bd hr.units (Ev.obs (bd hr.units (ak 0) (ak 4) (fun _ _=>rfl))) (Ev.obs ag) (fun _ _=>rfl))) (aw (i:=5) cw.nd rfl (Or.inl rfl))
   (ap (sD hr.units (i:=2) (pv 2) (aA 5) (aA 3))))))))
   (ap (gp 1 (aW (aA 1))))))))
def b__Learly:DE→Option Out :=
 (aq (az 4 (aY (aa 0) (be (bin cX (aa 2) (aa 3))) (be (var 2))))
 (aH (aE [5] (tK (ac (bin aM (aa 1) (aa 3)) (ac (var 2) ah))) (nmG 5) (tst (bin eqO (aY (aa 0) (be (bin cX (aa 5) (aa 3))) (be (var 5))) (aa 4))) (var 5))))
def eK:List D→Option D:=bV 4 6 b__Learly
theorem qG (T:TX K mg):bD P w K mg base CX0 2 T.f__Learly T.fd__Learly ["_law_words_here","_law_start","_law_end","_law_many"] (spD 4 eK) :=
 fnG (k:=1) (b:=b__Learly) T.F__Learly h_ rfl rfl rfl rfl fun cdv A outer s H E hr =>
   (af (aC (i:=4) h_.nd rfl (Or.inr rfl) (cI (ak 0) (ck (cS (ak 2) (ak 3))) (ck (aA 2))))
   (ap (aW (Ev.frz (bn (js:=[5]) (Blk.of (sc:=ai i5) (N:=mR) (by decide +kernel) rfl rfl) rfl (jf rfl T.n_range (ae (aJ (ak 1) (ak 3)) (ae (aA 2) al))) aS (fun _ _ _ _=>(aw (i:=5) h_.nd rfl (Or.inl rfl))) (fun _ _ _ _=>(gN (fS hr.units (Ev.obs (cI (ak 0) (ck (cS (ak 5) (ak 3))) (ck (aA 5)))) (ak 4)))) (fun _ _ _ _=>(aA 5)))))))
def b__Lleft:DE→Option Out :=
 (aq (az 1 (ay 1 g8 (ac (var 0) ah)))
 (aq (bL 2 (bf ah))
 (aq (cD (bg bW (ay 1 ft (ac (var 0) ah))) (cK 4 (aQ (nmG 3) (aQ (nmG 4) (aQ (nmG 5) (aQ (nmG 6) cL)))))
 (ifS (tst (bin gtD (aa 3) (cst (.int 0))))
 (cm 2 (aE [7] (tK (ac (cst (.int 1)) (ac (bin aM (bin cX (aa 6) (aa 5)) (cst (.int 1))) ah))) (nmG 7) noT (un bj (ay 4 eK (ac (var 1) (ac (var 5) (ac (var 6) (ac (var 7) ah))))))))
 br))
 (fun E=>(aH (var 2)) (fzE 2 E)))))
def gJ:List D→Option D:=bV 1 8 b__Lleft
theorem uc (T:TX K mg):bD P w K mg base CX0 3 T.f__Lleft T.fd__Lleft ["_law_play_here"] (spD 1 gJ) :=
 fnG (k:=2) (b:=b__Lleft) T.F__Lleft dw rfl rfl rfl rfl fun cdv A outer s H E hr =>
   (af (aC (i:=1) dw.nd rfl (Or.inr rfl) (aK (qE T) (hr.mono (by decide)) rfl T.m__Lwords T.F__Lwords.kp T.b__Lwords (ae (aA 0) al)))
   (af (cE (i:=2) dw.nd rfl (Or.inl rfl) (bJ al))
   (af (b8 D_ rfl (k9 (aK (nj T) (hr.mono (by decide)) rfl T.m__Lentries T.F__Lentries.kp T.b__Lentries (ae (aA 0) al))) (d_ rfl (bb (aw (i:=3) dw.nd rfl (Or.inl rfl)) (bb (aw (i:=4) dw.nd rfl (Or.inl rfl)) (bb (aw (i:=5) dw.nd rfl (Or.inr rfl)) (bb (aw (i:=6) dw.nd rfl (Or.inr rfl)) dk)))))
   (ap (cJ (sC  (ak 3) (Ev.obs ag))
   (ap (b5 (i:=2) (pv 2) (Ev.frz (bn (js:=[7]) (Blk.of (sc:=ai j8) (N:=p_) (by decide +kernel) rfl rfl) rfl (jf rfl T.n_range (ae ag (ae (aJ (Ev.obs (cS (ak 6) (ak 5))) (Ev.obs ag)) al))) aS (fun _ _ _ _=>(aw (i:=7) dw.nd rfl (Or.inl rfl))) (fun _ _ _ _=>ba) (fun _ _ _ _=>(aT rfl T.n_len (Ev.obs (aK (qG T) (hr.mono (by decide)) rfl T.m__Learly T.F__Learly.kp T.b__Learly (ae (aA 1) (ae (aA 5) (ae (aA 6) (ae (aA 7) al))))))))))))
   bo)))
   (ap (gp 2 (aW (aA 2)))))))
def b_at_most:DE→Option Out :=
 (aH (un bx (aE [2] (bg aL (var 0)) (nmG 2) noT (lq gm (ac (var 1) (ac (var 2) ah))))))
def fR:List D→Option D:=bV 2 3 b_at_most
theorem qD (T:TX K mg):bD P w K mg base CX0 2 T.f_at_most T.fd_at_most ["row","many"] (spD 2 fR) :=
 fnG (k:=1) (b:=b_at_most) T.F_at_most j4 rfl rfl rfl rfl fun cdv A outer s H E hr =>
   (ap (aW (cH rfl T.n_tuple rfl (Ev.obs (bn (js:=[2]) (Blk.of (sc:=ai i4) (N:=mQ) (by decide +kernel) rfl rfl) rfl (bN (aA 0)) aS (fun _ _ _ _=>(aw (i:=2) j4.nd rfl (Or.inl rfl))) (fun _ _ _ _=>ba) (fun _ _ _ _=>(nH rfl rfl T.n_min rfl (ae (aA 1) (ae (aA 2) al)))))))))
def b_whole_counts:DE→Option Out :=
 (aq (bL 1 uP)
 (aq (az 2 (cst (.int 0)))
 (aq (bL 3 (bf ah))
 (aq (cD (bg bW (var 0)) (cK 2 (aQ (nmG 4) (aQ (nmG 5) cL)))
 (aq (cm 3 (un bx (aE [6] (bg aL (var 4)) (nmG 6) noT (bin cX (aa 2) (kL (aa 1) (var 6) (cst (.int 0)))))))
 (aq (jh 2 (un bj (aa 5)))
 (cD (bg aL (var 4)) (nmG 6)
 (qf 1 (var 6) (var 2))))))
 (aH (un bx (aa 3)))))))
def g_whole_counts:List D→Option D:=bV 1 7 b_whole_counts
theorem gl (T:TX K mg):bD P w K mg base CX0 2 T.f_whole_counts T.fd_whole_counts ["play"] (spD 1 g_whole_counts) :=
 fnG (k:=1) (b:=b_whole_counts) T.F_whole_counts bK rfl rfl rfl rfl fun cdv A outer s H E hr =>
   (af (cE (i:=1) bK.nd rfl (Or.inr rfl) sA)
   (af (aC (i:=2) bK.nd rfl (Or.inr rfl) ag)
   (af (cE (i:=3) bK.nd rfl (Or.inl rfl) (bJ al))
   (af (b8 D_ rfl (k9 (aA 0)) (d_ rfl (bb (aw (i:=4) bK.nd rfl (Or.inl rfl)) (bb (aw (i:=5) bK.nd rfl (Or.inl rfl)) dk)))
   (af (b5 (i:=3) (pv 3) (cH rfl T.n_tuple rfl (Ev.obs (bn (js:=[6]) (Blk.of (sc:=ai eP) (N:=gR) (by decide +kernel) rfl rfl) rfl (bN (aA 4)) aS (fun _ _ _ _=>(aw (i:=6) bK.nd rfl (Or.inl rfl))) (fun _ _ _ _=>ba) (fun _ _ _ _=>(cS (ak 2) (Ev.obs (sx hr.units (ak 1) (aA 6) ag))))))))
   (af (q9 (i:=2) bK.nd rfl (Or.inr rfl) (aT rfl T.n_len (ak 5)))
   (ap (b8 D_ rfl (bN (aA 4)) (aw (i:=6) bK.nd rfl (Or.inl rfl))
   (ap (sD hr.units (i:=1) (pv 1) (aA 6) (aA 2))))))))
   (ap (aW (cH rfl T.n_tuple rfl (ak 3))))))))
def b_alike:DE→Option Out :=
 (aH (un bx (aE [2] (bg aL (ay 1 g_whole_counts (ac (var 0) ah))) (nmG 2) noT (ay 2 fR (ac (var 2) (ac (var 1) ah))))))
def iL:List D→Option D:=bV 2 3 b_alike
theorem oZ (T:TX K mg):bD P w K mg base CX0 3 T.f_alike T.fd_alike ["play","many"] (spD 2 iL) :=
 fnG (k:=2) (b:=b_alike) T.F_alike ou rfl rfl rfl rfl fun cdv A outer s H E hr =>
   (ap (aW (cH rfl T.n_tuple rfl (Ev.obs (bn (js:=[2]) (Blk.of (sc:=ai m6) (N:=sT) (by decide +kernel) rfl rfl) rfl (bN (aK (gl T) (hr.mono (by decide)) rfl T.m_whole_counts T.F_whole_counts.kp T.b_whole_counts (ae (aA 0) al))) aS (fun _ _ _ _=>(aw (i:=2) ou.nd rfl (Or.inl rfl))) (fun _ _ _ _=>ba) (fun _ _ _ _=>(aK (qD T) (hr.mono (by decide)) rfl T.m_at_most T.F_at_most.kp T.b_at_most (ae (aA 2) (ae (aA 1) al)))))))))
def b_total:DE→Option Out :=
 (aH (un i0 (aE [1] (bg aL (var 0)) (nmG 1) noT (un i0 (aa 1)))))
def iK:List D→Option D:=bV 1 2 b_total
theorem oW (T:TX K mg):bD P w K mg base CX0 2 T.f_total T.fd_total ["counts"] (spD 1 iK) :=
 fnG (k:=1) (b:=b_total) T.F_total ot rfl rfl rfl rfl fun cdv A outer s H E hr =>
   (ap (aW (ja rfl rfl T.n_sum rfl (Ev.obs (bn (js:=[1]) (Blk.of (sc:=ai m5) (N:=sS) (by decide +kernel) rfl rfl) rfl (bN (aA 0)) aS (fun _ _ _ _=>(aw (i:=1) ot.nd rfl (Or.inl rfl))) (fun _ _ _ _=>ba) (fun _ _ _ _=>(ja rfl rfl T.n_sum rfl (ak 1))))))))
def b_words_in:DE→Option Out :=
 (aq (bL 1 (bf ah))
 (aq (cD (bg bW (var 0)) (cK 2 (aQ (nmG 2) (aQ (nmG 3) cL)))
 (lE 1 (aa 3)))
 (aH (un bx (aa 1)))))
def g_words_in:List D→Option D:=bV 1 4 b_words_in
theorem oV (T:TX K mg):bD P w K mg base CX0 2 T.f_words_in T.fd_words_in ["play"] (spD 1 g_words_in) :=
 fnG (k:=1) (b:=b_words_in) T.F_words_in ff rfl rfl rfl rfl fun cdv A outer s H E hr =>
   (af (cE (i:=1) ff.nd rfl (Or.inl rfl) (bJ al))
   (af (b8 D_ rfl (k9 (aA 0)) (d_ rfl (bb (aw (i:=2) ff.nd rfl (Or.inl rfl)) (bb (aw (i:=3) ff.nd rfl (Or.inl rfl)) dk)))
   (ap (je (i:=1) (pv 1) (ak 3))))
   (ap (aW (cH rfl T.n_tuple rfl (ak 1))))))
def b_begins:DE→Option Out :=
 (aq (bL 1 (bf ah))
 (aq (az 2 (cst (.int 0)))
 (aq (cD (bg bW (var 0)) (cK 2 (aQ (nmG 3) (aQ (nmG 4) cL)))
 (aq (cm 1 (var 2))
 (jh 2 (un bj (aa 4)))))
 (aH (un bx (aa 1))))))
def g_begins:List D→Option D:=bV 1 5 b_begins
theorem ua (T:TX K mg):bD P w K mg base CX0 2 T.f_begins T.fd_begins ["play"] (spD 1 g_begins) :=
 fnG (k:=1) (b:=b_begins) T.F_begins eE rfl rfl rfl rfl fun cdv A outer s H E hr =>
   (af (cE (i:=1) eE.nd rfl (Or.inl rfl) (bJ al))
   (af (aC (i:=2) eE.nd rfl (Or.inl rfl) ag)
   (af (b8 D_ rfl (k9 (aA 0)) (d_ rfl (bb (aw (i:=3) eE.nd rfl (Or.inl rfl)) (bb (aw (i:=4) eE.nd rfl (Or.inl rfl)) dk)))
   (af (b5 (i:=1) (pv 1) (aA 2))
   (ap (q9 (i:=2) eE.nd rfl (Or.inl rfl) (aT rfl T.n_len (ak 4))))))
   (ap (aW (cH rfl T.n_tuple rfl (ak 1)))))))
def b_all_windows:DE→Option Out :=
 (aq (az 1 (ay 1 g_words_in (ac (var 0) ah)))
 (aq (bL 2 (bf ah))
 (aq (cD (mS (ac (ay 1 g_begins (ac (var 0) ah)) (ac (ay 1 g_whole_counts (ac (var 0) ah)) ah))) (cK 2 (aQ (nmG 3) (aQ (nmG 4) cL)))
 (cm 2 (un bx (aE [5] (bg aL (var 4)) (nmG 5) noT (aY (aa 1) (be (bin cX (aa 3) (aa 5))) (be (var 3)))))))
 (aH (un bx (aa 2))))))
def g_all_windows:List D→Option D:=bV 1 6 b_all_windows
theorem ki (T:TX K mg):bD P w K mg base CX0 3 T.f_all_windows T.fd_all_windows ["play"] (spD 1 g_all_windows) :=
 fnG (k:=2) (b:=b_all_windows) T.F_all_windows cG rfl rfl rfl rfl fun cdv A outer s H E hr =>
   (af (aC (i:=1) cG.nd rfl (Or.inr rfl) (aK (oV T) (hr.mono (by decide)) rfl T.m_words_in T.F_words_in.kp T.b_words_in (ae (aA 0) al)))
   (af (cE (i:=2) cG.nd rfl (Or.inl rfl) (bJ al))
   (af (b8 D_ rfl (nL rfl T.n_zip (ae (aK (ua T) (hr.mono (by decide)) rfl T.m_begins T.F_begins.kp T.b_begins (ae (aA 0) al)) (ae (aK (gl T) (hr.mono (by decide)) rfl T.m_whole_counts T.F_whole_counts.kp T.b_whole_counts (ae (aA 0) al)) al))) (d_ rfl (bb (aw (i:=3) cG.nd rfl (Or.inr rfl)) (bb (aw (i:=4) cG.nd rfl (Or.inl rfl)) dk)))
   (ap (b5 (i:=2) (pv 2) (cH rfl T.n_tuple rfl (Ev.obs (bn (js:=[5]) (Blk.of (sc:=ai fG) (N:=hZ) (by decide +kernel) rfl rfl) rfl (bN (aA 4)) aS (fun _ _ _ _=>(aw (i:=5) cG.nd rfl (Or.inl rfl))) (fun _ _ _ _=>ba) (fun _ _ _ _=>(cI (ak 1) (ck (cS (ak 3) (ak 5))) (ck (aA 3))))))))))
   (ap (aW (cH rfl T.n_tuple rfl (ak 2)))))))
def b_common_end:DE→Option Out :=
 (aq (az 2 (cst (.int 0)))
 (aq (mU (gu (tst (bin ltD (aa 2) (aa 1))) (tst (bin eqO (bin ixE (aa 0) (bin cX (bin cX (aa 1) (cst (.int 1))) (aa 2))) (bin ixE (aa 0) (bin cX (bin cX (un bj (aa 0)) (cst (.int 1))) (aa 2))))))
 (jh 2 (cst (.int 1))))
 (aH (var 2))))
def g_common_end:List D→Option D:=bV 2 3 b_common_end
theorem lB (T:TX K mg):bD P w K mg base CX0 2 T.f_common_end T.fd_common_end ["heard","many"] (spD 2 g_common_end) :=
 fnG (k:=1) (b:=b_common_end) T.F_common_end fD rfl rfl rfl rfl fun cdv A outer s H E hr =>
   (af (aC (i:=2) fD.nd rfl (Or.inl rfl) ag)
   (af (xf D_ (Ew.et (nE (iQ  (ak 2) (ak 1)) (jK (fS hr.units (Ev.obs (bd hr.units (ak 0) (Ev.obs (cS (Ev.obs (cS (ak 1) (Ev.obs ag))) (ak 2))) (fun _ _=>rfl))) (Ev.obs (bd hr.units (ak 0) (Ev.obs (cS (Ev.obs (cS (Ev.obs (aT rfl T.n_len (ak 0))) (Ev.obs ag))) (ak 2))) (fun _ _=>rfl)))))))
   (ap (q9 (i:=2) fD.nd rfl (Or.inl rfl) ag)))
   (ap (aW (aA 2)))))
def b_common_ends:DE→Option Out :=
 (aH (aE [1] (c4 (ac (un bj (aa 0)) ah)) (nmG 1) noT (ay 2 g_common_end (ac (var 0) (ac (var 1) ah)))))
def g_common_ends:List D→Option D:=bV 1 2 b_common_ends
theorem kh (T:TX K mg):bD P w K mg base CX0 3 T.f_common_ends T.fd_common_ends ["heard"] (spD 1 g_common_ends) :=
 fnG (k:=2) (b:=b_common_ends) T.F_common_ends gE rfl rfl rfl rfl fun cdv A outer s H E hr =>
   (ap (aW (Ev.frz (bn (js:=[1]) (Blk.of (sc:=ai fF) (N:=hY) (by decide +kernel) rfl rfl) rfl (bE rfl T.n_range (ae (aT rfl T.n_len (ak 0)) al)) aS (fun _ _ _ _=>(aw (i:=1) gE.nd rfl (Or.inl rfl))) (fun _ _ _ _=>ba) (fun _ _ _ _=>(aK (lB T) (hr.mono (by decide)) rfl T.m_common_end T.F_common_end.kp T.b_common_end (ae (aA 0) (ae (aA 1) al))))))))
def b_at_least:DE→Option Out :=
 (aH (un bj (aE [2] (bg aL (var 0)) (nmG 2) (tst (bin geD (aa 2) (aa 1))) (var 2))))
def eY:List D→Option D:=bV 2 3 b_at_least
theorem oY (T:TX K mg):bD P w K mg base CX0 2 T.f_at_least T.fd_at_least ["numbers","many"] (spD 2 eY) :=
 fnG (k:=1) (b:=b_at_least) T.F_at_least jn rfl rfl rfl rfl fun cdv A outer s H E hr =>
   (ap (aW (aT rfl T.n_len (Ev.obs (bn (js:=[2]) (Blk.of (sc:=ai ib) (N:=lv) (by decide +kernel) rfl rfl) rfl (bN (aA 0)) aS (fun _ _ _ _=>(aw (i:=2) jn.nd rfl (Or.inl rfl))) (fun _ _ _ _=>(gN (CL  (ak 2) (ak 1)))) (fun _ _ _ _=>(aA 2)))))))
def b_moments_in:DE→Option Out :=
 (aq (az 1 (ay 1 g_common_ends (ac (var 0) ah)))
 (aH (aE [2] (tK (ac (cst (.int 1)) (ac (bin aM (bin rY (aa 1) (cst (.int 0))) (cst (.int 2))) ah))) (nmG 2) noT (ay 2 eY (ac (var 1) (ac (var 2) ah))))))
def dH:List D→Option D:=bV 1 3 b_moments_in
theorem lA (T:TX K mg):bD P w K mg base CX0 4 T.f_moments_in T.fd_moments_in ["heard"] (spD 1 dH) :=
 fnG (k:=3) (b:=b_moments_in) T.F_moments_in fC rfl rfl rfl rfl fun cdv A outer s H E hr =>
   (af (aC (i:=1) fC.nd rfl (Or.inr rfl) (aK (kh T) (hr.mono (by decide)) rfl T.m_common_ends T.F_common_ends.kp T.b_common_ends (ae (aA 0) al)))
   (ap (aW (Ev.frz (bn (js:=[2]) (Blk.of (sc:=ai f8) (N:=iX) (by decide +kernel) rfl rfl) rfl (jf rfl T.n_range (ae ag (ae (aJ (Ev.obs (zf rfl rfl T.n_max rfl (ak 1) ag)) (Ev.obs ag)) al))) aS (fun _ _ _ _=>(aw (i:=2) fC.nd rfl (Or.inl rfl))) (fun _ _ _ _=>ba) (fun _ _ _ _=>(aK (oY T) (hr.mono (by decide)) rfl T.m_at_least T.F_at_least.kp T.b_at_least (ae (aA 1) (ae (aA 2) al)))))))))
def b_moments_of_cues:DE→Option Out :=
 (aq (bL 1 (bf ah))
 (aq (cD (bg aL (ay 1 g_all_windows (ac (var 0) ah))) (nmG 2)
 (lE 1 (aE [3] (bg aL (var 2)) (nmG 3) noT (ay 1 dH (ac (var 3) ah)))))
 (fun E=>(aH (var 1)) (fzE 1 E))))
def cA:List D→Option D:=bV 1 4 b_moments_of_cues
theorem eT (T:TX K mg):bD P w K mg base CX0 5 T.f_moments_of_cues T.fd_moments_of_cues ["play"] (spD 1 cA) :=
 fnG (k:=4) (b:=b_moments_of_cues) T.F_moments_of_cues cP rfl rfl rfl rfl fun cdv A outer s H E hr =>
   (af (cE (i:=1) cP.nd rfl (Or.inl rfl) (bJ al))
   (af (b8 D_ rfl (bN (aK (ki T) (hr.mono (by decide)) rfl T.m_all_windows T.F_all_windows.kp T.b_all_windows (ae (aA 0) al))) (aw (i:=2) cP.nd rfl (Or.inl rfl))
   (ap (je (i:=1) (pv 1) (Ev.obs (bn (js:=[3]) (Blk.of (sc:=ai dD) (N:=fA) (by decide +kernel) rfl rfl) rfl (bN (aA 2)) aS (fun _ _ _ _=>(aw (i:=3) cP.nd rfl (Or.inl rfl))) (fun _ _ _ _=>ba) (fun _ _ _ _=>(aK (lA T) (hr.mono (by decide)) rfl T.m_moments_in T.F_moments_in.kp T.b_moments_in (ae (aA 3) al))))))))
   (ap (gp 1 (aW (aA 1))))))
def b_with_shares:DE→Option Out :=
 (aq (bL 2 (bf ah))
 (aq (az 3 (cst (.int 0)))
 (aq (cD (bg aL (var 0)) (nmG 4)
 (aq (az 5 (bin aM (aa 3) (un bj (aa 4))))
 (aq (cm 2 (un bx (aE [6,7] (mS (ac (var 4) (ac (aY (aa 1) (be (var 3)) (be (var 5))) ah))) (cK 2 (aQ (nmG 6) (aQ (nmG 7) cL))) noT (bin aM (aa 6) (aa 7)))))
 (az 3 (var 5)))))
 (aH (un bx (aa 2))))))
def dh:List D→Option D:=bV 2 8 b_with_shares
theorem gH (T:TX K mg):bD P w K mg base CX0 2 T.f_with_shares T.fd_with_shares ["counts","shares"] (spD 2 dh) :=
 fnG (k:=1) (b:=b_with_shares) T.F_with_shares bZ rfl rfl rfl rfl fun cdv A outer s H E hr =>
   (af (cE (i:=2) bZ.nd rfl (Or.inl rfl) (bJ al))
   (af (aC (i:=3) bZ.nd rfl (Or.inl rfl) ag)
   (af (b8 D_ rfl (bN (aA 0)) (aw (i:=4) bZ.nd rfl (Or.inl rfl))
   (af (aC (i:=5) bZ.nd rfl (Or.inl rfl) (aJ (ak 3) (Ev.obs (aT rfl T.n_len (ak 4)))))
   (af (b5 (i:=2) (pv 2) (cH rfl T.n_tuple rfl (Ev.obs (bn (js:=[6,7]) (Blk.of (sc:=ai fE) (N:=hX) (by decide +kernel) rfl rfl) rfl (nL rfl T.n_zip (ae (aA 4) (ae (cI (ak 1) (ck (aA 3)) (ck (aA 5))) al))) (gQ.js (ke (eG (g0 (by decide)) (eG (g0 (by decide)) kf)))) (fun _ _ _ _=>(d_ rfl (bb (aw (i:=6) bZ.nd rfl (Or.inl rfl)) (bb (aw (i:=7) bZ.nd rfl (Or.inl rfl)) dk)))) (fun _ _ _ _=>ba) (fun _ _ _ _=>(aJ (ak 6) (ak 7)))))))
   (ap (aC (i:=3) bZ.nd rfl (Or.inl rfl) (aA 5))))))
   (ap (aW (cH rfl T.n_tuple rfl (ak 2)))))))
def b_best_more:DE→Option Out :=
 (aq (az 3 (aE [4,5] (mC (ac (aY (aa 1) noP (be (bin aM (aa 2) (cst (.int 1))))) ah)) (cK 2 (aQ (nmG 4) (aQ (nmG 5) cL))) noT (bin aM (bin ixE (aa 0) (bin cX (aa 2) (aa 4))) (aa 5))))
 (aH (bin qX (aa 3) (un ul (aa 3)))))
def d8:List D→Option D:=bV 3 6 b_best_more
theorem nh (T:TX K mg):bD P w K mg base CX0 2 T.f_best_more T.fd_best_more ["fewest","moments","spare"] (spD 3 d8) :=
 fnG (k:=1) (b:=b_best_more) T.F_best_more el rfl rfl rfl rfl fun cdv A outer s H E hr =>
   (af (pH (i:=3) el.nd rfl (Or.inl rfl) (js:=[4,5]) (Blk.of (sc:=ai gF) (N:=jy) (by decide +kernel) rfl rfl) rfl (sG rfl T.n_enumerate (ae (cI (ak 1) fu (ck (aJ (ak 2) (Ev.obs ag)))) al)) (gQ.js (ke (eG (g0 (by decide)) (eG (g0 (by decide)) kf)))) (fun _ _ _ _=>(d_ rfl (bb (aw (i:=4) el.nd rfl (Or.inl rfl)) (bb (aw (i:=5) el.nd rfl (Or.inl rfl)) dk)))) (fun _ _ _ _=>ba) (fun _ _ _ _=>(aJ (Ev.obs (bd hr.units (ak 0) (Ev.obs (cS (ak 2) (ak 4))) (fun _ _=>rfl))) (ak 5))) rfl)
   (ap (aW (w9 (ak 3) (sv rfl rfl T.n_min rfl (ak 3))))))
def b_shared_out:DE→Option Out :=
 (aq (az 2 (bin o_ (bf (ac (cst (.int 0)) ah)) (bin aM (aa 1) (cst (.int 1)))))
 (aq (bL 3 (bf ah))
 (aq (cD (bg aL (var 0)) (nmG 4)
 (aq (az 5 (aE [7] (c4 (ac (bin aM (aa 1) (cst (.int 1))) ah)) (nmG 7) noT (ay 3 d8 (ac (var 2) (ac (var 4) (ac (var 7) ah))))))
 (aq (az 2 (aE [7,8] (mC (ac (var 5) ah)) (cK 2 (aQ (nmG 7) (aQ (nmG 8) cL))) noT (bin aM (bin ixE (aa 2) (bin cX (aa 7) (aa 8))) (bin ixE (aa 4) (aa 8)))))
 (cm 3 (var 5)))))
 (aq (bL 6 (bf ah))
 (aq (fun E=>(cD (yb (ac (var 3) ah)) (nmG 5)
 (aq (cm 6 (bin ixE (aa 5) (aa 1)))
 (zx 1 (bin ixE (aa 5) (aa 1))))) (fzE 3 E))
 (fun E=>(aH (un kz (aa 6))) (fzE 6 E)))))))
def dG:List D→Option D:=bV 2 9 b_shared_out
theorem hJ (T:TX K mg):bD P w K mg base CX0 3 T.f_shared_out T.fd_shared_out ["cues","spare"] (spD 2 dG) :=
 fnG (k:=2) (b:=b_shared_out) T.F_shared_out bq rfl rfl rfl rfl fun cdv A outer s H E hr =>
   (af (aC (i:=2) bq.nd rfl (Or.inr rfl) (nG (Ev.obs (bJ (ae ag al))) (Ev.obs (aJ (ak 1) (Ev.obs ag)))))
   (af (cE (i:=3) bq.nd rfl (Or.inl rfl) (bJ al))
   (af (b8 D_ rfl (bN (aA 0)) (aw (i:=4) bq.nd rfl (Or.inr rfl))
   (af (pH (i:=5) bq.nd rfl (Or.inl rfl) (js:=[7]) (Blk.of (sc:=ai ez) (N:=gi) (by decide +kernel) rfl rfl) rfl (bE rfl T.n_range (ae (aJ (ak 1) (Ev.obs ag)) al)) aS (fun _ _ _ _=>(aw (i:=7) bq.nd rfl (Or.inl rfl))) (fun _ _ _ _=>ba) (fun _ _ _ _=>(aK (nh T) (hr.mono (by decide)) rfl T.m_best_more T.F_best_more.kp T.b_best_more (ae (aA 2) (ae (aA 4) (ae (aA 7) al))))) rfl)
   (af (aC (i:=2) bq.nd rfl (Or.inr rfl) (Ev.frz (bn (js:=[7,8]) (Blk.of (sc:=ai ez) (N:=gi) (by decide +kernel) rfl rfl) rfl (sG rfl T.n_enumerate (ae (aA 5) al)) (gQ.js (ke (eG (g0 (by decide)) (eG (g0 (by decide)) kf)))) (fun _ _ _ _=>(d_ rfl (bb (aw (i:=7) bq.nd rfl (Or.inl rfl)) (bb (aw (i:=8) bq.nd rfl (Or.inl rfl)) dk)))) (fun _ _ _ _=>ba) (fun _ _ _ _=>(aJ (Ev.obs (bd hr.units (ak 2) (Ev.obs (cS (ak 7) (ak 8))) (fun _ _=>rfl))) (Ev.obs (bd hr.units (ak 4) (ak 8) (fun _ _=>rfl))))))))
   (ap (b5 (i:=3) (pv 3) (aA 5))))))
   (af (cE (i:=6) bq.nd rfl (Or.inl rfl) (bJ al))
   (af (gp 3 (b8 D_ rfl (Bt rfl T.n_reversed (ae (aA 3) al)) (aw (i:=5) bq.nd rfl (Or.inl rfl))
   (af (b5 (i:=6) (pv 6) (bd hr.units (ak 5) (ak 1) (fun _ _=>rfl)))
   (ap (zm (i:=1) bq.nd rfl (Or.inl rfl) (bd hr.units (ak 5) (ak 1) (fun _ _=>rfl)))))))
   (ap (gp 6 (aW (Ev.frz (qZ rfl rfl T.n_list rfl rfl T.n_reversed (ak 6)))))))))))
def b_thrifty:DE→Option Out :=
 (aq (az 2 (ay 2 iL (ac (var 0) (ac (cst (.int 1)) ah))))
 (aq (az 3 (ay 1 iK (ac (var 2) ah)))
 (aq (ifS (tst (bin ltD (aa 1) (aa 3)))
 noS
 br)
 (aq (az 4 (ay 1 cA (ac (var 0) ah)))
 (aq (az 5 (lq gm (ac (bin cX (aa 1) (aa 3)) (ac (un i0 (aE [6] (bg aL (var 4)) (nmG 6) noT (bin cX (un bj (aa 6)) (cst (.int 1))))) ah))))
 (aH (ay 2 dh (ac (var 2) (ac (ay 2 dG (ac (var 4) (ac (var 5) ah))) ah)))))))))
def da:List D→Option D:=bV 2 7 b_thrifty
theorem kg (T:TX K mg):bD P w K mg base CX0 6 T.f_thrifty T.fd_thrifty ["play","most"] (spD 2 da) :=
 fnG (k:=5) (b:=b_thrifty) T.F_thrifty b6 rfl rfl rfl rfl fun cdv A outer s H E hr =>
   (af (aC (i:=2) b6.nd rfl (Or.inl rfl) (aK (oZ T) (hr.mono (by decide)) rfl T.m_alike T.F_alike.kp T.b_alike (ae (aA 0) (ae ag al))))
   (af (aC (i:=3) b6.nd rfl (Or.inl rfl) (aK (oW T) (hr.mono (by decide)) rfl T.m_total T.F_total.kp T.b_total (ae (aA 2) al)))
   (af (cJ (iQ  (ak 1) (ak 3))
   (ap xg)
   bo)
   (af (aC (i:=4) b6.nd rfl (Or.inl rfl) (aK (eT T) (hr.mono (by decide)) rfl T.m_moments_of_cues T.F_moments_of_cues.kp T.b_moments_of_cues (ae (aA 0) al)))
   (af (aC (i:=5) b6.nd rfl (Or.inl rfl) (nH rfl rfl T.n_min rfl (ae (cS (ak 1) (ak 3)) (ae (ja rfl rfl T.n_sum rfl (Ev.obs (bn (js:=[6]) (Blk.of (sc:=ai gY) (N:=jk) (by decide +kernel) rfl rfl) rfl (bN (aA 4)) aS (fun _ _ _ _=>(aw (i:=6) b6.nd rfl (Or.inl rfl))) (fun _ _ _ _=>ba) (fun _ _ _ _=>(cS (Ev.obs (aT rfl T.n_len (ak 6))) (Ev.obs ag)))))) al))))
   (ap (aW (aK (gH T) (hr.mono (by decide)) rfl T.m_with_shares T.F_with_shares.kp T.b_with_shares (ae (aA 2) (ae (aK (hJ T) (hr.mono (by decide)) rfl T.m_shared_out T.F_shared_out.kp T.b_shared_out (ae (aA 4) (ae (aA 5) al))) al))))))))))
def gh:DE→Option dS :=
 (oq (okX (az 2 (ay 2 iL (ac (var 0) (ac (cst (.int 1)) ah)))))
 (oq (okX (az 3 (ay 1 iK (ac (var 2) ah))))
 (oq (ifX (tst (bin ltD (aa 1) (aa 3)))
 (m8 0 "needed" (var 3))
 (okX br))
 (oq (okX (az 4 (ay 1 cA (ac (var 0) ah))))
 (oq (okX (az 5 (lq gm (ac (bin cX (aa 1) (aa 3)) (ac (un i0 (aE [6] (bg aL (var 4)) (nmG 6) noT (bin cX (un bj (aa 6)) (cst (.int 1))))) ah)))))
 (okX (aH (ay 2 dh (ac (var 2) (ac (ay 2 dG (ac (var 4) (ac (var 5) ah))) ah))))))))))
theorem oU (T:TX K mg):bD P w K mg base (CX1 P w) 6 T.f_thrifty T.fd_thrifty ["play","most"] (tE (clN K) 2 (lZ 2 7 gh)):=by
 obtain ⟨fdI,oi,bi⟩:=T.init (P:=P) (w:=w) (base:=base)
 exact Dt (k:=5) T.F_thrifty b6 fun cdv A outer s H E hr =>
   (fT (kT (aC (i:=2) b6.nd rfl (Or.inl rfl) (aK (oZ T) (hr.mono (by decide)) rfl T.m_alike T.F_alike.kp T.b_alike (ae (aA 0) (ae ag al)))))
   (fT (kT (aC (i:=3) b6.nd rfl (Or.inl rfl) (aK (oW T) (hr.mono (by decide)) rfl T.m_total T.F_total.kp T.b_total (ae (aA 2) al))))
   (fT (Bp (iQ  (ak 1) (ak 3))
   (kU (uL rfl T.kd.er.q oi bi T.kd.er.fn (hr.mono (by decide)) rfl rfl T.kd.mx T.kd.er.kp (aA 3)))
   (zh bo))
   (fT (kT (aC (i:=4) b6.nd rfl (Or.inl rfl) (aK (eT T) (hr.mono (by decide)) rfl T.m_moments_of_cues T.F_moments_of_cues.kp T.b_moments_of_cues (ae (aA 0) al))))
   (fT (kT (aC (i:=5) b6.nd rfl (Or.inl rfl) (nH rfl rfl T.n_min rfl (ae (cS (ak 1) (ak 3)) (ae (ja rfl rfl T.n_sum rfl (Ev.obs (bn (js:=[6]) (Blk.of (sc:=ai gY) (N:=jk) (by decide +kernel) rfl rfl) rfl (bN (aA 4)) aS (fun _ _ _ _=>(aw (i:=6) b6.nd rfl (Or.inl rfl))) (fun _ _ _ _=>ba) (fun _ _ _ _=>(cS (Ev.obs (aT rfl T.n_len (ak 6))) (Ev.obs ag)))))) al)))))
   (kU (kT (aW (aK (gH T) (hr.mono (by decide)) rfl T.m_with_shares T.F_with_shares.kp T.b_with_shares (ae (aA 2) (ae (aK (hJ T) (hr.mono (by decide)) rfl T.m_shared_out T.F_shared_out.kp T.b_shared_out (ae (aA 4) (ae (aA 5) al))) al)))))))))))
section
variable {P:Program}{w:World}{K:PySem.W.Frag}{mg:Str→Option Value}{base:Heap}
def dm:List D→Option (Option (Nat×List (Str×D))):=jL da (lZ 2 7 gh)
def d7 (a:Addr):DE→Option Out:=aq (az 3 (bf (ac (xF 5 a (.bl true)) (ac (xF 5 a (.bl true)) (ac (xF 5 a (.bl false)) (ac (xF 5 a (.bl false)) ah)))))) (aq (az 3 (bin aM (aa 3) (bf (ac (xF 5 a (.bl false)) (ac (xF 5 a (.bl false)) (ac (xF 5 a (.bl false)) (ac (xF 5 a (.bl false)) ah))))))) (aq (az 3 (bin aM (aa 3) (bf (ac (xF 5 a (.bl false)) (ac (xF 5 a (.bl false)) (ac (xF 5 a (.bl false)) ah)))))) (pt 4 5 a)))
def d6:DE→Option Out:=ifS (tst (bin neO (aa 3) (bin aM (bf (ac (cst (.bl true)) (ac (cst (.bl true)) ah))) (bin o_ (bf (ac (cst (.bl false)) ah)) (cst (.int 9)))))) (aH (cst (.bl false))) br
def fj (a:Addr) (fs:List (Str×D)):DE→Option Out:=aq d6 (aH (xz (isF "int" (qe 4 a "needed" fs)) (xz (yK (isF "bool" (qe 4 a "needed" fs))) (bin eqO (qe 4 a "needed" fs) (aa 2)))))
def b__Lrefused:DE→Option Out:=aq (az 3 (bf ah)) (aq (az 4 (cst .non)) (vq 0 5 (mF 2 dm (ac (var 0) (ac (var 1) ah))) (fun a _=>d7 a) (aq d6 noS) fj))
def fm:List D→Option D:=bV 3 6 b__Lrefused
theorem ni (T:TX K mg):bD P w K mg base CX0 7 T.f__Lrefused T.fd__Lrefused ["_law_play_here","_law_most","_law_needed"] (spD 3 fm):=by
 obtain ⟨cd,xc⟩:=T.kd.er.xc
 have ms:=T.kd.ms
 have oz:bD P w K mg base (CX1 P w) 6 T.f_thrifty T.fd_thrifty ["play","most"] (tE (clN K) 2 dm):=De (kg T) (oU T)
 exact fnG (k:=6) (b:=b__Lrefused) T.F__Lrefused cv rfl rfl rfl rfl fun cdv A outer s H E hr =>
  (af (aC (i:=3) cv.nd rfl (Or.inl rfl) (Ev.frz (bJ al)))
  (af (aC (i:=4) cv.nd rfl (Or.inl rfl) jb)
  (zi (n:=0) (cl:=clN K) (kU (xb oz (hr.mono (by decide)) rfl T.m_thrifty T.F_thrifty.kp T.b_thrifty (ae (aA 0) (ae (aA 1) al)))) rfl rfl T.kd.sup rfl (ms "CueError" (by decide)) cv.nd rfl rfl
   (fun a dx oe od vs fs h1 h2 h3 h4 h5=>af (aC (i:=3) cv.nd rfl (Or.inl rfl) (Ev.frz (bJ (ae (dI h1 xc T.kd.er.cl rfl T.n_isinstance rfl (pv 5) (rW rfl T.n_ValueError rfl (v:=.ty "ValueError") rfl) (fun u hu=>hu) T.kd.kv) (ae (dI h1 xc T.kd.er.cl rfl T.n_isinstance rfl (pv 5) (dY rfl (ms "TooFew" (by decide)) (v:=.ref (cq K "TooFew")) rfl) (fun u hu=>hu) (T.kd.k 0 rfl rfl)) (ae (dI h1 xc T.kd.er.cl rfl T.n_isinstance rfl (pv 5) (dY rfl (ms "Apart" (by decide)) (v:=.ref (cq K "Apart")) rfl) (fun u hu=>hu) (T.kd.k 1 rfl rfl)) (ae (dI h1 xc T.kd.er.cl rfl T.n_isinstance rfl (pv 5) (dY rfl (ms "Meets" (by decide)) (v:=.ref (cq K "Meets")) rfl) (fun u hu=>hu) (T.kd.k 2 rfl rfl)) al)))))))
    (af (aC (i:=3) cv.nd rfl (Or.inl rfl) (aJ (ak 3) (Ev.obs (bJ (ae (dI h1 xc T.kd.er.cl rfl T.n_isinstance rfl (pv 5) (dY rfl (ms "NoBooks" (by decide)) (v:=.ref (cq K "NoBooks")) rfl) (fun u hu=>hu) (T.kd.k 3 rfl rfl)) (ae (dI h1 xc T.kd.er.cl rfl T.n_isinstance rfl (pv 5) (dY rfl (ms "NoCast" (by decide)) (v:=.ref (cq K "NoCast")) rfl) (fun u hu=>hu) (T.kd.k 4 rfl rfl)) (ae (dI h1 xc T.kd.er.cl rfl T.n_isinstance rfl (pv 5) (dY rfl (ms "NoCounts" (by decide)) (v:=.ref (cq K "NoCounts")) rfl) (fun u hu=>hu) (T.kd.k 5 rfl rfl)) (ae (dI h1 xc T.kd.er.cl rfl T.n_isinstance rfl (pv 5) (dY rfl (ms "NoLine" (by decide)) (v:=.ref (cq K "NoLine")) rfl) (fun u hu=>hu) (T.kd.k 6 rfl rfl)) al))))))))
    (af (aC (i:=3) cv.nd rfl (Or.inl rfl) (aJ (ak 3) (Ev.obs (bJ (ae (dI h1 xc T.kd.er.cl rfl T.n_isinstance rfl (pv 5) (dY rfl (ms "NoPlay" (by decide)) (v:=.ref (cq K "NoPlay")) rfl) (fun u hu=>hu) (T.kd.k 7 rfl rfl)) (ae (dI h1 xc T.kd.er.cl rfl T.n_isinstance rfl (pv 5) (dY rfl (ms "NoText" (by decide)) (v:=.ref (cq K "NoText")) rfl) (fun u hu=>hu) (T.kd.k 8 rfl rfl)) (ae (dI h1 xc T.kd.er.cl rfl T.n_isinstance rfl (pv 5) (dY rfl (ms "Unknown" (by decide)) (v:=.ref (cq K "Unknown")) rfl) (fun u hu=>hu) (T.kd.k 9 rfl rfl)) al)))))))
    (ap (zk (j:=4) cv.nd rfl (Or.inl rfl) (pv 5))))))
   (af (cJ (pG hr.units (ak 3) (Ev.obs (aJ (Ev.obs (bJ (ae hU (ae hU al)))) (Ev.obs (nG (Ev.obs (bJ (ae hU al))) (Ev.obs ag)))))) (ap (aW hU)) bo) uM)
   fun a dx oe od vs fs h1 h2 h3 h4 h5=>af (cJ (pG hr.units (ak 3) (Ev.obs (aJ (Ev.obs (bJ (ae hU (ae hU al)))) (Ev.obs (nG (Ev.obs (bJ (ae hU al))) (Ev.obs ag)))))) (ap (aW hU)) bo)
    (ap (aW (w_ (eL (T := "int") rfl rfl T.n_isinstance rfl rfl T.n_int rfl (Ev.obs (kS h1 h2 h3 h4 xc T.kd.er.nf h5 (pv 4)))) (w_ (Bm (eL (T := "bool") rfl rfl T.n_isinstance rfl rfl T.n_bool rfl (Ev.obs (kS h1 h2 h3 h4 xc T.kd.er.nf h5 (pv 4))))) (Bl (sy hr.units (Ev.obs (kS h1 h2 h3 h4 xc T.kd.er.nf h5 (pv 4))) (ak 2))))))))))
end
def b__Lflat:DE→Option Out :=
 (aq (bL 2 (bf ah))
 (aq (ifS (orT (nn (tst (isF "tuple" (aa 1)))) (tst (bin neO (un bj (aa 1)) (un bj (aa 0)))))
 (aH (cst .non))
 br)
 (aq (cD (c4 (ac (un bj (aa 0)) ah)) (nmG 3)
 (aq (ifS (orT (nn (tst (isF "tuple" (bin ixE (aa 1) (aa 3))))) (tst (bin neO (un bj (bin ixE (aa 1) (aa 3))) (un bj (bin ixE (bin ixE (aa 0) (aa 3)) (cst (.int 0)))))))
 (aH (cst .non))
 br)
 (cD (bg aL (bin ixE (aa 1) (aa 3))) (nmG 4)
 (aq (ifS (orT (nn (tst (isF "int" (aa 4)))) (orT (tst (isF "bool" (aa 4))) (gu (tst (bin eqO (aa 3) (cst (.int 0)))) (tst (bin neO (aa 4) (cst (.int 0)))))))
 (aH (cst .non))
 br)
 (ifS (tst (bin gtD (aa 3) (cst (.int 0))))
 (cm 2 (var 4))
 br)))))
 (fun E=>(aH (var 2)) (fzE 2 E)))))
def iM:List D→Option D:=bV 2 5 b__Lflat
theorem ud (T:TX K mg):bD P w K mg base CX0 2 T.f__Lflat T.fd__Lflat ["_law_play_here","_law_counts"] (spD 2 iM) :=
 fnG (k:=1) (b:=b__Lflat) T.F__Lflat gX rfl rfl rfl rfl fun cdv A outer s H E hr =>
   (af (cE (i:=2) gX.nd rfl (Or.inl rfl) (bJ al))
   (af (cJ (Ew.et (kR (q8 (jc (eL (T := "tuple") rfl rfl T.n_isinstance rfl rfl T.n_tuple rfl (ak 1)))) (i_ (pG hr.units (Ev.obs (aT rfl T.n_len (ak 1))) (Ev.obs (aT rfl T.n_len (ak 0)))))))
   (ap (aW jb))
   bo)
   (af (b8 D_ rfl (bE rfl T.n_range (ae (aT rfl T.n_len (ak 0)) al)) (aw (i:=3) gX.nd rfl (Or.inl rfl))
   (af (cJ (Ew.et (kR (q8 (jc (eL (T := "tuple") rfl rfl T.n_isinstance rfl rfl T.n_tuple rfl (Ev.obs (bd hr.units (ak 1) (ak 3) (fun _ _=>rfl)))))) (i_ (pG hr.units (Ev.obs (aT rfl T.n_len (Ev.obs (bd hr.units (ak 1) (ak 3) (fun _ _=>rfl))))) (Ev.obs (aT rfl T.n_len (Ev.obs (bd hr.units (Ev.obs (bd hr.units (ak 0) (ak 3) (fun _ _=>rfl))) (Ev.obs ag) (fun _ _=>rfl)))))))))
   (ap (aW jb))
   bo)
   (ap (b8 D_ rfl (bN (bd hr.units (ak 1) (ak 3) (fun _ _=>rfl))) (aw (i:=4) gX.nd rfl (Or.inl rfl))
   (af (cJ (Ew.et (kR (q8 (jc (eL (T := "int") rfl rfl T.n_isinstance rfl rfl T.n_int rfl (ak 4)))) (kR (jc (eL (T := "bool") rfl rfl T.n_isinstance rfl rfl T.n_bool rfl (ak 4))) (i_ (Ew.et (nE (fS hr.units (ak 3) (Ev.obs ag)) (jK (pG hr.units (ak 4) (Ev.obs ag)))))))))
   (ap (aW jb))
   bo)
   (ap (cJ (sC  (ak 3) (Ev.obs ag))
   (ap (b5 (i:=2) (pv 2) (aA 4)))
   bo)))))))
   (ap (gp 2 (aW (aA 2)))))))
def b__Lfewest:DE→Option Out :=
 (aq (az 2 (bin aM (bf (ac (cst (.int 0)) ah)) (aE [5] (c4 (ac (var 1) ah)) (nmG 5) noT (cst .non))))
 (aq (cD (bg aL (var 0)) (nmG 3)
 (aq (bL 4 (aE [5] (bg aL (var 2)) (nmG 5) noT (cst .non)))
 (aq (cD (c4 (ac (un bj (aa 2)) ah)) (nmG 5)
 (cD (c4 (ac (un bj (aa 3)) ah)) (nmG 6)
 (ifS (gu (tst (un cR (bin ixE (aa 2) (aa 5)))) (tst (bin leD (bin aM (bin aM (aa 5) (aa 6)) (cst (.int 1))) (aa 1))))
 (aq (az 7 (bin aM (bin ixE (aa 2) (aa 5)) (bin ixE (aa 3) (aa 6))))
 (ifS (orT (tst (un nz (bin ixE (aa 4) (bin aM (bin aM (aa 5) (aa 6)) (cst (.int 1)))))) (tst (bin ltD (aa 7) (bin ixE (aa 4) (bin aM (bin aM (aa 5) (aa 6)) (cst (.int 1)))))))
 (l0 4 (bin aM (bin aM (aa 5) (aa 6)) (cst (.int 1))) (var 7))
 br))
 br)))
 (fun E=>(az 2 (var 4)) (fzE 4 E)))))
 (aH (un ul (aE [7] (bg aL (var 2)) (nmG 7) (tst (un cR (var 7))) (var 7))))))
def eZ:List D→Option D:=bV 2 8 b__Lfewest
theorem o1 (T:TX K mg):bD P w K mg base CX0 2 T.f__Lfewest T.fd__Lfewest ["_law_rows","_law_most"] (spD 2 eZ) :=
 fnG (k:=1) (b:=b__Lfewest) T.F__Lfewest b4 rfl rfl rfl rfl fun cdv A outer s H E hr =>
   (af (aC (i:=2) b4.nd rfl (Or.inl rfl) (aJ (Ev.obs (bJ (ae ag al))) (Ev.obs (bn (js:=[5]) (Blk.of (sc:=ai eQ) (N:=gj) (by decide +kernel) rfl rfl) rfl (bE rfl T.n_range (ae (aA 1) al)) aS (fun _ _ _ _=>(aw (i:=5) b4.nd rfl (Or.inl rfl))) (fun _ _ _ _=>ba) (fun _ _ _ _=>jb)))))
   (af (b8 D_ rfl (bN (aA 0)) (aw (i:=3) b4.nd rfl (Or.inl rfl))
   (af (zl (i:=4) b4.nd rfl (Or.inl rfl) (js:=[5]) (Blk.of (sc:=ai eQ) (N:=gj) (by decide +kernel) rfl rfl) rfl (bN (aA 2)) aS (fun _ _ _ _=>(aw (i:=5) b4.nd rfl (Or.inl rfl))) (fun _ _ _ _=>ba) (fun _ _ _ _=>jb) rfl)
   (af (b8 D_ rfl (bE rfl T.n_range (ae (aT rfl T.n_len (ak 2)) al)) (aw (i:=5) b4.nd rfl (Or.inl rfl))
   (ap (b8 D_ rfl (bE rfl T.n_range (ae (aT rfl T.n_len (ak 3)) al)) (aw (i:=6) b4.nd rfl (Or.inl rfl))
   (ap (cJ (Ew.et (nE (mr (bd hr.units (ak 2) (ak 5) (fun _ _=>rfl))) (jK (CK  (Ev.obs (aJ (Ev.obs (aJ (ak 5) (ak 6))) (Ev.obs ag))) (ak 1)))))
   (af (aC (i:=7) b4.nd rfl (Or.inl rfl) (aJ (Ev.obs (bd hr.units (ak 2) (ak 5) (fun _ _=>rfl))) (Ev.obs (bd hr.units (ak 3) (ak 6) (fun _ _=>rfl)))))
   (ap (cJ (Ew.et (kR (xa (bd hr.units (ak 4) (Ev.obs (aJ (Ev.obs (aJ (ak 5) (ak 6))) (Ev.obs ag))) (fun _ _=>rfl))) (i_ (iQ  (ak 7) (Ev.obs (bd hr.units (ak 4) (Ev.obs (aJ (Ev.obs (aJ (ak 5) (ak 6))) (Ev.obs ag))) (fun _ _=>rfl)))))))
   (ap (zj (i:=4) (pv 4) (aJ (Ev.obs (aJ (ak 5) (ak 6))) (Ev.obs ag)) (aA 7)))
   bo)))
   bo)))))
   (ap (gp 4 (aC (i:=2) b4.nd rfl (Or.inl rfl) (aA 4)))))))
   (ap (aW (sv rfl rfl T.n_min rfl (Ev.obs (bn (js:=[7]) (Blk.of (sc:=ai eQ) (N:=gj) (by decide +kernel) rfl rfl) rfl (bN (aA 2)) aS (fun _ _ _ _=>(aw (i:=7) b4.nd rfl (Or.inl rfl))) (fun _ _ _ _=>(gN (mr (aA 7)))) (fun _ _ _ _=>(aA 7)))))))))
def xv:DE→Option Out :=
 (aq (az 1 (ay 3 g__Lplay (ac (var 0) (ac (cst (.int 2)) (ac (cst (.int 9)) ah)))))
 (aq (az 2 (ay 1 gJ (ac (var 1) ah)))
 (aq (az 3 (un i0 (aE [8] (bg aL (var 2)) (nmG 8) noT (un bj (aa 8)))))
 (aq (az 4 (bin bS (ay 2 g__Lcell (ac (var 0) (ac (cst (.int 1)) ah))) (cst (.int 12))))
 (aq (az 5 (bin aM (un bj (aa 2)) (bin bC (bin bS (aa 4) (cst (.int 3))) (bin aM (bin cX (aa 3) (un bj (aa 2))) (cst (.int 1))))))
 (aq (ifS (tst (bin eqO (bin bC (aa 4) (cst (.int 3))) (cst (.int 1))))
 (az 5 (bin aM (bin cX (un bj (aa 2)) (cst (.int 2))) (bin bC (bin bS (aa 4) (cst (.int 3))) (cst (.int 5)))))
 br)
 (aq (ifS (tst (bin eqO (bin bC (aa 4) (cst (.int 12))) (cst (.int 2))))
 (az 5 (bin e9 (cst (.int 10)) (cst (.int 9))))
 br)
 (aq (ifS (tst (bin ltD (aa 5) (un bj (aa 2))))
 (aH (ay 3 fm (ac (var 1) (ac (var 5) (ac (un bj (aa 2)) ah)))))
 br)
 (aq (az 6 (ay 2 iM (ac (var 1) (ac (ay 2 da (ac (var 1) (ac (var 5) ah))) ah))))
 (aq (ifS (orT (tst (un nz (var 6))) (tst (bin gtD (un i0 (aa 6)) (aa 5))))
 (aH (cst (.bl false)))
 br)
 (aq (az 7 (cst (.int 0)))
 (aq (cD (mS (ac (var 2) (ac (var 6) ah))) (cK 2 (aQ (nmG 8) (aQ (nmG 9) cL)))
 (aq (ifS (orT (tst (bin ltD (aa 9) (cst (.int 1)))) (tst (bin gtD (aa 9) (un bj (aa 8)))))
 (aH (cst (.bl false)))
 br)
 (az 7 (bin aM (aa 7) (bin ixE (aa 8) (bin cX (aa 9) (cst (.int 1))))))))
 (aH (bin eqO (aa 7) (ay 2 eZ (ac (var 2) (ac (lq gm (ac (var 5) (ac (var 3) ah))) ah)))))))))))))))))
def pB:List D→Option D:=bV 1 10 xv
theorem A0 (T:TX K mg):bD P w K mg base CX0 8 T.f_law T.fd_law ["_law_script"] (spD 1 pB) :=
 fnG (k:=7) (b:=xv) T.F_law dB rfl rfl rfl rfl fun cdv A outer s H E hr =>
   (af (aC (i:=1) dB.nd rfl (Or.inl rfl) (aK (ub T) (hr.mono (by decide)) rfl T.m__Lplay T.F__Lplay.kp T.b__Lplay (ae (aA 0) (ae ag (ae ag al)))))
   (af (aC (i:=2) dB.nd rfl (Or.inl rfl) (aK (uc T) (hr.mono (by decide)) rfl T.m__Lleft T.F__Lleft.kp T.b__Lleft (ae (aA 1) al)))
   (af (aC (i:=3) dB.nd rfl (Or.inl rfl) (ja rfl rfl T.n_sum rfl (Ev.obs (bn (js:=[8]) (Blk.of (sc:=ai vK) (N:=zV) (by decide +kernel) rfl rfl) rfl (bN (aA 2)) aS (fun _ _ _ _=>(aw (i:=8) dB.nd rfl (Or.inl rfl))) (fun _ _ _ _=>ba) (fun _ _ _ _=>(aT rfl T.n_len (ak 8)))))))
   (af (aC (i:=4) dB.nd rfl (Or.inl rfl) (cj (Ev.obs (aK (g7 T) (hr.mono (by decide)) rfl T.m__Lcell T.F__Lcell.kp T.b__Lcell (ae (aA 0) (ae ag al)))) (Ev.obs ag)))
   (af (aC (i:=5) dB.nd rfl (Or.inl rfl) (aJ (Ev.obs (aT rfl T.n_len (ak 2))) (Ev.obs (bO (Ev.obs (cj (ak 4) (Ev.obs ag))) (Ev.obs (aJ (Ev.obs (cS (ak 3) (Ev.obs (aT rfl T.n_len (ak 2))))) (Ev.obs ag)))))))
   (af (cJ (fS hr.units (Ev.obs (bO (ak 4) (Ev.obs ag))) (Ev.obs ag))
   (ap (aC (i:=5) dB.nd rfl (Or.inl rfl) (aJ (Ev.obs (cS (Ev.obs (aT rfl T.n_len (ak 2))) (Ev.obs ag))) (Ev.obs (bO (Ev.obs (cj (ak 4) (Ev.obs ag))) (Ev.obs ag))))))
   bo)
   (af (cJ (fS hr.units (Ev.obs (bO (ak 4) (Ev.obs ag))) (Ev.obs ag))
   (ap (aC (i:=5) dB.nd rfl (Or.inl rfl) (ik (Ev.obs ag) (Ev.obs ag))))
   bo)
   (af (cJ (iQ  (ak 5) (Ev.obs (aT rfl T.n_len (ak 2))))
   (ap (aW (aK (ni T) (hr.mono (by decide)) rfl T.m__Lrefused T.F__Lrefused.kp T.b__Lrefused (ae (aA 1) (ae (aA 5) (ae (aT rfl T.n_len (ak 2)) al))))))
   bo)
   (af (aC (i:=6) dB.nd rfl (Or.inl rfl) (aK (ud T) (hr.mono (by decide)) rfl T.m__Lflat T.F__Lflat.kp T.b__Lflat (ae (aA 1) (ae (aK (kg T) (hr.mono (by decide)) rfl T.m_thrifty T.F_thrifty.kp T.b_thrifty (ae (aA 1) (ae (aA 5) al))) al))))
   (af (cJ (Ew.et (kR (xa (aA 6)) (i_ (sC  (Ev.obs (ja rfl rfl T.n_sum rfl (ak 6))) (ak 5)))))
   (ap (aW hU))
   bo)
   (af (aC (i:=7) dB.nd rfl (Or.inl rfl) ag)
   (af (b8 D_ rfl (nL rfl T.n_zip (ae (aA 2) (ae (aA 6) al))) (d_ rfl (bb (aw (i:=8) dB.nd rfl (Or.inl rfl)) (bb (aw (i:=9) dB.nd rfl (Or.inl rfl)) dk)))
   (af (cJ (Ew.et (kR (iQ  (ak 9) (Ev.obs ag)) (i_ (sC  (ak 9) (Ev.obs (aT rfl T.n_len (ak 8)))))))
   (ap (aW hU))
   bo)
   (ap (aC (i:=7) dB.nd rfl (Or.inl rfl) (aJ (ak 7) (Ev.obs (bd hr.units (ak 8) (Ev.obs (cS (ak 9) (Ev.obs ag))) (fun _ _=>rfl))))))))
   (ap (aW (sy hr.units (ak 7) (Ev.obs (aK (o1 T) (hr.mono (by decide)) rfl T.m__Lfewest T.F__Lfewest.kp T.b__Lfewest (ae (aA 2) (ae (nH rfl rfl T.n_min rfl (ae (aA 5) (ae (aA 3) al))) al)))))))))))))))))))
end
end L2.Cu.Wk
namespace L2.Cu
open PySem PySem.Spec PyProof.Rows
theorem pK {α:Type} (f:α→D):∀ (ys:List α) (n:Nat),gM (ys.map f) (n:Int)=(ys.zipIdx n).map fun q=>D.tup [.int (q.2:Int),f q.1]
 | [],_=>rfl
 | y :: ys,n=>by
  have h:=pK f ys (n + 1)
  rw [List.zipIdx_cons,DI,DI,← h]
  rfl
theorem pL {α:Type} (f:α→D) (ys:List α):mD [D.lst (ys.map f)]=some ((ys.zipIdx).map fun q=>D.tup [.int (q.2:Int),f q.1]):=ED some (pK f ys 0)
def nI (r:List Nat):List Int:=r.map fun n:Nat=>(n:Int)
abbrev nD (n:Nat):D:=.int (n:Int)
abbrev nl (r:List Nat):D:=.lst (r.map nD)
theorem Df (r:List Nat):nl r=.lst ((nI r).map D.int):=by unfold nl nI; rw [D7]; rfl
theorem ji {r:List Nat}{k:Nat} (h:k < r.length):atI (r.map nD) (k:Int)=some (nD (r.getD k 0)):=by
 rw [dL,DX,DN h,D3,DN h]; rfl
theorem kK {r:List Nat}{k:Nat} (h:k < r.length):r[k]? = some (r.getD k 0):=by
 rw [D3,DN h]; rfl
def fM (F r:List Nat) (s:Nat):List Nat:=(r.take (s + 1)).zipIdx.map fun q=>F.getD (s - q.2) 0 + q.1
theorem iu {F r:List Nat}{s x:Nat}:(fM F r s)[x]? = if x≤s then (r[x]?).map fun c=>F.getD (s - x) 0 + c else none:=by
 unfold fM
 rw [DX,GI,GU]
 by_cases h:x≤s
 ·rw [if_pos (show x < s + 1 by omega),if_pos h,FQ]
  cases r[x]? <;> rfl
 ·rw [if_neg (show ¬ x < s + 1 by omega),if_neg h]; rfl
def bmF (F r:List Nat) (s:Nat):Nat:=(nI (fM F r s)).idxOf (ii (nI (fM F r s)))
theorem zR {F r:List Nat}{s:Nat} (hr:r ≠ []):bmF F r s≤s∧bmF F r s < r.length∧∀ y c',y≤s→r[y]? = some c'→F.getD (s - bmF F r s) 0 + r.getD (bmF F r s) 0≤F.getD (s - y) 0 + c':=by
 have hne:nI (fM F r s) ≠ []:=fun z=>by
  have:(fM F r s)[0]? = none:=by
   unfold nI at z
   rw [List.map_eq_nil_iff.mp z]; rfl
  rw [iu,if_pos (Ex s)] at this
  cases r with
  | nil=>exact hr rfl
  | cons c r=>cases this
 have hm:=iC hne
 have hi:bmF F r s < (nI (fM F r s)).length:=List.idxOf_lt_length_iff.mpr hm
 have hv:(nI (fM F r s))[bmF F r s]? = some (ii (nI (fM F r s))):=by
  rw [DN hi]
  exact ED some (GT hi)
 generalize bmF F r s=x at hi hv
 have hv':=hv
 unfold nI at hv'
 rw [DX,iu] at hv'
 by_cases hx:x≤s
 ·rw [if_pos hx] at hv'
  cases hc:r[x]? with
  | none=>rw [hc] at hv'; cases hv'
  | some c =>
   rw [hc] at hv'
   have hv2:((F.getD (s - x) 0 + c:Nat):Int)=ii (nI (fM F r s)):=DR hv'
   have hxl:=(List.getElem?_eq_some_iff.mp hc).1
   refine ⟨hx,hxl,fun y c' hy hc'=>?_⟩
   have hmem:((F.getD (s - y) 0 + c':Nat):Int) ∈ nI (fM F r s):=by
    refine List.mem_map.mpr ⟨F.getD (s - y) 0 + c',?_,rfl⟩
    refine List.mem_iff_getElem?.mpr ⟨y,?_⟩
    rw [iu,if_pos hy,hc']; rfl
   have:=nu hmem
   rw [← hv2] at this
   have e:r.getD x 0=c:=by rw [D3,hc]; rfl
   rw [e]
   exact Int.ofNat_le.mp this
 ·rw [if_neg hx] at hv'; cases hv'
theorem xV {S:Nat}{F r:List Nat} (hF:F.length=S + 1) (hr:r ≠ []):CU S r F ((List.range (S + 1)).map (bmF F r)) ((List.range (S + 1)).map fun s=>F.getD (s - bmF F r s) 0 + r.getD (bmF F r s) 0):=by
 refine ⟨by simp,by simp,fun s hs=>?_⟩
 obtain ⟨h1,h2,h3⟩:=zR (F:=F) (s:=s) hr
 have hlt:s < (List.range (S + 1)).length:=by rw [D1]; omega
 refine ⟨bmF F r s,r.getD (bmF F r s) 0,F.getD (s - bmF F r s) 0,h1,?_,kK h2,kK (by omega),?_,fun y c' b hy hc hb=>?_⟩
 ·rw [DX,EJ (by omega)]; rfl
 ·rw [DX,EJ (by omega)]; rfl
 ·have:=h3 y c' hy hc
  have e:F.getD (s - y) 0=b:=by rw [D3,hb]; rfl
  rw [e] at this
  exact this
theorem Dp.row {S:Nat}{rs T:List (List Nat)} {F:List Nat} (h:Dp S rs T F):T.length=rs.length∧∀ m ∈ T,m.length=S + 1∧∀ s,s≤S→m.getD s 0≤s:=by
 induction h with
 | nil=>exact ⟨rfl,fun _ h=>by cases h⟩
 | @snoc rs T r F ms F' h st ih =>
  refine ⟨by rw [DZ,DZ,ih.1]; rfl,fun m hm=>?_⟩
  rcases List.mem_append.mp hm with hm | hm
  ·exact ih.2 m hm
  ·rw [List.mem_singleton.mp hm]
   refine ⟨st.lm,fun s hs=>?_⟩
   obtain ⟨x,c,a,hx,h1,_⟩:=st.at_ s hs
   rw [D3,h1]; exact hx
namespace Wk
theorem nQ {F r:List Nat}{s:Nat} (hF:s < F.length) (hr:r ≠ []) (hl:s≤1000000):d8 [nl F,nl r,.int (s:Int)]=some (nD (bmF F r s)):=by
 have hcut:cY (r.map nD) none (some ((s:Int) + 1))=(r.take (s + 1)).map nD:=by
  rw [show (s:Int) + 1=((s + 1:Nat):Int) by omega,la,FH]
 have hen:mD [D.lst ((r.take (s + 1)).map nD)]=some (((r.take (s + 1)).zipIdx).map fun q=>D.tup [.int (q.2:Int),nD q.1]):=pL nD _
 have hz:(((r.take (s + 1)).zipIdx).map fun q=>D.tup [.int (q.2:Int),nD q.1]).length≤16777216:=by
  rw [DP,List.length_zipIdx,EL]; omega
 have hc:bw (cK 2 (aQ (nmG 4) (aQ (nmG 5) cL))) noT (bin aM (bin ixE (aa 0) (bin cX (aa 2) (aa 4))) (aa 5)) [Sl.val (nl F),Sl.val (nl r),Sl.val (.int (s:Int)),Sl.no,Sl.no,Sl.no] (((r.take (s + 1)).zipIdx).map fun q=>D.tup [.int (q.2:Int),nD q.1])=some ((fM F r s).map nD):=by
  have:=fU (fun q:Nat×Nat=>D.tup [.int (q.2:Int),nD q.1]) (fun q=>nD (F.getD (s - q.2) 0 + q.1)) (gf:=cK 2 (aQ (nmG 4) (aQ (nmG 5) cL))) (cf:=noT) (ef:=bin aM (bin ixE (aa 0) (bin cX (aa 2) (aa 4))) (aa 5)) (E:=[Sl.val (nl F),Sl.val (nl r),Sl.val (.int (s:Int)),Sl.no,Sl.no,Sl.no]) (r.take (s + 1)).zipIdx fun q hq=>by
   obtain ⟨c,j⟩:=q
   have hj:j < (r.take (s + 1)).length:=by
    obtain ⟨h1,_⟩:=List.mem_zipIdx hq
    have:=(List.mem_zipIdx hq).2.1
    omega
   rw [EL] at hj
   have ha:atI (F.map nD) ((s:Int) - (j:Int))=some (nD (F.getD (s - j) 0)):=by
    rw [show (s:Int) - (j:Int)=((s - j:Nat):Int) by omega]
    exact ji (by omega)
   simp only [ad,bin,aa,nmG,cK,aQ,cL,noT,ce,DA,DG,DH,DD,DF,on,DB,reduceIte,Nat.reduceAdd,true_and,Gd,D.int.injEq,Gm,aG,cz,ha]
   rw [← E7]
  rw [this]
  unfold fM
  rw [D7]; rfl
 have hne:nI (fM F r s) ≠ []:=fun z=>by
  have:(fM F r s)[0]? = none:=by
   unfold nI at z
   rw [List.map_eq_nil_iff.mp z]; rfl
  rw [iu,if_pos (Ex s)] at this
  cases r with
  | nil=>exact hr rfl
  | cons c r=>cases this
 have em:(fM F r s).map nD=(nI (fM F r s)).map D.int:=by unfold nI; rw [D7]; rfl
 have hi:qX (.lst ((nI (fM F r s)).map D.int)) (.int (ii (nI (fM F r s))))=some (nD (bmF F r s)):=by
  show (cT ((nI (fM F r s)).map D.int)).bind _=_
  rw [eJ]
  exact if_pos (iC hne)
 refine bv ?_
 simp only [d8,b_best_more,ad,aN,cc,aZ,ax,aj,aO,az,aH,bin,un,cst,aa,ac,ah,noP,be,aY,aX,aE,DA,DC,DI,DJ,DK,DL,DG,DH,DD,DF,on,DB,List.replicate,DM,D8,reduceIte,Nat.reduceAdd,Nat.reduceSub,aG,ix,aR,mC,hcut,hen,hz,hc]
 rw [em]
 simp only [ad,l_ hne,hi]
end Wk
theorem sW {α:Type} (n:Nat) (f:Nat→α):((List.range n).map f).zipIdx=(List.range n).map fun i=>(f i,i):=by
 refine EQ fun i=>?_
 rw [GI,DX,DX,FQ]
 by_cases h:i < n
 ·rw [EJ h]; rfl
 ·rw [Eh (by rw [D1]; omega)]; rfl
namespace Wk
theorem lz {Ms:List (List Nat)} {S:Nat} (hM:∀ r ∈ Ms,r ≠ []) (hS:S≤100000) (hl:Ms.length≤100000) :
  wp (dG [.lst (Ms.map nl),nD S]) fun d=>∃ xs w v,d=nl xs∧Al Ms xs w v∧w≤S∧∀ xs' w' v',Al Ms xs' w' v'→w'≤S→v≤v':=by
 have e1:(S:Int) + 1=((S + 1:Nat):Int):=by omega
 have hmul:o_ (.lst [.int 0]) (.int ((S:Int) + 1))=some (nl (List.replicate (S + 1) 0)):=by
  rw [e1,o9 (by omega)]
  unfold nl
  rw [GS]; rfl
 have hrg:df [.int ((S:Int) + 1)]=some (bQ 0 (S + 1)):=by rw [e1,bT (by omega) (by omega),Ey]
 have hz1:(bQ 0 (S + 1)).length≤16777216:=by unfold bQ; rw [DP,D1]; omega
 simp only [dG,b_shared_out,ad,aZ,ax,aj,az,bL,bA,aH,bin,un,cst,var,aa,ac,ah,bf,bg,aL,DA,DC,DI,DJ,DK,DL,DG,DH,DD,DF,on,DB,List.replicate,reduceIte,Nat.reduceAdd,Nat.reduceSub,Nat.reduceLeDiff,aG,aR,hmul]
 refine bz nl Ms (fun pre E=>∃ T F s4 s5,E=[Sl.val (.lst (Ms.map nl)),Sl.val (nD S),Sl.val (nl F),Sl.own (.lst (T.map nl)),s4,s5,Sl.no,Sl.no,Sl.no]∧Dp S pre T F) rfl ⟨[],_,_,_,rfl,.nil⟩ ?_ ?_
 ·rintro pre r post E hs ⟨T,F,s4,s5,rfl,hd⟩
  have hr:r ≠ []:=hM r (by rw [hs]; simp)
  have hF:=hd.len
  have hT:=hd.row.1
  have hpl:pre.length < Ms.length:=by rw [hs]; simp
  have hc1:∀ s5,bw (nmG 7) noT (ay 3 d8 (ac (var 2) (ac (var 4) (ac (var 7) ah)))) [Sl.val (.lst (Ms.map nl)),Sl.val (nD S),Sl.val (nl F),Sl.own (.lst (T.map nl)),Sl.val (nl r),s5,Sl.no,Sl.no,Sl.no] (bQ 0 (S + 1))=some (((List.range (S + 1)).map (bmF F r)).map nD):=fun s5=>by
   rw [j9,D7]
   refine bM (fun i:Nat=>D.int (0 + i)) (nD ∘ bmF F r) _ fun s hs=>?_
   rw [Fj] at hs
   refine bv ?_
   simp only [ad,var,ay,ac,ah,DA,DC,DG,DH,DD,DF,on,DB,reduceIte,Nat.reduceAdd,EN,nQ (F:=F) (r:=r) (s:=s) (by omega) hr (by omega)]
   rfl
  have hen:mD [D.lst (((List.range (S + 1)).map (bmF F r)).map nD)]=some ((List.range (S + 1)).map fun s:Nat=>D.tup [.int (s:Int),nD (bmF F r s)]):=by
   rw [pL nD,sW,D7]; rfl
  have hz2:((List.range (S + 1)).map fun s:Nat=>D.tup [.int (s:Int),nD (bmF F r s)]).length≤16777216:=by rw [DP,D1]; omega
  have hc2:bw (cK 2 (aQ (nmG 7) (aQ (nmG 8) cL))) noT (bin aM (bin ixE (aa 2) (bin cX (aa 7) (aa 8))) (bin ixE (aa 4) (aa 8))) [Sl.val (.lst (Ms.map nl)),Sl.val (nD S),Sl.val (nl F),Sl.own (.lst (T.map nl)),Sl.val (nl r),Sl.val (.lst (((List.range (S + 1)).map (bmF F r)).map nD)),Sl.no,Sl.no,Sl.no] ((List.range (S + 1)).map fun s:Nat=>D.tup [.int (s:Int),nD (bmF F r s)])=some (((List.range (S + 1)).map fun s=>F.getD (s - bmF F r s) 0 + r.getD (bmF F r s) 0).map nD):=by
   rw [D7 (f:=fun s=>F.getD (s - bmF F r s) 0 + r.getD (bmF F r s) 0)]
   refine fU (fun s:Nat=>D.tup [.int (s:Int),nD (bmF F r s)]) _ _ fun s hs=>?_
   rw [Fj] at hs
   obtain ⟨b1,b2,_⟩:=zR (F:=F) (s:=s) hr
   have ha:atI (F.map nD) ((s:Int) - (bmF F r s:Int))=some (nD (F.getD (s - bmF F r s) 0)):=by
    rw [show (s:Int) - (bmF F r s:Int)=((s - bmF F r s:Nat):Int) by omega]
    exact ji (by omega)
   simp only [ad,bin,aa,nmG,cK,aQ,cL,noT,ce,DA,DG,DH,DD,DF,on,DB,reduceIte,Nat.reduceAdd,true_and,Gd,Gm,aG,cz,ha,ji b2]
   first | (rw [← E7]; done) | (rw [← E7]; rfl)
  have hz3:(T.map nl).length < 16777216:=by rw [DP]; omega
  simp only [ad,aN,cc,ax,aj,az,bin,cst,var,aa,ac,ah,bR,nmG,aX,aE,DA,DC,DD,DF,on,DB,DM,D8,reduceIte,aG,aR,d5,cm,hrg,hz1,hc1,mC,hen,hz2,hc2,hz3]
  refine ⟨T ++ [(List.range (S + 1)).map (bmF F r)],_,Sl.val (nl r),Sl.val (nl ((List.range (S + 1)).map (bmF F r))),?_,hd.snoc (xV hF hr)⟩
  rw [Ej]; rfl
 ·rintro E ⟨T,F,s4,s5,rfl,hd⟩
  obtain ⟨hT,hrow⟩:=hd.row
  have hrev:B4 [D.lst (T.map nl)]=some (T.reverse.map nl):=by
   show some _=_
   rw [← List.map_reverse]
  simp only [ad,ax,aj,bL,bA,var,ac,ah,bf,DA,DC,DH,DD,DF,on,DB,reduceIte,Nat.reduceLeDiff,aR,yb,hrev,fzE]
  refine bz nl T.reverse (fun pre E=>∃ s sh s5,E=[Sl.val (.lst (Ms.map nl)),Sl.val (nD s),Sl.val (nl F),Sl.val (.lst (T.map nl)),s4,s5,Sl.own (.lst (sh.map nD)),Sl.no,Sl.no]∧s≤S∧sh.length=pre.length∧jS T.reverse S=sh ++ jS (T.reverse.drop pre.length) s) rfl ⟨S,[],_,rfl,DY _,rfl,rfl⟩ ?_ ?_
  ·rintro pre m post E hs ⟨s,sh,s5,rfl,h1,h2,h3⟩
   have hmem:m ∈ T:=List.mem_reverse.mp (by rw [hs]; simp)
   obtain ⟨m1,m2⟩:=hrow m hmem
   have hdr:T.reverse.drop pre.length=m :: post:=by rw [hs]; simp
   have hdr2:T.reverse.drop (pre ++ [m]).length=post:=by rw [hs]; simp
   have ha:atI (m.map nD) (s:Int)=some (nD (m.getD s 0)):=ji (by omega)
   have hy:=m2 s h1
   have hpl:pre.length < T.length:=by
    have:=ED List.length hs
    rw [FD] at this
    rw [this]; simp
   have hz3:(sh.map nD).length < 16777216:=by rw [DP]; omega
   simp only [ad,ax,aj,bin,aa,nmG,DA,DD,DF,on,DB,reduceIte,d5,cz,cm,zx,ha,hz3]
   refine ⟨s - m.getD s 0,sh ++ [m.getD s 0],Sl.val (nl m),?_,by omega,by simp [h2],?_⟩
   ·rw [Ej,show (s:Int) - (m.getD s 0:Int)=((s - m.getD s 0:Nat):Int) by omega]; rfl
   ·rw [hdr2,h3,hdr,E6]; rfl
  ·rintro E ⟨s,sh,s5,rfl,h1,h2,h3⟩
   rw [FT] at h3
   have h4:jS T.reverse S=sh:=by rw [h3]; show sh ++ []=sh; exact Ez _
   obtain ⟨w,v,f1,f2,f3⟩:=hd.tr S (DY _)
   obtain ⟨v',g1,g2⟩:=hd.best S (DY _)
   rw [f1] at g1
   cases g1
   rw [h4] at f3
   have hlr:kz (.lst (sh.map nD))=some (nl sh.reverse):=by
    show some _=_
    unfold nl
    rw [List.map_reverse]
   simp only [ad,aj,aO,DA,DC,DD,DF,on,DB,fzE,hlr]
   exact ⟨sh.reverse,w,v,rfl,f3,f2,g2⟩
end Wk
def cnt (ws:List Str) (m:Nat):Nat:=((List.range ws.length).filter fun e=>decide (m≤dz ws e)).length
def lm (ws:List Str):Nat:=(if ca ws=[] then 0 else eV (ca ws)).toNat
def fP (ws:List Str):List Nat:=(List.range (lm ws + 1)).map fun x=>cnt ws (x + 1)
theorem rX (ws:List Str):fP ws ≠ []:=fun z=>by
 have:=ED List.length z
 unfold fP at this
 rw [DP,D1] at this
 cases this
theorem pc (ws:List Str):(fP ws).length=lm ws + 1:=by unfold fP; rw [DP,D1]
theorem A1 {ws:List Str} (hl:ws.length≤90000):(if ca ws=[] then 0 else eV (ca ws))=(lm ws:Int):=by
 unfold lm
 by_cases h:ws=[]
 ·subst h; rfl
 ·obtain ⟨L,_,h2,_⟩:=md h hl
  rw [if_neg (k7 h),h2]; rfl
theorem wB {ws:List Str} (h:ws ≠ []) (hl:ws.length≤90000):lm ws + 1≤ws.length∧cnt ws (lm ws + 1)=0:=by
 obtain ⟨L,_,h2,h3,h4,_⟩:=md h hl
 have e:lm ws=L:=by
  unfold lm
  rw [if_neg (k7 h),h2]; rfl
 rw [e]
 refine ⟨h3,?_⟩
 unfold cnt
 rw [List.filter_eq_nil_iff.mpr fun e he=>?_]
 ·rfl
 ·rw [Fj] at he
  intro z
  exact h4 e he (((S2.common_end_eq ws e e rfl (by omega) hl).2 _).mp (EO z))
theorem wv:fP []=[0]:=rfl
theorem CA {ws:List Str} (hl:ws.length≤90000):lm ws≤ws.length:=by
 by_cases h:ws=[]
 ·subst h; exact DY _
 ·have:=(wB h hl).1; omega
def gr (ws:List Str):List Nat:=(List.range ws.length).map fun x=>cnt ws (x + 1)
theorem xQ {ws:List Str} (h:ws ≠ []) (hl:ws.length≤90000):CT (gr ws) (fP ws):=by
 obtain ⟨h1,h2⟩:=wB h hl
 refine ⟨rX ws,fun x c hx=>?_,fun x c hx=>?_⟩
 ·unfold fP at hx
  unfold gr
  rw [DX] at hx ⊢
  by_cases hlt:x < lm ws + 1
  ·rw [EJ hlt] at hx
   rw [EJ (by omega)]; exact hx
  ·rw [Eh (by rw [D1]; omega)] at hx; cases hx
 ·rw [pc]
  unfold fP
  rw [DX,EJ (by omega)]
  refine ⟨_,rfl,?_⟩
  unfold gr at hx
  rw [DX] at hx
  rcases Nat.lt_or_ge x (lm ws) with q | q
  ·have hxl:x < ws.length:=by omega
   rw [EJ hxl] at hx
   cases hx
   rw [show min x (lm ws + 1 - 1)=x by omega]; exact DY _
  ·rw [show min x (lm ws + 1 - 1)=lm ws by omega]
   show cnt ws (lm ws + 1)≤c
   rw [h2]; exact Ex _
def pQ (p:List Sp) (k:Nat):List (List Nat):=(bG p k).map fun n=>fP (cu (p.take k) n)
def dN (p:List Sp) (n:Nat):List (List Nat):=(List.range n).flatMap (pQ p)
theorem mH (p:List Sp) (n:Nat):dN p (n + 1)=dN p n ++ pQ p n:=by
 unfold dN
 rw [FX,GK,List.flatMap_singleton]
theorem sM {p:List Sp}{n:Nat}:∀ r ∈ dN p n,r ≠ []:=fun r hr=>by
 obtain ⟨k,_,hr⟩:=List.mem_flatMap.mp hr
 obtain ⟨x,_,rfl⟩:=List.mem_map.mp hr
 exact rX _
theorem pP {p:List Sp}{n B:Nat} (h8:∀ k,(bG p k).length≤B):(dN p n).length≤B * n:=by
 induction n with
 | zero=>simp [dN]
 | succ n ih =>
  rw [mH,DZ]
  unfold pQ
  rw [DP,Nat.mul_succ]
  have:=h8 n; omega
namespace Wk
theorem lG:g_common_ends=S2.g_common_ends:=rfl
theorem lH:g_all_windows=S2.g_all_windows:=rfl
theorem zp:g_whole_counts=S2.g_whole_counts:=rfl
theorem pX (ws:List Str) (m:Nat) (hl:ws.length≤90000):eY [.lst ((ca ws).map D.int),nD m]=some (nD (cnt ws m)):=by
 have e:(ca ws).map D.int=(List.range ws.length).map fun e=>nD (dz ws e):=by unfold ca; rw [D7]; rfl
 rw [e]
 have hz:((List.range ws.length).map fun e=>nD (dz ws e)).length≤16777216:=by rw [DP,D1]; omega
 have hc:bw (nmG 2) (tst (bin geD (aa 2) (aa 1))) (var 2) [Sl.val (.lst ((List.range ws.length).map fun e=>nD (dz ws e))),Sl.val (nD m),Sl.no] ((List.range ws.length).map fun e=>nD (dz ws e))=some (((List.range ws.length).filter fun e=>decide (m≤dz ws e)).map fun e=>nD (dz ws e)):=by
  refine dJ (fun e=>nD (dz ws e)) _ _ _ fun e _=>?_
  simp only [ad,bin,var,aa,tst,asB,nmG,y7,DA,DD,DF,on,DB,Gd]
  refine ⟨?_,fun _=>trivial⟩
  simp only [Int.ofNat_le]
 refine bv ?_
 simp only [eY,b_at_least,ad,aZ,aO,aH,un,var,bg,aX,aE,aL,DA,DC,DI,DJ,DK,DL,DG,DH,DD,DF,on,List.replicate,DM,D8,reduceIte,Nat.reduceAdd,Nat.reduceSub,D.int.injEq,aR,bH,hc,DP,D1,aR (show ws.length≤16777216 by omega)]
 rfl
theorem lC (ws:List Str) (hl:ws.length≤90000):dH [dt ws]=some (nl (fP ws)):=by
 have hce:g_common_ends [dt ws]=some (.lst ((ca ws).map D.int)):=by rw [lG]; exact S2.common_ends_I ws hl
 have hle:=CA hl
 have hmx:rY (.lst ((ca ws).map D.int)) (.int 0)=some (nD (lm ws)):=by rw [qK,A1 hl]
 have hrg:jq [.int 1,.int ((lm ws:Int) + 2)]=some (bQ 1 (lm ws + 1)):=by
  rw [i6 (by omega) (by omega) (by omega) (by omega)]
  congr 2; omega
 have hz:(bQ 1 (lm ws + 1)).length≤16777216:=by unfold bQ; rw [DP,D1]; omega
 have hc:bw (nmG 2) noT (ay 2 eY (ac (var 1) (ac (var 2) ah))) [Sl.val (dt ws),Sl.val (.lst ((ca ws).map D.int)),Sl.no] (bQ 1 (lm ws + 1))=some ((fP ws).map nD):=by
  unfold fP
  rw [D7]
  refine bM (fun i:Nat=>D.int (1 + (i:Nat))) _ _ fun x hx=>?_
  refine bv ?_
  have h1:=pX ws (x + 1) hl
  have e:(1:Int) + (x:Int)=((x + 1:Nat):Int):=by omega
  simp only [ad,var,ay,ac,ah,DA,DC,DG,DH,DD,DF,on,DB,reduceIte,Nat.reduceAdd,e,h1]
  rfl
 refine bv ?_
 simp only [dH,b_moments_in,ad,aZ,ax,aj,aO,az,aH,bin,cst,var,aa,ay,ac,ah,j_,aX,aE,DA,DC,DI,DJ,DK,DL,DG,DH,DD,DF,on,DB,List.replicate,DM,D8,reduceIte,Nat.reduceAdd,Nat.reduceSub,aG,aR,hce,hmx,hrg,hz,hc]
theorem ig (p:List Sp) (hp:p.length≤100) (hN:(ci p).length≤10000) (hW:(ao p).length≤10000) (h8:∀ k,(bG p k).length≤100):cA [bX p]=some (.lst ((dN p p.length).map nl)):=by
 have ha:g_all_windows [bX p]=some (.tup ((List.range p.length).map (awD p))):=by rw [lH]; exact S2.all_windows_eq p (by omega) hN hW (fun k _=>by have:=h8 k; omega)
 have hwl:∀ k n,(cu (p.take k) n).length≤90000:=fun k n=>D6 (gy n _) (D6 (dP (ES k p).symm) (by omega))
 refine bv ?_
 simp only [cA,b_moments_of_cues,ad,aZ,ax,aj,bL,bA,aH,var,ay,ac,ah,bf,bg,aL,DA,DC,DI,DJ,DK,DL,DG,DH,DD,DF,on,List.replicate,reduceIte,Nat.reduceAdd,Nat.reduceSub,Nat.reduceLeDiff,aR,ha]
 refine bz (awD p) (List.range p.length) (fun pre E=>∃ s2 s3,E=[Sl.val (bX p),Sl.own (.lst ((dN p pre.length).map nl)),s2,s3]) rfl ⟨_,_,rfl⟩ ?_ ?_
 ·rintro pre k post E hs ⟨s2,s3,rfl⟩
  obtain ⟨rfl,hk⟩:=dE hs
  have h9:=h8 pre.length
  have hz:((bG p pre.length).map fun n=>dt (cu (p.take pre.length) n)).length≤16777216:=by rw [DP]; omega
  have hc:∀ s3,bw (nmG 3) noT (ay 1 dH (ac (var 3) ah)) [Sl.val (bX p),Sl.own (.lst ((dN p pre.length).map nl)),Sl.val (awD p pre.length),s3] ((bG p pre.length).map fun n=>dt (cu (p.take pre.length) n))=some ((pQ p pre.length).map nl):=fun s3=>by
   unfold pQ
   rw [D7]
   refine bM (fun n=>dt (cu (p.take pre.length) n)) _ _ fun n _=>?_
   refine bv ?_
   simp only [ad,var,ay,ac,ah,DA,DC,DG,DH,DD,DF,on,DB,reduceIte,Nat.reduceAdd,lC _ (hwl pre.length n)]
   rfl
  have hit:aL (awD p pre.length)=some ((bG p pre.length).map fun n=>dt (cu (p.take pre.length) n)):=rfl
  have hcl:=pP (n:=pre.length) h8
  have hcl2:(pQ p pre.length).length≤100:=by unfold pQ; rw [DP]; exact h9
  have hz2:((dN p pre.length).map nl).length + ((pQ p pre.length).map nl).length≤16777216:=by
   rw [DP,DP]
   have:100 * pre.length≤100 * 100:=Fd _ (by omega)
   omega
  simp only [ad,var,bg,nmG,aX,aE,DA,DC,DD,DF,on,DB,DM,D8,reduceIte,aR,lE,gD,↓hit,hz,hc,hz2]
  exact ⟨_,_,by rw [DZ,ET,mH,Ej]⟩
 ·rintro E ⟨s2,s3,rfl⟩
  simp only [ad,aj,aO,DC,DD,DF,on,DB,fzE,D1]
end Wk
abbrev nt (r:List Nat):D:=.tup (r.map nD)
def gv:List (List Nat)→List Nat→List (List Nat)
 | [],_=>[]
 | o :: os,xs=>List.zipWith (· + ·) o (xs.take o.length) :: gv os (xs.drop o.length)
theorem sX (o ys:List Nat):List.zipWith (fun a b=>D.tup [a,b]) (o.map nD) (ys.map nD)=(o.zip ys).map fun q=>D.tup [nD q.1,nD q.2]:=by
 induction o generalizing ys with
 | nil=>simp
 | cons a o ih=>cases ys with
  | nil=>simp
  | cons b ys=>simp [ih]
theorem xM (o ys:List Nat):((o.zip ys).map fun q=>nD (q.1 + q.2))=(List.zipWith (· + ·) o ys).map nD:=by
 induction o generalizing ys with
 | nil=>simp
 | cons a o ih=>cases ys with
  | nil=>simp
  | cons b ys=>simp [ih]
theorem mV (l:List Nat):(nI l).sum=(l.sum:Int):=by
 induction l with
 | nil=>rfl
 | cons a l ih =>
  show ((a:Int) :: nI l).sum=_
  rw [EH,ih,EH,E7]
def ng (p:List Sp) (k:Nat):List Nat:=(bG p k).map fun n=>min 1 (cu (p.take k) n).length
def dl (p:List Sp):List (List Nat):=(List.range p.length).map (ng p)
namespace Wk
theorem rh (ws:List Nat) (hl:ws.length≤1000):fR [nt ws,.int 1]=some (nt (ws.map fun n=>min 1 n)):=by
 have hz:(ws.map nD).length≤16777216:=by rw [DP]; omega
 have hc:bw (nmG 2) noT (lq gm (ac (var 1) (ac (var 2) ah))) [Sl.val (nt ws),Sl.val (.int 1),Sl.no] (ws.map nD)=some ((ws.map fun n=>min 1 n).map nD):=by
  rw [D7]
  refine bM nD _ _ fun n _=>?_
  refine bv ?_
  simp only [ad,var,ac,ah,DA,DC,DD,DF,on,DB,lq,gm]
  show D.int _=D.int _
  congr 1
  show _=((min 1 n:Nat):Int)
  split <;> omega
 refine bv ?_
 simp only [fR,b_at_most,ad,aZ,aO,aH,un,var,bg,aX,aE,aL,DA,DC,DI,DJ,DK,DL,DG,DH,DD,DF,on,List.replicate,DM,D8,reduceIte,Nat.reduceAdd,Nat.reduceSub,aR,bP,hz,hc]
theorem pZ (p:List Sp) (hp:p.length≤100) (hN:(ci p).length≤10000) (hW:(ao p).length≤10000) (h8:∀ k,(bG p k).length≤100):iL [bX p,.int 1]=some (.tup ((dl p).map nt)):=by
 have hw:g_whole_counts [bX p]=some (.tup ((List.range p.length).map (wcD p))):=by rw [zp]; exact S2.whole_counts_eq p (by omega) hN hW
 have hz:((List.range p.length).map (wcD p)).length≤16777216:=by simp; omega
 have hc:bw (nmG 2) noT (ay 2 fR (ac (var 2) (ac (var 1) ah))) [Sl.val (bX p),Sl.val (.int 1),Sl.no] ((List.range p.length).map (wcD p))=some ((dl p).map nt):=by
  unfold dl
  rw [D7]
  refine bM (wcD p) _ _ fun k _=>?_
  have e:wcD p k=nt ((bG p k).map fun n=>(cu (p.take k) n).length):=by unfold wcD nt; rw [D7]; rfl
  have h1:=rh ((bG p k).map fun n=>(cu (p.take k) n).length) (by rw [DP]; have:=h8 k; omega)
  refine bv ?_
  simp only [ad,var,ay,ac,ah,DA,DC,DG,DH,DD,DF,on,DB,reduceIte,Nat.reduceAdd,e,h1]
  unfold ng
  rw [D7]; rfl
 refine bv ?_
 simp only [iL,b_alike,ad,aZ,aO,aH,un,var,ay,ac,ah,bg,aX,aE,aL,DA,DC,DI,DJ,DK,DL,DG,DH,DD,DF,on,List.replicate,DM,D8,reduceIte,Nat.reduceAdd,Nat.reduceSub,aR,bP,hw,hz,hc]
theorem n9 (ls:List (List Nat)) (hl:ls.length≤1000):iK [.tup (ls.map nt)]=some (nD (ls.map List.sum).sum):=by
 have hz:(ls.map nt).length≤16777216:=by rw [DP]; omega
 have hc:bw (nmG 1) noT (un i0 (aa 1)) [Sl.val (.tup (ls.map nt)),Sl.no] (ls.map nt)=some ((nI (ls.map List.sum)).map D.int):=by
  unfold nI
  rw [D7,D7]
  refine bM nt _ _ fun l _=>?_
  have e:nt l=.tup ((nI l).map D.int):=by unfold nt nI; rw [D7]; rfl
  refine bv ?_
  simp only [ad,un,aa,DA,DD,DF,on,DB,e,vB,mV]
  rfl
 refine bv ?_
 simp only [iK,b_total,ad,aZ,aO,aH,un,var,bg,aX,aE,aL,DA,DC,DI,DJ,DK,DL,DG,DH,DD,DF,on,List.replicate,DM,D8,reduceIte,Nat.reduceAdd,Nat.reduceSub,aR,hz,hc,iw,mV]
theorem jP (os:List (List Nat)) (xs:List Nat) (hl:os.length≤100000) (hr:∀ o ∈ os,o.length≤1000):dh [.tup (os.map nt),nl xs]=some (.tup ((gv os xs).map nt)):=by
 refine bv ?_
 simp only [dh,b_with_shares,ad,aZ,ax,aj,az,bL,bA,cst,var,ah,bf,bg,aL,DA,DC,DI,DJ,DK,DL,DG,DH,DD,DF,on,List.replicate,reduceIte,Nat.reduceAdd,Nat.reduceSub,Nat.reduceLeDiff,aR]
 refine bz nt os (fun pre E=>∃ (f:Nat) (res:List (List Nat)) (s4 s5:Sl),E=[Sl.val (.tup (os.map nt)),Sl.val (nl xs),Sl.own (.lst (res.map nt)),Sl.val (nD f),s4,s5,Sl.no,Sl.no]∧res.length=pre.length∧gv os xs=res ++ gv (os.drop pre.length) (xs.drop f)) rfl ⟨0,[],_,_,rfl,rfl,rfl⟩ ?_ ?_
 ·rintro pre o post E hs ⟨f,res,s4,s5,rfl,h1,h2⟩
  have hol:=hr o (by rw [hs]; simp)
  have hpl:pre.length < os.length:=by rw [hs]; simp
  have hdr:os.drop pre.length=o :: post:=by rw [hs]; simp
  have hdr2:os.drop (pre ++ [o]).length=post:=by rw [hs]; simp
  have hcut:cY (xs.map nD) (some (f:Int)) (some ((f:Int) + (o.length:Int)))=((xs.drop f).take o.length).map nD:=by
   rw [show (f:Int) + (o.length:Int)=((f + o.length:Nat):Int) by omega,iT,← FH,← FV,List.drop_take]
   congr 2; omega
  have hz:(o.zip ((xs.drop f).take o.length)).length≤16777216:=by
   rw [List.length_zip]; omega
  have hc:∀ s3:Sl,∀ s5:Sl,bw (cK 2 (aQ (nmG 6) (aQ (nmG 7) cL))) noT (bin aM (aa 6) (aa 7)) [Sl.val (.tup (os.map nt)),Sl.val (nl xs),Sl.own (.lst (res.map nt)),s3,Sl.val (nt o),s5,Sl.no,Sl.no] ((o.zip ((xs.drop f).take o.length)).map fun q=>D.tup [nD q.1,nD q.2])=some ((List.zipWith (· + ·) o ((xs.drop f).take o.length)).map nD):=fun s3 s5=>by
   rw [← xM]
   refine fU (fun q:Nat×Nat=>D.tup [nD q.1,nD q.2]) _ _ fun q _=>?_
   simp only [ad,bin,aa,nmG,cK,aQ,cL,noT,DA,DG,DH,DD,DF,on,DB,reduceIte,Nat.reduceAdd,true_and,Gd,D.int.injEq,Gm,aG]
   first | (rw [← E7]; done) | (rw [← E7]; rfl)
  have hz2:(res.map nt).length < 16777216:=by rw [DP]; omega
  simp only [ad,aN,cc,ax,aj,az,bin,un,var,aa,ac,ah,be,aY,nmG,aX,aE,bW,DA,DC,DD,DF,on,DB,DM,D8,reduceIte,aG,ix,aR,d5,dF,cm,bP,DP,hcut,mS,sZ,sX,hz,hc,d5 (show res.length < 16777216 by omega)]
  refine ⟨f + o.length,res ++ [List.zipWith (· + ·) o ((xs.drop f).take o.length)],Sl.val (nt o),Sl.val (nD (f + o.length)),?_,by simp [h1],?_⟩
  ·rw [Ej,← E7]; rfl
  ·rw [hdr2,h2,hdr,E6]
   show _=res ++ (_ :: gv post (List.drop (f + o.length) xs))
   rw [← List.drop_drop]; rfl
 ·rintro E ⟨f,res,s4,s5,rfl,h1,h2⟩
  rw [FT] at h2
  have h3:gv os xs=res:=by rw [h2]; exact Ez _
  simp only [ad,aj,aO,aH,un,aa,DA,DC,on,DB,bP,h3]
theorem x_ {Ms:List (List Nat)} (hM:∀ r ∈ Ms,r ≠ []):((nI (Ms.map List.length)).map fun i=>i - 1).sum=(fN Ms:Int):=by
 unfold fN nI
 induction Ms with
 | nil=>rfl
 | cons r Ms ih =>
  have:=ih fun x hx=>hM x (DS _ hx)
  have h1:=List.length_pos_iff.mpr (hM r DW)
  simp only [DI,EH] at this ⊢
  rw [this,E7]
  omega
theorem qi (p:List Sp) (most:Int) (n:Nat) (hp:p.length≤100) (hN:(ci p).length≤10000) (hW:(ao p).length≤10000) (h8:∀ k,(bG p k).length≤100) (hn:((dl p).map List.sum).sum=n) (hm:(n:Int)≤most) (hrm:fN (dN p p.length)≤100000) :
  wp (da [bX p,.int most]) fun d=>∃ xs w v,d=.tup ((gv (dl p) xs).map nt)∧Al (dN p p.length) xs w v∧w≤min (most - n).toNat (fN (dN p p.length))∧∀ xs' w' v',Al (dN p p.length) xs' w' v'→w'≤min (most - n).toNat (fN (dN p p.length))→v≤v':=by
 have h1:=pZ p hp hN hW h8
 have h2:=n9 (dl p) (by unfold dl; rw [DP,D1]; omega)
 rw [hn] at h2
 have h3:=ig p hp hN hW h8
 have hcl:=pP (n:=p.length) h8
 have hcl':(dN p p.length).length≤10000:=D6 hcl (Nat.mul_le_mul (DY 100) hp)
 have hz:((dN p p.length).map nl).length≤16777216:=by rw [DP]; omega
 have hc:∀ s5,bw (nmG 6) noT (bin cX (un bj (aa 6)) (cst (.int 1))) [Sl.val (bX p),Sl.val (.int most),Sl.val (.tup ((dl p).map nt)),Sl.val (nD n),Sl.val (.lst ((dN p p.length).map nl)),s5,Sl.no] ((dN p p.length).map nl)=some (((nI ((dN p p.length).map List.length)).map fun i=>i - 1).map D.int):=fun s5=>by
  unfold nI
  rw [D7,D7,D7]
  refine bM nl _ _ fun r _=>?_
  refine bv ?_
  simp only [ad,bin,un,cst,aa,ce,DA,DD,DF,on,DB,bH,DP]
  rfl
 have hsp:(if (fN (dN p p.length):Int) < most - (n:Int) then (fN (dN p p.length):Int) else most - (n:Int))=((min (most - n).toNat (fN (dN p p.length)):Nat):Int):=by
  split <;> omega
 have hlt:decide (most < (n:Int))=false:=D5 (by omega)
 simp only [da,b_thrifty,ad,aN,cc,aZ,ax,aj,aO,az,bF,cb,aH,br,bin,un,cst,var,aa,tst,asB,ay,ac,ah,bg,aX,aE,ce,c_,aL,DA,DC,DI,DJ,DK,DL,DG,DH,DD,DF,on,DB,List.replicate,DM,D8,reduceIte,Nat.reduceAdd,Nat.reduceSub,aR,lq,gm,h1,h2,hlt,h3,hz,hc,iw,x_ (sM (p:=p) (n:=p.length)),hsp]
 obtain ⟨d,hd,xs,w,v,rfl,q1,q2,q3⟩:=cp.mp (lz (Ms:=dN p p.length) (S:=min (most - n).toNat (fN (dN p p.length))) sM (by omega) (by omega))
 have hws:=jP (dl p) xs (by unfold dl; rw [DP,D1]; omega) fun o ho=>by
  obtain ⟨k,_,rfl⟩:=List.mem_map.mp ho
  unfold ng
  rw [DP]
  have:=h8 k; omega
 simp only [ad,hd,hws]
 exact ⟨xs,w,v,rfl,q1,q2,q3⟩
end Wk
def prs (p:List Sp) (n:Nat):List (Nat×Str):=(List.range n).flatMap fun k=>(bG p k).map fun x=>(k,x)
theorem oQ (p:List Sp) (n:Nat):prs p (n + 1)=prs p n ++ (bG p n).map fun x=>(n,x):=by
 unfold prs
 rw [FX,GK,List.flatMap_singleton]
theorem jH {p:List Sp}{B:Nat} (h8:∀ k,(bG p k).length≤B):∀ n,(prs p n).length≤B * n
 | 0=>by simp [prs]
 | n + 1=>by
  rw [oQ,DZ,DP,Nat.mul_succ]
  have:=jH h8 n
  have:=h8 n
  omega
def wnD (p:List Sp) (q:Nat×Str):List Str:=cu (p.take q.1) q.2
def enD (p:List Sp) (q:Nat×Str):D:=.tup [.int (q.1:Int),.str q.2,.int (stW (p.take q.1) q.2),.int ((ao (p.take q.1)).length:Int)]
theorem uV {n m:Nat} (P:Nat→Bool) (h:m≤n) (h0:∀ e,e < m→P e=false):((List.range (n - m)).filter fun i=>P (m + i)).length=((List.range n).filter P).length:=by
 obtain ⟨k,rfl⟩:∃ k,n=m + k:=⟨n - m,by omega⟩
 have hn:(List.range m).filter P=[]:=List.filter_eq_nil_iff.mpr fun e he=>by rw [h0 e (List.mem_range.mp he)]; decide
 rw [List.range_add,Ga,hn,DL,List.filter_map,DP,show m + k - m=k by omega]; rfl
theorem wZ {α:Type}{P:α→Bool}{q:α} (l:List α) (h:P q=true):(l ++ [q]).filter P=l.filter P ++ [q]:=by rw [Ga,List.filter_cons_of_pos h]; rfl
theorem zb {α:Type}{P:α→Bool}{q:α} (l:List α) (h:¬ P q=true):(l ++ [q]).filter P=l.filter P:=by rw [Ga,List.filter_cons_of_neg h]; exact Ez _
namespace Wk
theorem nv (p:List Sp) (hW:(ao p).length≤10000):g8 [bX p]=some (.lst ((ao p).map D.str)):=by
 refine bv ?_
 simp only [g8,b__Lwords,ad,aZ,ax,aj,bL,bA,aH,var,ah,bf,bg,bW,DA,DC,DI,DJ,DK,DL,DG,DH,DD,DF,on,List.replicate,reduceIte,Nat.reduceAdd,Nat.reduceSub,Nat.reduceLeDiff,aR,bX]
 refine bz de p (fun pre E=>∃ s2 s3,E=[Sl.val (D.tup (p.map de)),Sl.own (.lst ((ao pre).map D.str)),s2,s3]) rfl ⟨_,_,rfl⟩ ?_ ?_
 ·rintro pre s post E hs ⟨s2,s3,rfl⟩
  have h2:=dP (p:=p) (pre:=pre ++ [s]) (post:=post) (by rw [hs]; simp)
  rw [cr,DZ] at h2
  have hz:((ao pre).map D.str).length + (s.2.map D.str).length≤16777216:=by rw [DP,DP]; omega
  simp only [ad,aa,nmG,cK,aQ,cL,DA,DG,DH,DD,DF,on,DB,reduceIte,Nat.reduceAdd,aR,lE,gD,de,dt,hz]
  exact ⟨_,_,by rw [cr,Ej]⟩
 ·rintro E ⟨s2,s3,rfl⟩
  simp only [ad,aj,aO,DC,DD,DF,on,DB,fzE]
theorem rc (p:List Sp) (hp:p.length≤100) (hN:(ci p).length≤10000) (hW:(ao p).length≤10000) (h8:∀ k,(bG p k).length≤100):ft [bX p]=some (.lst ((prs p p.length).map (enD p))):=by
 have hrg:df [.int (p.length:Int)]=some (bQ 0 p.length):=by rw [bT (by omega) (by omega),Ey]
 have hlen:bj (bX p)=some (.int (p.length:Int)):=by show some (D.int ((p.map de).length:Int))=_; rw [DP]
 have hix:∀ k,k < p.length→ixE (bX p) (.int (k:Int))=some (de (p.getD k ([],[]))):=fun k hk=>by
  show atI (p.map de) (k:Int)=_
  rw [dL,DX,DN hk,D3,DN hk]; rfl
 refine bv ?_
 simp only [ft,b__Lentries,ad,aZ,ax,aj,az,bL,bA,aH,un,cst,var,aa,ac,ah,bf,bR,uP,DA,DC,DI,DJ,DK,DL,DG,DH,DD,DF,on,List.replicate,reduceIte,Nat.reduceAdd,Nat.reduceSub,Nat.reduceLeDiff,aR,↓hlen,hrg]
 refine bz (fun i:Nat=>D.int (0 + (i:Int))) (List.range p.length) (fun pre E=>∃ (m:List (Str×Int)) (s4 s5:Sl),E=[Sl.val (bX p),Sl.own (.lst ((prs p pre.length).map (enD p))),Sl.own (D.dic (g9 m)),Sl.val (D.int ((ao (p.take pre.length)).length:Int)),s4,s5]∧gk (p.take pre.length) m) rfl ⟨[],_,_,rfl,⟨rfl,fun n=>⟨0,rfl,Ex _,rfl⟩⟩⟩ ?_ ?_
 ·rintro pre k post E hs ⟨m,s4,s5,rfl,hm⟩
  obtain ⟨rfl,hk⟩:=dE hs
  have hst:p.take (pre.length + 1)=p.take pre.length ++ [p.getD pre.length ([],[])]:=by
   rw [List.take_succ,D3,DN hk]; rfl
  have hpl:=jH h8 pre.length
  have hpl2:100 * pre.length≤100 * 100:=Fd _ (by omega)
  have h9:=h8 pre.length
  have hml:=hm.len
  have hn2:=ko (ES (pre.length + 1) p).symm
  rw [hst,gI,DZ] at hn2
  have hix':=hix _ hk
  have hsp:bG p pre.length=(p.getD pre.length ([],[])).1:=rfl
  rw [hsp] at h9
  generalize p.getD pre.length ([],[])=s at hst hix' hsp h9 hn2
  have e0:ixE (de s) (.int 0)=some (.tup (s.1.map D.str)):=rfl
  have e1:ixE (de s) (.int 1)=some (.tup (s.2.map D.str)):=rfl
  simp only [ad,aN,ax,bA,bin,cst,aa,bg,nmG,aL,DA,DD,DF,on,DB,EN,↓hix',e0]
  refine bz D.str s.1 (fun pr E=>∃ s5,E=[Sl.val (bX p),Sl.own (.lst ((prs p pre.length ++ pr.map fun x=>(pre.length,x)).map (enD p))),Sl.own (D.dic (g9 m)),Sl.val (D.int ((ao (p.take pre.length)).length:Int)),Sl.val (.int (pre.length:Int)),s5]) rfl ⟨_,by rw [DJ,Ez]⟩ ?_ ?_
  ·rintro pr n po E hpr ⟨s5',rfl⟩
   obtain ⟨g1,_⟩:=hm.get n
   have q2:pr.length < s.1.length:=by rw [hpr]; simp
   have hz:((prs p pre.length ++ pr.map fun x=>(pre.length,x)).map (enD p)).length < 16777216:=by
    rw [DP,DZ,DP]; omega
   simp only [ad,cst,var,aa,ac,ah,e8,nmG,DA,DC,DG,DH,DD,DF,on,DB,reduceIte,Nat.reduceAdd,Nat.reduceLeDiff,aR,d5,ij,cm,kL,g1,hz]
   refine ⟨Sl.val (.str n),?_⟩
   rw [Ej (l₁:=pr),← E6,Ej (f:=enD p) (l₂:=List.map _ [n])]; rfl
  ·rintro E ⟨s5',rfl⟩
   have hlen2:((ao (p.take pre.length)).length:Int) + ((s.2.map D.str).length:Int)=((ao (p.take (pre.length + 1))).length:Int):=by rw [hst,cr]; simp
   simp only [ad,ax,aj,az,bA,bin,un,cst,aa,bg,aL,DA,DC,DD,DF,on,DB,aG,dF,↓hix',e0,e1,hlen2]
   refine bz D.str s.1 (fun pr E=>∃ s5,E=[Sl.val (bX p),Sl.own (.lst ((prs p pre.length ++ s.1.map fun x=>(pre.length,x)).map (enD p))),Sl.own (D.dic (g9 (pr.foldl (fun m n=>ic m n ((ao (p.take (pre.length + 1))).length:Int)) m))),Sl.val (D.int ((ao (p.take (pre.length + 1))).length:Int)),Sl.val (.int (pre.length:Int)),s5]) rfl ⟨_,rfl⟩ ?_ ?_
   ·rintro pr n po E hpr ⟨s5'',rfl⟩
    simp only [ad,var,nmG,DA,DD,DF,on,DB,ij,qf]
    refine eM (lR ?_) ?_
    ·have q1:=kM ((ao (p.take (pre.length + 1))).length:Int) pr m
     have q2:pr.length≤s.1.length:=by rw [hpr]; simp
     unfold g9
     rw [DP]
     omega
    ·simp only [ad]
     refine ⟨Sl.val (D.str n),?_⟩
     rw [oP,Gf]; rfl
   ·rintro E ⟨s5'',rfl⟩
    have hnx:=hm.next s
    rw [← hst] at hnx
    rw [DZ,ET,oQ,hsp]
    exact ⟨_,_,_,rfl,hnx⟩
 ·rintro E ⟨m,s4,s5,rfl,hm⟩
  simp only [ad,aj,aO,DC,DD,DF,on,DB,fzE,D1]
theorem uN (p:List Sp) (q:Nat×Str) (m:Nat) (hq:q.1 < p.length) (hW:(ao p).length≤10000) (hlow:∀ x ∈ ao p,jE x) (hm:m≤(wnD p q).length) :
  ∃ xs:List D,eK [.lst ((ao p).map D.str),.int (stW (p.take q.1) q.2),.int ((ao (p.take q.1)).length:Int),nD m]=some (.lst xs)∧xs.length=cnt (wnD p q) m:=by
 obtain ⟨k,x⟩:=q
 have hwl:=gy x (p.take k)
 have hwp:=dP (ES k p).symm
 have hdr:=lN (p.take k) x
 have hsp:=ir p k
 have hm':m≤(cu (p.take k) x).length:=hm
 show ∃ xs:List D,eK [.lst ((ao p).map D.str),.int (stW (p.take k) x),.int ((ao (p.take k)).length:Int),nD m]=some (.lst xs)∧xs.length=cnt (cu (p.take k) x) m
 clear hm
 obtain ⟨en,hen⟩:∃ en,(ao (p.take k)).length=en:=⟨_,rfl⟩
 rw [hen] at hwl hwp hdr hsp ⊢
 have hst:stW (p.take k) x=((en - (cu (p.take k) x).length:Nat):Int):=by unfold stW; rw [hen]; omega
 rw [hst]
 rw [← hsp] at hdr
 generalize cu (p.take k) x=ws at *
 generalize ao p=W at *
 have hwsl:ws.length=en - (en - ws.length):=by omega
 have hl:ws.length≤90000:=by omega
 have hag:∀ e,e≤ws.length→(m≤dz ws e ↔ cO ws e m):=fun e he=>(S2.common_end_eq ws e e rfl he hl).2 m
 have hc1:cY (W.map D.str) (some ((en:Int) - (m:Int))) (some (en:Int))=(ws.drop (ws.length - m)).map D.str:=by
  rw [show (en:Int) - (m:Int)=((en - m:Nat):Int) by omega,iT,← FH,← FV]
  congr 1
  conv=>rhs; rw [← hdr,List.drop_drop]
  congr 1
  have:(List.drop (en - ws.length) (List.take en W)).length=ws.length:=by rw [hdr]
  omega
 have hc2:∀ i,i < ws.length - m→cY (W.map D.str) (some (((en - ws.length:Nat):Int) + (m:Int) + (i:Int) - (m:Int))) (some (((en - ws.length:Nat):Int) + (m:Int) + (i:Int)))=((ws.take (m + i)).drop (m + i - m)).map D.str:=fun i hi=>by
  rw [show ((en - ws.length:Nat):Int) + (m:Int) + (i:Int) - (m:Int)=((en - ws.length + i:Nat):Int) by omega,show ((en - ws.length:Nat):Int) + (m:Int) + (i:Int)=((en - ws.length + (m + i):Nat):Int) by omega,iT,← FH,← FV]
  congr 1
  have e1:ws.take (m + i)=(W.take (en - ws.length + (m + i))).drop (en - ws.length):=by
   have h5:=ED (List.take (m + i)) hdr
   rw [List.take_drop,List.take_take] at h5
   rw [← h5]
   congr 2; omega
  rw [e1,List.drop_drop]
  congr 1; omega
 have hrg:jq [.int (((en - ws.length:Nat):Int) + (m:Int)),.int (en:Int)]=some (bQ (((en - ws.length:Nat):Int) + (m:Int)) (ws.length - m)):=by
  rw [i6 (by omega) (by omega) (by omega) (by omega)]
  congr 2; omega
 have hz:(bQ (((en - ws.length:Nat):Int) + (m:Int)) (ws.length - m)).length≤16777216:=by unfold bQ; rw [DP,D1]; omega
 have hlow':∀ x ∈ ws,jE x:=fun x hx=>hlow x (by
  rw [← hdr] at hx
  exact EV (EW hx))
 have hcomp:bw (nmG 5) (tst (bin eqO (aY (aa 0) (be (bin cX (aa 5) (aa 3))) (be (var 5))) (aa 4))) (var 5) [Sl.val (.lst (W.map D.str)),Sl.val (.int ((en - ws.length:Nat):Int)),Sl.val (.int (en:Int)),Sl.val (nD m),Sl.val (.lst ((ws.drop (ws.length - m)).map D.str)),Sl.no] (bQ (((en - ws.length:Nat):Int) + (m:Int)) (ws.length - m))=some (((List.range (ws.length - m)).filter fun i=>decide (m≤dz ws (m + i))).map fun i:Nat=>D.int (((en - ws.length:Nat):Int) + (m:Int) + (i:Int))):=by
  refine dJ (fun i:Nat=>D.int (((en - ws.length:Nat):Int) + (m:Int) + (i:Int))) _ _ _ fun i hi=>?_
  rw [Fj] at hi
  have hq:eqO (.lst (((ws.take (m + i)).drop (m + i - m)).map D.str)) (.lst ((ws.drop (ws.length - m)).map D.str))=some (.bl (decide (m≤dz ws (m + i)))):=by
   rw [pJ (fun x hx=>hlow' x (EV (EW hx))) fun x hx=>hlow' x (EW hx)]
   congr 2
   exact decide_eq_decide.mpr ((p0 (ws:=ws) (e:=m + i) (m:=m) (by omega) (by omega)).trans (hag _ (by omega)).symm)
  simp only [ad,bin,var,aa,tst,asB,be,aY,nmG,ce,DA,DD,DF,on,DB,true_and,Gm,ix,hc2 i hi,hq]
  exact fun _=>trivial
 refine ⟨_,bv (a:=D.lst (((List.range (ws.length - m)).filter fun i=>decide (m≤dz ws (m + i))).map fun i:Nat=>D.int (((en - ws.length:Nat):Int) + (m:Int) + (i:Int)))) ?_,?_⟩
 ·simp only [eK,b__Learly,ad,aZ,ax,aj,aO,az,aH,bin,var,aa,ac,ah,j_,be,aY,aX,aE,ce,DA,DC,DI,DJ,DK,DL,DG,DH,DD,DF,on,DB,List.replicate,DM,D8,reduceIte,Nat.reduceAdd,Nat.reduceSub,aG,ix,aR,hc1,hrg,hz,hcomp]
 ·rw [DP]
  unfold cnt
  refine uV (fun e=>decide (m≤dz ws e)) hm' fun e he=>D5 fun z=>?_
  have:=((hag e (by omega)).mp z).1
  omega
theorem yS (p:List Sp) (hp:p.length≤100) (hN:(ci p).length≤10000) (hW:(ao p).length≤10000) (h8:∀ k,(bG p k).length≤100) (hlow:∀ x ∈ ao p,jE x) :
  gJ [bX p]=some (.lst ((((prs p p.length).filter fun q=>decide (0 < q.1)).map fun q=>gr (wnD p q)).map nl)):=by
 have hw:=nv p hW
 have he:=rc p hp hN hW h8
 have hpl:=jH h8 p.length
 have hpl2:100 * p.length≤100 * 100:=Fd _ (by omega)
 refine bv ?_
 simp only [gJ,b__Lleft,ad,aZ,ax,aj,az,bL,bA,aH,var,ay,ac,ah,bf,bg,bW,DA,DC,DI,DJ,DK,DL,DG,DH,DD,DF,on,List.replicate,reduceIte,Nat.reduceAdd,Nat.reduceSub,Nat.reduceLeDiff,aR,hw,he]
 refine bz (enD p) (prs p p.length) (fun pre E=>∃ s3 s4 s5 s6,E=[Sl.val (bX p),Sl.val (.lst ((ao p).map D.str)),Sl.own (.lst (((pre.filter fun q=>decide (0 < q.1)).map fun q=>gr (wnD p q)).map nl)),s3,s4,s5,s6,Sl.no]) rfl ⟨_,_,_,_,rfl⟩ ?_ ?_
 ·rintro pre q post E hs ⟨s3,s4,s5,s6,rfl⟩
  have hqm:q ∈ prs p p.length:=by rw [hs]; simp
  have hq:q.1 < p.length:=by
   obtain ⟨k,hk,hq⟩:=List.mem_flatMap.mp hqm
   obtain ⟨x,_,rfl⟩:=List.mem_map.mp hq
   exact List.mem_range.mp hk
  have hwl:(wnD p q).length≤(ao (p.take q.1)).length:=gy q.2 _
  have hwp:=dP (ES q.1 p).symm
  have hprl:pre.length < (prs p p.length).length:=by rw [hs]; simp
  simp only [ad,aN,bF,bin,cst,aa,tst,asB,nmG,cK,aQ,cL,iJ,DA,DG,DH,DD,DF,on,DB,reduceIte,Nat.reduceAdd,enD]
  refine cU (fun h0=>?_) fun h0=>?_
  ·have hst:((ao (p.take q.1)).length:Int) - stW (p.take q.1) q.2=((wnD p q).length:Int):=by
    show _ - (((ao (p.take q.1)).length:Int) - ((cu (p.take q.1) q.2).length:Int))=((cu (p.take q.1) q.2).length:Int)
    omega
   have hrg:jq [.int 1,.int (((wnD p q).length:Int) + 1)]=some (bQ 1 (wnD p q).length):=by
    rw [i6 (by omega) (by omega) (by omega) (by omega)]
    congr 2; omega
   have hz:(bQ 1 (wnD p q).length).length≤16777216:=by unfold bQ; rw [DP,D1]; omega
   have hc:∀ s2:Sl,bw (nmG 7) noT (un bj (ay 4 eK (ac (var 1) (ac (var 5) (ac (var 6) (ac (var 7) ah)))))) [Sl.val (bX p),Sl.val (.lst ((ao p).map D.str)),s2,Sl.val (.int (q.1:Int)),Sl.val (.str q.2),Sl.val (.int (stW (p.take q.1) q.2)),Sl.val (.int ((ao (p.take q.1)).length:Int)),Sl.no] (bQ 1 (wnD p q).length)=some ((gr (wnD p q)).map nD):=fun s2=>by
    unfold gr
    rw [D7]
    refine bM (fun i:Nat=>D.int (1 + (i:Nat))) _ _ fun i hi=>?_
    rw [Fj] at hi
    obtain ⟨xs,h1,h2⟩:=uN p q (i + 1) hq hW hlow (by omega)
    have e:(1:Int) + (i:Int)=((i + 1:Nat):Int):=by omega
    refine bv ?_
    simp only [ad,un,var,ay,ac,ah,DA,DC,DG,DH,DD,DF,on,DB,reduceIte,Nat.reduceAdd,bH,e,h1,h2]
    rfl
   have hz2:((((pre.filter fun q=>decide (0 < q.1)).map fun q=>gr (wnD p q)).map nl)).length < 16777216:=by
    rw [DP,DP]
    have:=GB (fun q:Nat×Str=>decide (0 < q.1)) pre
    omega
   simp only [ad,bin,cst,aa,ac,ah,j_,aX,aE,ce,DA,DC,DD,DF,on,DB,DM,D8,reduceIte,aG,aR,d5,cm,hst,hrg,hz,hc,hz2]
   exact ⟨_,_,_,_,by rw [wZ pre (Ek (by omega)),Ej,Ej]; rfl⟩
  ·simp only [ad,br]
   exact ⟨_,_,_,_,by rw [zb pre (by rw [D5 (by omega)]; decide)]⟩
 ·rintro E ⟨s3,s4,s5,s6,rfl⟩
  simp only [ad,aj,aO,DC,DD,DF,on,DB,fzE]
end Wk
def oD:Option Nat→D
 | none=>.non
 | some v=>nD v
theorem zU {B:List (Option Nat)} {s:Nat}{o:Option Nat} (h:B[s]? = some o):atI (B.map oD) (s:Int)=some (oD o):=by
 rw [dL,DX,h]; rfl
theorem ol (B:List (Option Nat)):(B.filter Option.isSome).map oD=(B.filterMap id).map nD:=by
 induction B with
 | nil=>rfl
 | cons o B ih =>
  cases o with
  | none=>exact ih
  | some v =>
   show oD (some v) :: (B.filter Option.isSome).map oD=nD v :: (B.filterMap id).map nD
   rw [ih]; rfl
theorem kr {B:List (Option Nat)} {v:Nat}:v ∈ B.filterMap id ↔ some v ∈ B:=by
 rw [List.mem_filterMap]
 exact ⟨fun ⟨o,h1,h2⟩=>by rw [← h2]; exact h1,fun h=>⟨_,h,rfl⟩⟩
theorem put_own {i:Nat}{k f:DE→Option D}{E:DE}{ds:List D}{v:D}{j:Nat} (h6:E[i]? = some (.own (.lst ds))) (hv:f E=some v) (hk:k E=some (.int (j:Int))) (hj:j < ds.length):l0 i k f E=some (.nx (E.set i (.own (.lst (ds.set j v))))):=by
 unfold l0
 have e:ixN ds.length (j:Int)=some j:=by
  unfold ixN
  rw [if_pos (by omega),if_pos (by omega),Ey]
 simp only [h6,hv,hk,e,DA,DC]
theorem jJ (v:Nat):cR (nD v)=some (.bl true):=rfl
theorem yZ:cR .non=some (.bl false):=rfl
theorem CD (v:Nat):nz (nD v)=some (.bl false):=rfl
theorem Di:nz .non=some (.bl true):=rfl
namespace Wk
theorem uI {Rs:List (List Nat)} {M:Nat} (hM:M≤100000) (hR:∀ r ∈ Rs,r ≠ []) (hl:Rs.length≤M) (hrl:∀ r ∈ Rs,r.length≤100000) :
  ∃ u:Nat,eZ [.lst (Rs.map nl),nD M]=some (nD u)∧(∃ xs w,Al Rs xs w u∧w + Rs.length≤M)∧∀ xs w v',Al Rs xs w v'→w + Rs.length≤M→u≤v':=by
 have hrg:df [nD M]=some (bQ 0 M):=by rw [bT (by omega) (by omega),Ey]
 have hz:(bQ 0 M).length≤16777216:=by unfold bQ; rw [DP,D1]; omega
 have hc0:∀ E:DE,bw (nmG 5) noT (cst .non) E (bQ 0 M)=some ((List.replicate M none).map oD):=fun E=>by
  rw [j9,bM (fun i:Nat=>D.int (0 + i)) (fun _=>D.non) _ fun _ _=>rfl,GS]
  congr 1
  refine EQ fun i=>?_
  rw [DX,En]
  by_cases h:i < M
  ·rw [EJ h,if_pos h]; rfl
  ·rw [Eh (by rw [D1]; omega),if_neg h]; rfl
 have hadd:aM (.lst [.int 0]) (.lst ((List.replicate M none).map oD))=some (.lst ((some 0 :: List.replicate M none).map oD)):=if_pos (show 1 + ((List.replicate M none).map oD).length≤16777216 by rw [DP,Fp]; omega)
 have hw:wp (eZ [.lst (Rs.map nl),nD M]) fun d=>∃ u:Nat,d=nD u∧(∃ xs w,Al Rs xs w u∧w + Rs.length≤M)∧∀ xs w v',Al Rs xs w v'→w + Rs.length≤M→u≤v':=by
  simp only [eZ,b__Lfewest,ad,aZ,ax,aj,az,bA,bin,cst,var,ac,ah,bf,bg,bR,aX,aE,aL,DA,DC,DI,DJ,DK,DL,DG,DH,DD,DF,on,DB,List.replicate,DM,D8,reduceIte,Nat.reduceAdd,Nat.reduceSub,Nat.reduceLeDiff,aR,hrg,hz,hc0,hadd]
  refine bz nl Rs (fun pre E=>∃ B s3 s4 s5 s6 s7,E=[Sl.val (.lst (Rs.map nl)),Sl.val (nD M),Sl.val (.lst (B.map oD)),s3,s4,s5,s6,s7]∧Tb M pre B) rfl ⟨_,_,_,_,_,_,rfl,vv M⟩ ?_ ?_
  ·rintro pre r post E hs ⟨B,s3,s4,s5,s6,s7,rfl,T⟩
   have hBl:=T.len
   have hrl':=hrl r (by rw [hs]; simp)
   have hz1:B.length≤16777216:=by omega
   have hc1:∀ E:DE,bw (nmG 5) noT (cst .non) E (B.map oD)=some ((List.replicate (M + 1) none).map oD):=fun E=>by
    rw [bM oD (fun _=>D.non) _ fun _ _=>rfl,GS]
    congr 1
    refine EQ fun i=>?_
    rw [DX,En]
    by_cases h:i < M + 1
    ·rw [DN (by omega),if_pos h]; rfl
    ·rw [Eh (by omega),if_neg h]; rfl
   have hrgB:df [.int (B.length:Int)]=some (bQ 0 B.length):=by rw [bT (by omega) (by omega),Ey]
   have hrgr:df [.int (r.length:Int)]=some (bQ 0 r.length):=by rw [bT (by omega) (by omega),Ey]
   simp only [ad,aN,cc,ax,aj,bL,bA,un,var,aa,ac,ah,bg,bR,nmG,aX,aE,aL,DC,DI,DD,DF,on,DB,List.replicate,DM,D8,reduceIte,aR,bH,hz1,hc1,DP,hrgB]
   refine bz (fun i:Nat=>D.int (0 + (i:Int))) (List.range B.length) (fun pr E=>∃ more s5 s6 s7,E=[Sl.val (.lst (Rs.map nl)),Sl.val (nD M),Sl.val (.lst (B.map oD)),Sl.val (nl r),Sl.own (.lst (more.map oD)),s5,s6,s7]∧Rx M pre r B more fun s' _=>s' < pr.length) rfl ⟨List.replicate (M + 1) none,_,_,_,rfl,Rx.start.skip fun _ _ _ h _ _ _=>absurd h (Nat.not_lt_zero _)⟩ ?_ ?_
   ·rintro pr s po E hs2 ⟨more,s5,s6,s7,rfl,X⟩
    obtain ⟨rfl,hsB⟩:=dE hs2
    simp only [ad,aN,bA,un,aa,ac,ah,bR,nmG,DC,DD,DF,on,DB,bH,DP,hrgr]
    refine bz (fun i:Nat=>D.int (0 + (i:Int))) (List.range r.length) (fun pk E=>∃ more s6 s7,E=[Sl.val (.lst (Rs.map nl)),Sl.val (nD M),Sl.val (.lst (B.map oD)),Sl.val (nl r),Sl.own (.lst (more.map oD)),Sl.val (.int (0 + (pr.length:Int))),s6,s7]∧Rx M pre r B more fun s' k'=>s' < pr.length∨(s'=pr.length∧k' < pk.length)) rfl ⟨_,_,_,rfl,X.skip fun _ _ _ h _ _ _=>h.elim id fun h=>absurd h.2 (Nat.not_lt_zero _)⟩ ?_ ?_
    ·rintro pk k pko E hs3 ⟨more,s6,s7,rfl,X⟩
     obtain ⟨rfl,hkr⟩:=dE hs3
     have hlm:=X.len
     have hpk:(pk ++ [pk.length]).length=pk.length + 1:=by simp
     have hBs:B[pr.length]? = some B[pr.length]:=DN hsB
     have hrk:r[pk.length]? = some (r.getD pk.length 0):=kK hkr
     have aB:=zU hBs
     have ar:=ji hkr
     generalize B[pr.length]=o at hBs aB
     generalize r.getD pk.length 0=c at hrk ar
     have done:∀ {more'},Rx M pre r B more' (fun s' k'=>(s' < pr.length∨(s'=pr.length∧k' < pk.length))∨(s'=pr.length∧k'=pk.length))→Rx M pre r B more' fun s' k'=>s' < pr.length∨(s'=pr.length∧k' < (pk ++ [pk.length]).length):=fun X=>X.skip fun s' k' b h _ _ _=>by
      rw [hpk] at h; omega
     cases o with
     | none =>
      have skip:Rx M pre r B more fun s' k'=>s' < pr.length∨(s'=pr.length∧k' < (pk ++ [pk.length]).length):=X.skip fun s' k' b h hb _ _=>by
       rcases h with h | ⟨h,_⟩
       ·exact .inl h
       ·subst h; rw [hBs] at hb; cases hb
      have aB':atI (B.map oD) (pr.length:Int)=some .non:=aB
      simp only [ad,aN,bF,cb,br,bin,un,cst,aa,tst,asB,gu,nmG,iE,DA,DD,DF,on,DB,reduceIte,Ed,aG,cz,cR,EN,aB',↓yZ]
      exact ⟨_,_,_,rfl,skip⟩
     | some b =>
      have aB':atI (B.map oD) (pr.length:Int)=some (nD b):=aB
      by_cases hle:pr.length + pk.length + 1≤M
      ·have d1:decide (((pr.length + pk.length + 1:Nat):Int)≤(M:Int))=true:=Ek (by omega)
       have ei:(pr.length:Int) + (pk.length:Int) + 1=((pr.length + pk.length + 1:Nat):Int):=by omega
       have eb:(b:Int) + (c:Int)=((b + c:Nat):Int):=by omega
       have hml:pr.length + pk.length + 1 < more.length:=by omega
       have hmo:more[pr.length + pk.length + 1]? = some more[pr.length + pk.length + 1]:=DN hml
       have am:=zU hmo
       generalize more[pr.length + pk.length + 1]=om at hmo am
       have hset:∀ s7,l0 4 (bin aM (bin aM (aa 5) (aa 6)) (cst (.int 1))) (var 7) [Sl.val (.lst (Rs.map nl)),Sl.val (nD M),Sl.val (.lst (B.map oD)),Sl.val (nl r),Sl.own (.lst (more.map oD)),Sl.val (.int (pr.length:Int)),Sl.val (.int (pk.length:Int)),Sl.val s7]=some (.nx [Sl.val (.lst (Rs.map nl)),Sl.val (nD M),Sl.val (.lst (B.map oD)),Sl.val (nl r),Sl.own (.lst ((more.map oD).set (pr.length + pk.length + 1) s7)),Sl.val (.int (pr.length:Int)),Sl.val (.int (pk.length:Int)),Sl.val s7]):=fun s7 =>
        put_own (ds:=more.map oD) (v:=s7) (j:=pr.length + pk.length + 1) rfl rfl (by refine bv ?_; simp only [ad,bin,cst,aa,DA,on,DB,aG,ei]) (by rw [DP]; exact hml)
       have emap:(more.map oD).set (pr.length + pk.length + 1) (nD (b + c))=(more.set (pr.length + pk.length + 1) (some (b + c))).map oD:=by rw [List.map_set]; rfl
       cases om with
       | none =>
        have am':atI (more.map oD) ((pr.length + pk.length + 1:Nat):Int)=some .non:=am
        simp only [ad,aN,ax,aj,az,bF,eX,bin,un,cst,aa,tst,asB,gu,orT,nmG,iE,DA,DC,DD,DF,on,DB,reduceIte,aG,cz,cR,EN,aB',ar,↓jJ,d1,ei,am',↓Di,eb,hset,emap]
        exact ⟨_,_,_,rfl,done (X.put T hBs hrk hle fun v hv=>by rw [hmo] at hv; cases hv)⟩
       | some v =>
        have am':atI (more.map oD) ((pr.length + pk.length + 1:Nat):Int)=some (nD v):=am
        by_cases hlt:b + c < v
        ·have d2:decide (((b + c:Nat):Int) < (v:Int))=true:=Ek (by omega)
         simp only [ad,aN,ax,aj,az,bF,eX,bin,un,cst,aa,tst,asB,gu,orT,nmG,c_,iE,DA,DC,DD,DF,on,DB,reduceIte,Ed,aG,cz,cR,EN,aB',ar,↓jJ,d1,ei,am',↓CD,eb,d2,hset,emap]
         exact ⟨_,_,_,rfl,done (X.put T hBs hrk hle fun v' hv=>by rw [hmo] at hv; cases hv; omega)⟩
        ·have d2:decide (((b + c:Nat):Int) < (v:Int))=false:=D5 (by omega)
         simp only [ad,aN,ax,aj,az,bF,eX,cb,br,bin,un,cst,aa,tst,asB,gu,orT,nmG,c_,iE,DA,DC,DD,DF,on,DB,reduceIte,Ed,aG,cz,cR,EN,aB',ar,↓jJ,d1,ei,am',↓CD,eb,d2]
         exact ⟨_,_,_,rfl,done (X.keep hBs hrk hmo (by omega))⟩
      ·have d1:decide ((pr.length:Int) + (pk.length:Int) + 1≤(M:Int))=false:=D5 (by omega)
       have skip:Rx M pre r B more fun s' k'=>s' < pr.length∨(s'=pr.length∧k' < (pk ++ [pk.length]).length):=X.skip fun s' k' b' h _ h3 _=>by
        rw [hpk] at h
        rcases h with h | ⟨h,h'⟩
        ·exact .inl h
        ·exact .inr ⟨h,by omega⟩
       simp only [ad,aN,bF,cb,br,bin,un,cst,aa,tst,asB,gu,nmG,iE,DA,DD,DF,on,DB,reduceIte,aG,cz,cR,EN,aB',↓jJ,d1]
       exact ⟨_,_,_,rfl,skip⟩
    ·rintro E ⟨more,s6,s7,rfl,X⟩
     refine ⟨_,_,_,_,rfl,X.skip fun s' k' b h hb h3 hk=>?_⟩
     rw [DZ,ET] at h
     rw [D1]
     omega
   ·rintro E ⟨more,s5,s6,s7,rfl,X⟩
    simp only [ad,aj,DC,DD,DF,on,DB,fzE]
    refine ⟨more,_,_,_,_,_,rfl,X.done T fun s k hs _=>?_⟩
    rw [D1]; omega
  ·rintro E ⟨B,s3,s4,s5,s6,s7,rfl,T⟩
   have hBl:=T.len
   have hz1:(B.map oD).length≤16777216:=by rw [DP]; omega
   have hc1:∀ a3 a4 a5 a6 a7:Sl,bw (nmG 7) (tst (un cR (var 7))) (var 7) [Sl.val (.lst (Rs.map nl)),Sl.val (nD M),Sl.val (.lst (B.map oD)),a3,a4,a5,a6,a7] (B.map oD)=some ((nI (B.filterMap id)).map D.int):=fun a3 a4 a5 a6 a7=>by
    have:=dJ oD Option.isSome oD (gf:=nmG 7) (cf:=tst (un cR (var 7))) (ef:=var 7) (E:=[Sl.val (.lst (Rs.map nl)),Sl.val (nD M),Sl.val (.lst (B.map oD)),a3,a4,a5,a6,a7]) B fun o _=>by
     cases o <;> exact ⟨rfl,fun _=>rfl⟩
    rw [this,ol]
    unfold nI
    rw [D7]; rfl
   obtain ⟨v0,hv0⟩:=T.some hR hl
   have hne:nI (B.filterMap id) ≠ []:=fun z=>by
    have:=kr.mpr hv0
    unfold nI at z
    rw [List.map_eq_nil_iff.mp z] at this; cases this
   obtain ⟨u,hu,eu⟩:=List.mem_map.mp (iC hne)
   have eu:(u:Int)=ii (nI (B.filterMap id)):=eu
   simp only [ad,aj,aO,aH,un,var,bg,aX,aE,aL,DA,DC,DD,DF,on,DB,DM,D8,reduceIte,D.int.injEq,aR,hz1,hc1,l_ hne]
   refine ⟨u,by rw [← eu],T.least (kr.mp hu) fun v hv=>?_⟩
   have:=nu (is:=nI (B.filterMap id)) (List.mem_map.mpr ⟨v,kr.mpr hv,rfl⟩)
   rw [← eu] at this
   exact Int.ofNat_le.mp this
 obtain ⟨d,hd,u,rfl,h1,h2⟩:=cp.mp hw
 exact ⟨u,hd,h1,h2⟩
end Wk
def gG (p:List Sp):List (Nat×Str):=(prs p p.length).filter fun q=>decide (0 < q.1)
theorem l4 (p:List Sp):prs p p.length=(bG p 0).map (fun x=>(0,x)) ++ gG p:=by
 cases p with
 | nil=>rfl
 | cons s r =>
  have e:prs (s :: r) (s :: r).length=(bG (s :: r) 0).map (fun x=>(0,x)) ++ (List.range r.length).flatMap fun k=>(bG (s :: r) (k + 1)).map fun x=>(k + 1,x):=by
   unfold prs
   rw [DG,Gw,List.flatMap_cons,List.flatMap_map]
  have e2:gG (s :: r)=(List.range r.length).flatMap fun k=>(bG (s :: r) (k + 1)).map fun x=>(k + 1,x):=by
   unfold gG
   rw [e,Ga,List.filter_eq_nil_iff.mpr fun q hq=>by
    obtain ⟨x,_,rfl⟩:=List.mem_map.mp hq
    exact fun z=>absurd (EO z) (ER 0),DL]
   refine List.filter_eq_self.mpr fun q hq=>?_
   obtain ⟨k,_,hq⟩:=List.mem_flatMap.mp hq
   obtain ⟨x,_,rfl⟩:=List.mem_map.mp hq
   exact Ek (Nat.succ_pos k)
  rw [e2]; exact e
theorem vW {p:List Sp}{q:Nat×Str} (h:q ∈ gG p):0 < q.1∧q.1 < p.length∧q.2 ∈ bG p q.1:=by
 obtain ⟨h1,h2⟩:=List.mem_filter.mp h
 obtain ⟨k,hk,hq⟩:=List.mem_flatMap.mp h1
 obtain ⟨x,hx,rfl⟩:=List.mem_map.mp hq
 exact ⟨EO h2,List.mem_range.mp hk,hx⟩
theorem r8 {α:Type} (p:List Sp) (n:Nat) (f:Nat×Str→α):(prs p n).map f=(List.range n).flatMap fun k=>(bG p k).map fun x=>f (k,x):=by
 unfold prs
 rw [List.map_flatMap]
 congr 1
 funext k
 rw [D7]; rfl
theorem pj {α:Type} (p:List Sp) (f:List Str→α):((bG p 0).map fun x=>(0,x)).map (fun q=>f (wnD p q))=List.replicate (bG p 0).length (f []):=by
 rw [D7]
 refine EQ fun i=>?_
 rw [DX,En]
 by_cases h:i < (bG p 0).length
 ·rw [DN h,if_pos h]; rfl
 ·rw [Eh (by omega),if_neg h]; rfl
theorem uT (p:List Sp):dN p p.length=List.replicate (bG p 0).length [0] ++ (gG p).map fun q=>fP (wnD p q):=by
 have e:dN p p.length=(prs p p.length).map fun q=>fP (wnD p q):=by
  rw [r8 p p.length fun q=>fP (wnD p q)]; rfl
 rw [e,l4,Ej,pj p fP,wv]
theorem l6 (p:List Sp):(dl p).flatten=List.replicate (bG p 0).length 0 ++ (gG p).map fun q=>min 1 (wnD p q).length:=by
 have e:(dl p).flatten=(prs p p.length).map fun q=>min 1 (wnD p q).length:=by
  rw [r8 p p.length (fun q=>min 1 (wnD p q).length)]
  unfold dl
  rw [← List.flatMap_def]; rfl
 rw [e,l4,Ej,pj p fun ws=>min 1 ws.length]; rfl
theorem oh:∀ ls:List (List Nat),(ls.map List.sum).sum=ls.flatten.sum
 | []=>rfl
 | l :: ls=>by rw [DI,EH,oh ls,Em,List.sum_append]
theorem rG (n c:Nat):(List.replicate n c).sum=n * c:=by
 induction n with
 | zero=>simp
 | succ n ih=>rw [Eb,EH,ih,Nat.succ_mul]; omega
theorem r9 {α:Type}{l:List α}{f:α→List Str} (h:∀ x ∈ l,f x ≠ []):(l.map fun x=>min 1 (f x).length)=List.replicate l.length 1:=by
 induction l with
 | nil=>rfl
 | cons x l ih =>
  have h1:=List.length_pos_iff.mpr (h x DW)
  rw [DI,ih fun y hy=>h y (DS _ hy),DG,Eb,show min 1 (f x).length=1 by omega]
theorem p5:∀ (os:List (List Nat)) (xs:List Nat),os.flatten.length≤xs.length→(gv os xs).map List.length=os.map List.length
 | [],_,_=>rfl
 | o :: os,xs,h=>by
  rw [Em,DZ] at h
  show (List.zipWith (· + ·) o (xs.take o.length)).length :: (gv os (xs.drop o.length)).map List.length=_
  rw [p5 os (xs.drop o.length) (by rw [Fi]; omega),List.length_zipWith,EL,DI]
  congr 1; omega
theorem mP:∀ (os:List (List Nat)) (xs:List Nat),os.flatten.length=xs.length→(gv os xs).flatten=List.zipWith (· + ·) os.flatten xs
 | [],xs,h=>by simp [gv]
 | o :: os,xs,h=>by
  rw [Em,DZ] at h
  show List.zipWith (· + ·) o (xs.take o.length) ++ (gv os (xs.drop o.length)).flatten=_
  rw [mP os (xs.drop o.length) (by rw [Fi]; omega),Em]
  conv=>rhs; rw [← ES o.length xs]
  rw [List.zipWith_append (by rw [EL]; omega)]
theorem xL (ys:List Nat):List.zipWith (· + ·) (List.replicate ys.length 1) ys=ys.map fun y=>1 + y:=by
 induction ys with
 | nil=>rfl
 | cons y ys ih=>rw [DG,Eb,List.zipWith_cons_cons,ih,DI]
theorem x9 (p:List Sp) (ys:List Nat) (hw:∀ q ∈ gG p,wnD p q ≠ []) (hy:ys.length=(gG p).length) :
  (gv (dl p) (List.replicate (bG p 0).length 0 ++ ys)).length=p.length∧(∀ k,k < p.length→((gv (dl p) (List.replicate (bG p 0).length 0 ++ ys)).getD k []).length=(bG p k).length)∧(∀ x ∈ (gv (dl p) (List.replicate (bG p 0).length 0 ++ ys)).getD 0 [],x=0)∧((gv (dl p) (List.replicate (bG p 0).length 0 ++ ys)).drop 1).flatten=ys.map fun y=>1 + y:=by
 have hfl:=l6 p
 rw [r9 (f:=wnD p) hw] at hfl
 have hlen:(dl p).flatten.length=(List.replicate (bG p 0).length 0 ++ ys).length:=by rw [hfl]; simp [hy]
 have hml:=p5 (dl p) _ (GA hlen)
 have hol:(dl p).length=p.length:=by unfold dl; rw [DP,D1]
 have hrl:(gv (dl p) (List.replicate (bG p 0).length 0 ++ ys)).length=p.length:=by
  have:=ED List.length hml
  rw [DP,DP] at this
  rw [this,hol]
 refine ⟨hrl,fun k hk=>?_,?_,?_⟩
 ·have h1:=ED (fun l=>l[k]?) hml
  simp only [DX] at h1
  rw [DN (by omega),DN (by omega)] at h1
  rw [D3,DN (by omega)]
  have h2:=DR h1
  show List.length _=_
  rw [Option.getD_some,h2]
  unfold dl
  rw [List.getElem_map,F9]
  unfold ng
  rw [DP]
 ·cases p with
  | nil=>intro x hx; cases hx
  | cons s r =>
   have e:dl (s :: r)=List.replicate (bG (s :: r) 0).length 0 :: (List.range r.length).map (fun k=>ng (s :: r) (k + 1)):=by
    unfold dl
    rw [DG,Gw,DI,D7]
    congr 1
    refine EQ fun i=>?_
    unfold ng
    rw [DX,En]
    by_cases h:i < (bG (s :: r) 0).length
    ·rw [DN h,if_pos h]; rfl
    ·rw [Eh (by omega),if_neg h]; rfl
   rw [e]
   intro x hx
   have hx:x ∈ List.zipWith (· + ·) (List.replicate (bG (s :: r) 0).length 0) ((List.replicate (bG (s :: r) 0).length 0 ++ ys).take (List.replicate (bG (s :: r) 0).length 0).length):=hx
   rw [List.take_left] at hx
   obtain ⟨i,hi,rfl⟩:=List.mem_iff_getElem.mp hx
   rw [List.getElem_zipWith,List.getElem_replicate]
 ·cases p with
  | nil =>
   have:ys=[]:=List.length_eq_zero_iff.mp hy
   rw [this]; rfl
  | cons s r =>
   have e:dl (s :: r)=List.replicate (bG (s :: r) 0).length 0 :: (List.range r.length).map (fun k=>ng (s :: r) (k + 1)):=by
    unfold dl
    rw [DG,Gw,DI,D7]
    congr 1
    refine EQ fun i=>?_
    unfold ng
    rw [DX,En]
    by_cases h:i < (bG (s :: r) 0).length
    ·rw [DN h,if_pos h]; rfl
    ·rw [Eh (by omega),if_neg h]; rfl
   rw [e] at hfl ⊢
   rw [Em] at hfl
   have hfl2:=List.append_cancel_left hfl
   show (gv ((List.range r.length).map fun k=>ng (s :: r) (k + 1)) ((List.replicate (bG (s :: r) 0).length 0 ++ ys).drop (List.replicate (bG (s :: r) 0).length 0).length)).flatten=_
   rw [List.drop_left,mP _ _ (by rw [hfl2,Fp,hy]),hfl2,← hy,xL]
theorem sm {B:Nat}:∀ {rs:List (List Nat)},(∀ r ∈ rs,r.length≤B)→rs.flatten.length≤B * rs.length
 | [],_=>by simp
 | r :: rs,h=>by
  have h1:=h r DW
  have h2:=sm (rs:=rs) fun x hx=>h x (DS _ hx)
  rw [Em,DZ,DG,Nat.mul_succ]; omega
theorem Al.wt:∀ {rs:List (List Nat)} {xs:List Nat}{w v:Nat},Al rs xs w v→w=xs.sum
 | [],[],_,_,h=>h.1
 | _ :: rs,x :: xs,_,_,⟨w',v',c,_,h2,h3,_⟩=>by rw [h3,h2.wt,EH]
theorem Al.zip:∀ {rs:List (List Nat)} {xs:List Nat}{w v:Nat},Al rs xs w v→(∀ q ∈ rs.zip xs,q.2 < q.1.length)∧v=((rs.zip xs).map fun q=>q.1.getD q.2 0).sum
 | [],[],_,_,h=>⟨fun _ z=>(by cases z),h.2⟩
 | r :: rs,x :: xs,_,_,⟨w',v',c,h1,h2,_,h4⟩=>by
  obtain ⟨e1,e2⟩:=h2.zip
  refine ⟨fun q hq=>?_,?_⟩
  ·rcases List.mem_cons.mp hq with rfl | hq
   ·exact (List.getElem?_eq_some_iff.mp h1).1
   ·exact e1 q hq
  ·rw [h4,e2]
   show _=(r.getD x 0 :: _).sum
   rw [EH,D3,h1]; rfl
theorem tu {α:Type}{l:List α}{f:α→List Str} (h:∀ x ∈ l,f x ≠ []) (hl:∀ x ∈ l,(f x).length≤90000):p6 (l.map fun x=>gr (f x)) (l.map fun x=>fP (f x))∧fN (l.map fun x=>fP (f x)) + l.length≤((l.map fun x=>gr (f x)).map List.length).sum:=by
 induction l with
 | nil=>exact ⟨trivial,DY _⟩
 | cons x l ih =>
  obtain ⟨i1,i2⟩:=ih (fun y hy=>h y (DS _ hy)) fun y hy=>hl y (DS _ hy)
  have h1:=h x DW
  have h2:=hl x DW
  refine ⟨⟨xQ h1 h2,i1⟩,?_⟩
  have h3:=(wB h1 h2).1
  have e1:(gr (f x)).length=(f x).length:=by unfold gr; rw [DP,D1]
  have e2:=pc (f x)
  unfold fN at i2 ⊢
  simp only [DI,EH,DG] at i2 ⊢
  omega
theorem xw {rows:List (List Nat)} {k:Nat} (h:k < rows.length):atI (rows.map nt) (k:Int)=some (nt (rows.getD k [])):=by
 rw [dL,DX,DN h,D3,DN h]; rfl
theorem tz {rows:List (List Nat)} {k:Nat} (h:k < rows.length):rows.take (k + 1)=rows.take k ++ [rows.getD k []]:=by
 rw [List.take_succ,D3,DN h]; rfl
theorem xk {n:Nat}{x:D} (h:lx n x) (hn:n≤60) (hs:scD x x=none):neO x x=some (.bl false):=by
 rw [wk h h hn hs]
 unfold pI
 rw [PySem.SeqAt.eqv_refl _ h.lay]; rfl
namespace Wk
theorem y_ (p:List Sp) (rows:List (List Nat)) (hp:p.length≤100) (hl:rows.length=p.length) (hr:∀ k,k < p.length→(rows.getD k []).length=(bG p k).length) (h8:∀ k,(bG p k).length≤100) (h0:∀ x ∈ rows.getD 0 [],x=0):iM [bX p,.tup (rows.map nt)]=some (nl (rows.drop 1).flatten):=by
 have hrg:df [.int (p.length:Int)]=some (bQ 0 p.length):=by rw [bT (by omega) (by omega),Ey]
 have hlen:bj (bX p)=some (.int (p.length:Int)):=by show some (D.int ((p.map de).length:Int))=_; rw [DP]
 have hix:∀ k,k < p.length→ixE (bX p) (.int (k:Int))=some (de (p.getD k ([],[]))):=fun k hk=>by
  show atI (p.map de) (k:Int)=_
  rw [dL,DX,DN hk,D3,DN hk]; rfl
 have d0:decide ((rows.length:Int)=(p.length:Int))=true:=Ek (by omega)
 have hrl:∀ r ∈ rows,r.length≤100:=fun r h=>by
  obtain ⟨k,hk,rfl⟩:=List.mem_iff_getElem.mp h
  have:=hr k (by omega)
  rw [D3,DN hk,Option.getD_some] at this
  rw [this]; exact h8 k
 refine bv ?_
 simp only [iM,b__Lflat,ad,aZ,ax,aj,bL,bF,cb,bA,aH,br,bin,un,var,aa,tst,asB,nn,orT,ac,ah,bf,bR,isF,tyN,DA,DC,DI,DJ,DK,DL,DG,DH,DD,DF,on,DB,List.replicate,reduceIte,Nat.reduceAdd,Nat.reduceSub,Nat.reduceLeDiff,GV,Ed,kG,String.reduceBEq,Fg,FJ,Fx,jI,aR,dF,↓hlen,DP,d0,hrg]
 refine bz (fun i:Nat=>D.int (0 + (i:Int))) (List.range p.length) (fun pre E=>∃ s3 s4,E=[Sl.val (bX p),Sl.val (.tup (rows.map nt)),Sl.own (.lst (((rows.take pre.length).drop 1).flatten.map nD)),s3,s4]) rfl ⟨_,_,rfl⟩ ?_ ?_
 ·rintro pre k post E hs ⟨s3,s4,rfl⟩
  obtain ⟨rfl,hk⟩:=dE hs
  have hk2:pre.length < rows.length:=by omega
  have ar:=xw hk2
  have hrk:=hr _ hk
  have hix':=hix _ hk
  have hsp:bG p pre.length=(p.getD pre.length ([],[])).1:=rfl
  have h9:=h8 pre.length
  rw [hsp] at hrk h9
  clear hsp
  generalize p.getD pre.length ([],[])=s at hix' hrk h9
  have e0:ixE (de s) (.int 0)=some (.tup (s.1.map D.str)):=rfl
  have d1:decide (((rows.getD pre.length []).length:Int)=(s.1.length:Int))=true:=Ek (by omega)
  have htn:=tz hk2
  have hfl:=sm (rs:=(rows.take pre.length).drop 1) (B:=100) fun r h=>hrl r (EV (EW h))
  have hfl2:100 * ((rows.take pre.length).drop 1).length≤100 * 100:=Fd _ (by rw [Fi,EL]; omega)
  have hrl2:(rows.getD pre.length []).length≤100:=by omega
  generalize hrow:rows.getD pre.length []=row at ar hrk d1 htn hrl2
  have elen:(pre ++ [pre.length]).length=pre.length + 1:=by simp
  simp only [ad,aN,cc,ax,aj,bF,cb,bA,br,bin,un,cst,aa,tst,asB,nn,orT,bg,nmG,isF,aL,tyN,DA,DD,DF,on,DB,reduceIte,GV,Ed,kG,String.reduceBEq,Fg,FJ,Fx,jI,ny,dF,EN,ar,↓hix',e0,DP,d1]
  rcases F8 pre.length with hz | hz
  ·have hz0:∀ x ∈ row,x=0:=by
    rw [hz] at hrow
    rw [← hrow]; exact h0
   have e1:((rows.take (pre ++ [pre.length]).length).drop 1).flatten=((rows.take pre.length).drop 1).flatten:=by
    rw [elen,htn,hz]; rfl
   have d2:decide ((pre.length:Int)=0)=true:=Ek (by omega)
   have d3:decide ((0:Int) < (pre.length:Int))=false:=D5 (by omega)
   refine bz nD row (fun pr E=>∃ s4,E=[Sl.val (bX p),Sl.val (.tup (rows.map nt)),Sl.own (.lst (((rows.take pre.length).drop 1).flatten.map nD)),Sl.val (.int (pre.length:Int)),s4]) rfl ⟨_,rfl⟩ ?_ ?_
   ·rintro pr x po E hpr ⟨s4',rfl⟩
    have hx0:=hz0 x (by rw [hpr]; simp)
    subst hx0
    have d4:decide (((0:Nat):Int)=0)=true:=rfl
    simp only [ad,aN,cc,ax,aj,bF,cb,br,bin,cst,aa,tst,asB,nn,gu,orT,nmG,isF,iJ,tyN,DA,DC,DD,DF,on,DB,reduceIte,GV,Ed,kG,String.reduceBEq,Fg,FJ,GW,Fx,cV,jI,d2,d3,d4]
    exact ⟨_,rfl⟩
   ·rintro E ⟨s4',rfl⟩
    exact ⟨_,_,by rw [e1]⟩
  ·have e1:((rows.take (pre ++ [pre.length]).length).drop 1).flatten=((rows.take pre.length).drop 1).flatten ++ row:=by
    rw [elen,htn,List.drop_append_of_le_length (by rw [EL]; omega),List.flatten_append]; simp
   have d2:decide ((pre.length:Int)=0)=false:=D5 (by omega)
   have d3:decide ((0:Int) < (pre.length:Int))=true:=Ek (by omega)
   refine bz nD row (fun pr E=>∃ s4,E=[Sl.val (bX p),Sl.val (.tup (rows.map nt)),Sl.own (.lst ((((rows.take pre.length).drop 1).flatten ++ pr).map nD)),Sl.val (.int (pre.length:Int)),s4]) rfl ⟨_,by rw [Ez]⟩ ?_ ?_
   ·rintro pr x po E hpr ⟨s4',rfl⟩
    have hprl:pr.length≤row.length:=by rw [hpr]; simp
    have hz3:((((rows.take pre.length).drop 1).flatten ++ pr).map nD).length < 16777216:=by
     rw [DP,DZ]; omega
    simp only [ad,aN,cc,ax,aj,bF,eX,cb,br,bin,cst,var,aa,tst,asB,nn,gu,orT,nmG,isF,iJ,tyN,DA,DC,DD,DF,on,DB,reduceIte,GV,Ed,kG,String.reduceBEq,Fg,FJ,GW,Fx,cV,jI,d5,cm,d2,d3,hz3]
    exact ⟨_,by rw [← E6,Ej (l₂:=[x])]; rfl⟩
   ·rintro E ⟨s4',rfl⟩
    exact ⟨_,_,by rw [e1]⟩
 ·rintro E ⟨s3,s4,rfl⟩
  have e:rows.take (List.range p.length).length=rows:=by rw [D1,← hl,List.take_length]
  simp only [ad,aj,aO,DC,DD,DF,on,DB,fzE,e]
abbrev kD:D:=.lst [.bl true,.bl true,.bl false,.bl false,.bl false,.bl false,.bl false,.bl false,.bl false,.bl false,.bl false]
theorem CC:neO kD kD=some (.bl false):=xk (n:=1) (kO D.bl [true,true,false,false,false,false,false,false,false,false,false] fun x _=>za x) (by decide) rfl
theorem wj (a b c d e f:Sl) (ha:∀ z ∈ [a,b,c,d,e,f],(∀ d,z ≠ .own d)∧∀ s,z ≠ .obj s):fW [a,b,c,d,e,f]:=wg ha
theorem qu (p:List Sp) (most:Int) (n:Nat) (hp:p.length≤100) (hN:(ci p).length≤10000) (hW:(ao p).length≤10000) (h8:∀ k,(bG p k).length≤100) (hn:((dl p).map List.sum).sum=n) (hm:most < (n:Int)):fm [bX p,.int most,nD n]=some (.bl true):=by
 have h1:=pZ p hp hN hW h8
 have h2:=n9 (dl p) (by unfold dl; rw [DP,D1]; omega)
 rw [hn] at h2
 have hlt:decide (most < (n:Int))=true:=Ek hm
 have hno:da [bX p,.int most]=none:=by
  cases hx:da [bX p,.int most] with
  | none=>rfl
  | some x =>
   have h:wp (da [bX p,.int most]) fun _=>True:=cp.mpr ⟨x,hx,trivial⟩
   simp only [da,b_thrifty,ad,aZ,ax,aj,az,bF,eX,bin,cst,var,aa,tst,asB,ay,ac,ah,c_,DA,DC,DI,DJ,DK,DL,DG,DH,DD,DF,on,DB,List.replicate,reduceIte,Nat.reduceAdd,Nat.reduceSub,h1,h2,hlt,noS] at h
   exact False.elim h
 have hgx:lZ 2 7 gh [bX p,.int most]=some (some (0,[(("needed" : Str),nD n)])):=by
  simp [lZ,gh,oq,okX,az,ay,ac,ah,var,aa,cst,h1,h2,ifX,tst,bin,c_,asB,m8,kH,hm]
 have hz:dm [bX p,.int most]=some (some (0,[(("needed" : Str),nD n)])):=by
  unfold dm jL
  rw [hno]; exact hgx
 have hfin:vq 0 5 (mF 2 dm (ac (var 0) (ac (var 1) ah))) (fun a _=>d7 a) (aq d6 noS) fj [Sl.val (bX p),Sl.val (.int most),Sl.val (nD n),Sl.val (.lst []),Sl.val .non,Sl.no]=some (.rt (.bl true)):=by
  have hd:mF 2 dm (ac (var 0) (ac (var 1) ah)) [Sl.val (bX p),Sl.val (.int most),Sl.val (nD n),Sl.val (.lst []),Sl.val .non,Sl.no]=some (.xc 0 [(("needed" : Str),nD n)] [Sl.val (bX p),Sl.val (.int most),Sl.val (nD n),Sl.val (.lst []),Sl.val .non,Sl.no]):=by
   generalize dm=g at hz
   simp [mF,ac,ah,var,hz]
  unfold vq
  rw [hd]
  show @ite _ _ (Classical.propDecidable _) _ _=_
  rw [if_pos ⟨rfl,wj _ _ _ _ _ _ fun z hz=>by
   simp only [Gk,Gq,or_false] at hz
   rcases hz with rfl | rfl | rfl | rfl | rfl | rfl <;> constructor <;> intro _ e <;> cases e⟩]
  refine zA fun a=>?_
  have xx:∀ (e0 e1 e2 e3 e4:Sl) (z:D),xF 5 a z [e0,e1,e2,e3,e4,eg a]=some z:=fun e0 e1 e2 e3 e4 z=>if_pos rfl
  have xl:∀ (e0 e1 e2 e3 e5:Sl),qe 4 a "needed" [(("needed" : Str),nD n)] [e0,e1,e2,e3,eg a,e5]=some (nD n):=fun e0 e1 e2 e3 e5=>by
   unfold qe
   rw [EI,Fg]
   show (some (nD n)).bind (fun z=>if kH z=true then xF 4 a z _ else none)=_
   rw [DA,if_pos (show kH (nD n)=true from rfl)]
   exact if_pos rfl
  have hk:∀ (x y z u:D),pt 4 5 a [Sl.val x,Sl.val y,Sl.val z,Sl.val u,Sl.val .non,eg a]=some (.nx [Sl.val x,Sl.val y,Sl.val z,Sl.val u,eg a,eg a]):=fun x y z u=>by
   unfold pt
   rw [if_pos ⟨xx _ _ _ _ _ _,wj _ _ _ _ _ _ fun z hz=>by
    simp only [Gk,Gq,or_false] at hz
    rcases hz with rfl | rfl | rfl | rfl | rfl | rfl <;> constructor <;> intro _ e <;> cases e⟩]; rfl
  have hh:d7 a [Sl.val (bX p),Sl.val (.int most),Sl.val (nD n),Sl.val (.lst []),Sl.val .non,eg a]=some (.nx [Sl.val (bX p),Sl.val (.int most),Sl.val (nD n),Sl.val kD,eg a,eg a]):=by
   refine bv ?_
   simp only [d7,ad,ax,aj,az,bin,aa,ac,ah,bf,DA,DC,DK,DL,DG,DH,DD,DF,on,DB,reduceIte,Nat.reduceAdd,Nat.reduceLeDiff,aR,xx,aM,hk]
  have hi:∀ (e0 e1 e2 e4 e5:Sl),d6 [e0,e1,e2,Sl.val kD,e4,e5]=some (.nx [e0,e1,e2,Sl.val kD,e4,e5]):=fun e0 e1 e2 e4 e5=>by
   have hm9:o_ (.lst [.bl false]) (.int 9)=some (.lst [.bl false,.bl false,.bl false,.bl false,.bl false,.bl false,.bl false,.bl false,.bl false]):=o9 (n:=9) (by decide)
   refine bv ?_
   simp only [d6,ad,bF,cb,br,bin,cst,aa,tst,asB,ac,ah,bf,DA,DC,DK,DL,DG,DH,on,DB,reduceIte,Nat.reduceAdd,Nat.reduceLeDiff,aR,hm9,aM,CC]
  have hrr:fj a [(("needed" : Str),nD n)] [Sl.val (bX p),Sl.val (.int most),Sl.val (nD n),Sl.val kD,eg a,Sl.no]=some (.rt (.bl true)):=by
   refine bv ?_
   simp only [fj,ad,ax,aj,aH,bin,aa,asB,xz,yK,isF,tyN,DA,DC,on,DB,reduceIte,Bool.not_false,decide_true,kG,String.reduceBEq,Fg,FJ,GW,Fx,cV,hi,xl]
  show (d7 a [Sl.val (bX p),Sl.val (.int most),Sl.val (nD n),Sl.val (.lst []),Sl.val .non,eg a]).bind _=_
  rw [hh]
  exact hrr
 refine bv ?_
 simp only [fm,b__Lrefused,ad,aZ,ax,aj,aO,az,cst,ah,bf,DA,DC,DI,DJ,DK,DL,DG,DH,DD,DF,List.replicate,reduceIte,Nat.reduceAdd,Nat.reduceSub,Nat.reduceLeDiff,aR,hfin]
end Wk
end L2.Cu
namespace L2.Cu.S7
open PySem PySem.Spec PyProof.Rows
def b__Lcell:DE→Option Out :=
 (aq (ifS (tst (bin ltD (aa 1) (un bj (aa 0))))
 (aH (bin bC (bin ixE (aa 0) (aa 1)) (bin e9 (cst (.int 10)) (cst (.int 18)))))
 br)
 (aH (cst (.int 0))))
def g__Lcell:List D→Option D:=bV 2 2 b__Lcell
def b__Llong:DE→Option Out :=
 (aq (ifS (tst (bin ltD (aa 1) (un bj (aa 0))))
 (aH (bin bC (bin ixE (aa 0) (aa 1)) (bin fJ (bin fJ (bin e9 (cst (.int 10)) (cst (.int 60))) (bin e9 (cst (.int 10)) (cst (.int 60)))) (bin e9 (cst (.int 10)) (cst (.int 60))))))
 br)
 (aH (cst (.int 0))))
def g__Llong:List D→Option D:=bV 2 2 b__Llong
def b__Lspin:DE→Option Out :=
 (aq (az 3 (bin bC (bin fJ (bin aM (bin bC (aa 0) (cst (.int 1000000007))) (cst (.int 3))) (bin aM (bin aM (bin fJ (aa 1) (aa 1)) (bin fJ (cst (.int 5)) (aa 1))) (cst (.int 11)))) (cst (.int 998244353))))
 (aH (bin bC (bin bS (bin bC (bin aM (bin fJ (aa 3) (aa 3)) (bin bS (aa 3) (cst (.int 4096)))) (cst (.int 999999937))) (cst (.int 32))) (aa 2))))
def g__Lspin:List D→Option D:=bV 3 4 b__Lspin
def b__Lvocabulary:DE→Option Out :=
 (aq (az 1 (cst (.str "abcdefghijklmnopqrstuvwxyz")))
 (aq (az 2 (bin kF (cst (.str "")) (aE [4] (c4 (ac (cst (.int 12)) ah)) (nmG 4) noT (bin ixE (aa 1) (ay 3 g__Lspin (ac (var 0) (ac (bin aM (cst (.int 17)) (aa 4)) (ac (cst (.int 26)) ah))))))))
 (aq (az 3 (aE [4] (c4 (ac (bin aM (cst (.int 1)) (bin bC (aa 0) (cst (.int 4)))) ah)) (nmG 4) noT (aY (aa 2) noP (be (bin aM (cst (.int 1)) (ay 3 g__Lspin (ac (var 0) (ac (bin aM (cst (.int 31)) (aa 4)) (ac (cst (.int 12)) ah)))))))))
 (aq (ifS (tst (bin eqO (bin bC (bin bS (aa 0) (cst (.int 4))) (cst (.int 3))) (cst (.int 0))))
 (az 3 (bin aM (aE [5] (bg aL (var 3)) (nmG 5) noT (bin aM (bin ixE (aa 1) (bin bC (bin aM (un t0 (bin ixE (aa 5) (cst (.int (-1))))) (un bj (aa 3))) (cst (.int 26)))) (aY (aa 5) (be (cst (.int 1))) noP))) (aa 3)))
 br)
 (aH (var 3))))))
def g__Lvocabulary:List D→Option D:=bV 1 6 b__Lvocabulary
def b__Ltexts:DE→Option Out :=
 (aq (az 3 (cst (.str "abcdefghijklmnopqrstuvwxyz")))
 (aq (bL 4 (bf ah))
 (aq (cD (c4 (ac (var 1) ah)) (nmG 5)
 (aq (az 6 (bin aM (cst (.int 1)) (bin bC (aa 0) (aa 2))))
 (aq (az 0 (bin bS (aa 0) (aa 2)))
 (aq (az 7 (cst (.str "")))
 (aq (cD (c4 (ac (var 6) ah)) (nmG 8)
 (aq (az 7 (bin aM (aa 7) (bin ixE (aa 3) (bin bC (aa 0) (cst (.int 26))))))
 (az 0 (bin bS (aa 0) (cst (.int 26))))))
 (ifS (tst (bin nr (aa 7) (aa 4)))
 (cm 4 (var 7))
 br))))))
 (fun E=>(aH (var 4)) (fzE 4 E)))))
def g__Ltexts:List D→Option D:=bV 3 9 b__Ltexts
def b__Lby_digits:DE→Option Out :=
 (aq (bL 4 (bf ah))
 (aq (cD (bg aL (var 1)) (nmG 5)
 (aq (ifS (gu (tst (bin eqO (bin bC (aa 0) (cst (.int 2))) (cst (.int 1)))) (tst (bin ltD (un bj (aa 4)) (aa 3))))
 (cm 4 (var 5))
 br)
 (az 0 (bin bS (aa 0) (cst (.int 2))))))
 (aq (ifS (tst (bin eqO (aa 4) (bf ah)))
 (aq (bL 4 (bf (ac (bin ixE (aa 1) (bin bC (aa 0) (un bj (aa 1)))) ah)))
 (az 0 (bin bS (aa 0) (un bj (aa 1)))))
 br)
 (aq (az 6 (bin aM (cst (.int 1)) (bin bC (aa 0) (cst (.int 4)))))
 (aq (az 0 (bin bS (aa 0) (cst (.int 4))))
 (aq (bL 7 (bf ah))
 (aq (cD (c4 (ac (var 6) ah)) (nmG 8)
 (aq (cm 7 (bin ixE (aa 2) (bin bC (aa 0) (un bj (aa 2)))))
 (az 0 (bin bS (aa 0) (un bj (aa 2))))))
 (fun E=>(fun E=>(aH (e8 (ac (var 4) (ac (var 7) ah)))) (fzE 4 E)) (fzE 7 E)))))))))
def g__Lby_digits:List D→Option D:=bV 4 9 b__Lby_digits
end L2.Cu.S7
namespace L2.Cu
open PySem PySem.Spec PyProof.Rows
def pz (s:List Nat):List (List Nat)→List Nat
 | []=>[]
 | [x]=>x
 | x :: y :: r=>x ++ s ++ pz s (y :: r)
theorem yW (s:List Nat):∀ ls:List (List Nat),Txt.join (mk s) (ls.map mk)=mk (pz s ls):=by
 intro ls
 show Builtin.Str.glued (mk s) (ls.map mk)=_
 rw [StrLaws.glued_eq_join]
 induction ls with
 | nil=>rfl
 | cons x r ih =>
  cases r with
  | nil=>rfl
  | cons y r =>
   show mk x ++ mk s ++ Str.join (mk s) ((y :: r).map mk)=_
   rw [ih,qI,qI]
   rfl
theorem mi:∀ ls:List (List Nat),pz [] ls=ls.flatten
 | []=>rfl
 | [x]=>by simp [pz]
 | x :: y :: r=>by
  rw [pz,mi (y :: r)]; simp
theorem iN:∀ cs:List Nat,(cs.map fun c=>[c]).flatten=cs
 | []=>rfl
 | c :: cs=>by rw [DI,Em,iN cs]; rfl
theorem og:∀ cs:List Nat,((cs.map fun c=>mk [c]).map (·.length)).sum=cs.length
 | []=>rfl
 | c :: cs=>by
  rw [DI,DI,EH,og cs,d9]; simp; omega
theorem iI (cs:List Nat) (h:cs.length≤1000):kF (.str (mk [])) (.lst ((cs.map fun c=>mk [c]).map D.str))=some (.str (mk cs)):=by
 rw [qS (by rw [og,d9]; simp; omega)]
 have:(cs.map fun c=>mk [c])=(cs.map fun c=>[c]).map mk:=by rw [D7]; rfl
 rw [this,yW,mi,iN]
namespace S7
theorem cell_ok (ns:List Int) (k:Nat) (kI:Int) (hk:kI=k):wp (g__Lcell [.scr ns,.int kI]) fun d=>∃ e:Int,d=.int e∧0≤e:=by
 subst hk
 simp only [g__Lcell,b__Lcell,ad,aZ,ax,bF,bin,un,aa,tst,asB,c_,DA,DI,DJ,DK,DL,DG,DH,on,DB,List.replicate,Nat.reduceAdd,Nat.reduceSub,pp]
 refine cU (fun h=>?_) fun h=>?_
 ·have hk:k < ns.length:=by omega
  have h18:(0:Int) < 10 ^ 18:=by decide
  have p18:e9 (.int 10) (.int 18)=some (.int (10 ^ 18)):=gZ (by omega) (by omega) (by decide)
  simp only [ad,fZ,aO,aH,bin,cst,aa,aU,DA,DC,on,DB,Int.reduceLT,Int.reducePow,D.int.injEq,si,dL,DN hk,p18]
  exact ⟨_,rfl,Fq _ (by decide)⟩
 ·simp only [ad,aj,aO,aH,br,cst,DC,D.int.injEq]
  exact ⟨0,rfl,Int.le_refl 0⟩
theorem jF (c t m:Int) (ht:0≤t) (ht2:t≤1000) (hm:0 < m):wp (g__Lspin [.int c,.int t,.int m]) fun d=>∃ r:Int,d=.int r∧0≤r∧r < m:=by
 have q1:t * t≤1000000:=by
  have:=Int.mul_le_mul ht2 ht2 ht (by omega:(0:Int)≤1000)
  omega
 have q0:0≤t * t:=Int.mul_nonneg ht ht
 have e1:=eU (i:=t) (j:=t) (by omega) (by omega)
 have e2:=eU (i:=5) (j:=t) (by omega) (by omega)
 generalize t * t=T2 at q0 q1 e1
 have e3:=eU (i:=c % 1000000007 + 3) (j:=T2 + 5 * t + 11) (by omega) (by omega)
 generalize (c % 1000000007 + 3) * (T2 + 5 * t + 11)=A at e3
 have e4:=eU (i:=A % 998244353) (j:=A % 998244353) (by omega) (by omega)
 simp only [g__Lspin,b__Lspin,ad,aZ,ax,aj,aO,az,aH,bin,cst,aa,aU,bc,DA,DC,DI,DJ,DK,DL,DG,DH,DD,DF,on,DB,List.replicate,Nat.reduceAdd,Nat.reduceSub,Int.reduceLT,Int.reduceLE,Int.reducePow,D.int.injEq,aG,e1,e2,e3,e4,aU hm]
 exact ⟨_,rfl,Fq _ (by omega),FI _ hm⟩
theorem kB (n off:Nat) (c:Int) (hoff:off + n≤500) {E:DE}{sl:Nat}{f:DE→Option D}
  (hf:∀ k:Nat,k < n→∀ r:Int,0≤r→r < 26→g__Lspin [.int c,.int ((off:Int) + (0 + (k:Int))),.int 26]=some (.int r)→f (E.set sl (.val (.int (0 + (k:Int)))))=some (.str (mk [97 + r.toNat]))) :
  ∃ cs:List Nat,bw (nmG sl) noT f E (bQ 0 n)=some ((cs.map fun c=>mk [c]).map D.str)∧cs.length=n∧vd cs:=by
 obtain ⟨ws,h1,h2,h3⟩:=gO (fun i:Nat=>D.int (0 + (i:Int))) D.str (fun w=>∃ z,w=mk [z]∧97≤z∧z≤122) (i:=sl) (ef:=f) (E:=E) (List.range n) fun k hk=>by
  have hk':=List.mem_range.mp hk
  obtain ⟨d,hd,r,rfl,r0,r1⟩:=cp.mp (jF c ((off:Int) + (0 + (k:Int))) 26 (by omega) (by omega) (by omega))
  exact ⟨mk [97 + r.toNat],⟨_,rfl,by omega,by omega⟩,hf k hk' r r0 r1 hd⟩
 have ex:∀ ws:List Str,(∀ w ∈ ws,∃ z,w=mk [z]∧97≤z∧z≤122)→∃ cs:List Nat,ws=cs.map (fun c=>mk [c])∧vd cs:=by
  intro ws
  induction ws with
  | nil=>intro _; exact ⟨[],rfl,fun c h=>by cases h⟩
  | cons w ws ih =>
   intro hh
   obtain ⟨cs,e,l⟩:=ih fun w hw=>hh w (.tail _ hw)
   obtain ⟨z,rfl,z1,z2⟩:=hh w (.head _)
   exact ⟨z :: cs,by rw [e]; rfl,fun c hc=>by
    rcases List.mem_cons.mp hc with rfl | hc
    ·exact ⟨z1,z2⟩
    ·exact l c hc⟩
 obtain ⟨cs,e,l⟩:=ex ws h3
 subst e
 refine ⟨cs,?_,by rw [← DP (as:=cs) (f:=fun c=>mk [c]),h2,D1],l⟩
 rw [← h1]; rfl
theorem n_ (n mI MI:Int) (m M:Nat) (hmI:mI=m) (hMI:MI=M) (hm:m≤100) (hM:M≤12) (hM1:1≤M):wp (g__Ltexts [.int n,.int mI,.int MI]) fun d=>∃ ss:List Str,d=.lst (ss.map D.str)∧ss.length≤m∧(1≤m→1≤ss.length)∧ss.Nodup∧∀ x ∈ ss,Wd M x:=by
 have hM0:(0:Int) < MI:=by omega
 have hMb:MI≤10 ^ 200:=by omega
 have hr:df [D.int mI]=some ((List.range m).map fun i:Nat=>D.int (0 + (i:Int))):=by
  rw [bT (by omega) (by omega),show mI.toNat=m by omega]; rfl
 simp only [g__Ltexts,b__Ltexts,ad,aZ,ax,aj,az,bL,bA,aH,cst,var,ac,ah,bf,bR,DA,DC,DI,DJ,DK,DL,DG,DH,DD,DF,on,DB,List.replicate,reduceIte,Nat.reduceAdd,Nat.reduceSub,Nat.reduceLeDiff,aR,lr,k8,hr]
 refine bz (fun i:Nat=>D.int (0 + (i:Int))) (List.range m) (fun pre E=>∃ (n':Int) (ss:List Str) (s5 s6 s7 s8:Sl),E=[Sl.val (D.int n'),Sl.val (D.int mI),Sl.val (D.int MI),Sl.val (D.str (mk (List.range' 97 26))),Sl.own (D.lst (ss.map D.str)),s5,s6,s7,s8]∧ss.length≤pre.length∧(1≤pre.length→1≤ss.length)∧ss.Nodup∧∀ x ∈ ss,Wd M x) rfl ⟨n,[],_,_,_,_,rfl,DY _,fun z=>by simp at z,List.nodup_nil,fun x hx=>by simp at hx⟩ ?_ ?_
 ·rintro pre k post E hs ⟨n',ss,s5,s6,s7,s8,rfl,hl1,hl2,hnd,hwd⟩
  obtain ⟨hk1,hk2⟩:=dE hs
  have hz0:0≤n' % MI:=Fq _ (by omega)
  have hz1:n' % MI < MI:=FI _ hM0
  generalize hsI:n' % MI=sI at hz0 hz1
  obtain ⟨sz,hsz⟩:∃ sz:Nat,sI=sz:=⟨sI.toNat,by omega⟩
  have hr2:df [D.int (1 + sI)]=some ((List.range (1 + sz)).map fun i:Nat=>D.int (0 + (i:Int))):=by
   rw [bT (by omega) (by omega),show (1 + sI).toNat=1 + sz by omega]; rfl
  simp only [ad,aN,cc,ax,aj,az,bA,bin,cst,var,aa,ac,ah,bR,nmG,aU,bc,DA,DC,DD,DF,on,DB,aG,aU hM0,hsI,bc hM0 hMb,hr2]
  refine bz (fun i:Nat=>D.int (0 + (i:Int))) (List.range (1 + sz)) (fun pr E=>∃ (n'':Int) (l:List Nat) (s8:Sl),E=[Sl.val (D.int n''),Sl.val (D.int mI),Sl.val (D.int MI),Sl.val (D.str (mk (List.range' 97 26))),Sl.own (D.lst (ss.map D.str)),Sl.val (D.int (0 + (k:Int))),Sl.val (D.int (1 + sI)),Sl.val (D.str (mk l)),s8]∧l.length=pr.length∧vd l) rfl ⟨_,[],_,rfl,rfl,fun c h=>by cases h⟩ ?_ ?_
  ·rintro pr j po E hj ⟨n'',l,s8,rfl,hl,hlow⟩
   obtain ⟨hj1,hj2⟩:=dE hj
   have h0:0≤n'' % 26:=by omega
   have h1:n'' % 26 < 26:=by omega
   simp only [ad,aN,cc,ax,aj,az,bin,cst,aa,nmG,aU,bc,DA,DD,DF,on,DB,Int.reduceLT,Int.reduceLE,Int.reducePow,fQ h0 h1]
   rw [jN (by simp; omega)]
   simp only [ad]
   refine ⟨_,_,_,rfl,by simp [hl],fun x hx=>?_⟩
   rcases List.mem_append.mp hx with h | h
   ·exact hlow x h
   ·rw [List.mem_singleton.mp h]; omega
  ·rintro E ⟨n'',l,s8,rfl,hl,hlow⟩
   rw [D1] at hl
   simp only [ad,aj,bF,bin,aa,tst,asB,DA,on,DB,o8]
   refine wR (fun h=>?_) fun h=>?_
   ·simp only [var,DA,DD,DF,on,DB,cm,DP]
    refine eM (lR (by omega)) ?_
    simp only [ad]
    refine ⟨_,ss ++ [mk l],_,_,_,_,by rw [iD],by simp; omega,fun _=>by simp,?_,fun x hx=>?_⟩
    ·rw [GZ]
     exact ⟨hnd,FG _ _,fun a ha b hb=>by
      rw [List.mem_singleton.mp hb]
      intro e
      exact h (e ▸ ha)⟩
    ·rcases List.mem_append.mp hx with hx | hx
     ·exact hwd x hx
     ·rw [List.mem_singleton.mp hx]
      exact Wd.mk' (by omega) (by omega) hlow
   ·simp only [ad,br]
    refine ⟨_,ss,_,_,_,_,rfl,by simp; omega,fun _=>?_,hnd,hwd⟩
    exact List.length_pos_iff.mpr fun z=>by rw [z] at h; simp at h
 ·rintro E ⟨n',ss,s5,s6,s7,s8,rfl,hl1,hl2,hnd,hwd⟩
  rw [D1] at hl1 hl2
  simp only [ad,aj,aO,DC,DD,DF,on,DB,fzE]
  exact ⟨ss,rfl,hl1,hl2,hnd,hwd⟩
theorem r_ (ns:List Int) (k:Nat) (kI:Int) (hk:kI=k):wp (g__Llong [.scr ns,.int kI]) fun d=>∃ e:Int,d=.int e∧0≤e:=by
 subst hk
 simp only [g__Llong,b__Llong,ad,aZ,ax,bF,bin,un,aa,tst,asB,c_,DA,DI,DJ,DK,DL,DG,DH,on,DB,List.replicate,Nat.reduceAdd,Nat.reduceSub,pp]
 refine cU (fun h=>?_) fun h=>?_
 ·have hk:k < ns.length:=by omega
  have p60:e9 (.int 10) (.int 60)=some (.int (10 ^ 60)):=gZ (by omega) (by omega) (by decide)
  have hb1:Builtin.Int.intBits (10 ^ 60)≤2 ^ 20:=by decide
  have hb2:Builtin.Int.intBits (10 ^ 60 * 10 ^ 60)≤2 ^ 20:=by decide
  have m1:fJ (.int (10 ^ 60)) (.int (10 ^ 60))=some (.int (10 ^ 60 * 10 ^ 60)):=kq hb1 hb1
  have m2:fJ (.int (10 ^ 60 * 10 ^ 60)) (.int (10 ^ 60))=some (.int (10 ^ 60 * 10 ^ 60 * 10 ^ 60)):=kq hb2 hb1
  have hpos:(0:Int) < 10 ^ 60 * 10 ^ 60 * 10 ^ 60:=by decide
  generalize (10 ^ 60 * 10 ^ 60 * 10 ^ 60:Int)=W at m2 hpos
  generalize (10 ^ 60 * 10 ^ 60:Int)=V at m1 m2
  generalize (10 ^ 60:Int)=U at p60 m1 m2
  simp only [bin,cst,aa,aH,ad,fZ,aO,aH,bin,cst,aa,aU,DA,DC,on,DB,D.int.injEq,si,dL,DN hk,p60,m1,m2,aU hpos]
  exact ⟨_,rfl,Fq _ (by omega)⟩
 ·simp only [ad,aj,aO,aH,br,cst,DC,D.int.injEq]
  exact ⟨0,rfl,Int.le_refl 0⟩
end S7
theorem wK {x:Str}{M:Nat} (h:Wd M x) (hM:M≤1000):∃ c:Nat,ixE (.str x) (.int (-1))=some (.str (mk [c]))∧97≤c∧c≤122:=by
 have hl:=h.pos
 have hl2:=h.le
 have hz:x.length≤16777216:=by omega
 rw [mW] at hl hl2
 have hlt:x.cps.toList.length - 1 < x.cps.toList.length:=by omega
 refine ⟨x.cps.toList[x.cps.toList.length - 1],?_,h.low _ (EM hlt)⟩
 show (if x.length≤16777216 then (atI x.cps.toList (-1)).map fun c=>D.str ⟨#[c]⟩ else none)=_
 rw [if_pos hz]
 have:atI x.cps.toList (-1)=some (x.cps.toList[x.cps.toList.length - 1]):=by
  unfold atI ixN
  rw [if_neg (by omega),if_pos (by omega),show ((-1:Int) + (x.cps.toList.length:Int)).toNat=x.cps.toList.length - 1 by omega,DA,DN hlt]
 rw [this]; rfl
theorem wc (c:Nat):t0 (.str (mk [c]))=some (.int c):=by
 show (if (mk [c]).length=1 then some (D.int ((mk [c]).cps.getD 0 0:Nat)) else none)=_
 rw [if_pos (show (mk [c]).length=1 from d9 [c])]; rfl
namespace S7
theorem vk (c:Int):wp (g__Lvocabulary [.int c]) fun d=>∃ ss:List Str,d=.lst (ss.map D.str)∧1≤ss.length∧ss.length≤8∧∀ x ∈ ss,Wd 12 x:=by
 have hr:df [D.int 12]=some (bQ 0 12):=bT (by omega) (by omega)
 have hrl:(bQ 0 12).length≤16777216:=by simp [bQ]
 have b0:0≤c % 4:=by omega
 have b1:c % 4 < 4:=by omega
 generalize hb:c % 4=bI at b0 b1
 obtain ⟨b,hbb⟩:∃ b:Nat,bI=b:=⟨bI.toNat,by omega⟩
 have hr2:df [D.int (1 + bI)]=some (bQ 0 (1 + b)):=by
  rw [bT (by omega) (by omega),show (1 + bI).toNat=1 + b by omega]
 have hrl2:(bQ 0 (1 + b)).length≤16777216:=by simp [bQ]; omega
 obtain ⟨cs,hcs,hcl,hlow⟩:=kB 12 17 c (by omega) (E:=[Sl.val (D.int c),Sl.val (D.str (mk (List.range' 97 26))),Sl.no,Sl.no,Sl.no,Sl.no]) (sl:=4) (f:=bin ixE (aa 1) (ay 3 g__Lspin (ac (var 0) (ac (bin aM (cst (.int 17)) (aa 4)) (ac (cst (.int 26)) ah))))) fun k hk r r0 r1 hd=>by
  have hd':g__Lspin [.int c,.int (17 + (0 + (k:Int))),.int 26]=some (.int r):=hd
  refine bv ?_
  simp only [ad,bin,cst,var,aa,ay,ac,ah,DA,DC,DG,DH,DD,DF,on,DB,reduceIte,Nat.reduceAdd,aG,hd',fQ r0 r1]
 have hz:cs.length≤16777216:=by omega
 obtain ⟨ws,hws,hwl,hwd⟩:=gO (fun i:Nat=>D.int (0 + (i:Int))) D.str (fun w=>Wd 12 w) (i:=4) (ef:=aY (aa 2) noP (be (bin aM (cst (.int 1)) (ay 3 g__Lspin (ac (var 0) (ac (bin aM (cst (.int 31)) (aa 4)) (ac (cst (.int 12)) ah)))))))
  (E:=[Sl.val (D.int c),Sl.val (D.str (mk (List.range' 97 26))),Sl.val (D.str (mk cs)),Sl.no,Sl.no,Sl.no]) (List.range (1 + b)) fun k hk=>by
  have hk':=List.mem_range.mp hk
  obtain ⟨d,hd,r,rfl,r0,r1⟩:=cp.mp (jF c (31 + (0 + (k:Int))) 12 (by omega) (by omega) (by omega))
  obtain ⟨q,hq⟩:∃ q:Nat,r=q:=⟨r.toNat,by omega⟩
  refine ⟨mk (cs.take (1 + q)),Wd.mk' (by simp; omega) (by simp; omega) fun c hc=>hlow c (EV hc),?_⟩
  refine bv ?_
  simp only [ad,bin,cst,var,aa,ay,ac,ah,noP,be,aY,DA,DC,DG,DH,DD,DF,on,DB,reduceIte,Nat.reduceAdd,aG,hd,jX hz]
  rw [show (1:Int) + r=((1 + q:Nat):Int) by omega,la]
 have hws':bw (nmG 4) noT (aY (aa 2) noP (be (bin aM (cst (.int 1)) (ay 3 g__Lspin (ac (var 0) (ac (bin aM (cst (.int 31)) (aa 4)) (ac (cst (.int 12)) ah))))))) [Sl.val (D.int c),Sl.val (D.str (mk (List.range' 97 26))),Sl.val (D.str (mk cs)),Sl.no,Sl.no,Sl.no] (bQ 0 (1 + b))=some (ws.map D.str):=hws
 rw [D1] at hwl
 simp only [g__Lvocabulary,b__Lvocabulary,ad,aZ,ax,aj,az,bF,bin,cst,aa,tst,asB,ac,ah,bR,aX,aE,aU,bc,DA,DC,DI,DJ,DK,DL,DG,DH,DD,DF,on,List.replicate,DM,D8,reduceIte,Nat.reduceAdd,Nat.reduceSub,Int.reduceLT,Int.reduceLE,Int.reducePow,Int.reduceNeg,aG,cV,aR,lr,k8,hr,aR hrl,hcs,iI cs (by omega),hb,hr2,aR hrl2,hws']
 refine cU (fun h=>?_) fun h=>?_
 ·simp only [ad,aN,cc,aj,aO,az,aH,bin,var,aa,bg,aX,aE,aL,DA,DC,DD,DF,on,DB,DM,D8,Int.reduceNeg,DP]
  refine eM (lS (by omega)) ?_
  obtain ⟨us,hus,hul,hud⟩:=gO D.str D.str (fun w=>Wd 12 w) (i:=5) (ef:=bin aM (bin ixE (aa 1) (bin bC (bin aM (un t0 (bin ixE (aa 5) (cst (.int (-1))))) (un bj (aa 3))) (cst (.int 26)))) (aY (aa 5) (be (cst (.int 1))) noP))
   (E:=[Sl.val (D.int c),Sl.val (D.str (mk (List.range' 97 26))),Sl.val (D.str (mk cs)),Sl.val (D.lst (ws.map D.str)),Sl.no,Sl.no]) ws fun w hw=>by
   have hww:=hwd w hw
   obtain ⟨z,hz1,z1,z2⟩:=wK hww (by omega)
   have h0:0≤((z:Int) + (ws.length:Int)) % 26:=by omega
   have h1:((z:Int) + (ws.length:Int)) % 26 < 26:=by omega
   have hp:=hww.pos
   have hle:=hww.le
   have hlw:=hww.low
   rw [← zM w] at hp hle
   rw [d9] at hp hle
   refine ⟨mk ([97 + (((z:Int) + (ws.length:Int)) % 26).toNat] ++ w.cps.toList.drop 1),Wd.mk' (by simp) (by simp; omega) fun c hc=>?_,?_⟩
   ·rcases List.mem_append.mp hc with hc | hc
    ·rw [List.mem_singleton.mp hc]; omega
    ·exact hlw c (EW hc)
   ·refine bv ?_
    simp only [aN,bin,un,cst,aa,noP,be,aY,aU,DA,DK,DL,DD,DF,on,DB,Int.reduceLT,Int.reduceNeg,aG,bH,hz1,wc,DP,fQ h0 h1]
    have hsl:slD (.str w) (some 1) none=some (.str (mk (w.cps.toList.drop 1))):=by
     have:=jX (l:=w.cps.toList) (lo:=some ((1:Nat):Int)) (hi:=none) (by omega)
     rw [zM,iU] at this
     exact this
    rw [hsl]
    simp only [ad]
    rw [jN (by rw [Fi,ET]; omega)]
    rfl
  rw [hus]
  have hadd:aM (.lst (us.map D.str)) (.lst (ws.map D.str))=some (.lst ((us ++ ws).map D.str)):=by
   show (if (us.map D.str).length + (ws.map D.str).length≤sizeLine then some (D.lst (us.map D.str ++ ws.map D.str)) else none)=_
   rw [if_pos (lS (by simp; omega)),Ej]
  simp only [ad,DC,hadd]
  refine ⟨us ++ ws,rfl,by simp; omega,by simp; omega,fun x hx=>?_⟩
  rcases List.mem_append.mp hx with hx | hx
  ·exact hud x hx
  ·exact hwd x hx
 ·simp only [ad,aj,aO,aH,br,var,DC,on,DB]
  exact ⟨ws,rfl,by omega,by omega,hwd⟩
end S7
namespace S8
open S7
theorem line_ok (n off:Nat) (c:Int) (hoff:off + n≤500) (words:List Str) (hw:1≤words.length) {E:DE}{sl:Nat}{f:DE→Option D}
  (hf:∀ k:Nat,k < n→∀ r:Int,0≤r→r < (words.length:Int)→g__Lspin [.int c,.int ((off:Int) + (0 + (k:Int))),.int (words.length:Int)]=some (.int r)→f (E.set sl (.val (.int (0 + (k:Int)))))=atI (words.map D.str) r) :
  ∃ ws:List Str,bw (nmG sl) noT f E (bQ 0 n)=some (ws.map D.str)∧ws.length=n∧∀ x ∈ ws,x ∈ words:=by
 obtain ⟨ws,h1,h2,h3⟩:=gO (fun i:Nat=>D.int (0 + (i:Int))) D.str (fun w=>w ∈ words) (i:=sl) (ef:=f) (E:=E) (List.range n) fun k hk=>by
  have hk':=List.mem_range.mp hk
  obtain ⟨d,hd,r,rfl,r0,r1⟩:=cp.mp (jF c ((off:Int) + (0 + (k:Int))) (words.length:Int) (by omega) (by omega) (by omega))
  have hlt:r.toNat < words.length:=by omega
  refine ⟨words[r.toNat],EM hlt,?_⟩
  rw [hf k hk' r r0 r1 hd,iV r0 (by rw [DP]; exact r1),DX,DN hlt]
  rfl
 rw [D1] at h2
 exact ⟨ws,h1,h2,h3⟩
end S8
theorem lb {α:Type} (enc en:α→D) {i:Nat}{cf:DE→Option Bool}{ef:DE→Option D}{E:DE}:∀ (ys:List α),(∀ x ∈ ys,∃ b,cf (E.set i (.val (enc x)))=some b∧ef (E.set i (.val (enc x)))=some (en x)) →
  ∃ zs:List α,bw (nmG i) cf ef E (ys.map enc)=some (zs.map en)∧zs.Sublist ys
 | [],_=>⟨[],rfl,.slnil⟩
 | x :: ys,h=>by
  obtain ⟨zs,h1,h2⟩:=lb enc en (i:=i) (cf:=cf) (ef:=ef) (E:=E) ys fun y hy=>h y (DS _ hy)
  obtain ⟨b,e1,e3⟩:=h x DW
  have e4:bw (nmG i) cf ef E ((x :: ys).map enc)=(if b=true then (ef (E.set i (.val (enc x)))).bind (fun y=>(bw (nmG i) cf ef E (ys.map enc)).map fun zs=>y :: zs) else bw (nmG i) cf ef E (ys.map enc)):=by
   show (cf (E.set i (.val (enc x)))).bind _=_
   rw [e1]; rfl
  cases b with
  | true=>exact ⟨x :: zs,by rw [e4,if_pos rfl,e3,h1]; rfl,h2.cons₂ x⟩
  | false=>exact ⟨zs,by rw [e4,if_neg (by simp),h1],h2.cons x⟩
def re (so line:List Str):D:=.tup [.lst (so.map D.str),.lst (line.map D.str)]
structure Row (free words:List Str) (so line:List Str):Prop where
 ne:so ≠ []
 sub:so.Sublist free
 lne:line ≠ []
 lle:line.length≤4
 lsub:∀ w ∈ line,w ∈ words
theorem jY {α:Type}{l:List α}{i:Nat} (h:i < l.length):[l[i]].Sublist l:=List.singleton_sublist.mpr (EM h)
namespace S7
theorem nP (n mostI:Int) (most:Nat) (hmost:mostI=most) (h1m:1≤most) (free words:List Str) (hf:1≤free.length) (hf8:free.length≤8) (hlow:∀ x ∈ free,jE x) (hw:1≤words.length) (hw8:words.length≤100) :
  wp (g__Lby_digits [.int n,.lst (free.map D.str),.lst (words.map D.str),.int mostI]) fun d=>∃ so line,d=re so line∧Row free words so line∧so.length≤most:=by
 have hfI:(0:Int) < (free.length:Int):=by omega
 have hfb:(free.length:Int)≤10 ^ 200:=by omega
 have hwI:(0:Int) < (words.length:Int):=by omega
 have hwb:(words.length:Int)≤10 ^ 200:=by omega
 have fin:∀ (n':Int) (so:List Str) (s5:Sl),so ≠ []→so.Sublist free→so.length≤most→wp (((aq (az 6 (bin aM (cst (.int 1)) (bin bC (aa 0) (cst (.int 4)))))
   (aq (az 0 (bin bS (aa 0) (cst (.int 4))))
   (aq (bL 7 (bf ah))
   (aq (cD (c4 (ac (var 6) ah)) (nmG 8)
   (aq (cm 7 (bin ixE (aa 2) (bin bC (aa 0) (un bj (aa 2)))))
   (az 0 (bin bS (aa 0) (un bj (aa 2))))))
   (fun E=>(fun E=>(aH (e8 (ac (var 4) (ac (var 7) ah)))) (fzE 4 E)) (fzE 7 E))))))) [Sl.val (D.int n'),Sl.val (D.lst (free.map D.str)),Sl.val (D.lst (words.map D.str)),Sl.val (D.int mostI),Sl.own (D.lst (so.map D.str)),s5,Sl.no,Sl.no,Sl.no])
   (qm fun d=>∃ so line,d=re so line∧Row free words so line∧so.length≤most):=by
  intro n' so s5 h1 h2 h3
  have b0:0≤n' % 4:=by omega
  have b1:n' % 4 < 4:=by omega
  generalize hb:n' % 4=bI at b0 b1
  obtain ⟨b,hbb⟩:∃ b:Nat,bI=b:=⟨bI.toNat,by omega⟩
  have hr2:df [D.int (1 + bI)]=some ((List.range (1 + b)).map fun i:Nat=>D.int (0 + (i:Int))):=by rw [bT (by omega) (by omega),show (1 + bI).toNat=1 + b by omega]; rfl
  simp only [ad,ax,aj,az,bL,bA,aH,bin,cst,var,aa,ac,ah,e8,bf,bR,aU,bc,DA,DC,DH,DD,DF,on,DB,reduceIte,Int.reduceLT,Int.reduceLE,Int.reducePow,Nat.reduceLeDiff,aG,aR,hb,hr2]
  refine bz (fun i:Nat=>D.int (0 + (i:Int))) (List.range (1 + b)) (fun pr E=>∃ (c3:Int) (l:List Str) (s8:Sl),E=[Sl.val (D.int c3),Sl.val (D.lst (free.map D.str)),Sl.val (D.lst (words.map D.str)),Sl.val (D.int mostI),Sl.own (D.lst (so.map D.str)),s5,Sl.val (D.int (1 + bI)),Sl.own (D.lst (l.map D.str)),s8]∧l.length=pr.length∧∀ x ∈ l,x ∈ words) rfl ⟨_,[],_,rfl,rfl,fun x hx=>by cases hx⟩ ?_ ?_
  ·rintro pr k po E hk ⟨c3,l,s8,rfl,hl,hlw⟩
   obtain ⟨hk1,hk2⟩:=dE hk
   have y0:0≤c3 % (words.length:Int):=Fq _ (by omega)
   have y1:c3 % (words.length:Int) < (words.length:Int):=FI _ hwI
   have hlt:(c3 % (words.length:Int)).toNat < words.length:=by omega
   have hat:atI (words.map D.str) (c3 % (words.length:Int))=some (.str words[(c3 % (words.length:Int)).toNat]):=by
    rw [iV y0 (by rw [DP]; exact y1),DX,DN hlt]; rfl
   have yes:l.length < 16777216:=by omega
   simp only [ad,ax,aj,az,bin,un,aa,nmG,aU,bc,DA,DC,DD,DF,on,DB,reduceIte,d5,cz,bH,cm,DP,aU hwI,bc hwI hwb,hat,d5 yes]
   refine ⟨_,l ++ [words[(c3 % (words.length:Int)).toNat]],_,by rw [iD],by simp [hl],fun x hx=>?_⟩
   rcases List.mem_append.mp hx with hx | hx
   ·exact hlw x hx
   ·rw [List.mem_singleton.mp hx]; exact EM hlt
  ·rintro E ⟨c3,l,s8,rfl,hl,hlw⟩
   rw [D1] at hl
   simp only [ad,aj,aO,DA,DC,DG,DH,DD,DF,on,DB,reduceIte,Nat.reduceAdd,Nat.reduceLeDiff,aR,fzE]
   exact ⟨so,l,rfl,⟨h1,h2,fun e=>by rw [e] at hl; simp at hl; omega,by omega,hlw⟩,h3⟩
 simp only [g__Lby_digits,b__Lby_digits]
 generalize hK:aq (az 6 _) _=K at fin ⊢
 simp only [ad,aZ,ax,aj,bL,bA,var,ah,bf,bg,aL,DA,DC,DI,DJ,DK,DL,DG,DH,DD,DF,on,DB,List.replicate,reduceIte,Nat.reduceAdd,Nat.reduceSub,Nat.reduceLeDiff,aR]
 refine bz D.str free (fun pr E=>∃ (n':Int) (so:List Str) (s5:Sl),E=[Sl.val (D.int n'),Sl.val (D.lst (free.map D.str)),Sl.val (D.lst (words.map D.str)),Sl.val (D.int mostI),Sl.own (D.lst (so.map D.str)),s5,Sl.no,Sl.no,Sl.no]∧so.Sublist pr∧so.length≤most) rfl ⟨n,[],_,rfl,.slnil,Ex _⟩ ?_ ?_
 ·rintro pr x po E hs ⟨n',so,s5,rfl,hsub,hle⟩
  have hl:so.length≤8:=by
   have h1:=hsub.length_le
   have h2:pr.length≤free.length:=by rw [hs]; simp
   omega
  have yes:so.length < 16777216:=by omega
  simp only [ad,aN,ax,bF,bin,un,cst,aa,tst,asB,gu,nmG,aU,c_,DA,DD,DF,on,DB,Int.reduceLT,cV,bH,DP]
  by_cases h1:n' % 2=1
  ·simp only [ad,reduceIte,Ek h1]
   refine cU (fun h=>?_) fun h=>?_
   ·simp only [ad,aj,az,bin,cst,var,aa,bc,DA,DC,DD,DF,on,DB,reduceIte,Int.reduceLT,Int.reduceLE,Int.reducePow,d5,cm,DP,d5 yes]
    exact ⟨_,so ++ [x],_,by rw [iD],hsub.append (List.Sublist.refl _),by simp; omega⟩
   ·simp only [ad,aj,az,br,bin,cst,aa,bc,DA,DC,DD,on,Int.reduceLT,Int.reduceLE,Int.reducePow]
    exact ⟨_,so,_,rfl,hsub.trans (List.sublist_append_left _ _),hle⟩
  ·simp only [ad,aj,az,cb,br,bin,cst,aa,bc,DA,DC,DD,on,reduceIte,Int.reduceLT,Int.reduceLE,Int.reducePow,Ed,D5 h1]
   exact ⟨_,so,_,rfl,hsub.trans (List.sublist_append_left _ _),hle⟩
 ·rintro E ⟨n',so,s5,rfl,hsub,hle⟩
  have hq0:=mw (ss:=so) fun x hx=>hlow x (hsub.subset hx)
  simp only [ad,ax,aj,bF,bin,aa,tst,asB,ah,bf,DA,DH,on,DB,reduceIte,Nat.reduceLeDiff,aR,hq0]
  refine cU (fun h=>?_) fun h=>?_
  ·have x0:0≤n' % (free.length:Int):=Fq _ (by omega)
   have x1:n' % (free.length:Int) < (free.length:Int):=FI _ hfI
   have hlt:(n' % (free.length:Int)).toNat < free.length:=by omega
   have hat:atI (free.map D.str) (n' % (free.length:Int))=some (.str free[(n' % (free.length:Int)).toNat]):=by
    rw [iV x0 (by rw [DP]; exact x1),DX,DN hlt]; rfl
   simp only [ad,ax,aj,az,bL,bin,un,aa,ac,ah,bf,aU,bc,DA,DC,DG,DH,DD,DF,on,DB,reduceIte,Nat.reduceAdd,Nat.reduceLeDiff,aR,cz,bH,DP,aU hfI,bc hfI hfb,hat]
   exact fin _ [free[(n' % (free.length:Int)).toNat]] _ (by simp) (jY hlt) (by simpa using h1m)
  ·simp only [ad,aj,br]
   exact fin _ so _ h hsub hle
end S7
theorem xT {so free:List Str} (h:so.Sublist free) (r:free.Pairwise ltS):so.Pairwise ltS:=r.sublist h
theorem kN (ss:List Str):zQ (.lst (ss.map D.str))=true:=by
 show (ss.map D.str).all c9=true
 rw [Gr]
 intro d hd
 obtain ⟨x,_,rfl⟩:=List.mem_map.mp hd
 rfl
theorem CS:Str.ofString "a" = mk [97]:=by decide
theorem CP:Str.ofString "b" = mk [98]:=by decide
theorem C2:Wd 8 (mk [97]):=Wd.mk' (by decide) (by decide) fun c hc=>by rw [List.mem_singleton.mp hc]; omega
theorem C1:Wd 8 (mk [98]):=Wd.mk' (by decide) (by decide) fun c hc=>by rw [List.mem_singleton.mp hc]; omega
theorem CQ:mk [97] ≠ mk [98]:=fun h=>by have:=wy.mp h; simp at this
end L2.Cu
namespace L2.Cu.S9
open PySem PySem.Spec PyProof.Rows L2.Cu.S7
def b__Lnames:DE→Option Out :=
 (aq (az 1 (cst (.str "abcdefghijklmnopqrstuvwxyz")))
 (aq (az 2 (bin kF (cst (.str "")) (aE [5] (c4 (ac (cst (.int 7)) ah)) (nmG 5) noT (bin ixE (aa 1) (ay 3 g__Lspin (ac (var 0) (ac (bin aM (cst (.int 3)) (aa 5)) (ac (cst (.int 26)) ah))))))))
 (aq (ifS (tst (bin eqO (bin bC (aa 0) (cst (.int 3))) (cst (.int 0))))
 (aH (aE [5] (c4 (ac (cst (.int 5)) ah)) (nmG 5) noT (aY (aa 2) noP (be (bin aM (aa 5) (cst (.int 1)))))))
 br)
 (aq (ifS (tst (bin eqO (bin bC (aa 0) (cst (.int 3))) (cst (.int 1))))
 (aH (aE [5] (c4 (ac (cst (.int 5)) ah)) (nmG 5) noT (aY (aa 2) (be (var 5)) noP)))
 br)
 (aq (az 3 (bin bC (bin bS (aa 0) (cst (.int 3))) (cst (.int 7))))
 (aq (az 4 (bin bC (bin bS (aa 0) (cst (.int 21))) (cst (.int 26))))
 (aH (aE [5] (c4 (ac (cst (.int 5)) ah)) (nmG 5) noT (bin aM (bin aM (aY (aa 2) noP (be (var 3))) (bin ixE (aa 1) (bin bC (bin aM (aa 4) (bin fJ (cst (.int 3)) (aa 5))) (cst (.int 26))))) (aY (aa 2) (be (bin aM (aa 3) (cst (.int 1)))) noP))))))))))
def g__Lnames:List D→Option D:=bV 1 6 b__Lnames
def b__Lby_spin:DE→Option Out :=
 (aq (az 3 (aY (aE [4] (c4 (ac (un bj (aa 1)) ah)) (nmG 4) (tst (bin eqO (ay 3 g__Lspin (ac (var 0) (ac (var 4) (ac (cst (.int 4)) ah)))) (cst (.int 0)))) (bin ixE (aa 1) (aa 4))) noP (be (cst (.int 3)))))
 (aq (ifS (tst (bin eqO (aa 3) (bf ah)))
 (az 3 (bf (ac (bin ixE (aa 1) (bin bC (bin bS (aa 0) (cst (.int 11))) (un bj (aa 1)))) ah)))
 br)
 (aH (e8 (ac (var 3) (ac (aE [4] (c4 (ac (bin aM (cst (.int 1)) (bin bC (bin bS (aa 0) (cst (.int 5))) (cst (.int 4)))) ah)) (nmG 4) noT (bin ixE (aa 2) (ay 3 g__Lspin (ac (var 0) (ac (bin aM (cst (.int 40)) (aa 4)) (ac (un bj (aa 2)) ah)))))) ah))))))
def g__Lby_spin:List D→Option D:=bV 3 5 b__Lby_spin
def b__Lplay:DE→Option Out :=
 (aq (bL 3 (jx 1 g__Lnames (ac (ay 2 g__Lcell (ac (var 0) (ac (var 1) ah))) ah)))
 (aq (az 4 (ay 1 g__Lvocabulary (ac (ay 2 g__Lcell (ac (var 0) (ac (bin aM (aa 1) (cst (.int 1))) ah))) ah)))
 (aq (az 5 (bin eqO (bin bC (bin bS (ay 2 g__Lcell (ac (var 0) (ac (cst (.int 0)) ah))) (cst (.int 1000))) (cst (.int 2))) (cst (.int 1))))
 (aq (ifS (tst (var 5))
 (aq (bL 3 (jx 3 g__Ltexts (ac (ay 2 g__Llong (ac (var 0) (ac (var 1) ah))) (ac (cst (.int 5)) (ac (cst (.int 8)) ah)))))
 (aq (az 4 (ay 3 g__Ltexts (ac (bin bS (ay 2 g__Llong (ac (var 0) (ac (bin aM (aa 1) (cst (.int 1))) ah))) (cst (.int 8))) (ac (bin aM (cst (.int 1)) (bin bC (ay 2 g__Llong (ac (var 0) (ac (bin aM (aa 1) (cst (.int 1))) ah))) (cst (.int 8)))) (ac (cst (.int 12)) ah)))))
 (ifS (tst (bin eqO (un bj (aa 3)) (cst (.int 1))))
 (cm 3 (bin ixE (bf (ac (cst (.str "a")) (ac (cst (.str "b")) ah))) (un uA (bin eqO (bin ixE (aa 3) (cst (.int 0))) (cst (.str "a"))))))
 br)))
 br)
 (aq (bL 6 (bf ah))
 (aq (az 7 (bf ah))
 (aq (cD (bg aL (aY (aa 0) (be (bin aM (aa 1) (cst (.int 2)))) (be (bin aM (bin aM (aa 1) (cst (.int 2))) (aa 2))))) (nmG 8)
 (aq (fun E=>(az 9 (un lV (aE [11] (bg aL (var 3)) (nmG 11) (tst (bin nr (aa 11) (aa 7))) (var 11)))) (fzE 3 E))
 (aq (dU (ay 3 g__Lby_spin (ac (bin bC (aa 8) (bin e9 (cst (.int 10)) (cst (.int 18)))) (ac (var 9) (ac (var 4) ah)))) (cK 2 (aQ (nmG 7) (aQ (nmG 10) cL))))
 (aq (ifS (tst (var 5))
 (dU (ay 4 g__Lby_digits (ac (bin bC (aa 8) (bin e9 (cst (.int 10)) (cst (.int 18)))) (ac (var 9) (ac (var 4) (ac (bin cX (un bj (aa 3)) (cst (.int 1))) ah))))) (cK 2 (aQ (nmG 7) (aQ (nmG 10) cL))))
 br)
 (cm 6 (e8 (ac (un bx (aa 7)) (ac (un bx (aa 10)) ah))))))))
 (aH (un bx (aa 6))))))))))
def g__Lplay:List D→Option D:=bV 3 12 b__Lplay
end L2.Cu.S9
namespace L2.Cu
open PySem PySem.Spec PyProof.Rows
namespace S9
open L2.Cu.S7
theorem wl (c:Int):wp (g__Lnames [.int c]) fun d=>∃ ss:List Str,d=.lst (ss.map D.str)∧ss.length=5∧ss.Nodup∧∀ x ∈ ss,Wd 8 x:=by
 have fin:∀ f:Nat→List Nat,(∀ i j,i < 5→j < 5→f i=f j→i=j)→(∀ i,i < 5→1≤(f i).length∧(f i).length≤8∧vd (f i))→∃ ss:List Str,D.lst ((List.range 5).map fun k=>D.str (mk (f k)))=.lst (ss.map D.str)∧ss.length=5∧ss.Nodup∧∀ x ∈ ss,Wd 8 x:=fun f h1 h2 =>
  ⟨(List.range 5).map fun k=>mk (f k),by rw [D7]; rfl,by simp,o6 _ 5 fun i j hi hj e=>h1 i j hi hj (wy.mp e),fun x hx=>by
   obtain ⟨k,hk,rfl⟩:=List.mem_map.mp hx
   obtain ⟨a,b,c⟩:=h2 k (List.mem_range.mp hk)
   exact Wd.mk' a b c⟩
 have hr:df [D.int 5]=some (bQ 0 5):=bT (by omega) (by omega)
 have hrl:(bQ 0 5).length≤16777216:=by simp [bQ]
 have hr7:df [D.int 7]=some (bQ 0 7):=bT (by omega) (by omega)
 have hrl7:(bQ 0 7).length≤16777216:=by simp [bQ]
 simp only [g__Lnames,b__Lnames,ad,aN,cc,aZ,ax,aj,az,bF,bin,cst,aa,tst,asB,ac,ah,bR,aX,aE,aU,DA,DC,DI,DJ,DK,DL,DG,DH,DD,DF,on,List.replicate,DM,D8,reduceIte,Nat.reduceAdd,Nat.reduceSub,Int.reduceLT,cV,aR,lr,k8,hr7,aR hrl7]
 obtain ⟨cs,hcs,hcl,hlow⟩:=kB 7 3 c (by omega) (E:=[Sl.val (D.int c),Sl.val (D.str (mk (List.range' 97 26))),Sl.no,Sl.no,Sl.no,Sl.no]) (sl:=5) (f:=bin ixE (aa 1) (ay 3 g__Lspin (ac (var 0) (ac (bin aM (cst (.int 3)) (aa 5)) (ac (cst (.int 26)) ah))))) fun k hk r r0 r1 hd=>by
  have hd':g__Lspin [.int c,.int (3 + (0 + (k:Int))),.int 26]=some (.int r):=hd
  refine bv ?_
  simp only [ad,bin,cst,var,aa,ay,ac,ah,DA,DC,DG,DH,DD,DF,on,DB,reduceIte,Nat.reduceAdd,aG,hd',fQ r0 r1]
 simp only [hcs,ad,iI cs (by omega)]
 have hz:cs.length≤16777216:=by omega
 have a0:0≤c / 3 % 7:=by omega
 have a1:c / 3 % 7 < 7:=by omega
 generalize haI:c / 3 % 7=aI at a0 a1
 obtain ⟨at',hat⟩:∃ at':Nat,aI=at':=⟨aI.toNat,by omega⟩
 refine cU (fun h=>?_) fun h=>?_
 ·simp only [cc,fZ,aO,aH,cst,ac,ah,bR,aX,aE,DA,DC,DD,DF,DM,D8,reduceIte,aR,hr,aR hrl]
  rw [show bQ 0 5=(List.range 5).map (fun i:Nat=>D.int (0 + i)) from rfl,bM (fun i:Nat=>D.int (0 + i)) (fun k=>D.str (mk (cs.take (k + 1)))) (List.range 5) fun k hk=>?_]
  ·simp only [ad]
   refine fin _ (fun i j hi hj e=>?_) fun i hi=>⟨by simp; omega,by simp; omega,fun c hc=>hlow c (EV hc)⟩
   have:=ED List.length e
   simp at this
   omega
  ·refine bv ?_
   simp only [ad,bin,cst,aa,noP,be,aY,DA,DD,DF,on,DB,aG,jX hz]
   rw [show (0:Int) + (k:Nat) + 1=((k + 1:Nat):Int) by omega,la]
 ·simp only [ad,ax,aj,bF,br,bin,cst,aa,tst,asB,aU,DA,on,Int.reduceLT,cV]
  refine cU (fun h2=>?_) fun h2=>?_
  ·simp only [cc,fZ,aO,aH,cst,ac,ah,bR,aX,aE,DA,DC,DD,DF,DM,D8,reduceIte,aR,hr,aR hrl]
   rw [show bQ 0 5=(List.range 5).map (fun i:Nat=>D.int (0 + i)) from rfl,bM (fun i:Nat=>D.int (0 + i)) (fun k=>D.str (mk (cs.drop k))) (List.range 5) fun k hk=>?_]
   ·simp only [ad]
    refine fin _ (fun i j hi hj e=>?_) fun i hi=>⟨by simp; omega,by simp; omega,fun c hc=>hlow c (EW hc)⟩
    have:=ED List.length e
    simp at this
    omega
   ·refine bv ?_
    simp only [ad,var,aa,noP,be,aY,DA,DD,DF,on,DB,jX hz]
    rw [show (0:Int) + (k:Nat)=((k:Nat):Int) by omega,iU]
  ·simp only [ad,cc,ax,aj,aO,az,aH,br,bin,cst,aa,ac,ah,bR,aX,aE,aU,bc,DA,DC,DD,DF,on,DM,D8,reduceIte,Int.reduceLT,Int.reduceLE,Int.reducePow,aR,haI,hr,aR hrl]
   generalize c / 21 % 26=fI
   rw [show bQ 0 5=(List.range 5).map (fun i:Nat=>D.int (0 + i)) from rfl,bM (fun i:Nat=>D.int (0 + i)) (fun k:Nat=>D.str (mk (cs.take at' ++ [97 + ((fI + 3 * (k:Int)) % 26).toNat] ++ cs.drop (at' + 1)))) (List.range 5) fun k hk=>?_]
   ·simp only [ad]
    refine fin _ (fun i j hi hj e=>?_) fun i hi=>⟨by simp; omega,by simp; omega,fun c hc=>?_⟩
    ·have e1:=List.append_cancel_right e
     have e2:=List.append_cancel_left e1
     injection e2 with e3
     omega
    ·simp only [List.mem_append] at hc
     rcases hc with (hc | hc) | hc
     ·exact hlow c (EV hc)
     ·rw [List.mem_singleton.mp hc]; omega
     ·exact hlow c (EW hc)
   ·have hk':=List.mem_range.mp hk
    refine bv ?_
    have m1:=eU (i:=3) (j:=0 + (k:Int)) (by omega) (by omega)
    rw [EN] at m1
    have h0:0≤(fI + 3 * (k:Int)) % 26:=by omega
    have h1:(fI + 3 * (k:Int)) % 26 < 26:=by omega
    simp only [aN,bin,cst,var,aa,noP,be,aY,aU,DA,DD,DF,on,DB,Int.reduceLT,aG,EN,m1,jX hz,fQ h0 h1]
    rw [hat,show (at':Int) + 1=((at' + 1:Nat):Int) by omega,la,iU]
    rw [jN (by simp; omega)]
    simp only [ad]
    rw [jN (by simp; omega)]
    simp only [ad]
theorem rf (c:Int) (free words:List Str) (hf:1≤free.length) (hf8:free.length≤8) (hlow:∀ x ∈ free,jE x) (hw:1≤words.length) :
  wp (g__Lby_spin [.int c,.lst (free.map D.str),.lst (words.map D.str)]) fun d=>∃ so line,d=re so line∧Row free words so line∧so.length≤3:=by
 have hr:df [D.int (free.length:Int)]=some ((List.range free.length).map fun i:Nat=>D.int (0 + (i:Int))):=by
  rw [bT (by omega) (by omega),Ey]; rfl
 have hfI:(0:Int) < (free.length:Int):=by omega
 obtain ⟨zs,hzs,hzsub⟩:=lb (fun i:Nat=>D.int (0 + (i:Int))) (fun k:Nat=>D.str (free.getD k (mk []))) (i:=4) (cf:=tst (bin eqO (ay 3 g__Lspin (ac (var 0) (ac (var 4) (ac (cst (.int 4)) ah)))) (cst (.int 0)))) (ef:=bin ixE (aa 1) (aa 4))
  (E:=[Sl.val (D.int c),Sl.val (D.lst (free.map D.str)),Sl.val (D.lst (words.map D.str)),Sl.no,Sl.no]) (List.range free.length) fun k hk=>by
  have hk':=List.mem_range.mp hk
  obtain ⟨d,hd,r,rfl,r0,r1⟩:=cp.mp (jF c (0 + (k:Int)) 4 (by omega) (by omega) (by omega))
  refine ⟨decide (r=0),?_,?_⟩
  ·refine bv ?_
   simp only [ad,bin,cst,var,tst,asB,ay,ac,ah,DA,DC,DG,DH,DD,DF,on,DB,reduceIte,Nat.reduceAdd,cV,hd]
  ·refine bv ?_
   simp only [bin,aa,DA,DD,DF,on,DB,cz,EN,dL]
   rw [DX,D3,DN hk']; rfl
 have hmp:zs.map (fun k:Nat=>D.str (free.getD k (mk [])))=(zs.map fun k=>free.getD k (mk [])).map D.str:=by rw [D7]; rfl
 have hsub:(zs.map fun k=>free.getD k (mk [])).Sublist free:=by
  have h1:=hzsub.map (fun k=>free.getD k (mk []))
  have h2:(List.range free.length).map (fun k=>free.getD k (mk []))=free:=by
   apply List.ext_getElem
   ·simp
   ·intro i h1 h2
    rw [List.getElem_map,F9,D3,DN h2]; rfl
  rwa [h2] at h1
 rw [hmp] at hzs
 generalize (zs.map fun k=>free.getD k (mk []))=s1 at hzs hsub
 have hcut:cY (s1.map D.str) none (some 3)=(s1.take 3).map D.str:=by
  rw [show (3:Int)=((3:Nat):Int) by omega,la,FH]
 have hs1l:=hsub.length_le
 have b0:0≤c / 5 % 4:=by omega
 have b1:c / 5 % 4 < 4:=by omega
 generalize hb:c / 5 % 4=bI at b0 b1
 obtain ⟨b,hbb⟩:∃ b:Nat,bI=b:=⟨bI.toNat,by omega⟩
 have hr2:df [D.int (1 + bI)]=some (bQ 0 (1 + b)):=by rw [bT (by omega) (by omega),show (1 + bI).toNat=1 + b by omega]
 have hrl2:(bQ 0 (1 + b)).length≤16777216:=by simp [bQ]; omega
 have fin:∀ so:List Str,so ≠ []→so.Sublist free→so.length≤3→wp ((aH (e8 (ac (var 3) (ac (aE [4] (c4 (ac (bin aM (cst (.int 1)) (bin bC (bin bS (aa 0) (cst (.int 5))) (cst (.int 4)))) ah)) (nmG 4) noT (bin ixE (aa 2) (ay 3 g__Lspin (ac (var 0) (ac (bin aM (cst (.int 40)) (aa 4)) (ac (un bj (aa 2)) ah)))))) ah)))) [Sl.val (D.int c),Sl.val (D.lst (free.map D.str)),Sl.val (D.lst (words.map D.str)),Sl.val (D.lst (so.map D.str)),Sl.no])
   (qm fun d=>∃ so line,d=re so line∧Row free words so line∧so.length≤3):=by
  intro so h1 h2 h3
  obtain ⟨line,hline,hll,hlm⟩:=S8.line_ok (1 + b) 40 c (by omega) words hw (E:=[Sl.val (D.int c),Sl.val (D.lst (free.map D.str)),Sl.val (D.lst (words.map D.str)),Sl.val (D.lst (so.map D.str)),Sl.no]) (sl:=4)
   (f:=bin ixE (aa 2) (ay 3 g__Lspin (ac (var 0) (ac (bin aM (cst (.int 40)) (aa 4)) (ac (un bj (aa 2)) ah))))) fun k hk r r0 r1 hd=>by
    have hd':g__Lspin [.int c,.int (40 + (0 + (k:Int))),.int (words.length:Int)]=some (.int r):=hd
    simp only [bin,un,cst,var,aa,ay,ac,ah,DA,DC,DG,DH,DD,DF,on,DB,reduceIte,Nat.reduceAdd,aG,cz,bH,DP,hd']
  simp only [ad,aO,aH,bin,cst,var,aa,ac,ah,e8,bR,aX,aE,aU,bc,DA,DC,DG,DH,DD,DF,on,DB,DM,D8,reduceIte,Nat.reduceAdd,Int.reduceLT,Int.reduceLE,Int.reducePow,Nat.reduceLeDiff,aG,aR,hb,hr2,aR hrl2,hline]
  exact ⟨so,line,rfl,⟨h1,h2,fun e=>by rw [e] at hll; simp at hll; omega,by omega,hlm⟩,h3⟩
 simp only [g__Lby_spin,b__Lby_spin,aN,cc,aZ,ax,aj,az,bF,bin,un,cst,aa,tst,asB,ac,ah,bf,bR,noP,be,aY,aX,aE,DA,DC,DI,DJ,DK,DL,DG,DH,DD,DF,on,DB,List.replicate,DM,D8,reduceIte,Nat.reduceAdd,Nat.reduceSub,Nat.reduceLeDiff,aR,bH,DP,hr,D1]
 refine eM (lS (by omega)) ?_
 rw [hzs]
 have hq0:=mw (ss:=s1.take 3) fun x hx=>hlow x (hsub.subset (EV hx))
 have x0:0≤c / 11 % (free.length:Int):=Fq _ (by omega)
 have x1:c / 11 % (free.length:Int) < (free.length:Int):=FI _ hfI
 have hlt:(c / 11 % (free.length:Int)).toNat < free.length:=by omega
 have hat:atI (free.map D.str) (c / 11 % (free.length:Int))=some (.str free[(c / 11 % (free.length:Int)).toNat]):=by
  rw [iV x0 (by rw [DP]; exact x1),DX,DN hlt]; rfl
 simp only [DC,ad,ix,un,bin,noP,be,aY,DA,ay,ac,ah,var,aa,cst,tst,asB,aG,on,DB,DG,DH,Nat.reduceAdd,reduceIte,hcut,aj,az,DF,DD,ax,bF,bf,DJ,hq0,aN]
 refine cU (fun h=>?_) fun h=>?_
 ·simp only [ad,DC,aj,az,bin,un,cst,var,aa,bf,ac,ah,DA,on,DB,DF,DD,bc,aU hfI,bH,DP,cz,hat,ad,aN,cc,aj,aO,az,aH,bin,un,cst,var,aa,ac,ah,e8,bf,bR,aX,aE,aU,bc,DA,DC,DG,DH,DD,DF,on,DB,DM,D8,reduceIte,Nat.reduceAdd,Int.reduceLT,Int.reduceLE,Int.reducePow,Nat.reduceLeDiff,aG,aR,cz,bH]
  have z:=fin [free[(c / 11 % (free.length:Int)).toNat]] (by simp) (jY hlt) (by simp)
  simp only [ad,aN,cc,aO,aH,bin,cst,var,aa,ac,ah,e8,bR,aX,aE,aU,bc,DA,DC,DI,DJ,DG,DH,DD,DF,on,DB,DM,D8,reduceIte,Nat.reduceAdd,Int.reduceLT,Int.reduceLE,Int.reducePow,Nat.reduceLeDiff,aG,aR] at z
  exact z
 ·simp only [br,ad,aj]
  exact fin _ h ((List.take_sublist _ _).trans hsub) (by rw [EL]; omega)
def wb:DE→Option Out :=
 (aq (fun E=>(az 9 (un lV (aE [11] (bg aL (var 3)) (nmG 11) (tst (bin nr (aa 11) (aa 7))) (var 11)))) (fzE 3 E))
 (aq (dU (ay 3 g__Lby_spin (ac (bin bC (aa 8) (bin e9 (cst (.int 10)) (cst (.int 18)))) (ac (var 9) (ac (var 4) ah)))) (cK 2 (aQ (nmG 7) (aQ (nmG 10) cL))))
 (aq (ifS (tst (var 5))
 (dU (ay 4 g__Lby_digits (ac (bin bC (aa 8) (bin e9 (cst (.int 10)) (cst (.int 18)))) (ac (var 9) (ac (var 4) (ac (bin cX (un bj (aa 3)) (cst (.int 1))) ah))))) (cK 2 (aQ (nmG 7) (aQ (nmG 10) cL))))
 br)
 (cm 6 (e8 (ac (un bx (aa 7)) (ac (un bx (aa 10)) ah)))))))
theorem yR (cells:List Int) (hc:cells.length≤1000) (names words:List Str) (dg:Bool) (x0:D) (aI mI:Int) (hn:names.Nodup) (hn2:2≤names.length) (hn8:names.length≤8) (hnw:∀ x ∈ names,jE x) (hw:1≤words.length) (hw8:words.length≤100) (hdg:dg=false→4≤names.length) :
  wp (kx (nmG 8) wb (cells.map D.int) [Sl.val x0,Sl.val (D.int aI),Sl.val (D.int mI),Sl.own (D.lst (names.map D.str)),Sl.val (D.lst (words.map D.str)),Sl.val (D.bl dg),Sl.own (D.lst []),Sl.val (D.lst []),Sl.no,Sl.no,Sl.no,Sl.no]) fun r=>∃ E p,r=.nx E∧E[6]? = some (Sl.own (D.lst (p.map de)))∧p.length=cells.length∧nX names words p:=by
 refine bz D.int cells (fun pre E=>∃ (p:List Sp) (s3 s8 s9 s10:Sl),E=[Sl.val x0,Sl.val (D.int aI),Sl.val (D.int mI),s3,Sl.val (D.lst (words.map D.str)),Sl.val (D.bl dg),Sl.own (D.lst (p.map de)),Sl.val (D.lst ((dy p).map D.str)),s8,s9,s10,Sl.no]∧(s3=Sl.own (D.lst (names.map D.str))∨s3=Sl.val (D.lst (names.map D.str)))∧p.length=pre.length∧nX names words p∧(dy p).length < names.length) rfl ?_ ?_ ?_
 ·exact ⟨[],_,_,_,_,rfl,.inl rfl,rfl,⟨fun _ h=>(by cases h),trivial⟩,by show 0 < _; omega⟩
 ·rintro pre c post E hs ⟨p,s3,s8,s9,s10,rfl,hs3,hpl,hgood,hlast⟩
  have hpre:pre.length < cells.length:=by rw [hs]; simp
  have hfz:fzE 3 [Sl.val x0,Sl.val (D.int aI),Sl.val (D.int mI),s3,Sl.val (D.lst (words.map D.str)),Sl.val (D.bl dg),Sl.own (D.lst (p.map de)),Sl.val (D.lst ((dy p).map D.str)),Sl.val (D.int c),s9,s10,Sl.no]=[Sl.val x0,Sl.val (D.int aI),Sl.val (D.int mI),Sl.val (D.lst (names.map D.str)),Sl.val (D.lst (words.map D.str)),Sl.val (D.bl dg),Sl.own (D.lst (p.map de)),Sl.val (D.lst ((dy p).map D.str)),Sl.val (D.int c),s9,s10,Sl.no]:=by
   rcases hs3 with rfl | rfl <;> rfl
  generalize hfr:names.filter (fun n => !decide (n ∈ dy p))=fr0
  have hfsub:∀ n ∈ fr0,n ∈ names∧n ∉ dy p:=fun n hn=>by
   rw [← hfr,List.mem_filter] at hn
   exact ⟨hn.1,by simpa using hn.2⟩
  have hfnd:fr0.Nodup:=by rw [← hfr]; exact hn.filter _
  have hfl:fr0.length≤8:=by rw [← hfr]; exact D6 (GB _ _) hn8
  have hfne:0 < fr0.length:=by
   rcases F8 fr0.length with h0 | h0
   ·exfalso
    have hall:∀ n ∈ names,n ∈ dy p:=fun n hn'=>by
     by_cases hm:n ∈ dy p
     ·exact hm
     ·have:n ∈ fr0:=by rw [← hfr,List.mem_filter]; exact ⟨hn',by simpa using hm⟩
      rw [List.length_eq_zero_iff.mp h0] at this
      cases this
    have:=i8 hn hall
    omega
   ·exact h0
  have hperm:=eN fr0
  have hris:=vC hfnd
  have hfree:∀ n ∈ dA fr0,n ∈ names∧n ∉ dy p:=fun n hn'=>hfsub n (hperm.mem_iff.mp hn')
  have hfl2:(dA fr0).length≤8:=by rw [hperm.length_eq]; exact hfl
  have hfl1:1≤(dA fr0).length:=by rw [hperm.length_eq]; exact hfne
  have hflow:∀ x ∈ dA fr0,jE x:=fun x hx=>hnw x (hfree x hx).1
  have hcomp:bw (nmG 11) (tst (bin nr (aa 11) (aa 7))) (var 11) [Sl.val x0,Sl.val (D.int aI),Sl.val (D.int mI),Sl.val (D.lst (names.map D.str)),Sl.val (D.lst (words.map D.str)),Sl.val (D.bl dg),Sl.own (D.lst (p.map de)),Sl.val (D.lst ((dy p).map D.str)),Sl.val (D.int c),s9,s10,Sl.no] (names.map D.str)=some (fr0.map D.str):=by
   rw [← hfr]
   refine dJ D.str (fun n => !decide (n ∈ dy p)) D.str names fun x hx=>?_
   simp only [ad,bin,var,aa,tst,asB,nmG,DA,DD,DF,on,DB,true_and,Gm,o8]
   exact fun _=>trivial
  have p18:e9 (.int 10) (.int 18)=some (.int (10 ^ 18)):=gZ (by omega) (by omega) (by decide)
  have h18:(0:Int) < 10 ^ 18:=by decide
  have fin:∀ (so line:List Str) (s9:Sl),Row (dA fr0) words so line→so.length < names.length→wp (cm 6 (e8 (ac (un bx (aa 7)) (ac (un bx (aa 10)) ah))) [Sl.val x0,Sl.val (D.int aI),Sl.val (D.int mI),Sl.val (D.lst (names.map D.str)),Sl.val (D.lst (words.map D.str)),Sl.val (D.bl dg),Sl.own (D.lst (p.map de)),Sl.val (D.lst (so.map D.str)),Sl.val (D.int c),s9,Sl.val (D.lst (line.map D.str)),Sl.no]) (fun r=>match r with | .nx E'=>∃ (p:List Sp) (s3 s8 s9 s10:Sl),E'=[Sl.val x0,Sl.val (D.int aI),Sl.val (D.int mI),s3,Sl.val (D.lst (words.map D.str)),Sl.val (D.bl dg),Sl.own (D.lst (p.map de)),Sl.val (D.lst ((dy p).map D.str)),s8,s9,s10,Sl.no]∧(s3=Sl.own (D.lst (names.map D.str))∨s3=Sl.val (D.lst (names.map D.str)))∧p.length=(pre ++ [c]).length∧nX names words p∧(dy p).length < names.length | .ct E'=>∃ (p:List Sp) (s3 s8 s9 s10:Sl),E'=[Sl.val x0,Sl.val (D.int aI),Sl.val (D.int mI),s3,Sl.val (D.lst (words.map D.str)),Sl.val (D.bl dg),Sl.own (D.lst (p.map de)),Sl.val (D.lst ((dy p).map D.str)),s8,s9,s10,Sl.no]∧(s3=Sl.own (D.lst (names.map D.str))∨s3=Sl.val (D.lst (names.map D.str)))∧p.length=(pre ++ [c]).length∧nX names words p∧(dy p).length < names.length | _=>False):=by
   intro so line s9 hrow hlt
   have yes:p.length < 16777216:=by omega
   have hdisj:∀ n ∈ dy p,n ∉ so:=fun n hn' hm=>(hfree n (hrow.sub.subset hm)).2 hn'
   simp only [ad,un,aa,ac,ah,e8,DA,DC,DG,DH,DD,DF,on,DB,reduceIte,Nat.reduceAdd,Nat.reduceLeDiff,aR,d5,cm,bP,DP,d5 yes]
   refine ⟨p ++ [(so,line)],_,_,_,_,by rw [kC,Ej]; rfl,.inr rfl,by simp [hpl],⟨fun s hs'=>?_,?_⟩,?_⟩
   ·rcases List.mem_append.mp hs' with z | z
    ·exact hgood.each s z
    ·rw [List.mem_singleton.mp z]
     exact ⟨hrow.ne,E4 hlt,.inl hlt,fun n hn'=>(hfree n (hrow.sub.subset hn')).1,xT hrow.sub hris,hrow.lne,(by show line.length≤5; have:=hrow.lle; omega),hrow.lsub⟩
   ·refine hgood.apart.snoc fun a ha n hn'=>?_
    have:dy p=a.1:=by unfold dy; rw [ha]; rfl
    exact hdisj n (by rw [this]; exact hn')
   ·rw [kC]; exact hlt
  have hnl:names.length≤16777216:=by omega
  simp only [nmG,ad,DF,DD,wb,ax]
  rw [hfz]
  simp only [ad,aN,cc,ax,aj,az,bF,bin,un,cst,var,aa,tst,asB,ay,ac,ah,bg,nmG,cK,aQ,cL,aX,aE,aU,aL,DA,DC,DG,DH,DD,DF,on,DB,DM,D8,reduceIte,Nat.reduceAdd,Int.reduceLT,Int.reducePow,aR,dU,DP,aR hnl,hcomp,tF (show fr0.length < 64 by omega),p18]
  refine eh (rf _ _ _ hfl1 hfl2 hflow hw) ?_
  rintro _ ⟨so,line,rfl,hrow,hle⟩
  cases dg with
  | false =>
   have z:=fin so line (Sl.val (D.lst ((dA fr0).map D.str))) hrow (by have:=hdg rfl; omega)
   simp only [ad,aj,cb,br,un,aa,ac,ah,e8,DA,DC,DG,DH,DD,DF,on,DB,reduceIte,Nat.reduceAdd,Nat.reduceLeDiff,aR,cm,bP,re] at z ⊢
   exact z
  | true =>
   simp only [ad,aN,cc,aj,eX,bin,un,cst,var,aa,ay,ac,ah,e8,nmG,cK,aQ,cL,ce,aU,gZ,DA,DC,DG,DH,DD,DF,on,DB,reduceIte,Nat.reduceAdd,Int.reduceLT,Int.reduceLE,Int.reducePow,Int.reduceToNat,Int.reduceAbs,Nat.reducePow,Nat.reduceLT,bH,cm,dU,re,DP]
   refine eh (nP _ ((names.length:Int) - 1) (names.length - 1) (by omega) (by omega) _ _ hfl1 hfl2 hflow hw hw8) ?_
   rintro _ ⟨so2,line2,rfl,hrow2,hle2⟩
   have z:=fin so2 line2 (Sl.val (D.lst ((dA fr0).map D.str))) hrow2 (by omega)
   simp only [ad,un,aa,ac,ah,e8,DA,DC,DG,DH,DD,DF,on,DB,reduceIte,Nat.reduceAdd,Nat.reduceLeDiff,aR,cm,bP,re] at z ⊢
   exact z
 ·rintro E ⟨p,s3,s8,s9,s10,rfl,hs3,hpl,hgood,hlast⟩
  exact ⟨_,p,rfl,rfl,hpl,hgood⟩
theorem play_ok (ns:List Int) (hlen:ns.length≤63):wp (g__Lplay [.scr ns,.int 2,.int 9]) fun d=>∃ names words p,d=bX p∧p.length≤9∧names.length≤8∧(∀ x ∈ names,Wd 8 x)∧(∀ x ∈ words,Wd 12 x)∧nX names words p:=by
 obtain ⟨_,k2,c2,rfl,_⟩:=cp.mp (cell_ok ns 2 2 rfl)
 obtain ⟨_,k3,c3,rfl,_⟩:=cp.mp (cell_ok ns 3 3 rfl)
 obtain ⟨_,k0,c0,rfl,_⟩:=cp.mp (cell_ok ns 0 0 rfl)
 obtain ⟨_,l2,d2,rfl,_⟩:=cp.mp (r_ ns 2 2 rfl)
 obtain ⟨_,l3,d3,rfl,_⟩:=cp.mp (r_ ns 3 3 rfl)
 obtain ⟨_,hn1,names1,rfl,n1l,n1d,n1w⟩:=cp.mp (wl c2)
 obtain ⟨_,hv1,words1,rfl,v1l,v1l8,v1w⟩:=cp.mp (vk c3)
 have e0:0≤d3 % 8:=by omega
 have e1:d3 % 8 < 8:=by omega
 generalize he:d3 % 8=eI at e0 e1
 obtain ⟨en,hen⟩:∃ en:Nat,eI=en:=⟨eI.toNat,by omega⟩
 obtain ⟨_,hn2,names2,rfl,n2l,n2p,n2d,n2w⟩:=cp.mp (n_ d2 5 8 5 8 rfl rfl (by omega) (by omega) (by omega))
 obtain ⟨_,hv2,words2,rfl,v2l,v2p,v2d,v2w⟩:=cp.mp (n_ (d3 / 8) (1 + eI) 12 (1 + en) 12 (by omega) rfl (by omega) (by omega) (by omega))
 have f1:=kN names1
 have f2:=kN names2
 have hcells:(cY ns (some 4) (some 13)).length≤9:=by
  have:cY ns (some ((4:Nat):Int)) (some ((13:Nat):Int))=(ns.take 13).drop 4:=iT ns 4 13
  have h2:cY ns (some 4) (some 13)=(ns.take 13).drop 4:=this
  rw [h2]; simp; omega
 generalize hcs:cY ns (some 4) (some 13)=cells at hcells
 have last:∀ (names words:List Str) (dg:Bool),names.Nodup→2≤names.length→names.length≤8→(∀ x ∈ names,Wd 8 x)→1≤words.length→words.length≤100→(∀ x ∈ words,Wd 12 x)→(dg=false→4≤names.length) →
   wp (kx (nmG 8) wb (cells.map D.int) [Sl.val (D.scr ns),Sl.val (D.int 2),Sl.val (D.int 9),Sl.own (D.lst (names.map D.str)),Sl.val (D.lst (words.map D.str)),Sl.val (D.bl dg),Sl.own (D.lst []),Sl.val (D.lst []),Sl.no,Sl.no,Sl.no,Sl.no]) (vJ (aH (un bx (aa 6))) (qm fun d=>∃ names words p,d=bX p∧p.length≤9∧names.length≤8∧(∀ x ∈ names,Wd 8 x)∧(∀ x ∈ words,Wd 12 x)∧nX names words p)):=by
  intro names words dg h1 h2 h3 h4 h5 h6 h7 h8
  refine eh (yR cells (by omega) names words dg _ _ _ h1 h2 h3 (fun x hx=>(h4 x hx).lowS) h5 h6 h8) ?_
  rintro _ ⟨E,p,rfl,hE,hpl,hgood⟩
  simp only [ad,aj,aO,aH,un,aa,DA,DC,bP,hE]
  exact ⟨names,words,p,rfl,by omega,h3,h4,h7,hgood⟩
 simp only [g__Lplay,b__Lplay]
 generalize hK:cD _ _ _=K
 simp only [ad,aZ,ax,aj,az,bL,bF,bin,cst,var,aa,tst,asB,ay,ac,ah,aU,bc,DA,DC,DI,DJ,DK,DL,DG,DH,DD,DF,on,DB,List.replicate,reduceIte,Nat.reduceAdd,Nat.reduceSub,Int.reduceLT,Int.reduceLE,Int.reducePow,Int.reduceAdd,and_self,Bool.and_self,aG,cV,jx,k2,k3,k0,hn1,hv1,f1,E_,List.all_nil,c9]
 refine cU (fun h=>?_) fun h=>?_
 ·simp only [ad,ax,aj,az,bL,bF,bin,un,cst,var,aa,tst,asB,ay,ac,ah,aU,bc,DA,DC,DG,DH,DD,DF,on,DB,reduceIte,Nat.reduceAdd,Int.reduceLT,Int.reduceLE,Int.reducePow,Int.reduceAdd,and_self,Bool.and_self,aG,cV,bH,jx,l2,l3,he,hn2,hv2,f2,E_,List.all_nil,c9,DP]
  have tl:∀ names:List Str,names.Nodup→2≤names.length→names.length≤8→(∀ x ∈ names,Wd 8 x)→wp (K [Sl.val (D.scr ns),Sl.val (D.int 2),Sl.val (D.int 9),Sl.own (D.lst (names.map D.str)),Sl.val (D.lst (words2.map D.str)),Sl.val (D.bl (decide (c0 / 1000 % 2=1))),Sl.own (D.lst []),Sl.val (D.lst []),Sl.no,Sl.no,Sl.no,Sl.no]) (vJ (aH (un bx (aa 6))) (qm fun d=>∃ names words p,d=bX p∧p.length≤9∧names.length≤8∧(∀ x ∈ names,Wd 8 x)∧(∀ x ∈ words,Wd 12 x)∧nX names words p)):=by
   intro names h1 h2 h3 h4
   rw [← hK]
   simp only [bA,bg,aY,be,aa,bin,cst,DA,on,DB,aG,rJ,aL,Int.reduceAdd,hcs,aN,ad]
   exact last names words2 _ h1 h2 h3 h4 (v2p (by omega)) (by omega) v2w (fun z=>by rw [Ek h] at z; cases z)
  refine cU (fun h2=>?_) fun h2=>?_
  ·obtain ⟨x,hx⟩:∃ x,names2=[x]:=List.length_eq_one_iff.mp (by omega)
   subst hx
   have hat0:∀ a:D,atI [a] 0=some a:=fun a=>rfl
   have hab0:∀ a b:D,atI [a,b] 0=some a:=fun a b=>rfl
   have hab1:∀ a b:D,atI [a,b] 1=some b:=fun a b=>rfl
   have yes:1 < 16777216:=by omega
   have yes2:(0 + 1:Nat) < 16777216:=by omega
   have wx:=n2w x (by simp)
   by_cases ex:x=mk [97]
   ·have z:=tl [x,mk [98]] (by rw [ex]; simp [CQ]) (by simp) (by simp) (fun y hy=>by
     rcases List.mem_cons.mp hy with rfl | hy
     ·exact wx
     ·rw [List.mem_singleton.mp hy]; exact C1)
    simp only [ad,ax,aj,az,bL,bin,un,cst,aa,ac,ah,bf,DA,DC,DI,DJ,DK,DL,DG,DH,DD,DF,on,DB,Nat.reduceAdd,Nat.reduceLeDiff,nK,aR,d5,cz,cm,uA,hat0,CS,CP,Ek ex,hab1,if_true,d5 yes]
    exact z
   ·have z:=tl [x,mk [97]] (by simp [ex]) (by simp) (by simp) (fun y hy=>by
     rcases List.mem_cons.mp hy with rfl | hy
     ·exact wx
     ·rw [List.mem_singleton.mp hy]; exact C2)
    simp only [ad,ax,aj,az,bL,bin,un,cst,aa,ac,ah,bf,DA,DC,DI,DJ,DK,DL,DG,DH,DD,DF,on,DB,reduceIte,Nat.reduceAdd,Nat.reduceLeDiff,Ed,nK,aR,d5,cz,cm,uA,hat0,CS,CP,D5 ex,hab0,d5 yes]
    exact z
  ·simp only [ad,ax,aj,az,bL,br,ah,bf,DA,DC,DH,DD,DF,reduceIte,Nat.reduceLeDiff,aR]
   exact tl names2 n2d (by have:=n2p (by omega); omega) (by omega) n2w
 ·simp only [ad,ax,aj,az,bL,br,ah,bf,DA,DC,DH,DD,DF,reduceIte,Nat.reduceLeDiff,aR]
  rw [← hK]
  simp only [bA,bg,aY,be,aa,bin,cst,DA,on,DB,aG,rJ,aL,Int.reduceAdd,hcs,aN,ad]
  exact last names1 words1 _ n1d (by omega) (by omega) n1w v1l (by omega) v1w (fun _=>by omega)
end S9
theorem vA (ys:List Nat):(ys.map fun y=>1 + y).sum=ys.length + ys.sum:=by
 induction ys with
 | nil=>rfl
 | cons y ys ih=>rw [DI,EH,ih,DG,EH]; omega
theorem Ab {B:Nat}{l:List Nat} (h:∀ x ∈ l,x≤B):l.sum≤B * l.length:=by
 induction l with
 | nil=>simp
 | cons x l ih =>
  have h1:=h x DW
  have h2:=ih fun y hy=>h y (DS _ hy)
  rw [EH,DG,Nat.mul_succ]; omega
theorem vf (Rs:List (List Nat)) (ys:List Nat):List.zipWith (fun a b=>D.tup [a,b]) (Rs.map nl) ((ys.map fun y=>1 + y).map nD)=(Rs.zip ys).map fun q=>D.tup [nl q.1,nD (1 + q.2)]:=by
 induction Rs generalizing ys with
 | nil=>simp
 | cons a o ih=>cases ys with
  | nil=>simp
  | cons b ys =>
   have:=ih ys
   show D.tup [nl a,nD (1 + b)] :: List.zipWith (fun a b=>D.tup [a,b]) (o.map nl) ((ys.map fun y=>1 + y).map nD)=D.tup [nl a,nD (1 + b)] :: (o.zip ys).map fun q=>D.tup [nl q.1,nD (1 + q.2)]
   rw [this]
theorem wP (xs:List D):nz (.lst xs)=some (.bl false):=rfl
theorem oG (ws:List Str):(gr ws).length=ws.length:=by unfold gr; rw [DP,D1]
namespace Wk
theorem Bu:g__Lplay=S9.g__Lplay:=rfl
theorem Bv:g__Lcell=S7.g__Lcell:=rfl
theorem yU {ns:List Int}{c:Int}{p:List Sp} (k1:S7.g__Lcell [.scr ns,.int 1]=some (.int c)) (hpl:S9.g__Lplay [.scr ns,.int 2,.int 9]=some (bX p)) (hp:p.length≤9) (h8:∀ k,(bG p k).length≤8) (hN:(ci p).length≤100) (hW:(ao p).length≤45)
  (hlow:∀ x ∈ ao p,jE x) (hw:∀ q ∈ gG p,wnD p q ≠ []):pB [.scr ns]=some (.bl true):=by
 have h100:∀ k,(bG p k).length≤100:=fun k=>D6 (h8 k) (by decide)
 have hwl:∀ q,(wnD p q).length≤45:=fun q=>D6 (gy q.2 _) (D6 (dP (ES q.1 p).symm) hW)
 have hleft:=yS p (by omega) (by omega) (by omega) h100 hlow
 have hnl:(gG p).length≤8 * 9:=D6 (GB _ _) (D6 (jH h8 p.length) (Fd _ hp))
 obtain ⟨ht,hroom⟩:=tu (f:=wnD p) hw fun q _=>D6 (hwl q) (by decide)
 obtain ⟨n,hn⟩:∃ n,(gG p).length=n:=⟨_,rfl⟩
 have hones:((dl p).map List.sum).sum=n:=by
  rw [oh,l6,r9 (f:=wnD p) hw,List.sum_append,rG,rG,hn]; omega
 have hleft':gJ [bX p]=some (.lst (((gG p).map fun q=>gr (wnD p q)).map nl)):=hleft
 have hRl:∀ r ∈ (gG p).map fun q=>gr (wnD p q),r ≠ []∧r.length≤45:=fun r hr=>by
  obtain ⟨q,hq,rfl⟩:=List.mem_map.mp hr
  refine ⟨fun z=>hw q hq (List.length_eq_zero_iff.mp (by rw [← oG,z]; rfl)),by rw [oG]; exact hwl q⟩
 have hRn:((gG p).map fun q=>gr (wnD p q)).length=n:=by rw [DP,hn]
 have hMn:((gG p).map fun q=>fP (wnD p q)).length=n:=by rw [DP,hn]
 have hcue:=uT p
 rw [hn] at hroom hnl
 generalize hRs:((gG p).map fun q=>gr (wnD p q))=Rs at ht hroom hleft' hRl hRn
 generalize hMs:((gG p).map fun q=>fP (wnD p q))=Ms at ht hroom hcue hMn
 obtain ⟨rm,hrm⟩:∃ rm,(Rs.map List.length).sum=rm:=⟨_,rfl⟩
 have hrmb:rm≤45 * n:=by
  have:=Ab (B:=45) (l:=Rs.map List.length) fun x hx=>by
   obtain ⟨r,hr,rfl⟩:=List.mem_map.mp hx
   exact (hRl r hr).2
  rw [DP,hRn,hrm] at this
  exact this
 rw [hrm] at hroom
 have hz:(Rs.map nl).length≤16777216:=by rw [DP]; omega
 have hc:∀ a3 a4 a5 a6 a7 a8 a9:Sl,bw (nmG 8) noT (un bj (aa 8)) [Sl.val (.scr ns),Sl.val (bX p),Sl.val (.lst (Rs.map nl)),a3,a4,a5,a6,a7,a8,a9] (Rs.map nl)=some ((nI (Rs.map List.length)).map D.int):=fun a3 a4 a5 a6 a7 a8 a9=>by
  unfold nI
  rw [D7,D7]
  refine bM nl _ _ fun r _=>?_
  refine bv ?_
  simp only [ad,un,aa,DA,DD,DF,on,DB,bH,DP]
  rfl
 refine bv ?_
 simp only [pB,xv,Bu,Bv]
 generalize hK1:aq (ifS (tst (bin ltD _ _)) _ _) _=K1
 have tail:∀ c most:Int,wp (K1 [.val (.scr ns),.val (bX p),.val (.lst (Rs.map nl)),.val (nD rm),.val (.int c),.val (.int most),.no,.no,.no,.no]) (qm fun d=>d=.bl true):=fun c most=>by
  rw [← hK1]
  by_cases hm:most < (n:Int)
  ·have hr:=qu p most n (by omega) (by omega) (by omega) h100 hones hm
   have d1:decide (most < (n:Int))=true:=Ek hm
   simp only [ad,ax,fZ,aO,bF,eX,aH,bin,un,var,aa,tst,asB,ay,ac,ah,c_,DA,DC,DG,DH,on,DB,reduceIte,Nat.reduceAdd,bH,DP,hRn,d1,hr]
  ·have d1:decide (most < (n:Int))=false:=D5 hm
   have hrc:fN (dN p p.length)=fN Ms:=by rw [hcue,qq]
   obtain ⟨d,hd,xs,w,v,rfl,q1,q2,q3⟩:=cp.mp (qi p most n (by omega) (by omega) (by omega) h100 hones (by omega) (by rw [hrc]; omega))
   rw [hrc] at q2 q3
   rw [hcue] at q1
   obtain ⟨ys,rfl,a1⟩:=q1.zeros
   have hyl:ys.length=n:=by rw [a1.len,hMn]
   obtain ⟨r1,r2,r3,r4⟩:=x9 p ys hw (by rw [hyl,hn])
   have hfl:=y_ p _ (by omega) r1 r2 h100 r3
   rw [r4] at hfl
   have hsum:i0 (nl (ys.map fun y=>1 + y))=some (nD (n + ys.sum)):=by rw [Df,iw,mV,vA,hyl]
   have hwy:=a1.wt
   have d2:decide (most < ((n + ys.sum:Nat):Int))=false:=D5 (by omega)
   have b1:=a1.up ht
   obtain ⟨z1,z2⟩:=b1.zip
   obtain ⟨u,hu,ex,le⟩:=uI (Rs:=Rs) (M:=min most.toNat rm) (by omega) (fun r hr=>(hRl r hr).1) (by omega) fun r hr=>D6 (hRl r hr).2 (by decide)
   rw [hRn] at ex le
   have hvu:v=u:=qk ht (most:=most.toNat) (n:=n) (rm:=rm) (spare:=min (most - n).toNat (fN Ms)) (by omega) hroom (by omega) a1 q2 (fun xs' w' v' h1 h2=>q3 _ w' v' (by rw [hcue]; exact h1.put0) h2) ex le
   have hmin:(if (rm:Int) < most then (rm:Int) else most)=((min most.toNat rm:Nat):Int):=by split <;> omega
   have hzip:sZ [.lst (Rs.map nl),nl (ys.map fun y=>1 + y)]=some ((Rs.zip ys).map fun q=>D.tup [nl q.1,nD (1 + q.2)]):=by
    rw [← vf]; rfl
   simp only [ad,ax,aj,az,bF,cb,bA,br,bin,un,cst,var,aa,tst,asB,orT,ay,ac,ah,c_,iJ,DA,DC,DG,DH,DD,DF,on,DB,reduceIte,Nat.reduceAdd,Ed,bH,DP,hRn,d1,hd,hfl,↓wP,hsum,d2,mS,hzip]
   refine bz (fun q:List Nat×Nat=>D.tup [nl q.1,nD (1 + q.2)]) (Rs.zip ys) (fun pre E=>∃ s8 s9,E=[Sl.val (.scr ns),Sl.val (bX p),Sl.val (.lst (Rs.map nl)),Sl.val (nD rm),Sl.val (.int c),Sl.val (.int most),Sl.val (nl (ys.map fun y=>1 + y)),Sl.val (nD ((pre.map fun q=>q.1.getD q.2 0).sum)),s8,s9]) rfl ⟨_,_,rfl⟩ ?_ ?_
   ·rintro pre q post E hs ⟨s8,s9,rfl⟩
    have hq:=z1 q (by rw [hs]; simp)
    have d3:decide (((1 + q.2:Nat):Int) < 1)=false:=D5 (by omega)
    have d4:decide ((q.1.length:Int) < ((1 + q.2:Nat):Int))=false:=D5 (by omega)
    have ha:atI (q.1.map nD) (((1 + q.2:Nat):Int) - 1)=some (nD (q.1.getD q.2 0)):=by
     rw [show ((1 + q.2:Nat):Int) - 1=((q.2:Nat):Int) by omega]
     exact ji hq
    simp only [ad,aN,ax,aj,az,bF,cb,br,bin,un,cst,aa,tst,asB,orT,nmG,cK,aQ,cL,ce,c_,iJ,DA,DC,DG,DH,DD,DF,on,DB,reduceIte,Nat.reduceAdd,Ed,aG,cz,bH,DP,d3,d4,ha]
    have es:((pre ++ [q]).map fun q=>q.1.getD q.2 0).sum=(pre.map fun q=>q.1.getD q.2 0).sum + q.1.getD q.2 0:=by rw [Ej,List.sum_append]; rfl
    exact ⟨_,_,by rw [es,← E7]⟩
   ·rintro E ⟨s8,s9,rfl⟩
    have e:((Rs.zip ys).map fun q=>q.1.getD q.2 0).sum=u:=by rw [← z2,hvu]
    simp only [ad,aj,aO,aH,bin,var,aa,ay,ac,ah,DA,DC,DG,DH,on,DB,reduceIte,Nat.reduceAdd,decide_true,cV,lq,gm,hmin,hu,e]
 have hpos:0 < (rm:Int) - (n:Int) + 1:=by omega
 have hrmI:i0 (.lst ((nI (Rs.map List.length)).map D.int))=some (nD rm):=by rw [iw,mV,hrm]
 have hbig:(rm:Int) - (n:Int) + 1≤10 ^ 200:=by omega
 have hz':n≤16777216:=by omega
 simp only [ad,aZ,ax,aj,az,bF,bin,un,cst,var,aa,tst,asB,ay,ac,ah,bg,aX,aE,ce,aU,bc,aL,DA,DC,DI,DJ,DK,DL,DG,DH,DD,DF,on,DB,List.replicate,DM,D8,reduceIte,Nat.reduceAdd,Nat.reduceSub,Int.reduceLT,Int.reduceLE,Int.reducePow,aG,cV,aR,bH,hpl,hleft',hz',hc,hrmI,k1,DP,hRn,hpos]
 refine cU (fun h=>?_) fun h=>?_
 ·simp only [ad,ax,aj,az,bF,bin,un,cst,aa,tst,asB,ce,aU,bc,DA,DC,DD,DF,on,DB,Int.reduceLT,Int.reduceLE,Int.reducePow,aG,cV,bH,DP,hRn]
  refine cU (fun h=>?_) fun h=>?_
  ·simp only [ad,aj,az,bin,cst,gZ,DA,DC,DD,DF,Int.reduceLE,Int.reducePow,Int.reduceToNat,Int.reduceAbs,Nat.reducePow,Nat.reduceLT]
   exact tail _ _
  ·simp only [ad,aj,br]
   exact tail _ _
 ·simp only [ad,ax,aj,bF,br,bin,cst,aa,tst,asB,aU,DA,on,DB,Int.reduceLT,cV]
  refine cU (fun h=>?_) fun h=>?_
  ·simp only [ad,aj,az,bin,cst,gZ,DA,DC,DD,DF,Int.reduceLE,Int.reducePow,Int.reduceToNat,Int.reduceAbs,Nat.reducePow,Nat.reduceLT]
   exact tail _ _
  ·simp only [ad,aj,br]
   exact tail _ _
theorem wE (ns:List Int) (hn:ns.length≤63) (hb:∀ i ∈ ns,Builtin.Int.intBits i≤2 ^ 20):pB [.scr ns]=some (.bl true):=by
 obtain ⟨_,k1,c,rfl,_⟩:=cp.mp (S7.cell_ok ns 1 1 rfl)
 obtain ⟨_,hpl,names,words,p,rfl,hp,n8,nw,ww,hg⟩:=cp.mp (S9.play_ok ns hn)
 have p8:∀ s ∈ p,s.1.length≤8:=fun s hs=>D6 (hg.each s hs).le n8
 have pN:=wm p8
 have pW:=vj fun s hs=>(hg.each s hs).wle
 refine yU k1 hpl hp (fun k=>?_) (by omega) (by omega) (fun x hx=>?_) fun q hq=>?_
 ·by_cases hk:k < p.length
  ·rw [rH hk]; exact p8 _ (EM hk)
  ·unfold bG
   rw [D3,Eh (by omega)]
   exact Ex _
 ·obtain ⟨s,hs,hx⟩:=List.mem_flatMap.mp hx
  exact (ww x ((hg.each s hs).wsub x hx)).lowS
 ·obtain ⟨h1,h2,h3⟩:=vW hq
  obtain ⟨k,x⟩:=q
  obtain ⟨j,rfl⟩:∃ j,k=j + 1:=⟨k - 1,by omega⟩
  have h3:x ∈ bG p (j + 1):=h3
  rw [rH h2] at h3
  have:=hg.heard h2 h3
  exact fun z=>by
   have z:cu (p.take (j + 1)) x=[]:=z
   rw [z] at this
   cases this
end Wk
end L2.Cu
namespace L2.Cu.Wk
open PySem PySem.W PyProof.Rows
set_option maxRecDepth 100000
set_option maxHeartbeats 0
theorem Db:rn PySem.Challenge.pw_cuebook_k42_thrift_told (view PySem.Challenge.pw_cuebook_k42_thrift_told [49]) (ie PySem.Challenge.pw_cuebook_k42_thrift_told) (fun s=>xlAt (view PySem.Challenge.pw_cuebook_k42_thrift_told [49]) [] s && recOk [] s) (fun s=>iO PySem.Challenge.pw_cuebook_k42_thrift_told ds zs cs moK (KH s.heap)) (pM PySem.Challenge.pw_cuebook_k42_thrift_told ds zs cs moB) 20000:=fun w os=>by kernel_rfl
theorem BZ:PySem.W.Fast.tw9446332074065402090 PySem.Challenge.rw_cuebook_k42_thrift_told=true:=by kernel_rfl
theorem Cz (hw:PySem.Challenge.rw_cuebook_k42_thrift_told.row.toRowW.promised):PySem.Challenge.rw_cuebook_k42_thrift_told.Holds :=
  Cp (l:=PySem.Challenge.rw_cuebook_k42_thrift_told) (n:=63) (k:=8) (x := "_law_script") (g:=pB) Db BZ (by kernel_rfl) rfl (fun s=>by kernel_rfl) rfl rfl rfl (by decide +kernel) ⟨rfl,rfl,rfl,rfl,rfl,by decide +kernel⟩ hw rfl (by decide) rfl ⟨rfl,by decide,by decide⟩ rfl (by decide) (fun T base kb nb=>A0 T) (fun _ _ _ _ _ _ _=>rfl) wE
end L2.Cu.Wk
open PySem PySem.W PyProof.Rows
set_option maxRecDepth 100000 in
set_option maxHeartbeats 0 in
theorem PySem.Challenge.cw_cuebook_k42_thrift_told_holds : PySem.Challenge.rw_cuebook_k42_thrift_told.Holds := by
  refine L2.Cu.Wk.Cz ?hw
  case hw=>w_witness2
