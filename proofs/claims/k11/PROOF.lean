import PyProof.Rows.All
import Wide.All
import OpenK.AllK
import Wide.FinOn
import Lean
import PyProof.EqAt
import PyProof.EqKinds
import PyProof.TupleCall
import PyProof.Rows.SetFrom
import PyProof.SetRoads
import PyProof.TableTree
import PyProof.FactsTree
import KE.KDictSum
import PyProof.WalksMore
import PyProof.Rows.SortStr
import PyProof.DictUpdate
import PyProof.ZipIter
import PyProof.Draws
import PyProof.Rows.FactsT2
import PyProof.EnumMake
import PyProof.Rows.EnumRows
import KE.KTupSum
import PyProof.Rows.SumAny
import PyProof.DictItemsLoops
import KE.KPairComp
import KE.KEqDict
import PyProof.Rows.Range3
import PyProof.TupleOfSeq
import PyProof.AttrMissSeq
import KE.KDictOf
import PyProof.ExcClass3
import PyProof.ExcInit
import PyProof.StationsW
import OpenK.KMake
import PyProof.InstStore
import PyProof.ExcArgsOwn
import OpenK.KOwn
import PyProof.ExcBaseAll.ValueError
import PyProof.InstStoreFacts
import PyProof.NsDelKeeps
import PyProof.IsiH_list
import KE.KIsAll
import KE.RegKIsAll
import PySem.Challenge.RW_cuebook_k11_counts_of_a_play
set_option Elab.async false
set_option linter.all false
set_option maxRecDepth 100000
noncomputable section
abbrev ET:=@PySem.wpAny_bind
abbrev EU:=@PySem.Heap.get?_push_of_some
abbrev EV:=@List.getElem?_eq_getElem
abbrev EW:=@List.length_map
abbrev EY:=@PySem.wpAny_pure
abbrev EZ:=@PySem.Heap.get?_push_size
abbrev E4:=@Option.some.inj
abbrev E6:=@PySem.Heap.lt_size
abbrev E7:=@List.mem_cons_of_mem
abbrev E8:=@List.getElem?_set_ne
abbrev E9:=@Nat.le_refl
abbrev E_:=@List.size_toArray
abbrev Fa:=@Nat.le_trans
abbrev Fb:=@List.length_append
abbrev Fc:=@decide_eq_false
abbrev Fd:=@List.mem_cons_self
abbrev Fe:=@Bool.false_ne_true
abbrev Ff:=@Bool.false_eq_true
abbrev Fg:=@List.getElem?_map
abbrev Fh:=@Nat.ne_of_lt
abbrev Fi:=@Nat.lt_of_lt_of_le
abbrev Fj:=@decide_eq_true
abbrev Fk:=@List.getElem?_set
abbrev Fl:=@Bool.and_false
abbrev Fm:=@List.map_map
abbrev Fo:=@List.length_range
abbrev Fp:=@PySem.PassesOwn.never
abbrev Fq:=@List.mem_append_right
abbrev Fs:=@List.map_append
abbrev Ft:=@PySem.Heap.get?_update_other
abbrev Fu:=@beq_self_eq_true
abbrev Fv:=@Bool.or_false
abbrev Fw:=@Int.emod_lt_of_pos
abbrev Fx:=@List.getElem_mem
abbrev Fy:=@Int.emod_nonneg
abbrev Fz:=@Bool.not_true
abbrev FA:=@List.getD_eq_getElem?_getD
abbrev FB:=@List.getElem?_eq_none
abbrev FC:=@PySem.Obj.data_mapFields
abbrev FD:=@PySem.Heap.get?_update_self
abbrev FE:=@List.getElem?_set_self
abbrev FF:=@PySem.Heap.size_push
abbrev FG:=@PySem.wpAny_mono
abbrev FH:=@of_decide_eq_true
abbrev FI:=@PySem.wpAny_newObj_type
abbrev FJ:=@List.map_congr_left
abbrev FK:=@Bool.and_eq_true
abbrev FL:=@List.foldl_nil
abbrev FM:=@List.drop_eq_getElem_cons
abbrev FN:=@Classical.byContradiction
abbrev FO:=@Bool.not_false
abbrev FP:=@Array.getElem?_eq_getElem
abbrev FQ:=@PySem.wpAny_loadPart_at
abbrev FR:=@PySem.W.kia_one
abbrev FT:=@List.length_singleton
abbrev FU:=@Array.length_toList
abbrev FV:=@Nat.zero_le
abbrev FW:=@List.length_set
abbrev FX:=@List.not_mem_nil
abbrev FY:=@List.lookup_cons
abbrev FZ:=@congrArg
abbrev F0:=@PyProof.Rows.callWith_type1
abbrev F7:=@List.mem_cons
abbrev F8:=@List.find?_cons
abbrev F9:=@List.append_nil
abbrev F_:=@List.mem_of_getElem?
abbrev Ga:=@PySem.wpAny_field
abbrev Gc:=@List.take_of_length_le
abbrev Gd:=@Int.toNat_natCast
abbrev Ge:=@PySem.wpAny_call_entry
abbrev Gf:=@Prod.mk.inj
abbrev Gg:=@PySem.Obj.isFreed_of_fields
abbrev Gh:=@List.getElem?_range
abbrev Gi:=@PySem.wpAny_callSpecial?_slot
abbrev Gj:=@PySem.wpAny_setField
abbrev Gk:=@PySem.codeAny_builtin
abbrev Gm:=@Nat.le_of_lt
abbrev Gn:=@List.all_cons
abbrev Go:=@PySem.wpAny_Call_Name_kw
abbrev Gp:=@PyProof.Rows.slot_tuple_getitem
abbrev Gq:=@Nat.lt_succ_of_lt
abbrev Gr:=@Nat.lt_irrefl
abbrev Gs:=@List.filterMap_cons
abbrev Gu:=@List.any_cons
abbrev Gv:=@PySem.wpAny_truthy_bool
abbrev Gw:=@List.length_drop
abbrev Gx:=@Bool.false_and
abbrev Gy:=@Array.getElem?_eq_none
abbrev Gz:=@PySem.Heap.SameBut.update
abbrev GA:=@Array.getElem?_toList
abbrev GB:=@List.append_assoc
abbrev GC:=@PySem.F.excAttr_ValueError
abbrev GD:=@List.getElem?_append_right
abbrev GE:=@List.mem_append_left
abbrev GF:=@PySem.codeAny_mono
abbrev GG:=@List.getElem?_append_left
abbrev GH:=@List.length_take
abbrev GI:=@List.all_eq_true
abbrev GJ:=@PySem.wpAny_holding
abbrev GK:=@PySem.mem_of_lookup
abbrev GL:=@List.replicate_succ
abbrev GM:=@PySem.F.slot_tuple_iterator_next
abbrev GN:=@PySem.codeAny_call_builtin
abbrev GO:=@PySem.Around.under_plainId
abbrev GP:=@decide_eq_false_iff_not
abbrev GQ:=@PySem.wpAny_seqItems
abbrev GR:=@PySem.isSubtype_type
abbrev GS:=@List.pairwise_singleton
abbrev GT:=@List.mem_singleton
abbrev GU:=@Bool.true_and
abbrev GV:=@Bool.and_true
abbrev GW:=@PySem.wpAny_typeOf
abbrev GX:=@PySem.AutoSeq1.wpAny_loadPart'
abbrev GY:=@List.zipWith_cons_cons
abbrev GZ:=@List.drop_eq_nil_of_le
abbrev G0:=@decide_true
abbrev G1:=@Nat.le_succ
abbrev G2:=@List.foldl_append
abbrev G3:=@List.ext_getElem?
abbrev G4:=@PySem.Code.quiet_builtin
abbrev G5:=@PySem.Calls.spliced_cons
abbrev G6:=@Nat.lt_or_ge
abbrev G7:=@List.take_append_drop
abbrev G8:=@Classical.choose_spec
abbrev G9:=@Bool.or_true
abbrev G_:=@List.drop_length
abbrev Ha:=@List.mem_of_mem_take
abbrev Hb:=@or_false
abbrev Hc:=@PySem.F.excBase_ValueError
abbrev Hd:=@Nat.ne_of_gt
abbrev He:=@List.map_singleton
abbrev Hf:=@PySem.wpAny_passesOwn
abbrev Hg:=@PySem.wpAny_ite_split
abbrev Hh:=@PySem.wpAny_execs_nil
abbrev Hi:=@PySem.sizeLine_eq
abbrev Hj:=@PySem.F.args_tuple_add_2
abbrev Hk:=@List.take_add_one
abbrev Hl:=@List.reverse_cons
abbrev Hm:=@List.flatten_cons
abbrev Hn:=@List.any_eq_false
abbrev Ho:=@Bool.not_eq_true'
abbrev Hq:=@PySem.F.plainAttrs_list
abbrev Hr:=@PySem.F.entry_tuple_add
abbrev Hs:=@PySem.wpAny_setField_rec
abbrev Ht:=@PySem.tupleKind_room_in1
abbrev Hu:=@PySem.F.slot_tuple_add
abbrev Hv:=@List.length_take_of_le
abbrev Hw:=@PySem.wpAny_pyIter_list
abbrev Hx:=@PySem.F.slot_dict_get
abbrev Hy:=@PySem.Calls.spliced_nil
abbrev Hz:=@Nat.le_of_eq
abbrev HA:=@List.range_succ
abbrev HB:=@List.nodup_cons
abbrev HC:=@List.length_replicate
abbrev HD:=@List.length_filter_le
abbrev HE:=@Int.zero_add
abbrev HF:=@Bool.eq_iff_iff
abbrev HG:=@PySem.plainId_quiet
abbrev HH:=@PySem.wpAny_execs_cons
abbrev HI:=@List.mem_range
abbrev HJ:=@if_false
abbrev HK:=@PySem.builtinLookup_eq_fast
abbrev HL:=@PySem.W.callWith_K
abbrev HM:=@PySem.F.typeOf_object_class
abbrev HN:=@Nat.lt_of_le_of_lt
abbrev HP:=@List.getElem_range
abbrev HQ:=@Bool.false_or
abbrev HR:=@PySem.wpAny_rule
abbrev HS:=@beq_iff_eq
abbrev HU:=@PySem.W.kitx_dict
abbrev HV:=@Option.some.injEq
abbrev HW:=@PySem.wpAny_runValue
abbrev HX:=@PyProof.Rows.F.plain_set_update_loop
abbrev HY:=@PySem.Value.isStrOf_shape
abbrev HZ:=@PySem.wpAny_standAt
abbrev H8:=@PySem.wpAny_pyIter_tuple
abbrev H9:=@PySem.wpAny_call
abbrev H_:=@PySem.Obj.cls_mapFields
universe u v
theorem on{α:Type u}{a:α}{l:List α}:(a::l)[0]?=some a:=rfl
theorem EG{α:Type u}{β:Type v}(a:α)(f:α→Option β):(some a).bind f=f a:=rfl
theorem EH{α:Type u}{a:α}{i:Nat}{l:List α}:(a::l)[i+1]?=l[i]?:=rfl
theorem EI{α:Type u}{β:Type v}(a:α)(f:α→β):(some a).map f=some (f a):=rfl
theorem EJ{α:Type u}{x:α}{xs:List α}{a:α}:(x::xs).set 0 a=a::xs:=rfl
theorem EK{α:Type u}{x:α}{xs:List α}{i:Nat}{a:α}:(x::xs).set (i+1) a=x::xs.set i a:=rfl
theorem EL{α:Type u}{a:α}{as:List α}:(a::as).length=as.length+1:=rfl
theorem EM{α:Type u}:([]:List α).length=0:=rfl
theorem EN{α:Type u}{β:Type v}{f:α→β}{a:α}{l:List α}:(a::l).map f=f a::l.map f:=rfl
theorem EO{α:Type u}{β:Type v}{f:α→β}:[].map f=([]:List β):=rfl
theorem EQ{α:Type u}{a:α}{as bs:List α}:a::as++bs=a::(as++bs):=rfl
theorem ER{α:Type u}(as:List α):[]++as=as:=rfl
theorem ES{α:Type u}{β:Type v}{a:α}{l:List α}{f:β→α→β}{b:β}:(a::l).foldl f b=l.foldl f (f b a):=rfl
namespace L2
open PySem PySem.Spec PyProof.Rows
abbrev Key:=Sum (Option Int) Str
def gQ:Key→Value→Bool
 | .inl (some k),v=>Value.isInt k v
 | .inl none,v=>match v with | .none=>true | _=>false
 | .inr x,v=>Value.isStrOf x v
def Ex (w:World):Key→Int
 | .inl (some k)=>hashInt k
 | .inl none=>reduceHash 0xFCA86420
 | .inr x=>hashStr w x
theorem bM:∀ {k:Key}{v:Value},gQ k v=true→(∃ i t,k=Sum.inl (some i)∧v=Value.int i t)∨(∃ x t,k=Sum.inr x∧v=Value.str x t)∨(k=Sum.inl none∧v=Value.none)
 | .inl (some i),v,h=>by
  obtain ⟨t,e⟩:=Value.isInt_shape (k:=i) (v:=v) h
  exact .inl ⟨i,t,rfl,e⟩
 | .inl none,v,h=>by
  cases v <;> first | exact .inr (.inr ⟨rfl,rfl⟩) | exact absurd h (by decide) | (simp [gQ] at h)
 | .inr x,v,h=>by
  obtain ⟨t,e⟩:=HY (x:=x) (v:=v) h
  exact .inr (.inl ⟨x,t,rfl,e⟩)
theorem u3 (i:Int) (t:Tok):gQ (.inl (some i)) (.int i t)=true:=by simp [gQ,Value.isInt]
theorem uY (x:Str) (t:Tok):gQ (.inr x) (.str x t)=true:=by simp [gQ,Value.isStrOf]
theorem uZ:gQ (.inl none) .none=true:=rfl
theorem B_ (a b:Int):decide ((Sum.inl (some a):Key)=Sum.inl (some b))=(a == b):=by
 by_cases e:a=b
 ·subst e; simp
 ·have h:¬ (Sum.inl (some a):Key)=Sum.inl (some b):=fun q=>e (E4 (Sum.inl.inj q))
  rw [Fc h]
  exact (beq_eq_false_iff_ne.mpr e).symm
theorem B7 (a b:Str):decide ((Sum.inr a:Key)=Sum.inr b)=decide (a=b):=by
 by_cases e:a=b
 ·subst e; simp
 ·have h:¬ (Sum.inr a:Key)=Sum.inr b:=fun q=>e (Sum.inr.inj q)
  rw [Fc h,Fc e]
theorem xA (a:Option Int) (b:Str):decide ((Sum.inl a:Key)=Sum.inr b)=false:=Fc (fun q=>nomatch q)
theorem xz (a:Str) (b:Option Int):decide ((Sum.inr a:Key)=Sum.inl b)=false:=Fc (fun q=>nomatch q)
theorem B9 (a:Int):decide ((Sum.inl (some a):Key)=Sum.inl none)=false:=Fc (fun q=>nomatch q)
theorem B8 (a:Int):decide ((Sum.inl none:Key)=Sum.inl (some a))=false:=Fc (fun q=>nomatch q)
theorem u8 {prog:Program}{w:World}{A:Around}{E:Value→Shared→Prop}{s:Shared}{Q:Int→Shared→Prop} (h:Q (reduceHash 0xFCA86420) { s with toks:=s.toks + 1 }):wpAny (model prog w) A (pyHash .none) Q E s:=by
 exact PySem.W.pyHash_slot (T := "NoneType") rfl F.slot_NoneType_hash F.entry_NoneType_hash (F.args_NoneType_hash_1 _) (PySem.beq_builtin_none _) (.inl rfl) (ET (EY (ET (wpAny_mkInt (EY ⟨_,_,rfl,h⟩)))))
def bf (prog:Program) (w:World):PySem.KeyKind prog w Key where
 is:=gQ
 hash:=Ex w
 inj:=fun v a b ha hb=>by
  rcases bM ha with ⟨i,t,rfl,rfl⟩ | ⟨x,t,rfl,rfl⟩ | ⟨rfl,rfl⟩ <;> rcases bM hb with ⟨j,u,rfl,e⟩ | ⟨y,u,rfl,e⟩ | ⟨rfl,e⟩ <;> first | rfl | (injection e with e1 _; rw [e1]; done) | (cases e; done)
 byValue:=fun k v h=>by
  rcases bM h with ⟨i,t,rfl,rfl⟩ | ⟨x,t,rfl,rfl⟩ | ⟨rfl,rfl⟩ <;> rfl
 pyHash:=fun hv h=>by
  rcases bM hv with ⟨i,t,rfl,rfl⟩ | ⟨x,t,rfl,rfl⟩ | ⟨rfl,rfl⟩
  ·exact wpAny_pyHash_int h
  ·exact wpAny_pyHash_str h
  ·exact u8 h
 eqBool:=fun hu hv h=>by
  rcases bM hu with ⟨i,t,rfl,rfl⟩ | ⟨x,t,rfl,rfl⟩ | ⟨rfl,rfl⟩
  ·rcases bM hv with ⟨j,u,rfl,rfl⟩ | ⟨y,u,rfl,rfl⟩ | ⟨rfl,rfl⟩
   ·rw [B_] at h; exact wpAny_eqBool_int h
   ·rw [xA] at h; exact SeqAt.EqAt.int_str i t y u _ _ _ _ h
   ·rw [B9] at h; exact SeqAt.EqAt.int_none i t _ _ _ _ h
  ·rcases bM hv with ⟨j,u,rfl,rfl⟩ | ⟨y,u,rfl,rfl⟩ | ⟨rfl,rfl⟩
   ·rw [xz] at h; exact SeqAt.EqAt.str_int x t j u _ _ _ _ h
   ·rw [B7] at h; exact wpAny_eqBool_str h
   ·rw [xz] at h; exact SeqAt.EqAt.str_none x t _ _ _ _ h
  ·rcases bM hv with ⟨j,u,rfl,rfl⟩ | ⟨y,u,rfl,rfl⟩ | ⟨rfl,rfl⟩
   ·rw [B8] at h; exact SeqAt.EqAt.none_int j u _ _ _ _ h
   ·rw [xA] at h; exact SeqAt.EqAt.none_str y u _ _ _ _ h
   ·rw [Fj rfl] at h; exact SeqAt.EqAt.same _ _ _ _ _ h
 «strs»:=fun k x t v h=>by
  rcases bM h with ⟨i,u,rfl,e⟩ | ⟨y,u,rfl,e⟩ | ⟨rfl,e⟩
  ·exact nomatch e
  ·injection e with e1 _
   subst e1
   cases v <;> rfl
  ·exact nomatch e
theorem pA (prog:Program) (w:World) (i:Int) (t:Tok):(bf prog w).is (.inl (some i)) (.int i t)=true:=u3 i t
theorem pz (prog:Program) (w:World) (x:Str) (t:Tok):(bf prog w).is (.inr x) (.str x t)=true:=uY x t
inductive V where
 | non | bl (b:Bool) | int (i:Int) | str (x:Str) | byt (b:Array UInt8) | flt (b:UInt64) | ref (a:Addr) | ty (n:String)
 deriving DecidableEq
def aS:V→Value→Prop
 | .non,u=>u=Value.none
 | .bl b,u=>u=Value.bool b
 | .int i,u=>∃ t,u=Value.int i t
 | .str x,u=>∃ t,u=Value.str x t
 | .byt b,u=>∃ t,u=Value.bytes b t
 | .flt b,u=>∃ t,u=Value.float b t
 | .ref a,u=>u=Value.ref a
 | .ty n,u=>u=Value.type n
abbrev aR:List V→List Value→Prop:=Paired aS
theorem aR.length {xs:List V}{us:List Value} (r:aR xs us):xs.length=us.length:=Paired.length r
theorem aR.get:∀ {xs:List V}{us:List Value}{i:Nat}{x:V},aR xs us→xs[i]? = some x→∃ u,us[i]? = some u∧aS x u
 := fun {xs us i x} r e=>by
  cases r with
  | nil=>cases e
  | cons r t =>
   cases i with
   | zero=>cases e; exact ⟨_,rfl,r⟩
   | succ i=>exact aR.get (i:=i) t e
theorem aR.append:∀ {xs ys:List V}{us ws:List Value},aR xs us→aR ys ws→aR (xs ++ ys) (us ++ ws)
 := fun r s=>by
  cases r with
  | nil=>exact s
  | cons r t=>exact .cons r (aR.append t s)
theorem aR.take:∀ {xs:List V}{us:List Value} (n:Nat),aR xs us→aR (xs.take n) (us.take n)
 := fun n r=>by
  cases n with
  | zero=>exact .nil
  | succ n =>
   cases r with
   | nil=>exact .nil
   | cons r t=>exact .cons r (aR.take n t)
theorem aR.drop:∀ {xs:List V}{us:List Value} (n:Nat),aR xs us→aR (xs.drop n) (us.drop n)
 := fun n r=>by
  cases n with
  | zero=>exact r
  | succ n =>
   cases r with
   | nil=>exact .nil
   | cons _ t=>exact aR.drop n t
theorem aR.none_of:∀ {xs:List V}{us:List Value}{i:Nat},aR xs us→xs[i]? = none→us[i]? = none:=fun {xs us i} r e=>by
 have h1:=r.length
 have h2:xs.length≤i:=List.getElem?_eq_none_iff.mp e
 exact List.getElem?_eq_none_iff.mpr (by omega)
def eI:Option V→Option Value→Prop
 | some v,some u=>aS v u
 | none,none=>True
 | _,_=>False
def KV {κ:Type}:List (κ×V)→List (κ×Value)→Prop:=Paired fun (p:κ×V) (q:κ×Value)=>p.1=q.1∧aS p.2 q.2
def kV:Key→V
 | .inl (some i)=>.int i
 | .inl none=>.non
 | .inr x=>.str x
inductive HO where
 | lst (xs:List V)
 | tup (xs:List V)
 | dK (kvs:List (Key×V)) | dT (kvs:List (List Key×V))
 | set (S:Int→Bool) (n:Nat)
 | ins (C dx:Addr) (fs:List (Str×V))
 | own (x:Addr)
 | xd (fs:List (Str×V))
 | met (f x:Addr)
 | rng (lo hi:Int)
 | frz (o:Obj) (u:HO)
 | tbl (ps:Array Value)
 | ext (φ:Heap→Prop)
abbrev Hp:=Addr→Option HO
def upd (H:Hp) (a:Addr) (o:HO):Hp:=fun b=>if b=a then some o else H b
theorem aw {H:Hp}{a:Addr}{o:HO}:upd H a o a=some o:=by unfold upd; rw [if_pos rfl]
theorem aj {H:Hp}{a b:Addr}{o:HO} (h:b ≠ a):upd H a o b=H b:=by unfold upd; rw [if_neg h]
theorem DP {H:Hp}{a b:Addr}{o u:HO} (h:H a=some o) (h':H b=some u) (d:o ≠ u):a ≠ b:=by
 intro e; subst e; rw [h] at h'; exact d (E4 h')
theorem bT {H:Hp}{a b:Addr}{o:HO} (h:H a=some o) (h':H b=none):a ≠ b:=by
 intro e; subst e; rw [h] at h'; cases h'
section
variable (P:Program) (w:World)
def cm (H:Hp) (h:Heap) (a:Addr):HO→Prop
 | .lst xs=>xs.length≤sizeLine∧∃ (its:List Value) (n:Nat),aR xs its∧h.get? a=some { cls:=.type "list",data:=.seq its.toArray n }
 | .tup xs=>xs.length≤sizeLine∧∃ its:List Value,aR xs its∧IsTup h a its.toArray
 | .dK kvs=>kvs.length≤sizeLine∧(a == sysModules)=false∧∃ vs,KV kvs vs∧h.DictOf (bf P w) a vs
 | .dT kvs=>kvs.length≤sizeLine∧(a == sysModules)=false∧∃ xs:List (List Key×Addr×Value),
   Paired (fun (p:List Key×V) (q:List Key×Addr×Value)=>p.1=q.1∧H q.2.1=some (.tup (p.1.map kV))∧aS p.2 q.2.2) kvs xs ∧
   ∃ o es ep,h.get? a=some o∧o.ExactDict∧o.data=.dict es ep∧es.toList=xs.map (entryOfKey (tupleKind (bf P w)))∧(xs.map (·.1)).Nodup
 | .set S n=>h.SetOf (intKind P w) a S n
 | .ins C dx fs=>H dx=some (.own a)∧fs.length≤1000∧dx ≠ a∧h.get? a=some (PySem.W.instObj C dx) ∧
   ∃ mA,h.Ns1 dx mA∧(∀ f,eI (fs.lookup f) (mA f))∧PySem.Within mA (fs.map (·.1))
 | .own _=>∃ o,h.get? a=some o
 | .xd fs=>∃ mA,h.Ns1 a mA∧∀ f,eI (fs.lookup f) (mA f)
 | .rng lo hi=>∃ t u v,h.get? a=some { cls:=.type "range",data:=.fields #[.int lo t,.int hi u,.int 1 v] }
 | .frz o u=>h.get? a=some o∧cm H h a u
 | .tbl ps=>h.get? a=some { cls:=.none,data:=.fields ps }
 | .met f x=>h.get? a=some (PySem.W.methodObj (.ref f) (.ref x))
 | .ext φ=>φ h∧(∃ o,h.get? a=some o)∧∀ h1 h2:Heap,φ h1→(∀ o,h1.get? a=some o→h2.get? a=some o)→φ h2
def HOk (H:Hp) (h:Heap):Prop:=∀ a o,H a=some o→cm P w H h a o
end
section
variable {P:Program}{w:World}{H H':Hp}{h h':Heap}{a:Addr}{o:HO}
theorem cm.lt (x:cm P w H h a o):a < h.objs.size:=by
 cases o with
 | lst xs=>obtain ⟨_,_,_,_,e⟩:=x; exact E6 e
 | tup xs=>obtain ⟨_,_,_,p⟩:=x; exact p.lt
 | dK kvs=>obtain ⟨_,_,_,_,o,_,_,e,_⟩:=x; exact E6 e
 | dT kvs=>obtain ⟨_,_,_,_,o,_,_,e,_⟩:=x; exact E6 e
 | set S n=>obtain ⟨o,_,_,_,e,_⟩:=x; exact E6 e
 | ins C dx fs=>obtain ⟨_,_,_,e,_⟩:=x; exact E6 e
 | own y=>obtain ⟨_,e⟩:=x; exact E6 e
 | xd fs=>obtain ⟨_,⟨_,_,_,e,_⟩,_⟩:=x; exact E6 e
 | rng lo hi=>obtain ⟨_,_,_,e⟩:=x; exact E6 e
 | frz ob u=>obtain ⟨e,_⟩:=x; exact E6 e
 | tbl ps=>exact E6 (show h.get? a=some _ from x)
 | met f y=>exact E6 (show h.get? a=some _ from x)
 | ext φ=>obtain ⟨_,⟨_,e⟩,_⟩:=x; exact E6 e
theorem Paired.mapP {α β:Type}{F G:α→β→Prop}:∀ {l₁:List α}{l₂:List β},Paired F l₁ l₂→(∀ a b,F a b→G a b)→Paired G l₁ l₂
 := fun r f=>by
  cases r with
  | nil=>exact .nil
  | cons r t=>exact .cons (f _ _ r) (Paired.mapP t f)
theorem cm.stay (x:cm P w H h a o) (k:∀ b u,(b=a∨H b=some (.own a))→h.get? b=some u→h'.get? b=some u)
  (ho:∀ b,H b=some (.own a)→H' b=some (.own a)) (ht:∀ b xs,H b=some (.tup xs)→H' b=some (.tup xs)):cm P w H' h' a o:=by
 induction o with
 | lst xs=>obtain ⟨z,its,n,r,e⟩:=x; exact ⟨z,its,n,r,k _ _ (.inl rfl) e⟩
 | tup xs=>obtain ⟨z,its,r,ob,e,c⟩:=x; exact ⟨z,its,r,ob,k _ _ (.inl rfl) e,c⟩
 | dK kvs=>obtain ⟨z,y,vs,r,ob,es,ep,e,c⟩:=x; exact ⟨z,y,vs,r,ob,es,ep,k _ _ (.inl rfl) e,c⟩
 | dT kvs =>
  obtain ⟨z,y,xs,r,ob,es,ep,e,c⟩:=x
  exact ⟨z,y,xs,Paired.mapP r fun p q z=>⟨z.1,ht _ _ z.2.1,z.2.2⟩,ob,es,ep,k _ _ (.inl rfl) e,c⟩
 | set S n=>obtain ⟨ob,es,ep,t,e,c⟩:=x; exact ⟨ob,es,ep,t,k _ _ (.inl rfl) e,c⟩
 | ins C dx fs =>
  obtain ⟨d,z,ne,e,mA,⟨od,es,ep,e2,c⟩,r⟩:=x
  exact ⟨ho _ d,z,ne,k _ _ (.inl rfl) e,mA,⟨od,es,ep,k _ _ (.inr d) e2,c⟩,r⟩
 | own y=>obtain ⟨ob,e⟩:=x; exact ⟨ob,k _ _ (.inl rfl) e⟩
 | xd fs=>obtain ⟨mA,⟨od,es,ep,e,c⟩,r⟩:=x; exact ⟨mA,⟨od,es,ep,k _ _ (.inl rfl) e,c⟩,r⟩
 | rng lo hi=>obtain ⟨t,u,v,e⟩:=x; exact ⟨t,u,v,k _ _ (.inl rfl) e⟩
 | frz ob u ih=>obtain ⟨e,q⟩:=x; exact ⟨k _ _ (.inl rfl) e,ih q⟩
 | tbl ps =>
  have e:h.get? a=some { cls:=.none,data:=.fields ps }:=x
  show h'.get? a=some { cls:=.none,data:=.fields ps }
  exact k a _ (.inl rfl) e
 | met f y =>
  have e:h.get? a=some (PySem.W.methodObj (.ref f) (.ref y)):=x
  show h'.get? a=some (PySem.W.methodObj (.ref f) (.ref y))
  exact k a _ (.inl rfl) e
 | ext φ=>obtain ⟨p,⟨o,e⟩,st⟩:=x; exact ⟨st _ _ p fun o q=>k _ _ (.inl rfl) q,⟨o,k _ _ (.inl rfl) e⟩,st⟩
theorem HOk.lt (x:HOk P w H h) (e:H a=some o):a < h.objs.size:=(x a o e).lt
theorem HOk.fresh (x:HOk P w H h) (e:h.objs.size≤a):H a=none:=by
 cases q:H a with
 | none=>rfl
 | some u=>exact absurd (Fi (x.lt q) e) (Gr _)
theorem HOk.kept (x:HOk P w H h) (k:∀ b u,h.get? b=some u→h'.get? b=some u):HOk P w H h':=fun a o e =>
 (x a o e).stay (fun b u _ q=>k b u q) (fun _ q=>q) fun _ _ q=>q
theorem HOk.laid (x:HOk P w H h) (k:∀ b u,h.get? b=some u→h'.get? b=some u) (hp:h.objs.size≤a) (new:cm P w (upd H a o) h' a o):HOk P w (upd H a o) h':=fun b u e=>by
 have hn:=x.fresh hp
 by_cases hb:b=a
 ·subst hb; rw [aw] at e; cases e; exact new
 ·rw [aj hb] at e
  exact (x b u e).stay (fun c v _ q=>k c v q) (fun c q=>by rw [aj (bT q hn)]; exact q) fun c xs q=>by rw [aj (bT q hn)]; exact q
end
def Rd (H:Hp) (a:Addr) (u:HO):Prop:=H a=some u∨∃ o,H a=some (.frz o u)
theorem Rd.ok {P:Program}{w:World}{H:Hp}{h:Heap}{a:Addr}{u:HO} (r:Rd H a u) (x:HOk P w H h):cm P w H h a u:=by
 rcases r with r | ⟨o,r⟩
 ·exact x a u r
 ·obtain ⟨_,q⟩:=x a _ r
  exact q
def Mut:Option HO→Prop
 | some (.lst _)=>True
 | some (.dK _)=>True
 | some (.dT _)=>True
 | some (.set _ _)=>True
 | some (.ins _ _ _)=>True
 | some (.ext _)=>True
 | _=>False
section
variable {P:Program}{w:World}{H:Hp}{h h':Heap}{x e:Addr}{o':HO}
theorem HOk.write (ok:HOk P w H h) (mu:Mut (H x)) (he:e=x∨H e=some (.own x)) (k:∀ b u,b ≠ e→h.get? b=some u→h'.get? b=some u) (heo:∃ u,h'.get? e=some u)
  (new:cm P w (upd H x o') h' x o'):HOk P w (upd H x o') h':=fun b u q=>by
 have nown:∀ c y,H c=some (.own y)→c ≠ x:=fun c y r z=>by subst z; rw [r] at mu; exact mu
 have ntup:∀ c xs,H c=some (.tup xs)→c ≠ x:=fun c xs r z=>by subst z; rw [r] at mu; exact mu
 by_cases hb:b=x
 ·subst hb; rw [aw] at q; cases q; exact new
 ·rw [aj hb] at q
  by_cases hbe:b=e
  ·have q':H b=some (.own x):=by
    rcases he with z | z
    ·exact absurd (hbe.trans z) hb
    ·rw [hbe]; exact z
   rw [q] at q'; cases q'
   obtain ⟨v,hv⟩:=heo
   exact ⟨v,by rw [hbe]; exact hv⟩
  ·refine (ok b u q).stay (fun c v hc r=>k c v ?_ r) (fun c r=>by rw [aj (nown c b r)]; exact r) fun c xs r=>by rw [aj (ntup c xs r)]; exact r
   rcases hc with rfl | hc
   ·exact hbe
   ·rintro rfl
    rcases he with z | z
    ·exact nown c b hc z
    ·rw [hc] at z; cases z; exact hb rfl
end
structure Un (fs ex:List Addr) (H H':Hp) (h h':Heap):Prop where
 keep:∀ b o,h.get? b=some o→H b=none→b ∉ fs→b ∉ ex→h'.get? b=some o
 slot:∀ b o,h.get? b=some o→H b=none→b ∈ fs→b ∉ ex→∃ sl,h'.get? b=some { o with slots:=sl }
 free:∀ b o,h.get? b=some o→H b=none→b ∉ ex→H' b=none
 there:∀ b o,h.get? b=some o→b ∉ ex→∃ o',h'.get? b=some o'
 tups:∀ b xs,H b=some (.tup xs)→H' b=some (.tup xs)
 frzs:∀ b o u,H b=some (.frz o u)→H' b=some (.frz o u)
 tbls:∀ b ps,H b=some (.tbl ps)→∃ more,H' b=some (.tbl (ps ++ more))
section
variable {fs fs' ex ex':List Addr}{H H1 H2:Hp}{h h1 h2 h':Heap}{a x e:Addr}{o:HO}
theorem Un.any (u:Un fs ex H H1 h h1) {b:Addr}{ob:Obj} (q:h.get? b=some ob) (n:H b=none) (hx:b ∉ ex):∃ sl,h1.get? b=some { ob with slots:=sl }:=by
 by_cases hb:b ∈ fs
 ·exact u.slot b ob q n hb hx
 ·exact ⟨ob.slots,u.keep b ob q n hb hx⟩
theorem Un.kept (k:∀ b u,h.get? b=some u→h'.get? b=some u):Un fs ex H H h h' :=
 ⟨fun b ob q _ _ _=>k b ob q,fun b ob q _ _ _=>⟨ob.slots,k b ob q⟩,fun _ _ _ n _=>n,fun b ob q _=>⟨ob,k b ob q⟩,fun _ _ q=>q,fun _ _ _ q=>q,fun _ ps q=>⟨#[],by rw [q]; simp⟩⟩
theorem Un.refl:Un fs ex H H h h:=Un.kept fun _ _ q=>q
theorem Un.laid (k:∀ b u,h.get? b=some u→h'.get? b=some u) (hp:h.objs.size≤a) (hn:H a=none):Un fs ex H (upd H a o) h h' where
 keep:=fun b u q _ _ _=>k b u q
 slot:=fun b u q _ _ _=>⟨u.slots,k b u q⟩
 free:=fun b u q n _=>by rw [aj (Fh (Fi (E6 q) hp))]; exact n
 there:=fun b u q _=>⟨u,k b u q⟩
 tups:=fun b xs q=>by rw [aj (bT q hn)]; exact q
 frzs:=fun b u xs q=>by rw [aj (bT q hn)]; exact q
 tbls:=fun b ps q=>⟨#[],by rw [aj (bT q hn),q]; simp⟩
theorem Un.write (mu:Mut (H x)) (he:e=x∨H e=some (.own x)) (k:∀ b u,b ≠ e→h.get? b=some u→h'.get? b=some u) (heo:∃ u,h'.get? e=some u):Un fs ex H (upd H x o) h h':=by
 have hx:∀ b,H b=none→b ≠ x:=fun b n z=>by subst z; rw [n] at mu; exact mu
 have hb:∀ b,H b=none→b ≠ e:=fun b n z=>by
  subst z
  rcases he with r | r
  ·exact hx b n r
  ·rw [n] at r; cases r
 have hm:∀ b u,H b=some u→¬ Mut (some u)→b ≠ x:=fun b u q nm z=>by subst z; rw [q] at mu; exact nm mu
 refine ⟨fun b u q n _ _=>k b u (hb b n) q,fun b u q n _ _=>⟨u.slots,k b u (hb b n) q⟩,fun b u q n _=>by rw [aj (hx b n)]; exact n,fun b u q _=>?_,
  fun b xs q=>by rw [aj (hm b _ q fun z=>z)]; exact q,fun b u xs q=>by rw [aj (hm b _ q fun z=>z)]; exact q,fun b ps q=>⟨#[],by rw [aj (hm b _ q fun z=>z),q]; simp⟩⟩
 by_cases hbe:b=e
 ·subst hbe; exact heo
 ·exact ⟨u,k b u hbe q⟩
end
def trk (h:Heap) (H:Hp):List Addr:=(List.range h.objs.size).filter fun a=>(H a).isSome
def nF (h:Heap) (H:Hp):Heap:=PySem.W.hideAll h (trk h H)
theorem u7 (h:Heap) (H:Hp):(nF h H).objs.size=h.objs.size:=PySem.W.hideAll_size _ _
theorem xI {h:Heap}{H:Hp}{b:Addr}{o:Obj} (e:h.get? b=some o) (n:H b=none):(nF h H).get? b=some o :=
 PySem.W.hideAll_get _ e fun hm=>by
  have q:(H b).isSome=true:=(List.mem_filter.mp hm).2
  rw [n] at q; simp at q
theorem zH {h:Heap}{H:Hp}{b:Addr}{o:Obj} (e:(nF h H).get? b=some o):h.get? b=some o∧H b=none:=by
 have e':h.get? b=some o:=PySem.W.of_hideAll (trk h H) e
 refine ⟨e',?_⟩
 cases q:H b with
 | none=>rfl
 | some x =>
  have hm:b ∈ trk h H:=List.mem_filter.mpr ⟨List.mem_range.mpr (E6 e'),by simp [q]⟩
  have z:(nF h H).get? b=none:=PySem.W.hideAll_none (trk h H) hm
  rw [z] at e; cases e
def Aw (g h:Heap) (L:Addr):List (Addr×Obj):=(List.range h.objs.size).filterMap fun a=>if a=L∨(g.get? a).isSome=true then none else (h.get? a).map fun o=>(a,o)
def bI (g h:Heap) (L d:Addr):List (Addr×Obj):=(Aw g h L).filter fun p=>decide (p.1 ≠ d)
structure Mod (K:PySem.W.Frag) (mg:Str→Option Value) (base:Heap):Prop where
 kin:K.In base
 glob:base.Ns mainGlobals mg
 blt:∃ mb,base.Ns builtinsNs mb∧∀ x:Str,x ≠ "__name__"→mb x=bootBuiltins x
 nolimit:base.NoLimit
structure Cx where
 prog:Program
 w:World
 K:PySem.W.Frag
 mg:Str→Option Value
 base:Heap
 A:Around
 N:List Str
 s₀:Shared
 H₀:Hp
 env:Env
 outer:List Env
 stack:List Env
 ex:List Addr
 fn:Str→Bool
 calm:Bool
 pn:List (Addr×Obj)
 xe:Value→Shared→Prop
def frs (l:List Env):List Addr:=l.filterMap (·.frame)
abbrev Cx.fs (X:Cx):List Addr:=frs X.outer
def Vis (sc:Scope) (x:Str):Prop:=sc.names.lookup x=some .local∨sc.names.lookup x=some .cell∨sc.names.lookup x=some .free
def Loc (sc:Scope) (x:Str):Prop:=sc.names.lookup x=some .local∨sc.names.lookup x=some .cell
def EE (env:Env) (h:Heap) (m:Str→Option Value) (x:Str) (u:Value):Prop :=
 (env.kindOf x=some .local∧m x=some u)∨((env.kindOf x=some .cell∨env.kindOf x=some .free)∧∃ c,env.cells.lookup x=some c∧h.IsCell c (some u))
structure Cx.Ok (X:Cx):Prop where
 mod:Mod X.K X.mg X.base
 kind:X.env.scope.kind=.function
 glob:X.env.globals=mainGlobals
 blt:X.env.builtins=builtinsNs
 above:X.s₀.heap.objs.size≤X.env.locals
 inj:∀ x y c,X.env.cells.lookup x=some c→X.env.cells.lookup y=some c→x=y
 has:∀ x,(X.env.kindOf x=some .cell∨X.env.kindOf x=some .free)→∃ c,X.env.cells.lookup x=some c
 cab:∀ x c,X.fn x=true→X.env.cells.lookup x=some c→X.s₀.heap.objs.size≤c
 hd:X.calm=true→X.A.handled=none
 frames:X.A.frames=some X.stack
 stk:X.stack=X.outer∨(X.stack=X.env :: X.outer∧X.env.frame=some X.env.locals)
 exf:∀ b ∈ X.ex,b ≠ X.env.locals∧∀ x c,X.env.cells.lookup x=some c→c ≠ b
 bs:∀ b o,X.base.get? b=some o→X.s₀.heap.get? b=some o∧X.H₀ b=none
 bsz:X.base.objs.size≤X.s₀.heap.objs.size
 noex:∀ b o,X.base.get? b=some o→b ∉ X.ex
 exfs:∀ b ∈ X.ex,b ∉ X.fs
 funs:X.s₀.heap.FunFrames X.base X.outer
 frf:∀ b ∈ X.fs,X.H₀ b=none
structure Inv (X:Cx) (pins:List (Addr×Obj)) (σ:List (Option V)) (H:Hp) (s:Shared):Prop where
 ok:X.Ok
 os:s.os=X.s₀.os
 bare:AllBare s.gens
 base:Un X.fs X.ex X.H₀ H X.s₀.heap s.heap
 loc:∃ m,s.heap.Ns X.env.locals m∧∀ (i:Nat) (x:Str) (v:V),X.N[i]? = some x→σ[i]? = some (some v)→Vis X.env.scope x→∃ u,aS v u∧EE X.env s.heap m x u
 cell:∀ x c,X.env.cells.lookup x=some c→∃ v,s.heap.IsCell c v
 free:H X.env.locals=none
 freeC:∀ x c,X.env.cells.lookup x=some c→H c=none
 pin:∀ p ∈ X.pn ++ pins,s.heap.get? p.1=some p.2∧H p.1=none∧p.1 ≠ X.env.locals∧p.1 ∉ X.fs∧∀ v,p.2.data ≠ .cell v
 hok:HOk X.prog X.w H s.heap
 len:σ.length=X.N.length
section
variable {X:Cx}{pins:List (Addr×Obj)} {σ:List (Option V)} {H H':Hp}{s:Shared}{h':Heap}
theorem Cx.Ok.nofr (ok:X.Ok) {b:Addr}{o:Obj} (e:X.base.get? b=some o):b ∉ X.fs:=fun hb=>by
 have:=(ok.funs.mem hb).1
 rw [e] at this; cases this
theorem Inv.bs (I:Inv X pins σ H s):∀ b o,X.base.get? b=some o→s.heap.get? b=some o∧H b=none:=fun b o e =>
 ⟨I.base.keep b o (I.ok.bs b o e).1 (I.ok.bs b o e).2 (I.ok.nofr e) (I.ok.noex b o e),I.base.free b o (I.ok.bs b o e).1 (I.ok.bs b o e).2 (I.ok.noex b o e)⟩
theorem Inv.bk (I:Inv X pins σ H s):∀ b o,X.base.get? b=some o→s.heap.get? b=some o:=fun b o e=>(I.bs b o e).1
theorem Inv.mod (I:Inv X pins σ H s):Mod X.K X.mg X.base:=I.ok.mod
theorem Inv.kIn (I:Inv X pins σ H s):X.K.In s.heap:=I.ok.mod.kin.keeps I.bk
theorem Inv.lt (I:Inv X pins σ H s):X.env.locals < s.heap.objs.size:=let ⟨_,hn,_⟩:=I.loc; hn.lt
theorem Inv.sz (I:Inv X pins σ H s):X.s₀.heap.objs.size≤s.heap.objs.size:=Fa I.ok.above (Gm I.lt)
theorem Inv.nofs (I:Inv X pins σ H s) {a:Addr} (h:s.heap.objs.size≤a):a ∉ X.fs:=fun hb=>by
 obtain ⟨_,o,ho,_⟩:=I.ok.funs.mem hb
 exact absurd (Fi (E6 ho) (Fa I.sz h)) (Gr _)
theorem Inv.cne (I:Inv X pins σ H s):∀ x c,X.env.cells.lookup x=some c→c ≠ X.env.locals:=fun x c e z=>by
 obtain ⟨v,o,ho,hd⟩:=I.cell x c e
 obtain ⟨m,⟨o',es,ep,ho',hd',_⟩,_⟩:=I.loc
 rw [z,ho'] at ho; cases ho; rw [hd'] at hd; cases hd
theorem Inv.funs (I:Inv X pins σ H s):s.heap.FunFrames X.base X.outer:=by
 have all:∀ (l:List Env),(∀ b ∈ frs l,b ∈ X.fs)→X.s₀.heap.FunFrames X.base l→s.heap.FunFrames X.base l:=by
  intro l
  induction l with
  | nil=>intro _ _; trivial
  | cons env r ih =>
   intro hs hl
   obtain ⟨hk,⟨L,o,hf,hn,ho,hd⟩,hr⟩:=hl
   have hL:L ∈ X.fs:=hs L (by unfold frs; rw [Gs,hf]; exact Fd)
   obtain ⟨sl,e⟩:=I.base.slot L o ho (I.ok.frf L hL) hL fun z=>I.ok.exfs L z hL
   exact ⟨hk,⟨L,_,hf,hn,e,hd⟩,ih (fun b hb=>hs b (by unfold frs; rw [Gs,hf]; exact E7 _ hb)) hr⟩
 exact all X.outer (fun _ hb=>hb) I.ok.funs
theorem Inv.stack (I:Inv X pins σ H s):s.heap.FunFrames X.base X.stack:=by
 rcases I.ok.stk with e | ⟨e,hf⟩
 ·rw [e]; exact I.funs
 ·rw [e]
  obtain ⟨m,hn,_⟩:=I.loc
  refine .cons (by rw [I.ok.kind]; decide) hf hn ?_ I.funs
  exact Heap.get?_none_of_le (Fa I.ok.bsz I.ok.above)
theorem Inv.stkSub (I:Inv X pins σ H s):∀ b ∈ frs X.stack,b ∈ X.env.locals :: X.fs:=fun b hb=>by
 rcases I.ok.stk with e | ⟨e,hf⟩
 ·rw [e] at hb; exact E7 _ hb
 ·rw [e] at hb
  unfold frs at hb
  rw [Gs,hf] at hb
  exact hb
theorem Inv.stkFree (I:Inv X pins σ H s):∀ b ∈ frs X.stack,H b=none:=fun b hb=>by
 rcases List.mem_cons.mp (I.stkSub b hb) with e | hb
 ·rw [e]; exact I.free
 ·obtain ⟨_,o,ho,_⟩:=I.ok.funs.mem hb
  exact I.base.free b o ho (I.ok.frf b hb) fun z=>I.ok.exfs b z hb
theorem Inv.step {g':Array GenState}{t':Nat}{d':Drawn}{ch:List Addr} (I:Inv X pins σ H s)
  (hch:∀ b ∈ ch,(b ∈ X.ex∨X.s₀.heap.objs.size≤b)∧b ≠ X.env.locals∧(∀ x c,X.env.cells.lookup x=some c→c ≠ b)∧∀ p ∈ X.pn ++ pins,p.1 ≠ b)
  (keep:∀ b o,b ≠ X.env.locals→b ∉ X.fs→b ∉ ch→s.heap.get? b=some o→H b=none→h'.get? b=some o)
  (slot:∀ b o,b ≠ X.env.locals→b ∈ X.fs→b ∉ ch→s.heap.get? b=some o→H b=none→∃ sl,h'.get? b=some { o with slots:=sl }) (free:∀ b o,b ∉ ch→s.heap.get? b=some o→H b=none→H' b=none)
  (there:∀ b o,b ∉ ch→s.heap.get? b=some o→∃ o',h'.get? b=some o')
  (tups:∀ b xs,H b=some (.tup xs)→H' b=some (.tup xs)) (frzs:∀ b o u,H b=some (.frz o u)→H' b=some (.frz o u)) (tbls:∀ b ps,H b=some (.tbl ps)→∃ more,H' b=some (.tbl (ps ++ more)))
  (ns:∀ m,s.heap.Ns X.env.locals m→h'.Ns X.env.locals m) (hok:HOk X.prog X.w H' h') (hg:AllBare g') :
  Inv X pins σ H' { s with heap:=h',gens:=g',drawn:=d',toks:=t' }:=by
 have neL:∀ b o,X.s₀.heap.get? b=some o→b ≠ X.env.locals:=fun b o e=>Fh (Fi (E6 e) I.ok.above)
 have neC:∀ b o,X.s₀.heap.get? b=some o→b ∉ X.ex→b ∉ ch:=fun b o e hx hb=>by
  rcases (hch b hb).1 with z | z
  ·exact hx z
  ·exact absurd (Fi (E6 e) z) (Gr _)
 have cellK:∀ x c,X.env.cells.lookup x=some c→∀ v,s.heap.IsCell c v→h'.IsCell c v:=fun x c e v zz1_0=>by
  obtain ⟨o,ho,hd⟩:=zz1_0
  have nch:c ∉ ch:=fun z=>(hch c z).2.2.1 x c e rfl
  by_cases hc:c ∈ X.fs
  ·obtain ⟨sl,q⟩:=slot c o (I.cne x c e) hc nch ho (I.freeC x c e)
   exact ⟨_,q,hd⟩
  ·exact ⟨o,keep c o (I.cne x c e) hc nch ho (I.freeC x c e),hd⟩
 refine ⟨I.ok,I.os,hg,⟨fun b o e n hb hx=>?_,fun b o e n hb hx=>?_,fun b o e n hx=>?_,fun b o e hx=>?_,fun b xs e=>tups b xs (I.base.tups b xs e),fun b o xs e=>frzs b o xs (I.base.frzs b o xs e),fun b ps e=>?_⟩,?_,fun x c e=>?_,?_,fun x c e=>?_,fun p hp=>?_,hok,I.len⟩
 ·exact keep b o (neL b o e) hb (neC b o e hx) (I.base.keep b o e n hb hx) (I.base.free b o e n hx)
 ·obtain ⟨sl,e1⟩:=I.base.slot b o e n hb hx
  obtain ⟨sl',e2⟩:=slot b _ (neL b o e) hb (neC b o e hx) e1 (I.base.free b o e n hx)
  exact ⟨sl',e2⟩
 ·obtain ⟨o',e1⟩:=I.base.there b o e hx
  exact free b o' (neC b o e hx) e1 (I.base.free b o e n hx)
 ·obtain ⟨o',e1⟩:=I.base.there b o e hx
  exact there b o' (neC b o e hx) e1
 ·obtain ⟨m1,e1⟩:=I.base.tbls b ps e
  obtain ⟨m2,e2⟩:=tbls b _ e1
  exact ⟨m1 ++ m2,by rw [e2,Array.append_assoc]⟩
 ·obtain ⟨m,hn,hl⟩:=I.loc
  refine ⟨m,ns m hn,fun i x v e1 e2 e3=>?_⟩
  obtain ⟨u,r,l⟩:=hl i x v e1 e2 e3
  refine ⟨u,r,?_⟩
  rcases l with l | ⟨k,c,e,z⟩
  ·exact .inl l
  ·exact .inr ⟨k,c,e,cellK x c e _ z⟩
 ·obtain ⟨v,z⟩:=I.cell x c e
  exact ⟨v,cellK x c e v z⟩
 ·obtain ⟨m,⟨o,_,_,ho,_⟩,_⟩:=I.loc
  exact free _ o (fun z=>(hch _ z).2.1 rfl) ho I.free
 ·obtain ⟨v,o,ho,hd⟩:=I.cell x c e
  exact free c o (fun z=>(hch c z).2.2.1 x c e rfl) ho (I.freeC x c e)
 ·obtain ⟨e,n,ne,nf,d⟩:=I.pin p hp
  have nch:p.1 ∉ ch:=fun z=>(hch p.1 z).2.2.2 p hp rfl
  exact ⟨keep p.1 p.2 ne nf nch e n,free p.1 p.2 nch e n,ne,nf,d⟩
theorem Inv.un {t':Nat} (I:Inv X pins σ H s) (u:Un X.fs [] H H' s.heap h') (hok:HOk X.prog X.w H' h'):Inv X pins σ H' { s with heap:=h',toks:=t' }:=by
 obtain ⟨m,⟨o,es,ep,ho,r⟩,_⟩:=id I.loc
 obtain ⟨sl,hL⟩:=u.any ho I.free (by simp)
 exact I.step (g':=s.gens) (d':=s.drawn) (ch:=[]) (fun _ z=>nomatch z) (fun b o _ hb _ e n=>u.keep b o e n hb (by simp)) (fun b o _ hb _ e n=>u.slot b o e n hb (by simp)) (fun b o _ e n=>u.free b o e n (by simp)) (fun b o _ e=>u.there b o e (by simp)) u.tups u.frzs u.tbls (fun m' hm=>by
  obtain ⟨o',es',ep',ho',r'⟩:=hm
  rw [ho] at ho'; cases ho'
  exact ⟨_,es',ep',hL,r'⟩) hok I.bare
theorem Inv.call {g':Array GenState}{t':Nat}{d':Drawn}{ch:List Addr} (I:Inv X pins σ H s) (u:Un (frs X.stack) ch H H' s.heap h') (hok:HOk X.prog X.w H' h') (hg:AllBare g')
  (hch:∀ b ∈ ch,(b ∈ X.ex∨X.s₀.heap.objs.size≤b)∧b ≠ X.env.locals∧(∀ x c,X.env.cells.lookup x=some c→c ≠ b)∧∀ p ∈ X.pn ++ pins,p.1 ≠ b) :
  Inv X pins σ H' { s with heap:=h',gens:=g',drawn:=d',toks:=t' }:=by
 obtain ⟨m,⟨o,es,ep,ho,r⟩,_⟩:=id I.loc
 obtain ⟨sl,hL⟩:=u.any ho I.free fun z=>(hch _ z).2.1 rfl
 exact I.step (ch:=ch) hch (fun b o hL hb hc e n=>u.keep b o e n (fun z=>(List.mem_cons.mp (I.stkSub b z)).elim hL hb) hc) (fun b o _ _ hc e n=>u.any e n hc) (fun b o hc e n=>u.free b o e n hc) (fun b o hc e=>u.there b o e hc) u.tups u.frzs u.tbls (fun m' hm=>by
  obtain ⟨o',es',ep',ho',r'⟩:=hm
  rw [ho] at ho'; cases ho'
  exact ⟨_,es',ep',hL,r'⟩) hok hg
theorem Inv.turned {t':Nat}{it:Addr} (I:Inv X pins σ H s) (k:∀ b o,b ≠ it→s.heap.get? b=some o→h'.get? b=some o) (hn:H it=none) (hL:it ≠ X.env.locals)
  (h1:it ∈ X.ex∨X.s₀.heap.objs.size≤it) (h2:∀ x c,X.env.cells.lookup x=some c→c ≠ it) (h3:∀ p ∈ X.pn ++ pins,p.1 ≠ it):Inv X pins σ H { s with heap:=h',toks:=t' }:=by
 have nit:∀ b u,H b=some u→b ≠ it:=fun b u e z=>by rw [z,hn] at e; cases e
 refine I.step (g':=s.gens) (d':=s.drawn) (ch:=[it]) (fun b hb=>?_) (fun b o _ _ hc e _=>k b o (fun z=>hc (by simp [z])) e) (fun b o _ _ hc e _=>⟨o.slots,k b o (fun z=>hc (by simp [z])) e⟩) (fun _ _ _ _ n=>n)
  (fun b o hc e=>⟨o,k b o (fun z=>hc (by simp [z])) e⟩) (fun _ _ e=>e) (fun _ _ _ e=>e) (fun b ps e=>⟨#[],by rw [e]; simp⟩) (fun m hm=>?_) (fun b u e=>?_) I.bare
 ·have e:b=it:=by simpa using hb
  subst e
  exact ⟨h1,hL,h2,h3⟩
 ·obtain ⟨o,es,ep,ho,r⟩:=hm
  exact ⟨o,es,ep,k _ o (Ne.symm hL) ho,r⟩
 ·refine (I.hok b u e).stay (fun c v hc q=>k c v ?_ q) (fun _ q=>q) fun _ _ q=>q
  rcases hc with z | z
  ·rw [z]; exact nit b u e
  ·exact nit c _ z
theorem Inv.tok (I:Inv X pins σ H s) (t:Nat):Inv X pins σ H { s with toks:=t }:=I.un (h':=s.heap) (t':=t) Un.refl I.hok
theorem Inv.kept {t':Nat} (I:Inv X pins σ H s) (k:∀ b u,s.heap.get? b=some u→h'.get? b=some u):Inv X pins σ H { s with heap:=h',toks:=t' }:=I.un (Un.kept k) (I.hok.kept k)
theorem Inv.laid {a:Addr}{o:HO}{t':Nat} (I:Inv X pins σ H s) (k:∀ b u,s.heap.get? b=some u→h'.get? b=some u) (hp:s.heap.objs.size≤a) (new:cm X.prog X.w (upd H a o) h' a o) :
  Inv X pins σ (upd H a o) { s with heap:=h',toks:=t' }:=I.un (Un.laid k hp (I.hok.fresh hp)) (I.hok.laid k hp new)
theorem Inv.write {x e:Addr}{o:HO}{t':Nat} (I:Inv X pins σ H s) (mu:Mut (H x)) (he:e=x∨H e=some (.own x)) (k:∀ b u,b ≠ e→s.heap.get? b=some u→h'.get? b=some u) (heo:∃ u,h'.get? e=some u)
  (new:cm X.prog X.w (upd H x o) h' x o):Inv X pins σ (upd H x o) { s with heap:=h',toks:=t' }:=I.un (Un.write mu he k heo) (I.hok.write mu he k heo new)
theorem Inv.pins_of {pins':List (Addr×Obj)} (I:Inv X pins σ H s) (h:∀ p ∈ pins',s.heap.get? p.1=some p.2∧H p.1=none∧p.1 ≠ X.env.locals∧p.1 ∉ X.fs∧∀ v,p.2.data ≠ .cell v):Inv X pins' σ H s :=
 ⟨I.ok,I.os,I.bare,I.base,I.loc,I.cell,I.free,I.freeC,fun p hp=>(List.mem_append.mp hp).elim (fun z=>I.pin p (GE _ z)) (h p),I.hok,I.len⟩
theorem km {N:List Str} (hN:N.Nodup) {i j:Nat}{x:Str} (a:N[i]? = some x) (b:N[j]? = some x):i=j:=by
 obtain ⟨h1,e1⟩:=List.getElem?_eq_some_iff.mp a
 obtain ⟨h2,e2⟩:=List.getElem?_eq_some_iff.mp b
 exact (List.getElem_inj hN).mp (e1.trans e2.symm)
theorem ui {M:Model}{A:Around}{E:Value→Shared→Prop}{i:Nat}{x:Str}{v:V}{u:Value}{Q:Unit→Shared→Prop} (I:Inv X pins σ H s) (hN:X.N.Nodup) (hi:X.N[i]? = some x) (hx:Loc X.env.scope x) (r:aS v u)
  (h:∀ s',Inv X pins (σ.set i (some v)) H s'→(∃ a,Heap.SameBut a s.heap s'.heap∧(a=X.env.locals∨X.env.cells.lookup x=some a))→Q () s') (hf:X.fn x=true∨X.env.scope.names.lookup x=some .local:=by first | exact .inl rfl | exact .inr rfl | assumption):wpAny M A (storeName X.env x u) Q E s:=by
 obtain ⟨m,hn,hl⟩:=id I.loc
 have hcls:(X.env.scope.kind == .class || (X.env.scope.kind == .module && X.env.locals != X.env.globals))=false:=by rw [I.ok.kind]; rfl
 have hiσ:i < σ.length:=by rw [I.len]; exact (List.getElem?_eq_some_iff.mp hi).1
 have cne:=I.cne
 have tracked:∀ {a:Addr}{h':Heap},(∃ o,s.heap.get? a=some o∧H a=none)→Heap.SameBut a s.heap h'→HOk X.prog X.w H h':=fun {a h'} ha hs b ob e=>by
  obtain ⟨_,_,hfree⟩:=ha
  refine (I.hok b ob e).stay (fun c w' hc q=>(hs.2 c ?_).trans q) (fun _ q=>q) fun _ _ q=>q
  rintro rfl
  rcases hc with rfl | hc
  ·rw [hfree] at e; cases e
  ·rw [hfree] at hc; cases hc
 rcases hx with hk | hk
 ·refine wpAny_storeName_local hk hn (fun h' hn' hs=>?_) hcls
  obtain ⟨oL,_,_,hoL,_⟩:=id hn
  refine h _ ⟨I.ok,I.os,I.bare,⟨fun b o e n hb hx=>?_,fun b o e n hb hx=>?_,I.base.free,fun b o e hx=>?_,I.base.tups,I.base.frzs,I.base.tbls⟩,⟨_,hn',fun j y v' e1 e2 e3=>?_⟩,fun y c e=>?_,I.free,I.freeC,fun p hp=>?_,tracked ⟨oL,hoL,I.free⟩ hs,by simpa using I.len⟩ ⟨_,hs,.inl rfl⟩
  ·exact (hs.2 b (Fh (Fi (E6 e) I.ok.above))).trans (I.base.keep b o e n hb hx)
  ·obtain ⟨sl,e1⟩:=I.base.slot b o e n hb hx
   exact ⟨sl,(hs.2 b (Fh (Fi (E6 e) I.ok.above))).trans e1⟩
  ·obtain ⟨o',e1⟩:=I.base.there b o e hx
   exact ⟨o',(hs.2 b (Fh (Fi (E6 e) I.ok.above))).trans e1⟩
  ·by_cases hj:j=i
   ·subst hj
    rw [hi] at e1; cases e1
    rw [FE hiσ] at e2
    cases e2
    exact ⟨u,r,.inl ⟨hk,by simp⟩⟩
   ·rw [E8 (Ne.symm hj)] at e2
    obtain ⟨u',r',q⟩:=hl j y v' e1 e2 e3
    refine ⟨u',r',?_⟩
    rcases q with ⟨k,e⟩ | ⟨k,c,e,z⟩
    ·refine .inl ⟨k,?_⟩
     have:y ≠ x:=fun e=>hj (km hN e1 (e ▸ hi))
     simp [this,e]
    ·exact .inr ⟨k,c,e,z.sameBut hs (cne y c e)⟩
  ·obtain ⟨w',z⟩:=I.cell y c e
   exact ⟨w',z.sameBut hs (cne y c e)⟩
  ·obtain ⟨e,n,ne,nf,d⟩:=I.pin p hp
   exact ⟨(hs.2 p.1 ne).trans e,n,ne,nf,d⟩
 ·have hfn:X.fn x=true:=by
   rcases hf with z | z
   ·exact z
   ·rw [z] at hk; cases hk
  obtain ⟨c,hc⟩:=I.ok.has x (.inl hk)
  obtain ⟨w',z⟩:=I.cell x c hc
  refine wpAny_storeName_cell I.ok.kind hk hc z (fun h' hc' hs=>?_)
  obtain ⟨oc,hoc,hocd⟩:=id z
  refine h { s with heap:=h' } ⟨I.ok,I.os,I.bare,⟨fun b o e n hb hx=>?_,fun b o e n hb hx=>?_,I.base.free,fun b o e hx=>?_,I.base.tups,I.base.frzs,I.base.tbls⟩,⟨m,hn.sameBut hs (Ne.symm (cne x c hc)),fun j y v' e1 e2 e3=>?_⟩,fun y c' e=>?_,I.free,I.freeC,fun p hp=>?_,tracked ⟨oc,hoc,I.freeC x c hc⟩ hs,by simpa using I.len⟩ ⟨c,hs,.inr hc⟩
  ·exact (hs.2 b (Fh (Fi (E6 e) (I.ok.cab x c hfn hc)))).trans (I.base.keep b o e n hb hx)
  ·obtain ⟨sl,e1⟩:=I.base.slot b o e n hb hx
   exact ⟨sl,(hs.2 b (Fh (Fi (E6 e) (I.ok.cab x c hfn hc)))).trans e1⟩
  ·obtain ⟨o',e1⟩:=I.base.there b o e hx
   exact ⟨o',(hs.2 b (Fh (Fi (E6 e) (I.ok.cab x c hfn hc)))).trans e1⟩
  ·by_cases hj:j=i
   ·subst hj
    rw [hi] at e1; cases e1
    rw [FE hiσ] at e2
    cases e2
    exact ⟨u,r,.inr ⟨.inl hk,c,hc,hc'⟩⟩
   ·rw [E8 (Ne.symm hj)] at e2
    obtain ⟨u',r',q⟩:=hl j y v' e1 e2 e3
    refine ⟨u',r',?_⟩
    rcases q with q | ⟨k,c',e,z'⟩
    ·exact .inl q
    ·refine .inr ⟨k,c',e,z'.sameBut hs ?_⟩
     rintro rfl
     exact hj (km hN e1 (I.ok.inj _ _ _ e hc ▸ hi))
  ·by_cases hcc:c'=c
   ·subst hcc; exact ⟨_,hc'⟩
   ·obtain ⟨w2,z2⟩:=I.cell y c' e
    exact ⟨w2,z2.sameBut hs hcc⟩
  ·obtain ⟨e,n,ne,nf,d⟩:=I.pin p hp
   refine ⟨(hs.2 p.1 ?_).trans e,n,ne,nf,d⟩
   intro q
   rw [q,hoc] at e
   have q':oc=p.2:=E4 e
   exact d w' (by rw [← q']; exact hocd)
theorem fW {M:Model}{A:Around}{E:Value→Shared→Prop}{i:Nat}{x:Str}{v:V}{u:Value}{Q:Unit→Shared→Prop} (I:Inv X pins σ H s) (hN:X.N.Nodup) (hi:X.N[i]? = some x) (hx:Loc X.env.scope x) (r:aS v u)
  (h:∀ s',Inv X pins (σ.set i (some v)) H s'→Q () s') (hf:X.fn x=true∨X.env.scope.names.lookup x=some .local:=by first | exact .inl rfl | exact .inr rfl | assumption):wpAny M A (storeName X.env x u) Q E s :=
 ui I hN hi hx r (fun s' I' _=>h s' I') hf
theorem Inv.call' {s':Shared}{ch:List Addr} (I:Inv X pins σ H s) (ho:s'.os=s.os) (u:Un (frs X.stack) ch H H' s.heap s'.heap) (hok:HOk X.prog X.w H' s'.heap) (hg:AllBare s'.gens)
  (hch:∀ b ∈ ch,(b ∈ X.ex∨X.s₀.heap.objs.size≤b)∧b ≠ X.env.locals∧(∀ x c,X.env.cells.lookup x=some c→c ≠ b)∧∀ p ∈ X.pn ++ pins,p.1 ≠ b):Inv X pins σ H' s':=by
 obtain ⟨h',g',d',t',o'⟩:=s'
 have e:o'=s.os:=ho
 subst e
 exact I.call (g':=g') (t':=t') (d':=d') u hok hg hch
end
abbrev XK:=Value→Option Addr→Hp→Prop
abbrev St:=List (Option V)
abbrev VK:=V→Hp→Prop
abbrev TE:=St→Hp→VK→Prop
abbrev TT:=St→Hp→(Bool→Hp→Prop)→Prop
abbrev TA:=St→Hp→(List V→Hp→Prop)→Prop
structure eZ where
 nx:St→Hp→Prop
 rt:VK
 bk:St→Hp→Prop:=fun _ _=>False
 ct:St→Hp→Prop:=fun _ _=>False
abbrev TS:=eZ→St→Hp→Prop
def EP (X:Cx) (pins:List (Addr×Obj)) (σ:St) (Q:VK) (u:Value) (s':Shared):Prop:=∃ v H',Inv X pins σ H' s'∧aS v u∧Q v H'
def TP (X:Cx) (pins:List (Addr×Obj)) (σ:St) (Q:Bool→Hp→Prop) (b:Bool) (s':Shared):Prop:=∃ H',Inv X pins σ H' s'∧Q b H'
def AP (X:Cx) (pins:List (Addr×Obj)) (σ:St) (Q:List V→Hp→Prop) (us:List Value) (s':Shared):Prop:=∃ vs H',Inv X pins σ H' s'∧aR vs us∧Q vs H'
def SP (X:Cx) (pins:List (Addr×Obj)) (D:eZ) (f:Flow) (s':Shared):Prop :=
 match f with
 | .next=>∃ σ' H',Inv X pins σ' H' s'∧D.nx σ' H'
 | .brk=>∃ σ' H',Inv X pins σ' H' s'∧D.bk σ' H'
 | .cont=>∃ σ' H',Inv X pins σ' H' s'∧D.ct σ' H'
 | .ret u=>∃ v σ' H',Inv X pins σ' H' s'∧aS v u∧D.rt v H'
def PE (X:Cx) (e:Expr) (t:TE):Prop :=
 ∀ (pins:List (Addr×Obj)) (s:Shared) (σ:St) (H:Hp) (Q:VK),Inv X pins σ H s→t σ H Q→wpAny (model X.prog X.w) X.A (eval e X.env) (EP X pins σ Q) X.xe s
def PT (X:Cx) (e:Expr) (t:TT):Prop :=
 ∀ (pins:List (Addr×Obj)) (s:Shared) (σ:St) (H:Hp) (Q:Bool→Hp→Prop),Inv X pins σ H s→t σ H Q→wpAny (model X.prog X.w) X.A (isTrue e X.env (eval e X.env)) (TP X pins σ Q) X.xe s
def PW (X:Cx) (e:Expr) (t:TT):Prop :=
 ∀ (whole:Sem Value) (pins:List (Addr×Obj)) (s:Shared) (σ:St) (H:Hp) (Q:Bool→Hp→Prop),Inv X pins σ H s→t σ H Q→wpAny (model X.prog X.w) X.A (isTrue e X.env whole) (TP X pins σ Q) X.xe s
def PA (X:Cx) (es:List Expr) (t:TA):Prop :=
 ∀ (pos:Pos) (pins:List (Addr×Obj)) (s:Shared) (σ:St) (H:Hp) (Q:List V→Hp→Prop),Inv X pins σ H s→t σ H Q→wpAny (model X.prog X.w) X.A (spliced (backTo pos (starEach es X.env))) (AP X pins σ Q) X.xe s
def PS (X:Cx) (st:Stmt) (t:TS):Prop :=
 ∀ (pins:List (Addr×Obj)) (s:Shared) (σ:St) (H:Hp) (D:eZ),Inv X pins σ H s→t D σ H→wpAny (model X.prog X.w) X.A (exec st X.env) (SP X pins D) X.xe s
def PSs (X:Cx) (st:List Stmt) (t:TS):Prop :=
 ∀ (pins:List (Addr×Obj)) (s:Shared) (σ:St) (H:Hp) (D:eZ),Inv X pins σ H s→t D σ H→wpAny (model X.prog X.w) X.A (execs st X.env) (SP X pins D) X.xe s
theorem thn {α:Type}{t:Sem α}{Q Q':α→Shared→Prop}{M:Model}{A:Around}{E:Value→Shared→Prop}{s:Shared} (h:wpAny M A t Q E s) (hQ:∀ a s,Q a s→Q' a s):wpAny M A t Q' E s:=FG h hQ fun _ _ x=>x
section
variable {X:Cx}
def gM (i:Nat):TE:=fun σ H Q=>∃ v,σ[i]? = some (some v)∧Q v H
def tC (v:V):TE:=fun _ H Q=>Q v H
theorem kg {i:Nat}{x:Str}{pos:Pos} (hN:X.N[i]? = some x) (hv:Vis X.env.scope x) (hd:(x == ("__debug__" : Str))=false:=by decide) (hcd:(x == ("__classdict__" : Str))=false:=by decide):PE X (.Name x pos) (gM i):=by
 intro pins s σ H Q I h
 obtain ⟨v,e,h⟩:=h
 obtain ⟨m,hn,hl⟩:=I.loc
 obtain ⟨u,r,l⟩:=hl i x v hN e hv
 have fin:EP X pins σ Q u s:=⟨v,H,I,r,h⟩
 rcases l with ⟨hk,hm⟩ | ⟨hk,c,hc,hcell⟩
 ·exact wpAny_Name (wpAny_loadName_local I.ok.kind hk hn hm fin) hd
 ·rcases hk with hk | hk
  ·exact wpAny_Name (wpAny_loadName_cell I.ok.kind hk hc hcell fin) hd
  ·exact wpAny_Name (wpAny_loadName_free I.ok.kind hk hc hcell fin hcd) hd
theorem wQ {i j pos}:PE X (.Constant (.int i) j pos) (tC (.int i)):=fun _ _ _ H _ I h=>wpAny_Constant_int ⟨.int i,H,I.tok _,⟨_,rfl⟩,h⟩
theorem DH {b j pos}:PE X (.Constant (.bool b) j pos) (tC (.bl b)):=fun _ _ _ H _ I h=>Constant_bool ⟨.bl b,H,I,rfl,h⟩
theorem nk {j pos}:PE X (.Constant .none j pos) (tC .non):=fun _ _ _ H _ I h=>Constant_none ⟨.non,H,I,rfl,h⟩
theorem BJ {x j pos}:PE X (.Constant (.str x) j pos) (tC (.str x)):=fun _ _ _ H _ I h=>Calls.Constant_str ⟨.str x,H,I.tok _,⟨_,rfl⟩,h⟩
def Gl (X:Cx) (x:Str):Prop:=X.env.kindOf x=some .globalImplicit
theorem iq {E:Value→Shared→Prop}{pins:List (Addr×Obj)} {s:Shared} {σ:St}{H:Hp}{x:Str}{u:Value}{pos:Pos}{Q:Value→Shared→Prop} (I:Inv X pins σ H s) (hg:Gl X x) (hm:X.mg x=some u) (h:Q u s)
  (hd:(x == ("__debug__" : Str))=false:=by decide):wpAny (model X.prog X.w) X.A (eval (.Name x pos) X.env) Q E s :=
 Calls.Name_function_global I.ok.kind hg (Calls.loadGlobal_global (by rw [I.ok.glob]; exact I.mod.glob.keeps I.bk) hm h) hd
theorem fG {E:Value→Shared→Prop}{pins:List (Addr×Obj)} {s:Shared} {σ:St}{H:Hp}{x:Str}{u:Value}{pos:Pos}{Q:Value→Shared→Prop} (I:Inv X pins σ H s) (hg:Gl X x) (hm:X.mg x=none) (hv:bootBuiltins x=some u) (h:Q u s)
  (hn:x ≠ "__name__" := by decide) (hd:(x == ("__debug__" : Str))=false:=by decide):wpAny (model X.prog X.w) X.A (eval (.Name x pos) X.env) Q E s:=by
 obtain ⟨mb,h1,h2⟩:=I.mod.blt
 exact Calls.Name_function_global I.ok.kind hg (Calls.loadGlobal_builtin (by rw [I.ok.glob]; exact I.mod.glob.keeps I.bk) hm (by rw [I.ok.blt]; exact h1.keeps I.bk) ((h2 x hn).trans hv) h) hd
theorem nn {x:Str}{v:V}{u:Value}{pos:Pos} (hg:Gl X x) (hm:X.mg x=some u) (r:aS v u) (hd:(x == ("__debug__" : Str))=false:=by decide):PE X (.Name x pos) (tC v) :=
 fun _ _ _ H _ I h=>iq I hg hm ⟨v,H,I,r,h⟩ hd
theorem sJ {x:Str}{v:V}{u:Value}{pos:Pos} (hg:Gl X x) (hm:X.mg x=none) (hv:bootBuiltins x=some u) (r:aS v u) (hn:x ≠ "__name__" := by decide) (hd:(x == ("__debug__" : Str))=false:=by decide):PE X (.Name x pos) (tC v) :=
 fun _ _ _ H _ I h=>fG I hg hm hv ⟨v,H,I,r,h⟩ hn hd
variable {a b:Expr}{ta tb:TE}{pos:Pos}
def PC (X:Cx) (op:CmpOp) (a b:Expr) (t:TE):Prop :=
 ∀ (pins:List (Addr×Obj)) (s:Shared) (σ:St) (H:Hp) (Q:VK),Inv X pins σ H s→t σ H Q →
  wpAny (model X.prog X.w) X.A (eval a X.env) (fun v s₁=>wpAny (model X.prog X.w) X.A (eval b X.env) (fun u s₂=>wpAny (model X.prog X.w) X.A (compareOp op v u) (EP X pins σ Q) X.xe s₂) X.xe s₁) X.xe s
theorem w9 (b:Expr) {op:CmpOp} (h:op ≠ .In) (h2:op ≠ .NotIn):behindInMarks op b=false:=by
 have e1:(op == CmpOp.In)=false:=by cases op <;> first | rfl | exact absurd rfl h
 have e2:(op == CmpOp.NotIn)=false:=by cases op <;> first | rfl | exact absurd rfl h2
 cases b <;> simp [behindInMarks,e1,e2]
def tB (t:TE):TT:=fun σ H Q=>t σ H fun x H1=>∃ c,x=.bl c∧Q c H1
theorem BC {op:CmpOp}{t:TE} (h:PC X op a b t) (h1:behindInMarks op b=false:=by first | exact w9 _ (by decide) (by decide) | rfl):PT X (.Compare a [op] [b] pos) (tB t):=by
 intro pins s σ H Q I hw
 refine wpAny_isTrue_Compare1 (thn (h pins s σ H _ I hw) fun v s1 h1=>thn h1 fun u s2 h2=>thn h2 fun c s3 zz2_0=>?_) h1
 obtain ⟨x,H1,I1,r1,q1⟩:=zz2_0
 obtain ⟨d,rfl,q⟩:=q1
 cases r1
 exact Gv ⟨H1,I1,q⟩
theorem BA {e:Expr}{t:TE} (h:PE X e t) (he:∀ whole,isTrue e X.env whole=(do let v ← whole; standAt e.pos; holding [v] (truthy v)):=by intro _; rfl):PT X e (tB t):=by
 intro pins s σ H Q I hw
 refine isTrue_plain (thn (h pins s σ H _ I hw) fun v s1 zz3_0=>?_) (he _)
 obtain ⟨x,H1,I1,r1,q1⟩:=zz3_0
 obtain ⟨d,rfl,q⟩:=q1
 cases r1
 exact Gv ⟨H1,I1,q⟩
variable {tA tB':TT}{bI:List Expr}
def tOr (t u:TT):TT:=fun σ H Q=>t σ H fun c H1=>if c=true then Q true H1 else u σ H1 Q
def Eh (t:TT):TT:=fun σ H Q=>t σ H fun c H1=>Q (!c) H1
theorem By (ha:PT X a tA):PW X (.BoolOp .Or [a] pos) tA:=by
 intro wh pins s σ H Q I h
 refine isTrue_or (thn (ha pins s σ H Q I h) fun c s1 e=>?_)
 cases c with
 | false=>exact isTrue_or_nil e
 | true=>exact e
theorem Dz (ha:PT X a tA) (hb:PW X (.BoolOp .Or (b :: bI) pos) tB'):PW X (.BoolOp .Or (a :: b :: bI) pos) (tOr tA tB'):=by
 intro wh pins s σ H Q I h
 refine isTrue_or (thn (ha pins s σ H _ I h) fun c s1 zz4_0=>?_)
 obtain ⟨H1,I1,q1⟩:=zz4_0
 cases c with
 | true=>exact ⟨H1,I1,q1⟩
 | false=>exact hb wh pins s1 σ H1 Q I1 q1
theorem BB (ha:PT X a tA):PT X (.UnaryOp .Not a pos) (Eh tA):=by
 intro pins s σ H Q I h
 exact isTrue_not (ha pins s σ H (fun c H1=>Q (!c) H1) I h)
def Dg (ta tb:TE):TE:=fun σ H Q=>ta σ H fun x H1=>∃ c,x=.bl c∧if c=true then tb σ H1 Q else Q (.bl false) H1
def C_ (ta:TE):TE:=fun σ H Q=>ta σ H fun x H1=>∃ c,x=.bl c∧Q (.bl (!c)) H1
theorem BK {op}{t:TE} (h:PE X a t):PE X (.BoolOp op [a] pos) t:=fun pins s σ H Q I hw=>BoolOp_one (h pins s σ H Q I hw)
theorem BN (ha:PE X a ta) (hb:PE X (.BoolOp .And (b :: bI) pos) tb):PE X (.BoolOp .And (a :: b :: bI) pos) (Dg ta tb):=by
 intro pins s σ H Q I h
 refine BoolOp_and (thn (ha pins s σ H _ I h) fun v s1 zz5_0=>?_)
 obtain ⟨x,H1,I1,r1,q1⟩:=zz5_0
 obtain ⟨c,rfl,q1⟩:=q1
 cases r1
 refine Gv ?_
 cases c with
 | true=>exact hb pins s1 σ H1 Q I1 q1
 | false=>exact ⟨.bl false,H1,I1,rfl,q1⟩
theorem BL (ha:PE X a ta):PE X (.UnaryOp .Not a pos) (C_ ta):=by
 intro pins s σ H Q I h
 refine UnaryOp_ (thn (ha pins s σ H _ I h) fun v s1 zz6_0=>?_)
 obtain ⟨x,H1,I1,r1,q1⟩:=zz6_0
 obtain ⟨c,rfl,q1⟩:=q1
 cases r1
 exact not_of (Gv ⟨.bl (!c),H1,I1,rfl,q1⟩)
def tIf (t:TT) (ta tb:TE):TE:=fun σ H Q=>t σ H fun c H1=>if c=true then ta σ H1 Q else tb σ H1 Q
theorem wR {c:Expr} (hc:PT X c tA) (ha:PE X a ta) (hb:PE X b tb):PE X (.IfExp c a b pos) (tIf tA ta tb):=by
 intro pins s σ H Q I h
 refine wpAny_IfExp (thn (hc pins s σ H _ I h) fun d s1 zz7_0=>?_)
 obtain ⟨H1,I1,q1⟩:=zz7_0
 cases d with
 | true=>exact ha pins s1 σ H1 Q I1 q1
 | false=>exact hb pins s1 σ H1 Q I1 q1
end
def SqL (K:PySem.W.Frag) (H:Hp) (a:Addr) (xs:List V):Prop :=
 Rd H a (.lst xs) ∨
  ∃ (o:Obj) (its:Array Value) (n:Nat),K.lookup a=some o∧o.cls=.type "list"∧o.dict=none∧o.data=.seq its n∧its.size≤sizeLine∧aR xs its.toList
def SqT (K:PySem.W.Frag) (H:Hp) (a:Addr) (xs:List V):Prop :=
 Rd H a (.tup xs) ∨
  ∃ (o:Obj) (its:Array Value) (n:Nat),K.lookup a=some o∧o.cls=.type "tuple"∧o.data=.seq its n∧its.size≤sizeLine∧aR xs its.toList
def ED:Value→Option V
 | .none=>some .non
 | .bool b=>some (.bl b)
 | .int i _=>some (.int i)
 | .str x _=>some (.str x)
 | .bytes b _=>some (.byt b)
 | .float b _=>some (.flt b)
 | .ref a=>some (.ref a)
 | .type n=>some (.ty n)
 | _=>none
theorem aS.abs {x:V}{u:Value} (r:aS x u):ED u=some x:=by
 cases x with
 | non=>cases r; rfl
 | bl _=>cases r; rfl
 | int _=>obtain ⟨t,rfl⟩:=r; rfl
 | str _=>obtain ⟨t,rfl⟩:=r; rfl
 | byt _=>obtain ⟨t,rfl⟩:=r; rfl
 | flt _=>obtain ⟨t,rfl⟩:=r; rfl
 | ref _=>cases r; rfl
 | ty _=>cases r; rfl
theorem aS.inj {x y:V}{u:Value} (r:aS x u) (q:aS y u):x=y:=E4 (r.abs.symm.trans q.abs)
theorem aR.inj:∀ {xs ys:List V}{us:List Value},aR xs us→aR ys us→xs=ys
 := by
  intro xs ys us h
  revert ys
  induction h with
  | nil =>
   intro ys k
   cases k
   rfl
  | cons r t ih =>
   intro ys k
   cases k with
   | cons r' t'=>rw [r.inj r',ih t']
section
variable {X:Cx}{pins:List (Addr×Obj)} {σ:St}{H:Hp}{s:Shared}{a:Addr}{xs ys:List V}
theorem SqL.of {K:PySem.W.Frag} (h:H a=some (.lst xs)):SqL K H a xs:=.inl (.inl h)
theorem SqT.of {K:PySem.W.Frag} (h:H a=some (.tup xs)):SqT K H a xs:=.inl (.inl h)
theorem Inv.list (I:Inv X pins σ H s) (h:SqL X.K H a xs):∃ its:List Value,aR xs its∧PlainL s.heap a its.toArray∧xs.length≤sizeLine:=by
 rcases h with h | ⟨o,its,n,hk,hc,hd,hs,hz,r⟩
 ·obtain ⟨z,its,n,r,e⟩:=h.ok I.hok
  exact ⟨its,r,⟨_,n,e,rfl,rfl,rfl⟩,z⟩
 ·refine ⟨its.toList,r,⟨o,n,I.kIn a o hk,hc,hd,by simpa using hs⟩,?_⟩
  have e:=r.length
  simp only [FU] at e
  omega
theorem Inv.tuple (I:Inv X pins σ H s) (h:SqT X.K H a xs):∃ its:List Value,aR xs its∧IsTup s.heap a its.toArray∧xs.length≤sizeLine:=by
 rcases h with h | ⟨o,its,n,hk,hc,hs,hz,r⟩
 ·obtain ⟨z,its,r,p⟩:=h.ok I.hok
  exact ⟨its,r,p,z⟩
 ·refine ⟨its.toList,r,⟨o,I.kIn a o hk,hc,n,by simpa using hs⟩,?_⟩
  have e:=r.length
  simp only [FU] at e
  omega
theorem Inv.list_inj (I:Inv X pins σ H s) (h:SqL X.K H a xs) (h':SqL X.K H a ys):xs=ys:=by
 obtain ⟨its,r,⟨o,n,e,_,_,d⟩,_⟩:=I.list h
 obtain ⟨its',r',⟨o',n',e',_,_,d'⟩,_⟩:=I.list h'
 rw [e] at e'; cases e'
 rw [d] at d'
 injection d' with d1 _
 have:its=its':=by simpa using FZ Array.toList d1
 subst this
 exact r.inj r'
theorem Inv.tuple_inj (I:Inv X pins σ H s) (h:SqT X.K H a xs) (h':SqT X.K H a ys):xs=ys:=by
 obtain ⟨its,r,⟨o,e,_,n,d⟩,_⟩:=I.tuple h
 obtain ⟨its',r',⟨o',e',_,n',d'⟩,_⟩:=I.tuple h'
 rw [e] at e'; cases e'
 rw [d] at d'
 injection d' with d1 _
 have:its=its':=by simpa using FZ Array.toList d1
 subst this
 exact r.inj r'
end
abbrev Cx.wish (X:Cx) (E:Value→Shared→Prop):Cx:={ X with xe:=E }
abbrev Cx.nox (X:Cx):Cx:=X.wish fun _ _=>False
theorem Cx.Ok.wish {X:Cx} (ok:X.Ok) (E:Value→Shared→Prop):(X.wish E).Ok :=
 ⟨ok.mod,ok.kind,ok.glob,ok.blt,ok.above,ok.inj,ok.has,ok.cab,ok.hd,ok.frames,ok.stk,ok.exf,ok.bs,ok.bsz,ok.noex,ok.exfs,ok.funs,ok.frf⟩
theorem Cx.Ok.unwish {X:Cx}{E:Value→Shared→Prop} (ok:(X.wish E).Ok):X.Ok :=
 ⟨ok.mod,ok.kind,ok.glob,ok.blt,ok.above,ok.inj,ok.has,ok.cab,ok.hd,ok.frames,ok.stk,ok.exf,ok.bs,ok.bsz,ok.noex,ok.exfs,ok.funs,ok.frf⟩
section
variable {X:Cx}{pins:List (Addr×Obj)} {σ:St}{H:Hp}{s:Shared}{E:Value→Shared→Prop}
theorem Inv.wish (I:Inv X pins σ H s) (E:Value→Shared→Prop):Inv (X.wish E) pins σ H s:=⟨I.ok.wish E,I.os,I.bare,I.base,I.loc,I.cell,I.free,I.freeC,I.pin,I.hok,I.len⟩
theorem Inv.unwish (I:Inv (X.wish E) pins σ H s):Inv X pins σ H s:=⟨I.ok.unwish,I.os,I.bare,I.base,I.loc,I.cell,I.free,I.freeC,I.pin,I.hok,I.len⟩
theorem SP.unwish {D:eZ}{f:Flow}{s':Shared} (h:SP (X.wish E) pins D f s'):SP X pins D f s':=by
 cases f with
 | next=>obtain ⟨σ',H',I,q⟩:=h; exact ⟨σ',H',I.unwish,q⟩
 | brk=>obtain ⟨σ',H',I,q⟩:=h; exact ⟨σ',H',I.unwish,q⟩
 | cont=>obtain ⟨σ',H',I,q⟩:=h; exact ⟨σ',H',I.unwish,q⟩
 | ret u=>obtain ⟨v,σ',H',I,r,q⟩:=h; exact ⟨v,σ',H',I.unwish,r,q⟩
theorem PSs.nox {st:List Stmt}{t:TS} (h:PSs X.nox st t):PSs X st t:=fun pins s σ H D I hw =>
 FG (h pins s σ H D (I.wish _) hw) (fun _ _ q=>q.unwish) fun _ _ z=>False.elim z
end
section
variable {X:Cx}{st:Stmt}{bI:List Stmt}{t u:TS}{e:Expr}{te:TE}{pos:Pos}
def Db:TS:=fun D σ H=>D.nx σ H
def C6 (t u:TS):TS:=fun D σ H=>t { D with nx:=u D } σ H
theorem zf:PSs X [] Db:=fun _ _ σ H _ I h=>Hh ⟨σ,H,I,h⟩
theorem im (h1:PS X st t) (h2:PSs X bI u):PSs X (st :: bI) (C6 t u):=by
 intro pins s σ H D I h
 refine HH (thn (h1 pins s σ H { D with nx:=u D } I h) fun f s1 q=>?_)
 cases f with
 | next =>
  obtain ⟨σ',H',I',q⟩:=q
  exact h2 pins s1 σ' H' D I' q
 | ret v=>exact q
 | brk=>exact q
 | cont=>exact q
theorem jv (h1:PS X st t):PSs X [st] t:=by
 intro pins s σ H D I h
 refine HH (thn (h1 pins s σ H D I h) fun f s1 q=>?_)
 cases f with
 | next=>exact Hh q
 | ret v=>exact q
 | brk=>exact q
 | cont=>exact q
theorem Inv.quiet {pins:List (Addr×Obj)} {σ:St}{H:Hp}{s:Shared} (I:Inv X pins σ H s):interactive X.env=false:=by simp [interactive,I.ok.kind]
def Dc (te:TE):TS:=fun D σ H=>te σ H fun _ H1=>D.nx σ H1
theorem io (he:PE X e te) (hs:swapsWith e none pos.line X.env=pure false:=by rfl):PS X (.Expr e pos) (Dc te):=by
 intro pins s σ H D I h
 exact wpAny_Expr_any (thn (he pins s σ H _ I h) fun v s1 zz8_0=>by obtain ⟨x,H1,I1,r1,q1⟩:=zz8_0; exact ⟨σ,H1,I1,q1⟩) I.quiet hs
def Ef (te:TE):TS:=fun D σ H=>te σ H D.rt
theorem wC (he:PE X e te):PS X (.Return (some e) pos) (Ef te):=by
 intro pins s σ H D I h
 exact wpAny_Return_some (thn (he pins s σ H _ I h) fun v s1 zz9_0=>by obtain ⟨x,H1,I1,r1,q1⟩:=zz9_0; exact ⟨x,σ,H1,I1,r1,q1⟩)
def Ek (c:TT) (t u:TS):TS:=fun D σ H=>c σ H fun b H1=>if b=true then t D σ H1 else u D σ H1
theorem DB {c:Expr}{a b:List Stmt}{tc:TT} (hc:PT X c tc) (ha:PSs X a t) (hb:PSs X b u):PS X (.If c a b pos) (Ek tc t u):=by
 intro pins s σ H D I h
 refine wpAny_If (thn (hc pins s σ H _ I h) fun d s1 zz10_0=>?_)
 obtain ⟨H1,I1,q1⟩:=zz10_0
 cases d with
 | true=>exact ha pins s1 σ H1 D I1 q1
 | false=>exact hb pins s1 σ H1 D I1 q1
def v0:TS:=fun _ _ _=>False
theorem wD:PS X st v0:=fun _ _ _ _ _ _ h=>h.elim
theorem uz {sts:List Stmt}:PSs X sts v0:=fun _ _ _ _ _ _ h=>h.elim
end
abbrev TG:=V→St→Hp→(St→Hp→Prop)→Prop
abbrev TGs:=List V→St→Hp→(St→Hp→Prop)→Prop
def PG (X:Cx) (target:Expr) (t:TG):Prop :=
 ∀ (pins:List (Addr×Obj)) (s:Shared) (σ:St) (H:Hp) (v:V) (u:Value) (Q:St→Hp→Prop),Inv X pins σ H s→aS v u→t v σ H Q →
  wpAny (model X.prog X.w) X.A (assign target X.env u) (fun _ s'=>∃ σ' H',Inv X pins σ' H' s'∧Q σ' H') X.xe s
def PGs (X:Cx) (ts:List Expr) (t:TGs):Prop :=
 ∀ (pins:List (Addr×Obj)) (s:Shared) (σ:St) (H:Hp) (vs:List V) (us:List Value) (Q:St→Hp→Prop),Inv X pins σ H s→aR vs us→t vs σ H Q →
  wpAny (model X.prog X.w) X.A (assignInOrder ((assignEach ts X.env).map (·.2)) us) (fun _ s'=>∃ σ' H',Inv X pins σ' H' s'∧Q σ' H') X.xe s
abbrev TIp:=V→V→Hp→VK→Prop
def PIp (X:Cx) (op:Operator) (t:TIp):Prop :=
 ∀ (pins:List (Addr×Obj)) (s:Shared) (σ:St) (H:Hp) (x y:V) (v u:Value) (Q:VK),Inv X pins σ H s→aS x v→aS y u→t x y H Q →
  wpAny (model X.prog X.w) X.A (inplaceOp op v u) (EP X pins σ Q) X.xe s
section
variable {X:Cx}{pos:Pos}
def mr (i:Nat):TG:=fun v σ H Q=>Q (σ.set i (some v)) H
theorem zq {i:Nat}{x:Str} (hN:X.N.Nodup) (hi:X.N[i]? = some x) (hx:Loc X.env.scope x) (hf:X.fn x=true∨X.env.scope.names.lookup x=some .local:=by first | exact .inl rfl | exact .inr rfl | assumption):PG X (.Name x pos) (mr i):=by
 intro pins s σ H v u Q I r h
 exact wpAny_assign_Name (fW I hN hi hx r (fun s' I'=>⟨_,H,I',h⟩) hf)
def EB:TGs:=fun vs σ H Q=>vs=[]∧Q σ H
def DZ (t:TG) (u:TGs):TGs:=fun vs σ H Q=>∃ v r,vs=v :: r∧t v σ H fun σ' H'=>u r σ' H' Q
theorem zp:PGs X [] EB:=by
 intro pins s σ H vs us Q I r h
 obtain ⟨e,h⟩:=h
 subst e
 cases r
 exact assignInOrder_nil ⟨σ,H,I,h⟩
theorem wM {e:Expr}{es:List Expr}{t:TG}{u:TGs} (h1:PG X e t) (h2:PGs X es u)
  (hs:(assignEach (e :: es) X.env).map (·.2)=assign e X.env :: (assignEach es X.env).map (·.2):=by rfl):PGs X (e :: es) (DZ t u):=by
 intro pins s σ H vs us Q I r h
 obtain ⟨v,vr,e1,h⟩:=h
 subst e1
 cases r with
 | cons r rr =>
  rw [hs]
  refine assignInOrder_cons (thn (h1 pins s σ H _ _ _ I r h) fun _ s1 zz11_0=>?_)
  obtain ⟨σ1,H1,I1,q1⟩:=zz11_0
  exact h2 pins s1 σ1 H1 _ _ Q I1 rr q1
def EA (K:PySem.W.Frag) (n:Nat) (t:TGs):TG:=fun v σ H Q=>∃ a xs,v=.ref a∧SqT K H a xs∧xs.length=n∧t xs σ H Q
theorem BI {es:List Expr}{k:Nat}{t:TGs}{n:Nat} (hc:X.calm=true) (h:PGs X es t)
  (hn:(assignEach es X.env).length=n:=by rfl) (hst:(assignEach es X.env).findIdx? (·.1)=none:=by rfl):PG X (.Tuple es k pos) (EA X.K n t):=by
 intro pins s σ H v u Q I r hw
 obtain ⟨a,xs,e1,hq,hl,hw⟩:=hw
 subst e1
 cases r
 obtain ⟨its,rv,ht,hz⟩:=I.tuple hq
 refine assign_Tuple_tuple (I.ok.hd hc) ht (by simp [hn,← hl,rv.length]) hst fun h' hx=>?_
 have I1:Inv X pins σ H { s with heap:=h' }:=I.kept (t':=s.toks) fun b o e=>hx b o (Fh (E6 e)) e
 exact h pins _ σ H xs _ Q I1 (by simpa using rv) hw
def yS (te:TE) (g:TG):TS:=fun D σ H=>te σ H fun x H1=>g x σ H1 D.nx
theorem ni {i:Nat}{x:Str}{e:Expr}{te:TE}{pos':Pos} (hN:X.N.Nodup) (hi:X.N[i]? = some x) (hx:Loc X.env.scope x) (he:PE X e te) (hs:swapsWith e (some (.Name x pos')) pos.line X.env=pure false:=by rfl) (hf:X.fn x=true∨X.env.scope.names.lookup x=some .local:=by first | exact .inl rfl | exact .inr rfl | assumption) :
  PS X (.Assign [.Name x pos'] e pos) (yS te (mr i)):=by
 intro pins s σ H D I h
 refine wpAny_Assign_Name (thn (he pins s σ H _ I h) fun v s1 zz12_0=>?_) hs
 obtain ⟨y,H1,I1,r1,q1⟩:=zz12_0
 exact fW I1 hN hi hx r1 (fun s2 I2=>⟨_,H1,I2,q1⟩) hf
def Em (i:Nat) (te:TE) (ti:TIp):TS:=fun D σ H=>∃ x,σ[i]? = some (some x)∧te σ H fun y H1=>ti x y H1 fun z H2=>D.nx (σ.set i (some z)) H2
theorem BG {i:Nat}{x:Str}{e:Expr}{te:TE}{op:Operator}{ti:TIp}{pos':Pos} (hN:X.N.Nodup) (hi:X.N[i]? = some x) (hx:Loc X.env.scope x) (he:PE X e te) (ho:PIp X op ti) (hf:X.fn x=true∨X.env.scope.names.lookup x=some .local:=by first | exact .inl rfl | exact .inr rfl | assumption) :
  PS X (.AugAssign (.Name x pos') op e pos) (Em i te ti):=by
 intro pins s σ H D I h
 obtain ⟨v,e1,h⟩:=h
 obtain ⟨m,hn,hl⟩:=I.loc
 have vis:Vis X.env.scope x:=by rcases hx with k | k; exact .inl k; exact .inr (.inl k)
 obtain ⟨u,r,l⟩:=hl i x v hi e1 vis
 refine wpAny_AugAssign_Name ?_
 have go:wpAny (model X.prog X.w) X.A (eval e X.env) (fun w s₂=>wpAny (model X.prog X.w) X.A (inplaceOp op u w) (fun r s₃=>wpAny (model X.prog X.w) X.A (storeName X.env x r) (fun _=>SP X pins D .next) X.xe s₃) X.xe s₂) X.xe s:=by
  refine thn (he pins s σ H _ I h) fun w s1 zz13_0=>?_
  obtain ⟨y,H1,I1,r1,q1⟩:=zz13_0
  refine thn (ho pins s1 σ H1 v y u w _ I1 r r1 q1) fun z s2 zz14_0=>?_
  obtain ⟨zv,H2,I2,r2,q2⟩:=zz14_0
  exact fW I2 hN hi hx r2 (fun s3 I3=>⟨_,H2,I3,q2⟩) hf
 rcases l with ⟨hk,hm⟩ | ⟨hk,c,hc,hcell⟩
 ·exact wpAny_loadName_local I.ok.kind hk hn hm go
 ·rcases hk with hk | hk
  ·exact wpAny_loadName_cell I.ok.kind hk hc hcell go
  ·rcases hx with k | k
   ·have:X.env.scope.names.lookup x=some .free:=hk
    rw [k] at this; cases this
   ·have:X.env.scope.names.lookup x=some .free:=hk
    rw [k] at this; cases this
def ipI (f:Int→Int→Int):TIp:=fun x y H Q=>∃ i j,x=.int i∧y=.int j∧Q (.int (f i j)) H
theorem Ck:PIp X .Add (ipI fun i j=>i + j):=by
 intro pins s σ H x y v u Q I r1 r2 h
 obtain ⟨i,j,e1,e2,q⟩:=h
 subst e1; subst e2
 obtain ⟨t,rfl⟩:=r1
 obtain ⟨t',rfl⟩:=r2
 exact iadd_int ⟨.int _,H,I.tok _,⟨_,rfl⟩,q⟩
end
structure It where
 go:Nat→Hp→Prop
 yld:Nat→Hp→V→Hp→Prop
 stop:Nat→Hp→Prop
def ic (X:Cx) (pins:List (Addr×Obj)) (H:Hp) (b:Addr):Prop :=
 H b=none∧b ≠ X.env.locals∧b ∉ X.fs∧(b ∈ X.ex∨X.s₀.heap.objs.size≤b)∧(∀ x c,X.env.cells.lookup x=some c→c ≠ b)∧∀ p ∈ X.pn ++ pins,p.1 ≠ b
theorem Inv.fpOk {X:Cx}{pins:List (Addr×Obj)} {σ:St}{H H':Hp}{s:Shared}{b:Addr} (I:Inv X pins σ H s) (hb:s.heap.objs.size≤b) (hn:H' b=none):ic X pins H' b:=by
 refine ⟨hn,Hd (Fi I.lt hb),I.nofs hb,.inr (Fa I.sz hb),fun x c e z=>?_,fun p hp z=>?_⟩
 ·obtain ⟨v,q⟩:=I.cell x c e
  exact absurd (Fi q.lt (by rw [z]; exact hb)) (Gr _)
 ·exact absurd (Fi (E6 (I.pin p hp).1) (by rw [z]; exact hb)) (Gr _)
structure oa (P:Program) (w:World) (K:PySem.W.Frag) (tg:Expr) (J:It) (fp:List Addr) (it:Addr) (tn:Nat→Heap→Prop):Prop where
 mem:it ∈ fp
 obj:∀ i h,tn i h→∀ b ∈ fp,∃ o,h.get? b=some o∧∀ v,o.data ≠ .cell v
 keep:∀ i h h',tn i h→(∀ b ∈ fp,∀ o,h.get? b=some o→h'.get? b=some o)→tn i h'
 item:∀ (X:Cx),X.prog=P→X.w=w→X.K=K→X.calm=true→∀ (i:Nat) (pins:List (Addr×Obj)) (s:Shared) (σ:St) (H:Hp) (E:Value→Shared→Prop),Inv X pins σ H s→(∀ b ∈ fp,ic X pins H b)→tn i s.heap→J.go i H →
  wpAny (model P w) X.A (pyNext (.ref it)) (fun r s1=>∃ u,r=some u ∧
   wpAny (model P w) X.A (letOwnedTupleGo tg (.ref it) u) (fun _ s2=>∃ x H',Inv X pins σ H' s2∧aS x u∧J.yld i H x H'∧tn (i + 1) s2.heap∧∀ b ∈ fp,H' b=none) E s1) E s
 done:∀ (X:Cx),X.prog=P→X.w=w→X.K=K→X.calm=true→∀ (i:Nat) (pins:List (Addr×Obj)) (s:Shared) (σ:St) (H:Hp) (E:Value→Shared→Prop),Inv X pins σ H s→(∀ b ∈ fp,ic X pins H b)→tn i s.heap→J.stop i H →
  wpAny (model P w) X.A (pyNext (.ref it)) (fun r s1=>r=none∧Inv X pins σ H s1) E s
 self:∀ (A:Around) (i:Nat) (s:Shared) (Q:Value→Shared→Prop) (E:Value→Shared→Prop),tn i s.heap→Q (.ref it) s→wpAny (model P w) A (pyIter (.ref it)) Q E s
abbrev TI:=St→Hp→(It→Hp→Prop)→Prop
def PIE (X:Cx) (pins:List (Addr×Obj)) (σ:St) (tg:Expr) (R:It→Hp→Prop) (itv:Value) (s2:Shared):Prop :=
 ∃ (it:Addr) (fp:List Addr) (tn:Nat→Heap→Prop) (J:It) (H':Hp),itv=.ref it∧Inv X pins σ H' s2∧oa X.prog X.w X.K tg J fp it tn∧tn 0 s2.heap∧(∀ b ∈ fp,ic X pins H' b)∧R J H'
def PI (X:Cx) (tg iter:Expr) (wi:TI):Prop :=
 ∀ (pins:List (Addr×Obj)) (s:Shared) (σ:St) (H:Hp) (R:It→Hp→Prop),Inv X pins σ H s→wi σ H R →
  wpAny (model X.prog X.w) X.A (eval iter X.env) (fun v s1=>wpAny (model X.prog X.w) X.A (pyIter v) (PIE X pins σ tg R) X.xe s1) X.xe s
theorem sZ {M:Model}{A:Around}{E:Value→Shared→Prop}{s:Shared}{tg:Expr}{it:Addr}{u:Value}{o:Obj}{n:String}{vs:Array Value}{Q:Unit→Shared→Prop} (ho:s.heap.get? it=some o) (hc:o.cls=.type n) (hd:o.data=.fields vs)
    (hn:["enumerate","zip","dict_itemiterator","dict_reverseitemiterator","odict_iterator","itertools.zip_longest","itertools.pairwise"].contains n=false) (hQ:Q () s):wpAny M A (letOwnedTupleGo tg (.ref it) u) Q E s:=by
  unfold letOwnedTupleGo
  cases tg <;> first
    | exact EY hQ
    | (cases u <;> first
        | exact EY hQ
        | (refine ET (wpAny_load ho ?_)
           rw [hc,hd]
           show wpAny M A (if (["enumerate","zip","dict_itemiterator","dict_reverseitemiterator","odict_iterator","itertools.zip_longest","itertools.pairwise"].contains n && vs[0]? == some (rawInt _))=true then _ else _) Q E s
           rw [if_neg (by intro h; rw [hn,Gx] at h; cases h)]
           exact EY hQ))
def Itl (K:PySem.W.Frag) (a:Addr):It :=
 ⟨fun i H=>∃ xs x,SqL K H a xs∧xs[i]? = some x,fun i H x H'=>H'=H∧∀ xs,SqL K H a xs→xs[i]? = some x,fun i H=>∃ xs,SqL K H a xs∧xs.length≤i⟩
def Itt (K:PySem.W.Frag) (a:Addr):It :=
 ⟨fun i H=>∃ xs x,SqT K H a xs∧xs[i]? = some x,fun i H x H'=>H'=H∧∀ xs,SqT K H a xs→xs[i]? = some x,fun i H=>∃ xs,SqT K H a xs∧xs.length≤i⟩
def Itr (lo:Int) (n:Nat):It:=⟨fun i _=>i < n,fun i H x H'=>H'=H∧x=.int (lo + i),fun i _=>n≤i⟩
theorem ug {P:Program}{w:World}{K:PySem.W.Frag}{tg:Expr} (a it:Addr):oa P w K tg (Itl K a) [it] it (fun i h=>h.IsListIter it a i) where
 mem:=by simp
 obj:=fun i h st b hb=>by
  have e:b=it:=by simpa using hb
  subst e
  obtain ⟨o,e,c,d⟩:=st
  exact ⟨o,e,fun v z=>by rw [d] at z; cases z⟩
 keep:=fun i h h' st k=>st.at fun o e=>k it (by simp) o e
 item:=by
  intro X hP hw hK hc i pins s σ H E I hf st hg
  subst hP hw hK
  obtain ⟨xs,x,hq,hx⟩:=hg
  obtain ⟨its,rv,p,hz⟩:=I.list hq
  obtain ⟨u,hu,ru⟩:=rv.get hx
  obtain ⟨f0,f1,f2,f3,f4,f5⟩:=hf it (by simp)
  refine wpAny_pyNext_list_item st p.isList (x:=u) (by simpa using hu) fun h' st' sb=>?_
  have I1:Inv X pins σ H { s with heap:=h' }:=I.turned (t':=s.toks) (fun b o hb e=>(sb.2 b hb).trans e) f0 f1 f3 f4 f5
  obtain ⟨o,e,c,d⟩:=id st'
  exact ⟨u,rfl,sZ (s:={ s with heap:=h' }) e c d (by decide) ⟨x,H,I1,ru,⟨rfl,fun ys hy=>by rw [I.list_inj hy hq]; exact hx⟩,st',fun b hb=>(hf b hb).1⟩⟩
 done:=by
  intro X hP hw hK hc i pins s σ H E I hf st hg
  subst hP hw hK
  obtain ⟨xs,hq,hx⟩:=hg
  obtain ⟨its,rv,p,hz⟩:=I.list hq
  obtain ⟨f0,f1,f2,f3,f4,f5⟩:=hf it (by simp)
  have hl:=rv.length
  exact wpAny_pyNext_list_end (I.ok.hd hc) st p.isList (by simp; omega) fun h' eb=>⟨rfl,I.turned (t':=s.toks) (fun b o hb e=>eb b o hb e) f0 f1 f3 f4 f5⟩
 self:=fun _ _ _ _ _ st h=>wpAny_pyIter_listiter st h
theorem qw {P:Program}{w:World}{K:PySem.W.Frag}{tg:Expr} (a it:Addr):oa P w K tg (Itt K a) [it] it (fun i h=>h.IsTupleIter it a i) where
 mem:=by simp
 obj:=fun i h st b hb=>by
  have e:b=it:=by simpa using hb
  subst e
  obtain ⟨o,e,c,d⟩:=st
  exact ⟨o,e,fun v z=>by rw [d] at z; cases z⟩
 keep:=fun i h h' st k=>st.at fun o e=>k it (by simp) o e
 item:=by
  intro X hP hw hK hc i pins s σ H E I hf st hg
  subst hP hw hK
  obtain ⟨xs,x,hq,hx⟩:=hg
  obtain ⟨its,rv,p,hz⟩:=I.tuple hq
  obtain ⟨u,hu,ru⟩:=rv.get hx
  obtain ⟨f0,f1,f2,f3,f4,f5⟩:=hf it (by simp)
  refine wpAny_pyNext_tuple_item st (show s.heap.IsTuple a its.toArray from p) (x:=u) (by simpa using hu) fun h' st' sb=>?_
  have I1:Inv X pins σ H { s with heap:=h' }:=I.turned (t':=s.toks) (fun b o hb e=>(sb.2 b hb).trans e) f0 f1 f3 f4 f5
  obtain ⟨o,e,c,d⟩:=id st'
  exact ⟨u,rfl,sZ (s:={ s with heap:=h' }) e c d (by decide) ⟨x,H,I1,ru,⟨rfl,fun ys hy=>by rw [I.tuple_inj hy hq]; exact hx⟩,st',fun b hb=>(hf b hb).1⟩⟩
 done:=by
  intro X hP hw hK hc i pins s σ H E I hf st hg
  subst hP hw hK
  obtain ⟨xs,hq,hx⟩:=hg
  obtain ⟨its,rv,p,hz⟩:=I.tuple hq
  obtain ⟨f0,f1,f2,f3,f4,f5⟩:=hf it (by simp)
  have hl:=rv.length
  exact wpAny_pyNext_tuple_end (I.ok.hd hc) st (show s.heap.IsTuple a its.toArray from p) (by simp; omega) fun h' eb=>⟨rfl,I.turned (t':=s.toks) (fun b o hb e=>eb b o hb e) f0 f1 f3 f4 f5⟩
 self:=fun _ _ _ _ _ st h=>wpAny_pyIter_tupleiter st h
theorem qx {P:Program}{w:World}{K:PySem.W.Frag}{tg:Expr} (it:Addr) (lo:Int) (n:Nat):oa P w K tg (Itr lo n) [it] it (fun i h=>IsRangeIter h it (lo + (i:Nat) * 1) ((n:Int) - (i:Nat)) 1) where
 mem:=by simp
 obj:=fun i h st b hb=>by
  have e:b=it:=by simpa using hb
  subst e
  exact ⟨_,st,fun v z=>by
   have z':Data.fields _=Data.cell v:=z
   cases z'⟩
 keep:=fun i h h' st k=>k it (by simp) _ st
 item:=by
  intro X hP hw hK hc i pins s σ H E I hf st hg
  subst hP hw hK
  obtain ⟨f0,f1,f2,f3,f4,f5⟩:=hf it (by simp)
  have W:=Walks.range (prog:=X.prog) (w:=X.w) (I.ok.hd hc) it lo 1 n
  refine W.item i s _ _ hg st fun v h' tk hv st' kk=>?_
  obtain ⟨t,rfl⟩:=hv
  have I1:Inv X pins σ H { s with heap:=h',toks:=tk }:=I.turned (fun b o hb e=>kk b o (by simpa using hb) e) f0 f1 f3 f4 f5
  refine ⟨_,rfl,sZ (s:={ s with heap:=h',toks:=tk }) (n := "range_iterator") st' rfl rfl (by decide) ⟨.int (lo + i),H,I1,⟨t,?_⟩,⟨rfl,rfl⟩,st',fun b hb=>(hf b hb).1⟩⟩
  rw [Int.mul_one]
 done:=by
  intro X hP hw hK hc i pins s σ H E I hf st hg
  subst hP hw hK
  obtain ⟨f0,f1,f2,f3,f4,f5⟩:=hf it (by simp)
  exact wpAny_pyNext_range_end (I.ok.hd hc) st (by have:n≤i:=hg; omega) fun h' eb=>⟨rfl,I.turned (t':=s.toks) (fun b o hb e=>eb b o hb e) f0 f1 f3 f4 f5⟩
 self:=fun _ _ _ _ _ st h=>wpAny_pyIter_rangeiter st h
section
variable {X:Cx}{tg:Expr}
def DW (K:PySem.W.Frag) (tl:TE):TI:=fun σ H R=>tl σ H fun x H1=>∃ a,x=.ref a∧(∃ xs,SqL K H1 a xs)∧R (Itl K a) H1
def Ey (K:PySem.W.Frag) (tl:TE):TI:=fun σ H R=>tl σ H fun x H1=>∃ a,x=.ref a∧(∃ xs,SqT K H1 a xs)∧R (Itt K a) H1
theorem sE {l:Expr}{tl:TE} (hl:PE X l tl):PI X tg l (DW X.K tl):=by
 intro pins s σ H R I h
 refine thn (hl pins s σ H _ I h) fun v s1 zz15_0=>?_
 obtain ⟨x,H1,I1,r1,q1⟩:=zz15_0
 obtain ⟨a,e,⟨xs,hq⟩,q⟩:=q1
 subst e
 cases r1
 obtain ⟨its,rv,p,hz⟩:=I1.list hq
 refine Hw p.isList ?_
 refine ⟨s1.heap.objs.size,[s1.heap.objs.size],_,_,H1,rfl,I1.kept (t':=s1.toks) fun b o e=>EU _ e,ug a _,⟨_,EZ _ rfl,rfl,rfl⟩,fun b hb=>?_,q⟩
 have e:b=s1.heap.objs.size:=by simpa using hb
 subst e
 exact I1.fpOk (E9 _) (I1.hok.fresh (E9 _))
theorem wL {l:Expr}{tl:TE} (hl:PE X l tl):PI X tg l (Ey X.K tl):=by
 intro pins s σ H R I h
 refine thn (hl pins s σ H _ I h) fun v s1 zz16_0=>?_
 obtain ⟨x,H1,I1,r1,q1⟩:=zz16_0
 obtain ⟨a,e,⟨xs,hq⟩,q⟩:=q1
 subst e
 cases r1
 obtain ⟨its,rv,p,hz⟩:=I1.tuple hq
 refine H8 (show s1.heap.IsTuple a its.toArray from p) ?_
 refine ⟨s1.heap.objs.size,[s1.heap.objs.size],_,_,H1,rfl,I1.kept (t':=s1.toks) fun b o e=>EU _ e,qw a _,⟨_,EZ _ rfl,rfl,rfl⟩,fun b hb=>?_,q⟩
 have e:b=s1.heap.objs.size:=by simpa using hb
 subst e
 exact I1.fpOk (E9 _) (I1.hok.fresh (E9 _))
theorem wv {pins:List (Addr×Obj)} {σ:St}{H:Hp}{s:Shared}{R:It→Hp→Prop}{E:Value→Shared→Prop}{lo hi:Int}{t u v:Tok}{tk:Nat} (I:Inv X pins σ H s) (h1 : -(2 ^ 62)≤lo) (h2:lo < 2 ^ 62) (h3 : -(2 ^ 62)≤hi) (h4:hi < 2 ^ 62)
  (q:R (Itr lo (hi - lo).toNat) H):wpAny (model X.prog X.w) X.A (pyIter (.ref s.heap.objs.size)) (PIE X pins σ tg R) E { s with heap:=s.heap.push { cls:=.type "range",data:=.fields #[.int lo t,.int hi u,.int 1 v] },toks:=tk }:=by
 refine wpAny_pyIter_range (IsRange.new ..) (small_one h1 h2 h3 h4) ?_
 have I1:Inv X pins σ H { s with heap:=s.heap.push { cls:=.type "range",data:=.fields #[.int lo t,.int hi u,.int 1 v] },toks:=tk }:=I.kept fun b o e=>EU _ e
 refine ⟨(s.heap.push { cls:=.type "range",data:=.fields #[.int lo t,.int hi u,.int 1 v] }).objs.size,[(s.heap.push { cls:=.type "range",data:=.fields #[.int lo t,.int hi u,.int 1 v] }).objs.size],_,_,H,rfl,
  I1.kept (t':=tk) fun b o e=>EU _ e,qx _ lo (hi - lo).toNat,?_,fun b hb=>?_,q⟩
 ·have e1:lo + ((0:Nat):Int) * 1=lo:=by simp
  have e2:(((hi - lo).toNat:Nat):Int) - ((0:Nat):Int)=Builtin.Range.rangeSize lo hi 1:=by rw [rangeSize_one]; split <;> omega
  show IsRangeIter _ _ (lo + ((0:Nat):Int) * 1) ((((hi - lo).toNat:Nat):Int) - ((0:Nat):Int)) 1
  rw [e1,e2]
  exact EZ _ rfl
 ·have e:b=(s.heap.push { cls:=.type "range",data:=.fields #[.int lo t,.int hi u,.int 1 v] }).objs.size:=by simpa using hb
  subst e
  exact I1.fpOk (E9 _) (I1.hok.fresh (E9 _))
def DV (ta:TA):TI:=fun σ H R=>ta σ H fun vs H1=>∃ j:Int,vs=[.int j]∧-(2 ^ 62)≤j∧j < 2 ^ 62∧R (Itr 0 j.toNat) H1
theorem uC {a:Expr}{ta:TA}{p pos:Pos} (hg:Gl X "range") (hm:X.mg "range" = none) (ha:PA X [a] ta) (hs:starEach [a] X.env=[(false,eval a X.env)]:=by rfl):PI X tg (.Call (.Name "range" p) [a] [] pos) (DV ta):=by
 intro pins s σ H R I h
 refine Call_ (fG I hg hm boot_range (F0 (thn (ha pos pins s σ H _ I h) fun us s1 zz17_0=>?_) hs rfl))
 obtain ⟨vs,H1,I1,r1,q1⟩:=zz17_0
 obtain ⟨j,e,q1,q2,q⟩:=q1
 subst e
 cases r1 with
 | cons r rr =>
  cases rr
  obtain ⟨t,rfl⟩:=r
  exact call_range_1 (wv I1 (by omega) (by omega) q1 q2 (by simpa using q))
def El (wi:TI) (g:TG) (tb:TS):TS:=fun D σ H=>wi σ H fun J H1=>∃ W:Nat→Nat→St→Hp→Prop,(∃ m,W 0 m σ H1)∧∀ i m σ H,W i m σ H →
 (J.stop i H∧D.nx σ H)∨(J.go i H∧∃ N:St→Hp→Prop,(∀ σ' H',N σ' H'→∃ m',m' < m∧W (i + 1) m' σ' H')∧∀ x H',J.yld i H x H'→g x σ H' fun σ2 H2=>tb { D with nx:=N,ct:=N,bk:=D.nx } σ2 H2)
def kf (fp:List Addr) (h:Heap):List (Addr×Obj):=fp.filterMap fun b=>(h.get? b).map fun o=>(b,o)
theorem fE {fp:List Addr}{h:Heap}{b:Addr}{o:Obj} (hb:b ∈ fp) (e:h.get? b=some o):(b,o) ∈ kf fp h:=List.mem_filterMap.mpr ⟨b,hb,by rw [e]; rfl⟩
theorem uK {fp:List Addr}{h:Heap}{p:Addr×Obj} (hp:p ∈ kf fp h):p.1 ∈ fp∧h.get? p.1=some p.2:=by
 obtain ⟨b,hb,e⟩:=List.mem_filterMap.mp hp
 cases q:h.get? b with
 | none=>rw [q] at e; cases e
 | some o =>
  rw [q] at e
  have e':(b,o)=p:=E4 e
  subst e'
  exact ⟨hb,q⟩
theorem Inv.pinned {pins:List (Addr×Obj)} {σ:St}{H:Hp}{s:Shared}{fp:List Addr} (I:Inv X pins σ H s) (hf:∀ b ∈ fp,ic X pins H b) (ho:∀ b ∈ fp,∃ o,s.heap.get? b=some o∧∀ v,o.data ≠ .cell v):Inv X (pins ++ kf fp s.heap) σ H s :=
 I.pins_of fun p hp=>(List.mem_append.mp hp).elim (fun z=>I.pin p (Fq _ z)) fun z=>by
  obtain ⟨hb,e⟩:=uK z
  obtain ⟨f0,f1,f2,_⟩:=hf p.1 hb
  obtain ⟨o,e',d⟩:=ho p.1 hb
  rw [e] at e'; cases e'
  exact ⟨e,f0,f1,f2,d⟩
theorem Inv.unpinned {pins pl:List (Addr×Obj)} {σ:St}{H:Hp}{s:Shared} (I:Inv X (pins ++ pl) σ H s):Inv X pins σ H s:=I.pins_of fun p hp=>I.pin p (Fq _ (GE _ hp))
theorem wE {iter:Expr}{body:List Stmt}{wi:TI}{g:TG}{tb:TS}{pos:Pos} (hp:PassesOwn (model X.prog X.w) X.A X.env X.xe) (hc:X.calm=true) (hi:PI X tg iter wi) (hg:PG X tg g) (hb:PSs X body tb)
  (hs:∀ x,foldedSetIterable iter X.env x=pure x:=by intro _; rfl):PS X (.For tg iter body [] pos) (El wi g tb):=by
 intro pins s σ H D I h
 refine wpAny_For (thn (hi pins s σ H _ I h) fun v s1 h1=>thn h1 fun itv s2 h2=>?_) hs
 obtain ⟨it,fp,tn,J,H2,e,I2,T,st2,f2,W,⟨m0,w0⟩,turn⟩:=h2
 subst e
 have stat:∀ {H':Hp},(∀ b ∈ fp,H' b=none)→∀ b ∈ fp,ic X pins H' b:=fun hn b hb=>⟨hn b hb,(f2 b hb).2⟩
 refine codeAny_forLoop_any (fun n s'=>∃ i σ' H',Inv X pins σ' H' s'∧tn i s'.heap∧(∀ b ∈ fp,H' b=none)∧W i n σ' H') ?_ m0 ⟨0,σ,H2,I2,st2,fun b hb=>(f2 b hb).1,w0⟩
 rintro n s3 ⟨i,σ3,H3,I3,st3,fr3,w3⟩
 rcases turn i n σ3 H3 w3 with ⟨stop,qn⟩ | ⟨go,N,hN,step⟩
 ·refine Hf hp (thn (T.done X rfl rfl rfl hc i pins s3 σ3 H3 X.xe I3 (stat fr3) st3 stop) fun r s4 zz18_0=>?_)
  obtain ⟨hr,I4⟩:=zz18_0
  subst hr
  exact Hh ⟨σ3,H3,I4,qn⟩
 ·refine Hf hp (thn (T.item X rfl rfl rfl hc i pins s3 σ3 H3 X.xe I3 (stat fr3) st3 go) fun r s4 zz19_0=>?_)
  obtain ⟨u,hr,h4⟩:=zz19_0
  subst hr
  refine Hf hp (thn h4 fun _ s5 zz20_0=>?_)
  obtain ⟨x,H5,I5,r5,y5,st5,fr5⟩:=zz20_0
  have I5':=I5.pinned (stat fr5) (T.obj _ _ st5)
  refine Hf hp (thn (hg _ s5 σ3 H5 x u _ I5' r5 (step x H5 y5)) fun _ s6 zz21_0=>?_)
  obtain ⟨σ6,H6,I6,q6⟩:=zz21_0
  refine Hf hp (thn (hb _ s6 σ6 H6 _ I6 q6) fun f s7 q7=>?_)
  have again:∀ {σ7:St}{H7:Hp},Inv X (pins ++ kf fp s5.heap) σ7 H7 s7→N σ7 H7→∃ m,m < n∧∃ i σ' H',Inv X pins σ' H' s7∧tn i s7.heap∧(∀ b ∈ fp,H' b=none)∧W i m σ' H':=fun {σ7 H7} I7 n7=>by
   obtain ⟨m',hm,w7⟩:=hN σ7 H7 n7
   refine ⟨m',hm,i + 1,σ7,H7,I7.unpinned,T.keep _ _ _ st5 fun b hb o e=>(I7.pin (b,o) (Fq _ (Fq _ (fE hb e)))).1,fun b hb=>?_,w7⟩
   obtain ⟨o,e,d⟩:=T.obj _ _ st5 b hb
   exact (I7.pin (b,o) (Fq _ (Fq _ (fE hb e)))).2.1
  cases f with
  | next=>obtain ⟨σ7,H7,I7,n7⟩:=q7; exact again I7 n7
  | cont=>obtain ⟨σ7,H7,I7,n7⟩:=q7; exact again I7 n7
  | brk=>obtain ⟨σ7,H7,I7,q7⟩:=q7; exact ⟨σ7,H7,I7.unpinned,q7⟩
  | ret v=>obtain ⟨x7,σ7,H7,I7,r7,q7⟩:=q7; exact ⟨x7,σ7,H7,I7.unpinned,r7,q7⟩
end
abbrev R2:=V→V→Hp→VK→Prop
def OpR (X:Cx) (f:Value→Value→Sem Value) (r:R2):Prop :=
 ∀ (pins:List (Addr×Obj)) (s:Shared) (σ:St) (H:Hp) (x y:V) (v u:Value) (Q:VK),Inv X pins σ H s→aS x v→aS y u→r x y H Q →
  wpAny (model X.prog X.w) X.A (f v u) (EP X pins σ Q) X.xe s
def UnR (X:Cx) (f:Value→Sem Value) (r:V→Hp→VK→Prop):Prop :=
 ∀ (pins:List (Addr×Obj)) (s:Shared) (σ:St) (H:Hp) (x:V) (v:Value) (Q:VK),Inv X pins σ H s→aS x v→r x H Q →
  wpAny (model X.prog X.w) X.A (f v) (EP X pins σ Q) X.xe s
def cQ (X:Cx) (f:Value) (r:List V→Hp→VK→Prop):Prop :=
 ∀ (pins:List (Addr×Obj)) (s:Shared) (σ:St) (H:Hp) (xs:List V) (us:List Value) (Q:VK),Inv X pins σ H s→aR xs us→r xs H Q →
  wpAny (model X.prog X.w) X.A (call f us) (EP X pins σ Q) X.xe s
def tOp (r:R2) (ta tb:TE):TE:=fun σ H Q=>ta σ H fun x H1=>tb σ H1 fun y H2=>r x y H2 Q
def tUn (r:V→Hp→VK→Prop) (ta:TE):TE:=fun σ H Q=>ta σ H fun x H1=>r x H1 Q
def rI (C:Int→Int→Prop) (g:Int→Int→V):R2:=fun x y H Q=>∃ i j,x=.int i∧y=.int j∧C i j∧Q (g i j) H
def rI0 (g:Int→Int→V):R2:=fun x y H Q=>∃ i j,x=.int i∧y=.int j∧Q (g i j) H
def rU (g:Int→V):V→Hp→VK→Prop:=fun x H Q=>∃ i,x=.int i∧Q (g i) H
section
variable {X:Cx}{a b c:Expr}{ta tb tc:TE}{pos:Pos}
theorem CK (ha:PE X a ta) (hb:PE X b tb) {pins:List (Addr×Obj)} {s:Shared} {σ:St}{H:Hp}{R:V→V→Hp→Prop} (I:Inv X pins σ H s)
  (h:ta σ H fun x H1=>tb σ H1 fun y H2=>R x y H2) {Q:Value→Shared→Prop}{f:Value→Value→Sem Value}
  (hf:∀ v u s2 x y H2,Inv X pins σ H2 s2→aS x v→aS y u→R x y H2→wpAny (model X.prog X.w) X.A (f v u) Q X.xe s2) :
  wpAny (model X.prog X.w) X.A (eval a X.env) (fun v s₁=>wpAny (model X.prog X.w) X.A (eval b X.env) (fun u s₂=>wpAny (model X.prog X.w) X.A (f v u) Q X.xe s₂) X.xe s₁) X.xe s:=by
 refine thn (ha pins s σ H _ I h) fun v s1 zz22_0=>?_
 obtain ⟨x,H1,I1,r1,q1⟩:=zz22_0
 refine thn (hb pins s1 σ H1 _ I1 q1) fun u s2 zz23_0=>?_
 obtain ⟨y,H2,I2,r2,q2⟩:=zz23_0
 exact hf v u s2 x y H2 I2 r1 r2 q2
theorem DF {op:Operator}{r:R2} (ho:OpR X (binaryOp op) r) (ha:PE X a ta) (hb:PE X b tb):PE X (.BinOp a op b pos) (tOp r ta tb):=by
 intro pins s σ H Q I h
 exact wpAny_BinOp (CK ha hb I h fun v u s2 x y H2 I2 rx ry q=>ho pins s2 σ H2 x y v u Q I2 rx ry q)
theorem DD {op:UnaryOp}{r:V→Hp→VK→Prop} (ho:UnR X (unaryOp op) r) (ha:PE X a ta):PE X (.UnaryOp op a pos) (tUn r ta):=by
 intro pins s σ H Q I h
 exact UnaryOp_ (thn (ha pins s σ H _ I h) fun v s1 zz24_0=>by obtain ⟨x,H1,I1,r1,q1⟩:=zz24_0; exact ho pins s1 σ H1 x v Q I1 r1 q1)
theorem opI {f:Value→Value→Sem Value}{C:Int→Int→Prop}{g:Int→Int→Int}
  (rule:∀ (i j:Int) (t u:Tok) (s:Shared) (Q:Value→Shared→Prop) (E:Value→Shared→Prop),C i j→Q (.int (g i j) s.toks) { s with toks:=s.toks + 1 }→wpAny (model X.prog X.w) X.A (f (.int i t) (.int j u)) Q E s) :
  OpR X f (rI C fun i j=>.int (g i j)):=by
 intro pins s σ H x y v u Q I rx ry h
 obtain ⟨i,j,rfl,rfl,hc,q⟩:=h
 obtain ⟨t,rfl⟩:=rx
 obtain ⟨t',rfl⟩:=ry
 exact rule i j t t' s _ _ hc ⟨.int (g i j),H,I.tok _,⟨_,rfl⟩,q⟩
theorem DO {f:Value→Value→Sem Value}{g:Int→Int→Int}
  (rule:∀ (i j:Int) (t u:Tok) (s:Shared) (Q:Value→Shared→Prop) (E:Value→Shared→Prop),Q (.int (g i j) s.toks) { s with toks:=s.toks + 1 }→wpAny (model X.prog X.w) X.A (f (.int i t) (.int j u)) Q E s) :
  OpR X f (rI0 fun i j=>.int (g i j)):=by
 intro pins s σ H x y v u Q I rx ry h
 obtain ⟨i,j,rfl,rfl,q⟩:=h
 obtain ⟨t,rfl⟩:=rx
 obtain ⟨t',rfl⟩:=ry
 exact rule i j t t' s _ _ ⟨.int (g i j),H,I.tok _,⟨_,rfl⟩,q⟩
theorem zE {f:Value→Value→Sem Value}{g:Int→Int→Bool}
  (rule:∀ (i j:Int) (t u:Tok) (s:Shared) (Q:Value→Shared→Prop) (E:Value→Shared→Prop),Q (.bool (g i j)) s→wpAny (model X.prog X.w) X.A (f (.int i t) (.int j u)) Q E s) :
  OpR X f (rI0 fun i j=>.bl (g i j)):=by
 intro pins s σ H x y v u Q I rx ry h
 obtain ⟨i,j,rfl,rfl,q⟩:=h
 obtain ⟨t,rfl⟩:=rx
 obtain ⟨t',rfl⟩:=ry
 exact rule i j t t' s _ _ ⟨.bl (g i j),H,I,rfl,q⟩
def Ed (i j:Int):Prop:=0≤j∧j≤1000000∧i.natAbs < 2 ^ 64
theorem BU:OpR X (binaryOp .Add) (rI0 fun i j=>.int (i + j)):=DO fun _ _ _ _ _ _ _ q=>add_int q
theorem BP:OpR X (binaryOp .Sub) (rI0 fun i j=>.int (i - j)):=DO fun _ _ _ _ _ _ _ q=>sub_int q
theorem BR:OpR X (binaryOp .Mod) (rI (fun _ j=>0 < j) fun i j=>.int (i % j)):=opI fun i j _ _ _ _ _ hc q=>by
 have h1:(0:Int) < j:=hc
 exact mod_int' (by omega) (by rw [Int.fmod_eq_emod_of_nonneg i (by omega)]; exact q)
theorem BQ:OpR X (binaryOp .Pow) (rI Ed fun i j=>.int (i ^ j.toNat)):=opI fun _ _ _ _ _ _ _ hc q=>pow_int_small hc.1 hc.2.1 hc.2.2 q
theorem unI {f:Value→Sem Value}{g:Int→Int}
  (rule:∀ (i:Int) (t:Tok) (s:Shared) (Q:Value→Shared→Prop) (E:Value→Shared→Prop),Q (.int (g i) s.toks) { s with toks:=s.toks + 1 }→wpAny (model X.prog X.w) X.A (f (.int i t)) Q E s) :
  UnR X f (rU fun i=>.int (g i)):=by
 intro pins s σ H x v Q I rx h
 obtain ⟨i,rfl,q⟩:=h
 obtain ⟨t,rfl⟩:=rx
 exact rule i t s _ _ ⟨.int (g i),H,I.tok _,⟨_,rfl⟩,q⟩
theorem A6:UnR X (unaryOp .USub) (rU fun i=>.int (-i)):=unI fun _ _ _ _ _ q=>neg_int q
end
def Dh:V→V→Bool
 | .non,.non=>true | .non,.int _=>true | .int _,.non=>true | .non,.bl _=>true | .bl _,.non=>true | .non,.str _=>true | .str _,.non=>true
 | .int _,.int _=>true | .bl _,.bl _=>true | .str _,.str _=>true | .byt _,.byt _=>true
 | .int _,.str _=>true | .str _,.int _=>true | .bl _,.str _=>true | .str _,.bl _=>true
 | _,_=>false
def rEq:R2:=fun x y H Q=>Dh x y=true∧Q (.bl (decide (x=y))) H
def rNe:R2:=fun x y H Q=>Dh x y=true∧Q (.bl (!decide (x=y))) H
theorem tJ {i j:Int}:decide (V.int i=V.int j)=(i == j):=by
 rw [HF]
 simp
theorem yn {i j:Bool}:decide (V.bl i=V.bl j)=(i == j):=by
 rw [HF]
 simp
theorem tI {i j:Str}:decide (V.str i=V.str j)=(i == j):=by
 rw [HF]
 simp
theorem tK {i j:Array UInt8}:decide (V.byt i=V.byt j)=(i.toList == j.toList):=by
 rw [HF]
 cases i
 cases j
 simp
section
variable {X:Cx}{a b c:Expr}{ta tb tc:TE}{pos:Pos}
theorem bb {pins:List (Addr×Obj)} {σ:St}{H:Hp}{s:Shared}{Q:VK}{k k':Bool} (I:Inv X pins σ H s) (q:Q (.bl k) H) (e:k=k'):EP X pins σ Q (.bool k') s:=by
 subst e
 exact ⟨.bl k,H,I,rfl,q⟩
theorem AS:OpR X (compareOp .Eq) rEq:=by
 intro pins s σ H x y v u Q I rx ry h
 obtain ⟨hs,q⟩:=h
 cases x with
 | non =>
  cases rx
  cases y with
  | non=>cases ry; exact PySem.EqNone.eq_none_none (bb I q (by simp))
  | bl j=>cases ry; exact PySem.EqNone.eq_none_bool (bb I q (by simp))
  | int j=>obtain ⟨t',rfl⟩:=ry; exact PySem.EqNone.eq_none_int (bb I q (by simp))
  | str j=>obtain ⟨t',rfl⟩:=ry; exact PySem.EqNone.eq_none_str (bb I q (by simp))
  | _=>exact absurd (show false=true from hs) Fe
 | bl i =>
  cases rx
  cases y with
  | non=>cases ry; exact PySem.EqNone.eq_bool_none (bb I q (by simp))
  | bl j=>cases ry; exact eq_bool (bb I q yn)
  | str j=>obtain ⟨t',rfl⟩:=ry; exact PySem.EqMixed.eq_bool_str (bb I q (by simp))
  | _=>exact absurd (show false=true from hs) Fe
 | int i =>
  obtain ⟨t,rfl⟩:=rx
  cases y with
  | non=>cases ry; exact PySem.EqNone.eq_int_none (bb I q (by simp))
  | int j=>obtain ⟨t',rfl⟩:=ry; exact eq_int (bb I q tJ)
  | str j=>obtain ⟨t',rfl⟩:=ry; exact PySem.EqMixed.eq_int_str (bb I q (by simp))
  | _=>exact absurd (show false=true from hs) Fe
 | str i =>
  obtain ⟨t,rfl⟩:=rx
  cases y with
  | non=>cases ry; exact PySem.EqNone.eq_str_none (bb I q (by simp))
  | bl j=>cases ry; exact PySem.EqMixed.eq_str_bool (bb I q (by simp))
  | int j=>obtain ⟨t',rfl⟩:=ry; exact PySem.EqMixed.eq_str_int (bb I q (by simp))
  | str j=>obtain ⟨t',rfl⟩:=ry; exact eq_str (bb I q tI)
  | _=>exact absurd (show false=true from hs) Fe
 | byt i =>
  obtain ⟨t,rfl⟩:=rx
  cases y with
  | byt j=>obtain ⟨t',rfl⟩:=ry; exact PySem.W.eq_bytes (bb I q tK)
  | _=>exact absurd (show false=true from hs) Fe
 | _=>cases y <;> exact absurd (show false=true from hs) Fe
theorem DK:OpR X (compareOp .NotEq) rNe:=by
 intro pins s σ H x y v u Q I rx ry h
 obtain ⟨hs,q⟩:=h
 cases x with
 | non =>
  cases rx
  cases y with
  | non=>cases ry; exact PySem.EqNone.ne_none_none (bb I q (by simp))
  | bl j=>cases ry; exact PySem.EqNone.ne_none_bool (bb I q (by simp))
  | int j=>obtain ⟨t',rfl⟩:=ry; exact PySem.EqNone.ne_none_int (bb I q (by simp))
  | str j=>obtain ⟨t',rfl⟩:=ry; exact PySem.EqNone.ne_none_str (bb I q (by simp))
  | _=>exact absurd (show false=true from hs) Fe
 | bl i =>
  cases rx
  cases y with
  | non=>cases ry; exact PySem.EqNone.ne_bool_none (bb I q (by simp))
  | bl j=>cases ry; exact ne_bool (bb I q (FZ not yn))
  | str j=>obtain ⟨t',rfl⟩:=ry; exact PySem.EqMixed.ne_bool_str (bb I q (by simp))
  | _=>exact absurd (show false=true from hs) Fe
 | int i =>
  obtain ⟨t,rfl⟩:=rx
  cases y with
  | non=>cases ry; exact PySem.EqNone.ne_int_none (bb I q (by simp))
  | int j=>obtain ⟨t',rfl⟩:=ry; exact ne_int (bb I q (FZ not tJ))
  | str j=>obtain ⟨t',rfl⟩:=ry; exact PySem.EqMixed.ne_int_str (bb I q (by simp))
  | _=>exact absurd (show false=true from hs) Fe
 | str i =>
  obtain ⟨t,rfl⟩:=rx
  cases y with
  | non=>cases ry; exact PySem.EqNone.ne_str_none (bb I q (by simp))
  | bl j=>cases ry; exact PySem.EqMixed.ne_str_bool (bb I q (by simp))
  | int j=>obtain ⟨t',rfl⟩:=ry; exact PySem.EqMixed.ne_str_int (bb I q (by simp))
  | str j=>obtain ⟨t',rfl⟩:=ry; exact ne_str (bb I q (FZ not tI))
  | _=>exact absurd (show false=true from hs) Fe
 | byt i =>
  obtain ⟨t,rfl⟩:=rx
  cases y with
  | byt j=>obtain ⟨t',rfl⟩:=ry; exact PySem.W.ne_bytes (bb I q (FZ not tK))
  | _=>exact absurd (show false=true from hs) Fe
 | _=>cases y <;> exact absurd (show false=true from hs) Fe
theorem DL:OpR X (compareOp .Lt) (rI0 fun i j=>.bl (decide (i < j))):=zE fun _ _ _ _ _ _ _ q=>lt_int q
theorem DM:OpR X (compareOp .LtE) (rI0 fun i j=>.bl (decide (i≤j))):=zE fun _ _ _ _ _ _ _ q=>le_int q
theorem AR:OpR X (compareOp .Gt) (rI0 fun i j=>.bl (decide (j < i))):=zE fun _ _ _ _ _ _ _ q=>gt_int q
theorem DN:OpR X (compareOp .GtE) (rI0 fun i j=>.bl (decide (j≤i))):=zE fun _ _ _ _ _ _ _ q=>ge_int q
theorem uG:OpR X (compareOp .Lt) (fun x y H Q=>∃ i j,x=.str i∧y=.str j∧Q (.bl (decide (i.cps.toList < j.cps.toList))) H):=by
 intro pins s σ H x y v u Q I rx ry h
 obtain ⟨i,j,rfl,rfl,q⟩:=h
 obtain ⟨t,rfl⟩:=rx
 obtain ⟨t',rfl⟩:=ry
 exact lt_str (bb I q rfl)
theorem wX:OpR X (compareOp .Is) (fun x y H Q=>y=.non∧Q (.bl (decide (x=.non))) H):=by
 intro pins s σ H x y v u Q I rx ry h
 obtain ⟨rfl,q⟩:=h
 cases ry
 refine is_none_gen (bb I q ?_)
 cases x <;> first
  | (cases rx; rfl)
  | (obtain ⟨t,rfl⟩:=rx; rfl)
theorem zA:OpR X (compareOp .IsNot) (fun x y H Q=>y=.non∧Q (.bl (!decide (x=.non))) H):=by
 intro pins s σ H x y v u Q I rx ry h
 obtain ⟨rfl,q⟩:=h
 cases ry
 refine isnot_none_gen (bb I q ?_)
 cases x <;> first
  | (cases rx; rfl)
  | (obtain ⟨t,rfl⟩:=rx; rfl)
theorem nr:OpR X (compareOp .NotIn) (fun x y H Q=>∃ i j,x=.str i∧y=.str j∧Q (.bl (!(!(Builtin.Str.occurrences j i 0 j.length 1).isEmpty))) H):=by
 intro pins s σ H x y v u Q I rx ry h
 obtain ⟨i,j,rfl,rfl,q⟩:=h
 obtain ⟨t,rfl⟩:=rx
 obtain ⟨t',rfl⟩:=ry
 exact notIn_str (bb I q rfl)
theorem OpR.or {f:Value→Value→Sem Value}{r r':R2} (h:OpR X f r) (h':OpR X f r'):OpR X f (fun x y H Q=>r x y H Q∨r' x y H Q):=by
 intro pins s σ H x y v u Q I rx ry q
 rcases q with q | q
 ·exact h pins s σ H x y v u Q I rx ry q
 ·exact h' pins s σ H x y v u Q I rx ry q
theorem eU (b:Expr) {op:CmpOp} (h:op ≠ .In:=by decide) (h2:op ≠ .NotIn:=by decide):behindInMarks op b=false:=by
 have e1:(op == CmpOp.In)=false:=by cases op <;> first | rfl | exact absurd rfl h
 have e2:(op == CmpOp.NotIn)=false:=by cases op <;> first | rfl | exact absurd rfl h2
 cases b <;> simp [behindInMarks,e1,e2]
theorem sG {op:CmpOp}{r:R2} (ho:OpR X (compareOp op) r) (ha:PE X a ta) (hb:PE X b tb) (hm:behindInMarks op b=false):PE X (.Compare a [op] [b] pos) (tOp r ta tb):=by
 intro pins s σ H Q I h
 exact wpAny_Compare1 (CK ha hb I h fun v u s2 x y H2 I2 rx ry q=>ho pins s2 σ H2 x y v u Q I2 rx ry q) hm
def C5 (t:TE):TT:=fun σ H Q=>t σ H fun x H'=>∃ k,x=.bl k∧Q k H'
theorem ju {op:CmpOp}{r:R2} (ho:OpR X (compareOp op) r) (ha:PE X a ta) (hb:PE X b tb) (hm:behindInMarks op b=false):PT X (.Compare a [op] [b] pos) (C5 (tOp r ta tb)):=by
 intro pins s σ H Q I h
 refine wpAny_isTrue_Compare1 (thn (ha pins s σ H _ I h) fun v s1 ⟨x,H1,I1,r1,q1⟩=>thn (hb pins s1 σ H1 _ I1 q1) fun u s2 ⟨y,H2,I2,r2,q2⟩ =>
  thn (ho pins s2 σ H2 x y v u _ I2 r1 r2 q2) fun c s3 ⟨z,H3,I3,r3,k,e,q3⟩=>?_) hm
 subst e
 cases r3
 exact Gv ⟨H3,I3,q3⟩
def v5 (r r':R2) (ta tb tc:TE):TE:=fun σ H Q=>ta σ H fun x H1=>tb σ H1 fun y H2=>r x y H2 fun z H3=>∃ k,z=.bl k ∧
 (if k=true then tc σ H3 fun w' H4=>r' y w' H4 Q else Q (.bl false) H3)
theorem wU {op op':CmpOp}{r r':R2} (ho:OpR X (compareOp op) r) (ho':OpR X (compareOp op') r') (ha:PE X a ta) (hb:PE X b tb) (hc:PE X c tc)
  (hm:lastMarks [op,op'] [b,c]=false:=by with_unfolding_all rfl):PE X (.Compare a [op,op'] [b,c] pos) (v5 r r' ta tb tc):=by
 intro pins s σ H Q I h
 refine Compare_chain (thn (ha pins s σ H _ I h) fun v s1 ⟨x,H1,I1,r1,q1⟩=>chain_link (thn (hb pins s1 σ H1 _ I1 q1) fun u s2 ⟨y,H2,I2,r2,q2⟩ =>
  thn (ho pins s2 σ H2 x y v u _ I2 r1 r2 q2) fun d s3 ⟨z,H3,I3,r3,k,e,q3⟩=>?_)) hm
 subst e
 cases r3
 refine Gv ?_
 cases k with
 | false=>exact ite_ff ⟨.bl false,H3,I3,rfl,q3⟩
 | true=>exact ite_tt (chain_last (thn (hc pins s3 σ H3 _ I3 q3) fun w' s4 zz31_0=>by obtain ⟨z',H4,I4,r4,q4⟩:=zz31_0; exact ho' pins s4 σ H4 y z' u w' Q I4 r2 r4 q4))
theorem nB:(sizeLine:Nat) < 2 ^ 63:=by rw [Hi]; decide
theorem qO:OpR X (binaryOp .Add) (fun x y H Q=>∃ i j,x=.str i∧y=.str j∧i.length + j.length≤sizeLine∧Q (.str (i ++ j)) H):=by
 intro pins s σ H x y v u Q I rx ry h
 obtain ⟨i,j,rfl,rfl,hz,q⟩:=h
 obtain ⟨t,rfl⟩:=rx
 obtain ⟨t',rfl⟩:=ry
 exact add_str (fun t' tk=>⟨.str (i ++ j),H,I.tok _,⟨_,rfl⟩,q⟩) hz
theorem gO {x:V}{us:List Value} (r:aR [x] us):∃ u,us=[u]∧aS x u:=by
 cases r with
 | cons r1 r2=>cases r2; exact ⟨_,rfl,r1⟩
theorem AF {x y:V}{us:List Value} (r:aR [x,y] us):∃ u w',us=[u,w']∧aS x u∧aS y w':=by
 cases r with
 | cons r1 r2 =>
  cases r2 with
  | cons r3 r4=>cases r4; exact ⟨_,_,rfl,r1,r3⟩
theorem vp (hc:X.calm=true):cQ X (.builtin "min") (fun xs H Q=>∃ i j,xs=[.int i,.int j]∧Q (.int (if j < i then j else i)) H):=by
 intro pins s σ H xs us Q I r h
 obtain ⟨i,j,rfl,q⟩:=h
 obtain ⟨u,w',rfl,⟨t,rfl⟩,⟨t',rfl⟩⟩:=AF r
 refine min_two_ints (I.ok.hd hc) fun h' tk k=>⟨_,H,I.kept k,?_,q⟩
 by_cases hj:j < i
 ·rw [if_pos hj,if_pos hj]; exact ⟨_,rfl⟩
 ·rw [if_neg hj,if_neg hj]; exact ⟨_,rfl⟩
theorem vt:cQ X (.type "int") (fun xs H Q=>(∃ i,xs=[.int i]∧Q (.int i) H)∨∃ k,xs=[.bl k]∧Q (.int (if k then 1 else 0)) H):=by
 intro pins s σ H xs us Q I r h
 rcases h with ⟨i,rfl,q⟩ | ⟨k,rfl,q⟩
 ·obtain ⟨u,rfl,t,rfl⟩:=gO r
  exact call_int_int ⟨.int i,H,I,⟨_,rfl⟩,q⟩
 ·obtain ⟨u,rfl,r1⟩:=gO r
  cases r1
  exact call_int_bool ⟨.int (if k then 1 else 0),H,I.tok _,⟨_,rfl⟩,q⟩
def CV (K:PySem.W.Frag) (x:V) (H:Hp) (n:Nat):Prop :=
 match x with
 | .str y=>y.length≤sizeLine∧n=y.length
 | .byt y=>y.size≤sizeLine∧n=y.size
 | .ref p=>(∃ xs,SqL K H p xs∧n=xs.length)∨∃ xs,SqT K H p xs∧n=xs.length
 | _=>False
theorem yu:cQ X (.builtin "len") (fun xs H Q=>∃ x n,xs=[x]∧CV X.K x H n∧Q (.int n) H):=by
 intro pins s σ H xs us Q I r h
 obtain ⟨x,n,rfl,e,q⟩:=h
 obtain ⟨u,rfl,rx⟩:=gO r
 have hl:=nB
 have hs:sizeLine=16777216:=Hi
 cases x with
 | str y =>
  obtain ⟨t,rfl⟩:=rx
  obtain ⟨hy,e'⟩:y.length≤sizeLine∧n=y.length:=e
  subst e'
  exact len_str (by omega) ⟨.int _,H,I.tok _,⟨_,rfl⟩,q⟩
 | byt y =>
  obtain ⟨t,rfl⟩:=rx
  obtain ⟨hy,e'⟩:y.size≤sizeLine∧n=y.size:=e
  subst e'
  exact PySem.W.len_bytes (by omega) ⟨.int _,H,I.tok _,⟨_,rfl⟩,q⟩
 | ref p =>
  cases rx
  have e':(∃ xs,SqL X.K H p xs∧n=xs.length)∨∃ xs,SqT X.K H p xs∧n=xs.length:=e
  rcases e' with ⟨xs,hx,e'⟩ | ⟨xs,hx,e'⟩
  ·subst e'
   obtain ⟨its,r',pl,hz⟩:=I.list hx
   have hlen:=r'.length
   exact Calls.call_len_list pl.isList (by simp only [E_]; omega) ⟨.int xs.length,H,I.tok _,⟨_,by simp only [E_]; rw [hlen]⟩,q⟩
  ·subst e'
   obtain ⟨its,r',pl,hz⟩:=I.tuple hx
   have hlen:=r'.length
   exact len_tuple pl (by simp only [E_]; omega) ⟨.int xs.length,H,I.tok _,⟨_,by simp only [E_]; rw [hlen]⟩,q⟩
 | _=>exact (show False from e).elim
end
structure CU (h:Heap) (x dx C:Addr) (mA:Str→Option Value):Prop where
 obj:h.get? x=some (PySem.W.instObj C dx)
 ns:h.Ns1 dx mA
 ne:dx ≠ x
theorem uV {h:Heap}{dx:Addr}{mA:Str→Option Value} (n:h.Ns1 dx mA):∃ od,h.get? dx=some od∧∀ name,PySem.W.lookIn name od=some (mA name):=by
 obtain ⟨o,es,ep,ho,hd,hk,_,hm⟩:=n
 refine ⟨o,ho,fun name=>?_⟩
 have e:=hm name
 unfold nsFind findBy at e
 rw [← Array.find?_toList] at e
 unfold PySem.W.lookIn
 rw [hd]
 dsimp only
 split
 ·rename_i y q
  rw [q] at e
  exact FZ some e
 ·rename_i q
  rw [q] at e
  have a:es.toList.any (·.refKey)=false:=by
   rw [Hn]
   intro y hy
   obtain ⟨z,t,hkey⟩:=hk y (Array.mem_toList_iff.mp hy)
   simp [DictEntry.refKey,hkey]
  have a':¬ es.toList.any (·.refKey)=true:=by rw [a]; exact Fe
  rw [if_neg a']
  exact FZ some e
theorem CU.look {h:Heap}{x dx C:Addr}{mA:Str→Option Value} (I:CU h x dx C mA):∃ od,PySem.W.InstAt h x (PySem.W.instObj C dx) C (some od)∧∀ name,PySem.W.lookIn name od=some (mA name) :=
 let ⟨od,ho,hl⟩:=uV I.ns
 ⟨od,⟨I.obj,rfl,rfl,ho⟩,hl⟩
theorem eI.some_of {v:V}{o:Option Value} (r:eI (some v) o):∃ u,o=some u∧aS v u:=by
 cases o with
 | none=>exact (show False from r).elim
 | some u=>exact ⟨u,rfl,r⟩
theorem eI.none_of {o:Option Value} (r:eI none o):o=none:=by
 cases o with
 | none=>rfl
 | some u=>exact (show False from r).elim
theorem u9 {v:V}{u:Value} (r:aS v u):PySem.W.handedIn u=true:=by
 cases v with
 | non=>cases (show u=Value.none from r); rfl
 | bl b=>cases (show u=Value.bool b from r); rfl
 | int i=>obtain ⟨t,e⟩:=(show ∃ t,u=Value.int i t from r); cases e; rfl
 | str x=>obtain ⟨t,e⟩:=(show ∃ t,u=Value.str x t from r); cases e; rfl
 | byt b=>obtain ⟨t,e⟩:=(show ∃ t,u=Value.bytes b t from r); cases e; rfl
 | flt b=>obtain ⟨t,e⟩:=(show ∃ t,u=Value.float b t from r); cases e; rfl
 | ref a=>cases (show u=Value.ref a from r); rfl
 | ty n=>cases (show u=Value.type n from r); rfl
section
variable {P:Program}{w:World}{H H':Hp}{h h':Heap}{a C dx:Addr}{fs fs':List (Str×V)}
theorem zU (hok:HOk P w H h) (e:H a=some (.ins C dx fs)):∃ mA,CU h a dx C mA∧(∀ f,eI (fs.lookup f) (mA f))∧PySem.Within mA (fs.map (·.1))∧fs.length≤1000∧H dx=some (.own a):=by
 obtain ⟨d,z,ne,ob,mA,n,r,q⟩:=(show cm P w H h a (.ins C dx fs) from hok a _ e)
 exact ⟨mA,⟨ob,n,ne⟩,r,q,z,d⟩
end
structure Cls (K:PySem.W.Frag) (C:Addr):Prop where
 pg:PySem.W.plainGet K C Str.empty=true
 hd:PySem.W.hasDictIn K C=true
 po:PySem.W.plainOver K C=true
 sa:PySem.W.findIn K (.ref C) "__setattr__" = some (some (.builtin "object.__setattr__"))
theorem Cls.get {K:PySem.W.Frag}{C:Addr} (c:Cls K C) (f:Str):PySem.W.plainGet K C f=true:=c.pg
section
variable {X:Cx}{pins:List (Addr×Obj)} {σ:St}{H:Hp}{s:Shared}{a C dx:Addr}{fs:List (Str×V)} {f:Str}{v:V}{A:Around}{E:Value→Shared→Prop}
theorem Av {prog:Program}{w:World}{env:Env}{e:Expr}{f:Str}{pos:Pos}{s:Shared}{Q:Value→Shared→Prop} (hb:attributeBase e f env (eval e env)=eval e env)
  (h:wpAny (model prog w) A (eval e env) (fun o s₁=>wpAny (model prog w) A (getAttr o f true) Q E s₁) E s):wpAny (model prog w) A (eval (.Attribute e f pos) env) Q E s :=
 Attribute_any_ h (by rw [arm_eval_Attribute,hb])
end
section
variable {X:Cx}{pins:List (Addr×Obj)} {σ:St}{H:Hp}{s:Shared}{A:Around}{E:Value→Shared→Prop}{Q:Value→Shared→Prop}{c:Value}{b:Bool}
inductive ib (K:PySem.W.Frag) (H:Hp):V→Value→Prop where
 | non:ib K H .non (.type "NoneType")
 | bl (x:Bool):ib K H (.bl x) (.type "bool")
 | int (i:Int):ib K H (.int i) (.type "int")
 | str (x:Str):ib K H (.str x) (.type "str")
 | flt (x:UInt64):ib K H (.flt x) (.type "float")
 | lst {a:Addr}{xs:List V} (e:H a=some (.lst xs)):ib K H (.ref a) (.type "list")
 | frz {a:Addr}{o:Obj}{xs:List V} (e:H a=some (.frz o (.lst xs))):ib K H (.ref a) (.type "list")
 | tup {a:Addr}{xs:List V} (e:H a=some (.tup xs)):ib K H (.ref a) (.type "tuple")
 | dK {a:Addr}{kvs:List (Key×V)} (e:H a=some (.dK kvs)):ib K H (.ref a) (.type "dict")
 | dT {a:Addr}{kvs:List (List Key×V)} (e:H a=some (.dT kvs)):ib K H (.ref a) (.type "dict")
 | frzD {a:Addr}{o:Obj}{kvs:List (Key×V)} (e:H a=some (.frz o (.dK kvs))):ib K H (.ref a) (.type "dict")
 | ins {a C dx:Addr}{fs:List (Str×V)} (e:H a=some (.ins C dx fs)) (cl:Cls K C) (ha:PySem.W.findIn K (.ref C) "__class__" = some (some (.builtin "object.__class__")))
   (hn:PySem.W.specialIn K (.builtin "object.__class__") "__get__" = some (some (.builtin "getset_descriptor.__get__"))) (htk:PySem.W.takesIn K (.builtin "object.__class__")=some true)
   (hm:PySem.W.mroIn K C (.type "object")=some true):ib K H (.ref a) (.ref C)
theorem u4 {x:V}{u t:Value} (I:Inv X pins σ H s) (rx:aS x u) (ty:ib X.K H x t) (e:PySem.W.kitOne X.K t c=some b) (h:∀ tk,Q (.bool b) { s with toks:=tk }) :
  wpAny (model X.prog X.w) A (call (.builtin "isinstance") [u,c]) Q E s:=by
 cases ty with
 | non=>cases (show u=Value.none from rx); exact FR PySem.W.kitx_none I.kIn True.intro e (fun z=>nomatch z) h
 | bl y=>cases (show u=Value.bool y from rx); exact FR PySem.W.kitx_bool I.kIn True.intro e (fun z=>nomatch z) h
 | int i=>obtain ⟨t,q⟩:=(show ∃ t,u=Value.int i t from rx); cases q; exact FR PySem.W.kitx_int I.kIn True.intro e (fun z=>nomatch z) h
 | str y=>obtain ⟨t,q⟩:=(show ∃ t,u=Value.str y t from rx); cases q; exact FR PySem.W.kitx_str I.kIn True.intro e (fun z=>nomatch z) h
 | flt y=>obtain ⟨t,q⟩:=(show ∃ t,u=Value.float y t from rx); cases q; exact FR PySem.W.kitx_float I.kIn True.intro e (fun z=>nomatch z) h
 | @lst a xs ea =>
  cases (show u=Value.ref a from rx)
  obtain ⟨_,_,n,_,h1⟩:=(show cm X.prog X.w H s.heap a (.lst xs) from I.hok a _ ea)
  exact FR PySem.W.kitx_list I.kIn ⟨_,h1,rfl⟩ e (fun z=>nomatch z) h
 | @frz a ob xs ea =>
  cases (show u=Value.ref a from rx)
  obtain ⟨_,_,_,n,_,h1⟩:=(show cm X.prog X.w H s.heap a (.frz ob (.lst xs)) from I.hok a _ ea)
  exact FR PySem.W.kitx_list I.kIn ⟨_,h1,rfl⟩ e (fun z=>nomatch z) h
 | @tup a xs ea =>
  cases (show u=Value.ref a from rx)
  obtain ⟨_,_,_,p⟩:=(show cm X.prog X.w H s.heap a (.tup xs) from I.hok a _ ea)
  obtain ⟨o,h1,h2,_⟩:=p
  exact FR PySem.W.kitx_tuple I.kIn ⟨o,h1,h2⟩ e (fun z=>nomatch z) h
 | @dK a kvs ea =>
  cases (show u=Value.ref a from rx)
  obtain ⟨_,_,vs,_,p⟩:=(show cm X.prog X.w H s.heap a (.dK kvs) from I.hok a _ ea)
  obtain ⟨o,es,ep,h1,h2,_⟩:=p
  exact FR HU I.kIn ⟨o,h1,h2.1⟩ e (fun z=>nomatch z) h
 | @frzD a ob kvs ea =>
  cases (show u=Value.ref a from rx)
  obtain ⟨_,_,_,vs,_,p⟩:=(show cm X.prog X.w H s.heap a (.frz ob (.dK kvs)) from I.hok a _ ea)
  obtain ⟨o,es,ep,h1,h2,_⟩:=p
  exact FR HU I.kIn ⟨o,h1,h2.1⟩ e (fun z=>nomatch z) h
 | @dT a kvs ea =>
  cases (show u=Value.ref a from rx)
  obtain ⟨_,_,xs,_,o,es,ep,h1,h2,_⟩:=(show cm X.prog X.w H s.heap a (.dT kvs) from I.hok a _ ea)
  exact FR HU I.kIn ⟨o,h1,h2.1⟩ e (fun z=>nomatch z) h
 | @ins a C dx fs ea cl ha hn htk hm =>
  cases (show u=Value.ref a from rx)
  obtain ⟨mA,O,_⟩:=zU I.hok ea
  obtain ⟨od,J,_⟩:=O.look
  exact FR (PySem.W.kitx_own (cl.get _) cl.hd ha hn htk hm) I.kIn J e (fun z=>nomatch z) h
end
structure da (k:Nat) (A:Around):Prop where
 hd:A.handled=none
 dp:A.depth + 3 * k + 5 < recursionLimit
 un:A.units + 16 * k + 200 < cLine
theorem da.mono {j k:Nat}{A:Around} (r:da k A) (h:j≤k):da j A:=⟨r.hd,by have:=r.dp; omega,by have:=r.un; omega⟩
theorem da.deeper {k:Nat}{A:Around} (r:da (k + 1) A) (env:Env):da k (A.deeper env) :=
 ⟨r.hd,by have:=r.dp; show A.depth + 1 + 3 * k + 5 < _; omega,by have:=r.un; show A.units + 3 + 16 * k + 200 < _; omega⟩
theorem qX {A:Around}{C:Addr}{us:List Value}{kw:List (Str×Value)}:(A.under (.builtin "type.__call__" ⟨.ref C :: us,kw⟩)).depth=A.depth + 1:=by
 first | rfl | simp [Around.under,Code.weight,Code.isCreation,Code.isGuard,Code.isCaller,Code.frames,Code.isFrame,guardIds]
theorem qW {A:Around}{C:Addr}{us:List Value}{kw:List (Str×Value)}:(A.under (.builtin "type.__call__" ⟨.ref C :: us,kw⟩)).units=A.units + 1:=by
 first | rfl | simp [Around.under,Code.cUnits,Code.frames,Code.isFrame]
theorem da.make {k:Nat}{A:Around} (r:da (k + 1) A) (C:Addr) (us:List Value) (kw:List (Str×Value)):da k (A.under (.builtin "type.__call__" ⟨.ref C :: us,kw⟩)) :=
 ⟨r.hd,by have:=r.dp; rw [qX]; omega,by have:=r.un; rw [qW]; omega⟩
theorem da.depth {k:Nat}{A:Around} (r:da k A):A.depth < recursionLimit:=by have:=r.dp; omega
theorem da.units {k:Nat}{A:Around} (r:da k A):A.units + 64 < cLine:=by have:=r.un; omega
def Da:TA:=fun _ H Q=>Q [] H
def AH (ta:TE) (tr:TA):TA:=fun σ H Q=>ta σ H fun x H1=>tr σ H1 fun xs H2=>Q (x :: xs) H2
section
variable {X:Cx}{e:Expr}{es:List Expr}{te:TE}{t:TA}{pos:Pos}
theorem ej:PA X [] Da:=fun _ _ _ _ H Q I h=>Hy ⟨[],H,I,.nil,h⟩
theorem cI (ha:PE X e te) (hr:PA X es t) (hs:starEach (e :: es) X.env=(false,eval e X.env) :: starEach es X.env:=by rfl):PA X (e :: es) (AH te t):=by
 intro pos pins s σ H Q I h
 rw [hs]
 show wpAny _ _ (spliced ((false,eval e X.env) :: backTo pos (starEach es X.env))) _ _ s
 refine G5 (thn (ha pins s σ H _ I h) fun u s1 zz32_0=>?_)
 obtain ⟨x,H1,I1,r1,q1⟩:=zz32_0
 exact thn (hr pos pins s1 σ H1 _ I1 q1) fun us s2 zz33_0=>by obtain ⟨xs,H2,I2,r2,q2⟩:=zz33_0; exact ⟨x :: xs,H2,I2,.cons r1 r2,q2⟩
def Ee (t:TA):TE:=fun σ H Q=>t σ H fun xs H1=>xs.length≤sizeLine∧∀ p,H1 p=none→Q (.ref p) (upd H1 p (.tup xs))
def Ej (t:TA):TE:=fun σ H Q=>t σ H fun xs H1=>xs.length≤sizeLine∧∀ p,H1 p=none→Q (.ref p) (upd H1 p (.lst xs))
theorem wO {x1} (h:PA X es t):PE X (.Tuple es x1 pos) (Ee t):=by
 intro pins s σ H Q I hq
 refine wpAny_Tuple_spliced (thn (h pos pins s σ H _ I hq) fun us s1 ⟨xs,H1,I1,r,z,q⟩=>⟨by rw [← r.length]; exact z,?_⟩)
 have hf:H1 s1.heap.objs.size=none:=I1.hok.fresh (E9 _)
 refine ⟨.ref s1.heap.objs.size,upd H1 s1.heap.objs.size (.tup xs),I1.laid (t':=s1.toks) (fun b u e=>EU _ e) (E9 _) ?_,rfl,q _ hf⟩
 exact ⟨z,us,r,⟨_,EZ _ rfl,rfl,_,rfl⟩⟩
theorem BM (h:PA X es t):PE X (.List es pos) (Ej t):=by
 intro pins s σ H Q I hq
 refine wpAny_List_spliced (thn (h pos pins s σ H _ I hq) fun us s1 ⟨xs,H1,I1,r,z,q⟩=>⟨by rw [← r.length]; exact z,?_⟩)
 have hf:H1 s1.heap.objs.size=none:=I1.hok.fresh (E9 _)
 refine ⟨.ref s1.heap.objs.size,upd H1 s1.heap.objs.size (.lst xs),I1.laid (t':=s1.toks) (fun b u e=>EU _ e) (E9 _) ?_,rfl,q _ hf⟩
 exact ⟨z,us,0,r,EZ _ rfl⟩
end
abbrev Sp:=List V→Hp→VK→XK→Prop
abbrev CXT:=List Env→Hp→Shared→XK→Value→Shared→Prop
structure rV (P:Program) (w:World) (K:PySem.W.Frag) (mg:Str→Option Value) (base:Heap) (A:Around) (outer:List Env) (s:Shared) (H:Hp):Prop where
 frames:A.frames=some outer
 mod:Mod K mg base
 bs:∀ b o,base.get? b=some o→s.heap.get? b=some o∧H b=none
 bsz:base.objs.size≤s.heap.objs.size
 funs:s.heap.FunFrames base outer
 frf:∀ b ∈ frs outer,H b=none
 hok:HOk P w H s.heap
 bare:AllBare s.gens
def CE (outer:List Env) (P:Program) (w:World) (H:Hp) (s:Shared) (Q:VK) (u:Value) (s':Shared):Prop :=
 ∃ v H',s'.os=s.os∧AllBare s'.gens∧Un (frs outer) [] H H' s.heap s'.heap∧HOk P w H' s'.heap∧aS v u∧Q v H'
def CR (CX:CXT) (outer:List Env) (P:Program) (w:World) (H:Hp) (s:Shared) (Q:VK) (E:XK) (r:Result) (s':Shared):Prop :=
 match r with
 | .ok (.ret u)=>CE outer P w H s Q u s'
 | .ok _=>False
 | .error e=>CX outer H s E e s'
structure bu (P:Program) (w:World) (K:PySem.W.Frag) (mg:Str→Option Value) (base:Heap) (CX:CXT) (k:Nat) (f:Addr) (fd:FuncData) (ps:List Str) (sp:Sp):Prop where
 len:∀ vs H Q E,sp vs H Q E→vs.length=ps.length
 run:∀ (A:Around) (outer:List Env) (s:Shared) (H:Hp) (args:Args) (us:List Value) (vs:List V) (Q:VK) (E:XK),da k A→rV P w K mg base A outer s H→BindsTo s fd args (ps.zip us)→aR vs us→sp vs H Q E →
  codeAny (model P w) A (.call (.ref f) args) (CR CX outer P w H s Q E) s
theorem rV.make {P:Program}{w:World}{K:PySem.W.Frag}{mg:Str→Option Value}{base:Heap}{A:Around}{outer:List Env}{s:Shared}{H:Hp} (e:rV P w K mg base A outer s H) (C:Addr) (us:List Value) (kw:List (Str×Value)) :
  rV P w K mg base (A.under (.builtin "type.__call__" ⟨.ref C :: us,kw⟩)) outer s H:=⟨by first | exact e.frames | (simpa [Around.under,Code.envs,Code.isFrame,pushEnvs] using e.frames),e.mod,e.bs,e.bsz,e.funs,e.frf,e.hok,e.bare⟩
section
variable {X:Cx}{pins:List (Addr×Obj)} {σ:St}{H:Hp}{s s':Shared}
theorem Inv.env0 (I:Inv X pins σ H s):rV X.prog X.w X.K X.mg X.base X.A X.stack s H :=
 ⟨I.ok.frames,I.ok.mod,I.bs,Fa I.ok.bsz I.sz,I.stack,I.stkFree,I.hok,I.bare⟩
theorem Inv.after {Q:VK}{u:Value} (I:Inv X pins σ H s) (h:CE X.stack X.prog X.w H s Q u s'):EP X pins σ Q u s':=by
 obtain ⟨v,H',os,bare,un,hok,r,q⟩:=h
 obtain ⟨hh,g,d,t,os'⟩:=s'
 obtain rfl:os'=s.os:=os
 exact ⟨v,H',I.call (h':=hh) (g':=g) (d':=d) (t':=t) (ch:=[]) un hok bare (fun b z=>absurd z (by simp)),r,q⟩
end
def Df (sp:Sp) (dvs:List V) (E:XK) (t:TA):TE:=fun σ H Q=>t σ H fun vs H1=>sp (vs ++ dvs) H1 Q E
def bC (K:PySem.W.Frag) (fd:FuncData) (ps:List Str) (ds:List Value):Prop :=
 ∀ (s:Shared) (us:List Value),K.In s.heap→(us ++ ds).length=ps.length→BindsTo s fd ⟨us,[]⟩ (ps.zip (us ++ ds))
theorem bC.all {K:PySem.W.Frag}{fd:FuncData}{ps:List Str} (h:∀ us:List Value,us.length=ps.length→bindArgs fd ⟨us,[]⟩=pure (ps.zip us)):bC K fd ps []:=fun s us _ hl=>by
 rw [F9] at hl ⊢
 exact .of_eq (h us hl)
def rK (CX:CXT) (X:Cx) (E:XK):Prop:=∀ (pins:List (Addr×Obj)) (σ:St) (H:Hp) (s:Shared) (e:Value) (s':Shared),Inv X pins σ H s→CX X.stack H s E e s'→X.xe e s'
section
variable {X:Cx}{CX:CXT}{k:Nat}{f C:Addr}{fd:FuncData}{ps:List Str}{sp:Sp}{dvs:List V}{ds:List Value}{E:XK}{x m:Str}{p pos apos:Pos}{e o:Expr}{es:List Expr}{ta:TE}{t:TA}
theorem Bh {pins:List (Addr×Obj)} {σ:St}{H:Hp}{s:Shared}{Q:VK}{us:List Value}{vs:List V} (F:bu X.prog X.w X.K X.mg X.base CX k f fd ps sp) (hr:da k X.A) (hb:bC X.K fd ps ds) (hd:aR dvs ds) (hx:rK CX X E)
  (I:Inv X pins σ H s) (r:aR vs us) (h:sp (vs ++ dvs) H Q E):wpAny (model X.prog X.w) X.A (call (.ref f) us) (EP X pins σ Q) X.xe s:=by
 have r2:aR (vs ++ dvs) (us ++ ds):=r.append hd
 have hl:(us ++ ds).length=ps.length:=by rw [← r2.length]; exact F.len _ _ _ _ h
 refine H9 (GF (F.run X.A X.stack s H ⟨us,[]⟩ (us ++ ds) (vs ++ dvs) Q E hr I.env0 (hb s us I.kIn hl) r2 h) fun r s' hq=>?_)
 cases r with
 | error e=>exact hx pins σ H s e s' I hq
 | ok fl =>
  cases fl with
  | ret u=>exact I.after hq
  | next=>exact False.elim hq
  | brk=>exact False.elim hq
  | cont=>exact False.elim hq
theorem zx (F:bu X.prog X.w X.K X.mg X.base CX k f fd ps sp) (hr:da k X.A) (hg:Gl X x) (hm:X.mg x=some (.ref f)) (hk:PySem.W.keepIn X.K (.ref f)=true) (hb:bC X.K fd ps ds) (hd:aR dvs ds) (hx:rK CX X E)
  (ha:PA X (e :: es) t) (hdb:(x == ("__debug__" : Str))=false:=by decide) (he:starEach (e :: es) X.env=(false,eval e X.env) :: starEach es X.env:=by rfl) (hpl:(backTo pos (starEach es X.env)).any (·.1)=false:=by rfl) :
  PE X (.Call (.Name x p) (e :: es) [] pos) (Df sp dvs E t):=by
 intro pins s σ H Q I h
 refine Go (iq I hg hm ?_ hdb)
 refine HL (h₀:=X.base) I.ok.mod.kin hk (thn (ha pos pins s σ H _ I h) fun us s1 ⟨vs,H1,I1,r,q⟩=>⟨I1.kIn,?_⟩) he hpl
 exact Bh F hr hb hd hx I1 r q
end
structure aM (N P:List Str) (sc:Scope):Prop where
 kind:sc.kind=.function
 co:sc.isCoroutine=false
 gen:sc.isGenerator=false
 nd:N.Nodup
 pre:N.take P.length=P
 par:∀ x ∈ P,sc.names.lookup x=some .local∨sc.names.lookup x=some .cell
 nofree:∀ y ∈ sc.names,y.2 ≠ .free
theorem mK {kindOf:Str→Option NameKind}{x:Str}:∀ {binds:List (Str×Value)} {m:Str→Option Value},(∀ v,(x,v) ∉ binds)→bindL kindOf binds m x=m x
 | [],_,_=>rfl
 | (n,v) :: r,m,h=>by
  unfold bindL
  rw [mK fun w hw=>h w (E7 _ hw)]
  split
  ·have:x ≠ n:=by rintro rfl; exact h v Fd
   simp [this]
  ·rfl
theorem mM {kindOf:Str→Option NameKind}{x:Str}:∀ {binds:List (Str×Value)} {m:Str→Option Value},(∀ v,(x,v) ∉ binds)→bindC kindOf binds m x=m x
 | [],_,_=>rfl
 | (n,v) :: r,m,h=>by
  unfold bindC
  rw [mM fun w hw=>h w (E7 _ hw)]
  split
  ·rfl
  ·have:x ≠ n:=by rintro rfl; exact h v Fd
   simp [this]
theorem mL {kindOf:Str→Option NameKind}{x:Str}{v:Value}:∀ {P:List Str}{vs:List Value}{i:Nat}{m:Str→Option Value},P.Nodup→P[i]? = some x→vs[i]? = some v→kindOf x=some .local →
  bindL kindOf (P.zip vs) m x=some v
 | [],_,_,_,_,h,_,_=>by simp at h
 | _ :: _,[],_,_,_,_,h,_=>by simp at h
 | p :: P,w :: vs,0,m,nd,h1,h2,hk=>by
  simp at h1 h2; subst h1; subst h2
  show bindL kindOf ((p,w) :: P.zip vs) m p=_
  unfold bindL
  rw [mK fun v hv=>(List.nodup_cons.mp nd).1 (List.of_mem_zip hv).1,if_pos hk]
  simp
 | p :: P,w :: vs,i + 1,m,nd,h1,h2,hk=>by
  show bindL kindOf ((p,w) :: P.zip vs) m x=_
  unfold bindL
  exact mL (i:=i) (List.nodup_cons.mp nd).2 (by simpa using h1) (by simpa using h2) hk
theorem mO {kindOf:Str→Option NameKind}{x:Str}{v:Value}:∀ {P:List Str}{vs:List Value}{i:Nat}{m:Str→Option Value},P.Nodup→P[i]? = some x→vs[i]? = some v→kindOf x ≠ some .local →
  bindC kindOf (P.zip vs) m x=some v
 | [],_,_,_,_,h,_,_=>by simp at h
 | _ :: _,[],_,_,_,_,h,_=>by simp at h
 | p :: P,w :: vs,0,m,nd,h1,h2,hk=>by
  simp at h1 h2; subst h1; subst h2
  show bindC kindOf ((p,w) :: P.zip vs) m p=_
  unfold bindC
  rw [mM fun v hv=>(List.nodup_cons.mp nd).1 (List.of_mem_zip hv).1,if_neg hk]
  simp
 | p :: P,w :: vs,i + 1,m,nd,h1,h2,hk=>by
  show bindC kindOf ((p,w) :: P.zip vs) m x=_
  unfold bindC
  exact mO (i:=i) (List.nodup_cons.mp nd).2 (by simpa using h1) (by simpa using h2) hk
def start (N:List Str) (vs:List V):St:=vs.map some ++ List.replicate (N.length - vs.length) none
def i5 (CX:CXT) (P:Program) (w:World) (K:PySem.W.Frag) (mg:Str→Option Value) (base:Heap) (N:List Str) (qual:Str) (scope:Scope) (f:Addr) (cd:Value) (A:Around) (outer:List Env) (s:Shared) (H:Hp) (E:XK):Cx where
 prog:=P
 w:=w
 K:=K
 mg:=mg
 base:=base
 A:=A.deeper (envOfC qual scope s.heap.objs.size f cd)
 N:=N
 s₀:=s
 H₀:=H
 env:=envOfC qual scope s.heap.objs.size f cd
 outer:=outer
 stack:=envOfC qual scope s.heap.objs.size f cd :: outer
 ex:=[]
 calm:=true
 fn:=fun _=>true
 pn:=[]
 xe:=fun e s'=>wpAny (model P w) (A.deeper (envOfC qual scope s.heap.objs.size f cd)) (leaving (envOfC qual scope s.heap.objs.size f cd) e) (fun _ s''=>CX outer H s E e s'') (fun e' s''=>CX outer H s E e' s'') s'
theorem p_ {sc:Scope}{n:Nat}{x:Str} (h:sc.names.lookup x=some .cell):∃ c,(cellsFrom n sc.names []).lookup x=some c:=by
 have q:=PySem.W.cellsFrom_some sc.names n [] (.inl h)
 exact Option.isSome_iff_exists.mp q
theorem u5 {CX:CXT}{P:Program}{w:World}{K:PySem.W.Frag}{mg:Str→Option Value}{base:Heap}{N ps:List Str}{qual:Str}{scope:Scope}{f:Addr}{cd:Value}{A:Around}{outer:List Env}{s s1:Shared}{H:Hp}{E:XK}{us:List Value}{vs:List V}
  (S:aM N ps scope) (hd:A.handled=none) (e0:rV P w K mg base A outer s H) (hl:vs.length=ps.length) (r:aR vs us)
  (x:InCallC s s.heap.objs.size (bindL (envOfC qual scope s.heap.objs.size f cd).kindOf (ps.zip us) fun _=>none) (cellsFrom (s.heap.objs.size + 1) scope.names []) (bindC (envOfC qual scope s.heap.objs.size f cd).kindOf (ps.zip us) fun _=>none) s1) :
  Inv (i5 CX P w K mg base N qual scope f cd A outer s H E) [] (start N vs) H s1:=by
 have hpl:ps.length≤N.length:=by have:=FZ List.length S.pre; rw [GH] at this; omega
 obtain ⟨h1,tk,rfl,hk⟩:=x.done
 have noA:∀ b:Addr,b ∉ (i5 CX P w K mg base N qual scope f cd A outer s H E).ex:=fun b z=>absurd (show b ∈ ([]:List Addr) from z) (by simp)
 refine ⟨⟨e0.mod,S.kind,rfl,rfl,E9 _,fun y z c h1 h2=>?_,fun y hy=>?_,fun y c _ h=>?_,fun _=>hd,Around.frames_deeper e0.frames,.inr ⟨rfl,rfl⟩,fun b z=>absurd z (noA b),e0.bs,e0.bsz,fun b _ _=>noA b,fun b z=>absurd z (noA b),e0.funs,e0.frf⟩,
  rfl,e0.bare,Un.kept hk,⟨_,x.toInCall.ns,fun i y v h1 h2 h3=>?_⟩,fun y c h=>⟨_,x.cell y c h⟩,e0.hok.fresh (E9 _),fun y c h=>?_,fun p hp=>absurd (show p ∈ ([]:List (Addr×Obj)) from hp) (by simp),e0.hok.kept hk,?_⟩
 ·exact name_of_addr x.apart (GK h1) (GK h2)
 ·have hy:scope.names.lookup y=some .cell∨scope.names.lookup y=some .free:=hy
  rcases hy with hy | hy
  ·exact p_ hy
  ·exact absurd rfl (S.nofree _ (GK hy))
 ·exact Gm (x.above y c (GK h))
 ·have hi:i < vs.length:=by
   unfold start at h2
   by_cases hi:i < vs.length
   ·exact hi
   ·rw [GD (by simpa using hi)] at h2
    rw [List.getElem?_replicate] at h2
    split at h2 <;> cases h2
  have ha:vs[i]? = some v:=by
   unfold start at h2
   rw [GG (by simpa using hi),Fg] at h2
   cases e:vs[i]? with
   | none=>rw [e] at h2; cases h2
   | some a=>rw [e] at h2; cases h2; rfl
  obtain ⟨u,hu,rv⟩:=r.get ha
  have hp:ps[i]? = some y:=by
   rw [← S.pre,List.getElem?_take_of_lt (by omega)]; exact h1
  have ndP:ps.Nodup:=by rw [← S.pre]; exact S.nd.sublist (List.take_sublist _ _)
  refine ⟨u,rv,?_⟩
  rcases S.par y (F_ hp) with k | k
  ·exact .inl ⟨k,mL ndP hp hu k⟩
  ·obtain ⟨c,e⟩:=p_ (n:=s.heap.objs.size + 1) k
   refine .inr ⟨.inl k,c,e,?_⟩
   have q:=x.cell y c e
   rw [mO ndP hp hu (by show scope.names.lookup y ≠ _; rw [k]; decide)] at q
   exact q
 ·exact e0.hok.fresh (Gm (x.above y c (GK h)))
 ·unfold start
  show _=N.length
  rw [Fb,EW,HC]
  omega
theorem AU {CX:CXT}{P:Program}{w:World}{K:PySem.W.Frag}{mg:Str→Option Value}{base:Heap}{k:Nat}{f:Addr}{name qual:Str}{params:Arguments}{body:List Stmt}{scope:Scope}{dV kV doc pm cdv ct oc:Value}{an od:Option Addr}
  {osl:Array (Option Value)} {N ps:List Str}{sp:Sp} (lk:K.lookup f=some ⟨oc,od,.func (PySem.W.fnOf name qual params body scope dV kV doc pm an cdv ct),osl⟩) (hcd:PySem.W.codeIn K cdv qual=true) (S:aM N ps scope)
  (len:∀ vs H Q E,sp vs H Q E→vs.length=ps.length)
  (hbody:∀ (A:Around) (outer:List Env) (s:Shared) (H:Hp) (vs:List V) (Q:VK) (E:XK),da k (A.deeper (envOfC qual scope s.heap.objs.size f cdv))→sp vs H Q E →
   ∃ t,PSs (i5 CX P w K mg base N qual scope f cdv A outer s H E) body t∧t { nx:=fun _ H'=>Q .non H',rt:=Q } (start N vs) H) :
  bu P w K mg base CX (k + 1) f (PySem.W.fnOf name qual params body scope dV kV doc pm an cdv ct) ps sp:=by
 refine ⟨len,fun A outer s H args us vs Q E hr e0 hb r hsp=>?_⟩
 have hl:=len _ _ _ _ hsp
 have KX:K.In s.heap:=e0.mod.kin.keeps fun b o e=>(e0.bs b o e).1
 have lim:s.heap.NoLimit:=e0.mod.nolimit.keeps fun b o e=>(e0.bs b o e).1
 have hkind:∀ y ∈ ps.zip us,scope.names.lookup y.1=some .local∨(scope.names.lookup y.1=some .cell∧((cellsFrom (s.heap.objs.size + 1) scope.names []).lookup y.1).isSome=true):=fun zz37_0 hy=>by
  obtain ⟨n,v⟩:=zz37_0
  rcases S.par n (List.of_mem_zip hy).1 with q | q
  ·exact .inl q
  ·exact .inr ⟨q,PySem.W.cellsFrom_some _ _ _ (.inl q)⟩
 refine codeAny_call_function hr.depth (KX _ _ lk) rfl S.co S.gen rfl (PySem.W.codeRec_of KX hcd) (hb _ _ _ _ ?_)
 refine wpAny_newFunctionEnv_cells S.kind hkind fun env he s1 x=>?_
 subst he
 refine ⟨lim.keeps x.toInCall.keep,codeAny_func ?_⟩
 obtain ⟨t,ht,hq⟩:=hbody A outer s H vs Q E (hr.deeper _) hsp
 have I:Inv (i5 CX P w K mg base N qual scope f cdv A outer s H E) [] (start N vs) H s1:=u5 S hr.hd e0 hl r x
 refine FG (ht [] s1 (start N vs) H _ I hq) (fun fl s' hs=>?_) fun e s' hs=>hs
 have fin:∀ {σ':St}{H':Hp}{v:V}{u:Value},Inv (i5 CX P w K mg base N qual scope f cdv A outer s H E) [] σ' H' s'→aS v u→Q v H'→CE outer P w H s Q u s' :=
  fun {σ' H' v u} J rv q=>⟨v,H',J.os,J.bare,J.base,J.hok,rv,q⟩
 cases fl with
 | ret u =>
  obtain ⟨v,σ',H',J,rv,q⟩:=hs
  exact fin J rv q
 | next =>
  obtain ⟨σ',H',J,q⟩:=hs
  exact fin (v:=V.non) (u:=Value.none) J rfl q
 | brk =>
  obtain ⟨_,_,_,q⟩:=hs
  exact False.elim q
 | cont =>
  obtain ⟨_,_,_,q⟩:=hs
  exact False.elim q
section
variable {X:Cx}{x:Str}{p pos:Pos}{e:Expr}{es:List Expr}{t:TA}{id T:String}{r:List V→Hp→VK→Prop}
def tCB (r:List V→Hp→VK→Prop) (t:TA):TE:=fun σ H Q=>t σ H fun vs H1=>r vs H1 Q
theorem gd (hc:cQ X (.builtin id) r) (hg:Gl X x) (hm:X.mg x=none) (hv:bootBuiltins x=some (.builtin id)) (ha:PA X (e :: es) t) (hn:x ≠ "__name__" := by decide) (hdb:(x == ("__debug__" : Str))=false:=by decide)
  (he:starEach (e :: es) X.env=(false,eval e X.env) :: starEach es X.env:=by rfl) (hpl:(backTo pos (starEach es X.env)).any (·.1)=false:=by rfl):PE X (.Call (.Name x p) (e :: es) [] pos) (tCB r t):=by
 intro pins s σ H Q I h
 refine Go (fG I hg hm hv ?_ hn hdb)
 exact PyProof.Rows.callWith_builtin1 (thn (ha pos pins s σ H _ I h) fun us s1 zz38_0=>by obtain ⟨vs,H1,I1,r1,q1⟩:=zz38_0; exact hc pins s1 σ H1 vs us Q I1 r1 q1) he hpl
theorem uD (hc:cQ X (.type T) r) (hg:Gl X x) (hm:X.mg x=none) (hv:bootBuiltins x=some (.type T)) (ha:PA X (e :: es) t) (hn:x ≠ "__name__" := by decide) (hdb:(x == ("__debug__" : Str))=false:=by decide)
  (he:starEach (e :: es) X.env=(false,eval e X.env) :: starEach es X.env:=by rfl) (hpl:(backTo pos (starEach es X.env)).any (·.1)=false:=by rfl):PE X (.Call (.Name x p) (e :: es) [] pos) (tCB r t):=by
 intro pins s σ H Q I h
 refine Go (fG I hg hm hv ?_ hn hdb)
 exact F0 (thn (ha pos pins s σ H _ I h) fun us s1 zz39_0=>by obtain ⟨vs,H1,I1,r1,q1⟩:=zz39_0; exact hc pins s1 σ H1 vs us Q I1 r1 q1) he hpl
end
end L2
namespace HT
open PySem PyProof.Rows
section
open PySem.SeqAt
open PySem.AutoSeq1 (wpAny_loadPart')
open PySem.MeetsSeq PySem.MeetsSeq2 PySem.MeetsSeq3
end
section
variable {prog:Program}{w:World}{A:Around}{E:Value→Shared→Prop}{s:Shared}
theorem cat_tup {t b:Addr}{vs ws:List Value}{Q:Value→Shared→Prop} (ht:IsTup s.heap t vs.toArray) (hb:IsTup s.heap b ws.toArray) (hv:vs ≠ [])
  (h1:ws=[]→Q (.ref t) s) (h2:ws ≠ []→Q (.ref s.heap.objs.size) { s with heap:=s.heap.push { cls:=.type "tuple",data:=.seq (vs ++ ws).toArray } })
  (hsz:vs.length + ws.length≤sizeLine):wpAny (model prog w) A (binaryOp .Add (.ref t) (.ref b)) Q E s:=by
 obtain ⟨⟨cls,dd,data,sl⟩,ho,hc,n,hd⟩:=id ht
 obtain ⟨⟨cls2,dd2,data2,sl2⟩,ho2,hc2,n2,hd2⟩:=id hb
 simp only at hc hd hc2 hd2
 subst hc hd hc2 hd2
 have e:vs.toArray ++ ws.toArray=(vs ++ ws).toArray:=by simp
 by_cases hw:ws=[]
 ·exact concat_meets ⟨_,ho,rfl⟩ ⟨_,ho2,rfl⟩ noFill_tuple_add seq_tuple_add Hu Hr (Hj _ _)
   (tuple_addW1 t b vs.toArray ws.toArray n n2 dd dd2 sl sl2 (by simpa using hv) (by simp [hw])) ⟨ho,ho2,h1 hw⟩
 ·refine concat_meets ⟨_,ho,rfl⟩ ⟨_,ho2,rfl⟩ noFill_tuple_add seq_tuple_add Hu Hr (Hj _ _)
   (tuple_addW2 t b vs.toArray ws.toArray n n2 dd dd2 sl sl2 (by simpa using hv) (by simpa using hw) (by rw [E_,E_]; exact hsz)) ⟨ho,ho2,?_⟩
  rw [e]
  exact h2 hw
def sIx (n d:Nat):Option Int→Nat
 | none=>d
 | some v=>if v < 0 then (v + (n:Int)).toNat else min v.toNat n
theorem sIx_none (n d:Nat):sIx n d none=d:=rfl
theorem sIx_nat (n d k:Nat):sIx n d (some (k:Int))=min k n:=by
 show (if (k:Int) < 0 then ((k:Int) + (n:Int)).toNat else min (k:Int).toNat n)=min k n
 rw [if_neg (by omega),Gd]
theorem sIx_le (n d:Nat) (hd:d≤n) (o:Option Int):sIx n d o≤n:=by
 cases o with
 | none=>exact hd
 | some v =>
  show (if v < 0 then (v + (n:Int)).toNat else min v.toNat n)≤n
  by_cases hv:v < 0
  ·rw [if_pos hv]; omega
  ·rw [if_neg hv]; exact Nat.min_le_right _ _
theorem clip_eq (v:Int) (n d:Nat):(if v < 0 then max (v + (n:Int)) 0 else min v (n:Int))=((sIx n d (some v):Nat):Int):=by
 show (if v < 0 then max (v + (n:Int)) 0 else min v (n:Int))=(((if v < 0 then (v + (n:Int)).toNat else min v.toNat n):Nat):Int)
 by_cases hv:v < 0
 ·simp only [if_pos hv]; omega
 ·simp only [if_neg hv]; omega
theorem rH (lo hi:Option Int) (n:Nat):Builtin.Slice.sliceAdjust lo hi 1 (n:Int)=(((sIx n 0 lo:Nat):Int),((sIx n n hi:Nat):Int)):=by
 have h1:¬ ((1:Int) < 0):=by omega
 unfold Builtin.Slice.sliceAdjust
 simp only [h1,HJ]
 refine Prod.ext ?_ ?_
 ·cases lo with
  | none=>rfl
  | some v=>exact clip_eq v n 0
 ·cases hi with
  | none=>rfl
  | some v=>exact clip_eq v n n
theorem qL (i j:Nat):Builtin.Slice.slicePlaces (i:Int) (j:Int) 1=j - i:=by
 unfold Builtin.Slice.slicePlaces
 have h1:(1:Int) > 0:=by omega
 simp only [h1,if_true,Int.ediv_one]
 split <;> omega
theorem jJ {v:Value}{o:Option Int}{Q:Option Int→Shared→Prop} (p:IsPart v o) (h:Q o s):wpAny (model prog w) A (Builtin.Slice.slicePartIndex v) Q E s:=by
 cases p with
 | none=>exact slicePart_none h
 | int i t=>exact slicePart_int h
theorem sliceApplied_gen {sl:Addr}{vl vu:Value}{lo hi:Option Int}{n:Nat}{Q:Int×Int×Nat→Shared→Prop} (hs:s.heap.IsSliceOf sl vl vu .none) (pl:IsPart vl lo) (pu:IsPart vu hi)
  (h:Q (((sIx n 0 lo:Nat):Int),1,sIx n n hi - sIx n 0 lo) s):wpAny (model prog w) A (Builtin.Slice.sliceApplied (.ref sl) (pure (n:Int))) Q E s:=by
 obtain ⟨os,hos,hcs,hds⟩:=id hs
 unfold Builtin.Slice.sliceApplied Builtin.Slice.sliceFields
 refine ET (ET (Ga hos hds (x:=vl) rfl (ET (Ga hos hds (x:=vu) rfl (ET (Ga hos hds (x:=.none) rfl (EY ?_)))))))
 refine ET (slicePart_none ?_)
 show wpAny _ _ (if ((1:Int) == 0)=true then _ else _) _ _ s
 rw [if_neg (by decide)]
 refine ET (jJ pl (ET (jJ pu (ET (EY ?_)))))
 show wpAny _ _ (match Builtin.Slice.sliceAdjust lo hi 1 (n:Int) with | (lo,hi)=>pure (lo,(1:Int),Builtin.Slice.slicePlaces lo hi 1)) _ _ s
 rw [rH lo hi n]
 show wpAny _ _ (pure (((sIx n 0 lo:Nat):Int),(1:Int),Builtin.Slice.slicePlaces ((sIx n 0 lo:Nat):Int) ((sIx n n hi:Nat):Int) 1)) _ _ s
 rw [qL]
 exact EY h
theorem wK (xs:Array Value) (i k:Nat):((List.range k).filterMap fun (m:Nat)=>xs[((i:Int) + (m:Int) * 1).toNat]?).toArray=((xs.toList.drop i).take k).toArray:=by
 have e:(fun (m:Nat)=>xs[((i:Int) + (m:Int) * 1).toNat]?)=fun m=>xs[i + m]?:=by
  funext m
  have:((i:Int) + (m:Int) * 1).toNat=i + m:=by omega
  rw [this]
 rw [e]
 have:=pick_run xs i k
 rw [List.filterMap_map] at this
 have e2:((fun x=>xs[x]?) ∘ fun x=>i + x)=fun m=>xs[i + m]?:=rfl
 rw [e2] at this
 rw [this]
theorem getItem_tuple_cut {t sl:Addr}{items:Array Value}{vl vu:Value}{lo hi:Option Int}{Q:Value→Shared→Prop} (ht:IsTup s.heap t items) (hs:s.heap.IsSliceOf sl vl vu .none) (pl:IsPart vl lo) (pu:IsPart vu hi)
  (hw:¬ (sIx items.size 0 lo=0∧sIx items.size items.size hi=items.size))
  (h:Q (.ref s.heap.objs.size) { s with heap:=s.heap.push { cls:=.type "tuple",data:=.seq ((items.toList.drop (sIx items.size 0 lo)).take (sIx items.size items.size hi - sIx items.size 0 lo)).toArray } })
  (hsz:items.size≤sizeLine):wpAny (model prog w) A (getItem (.ref t) (.ref sl)) Q E s:=by
 have htake:sizeOk (.seq ((items.toList.drop (sIx items.size 0 lo)).take (sIx items.size items.size hi - sIx items.size 0 lo)).toArray):=by
  show ((items.toList.drop (sIx items.size 0 lo)).take (sIx items.size items.size hi - sIx items.size 0 lo)).toArray.size≤sizeLine
  rw [E_,GH,Gw,FU]
  omega
 have hj:sIx items.size items.size hi≤items.size:=sIx_le _ _ (E9 _) hi
 obtain ⟨os,hos,hcs,hds⟩:=id hs
 have hTs:s.TypeIs (.ref sl) "slice" := ⟨os,hos,hcs⟩
 unfold getItem
 try with_reducible refine GJ ?_
 first | refine ET (EY ?_) | skip
 refine ET (wpAny_sequenceKey ht.typeIs (by decide) ?_)
 refine ET (Gi (name:=Str.ofString "__getitem__") ht.typeIs Gp
  (Ge Gp ht.typeIs entry_tuple_getitem ?_ (args_tuple_getitem _ _)))
 show wpAny _ _ (Builtin.Tuple.tupleItemsOf (.ref t) >>= _) _ _ s
 refine ET (tupleItemsOf_ ht ?_)
 refine ET (GW hTs ?_)
 rw [if_pos (by decide)]
 refine ET (sliceApplied_gen hs pl pu ?_)
 have hno:¬ ((((sIx items.size 0 lo:Nat):Int) == 0 && (1:Int) == 1 && (sIx items.size items.size hi - sIx items.size 0 lo) == items.size)=true):=by
  intro q
  rw [FK,FK] at q
  have q1:((sIx items.size 0 lo:Nat):Int)=0:=eq_of_beq q.1.1
  have q2:sIx items.size items.size hi - sIx items.size 0 lo=items.size:=eq_of_beq q.2
  exact hw ⟨by omega,by omega⟩
 show wpAny _ _ (if (((sIx items.size 0 lo:Nat):Int) == 0 && (1:Int) == 1 && (sIx items.size items.size hi - sIx items.size 0 lo) == items.size)=true then _ else _) _ _ s
 rw [if_neg hno,wK]
 first
  | exact ET (m:=Builtin.Tuple.tupleExact _) (FI (EY ⟨_,rfl,EY h⟩) htake)
  | exact ET (m:=Builtin.Tuple.tupleExact _) (FI (ET (EY (EY ⟨_,rfl,EY h⟩))) htake)
  | exact ET (ET (m:=Builtin.Tuple.tupleExact _) (FI (EY (EY ⟨_,rfl,EY h⟩)) htake))
  | exact ET (ET (m:=Builtin.Tuple.tupleExact _) (FI (EY ⟨_,rfl,EY h⟩) htake))
end
end HT
namespace L2
open PySem PySem.Spec PyProof.Rows
abbrev TO:=St→Hp→(Option Int→Hp→Prop)→Prop
def PO (X:Cx) (e:Option Expr) (t:TO):Prop :=
 ∀ (pins:List (Addr×Obj)) (s:Shared) (σ:St) (H:Hp) (Q:Option Int→Hp→Prop),Inv X pins σ H s→t σ H Q →
  wpAny (model X.prog X.w) X.A (evalPart e X.env) (fun u s'=>∃ o H',Inv X pins σ H' s'∧IsPart u o∧Q o H') X.xe s
def yR:TO:=fun _ H Q=>Q none H
def C9 (t:TE):TO:=fun σ H Q=>t σ H fun x H1=>∃ i,x=.int i∧Q (some i) H1
section
variable {X:Cx}{e:Expr}{te:TE}{lo hi:Option Expr}{tl th:TO}{pos p2:Pos}
theorem zi:PO X none yR:=by
 intro pins s σ H Q I h
 rw [evalPart_none]
 exact EY ⟨none,H,I,.none,h⟩
theorem sD (h:PE X e te):PO X (some e) (C9 te):=by
 intro pins s σ H Q I hw
 rw [evalPart_some]
 refine thn (h pins s σ H _ I hw) fun u s1 zz40_0=>?_
 obtain ⟨x,H1,I1,r1,q1⟩:=zz40_0
 obtain ⟨i,rfl,q⟩:=q1
 obtain ⟨t,rfl⟩:=r1
 exact ⟨some i,H1,I1,.int i t,q⟩
def SlR (X:Cx) (r:V→Option Int→Option Int→Hp→VK→Prop):Prop :=
 ∀ (pins:List (Addr×Obj)) (s:Shared) (σ:St) (H:Hp) (x:V) (v vl vu:Value) (lo hi:Option Int) (sl:Addr) (Q:VK),Inv X pins σ H s→aS x v→s.heap.IsSliceOf sl vl vu .none→IsPart vl lo→IsPart vu hi→r x lo hi H Q →
  ∃ T id,typeLookup (.type T) "__getitem__" = pure (some (.builtin id))∧s.TypeIs v T∧wpAny (model X.prog X.w) X.A (getItem v (.ref sl)) (EP X pins σ Q) X.xe s
theorem SlR.or {r r':V→Option Int→Option Int→Hp→VK→Prop} (h:SlR X r) (h':SlR X r'):SlR X (fun x lo hi H Q=>r x lo hi H Q∨r' x lo hi H Q):=by
 intro pins s σ H x v vl vu lo hi sl Q I rx hs pl pu q
 rcases q with q | q
 ·exact h pins s σ H x v vl vu lo hi sl Q I rx hs pl pu q
 ·exact h' pins s σ H x v vl vu lo hi sl Q I rx hs pl pu q
def tSl (r:V→Option Int→Option Int→Hp→VK→Prop) (te:TE) (tl th:TO):TE:=fun σ H Q=>te σ H fun x H1=>tl σ H1 fun l H2=>th σ H2 fun u H3=>r x l u H3 Q
theorem wP {r:V→Option Int→Option Int→Hp→VK→Prop} (hr:SlR X r) (he:PE X e te) (hl:PO X lo tl) (hu:PO X hi th):PE X (.Subscript e (.Slice lo hi none p2) pos) (tSl r te tl th):=by
 intro pins s σ H Q I h
 refine Subscript_ (thn (he pins s σ H _ I h) fun v s1 zz41_0=>?_)
 obtain ⟨x,H1,I1,r1,q1⟩:=zz41_0
 refine wpAny_Slice (thn (hl pins s1 σ H1 _ I1 q1) fun vl s2 ⟨l,H2,I2,pl,q2⟩=>thn (hu pins s2 σ H2 _ I2 q2) fun vu s3 zz43_0=>?_)
 obtain ⟨u,H3,I3,pu,q3⟩:=zz43_0
 rw [evalPart_none]
 refine EY ?_
 have I4:Inv X pins σ H3 { s3 with heap:=s3.heap.push { cls:=.type "slice",data:=.fields #[vl,vu,.none] } }:=I3.kept (t':=s3.toks) fun b ob q=>EU _ q
 obtain ⟨T,id,hT,ht,hg⟩:=hr pins { s3 with heap:=s3.heap.push { cls:=.type "slice",data:=.fields #[vl,vu,.none] } } σ H3 x v vl vu l u s3.heap.objs.size Q I4 r1 (Heap.IsSliceOf.new ..) pl pu q3
 show wpAny (model X.prog X.w) X.A (subscriptTail e (.Slice lo hi none p2) v (.ref s3.heap.objs.size)) (EP X pins σ Q) X.xe { s3 with heap:=s3.heap.push { cls:=.type "slice",data:=.fields #[vl,vu,.none] } }
 exact tail_any (ops:=[.ref s3.heap.objs.size,v]) ht hT hg (by with_unfolding_all rfl)
def jo (xs:List V) (lo hi:Option Int):List V:=(xs.drop (HT.sIx xs.length 0 lo)).take (HT.sIx xs.length xs.length hi - HT.sIx xs.length 0 lo)
theorem jh (xs:List V) (lo hi:Option Int):(jo xs lo hi).length≤xs.length:=by
 unfold jo
 rw [GH,Gw]
 omega
def Dt (K:PySem.W.Frag):V→Option Int→Option Int→Hp→VK→Prop:=fun x lo hi H Q=>∃ a xs,x=.ref a∧SqT K H a xs ∧
 ¬ (HT.sIx xs.length 0 lo=0∧HT.sIx xs.length xs.length hi=xs.length)∧∀ p,H p=none→Q (.ref p) (upd H p (.tup (jo xs lo hi)))
theorem Bb:SlR X (Dt X.K):=by
 intro pins s σ H x v vl vu lo hi sl Q I rx hs pl pu h
 obtain ⟨a,xs,rfl,hx,hw,q⟩:=h
 cases rx
 obtain ⟨its,r,ht,hz⟩:=I.tuple hx
 have hlen:its.toArray.size=xs.length:=by rw [E_]; exact r.length.symm
 refine ⟨"tuple",_,PyProof.Rows.slot_tuple_getitem.lookup,ht.typeIs,?_⟩
 refine HT.getItem_tuple_cut ht hs pl pu (by rw [hlen]; exact hw) ?_ (by rw [hlen]; exact hz)
 rw [hlen]
 refine ⟨.ref s.heap.objs.size,_,I.laid (t':=s.toks) (o:=.tup (jo xs lo hi)) (fun b ob q=>EU _ q) (E9 _) ?_,rfl,q _ (I.hok.fresh (E9 _))⟩
 exact ⟨Fa (jh xs lo hi) hz,_,(r.drop (HT.sIx xs.length 0 lo)).take (HT.sIx xs.length xs.length hi - HT.sIx xs.length 0 lo),IsTup.new _ _⟩
def AO (K:PySem.W.Frag):R2:=fun x y H Q=>∃ a b xs ys,x=.ref a∧y=.ref b∧SqT K H a xs∧SqT K H b ys∧xs ≠ []∧xs.length + ys.length≤sizeLine ∧
 (ys=[]→Q (.ref a) H)∧(ys ≠ []→∀ p,H p=none→Q (.ref p) (upd H p (.tup (xs ++ ys))))
theorem aR.nil_iff {xs:List V}{us:List Value} (r:aR xs us):us=[] ↔ xs=[]:=by
 cases r with
 | nil=>simp
 | cons _ _=>simp
theorem zC:OpR X (binaryOp .Add) (AO X.K):=by
 intro pins s σ H x y v u Q I rx ry h
 obtain ⟨a,b,xs,ys,rfl,rfl,ha,hb,hx,hz,q1,q2⟩:=h
 cases rx
 cases ry
 obtain ⟨its,r1,p1,_⟩:=I.tuple ha
 obtain ⟨its2,r2,p2,_⟩:=I.tuple hb
 refine HT.cat_tup p1 p2 (fun z=>hx (r1.nil_iff.mp z)) (fun z=>⟨.ref a,H,I,rfl,q1 (r2.nil_iff.mp z)⟩) (fun z=>?_) (by rw [← r1.length,← r2.length]; exact hz)
 refine ⟨.ref s.heap.objs.size,_,I.laid (t':=s.toks) (o:=.tup (xs ++ ys)) (fun b ob q=>EU _ q) (E9 _) ?_,rfl,q2 (fun w=>z (r2.nil_iff.mpr w)) _ (I.hok.fresh (E9 _))⟩
 exact ⟨by rw [Fb]; exact hz,_,r1.append r2,IsTup.new _ _⟩
end
def ixN (n:Nat) (i:Int):Option Nat:=if 0≤i then (if i < n then some i.toNat else none) else if -(n:Int)≤i then some (i + n).toNat else none
def atI {α:Type} (xs:List α) (i:Int):Option α:=(ixN xs.length i).bind fun j=>xs[j]?
theorem zS {n:Nat}{i:Int}{j:Nat} (h:ixN n i=some j):seqIndex? i n=some j∧j < n∧-(n:Int)≤i∧i < n:=by
 unfold ixN at h
 by_cases h0:0≤i
 ·rw [if_pos h0] at h
  by_cases h1:i < n
  ·rw [if_pos h1] at h
   have e:i.toNat=j:=E4 h
   exact ⟨by rw [seqIndex_of h0 h1,e],by omega,by omega,h1⟩
  ·rw [if_neg h1] at h; cases h
 ·rw [if_neg h0] at h
  by_cases h1 : -(n:Int)≤i
  ·rw [if_pos h1] at h
   have e:(i + n).toNat=j:=E4 h
   exact ⟨by rw [seqIndex_neg (by omega) h1,e],by omega,h1,by omega⟩
  ·rw [if_neg h1] at h; cases h
theorem n4 {α:Type}{xs:List α}{i:Int}{v:α} (h:atI xs i=some v):∃ j,seqIndex? i xs.length=some j∧xs[j]? = some v∧j < xs.length∧-(xs.length:Int)≤i∧i < xs.length:=by
 unfold atI at h
 cases e:ixN xs.length i with
 | none=>rw [e] at h; cases h
 | some j =>
  rw [e] at h
  obtain ⟨h1,h2,h3,h4⟩:=zS e
  exact ⟨j,h1,h,h2,h3,h4⟩
def tY (b:Expr):Prop:=∀ o i,subscripted b false o i=operate [o,i] (getItem o i)
def IxR (X:Cx) (r:R2):Prop :=
 ∀ (value slice:Expr) (pins:List (Addr×Obj)) (s:Shared) (σ:St) (H:Hp) (x y:V) (v u:Value) (Q:VK),Inv X pins σ H s→aS x v→aS y u→r x y H Q →
  subscripted slice false v u=operate [v,u] (getItem v u)→wpAny (model X.prog X.w) X.A (subscriptTail value slice v u) (EP X pins σ Q) X.xe s
def MtR (X:Cx) (id:String) (r:V→List V→Hp→VK→Prop):Prop :=
 ∀ (pins:List (Addr×Obj)) (s:Shared) (σ:St) (H:Hp) (x:V) (xs:List V) (v:Value) (us:List Value) (Q:VK),Inv X pins σ H s→aS x v→aR xs us→r x xs H Q →
  wpAny (model X.prog X.w) X.A (call (.builtin id) (v :: us)) (EP X pins σ Q) X.xe s
section
variable {X:Cx}{a b:Expr}{ta tb:TE}{pos:Pos}
theorem IxR.or {r r':R2} (h:IxR X r) (h':IxR X r'):IxR X (fun x y H Q=>r x y H Q∨r' x y H Q):=by
 intro value slice pins s σ H x y v u Q I rx ry q hs
 rcases q with q | q
 ·exact h value slice pins s σ H x y v u Q I rx ry q hs
 ·exact h' value slice pins s σ H x y v u Q I rx ry q hs
theorem DG {r:R2} (hr:IxR X r) (ha:PE X a ta) (hb:PE X b tb) (hs:tY b):PE X (.Subscript a b pos) (tOp r ta tb):=by
 intro pins s σ H Q I h
 exact Subscript_ (CK ha hb I h fun v u s2 x y H2 I2 rx ry q=>hr a b pins s2 σ H2 x y v u Q I2 rx ry q (hs _ _))
def Dx (K:PySem.W.Frag):R2:=fun x y H Q=>∃ p xs i v,x=.ref p∧y=.int i∧SqL K H p xs∧atI xs i=some v∧Q v H
def Dv (K:PySem.W.Frag):R2:=fun x y H Q=>∃ p xs i v,x=.ref p∧y=.int i∧SqT K H p xs∧atI xs i=some v∧Q v H
def Dw:R2:=fun x y H Q=>∃ z i c,x=.str z∧y=.int i∧z.length≤sizeLine∧atI z.cps.toList i=some c∧Q (.str ⟨#[c]⟩) H
theorem zR:IxR X (Dx X.K):=by
 intro value slice pins s σ H x y v u Q I rx ry h hs
 obtain ⟨p,xs,i,z,rfl,rfl,hq,he,q⟩:=h
 cases rx
 obtain ⟨t,rfl⟩:=ry
 obtain ⟨its,r,pl,hz⟩:=I.list hq
 obtain ⟨j,h1,h2,h3,h4,h5⟩:=n4 he
 obtain ⟨w,ew,rw'⟩:=r.get h2
 have hl:=r.length
 have hn:=nB
 have fin:EP X pins σ Q w s:=⟨z,H,I,rw',q⟩
 by_cases h0:0≤i
 ·have hj:i.toNat=j:=by
   rw [seqIndex_of h0 h5] at h1
   exact E4 h1
  exact item_listR pl.isList h0 (by omega) (by rw [hj]; simpa using ew) fin hs
 ·have hj:(i + (its.toArray.size:Int)).toNat=j:=by
   rw [seqIndex_neg (by omega) h4] at h1
   rw [E_,← hl]
   exact E4 h1
  exact subscriptTail_builtinR (x:=w) pl.isList.typeIs slot_list_getitem.lookup
   (wpAny_getItem_list_neg (Q:=fun r s'=>r=w∧EP X pins σ Q r s') pl.isList (by omega) (by rw [E_] <;> omega) (by omega) (by rw [hj]; simpa using ew) ⟨rfl,fin⟩) hs
theorem Ca:IxR X (Dv X.K):=by
 intro value slice pins s σ H x y v u Q I rx ry h hs
 obtain ⟨p,xs,i,z,rfl,rfl,hq,he,q⟩:=h
 cases rx
 obtain ⟨t,rfl⟩:=ry
 obtain ⟨its,r,pl,hz⟩:=I.tuple hq
 obtain ⟨j,h1,h2,h3,h4,h5⟩:=n4 he
 obtain ⟨w,ew,rw'⟩:=r.get h2
 have hl:=r.length
 have hn:=nB
 have fin:EP X pins σ Q w s:=⟨z,H,I,rw',q⟩
 exact subscriptTail_builtinR (x:=w) pl.typeIs slot_tuple_getitem.lookup
  (getItem_tuple (j:=j) (Q:=fun r s'=>r=w∧EP X pins σ Q r s') pl (by omega) (by omega) (by rw [E_,← hl]; exact h1) (by simpa using ew) ⟨rfl,fin⟩) hs
theorem Cb:IxR X Dw:=by
 intro value slice pins s σ H x y v u Q I rx ry h hs
 obtain ⟨z,i,c,rfl,rfl,hz,he,q⟩:=h
 obtain ⟨t,rfl⟩:=rx
 obtain ⟨t',rfl⟩:=ry
 obtain ⟨j,h1,h2,h3,h4,h5⟩:=n4 he
 have hl:z.cps.toList.length=z.length:=by simp [Str.length]
 rw [hl] at h1 h4 h5
 have hn:=nB
 exact tail_any (typeIs_str s z t) slot_str_getitem.lookup (getItem_str (c:=c) (by
  have e1:decide (i < -(2 ^ 63:Int))=false:=Fc (by omega)
  have e2:decide (i ≥ 2 ^ 63)=false:=Fc (by omega)
  rw [e1,e2,Fv]) (by rw [h1]; simpa using h2) ⟨.str ⟨#[c]⟩,H,I.tok _,⟨_,rfl⟩,q⟩) hs
def rIx (K:PySem.W.Frag):R2:=fun x y H Q=>Dx K x y H Q∨Dv K x y H Q∨Dw x y H Q
theorem Cc:IxR X (rIx X.K):=zR.or (Ca.or Cb)
theorem Inv.lst {pins:List (Addr×Obj)} {σ:St}{H:Hp}{s:Shared}{p:Addr}{xs:List V} (I:Inv X pins σ H s) (h:H p=some (.lst xs)) :
  ∃ (its:List Value) (n:Nat),aR xs its∧s.heap.get? p=some { cls:=.type "list",data:=.seq its.toArray n }∧xs.length≤sizeLine:=by
 obtain ⟨z,its,n,r,e⟩:=I.hok p _ h
 exact ⟨its,n,r,e,z⟩
theorem m4 (lo hi:Option Int) (n:Nat):(sliceBounds lo hi none n).1=((HT.sIx n 0 lo:Nat):Int)∧(sliceBounds lo hi none n).2.1=((HT.sIx n n hi:Nat):Int)∧(sliceBounds lo hi none n).2.2=1:=by
 refine ⟨?_,?_,rfl⟩
 ·cases lo with
  | none=>simp [sliceBounds,HT.sIx]
  | some i =>
   simp only [sliceBounds,HT.sIx,Option.getD_none,show (1:Int) > 0 by decide,if_true]
   by_cases h:i < 0
   ·simp only [h,if_true] <;> omega
   ·simp only [h,HJ] <;> omega
 ·cases hi with
  | none=>simp [sliceBounds,HT.sIx]
  | some i =>
   simp only [sliceBounds,HT.sIx,Option.getD_none,show (1:Int) > 0 by decide,if_true]
   by_cases h:i < 0
   ·simp only [h,if_true] <;> omega
   ·simp only [h,HJ] <;> omega
theorem li (its:List Value) (lo hi:Option Int):slicePick its.toArray lo hi none=((its.drop (HT.sIx its.length 0 lo)).take (HT.sIx its.length its.length hi - HT.sIx its.length 0 lo)).toArray:=by
 obtain ⟨h1,h2,h3⟩:=m4 lo hi its.toArray.size
 unfold slicePick
 rw [h1,h2,h3]
 simp only [sliceRange_one,pick_run,E_] <;> rfl
def Du (K:PySem.W.Frag):V→Option Int→Option Int→Hp→VK→Prop:=fun x lo hi H Q=>∃ a xs,x=.ref a∧SqL K H a xs∧∀ p,H p=none→Q (.ref p) (upd H p (.lst (jo xs lo hi)))
theorem yU:SlR X (Du X.K):=by
 intro pins s σ H x v vl vu lo hi sl Q I rx hs pl pu h
 obtain ⟨a,xs,rfl,hx,q⟩:=h
 cases rx
 obtain ⟨its,r,ht,hz⟩:=I.list hx
 have hlen:=r.length
 refine ⟨"list",_,slot_list_getitem.lookup,ht.isList.typeIs,?_⟩
 refine wpAny_getItem_list_slice ht.isList hs pl pu .none (by simp) ?_ (by rw [E_] <;> omega)
 rw [li,← hlen]
 refine ⟨.ref s.heap.objs.size,_,I.laid (t':=s.toks) (o:=.lst (jo xs lo hi)) (fun b ob q=>EU _ q) (E9 _) ?_,rfl,q _ (I.hok.fresh (E9 _))⟩
 exact ⟨Fa (jh xs lo hi) hz,_,0,(r.drop (HT.sIx xs.length 0 lo)).take (HT.sIx xs.length xs.length hi - HT.sIx xs.length 0 lo),EZ _ rfl⟩
def gk:V→Bool
 | .non=>true
 | .bl _=>true
 | .int _=>true
 | .str _=>true
 | _=>false
def eqV:V→V→Bool
 | .non,.non=>true
 | .bl a,.bl b=>a == b
 | .bl a,.int b=>(if a then 1 else 0) == b
 | .int a,.bl b=>a == (if b then 1 else 0)
 | .int a,.int b=>a == b
 | .str a,.str b=>a == b
 | _,_=>false
theorem Cy {A:Around}{s:Shared}{y x:V}{u v:Value} (ry:aS y u) (rx:aS x v) (fy:gk y=true) (fx:gk x=true):SeqAt.EqAt A s u v (eqV y x):=by
 cases y with
 | non =>
  cases ry
  cases x with
  | non=>cases rx; exact SeqAt.EqAt.same _
  | bl b=>cases rx; exact SeqAt.EqAt.none_bool b
  | int b=>obtain ⟨t,rfl⟩:=rx; exact SeqAt.EqAt.none_int b t
  | str b=>obtain ⟨t,rfl⟩:=rx; exact SeqAt.EqAt.none_str b t
  | _=>exact absurd (show false=true from fx) Fe
 | bl a =>
  cases ry
  cases x with
  | non=>cases rx; exact SeqAt.EqAt.bool_none a
  | bl b=>cases rx; exact SeqAt.EqAt.bool_bool a b
  | int b=>obtain ⟨t,rfl⟩:=rx; exact SeqAt.EqAt.bool_int a b t
  | str b=>obtain ⟨t,rfl⟩:=rx; exact SeqAt.EqAt.bool_str a b t
  | _=>exact absurd (show false=true from fx) Fe
 | int a =>
  obtain ⟨t',rfl⟩:=ry
  cases x with
  | non=>cases rx; exact SeqAt.EqAt.int_none a t'
  | bl b=>cases rx; exact SeqAt.EqAt.int_bool a t' b
  | int b=>obtain ⟨t,rfl⟩:=rx; exact SeqAt.EqAt.int_int a t' b t
  | str b=>obtain ⟨t,rfl⟩:=rx; exact SeqAt.EqAt.int_str a t' b t
  | _=>exact absurd (show false=true from fx) Fe
 | str a =>
  obtain ⟨t',rfl⟩:=ry
  cases x with
  | non=>cases rx; exact SeqAt.EqAt.str_none a t'
  | bl b=>cases rx; exact SeqAt.EqAt.str_bool a t' b
  | int b=>obtain ⟨t,rfl⟩:=rx; exact SeqAt.EqAt.str_int a t' b t
  | str b=>obtain ⟨t,rfl⟩:=rx; exact SeqAt.EqAt.str_str a t' b t
  | _=>exact absurd (show false=true from fx) Fe
 | _=>exact absurd (show false=true from fy) Fe
def eqU (x:V) (u:Value):Bool:=match u with
 | .none=>eqV .non x
 | .bool b=>eqV (.bl b) x
 | .int i _=>eqV (.int i) x
 | .str z _=>eqV (.str z) x
 | _=>false
theorem yd {x y:V}{u:Value} (r:aS y u) (f:gk y=true):eqU x u=eqV y x:=by
 cases y with
 | non=>cases r; rfl
 | bl b=>cases r; rfl
 | int i=>obtain ⟨t,rfl⟩:=r; rfl
 | str z=>obtain ⟨t,rfl⟩:=r; rfl
 | _=>exact absurd (show false=true from f) Fe
theorem n5 {x:V}:∀ {xs:List V}{us:List Value},aR xs us→xs.all gk=true→us.any (eqU x)=xs.any fun y=>eqV y x
 | _,_,.nil,_=>rfl
 | y :: xs,u :: us,.cons r t,f=>by
  rw [Gn,FK] at f
  rw [Gu,Gu,yd r f.1,n5 t f.2]
theorem kq {A:Around}{s:Shared}{x:V}{v:Value} (rx:aS x v) (fx:gk x=true):∀ {xs:List V}{us:List Value},aR xs us→xs.all gk=true→∀ u ∈ us,SeqAt.EqAt A s u v (eqU x u)
 | _,_,.nil,_=>fun u hu=>by cases hu
 | y :: xs,u :: us,.cons r t,f=>fun u' hu=>by
  rw [Gn,FK] at f
  rcases List.mem_cons.mp hu with rfl | hu
  ·rw [yd r f.1]; exact Cy r rx f.1 fx
  ·exact kq rx fx t f.2 u' hu
def inV (x:V) (xs:List V):Bool:=xs.any fun y=>eqV y x
def rIn (K:PySem.W.Frag) (neg:Bool):R2:=fun x y H Q=>∃ p xs,y=.ref p∧(SqL K H p xs∨SqT K H p xs)∧gk x=true∧xs.all gk=true∧Q (.bl (if neg then !inV x xs else inV x xs)) H
theorem nu:OpR X (compareOp .NotIn) (rIn X.K true):=by
 intro pins s σ H x y v u Q I rx ry h
 obtain ⟨p,xs,rfl,hq,fx,fs,q⟩:=h
 cases ry
 rcases hq with hq | hq
 ·obtain ⟨its,r,pl,hz⟩:=I.list hq
  refine SeqAt.notIn_listAt (eqU x) pl.isList (fun w hw=>kq rx fx r fs w (by simpa using hw)) ⟨.bl _,H,I,rfl,?_⟩
  rw [show its.toArray.any (eqU x)=its.any (eqU x) by simp,n5 r fs]
  exact q
 ·obtain ⟨its,r,pl,hz⟩:=I.tuple hq
  refine SeqAt.notIn_tupleAt (eqU x) pl (fun w hw=>kq rx fx r fs w (by simpa using hw)) ⟨.bl _,H,I,rfl,?_⟩
  rw [show its.toArray.any (eqU x)=its.any (eqU x) by simp,n5 r fs]
  exact q
theorem nW:cQ X (.type "list") (fun xs H Q=>∃ p ys,xs=[.ref p]∧(SqL X.K H p ys∨SqT X.K H p ys)∧∀ l,H l=none→Q (.ref l) (upd H l (.lst ys))):=by
 intro pins s σ H xs us Q I r h
 obtain ⟨p,ys,rfl,hq,q⟩:=h
 obtain ⟨u,rfl,rx⟩:=gO r
 cases rx
 have fin:∀ (its:List Value),aR ys its→ys.length≤sizeLine→∀ (h':Heap) (c':Nat),(∀ b o',s.heap.get? b=some o'→h'.get? b=some o') →
   h'.get? s.heap.objs.size=some { cls:=.type "list",dict:=none,data:=.seq its.toArray c',slots:=#[] }→EP X pins σ Q (.ref s.heap.objs.size) { s with heap:=h' }:=fun its r' hz h' c' kp e =>
  ⟨.ref s.heap.objs.size,_,I.laid (t':=s.toks) kp (E9 _) (show cm X.prog X.w _ h' _ (.lst ys) from ⟨hz,its,c',r',e⟩),rfl,q _ (I.hok.fresh (E9 _))⟩
 rcases hq with hq | hq
 ·obtain ⟨its,r',pl,hz⟩:=I.list hq
  have hlen:=r'.length
  obtain ⟨o,ho,hc,n,hd⟩:=pl.isList
  exact call_list_seq p (.inl rfl) ho hc hd (fun h' c' kp e=>fin its r' hz h' c' kp e) (by simp only [E_] <;> omega)
 ·obtain ⟨its,r',pl,hz⟩:=I.tuple hq
  have hlen:=r'.length
  obtain ⟨o,ho,hc,n,hd⟩:=pl
  exact call_list_seq p (.inr rfl) ho hc hd (fun h' c' kp e=>fin its r' hz h' c' kp e) (by simp only [E_] <;> omega)
theorem lA:cQ X (.type "tuple") (fun xs H Q=>∃ p ys,xs=[.ref p]∧((SqL X.K H p ys∧∀ l,H l=none→Q (.ref l) (upd H l (.tup ys)))∨(SqT X.K H p ys∧Q (.ref p) H))):=by
 intro pins s σ H xs us Q I r h
 obtain ⟨p,ys,rfl,h⟩:=h
 obtain ⟨u,rfl,rx⟩:=gO r
 cases rx
 rcases h with ⟨hq,q⟩ | ⟨hq,q⟩
 ·obtain ⟨its,r',pl,hz⟩:=I.list hq
  have hlen:=r'.length
  refine call_tuple_list pl.isList (fun h' kp=>?_) (by simp only [E_] <;> omega)
  have I1:Inv X pins σ H { s with heap:=h' }:=I.kept (t':=s.toks) kp
  have I2:Inv X pins σ (upd H h'.objs.size (.tup ys)) { s with heap:=h'.push { cls:=.type "tuple",data:=.seq its.toArray } } :=
   I1.laid (t':=s.toks) (fun b o e=>EU _ e) (E9 _) (show cm X.prog X.w _ _ _ (.tup ys) from ⟨hz,its,r',IsTup.new _ _⟩)
  exact ⟨.ref h'.objs.size,_,I2,rfl,q _ (I1.hok.fresh (E9 _))⟩
 ·obtain ⟨its,r',pl,hz⟩:=I.tuple hq
  exact call_tuple_same pl ⟨.ref p,H,I,rfl,q⟩
def tyV (K:PySem.W.Frag) (T:String) (x:V) (H:Hp):Prop:=match x with
 | .str _=>T = "str"
 | .int _=>T = "int"
 | .ref p=>(T = "list"∧∃ xs,SqL K H p xs)∨(T = "tuple"∧∃ o,K.lookup p=some o∧o.cls=.type "tuple"∧o.dict=none) ∨
   (T = "dict"∧((∃ kvs,H p=some (.dK kvs))∨∃ kvs,H p=some (.dT kvs)))∨(T = "set"∧∃ S n,H p=some (.set S n))
 | _=>False
theorem A7 {pins:List (Addr×Obj)} {σ:St}{H:Hp}{s:Shared}{T:String}{x:V}{v:Value} (I:Inv X pins σ H s) (r:aS x v) (ty:tyV X.K T x H) :
  s.TypeIs v T∧∀ a,v=.ref a→∃ ob,s.heap.get? a=some ob∧ob.dict=none:=by
 cases x with
 | str z =>
  obtain ⟨t,rfl⟩:=r
  cases (show T = "str" from ty)
  exact ⟨typeIs_str s z t,fun _ e=>nomatch e⟩
 | int i =>
  obtain ⟨t,rfl⟩:=r
  cases (show T = "int" from ty)
  exact ⟨typeIs_int s i t,fun _ e=>nomatch e⟩
 | ref p =>
  cases r
  rcases ty with ⟨rfl,xs,hq⟩ | ⟨rfl,o,hk,hc,hd⟩ | ⟨rfl,hk⟩ | ⟨rfl,S,n,hk⟩
  ·obtain ⟨its,_,pl,_⟩:=I.list hq
   refine ⟨pl.isList.typeIs,fun a e=>?_⟩
   cases e
   obtain ⟨o,n,e,c,hd,_⟩:=pl
   exact ⟨o,e,hd⟩
  ·refine ⟨⟨o,I.kIn p o hk,hc⟩,fun a e=>?_⟩
   cases e
   exact ⟨o,I.kIn _ o hk,hd⟩
  ·have z:∃ o,s.heap.get? p=some o∧o.ExactDict:=by
    rcases hk with ⟨kvs,hk⟩ | ⟨kvs,hk⟩
    ·obtain ⟨_,_,_,_,o,_,_,e,ex,_⟩:=I.hok p _ hk
     exact ⟨o,e,ex⟩
    ·obtain ⟨_,_,_,_,o,_,_,e,ex,_⟩:=I.hok p _ hk
     exact ⟨o,e,ex⟩
   obtain ⟨o,e,ex⟩:=z
   refine ⟨⟨o,e,ex.1⟩,fun a e2=>?_⟩
   cases e2
   exact ⟨o,e,ex.2.1⟩
  ·obtain ⟨o,_,_,_,e,ex,_⟩:=I.hok p _ hk
   refine ⟨⟨o,e,ex.1⟩,fun a e2=>?_⟩
   cases e2
   exact ⟨o,e,ex.2.1⟩
 | _=>exact False.elim ty
def tBM (K:PySem.W.Frag) (T:String) (r:V→List V→Hp→VK→Prop) (to:TE) (t:TA):TE:=fun σ H Q=>to σ H fun x H1=>tyV K T x H1∧t σ H1 fun xs H2=>r x xs H2 Q
variable {o e:Expr}{es:List Expr}{to:TE}{t:TA}{name:Str}{apos cpos:Pos}{T id:String}{r:V→List V→Hp→VK→Prop}
theorem sH (pa:PlainAttrs T) (slot:Slot T name id) (hty:typeOf (.builtin id)=pure (.type "method_descriptor")) (hm:MtR X id r) (ho:PE X o to) (ha:PA X (e :: es) t)
  (hbase:attributeBase o name X.env (eval o X.env)=eval o X.env:=by rfl)
  (hfew:((backTo cpos (starEach (e :: es) X.env)).all (fun x => !x.1) && (backToKw cpos (keywordEach [] X.env)).all (fun x=>x.1.isSome)
   && decide ((e :: es).length + ([]:List Keyword).length + (if ([]:List Keyword).isEmpty then 0 else 1) < 30))=true:=by rfl)
  (hline:(apos.endLine == cpos.line)=true:=by rfl) (hs:starEach (e :: es) X.env=(false,eval e X.env) :: starEach es X.env:=by rfl) (hplain:(backTo cpos (starEach es X.env)).any (·.1)=false:=by rfl) :
  PE X (.Call (.Attribute o name apos) (e :: es) [] cpos) (tBM X.K T r to t):=by
 intro pins s σ H Q I h
 refine wpAny_Call_method_late hbase hfew hline rfl (thn (ho pins s σ H _ I h) fun v s1 zz44_0=>?_)
 obtain ⟨x,H1,I1,r1,ty,q1⟩:=zz44_0
 obtain ⟨h1,h2⟩:=A7 I1 r1 ty
 refine ⟨T,id,pa,slot,hty,h1,h2,?_⟩
 have hA:=ha cpos pins s1 σ H1 _ I1 q1
 rw [hs] at hA ⊢
 refine Calls.callWith_builtin (by show (false || (backTo cpos (starEach es X.env)).any (·.1))=false; rw [hplain] <;> rfl) (Calls.evalArgs_plain ?_)
 exact thn hA fun us s2 zz45_0=>by obtain ⟨vs,H2,I2,r2,q2⟩:=zz45_0; exact hm pins s2 σ H2 x vs v us Q I2 r1 r2 q2
end
def MtM (X:Cx) (id:String) (r:V→List V→Hp→VK→Prop):Prop :=
 ∀ (pins:List (Addr×Obj)) (s:Shared) (σ:St) (H:Hp) (x:V) (xs:List V) (v:Value) (us:List Value) (Q:VK),Inv X pins σ H s→aS x v→aR xs us→r x xs H Q →
  wpAny (model X.prog X.w) X.A (call (.builtin id) (v :: us)) (EP X pins σ Q) X.xe s
theorem aR.one:∀ {x:V}{us:List Value},aR [x] us→∃ u,us=[u]∧aS x u:=by
 intro x us h
 cases h with
 | cons r h=>cases h; exact ⟨_,rfl,r⟩
theorem aR.two:∀ {x y:V}{us:List Value},aR [x,y] us→∃ u v,us=[u,v]∧aS x u∧aS y v:=by
 intro x y us h
 cases h with
 | cons r h=>cases h with
  | cons q h=>cases h; exact ⟨_,_,rfl,r,q⟩
theorem aR.zero:∀ {us:List Value},aR [] us→us=[]
 | _,.nil=>rfl
theorem aR.reverse {xs:List V}{us:List Value} (h:aR xs us):aR xs.reverse us.reverse:=by
 induction h with
 | nil=>exact .nil
 | cons r t ih=>rw [Hl,Hl]; exact aR.append ih (.cons r .nil)
section
variable {X:Cx}{pins:List (Addr×Obj)} {σ:St}{H:Hp}{s:Shared}{l b:Addr}{xs ys zs:List V}
theorem Inv.lset {its its':List Value}{n:Nat}{f:Array Value→Array Value}{t':Nat} (I:Inv X pins σ H s) (hH:H l=some (.lst xs))
  (e:s.heap.get? l=some { cls:=.type "list",data:=.seq its.toArray n }) (hf:f its.toArray=its'.toArray) (hv:aR ys its') (hz:ys.length≤sizeLine) :
  Inv X pins σ (upd H l (.lst ys)) { s with heap:=s.heap.update l (Obj.mapSeq f),toks:=t' }:=by
 have q:=PySem.IsL.update e f
 rw [hf] at q
 refine I.write (x:=l) (e:=l) (by rw [hH]; exact trivial) (.inl rfl) (fun b' u hb hu=>(Ft s.heap (Obj.mapSeq f) (Ne.symm hb)).trans hu) ⟨_,q⟩ ?_
 exact ⟨hz,its',_,hv,q⟩
theorem Inv.lnew {its:List Value}{t':Nat} (I:Inv X pins σ H s) (hv:aR ys its) (hz:ys.length≤sizeLine) :
  Inv X pins σ (upd H s.heap.objs.size (.lst ys)) { s with heap:=s.heap.push { cls:=.type "list",data:=.seq its.toArray },toks:=t' } :=
 I.laid (fun _ _ q=>EU _ q) (E9 _) ⟨hz,its,0,hv,EZ _ rfl⟩
theorem Inv.fresh (I:Inv X pins σ H s):H s.heap.objs.size=none:=I.hok.fresh (E9 _)
theorem Inv.lstM (I:Inv X pins σ H s) (hH:H l=some (.lst xs)):xs.length≤sizeLine∧∃ (its:List Value) (n:Nat),aR xs its∧xs.length=its.length∧s.heap.get? l=some { cls:=.type "list",data:=.seq its.toArray n }:=by
 obtain ⟨z,its,n,r,e⟩:=I.hok l _ hH
 exact ⟨z,its,n,r,r.length,e⟩
theorem pf {n:Nat} (h:n≤sizeLine):Builtin.List.listTooLong n=false:=by
 unfold Builtin.List.listTooLong
 exact Fc (by omega)
end
section
variable {X:Cx}
def zd:V→List V→Hp→VK→Prop:=fun x vs H Q=>∃ l xs y,x=.ref l∧vs=[y]∧H l=some (.lst xs)∧xs.length < sizeLine∧Q .non (upd H l (.lst (xs ++ [y])))
theorem iT:MtM X "list.append" zd:=by
 intro pins s σ H x vs v us Q I rx rv h
 obtain ⟨l,xs,y,rfl,rfl,hH,hz,q⟩:=h
 cases rx
 obtain ⟨u,rfl,ru⟩:=rv.one
 obtain ⟨z,its,n,r,hl,e⟩:=I.lstM hH
 refine call_meets F.slot_list_append ⟨_,e,rfl⟩ F.entry_list_append (F.args_list_append_2 _ _) (PySem.list_append l its.toArray n u (by rw [E_]; omega)) ⟨e,?_⟩
 refine ⟨.non,_,I.lset (its':=its ++ [u]) hH e (by simp) (r.append (.cons ru .nil)) ?_,rfl,q⟩
 rw [Fb,FT]
 omega
def zc:V→List V→Hp→VK→Prop:=fun x vs H Q=>∃ l b xs zs,x=.ref l∧vs=[.ref b]∧H l=some (.lst xs)∧H b=some (.lst zs)∧xs.length + zs.length≤sizeLine∧Q .non (upd H l (.lst (xs ++ zs)))
theorem uS:MtM X "list.extend" zc:=by
 intro pins s σ H x vs v us Q I rx rv h
 obtain ⟨l,b,xs,zs,rfl,rfl,hH,hB,hz,q⟩:=h
 cases rx
 obtain ⟨u,rfl,ru⟩:=rv.one
 cases ru
 obtain ⟨z,its,n,r,hl,e⟩:=I.lstM hH
 obtain ⟨z2,its2,n2,r2,hl2,e2⟩:=I.lstM hB
 have hsz:its.toArray.size + its2.toArray.size≤sizeLine:=by rw [E_,E_]; omega
 have hlong:¬ (!its.toArray.isEmpty && Builtin.List.listTooLong (its.toArray.size + its2.toArray.size))=true:=by
  rw [pf hsz,Fl]
  exact Fe
 refine call_meets F.slot_list_extend ⟨_,e,rfl⟩ F.entry_list_extend (F.args_list_extend_2 _ _)
  (AutoSeq1.list_extend_list_list_0 l its.toArray n b its2.toArray n2 hlong (by rw [E_]; omega) (by omega)) ⟨e,e2,?_⟩
 refine ⟨.non,_,I.lset (its':=its ++ its2) hH e (by simp) (r.append r2) ?_,rfl,q⟩
 rw [Fb]
 omega
def Dy:R2:=fun x y H Q=>∃ l b xs zs,x=.ref l∧y=.ref b∧H l=some (.lst xs)∧H b=some (.lst zs)∧xs.length + zs.length≤sizeLine∧∀ p,H p=none→Q (.ref p) (upd H p (.lst (xs ++ zs)))
theorem BT:OpR X (binaryOp .Add) Dy:=by
 intro pins s σ H x y v u Q I rx ry h
 obtain ⟨l,b,xs,zs,rfl,rfl,hH,hB,hz,q⟩:=h
 cases rx
 cases ry
 obtain ⟨z,its,n,r,hl,e⟩:=I.lstM hH
 obtain ⟨z2,its2,n2,r2,hl2,e2⟩:=I.lstM hB
 refine PySem.P.add_list e e2 ?_ (by rw [E_,E_]; omega)
 have ea:its.toArray ++ its2.toArray=(its ++ its2).toArray:=by simp
 rw [ea]
 exact ⟨.ref _,_,I.lnew (t':=s.toks) (r.append r2) (by rw [Fb]; omega),rfl,q _ I.fresh⟩
theorem zM {α:Type} (xs:List α) (k:Nat):(List.replicate k xs).flatten.length=k * xs.length:=by
 induction k with
 | zero=>simp
 | succ k ih=>rw [GL,Hm,Fb,ih,Nat.succ_mul,Nat.add_comm]
end
end L2
namespace Att
open PySem PySem.W PySem.Calls PyProof.Rows
theorem jn {P:Params}{h:Heap}:∀ (ns:List Int) (vs:List Value),WellAll P h vs (ns.map WData.int)→IntsAre vs ns:=by
 intro ns
 induction ns with
 | nil =>
  intro vs w
  rw [EO] at w
  cases w
  exact .nil
 | cons n ns ih =>
  intro vs w
  rw [EN] at w
  cases w with
  | cons a b =>
   cases a
   exact .cons _ _ (ih _ b)
theorem uq {l:OpenLaw}{n:Nat} (hn:l.most=some n) {P:Params}{h:Heap}{args:List WData}{vals:List Value}
  (hpre:l.row.toRowW.claim.pre args=true) (hwl:WellAll P h vals args) :
  ∃ a vs ns,vals=[Value.ref a]∧args=[WData.list (ns.map WData.int)]∧h.get? a=some { cls:=.type "list",data:=.seq vs.toArray }∧IntsAre vs ns∧ns.length≤n:=by
 have hsh:WShape.hasAll [] args [.list .int]=true:=(pre_splitW hpre).1
 have hc:l.pre.holds [] { args:=args }=true:=(pre_splitW hpre).2
 obtain ⟨d,r,rfl,h1,h2⟩:=hasAllW_cons hsh
 obtain rfl:=hasAllW_nil h2
 obtain ⟨xs,rfl,h3⟩:=hasW_list h1
 obtain ⟨ns,rfl⟩:=items_int h3
 have hlen:ns.length≤n:=by
  unfold OpenLaw.pre at hc
  have h4:(WTm.not (.lt (.lit (.int (n:Int))) (.len (.arg 0)))).holds [] { args:=[.list (ns.map .int)] }=true:=by
   have h4:=(holds_andW hc).1
   rw [hn] at h4
   exact h4
  have h5:=condW_of h4 (w_not (w_lt w_lit (w_len_list (w_arg rfl))))
  rw [EW] at h5
  refine Nat.le_of_not_lt fun q=>?_
  have q':(n:Int) < ((ns.length:Nat):Int):=by omega
  first
   | (rw [Fj q'] at h5; exact absurd h5 (by decide))
   | (simp at h5; omega)
 cases hwl with
 | cons w1 w2 =>
  cases w2
  cases w1 with
  | list ho hall=>exact ⟨_,_,ns,rfl,rfl,ho,jn ns _ hall,hlen⟩
theorem uB (l:OpenLaw) (args:List WData):l.row.toRowW.claim.post args (.bool true) args=true :=
 postW_of (r:=l.row.toRowW) (X:=(true == true))
  (show WShape.has [] (.bool true) .bool=true by first | rfl | decide | simp [WShape.has,WShape.arms,WShape.armsAll])
  (show (WTm.eq .res (.lit (.bool true))).value [] { args:=args,res:=some (.bool true),after:=args }=some (.bool (true == true)) from w_eq_bool (w_res rfl) w_lit) rfl
end Att
namespace L2
open PySem PySem.Spec PyProof.Rows
theorem lK:∀ {vs:List Value}{ns:List Int},IntsAre vs ns→aR (ns.map V.int) vs
 | _,_,.nil=>.nil
 | _,_,.cons n t h=>.cons ⟨t,rfl⟩ (lK h)
def CT (H:Hp):Prop:=∀ b,H b=none∨∃ o xs,H b=some (.frz o (.lst xs))
theorem xu {P:Program}{w:World}{K:PySem.W.Frag}{mg mb:Str→Option Value}{CX:CXT}{k:Nat}{fa a:Addr}{fd:FuncData}{x:Str}{sp:Sp}{s₁:Shared}{vs:List Value}{ns:List Int}
  (KX:K.In s₁.heap) (hns:s₁.heap.Ns mainGlobals mg) (hb:s₁.heap.Ns builtinsNs mb) (hbb:∀ x:Str,x ≠ "__name__"→mb x=bootBuiltins x) (hlim:s₁.heap.NoLimit) (hg:s₁.gens=#[])
  (ha:s₁.heap.get? a=some { cls:=.type "list",data:=.seq vs.toArray }) (hi:IntsAre vs ns) (hl:ns.length≤sizeLine) (hr:da k callerA)
  (F:∀ base:Heap,K.In base→base.Ns mainGlobals mg→bu P w K mg base CX k fa fd [x] sp) (hbind:∀ (s:Shared) (u:Value),BindsTo s fd ⟨[u],[]⟩ [(x,u)])
  (hsp:∀ H:Hp,CT H→SqL K H a (ns.map V.int)→sp [.ref a] H (fun v _=>v=.bl true) fun _ _ _=>False)
  (hCX:∀ H e s',CX [] H s₁ (fun _ _ _=>False) e s'→False) :
  codeAny (model P w) callerA (.call (.ref fa) ⟨[.ref a],[]⟩) (fun r s'=>r=.ok (.ret (.bool true))∧OldK s₁.heap s'.heap∧s'.os=s₁.os∧AllBare s'.gens) s₁:=by
 have rv:=lK hi
 have lenV:=hi.length
 have core:∀ H:Hp,CT H→SqL K H a (ns.map V.int)→HOk P w H s₁.heap→(∀ b,H b ≠ none→b=a)→(H a ≠ none→K.lookup a=none) →
   codeAny (model P w) callerA (.call (.ref fa) ⟨[.ref a],[]⟩) (fun r s'=>r=.ok (.ret (.bool true))∧OldK s₁.heap s'.heap∧s'.os=s₁.os∧AllBare s'.gens) s₁:=by
  intro H hO hS hok hA hK
  have base_of:∀ {b:Addr}{o:Obj},s₁.heap.get? b=some o→H b=none→(nF s₁.heap H).get? b=some o:=fun e n=>xI e n
  have noA:∀ {b:Addr}{o:Obj}{es:Array DictEntry}{ep:Nat},s₁.heap.get? b=some o→o.data=.dict es ep→H b=none:=fun {b o es ep} e d=>by
   cases q:H b with
   | none=>rfl
   | some u =>
    have e':b=a:=hA b (by rw [q]; simp)
    subst e'
    rw [ha] at e; cases e
    have d':Data.seq vs.toArray _=Data.dict es ep:=d
    cases d'
  have nsK:∀ {b:Addr}{m:Str→Option Value},s₁.heap.Ns b m→(nF s₁.heap H).Ns b m:=fun {b m} zz46_0=>by obtain ⟨o,es,ep,e,d,r⟩:=zz46_0; exact ⟨o,es,ep,base_of e (noA e d),d,r⟩
  have hKb:K.In (nF s₁.heap H):=fun b o e=>base_of (KX b o e) (by
   cases q:H b with
   | none=>rfl
   | some u =>
    have e':b=a:=hA b (by rw [q]; simp)
    subst e'
    rw [hK (by rw [q]; simp)] at e; cases e)
  have hM:Mod K mg (nF s₁.heap H):=⟨hKb,nsK hns,⟨mb,nsK hb,hbb⟩,let ⟨mc,h1,h2⟩:=hlim; ⟨mc,nsK h1,h2⟩⟩
  have e0:rV P w K mg (nF s₁.heap H) callerA [] s₁ H:=⟨rfl,hM,fun b o e=>zH e,Hz (u7 _ _),trivial,fun b hb=>absurd (show b ∈ ([]:List Addr) from hb) (by simp),hok,.of_eq hg⟩
  refine GF ((F _ hKb (nsK hns)).run callerA [] s₁ H ⟨[.ref a],[]⟩ [.ref a] [.ref a] _ _ hr e0 (hbind s₁ (.ref a)) (.cons rfl .nil) (hsp H hO hS)) fun r s' h=>?_
  cases r with
  | error e=>exact (hCX H e s' h).elim
  | ok fl =>
   cases fl with
   | next=>exact False.elim h
   | brk=>exact False.elim h
   | cont=>exact False.elim h
   | ret u =>
    obtain ⟨v,H',os,bare,un,hok',r',q⟩:=h
    have q':v=.bl true:=q
    subst q'
    obtain rfl:u=Value.bool true:=r'
    refine ⟨rfl,OldK.of_keep fun b o e=>?_,os,bare⟩
    cases q:H b with
    | none=>exact un.keep b o e q (by intro z; exact absurd (show b ∈ ([]:List Addr) from z) (by simp)) (by simp)
    | some u =>
     rcases hO b with z | ⟨ob,xs,z⟩
     ·rw [q] at z; cases z
     ·have z2:=un.frzs b ob _ z
      obtain ⟨e1,_⟩:=hok b _ z
      obtain ⟨e2,_⟩:=hok' b _ z2
      rw [e] at e1; cases e1
      exact e2
 cases hk:K.lookup a with
 | some o =>
  have e:=KX a o hk
  rw [ha] at e
  cases e
  refine core (fun _=>none) (fun _=>.inl rfl) (.inr ⟨_,vs.toArray,_,hk,rfl,rfl,rfl,by rw [E_,lenV]; exact hl,by simpa using rv⟩) (fun b u z=>by have z':(none:Option HO)=some u:=z; cases z') (fun b z=>absurd rfl z) fun z=>absurd rfl z
 | none =>
  refine core (fun b=>if b=a then some (.frz { cls:=.type "list",data:=.seq vs.toArray } (.lst (ns.map V.int))) else none) (fun b=>?_) (.inl (.inr ⟨{ cls:=.type "list",data:=.seq vs.toArray },if_pos rfl⟩)) (fun b u z=>?_) (fun b z=>?_) fun _=>hk
  ·by_cases hb:b=a
   ·exact .inr ⟨_,_,if_pos hb⟩
   ·exact .inl (if_neg hb)
  ·by_cases hb:b=a
   ·have z':=(if_pos hb).symm.trans z
    cases z'
    subst hb
    exact ⟨ha,by rw [EW]; exact hl,vs,_,rv,ha⟩
   ·have z':=(if_neg hb).symm.trans z
    cases z'
  ·by_cases hb:b=a
   ·exact hb
   ·exact absurd (if_neg hb) z
def nE (s:Stmt) (j:Nat):Stmt:=match s with
 | .ClassDef _ _ _ body _ _ _ _ _ _ _=>body.getD j (.Pass ⟨0,0,0,0⟩)
 | _=>.Pass ⟨0,0,0,0⟩
def jB (s:Stmt):Arguments:=match s with
 | .FunctionDef _ a _ _ _ _ _ _ _ _=>a
 | _=>{ posonlyargs:=[],args:=[],vararg:=none,kwonlyargs:=[],kw_defaults:=[],kwarg:=none,defaults:=[] }
def dL (s:Stmt):List Stmt:=match s with
 | .FunctionDef _ _ b _ _ _ _ _ _ _=>b
 | _=>[]
def al (s:Stmt):Scope:=match s with
 | .FunctionDef _ _ _ _ _ _ sc _ _ _=>sc
 | _=>{ kind:=.function,names:=[],isGenerator:=false,isCoroutine:=false }
abbrev CX0:CXT:=fun _ _ _ _ _ _=>False
abbrev E0:XK:=fun _ _ _=>False
theorem DI {X:Cx}:rK CX0 X E0:=fun _ _ _ _ _ _ _ h=>h.elim
structure Fun (K:PySem.W.Frag) (x qual:Str) (st:Stmt) (f:Addr) (fd:FuncData):Prop where
 ex:∃ (oc:Value) (od:Option Addr) (kV doc pm:Value) (an:Option Addr) (cdv ct:Value) (osl:Array (Option Value)),
  fd=PySem.W.fnOf x qual (jB st) (dL st) (al st) .none kV doc pm an cdv ct∧K.lookup f=some ⟨oc,od,.func fd,osl⟩∧PySem.W.codeIn K cdv qual=true
 kp:PySem.W.keepIn K (.ref f)=true
section
variable {P:Program}{w:World}{K:PySem.W.Frag}{mg:Str→Option Value}{base:Heap}
theorem Fun.ok {x qual:Str}{st:Stmt}{f:Addr}{fd:FuncData}{N ps:List Str}{k:Nat}{sp:Sp} (F:Fun K x qual st f fd) (S:aM N ps (al st)) (len:∀ vs H Q E,sp vs H Q E→vs.length=ps.length)
  (hbody:∀ (cdv:Value) (A:Around) (outer:List Env) (s:Shared) (H:Hp) (vs:List V) (Q:VK) (E:XK),da k (A.deeper (envOfC qual (al st) s.heap.objs.size f cdv))→sp vs H Q E →
   ∃ t,PSs (i5 CX0 P w K mg base N qual (al st) f cdv A outer s H E).nox (dL st) t∧t { nx:=fun _ H'=>Q .non H',rt:=Q } (start N vs) H):bu P w K mg base CX0 (k + 1) f fd ps sp:=by
 obtain ⟨oc,od,kV,doc,pm,an,cdv,ct,osl,rfl,lk,hcd⟩:=F.ex
 refine AU lk hcd S len fun A outer s H vs Q E hr hsp=>?_
 obtain ⟨t,h,q⟩:=hbody cdv A outer s H vs Q E hr hsp
 exact ⟨t,h.nox,q⟩
theorem Fun.binds {x qual:Str}{st:Stmt}{f:Addr}{fd:FuncData}{ps:List Str} (F:Fun K x qual st f fd)
  (h:∀ (kV doc pm:Value) (an:Option Addr) (cdv ct:Value) (us:List Value),us.length=ps.length→bindArgs (PySem.W.fnOf x qual (jB st) (dL st) (al st) .none kV doc pm an cdv ct) ⟨us,[]⟩=pure (ps.zip us)):bC K fd ps []:=by
 obtain ⟨oc,od,kV,doc,pm,an,cdv,ct,osl,rfl,lk,hcd⟩:=F.ex
 exact .all (h kV doc pm an cdv ct)
end
section
variable {X:Cx}
theorem pv (i:Nat) {x:Str}{pos:Pos} (hN:X.N[i]? = some x:=by rfl) (hv:Vis X.env.scope x:=by first | exact Or.inl rfl | exact Or.inr (Or.inl rfl) | exact Or.inr (Or.inr rfl)) (hd:(x == ("__debug__" : Str))=false:=by decide)
  (hcd:(x == ("__classdict__" : Str))=false:=by decide):PE X (.Name x pos) (gM i):=kg hN hv hd hcd
end
theorem rf {A B:Prop} (h:B):if false=true then A else B:=by
 rw [if_neg Fe]
 exact h
theorem re {A B:Prop} (h:A):if true=true then A else B:=by
 rw [if_pos rfl]
 exact h
def D_ (H H':Hp):Prop:=∀ b o,H b=some o→H' b=some o
theorem D_.seq {K:PySem.W.Frag}{H H':Hp}{a:Addr}{xs:List V} (e:D_ H H') (h:SqL K H a xs):SqL K H' a xs:=by
 rcases h with (h | ⟨o,h⟩) | h
 ·exact .inl (.inl (e _ _ h))
 ·exact .inl (.inr ⟨o,e _ _ h⟩)
 ·exact .inr h
section
variable {κ:Type} [DecidableEq κ]
def dz (kvs:List (κ×V)) (k:κ):Option V:=(kvs.find? fun kv=>decide (kv.1=k)).map (·.2)
def eT (kvs:List (κ×V)) (k:κ) (v:V):List (κ×V) :=
 if (kvs.any fun kv=>decide (kv.1=k))=true then kvs.map (fun kv=>if kv.1=k then (kv.1,v) else kv) else kvs ++ [(k,v)]
theorem ij {p:κ×V}{r:List (κ×V)} {k:κ} (e:p.1=k):dz (p :: r) k=some p.2:=by simp [dz,F8,e]
theorem ik {p:κ×V}{r:List (κ×V)} {k:κ} (e:¬ p.1=k):dz (p :: r) k=dz r k:=by simp [dz,F8,e]
theorem il (k:κ):∀ kvs:List (κ×V),(kvs.any fun kv=>decide (kv.1=k))=(dz kvs k).isSome
 | []=>rfl
 | p :: r=>by
  rw [Gu]
  by_cases e:p.1=k
  ·simp only [ij e,Fj e,Bool.true_or,Option.isSome_some]
  ·rw [ik e,Fc e,HQ]; exact il k r
theorem gi (kvs:List (κ×V)) (k:κ) (v:V):(eT kvs k v).length≤kvs.length + 1:=by
 unfold eT
 split
 ·rw [EW]; omega
 ·rw [Fb,EL,EM]; omega
theorem wy {kvs:List (κ×V)} {k:κ} (v:V) (h:dz kvs k=none):eT kvs k v=kvs ++ [(k,v)]:=by
 unfold eT
 rw [il,h]
 exact if_neg (by decide)
theorem eI.isSome_eq {o:Option V}{u:Option Value} (r:eI o u):o.isSome=u.isSome:=by
 cases o with
 | none=>cases u with
  | none=>rfl
  | some _=>exact (show False from r).elim
 | some _=>cases u with
  | none=>exact (show False from r).elim
  | some _=>rfl
theorem eI.getD {o:Option V}{u:Option Value}{d:V}{d':Value} (r:eI o u) (rd:aS d d'):aS (o.getD d) (u.getD d'):=by
 cases o with
 | none=>cases u with
  | none=>exact rd
  | some _=>exact (show False from r).elim
 | some _=>cases u with
  | none=>exact (show False from r).elim
  | some _=>exact r
theorem KV.val {kvs:List (κ×V)} {vs:List (κ×Value)} (r:KV kvs vs) (k:κ):eI (dz kvs k) (valueAt vs k):=by
 unfold KV at r
 induction r with
 | nil=>exact True.intro
 | @cons p q ps qs h t ih =>
  obtain ⟨h1,h2⟩:=h
  by_cases e:p.1=k
  ·have e':q.1=k:=h1.symm.trans e
   have b:valueAt (q :: qs) k=some q.2:=by simp [valueAt,F8,e']
   rw [ij e,b]; exact h2
  ·have e':¬ q.1=k:=fun z=>e (h1.trans z)
   have b:valueAt (q :: qs) k=valueAt qs k:=by simp [valueAt,F8,e']
   rw [ik e,b]; exact ih
theorem KV.any {kvs:List (κ×V)} {vs:List (κ×Value)} (r:KV kvs vs) (k:κ):(kvs.any fun kv=>decide (kv.1=k))=vs.any fun kv=>decide (kv.1=k):=by
 unfold KV at r
 induction r with
 | nil=>rfl
 | cons h t ih=>rw [Gu,Gu,ih,h.1]
theorem KV.repl {kvs:List (κ×V)} {vs:List (κ×Value)} (r:KV kvs vs) (k:κ) {y:V}{u:Value} (ry:aS y u) :
  KV (kvs.map fun kv=>if kv.1=k then (kv.1,y) else kv) (vs.map fun kv=>if kv.1=k then (kv.1,u) else kv):=by
 unfold KV at r ⊢
 induction r with
 | nil=>exact .nil
 | @cons p q ps qs h t ih =>
  rw [EN,EN]
  refine .cons ?_ ih
  obtain ⟨h1,h2⟩:=h
  by_cases e:p.1=k
  ·rw [if_pos e,if_pos (h1.symm.trans e)]; exact ⟨h1,ry⟩
  ·rw [if_neg e,if_neg (fun z=>e (h1.trans z))]; exact ⟨h1,h2⟩
theorem KV.put {kvs:List (κ×V)} {vs:List (κ×Value)} (r:KV kvs vs) (k:κ) {y:V}{u:Value} (ry:aS y u):KV (eT kvs k y) (stored vs k u):=by
 unfold eT stored
 rw [r.any k]
 by_cases e:(vs.any fun kv=>decide (kv.1=k))=true
 ·rw [if_pos e,if_pos e]; exact r.repl k ry
 ·rw [if_neg e,if_neg e]; exact Paired.snoc r ⟨rfl,ry⟩
theorem KV.keys {kvs:List (κ×V)} {vs:List (κ×Value)} (r:KV kvs vs):kvs.map (·.1)=vs.map (·.1):=by
 unfold KV at r
 induction r with
 | nil=>rfl
 | cons h t ih=>rw [EN,EN,ih,h.1]
theorem KV.length {kvs:List (κ×V)} {vs:List (κ×Value)} (r:KV kvs vs):kvs.length=vs.length:=Paired.length r
end
theorem mn {P:Program}{w:World}{k:Key}{u:Value} (r:aS (kV k) u):(bf P w).is k u=true:=by
 match k,r with
 | .inl (some i),r=>obtain ⟨t,e⟩:=(show ∃ t,u=Value.int i t from r); subst e; exact pA P w i t
 | .inl none,r=>cases (show u=Value.none from r); exact uZ
 | .inr x,r=>obtain ⟨t,e⟩:=(show ∃ t,u=Value.str x t from r); subst e; exact pz P w x t
theorem mq {P:Program}{w:World}:∀ {ks:List Key}{us:List Value},aR (ks.map kV) us→ItemsAre (bf P w) ks us
 | [],_,r=>by rw [EO] at r; cases r; exact .nil
 | k :: ks,_,r=>by
  rw [EN] at r
  cases r with
  | cons h t=>exact .cons (mn h) (mq t)
abbrev KT (H:Hp):List (List Key×V)→List (List Key×Addr×Value)→Prop:=Paired fun p q=>p.1=q.1∧H q.2.1=some (.tup (p.1.map kV))∧aS p.2 q.2.2
theorem KT.val {H:Hp}{kvs:List (List Key×V)} {xs:List (List Key×Addr×Value)} (r:KT H kvs xs) (k:List Key):eI (dz kvs k) ((atKey xs k).map (·.2)):=by
 induction r with
 | nil=>exact True.intro
 | @cons p q ps qs h t ih =>
  obtain ⟨h1,_,h2⟩:=h
  by_cases e:p.1=k
  ·have e':q.1=k:=h1.symm.trans e
   have b:atKey (q :: qs) k=some q.2:=by simp [atKey,F8,e']
   rw [ij e,b]; exact h2
  ·have e':¬ q.1=k:=fun z=>e (h1.trans z)
   have b:atKey (q :: qs) k=atKey qs k:=by simp [atKey,F8,e']
   rw [ik e,b]; exact ih
theorem KT.repl {H:Hp}{kvs:List (List Key×V)} {xs:List (List Key×Addr×Value)} (r:KT H kvs xs) (k:List Key) {y:V}{u:Value} (ry:aS y u) :
  KT H (kvs.map fun kv=>if kv.1=k then (kv.1,y) else kv) (xs.map (putAt k u)):=by
 induction r with
 | nil=>exact .nil
 | @cons p q ps qs h t ih =>
  rw [EN,EN]
  refine .cons ?_ ih
  obtain ⟨h1,h2,h3⟩:=h
  unfold putAt
  by_cases e:p.1=k
  ·rw [if_pos e,if_pos (h1.symm.trans e)]; exact ⟨h1,h2,ry⟩
  ·rw [if_neg e,if_neg (fun z=>e (h1.trans z))]; exact ⟨h1,h2,h3⟩
theorem KT.put {H:Hp}{kvs:List (List Key×V)} {xs:List (List Key×Addr×Value)} (r:KT H kvs xs) (k:List Key) {b:Addr}{y:V}{u:Value} (hb:H b=some (.tup (k.map kV))) (ry:aS y u) :
  KT H (eT kvs k y) (storedH xs k b u):=by
 have e:(kvs.any fun kv=>decide (kv.1=k))=(atKey xs k).isSome:=by
  rw [il,(r.val k).isSome_eq,Option.isSome_map]
 unfold eT storedH
 rw [e]
 by_cases q:(atKey xs k).isSome=true
 ·rw [if_pos q,if_pos q]; exact r.repl k ry
 ·rw [if_neg q,if_neg q]; exact Paired.snoc r ⟨rfl,hb,ry⟩
theorem KT.keeps {H H':Hp}{kvs:List (List Key×V)} {xs:List (List Key×Addr×Value)} (r:KT H kvs xs) (ht:∀ b ys,H b=some (.tup ys)→H' b=some (.tup ys)):KT H' kvs xs :=
 Paired.mapP r fun _ _ z=>⟨z.1,ht _ _ z.2.1,z.2.2⟩
section
variable {P:Program}{w:World}{H:Hp}{h:Heap}{a:Addr}
theorem AK {u:HO} (ok:HOk P w H h) (e:Rd H a u):cm P w H h a u:=e.ok ok
theorem jg {kvs:List (Key×V)} (ok:HOk P w H h) (e:Rd H a (.dK kvs)):kvs.length≤sizeLine∧(a == sysModules)=false∧∃ vs,KV kvs vs∧h.DictOf (bf P w) a vs :=
 show cm P w H h a (.dK kvs) from AK ok e
theorem tH {kvs:List (Key×V)} (ok:HOk P w H h) (e:H a=some (.dK kvs)):kvs.length≤sizeLine∧(a == sysModules)=false∧∃ vs,KV kvs vs∧h.DictOf (bf P w) a vs:=jg ok (.inl e)
theorem kz {ks:List Key} (ok:HOk P w H h) (e:H a=some (.tup (ks.map kV))):(tupleKind (bf P w)).is h ks a:=by
 obtain ⟨_,its,r,o,h1,h2,n,h3⟩:=(show cm P w H h a (.tup (ks.map kV)) from ok a _ e)
 exact ⟨o,its.toArray,n,h1,h2,h3,by simpa using mq r⟩
theorem mE {kvs:List (List Key×V)} (ok:HOk P w H h) (e:Rd H a (.dT kvs)):kvs.length≤sizeLine∧(a == sysModules)=false ∧
  ∃ xs,KT H kvs xs∧h.DictOfH (tupleKind (bf P w)) a xs:=by
 obtain ⟨z,y,xs,r,o,es,ep,h1,h2,h3,h4,h5⟩:=(show cm P w H h a (.dT kvs) from AK ok e)
 refine ⟨z,y,xs,r,o,es,ep,h1,h2,h3,h4,fun x hx=>?_,h5⟩
 have all:∀ {l:List (List Key×V)} {m:List (List Key×Addr×Value)},KT H l m→∀ x ∈ m,(tupleKind (bf P w)).is h x.1 x.2.1:=by
  intro l m q
  induction q with
  | nil=>intro x hx; exact nomatch hx
  | @cons p q ps qs hq t ih =>
   intro x hx
   rcases List.mem_cons.mp hx with e | hx
   ·subst e
    exact kz ok (by rw [← hq.1]; exact hq.2.1)
   ·exact ih x hx
 exact all r x hx
theorem D5 {kvs:List (List Key×V)} (ok:HOk P w H h) (e:H a=some (.dT kvs)):kvs.length≤sizeLine∧(a == sysModules)=false ∧
  ∃ xs,KT H kvs xs∧h.DictOfH (tupleKind (bf P w)) a xs:=mE ok (.inl e)
end
def lf (H:Hp) (a:Addr) (y:V) (r:Option V):Prop :=
 (∃ kvs k,Rd H a (.dK kvs)∧y=kV k∧r=dz kvs k)∨∃ kvs k b,Rd H a (.dT kvs)∧y=.ref b∧H b=some (.tup (k.map kV))∧r=dz kvs k
def vI (H:Hp) (a:Addr) (y v:V) (H':Hp):Prop :=
 (∃ kvs k,H a=some (.dK kvs)∧y=kV k∧kvs.length < sizeLine∧H'=upd H a (.dK (eT kvs k v))) ∨
 ∃ kvs k b,H a=some (.dT kvs)∧y=.ref b∧H b=some (.tup (k.map kV))∧kvs.length < sizeLine∧H'=upd H a (.dT (eT kvs k v))
theorem lf.k {H:Hp}{a:Addr}{kvs:List (Key×V)} {k:Key} (e:H a=some (.dK kvs)):lf H a (kV k) (dz kvs k):=.inl ⟨kvs,k,.inl e,rfl,rfl⟩
theorem vI.k {H:Hp}{a:Addr}{kvs:List (Key×V)} {k:Key}{v:V} (e:H a=some (.dK kvs)) (hl:kvs.length < sizeLine):vI H a (kV k) v (upd H a (.dK (eT kvs k v))):=.inl ⟨kvs,k,e,rfl,hl,rfl⟩
section
variable {X:Cx}{pins:List (Addr×Obj)} {σ:St}{H:Hp}{s:Shared}{a:Addr}{y v:V}{u r:Value}{o:Option V}{A:Around}{E:Value→Shared→Prop}
theorem Inv.big (I:Inv X pins σ H s):sysModules < s.heap.objs.size:=by
 have h:mainGlobals < s.heap.objs.size:=(I.mod.glob.keeps I.bk).lt
 exact Nat.lt_trans (by decide) h
theorem vj {Q:Value→Shared→Prop} (hu:A.units + 1 < cLine) (I:Inv X pins σ H s) (g:lf H a y (some v)) (ry:aS y u) (h:∀ w' s',Inv X pins σ H s'→aS v w'→Q w' s') :
  wpAny (model X.prog X.w) A (getItem (.ref a) u) Q E s:=by
 rcases g with ⟨kvs,k,e,ey,l⟩ | ⟨kvs,k,b,e,ey,eb,l⟩
 ·subst ey
  obtain ⟨z,hd,vs,rel,dd⟩:=jg I.hok e
  obtain ⟨w',hw,rw'⟩:=eI.some_of (v:=v) (o:=valueAt vs k) (by rw [l]; exact rel.val k)
  exact wpAny_getItem_of (mn ry) dd.mapOf hw (h w' _ (I.tok _) rw')
 ·subst ey
  cases (show u=Value.ref b from ry)
  obtain ⟨z,hd,xs,rel,dd⟩:=mE I.hok e
  obtain ⟨w',hw,rw'⟩:=eI.some_of (v:=v) (o:=(atKey xs k).map (·.2)) (by rw [l]; exact rel.val k)
  obtain ⟨p,hp,hp2⟩:=Option.map_eq_some_iff.mp hw
  refine wpAny_getItem_heap (Ht hu) (kz I.hok eb) dd hp ?_
  rw [hp2]
  exact h w' _ (I.tok _) rw'
theorem Ak {Q:Value→Shared→Prop} (hu:A.units + 1 < cLine) (I:Inv X pins σ H s) (g:lf H a y o) (ry:aS y u) (h:∀ s',Inv X pins σ H s'→Q (.bool (!o.isSome)) s') :
  wpAny (model X.prog X.w) A (compareOp .NotIn u (.ref a)) Q E s:=by
 rcases g with ⟨kvs,k,e,ey,l⟩ | ⟨kvs,k,b,e,ey,eb,l⟩
 ·subst ey
  obtain ⟨z,hd,vs,rel,dd⟩:=jg I.hok e
  refine wpAny_notIn_of (mn ry) hd dd.mapOf ?_
  rw [← (rel.val k).isSome_eq,← l]
  exact h _ (I.tok _)
 ·subst ey
  cases (show u=Value.ref b from ry)
  obtain ⟨z,hd,xs,rel,dd⟩:=mE I.hok e
  refine wpAny_notIn_heap (Ht hu) (kz I.hok eb) hd dd ?_
  have q:=(rel.val k).isSome_eq
  rw [Option.isSome_map] at q
  rw [← q,← l]
  exact h _ (I.tok _)
theorem jC {h':Heap}{t':Nat}{ob:HO} (I:Inv X pins σ H s) (mu:Mut (H a)) (hs:Heap.SameBut a s.heap h') (he:∃ q,h'.get? a=some q) (new:cm X.prog X.w (upd H a ob) h' a ob) :
  Inv X pins σ (upd H a ob) { s with heap:=h',toks:=t' } :=
 I.write (x:=a) (e:=a) mu (.inl rfl) (fun b q hb z=>(hs.2 b hb).trans z) he new
theorem rB {P:Program}{w:World}{H':Hp}{h':Heap}{kvs:List (Key×V)} {vs:List (Key×Value)} (z:kvs.length≤sizeLine) (hd:(a == sysModules)=false) (rel:KV kvs vs) (dd:h'.DictOf (bf P w) a vs) :
  cm P w H' h' a (.dK kvs):=⟨z,hd,vs,rel,dd⟩
theorem vi {H':Hp}{Q:Unit→Shared→Prop} (hu:A.units + 1 < cLine) (I:Inv X pins σ H s) (g:vI H a y v H') (ry:aS y u) (rv:aS v r) (h:∀ s',Inv X pins σ H' s'→Q () s') :
  wpAny (model X.prog X.w) A (setItem (.ref a) u r) Q E s:=by
 rcases g with ⟨kvs,k,e,ey,l,eH⟩ | ⟨kvs,k,b,e,ey,eb,l,eH⟩
 ·subst ey eH
  obtain ⟨z,hd,vs,rel,dd⟩:=tH I.hok e
  have hz:vs.length≤sizeLine:=by rw [← rel.length]; exact z
  have hl:(eT kvs k v).length≤sizeLine:=by have:=gi kvs k v; omega
  refine wpAny_setItem_pairs (hsz:=hz) (mn ry) dd fun h' dd' hs=>h _ ?_
  have he:∃ q,h'.get? a=some q:=let ⟨q,_,_,hq,_⟩:=dd'; ⟨q,hq⟩
  exact jC I (by rw [e]; exact True.intro) hs he (rB hl hd (rel.put k rv) dd')
 ·subst ey eH
  cases (show u=Value.ref b from ry)
  obtain ⟨z,hd,xs,rel,dd⟩:=D5 I.hok e
  have hz:xs.length≤sizeLine:=by rw [← Paired.length rel]; exact z
  have hl:(eT kvs k v).length≤sizeLine:=by have:=gi kvs k v; omega
  refine wpAny_setItem_heap (hsz:=hz) (Ht hu) (kz I.hok eb) dd fun h' dd' hs=>h _ ?_
  obtain ⟨q,es,ep,hq,h2,h3,h4,_,h5⟩:=dd'
  refine jC I (by rw [e]; exact True.intro) hs ⟨q,hq⟩ ⟨hl,hd,_,(rel.put k eb rv).keeps fun c ys ec=>?_,q,es,ep,hq,h2,h3,h4,h5⟩
  rw [aj (DP ec e (fun z=>nomatch z))]
  exact ec
end
section
variable {X:Cx}{pins:List (Addr×Obj)} {σ:St}{H:Hp}{s:Shared}{a:Addr}{kvs:List (Key×V)} {k:Key}{u:Value}{A:Around}{E:Value→Shared→Prop}
theorem D6 {Q:Value→Shared→Prop} (I:Inv X pins σ H s) (e:Rd H a (.dK kvs)) (h:∀ t s',Inv X pins σ H s'→Q (.int kvs.length t) s'):wpAny (model X.prog X.w) A (call (.builtin "len") [.ref a]) Q E s:=by
 obtain ⟨z,hd,vs,rel,dd⟩:=jg I.hok e
 refine call_len_dict hd dd (by rw [← rel.length]; rw [Hi] at z; omega) ?_
 rw [← rel.length]
 exact h _ _ (I.tok _)
end
def AA (i:Expr):Prop:=∀ ov iv,subscripted i false ov iv=operate [ov,iv] (getItem ov iv)
theorem yT {prog:Program}{w:World}{A:Around}{E:Value→Shared→Prop}{s:Shared}{env:Env}{value slice:Expr}{pos:Pos}{T id:String}{Q:Value→Shared→Prop}
  (hl:typeLookup (.type T) "__getitem__" = pure (some (.builtin id))) (hs:AA slice)
  (h:wpAny (model prog w) A (eval value env) (fun o s₁=>wpAny (model prog w) A (eval slice env) (fun i s₂=>s₂.TypeIs o T∧wpAny (model prog w) A (getItem o i) Q E s₂) E s₁) E s) :
  wpAny (model prog w) A (eval (.Subscript value slice pos) env) Q E s:=by
 refine Subscript_ (FG h (fun o s₁ h₁=>FG h₁ (fun i s₂ h₂=>?_) fun _ _ x=>x) fun _ _ x=>x)
 obtain ⟨hT,h₂⟩:=h₂
 unfold subscriptTail
 refine ET ?_
 rw [getitemInPython_of_ne hT.not_modules]
 refine ET (wpAny_specialOf hT hl ?_)
 have fin:wpAny (model prog w) A (subscripted slice false o i) (fun r s₃=>wpAny (model prog w) A (letTemporaryGo value o r >>= fun _=>pure r) Q E s₃) E s₂:=by
  rw [hs o i]
  exact wpAny_operating (FG h₂ (fun r s₃ h₃=>ET (wpAny_letTemporaryGo (EY h₃))) fun _ _ x=>x)
 first
  | exact EY (ET fin)
  | exact ET (EY (ET fin))
  | exact ET fin
theorem p0 {X:Cx}{pins:List (Addr×Obj)} {σ:St}{H:Hp}{s:Shared}{a:Addr}{y:V}{o:Option V} (I:Inv X pins σ H s) (g:lf H a y o):s.TypeIs (.ref a) "dict" := by
 rcases g with ⟨kvs,k,e,_,_⟩ | ⟨kvs,k,b,e,_,_,_⟩
 ·obtain ⟨_,_,vs,_,dd⟩:=jg I.hok e
  exact dd.typeIs
 ·obtain ⟨_,_,xs,_,dd⟩:=mE I.hok e
  exact dd.typeIs
def De (td ty:TE):TE:=fun σ H Q=>td σ H fun x H1=>ty σ H1 fun y H2=>∃ a v,x=.ref a∧lf H2 a y (some v)∧Q v H2
def sj (ty td:TE):TE:=fun σ H Q=>ty σ H fun y H1=>td σ H1 fun x H2=>∃ a o,x=.ref a∧lf H2 a y o∧Q (.bl (!o.isSome)) H2
def Dj (td ty tv:TE):TS:=fun D σ H=>tv σ H fun v H1=>td σ H1 fun x H2=>ty σ H2 fun y H3=>∃ a H4,x=.ref a∧vI H3 a y v H4∧D.nx σ H4
section
variable {X:Cx}{o i e value:Expr}{pos pos' tpos:Pos}{td ty tv:TE}
theorem sF (hu:X.A.units + 1 < cLine) (ho:PE X o td) (hi:PE X i ty) (hs:AA i):PE X (.Subscript o i pos) (De td ty):=by
 intro pins s σ H Q I h
 refine yT PySem.F.slot_dict_getitem.lookup hs (thn (ho pins s σ H _ I h) fun u s1 ⟨x,H1,I1,rx,q1⟩=>thn (hi pins s1 σ H1 _ I1 q1) fun iv s2 zz48_0=>?_)
 obtain ⟨y,H2,I2,ry,a,v,ex,g,q2⟩:=zz48_0
 subst ex
 obtain rfl:u=Value.ref a:=rx
 exact ⟨p0 I2 g,vj hu I2 g ry fun w' s3 I3 rw'=>⟨v,H2,I3,rw',q2⟩⟩
theorem uE (hu:X.A.units + 1 < cLine) (hi:PE X i ty) (ho:PE X o td):PC X .NotIn i o (sj ty td):=by
 intro pins s σ H Q I h
 refine thn (hi pins s σ H _ I h) fun iv s1 ⟨y,H1,I1,ry,q1⟩=>thn (ho pins s1 σ H1 _ I1 q1) fun u s2 zz50_0=>?_
 obtain ⟨x,H2,I2,rx,a,ov,ex,g,q2⟩:=zz50_0
 subst ex
 obtain rfl:u=Value.ref a:=rx
 exact Ak hu I2 g ry fun s3 I3=>⟨.bl (!ov.isSome),H2,I3,rfl,q2⟩
theorem sC (hu:X.A.units + 1 < cLine) (ho:PE X o td) (hi:PE X i ty) (hv:PE X value tv) (hs:swapsWith value (some (.Subscript o i pos')) pos.line X.env=pure false) :
  PS X (.Assign [.Subscript o i pos'] value pos) (Dj td ty tv):=by
 intro pins s σ H D I h
 refine wpAny_Assign_Subscript (thn (hv pins s σ H _ I h) fun r s1 ⟨v,H1,I1,rv,q1⟩=>thn (ho pins s1 σ H1 _ I1 q1) fun u s2 ⟨x,H2,I2,rx,q2⟩=>thn (hi pins s2 σ H2 _ I2 q2) fun iv s3 zz53_0=>?_) hs
 obtain ⟨y,H3,I3,ry,a,H4,ex,g,q3⟩:=zz53_0
 subst ex
 obtain rfl:u=Value.ref a:=rx
 exact vi hu I3 g ry rv fun s4 I4=>⟨σ,H4,I4,q3⟩
end
theorem pZ {P:Program}{w:World}{H:Hp} (h:Heap) (hb:sysModules < h.objs.size):cm P w H (h.push { cls:=.type "dict",data:=.dict #[] }) h.objs.size (.dK []) :=
 ⟨FV _,beq_eq_false_iff_ne.mpr (Ne.symm (Fh hb)),[],.nil,Heap.DictOf.new h⟩
def A9:TE:=fun _ H Q=>∀ p,H p=none→Q (.ref p) (upd H p (.dK []))
section
variable {X:Cx}{pos:Pos}
theorem wS:PE X (.Dict [] [] pos) A9:=fun pins s σ H Q I h =>
 wpAny_Dict_empty ⟨.ref s.heap.objs.size,_,I.laid (a:=s.heap.objs.size) (o:=.dK []) (t':=s.toks) (fun _ _ q=>EU _ q) (E9 _) (pZ s.heap I.big),rfl,h _ (I.hok.fresh (E9 _))⟩
end
def qB:List (TE×TE)→St→Hp→(List (V×V)→Hp→Prop)→Prop
 | [],_,H,Q=>Q [] H
 | (tk,tv) :: r,σ,H,Q=>tk σ H fun x H1=>tv σ H1 fun y H2=>qB r σ H2 fun ps H3=>Q ((x,y) :: ps) H3
abbrev VV:List (V×V)→List (Value×Value)→Prop:=Paired fun p q=>aS p.1 q.1∧aS p.2 q.2
def PPs (X:Cx) (pos:Pos) (keys:List (Option Expr)) (values:List Expr) (trs:List (TE×TE)):Prop :=
 ∀ (pins:List (Addr×Obj)) (s:Shared) (σ:St) (H:Hp) (Q:List (V×V)→Hp→Prop),Inv X pins σ H s→qB trs σ H Q →
  wpAny (model X.prog X.w) X.A (evalPairs (pairTrees keys values X.env pos)) (fun vs s'=>∃ ps H',Inv X pins σ H' s'∧VV ps vs∧Q ps H') X.xe s
theorem zh {X:Cx}{pos:Pos}:PPs X pos [] [] []:=fun pins s σ H Q I h=>pairTrees_nil_walk ⟨[],H,I,.nil,h⟩
theorem wF {X:Cx}{pos:Pos}{k v:Expr}{ks:List (Option Expr)} {vs:List Expr}{tk tv:TE}{trs:List (TE×TE)} (hk:PE X k tk) (hv:PE X v tv) (hr:PPs X pos ks vs trs) :
  PPs X pos (some k :: ks) (v :: vs) ((tk,tv) :: trs):=fun pins s σ H Q I h =>
 pairTrees_cons_walk (thn (hk pins s σ H _ I h) fun u s1 ⟨x,H1,I1,rx,q1⟩=>thn (hv pins s1 σ H1 _ I1 q1) fun w2 s2 ⟨y,H2,I2,ry,q2⟩ =>
  thn (hr pins s2 σ H2 _ I2 q2) fun ws s3 zz56_0=>by obtain ⟨ps,H3,I3,rel,q3⟩:=zz56_0; exact ⟨(x,y) :: ps,H3,I3,.cons ⟨rx,ry⟩ rel,q3⟩)
def gZ (kvs more:List (Key×V)):List (Key×V):=more.foldl (fun acc kv=>eT acc kv.1 kv.2) kvs
theorem KV.merge:∀ {more:List (Key×V)} {rs:List (Key×Value)} {kvs:List (Key×V)} {vs:List (Key×Value)},KV more rs→KV kvs vs→KV (gZ kvs more) (merged vs rs):=by
 intro more rs kvs vs r
 unfold KV at r
 induction r generalizing kvs vs with
 | nil=>intro q; exact q
 | @cons p q ps qs h t ih =>
  intro r0
  have e:KV (eT kvs p.1 p.2) (stored vs q.1 q.2):=by
   have:=r0.put p.1 h.2
   rw [← h.1]; exact this
  exact ih e
theorem eV:∀ (more kvs:List (Key×V)),(gZ kvs more).length≤kvs.length + more.length
 | [],kvs=>by show kvs.length≤kvs.length + 0; omega
 | p :: r,kvs=>by
  have h1:=eV r (eT kvs p.1 p.2)
  have h2:=gi kvs p.1 p.2
  show (gZ (eT kvs p.1 p.2) r).length≤_
  rw [EL]; omega
theorem kY {P:Program}{w:World}:∀ {kvs:List (Key×V)} {ws:List (Value×Value)},VV (kvs.map fun kv=>(kV kv.1,kv.2)) ws→∃ rs,Carries (bf P w) ws rs∧KV kvs rs
 | [],_,r=>by rw [EO] at r; cases r; exact ⟨[],True.intro,.nil⟩
 | p :: kvs,_,r=>by
  rw [EN] at r
  cases r with
  | @cons a b as bs h t =>
   obtain ⟨rs,c,q⟩:=kY (P:=P) (w:=w) t
   obtain ⟨b1,b2⟩:=b
   exact ⟨(p.1,b2) :: rs,⟨mn h.1,rfl,c⟩,.cons ⟨rfl,h.2⟩ q⟩
def Dd (trs:List (TE×TE)):TE:=fun σ H Q=>∀ p,H p=none→qB trs σ (upd H p (.dK [])) fun ps H2=>H2 p=some (.dK [])∧∃ kvs:List (Key×V),ps=kvs.map (fun kv=>(kV kv.1,kv.2))∧kvs.length≤15∧Q (.ref p) (upd H2 p (.dK (gZ [] kvs)))
theorem zu {X:Cx}{pos:Pos}{keys:List (Option Expr)} {values:List Expr}{trs:List (TE×TE)} (h:PPs X pos keys values trs) (hall:keys.all (·.isSome)=true) (hl:keys.length=values.length) (h0:keys ≠ [])
  (h15:keys.length≤15):PE X (.Dict keys values pos) (Dd trs):=by
 intro pins s σ H Q I q
 have hn:=I.hok.fresh (E9 s.heap.objs.size)
 have I1:=I.laid (a:=s.heap.objs.size) (o:=.dK []) (h':=s.heap.push { cls:=.type "dict",data:=.dict #[] }) (t':=s.toks) (fun _ _ q=>EU _ q) (E9 _) (pZ s.heap I.big)
 refine wpAny_Dict_walk (knd:=bf X.prog X.w) hall hl h0 h15 (thn (h pins _ σ _ _ I1 (q _ hn)) fun ws s2 zz57_0=>?_)
 obtain ⟨ps,H2,I2,rel,e,kvs,ep,lk,q2⟩:=zz57_0
 subst ep
 obtain ⟨rs,c,rk⟩:=kY (P:=X.prog) (w:=X.w) rel
 obtain ⟨z,hd,vs0,r0,dd⟩:=tH I2.hok e
 cases r0
 refine ⟨rs,c,dd,fun h' dd' hs=>⟨.ref s.heap.objs.size,_,?_,rfl,q2⟩⟩
 have hz:(gZ [] kvs).length≤sizeLine:=by
  have h1:=eV kvs []
  rw [EM] at h1
  rw [Hi]; omega
 have he:∃ q,h'.get? s.heap.objs.size=some q:=let ⟨q,_,_,hq,_⟩:=dd'; ⟨q,hq⟩
 exact jC I2 (by rw [e]; exact True.intro) hs he (rB hz hd (rk.merge .nil) dd')
structure M2 (X:Cx) (o:Expr) (m:Str) (apos:Pos) (e f:Expr) (cpos:Pos):Prop where
 base:attributeBase o m X.env (eval o X.env)=eval o X.env
 few:((backTo cpos (starEach [e,f] X.env)).all (fun x => !x.1) && (backToKw cpos (keywordEach [] X.env)).all (fun x=>x.1.isSome)
  && decide (([e,f]:List Expr).length + ([]:List Keyword).length + (if ([]:List Keyword).isEmpty then 0 else 1) < 30))=true
 line:(apos.endLine == cpos.line)=true
 trees:backTo cpos (starEach [e,f] X.env)=[(false,eval e X.env),(false,eval f X.env)]
def IsD (H:Hp) (a:Addr):Prop:=(∃ kvs,Rd H a (.dK kvs))∨∃ kvs,Rd H a (.dT kvs)
theorem Cj {X:Cx}{pins:List (Addr×Obj)} {σ:St}{H:Hp}{s:Shared}{a:Addr} (I:Inv X pins σ H s) (d:IsD H a) :
  s.TypeIs (.ref a) "dict"∧(∀ b,Value.ref a=.ref b→∃ ob,s.heap.get? b=some ob∧ob.dict=none)∧(a == sysModules)=false:=by
 rcases d with ⟨kvs,e⟩ | ⟨kvs,e⟩
 ·obtain ⟨_,hd,vs,_,dd⟩:=jg I.hok e
  refine ⟨dd.typeIs,fun b q=>?_,hd⟩
  cases q
  obtain ⟨ob,_,_,h1,h2,_⟩:=dd
  exact ⟨ob,h1,h2.2.1⟩
 ·obtain ⟨_,hd,xs,_,dd⟩:=mE I.hok e
  refine ⟨dd.typeIs,fun b q=>?_,hd⟩
  cases q
  obtain ⟨ob,_,_,h1,h2,_⟩:=dd
  exact ⟨ob,h1,h2.2.1⟩
section
variable {X:Cx}{pins:List (Addr×Obj)} {σ:St}{H:Hp}{s:Shared}{a:Addr}{y d:V}{u r:Value}{o:Option V}{A:Around}{E:Value→Shared→Prop}
theorem CC {Q:Value→Shared→Prop} (hu:A.units + 1 < cLine) (I:Inv X pins σ H s) (g:lf H a y o) (ry:aS y u) (rd:aS d r) (h:∀ w' s',Inv X pins σ H s'→aS (o.getD d) w'→Q w' s') :
  wpAny (model X.prog X.w) A (call (.builtin "dict.get") [.ref a,u,r]) Q E s:=by
 rcases g with ⟨kvs,k,e,ey,l⟩ | ⟨kvs,k,b,e,ey,eb,l⟩
 ·subst ey
  obtain ⟨z,hd,vs,rel,dd⟩:=jg I.hok e
  refine call_meetsIn Hx dd.typeIs PySem.F.entry_dict_get (PySem.F.args_dict_get_3 _ _ _) (meets_dict_get_default (bf X.prog X.w) a (mn ry) hd r) ⟨_,dd.mapOf,h _ _ (I.tok _) ?_⟩
  rw [l]
  exact (rel.val k).getD rd
 ·subst ey
  cases (show u=Value.ref b from ry)
  obtain ⟨z,hd,xs,rel,dd⟩:=mE I.hok e
  refine call_meetsIn Hx dd.typeIs PySem.F.entry_dict_get (PySem.F.args_dict_get_3 _ _ _) (meetsH_dict_get_default (tupleKind (bf X.prog X.w)) a b hd r) ⟨Ht hu,k,xs,kz I.hok eb,dd,h _ _ (I.tok _) ?_⟩
  rw [l]
  exact (rel.val k).getD rd
end
def A_ (td ty tx:TE):TE:=fun σ H Q=>td σ H fun x H1=>∃ a,x=.ref a∧IsD H1 a∧ty σ H1 fun y H2=>tx σ H2 fun z H3=>∃ o,lf H3 a y o∧Q (o.getD z) H3
section
variable {X:Cx}{o e f:Expr}{apos cpos:Pos}{td ty tx:TE}
theorem wT (hu:X.A.units + 1 < cLine) (ho:PE X o td) (he:PE X e ty) (hf:PE X f tx) (m:M2 X o "get" apos e f cpos):PE X (.Call (.Attribute o "get" apos) [e,f] [] cpos) (A_ td ty tx):=by
 intro pins s σ H Q I h
 refine wpAny_Call_method m.base m.few m.line PySem.F.plainAttrs_dict Hx PySem.F.type_dict_get (thn (ho pins s σ H _ I h) fun u s1 zz58_0=>?_)
 obtain ⟨x,H1,I1,rx,a,ex,d,q1⟩:=zz58_0
 subst ex
 obtain rfl:u=Value.ref a:=rx
 obtain ⟨t1,t2,_⟩:=Cj I1 d
 refine ⟨t1,t2,?_⟩
 rw [m.trees]
 refine Calls.callWith_builtin rfl (Calls.evalArgs_plain (G5 (thn (he pins s1 σ H1 _ I1 q1) fun iv s2 ⟨y,H2,I2,ry,q2⟩ =>
  G5 (thn (hf pins s2 σ H2 _ I2 q2) fun fv s3 ⟨z,H3,I3,rz,ov,g,q3⟩=>Hy ?_))))
 exact CC hu I3 g ry rz fun w' s4 I4 rw'=>⟨_,H3,I4,rw',q3⟩
end
section
variable {κ:Type} [DecidableEq κ]
theorem yP {kvs:List (κ×V)} {k:κ}{v:V} (h:dz kvs k=some v):k ∈ kvs.map (·.1):=by
 have q:(kvs.any fun kv=>decide (kv.1=k))=true:=by
  rw [il,h]
  all_goals rfl
 obtain ⟨p,hp,e⟩:=List.any_eq_true.mp q
 exact List.mem_map.mpr ⟨p,hp,FH e⟩
end
end L2
set_option maxHeartbeats 4000000
namespace L2
open PySem PySem.Spec PyProof.Rows
def gT (env:Env):List (Str×NameKind)→List (Str×Addr)→List (Str×Addr)
 | [],acc=>acc
 | p :: r,acc=>gT env r (if p.2=NameKind.free then (p.1,(env.cells.lookup p.1).getD 0) :: acc else acc)
theorem kU {env:Env} (body:Str×NameKind→List (Str×Addr)→Sem (ForInStep (List (Str×Addr))))
  (hb:∀ x cs,(x.2=NameKind.free→(env.cells.lookup x.1).isSome=true)→body x cs=pure (ForInStep.yield (if x.2=NameKind.free then (x.1,(env.cells.lookup x.1).getD 0) :: cs else cs))) :
  ∀ (l:List (Str×NameKind)) (acc:List (Str×Addr)),(∀ x ∈ l,x.2=NameKind.free→(env.cells.lookup x.1).isSome=true)→(forIn l acc body:Sem (List (Str×Addr)))=pure (gT env l acc)
 | [],acc,_=>by rw [List.forIn_nil]; rfl
 | x :: l,acc,h=>by
  rw [List.forIn_cons,hb x acc (h x Fd),pure_bind]
  exact kU body hb l _ fun y hy=>h y (E7 _ hy)
theorem tN {scope:Scope}{env:Env} (h:∀ x ∈ scope.names,x.2=NameKind.free→(env.cells.lookup x.1).isSome=true):closureFor scope env=pure (gT env scope.names []):=by
 simp only [closureFor]
 rw [kU (env:=env) _ ?_ scope.names [] h]
 ·rfl
 ·intro x cs hx
  obtain ⟨n,k⟩:=x
  by_cases hk:k=NameKind.free
  ·subst hk
   obtain ⟨c,hc⟩:=Option.isSome_iff_exists.mp (hx rfl)
   have hc':env.cells.lookup n=some c:=hc
   simp [cellOf,hc']
  ·have e:(k == NameKind.free)=false:=by simpa using hk
   simp [e,hk]
theorem kW {env:Env}:∀ (l:List (Str×NameKind)) (acc:List (Str×Addr)) (x:Str) (c:Addr),(∀ y ∈ l,y.2=NameKind.free→(env.cells.lookup y.1).isSome=true) →
  (gT env l acc).lookup x=some c→acc.lookup x=some c∨env.cells.lookup x=some c
 | [],acc,x,c,_,h=>.inl h
 | p :: l,acc,x,c,hs,h=>by
  rcases kW l _ x c (fun y hy=>hs y (E7 _ hy)) h with q | q
  ·by_cases hk:p.2=NameKind.free
   ·rw [if_pos hk,FY] at q
    cases hx:x == p.1 with
    | false=>rw [hx] at q; exact .inl q
    | true =>
     rw [hx] at q
     have ex:x=p.1:=by simpa using hx
     obtain ⟨c',hc⟩:=Option.isSome_iff_exists.mp (hs p Fd hk)
     rw [hc] at q
     right
     rw [ex,hc]
     exact q
   ·rw [if_neg hk] at q; exact .inl q
  ·exact .inr q
theorem kX {env:Env}:∀ (l:List (Str×NameKind)) (acc:List (Str×Addr)) (x:Str),(acc.lookup x).isSome=true→((gT env l acc).lookup x).isSome=true
 | [],acc,x,h=>h
 | p :: l,acc,x,h=>by
  refine kX l _ x ?_
  by_cases hk:p.2=NameKind.free
  ·rw [if_pos hk,FY]
   cases x == p.1
   ·exact h
   ·rfl
  ·rw [if_neg hk]; exact h
theorem hZ {env:Env}:∀ (l:List (Str×NameKind)) (acc:List (Str×Addr)) (x:Str),(x,NameKind.free) ∈ l→((gT env l acc).lookup x).isSome=true
 | p :: l,acc,x,h=>by
  rcases List.mem_cons.mp h with e | h
  ·refine kX l _ x ?_
   subst e
   simp [FY]
  ·exact hZ l _ x h
theorem dI {env:Env}{x:Str}:∀ {l:List (Str×NameKind)},(l.map fun (p:Str×NameKind)=>match p with | (n,k)=>if (k == NameKind.free && env.scope.kind == .function && env.kindOf n == some .cell)=true then (n,NameKind.cell) else (n,k)).lookup x=some NameKind.local→l.lookup x=some NameKind.local
 | [],h=>by simp at h
 | (n,k) :: r,h=>by
  rw [EN,FY] at h
  rw [FY]
  by_cases hc:(k == NameKind.free && env.scope.kind == .function && env.kindOf n == some .cell)=true
  ·simp only [hc,if_true] at h
   cases hx:x == n with
   | true=>rw [hx] at h; simp at h
   | false=>rw [hx] at h; exact dI h
  ·simp only [hc,Ff,HJ] at h
   cases hx:x == n with
   | true=>rw [hx] at h; simpa using h
   | false=>rw [hx] at h; exact dI (by simpa using h)
theorem dH {env:Env}{x:Str}:∀ {l:List (Str×NameKind)},(∀ y ∈ l,y.2 ≠ NameKind.cell) →
    ((l.map fun (p:Str×NameKind)=>match p with | (n,k)=>if (k == NameKind.free && env.scope.kind == .function && env.kindOf n == some .cell)=true then (n,NameKind.cell) else (n,k)).lookup x=some NameKind.cell ∨
     (l.map fun (p:Str×NameKind)=>match p with | (n,k)=>if (k == NameKind.free && env.scope.kind == .function && env.kindOf n == some .cell)=true then (n,NameKind.cell) else (n,k)).lookup x=some NameKind.free)→(x,NameKind.free) ∈ l
  | [],_,h=>by simp at h
  | (n,k) :: r,hn,h=>by
    rw [EN,FY] at h
    by_cases hc:(k == NameKind.free && env.scope.kind == .function && env.kindOf n == some .cell)=true
    · simp only [hc,if_true] at h
      have hk:k=NameKind.free:=by
        have:=(Bool.and_eq_true_iff.mp (Bool.and_eq_true_iff.mp hc).1).1
        simpa using this
      cases hx:x == n with
      | true =>
        have ex:x=n:=by simpa using hx
        rw [ex,hk]; exact Fd
      | false=>rw [hx] at h; exact E7 _ (dH (fun y hy=>hn y (E7 _ hy)) h)
    · simp only [hc,Ff,HJ] at h
      cases hx:x == n with
      | true =>
        have ex:x=n:=by simpa using hx
        rw [hx] at h
        have h':k=NameKind.cell∨k=NameKind.free:=by simpa using h
        rcases h' with e | e
        · exact absurd e (hn (n,k) Fd)
        · rw [ex,e]; exact Fd
      | false=>rw [hx] at h; exact E7 _ (dH (fun y hy=>hn y (E7 _ hy)) (by simpa using h))
def maskS (js:List Nat) (σ:St):St:=js.foldl (fun a j=>a.set j none) σ
theorem uT (js:List Nat):∀ σ:St,(maskS js σ).length=σ.length:=by
 induction js with
 | nil=>intro σ; rfl
 | cons j r ih=>intro σ; show (maskS r (σ.set j none)).length=_; rw [ih,FW]
theorem uU (js:List Nat):∀ (σ:St) (i:Nat) (v:V),(maskS js σ)[i]? = some (some v)→σ[i]? = some (some v)∧i ∉ js:=by
 induction js with
 | nil=>intro σ i v h; exact ⟨h,by simp⟩
 | cons j r ih =>
  intro σ i v h
  obtain ⟨h1,h2⟩:=ih (σ.set j none) i v h
  have nij:i ≠ j:=by
   rintro rfl
   rw [Fk] at h1
   split at h1
   ·split at h1 <;> simp at h1
   ·contradiction
  rw [E8 (Ne.symm nij)] at h1
  exact ⟨h1,by simp [nij,h2]⟩
structure Blk (X:Cx) (scope:Scope) (js:List Nat):Prop where
 kind:scope.kind=.function
 nocell:∀ y ∈ scope.names,y.2 ≠ NameKind.cell
 names:∀ y ∈ scope.names,y.2=NameKind.local→scope.names.lookup y.1=some .local
 free:∀ y ∈ scope.names,y.2=NameKind.free→X.env.kindOf y.1=some .cell∨X.env.kindOf y.1=some .free
 own:∀ (i:Nat) x,X.N[i]? = some x→scope.names.lookup x=some .local→i ∈ js
def cr (X:Cx) (scope:Scope) (C:Addr) (fp:List Addr) (s₂:Shared) (H₂:Hp):Cx :=
 { X with s₀:=s₂,H₀:=H₂,env:=compEnvC scope (gT X.env scope.names []) C X.env,outer:=X.stack,ex:=fp,fn:=fun _=>false,pn:=[],xe:=fun _ _=>False }
section
variable {X:Cx}{scope:Scope}{js:List Nat}{pins:List (Addr×Obj)} {σ:St}{H:Hp}{s:Shared}
theorem Blk.has (b:Blk X scope js) (ok:X.Ok):∀ y ∈ scope.names,y.2=NameKind.free→(X.env.cells.lookup y.1).isSome=true:=fun y hy hk=>by
 obtain ⟨c,e⟩:=ok.has y.1 (b.free y hy hk)
 rw [e]; rfl
theorem Blk.cell (b:Blk X scope js) (ok:X.Ok) {x:Str}{c:Addr} (h:(gT X.env scope.names []).lookup x=some c):X.env.cells.lookup x=some c:=by
 rcases kW scope.names [] x c (b.has ok) h with q | q
 ·simp at q
 ·exact q
theorem Blk.start (b:Blk X scope js) (I:Inv X pins σ H s) {fp:List Addr} (hf:∀ a ∈ fp,ic X pins H a) {h₁:Heap}{tk:Nat} (hn:h₁.Ns s.heap.objs.size fun _=>none)
  (hk:∀ a o,s.heap.get? a=some o→h₁.get? a=some o) (hfs:∀ a ∈ fp,a < s.heap.objs.size):Inv (cr X scope s.heap.objs.size fp s H) [] (maskS js σ) H { s with heap:=h₁,toks:=tk }:=by
 have ok:=I.ok
 have hC:H s.heap.objs.size=none:=I.hok.fresh (E9 _)
 refine ⟨⟨ok.mod,b.kind,ok.glob,ok.blt,E9 _,fun x y c h1 h2=>ok.inj x y c (b.cell ok h1) (b.cell ok h2),fun x hx=>?_,fun x c hx _=>Bool.noConfusion hx,ok.hd,ok.frames,.inl rfl,fun a ha=>⟨Fh (hfs a ha),fun x c h=>(hf a ha).2.2.2.2.1 x c (b.cell ok h)⟩,
  I.bs,Fa ok.bsz I.sz,fun a o e ha=>?_,fun a ha hx=>?_,I.stack,I.stkFree⟩,rfl,I.bare,Un.kept hk,⟨_,hn,fun i x v h1 h2 h3=>?_⟩,fun x c h=>?_,hC,fun x c h=>I.freeC x c (b.cell ok h),fun p hp=>absurd hp (by simp [cr]),I.hok.kept hk,?_⟩
 ·exact Option.isSome_iff_exists.mp (hZ scope.names [] x (dH b.nocell hx))
 ·rcases (hf a ha).2.2.2.1 with q | q
  ·exact ok.noex a o e q
  ·exact absurd (Fi (E6 e) (Fa ok.bsz q)) (Gr _)
 ·rcases List.mem_cons.mp (I.stkSub a hx) with q | q
  ·exact (hf a ha).2.1 q
  ·exact (hf a ha).2.2.1 q
 ·obtain ⟨h2,h4⟩:=uU js σ i v h2
  have hfr:(x,NameKind.free) ∈ scope.names:=by
   rcases h3 with q | q
   ·exact absurd (b.own i x h1 (dI q)) h4
   ·exact dH b.nocell q
  obtain ⟨c,hc⟩:=Option.isSome_iff_exists.mp (hZ (env:=X.env) scope.names [] x hfr)
  have hc':=b.cell ok hc
  have hv:=b.free _ hfr rfl
  obtain ⟨m,_,hl⟩:=I.loc
  obtain ⟨u,r,lk⟩:=hl i x v h1 h2 (.inr hv)
  refine ⟨u,r,.inr ⟨?_,c,hc,?_⟩⟩
  ·rcases h3 with q | q
   ·exact absurd (b.own i x h1 (dI q)) h4
   ·exact q
  ·rcases lk with ⟨z,_⟩ | ⟨_,c2,e2,o,ho,hd⟩
   ·have hv':X.env.kindOf x=some .cell∨X.env.kindOf x=some .free:=hv
    rw [z] at hv'
    rcases hv' with q | q <;> cases q
   ·rw [hc'] at e2
    cases e2
    exact ⟨o,hk _ _ ho,hd⟩
 ·obtain ⟨v,o,ho,hd⟩:=I.cell x c (b.cell ok h)
  exact ⟨v,o,hk _ _ ho,hd⟩
 ·rw [uT]; exact I.len
theorem Blk.back (I:Inv X pins σ H s) {fp:List Addr} (hf:∀ a ∈ fp,ic X pins H a) {σ':St}{H':Hp}{s':Shared} (J:Inv (cr X scope s.heap.objs.size fp s H) [] σ' H' s') {h':Heap}
  (hs:Heap.SameBut s.heap.objs.size s'.heap h'):Inv X pins σ H' { s' with heap:=h' }:=by
 have hC:H' s.heap.objs.size=none:=J.free
 refine I.call' (ch:=fp) J.os ?_ ?_ J.bare fun a ha=>⟨(hf a ha).2.2.2.1,(hf a ha).2.1,(hf a ha).2.2.2.2.1,(hf a ha).2.2.2.2.2⟩
 ·have u:Un (frs X.stack) fp H H' s.heap s'.heap:=J.base
  have ne:∀ a o,s.heap.get? a=some o→a ≠ s.heap.objs.size:=fun a o e=>Fh (E6 e)
  exact ⟨fun a o e n h1 h2=>hs.extBut a _ (ne a o e) (u.keep a o e n h1 h2),fun a o e n h1 h2=>(let ⟨sl,q⟩:=u.slot a o e n h1 h2; ⟨sl,hs.extBut a _ (ne a o e) q⟩),u.free,fun a o e h=>(let ⟨o',q⟩:=u.there a o e h; ⟨o',hs.extBut a _ (ne a o e) q⟩),u.tups,u.frzs,u.tbls⟩
 ·intro a o e
  refine (J.hok a o e).stay (fun b u hb q=>hs.extBut b u ?_ q) (fun _ q=>q) fun _ _ q=>q
  rintro rfl
  rcases hb with q | q
  ·rw [q,e] at hC; cases hC
  ·rw [q] at hC; cases hC
end
def v4 (js:List Nat) (wi:TI) (g:TG) (tc:TT) (te:TE):TE:=fun σ H Q=>wi σ H fun J H1=>∀ D,H1 D=none →
 ∃ W:Nat→Nat→St→Hp→Prop,(∃ m,W 0 m (maskS js σ) (upd H1 D (.lst [])))∧∀ i m σ' H',W i m σ' H' →
  (J.stop i H'∧Q (.ref D) H')∨(J.go i H'∧∀ x H2,J.yld i H' x H2→g x σ' H2 fun σ3 H3=>tc σ3 H3 fun c H4 =>
   if c=true then te σ3 H4 fun v H5=>∃ vs,H5 D=some (.lst vs)∧vs.length < sizeLine∧∃ m',m' < m∧W (i + 1) m' σ3 (upd H5 D (.lst (vs ++ [v]))) else ∃ m',m' < m∧W (i + 1) m' σ3 H4)
def vz (X:Cx) (ifs:List Expr) (tc:TT):Prop :=
 ∀ (pins:List (Addr×Obj)) (s:Shared) (σ:St) (H:Hp) (Q:Bool→Hp→Prop),Inv X pins σ H s→tc σ H Q →
  wpAny (model X.prog X.w) X.A (forIn ifs true fun c r=>if r=true then do let ok ← isTrue c X.env (eval c X.env); pure (ForInStep.yield ok) else pure (ForInStep.yield r)) (TP X pins σ Q) X.xe s
def AG:TT:=fun _ H Q=>Q true H
theorem wI {X:Cx}:vz X [] AG:=fun _ _ _ H _ I h=>wpAny_tests_nil ⟨H,I,h⟩
theorem wH {X:Cx}{c:Expr}{tc:TT} (h:PT X c tc):vz X [c] tc:=fun pins s σ H Q I q=>wpAny_tests_one (h pins s σ H Q I q)
theorem nU {prog:Program}{w:World}{A:Around}{R:Result→Shared→Prop}{s:Shared}{elt tg iter:Expr}{ifs:List Expr}{scope:Scope}{pos:Pos}{it acc:Value}{env:Env} (Iv:Nat→Shared→Prop)
  (turn:∀ n s,Iv n s→wpAny (model prog w) A (pyNext it) (fun r s1=>match r with
   | none=>R (.ok .next) s1
   | some v=>wpAny (model prog w) A (letOwnedTupleGo tg it v) (fun _ s2=>wpAny (model prog w) A (assign tg env v) (fun _ s3 =>
     wpAny (model prog w) A (forIn ifs true fun c r=>if r=true then do let ok ← isTrue c env (eval c env); pure (ForInStep.yield ok) else pure (ForInStep.yield r)) (fun ok s4 =>
      if ok=true then wpAny (model prog w) A (eval elt env) (fun x s5=>wpAny (model prog w) A (call (.builtin "list.append") [acc,x]) (fun _ s6=>∃ m,m < n∧Iv m s6) (fun _ _=>False) s5) (fun _ _=>False) s4
      else ∃ m,m < n∧Iv m s4) (fun _ _=>False) s3) (fun _ _=>False) s2) (fun _ _=>False) s1) (fun _ _=>False) s)
  (n:Nat) (h:Iv n s):codeAny (model prog w) A (.compLoop (.ListComp elt [⟨tg,iter,ifs,0⟩] scope pos) 0 it acc env) R s:=by
 refine codeAny_loop rfl Iv (fun k t hI=>?_) n h
 show wpAny _ A ((compTurn (.ListComp elt [⟨tg,iter,ifs,0⟩] scope pos) 0 it acc env).onRaise _) _ _ t
 refine wpAny_noted ?_
 rw [compTurn_list]
 have no:∀ {E:Value→Shared→Prop} (e:Value) (z:Shared),(fun (_:Value) (_:Shared)=>False) e z→E e z:=fun _ _ f=>f.elim
 refine ET (HZ (ET (FG (turn k t hI) (fun r s1 q1=>?_) no)))
 cases r with
 | none=>exact EY q1
 | some v =>
  refine ET (FG q1 (fun _ s2 q2=>?_) no)
  refine ET (FG q2 (fun _ s3 q3=>?_) no)
  refine ET (FG q3 (fun ok s4 q4=>?_) no)
  cases ok with
  | false=>exact EY ⟨rfl,by simpa using q4⟩
  | true =>
   have q4':=q4
   simp only [if_true] at q4'
   refine ET (ET (FG q4' (fun x s5 q5=>?_) no))
   exact ET (FG q5 (fun _ s6 q6=>EY (EY ⟨rfl,q6⟩)) no)
section
variable {X:Cx}{scope:Scope}{js:List Nat}{elt tg iter:Expr}{ifs:List Expr}{pos:Pos}{wi:TI}{g:TG}{tc:TT}{te:TE}
theorem tQ (b:Blk X scope js) (hc:X.calm=true) {pins:List (Addr×Obj)} {σ:St}{H2:Hp}{s2:Shared}{Q:VK}{it:Addr}{fp:List Addr}{tn:Nat→Heap→Prop}{J:It}
  (I2:Inv X pins σ H2 s2) (T:oa X.prog X.w X.K tg J fp it tn) (st:tn 0 s2.heap) (hf:∀ a ∈ fp,ic X pins H2 a)
  (hg:∀ C fp s0 H0,PG (cr X scope C fp s0 H0) tg g) (hi:∀ C fp s0 H0,vz (cr X scope C fp s0 H0) ifs tc) (he:∀ C fp s0 H0,PE (cr X scope C fp s0 H0) elt te)
  (hq:∀ D,H2 D=none→∃ W:Nat→Nat→St→Hp→Prop,(∃ m,W 0 m (maskS js σ) (upd H2 D (.lst [])))∧∀ i m σ' H',W i m σ' H' →
   (J.stop i H'∧Q (.ref D) H')∨(J.go i H'∧∀ x H3,J.yld i H' x H3→g x σ' H3 fun σ3 H3=>tc σ3 H3 fun c H4 =>
    if c=true then te σ3 H4 fun v H5=>∃ vs,H5 D=some (.lst vs)∧vs.length < sizeLine∧∃ m',m' < m∧W (i + 1) m' σ3 (upd H5 D (.lst (vs ++ [v]))) else ∃ m',m' < m∧W (i + 1) m' σ3 H4))
  {E:Value→Shared→Prop}{RR:Value→Addr→Result→Shared→Prop}
  (hR:∀ (D C:Addr) (s3:Shared) (H3:Hp) (σ':St) (H':Hp) (s':Shared),C=s3.heap.objs.size→Inv X pins σ H3 s3→(∀ a ∈ fp,ic X pins H3 a)→Inv (cr X scope C fp s3 H3) [] σ' H' s'→Q (.ref D) H'→RR (.ref D) C (.ok .next) s') :
  wpAny (model X.prog X.w) X.A (newList []) (fun acc s3=>wpAny (model X.prog X.w) X.A (newFunctionEnv scope X.env.globals (gT X.env scope.names []) [] X.env.qual none .none (some X.env)) (fun cenv s4 =>
   codeAny (model X.prog X.w) X.A (.compStart (.ListComp elt [⟨tg,iter,ifs,0⟩] scope pos) 0 (.ref it) acc { cenv with scope:=relabel scope X.env }) (RR acc cenv.locals) s4) E s3) E s2:=by
 refine FI ?_
 have hD:H2 s2.heap.objs.size=none:=I2.hok.fresh (E9 _)
 have I3:=I2.lnew (ys:=[]) (its:=[]) (t':=s2.toks) .nil (FV _)
 obtain ⟨W,⟨m0,w0⟩,turn⟩:=hq _ hD
 have fpLt:∀ a ∈ fp,a < s2.heap.objs.size:=fun a ha=>by
  obtain ⟨o,e,_⟩:=T.obj _ _ st a ha
  exact E6 e
 generalize hs3:({ s2 with heap:=s2.heap.push { cls:=.type "list",dict:=none,data:=.seq ([]:List Value).toArray } }:Shared)=s3
 have I3':Inv X pins σ (upd H2 s2.heap.objs.size (.lst [])) s3:=by rw [← hs3]; exact I3
 have st3:tn 0 s3.heap:=T.keep _ _ _ st fun a _ o e=>by rw [← hs3]; exact EU _ e
 have sz3:s3.heap.objs.size=s2.heap.objs.size + 1:=by rw [← hs3]; exact FF ..
 have hf3:∀ a ∈ fp,ic X pins (upd H2 s2.heap.objs.size (.lst [])) a:=fun a ha=>⟨by rw [aj (Fh (fpLt a ha))]; exact (hf a ha).1,(hf a ha).2⟩
 refine wpAny_newFunctionEnv b.nocell (by intro y hy; simp at hy) (fun h₁ hns hsb=>?_) b.kind
 have keep:∀ a o,s3.heap.get? a=some o→h₁.get? a=some o:=fun a o e=>hsb.extBut a o (Fh (E6 e)) (EU _ e)
 have J0:=b.start I3' hf3 (tk:=s3.toks + ([]:List (Str×Value)).length) (by simpa using hns) keep fun a ha=>by rw [sz3]; exact Gq (fpLt a ha)
 have st4:tn 0 h₁:=T.keep _ _ _ st3 fun a _ o e=>keep a o e
 have loop:∀ s4:Shared,s4={ s3 with heap:=h₁,toks:=s3.toks + ([]:List (Str×Value)).length }→codeAny (model X.prog X.w) X.A (.compLoop (.ListComp elt [⟨tg,iter,ifs,0⟩] scope pos) 0 (.ref it) (.ref s2.heap.objs.size) (compEnvC scope (gT X.env scope.names []) s3.heap.objs.size X.env))
   (RR (.ref s2.heap.objs.size) s3.heap.objs.size) s4:=by
  rintro s4 rfl
  refine nU (fun n t=>∃ i σ' H',Inv (cr X scope s3.heap.objs.size fp s3 (upd H2 s2.heap.objs.size (.lst []))) [] σ' H' t∧tn i t.heap∧(∀ a ∈ fp,H' a=none)∧W i n σ' H') ?_ m0 ⟨0,_,_,J0,st4,fun a ha=>(hf3 a ha).1,w0⟩
  rintro n t ⟨i,σ',H',J1,st',fr,w'⟩
  have stat:∀ {H':Hp},(∀ a ∈ fp,H' a=none)→∀ a ∈ fp,ic (cr X scope s3.heap.objs.size fp s3 (upd H2 s2.heap.objs.size (.lst []))) [] H' a:=fun hn a ha =>
   ⟨hn a ha,Fh (by rw [sz3]; exact Gq (fpLt a ha)),fun hx=>(by
    rcases List.mem_cons.mp (I2.stkSub a hx) with q | q
    ·exact (hf a ha).2.1 q
    ·exact (hf a ha).2.2.1 q),.inl ha,fun x c h=>(hf a ha).2.2.2.2.1 x c (b.cell I2.ok h),fun p hp=>absurd hp (by simp [cr])⟩
  rcases turn i n σ' H' w' with ⟨stop,qn⟩ | ⟨go,step⟩
  ·refine thn (T.done (cr X scope s3.heap.objs.size fp s3 (upd H2 s2.heap.objs.size (.lst []))) rfl rfl rfl hc i [] t σ' H' _ J1 (stat fr) st' stop) fun r t1 zz61_0=>?_
   obtain ⟨hr,J2⟩:=zz61_0
   subst hr
   exact hR _ _ s3 _ σ' H' t1 rfl I3' hf3 J2 qn
  ·refine thn (T.item (cr X scope s3.heap.objs.size fp s3 (upd H2 s2.heap.objs.size (.lst []))) rfl rfl rfl hc i [] t σ' H' _ J1 (stat fr) st' go) fun r t1 zz62_0=>?_
   obtain ⟨u,hr,q1⟩:=zz62_0
   subst hr
   refine thn q1 fun _ t2 zz63_0=>?_
   obtain ⟨x,H3,J3,r3,y3,st3',fr3⟩:=zz63_0
   have J3':=J3.pinned (stat fr3) (T.obj _ _ st3')
   have again:∀ {σ7:St}{H7:Hp}{t7:Shared},Inv (cr X scope s3.heap.objs.size fp s3 (upd H2 s2.heap.objs.size (.lst []))) ([] ++ kf fp t2.heap) σ7 H7 t7→(∃ m',m' < n∧W (i + 1) m' σ7 H7) →
     ∃ m,m < n∧∃ i σ' H',Inv (cr X scope s3.heap.objs.size fp s3 (upd H2 s2.heap.objs.size (.lst []))) [] σ' H' t7∧tn i t7.heap∧(∀ a ∈ fp,H' a=none)∧W i m σ' H':=fun {σ7 H7 t7} J7 w7=>by
    obtain ⟨m',hm,w7⟩:=w7
    refine ⟨m',hm,i + 1,σ7,H7,J7.unpinned,T.keep _ _ _ st3' fun a ha o e=>(J7.pin (a,o) (Fq _ (Fq _ (fE ha e)))).1,fun a ha=>?_,w7⟩
    obtain ⟨o,e,_⟩:=T.obj _ _ st3' a ha
    exact (J7.pin (a,o) (Fq _ (Fq _ (fE ha e)))).2.1
   refine thn (hg _ _ _ _ _ t2 σ' H3 x u _ J3' r3 (step x H3 y3)) fun _ t3 zz64_0=>?_
   obtain ⟨σ4,H4,J4,q4⟩:=zz64_0
   refine thn (hi _ _ _ _ _ t3 σ4 H4 _ J4 q4) fun ok t4 zz65_0=>?_
   obtain ⟨H5,J5,q5⟩:=zz65_0
   cases ok with
   | false=>exact again J5 (by simpa using q5)
   | true =>
    simp only [if_true] at q5 ⊢
    refine thn (he _ _ _ _ _ t4 σ4 H5 _ J5 q5) fun y t5 zz66_0=>?_
    obtain ⟨v,H6,J6,r6,vs,hl,hz,q6⟩:=zz66_0
    refine thn (iT _ t5 σ4 H6 (.ref s2.heap.objs.size) [v] (.ref s2.heap.objs.size) [y] (fun _ H7=>∃ m',m' < n∧W (i + 1) m' σ4 H7) J6 rfl (.cons r6 .nil) ⟨_,vs,v,rfl,rfl,hl,hz,q6⟩) fun _ t6 zz67_0=>?_
    obtain ⟨_,H7,J7,_,q7⟩:=zz67_0
    exact again J7 q7
 refine codeAny_compStart_list (loop _ rfl) (T.self _ 0 _ _ _ st4 (loop _ rfl))
theorem zw (b:Blk X scope js) (hc:X.calm=true) (hI:PI X tg iter wi)
  (hg:∀ C fp s0 H0,PG (cr X scope C fp s0 H0) tg g) (hi:∀ C fp s0 H0,vz (cr X scope C fp s0 H0) ifs tc) (he:∀ C fp s0 H0,PE (cr X scope C fp s0 H0) elt te)
  (hs:∀ x,foldedSetIterable iter X.env x=pure x:=by intro _; rfl):PE X (.ListComp elt [⟨tg,iter,ifs,0⟩] scope pos) (v4 js wi g tc te):=by
 intro pins s σ H Q I h
 rw [eval_ListComp]
 refine wpAny_comprehension_free (use:=none) rfl hs (tN (b.has I.ok)) b.kind b.names (thn (hI pins s σ H _ I h) fun v s1 q1=>thn q1 fun itv s2 q2=>?_)
 obtain ⟨it,fp,tn,J,H2,rfl,I2,T,st,hf,hq⟩:=q2
 refine tQ b hc I2 T st hf hg hi he hq fun D C s3 H3 σ' H' s' hC I3 hf3 J3 q3=>?_
 subst hC
 obtain ⟨m,hn,_⟩:=J3.loc
 exact ⟨m,hn,fun h' hs'=>⟨.ref D,H',Blk.back I3 hf3 J3 hs',rfl,q3⟩⟩
theorem zg {i:Nat}{x:Str}{px:Pos}{spos:Pos} (hN:X.N.Nodup) (hix:X.N[i]? = some x) (hx:Loc X.env.scope x) (b:Blk X scope js) (hc:X.calm=true) (hI:PI X tg iter wi)
  (hg:∀ C fp s0 H0,PG (cr X scope C fp s0 H0) tg g) (hi:∀ C fp s0 H0,vz (cr X scope C fp s0 H0) ifs tc) (he:∀ C fp s0 H0,PE (cr X scope C fp s0 H0) elt te)
  (hsw:swapsWith (.ListComp elt [⟨tg,iter,ifs,0⟩] scope pos) (some (.Name x px)) spos.line X.env=pure true)
  (hfn:X.fn x=true∨X.env.scope.names.lookup x=some .local:=by first | exact .inl rfl | exact .inr rfl | assumption) (hs:∀ x,foldedSetIterable iter X.env x=pure x:=by intro _; rfl) :
  PS X (.Assign [.Name x px] (.ListComp elt [⟨tg,iter,ifs,0⟩] scope pos) spos) (yS (v4 js wi g tc te) (mr i)):=by
 intro pins s σ H D I h
 rw [exec_Assign_Name_used _ _ _ _ hsw]
 refine ET (HZ (ET ?_))
 show wpAny _ _ (do let _ ← comprehension (.ListComp elt [⟨tg,iter,ifs,0⟩] scope pos) scope X.env _ (newList []) false (eval iter X.env) (some (assign (.Name x px) X.env))) _ _ s
 refine ET (FG (wpAny_comprehension_free (use:=some (assign (.Name x px) X.env)) (Q:=fun _ s'=>SP X pins D .next s') rfl hs (tN (b.has I.ok)) b.kind b.names
  (thn (hI pins s σ H _ I h) fun v s1 q1=>thn q1 fun itv s2 q2=>?_)) (fun _ s' q=>EY (EY q)) fun _ _ e=>e)
 obtain ⟨it,fp,tn,J,H2,rfl,I2,T,st,hf,hq⟩:=q2
 refine tQ (Q:=fun y H1=>mr i y σ H1 D.nx) b hc I2 T st hf hg hi he hq fun A C s3 H3 σ' H' s' hC I3 hf3 J3 q3=>?_
 subst hC
 obtain ⟨m,hn,_⟩:=J3.loc
 obtain ⟨oC,es,ep,hoC,hdC,hrC⟩:=id hn
 have hJf:H' s3.heap.objs.size=none:=J3.free
 have I4:Inv X pins σ H' s':=Blk.back I3 hf3 J3 (Heap.SameBut.refl _ _)
 have neL:s3.heap.objs.size ≠ X.env.locals:=Hd I3.lt
 have nfs:s3.heap.objs.size ∉ X.fs:=I3.nofs (E9 _)
 have ncell:∀ y c,X.env.cells.lookup y=some c→c ≠ s3.heap.objs.size:=fun y c e z=>by
  obtain ⟨v,o,ho,_⟩:=I3.cell y c e
  rw [z] at ho
  exact absurd (E6 ho) (Gr _)
 have npin:∀ p ∈ X.pn ++ pins,p.1 ≠ s3.heap.objs.size:=fun p hp z=>by
  have ho:=(I3.pin p hp).1
  rw [z] at ho
  exact absurd (E6 ho) (Gr _)
 have I5:Inv X (pins ++ [(s3.heap.objs.size,oC)]) σ H' s':=I4.pins_of fun p hp=>(List.mem_append.mp hp).elim (fun z=>I4.pin p (Fq _ z)) fun z=>by
  have e:p=(s3.heap.objs.size,oC):=by simpa using z
  subst e
  exact ⟨hoC,hJf,neL,nfs,fun v z=>by rw [hdC] at z; cases z⟩
 show wpAny _ _ (assign (.Name x px) X.env (.ref A)) _ _ s'
 refine wpAny_assign_Name (fW (i:=i) (v:=.ref A) I5 hN hix hx rfl (fun s5 I6=>?_) hfn)
 obtain ⟨p1,p2,_⟩:=I6.pin (s3.heap.objs.size,oC) (Fq _ (Fq _ (by simp)))
 refine ⟨m,⟨oC,es,ep,p1,hdC,hrC⟩,fun h' hs'=>?_⟩
 have I7:Inv X pins (σ.set i (some (.ref A))) H' { s5 with heap:=h',toks:=s5.toks }:=Inv.turned (it:=s3.heap.objs.size) I6.unpinned (fun a o ha e=>hs'.extBut a o ha e) p2 neL (.inr (Fa I3.sz (E9 _))) ncell npin
 exact ⟨_,H',I7,q3⟩
end
end L2
namespace L2.Cu
open PySem PySem.Spec PyProof.Rows
inductive D where
 | non | bl (b:Bool) | int (i:Int) | str (x:Str) | tup (xs:List D) | lst (xs:List D) | dic (kvs:List (Key×D)) | scr (ns:List Int)
mutual
inductive Rep (F:Hp):V→D→Prop
 | non:Rep F .non .non
 | bl (b:Bool):Rep F (.bl b) (.bl b)
 | int (i:Int):Rep F (.int i) (.int i)
 | str (x:Str):Rep F (.str x) (.str x)
 | tup {a:Addr}{vs:List V}{ds:List D}:F a=some (.tup vs)→Reps F vs ds→Rep F (.ref a) (.tup ds)
 | lst {a:Addr}{vs:List V}{ds:List D}:F a=some (.lst vs)→Reps F vs ds→Rep F (.ref a) (.lst ds)
 | dic {a:Addr}{ob:Obj}{vs:List (Key×V)} {ds:List (Key×D)}:F a=some (.frz ob (.dK vs))→RepK F vs ds→Rep F (.ref a) (.dic ds)
 | scr {a:Addr}{o:Obj}{ns:List Int}:F a=some (.frz o (.lst (ns.map V.int)))→Rep F (.ref a) (.scr ns)
inductive Reps (F:Hp):List V→List D→Prop
 | nil:Reps F [] []
 | cons {v:V}{d:D}{vs:List V}{ds:List D}:Rep F v d→Reps F vs ds→Reps F (v :: vs) (d :: ds)
inductive RepK (F:Hp):List (Key×V)→List (Key×D)→Prop
 | nil:RepK F [] []
 | cons {k:Key}{v:V}{d:D}{vs:List (Key×V)} {ds:List (Key×D)}:Rep F v d→RepK F vs ds→RepK F ((k,v) :: vs) ((k,d) :: ds)
end
section
variable {F F':Hp}
mutual
theorem Rep.mono (h:∀ a o,F a=some o→F' a=some o):∀ {v:V}{d:D},Rep F v d→Rep F' v d
 := fun r=>by
  cases r with
  | non=>exact .non
  | bl b=>exact .bl b
  | int i=>exact .int i
  | str x=>exact .str x
  | tup e r=>exact .tup (h _ _ e) (Reps.mono h r)
  | lst e r=>exact .lst (h _ _ e) (Reps.mono h r)
  | dic e r=>exact .dic (h _ _ e) (RepK.mono h r)
  | scr e=>exact .scr (h _ _ e)
theorem Reps.mono (h:∀ a o,F a=some o→F' a=some o):∀ {vs:List V}{ds:List D},Reps F vs ds→Reps F' vs ds:=fun r=>by
 cases r with
 | nil=>exact .nil
 | cons r t=>exact .cons (Rep.mono h r) (Reps.mono h t)
theorem RepK.mono (h:∀ a o,F a=some o→F' a=some o):∀ {vs:List (Key×V)} {ds:List (Key×D)},RepK F vs ds→RepK F' vs ds
 := fun r=>by
  cases r with
  | nil=>exact .nil
  | cons r t=>exact .cons (Rep.mono h r) (RepK.mono h t)
end
theorem Reps.c1 {vs:List V}{d:D}{ds:List D} (r:Reps F vs (d :: ds)):∃ v ws,vs=v :: ws∧Rep F v d∧Reps F ws ds:=by
 cases r with
 | cons a b=>exact ⟨_,_,rfl,a,b⟩
theorem Reps.c0 {vs:List V} (r:Reps F vs []):vs=[]:=by
 cases r
 rfl
theorem Reps.length:∀ {vs:List V}{ds:List D},Reps F vs ds→vs.length=ds.length:=fun r=>by
 cases r with
 | nil=>rfl
 | cons _ t=>exact FZ Nat.succ (Reps.length t)
theorem Reps.append:∀ {vs ws:List V}{ds es:List D},Reps F vs ds→Reps F ws es→Reps F (vs ++ ws) (ds ++ es)
 := fun r s=>by
  cases r with
  | nil=>exact s
  | cons r t=>exact .cons r (Reps.append t s)
theorem Reps.get:∀ {vs:List V}{ds:List D}{i:Nat}{d:D},Reps F vs ds→ds[i]? = some d→∃ v,vs[i]? = some v∧Rep F v d
 := fun {vs ds i d} r e=>by
  cases r with
  | nil=>cases e
  | cons r t =>
   cases i with
   | zero=>cases e; exact ⟨_,rfl,r⟩
   | succ i=>exact Reps.get (i:=i) t e
theorem Reps.drop:∀ {vs:List V}{ds:List D} (n:Nat),Reps F vs ds→Reps F (vs.drop n) (ds.drop n)
 := fun n r=>by
  cases n with
  | zero=>exact r
  | succ n =>
   cases r with
   | nil=>exact .nil
   | cons _ t=>exact Reps.drop n t
theorem Reps.take:∀ {vs:List V}{ds:List D} (n:Nat),Reps F vs ds→Reps F (vs.take n) (ds.take n)
 := fun n r=>by
  cases n with
  | zero=>exact .nil
  | succ n =>
   cases r with
   | nil=>exact .nil
   | cons r t=>exact .cons r (Reps.take n t)
theorem Reps.reverse {vs:List V}{ds:List D} (h:Reps F vs ds):Reps F vs.reverse ds.reverse:=by
 induction vs generalizing ds with
 | nil=>cases h; exact .nil
 | cons v vs ih =>
  cases h with
  | cons r t=>rw [Hl,Hl]; exact (ih t).append (.cons r .nil)
theorem Reps.ints:∀ (ns:List Int),Reps F (ns.map V.int) (ns.map D.int)
 | []=>.nil
 | n :: ns=>.cons (.int n) (Reps.ints ns)
theorem Reps.bls:∀ {vs:List V}{bs:List Bool},Reps F vs (bs.map D.bl)→vs=bs.map V.bl
 := fun {vs bs} r=>by
  cases bs with
  | nil=>cases r; rfl
  | cons b bs =>
   cases r with
   | cons r t=>cases r; rw [Reps.bls t]; rfl
end
inductive FS where
 | v (d:D) | l (d:D)
structure OSt where
 C:Addr
 ia:Option Addr
 fs:List (Str×FS)
inductive Sl where
 | no | val (d:D) | own (d:D) | obj (s:OSt) | rob (s:OSt)
abbrev DE:=List Sl
def fT (F:Hp):HO→D→Prop
 | .lst vs,.lst ds=>Reps F vs ds
 | .dK vs,.dic ds=>RepK F vs ds
 | _,_=>False
theorem fT.mono {F F':Hp} (h:∀ a o,F a=some o→F' a=some o) {o:HO}{d:D} (r:fT F o d):fT F' o d:=by
 cases o <;> cases d <;> first | exact Reps.mono h r | exact RepK.mono h r | exact r
def fzO (ob:Obj):HO→HO
 | .dK vs=>.frz ob (.dK vs)
 | o=>o
theorem fT.rep {F:Hp}{a:Addr}{ob:Obj}{o:HO}{d:D} (r:fT F o d) (h:F a=some (fzO ob o)):Rep F (.ref a) d:=by
 cases o <;> cases d <;> first | exact .lst h r | exact .dic h r | exact False.elim r
theorem A5 {H:Hp}{a:Addr}{o:HO} (h:H a=some o):upd H a o=H:=by
 funext b
 by_cases hb:b=a
 ·subst hb; rw [aw,h]
 ·rw [aj hb]
theorem xE {X:Cx}{pins:List (Addr×Obj)} {σ:St}{H:Hp}{s:Shared}{a:Addr}{o:HO} (I:Inv X pins σ H s) (e:H a=some o):∃ ob,Inv X pins σ (upd H a (fzO ob o)) s:=by
 cases o with
 | dK vs =>
  have z:=I.hok a _ e
  obtain ⟨h1,h2,us,h3,h4⟩:=id z
  obtain ⟨ob,es,ep,h5,h6⟩:=id h4
  exact ⟨ob,I.write (t':=s.toks) (x:=a) (e:=a) (h':=s.heap) (by rw [e]; exact trivial) (.inl rfl) (fun _ _ _ q=>q) ⟨ob,h5⟩ ⟨h5,h1,h2,us,h3,h4⟩⟩
 | _=>exact ⟨default,by
   unfold fzO
   rw [A5 e]; exact I⟩
inductive gz (F H:Hp):List (Str×V)→List (Str×FS)→List Addr→Prop
 | nil:gz F H [] [] []
 | val {f:Str}{v:V}{d:D}{vs:List (Str×V)} {xs:List (Str×FS)} {ps:List Addr}:Rep F v d→gz F H vs xs ps→gz F H ((f,v) :: vs) ((f,.v d) :: xs) ps
 | own {f:Str}{p:Addr}{o:HO}{d:D}{vs:List (Str×V)} {xs:List (Str×FS)} {ps:List Addr}:H p=some o→fT F o d→gz F H vs xs ps→gz F H ((f,.ref p) :: vs) ((f,.l d) :: xs) (p :: ps)
def la (F H:Hp) (s:OSt) (fp:List Addr):Prop:=∃ a ps dx fs,fp=a :: ps∧(∀ b,s.ia=some b→a=b)∧H a=some (.ins s.C dx fs)∧gz F H fs s.fs ps
theorem gz.move {F H F' H':Hp} (hf:∀ a o,F a=some o→F' a=some o):∀ {vs:List (Str×V)} {xs:List (Str×FS)} {ps:List Addr},gz F H vs xs ps→(∀ p ∈ ps,∀ o,H p=some o→H' p=some o)→gz F' H' vs xs ps
 := fun r=>by
  induction r with
  | nil=>exact fun _=>.nil
  | val r t ih=>exact fun h=>.val (Rep.mono hf r) (ih h)
  | own e r t ih=>exact fun h=>.own (h _ Fd _ e) (r.mono hf) (ih fun q hq=>h q (E7 _ hq))
theorem gz.dom {F H:Hp}:∀ {vs:List (Str×V)} {xs:List (Str×FS)} {ps:List Addr},gz F H vs xs ps→∀ p ∈ ps,H p ≠ none
 := fun r=>by
  induction r with
  | nil=>exact fun p h=>nomatch h
  | val r t ih=>exact ih
  | own e r t ih=>exact fun p h=>(List.mem_cons.mp h).elim (fun z q=>by rw [z,e] at q; cases q) (ih p)
theorem la.move {F H F' H':Hp}{s:OSt}{fp:List Addr} (hf:∀ a o,F a=some o→F' a=some o) (h:∀ p ∈ fp,∀ o,H p=some o→H' p=some o) (r:la F H s fp):la F' H' s fp:=by
 obtain ⟨a,ps,dx,fs,rfl,h0,h1,h2⟩:=r
 exact ⟨a,ps,dx,fs,rfl,h0,h a Fd _ h1,h2.move hf fun p hp=>h p (E7 _ hp)⟩
theorem la.dom {F H:Hp}{s:OSt}{fp:List Addr} (r:la F H s fp):∀ p ∈ fp,H p ≠ none:=by
 obtain ⟨a,ps,dx,fs,rfl,h0,h1,h2⟩:=r
 intro p hp
 rcases List.mem_cons.mp hp with z | z
 ·rw [z,h1]; simp
 ·exact h2.dom p z
structure Ext (F H F' H':Hp):Prop where
 same:∀ a o,H a=some o→H' a=some o
 fr:∀ a o,F a=some o→F' a=some o
 sub:∀ a o,F' a=some o→H' a=some o
 new:∀ a,F a=none→H a ≠ none→F' a=none
theorem Ext.refl {F H:Hp} (h:∀ a o,F a=some o→H a=some o):Ext F H F H:=⟨fun _ _ e=>e,fun _ _ e=>e,h,fun _ e _=>e⟩
theorem Ext.trans {F H F1 H1 F2 H2:Hp} (a:Ext F H F1 H1) (b:Ext F1 H1 F2 H2):Ext F H F2 H2 :=
 ⟨fun c o e=>b.same c o (a.same c o e),fun c o e=>b.fr c o (a.fr c o e),b.sub,fun c e n=>b.new c (a.new c e n) fun z=>n (by
  cases q:H c with
  | none=>rfl
  | some o=>rw [a.same c o q] at z; cases z)⟩
theorem Ext.freeze {F H:Hp}{p:Addr}{o:HO} (h:∀ a o,F a=some o→H a=some o) (hp:H p=none):Ext F H (upd F p o) (upd H p o) where
 same:=fun a u e=>by rw [aj (bT e hp)]; exact e
 fr:=fun a u e=>by rw [aj (bT (h a u e) hp)]; exact e
 sub:=fun a u e=>by
  by_cases ha:a=p
  ·subst ha; rw [aw] at e ⊢; exact e
  ·rw [aj ha] at e ⊢; exact h a u e
 new:=fun a e n=>by
  have ha:a ≠ p:=fun z=>n (by rw [z]; exact hp)
  rw [aj ha]; exact e
theorem Ext.lay {F H:Hp}{p:Addr}{o:HO} (h:∀ a o,F a=some o→H a=some o) (hp:H p=none):Ext F H F (upd H p o) where
 same:=fun a u e=>by rw [aj (bT e hp)]; exact e
 fr:=fun _ _ e=>e
 sub:=fun a u e=>by rw [aj (bT (h a u e) hp)]; exact h a u e
 new:=fun _ e _=>e
theorem Ext.nofree {F H F' H':Hp} (x:Ext F H F' H') {p:Addr} (h:H' p=none):H p=none:=by
 cases q:H p with
 | none=>rfl
 | some o=>rw [x.same p o q] at h; cases h
theorem nofr {F H:Hp} (h:∀ a o,F a=some o→H a=some o) {p:Addr} (hp:H p=none):F p=none:=by
 cases q:F p with
 | none=>rfl
 | some o=>rw [h p o q] at hp; cases hp
structure OkF (fp:Nat→List Addr) (B:Hp×Hp) (F H:Hp) (σ:St) (E:DE):Prop where
 at_:∀ (i:Nat) s,E[i]? = some (.obj s)→(∃ a,(fp i).head? = some a∧σ[i]? = some (some (.ref a)))∧la F H s (fp i)∧(fp i).Nodup∧∀ x ∈ fp i,F x=none∧B.2 x=none
 sep:∀ (i j:Nat) s d b,E[i]? = some (.obj s)→E[j]? = some (.own d)→σ[j]? = some (some (.ref b))→b ∉ fp i
 two:∀ (i j:Nat) s t,i ≠ j→E[i]? = some (.obj s)→E[j]? = some (.obj t)→∀ x ∈ fp i,x ∉ fp j
 rob:∀ (i:Nat) s,E[i]? = some (.rob s)→(∃ a ps,σ[i]? = some (some (.ref a))∧la F F s (a :: ps))∨(s.fs=[]∧∃ a,s.ia=some a∧σ[i]? = some (some (.ref a)))
def Eb (B:Hp×Hp) (F H:Hp) (σ:St) (E:DE):Prop:=∃ fp,OkF fp B F H σ E
theorem OkF.to {fp:Nat→List Addr}{B B':Hp×Hp}{F H F' H':Hp} {σ σ':St}{E E':DE} (k:OkF fp B F H σ E) (hf:∀ a o,F a=some o→F' a=some o) (ho:∀ (i:Nat) s,E'[i]? = some (.obj s)→E[i]? = some (.obj s)∧σ'[i]? = σ[i]?)
  (hr:∀ (i:Nat) s,E'[i]? = some (.rob s)→E[i]? = some (.rob s)∧σ'[i]? = σ[i]?)
  (hp:∀ (i:Nat) s,E'[i]? = some (.obj s)→∀ x ∈ fp i,(∀ o,H x=some o→H' x=some o)∧F' x=none∧B'.2 x=none)
  (hs:∀ (i j:Nat) s d b,E'[i]? = some (.obj s)→E'[j]? = some (.own d)→σ'[j]? = some (some (.ref b))→b ∉ fp i):OkF fp B' F' H' σ' E' where
 at_:=fun i s h=>by
  obtain ⟨h1,h2⟩:=ho i s h
  obtain ⟨a1,a2,a3,a4⟩:=k.at_ i s h1
  exact ⟨by rw [h2]; exact a1,a2.move hf fun p hpp=>(hp i s h p hpp).1,a3,fun x hx=>(hp i s h x hx).2⟩
 sep:=hs
 two:=fun i j s t hij h1 h2=>k.two i j s t hij (ho i s h1).1 (ho j t h2).1
 rob:=fun i s h=>by
  obtain ⟨h1,h2⟩:=hr i s h
  rcases k.rob i s h1 with ⟨a,ps,q1,q2⟩ | ⟨q0,a,q1,q2⟩
  ·exact .inl ⟨a,ps,by rw [h2]; exact q1,q2.move hf fun p _ o e=>hf p o e⟩
  ·exact .inr ⟨q0,a,q1,by rw [h2]; exact q2⟩
theorem OkF.ext {fp:Nat→List Addr}{B:Hp×Hp}{F H F' H':Hp} {σ:St}{E:DE} (q:OkF fp B F H σ E) (x:Ext F H F' H'):OkF fp B F' H' σ E :=
 q.to x.fr (fun i s h=>⟨h,rfl⟩) (fun i s h=>⟨h,rfl⟩) (fun i s h y hy=>⟨fun o e=>x.same y o e,x.new y ((q.at_ i s h).2.2.2 y hy).1 ((q.at_ i s h).2.1.dom y hy),((q.at_ i s h).2.2.2 y hy).2⟩) q.sep
structure Ok (B:Hp×Hp) (F H:Hp) (σ:St) (E:DE):Prop where
 ent:Ext B.1 B.2 F H
 len:σ.length=E.length
 val:∀ (i:Nat) d,E[i]? = some (.val d)→∃ v,σ[i]? = some (some v)∧Rep F v d
 own:∀ (i:Nat) d,E[i]? = some (.own d)→∃ a o,σ[i]? = some (some (.ref a))∧H a=some o∧F a=none∧B.2 a=none∧fT F o d
 sep:∀ (i j:Nat) d e a,i ≠ j→E[i]? = some (.own d)→E[j]? = some (.own e)→σ[i]? = some (some (.ref a))→σ[j]? ≠ some (some (.ref a))
 ob:Eb B F H σ E
section
variable {B:Hp×Hp}{F H F' H':Hp} {σ:St}{E:DE}
theorem Ok.sub (k:Ok B F H σ E):∀ a o,F a=some o→H a=some o:=k.ent.sub
theorem Ok.ext (k:Ok B F H σ E) (x:Ext F H F' H'):Ok B F' H' σ E :=
 ⟨k.ent.trans x,k.len,fun i d e=>(let ⟨v,h1,h2⟩:=k.val i d e; ⟨v,h1,h2.mono x.fr⟩),
  fun i d e=>(let ⟨a,o,h1,h2,h3,h4,h5⟩:=k.own i d e; ⟨a,o,h1,x.same a o h2,x.new a h3 (by rw [h2]; simp),h4,h5.mono x.fr⟩),k.sep,
  let ⟨fp,q⟩:=k.ob; ⟨fp,q.ext x⟩⟩
theorem Ok.set_val (k:Ok B F H σ E) {v:V}{d:D} (r:Rep F v d) (i:Nat):Ok B F H (σ.set i (some v)) (E.set i (.val d)):=by
 have hl:=k.len
 have nown:∀ (j:Nat) e,(E.set i (.val d))[j]? = some (.own e)→i ≠ j∧E[j]? = some (.own e):=fun j e h=>by
  rw [Fk] at h
  split at h
  ·split at h <;> simp at h
  ·exact ⟨by assumption,h⟩
 refine ⟨k.ent,by rw [FW,FW]; exact hl,fun j e h=>?_,fun j e h=>?_,fun j l d' e' a hjl h1 h2 h3 h4=>?_,?_⟩
 ·rw [Fk] at h
  rw [Fk]
  split at h
  ·subst_vars
   split at h
   ·simp at h; subst h
    rename_i hlt
    exact ⟨v,by simp [hl,hlt],r⟩
   ·simp at h
  ·rename_i hne
   rw [if_neg hne]
   exact k.val j e h
 ·obtain ⟨hne,h⟩:=nown j e h
  rw [E8 hne]
  exact k.own j e h
 ·obtain ⟨n1,h1⟩:=nown j d' h1
  obtain ⟨n2,h2⟩:=nown l e' h2
  rw [E8 n1] at h3
  rw [E8 n2] at h4
  exact k.sep j l d' e' a hjl h1 h2 h3 h4
 ·have bk:∀ (j:Nat) z,(∀ q,z ≠ Sl.val q)→(E.set i (.val d))[j]? = some z→i ≠ j∧E[j]? = some z:=fun j z hz h=>by
   rw [Fk] at h
   split at h
   ·split at h
    ·simp at h; exact absurd h.symm (hz d)
    ·simp at h
   ·exact ⟨by assumption,h⟩
  obtain ⟨fp,q⟩:=k.ob
  exact ⟨fp,q.to (fun _ _ e=>e) (fun j s h=>⟨(bk j _ (by simp) h).2,E8 (bk j _ (by simp) h).1⟩) (fun j s h=>⟨(bk j _ (by simp) h).2,E8 (bk j _ (by simp) h).1⟩)
   (fun j s h x hx=>⟨fun _ e=>e,(q.at_ j s (bk j _ (by simp) h).2).2.2.2 x hx⟩) (fun j l s e b h1 h2 h3=>by
    obtain ⟨n2,h2⟩:=bk l _ (by simp) h2
    rw [E8 n2] at h3
    exact q.sep j l s e b (bk j _ (by simp) h1).2 h2 h3)⟩
theorem Ok.put_own (k:Ok B F H σ E) {a:Addr}{o:HO}{d:D} (i:Nat) (hn:F a=none) (hb:B.2 a=none) (r:fT F o d)
  (hfree:∀ (j:Nat) e,j ≠ i→E[j]? = some (.own e)→σ[j]? ≠ some (some (.ref a))) (hobj:∃ fp,OkF fp B F H σ E∧∀ (j:Nat) s,E[j]? = some (.obj s)→a ∉ fp j):Ok B F (upd H a o) (σ.set i (some (.ref a))) (E.set i (.own d)):=by
 have hl:=k.len
 have oth:∀ (j:Nat) s,i ≠ j→(E.set i (.own d))[j]? = some s→E[j]? = some s:=fun j s hne h=>by rw [E8 hne] at h; exact h
 refine ⟨⟨fun b u e=>?_,k.ent.fr,fun b u e=>?_,k.ent.new⟩,by rw [FW,FW]; exact hl,fun j e h=>?_,fun j e h=>?_,fun j l d' e' b hjl h1 h2 h3 h4=>?_,?_⟩
 ·have:b ≠ a:=fun z=>by rw [z,hb] at e; cases e
  rw [aj this]; exact k.ent.same b u e
 ·have:b ≠ a:=fun z=>by rw [z,hn] at e; cases e
  rw [aj this]; exact k.sub b u e
 ·rw [Fk] at h
  split at h
  ·split at h <;> simp at h
  ·rename_i hne
   rw [E8 hne]
   exact k.val j e h
 ·rw [Fk] at h
  rw [Fk]
  split at h
  ·rename_i hij
   subst hij
   split at h
   ·rename_i hlt
    simp at h; subst h
    exact ⟨a,o,by simp [hl,hlt],aw,hn,hb,r⟩
   ·simp at h
  ·rename_i hne
   rw [if_neg hne]
   obtain ⟨b,u,h1,h2,h3,h4,h5⟩:=k.own j e h
   have nba:b ≠ a:=fun z=>hfree j e (Ne.symm hne) h (by rw [h1,z])
   exact ⟨b,u,h1,by rw [aj nba]; exact h2,h3,h4,h5⟩
 ·have key:∀ (p q:Nat) (dp dq:D),p ≠ q→(E.set i (.own d))[p]? = some (.own dp)→(E.set i (.own d))[q]? = some (.own dq)→(σ.set i (some (.ref a)))[p]? = some (some (.ref b))→(σ.set i (some (.ref a)))[q]? = some (some (.ref b))→i ≠ p→False:=by
   intro p q dp dq hpq g1 g2 g3 g4 hip
   rw [E8 hip] at g3
   have g1':=oth p _ hip g1
   by_cases hiq:i=q
   ·subst hiq
    rw [Fk] at g4
    rw [if_pos rfl] at g4
    split at g4
    ·simp at g4; subst g4
     exact hfree p dp (Ne.symm hip) g1' g3
    ·simp at g4
   ·rw [E8 hiq] at g4
    exact k.sep p q dp dq b hpq g1' (oth q _ hiq g2) g3 g4
  by_cases hij:i=j
  ·exact key l j e' d' (Ne.symm hjl) h2 h1 h4 h3 (fun z=>hjl (by rw [← hij,z]))
  ·exact key j l d' e' hjl h1 h2 h3 h4 hij
 ·have bk:∀ (j:Nat) z,(∀ q,z ≠ Sl.own q)→(E.set i (.own d))[j]? = some z→i ≠ j∧E[j]? = some z:=fun j z hz h=>by
   rw [Fk] at h
   split at h
   ·split at h
    ·simp at h; exact absurd h.symm (hz d)
    ·simp at h
   ·exact ⟨by assumption,h⟩
  obtain ⟨fp,q,hobj⟩:=hobj
  refine ⟨fp,q.to (fun _ _ e=>e) (fun j s h=>⟨(bk j _ (by simp) h).2,E8 (bk j _ (by simp) h).1⟩) (fun j s h=>⟨(bk j _ (by simp) h).2,E8 (bk j _ (by simp) h).1⟩)
   (fun j s h x hx=>⟨fun _ e=>?_,(q.at_ j s (bk j _ (by simp) h).2).2.2.2 x hx⟩) (fun j l s e c h1 h2 h3=>?_)⟩
  ·rw [aj (fun z=>hobj j s (bk j _ (by simp) h).2 (by rw [← z]; exact hx))]; exact e
  ·have h1':=(bk j _ (by simp) h1).2
   by_cases hil:i=l
   ·subst hil
    rw [Fk,if_pos rfl] at h3
    split at h3
    ·simp at h3; subst h3; exact hobj j s h1'
    ·simp at h3
   ·rw [E8 hil] at h2 h3
    exact q.sep j l s e c h1' h2 h3
end
def fzE (i:Nat) (E:DE):DE:=match E[i]? with
 | some (.own d)=>E.set i (.val d)
 | _=>E
theorem Ok.fzG {B:Hp×Hp}{F H:Hp} {σ:St}{E:DE} (k:Ok B F H σ E) {i:Nat}{d:D}{a:Addr}{o':HO} (h:E[i]? = some (.own d)) (h1:σ[i]? = some (some (.ref a))) (h3:F a=none) (h4:B.2 a=none) (hr:Rep (upd F a o') (.ref a) d):Ok B (upd F a o') (upd H a o') σ (E.set i (.val d)):=by
 have up:∀ b u,F b=some u→(upd F a o') b=some u:=fun b u e=>by rw [aj (fun z=>by rw [z,h3] at e; cases e)]; exact e
 have nown:∀ (j:Nat) e,(E.set i (.val d))[j]? = some (.own e)→i ≠ j∧E[j]? = some (.own e):=fun j e q=>by
  rw [Fk] at q
  split at q
  ·split at q <;> simp at q
  ·exact ⟨by assumption,q⟩
 refine ⟨⟨fun b u e=>?_,fun b u e=>up b u (k.ent.fr b u e),fun b u e=>?_,fun b e n=>?_⟩,by rw [FW]; exact k.len,fun j e q=>?_,fun j e q=>?_,fun j l d' e' b hjl g1 g2=>k.sep j l d' e' b hjl (nown j d' g1).2 (nown l e' g2).2,?_⟩
 ·have:b ≠ a:=fun z=>by rw [z,h4] at e; cases e
  rw [aj this]; exact k.ent.same b u e
 ·by_cases hb:b=a
  ·subst hb; rw [aw] at e ⊢; exact e
  ·rw [aj hb] at e ⊢; exact k.sub b u e
 ·have hb:b ≠ a:=fun z=>n (by rw [z]; exact h4)
  rw [aj hb]; exact k.ent.new b e n
 ·rw [Fk] at q
  split at q
  ·rename_i hij
   subst hij
   split at q
   ·simp at q; subst q
    exact ⟨_,h1,hr⟩
   ·simp at q
  ·obtain ⟨v,r1,r2⟩:=k.val j e q
   exact ⟨v,r1,r2.mono up⟩
 ·obtain ⟨hne,q⟩:=nown j e q
  obtain ⟨b,u,r1,r2,r3,r4,r5⟩:=k.own j e q
  have nba:b ≠ a:=fun z=>k.sep j i e d a (Ne.symm hne) q h (by rw [r1,z]) h1
  exact ⟨b,u,r1,by rw [aj nba]; exact r2,by rw [aj nba]; exact r3,r4,r5.mono up⟩
 ·have bk:∀ (j:Nat) z,(∀ q,z ≠ Sl.val q)→(E.set i (.val d))[j]? = some z→i ≠ j∧E[j]? = some z:=fun j z hz h=>by
   rw [Fk] at h
   split at h
   ·split at h
    ·simp at h; exact absurd h.symm (hz d)
    ·simp at h
   ·exact ⟨by assumption,h⟩
  obtain ⟨fp,m⟩:=k.ob
  have nfp:∀ (j:Nat) s,(E.set i (.val d))[j]? = some (.obj s)→∀ x ∈ fp j,x ≠ a:=fun j s q x hx z=>m.sep j i s d a (bk j _ (by simp) q).2 h h1 (by rw [← z]; exact hx)
  refine ⟨fp,m.to up (fun j s q=>⟨(bk j _ (by simp) q).2,rfl⟩) (fun j s q=>⟨(bk j _ (by simp) q).2,rfl⟩) (fun j s q x hx=>⟨fun _ e=>?_,?_,((m.at_ j s (bk j _ (by simp) q).2).2.2.2 x hx).2⟩) (fun j l s e c g1 g2=>m.sep j l s e c (bk j _ (by simp) g1).2 (bk l _ (by simp) g2).2)⟩
  ·rw [aj (nfp j s q x hx)]; exact e
  ·rw [aj (nfp j s q x hx)]
   exact ((m.at_ j s (bk j _ (by simp) q).2).2.2.2 x hx).1
theorem Ok.fz {X:Cx}{pins:List (Addr×Obj)} {s:Shared}{B:Hp×Hp}{F H:Hp} {σ:St}{E:DE} (I:Inv X pins σ H s) (k:Ok B F H σ E) (i:Nat):∃ F' H',Inv X pins σ H' s∧Ok B F' H' σ (fzE i E)∧∀ a o,F a=some o→F' a=some o:=by
 unfold fzE
 cases h:E[i]? with
 | none=>exact ⟨F,H,I,k,fun _ _ e=>e⟩
 | some z =>
  cases z with
  | no=>exact ⟨F,H,I,k,fun _ _ e=>e⟩
  | val d=>exact ⟨F,H,I,k,fun _ _ e=>e⟩
  | obj z=>exact ⟨F,H,I,k,fun _ _ e=>e⟩
  | rob z=>exact ⟨F,H,I,k,fun _ _ e=>e⟩
  | own d =>
   obtain ⟨a,o,h1,h2,h3,h4,h5⟩:=k.own i d h
   obtain ⟨ob,I'⟩:=xE I h2
   have up:∀ b u,F b=some u→(upd F a (fzO ob o)) b=some u:=fun b u e=>by rw [aj (fun z=>by rw [z,h3] at e; cases e)]; exact e
   exact ⟨upd F a (fzO ob o),_,I',k.fzG h h1 h3 h4 ((h5.mono up).rep aw),up⟩
inductive Md where
 | V | O | F
def rM:Md→Hp→Hp→Hp→V→D→Prop
 | .V,_,F,_,v,d=>Rep F v d
 | .O,_,F,H,v,d=>Rep F v d∨∃ a o,v=.ref a∧H a=some o∧fT F o d
 | .F,H0,F,H,v,d=>∃ a o,v=.ref a∧H0 a=none∧H a=some o∧F a=none∧fT F o d
abbrev OB (F H:Hp) (v:V) (d:D):Prop:=Rep F v d∨∃ a o,v=.ref a∧H a=some o∧fT F o d
theorem OB.ext {F H F' H':Hp}{v:V}{d:D} (x:Ext F H F' H') (r:OB F H v d):OB F' H' v d:=by
 rcases r with r | ⟨a,o,h1,h2,h3⟩
 ·exact .inl (r.mono x.fr)
 ·exact .inr ⟨a,o,h1,x.same a o h2,h3.mono x.fr⟩
theorem rM.anti {m:Md}{H0 H1 F H:Hp}{v:V}{d:D} (h:∀ p,H1 p=none→H0 p=none) (r:rM m H1 F H v d):rM m H0 F H v d:=by
 cases m with
 | V=>exact r
 | O=>exact r
 | F=>obtain ⟨a,o,h1,h2,h3,h4,h5⟩:=r; exact ⟨a,o,h1,h a h2,h3,h4,h5⟩
theorem rM.ob {m:Md}{H0 F H:Hp}{v:V}{d:D} (r:rM m H0 F H v d):OB F H v d:=by
 cases m with
 | V=>exact .inl r
 | O=>exact r
 | F=>obtain ⟨a,o,h1,h2,h3,h4,h5⟩:=r; exact .inr ⟨a,o,h1,h3,h5⟩
def tM (m:Md) (f:DE→Option D):TE:=fun σ H Q=>∃ B F E d,Ok B F H σ E∧f E=some d∧∀ v F' H',Ext F H F' H'→rM m H F' H' v d→Q v H'
def tT (f:DE→Option Bool):TT:=fun σ H Q=>∃ B F E b,Ok B F H σ E∧f E=some b∧∀ F' H',Ext F H F' H'→Q b H'
def tL (f:DE→Option (List D)):TA:=fun σ H Q=>∃ B F E ds,Ok B F H σ E∧f E=some ds∧∀ vs F' H',Ext F H F' H'→Reps F' vs ds→Q vs H'
structure Ev (X:Cx) (m:Md) (e:Expr) (f:DE→Option D):Prop where
 h:PE X e (tM m f)
structure Et (X:Cx) (e:Expr) (f:DE→Option Bool):Prop where
 h:PT X e (tT f)
structure Ea (X:Cx) (es:List Expr) (f:DE→Option (List D)):Prop where
 h:PA X es (tL f)
inductive Out where
 | nx (E:DE) | rt (d:D) | bk (E:DE) | ct (E:DE)
abbrev Fr (F F':Hp):Prop:=∀ a o,F a=some o→F' a=some o
def oh (B:Hp×Hp) (F:Hp) (Z:eZ):Out→Prop
 | .nx E=>∀ σ F' H,Ok B F' H σ E→Fr F F'→Z.nx σ H
 | .rt d=>∀ v F' H,Ext B.1 B.2 F' H→Rep F' v d→Z.rt v H
 | .bk E=>∀ σ F' H,Ok B F' H σ E→Fr F F'→Z.bk σ H
 | .ct E=>∀ σ F' H,Ok B F' H σ E→Fr F F'→Z.ct σ H
theorem oh.mono {B:Hp×Hp}{F F1:Hp}{Z:eZ}{r:Out} (h:oh B F Z r) (x:Fr F F1):oh B F1 Z r:=by
 cases r with
 | nx E=>exact fun σ F' H k y=>h σ F' H k fun a o e=>y a o (x a o e)
 | rt d=>exact h
 | bk E=>exact fun σ F' H k y=>h σ F' H k fun a o e=>y a o (x a o e)
 | ct E=>exact fun σ F' H k y=>h σ F' H k fun a o e=>y a o (x a o e)
def tS (f:DE→Option Out):TS:=fun Z σ H=>∃ B F E r,Ok B F H σ E∧f E=some r∧oh B F Z r
structure Es (X:Cx) (st:Stmt) (f:DE→Option Out):Prop where
 h:PS X st (tS f)
structure Ess (X:Cx) (st:List Stmt) (f:DE→Option Out):Prop where
 h:PSs X st (tS f)
section
variable {X:Cx}{e a b c:Expr}{pos:Pos}
theorem PE.by {t:TE}{m:Md}{f:DE→Option D} (h:PE X e t) (w:∀ σ H Q,tM m f σ H Q→t σ H Q):Ev X m e f:=⟨fun pins s σ H Q I q=>h pins s σ H Q I (w σ H Q q)⟩
theorem PT.by {t:TT}{f:DE→Option Bool} (h:PT X e t) (w:∀ σ H Q,tT f σ H Q→t σ H Q):Et X e f:=⟨fun pins s σ H Q I q=>h pins s σ H Q I (w σ H Q q)⟩
theorem PA.by {es:List Expr}{t:TA}{f:DE→Option (List D)} (h:PA X es t) (w:∀ σ H Q,tL f σ H Q→t σ H Q):Ea X es f:=⟨fun pos pins s σ H Q I q=>h pos pins s σ H Q I (w σ H Q q)⟩
theorem PS.by {st:Stmt}{t:TS}{f:DE→Option Out} (h:PS X st t) (w:∀ Z σ H,tS f Z σ H→t Z σ H):Es X st f:=⟨fun pins s σ H Z I q=>h pins s σ H Z I (w Z σ H q)⟩
theorem PSs.by {st:List Stmt}{t:TS}{f:DE→Option Out} (h:PSs X st t) (w:∀ Z σ H,tS f Z σ H→t Z σ H):Ess X st f:=⟨fun pins s σ H Z I q=>h pins s σ H Z I (w Z σ H q)⟩
theorem Ev.frz {f:DE→Option D} (h:Ev X .F e f):Ev X .V e f:=⟨fun pins s σ H Q I zz68_0=>by
 obtain ⟨B,F,E,d,k,q,w⟩:=zz68_0
 refine thn (h.h pins s σ H (fun v H1=>∃ a o,v=.ref a∧H1 a=some o∧∀ ob,Q v (upd H1 a (fzO ob o))) I ⟨B,F,E,d,k,q,fun v F' H' x r=>?_⟩) fun u s1 ⟨x,H1,I1,r1,a,o,e1,e2,q1⟩=>?_
 ·obtain ⟨p,o,h1,h2,h3,h4,h5⟩:=r
  subst h1
  refine ⟨p,o,rfl,h3,fun ob=>?_⟩
  have up:∀ c u,F' c=some u→(upd F' p (fzO ob o)) c=some u:=fun c u z=>by rw [aj (fun y=>by rw [y,h4] at z; cases z)]; exact z
  refine w _ (upd F' p (fzO ob o)) _ ⟨fun c u z=>?_,fun c u z=>up c u (x.fr c u z),fun c u z=>?_,fun c z n=>?_⟩ ((h5.mono up).rep aw)
  ·have hc:c ≠ p:=fun y=>by rw [y,h2] at z; cases z
   rw [aj hc]; exact x.same c u z
  ·by_cases hc:c=p
   ·subst hc; rw [aw] at z ⊢; exact z
   ·rw [aj hc] at z ⊢; exact x.sub c u z
  ·have hc:c ≠ p:=fun y=>n (by rw [y]; exact h2)
   rw [aj hc]; exact x.new c z n
 ·obtain ⟨ob,I2⟩:=xE I1 e2
  exact ⟨x,_,I2,r1,q1 ob⟩⟩
theorem Ev.obs {m:Md}{f:DE→Option D} (h:Ev X m e f):Ev X .O e f:=PE.by h.h fun σ H Q zz70_0=>by obtain ⟨B,F,E,d,k,q,w⟩:=zz70_0; exact ⟨B,F,E,d,k,q,fun v F' H' x r=>w v F' H' x r.ob⟩
def var (i:Nat) (E:DE):Option D:=match E[i]? with
 | some (.val d)=>some d
 | _=>none
def ac (i:Nat) (E:DE):Option D:=match E[i]? with
 | some (.val d)=>some d
 | some (.own d)=>some d
 | _=>none
theorem Co (i:Nat) (h:PE X e (gM i)):Ev X .V e (var i):=PE.by h fun σ H Q zz71_0=>by
 obtain ⟨B,F,E,d,k,q,w⟩:=zz71_0
 unfold var at q
 split at q
 ·rename_i d' hd
  cases q
  obtain ⟨v,h1,h2⟩:=k.val i d hd
  exact ⟨v,h1,w v F H (Ext.refl k.sub) h2⟩
 ·cases q
theorem zZ (i:Nat) (h:PE X e (gM i)):Ev X .O e (ac i):=PE.by h fun σ H Q zz72_0=>by
 obtain ⟨B,F,E,d,k,q,w⟩:=zz72_0
 unfold ac at q
 split at q
 ·rename_i d' hd
  cases q
  obtain ⟨v,h1,h2⟩:=k.val i d hd
  exact ⟨v,h1,w v F H (Ext.refl k.sub) (.inl h2)⟩
 ·rename_i d' hd
  cases q
  obtain ⟨p,o,h1,h2,h3,h4,h5⟩:=k.own i d hd
  exact ⟨_,h1,w _ F H (Ext.refl k.sub) (.inr ⟨p,o,rfl,h2,h5⟩)⟩
 ·cases q
def cst (d:D) (_:DE):Option D:=some d
theorem nQ {v:V}{d:D} (h:PE X e (tC v)) (r:∀ F,Rep F v d):Ev X .V e (cst d):=PE.by h fun σ H Q zz73_0=>by
 obtain ⟨B,F,E,d',k,q,w⟩:=zz73_0
 cases q
 exact w v F H (Ext.refl k.sub) (r F)
theorem am {i:Int}{j pos}:Ev X .V (.Constant (.int i) j pos) (cst (.int i)):=nQ wQ fun _=>.int i
theorem eO {i:Bool}{j pos}:Ev X .V (.Constant (.bool i) j pos) (cst (.bl i)):=nQ DH fun _=>.bl i
theorem kM {j pos}:Ev X .V (.Constant .none j pos) (cst .non):=nQ nk fun _=>.non
theorem nK {i:Str}{j pos}:Ev X .V (.Constant (.str i) j pos) (cst (.str i)):=nQ BJ fun _=>.str i
def eG (m:Md) (r:R2) (o:D→D→Option D):Prop:=∀ (F H:Hp) (v w:V) (x y d:D) (Q:VK),(∀ a u,F a=some u→H a=some u)→OB F H v x→OB F H w y→o x y=some d →
 (∀ u F' H',Ext F H F' H'→rM m H F' H' u d→Q u H')→r v w H Q
def bin (o:D→D→Option D) (f g:DE→Option D) (E:DE):Option D:=(f E).bind fun x=>(g E).bind fun y=>o x y
theorem gr {m:Md}{r:R2}{o:D→D→Option D}{f g:DE→Option D} (hr:eG m r o) (σ:St) (H:Hp) (Q:VK) (h:tM m (bin o f g) σ H Q):tOp r (tM .O f) (tM .O g) σ H Q:=by
 obtain ⟨B,F,E,d,k,q,w⟩:=h
 unfold bin at q
 cases hf:f E with
 | none=>rw [hf] at q; cases q
 | some x =>
  rw [hf] at q
  cases hg:g E with
  | none=>rw [hg] at q; cases q
  | some y =>
   rw [hg] at q
   refine ⟨B,F,E,x,k,hf,fun v F1 H1 x1 r1=>⟨B,F1,E,y,k.ext x1,hg,fun u F2 H2 x2 r2=>?_⟩⟩
   exact hr F2 H2 v u x y d Q x2.sub (OB.ext x2 r1) r2 q fun z F3 H3 x3 r3=>w z F3 H3 ((x1.trans x2).trans x3) (rM.anti (fun p hp=>(x1.trans x2).nofree hp) r3)
theorem iY {m:Md}{op:Operator}{r:R2}{o:D→D→Option D}{f g:DE→Option D} (ho:OpR X (binaryOp op) r) (hr:eG m r o) (ha:Ev X .O a f) (hb:Ev X .O b g):Ev X m (.BinOp a op b pos) (bin o f g) :=
 PE.by (DF ho ha.h hb.h) (gr hr)
theorem xV {op:CmpOp}{r:R2}{o:D→D→Option D}{f g:DE→Option D} (ho:OpR X (compareOp op) r) (hr:eG .V r o) (ha:Ev X .O a f) (hb:Ev X .O b g) (hm:behindInMarks op b=false):Ev X .V (.Compare a [op] [b] pos) (bin o f g) :=
 PE.by (sG ho ha.h hb.h hm) (gr hr)
def asB:D→Option Bool
 | .bl b=>some b
 | _=>none
def tst (f:DE→Option D) (E:DE):Option Bool:=(f E).bind asB
theorem fU {f:DE→Option D} (σ:St) (H:Hp) (Q:Bool→Hp→Prop) (h:tT (tst f) σ H Q):tM .V f σ H fun x H'=>∃ k,x=.bl k∧Q k H':=by
 obtain ⟨B,F,E,b,k,q,w⟩:=h
 unfold tst at q
 cases hf:f E with
 | none=>rw [hf] at q; cases q
 | some x =>
  rw [hf] at q
  refine ⟨B,F,E,x,k,hf,fun v F' H' x1 r1=>?_⟩
  cases x with
  | bl c =>
   cases q
   cases (show Rep F' v (.bl b) from r1)
   exact ⟨b,rfl,w F' H' x1⟩
  | _=>cases q
theorem kN {op:CmpOp}{r:R2}{o:D→D→Option D}{f g:DE→Option D} (ho:OpR X (compareOp op) r) (hr:eG .V r o) (ha:Ev X .O a f) (hb:Ev X .O b g) (hm:behindInMarks op b=false):Et X (.Compare a [op] [b] pos) (tst (bin o f g)) :=
 PT.by (ju ho ha.h hb.h hm) fun σ H Q h=>gr hr σ H _ (fU σ H Q h)
theorem cY {f:DE→Option D} (h:Ev X .V e f) (he:∀ whole,isTrue e X.env whole=(do let v ← whole; standAt e.pos; holding [v] (truthy v)):=by intro _; rfl):Et X e (tst f) :=
 PT.by (BA h.h he) fun σ H Q q=>fU σ H Q q
def cC (f:DE→Option Bool) (E:DE):Option Bool:=(f E).map (!·)
theorem dC {f:DE→Option Bool} (h:Et X a f):Et X (.UnaryOp .Not a pos) (cC f):=PT.by (BB h.h) fun σ H Q zz74_0=>by
 obtain ⟨B,F,E,b,k,q,w⟩:=zz74_0
 unfold cC at q
 cases hf:f E with
 | none=>rw [hf] at q; cases q
 | some c =>
  rw [hf] at q
  cases q
  exact ⟨B,F,E,c,k,hf,w⟩
def D9 (f g:DE→Option Bool) (E:DE):Option Bool:=(f E).bind fun c=>if c=true then g E else some false
def orT (f g:DE→Option Bool) (E:DE):Option Bool:=(f E).bind fun c=>if c=true then some true else g E
structure Ew (X:Cx) (e:Expr) (f:DE→Option Bool):Prop where
 h:PW X e (tT f)
theorem PW.by {t:TT}{f:DE→Option Bool} (h:PW X e t) (w:∀ σ H Q,tT f σ H Q→t σ H Q):Ew X e f:=⟨fun whole pins s σ H Q I q=>h whole pins s σ H Q I (w σ H Q q)⟩
theorem gm {f:DE→Option Bool} (h:Et X a f):Ew X (.BoolOp .Or [a] pos) f:=⟨By h.h⟩
theorem gS {bI:List Expr}{f g:DE→Option Bool} (h:Et X a f) (h2:Ew X (.BoolOp .Or (b :: bI) pos) g):Ew X (.BoolOp .Or (a :: b :: bI) pos) (orT f g):=PW.by (Dz h.h h2.h) fun σ H Q zz75_0=>by
 obtain ⟨B,F,E,d,k,q,w⟩:=zz75_0
 unfold orT at q
 cases hf:f E with
 | none=>rw [hf] at q; cases q
 | some c =>
  rw [hf] at q
  refine ⟨B,F,E,c,k,hf,fun F1 H1 x1=>?_⟩
  cases c with
  | true=>cases q; exact re (w F1 H1 x1)
  | false=>exact rf ⟨B,F1,E,d,k.ext x1,q,fun F2 H2 x2=>w F2 H2 (x1.trans x2)⟩
theorem Ew.et {f:DE→Option Bool} (h:Ew X e f):Et X e f:=⟨h.h _⟩
def gv (f g:DE→Option D) (E:DE):Option D:=(f E).bind fun x=>(asB x).bind fun c=>if c=true then g E else some (.bl false)
def orV (f g:DE→Option D) (E:DE):Option D:=(f E).bind fun x=>(asB x).bind fun c=>if c=true then some (.bl true) else g E
def lr (f:DE→Option D) (E:DE):Option D:=(f E).bind fun x=>(asB x).map fun c=>.bl (!c)
theorem k7 {x:D}{c:Bool} (h:asB x=some c):x=.bl c:=by cases x <;> simp [asB] at h; rw [h]
theorem kL {op}{f:DE→Option D} (h:Ev X .V a f):Ev X .V (.BoolOp op [a] pos) f:=⟨BK h.h⟩
theorem iZ {bI:List Expr}{f g:DE→Option D} (h:Ev X .V a f) (h2:Ev X .V (.BoolOp .And (b :: bI) pos) g):Ev X .V (.BoolOp .And (a :: b :: bI) pos) (gv f g):=PE.by (BN h.h h2.h) fun σ H Q zz76_0=>by
 obtain ⟨B,F,E,d,k,q,w⟩:=zz76_0
 unfold gv at q
 cases hf:f E with
 | none=>rw [hf] at q; cases q
 | some x =>
  rw [hf] at q
  refine ⟨B,F,E,x,k,hf,fun v F1 H1 x1 r1=>?_⟩
  cases hx:asB x with
  | none=>simp [hx] at q
  | some c =>
   have ex:=k7 hx
   subst ex
   simp only [EG,hx] at q
   cases (show Rep F1 v (.bl c) from r1)
   refine ⟨c,rfl,?_⟩
   cases c with
   | false=>cases q; exact rf (w _ F1 H1 x1 (.bl false))
   | true=>exact re ⟨B,F1,E,d,k.ext x1,q,fun u F2 H2 x2 r2=>w u F2 H2 (x1.trans x2) r2⟩
theorem xU {f:DE→Option D} (h:Ev X .V a f):Ev X .V (.UnaryOp .Not a pos) (lr f):=PE.by (L2.BL h.h) fun σ H Q zz77_0=>by
 obtain ⟨B,F,E,d,k,q,w⟩:=zz77_0
 unfold lr at q
 cases hf:f E with
 | none=>rw [hf] at q; cases q
 | some x =>
  rw [hf] at q
  refine ⟨B,F,E,x,k,hf,fun v F1 H1 x1 r1=>?_⟩
  cases hx:asB x with
  | none=>simp [hx] at q
  | some c =>
   have ex:=k7 hx
   subst ex
   simp only [EG,hx,EI] at q
   cases q
   cases (show Rep F1 v (.bl c) from r1)
   exact ⟨c,rfl,w _ F1 H1 x1 (.bl _)⟩
def ifV (c:DE→Option Bool) (f g:DE→Option D) (E:DE):Option D:=(c E).bind fun b=>if b=true then f E else g E
theorem D1 {m:Md}{cf:DE→Option Bool}{f g:DE→Option D} (hc:Et X c cf) (ha:Ev X m a f) (hb:Ev X m b g):Ev X m (.IfExp c a b pos) (ifV cf f g):=PE.by (wR hc.h ha.h hb.h) fun σ H Q zz78_0=>by
 obtain ⟨B,F,E,d,k,q,w⟩:=zz78_0
 unfold ifV at q
 cases hf:cf E with
 | none=>rw [hf] at q; cases q
 | some x =>
  rw [hf] at q
  refine ⟨B,F,E,x,k,hf,fun F1 H1 x1=>?_⟩
  cases x with
  | true=>exact re ⟨B,F1,E,d,k.ext x1,q,fun u F2 H2 x2 r2=>w u F2 H2 (x1.trans x2) (rM.anti (fun p hp=>x1.nofree hp) r2)⟩
  | false=>exact rf ⟨B,F1,E,d,k.ext x1,q,fun u F2 H2 x2 r2=>w u F2 H2 (x1.trans x2) (rM.anti (fun p hp=>x1.nofree hp) r2)⟩
def iF (o o':D→D→Option D) (f g h:DE→Option D) (E:DE):Option D:=(f E).bind fun x=>(g E).bind fun y=>(o x y).bind fun z=>(asB z).bind fun k=>if k=true then (h E).bind fun w=>o' y w else some (.bl false)
theorem rD {r r':R2}{o o':D→D→Option D}{f g h:DE→Option D} (hr:eG .V r o) (hr':eG .V r' o') (σ:St) (H:Hp) (Q:VK) (q:tM .V (iF o o' f g h) σ H Q):v5 r r' (tM .O f) (tM .O g) (tM .O h) σ H Q:=by
 obtain ⟨B,F,E,d,k,q,w⟩:=q
 unfold iF at q
 cases hf:f E with
 | none=>simp [hf] at q
 | some x =>
  cases hg:g E with
  | none=>simp [hf,hg] at q
  | some y =>
   cases ho:o x y with
   | none=>simp [hf,hg,ho] at q
   | some z =>
    cases hz:asB z with
    | none=>simp [hf,hg,ho,hz] at q
    | some c =>
     simp only [hf,hg,ho,hz,EG] at q
     refine ⟨B,F,E,x,k,hf,fun v F1 H1 x1 r1=>⟨B,F1,E,y,k.ext x1,hg,fun u F2 H2 x2 r2=>?_⟩⟩
     refine hr F2 H2 v u x y z _ x2.sub (OB.ext x2 r1) r2 ho fun t F3 H3 x3 r3=>?_
     have ez:=k7 hz
     subst ez
     cases (show Rep F3 t (.bl c) from r3)
     refine ⟨c,rfl,?_⟩
     have x13:=(x1.trans x2).trans x3
     cases c with
     | false=>cases q; exact rf (w _ F3 H3 x13 (.bl false))
     | true =>
      refine re ?_
      cases hh:h E with
      | none=>simp [hh] at q
      | some e =>
       simp only [hh,EG,if_true] at q
       refine ⟨B,F3,E,e,k.ext x13,hh,fun p F4 H4 x4 r4=>?_⟩
       exact hr' F4 H4 u p y e d Q x4.sub (OB.ext (x3.trans x4) r2) r4 q fun t F5 H5 x5 r5=>w t F5 H5 ((x13.trans x4).trans x5) r5
theorem xW {op op':CmpOp}{r r':R2}{o o':D→D→Option D}{f g h:DE→Option D} (ho:OpR X (compareOp op) r) (hr:eG .V r o) (ho':OpR X (compareOp op') r') (hr':eG .V r' o') (ha:Ev X .O a f) (hb:Ev X .O b g) (hc:Ev X .O c h)
  (hm:lastMarks [op,op'] [b,c]=false:=by with_unfolding_all rfl):Ev X .V (.Compare a [op,op'] [b,c] pos) (iF o o' f g h):=PE.by (wU ho ho' ha.h hb.h hc.h hm) (rD hr hr')
def aP:Expr→Bool
 | .Starred _ _=>false
 | _=>true
theorem aE (e:Expr) (es:List Expr) (env:Env) (h:aP e=true):starEach (e :: es) env=(false,eval e env) :: starEach es env:=by
 cases e <;> first | rfl | cases h
theorem dZ (pos:Pos) (env:Env):∀ es:List Expr,es.all aP=true→(backTo pos (starEach es env)).any (·.1)=false
 | [],_=>rfl
 | e :: es,h=>by
  rw [Gn,FK] at h
  rw [aE e es env h.1]
  show (false || (backTo pos (starEach es env)).any (·.1))=false
  rw [dZ pos env es h.2]; rfl
def ah (_:DE):Option (List D):=some []
def aa (f:DE→Option D) (g:DE→Option (List D)) (E:DE):Option (List D):=(f E).bind fun x=>(g E).map fun xs=>x :: xs
theorem ai:Ea X [] ah:=PA.by ej fun σ H Q ⟨B,F,E,d,k,q,w⟩=>by cases q; exact w [] F H (Ext.refl k.sub) .nil
theorem ae {es:List Expr}{f:DE→Option D}{g:DE→Option (List D)} (h:Ev X .V e f) (h2:Ea X es g) (hs:aP e=true:=by rfl):Ea X (e :: es) (aa f g) :=
 PA.by (cI h.h h2.h (aE e es X.env hs)) fun σ H Q zz80_0=>by
  obtain ⟨B,F,E,d,k,q,w⟩:=zz80_0
  unfold aa at q
  cases hf:f E with
  | none=>simp [hf] at q
  | some x =>
   cases hg:g E with
   | none=>simp [hf,hg] at q
   | some xs =>
    simp only [hf,hg,EG,EI] at q
    cases q
    exact ⟨B,F,E,x,k,hf,fun v F1 H1 x1 r1=>⟨B,F1,E,xs,k.ext x1,hg,fun vs F2 H2 x2 r2=>w _ F2 H2 (x1.trans x2) (.cons (r1.mono x2.fr) r2)⟩⟩
def cg (f:DE→Option (List D)) (E:DE):Option D:=(f E).bind fun xs=>if xs.length≤sizeLine then some (.tup xs) else none
def bn (f:DE→Option (List D)) (E:DE):Option D:=(f E).bind fun xs=>if xs.length≤sizeLine then some (.lst xs) else none
theorem b8 {es:List Expr}{x1}{f:DE→Option (List D)} (h:Ea X es f):Ev X .V (.Tuple es x1 pos) (cg f):=PE.by (wO h.h) fun σ H Q zz81_0=>by
 obtain ⟨B,F,E,d,k,q,w⟩:=zz81_0
 unfold cg at q
 cases hf:f E with
 | none=>simp [hf] at q
 | some xs =>
  simp only [hf,EG] at q
  split at q
  ·rename_i hz
   cases q
   refine ⟨B,F,E,xs,k,hf,fun vs F1 H1 x1 r1=>⟨by rw [r1.length]; exact hz,fun p hp=>?_⟩⟩
   have x2:=Ext.freeze (o:=HO.tup vs) x1.sub hp
   exact w _ _ _ (x1.trans x2) (.tup aw (r1.mono x2.fr))
  ·cases q
theorem bU {es:List Expr}{f:DE→Option (List D)} (h:Ea X es f):Ev X .F (.List es pos) (bn f):=PE.by (BM h.h) fun σ H Q zz82_0=>by
 obtain ⟨B,F,E,d,k,q,w⟩:=zz82_0
 unfold bn at q
 cases hf:f E with
 | none=>simp [hf] at q
 | some xs =>
  simp only [hf,EG] at q
  split at q
  ·rename_i hz
   cases q
   refine ⟨B,F,E,xs,k,hf,fun vs F1 H1 x1 r1=>⟨by rw [r1.length]; exact hz,fun p hp=>?_⟩⟩
   have x2:=Ext.lay (o:=HO.lst vs) x1.sub hp
   exact w _ _ _ (x1.trans x2) ⟨p,_,rfl,x1.nofree hp,aw,nofr x1.sub hp,r1⟩
  ·cases q
def spD (n:Nat) (g:List D→Option D):Sp:=fun vs H Q _=>∃ F ds d,(∀ a o,F a=some o→H a=some o)∧Reps F vs ds∧ds.length=n∧g ds=some d∧∀ v F' H',Ext F H F' H'→Rep F' v d→Q v H'
def aC (n:Nat) (g:List D→Option D) (f:DE→Option (List D)) (E:DE):Option D:=(f E).bind fun ds=>if ds.length=n then g ds else none
theorem aK {k:Nat}{fa:Addr}{fd:FuncData}{ps:List Str}{x:Str}{p:Pos}{es:List Expr}{n:Nat}{g:List D→Option D}{f:DE→Option (List D)} (Fn:bu X.prog X.w X.K X.mg X.base CX0 k fa fd ps (spD n g)) (hr:da k X.A) (hg:Gl X x)
  (hm:X.mg x=some (.ref fa)) (hk:PySem.W.keepIn X.K (.ref fa)=true) (hb:bC X.K fd ps []) (ha:Ea X (e :: es) f) (hdb:(x == ("__debug__" : Str))=false:=by decide)
  (he:aP e=true:=by rfl) (hpl:es.all aP=true:=by rfl):Ev X .V (.Call (.Name x p) (e :: es) [] pos) (aC n g f) :=
 PE.by (zx Fn hr hg hm hk hb .nil DI ha.h hdb (aE e es X.env he) (dZ pos X.env es hpl)) fun σ H Q zz83_0=>by
  obtain ⟨B,F,E,d,k,q,w⟩:=zz83_0
  unfold aC at q
  cases hf:f E with
  | none=>simp [hf] at q
  | some ds =>
   simp only [hf,EG] at q
   split at q
   ·rename_i hn
    refine ⟨B,F,E,ds,k,hf,fun vs F1 H1 x1 r1=>⟨F1,ds,d,x1.sub,by rw [F9]; exact r1,hn,q,fun v F2 H2 x2 r2=>w v F2 H2 (x1.trans x2) r2⟩⟩
   ·cases q
def RdC (m:Md) (r:List V→Hp→VK→Prop) (o:List D→Option D):Prop:=∀ (F H:Hp) (vs:List V) (ds:List D) (d:D) (Q:VK),(∀ a u,F a=some u→H a=some u)→Reps F vs ds→o ds=some d →
 (∀ u F' H',Ext F H F' H'→rM m H F' H' u d→Q u H')→r vs H Q
def eY (o:List D→Option D) (f:DE→Option (List D)) (E:DE):Option D:=(f E).bind o
theorem yz {m:Md}{r:List V→Hp→VK→Prop}{o:List D→Option D}{f:DE→Option (List D)} (hr:RdC m r o) (σ:St) (H:Hp) (Q:VK) (h:tM m (eY o f) σ H Q):tCB r (tL f) σ H Q:=by
 obtain ⟨B,F,E,d,k,q,w⟩:=h
 unfold eY at q
 cases hf:f E with
 | none=>simp [hf] at q
 | some ds =>
  simp only [hf,EG] at q
  exact ⟨B,F,E,ds,k,hf,fun vs F1 H1 x1 r1=>hr F1 H1 vs ds d Q x1.sub r1 q fun u F2 H2 x2 r2=>w u F2 H2 (x1.trans x2) (rM.anti (fun p hp=>x1.nofree hp) r2)⟩
def jr (m:Md) (r:List V→Hp→VK→Prop) (o:D→Option D):Prop:=∀ (F H:Hp) (v:V) (x:D) (d:D) (Q:VK),(∀ a u,F a=some u→H a=some u)→OB F H v x→o x=some d →
 (∀ u F' H',Ext F H F' H'→rM m H F' H' u d→Q u H')→r [v] H Q
def un (o:D→Option D) (f:DE→Option D) (E:DE):Option D:=(f E).bind o
theorem si {m:Md}{r:List V→Hp→VK→Prop}{o:D→Option D}{f:DE→Option D} (hr:jr m r o) (σ:St) (H:Hp) (Q:VK) (h:tM m (un o f) σ H Q):tCB r (AH (tM .O f) Da) σ H Q:=by
 obtain ⟨B,F,E,d,k,q,w⟩:=h
 unfold un at q
 cases hf:f E with
 | none=>simp [hf] at q
 | some x =>
  simp only [hf,EG] at q
  exact ⟨B,F,E,x,k,hf,fun v F1 H1 x1 r1=>hr F1 H1 v x d Q x1.sub r1 q fun u F2 H2 x2 r2=>w u F2 H2 (x1.trans x2) (rM.anti (fun p hp=>x1.nofree hp) r2)⟩
theorem jA {m:Md}{x:Str}{p:Pos}{id:String}{r:List V→Hp→VK→Prop}{o:D→Option D}{f:DE→Option D} (hc:cQ X (.builtin id) r) (hr:jr m r o) (hg:Gl X x) (hm:X.mg x=none) (hv:bootBuiltins x=some (.builtin id))
  (ha:Ev X .O e f) (hn:x ≠ "__name__" := by decide) (hdb:(x == ("__debug__" : Str))=false:=by decide) (he:aP e=true:=by rfl):Ev X m (.Call (.Name x p) [e] [] pos) (un o f) :=
 PE.by (gd hc hg hm hv (cI ha.h ej (aE e [] X.env he)) hn hdb (aE e [] X.env he) rfl) (si hr)
theorem ri {m:Md}{x:Str}{p:Pos}{T:String}{r:List V→Hp→VK→Prop}{o:D→Option D}{f:DE→Option D} (hc:cQ X (.type T) r) (hr:jr m r o) (hg:Gl X x) (hm:X.mg x=none) (hv:bootBuiltins x=some (.type T))
  (ha:Ev X .O e f) (hn:x ≠ "__name__" := by decide) (hdb:(x == ("__debug__" : Str))=false:=by decide) (he:aP e=true:=by rfl):Ev X m (.Call (.Name x p) [e] [] pos) (un o f) :=
 PE.by (uD hc hg hm hv (cI ha.h ej (aE e [] X.env he)) hn hdb (aE e [] X.env he) rfl) (si hr)
end
section
variable {X:Cx}{e:Expr}{pos:Pos}{st:Stmt}{bI:List Stmt}
def a9 (E:DE):Option Out:=some (.nx E)
def av (f g:DE→Option Out) (E:DE):Option Out:=(f E).bind fun r=>match r with
 | .nx E'=>g E'
 | r=>some r
theorem aU:Ess X [] a9:=PSs.by zf fun Z σ H ⟨B,F,E,r,k,q,w⟩=>by cases q; exact w σ F H k fun _ _ e=>e
theorem ap {f:DE→Option Out} (h:Es X st f):Ess X [st] f:=⟨jv h.h⟩
theorem ag {f g:DE→Option Out} (h:Es X st f) (h2:Ess X bI g):Ess X (st :: bI) (av f g):=PSs.by (im h.h h2.h) fun Z σ H zz85_0=>by
 obtain ⟨B,F,E,r,k,q,w⟩:=zz85_0
 unfold av at q
 cases hf:f E with
 | none=>simp [hf] at q
 | some r1 =>
  rw [hf] at q
  cases r1 with
  | nx E'=>exact ⟨B,F,E,.nx E',k,hf,fun σ' F' H' k' y=>⟨B,F',E',r,k',q,w.mono y⟩⟩
  | rt d=>cases q; exact ⟨B,F,E,.rt d,k,hf,w⟩
  | bk E'=>cases q; exact ⟨B,F,E,.bk E',k,hf,w⟩
  | ct E'=>cases q; exact ⟨B,F,E,.ct E',k,hf,w⟩
theorem D4 {f:DE→Option Out} (i:Nat) (h:Es X st f):Es X st (fun E=>f (fzE i E)):=⟨fun pins s σ H Z I zz86_0=>by
 obtain ⟨B,F,E,r,k,q,w⟩:=zz86_0
 obtain ⟨F',H',I',k',y⟩:=Ok.fz I k i
 exact h.h pins s σ H' Z I' ⟨B,F',fzE i E,r,k',q,w.mono y⟩⟩
def az (f:DE→Option D) (E:DE):Option Out:=(f E).map Out.rt
theorem aF {f:DE→Option D} (h:Ev X .V e f):Es X (.Return (some e) pos) (az f):=PS.by (wC h.h) fun Z σ H zz87_0=>by
 obtain ⟨B,F,E,r,k,q,w⟩:=zz87_0
 unfold az at q
 cases hf:f E with
 | none=>simp [hf] at q
 | some d =>
  simp only [hf,EI] at q
  cases q
  exact ⟨B,F,E,d,k,hf,fun v F' H' x r=>w v F' H' (k.ent.trans x) r⟩
def Dn (_:DE):Option Out:=some (.rt .non)
def ifS (c:DE→Option Bool) (f g:DE→Option Out) (E:DE):Option Out:=(c E).bind fun b=>if b=true then f E else g E
theorem cb {c:Expr}{a b:List Stmt}{cf:DE→Option Bool}{f g:DE→Option Out} (hc:Et X c cf) (ha:Ess X a f) (hb:Ess X b g):Es X (.If c a b pos) (ifS cf f g):=PS.by (DB hc.h ha.h hb.h) fun Z σ H zz88_0=>by
 obtain ⟨B,F,E,r,k,q,w⟩:=zz88_0
 unfold ifS at q
 cases hf:cf E with
 | none=>simp [hf] at q
 | some x =>
  rw [hf] at q
  refine ⟨B,F,E,x,k,hf,fun F1 H1 x1=>?_⟩
  cases x with
  | true=>exact re ⟨B,F1,E,r,k.ext x1,q,w.mono x1.fr⟩
  | false=>exact rf ⟨B,F1,E,r,k.ext x1,q,w.mono x1.fr⟩
def aD (i:Nat) (f:DE→Option D) (E:DE):Option Out:=(f E).map fun d=>.nx (E.set i (.val d))
def cp (i:Nat) (f:DE→Option D) (E:DE):Option Out:=(f E).map fun d=>.nx (E.set i (.own d))
theorem oP {i:Nat}{f:DE→Option D} (Z:eZ) (σ:St) (H:Hp) (h:tS (aD i f) Z σ H):yS (tM .V f) (mr i) Z σ H:=by
 obtain ⟨B,F,E,r,k,q,w⟩:=h
 unfold aD at q
 cases hf:f E with
 | none=>simp [hf] at q
 | some d =>
  simp only [hf,EI] at q
  cases q
  exact ⟨B,F,E,d,k,hf,fun v F' H' x r=>w _ F' H' ((k.ext x).set_val r i) x.fr⟩
theorem wV {i:Nat}{f:DE→Option D} (Z:eZ) (σ:St) (H:Hp) (h:tS (cp i f) Z σ H):yS (tM .F f) (mr i) Z σ H:=by
 obtain ⟨B,F,E,r,k,q,w⟩:=h
 unfold cp at q
 cases hf:f E with
 | none=>simp [hf] at q
 | some d =>
  simp only [hf,EI] at q
  cases q
  refine ⟨B,F,E,d,k,hf,fun v F' H' x r=>?_⟩
  obtain ⟨a,o,rfl,h2,h3,h4,h5⟩:=r
  have k':=k.ext x
  have hb:B.2 a=none:=k.ent.nofree h2
  have hfr:∃ fp,OkF fp B F' H' σ E∧∀ (j:Nat) s,E[j]? = some (.obj s)→a ∉ fp j:=by
   obtain ⟨fp,m⟩:=k.ob
   exact ⟨fp,m.ext x,fun j t hj hm=>(m.at_ j t hj).2.1.dom a hm h2⟩
  have z:=k'.put_own (a:=a) (o:=o) i h4 hb h5 fun j e hj he hs=>by
   obtain ⟨b,u,g1,g2,_⟩:=k.own j e he
   rw [g1] at hs
   cases hs
   rw [h2] at g2
   cases g2
  have z:=z hfr
  have eu:upd H' a o=H':=by
   funext c
   unfold upd
   split
   ·rename_i hc; rw [hc,h3]
   ·rfl
  rw [eu] at z
  exact w _ F' H' z x.fr
theorem aN {i:Nat}{x:Str}{pos':Pos}{f:DE→Option D} (hN:X.N.Nodup) (hi:X.N[i]? = some x) (hx:Loc X.env.scope x) (he:Ev X .V e f) (hs:swapsWith e (some (.Name x pos')) pos.line X.env=pure false:=by rfl)
  (hf:X.fn x=true∨X.env.scope.names.lookup x=some .local:=by first | exact .inl rfl | exact .inr rfl | assumption):Es X (.Assign [.Name x pos'] e pos) (aD i f):=PS.by (ni hN hi hx he.h hs hf) oP
theorem dg {i:Nat}{x:Str}{pos':Pos}{f:DE→Option D} (hN:X.N.Nodup) (hi:X.N[i]? = some x) (hx:Loc X.env.scope x) (he:Ev X .F e f) (hs:swapsWith e (some (.Name x pos')) pos.line X.env=pure false:=by rfl)
  (hf:X.fn x=true∨X.env.scope.names.lookup x=some .local:=by first | exact .inl rfl | exact .inr rfl | assumption):Es X (.Assign [.Name x pos'] e pos) (cp i f):=PS.by (ni hN hi hx he.h hs hf) wV
def pY (f:DE→Option D) (E:DE):Option Out:=(f E).map fun _=>.nx E
theorem Aa {f:DE→Option D} (he:Ev X .V e f) (hs:swapsWith e none pos.line X.env=pure false:=by rfl):Es X (.Expr e pos) (pY f):=PS.by (io he.h hs) fun Z σ H zz89_0=>by
 obtain ⟨B,F,E,r,k,q,w⟩:=zz89_0
 unfold pY at q
 cases hf:f E with
 | none=>simp [hf] at q
 | some d =>
  simp only [hf,EI] at q
  cases q
  exact ⟨B,F,E,d,k,hf,fun v F' H' x r=>w σ F' H' (k.ext x) x.fr⟩
end
def qo (F:Hp) (J:It) (xs:List D):Prop:=∀ (i:Nat) (F2 H2:Hp),Fr F F2→(∀ a o,F2 a=some o→H2 a=some o) →
 (xs.length=i→J.stop i H2)∧∀ d,xs[i]? = some d→J.go i H2∧∀ x H',J.yld i H2 x H'→∃ F3,Ext F2 H2 F3 H'∧Rep F3 x d
def tIt (f:DE→Option (List D)):TI:=fun σ H R=>∃ B F E xs,Ok B F H σ E∧f E=some xs∧∀ J F' H',Ext F H F' H'→qo F' J xs→R J H'
structure Ei (X:Cx) (tg iter:Expr) (f:DE→Option (List D)):Prop where
 h:PI X tg iter (tIt f)
def tG (gf:D→DE→Option DE):TG:=fun v σ H Q=>∃ B F E d E',Ok B F H σ E∧Rep F v d∧gf d E=some E'∧∀ σ' F' H',Ok B F' H' σ' E'→Ext F H F' H'→Q σ' H'
structure Eg (X:Cx) (tg:Expr) (gf:D→DE→Option DE):Prop where
 h:PG X tg (tG gf)
section
variable {X:Cx}{pos:Pos}
theorem PI.by {tg iter:Expr}{wi:TI}{f:DE→Option (List D)} (h:PI X tg iter wi) (w:∀ σ H R,tIt f σ H R→wi σ H R):Ei X tg iter f:=⟨fun pins s σ H R I q=>h pins s σ H R I (w σ H R q)⟩
theorem PI.or {tg iter:Expr}{wi wi':TI} (h:PI X tg iter wi) (h':PI X tg iter wi'):PI X tg iter (fun σ H R=>wi σ H R∨wi' σ H R):=fun pins s σ H R I q=>q.elim (h pins s σ H R I) (h' pins s σ H R I)
theorem PG.by {tg:Expr}{t:TG}{gf:D→DE→Option DE} (h:PG X tg t) (w:∀ v σ H Q,tG gf v σ H Q→t v σ H Q):Eg X tg gf:=⟨fun pins s σ H v u Q I r q=>h pins s σ H v u Q I r (w v σ H Q q)⟩
def nmG (i:Nat) (d:D) (E:DE):Option DE:=some (E.set i (.val d))
theorem aB {i:Nat}{x:Str} (hN:X.N.Nodup) (hi:X.N[i]? = some x) (hx:Loc X.env.scope x) (hf:X.fn x=true∨X.env.scope.names.lookup x=some .local:=by first | exact .inl rfl | exact .inr rfl | assumption):Eg X (.Name x pos) (nmG i) :=
 PG.by (zq hN hi hx hf) fun v σ H Q ⟨B,F,E,d,E',k,r,q,w⟩=>by cases q; exact w _ F H (k.set_val r i) (Ext.refl k.sub)
def tGs (gf:List D→DE→Option DE):TGs:=fun vs σ H Q=>∃ B F E ds E',Ok B F H σ E∧Reps F vs ds∧gf ds E=some E'∧∀ σ' F' H',Ok B F' H' σ' E'→Ext F H F' H'→Q σ' H'
structure Egs (X:Cx) (ts:List Expr) (gf:List D→DE→Option DE):Prop where
 h:PGs X ts (tGs gf)
def dk (ds:List D) (E:DE):Option DE:=match ds with
 | []=>some E
 | _=>none
def bh (g:D→DE→Option DE) (gs:List D→DE→Option DE) (ds:List D) (E:DE):Option DE:=match ds with
 | d :: r=>(g d E).bind fun E'=>gs r E'
 | _=>none
theorem dY:Egs X [] dk:=⟨fun pins s σ H vs us Q I r zz91_0=>by
 obtain ⟨B,F,E,ds,E',k,rd,q,w⟩:=zz91_0
 cases ds with
 | nil=>cases q; cases rd; exact zp pins s σ H [] us Q I r ⟨rfl,w σ F H k (Ext.refl k.sub)⟩
 | cons _ _=>cases q⟩
theorem bz {e:Expr}{es:List Expr}{g:D→DE→Option DE}{gs:List D→DE→Option DE} (h1:Eg X e g) (h2:Egs X es gs)
  (he:(assignEach (e :: es) X.env).map (·.2)=assign e X.env :: (assignEach es X.env).map (·.2):=by rfl):Egs X (e :: es) (bh g gs):=⟨fun pins s σ H vs us Q I r zz92_0=>by
 obtain ⟨B,F,E,ds,E',k,rd,q,w⟩:=zz92_0
 cases ds with
 | nil=>cases q
 | cons d ds =>
  cases rd with
  | @cons v _ vs _ r1 r2 =>
   unfold bh at q
   cases hg:g d E with
   | none=>simp [hg] at q
   | some E1 =>
    simp only [hg,EG] at q
    refine wM h1.h h2.h he pins s σ H _ us Q I r ⟨v,vs,rfl,B,F,E,d,E1,k,r1,hg,fun σ1 F1 H1 k1 x1=>⟨B,F1,E1,ds,E',k1,r2.mono x1.fr,q,fun σ2 F2 H2 k2 x2=>w σ2 F2 H2 k2 (x1.trans x2)⟩⟩⟩
def dj (n:Nat) (gs:List D→DE→Option DE) (d:D) (E:DE):Option DE:=match d with
 | .tup ds=>if ds.length=n then gs ds E else none
 | _=>none
theorem fM {es:List Expr}{kk:Nat}{gs:List D→DE→Option DE}{n:Nat} (hc:X.calm=true) (h:Egs X es gs) (hn:(assignEach es X.env).length=n:=by rfl) (hst:(assignEach es X.env).findIdx? (·.1)=none:=by rfl) :
  Eg X (.Tuple es kk pos) (dj n gs):=PG.by (BI hc h.h hn hst) fun v σ H Q zz93_0=>by
 obtain ⟨B,F,E,d,E',k,r,q,w⟩:=zz93_0
 cases d with
 | tup ds =>
  have q':(if ds.length=n then gs ds E else none)=some E':=q
  by_cases hl:ds.length=n
  ·rw [if_pos hl] at q'
   cases r with
   | @tup a vs _ e rs=>exact ⟨a,vs,rfl,SqT.of (k.sub _ _ e),by rw [rs.length]; exact hl,B,F,E,ds,E',k,rs,q',w⟩
  ·rw [if_neg hl] at q'; cases q'
 | _=>cases q
end
def kr (body:D→DE→Option Out):List D→DE→Option Out
 | [],E=>some (.nx E)
 | x :: xs,E=>(body x E).bind fun r=>match r with
  | .nx E'=>kr body xs E'
  | .ct E'=>kr body xs E'
  | .bk E'=>some (.nx E')
  | .rt d=>some (.rt d)
def c4 (fi:DE→Option (List D)) (gf:D→DE→Option DE) (fb:DE→Option Out) (E:DE):Option Out:=(fi E).bind fun xs=>kr (fun x E1=>(gf x E1).bind fb) xs E
section
variable {X:Cx}{pos:Pos}
theorem cH {tg iter:Expr}{body:List Stmt}{fi:DE→Option (List D)} {gf:D→DE→Option DE}{fb:DE→Option Out} (hp:PassesOwn (model X.prog X.w) X.A X.env X.xe) (hc:X.calm=true) (hi:Ei X tg iter fi) (hg:Eg X tg gf) (hb:Ess X body fb)
  (hs:∀ x,foldedSetIterable iter X.env x=pure x:=by intro _; rfl):Es X (.For tg iter body [] pos) (c4 fi gf fb):=PS.by (wE hp hc hi.h hg.h hb.h hs) fun Z σ H zz94_0=>by
 obtain ⟨B,F,E,r,k,q,w⟩:=zz94_0
 unfold c4 at q
 cases hf:fi E with
 | none=>simp [hf] at q
 | some xs =>
  simp only [hf,EG] at q
  refine ⟨B,F,E,xs,k,hf,fun J F1 H1 x1 it=>?_⟩
  refine ⟨fun i m σ' H'=>∃ F' E',Ok B F' H' σ' E'∧Fr F1 F'∧i≤xs.length∧m=xs.length - i∧kr (fun x E1=>(gf x E1).bind fb) (xs.drop i) E'=some r,⟨_,F1,E,k.ext x1,fun _ _ e=>e,FV _,rfl,q⟩,?_⟩
  rintro i m σ' H' ⟨F',E',k',y,hi,rfl,ql⟩
  have fitF:oh B F' Z r:=w.mono fun a o e=>y a o (x1.fr a o e)
  obtain ⟨st,gn⟩:=it i F' H' y k'.sub
  by_cases hlt:i < xs.length
  ·right
   have hx:xs[i]? = some xs[i]:=by simp [hlt]
   obtain ⟨go,yl⟩:=gn _ hx
   rw [FM hlt] at ql
   unfold kr at ql
   refine ⟨go,fun σ2 H2=>∃ F2 E2,Ok B F2 H2 σ2 E2∧Fr F1 F2∧kr (fun x E1=>(gf x E1).bind fb) (xs.drop (i + 1)) E2=some r,?_,?_⟩
   ·rintro σ2 H2 ⟨F2,E2,k2,y2,q2⟩
    exact ⟨xs.length - (i + 1),by omega,F2,E2,k2,y2,hlt,rfl,q2⟩
   ·intro x H2 hy
    obtain ⟨F3,x3,r3⟩:=yl x H2 hy
    cases hgf:gf xs[i] E' with
    | none=>simp [hgf] at ql
    | some E3 =>
     cases hfb:fb E3 with
     | none=>simp [hgf,hfb] at ql
     | some r1 =>
      simp only [hgf,hfb,EG] at ql
      have k3:=k'.ext x3
      refine ⟨B,F3,E',xs[i],E3,k3,r3,hgf,fun σ4 F4 H4 k4 x4=>⟨B,F4,E3,r1,k4,hfb,?_⟩⟩
      have y4:Fr F1 F4:=fun a o e=>x4.fr a o (x3.fr a o (y a o e))
      have f4:Fr F' F4:=fun a o e=>x4.fr a o (x3.fr a o e)
      cases r1 with
      | nx E5=>exact fun σ5 F5 H5 k5 y5=>⟨F5,E5,k5,fun a o e=>y5 a o (y4 a o e),ql⟩
      | ct E5=>exact fun σ5 F5 H5 k5 y5=>⟨F5,E5,k5,fun a o e=>y5 a o (y4 a o e),ql⟩
      | bk E5 =>
       simp only at ql
       cases ql
       exact fun σ5 F5 H5 k5 y5=>fitF σ5 F5 H5 k5 fun a o e=>y5 a o (f4 a o e)
      | rt d =>
       simp only at ql
       cases ql
       exact fitF
  ·left
   have e:i=xs.length:=by omega
   subst e
   refine ⟨st rfl,?_⟩
   rw [G_] at ql
   cases ql
   exact fitF σ' F' H' k' fun _ _ e=>e
end
def aV (js:List Nat) (E:DE):DE:=js.foldl (fun a j=>a.set j .no) E
theorem Ok.no {B:Hp×Hp}{F H:Hp} {σ:St}{E:DE} (k:Ok B F H σ E) (i:Nat):Ok B F H σ (E.set i .no):=by
 have bk:∀ (j:Nat) s,s ≠ Sl.no→(E.set i .no)[j]? = some s→E[j]? = some s:=fun j s hs h=>by
  rw [Fk] at h
  split at h
  ·split at h
   ·simp at h; exact absurd h.symm hs
   ·simp at h
  ·exact h
 exact ⟨k.ent,by rw [FW]; exact k.len,fun j d h=>k.val j d (bk j _ (by simp) h),fun j d h=>k.own j d (bk j _ (by simp) h),fun j l d e a hjl h1 h2=>k.sep j l d e a hjl (bk j _ (by simp) h1) (bk l _ (by simp) h2),
  let ⟨fp,q⟩:=k.ob; ⟨fp,q.to (fun _ _ e=>e) (fun j s h=>⟨bk j _ (by simp) h,rfl⟩) (fun j s h=>⟨bk j _ (by simp) h,rfl⟩) (fun j s h x hx=>⟨fun _ e=>e,(q.at_ j s (bk j _ (by simp) h)).2.2.2 x hx⟩) (fun j l s d b h1 h2=>q.sep j l s d b (bk j _ (by simp) h1) (bk l _ (by simp) h2))⟩⟩
theorem Ok.noS {B:Hp×Hp}{F H:Hp} {σ:St}{E:DE} (k:Ok B F H σ E) (i:Nat):Ok B F H (σ.set i none) (E.set i .no):=by
 have bk:∀ (j:Nat) s,s ≠ Sl.no→(E.set i .no)[j]? = some s→i ≠ j∧E[j]? = some s:=fun j s hs h=>by
  rw [Fk] at h
  split at h
  ·split at h
   ·simp at h; exact absurd h.symm hs
   ·simp at h
  ·exact ⟨by assumption,h⟩
 refine ⟨k.ent,by rw [FW,FW]; exact k.len,fun j d h=>?_,fun j d h=>?_,fun j l d e a hjl h1 h2 h3 h4=>?_,?_⟩
 ·obtain ⟨n,h⟩:=bk j _ (by simp) h
  rw [E8 n]; exact k.val j d h
 ·obtain ⟨n,h⟩:=bk j _ (by simp) h
  rw [E8 n]; exact k.own j d h
 ·obtain ⟨n1,h1⟩:=bk j _ (by simp) h1
  obtain ⟨n2,h2⟩:=bk l _ (by simp) h2
  rw [E8 n1] at h3
  rw [E8 n2] at h4
  exact k.sep j l d e a hjl h1 h2 h3 h4
 ·obtain ⟨fp,q⟩:=k.ob
  exact ⟨fp,q.to (fun _ _ e=>e) (fun j s h=>⟨(bk j _ (by simp) h).2,E8 (bk j _ (by simp) h).1⟩) (fun j s h=>⟨(bk j _ (by simp) h).2,E8 (bk j _ (by simp) h).1⟩)
   (fun j s h x hx=>⟨fun _ e=>e,(q.at_ j s (bk j _ (by simp) h).2).2.2.2 x hx⟩) (fun j l s e b h1 h2 h3=>by
    obtain ⟨n2,h2⟩:=bk l _ (by simp) h2
    rw [E8 n2] at h3
    exact q.sep j l s e b (bk j _ (by simp) h1).2 h2 h3)⟩
theorem Ok.mask {B:Hp×Hp}{F H:Hp} {σ:St} (js:List Nat):∀ {E:DE},Ok B F H σ E→Ok B F H σ (aV js E):=by
 induction js with
 | nil=>intro E k; exact k
 | cons j r ih=>intro E k; exact ih (k.no j)
theorem Ok.maskS {B:Hp×Hp}{F H:Hp} (js:List Nat):∀ {σ:St}{E:DE},Ok B F H σ E→Ok B F H (L2.maskS js σ) (aV js E):=by
 induction js with
 | nil=>intro σ E k; exact k
 | cons j r ih=>intro σ E k; exact ih (k.noS j)
theorem Ok.withD {B:Hp×Hp}{F H:Hp} {σ:St}{E:DE} (k:Ok B F H σ E) {p:Addr}{o:HO} (hp:H p=none):Ok (B.1,upd B.2 p o) F (upd H p o) σ E:=by
 have nb:∀ a u,B.2 a=some u→a ≠ p:=fun a u e z=>by rw [z] at e; rw [k.ent.same p u e] at hp; cases hp
 obtain ⟨fp,m⟩:=k.ob
 have np:∀ (i:Nat) s,E[i]? = some (.obj s)→∀ x ∈ fp i,x ≠ p:=fun i s h x hx z=>(m.at_ i s h).2.1.dom x hx (by rw [z]; exact hp)
 refine ⟨⟨fun a u e=>?_,k.ent.fr,fun a u e=>?_,fun a e n=>?_⟩,k.len,k.val,fun i d h=>?_,k.sep,
  fp,m.to (fun _ _ e=>e) (fun i s h=>⟨h,rfl⟩) (fun i s h=>⟨h,rfl⟩) (fun i s h x hx=>⟨fun u e=>by rw [aj (np i s h x hx)]; exact e,((m.at_ i s h).2.2.2 x hx).1,by show upd B.2 p o x=none; rw [aj (np i s h x hx)]; exact ((m.at_ i s h).2.2.2 x hx).2⟩) m.sep⟩
 ·by_cases ha:a=p
  ·subst ha
   have e':upd B.2 a o a=some u:=e
   rw [aw] at e' ⊢; exact e'
  ·have e':upd B.2 p o a=some u:=e
   rw [aj ha] at e' ⊢; exact k.ent.same a u e'
 ·rw [aj (bT (k.sub a u e) hp)]; exact k.sub a u e
 ·by_cases ha:a=p
  ·subst ha; exact nofr k.sub hp
  ·refine k.ent.new a e fun z=>n ?_
   show upd B.2 p o a=none
   rw [aj ha]; exact z
 ·obtain ⟨a,u,h1,h2,h3,h4,h5⟩:=k.own i d h
  have ha:a ≠ p:=bT h2 hp
  exact ⟨a,u,h1,by rw [aj ha]; exact h2,h3,by show upd B.2 p o a=none; rw [aj ha]; exact h4,h5⟩
theorem Ok.stepD {B1 B2 F H:Hp} {σ:St}{E:DE}{p:Addr}{o o':HO} (k:Ok (B1,upd B2 p o) F H σ E) (hb:B1 p=none):Ok (B1,upd B2 p o') F (upd H p o') σ E:=by
 have fp:F p=none:=k.ent.new p hb (by show upd B2 p o p ≠ none; rw [aw]; simp)
 obtain ⟨fq,m⟩:=k.ob
 have np:∀ (i:Nat) s,E[i]? = some (.obj s)→∀ x ∈ fq i,x ≠ p:=fun i s h x hx z=>by
  have q:upd B2 p o x=none:=((m.at_ i s h).2.2.2 x hx).2
  rw [z,aw] at q; cases q
 refine ⟨⟨fun a u e=>?_,k.ent.fr,fun a u e=>?_,fun a e n=>?_⟩,k.len,k.val,fun i d h=>?_,k.sep,
  fq,m.to (fun _ _ e=>e) (fun i s h=>⟨h,rfl⟩) (fun i s h=>⟨h,rfl⟩) (fun i s h x hx=>⟨fun u e=>by rw [aj (np i s h x hx)]; exact e,((m.at_ i s h).2.2.2 x hx).1,by
   have q:upd B2 p o x=none:=((m.at_ i s h).2.2.2 x hx).2
   rw [aj (np i s h x hx)] at q
   show upd B2 p o' x=none
   rw [aj (np i s h x hx)]; exact q⟩) m.sep⟩
 ·by_cases ha:a=p
  ·subst ha
   have e':upd B2 a o' a=some u:=e
   rw [aw] at e' ⊢; exact e'
  ·have e':upd B2 p o' a=some u:=e
   rw [aj ha] at e' ⊢
   exact k.ent.same a u (by show upd B2 p o a=some u; rw [aj ha]; exact e')
 ·rw [aj (fun z=>by rw [z,fp] at e; cases e)]; exact k.sub a u e
 ·by_cases ha:a=p
  ·subst ha; exact fp
  ·have n':upd B2 p o' a ≠ none:=n
   rw [aj ha] at n'
   exact k.ent.new a e (by show upd B2 p o a ≠ none; rw [aj ha]; exact n')
 ·obtain ⟨a,u,h1,h2,h3,h4,h5⟩:=k.own i d h
  have ha:a ≠ p:=fun z=>by
   have h4':upd B2 p o a=none:=h4
   rw [z,aw] at h4'; cases h4'
  have h4':upd B2 p o a=none:=h4
  rw [aj ha] at h4'
  exact ⟨a,u,h1,by rw [aj ha]; exact h2,h3,by show upd B2 p o' a=none; rw [aj ha]; exact h4',h5⟩
theorem Ext.stepD {F H F' H':Hp}{p:Addr}{o o':HO} (x:Ext F (upd H p o) F' H') (hf:F p=none):Ext F (upd H p o') F' (upd H' p o'):=by
 have fp:F' p=none:=x.new p hf (by rw [aw]; simp)
 refine ⟨fun a u e=>?_,x.fr,fun a u e=>?_,fun a e n=>?_⟩
 ·by_cases ha:a=p
  ·subst ha; rw [aw] at e ⊢; exact e
  ·rw [aj ha] at e ⊢; exact x.same a u (by rw [aj ha]; exact e)
 ·rw [aj (fun z=>by rw [z,fp] at e; cases e)]; exact x.sub a u e
 ·by_cases ha:a=p
  ·subst ha; exact fp
  ·rw [aj ha] at n
   exact x.new a e (by rw [aj ha]; exact n)
def cc (gf:D→DE→Option DE) (cf:DE→Option Bool) (ef:DE→Option D) (E:DE):List D→Option (List D)
 | []=>some []
 | x :: xs=>(gf x E).bind fun E1=>(cf E1).bind fun b=>if b=true then (ef E1).bind fun y=>(cc gf cf ef E xs).map fun ys=>y :: ys else cc gf cf ef E xs
def aQ (js:List Nat) (fi:DE→Option (List D)) (gf:D→DE→Option DE) (cf:DE→Option Bool) (ef:DE→Option D) (E:DE):Option D :=
 (fi E).bind fun xs=>if xs.length≤sizeLine then (cc gf cf ef (aV js E) xs).map D.lst else none
def k_ (js:List Nat) (gf:D→DE→Option DE):Prop:=∀ d E E1,gf d (aV js E)=some E1→aV js E1=aV js E
theorem mH {js:List Nat}{fi:DE→Option (List D)} {gf:D→DE→Option DE}{cf:DE→Option Bool}{ef:DE→Option D} (hj:k_ js gf) (σ:St) (H:Hp) (Q:VK)
  (h:tM .F (aQ js fi gf cf ef) σ H Q):v4 js (tIt fi) (tG gf) (tT cf) (tM .V ef) σ H Q:=by
 refine FN fun hn=>?_
 obtain ⟨B,F,E,d,k,q,w⟩:=h
 unfold aQ at q
 cases hf:fi E with
 | none=>simp [hf] at q
 | some xs =>
  simp only [hf,EG] at q
  split at q
  ·rename_i hz
   cases hq:cc gf cf ef (aV js E) xs with
   | none=>simp [hq] at q
   | some ys =>
    rw [hq] at q
    cases q
    refine hn ⟨B,F,E,xs,k,hf,fun J F1 H1 x1 it p hp=>?_⟩
    have k1:=k.ext x1
    have f1p:F1 p=none:=nofr x1.sub hp
    have b1p:B.1 p=none:=by
     cases z:B.1 p with
     | none=>rfl
     | some u=>rw [k1.ent.fr p u z] at f1p; cases f1p
    refine ⟨fun i m σ' H'=>∃ F' vs dn rs,Ok (B.1,upd B.2 p (.lst vs)) F' H' σ' (aV js E)∧Ext F1 (upd H1 p (.lst vs)) F' H'∧Reps F' vs dn∧i≤xs.length∧m=xs.length - i∧vs.length≤i∧cc gf cf ef (aV js E) (xs.drop i)=some rs∧ys=dn ++ rs,
     ⟨_,F1,[],[],ys,((k1.maskS js).withD hp),Ext.refl fun a o e=>by rw [aj (bT (x1.sub a o e) hp)]; exact x1.sub a o e,.nil,FV _,rfl,E9 _,hq,rfl⟩,?_⟩
    intro i m σ' H' hw
    refine FN fun hn=>?_
    obtain ⟨F',vs,dn,rs,k',x',rp,hi,rfl,hvi,hl,rfl⟩:=hw
    obtain ⟨st,gn⟩:=it i F' H' x'.fr x'.sub
    have hHp:H' p=some (.lst vs):=x'.same p _ aw
    by_cases hlt:i < xs.length
    ·have hx:xs[i]? = some xs[i]:=by simp [hlt]
     obtain ⟨go,yl⟩:=gn _ hx
     refine hn (.inr ⟨go,fun x H2 hy=>?_⟩)
     clear hn
     refine FN fun hn=>?_
     obtain ⟨F3,x3,r3⟩:=yl x H2 hy
     rw [FM hlt] at hl
     unfold cc at hl
     cases h1:gf xs[i] (aV js E) with
     | none=>simp [h1] at hl
     | some E1 =>
      cases h2:cf E1 with
      | none=>simp [h1,h2] at hl
      | some b =>
       simp only [h1,h2,EG] at hl
       refine hn ⟨_,F3,_,xs[i],E1,k'.ext x3,r3,h1,fun σ4 F4 H4 k4 x4=>⟨_,F4,E1,b,k4,h2,fun F5 H5 x5=>?_⟩⟩
       clear hn
       refine FN fun hn=>?_
       have x45:=(x3.trans x4).trans x5
       cases b with
       | false =>
        simp only [Ff,HJ] at hl
        refine hn (rf ⟨xs.length - (i + 1),by omega,F5,vs,dn,rs,?_,x'.trans x45,rp.mono x45.fr,hlt,rfl,by omega,hl,rfl⟩)
        have kk:=(k4.ext x5).mask js
        rw [hj _ _ _ h1] at kk
        exact kk
       | true =>
        cases h3:ef E1 with
        | none=>simp [h3] at hl
        | some y =>
         cases h4:cc gf cf ef (aV js E) (xs.drop (i + 1)) with
         | none=>simp [h3,h4] at hl
         | some zs =>
          simp only [h3,h4,EG,if_true,EI] at hl
          cases hl
          refine hn (re ⟨_,F5,E1,y,k4.ext x5,h3,fun v F6 H6 x6 r6=>⟨vs,(x45.trans x6).same p _ hHp,by omega,xs.length - (i + 1),by omega,F6,vs ++ [v],dn ++ [y],zs,?_,?_,?_,hlt,rfl,by rw [Fb]; simp; omega,h4,by simp⟩⟩)
          ·have kk:=((k4.ext x5).ext x6).mask js
           rw [hj _ _ _ h1] at kk
           exact kk.stepD b1p
          ·exact (x'.trans (x45.trans x6)).stepD f1p
          ·exact (rp.mono (x45.trans x6).fr).append (.cons r6 .nil)
    ·have e:i=xs.length:=by omega
     subst e
     refine hn (.inl ⟨st rfl,?_⟩)
     rw [G_] at hl
     cases hl
     refine w _ F' H' (x1.trans ((Ext.lay x1.sub hp).trans x')) ⟨p,_,rfl,x1.nofree hp,hHp,x'.new p f1p (by rw [aw]; simp),?_⟩
     rw [F9]
     exact rp
  ·cases q
def noT (_:DE):Option Bool:=some true
theorem uM (σ:St) (H:Hp) (Q:Bool→Hp→Prop) (h:tT noT σ H Q):AG σ H Q:=by
 obtain ⟨B,F,E,b,k,q,w⟩:=h
 cases q
 exact w F H (Ext.refl k.sub)
structure AE (X:Cx) (ifs:List Expr) (f:DE→Option Bool):Prop where
 h:vz X ifs (tT f)
theorem b4 {X:Cx}:AE X [] noT:=⟨fun pins s σ H Q I h=>wI pins s σ H Q I (uM σ H Q h)⟩
theorem yj {X:Cx}{c:Expr}{f:DE→Option Bool} (h:Et X c f):AE X [c] f:=⟨wH h.h⟩
section
variable {X:Cx}{scope:Scope}{js:List Nat}{elt tg iter:Expr}{ifs:List Expr}{pos:Pos}{fi:DE→Option (List D)} {gf:D→DE→Option DE}{cf:DE→Option Bool}{ef:DE→Option D}
theorem cD (b:Blk X scope js) (hc:X.calm=true) (hI:Ei X tg iter fi) (hj:k_ js gf) (hg:∀ C fp s0 H0,Eg (cr X scope C fp s0 H0) tg gf) (hi:∀ C fp s0 H0,AE (cr X scope C fp s0 H0) ifs cf)
  (he:∀ C fp s0 H0,Ev (cr X scope C fp s0 H0) .V elt ef) (hs:∀ x,foldedSetIterable iter X.env x=pure x:=by intro _; rfl):Ev X .F (.ListComp elt [⟨tg,iter,ifs,0⟩] scope pos) (aQ js fi gf cf ef) :=
 PE.by (zw b hc hI.h (fun C fp s0 H0=>(hg C fp s0 H0).h) (fun C fp s0 H0=>(hi C fp s0 H0).h) (fun C fp s0 H0=>(he C fp s0 H0).h) hs) (mH hj)
end
def yw (sc:Scope) (N:List Str) (scope:Scope) (js:List Nat):Bool :=
 decide (scope.kind=.function) && scope.names.all (fun y=>decide (y.2 ≠ NameKind.cell)) && scope.names.all (fun y=>decide (y.2=NameKind.local→scope.names.lookup y.1=some NameKind.local)) &&
 scope.names.all (fun y=>decide (y.2=NameKind.free→sc.names.lookup y.1=some NameKind.cell∨sc.names.lookup y.1=some NameKind.free)) &&
 (List.range N.length).all (fun i=>decide (((N[i]?).bind fun x=>scope.names.lookup x)=some NameKind.local→i ∈ js))
theorem Blk.of {X:Cx}{sc:Scope}{N:List Str}{scope:Scope}{js:List Nat} (h:yw sc N scope js=true) (h1:X.env.scope=sc) (h2:X.N=N):Blk X scope js:=by
 unfold yw at h
 simp only [FK,GI,decide_eq_true_eq] at h
 obtain ⟨⟨⟨⟨a,b⟩,c⟩,d⟩,e⟩:=h
 refine ⟨a,b,c,fun y hy hk=>?_,fun i x hi hx=>?_⟩
 ·show X.env.scope.names.lookup y.1=_∨X.env.scope.names.lookup y.1=_
  rw [h1]; exact d y hy hk
 ·rw [h2] at hi
  refine e i (List.mem_range.mpr (List.getElem?_eq_some_iff.mp hi).1) ?_
  rw [hi]; exact hx
theorem bJ {i:Nat}:k_ [i] (nmG i):=fun d E E1 h=>by
 cases h
 show (((E.set i .no).set i (.val d)).set i .no)=E.set i .no
 rw [List.set_set,List.set_set]
end L2.Cu
namespace L2
open PySem PySem.Spec PyProof.Rows
def Its (x:Str):It:=⟨fun i _=>i < x.cps.size,fun i H v H'=>H'=H∧∃ c,x.cps[i]? = some c∧v=.str ⟨#[c]⟩,fun i _=>i=x.cps.size⟩
theorem oE {P:Program}{w:World}{K:PySem.W.Frag}{y:Str}{py:Pos}{x:Str}{t:Tok}{ty:String}{it:Addr}
  (W:∀ A:Around,A.handled=none→Walks P w A it [it] [it] x.cps.size (SignAt x) (fun i h=>h.IsStrIter it ty x t i)) (hself:∀ (A:Around) (i:Nat) (s:Shared) (Q:Value→Shared→Prop) (E:Value→Shared→Prop),s.heap.IsStrIter it ty x t i→Q (.ref it) s→wpAny (model P w) A (pyIter (.ref it)) Q E s) :
  oa P w K (.Name y py) (Its x) [it] it (fun i h=>h.IsStrIter it ty x t i) where
 mem:=by simp
 obj:=fun i h st b hb=>by
  have e:b=it:=by simpa using hb
  subst e
  obtain ⟨o,ho,_,hd⟩:=st
  exact ⟨o,ho,fun v z=>by rw [hd] at z; cases z⟩
 keep:=fun i h h' st k=>by
  obtain ⟨o,ho,r⟩:=st
  exact ⟨o,k it (by simp) o ho,r⟩
 item:=by
  intro X hP hw hK hc i pins s σ H E I hf st hg
  subst hP hw hK
  obtain ⟨f0,f1,f2,f3,f4,f5⟩:=hf it (by simp)
  refine (W _ (I.ok.hd hc)).item i s _ _ hg st fun v h' tk hv st' kk=>?_
  obtain ⟨c,u,hcc,rfl⟩:=hv
  have I1:Inv X pins σ H { s with heap:=h',toks:=tk }:=I.turned (fun b o hb e=>kk b o (by simpa using hb) e) f0 f1 f3 f4 f5
  exact ⟨_,rfl,EY ⟨.str ⟨#[c]⟩,H,I1,⟨u,rfl⟩,⟨rfl,c,hcc,rfl⟩,st',fun b hb=>(hf b hb).1⟩⟩
 done:=by
  intro X hP hw hK hc i pins s σ H E I hf st hg
  subst hP hw hK
  obtain ⟨f0,f1,f2,f3,f4,f5⟩:=hf it (by simp)
  have hi:i=x.cps.size:=hg
  subst hi
  exact (W _ (I.ok.hd hc)).done s _ _ st fun h' tk kk=>⟨rfl,I.turned (fun b o hb e=>kk b o (by simpa using hb) e) f0 f1 f3 f4 f5⟩
 self:=hself
def Ez (tl:TE):TI:=fun σ H R=>tl σ H fun v H1=>∃ x,v=.str x∧R (Its x) H1
theorem BH {X:Cx}{y:Str}{py:Pos}{l:Expr}{tl:TE} (hl:PE X l tl):PI X (.Name y py) l (Ez tl):=by
 intro pins s σ H R I h
 refine thn (hl pins s σ H _ I h) fun u s1 zz95_0=>?_
 obtain ⟨v,H1,I1,r1,x,e,q⟩:=zz95_0
 subst e
 obtain ⟨t,rfl⟩:=r1
 have ht:H1 s1.heap.objs.size=none:=I1.hok.fresh (E9 _)
 cases ha:x.cps.all (· < 128)
 ·refine wpAny_pyIter_wide ha ?_
  refine ⟨s1.heap.objs.size,[s1.heap.objs.size],_,Its x,H1,rfl,I1.kept (t':=s1.toks) fun b o e=>EU _ e,oE (t:=t) (ty := "str_iterator") (fun A hA=>Walks.strWide hA _ x t) (fun A i s Q E st hQ=>wpAny_pyIter_striter_wide st hQ),⟨_,EZ _ rfl,rfl,rfl⟩,fun b hb=>?_,q⟩
  have e:b=s1.heap.objs.size:=by simpa using hb
  subst e
  exact I1.fpOk (E9 _) ht
 ·refine wpAny_pyIter_ascii ha ?_
  refine ⟨s1.heap.objs.size,[s1.heap.objs.size],_,Its x,H1,rfl,I1.kept (t':=s1.toks) fun b o e=>EU _ e,oE (t:=t) (ty := "str_ascii_iterator") (fun A hA=>Walks.strAscii hA _ x t) (fun A i s Q E st hQ=>wpAny_pyIter_striter_ascii st hQ),⟨_,EZ _ rfl,rfl,rfl⟩,fun b hb=>?_,q⟩
  have e:b=s1.heap.objs.size:=by simpa using hb
  subst e
  exact I1.fpOk (E9 _) ht
section
variable {X:Cx}
theorem zB:OpR X (binaryOp .Mult) (rI (fun i j=>Builtin.Int.intBits i≤2 ^ 20∧Builtin.Int.intBits j≤2 ^ 20) fun i j=>.int (i * j)):=opI fun _ _ _ _ _ _ _ hc q=>mul_int q (IntMulOk.of_bits hc.1 hc.2)
theorem wY:OpR X (binaryOp .FloorDiv) (rI (fun _ j=>0 < j∧j.natAbs.log2 < 9000) fun i j=>.int (i / j)):=opI fun i j _ _ _ _ _ hc q=>by
 refine floordiv_int (by omega) ?_ (.inl (PyProof.noPylong_of_log2 hc.2))
 rw [Int.fdiv_eq_ediv_of_nonneg _ (by omega)]
 exact q
theorem uH:OpR X (compareOp .LtE) (fun x y H Q=>∃ i j,x=.str i∧y=.str j∧Q (.bl (!decide (j.cps.toList < i.cps.toList))) H):=by
 intro pins s σ H x y v u Q I rx ry h
 obtain ⟨i,j,rfl,rfl,q⟩:=h
 obtain ⟨t,rfl⟩:=rx
 obtain ⟨t',rfl⟩:=ry
 exact PySem.P.le_str ⟨.bl _,H,I,rfl,q⟩
theorem Bc:SlR X (fun x lo hi H Q=>∃ z,x=.str z∧z.length≤sizeLine∧Q (.str (Txt.slice z lo hi)) H):=by
 intro pins s σ H x v vl vu lo hi sl Q I rx hs pl pu h
 obtain ⟨z,rfl,hz,q⟩:=h
 obtain ⟨t,rfl⟩:=rx
 refine ⟨"str",_,F.slot_str_getitem.lookup,typeIs_str _ _ _,?_⟩
 have fin:∀ (l u:Option (Int×Tok)),l.map (·.1)=lo→u.map (·.1)=hi→s.heap.IsSlice sl l u none→wpAny (model X.prog X.w) X.A (getItem (.str z t) (.ref sl)) (EP X pins σ Q) X.xe s:=by
  intro l u hl hu hsl
  refine wpAny_getItem_str_slice hsl rfl ?_
  unfold sliceMade slicePicked
  rw [hl,hu]
  have e:Txt.slice z lo hi=if ((1:Int) == 1 && (Builtin.Str.strSliceIndices lo hi 1 z.length).length == z.length)=true then z else ⟨((Builtin.Str.strSliceIndices lo hi 1 z.length).filterMap (z.cps[·]?)).toArray⟩:=rfl
  rw [e] at q
  show (if ((1:Int) == 1 && (Builtin.Str.strSliceIndices lo hi 1 z.length).length == z.length)=true then Made.val (.str z t) else Made.str ⟨((Builtin.Str.strSliceIndices lo hi 1 z.length).filterMap (z.cps[·]?)).toArray⟩).post _ s
  by_cases hc:((1:Int) == 1 && (Builtin.Str.strSliceIndices lo hi 1 z.length).length == z.length)=true
  ·rw [if_pos hc] at q ⊢
   exact ⟨.str z,H,I,⟨t,rfl⟩,q⟩
  ·rw [if_neg hc] at q ⊢
   have hlen:(⟨((Builtin.Str.strSliceIndices lo hi 1 z.length).filterMap (z.cps[·]?)).toArray⟩:Str).length≤sizeLine:=by
    show ((Builtin.Str.strSliceIndices lo hi 1 z.length).filterMap (z.cps[·]?)).toArray.size≤sizeLine
    rw [E_]
    exact Fa (List.length_filterMap_le _ _) (Fa (sliceIndices_le lo hi z.length) hz)
   refine ⟨hlen,?_⟩
   exact ⟨.str _,H,I.tok _,⟨_,rfl⟩,q⟩
 obtain ⟨o,ho,hc,hd⟩:=hs
 cases pl with
 | none =>
  cases pu with
  | none=>exact fin none none rfl rfl ⟨o,ho,hc,hd⟩
  | int j u=>exact fin none (some (j,u)) rfl rfl ⟨o,ho,hc,hd⟩
 | int i t' =>
  cases pu with
  | none=>exact fin (some (i,t')) none rfl rfl ⟨o,ho,hc,hd⟩
  | int j u=>exact fin (some (i,t')) (some (j,u)) rfl rfl ⟨o,ho,hc,hd⟩
theorem A8 (A:Around) (its:Array Value) (bs:List Bool) (h:its.toList=bs.map Value.bool) (prog:Program) (w:World):TruthOf prog w A (fun i v=>its[i]? = some v) (fun i=>bs.getD i false):=by
 intro i v s Q E hv hq
 have e:its.toList[i]? = some v:=by simpa using hv
 rw [h,Fg] at e
 cases hb:bs[i]? with
 | none=>rw [hb] at e; cases e
 | some b =>
  rw [hb] at e
  cases e
  have:bs.getD i false=b:=by rw [FA,hb]; rfl
  have hq':Q (bs.getD i false) s:=hq
  rw [this] at hq'
  exact Gv hq'
theorem uw (bs:List Bool):(List.range bs.length).all (fun i=>bs.getD i false)=bs.all id:=by
 have e:(List.range bs.length).map (fun i=>bs.getD i false)=bs:=by
  refine List.ext_getElem (by simp) fun i h1 h2=>?_
  simp [EV h2]
 have:=FZ (fun l=>l.all id) e
 simpa [List.all_map,Function.comp_def] using this
theorem oA:∀ {bs:List Bool}{its:List Value},aR (bs.map V.bl) its→its=bs.map Value.bool
 := fun {bs its} z=>by
  cases bs with
  | nil=>cases z; rfl
  | cons b bs =>
   cases z with
   | cons r t =>
    have e:_=Value.bool b:=r
    rw [e,oA t]; rfl
theorem yv (hc:X.calm=true):cQ X (.builtin "all") (fun xs H Q=>∃ (a:Addr) (bs:List Bool),xs=[.ref a]∧H a=some (.lst (bs.map V.bl))∧Q (.bl (bs.all id)) H):=by
 intro pins s σ H xs us Q I r h
 obtain ⟨a,bs,rfl,ha,q⟩:=h
 obtain ⟨u,rfl,ru⟩:=gO r
 obtain rfl:u=Value.ref a:=ru
 obtain ⟨z,its,n,rv,hl,e⟩:=I.lstM ha
 have hit:=oA rv
 have hL:s.heap.IsList a its.toArray:=⟨_,e,rfl,n,rfl⟩
 have hlt:a < s.heap.objs.size:=E6 e
 have hh:X.A.in1.handled=none:=I.ok.hd hc
 have st0:(s.heap.push { cls:=.type "list_iterator",data:=.fields #[.ref a,.int 0 0] }).IsListIter s.heap.objs.size a 0∧(s.heap.push { cls:=.type "list_iterator",data:=.fields #[.ref a,.int 0 0] }).IsList a its.toArray:=⟨⟨_,EZ _ rfl,rfl,rfl⟩,⟨_,EU _ e,rfl,n,rfl⟩⟩
 refine call_all_walk (Hw hL ⟨_,_,_,_,_,_,_,rfl,Walks.list (A:=X.A.in1) hh _ a (Fh hlt) its.toArray,st0,A8 _ its.toArray bs (by simpa using hit) _ _,fun h' tk hk=>?_⟩)
 have hn:its.toArray.size=bs.length:=by rw [E_,← hl,EW]
 rw [hn,uw]
 exact ⟨.bl _,H,I.kept (t':=tk) fun b o eo=>hk b o (by simpa using Fh (E6 eo)) (EU _ eo),rfl,q⟩
theorem qb:cQ X (.builtin "isinstance") (fun xs H Q=>∃ x T t b,xs=[x,.ty T]∧ib X.K H x t∧PySem.W.kitOne X.K t (.type T)=some b∧Q (.bl b) H):=by
 intro pins s σ H xs us Q I r h
 obtain ⟨x,T,t,b,rfl,ty,e,q⟩:=h
 obtain ⟨u,w',rfl,ru,rw'⟩:=AF r
 obtain rfl:w'=Value.type T:=rw'
 exact u4 I ru ty e fun tk=>⟨.bl b,H,I.tok tk,rfl,q⟩
end
end L2
namespace L2.Cu
open PySem PySem.Spec PyProof.Rows
section
variable {F H:Hp}{v:V}
theorem OB.int {i:Int} (r:OB F H v (.int i)):v=.int i:=by
 rcases r with r | ⟨a,o,h1,h2,h3⟩
 ·cases r; rfl
 ·cases o <;> exact False.elim h3
theorem OB.bl {i:Bool} (r:OB F H v (.bl i)):v=.bl i:=by
 rcases r with r | ⟨a,o,h1,h2,h3⟩
 ·cases r; rfl
 ·cases o <;> exact False.elim h3
theorem OB.str {i:Str} (r:OB F H v (.str i)):v=.str i:=by
 rcases r with r | ⟨a,o,h1,h2,h3⟩
 ·cases r; rfl
 ·cases o <;> exact False.elim h3
theorem OB.non (r:OB F H v .non):v=.non:=by
 rcases r with r | ⟨a,o,h1,h2,h3⟩
 ·cases r; rfl
 ·cases o <;> exact False.elim h3
theorem OB.lst {ds:List D} (s:∀ a u,F a=some u→H a=some u) (r:OB F H v (.lst ds)):∃ a vs,v=.ref a∧H a=some (.lst vs)∧Reps F vs ds:=by
 rcases r with r | ⟨a,o,h1,h2,h3⟩
 ·cases r with
  | lst e rs=>exact ⟨_,_,rfl,s _ _ e,rs⟩
 ·cases o with
  | lst vs=>exact ⟨a,vs,h1,h2,h3⟩
  | _=>exact False.elim h3
theorem qJ {H H':Hp}{a:Addr}{u:HO} (h:∀ a o,H a=some o→H' a=some o) (r:Rd H a u):Rd H' a u:=r.elim (fun e=>.inl (h _ _ e)) fun zz96_0=>by obtain ⟨o,e⟩:=zz96_0; exact .inr ⟨o,h _ _ e⟩
theorem nS {H:Hp}{a:Addr}{kvs:List (Key×V)} {k:Key} (e:Rd H a (.dK kvs)):lf H a (kV k) (dz kvs k):=.inl ⟨kvs,k,e,rfl,rfl⟩
theorem OB.dic {ds:List (Key×D)} (s:∀ a u,F a=some u→H a=some u) (r:OB F H v (.dic ds)):∃ a vs,v=.ref a∧Rd H a (.dK vs)∧RepK F vs ds:=by
 rcases r with r | ⟨a,o,h1,h2,h3⟩
 ·cases r with
  | dic e rs=>exact ⟨_,_,rfl,.inr ⟨_,s _ _ e⟩,rs⟩
 ·cases o with
  | dK vs=>exact ⟨a,vs,h1,.inl h2,h3⟩
  | _=>exact False.elim h3
theorem OB.tup {ds:List D} (r:OB F H v (.tup ds)):∃ a vs,v=.ref a∧F a=some (.tup vs)∧Reps F vs ds:=by
 rcases r with r | ⟨a,o,h1,h2,h3⟩
 ·cases r with
  | tup e rs=>exact ⟨_,_,rfl,e,rs⟩
 ·cases o <;> exact False.elim h3
theorem OB.scr {ns:List Int} (r:OB F H v (.scr ns)):∃ a o,v=.ref a∧F a=some (.frz o (.lst (ns.map V.int))):=by
 rcases r with r | ⟨a,o,h1,h2,h3⟩
 ·cases r with
  | scr e=>exact ⟨_,_,rfl,e⟩
 ·cases o <;> exact False.elim h3
end
def a6:D→Option (List D)
 | .lst xs=>some xs
 | .tup xs=>some xs
 | _=>none
def jK (x:Str):List D:=x.cps.toList.map fun c=>.str ⟨#[c]⟩
def aH:D→Option (List D)
 | .lst xs=>some xs
 | .tup xs=>some xs
 | .str x=>some (jK x)
 | _=>none
def a8 (o:D→Option (List D)) (f:DE→Option D) (E:DE):Option (List D):=(f E).bind o
section
variable {X:Cx}{e:Expr}{pos:Pos}
theorem xD {K:PySem.W.Frag}{F:Hp}{a:Addr}{vs:List V}{ds:List D} (h:F a=some (.lst vs)) (r:Reps F vs ds):qo F (Itl K a) ds:=by
 intro i F2 H2 y s
 have q:SqL K H2 a vs:=SqL.of (s _ _ (y _ _ h))
 refine ⟨fun hl=>⟨vs,q,by rw [r.length,hl]; exact E9 _⟩,fun d hd=>?_⟩
 obtain ⟨v,hv,rv⟩:=r.get hd
 refine ⟨⟨vs,v,q,hv⟩,fun x H' yl=>?_⟩
 obtain ⟨rfl,yl⟩:=yl
 have e2:=yl vs q
 rw [hv] at e2
 cases e2
 exact ⟨F2,Ext.refl s,rv.mono y⟩
theorem xC {K:PySem.W.Frag}{F:Hp}{a:Addr}{vs:List V}{ds:List D} (h:F a=some (.tup vs)) (r:Reps F vs ds):qo F (Itt K a) ds:=by
 intro i F2 H2 y s
 have q:SqT K H2 a vs:=SqT.of (s _ _ (y _ _ h))
 refine ⟨fun hl=>⟨vs,q,by rw [r.length,hl]; exact E9 _⟩,fun d hd=>?_⟩
 obtain ⟨v,hv,rv⟩:=r.get hd
 refine ⟨⟨vs,v,q,hv⟩,fun x H' yl=>?_⟩
 obtain ⟨rfl,yl⟩:=yl
 have e2:=yl vs q
 rw [hv] at e2
 cases e2
 exact ⟨F2,Ext.refl s,rv.mono y⟩
theorem Cf {F:Hp} (x:Str):qo F (Its x) (jK x):=by
 intro i F2 H2 y s
 have hl:(jK x).length=x.cps.size:=by simp [jK]
 refine ⟨fun h=>by rw [hl] at h; exact h.symm,fun d hd=>?_⟩
 unfold jK at hd
 rw [Fg] at hd
 cases hc:x.cps.toList[i]? with
 | none=>rw [hc] at hd; cases hd
 | some c =>
  rw [hc] at hd
  cases hd
  have hlt:i < x.cps.size:=by
   have:=(List.getElem?_eq_some_iff.mp hc).1
   simpa using this
  have hc':x.cps[i]? = some c:=by simpa using hc
  refine ⟨hlt,fun z H' yl=>?_⟩
  obtain ⟨rfl,c',h1,h2⟩:=yl
  rw [hc'] at h1
  cases h1
  subst h2
  exact ⟨F2,Ext.refl s,.str _⟩
theorem kS {tg:Expr}{f:DE→Option D} (h:Ev X .V e f):Ei X tg e (a8 a6 f):=PI.by (PI.or (sE h.h) (wL h.h)) fun σ H R zz97_0=>by
 obtain ⟨B,F,E,xs,k,q,w⟩:=zz97_0
 unfold a8 at q
 cases hf:f E with
 | none=>simp [hf] at q
 | some d =>
  simp only [hf,EG] at q
  cases d with
  | lst ds =>
   cases q
   refine .inl ⟨B,F,E,_,k,hf,fun v F' H' x r=>?_⟩
   cases r with
   | lst e rs=>exact ⟨_,rfl,⟨_,SqL.of (x.sub _ _ e)⟩,w _ F' H' x (xD e rs)⟩
  | tup ds =>
   cases q
   refine .inr ⟨B,F,E,_,k,hf,fun v F' H' x r=>?_⟩
   cases r with
   | tup e rs=>exact ⟨_,rfl,⟨_,SqT.of (x.sub _ _ e)⟩,w _ F' H' x (xC e rs)⟩
  | _=>cases q
theorem b6 {y:Str}{py:Pos}{f:DE→Option D} (h:Ev X .V e f):Ei X (.Name y py) e (a8 aH f):=PI.by (PI.or (BH h.h) (PI.or (sE h.h) (wL h.h))) fun σ H R zz98_0=>by
 obtain ⟨B,F,E,xs,k,q,w⟩:=zz98_0
 unfold a8 at q
 cases hf:f E with
 | none=>simp [hf] at q
 | some d =>
  simp only [hf,EG] at q
  cases d with
  | str z =>
   cases q
   refine .inl ⟨B,F,E,_,k,hf,fun v F' H' x r=>?_⟩
   cases r with
   | str=>exact ⟨z,rfl,w _ F' H' x (Cf z)⟩
  | lst ds =>
   cases q
   refine .inr (.inl ⟨B,F,E,_,k,hf,fun v F' H' x r=>?_⟩)
   cases r with
   | lst e rs=>exact ⟨_,rfl,⟨_,SqL.of (x.sub _ _ e)⟩,w _ F' H' x (xD e rs)⟩
  | tup ds =>
   cases q
   refine .inr (.inr ⟨B,F,E,_,k,hf,fun v F' H' x r=>?_⟩)
   cases r with
   | tup e rs=>exact ⟨_,rfl,⟨_,SqT.of (x.sub _ _ e)⟩,w _ F' H' x (xC e rs)⟩
  | _=>cases q
def dX (lo:Int) (n:Nat):List D:=(List.range n).map fun i=>.int (lo + (i:Nat))
def jb (ds:List D):Option (List D):=match ds with
 | [.int j]=>@ite _ (-(2 ^ 62)≤j∧j < 2 ^ 62) (Classical.propDecidable _) (some (dX 0 j.toNat)) none
 | _=>none
def AJ (ds:List D):Option (List D):=match ds with
 | [.int i,.int j]=>@ite _ ((-(2 ^ 62)≤i∧i < 2 ^ 62)∧(-(2 ^ 62)≤j∧j < 2 ^ 62)) (Classical.propDecidable _) (some (dX i (j - i).toNat)) none
 | _=>none
def eS (f:DE→Option (List D)) (E:DE):Option (List D):=(f E).bind jb
def Eo (f:DE→Option (List D)) (E:DE):Option (List D):=(f E).bind AJ
theorem qI {ds xs:List D} (h:jb ds=some xs):∃ j,ds=[.int j]:=by
 unfold jb at h
 split at h
 ·exact ⟨_,rfl⟩
 ·cases h
theorem Cg {F:Hp} (lo:Int) (n:Nat):qo F (Itr lo n) (dX lo n):=by
 intro i F2 H2 y s
 have hl:(dX lo n).length=n:=by simp [dX]
 refine ⟨fun h=>by rw [hl] at h; exact Hz h,fun d hd=>?_⟩
 unfold dX at hd
 rw [Fg] at hd
 cases hc:(List.range n)[i]? with
 | none=>rw [hc] at hd; cases hd
 | some c =>
  rw [hc] at hd
  cases hd
  obtain ⟨hlt,rfl⟩:=List.getElem?_eq_some_iff.mp hc
  rw [Fo] at hlt
  refine ⟨hlt,fun z H' yl=>?_⟩
  obtain ⟨rfl,rfl⟩:=yl
  rw [HP]
  exact ⟨F2,Ext.refl s,.int _⟩
theorem cU {tg a:Expr}{f:DE→Option (List D)} {p:Pos} (hg:Gl X "range") (hm:X.mg "range" = none) (ha:Ea X [a] f) (hs:aP a=true:=by rfl):Ei X tg (.Call (.Name "range" p) [a] [] pos) (eS f) :=
 PI.by (uC hg hm ha.h (aE a [] X.env hs)) fun σ H R zz99_0=>by
  obtain ⟨B,F,E,xs,k,q,w⟩:=zz99_0
  unfold eS at q
  cases hf:f E with
  | none=>simp [hf] at q
  | some ds =>
   rw [hf] at q
   refine ⟨B,F,E,ds,k,hf,fun vs F' H' x r=>?_⟩
   obtain ⟨j,rfl⟩:=qI q
   obtain ⟨v1,ws,rfl,r1,r⟩:=r.c1
   obtain rfl:=r.c0
   cases r1
   ·have q':@ite _ (-(2 ^ 62)≤j∧j < 2 ^ 62) (Classical.propDecidable _) (some (dX 0 j.toNat)) none=some xs:=q
    by_cases hj : -(2 ^ 62)≤j∧j < 2 ^ 62
    ·rw [if_pos hj] at q'
     cases q'
     exact ⟨j,rfl,hj.1,hj.2,w _ F' H' x (Cg 0 _)⟩
    ·rw [if_neg hj] at q'; cases q'
end
def i2 (g:Int→Int→Option D):D→D→Option D
 | .int i,.int j=>g i j
 | _,_=>none
theorem fJ {g:Int→Int→Option D}{x y d:D} (h:i2 g x y=some d):∃ i j,x=.int i∧y=.int j∧g i j=some d:=by
 cases x <;> cases y <;> simp [i2] at h
 exact ⟨_,_,rfl,rfl,h⟩
def qC:D→D→Option D:=i2 fun i j=>some (.int (i - j))
theorem Bn:eG .V (rI0 fun i j=>.int (i - j)) qC:=fun F H v w x y d Q s rx ry h q=>by
 obtain ⟨i,j,rfl,rfl,h'⟩:=fJ h
 cases h'
 exact ⟨i,j,rx.int,ry.int,q _ F H (Ext.refl s) (.int _)⟩
def xg:D→D→Option D:=i2 fun i j=>if Builtin.Int.intBits i≤2 ^ 20∧Builtin.Int.intBits j≤2 ^ 20 then some (.int (i * j)) else none
theorem Br:eG .V (rI (fun i j=>Builtin.Int.intBits i≤2 ^ 20∧Builtin.Int.intBits j≤2 ^ 20) fun i j=>.int (i * j)) xg:=fun F H v w x y d Q s rx ry h q=>by
 obtain ⟨i,j,rfl,rfl,h'⟩:=fJ h
 split at h'
 ·rename_i hc
  cases h'
  exact ⟨i,j,rx.int,ry.int,hc,q _ F H (Ext.refl s) (.int _)⟩
 ·cases h'
def bW:D→D→Option D:=i2 fun i j=>if 0 < j then some (.int (i % j)) else none
theorem Bs:eG .V (rI (fun _ j=>0 < j) fun i j=>.int (i % j)) bW:=fun F H v w x y d Q s rx ry h q=>by
 obtain ⟨i,j,rfl,rfl,h'⟩:=fJ h
 split at h'
 ·rename_i hc
  cases h'
  exact ⟨i,j,rx.int,ry.int,hc,q _ F H (Ext.refl s) (.int _)⟩
 ·cases h'
def bK:D→D→Option D:=i2 fun i j=>if 0 < j∧j.natAbs.log2 < 9000 then some (.int (i / j)) else none
theorem za:eG .V (rI (fun _ j=>0 < j∧j.natAbs.log2 < 9000) fun i j=>.int (i / j)) bK:=fun F H v w x y d Q s rx ry h q=>by
 obtain ⟨i,j,rfl,rfl,h'⟩:=fJ h
 split at h'
 ·rename_i hc
  cases h'
  exact ⟨i,j,rx.int,ry.int,hc,q _ F H (Ext.refl s) (.int _)⟩
 ·cases h'
def lj:D→D→Option D:=i2 fun i j=>if 0≤j∧j≤1000000∧i.natAbs < 2 ^ 64 then some (.int (i ^ j.toNat)) else none
theorem Bo:eG .V (rI Ed fun i j=>.int (i ^ j.toNat)) lj:=fun F H v w x y d Q s rx ry h q=>by
 obtain ⟨i,j,rfl,rfl,h'⟩:=fJ h
 split at h'
 ·rename_i hc
  cases h'
  exact ⟨i,j,rx.int,ry.int,hc,q _ F H (Ext.refl s) (.int _)⟩
 ·cases h'
def BO (pi:Int→Int→Bool) (ps:List Nat→List Nat→Bool):D→D→Option D
 | .int i,.int j=>some (.bl (pi i j))
 | .str i,.str j=>some (.bl (ps i.cps.toList j.cps.toList))
 | _,_=>none
def ltD:D→D→Option D:=BO (fun i j=>decide (i < j)) fun i j=>decide (i < j)
def leD:D→D→Option D:=BO (fun i j=>decide (i≤j)) fun i j => !decide (j < i)
def gtD:D→D→Option D:=i2 fun i j=>some (.bl (decide (j < i)))
def geD:D→D→Option D:=i2 fun i j=>some (.bl (decide (j≤i)))
theorem o6 {pi:Int→Int→Bool}{ps:List Nat→List Nat→Bool}{x y d:D} (h:BO pi ps x y=some d) :
  (∃ i j,x=.int i∧y=.int j∧d=.bl (pi i j))∨∃ i j,x=.str i∧y=.str j∧d=.bl (ps i.cps.toList j.cps.toList):=by
 match x,y,h with
 | .int i,.int j,h=>exact .inl ⟨i,j,rfl,rfl,(E4 h).symm⟩
 | .str i,.str j,h=>exact .inr ⟨i,j,rfl,rfl,(E4 h).symm⟩
theorem Dp:eG .V (fun x y H Q=>(rI0 fun i j=>.bl (decide (i < j))) x y H Q∨∃ i j,x=.str i∧y=.str j∧Q (.bl (decide (i.cps.toList < j.cps.toList))) H) ltD:=fun F H v w x y d Q s rx ry h q=>by
 rcases o6 h with ⟨i,j,rfl,rfl,rfl⟩ | ⟨i,j,rfl,rfl,rfl⟩
 ·exact .inl ⟨_,_,rx.int,ry.int,q _ F H (Ext.refl s) (.bl _)⟩
 ·exact .inr ⟨_,_,rx.str,ry.str,q _ F H (Ext.refl s) (.bl _)⟩
theorem AL:eG .V (fun x y H Q=>(rI0 fun i j=>.bl (decide (i≤j))) x y H Q∨∃ i j,x=.str i∧y=.str j∧Q (.bl (!decide (j.cps.toList < i.cps.toList))) H) leD:=fun F H v w x y d Q s rx ry h q=>by
 rcases o6 h with ⟨i,j,rfl,rfl,rfl⟩ | ⟨i,j,rfl,rfl,rfl⟩
 ·exact .inl ⟨_,_,rx.int,ry.int,q _ F H (Ext.refl s) (.bl _)⟩
 ·exact .inr ⟨_,_,rx.str,ry.str,q _ F H (Ext.refl s) (.bl _)⟩
theorem AM:eG .V (rI0 fun i j=>.bl (decide (j < i))) gtD:=fun F H v w x y d Q s rx ry h q=>by
 obtain ⟨i,j,rfl,rfl,h'⟩:=fJ h
 cases h'
 exact ⟨i,j,rx.int,ry.int,q _ F H (Ext.refl s) (.bl _)⟩
theorem Dr:eG .V (rI0 fun i j=>.bl (decide (j≤i))) geD:=fun F H v w x y d Q s rx ry h q=>by
 obtain ⟨i,j,rfl,rfl,h'⟩:=fJ h
 cases h'
 exact ⟨i,j,rx.int,ry.int,q _ F H (Ext.refl s) (.bl _)⟩
section
variable {X:Cx}{a b:Expr}{pos:Pos}{f g:DE→Option D}
theorem nJ (ha:Ev X .O a f) (hb:Ev X .O b g):Ev X .V (.BinOp a .Sub b pos) (bin qC f g):=iY BP Bn ha hb
theorem bt (ha:Ev X .O a f) (hb:Ev X .O b g):Ev X .V (.BinOp a .Mod b pos) (bin bW f g):=iY BR Bs ha hb
theorem bL (ha:Ev X .O a f) (hb:Ev X .O b g):Ev X .V (.BinOp a .FloorDiv b pos) (bin bK f g):=iY wY za ha hb
theorem nM (ha:Ev X .O a f) (hb:Ev X .O b g):Ev X .V (.BinOp a .Pow b pos) (bin lj f g):=iY BQ Bo ha hb
theorem BS:OpR X (compareOp .Lt) (fun x y H Q=>(rI0 fun i j=>.bl (decide (i < j))) x y H Q∨∃ i j,x=.str i∧y=.str j∧Q (.bl (decide (i.cps.toList < j.cps.toList))) H):=OpR.or DL uG
theorem wW:OpR X (compareOp .LtE) (fun x y H Q=>(rI0 fun i j=>.bl (decide (i≤j))) x y H Q∨∃ i j,x=.str i∧y=.str j∧Q (.bl (!decide (j.cps.toList < i.cps.toList))) H):=OpR.or DM uH
end
mutual
def toP:D→PyData
 | .non=>.none
 | .bl b=>.bool b
 | .int i=>.int i
 | .str x=>.str x
 | .tup xs=>.tuple (toPs xs)
 | .lst xs=>.list (toPs xs)
 | .dic _=>.dict []
 | .scr _=>.dict []
def toPs:List D→List PyData
 | []=>[]
 | x :: xs=>toP x :: toPs xs
end
section
variable {X:Cx}{pins:List (Addr×Obj)} {σ:St}{F H:Hp}{s:Shared}
mutual
theorem Rep.reads (I:Inv X pins σ H s) (hs:∀ a o,F a=some o→H a=some o):∀ {v:V}{d:D}{u:Value},Rep F v d→aS v u→(toP d).canLay0=true→∃ as,Reads s.heap u (toP d) as
 := fun {v d u} q r c=>by
  refine FN fun hn=>?_
  cases q with
  | non=>cases r; exact hn ⟨_,.none⟩
  | bl b=>cases r; exact hn ⟨_,.bool b⟩
  | int i=>obtain ⟨t,rfl⟩:=r; exact hn ⟨_,.int i t⟩
  | str x=>obtain ⟨t,rfl⟩:=r; exact hn ⟨_,.str x t⟩
  | @tup a vs ds e rs =>
   cases r
   obtain ⟨its,rv,ht,hz⟩:=I.tuple (SqT.of (hs _ _ e))
   obtain ⟨o,ho,hc,n,hd⟩:=ht
   have c':PyData.canLayAll0 (toPs ds)=true:=by simpa [toP,PyData.canLay0] using c
   obtain ⟨as,ra⟩:=Reps.reads I hs rs rv c'
   exact hn ⟨_,by rw [toP]; exact .tuple ho hc hd (by simpa using ra)⟩
  | @lst a vs ds e rs =>
   cases r
   obtain ⟨z,its,n,rv,hl,ho⟩:=I.lstM (hs _ _ e)
   have c':PyData.canLayAll0 (toPs ds)=true:=by simpa [toP,PyData.canLay0] using c
   obtain ⟨as,ra⟩:=Reps.reads I hs rs rv c'
   exact hn ⟨_,by rw [toP]; exact .list ho rfl rfl (by simpa using ra)⟩
  | dic _ _=>simp [toP,PyData.canLay0] at c
  | scr _=>simp [toP,PyData.canLay0] at c
theorem Reps.reads (I:Inv X pins σ H s) (hs:∀ a o,F a=some o→H a=some o):∀ {vs:List V}{ds:List D}{us:List Value},Reps F vs ds→aR vs us→PyData.canLayAll0 (toPs ds)=true→∃ as,ReadsAll s.heap us (toPs ds) as
 := fun {vs ds us} z w c=>by
  refine FN fun hn=>?_
  cases z with
  | nil=>cases w; exact hn ⟨_,.nil⟩
  | @cons v d vs ds r rs =>
   cases w with
   | cons q qs =>
    have c':(toP d).canLay0=true∧PyData.canLayAll0 (toPs ds)=true:=by simpa [toPs,PyData.canLayAll0] using c
    obtain ⟨as,h1⟩:=Rep.reads I hs r q c'.1
    obtain ⟨bs,h2⟩:=Reps.reads I hs rs qs c'.2
    exact hn ⟨_,by rw [toPs]; exact .cons h1 h2⟩
end
theorem OB.reads (I:Inv X pins σ H s) (hs:∀ a o,F a=some o→H a=some o) {v:V}{d:D}{u:Value} (r:OB F H v d) (q:aS v u) (c:(toP d).canLay0=true):∃ as,Reads s.heap u (toP d) as:=by
 rcases r with r | ⟨a,o,rfl,h2,h3⟩
 ·exact Rep.reads I hs r q c
 ·cases q
  cases o with
  | lst vs =>
   cases d with
   | lst ds =>
    obtain ⟨z,its,n,rv,hl,ho⟩:=I.lstM h2
    have c':PyData.canLayAll0 (toPs ds)=true:=by simpa [toP,PyData.canLay0] using c
    obtain ⟨as,ra⟩:=Reps.reads I hs (show Reps F vs ds from h3) rv c'
    exact ⟨_,by rw [toP]; exact .list ho rfl rfl (by simpa using ra)⟩
   | _=>exact False.elim h3
  | dK vs =>
   cases d with
   | dic ds=>simp [toP,PyData.canLay0] at c
   | _=>exact False.elim h3
  | _=>exact False.elim h3
end
def sB (neg:Bool) (u:Nat):R2:=fun v w H Q=>∃ F x y,(∀ a o,F a=some o→H a=some o)∧OB F H v x∧OB F H w y∧(toP x).canLay0=true∧(toP y).canLay0=true∧u + min (toP x).depth (toP y).depth < cLine ∧
 Q (.bl (if neg then !PyData.eqv (toP x) (toP y) else PyData.eqv (toP x) (toP y))) H
section
variable {X:Cx}
theorem l5:OpR X (compareOp .Eq) (sB false X.A.units):=by
 intro pins s σ H v w u z Q I rv rw h
 obtain ⟨F,x,y,hs,ox,oy,cx,cy,hu,q⟩:=h
 obtain ⟨as,ra⟩:=ox.reads I hs rv cx
 obtain ⟨bs,rb⟩:=oy.reads I hs rw cy
 exact SeqAt.rcAt_reads ra rb cx cy hu X.prog X.w X.xe _ ⟨.bl _,H,I,rfl,q⟩
theorem uF:OpR X (compareOp .NotEq) (sB true X.A.units):=by
 intro pins s σ H v w u z Q I rv rw h
 obtain ⟨F,x,y,hs,ox,oy,cx,cy,hu,q⟩:=h
 obtain ⟨as,ra⟩:=ox.reads I hs rv cx
 obtain ⟨bs,rb⟩:=oy.reads I hs rw cy
 exact SeqAt.compareNe_reads ra rb cx cy hu ⟨.bl _,H,I,rfl,q⟩
end
def scD:D→D→Option Bool
 | .str x,.str y=>some (decide (x=y))
 | .int x,.int y=>some (decide (x=y))
 | .bl x,.bl y=>some (decide (x=y))
 | _,_=>none
def eX (x:D):Bool:=(toP x).canLay0 && decide ((toP x).depth≤60)
def eqD (x y:D):Option Bool:=match scD x y with
 | some b=>some b
 | none=>if eX x && eX y then some (PyData.eqv (toP x) (toP y)) else none
def eqO (x y:D):Option D:=(eqD x y).map D.bl
def neO (x y:D):Option D:=(eqD x y).map fun b=>.bl (!b)
theorem mC {x y:D}{b:Bool} (h:eqD x y=some b):(∃ i j,x=.str i∧y=.str j∧b=decide (i=j))∨(∃ i j,x=.int i∧y=.int j∧b=decide (i=j))∨(∃ i j,x=.bl i∧y=.bl j∧b=decide (i=j)) ∨
  (eX x=true∧eX y=true∧b=PyData.eqv (toP x) (toP y)):=by
 unfold eqD at h
 cases hs:scD x y with
 | some c =>
  rw [hs] at h
  cases h
  match x,y,hs with
  | .str i,.str j,hs=>exact .inl ⟨i,j,rfl,rfl,(E4 hs).symm⟩
  | .int i,.int j,hs=>exact .inr (.inl ⟨i,j,rfl,rfl,(E4 hs).symm⟩)
  | .bl i,.bl j,hs=>exact .inr (.inr (.inl ⟨i,j,rfl,rfl,(E4 hs).symm⟩))
 | none =>
  rw [hs] at h
  have h':(if (eX x && eX y)=true then some (PyData.eqv (toP x) (toP y)) else none)=some b:=h
  split at h'
  ·rename_i hc
   obtain ⟨h1,h2⟩:=Bool.and_eq_true_iff.mp hc
   exact .inr (.inr (.inr ⟨h1,h2,(E4 h').symm⟩))
  ·cases h'
theorem wu (u:Nat) (hu:u + 64 < cLine):eG .V (fun x y H Q=>rEq x y H Q∨sB false u x y H Q) eqO:=fun F H v w x y d Q s rx ry h q=>by
 unfold eqO at h
 cases he:eqD x y with
 | none=>rw [he] at h; cases h
 | some b =>
  rw [he] at h
  cases h
  have fin:=q (.bl b) F H (Ext.refl s) (.bl b)
  rcases mC he with ⟨i,j,rfl,rfl,rfl⟩ | ⟨i,j,rfl,rfl,rfl⟩ | ⟨i,j,rfl,rfl,rfl⟩ | ⟨h1,h2,rfl⟩
  ·left; cases rx.str; cases ry.str; exact ⟨rfl,by simpa using fin⟩
  ·left; cases rx.int; cases ry.int; exact ⟨rfl,by simpa using fin⟩
  ·left; cases rx.bl; cases ry.bl; exact ⟨rfl,by simpa using fin⟩
  ·right
   obtain ⟨a1,a2⟩:=Bool.and_eq_true_iff.mp h1
   obtain ⟨b1,b2⟩:=Bool.and_eq_true_iff.mp h2
   have:=FH a2
   exact ⟨F,x,y,s,rx,ry,a1,b1,by omega,fin⟩
theorem Bq (u:Nat) (hu:u + 64 < cLine):eG .V (fun x y H Q=>rNe x y H Q∨sB true u x y H Q) neO:=fun F H v w x y d Q s rx ry h q=>by
 unfold neO at h
 cases he:eqD x y with
 | none=>rw [he] at h; cases h
 | some b =>
  rw [he] at h
  cases h
  have fin:=q (.bl (!b)) F H (Ext.refl s) (.bl (!b))
  rcases mC he with ⟨i,j,rfl,rfl,rfl⟩ | ⟨i,j,rfl,rfl,rfl⟩ | ⟨i,j,rfl,rfl,rfl⟩ | ⟨h1,h2,rfl⟩
  ·left; cases rx.str; cases ry.str; exact ⟨rfl,by simpa using fin⟩
  ·left; cases rx.int; cases ry.int; exact ⟨rfl,by simpa using fin⟩
  ·left; cases rx.bl; cases ry.bl; exact ⟨rfl,by simpa using fin⟩
  ·right
   obtain ⟨a1,a2⟩:=Bool.and_eq_true_iff.mp h1
   obtain ⟨b1,b2⟩:=Bool.and_eq_true_iff.mp h2
   have:=FH a2
   exact ⟨F,x,y,s,rx,ry,a1,b1,by omega,fin⟩
def dU:D→Bool
 | .non | .bl _ | .int _ | .str _=>true
 | _=>false
def toV:D→V
 | .bl b=>.bl b
 | .int i=>.int i
 | .str x=>.str x
 | _=>.non
theorem pO {F:Hp}{v:V}{d:D} (r:Rep F v d) (h:dU d=true):v=toV d∧gk v=true:=by
 cases r <;> first | exact ⟨rfl,rfl⟩ | cases h
theorem iX {F:Hp}:∀ {vs:List V}{ds:List D},Reps F vs ds→ds.all dU=true→vs=ds.map toV∧vs.all gk=true
 := fun z h=>by
  cases z with
  | nil=>exact ⟨rfl,rfl⟩
  | cons r t =>
   rw [Gn,FK] at h
   obtain ⟨e1,f1⟩:=pO r h.1
   obtain ⟨e2,f2⟩:=iX t h.2
   subst e1 e2
   exact ⟨rfl,by rw [Gn,f1,f2]; rfl⟩
def inD (x y:D):Option Bool:=match x,y with
 | .str i,.str j=>some (!(Builtin.Str.occurrences j i 0 j.length 1).isEmpty)
 | x,.tup ds=>if dU x && ds.all dU then some (inV (toV x) (ds.map toV)) else none
 | x,.lst ds=>if dU x && ds.all dU then some (inV (toV x) (ds.map toV)) else none
 | _,_=>none
theorem u6 {x y:D}{b:Bool} (h:inD x y=some b):(∃ i j,x=.str i∧y=.str j∧b = !(Builtin.Str.occurrences j i 0 j.length 1).isEmpty) ∨
  (∃ ds,(y=.tup ds∨y=.lst ds)∧dU x=true∧ds.all dU=true∧b=inV (toV x) (ds.map toV)):=by
 cases y with
 | str j =>
  cases x with
  | str i=>exact .inl ⟨i,j,rfl,rfl,(E4 h).symm⟩
  | _=>cases h
 | tup ds =>
  have h':(if dU x && ds.all dU then some (inV (toV x) (ds.map toV)) else none)=some b:=by cases x <;> exact h
  split at h'
  ·rename_i hc
   obtain ⟨h1,h2⟩:=Bool.and_eq_true_iff.mp hc
   exact .inr ⟨ds,.inl rfl,h1,h2,(E4 h').symm⟩
  ·cases h'
 | lst ds =>
  have h':(if dU x && ds.all dU then some (inV (toV x) (ds.map toV)) else none)=some b:=by cases x <;> exact h
  split at h'
  ·rename_i hc
   obtain ⟨h1,h2⟩:=Bool.and_eq_true_iff.mp hc
   exact .inr ⟨ds,.inr rfl,h1,h2,(E4 h').symm⟩
  ·cases h'
 | _=>cases x <;> cases h
theorem zW {F H:Hp}{v:V}{d:D} (r:OB F H v d) (h:dU d=true):v=toV d∧gk v=true:=by
 rcases r with r | ⟨a,o,h1,h2,h3⟩
 ·exact pO r h
 ·cases o <;> cases d <;> first | exact False.elim h3 | cases h
def inO (x y:D):Option D:=(inD x y).map D.bl
def w_ (x y:D):Option D:=(inD x y).map fun b=>.bl (!b)
theorem Bp {K:PySem.W.Frag}:eG .V (fun x y H Q=>(∃ i j,x=.str i∧y=.str j∧Q (.bl (!(!(Builtin.Str.occurrences j i 0 j.length 1).isEmpty))) H)∨rIn K true x y H Q) w_:=fun F H v w x y d Q s rx ry h q=>by
 unfold w_ at h
 cases he:inD x y with
 | none=>rw [he] at h; cases h
 | some b =>
  rw [he] at h
  cases h
  have fin:=q (.bl (!b)) F H (Ext.refl s) (.bl (!b))
  rcases u6 he with ⟨i,j,rfl,rfl,rfl⟩ | ⟨ds,hy,h1,h2,rfl⟩
  ·exact .inl ⟨i,j,rx.str,ry.str,fin⟩
  ·right
   obtain ⟨ex,fx⟩:=zW rx h1
   rcases hy with rfl | rfl
   ·obtain ⟨a,vs,rfl,ha,rs⟩:=ry.tup
    obtain ⟨e2,f2⟩:=iX rs h2
    subst e2
    exact ⟨a,_,rfl,.inr (SqT.of (s _ _ ha)),fx,f2,by rw [ex]; exact fin⟩
   ·obtain ⟨a,vs,rfl,ha,rs⟩:=OB.lst s ry
    obtain ⟨e2,f2⟩:=iX rs h2
    subst e2
    exact ⟨a,_,rfl,.inl (SqL.of ha),fx,f2,by rw [ex]; exact fin⟩
def ixD (x y:D):Option D:=match x,y with
 | .lst xs,.int i=>atI xs i
 | .tup xs,.int i=>atI xs i
 | .str z,.int i=>if z.length≤sizeLine then (atI z.cps.toList i).map fun c=>.str ⟨#[c]⟩ else none
 | .scr ns,.int i=>(atI ns i).map D.int
 | _,_=>none
theorem Reps.atI {F:Hp}{vs:List V}{ds:List D} (r:Reps F vs ds) {i:Int}{d:D} (h:L2.atI ds i=some d):∃ v,L2.atI vs i=some v∧Rep F v d:=by
 unfold L2.atI at h ⊢
 rw [r.length]
 cases hx:ixN ds.length i with
 | none=>rw [hx] at h; cases h
 | some j=>rw [hx] at h; exact r.get h
theorem Dq {K:PySem.W.Frag}:eG .V (rIx K) ixD:=fun F H v w x y d Q s rx ry h q=>by
 cases y with
 | int i =>
  cases ry.int
  cases x with
  | lst xs =>
   obtain ⟨a,vs,rfl,ha,rs⟩:=OB.lst s rx
   obtain ⟨u,hu,ru⟩:=rs.atI (show atI xs i=some d from h)
   exact .inl ⟨a,vs,i,u,rfl,rfl,SqL.of ha,hu,q u F H (Ext.refl s) ru⟩
  | tup xs =>
   obtain ⟨a,vs,rfl,ha,rs⟩:=rx.tup
   obtain ⟨u,hu,ru⟩:=rs.atI (show atI xs i=some d from h)
   exact .inr (.inl ⟨a,vs,i,u,rfl,rfl,SqT.of (s _ _ ha),hu,q u F H (Ext.refl s) ru⟩)
  | str z =>
   cases rx.str
   have h':(if z.length≤sizeLine then (atI z.cps.toList i).map (fun c=>D.str ⟨#[c]⟩) else none)=some d:=h
   split at h'
   ·rename_i hz
    cases hc:atI z.cps.toList i with
    | none=>rw [hc] at h'; cases h'
    | some c =>
     rw [hc] at h'
     cases h'
     exact .inr (.inr ⟨z,i,c,rfl,rfl,hz,hc,q _ F H (Ext.refl s) (.str _)⟩)
   ·cases h'
  | scr ns =>
   obtain ⟨a,o,rfl,ha⟩:=rx.scr
   have h':(atI ns i).map D.int=some d:=h
   cases hc:atI ns i with
   | none=>rw [hc] at h'; cases h'
   | some c =>
    rw [hc] at h'
    cases h'
    refine .inl ⟨a,_,i,.int c,rfl,rfl,.inl (.inr ⟨o,s _ _ ha⟩),?_,q _ F H (Ext.refl s) (.int _)⟩
    unfold atI at hc ⊢
    rw [EW]
    cases hx:ixN ns.length i with
    | none=>rw [hx] at hc; cases hc
    | some j =>
     rw [hx] at hc
     show (ns.map V.int)[j]? = _
     have hc':ns[j]? = some c:=hc
     rw [Fg,hc']; rfl
  | _=>cases h
 | _=>cases x <;> cases h
def bO {α:Type} (xs:List α) (lo hi:Option Int):List α:=(xs.drop (HT.sIx xs.length 0 lo)).take (HT.sIx xs.length xs.length hi - HT.sIx xs.length 0 lo)
def noP (_:DE):Option (Option Int):=some none
def bv (f:DE→Option D) (E:DE):Option (Option Int):=(f E).bind fun d=>match d with
 | .int i=>some (some i)
 | _=>none
def tP (f:DE→Option (Option Int)):TO:=fun σ H Q=>∃ B F E o,Ok B F H σ E∧f E=some o∧∀ F' H',Ext F H F' H'→Q o H'
structure Ep (X:Cx) (e:Option Expr) (f:DE→Option (Option Int)):Prop where
 h:PO X e (tP f)
theorem PO.by {X:Cx}{e:Option Expr}{t:TO}{f:DE→Option (Option Int)} (h:PO X e t) (w:∀ σ H Q,tP f σ H Q→t σ H Q):Ep X e f:=⟨fun pins s σ H Q I q=>h pins s σ H Q I (w σ H Q q)⟩
theorem cL {X:Cx}:Ep X none noP:=PO.by zi fun σ H Q ⟨B,F,E,o,k,q,w⟩=>by cases q; exact w F H (Ext.refl k.sub)
theorem bD {X:Cx}{e:Expr}{f:DE→Option D} (h:Ev X .V e f):Ep X (some e) (bv f):=PO.by (sD h.h) fun σ H Q zz101_0=>by
 obtain ⟨B,F,E,o,k,q,w⟩:=zz101_0
 unfold bv at q
 cases hf:f E with
 | none=>simp [hf] at q
 | some d =>
  rw [hf] at q
  cases d with
  | int i =>
   cases q
   exact ⟨B,F,E,_,k,hf,fun v F' H' x r=>⟨i,by cases r; rfl,w F' H' x⟩⟩
  | _=>cases q
def slD (x:D) (lo hi:Option Int):Option D:=match x with
 | .lst xs=>some (.lst (bO xs lo hi))
 | .scr ns=>some (.lst ((bO ns lo hi).map D.int))
 | .tup xs=>some (.tup (bO xs lo hi))
 | .str z=>if z.length≤sizeLine then some (.str (Txt.slice z lo hi)) else none
 | _=>none
def ba (f:DE→Option D) (l h:DE→Option (Option Int)) (E:DE):Option D:=(f E).bind fun x=>(l E).bind fun lo=>(h E).bind fun hi=>slD x lo hi
theorem yr {α β:Type} (g:α→β) (xs:List α) (lo hi:Option Int):bO (xs.map g) lo hi=(bO xs lo hi).map g:=by
 unfold bO
 rw [EW,List.map_take,List.map_drop]
theorem qD {X:Cx}:SlR X (fun x lo hi H Q=>∃ a xs,x=.ref a∧SqT X.K H a xs∧(HT.sIx xs.length 0 lo=0∧HT.sIx xs.length xs.length hi=xs.length)∧Q (.ref a) H):=by
 intro pins s σ H x v vl vu lo hi sl Q I rx hs pl pu h
 obtain ⟨a,xs,rfl,hx,⟨hw1,hw2⟩,q⟩:=h
 cases rx
 obtain ⟨its,r,ht,hz⟩:=I.tuple hx
 have hlen:its.toArray.size=xs.length:=by rw [E_]; exact r.length.symm
 refine ⟨"tuple",_,PyProof.Rows.slot_tuple_getitem.lookup,ht.typeIs,?_⟩
 obtain ⟨os,hos,hcs,hds⟩:=id hs
 have hTs:s.TypeIs (.ref sl) "slice" := ⟨os,hos,hcs⟩
 unfold getItem
 try with_reducible refine GJ ?_
 first | refine ET (EY ?_) | skip
 refine ET (wpAny_sequenceKey ht.typeIs (by decide) ?_)
 refine ET (Gi (name:=Str.ofString "__getitem__") ht.typeIs Gp (Ge Gp ht.typeIs entry_tuple_getitem ?_ (args_tuple_getitem _ _)))
 show wpAny _ _ (Builtin.Tuple.tupleItemsOf (.ref a) >>= _) _ _ s
 refine ET (tupleItemsOf_ ht ?_)
 refine ET (GW hTs ?_)
 rw [if_pos (by decide)]
 refine ET (HT.sliceApplied_gen hs pl pu ?_)
 rw [hlen,hw1,hw2]
 dsimp only
 rw [if_pos (by simp)]
 refine ET (m:=Builtin.Tuple.tupleIsExact (.ref a)) ?_
 unfold Builtin.Tuple.tupleIsExact
 refine ET (GW ht.typeIs (EY ?_))
 rw [if_pos (by decide)]
 exact ET (HR (EY ⟨_,rfl,EY ⟨.ref a,H,I,rfl,q⟩⟩))
end L2.Cu
namespace L2
open PySem PySem.Spec PyProof.Rows
theorem wZ {X:Cx}:OpR X (binaryOp .Add) (fun x y H Q=>∃ a b ys,x=.ref a∧y=.ref b∧SqT X.K H a []∧SqT X.K H b ys∧Q (.ref b) H):=by
 intro pins s σ H x y v u Q I rx ry h
 obtain ⟨a,b,ys,rfl,rfl,ha,hb,q⟩:=h
 cases rx
 cases ry
 obtain ⟨its,r1,p1,_⟩:=I.tuple ha
 obtain ⟨its2,r2,p2,_⟩:=I.tuple hb
 have e0:its=[]:=r1.nil_iff.mpr rfl
 subst e0
 obtain ⟨⟨cls,dd,data,sl⟩,ho,hc,n,hd⟩:=id p1
 obtain ⟨⟨cls2,dd2,data2,sl2⟩,ho2,hc2,n2,hd2⟩:=id p2
 simp only at hc hd hc2 hd2
 subst hc hd hc2 hd2
 exact concat_meets ⟨_,ho,rfl⟩ ⟨_,ho2,rfl⟩ noFill_tuple_add seq_tuple_add Hu Hr (Hj _ _)
  (tuple_addW0 a b [].toArray its2.toArray n n2 dd dd2 sl sl2 (by simp)) ⟨ho,ho2,⟨.ref b,H,I,rfl,q⟩⟩
end L2
namespace L2.Cu
open PySem PySem.Spec PyProof.Rows
section
variable {X:Cx}{a b e:Expr}{pos p2:Pos}{f g:DE→Option D}
def bG (x y:D):Option D:=match x,y with
 | .int i,.int j=>some (.int (i + j))
 | .str i,.str j=>if i.length + j.length≤sizeLine then some (.str (i ++ j)) else none
 | .tup i,.tup j=>if i.length + j.length≤sizeLine then some (.tup (i ++ j)) else none
 | .lst i,.lst j=>if i.length + j.length≤sizeLine then some (.lst (i ++ j)) else none
 | _,_=>none
def AQ (K:PySem.W.Frag):R2:=fun x y H Q=>(((rI0 fun i j=>.int (i + j)) x y H Q∨∃ i j,x=.str i∧y=.str j∧i.length + j.length≤sizeLine∧Q (.str (i ++ j)) H)∨(AO K x y H Q∨∃ a b ys,x=.ref a∧y=.ref b∧SqT K H a []∧SqT K H b ys∧Q (.ref b) H))∨Dy x y H Q
theorem zD:OpR X (binaryOp .Add) (AQ X.K):=OpR.or (OpR.or (OpR.or BU qO) (OpR.or zC wZ)) BT
theorem Bx {K:PySem.W.Frag}:eG .V (AQ K) bG:=fun F H v w x y d Q s rx ry h q=>by
 match x,y,h with
 | .int i,.int j,h =>
  cases E4 h
  exact .inl (.inl (.inl ⟨i,j,rx.int,ry.int,q _ F H (Ext.refl s) (.int _)⟩))
 | .str i,.str j,h =>
  have h':(if i.length + j.length≤sizeLine then some (D.str (i ++ j)) else none)=some d:=h
  split at h'
  ·rename_i hz
   cases E4 h'
   exact .inl (.inl (.inr ⟨i,j,rx.str,ry.str,hz,q _ F H (Ext.refl s) (.str _)⟩))
  ·cases h'
 | .tup i,.tup j,h =>
  have h':(if i.length + j.length≤sizeLine then some (D.tup (i ++ j)) else none)=some d:=h
  split at h'
  ·rename_i hz
   cases E4 h'
   obtain ⟨p,vs,rfl,hp,rp⟩:=rx.tup
   obtain ⟨r,ws,rfl,hr,rr⟩:=ry.tup
   by_cases he:vs=[]
   ·subst he
    cases rp
    exact .inl (.inr (.inr ⟨p,r,ws,rfl,rfl,SqT.of (s _ _ hp),SqT.of (s _ _ hr),q _ F H (Ext.refl s) (.tup hr rr)⟩))
   ·refine .inl (.inr (.inl ⟨p,r,vs,ws,rfl,rfl,SqT.of (s _ _ hp),SqT.of (s _ _ hr),he,by rw [rp.length,rr.length]; exact hz,fun hw=>?_,fun _ c hc=>?_⟩))
    ·subst hw
     cases rr
     exact q _ F H (Ext.refl s) (.tup hp (by rw [F9]; exact rp))
    ·have x2:=Ext.freeze (o:=HO.tup (vs ++ ws)) s hc
     exact q _ _ _ x2 (.tup aw ((rp.append rr).mono x2.fr))
  ·cases h'
 | .lst i,.lst j,h =>
  have h':(if i.length + j.length≤sizeLine then some (D.lst (i ++ j)) else none)=some d:=h
  split at h'
  ·rename_i hz
   cases E4 h'
   obtain ⟨p,vs,rfl,hp,rp⟩:=OB.lst s rx
   obtain ⟨r,ws,rfl,hr,rr⟩:=OB.lst s ry
   refine .inr ⟨p,r,vs,ws,rfl,rfl,hp,hr,by rw [rp.length,rr.length]; exact hz,fun c hc=>?_⟩
   have x2:=Ext.freeze (o:=HO.lst (vs ++ ws)) s hc
   exact q _ _ _ x2 (.lst aw ((rp.append rr).mono x2.fr))
  ·cases h'
theorem be (ha:Ev X .O a f) (hb:Ev X .O b g):Ev X .V (.BinOp a .Add b pos) (bin bG f g):=iY zD Bx ha hb
theorem pQ (hr:X.A.units + 64 < cLine) (ha:Ev X .O a f) (hb:Ev X .O b g):Ev X .V (.Compare a [.Eq] [b] pos) (bin eqO f g):=xV (OpR.or AS l5) (wu _ hr) ha hb (eU _)
theorem gp (hr:X.A.units + 64 < cLine) (ha:Ev X .O a f) (hb:Ev X .O b g):Et X (.Compare a [.Eq] [b] pos) (tst (bin eqO f g)):=kN (OpR.or AS l5) (wu _ hr) ha hb (eU _)
theorem xY (hr:X.A.units + 64 < cLine) (ha:Ev X .O a f) (hb:Ev X .O b g):Et X (.Compare a [.NotEq] [b] pos) (tst (bin neO f g)):=kN (OpR.or DK uF) (Bq _ hr) ha hb (eU _)
theorem pR (ha:Ev X .O a f) (hb:Ev X .O b g):Et X (.Compare a [.Lt] [b] pos) (tst (bin ltD f g)):=kN BS Dp ha hb (eU _)
theorem AW (ha:Ev X .O a f) (hb:Ev X .O b g):Et X (.Compare a [.Gt] [b] pos) (tst (bin gtD f g)):=kN AR AM ha hb (eU _)
theorem D2 (ha:Ev X .O a f) (hb:Ev X .O b g):Ev X .V (.Compare a [.Gt] [b] pos) (bin gtD f g):=xV AR AM ha hb (eU _)
theorem z7 {c:Expr}{h:DE→Option D} (ha:Ev X .O a f) (hb:Ev X .O b g) (hc:Ev X .O c h) (hm:lastMarks [.LtE,.LtE] [b,c]=false:=by with_unfolding_all rfl):Ev X .V (.Compare a [.LtE,.LtE] [b,c] pos) (iF leD leD f g h):=xW wW AL wW AL ha hb hc hm
def Er (K:PySem.W.Frag):V→Option Int→Option Int→Hp→VK→Prop:=fun x lo hi H Q=>(Du K x lo hi H Q∨∃ z,x=.str z∧z.length≤sizeLine∧Q (.str (Txt.slice z lo hi)) H) ∨
 (Dt K x lo hi H Q∨∃ a xs,x=.ref a∧SqT K H a xs∧(HT.sIx xs.length 0 lo=0∧HT.sIx xs.length xs.length hi=xs.length)∧Q (.ref a) H)
theorem Bd:SlR X (Er X.K):=SlR.or (SlR.or yU Bc) (SlR.or Bb qD)
theorem Reps.cut {F:Hp}{vs:List V}{ds:List D} (r:Reps F vs ds) (lo hi:Option Int):Reps F (jo vs lo hi) (bO ds lo hi):=by
 unfold jo bO
 rw [r.length]
 exact (r.drop _).take _
theorem bF {lo hi:Option Expr}{l h:DE→Option (Option Int)} (ha:Ev X .O e f) (hl:Ep X lo l) (hh:Ep X hi h):Ev X .V (.Subscript e (.Slice lo hi none p2) pos) (ba f l h):=PE.by (wP Bd ha.h hl.h hh.h) fun σ H Q zz102_0=>by
 obtain ⟨B,F,E,d,k,q,w⟩:=zz102_0
 unfold ba at q
 cases h1:f E with
 | none=>simp [h1] at q
 | some x =>
  cases h2:l E with
  | none=>simp [h1,h2] at q
  | some lo =>
   cases h3:h E with
   | none=>simp [h1,h2,h3] at q
   | some hi =>
    simp only [h1,h2,h3,EG] at q
    refine ⟨B,F,E,x,k,h1,fun v F1 H1 x1 r1=>⟨B,F1,E,lo,k.ext x1,h2,fun F2 H2 x2=>⟨B,F2,E,hi,(k.ext x1).ext x2,h3,fun F3 H3 x3=>?_⟩⟩⟩
    have x13:=(x1.trans x2).trans x3
    have r3:OB F3 H3 v x:=OB.ext (x2.trans x3) r1
    have s:=x3.sub
    cases x with
    | lst xs =>
     cases E4 q
     obtain ⟨p,vs,rfl,hp,rp⟩:=OB.lst s r3
     refine .inl (.inl ⟨p,vs,rfl,SqL.of hp,fun c hc=>?_⟩)
     have x4:=Ext.freeze (o:=HO.lst (jo vs lo hi)) s hc
     exact w _ _ _ (x13.trans x4) (.lst aw ((rp.cut lo hi).mono x4.fr))
    | scr ns =>
     cases E4 q
     obtain ⟨p,o,rfl,hp⟩:=r3.scr
     refine .inl (.inl ⟨p,_,rfl,.inl (.inr ⟨o,s _ _ hp⟩),fun c hc=>?_⟩)
     have x4:=Ext.freeze (o:=HO.lst (jo (ns.map V.int) lo hi)) s hc
     refine w _ _ _ (x13.trans x4) (.lst aw ?_)
     have e1:jo (ns.map V.int) lo hi=(bO ns lo hi).map V.int:=yr V.int ns lo hi
     rw [e1]
     exact Reps.ints _
    | tup xs =>
     cases E4 q
     obtain ⟨p,vs,rfl,hp,rp⟩:=r3.tup
     by_cases hw:HT.sIx vs.length 0 lo=0∧HT.sIx vs.length vs.length hi=vs.length
     ·refine .inr (.inr ⟨p,vs,rfl,SqT.of (s _ _ hp),hw,?_⟩)
      refine w _ F3 H3 x13 ?_
      have:bO xs lo hi=xs:=by
       unfold bO
       rw [← rp.length,hw.1,hw.2,rp.length]
       simp
      rw [this]
      exact .tup hp rp
     ·refine .inr (.inl ⟨p,vs,rfl,SqT.of (s _ _ hp),hw,fun c hc=>?_⟩)
      have x4:=Ext.freeze (o:=HO.tup (jo vs lo hi)) s hc
      exact w _ _ _ (x13.trans x4) (.tup aw ((rp.cut lo hi).mono x4.fr))
    | str z =>
     have q':(if z.length≤sizeLine then some (D.str (Txt.slice z lo hi)) else none)=some d:=q
     split at q'
     ·rename_i hz
      cases E4 q'
      exact .inl (.inr ⟨z,r3.str,hz,w _ F3 H3 x13 (.str _)⟩)
     ·cases q'
    | _=>cases q
def xo:D→Option D
 | .lst xs=>some (.int xs.length)
 | .tup xs=>some (.int xs.length)
 | .scr xs=>some (.int xs.length)
 | .str x=>if x.length≤sizeLine then some (.int x.length) else none
 | _=>none
theorem Bu {K:PySem.W.Frag}:jr .V (fun xs H Q=>∃ x n,xs=[x]∧CV K x H n∧Q (.int n) H) xo:=fun F H v x d Q s rx h q=>by
 match x,h with
 | .lst xs,h =>
  cases E4 h
  obtain ⟨p,vs,rfl,hp,rp⟩:=OB.lst s rx
  exact ⟨_,xs.length,rfl,.inl ⟨vs,SqL.of hp,rp.length.symm⟩,q _ F H (Ext.refl s) (.int _)⟩
 | .tup xs,h =>
  cases E4 h
  obtain ⟨p,vs,rfl,hp,rp⟩:=rx.tup
  exact ⟨_,xs.length,rfl,.inr ⟨vs,SqT.of (s _ _ hp),rp.length.symm⟩,q _ F H (Ext.refl s) (.int _)⟩
 | .scr ns,h =>
  cases E4 h
  obtain ⟨p,o,rfl,hp⟩:=rx.scr
  exact ⟨_,ns.length,rfl,.inl ⟨_,.inl (.inr ⟨o,s _ _ hp⟩),by rw [EW]⟩,q _ F H (Ext.refl s) (.int _)⟩
 | .str z,h =>
  have h':(if z.length≤sizeLine then some (D.int z.length) else none)=some d:=h
  split at h'
  ·rename_i hz
   cases E4 h'
   cases rx.str
   exact ⟨_,z.length,rfl,⟨hz,rfl⟩,q _ F H (Ext.refl s) (.int _)⟩
  ·cases h'
def lC:List D→Option (List Bool)
 | []=>some []
 | .bl b :: r=>(lC r).map fun bs=>b :: bs
 | _=>none
theorem mJ:∀ {ds:List D}{bs:List Bool},lC ds=some bs→ds=bs.map D.bl
 | [],bs,h=>by cases h; rfl
 | .bl b :: r,bs,h=>by
  unfold lC at h
  cases hr:lC r with
  | none=>rw [hr] at h; cases h
  | some cs =>
   rw [hr] at h
   cases h
   rw [mJ hr]; rfl
def lD:D→Option D
 | .lst xs=>(lC xs).map fun bs=>.bl (bs.all id)
 | _=>none
def D8:D→Option D
 | .lst xs=>(lC xs).map fun bs=>.bl (bs.any id)
 | _=>none
theorem Bw:jr .V (fun xs H Q=>∃ (a:Addr) (bs:List Bool),xs=[.ref a]∧H a=some (.lst (bs.map V.bl))∧Q (.bl (bs.all id)) H) lD:=fun F H v x d Q s rx h q=>by
 match x,h with
 | .lst xs,h =>
  have h':((lC xs).map fun bs=>D.bl (bs.all id))=some d:=h
  cases hb:lC xs with
  | none=>rw [hb] at h'; cases h'
  | some bs =>
   rw [hb] at h'
   cases h'
   obtain ⟨p,vs,rfl,hp,rp⟩:=OB.lst s rx
   rw [mJ hb] at rp
   rw [Reps.bls rp] at hp
   exact ⟨p,bs,rfl,hp,q _ F H (Ext.refl s) (.bl _)⟩
theorem xX {p:Pos} (hc:X.calm=true) (hg:Gl X "all") (hm:X.mg "all" = none) (hv:bootBuiltins "all" = some (.builtin "all")) (ha:Ev X .O e f) (he:aP e=true:=by rfl):Ev X .V (.Call (.Name "all" p) [e] [] pos) (un lD f) :=
 jA (yv hc) Bw hg hm hv ha (by decide) (by decide) he
def tyN:D→String
 | .non => "NoneType" | .bl _ => "bool" | .int _ => "int" | .str _ => "str" | .tup _ => "tuple" | .lst _ => "list" | .dic _ => "dict" | .scr _ => "list"
def cP (t T:String):Bool:=t == T || (t == "bool" && T == "int")
def q_ (T:String):Bool:=T == "str" || T == "int" || T == "bool" || T == "tuple" || T == "list" || T == "dict"
theorem C2 {K:PySem.W.Frag}{F H:Hp}{v:V}{d:D} (s:∀ a u,F a=some u→H a=some u) (r:OB F H v d):ib K H v (.type (tyN d)):=by
 cases d with
 | non=>rw [r.non]; exact .non
 | bl b=>rw [r.bl]; exact .bl b
 | int i=>rw [r.int]; exact .int i
 | str x=>rw [r.str]; exact .str x
 | tup xs=>obtain ⟨p,vs,rfl,hp,_⟩:=r.tup; exact .tup (s _ _ hp)
 | lst xs=>obtain ⟨p,vs,rfl,hp,_⟩:=OB.lst s r; exact .lst hp
 | dic xs=>obtain ⟨p,vs,rfl,hp,_⟩:=OB.dic s r; exact hp.elim (fun h=>.dK h) fun zz103_0=>by obtain ⟨_,h⟩:=zz103_0; exact .frzD h
 | scr ns=>obtain ⟨p,o,rfl,hp⟩:=r.scr; exact .frz (s _ _ hp)
theorem zP (K:PySem.W.Frag) (d:D) {T:String} (h:q_ T=true):PySem.W.kitOne K (.type (tyN d)) (.type T)=some (cP (tyN d) T):=by
 have hT:T = "str"∨T = "int"∨T = "bool"∨T = "tuple"∨T = "list"∨T = "dict" := by simpa [q_,or_assoc] using h
 rcases hT with rfl | rfl | rfl | rfl | rfl | rfl <;> cases d <;> rfl
def isF (T:String) (f:DE→Option D) (E:DE):Option D:=(f E).map fun d=>.bl (cP (tyN d) T)
theorem bB {p px:Pos}{x:Str}{T:String} (hT:q_ T=true) (hg:Gl X "isinstance") (hm:X.mg "isinstance" = none) (hv:bootBuiltins "isinstance" = some (.builtin "isinstance")) (hgx:Gl X x) (hmx:X.mg x=none) (hvx:bootBuiltins x=some (.type T))
  (ha:Ev X .O e f) (hn:x ≠ "__name__" := by decide) (hd:(x == ("__debug__" : Str))=false:=by decide) (he:aP e=true:=by rfl):Ev X .V (.Call (.Name "isinstance" p) [e,.Name x px] [] pos) (isF T f) :=
 PE.by (gd qb hg hm hv (cI ha.h (cI (sJ hgx hmx hvx (v:=.ty T) rfl hn hd) ej (aE _ [] X.env rfl)) (aE e [.Name x px] X.env he)) (by decide) (by decide) (aE e [.Name x px] X.env he) (dZ pos X.env [.Name x px] rfl)) fun σ H Q zz104_0=>by
  obtain ⟨B,F,E,d,k,q,w⟩:=zz104_0
  unfold isF at q
  cases hf:f E with
  | none=>simp [hf] at q
  | some x =>
   simp only [hf,EI] at q
   cases q
   exact ⟨B,F,E,x,k,hf,fun v F' H' x1 r1=>⟨v,T,_,_,rfl,C2 x1.sub r1,zP X.K x hT,w _ F' H' x1 (.bl _)⟩⟩
def aW:D→Option D
 | .lst xs=>some (.tup xs)
 | .tup xs=>some (.tup xs)
 | _=>none
def kt:D→Option D
 | .lst xs=>some (.lst xs)
 | .tup xs=>some (.lst xs)
 | _=>none
theorem wq {K:PySem.W.Frag}:jr .V (fun xs H Q=>∃ p ys,xs=[.ref p]∧((SqL K H p ys∧∀ l,H l=none→Q (.ref l) (upd H l (.tup ys)))∨(SqT K H p ys∧Q (.ref p) H))) aW:=fun F H v x d Q s rx h q=>by
 match x,h with
 | .lst xs,h =>
  cases E4 h
  obtain ⟨p,vs,rfl,hp,rp⟩:=OB.lst s rx
  refine ⟨p,vs,rfl,.inl ⟨SqL.of hp,fun c hc=>?_⟩⟩
  have x4:=Ext.freeze (o:=HO.tup vs) s hc
  exact q _ _ _ x4 (.tup aw (rp.mono x4.fr))
 | .tup xs,h =>
  cases E4 h
  obtain ⟨p,vs,rfl,hp,rp⟩:=rx.tup
  exact ⟨p,vs,rfl,.inr ⟨SqT.of (s _ _ hp),q _ F H (Ext.refl s) (.tup hp rp)⟩⟩
theorem y9 {K:PySem.W.Frag}:jr .F (fun xs H Q=>∃ p ys,xs=[.ref p]∧(SqL K H p ys∨SqT K H p ys)∧∀ l,H l=none→Q (.ref l) (upd H l (.lst ys))) kt:=fun F H v x d Q s rx h q=>by
 match x,h with
 | .lst xs,h =>
  cases E4 h
  obtain ⟨p,vs,rfl,hp,rp⟩:=OB.lst s rx
  exact ⟨p,vs,rfl,.inl (SqL.of hp),fun c hc=>q _ F _ (Ext.lay s hc) ⟨c,_,rfl,hc,aw,nofr s hc,rp⟩⟩
 | .tup xs,h =>
  cases E4 h
  obtain ⟨p,vs,rfl,hp,rp⟩:=rx.tup
  exact ⟨p,vs,rfl,.inr (SqT.of (s _ _ hp)),fun c hc=>q _ F _ (Ext.lay s hc) ⟨c,_,rfl,hc,aw,nofr s hc,rp⟩⟩
theorem bN {p:Pos} (hg:Gl X "tuple") (hm:X.mg "tuple" = none) (hv:bootBuiltins "tuple" = some (.type "tuple")) (ha:Ev X .O e f) (he:aP e=true:=by rfl):Ev X .V (.Call (.Name "tuple" p) [e] [] pos) (un aW f) :=
 ri lA wq hg hm hv ha (by decide) (by decide) he
theorem nP {p:Pos} (hg:Gl X "list") (hm:X.mg "list" = none) (hv:bootBuiltins "list" = some (.type "list")) (ha:Ev X .O e f) (he:aP e=true:=by rfl):Ev X .F (.Call (.Name "list" p) [e] [] pos) (un kt f) :=
 ri nW y9 hg hm hv ha (by decide) (by decide) he
end
theorem vm {js:List Nat}{fi:DE→Option (List D)} {gf:D→DE→Option DE}{cf:DE→Option Bool}{ef:DE→Option D}:∀ E d,aQ js fi gf cf ef E=some d→∃ xs,d=.lst xs:=fun E d h=>by
 unfold aQ at h
 cases h1:fi E with
 | none=>rw [h1] at h; cases h
 | some xs =>
  rw [h1] at h
  have h':(if xs.length≤sizeLine then (cc gf cf ef (aV js E) xs).map D.lst else none)=some d:=h
  split at h'
  ·cases h2:cc gf cf ef (aV js E) xs with
   | none=>rw [h2] at h'; cases h'
   | some ys=>rw [h2] at h'; cases h'; exact ⟨_,rfl⟩
  ·cases h'
theorem xL {f:DE→Option D} (hl:∀ E d,f E=some d→∃ xs,d=.lst xs) (σ:St) (H:Hp) (Q:VK) (h:tM .V f σ H Q):tM .F f σ H Q:=by
 obtain ⟨B,F,E,d,k,q,w⟩:=h
 refine ⟨B,F,E,d,k,q,fun v F' H' x r=>?_⟩
 obtain ⟨p,o,h1,h2,h3,h4,h5⟩:=r
 have up:∀ c u,F' c=some u→(upd F' p o) c=some u:=fun c u z=>by rw [aj (fun y=>by rw [y,h4] at z; cases z)]; exact z
 subst h1
 obtain ⟨xs,rfl⟩:=hl E d q
 have hfz:fzO default o=o:=by
  cases o <;> first | rfl | exact False.elim h5
 refine w _ (upd F' p o) H' ⟨x.same,fun c u z=>up c u (x.fr c u z),fun c u z=>?_,fun c z n=>?_⟩ ((h5.mono up).rep (ob:=default) (by rw [hfz]; exact aw))
 ·by_cases hc:c=p
  ·subst hc; rw [aw] at z; cases z; exact h3
  ·rw [aj hc] at z; exact x.sub c u z
 ·have hc:c ≠ p:=fun y=>n (by rw [y]; exact h2)
  rw [aj hc]; exact x.new c z n
theorem x8 {X:Cx}{scope:Scope}{js:List Nat}{elt tg iter:Expr}{ifs:List Expr}{pos:Pos}{fi:DE→Option (List D)} {gf:D→DE→Option DE}{cf:DE→Option Bool}{ef:DE→Option D}{i:Nat}{x:Str}{px:Pos}{spos:Pos} (hN:X.N.Nodup) (hix:X.N[i]? = some x) (hx:Loc X.env.scope x) (b:Blk X scope js) (hc:X.calm=true) (hI:Ei X tg iter fi) (hj:k_ js gf)
  (hg:∀ C fp s0 H0,Eg (cr X scope C fp s0 H0) tg gf) (hi:∀ C fp s0 H0,AE (cr X scope C fp s0 H0) ifs cf) (he:∀ C fp s0 H0,Ev (cr X scope C fp s0 H0) .V elt ef)
  (hsw:swapsWith (.ListComp elt [⟨tg,iter,ifs,0⟩] scope pos) (some (.Name x px)) spos.line X.env=pure true)
  (hfn:X.fn x=true∨X.env.scope.names.lookup x=some .local:=by first | exact .inl rfl | exact .inr rfl | assumption) (hs:∀ x,foldedSetIterable iter X.env x=pure x:=by intro _; rfl) :
  Es X (.Assign [.Name x px] (.ListComp elt [⟨tg,iter,ifs,0⟩] scope pos) spos) (aD i (aQ js fi gf cf ef)):=PS.by (zg hN hix hx b hc hI.h (fun C fp s0 H0=>(hg C fp s0 H0).h) (fun C fp s0 H0=>(hi C fp s0 H0).h) (fun C fp s0 H0=>(he C fp s0 H0).h) hsw hfn hs) fun Z σ H h=>mH hj σ H _ (xL vm σ H _ (oP Z σ H h))
def ci (n m:Nat) (b:DE→Option Out) (ds:List D):Option D:=if ds.length=n then (b (ds.map Sl.val ++ List.replicate (m - n) Sl.no)).bind fun r=>match r with
 | .rt d=>some d
 | .nx _=>some .non
 | _=>none
 else none
theorem kh {F H:Hp}{vs:List V}{ds:List D}{N:List Str} (s:∀ a o,F a=some o→H a=some o) (r:Reps F vs ds):Ok (F,H) F H (start N vs) (ds.map Sl.val ++ List.replicate (N.length - ds.length) Sl.no):=by
 have noown:∀ (i:Nat) d,(ds.map Sl.val ++ List.replicate (N.length - ds.length) Sl.no)[i]? = some (.own d)→False:=fun i d h=>by
  have:=F_ h
  rcases List.mem_append.mp this with q | q
  ·obtain ⟨x,_,e⟩:=List.mem_map.mp q; cases e
  ·have:=(List.mem_replicate.mp q).2; cases this
 refine ⟨Ext.refl s,?_,fun i d h=>?_,fun i d h=>(noown i d h).elim,fun i j d e a _ h=>(noown i d h).elim,?_⟩
 ·unfold start
  rw [Fb,Fb,EW,EW,HC,HC,r.length]
 ·have hl:=r.length
  by_cases hi:i < ds.length
  ·rw [GG (by simpa using hi),Fg] at h
   cases hd:ds[i]? with
   | none=>rw [hd] at h; cases h
   | some d' =>
    rw [hd] at h
    cases h
    obtain ⟨v,h1,h2⟩:=r.get hd
    refine ⟨v,?_,h2⟩
    unfold start
    rw [GG (by simpa [hl] using hi),Fg,h1]; rfl
  ·rw [GD (by simpa using hi)] at h
   have:=F_ h
   have:=(List.mem_replicate.mp this).2
   cases this
 ·have no:∀ (i:Nat) z,(ds.map Sl.val ++ List.replicate (N.length - ds.length) Sl.no)[i]? = some z→(∃ d,z=.val d)∨z=.no:=fun i z h=>by
   rcases List.mem_append.mp (F_ h) with q | q
   ·obtain ⟨x,_,e⟩:=List.mem_map.mp q; exact .inl ⟨x,e.symm⟩
   ·exact .inr (List.mem_replicate.mp q).2
  have n1:∀ (i:Nat) t,(ds.map Sl.val ++ List.replicate (N.length - ds.length) Sl.no)[i]? = some (.obj t)→False:=fun i t h=>by rcases no i _ h with ⟨d,e⟩ | e <;> cases e
  exact ⟨fun _=>[],fun i t h=>(n1 i t h).elim,fun i j t d b h=>(n1 i t h).elim,fun i j t u _ h=>(n1 i t h).elim,fun i t h=>by rcases no i _ h with ⟨d,e⟩ | e <;> cases e⟩
theorem fnD {P:Program}{w:World}{K:PySem.W.Frag}{mg:Str→Option Value}{base:Heap}{x qual:Str}{st:Stmt}{f:Addr}{fd:FuncData}{N ps:List Str}{k:Nat}{b:DE→Option Out} (Fn:Fun K x qual st f fd) (S:aM N ps (al st))
  (hbody:∀ (cdv:Value) (A:Around) (outer:List Env) (s:Shared) (H:Hp) (E:XK),da k (A.deeper (envOfC qual (al st) s.heap.objs.size f cdv)) →
   Ess (i5 CX0 P w K mg base N qual (al st) f cdv A outer s H E).nox (dL st) b):bu P w K mg base CX0 (k + 1) f fd ps (spD ps.length (ci ps.length N.length b)):=by
 refine Fn.ok S (fun vs H Q E h=>?_) (fun cdv A outer s H vs Q E hr h=>?_)
 ·obtain ⟨F,ds,d,_,r,hl,_⟩:=h
  rw [r.length,hl]
 ·obtain ⟨F,ds,d,hs,r,hl,hg,q⟩:=h
  refine ⟨_,(hbody cdv A outer s H E hr).h,?_⟩
  unfold ci at hg
  rw [if_pos hl] at hg
  cases hb:b (ds.map Sl.val ++ List.replicate (N.length - ps.length) Sl.no) with
  | none=>rw [hb] at hg; cases hg
  | some rr =>
   rw [hb] at hg
   have k0:=kh (N:=N) hs r
   rw [hl] at k0
   refine ⟨(F,H),F,_,rr,k0,hb,?_⟩
   cases rr with
   | rt d'=>cases hg; exact fun v F' H' x r'=>q v F' H' x r'
   | nx E'=>cases hg; exact fun σ' F' H' k' _=>q .non F' H' k'.ent .non
   | bk E'=>cases hg
   | ct E'=>cases hg
open PySem.W in
theorem Ar {ns:List Int} (h:WData.layableAll [WData.list (ns.map WData.int)]=true):∀ n ∈ ns,Builtin.Int.intBits n≤2 ^ 20:=by
 have h1:(WData.list (ns.map WData.int)).layable=true:=by
  have:=h
  simp only [WData.layableAll,Gn,List.all_nil,GV] at this
  exact this
 intro n hn
 have h2:=layableW_item h1 (WData.int n) (List.mem_map.mpr ⟨n,hn,rfl⟩)
 have h3:=(layableW_iff.mp h2).2.2
 exact h3
def nz (K:PySem.W.Frag):Bool:=K.all fun p => !(p.2.cls == Value.type "list")
theorem pk {K:PySem.W.Frag} (h:nz K=true) {a:Addr}{o:Obj} (e:K.lookup a=some o):o.cls ≠ Value.type "list" := by
 intro hc
 have hm:(a,o) ∈ K:=by
  clear h
  induction K with
  | nil=>cases e
  | cons p r ih =>
   obtain ⟨b,u⟩:=p
   rw [FY] at e
   cases hb:a == b with
   | true =>
    rw [hb] at e
    have e1:a=b:=by simpa using hb
    have e2:u=o:=by simpa using e
    rw [e1,e2]; exact Fd
   | false=>rw [hb] at e; exact E7 _ (ih e)
 have:=List.all_eq_true.mp h (a,o) hm
 rw [hc] at this
 simp at this
theorem B4 {K:PySem.W.Frag}{H:Hp}{a:Addr}{ns:List Int}{g:List D→Option D} (hK:∀ o,K.lookup a=some o→o.cls ≠ Value.type "list") (hS:SqL K H a (ns.map V.int)) (hO:CT H) (law:g [.scr ns]=some (.bl true)) :
  spD 1 g [.ref a] H (fun v _=>v=.bl true) fun _ _ _=>False:=by
 rcases hS with hS | ⟨o,its,n,hl,hc,_⟩
 ·have e:∃ o,H a=some (.frz o (.lst (ns.map V.int))):=by
   rcases hS with hS | hS
   ·rcases hO a with z | ⟨o,xs,z⟩
    ·rw [hS] at z; cases z
    ·rw [hS] at z; cases z
   ·exact hS
  obtain ⟨o,e⟩:=e
  refine ⟨H,[.scr ns],.bl true,fun _ _ q=>q,.cons (.scr e) .nil,rfl,law,fun v F' H' x r=>?_⟩
  cases r
  rfl
 ·exact absurd hc (hK o hl)
section
variable {X:Cx}{a b e:Expr}{pos:Pos}{f g:DE→Option D}
def c3:D→Option Key
 | .int i=>some (.inl (some i))
 | .non=>some (.inl none)
 | .str x=>some (.inr x)
 | _=>none
theorem el {F H:Hp}{v:V}{d:D}{k:Key} (h:c3 d=some k) (r:OB F H v d):v=kV k:=by
 match d,h with
 | .int i,h=>cases h; rw [r.int]; rfl
 | .non,h=>cases h; rw [r.non]; rfl
 | .str x,h=>cases h; rw [r.str]; rfl
def nR (_:DE):Option D:=some (.dic [])
theorem jz:Ev X .F (.Dict [] [] pos) nR:=PE.by wS fun σ H Q zz105_0=>by
 obtain ⟨B,F,E,d,k,q,w⟩:=zz105_0
 cases q
 intro p hp
 exact w _ F _ (Ext.lay k.sub hp) ⟨p,_,rfl,hp,aw,nofr k.sub hp,RepK.nil⟩
def ym (f g:DE→Option D) (E:DE):Option D:=(f E).bind fun x=>(c3 x).bind fun k=>(g E).map fun v=>.dic [(k,v)]
theorem z9 (ha:Ev X .V a f) (hb:Ev X .V b g):Ev X .F (.Dict [some a] [b] pos) (ym f g):=PE.by (zu (wF ha.h hb.h zh) rfl rfl (by simp) (by simp)) fun σ H Q zz106_0=>by
 obtain ⟨B,F,E,d,k,q,w⟩:=zz106_0
 unfold ym at q
 cases h1:f E with
 | none=>simp [h1] at q
 | some x =>
  cases h2:c3 x with
  | none=>simp [h1,h2] at q
  | some ky =>
   cases h3:g E with
   | none=>simp [h1,h2,h3] at q
   | some y =>
    simp only [h1,h2,h3,EG,EI] at q
    cases q
    intro p hp
    have x0:Ext F H F (upd H p (.dK [])):=Ext.lay k.sub hp
    have fp:F p=none:=nofr k.sub hp
    refine ⟨B,F,E,x,k.ext x0,h1,fun v F1 H1 x1 r1=>⟨B,F1,E,y,(k.ext x0).ext x1,h3,fun u F2 H2 x2 r2=>?_⟩⟩
    have x12:=x1.trans x2
    have hHp:H2 p=some (.dK []):=x12.same p _ aw
    have f2p:F2 p=none:=x12.new p fp (by rw [aw]; simp)
    refine ⟨hHp,[(ky,u)],?_,by simp,?_⟩
    ·rw [el (F:=F1) (H:=H1) h2 (.inl r1)]; rfl
    ·have x3:Ext F (upd H p (.dK [(ky,u)])) F2 (upd H2 p (.dK [(ky,u)])):=x12.stepD fp
     refine w _ F2 _ ((Ext.lay k.sub hp).trans x3) ⟨p,_,rfl,hp,aw,f2p,?_⟩
     exact RepK.cons r2 .nil
end
abbrev DR:=xg
theorem fnG {P:Program}{w:World}{K:PySem.W.Frag}{mg:Str→Option Value}{base:Heap}{x qual:Str}{st:Stmt}{f:Addr}{fd:FuncData}{N ps:List Str}{k k1 n m:Nat}{b:DE→Option Out}{g:List D→Option D} (Fn:Fun K x qual st f fd) (S:aM N ps (al st))
  (hn:ps.length=n) (hm:N.length=m) (hk:k + 1=k1) (hg:g=ci n m b)
  (hbody:∀ (cdv:Value) (A:Around) (outer:List Env) (s:Shared) (H:Hp) (E:XK),da k (A.deeper (envOfC qual (al st) s.heap.objs.size f cdv)) →
   Ess (i5 CX0 P w K mg base N qual (al st) f cdv A outer s H E).nox (dL st) b):bu P w K mg base CX0 k1 f fd ps (spD n g):=by
 subst hn hm hk hg
 exact fnD Fn S hbody
section
variable {X:Cx}
theorem aA (i:Nat) {x:Str}{pos:Pos} (hN:X.N[i]? = some x:=by rfl) (hv:Vis X.env.scope x:=by first | exact Or.inl rfl | exact Or.inr (Or.inl rfl) | exact Or.inr (Or.inr rfl)) (hd:(x == ("__debug__" : Str))=false:=by decide)
  (hcd:(x == ("__classdict__" : Str))=false:=by decide):Ev X .V (.Name x pos) (var i):=Co i (kg hN hv hd hcd)
theorem ak (i:Nat) {x:Str}{pos:Pos} (hN:X.N[i]? = some x:=by rfl) (hv:Vis X.env.scope x:=by first | exact Or.inl rfl | exact Or.inr (Or.inl rfl) | exact Or.inr (Or.inr rfl)) (hd:(x == ("__debug__" : Str))=false:=by decide)
  (hcd:(x == ("__classdict__" : Str))=false:=by decide):Ev X .O (.Name x pos) (ac i):=zZ i (kg hN hv hd hcd)
end
section
variable {X:Cx}{a b e:Expr}{pos apos cpos spos:Pos}{f g:DE→Option D}
theorem we {α:Type}{l:List α}{i:Nat}{x:α} (h:l[i]? = some x):l.set i x=l:=by
 obtain ⟨hi,rfl⟩:=List.getElem?_eq_some_iff.mp h
 exact List.set_getElem_self hi
theorem Ok.rewrite {B:Hp×Hp}{F H:Hp} {σ:St}{E:DE} (k:Ok B F H σ E) {i:Nat}{d d':D}{p:Addr}{o':HO} (h:E[i]? = some (.own d)) (hs:σ[i]? = some (some (.ref p))) (r:fT F o' d'):Ok B F (upd H p o') σ (E.set i (.own d')):=by
 obtain ⟨q,o,h1,h2,h3,h4,h5⟩:=k.own i d h
 have e:p=q:=by rw [hs] at h1; cases h1; rfl
 subst e
 have z:=k.put_own i h3 h4 r (fun j e' hj he hq=>k.sep j i e' d p hj he h hq hs) (let ⟨fp,m⟩:=k.ob; ⟨fp,m,fun j t hb=>m.sep j i t d p hb h hs⟩)
 rwa [we hs] at z
def dl (i:Nat) (f:DE→Option D) (E:DE):Option Out:=match E[i]? with
 | some (.own (.lst ds))=>(f E).bind fun d=>if ds.length < sizeLine then some (.nx (E.set i (.own (.lst (ds ++ [d]))))) else none
 | _=>none
theorem sL {B:Hp×Hp}{F H:Hp} {σ:St}{E:DE} (k:Ok B F H σ E) {i:Nat}{ds:List D} (h:E[i]? = some (.own (.lst ds))):∃ p vs,σ[i]? = some (some (.ref p))∧H p=some (.lst vs)∧F p=none∧Reps F vs ds:=by
 obtain ⟨q,o,h1,h2,h3,h4,h5⟩:=k.own i _ h
 cases o with
 | lst vs=>exact ⟨q,vs,h1,h2,h3,h5⟩
 | _=>exact False.elim h5
theorem sM {B:Hp×Hp}{F H:Hp} {σ:St}{E:DE} (k:Ok B F H σ E) {i:Nat}{ds:List (Key×D)} (h:E[i]? = some (.own (.dic ds))):∃ p vs,σ[i]? = some (some (.ref p))∧H p=some (.dK vs)∧F p=none∧RepK F vs ds:=by
 obtain ⟨q,o,h1,h2,h3,h4,h5⟩:=k.own i _ h
 cases o with
 | dK vs=>exact ⟨q,vs,h1,h2,h3,h5⟩
 | _=>exact False.elim h5
theorem de {i:Nat}{o:Expr} (ho:PE X o (gM i)) (he:Ev X .V e f) (hbase:attributeBase o "append" X.env (eval o X.env)=eval o X.env:=by rfl)
  (hfew:((backTo cpos (starEach [e] X.env)).all (fun x => !x.1) && (backToKw cpos (keywordEach [] X.env)).all (fun x=>x.1.isSome) && decide (([e]:List Expr).length + ([]:List Keyword).length + (if ([]:List Keyword).isEmpty then 0 else 1) < 30))=true:=by rfl)
  (hline:(apos.endLine == cpos.line)=true:=by rfl) (hns:aP e=true:=by rfl) (hs:swapsWith (.Call (.Attribute o "append" apos) [e] [] cpos) none spos.line X.env=pure false:=by rfl) :
  Es X (.Expr (.Call (.Attribute o "append" apos) [e] [] cpos) spos) (dl i f) :=
 PS.by (io (sH Hq PySem.F.slot_list_append PySem.F.type_list_append iT ho (cI he.h ej (aE e [] X.env hns)) hbase hfew hline (aE e [] X.env hns) rfl) hs) fun Z σ H zz107_0=>by
  obtain ⟨B,F,E,r,k,q,w⟩:=zz107_0
  unfold dl at q
  split at q
  ·rename_i ds hd
   cases hf:f E with
   | none=>simp [hf] at q
   | some d =>
    simp only [hf,EG] at q
    split at q
    ·rename_i hz
     cases q
     obtain ⟨p,vs,h1,h2,h3,h4⟩:=sL k hd
     refine ⟨.ref p,h1,.inl ⟨rfl,vs,SqL.of h2⟩,B,F,E,d,k,hf,fun v F' H' x rv=>⟨p,vs,v,rfl,rfl,x.same _ _ h2,by rw [h4.length]; exact hz,?_⟩⟩
     exact w σ F' _ ((k.ext x).rewrite hd h1 (o':=.lst (vs ++ [v])) ((h4.mono x.fr).append (.cons rv .nil))) x.fr
    ·cases q
  ·cases q
def AN (K:PySem.W.Frag):V→List V→Hp→VK→Prop:=fun x vs H Q=>∃ l b xs zs,x=.ref l∧vs=[.ref b]∧H l=some (.lst xs)∧(H b=some (.lst zs)∨SqT K H b zs)∧xs.length + zs.length≤sizeLine∧Q .non (upd H l (.lst (xs ++ zs)))
theorem qU:MtM X "list.extend" (AN X.K):=by
 intro pins s σ H x vs v us Q I rx rv h
 obtain ⟨l,b,xs,zs,rfl,rfl,hH,hB,hz,q⟩:=h
 rcases hB with hB | hB
 ·exact uS pins s σ H _ _ v us Q I rx rv ⟨l,b,xs,zs,rfl,rfl,hH,hB,hz,q⟩
 cases rx
 obtain ⟨u,rfl,ru⟩:=rv.one
 cases ru
 obtain ⟨z,its,n,r,hl,e⟩:=I.lstM hH
 obtain ⟨its2,r2,ht,hz2⟩:=I.tuple hB
 obtain ⟨o2,ho2,hc2,n2,hd2⟩:=id ht
 have hsz:its.toArray.size + its2.toArray.size≤sizeLine:=by rw [E_,E_,← r2.length]; omega
 have hlong:¬ (!its.toArray.isEmpty && Builtin.List.listTooLong (its.toArray.size + its2.toArray.size))=true:=by
  rw [pf hsz,Fl]
  exact Fe
 refine Ge F.slot_list_extend ⟨_,e,rfl⟩ F.entry_list_extend ?_ (F.args_list_extend_2 _ _)
 show wpAny _ _ (Builtin.List.listExtendWith (.ref l) (.ref b) .none) _ _ s
 unfold Builtin.List.listExtendWith
 refine ET (GW (T := "tuple") ⟨o2,ho2,hc2⟩ ?_)
 rw [if_pos (by rw [show (Value.type "tuple" == Value.type "tuple")=true from rfl]; simp)]
 refine ET (listItems_at ho2 hd2 ?_)
 refine ET (listItems_at e rfl ?_)
 rw [if_neg hlong]
 refine ET (listUpdate_at e rfl ?_ (by rw [E_]; omega) (by simp only [Array.size_append]; omega))
 refine EY ⟨_,rfl,?_⟩
 refine ⟨.non,_,I.lset (t':=s.toks) (its':=its ++ its2) hH e (by simp) (r.append r2) ?_,rfl,q⟩
 rw [Fb]
 omega
def fZ:D→Option (List D)
 | .lst xs=>some xs
 | .tup xs=>some xs
 | _=>none
def lv (i:Nat) (f:DE→Option D) (E:DE):Option Out:=match E[i]? with
 | some (.own (.lst ds))=>(f E).bind fun d=>(fZ d).bind fun es=>if ds.length + es.length≤sizeLine then some (.nx (E.set i (.own (.lst (ds ++ es))))) else none
 | _=>none
theorem mB {i:Nat}{o:Expr} (ho:PE X o (gM i)) (he:Ev X .O e f) (hbase:attributeBase o "extend" X.env (eval o X.env)=eval o X.env:=by rfl)
  (hfew:((backTo cpos (starEach [e] X.env)).all (fun x => !x.1) && (backToKw cpos (keywordEach [] X.env)).all (fun x=>x.1.isSome) && decide (([e]:List Expr).length + ([]:List Keyword).length + (if ([]:List Keyword).isEmpty then 0 else 1) < 30))=true:=by rfl)
  (hline:(apos.endLine == cpos.line)=true:=by rfl) (hns:aP e=true:=by rfl) (hs:swapsWith (.Call (.Attribute o "extend" apos) [e] [] cpos) none spos.line X.env=pure false:=by rfl) :
  Es X (.Expr (.Call (.Attribute o "extend" apos) [e] [] cpos) spos) (lv i f) :=
 PS.by (io (sH Hq PySem.F.slot_list_extend PySem.F.type_list_extend qU ho (cI he.h ej (aE e [] X.env hns)) hbase hfew hline (aE e [] X.env hns) rfl) hs) fun Z σ H zz108_0=>by
  obtain ⟨B,F,E,r,k,q,w⟩:=zz108_0
  unfold lv at q
  split at q
  ·rename_i ds hd
   cases hf:f E with
   | none=>simp [hf] at q
   | some d =>
    simp only [hf,EG] at q
    cases hq:fZ d with
    | none=>simp [hq] at q
    | some es =>
    simp only [hq,EG] at q
    split at q
    ·rename_i hz
     cases q
     obtain ⟨p,vs,h1,h2,h3,h4⟩:=sL k hd
     refine ⟨.ref p,h1,.inl ⟨rfl,vs,SqL.of h2⟩,B,F,E,d,k,hf,fun v F' H' x rv=>?_⟩
     have fin:∀ (c:Addr) (zs:List V),(H' c=some (.lst zs)∨SqT X.K H' c zs)→Reps F' zs es→AN X.K (.ref p) [.ref c] H' fun _ H1=>Z.nx σ H1:=fun c zs hc rz =>
      ⟨p,c,vs,zs,rfl,rfl,x.same _ _ h2,hc,by rw [h4.length,rz.length]; exact hz,w σ F' _ ((k.ext x).rewrite hd h1 (o':=.lst (vs ++ zs)) ((h4.mono x.fr).append rz)) x.fr⟩
     cases d with
     | lst xs =>
      cases hq
      obtain ⟨c,zs,rfl,hc,rz⟩:=OB.lst x.sub rv
      exact fin c zs (.inl hc) rz
     | tup xs =>
      cases hq
      obtain ⟨c,zs,rfl,hc,rz⟩:=OB.tup rv
      exact fin c zs (.inr (SqT.of (x.sub _ _ hc))) rz
     | _=>cases hq
    ·cases q
  ·cases q
def nZ (i:Nat) (f:DE→Option D) (E:DE):Option Out:=match E[i]? with
 | some (.val (.int n))=>(f E).bind fun d=>match d with
  | .int m=>some (.nx (E.set i (.val (.int (n + m)))))
  | _=>none
 | _=>none
theorem x9 {i:Nat}{x:Str}{pos':Pos} (hN:X.N.Nodup) (hi:X.N[i]? = some x) (hx:Loc X.env.scope x) (he:Ev X .V e f) (hf:X.fn x=true∨X.env.scope.names.lookup x=some .local:=by first | exact .inl rfl | exact .inr rfl | assumption) :
  Es X (.AugAssign (.Name x pos') .Add e pos) (nZ i f):=PS.by (BG hN hi hx he.h Ck hf) fun Z σ H zz109_0=>by
 obtain ⟨B,F,E,r,k,q,w⟩:=zz109_0
 unfold nZ at q
 split at q
 ·rename_i n hn
  cases hf:f E with
  | none=>simp [hf] at q
  | some d =>
   rw [hf] at q
   cases d with
   | int m =>
    cases q
    obtain ⟨v,h1,h2⟩:=k.val i _ hn
    cases h2
    refine ⟨_,h1,B,F,E,.int m,k,hf,fun u F' H' x r=>?_⟩
    cases r
    exact ⟨n,m,rfl,rfl,w _ F' H' ((k.ext x).set_val (.int _) i) x.fr⟩
   | _=>cases q
 ·cases q
def sh (f:DE→Option D) (gf:D→DE→Option DE) (E:DE):Option Out:=(f E).bind fun d=>(gf d E).map Out.nx
def dQ (kvs:List (Key×D)) (k:Key):Option D:=(kvs.find? fun p=>decide (p.1=k)).map (·.2)
def jf (fo fk fe:DE→Option D) (E:DE):Option D:=(fo E).bind fun d=>match d with
 | .dic kvs=>(fk E).bind fun x=>(c3 x).bind fun k=>(fe E).map fun y=>(dQ kvs k).getD y
 | _=>none
theorem RepK.val {F:Hp}{k:Key}:∀ {vs:List (Key×V)} {ds:List (Key×D)},RepK F vs ds→(∀ d,dQ ds k=some d→∃ v,dz vs k=some v∧Rep F v d)∧(dQ ds k=none→dz vs k=none)
 | _,_,.nil=>⟨fun d h=>(by cases h),fun _=>rfl⟩
 | _,_,@RepK.cons _ k' v d vs ds r t=>by
  obtain ⟨h1,h2⟩:=RepK.val (k:=k) t
  by_cases e:k'=k
  ·have e1:dQ ((k',d) :: ds) k=some d:=by simp [dQ,e]
   have e2:dz ((k',v) :: vs) k=some v:=by simp [dz,e]
   refine ⟨fun d' h=>?_,fun h=>?_⟩
   ·rw [e1] at h; cases h; exact ⟨v,e2,r⟩
   ·rw [e1] at h; cases h
  ·have e1:dQ ((k',d) :: ds) k=dQ ds k:=by simp [dQ,e]
   have e2:dz ((k',v) :: vs) k=dz vs k:=by simp [dz,e]
   rw [e1,e2]
   exact ⟨h1,h2⟩
theorem RepK.length {F:Hp}:∀ {vs:List (Key×V)} {ds:List (Key×D)},RepK F vs ds→vs.length=ds.length
 | _,_,.nil=>rfl
 | _,_,.cons _ t=>by simp [RepK.length t]
theorem iW (h:X.A.units + 64 < cLine):X.A.units + 1 < cLine:=by omega
theorem tm {o:Expr}{fo fk fe:DE→Option D} (hu:X.A.units + 64 < cLine) (ho:Ev X .O o fo) (ha:Ev X .V a fk) (hb:Ev X .V b fe) (hbase:attributeBase o "get" X.env (eval o X.env)=eval o X.env:=by rfl)
  (hfew:((backTo cpos (starEach [a,b] X.env)).all (fun x => !x.1) && (backToKw cpos (keywordEach [] X.env)).all (fun x=>x.1.isSome) && decide (([a,b]:List Expr).length + ([]:List Keyword).length + (if ([]:List Keyword).isEmpty then 0 else 1) < 30))=true:=by rfl)
  (hline:(apos.endLine == cpos.line)=true:=by rfl) (htr:backTo cpos (starEach [a,b] X.env)=[(false,eval a X.env),(false,eval b X.env)]:=by rfl):Ev X .V (.Call (.Attribute o "get" apos) [a,b] [] cpos) (jf fo fk fe) :=
 PE.by (wT (iW hu) ho.h ha.h hb.h ⟨hbase,hfew,hline,htr⟩) fun σ H Q zz110_0=>by
  obtain ⟨B,F,E,d,k,q,w⟩:=zz110_0
  unfold jf at q
  cases h1:fo E with
  | none=>simp [h1] at q
  | some dd =>
   rw [h1] at q
   cases dd with
   | dic kvs =>
    simp only [EG] at q
    cases h2:fk E with
    | none=>simp [h2] at q
    | some x =>
     cases h3:c3 x with
     | none=>simp [h2,h3] at q
     | some ky =>
      cases h4:fe E with
      | none=>simp [h2,h3,h4] at q
      | some y =>
       simp only [h2,h3,h4,EG,EI] at q
       cases q
       refine ⟨B,F,E,_,k,h1,fun v F1 H1 x1 r1=>?_⟩
       obtain ⟨p,vs,rfl,hp,rk⟩:=OB.dic x1.sub r1
       refine ⟨p,rfl,.inl ⟨vs,hp⟩,B,F1,E,x,k.ext x1,h2,fun u F2 H2 x2 r2=>⟨B,F2,E,y,(k.ext x1).ext x2,h4,fun z F3 H3 x3 r3=>?_⟩⟩
       have e2:=el (F:=F2) (H:=H2) h3 (.inl r2)
       have hp3:Rd H3 p (.dK vs):=qJ x3.same (qJ x2.same hp)
       refine ⟨dz vs ky,by rw [e2]; exact nS hp3,?_⟩
       have x13:=(x1.trans x2).trans x3
       obtain ⟨v1,v2⟩:=RepK.val (k:=ky) (rk.mono (x2.trans x3).fr)
       cases hv:dQ kvs ky with
       | some d' =>
        obtain ⟨v',e',r'⟩:=v1 d' hv
        rw [e']
        rw [hv] at w
        exact w v' F3 H3 x13 r'
       | none =>
        rw [v2 hv]
        rw [hv] at w
        exact w z F3 H3 x13 r3
   | _=>cases q
def hJ:D→Option D
 | .non=>some (.bl true)
 | _=>some (.bl false)
def df:D→Option D
 | .non=>some (.bl false)
 | _=>some (.bl true)
theorem sy {F:Hp}{v:V}{d:D} (r:Rep F v d):hJ d=some (.bl (decide (v=.non)))∧df d=some (.bl (!decide (v=.non))):=by
 cases r <;> exact ⟨by simp [hJ],by simp [df]⟩
theorem pK (σ:St) (H:Hp) (Q:VK) (h:tM .V (un hJ f) σ H Q):tOp (fun x y H Q=>y=.non∧Q (.bl (decide (x=.non))) H) (tM .V f) (tC .non) σ H Q:=by
 obtain ⟨B,F,E,d,k,q,w⟩:=h
 unfold un at q
 cases hf:f E with
 | none=>simp [hf] at q
 | some x =>
  simp only [hf,EG] at q
  refine ⟨B,F,E,x,k,hf,fun v F1 H1 x1 r1=>⟨rfl,?_⟩⟩
  rw [(sy r1).1] at q
  cases q
  exact w _ F1 H1 x1 (.bl _)
theorem pI (σ:St) (H:Hp) (Q:VK) (h:tM .V (un df f) σ H Q):tOp (fun x y H Q=>y=.non∧Q (.bl (!decide (x=.non))) H) (tM .V f) (tC .non) σ H Q:=by
 obtain ⟨B,F,E,d,k,q,w⟩:=h
 unfold un at q
 cases hf:f E with
 | none=>simp [hf] at q
 | some x =>
  simp only [hf,EG] at q
  refine ⟨B,F,E,x,k,hf,fun v F1 H1 x1 r1=>⟨rfl,?_⟩⟩
  rw [(sy r1).2] at q
  cases q
  exact w _ F1 H1 x1 (.bl _)
theorem rj {j p} (h:Ev X .V e f):Ev X .V (.Compare e [.Is] [.Constant .none j p] pos) (un hJ f):=PE.by (sG wX h.h nk (eU _)) pK
theorem Cp {j p} (h:Ev X .V e f):Et X (.Compare e [.Is] [.Constant .none j p] pos) (tst (un hJ f)):=PT.by (ju wX h.h nk (eU _)) fun σ H Q q=>pK σ H _ (fU σ H Q q)
theorem mw {j p} (h:Ev X .V e f):Et X (.Compare e [.IsNot] [.Constant .none j p] pos) (tst (un df f)):=PT.by (ju zA h.h nk (eU _)) fun σ H Q q=>pI σ H _ (fU σ H Q q)
def cW:List D→Option D
 | [.int i,.int j]=>some (.int (if j < i then j else i))
 | _=>none
def AT:List D→Option D
 | [.int i,.int j]=>some (.int (if i < j then j else i))
 | _=>none
theorem qV {ds:List D}{d:D} (h:cW ds=some d):∃ i j,ds=[.int i,.int j]∧d=.int (if j < i then j else i):=by
 unfold cW at h
 split at h
 ·cases h
  exact ⟨_,_,rfl,rfl⟩
 ·cases h
theorem Bt:RdC .V (fun xs H Q=>∃ i j,xs=[V.int i,.int j]∧Q (.int (if j < i then j else i)) H) cW:=fun F H vs ds d Q s r h q=>by
 obtain ⟨i,j,rfl,rfl⟩:=qV h
 obtain ⟨v1,ws,rfl,r1,r⟩:=r.c1
 obtain ⟨v2,ws,rfl,r2,r⟩:=r.c1
 obtain rfl:=r.c0
 cases r1
 cases r2
 exact ⟨i,j,rfl,q _ F H (Ext.refl s) (.int _)⟩
theorem nO {p:Pos}{f:DE→Option (List D)} (hc:X.calm=true) (hg:Gl X "min") (hm:X.mg "min" = none) (hv:bootBuiltins "min" = some (.builtin "min")) (ha:Ea X [a,b] f) (h1:aP a=true:=by rfl) (h2:aP b=true:=by rfl) :
  Ev X .V (.Call (.Name "min" p) [a,b] [] pos) (eY cW f) :=
 PE.by (gd (vp hc) hg hm hv ha.h (by decide) (by decide) (aE a [b] X.env h1) (dZ pos X.env [b] (by rw [Gn,h2]; rfl))) (yz Bt)
def pL:D→Option D
 | .int i=>some (.int i)
 | .bl k=>some (.int (if k then 1 else 0))
 | _=>none
theorem Bv:jr .V (fun xs H Q=>(∃ i,xs=[V.int i]∧Q (.int i) H)∨∃ k,xs=[V.bl k]∧Q (.int (if k then 1 else 0)) H) pL:=fun F H v x d Q s rx h q=>by
 match x,h with
 | .int i,h=>cases E4 h; cases rx.int; exact .inl ⟨i,rfl,q _ F H (Ext.refl s) (.int _)⟩
 | .bl k,h=>cases E4 h; cases rx.bl; exact .inr ⟨k,rfl,q _ F H (Ext.refl s) (.int _)⟩
theorem tj {p:Pos} (hg:Gl X "int") (hm:X.mg "int" = none) (hv:bootBuiltins "int" = some (.type "int")) (ha:Ev X .O e f) (he:aP e=true:=by rfl):Ev X .V (.Call (.Name "int" p) [e] [] pos) (un pL f) :=
 ri vt Bv hg hm hv ha (by decide) (by decide) he
theorem nN {n:Int}{j p pos}:Ev X .V (.UnaryOp .USub (.Constant (.int n) j p) pos) (cst (.int (-n))):=PE.by (DD A6 wQ) fun σ H Q zz111_0=>by
 obtain ⟨B,F,E,d,k,q,w⟩:=zz111_0
 cases q
 exact ⟨n,rfl,w _ F H (Ext.refl k.sub) (.int _)⟩
end
def noS (_:DE):Option Out:=none
theorem xZ {X:Cx}{st:Stmt}:Es X st noS:=PS.by wD fun Z σ H ⟨B,F,E,r,k,q,w⟩=>by cases q
theorem mz {X:Cx}{sts:List Stmt}:Ess X sts noS:=PSs.by uz fun Z σ H ⟨B,F,E,r,k,q,w⟩=>by cases q
theorem md {js:List Nat}{i:Nat}{s:Sl} (hi:i ∈ js):∀ E:DE,aV js (E.set i s)=aV js E:=by
 induction js with
 | nil=>cases hi
 | cons j r ih =>
  intro E
  show aV r ((E.set i s).set j .no)=aV r (E.set j .no)
  by_cases h:i=j
  ·subst h; rw [List.set_set]
  ·rw [List.set_comm _ _ h]
   rcases List.mem_cons.mp hi with e | e
   ·exact absurd e h
   ·exact ih e _
theorem pB (js:List Nat) (E:DE):aV js (aV js E)=aV js E:=by
 have key:∀ (ks:List Nat) (E:DE),(∀ k ∈ ks,k ∈ js)→aV js (aV ks E)=aV js E:=by
  intro ks
  induction ks with
  | nil=>intro E _; rfl
  | cons k r ih =>
   intro E h
   show aV js (aV r (E.set k .no))=_
   rw [ih _ fun x hx=>h x (E7 _ hx),md (h k Fd)]
 exact key js E fun _ h=>h
def i9 (js:List Nat) (gf:D→DE→Option DE):Prop:=∀ d E E1,gf d E=some E1→aV js E1=aV js E
theorem i9.js {js:List Nat}{gf:D→DE→Option DE} (h:i9 js gf):k_ js gf:=fun d E E1 e=>by rw [h d _ E1 e,pB]
theorem sN {js:List Nat}{i:Nat} (h:i ∈ js):i9 js (nmG i):=fun d E E1 e=>by
 cases e; exact md h E
def jD (js:List Nat) (gf:List D→DE→Option DE):Prop:=∀ ds E E1,gf ds E=some E1→aV js E1=aV js E
theorem w5 {js:List Nat}:jD js dk:=fun ds E E1 e=>by
 cases ds with
 | nil=>cases e; rfl
 | cons _ _=>cases e
theorem l6 {js:List Nat}{g:D→DE→Option DE}{gs:List D→DE→Option DE} (h1:i9 js g) (h2:jD js gs):jD js (bh g gs):=fun ds E E1 e=>by
 cases ds with
 | nil=>cases e
 | cons d r =>
  have e':(g d E).bind (fun E'=>gs r E')=some E1:=e
  cases hg:g d E with
  | none=>rw [hg] at e'; cases e'
  | some E2 =>
   rw [hg] at e'
   rw [h2 r E2 E1 e',h1 d E E2 hg]
theorem w4 {js:List Nat}{n:Nat}{gs:List D→DE→Option DE} (h:jD js gs):i9 js (dj n gs):=fun d E E1 e=>by
 cases d with
 | tup ds =>
  have e':(if ds.length=n then gs ds E else none)=some E1:=e
  split at e'
  ·exact h ds E E1 e'
  ·cases e'
 | _=>cases e
theorem ul1 {us:List Value} (hl:us.length=1):∃ a,us=[a]:=List.length_eq_one_iff.mp hl
theorem ul2 {us:List Value} (hl:us.length=2):∃ a b,us=[a,b]:=by
 cases us with
 | nil=>cases hl
 | cons a us =>
  obtain ⟨b,rfl⟩:=ul1 (Nat.succ.inj hl)
  exact ⟨a,b,rfl⟩
theorem ul3 {us:List Value} (hl:us.length=3):∃ a b c,us=[a,b,c]:=by
 cases us with
 | nil=>cases hl
 | cons a us =>
  obtain ⟨b,c,rfl⟩:=ul2 (Nat.succ.inj hl)
  exact ⟨a,b,c,rfl⟩
end L2.Cu
namespace L2
open PySem PySem.Spec PyProof.Rows
namespace SF
theorem slot_set_iter:Slot "set" "__iter__" "set.__iter__" :=
 .of (owner := "set") (n := "__iter__") (by rw [typeLookup_type,HK]; kernel_rfl) (by decide +kernel) (by decide +kernel) (by decide +kernel)
  (by first | exact .inl (by decide +kernel) | exact .inr (by decide +kernel)) (by rw [GR]; kernel_rfl)
theorem entry_set_iter:entryFor table "set.__iter__" = some Builtin.«frozenset.__iter__» :=
 entryFor_alias (id' := "frozenset.__iter__") (by kernel_rfl) rfl (by decide +kernel) (by kernel_rfl)
theorem args_set_iter_1 (a:Value):argsOk "set.__iter__" ⟨[a],[]⟩:=by unfold argsOk; kernel_rfl
theorem slot_setit_next:Slot "set_iterator" "__next__" "set_iterator.__next__" :=
 .of (owner := "set_iterator") (n := "__next__") (by rw [typeLookup_type,HK]; kernel_rfl) (by decide +kernel) (by decide +kernel) (by decide +kernel)
  (by first | exact .inl (by decide +kernel) | exact .inr (by decide +kernel)) (by rw [GR]; kernel_rfl)
theorem entry_setit_next:entryFor table "set_iterator.__next__" = some Builtin.«set_iterator.__next__»:=entryFor_of_tree (by kernel_rfl)
theorem args_setit_next_1 (a:Value):argsOk "set_iterator.__next__" ⟨[a],[]⟩:=by unfold argsOk; kernel_rfl
end SF
abbrev dD (w:World):Bool:=w.params.followText "set-order"
def jq (prog:Program) (w:World) (h:Heap) (a:Addr) (S:Str→Bool) (n:Nat):Prop :=
 ∃ o es ep t,h.get? a=some o∧o.ExactSet∧o.data=.set es ep t∧ElemsOf (strKind prog w) es.toList∧(∀ k,S k=true ↔ ∃ e ∈ es.toList,(strKind prog w).is k e.2=true)
 ∧es.size < scanBound∧t.fits es.size=true∧es.size=n∧t.led=(!dD w)∧(es.size ≠ 0→t.plain=false)
theorem ll (t:SetTable) (n:Nat):(t.orStandIn n).led=t.led∧(t.plain=false→(t.orStandIn n).plain=false):=by
 unfold SetTable.orStandIn
 split
 ·exact ⟨rfl,fun h=>h⟩
 ·exact ⟨rfl,fun _=>rfl⟩
theorem q9 (t:SetTable) (es:Array (Int×Value)) (h:Int) (x:Value):(layNew t es h x).2.1.led=t.led∧(t.plain=false→(layNew t es h x).2.1.plain=false):=by
 unfold layNew
 split
 ·exact ll _ _
 ·exact ⟨rfl,fun _=>rfl⟩
theorem na (t:SetTable) (es:Array (Int×Value)) (wanted:Nat):(relayAll t es wanted).2.1.led=t.led∧(t.plain=false→(relayAll t es wanted).2.1.plain=false):=by
 unfold relayAll
 split
 ·rename_i t' order hr
  have e:t'.led=t.led∧t'.plain=t.plain:=by
   unfold SetTable.relaid SetTable.laid at hr
   cases hl:SetTable.layClean (SetTable.sizeAbove wanted - 1) (es.map (·.1)) with
   | none=>rw [hl] at hr; cases hr
   | some ow=>rw [hl] at hr; cases hr; exact ⟨rfl,rfl⟩
  dsimp only
  split
  ·exact ⟨e.1,fun h=>by rw [e.2]; exact h⟩
  ·exact ⟨rfl,fun _=>rfl⟩
 ·exact ⟨rfl,fun _=>rfl⟩
section
variable {prog:Program}{w:World}{A:Around}{E:Value→Shared→Prop}{s:Shared}
theorem jO {h:Heap}{a:Addr}{o:Obj}{es es':Array (Int×Value)} {ep:Nat}{t t':SetTable}{S':Str→Bool} (ho:h.get? a=some o) (hx:o.ExactSet) (hd:o.data=.set es ep t)
  (h1:ElemsOf (strKind prog w) es'.toList) (h2:∀ k,S' k=true ↔ ∃ e ∈ es'.toList,(strKind prog w).is k e.2=true) (h3:es'.size < scanBound) (h4:t'.fits es'.size=true) (h5:t'.led=(!dD w)) (h6:t'.plain=false) :
  (h.update a (Obj.putSet es' t')).get? a=some { o with data:=.set es' (ep + 1) t' }∧jq prog w (h.update a (Obj.putSet es' t')) a S' es'.size:=by
 obtain ⟨hg,_⟩:=SetOf_store (knd:=strKind prog w) ho hx hd h1 h2 h3 h4
 exact ⟨hg,_,es',ep + 1,t',hg,hx,rfl,h1,h2,h3,h4,rfl,h5,fun _=>h6⟩
theorem lS {g:Bool→Sem Unit} (hg:∀ (b:Bool) (s1:Shared) (Q':Unit→Shared→Prop),Q' () s1→wpAny (model prog w) A (g b) Q' E s1) {a:Addr}{o:Obj}{es es1:Array (Int×Value)} {ep:Nat}{t t2:SetTable}{S':Str→Bool}{wasDummy:Bool}{R:Option Bool→Shared→Prop}
  (ho:s.heap.get? a=some o) (hx:o.ExactSet) (hd:o.data=.set es ep t) (h1:ElemsOf (strKind prog w) es1.toList) (h2:∀ k,S' k=true ↔ ∃ e ∈ es1.toList,(strKind prog w).is k e.2=true) (h3:es1.size < scanBound)
  (h4:t2.fits es1.size=true) (h5:t2.led=(!dD w)) (h6:t2.plain=false) (h:∀ h',Heap.SameBut a s.heap h'→jq prog w h' a S' es1.size→R (some true) { s with heap:=h' }) :
  wpAny (model prog w) A (do
   storeSet a es1 t2
   if (!wasDummy && t2.tooFull)=true then do
    g (relayAll t2 es1 (SetTable.grown es1.size)).2.2
    storeSet a (relayAll t2 es1 (SetTable.grown es1.size)).1 (relayAll t2 es1 (SetTable.grown es1.size)).2.1
    pure (some true)
   else pure (some true)) R E s:=by
 refine ET (wpAny_storeSet_of ho hd ?_ (fits_of_scanBound h3))
 obtain ⟨q1,q2⟩:=jO ho hx hd h1 h2 h3 h4 h5 h6
 have sb:=Gz s.heap a (Obj.putSet es1 t2)
 split
 ·have p1:=relayAll_perm t2 es1 (SetTable.grown es1.size)
  have p2:=relayAll_fits t2 es1 (SetTable.grown es1.size)
  obtain ⟨p3,p4⟩:=na t2 es1 (SetTable.grown es1.size)
  generalize relayAll t2 es1 (SetTable.grown es1.size)=r at p1 p2 p3 p4 ⊢
  obtain ⟨es2,t3,gave⟩:=r
  dsimp only at p1 p2 p3 p4 ⊢
  have sz:es2.size=es1.size:=by rw [← FU,p1.length_eq,FU]
  refine ET (hg _ _ _ (ET (wpAny_storeSet_of q1 rfl ?_ (fits_of_scanBound (by rw [sz]; exact h3)))))
  obtain ⟨_,q3⟩:=jO (prog:=prog) (w:=w) (S':=S') q1 hx rfl (h1.perm p1) (fun k=>(h2 k).trans ⟨fun zz114_0=>by obtain ⟨e,m,z⟩:=zz114_0; exact ⟨e,p1.mem_iff.mpr m,z⟩,fun zz115_0=>by obtain ⟨e,m,z⟩:=zz115_0; exact ⟨e,p1.mem_iff.mp m,z⟩⟩) (by rw [sz]; exact h3) p2 (p3.trans h5) (p4 h6)
  rw [sz] at q3
  exact EY (h _ (sb.trans (Gz _ a _)) q3)
 ·exact EY (h _ sb q2)
theorem uL (x:Str) (t:Tok):hashByValue 8 (.str x t)=pure false:=rfl
theorem wf {a:Addr}{S:Str→Bool}{n:Nat}{k:Str}{tk:Tok}{Q:Bool→Shared→Prop} (hS:jq prog w s.heap a S n) (hroom:n + 1 < scanBound)
  (h:∀ h',Heap.SameBut a s.heap h'→jq prog w h' a (fun k'=>S k' || decide (k'=k)) (if S k then n else n + 1)→Q (!S k) { s with heap:=h' }) :
  wpAny (model prog w) A (setAddHashed a (.str k tk) ((strKind prog w).hash k)) Q E s:=by
 have hkey:(strKind prog w).is k (.str k tk)=true:=by show Value.isStrOf k (.str k tk)=true; simp [Value.isStrOf]
 have hsc:(Value.str k tk).scannable=true:=rfl
 obtain ⟨o,es,ep,t,ho,hx,hd,hel,hmem,hb,hf,hn,hled,hpl⟩:=hS
 unfold setAddHashed setAddHashedIn
 refine GJ (ET (wpAny_setState_of ho hd hf ?_))
 dsimp only
 rw [byScan_of hsc hb hel]
 simp only [↓reduceIte]
 unfold setAddByScan
 refine ET (ET (HR (ET (wpAny_setScan_of hkey ho hd hf hel ?_))))
 cases hr:List.findIdx? (fun e=>(strKind prog w).is k e.2) es.toList with
 | some j =>
  dsimp only
  obtain ⟨hj,hpj,_⟩:=List.findIdx?_eq_some_iff_getElem.mp hr
  have hSk:S k=true:=(hmem k).mpr ⟨es.toList[j],Fx hj,hpj⟩
  refine EY (EY ?_)
  have q:=h s.heap (Heap.SameBut.refl a s.heap) ⟨o,es,ep,t,ho,hx,hd,hel,fun k'=>by
   rw [Bool.or_eq_true,decide_eq_true_eq,← hmem k']
   exact ⟨fun z=>z.elim id (fun e=>e ▸ hSk),.inl⟩,hb,hf,by rw [hSk]; exact hn,hled,hpl⟩
  rw [hSk] at q
  exact q
 | none =>
  dsimp only
  have hSk:S k=false:=by
   cases hk:S k with
   | false=>rfl
   | true =>
    obtain ⟨e,he,hp⟩:=(hmem k).mp hk
    have z:=List.findIdx?_eq_none_iff.mp hr e he
    rw [hp] at z; cases z
  have gw:∀ (b:Bool) (s1:Shared) (Q':Unit→Shared→Prop),Q' () s1→wpAny (model prog w) A (match b with | true=>rule "set.scan.the-table-gave-way" | false=>pure ()) Q' E s1 :=
   fun b s1 Q' hq=>by cases b <;> first | exact EY hq | exact HR hq
  have p1:=layNew_perm t es ((strKind prog w).hash k) (.str k tk)
  have p2:=layNew_fits t es ((strKind prog w).hash k) (.str k tk)
  obtain ⟨p3,p4⟩:=q9 t es ((strKind prog w).hash k) (.str k tk)
  generalize layNew t es ((strKind prog w).hash k) (.str k tk)=L at p1 p2 p3 p4 ⊢
  obtain ⟨es1,t1,wasDummy,gave⟩:=L
  dsimp only at p1 p2 p3 p4 ⊢
  rw [Array.toList_push] at p1
  have hel1:=(hel.push hkey hsc).perm p1
  have hmem1:=fun k'=>mem_push_iff (knd:=strKind prog w) hkey hmem p1 k'
  have sz:es1.size=n + 1:=by
   rw [← FU,p1.length_eq,Fb,FU,hn]; rfl
  refine ET (gw _ _ _ ?_)
  have fin:∀ h',Heap.SameBut a s.heap h'→jq prog w h' a (fun k'=>S k' || decide (k'=k)) es1.size→Q true { s with heap:=h' }:=fun h' sb q=>by
   have z:=h h' sb
   rw [hSk] at z
   rw [sz] at q
   exact z q
  split
  ·refine ET ?_
   rw [uL]
   refine EY ?_
   refine lS gw ho hx hd hel1 hmem1 (by rw [sz]; exact hroom) ?_ ?_ ?_ ?_
   ·exact SetTable.fits_plain_off p2
   ·exact p3.trans hled
   ·rfl
   ·intro h' sb q; exact EY (fin h' sb q)
  ·rename_i hp
   refine ET (EY ?_)
   simp only [↓reduceIte]
   refine lS gw ho hx hd hel1 hmem1 (by rw [sz]; exact hroom) p2 (p3.trans hled) (by simpa using hp) ?_
   intro h' sb q; exact EY (fin h' sb q)
end
def ded (xs:List Str):List Str:=xs.foldl (fun acc x=>if x ∈ acc then acc else acc ++ [x]) []
theorem p5 (xs:List Str) (x:Str):ded (xs ++ [x])=if x ∈ ded xs then ded xs else ded xs ++ [x]:=by
 unfold ded; rw [G2]; rfl
theorem iD (xs:List Str):∀ i,(ded (xs.take i)).length≤i
 | 0=>by simp [ded]
 | i + 1=>by
  have ih:=iD xs i
  by_cases h:i < xs.length
  ·rw [Hk,EV h]
   show (ded (xs.take i ++ [xs[i]])).length≤i + 1
   rw [p5]
   split
   ·omega
   ·rw [Fb]; show _ + 1≤_; omega
  ·rw [Gc (by omega)] at *
   omega
theorem jq.at {prog:Program}{w:World}{h h':Heap}{a:Addr}{S:Str→Bool}{n:Nat} (q:jq prog w h a S n) (e:∀ o,h.get? a=some o→h'.get? a=some o):jq prog w h' a S n :=
 let ⟨o,es,ep,t,ho,r⟩:=q; ⟨o,es,ep,t,e o ho,r⟩
theorem jq.congr {prog:Program}{w:World}{h:Heap}{a:Addr}{S S':Str→Bool}{n n':Nat} (q:jq prog w h a S n) (e:∀ k,S k=S' k) (en:n=n'):jq prog w h a S' n':=by
 have z:S=S':=funext e
 subst z en; exact q
def i7 (prog:Program) (w:World) (h:Heap) (a:Addr) (xs:List Str):Prop:=jq prog w h a (fun k=>decide (k ∈ ded xs)) (ded xs).length
section
variable {prog:Program}{w:World}{A:Around}{R:Result→Shared→Prop}{I:Addr}{fp wr:List Addr}{G:Array GenState→Array GenState→Prop}{n:Nat}{P:Nat→Value→Prop}{St:Nat→Shared→Prop}
theorem lR (W:WalksS prog w A.in1 I fp wr G n P St) (S:Addr) (hSf:S ∉ fp) (xs:List Str) (hn:xs.length=n) (hval:∀ i v,P i v→∃ x t,xs[i]? = some x∧v=.str x t) (hb:n + 1 < scanBound) :
  ∀ (k i:Nat) (s:Shared),n - i=k→i≤n→St i s→i7 prog w s.heap S (xs.take i)→(∀ s',Moved (S :: wr) G s s'→i7 prog w s'.heap S xs→R (.ok (.ret .none)) s') →
   codeAny (model prog w) A (.builtin "set.update.loop" ⟨[.ref S,.ref I],[]⟩) R s:=by
 have hSw:S ∉ wr:=fun h=>hSf (W.sub _ h)
 have hsub:∀ b ∈ wr,b ∈ S :: wr:=fun b hb=>E7 _ hb
 intro k
 induction k with
 | zero =>
  intro i s hk hi hst hS hR
  obtain rfl:i=n:=by omega
  refine Gk F.entry_set_update_loop ?_
  rw [GO HX _]
  show wpAny _ A.in1 (pyNext (.ref I) >>= _) _ _ s
  refine ET (W.done s _ _ hst fun s' hm=>?_)
  show wpAny _ A.in1 (ret Value.none) _ _ s'
  rw [Gc (by omega)] at hS
  exact EY (hR s' (hm.mono hsub) (hS.at fun o e=>hm.heap S o hSw e))
 | succ k ih =>
  intro i s hk hi hst hS hR
  have hlt:i < n:=by omega
  refine Gk F.entry_set_update_loop ?_
  rw [GO HX _]
  show wpAny _ A.in1 (pyNext (.ref I) >>= _) _ _ s
  refine ET (W.item i s _ _ hlt hst fun v s' hP hst' hm=>?_)
  obtain ⟨x,t,hx,rfl⟩:=hval i v hP
  have hS':i7 prog w s'.heap S (xs.take i):=hS.at fun o e=>hm.heap S o hSw e
  show wpAny _ A.in1 (holding [Value.str x t] (setAdd S (.str x t)) >>= _) _ _ s'
  refine ET (GJ ?_)
  unfold setAdd
  refine GJ (ET ((strKind prog w).pyHash (k:=x) (by show Value.isStrOf x (.str x t)=true; simp [Value.isStrOf]) ?_))
  have hroom:(ded (xs.take i)).length + 1 < scanBound:=by have:=iD xs i; omega
  refine wf (s:={ s' with toks:=s'.toks + 1 }) hS' hroom fun h' sb q=>?_
  have e1:xs.take (i + 1)=xs.take i ++ [x]:=by rw [Hk,hx]; rfl
  have q':i7 prog w h' S (xs.take (i + 1)):=by
   unfold i7
   rw [e1,p5]
   refine q.congr (fun k'=>?_) ?_
   ·by_cases hm:x ∈ ded (xs.take i)
    ·rw [if_pos hm]
     by_cases he:k'=x
     ·subst he; simp [hm]
     ·simp [he]
    ·rw [if_neg hm]
     simp [List.mem_append]
   ·by_cases hm:x ∈ ded (xs.take i)
    ·simp [hm]
    ·simp [hm]
  refine EY ⟨HG HX _,ih (i + 1) _ (by omega) hlt (W.frame _ s' _ _ hst' (G1 _) fun b hb o e=>?_) q' fun s'' hm'' hS''=>?_⟩
  ·rw [sb.2 b (fun h:b=S=>hSf (by rw [← h]; exact hb))]; exact e
  ·refine hR s'' (Moved.trans W.gtrans ((hm.mono hsub).then_heap (G1 _) fun b o hb e=>?_) hm'') hS''
   rw [sb.2 b (fun h:b=S=>hb (by rw [h]; exact Fd))]; exact e
end
section
variable {prog:Program}{w:World}{A:Around}{E:Value→Shared→Prop}{s:Shared}
theorem lz (a:Value) {Q₁:Value→Shared→Prop} (h:Q₁ (.ref s.heap.objs.size) { s with heap:=s.heap.push { cls:=.type "set",dict:=none,data:=.set #[] 0 (.fresh 0 0 (!dD w)) } }) :
  codeAny (model prog w) A (.call (.builtin "set.__new__") ⟨[.type "set",a],[]⟩) (wants Q₁ E) s:=by
 refine codeAny_of_tree ?_
 show wpAny _ A.in1 (do checkBuiltinCall "set.__new__" ⟨[.type "set",a],[]⟩; again (.builtin "set.__new__" ⟨[.type "set",a],[]⟩)) _ _ s
 refine ET (wpAny_of_eq (PySem.F.newCall_set_1 a) (EY ⟨HG PySem.F.plain_set_new _,Gk PySem.F.entry_set_new ?_⟩))
 rw [GO PySem.F.plain_set_new _]
 unfold Builtin.«set.__new__» Builtin.Frozenset.newClass
 have hsub:=sub_set_self
 obtain ⟨hp,g,d,tk,os⟩:=s
 dsimp only
 wp_walk
 refine wpAny_askSetting (EY ?_)
 dsimp only
 simp only [newObj]
 refine ET (wpAny_alloc (EY ?_))
 exact EY h
theorem jN {h:Heap}{a:Addr} (hg:h.get? a=some { cls:=.type "set",dict:=none,data:=.set #[] 0 (.fresh 0 0 (!dD w)) }):i7 prog w h a [] :=
 ⟨_,#[],0,_,hg,⟨rfl,rfl,rfl⟩,rfl,fun e he=>by simp at he,fun k=>by simp [ded],by decide,by rfl,rfl,rfl,fun z=>absurd rfl z⟩
set_option maxHeartbeats 8000000 in
theorem vo {T:String}{l:Addr}{ol:Obj}{items:Array Value}{nl:Nat}{xs:List Str}{Q:Value→Shared→Prop} (hh:A.handled=none) (hol:s.heap.get? l=some ol) (hcl:ol.cls=.type T) (hdl:ol.data=.seq items nl) (hT:T = "list"∨T = "tuple")
  (hx:∀ (i:Nat) v,items[i]? = some v→∃ x t,xs[i]? = some x∧v=.str x t) (hlen:xs.length=items.size) (hb:items.size + 1 < scanBound)
  (h:∀ (h':Heap) (tk:Nat),i7 prog w h' s.heap.objs.size xs→(∀ b o,b < s.heap.objs.size→s.heap.get? b=some o→h'.get? b=some o)→Q (.ref s.heap.objs.size) { s with heap:=h',toks:=tk }) :
  wpAny (model prog w) A (call (.type "set") [.ref l]) Q E s:=by
 obtain ⟨c,tl,hmro⟩:=PySem.F.called_set.mro
 have hmade:=PySem.F.called_set.made
 have hsub:=PySem.F.called_set.sub
 refine H9 (codeAny_of_tree ?_)
 show wpAny _ _ (callAny (.type "set") _) _ _ _
 refine EY ⟨G4 _ (by decide +kernel),Gk PySem.F.entry_type_call ?_⟩
 rw [Around.under_plain (weight_type_call_type "set" [.ref l] []) rfl]
 have h1:=PySem.F.called_set.notType
 have h2:=PySem.F.called_set.canCreate
 have hct:=PySem.F.typeCall_set_1 (.ref l)
 repeat (any_goals (first | assumption | wp_step))
 refine GF (lz (.ref l) (E:=E) (Q₁:=fun obj s₁=>obj=.ref s.heap.objs.size∧s₁={ s with heap:=s.heap.push { cls:=.type "set",dict:=none,data:=.set #[] 0 (.fresh 0 0 (!dD w)) } }) ⟨rfl,rfl⟩) fun r s₁ hr=>?_
 cases r with
 | error e=>exact hr
 | ok fl =>
  cases fl with
  | ret obj =>
   obtain ⟨rfl,rfl⟩:=hr
   have hS:(s.heap.push { cls:=.type "set",dict:=none,data:=.set #[] 0 (.fresh 0 0 (!dD w)) }).get? s.heap.objs.size=some { cls:=.type "set",dict:=none,data:=.set #[] 0 (.fresh 0 0 (!dD w)) }:=EZ _ rfl
   have hTs:Shared.TypeIs { s with heap:=s.heap.push { cls:=.type "set",dict:=none,data:=.set #[] 0 (.fresh 0 0 (!dD w)) } } (.ref s.heap.objs.size) "set" := ⟨_,hS,rfl⟩
   have hli:=PySem.F.called_set.init.lookup
   have hbi:=PySem.F.called_set.init.bind (.ref s.heap.objs.size)
   repeat (any_goals (first | assumption | wp_step))
   refine GF (GN (R:=wants (fun r s₂=>r=.none∧∃ h' tk,s₂={ s with heap:=h',toks:=tk }∧i7 prog w h' s.heap.objs.size xs∧(∀ b o,b < s.heap.objs.size→s.heap.get? b=some o→h'.get? b=some o)) E) PySem.F.called_set.init.plain PySem.F.entry_set_init (check_set_init_1 hTs ?_)) fun r₂ s₂ hr₂=>?_
   ·obtain ⟨ocls,odict,odata,oslots⟩:=ol
    simp only at hcl hdl
    subst hcl; subst hdl
    have hol':(s.heap.push { cls:=.type "set",dict:=none,data:=.set #[] 0 (.fresh 0 0 (!dD w)) }).get? l=some { cls:=.type T,dict:=odict,data:=.seq items nl,slots:=oslots }:=EU _ hol
    have hlS:l < s.heap.objs.size:=E6 hol
    have hh3:A.in1.in1.in1.handled=none:=by simp [hh]
    have hneI:l ≠ (s.heap.push { cls:=.type "set",dict:=none,data:=.set #[] 0 (.fresh 0 0 (!dD w)) }).objs.size:=by
     rw [FF]; exact Fh (Gq hlS)
    have hSf:s.heap.objs.size ∉ [(s.heap.push { cls:=.type "set",dict:=none,data:=.set #[] 0 (.fresh 0 0 (!dD w)) }).objs.size,l]:=by
     rw [FF]; simp only [F7,GT,FX,Hb,not_or]
     exact ⟨Fh (Nat.lt_succ_self _),Hd hlS⟩
    have fin:∀ (k:String) (s':Shared),Moved [s.heap.objs.size,(s.heap.push { cls:=.type "set",dict:=none,data:=.set #[] 0 (.fresh 0 0 (!dD w)) }).objs.size] (fun g g'=>g'=g) { s with heap:=(s.heap.push { cls:=.type "set",dict:=none,data:=.set #[] 0 (.fresh 0 0 (!dD w)) }).push { cls:=.type k,data:=.fields #[.ref l,.int 0 0] } } s'→i7 prog w s'.heap s.heap.objs.size xs →
      ∃ h' tk,s'={ s with heap:=h',toks:=tk }∧i7 prog w h' s.heap.objs.size xs∧(∀ b o,b < s.heap.objs.size→s.heap.get? b=some o→h'.get? b=some o):=by
     intro k s' hm hS'
     obtain ⟨h',g',d',tk',os'⟩:=s'
     have eg:g'=s.gens:=hm.gens
     have ed:d'=s.drawn:=hm.drawn
     have eo:os'=s.os:=hm.os
     subst eg; subst ed; subst eo
     refine ⟨h',tk',rfl,hS',fun b o hb e=>?_⟩
     have hb1:b ≠ s.heap.objs.size:=Fh hb
     have hb2:b ≠ (s.heap.push { cls:=.type "set",dict:=none,data:=.set #[] 0 (.fresh 0 0 (!dD w)) }).objs.size:=by
      rw [FF]; exact Fh (Gq hb)
     exact hm.heap b o (by simp only [F7,GT,FX,Hb,not_or]; exact ⟨hb1,hb2⟩) (EU _ (EU _ e))
    unfold Builtin.«set.__init__» noKeywords Builtin.Frozenset.updateFrom
    rcases hT with rfl | rfl
    ·have hsls:=PySem.F.sub_list_set
     have hslf:=PySem.F.sub_list_frozenset
     have hne:(Value.type "list" == Value.type "dict")=false:=by decide
     have hl1:(s.heap.push { cls:=.type "set",dict:=none,data:=.set #[] 0 (.fresh 0 0 (!dD w)) }).IsList l items:=⟨_,hol',rfl,nl,rfl⟩
     generalize hPI:pyIter=PI
     wp_walk
     subst hPI
     refine Hw hl1 (ET (HW ?_))
     refine lR ((Walks.list hh3 _ l hneI items).toS) s.heap.objs.size hSf xs hlen hx hb (items.size - 0) 0 _ (by omega) (FV _)
      ⟨⟨_,EZ _ rfl,rfl,rfl⟩,(hl1.push _)⟩ (jN (EU _ hS)) fun s' hm hS'=>?_
     obtain ⟨h',tk',rfl,q1,q2⟩:=fin "list_iterator" s' hm hS'
     show wpAny _ _ _ _ _ _
     refine EY ?_
     show wpAny _ _ (ret Value.none) _ _ _
     exact EY ⟨rfl,h',tk',rfl,q1,q2⟩
    ·have hsls:isSubtype (.type "tuple") (.type "set")=pure false:=by rw [GR]; kernel_rfl
     have hslf:isSubtype (.type "tuple") (.type "frozenset")=pure false:=by rw [GR]; kernel_rfl
     have hne:(Value.type "tuple" == Value.type "dict")=false:=by decide
     have hl1:(s.heap.push { cls:=.type "set",dict:=none,data:=.set #[] 0 (.fresh 0 0 (!dD w)) }).IsTuple l items:=⟨_,hol',rfl,nl,rfl⟩
     generalize hPI:pyIter=PI
     wp_walk
     subst hPI
     refine H8 hl1 (ET (HW ?_))
     refine lR ((Walks.tuple hh3 _ l hneI items).toS) s.heap.objs.size hSf xs hlen hx hb (items.size - 0) 0 _ (by omega) (FV _)
      ⟨⟨_,EZ _ rfl,rfl,rfl⟩,⟨_,EU _ hol',rfl,nl,rfl⟩⟩ (jN (EU _ hS)) fun s' hm hS'=>?_
     obtain ⟨h',tk',rfl,q1,q2⟩:=fin "tuple_iterator" s' hm hS'
     show wpAny _ _ _ _ _ _
     refine EY ?_
     show wpAny _ _ (ret Value.none) _ _ _
     exact EY ⟨rfl,h',tk',rfl,q1,q2⟩
   ·cases r₂ with
    | error e=>exact hr₂
    | ok fl₂ =>
     cases fl₂ with
     | ret r =>
      obtain ⟨rfl,h',tk,rfl,hS',hk'⟩:=hr₂
      repeat (any_goals (first | assumption | wp_step))
      exact h _ _ hS' hk'
     | _=>exact hr₂.elim
  | _=>exact hr.elim
end
section
variable {prog:Program}{w:World}{A:Around}{E:Value→Shared→Prop}{s:Shared}
theorem mU {src:Source}{n:Nat}{Q:Nat→Shared→Prop} (hn:n ≠ 0) (h:∀ k d',k < n→Q k { s with drawn:=d' }):wpAny (model prog w) A (choose src n) Q E s:=by
 intro G p hG
 show PySem.Sem.wp _ _ (Sem.choose src n .pure) _ _ p s
 rw [Sem.wp_choose]
 refine ⟨hn,?_⟩
 rw [show (Sem.pure ((model prog w).w.draws src (s.drawn.get src) % n):Sem Nat)=Pure.pure ((model prog w).w.draws src (s.drawn.get src) % n) from rfl,Sem.wp_pure']
 exact h _ _ (Nat.mod_lt _ (Nat.pos_of_ne_zero hn))
theorem gW {α:Type}:∀ (xs:List α) (i:Nat) (x:α),xs[i]? = some x→(x :: xs.eraseIdx i).Perm xs
 | y :: xs,0,x,h=>by simp at h; subst h; exact .refl _
 | y :: xs,i + 1,x,h=>by
  have ih:=gW xs i x (by simpa using h)
  rw [List.eraseIdx_cons_succ]
  exact (List.Perm.swap y x _).trans (ih.cons y)
theorem jj {α:Type} (n:Nat):∀ (xs:List α) (s:Shared) (Q:List α→Shared→Prop),xs.length=n→(∀ ys d',ys.Perm xs→Q ys { s with drawn:=d' })→wpAny (model prog w) A (drawOrder n xs) Q E s:=by
 induction n with
 | zero =>
  intro xs s Q hn h
  have e:xs=[]:=List.length_eq_zero_iff.mp hn
  subst e
  exact EY (h [] s.drawn (.refl _))
 | succ n ih =>
  intro xs s Q hn h
  cases xs with
  | nil=>cases hn
  | cons x xs =>
   show wpAny _ _ (choose .order (x :: xs).length >>= fun i=>match (x :: xs)[i]? with | some y=>(do return y :: (← drawOrder n ((x :: xs).eraseIdx i))) | none=>unsupported "internal:drawOrder") _ _ s
   refine ET (mU (by simp) fun k d' hk=>?_)
   obtain ⟨y,hy⟩:∃ y,(x :: xs)[k]? = some y:=⟨_,EV hk⟩
   rw [hy]
   show wpAny _ _ (drawOrder n ((x :: xs).eraseIdx k) >>= fun r=>pure (y :: r)) _ _ _
   have hl:((x :: xs).eraseIdx k).length=n:=by rw [List.length_eraseIdx_of_lt hk,hn]; rfl
   refine ET (ih _ _ _ hl fun ys d2 hp=>EY ?_)
   exact h (y :: ys) d2 ((hp.cons y).trans (gW _ _ _ hy))
theorem l4 {α:Type} (next:Nat→Nat):∀ (fuel k:Nat) (left:List α) (out:Array α),left.length=fuel→(pickOrder.go next fuel k left out).toList.Perm (out.toList ++ left)
 | 0,k,left,out,h=>by
  have e:left=[]:=List.length_eq_zero_iff.mp h
  subst e
  show out.toList.Perm _
  rw [F9]
 | fuel + 1,k,left,out,h=>by
  have hlt:next k % left.length < left.length:=Nat.mod_lt _ (by omega)
  obtain ⟨x,hx⟩:∃ x,left[next k % left.length]? = some x:=⟨_,EV hlt⟩
  unfold pickOrder.go
  rw [hx]
  show (pickOrder.go next fuel (k + 1) (left.eraseIdx (next k % left.length)) (out.push x)).toList.Perm _
  refine (l4 next fuel (k + 1) _ _ (by rw [List.length_eraseIdx_of_lt hlt]; omega)).trans ?_
  rw [Array.toList_push,GB]
  exact List.Perm.append_left _ (gW _ _ _ hx)
theorem ei {α:Type} (next:Nat→Nat) (xs:Array α):(pickOrder next xs).toList.Perm xs.toList:=by
 have:=l4 next xs.size 0 xs.toList #[] (by simp)
 unfold pickOrder
 simpa using this
def b7 (h:Heap) (it S:Addr) (first:Value) (i n ep:Nat):Prop:=∃ o,h.get? it=some o∧o.cls=.type "set_iterator"∧o.data=.fields #[first,.int i 0,.ref S,.int n 0,.int ep 0]
theorem b7.typeIs {it S:Addr}{first:Value}{i n ep:Nat} (h:b7 s.heap it S first i n ep):s.TypeIs (.ref it) "set_iterator" := let ⟨o,ho,hc,_⟩:=h; ⟨o,ho,hc⟩
theorem jm:isSubtype (.type "StopIteration") (.type "StopIteration")=pure true:=by rw [GR]; kernel_rfl
theorem jL {it:Addr}{o:Obj}{fs:Array Value}{Q:Option Value→Shared→Prop} (hh:A.handled=none) (ho:s.heap.get? it=some o) (hd:o.data=.fields fs) (hsz:2 < fs.size)
  (hQ:∀ h',Heap.ExtBut it s.heap h'→Q none { s with heap:=h' }) :
  wpAny (model prog w) A.in1 (do setField (.ref it) 2 .none; raiseNew (← newExc (.type "StopIteration") []):Sem Fin) (fun fin s'=>∃ r,fin=.done (.ret r)∧Q (some r) s')
   (fun e s'=>wpAny (model prog w) A (isInstance e (.type "StopIteration")) (fun b s2=>b=true∧Q none s2) (fun _ _=>False) s') s:=by
 refine ET (Gj ho hd hsz ?_)
 refine ET ?_
 simp only [newExc,newTuple]
 refine ET (FI ?_ (by size_fits))
 refine ET (m:=firstArgMember _ _) (wpAny_of_eq (a:=Value.none) (by first | rfl | (simp only [firstArgMember]; rfl)) ?_)
 refine FI ?_ (by size_fits)
 simp only [raiseNew]
 refine ET (wpAny_handled ?_)
 rw [show A.in1.handled=none from hh]
 refine ET (EY (wpAny_throw ?_))
 refine wpAny_isInstance (T := "StopIteration") (b:=true) ⟨_,EZ _ rfl,rfl⟩ jm ⟨rfl,?_⟩
 exact hQ _ (((Gz ..).extBut.push _).push _)
theorem ft {it:Addr}{Q:Option Value→Shared→Prop} (hT:s.TypeIs (.ref it) "set_iterator")
  (body:wpAny (model prog w) A.in1 (Builtin.«set_iterator.__next__» ⟨[.ref it],[]⟩) (fun fin s'=>∃ r,fin=.done (.ret r)∧Q (some r) s')
   (fun e s'=>wpAny (model prog w) A (isInstance e (.type "StopIteration")) (fun b s2=>b=true∧Q none s2) (fun _ _=>False) s') s):wpAny (model prog w) A (pyNext (.ref it)) Q E s:=by
 unfold pyNext
 refine ET (wpAny_attempt (Gi (name:=Str.ofString "__next__") hT SF.slot_setit_next (Ge SF.slot_setit_next hT SF.entry_setit_next ?_ (SF.args_setit_next_1 _))))
 refine FG body (fun fin s' zz116_0=>by obtain ⟨r,e,q⟩:=zz116_0; exact ⟨r,e,EY q⟩) fun e s' q=>?_
 refine ET (FG q (fun b s2 zz117_0=>?_) fun _ _ f=>f.elim)
 obtain ⟨hb,q2⟩:=zz117_0
 subst hb
 exact EY q2
structure eF (h:Heap) (S:Addr) (es:Array (Int×Value)) (ep:Nat) (t:SetTable):Prop where
 ex:∃ o,h.get? S=some o∧o.data=.set es ep t
 fits:t.fits es.size=true
theorem eF.keep {h h':Heap}{S:Addr}{es:Array (Int×Value)} {ep:Nat}{t:SetTable} (q:eF h S es ep t) (k:∀ o,h.get? S=some o→h'.get? S=some o):eF h' S es ep t :=
 ⟨let ⟨o,ho,hd⟩:=q.ex; ⟨o,k o ho,hd⟩,q.fits⟩
theorem gN {S:Addr}{es:Array (Int×Value)} {ep:Nat}{t:SetTable}{Q:Array (Int×Value)→Shared→Prop} (q:eF s.heap S es ep t) (h:Q es s):wpAny (model prog w) A (setEntries S) Q E s:=by
 obtain ⟨o,ho,hd⟩:=q.ex
 exact wpAny_setEntries_of ho hd q.fits h
theorem dM {S:Addr}{es:Array (Int×Value)} {ep:Nat}{t:SetTable}{Q:(Array (Int×Value)×Nat×SetTable)→Shared→Prop} (q:eF s.heap S es ep t) (h:Q (es,ep,t) s):wpAny (model prog w) A (setState S) Q E s:=by
 obtain ⟨o,ho,hd⟩:=q.ex
 exact wpAny_setState_of ho hd q.fits h
theorem fm {it S:Addr}{first:Value}{i ep:Nat}{es:Array (Int×Value)} {t:SetTable}{Q:Fin→Shared→Prop} (hit:b7 s.heap it S first i es.size ep) (hS:eF s.heap S es ep t)
  (h:wpAny (model prog w) A (if let .int slot _:=first then do
    match ← setNext S slot.toNat i ep with
    | some (x,next) =>
     setField (.ref it) 0 (rawInt next)
     setField (.ref it) 1 (rawInt (i + 1))
     ret x
    | none=>setField (.ref it) 2 .none; raiseNew (← newExc (.type "StopIteration") [])
   else do
    let some places ← seqItems? first | unsupported "internal:set_iterator"
    match places[i]? with
    | some (.int place _) =>
     let x ← setNextDrawn S place.toNat ep
     setField (.ref it) 1 (rawInt (i + 1))
     ret x
    | some _=>unsupported "internal:set_iterator"
    | none=>setField (.ref it) 0 (rawInt 0); setField (.ref it) 2 .none; raiseNew (← newExc (.type "StopIteration") [])) Q E s) :
  wpAny (model prog w) A (Builtin.«set_iterator.__next__» ⟨[.ref it],[]⟩) Q E s:=by
 obtain ⟨o,ho,hc,hd⟩:=hit
 unfold Builtin.«set_iterator.__next__»
 refine ET (EY ?_)
 refine ET (wpAny_fieldsOf ho hd ?_)
 dsimp only
 refine ET (gN hS ?_)
 rw [if_neg (by simp)]
 exact h
theorem b7.keep {h h':Heap}{it S:Addr}{first:Value}{i n ep:Nat} (q:b7 h it S first i n ep) (k:∀ o,h.get? it=some o→h'.get? it=some o):b7 h' it S first i n ep :=
 let ⟨o,ho,r⟩:=q; ⟨o,k o ho,r⟩
theorem g_ {h h':Heap}{a:Addr}{its:Array Value} (q:IsTup h a its) (k:∀ o,h.get? a=some o→h'.get? a=some o):IsTup h' a its:=by
 obtain ⟨o,ho,r⟩:=q
 exact ⟨o,k o ho,r⟩
theorem jM {h:Heap}{it S:Addr}{first:Value}{i n ep:Nat} (q:b7 h it S first i n ep):b7 (h.update it (Obj.mapFields (·.setIfInBounds 1 (rawInt ((i:Int) + 1))))) it S first (i + 1) n ep:=by
 obtain ⟨o,ho,hc,hd⟩:=q
 exact ⟨_,FD _ ho (Gg (FC hd _)),(H_ ..).trans hc,by rw [FC hd]; simp [rawInt]⟩
theorem fB {it S:Addr}{first:Value}{i n ep:Nat}{Q:Value→Shared→Prop} (h:b7 s.heap it S first i n ep) (hQ:Q (.ref it) s):wpAny (model prog w) A (pyIter (.ref it)) Q E s:=by
 have slot:Slot "set_iterator" "__iter__" "set_iterator.__iter__" :=
  .of (owner := "set_iterator") (n := "__iter__") (by rw [typeLookup_type,HK]; kernel_rfl) (by decide +kernel) (by decide +kernel) (by decide +kernel)
   (by first | exact .inl (by decide +kernel) | exact .inr (by decide +kernel)) (by rw [GR]; kernel_rfl)
 have entry:entryFor table "set_iterator.__iter__" = some Builtin.«dict_keyiterator.__iter__»:=entryFor_alias (id' := "dict_keyiterator.__iter__") (by kernel_rfl) rfl (by decide +kernel) (by kernel_rfl)
 refine wpAny_pyIter_slot h.typeIs slot (Ge slot h.typeIs entry ?_ (by unfold argsOk; kernel_rfl))
 show wpAny _ _ (ret (.ref it)) _ _ s
 exact EY ⟨_,rfl,"set_iterator",_,h.typeIs,SF.slot_setit_next.lookup,hQ⟩
theorem qv (hh:A.handled=none) {it S tp:Addr}{ord:List Nat}{es:Array (Int×Value)} {ep:Nat}{t:SetTable} (n1:S ≠ it) (n2:tp ≠ it) (hlt:∀ j ∈ ord,j < es.size) (hlen:ord.length=es.size) :
  Walks prog w A it [it,S,tp] [it] es.size (fun i v=>∃ j hv,ord[i]? = some j∧es[j]? = some (hv,v)) (fun i h=>b7 h it S (.ref tp) i es.size ep∧eF h S es ep t∧IsTup h tp (ord.map fun j:Nat=>rawInt j).toArray) where
 sub:=fun b hb=>by simp at hb; simp [hb]
 frame:=fun _ _ _ st hk=>⟨st.1.keep fun o e=>hk it (by simp) o e,st.2.1.keep fun o e=>hk S (by simp) o e,g_ st.2.2 fun o e=>hk tp (by simp) o e⟩
 item:=fun i s Q E hi zz118_0 hQ=>by
  obtain ⟨hit,hS,htp⟩:=zz118_0
  refine ft hit.typeIs (fm hit hS ?_)
  obtain ⟨ot,hot,hct,nt,hdt⟩:=id htp
  have hio:i < ord.length:=by omega
  have hj:(ord.map fun j:Nat=>rawInt j).toArray[i]? = some (.int (ord[i]:Nat) 0):=by simp [hio,rawInt]
  have hje:ord[i] < es.size:=hlt _ (Fx hio)
  obtain ⟨hv,x⟩:Int×Value:=es[ord[i]]
  obtain ⟨o,ho,hc,hd⟩:=id hit
  show wpAny _ _ (seqItems? (.ref tp) >>= _) _ _ s
  refine ET (GQ hot hdt ?_)
  dsimp only
  rw [hj]
  dsimp only
  refine ET ?_
  unfold setNextDrawn
  refine ET (dM hS ?_)
  dsimp only
  rw [if_neg (by simp),Gd,FP hje]
  refine ET (EY (EY ?_))
  refine ET (Gj ho hd (by simp) ?_)
  refine EY ⟨_,rfl,?_⟩
  have kp:∀ b o,b ≠ it→s.heap.get? b=some o→(s.heap.update it (Obj.mapFields (·.setIfInBounds 1 (rawInt ((i:Int) + 1))))).get? b=some o:=fun b o hb e=>(Ft _ _ (Ne.symm hb)).trans e
  exact hQ _ _ s.toks ⟨ord[i],es[ord[i]].1,EV hio,FP hje⟩ ⟨jM hit,hS.keep fun o e=>kp S o n1 e,g_ htp fun o e=>kp tp o n2 e⟩ fun b o hb e=>kp b o (fun z=>hb (by simp [z])) e
 done:=fun s Q E zz119_0 hQ=>by
  obtain ⟨hit,hS,htp⟩:=zz119_0
  refine ft hit.typeIs (fm hit hS ?_)
  obtain ⟨ot,hot,hct,nt,hdt⟩:=id htp
  obtain ⟨o,ho,hc,hd⟩:=id hit
  have hj:(ord.map fun j:Nat=>rawInt j).toArray[es.size]? = none:=by simp [hlen]
  show wpAny _ _ (seqItems? (.ref tp) >>= _) _ _ s
  refine ET (GQ hot hdt ?_)
  dsimp only
  rw [hj]
  dsimp only
  refine ET (Gj ho hd (by simp) ?_)
  refine jL hh (FD _ ho (Gg (FC hd _))) (FC hd _) (by simp) fun h' hx=>?_
  exact hQ h' s.toks fun b o hb e=>hx b o (fun z=>hb (by simp [z])) ((Ft _ _ (fun z=>hb (by simp [z]))).trans e)
 self:=fun _ _ _ _ st hQ=>fB st.1 hQ
theorem dW {Q:Bool→Shared→Prop} (h:Q (dD w) s):wpAny (model prog w) A setsByText Q E s:=by
 unfold setsByText
 exact ET (wpAny_askSetting (EY h))
abbrev dG (w:World) (S:Addr) (ep:Nat) (es:Array (Int×Value)):Array (Int×Value):=pickOrder (w.params.setOrder S ep) es
theorem ma {S:Addr}{es:Array (Int×Value)} {ep:Nat}{t:SetTable}{slot i:Nat}{Q:Option (Value×Nat)→Shared→Prop} (hb:dD w=true) (hS:eF s.heap S es ep t)
  (h:Q (((dG w S ep es)[i]?).map fun e=>(e.2,slot)) s):wpAny (model prog w) A (setNext S slot i ep) Q E s:=by
 unfold setNext
 refine ET (dM hS ?_)
 dsimp only
 refine ET (dW ?_)
 rw [if_pos hb,if_neg (by simp)]
 refine ET ?_
 unfold setWalk
 refine ET (dM hS ?_)
 dsimp only
 refine ET (dW ?_)
 rw [if_pos hb]
 exact ET (wpAny_askSetting (EY (EY h)))
theorem qE {h:Heap}{it S:Addr}{first:Value}{i n ep nx:Nat} (q:b7 h it S first i n ep) :
  b7 ((h.update it (Obj.mapFields (·.setIfInBounds 0 (rawInt nx)))).update it (Obj.mapFields (·.setIfInBounds 1 (rawInt ((i:Int) + 1))))) it S (.int nx 0) (i + 1) n ep:=by
 obtain ⟨o,ho,hc,hd⟩:=q
 have q1:b7 (h.update it (Obj.mapFields (·.setIfInBounds 0 (rawInt nx)))) it S (.int nx 0) i n ep:=⟨_,FD _ ho (Gg (FC hd _)),(H_ ..).trans hc,by rw [FC hd]; simp [rawInt]⟩
 exact jM q1
theorem lO {it S:Addr}{slot i ep:Nat}{es:Array (Int×Value)} {t:SetTable}{x:Value}{nx:Nat}{Q:Option Value→Shared→Prop} (hit:b7 s.heap it S (.int slot 0) i es.size ep) (hS:eF s.heap S es ep t)
  (hnx:∀ (A:Around) (E:Value→Shared→Prop) (Q:Option (Value×Nat)→Shared→Prop),Q (some (x,nx)) s→wpAny (model prog w) A (setNext S slot i ep) Q E s)
  (hQ:∀ h',b7 h' it S (.int nx 0) (i + 1) es.size ep→(∀ b o,b ≠ it→s.heap.get? b=some o→h'.get? b=some o)→Q (some x) { s with heap:=h' }):wpAny (model prog w) A (pyNext (.ref it)) Q E s:=by
 refine ft hit.typeIs (fm hit hS ?_)
 obtain ⟨o,ho,hc,hd⟩:=id hit
 show wpAny _ _ (setNext S ((slot:Int)).toNat i ep >>= _) _ _ s
 rw [Gd]
 refine ET (hnx _ _ _ ?_)
 dsimp only
 refine ET (Gj ho hd (by simp) ?_)
 refine ET (Gj (FD _ ho (Gg (FC hd _))) (FC hd _) (by simp) ?_)
 refine EY ⟨_,rfl,hQ _ (qE hit) fun b o hb e=>?_⟩
 exact (Ft _ _ (Ne.symm hb)).trans ((Ft _ _ (Ne.symm hb)).trans e)
theorem lP {it S:Addr}{slot i ep:Nat}{es:Array (Int×Value)} {t:SetTable}{Q:Option Value→Shared→Prop} (hh:A.handled=none) (hit:b7 s.heap it S (.int slot 0) i es.size ep) (hS:eF s.heap S es ep t)
  (hnx:∀ (A:Around) (E:Value→Shared→Prop) (Q:Option (Value×Nat)→Shared→Prop),Q none s→wpAny (model prog w) A (setNext S slot i ep) Q E s)
  (hQ:∀ h',Heap.ExtBut it s.heap h'→Q none { s with heap:=h' }):wpAny (model prog w) A (pyNext (.ref it)) Q E s:=by
 refine ft hit.typeIs (fm hit hS ?_)
 obtain ⟨o,ho,hc,hd⟩:=id hit
 show wpAny _ _ (setNext S ((slot:Int)).toNat i ep >>= _) _ _ s
 rw [Gd]
 refine ET (hnx _ _ _ ?_)
 exact jL hh ho hd (by simp) hQ
theorem uf (hh:A.handled=none) (hb:dD w=true) {it S:Addr}{es:Array (Int×Value)} {ep:Nat}{t:SetTable} (n1:S ≠ it) :
  Walks prog w A it [it,S] [it] es.size (fun i v=>∃ hv,(dG w S ep es)[i]? = some (hv,v)) (fun i h=>b7 h it S (.int (0:Nat) 0) i es.size ep∧eF h S es ep t) where
 sub:=fun b hb=>by simp at hb; simp [hb]
 frame:=fun _ _ _ st hk=>⟨st.1.keep fun o e=>hk it (by simp) o e,st.2.keep fun o e=>hk S (by simp) o e⟩
 item:=fun i s Q E hi zz120_0 hQ=>by
  obtain ⟨hit,hS⟩:=zz120_0
  have hsz:(dG w S ep es).size=es.size:=by
   have:=(ei (w.params.setOrder S ep) es).length_eq
   simpa using this
  have hi':i < (dG w S ep es).size:=by omega
  have hx:(dG w S ep es)[i]? = some (dG w S ep es)[i]:=FP hi'
  refine lO (x:=(dG w S ep es)[i].2) (nx:=0) hit hS (fun A E Q q=>ma hb hS ?_) fun h' q1 q2=>?_
  ·rw [hx]; exact q
  ·exact hQ _ h' s.toks ⟨(dG w S ep es)[i].1,hx⟩ ⟨q1,hS.keep fun o e=>q2 S o n1 e⟩ fun b o hb e=>q2 b o (fun z=>hb (by simp [z])) e
 done:=fun s Q E zz121_0 hQ=>by
  obtain ⟨hit,hS⟩:=zz121_0
  have hsz:(dG w S ep es).size=es.size:=by
   have:=(ei (w.params.setOrder S ep) es).length_eq
   simpa using this
  refine lP hh hit hS (fun A E Q q=>ma hb hS ?_) fun h' hx=>hQ h' s.toks fun b o hb e=>hx b o (fun z=>hb (by simp [z])) e
  rw [Gy (by omega)]; exact q
 self:=fun _ _ _ _ st hQ=>fB st.1 hQ
theorem kn {S:Addr}{es:Array (Int×Value)} {ep:Nat}{t:SetTable}{slot i:Nat}{Q:Option (Value×Nat)→Shared→Prop} (hb:dD w=false) (hS:eF s.heap S es ep t) (hled:t.led=true) (hsm:es.size≤1)
  (h:Q (match es[SetTable.below t.place slot]?,t.place[SetTable.below t.place slot]? with | some (_,x),some j=>some (x,j + 1) | _,_=>none) s):wpAny (model prog w) A (setNext S slot i ep) Q E s:=by
 unfold setNext
 refine ET (dM hS ?_)
 dsimp only
 refine ET (dW ?_)
 rw [if_neg (by rw [hb]; simp)]
 refine Hg (fun z=>?_) fun _=>?_
 ·have z':(!t.plain && decide (es.size > 1))=true:=z
  simp at z'
  omega
 ·refine ET (m:=if (!t.led && !es.isEmpty)=true then unsupported "set:maker-not-led" else pure ()) ?_
  rw [hled]
  exact EY (EY h)
def m3 (t:SetTable):Nat→Nat
 | 0=>0
 | _=>(t.place.getD 0 0) + 1
theorem mP (p:Nat):SetTable.below #[p] 0=0∧SetTable.below #[p] (p + 1)=1:=by
 constructor
 ·simp [SetTable.below,SetTable.below.go]
 ·simp [SetTable.below,SetTable.below.go]
theorem qu (hh:A.handled=none) (hb:dD w=false) {it S:Addr}{es:Array (Int×Value)} {ep:Nat}{t:SetTable} (n1:S ≠ it) (hled:t.led=true) (hsm:es.size≤1) :
  Walks prog w A it [it,S] [it] es.size (fun i v=>∃ hv,es[i]? = some (hv,v)) (fun i h=>b7 h it S (.int (m3 t i:Nat) 0) i es.size ep∧eF h S es ep t) where
 sub:=fun b hb=>by simp at hb; simp [hb]
 frame:=fun _ _ _ st hk=>⟨st.1.keep fun o e=>hk it (by simp) o e,st.2.keep fun o e=>hk S (by simp) o e⟩
 item:=fun i s Q E hi zz122_0 hQ=>by
  obtain ⟨hit,hS⟩:=zz122_0
  obtain rfl:i=0:=by omega
  have h1:es.size=1:=by omega
  have hp:t.place.size=1:=by
   have:=hS.fits
   simp only [SetTable.fits,FK,HS] at this
   rw [this.1,h1]
  obtain ⟨p,hpp⟩:∃ p,t.place=#[p]:=by
   match hq:t.place,hp with
   | ⟨[p]⟩,_=>exact ⟨p,rfl⟩
  have hx:es[0]? = some es[0]:=FP (by omega)
  refine lO (x:=es[0].2) (nx:=p + 1) hit hS (fun A E Q q=>kn hb hS hled hsm ?_) fun h' q1 q2=>?_
  ·show Q (match es[SetTable.below t.place 0]?,t.place[SetTable.below t.place 0]? with | some (_,x),some j=>some (x,j + 1) | _,_=>none) s
   rw [hpp,(mP p).1,hx]
   exact q
  ·refine hQ _ h' s.toks ⟨es[0].1,hx⟩ ⟨?_,hS.keep fun o e=>q2 S o n1 e⟩ fun b o hb e=>q2 b o (fun z=>hb (by simp [z])) e
   have e:m3 t (0 + 1)=p + 1:=by show t.place.getD 0 0 + 1=p + 1; rw [hpp]; rfl
   rw [e]; exact q1
 done:=fun s Q E zz123_0 hQ=>by
  obtain ⟨hit,hS⟩:=zz123_0
  refine lP hh hit hS (fun A E Q q=>kn hb hS hled hsm ?_) fun h' hx=>hQ h' s.toks fun b o hb e=>hx b o (fun z=>hb (by simp [z])) e
  have hp:t.place.size=es.size:=by
   have:=hS.fits
   simp only [SetTable.fits,FK,HS] at this
   exact this.1
  rcases G6 0 es.size with h0 | h0
  ·have h1:es.size=1:=by omega
   obtain ⟨p,hpp⟩:∃ p,t.place=#[p]:=by
    match hq:t.place,(hp.trans h1:t.place.size=1) with
    | ⟨[p]⟩,_=>exact ⟨p,rfl⟩
   have e:m3 t es.size=p + 1:=by rw [h1]; show t.place.getD 0 0 + 1=p + 1; rw [hpp]; rfl
   rw [e,hpp,(mP p).2,Gy (by omega)]
   exact q
  ·have e:es[SetTable.below t.place (m3 t es.size)]? = none:=Gy (by omega)
   rw [e]; exact q
 self:=fun _ _ _ _ st hQ=>fB st.1 hQ
theorem qM {d:List Str}:∀ {l:List Str},d.Nodup→(∀ k ∈ d,k ∈ l)→l.length=d.length→l.Perm d:=by
 induction d with
 | nil=>intro l _ _ hl; rw [List.length_eq_zero_iff.mp hl]
 | cons k d ih =>
  intro l hn hc hl
  have hk:k ∈ l:=hc k Fd
  obtain ⟨hkd,hn'⟩:=List.nodup_cons.mp hn
  refine (List.perm_cons_erase hk).trans ((ih hn' (fun x hx=>?_) ?_).cons k)
  ·exact (List.mem_erase_of_ne (fun z=>hkd (by rw [← z]; exact hx))).mpr (hc x (E7 _ hx))
  ·rw [List.length_erase_of_mem hk,hl]; rfl
theorem mG (xs:List Str):(ded xs).Nodup:=by
 have key:∀ (ys acc:List Str),acc.Nodup→(ys.foldl (fun acc x=>if x ∈ acc then acc else acc ++ [x]) acc).Nodup:=by
  intro ys
  induction ys with
  | nil=>intro acc h; exact h
  | cons y ys ih =>
   intro acc h
   rw [ES]
   refine ih _ ?_
   split
   ·exact h
   ·rename_i hy
    rw [List.nodup_append]
    exact ⟨h,GS _ _,fun a ha b hb=>by rw [GT] at hb; subst hb; exact fun z=>hy (by rw [← z]; exact ha)⟩
 exact key xs [] List.nodup_nil
theorem Ai (xs:List Str) (k:Str):k ∈ ded xs ↔ k ∈ xs:=by
 have key:∀ (ys acc:List Str),k ∈ ys.foldl (fun acc x=>if x ∈ acc then acc else acc ++ [x]) acc ↔ k ∈ acc∨k ∈ ys:=by
  intro ys
  induction ys with
  | nil=>intro acc; simp
  | cons y ys ih =>
   intro acc
   rw [ES,ih]
   split
   ·rename_i hy
    constructor
    ·rintro (h | h)
     ·exact .inl h
     ·exact .inr (E7 _ h)
    ·rintro (h | h)
     ·exact .inl h
     ·rcases List.mem_cons.mp h with e | e
      ·exact .inl (by rw [e]; exact hy)
      ·exact .inr e
   ·rw [List.mem_append,GT,F7]
    constructor
    ·rintro ((h | h) | h)
     ·exact .inl h
     ·exact .inr (.inl h)
     ·exact .inr (.inr h)
    ·rintro (h | h | h)
     ·exact .inl (.inl h)
     ·exact .inl (.inr h)
     ·exact .inr h
 have:=key xs []
 simpa [ded] using this
end
section
variable {prog:Program}{w:World}{A:Around}{E:Value→Shared→Prop}{s:Shared}
theorem oO {h:Heap}{S:Addr}{xs:List Str} (q:i7 prog w h S xs):∃ o es ep t,h.get? S=some o∧o.cls=.type "set"∧eF h S es ep t∧o.data=.set es ep t∧t.led=(!dD w)∧(es.size ≠ 0→t.plain=false) ∧
  es.size≤4096∧es.size=(ded xs).length∧∀ vs:List Value,vs.Perm (es.toList.map (·.2))→∃ ss,StrsAre vs ss∧ss.Perm (ded xs):=by
 obtain ⟨o,es,ep,t,ho,hx,hd,hel,hmem,hb,hf,hn,hled,hpl⟩:=q
 refine ⟨o,es,ep,t,ho,hx.1,⟨⟨o,ho,hd⟩,hf⟩,hd,hled,hpl,Gm hb,hn,fun vs hp=>?_⟩
 have all:∀ v ∈ vs,∃ x t,v=.str x t:=fun v hv=>by
  obtain ⟨e,he,rfl⟩:=List.mem_map.mp (hp.mem_iff.mp hv)
  obtain ⟨⟨k,hk,_⟩,_⟩:=hel e he
  obtain ⟨t',e'⟩:=HY (show Value.isStrOf k e.2=true from hk)
  exact ⟨k,t',e'⟩
 refine ⟨vs.map strOf,strsAre_map vs all,(hp.map strOf).trans ?_⟩
 refine qM (mG xs) (fun k hk=>?_) ?_
 ·obtain ⟨e,he,hke⟩:=(hmem k).mp (by simpa using hk)
  obtain ⟨t',e'⟩:=HY (show Value.isStrOf k e.2=true from hke)
  refine List.mem_map.mpr ⟨e.2,List.mem_map.mpr ⟨e,he,rfl⟩,?_⟩
  rw [e']; rfl
 ·rw [EW,EW,FU,hn]
def Ay (prog:Program) (w:World) (s:Shared) (S:Addr) (xs:List Str) (itv:Value) (s1:Shared):Prop :=
 ∃ (it:Addr) (fp:List Addr) (n:Nat) (P:Nat→Value→Prop) (St:Nat→Heap→Prop) (h1:Heap) (d1:Drawn),itv=.ref it∧s1={ s with heap:=h1,drawn:=d1 }∧(∀ b o,s.heap.get? b=some o→h1.get? b=some o) ∧
  (∀ b ∈ fp,b=S∨s.heap.objs.size≤b)∧s.heap.objs.size≤it∧(∀ A:Around,A.handled=none→Walks prog w A it fp [it] n P St)∧St 0 h1∧n≤sizeLine∧∀ acc:Array Value,ItemsOf P acc n→∃ ss,StrsAre acc.toList ss∧ss.Perm (ded xs)
theorem g9 {α:Type}{acc:Array Value}{n:Nat}{P:Nat→Value→Prop} (ys:List α) (f:α→Value) (h:ItemsOf P acc n) (hn:ys.length=n) (hP:∀ i v,P i v→∃ y,ys[i]? = some y∧v=f y):acc.toList=ys.map f:=by
 obtain ⟨h1,h2⟩:=h
 refine G3 fun i=>?_
 rw [GA,Fg]
 rcases G6 i n with hi | hi
 ·have e:acc[i]? = some acc[i]:=FP (by omega)
  obtain ⟨y,h3,h4⟩:=hP i _ (h2 i _ e)
  rw [e,h3,h4]; rfl
 ·rw [Gy (by omega),FB (by omega)]; rfl
theorem Cm (es:Array (Int×Value)) (ord:List Nat) (h:∀ j ∈ ord,j < es.size):ord.map (fun j=>((es[j]?).map (·.2)).getD .none)=(ord.filterMap (fun j=>es[j]?)).map (·.2):=by
 induction ord with
 | nil=>rfl
 | cons j r ih =>
  have hj:=h j Fd
  rw [EN,ih fun k hk=>h k (E7 _ hk),Gs,FP hj]
  rfl
theorem um {S:Addr}{xs:List Str}{Q:Value→Shared→Prop} (q:i7 prog w s.heap S xs) (h:∀ itv s1,Ay prog w s S xs itv s1→Q itv s1):wpAny (model prog w) A (pyIter (.ref S)) Q E s:=by
 obtain ⟨o,es,ep,t,ho,hc,hS,hd,hled,hpl,hsz,hn,hall⟩:=oO q
 have hT:s.TypeIs (.ref S) "set" := ⟨o,ho,hc⟩
 have hSlt:S < s.heap.objs.size:=E6 ho
 refine wpAny_pyIter_slot hT SF.slot_set_iter (Ge SF.slot_set_iter hT SF.entry_set_iter ?_ (SF.args_set_iter_1 _))
 unfold Builtin.«frozenset.__iter__»
 refine ET (m:=Builtin.Frozenset.slot0 _ _) (EY ?_)
 refine ET (m:=Builtin.Frozenset.sizeOf S) ?_
 unfold Builtin.Frozenset.sizeOf
 refine ET (gN hS (EY ?_))
 refine ET (m:=setDrawn S) ?_
 unfold setDrawn
 refine ET (dM hS ?_)
 dsimp only
 refine ET (dW (EY ?_))
 have hzl:es.size≤sizeLine:=Fa hsz (by decide)
 refine Hg (fun z=>?_) fun z=>?_
 ·have hdr:(!dD w && (!t.plain && decide (es.size > 1)))=true:=z
  refine ET (jj es.size (List.range es.size) s _ (by simp) fun ord d1 hp=>?_)
  have hlen:ord.length=es.size:=by rw [hp.length_eq,Fo]
  have hlt:∀ j ∈ ord,j < es.size:=fun j hj=>List.mem_range.mp (hp.mem_iff.mp hj)
  refine ET (wpAny_newTuple ?_ (by rw [EW,hlen]; exact hzl))
  refine ET ?_
  have hS1:eF (s.heap.push { cls:=.type "tuple",data:=.seq (ord.map fun j:Nat=>rawInt j).toArray }) S es ep t:=hS.keep fun o e=>EU _ e
  obtain ⟨o1,ho1,hd1⟩:=hS1.ex
  refine wpAny_setEpoch_of (s:={ s with heap:=s.heap.push { cls:=.type "tuple",data:=.seq (ord.map fun j:Nat=>rawInt j).toArray },drawn:=d1 }) ho1 hd1 hS.fits ?_
  refine ET (FI (EY ⟨_,rfl,"set_iterator",_,⟨_,EZ _ rfl,rfl⟩,SF.slot_setit_next.lookup,?_⟩))
  have sz1:(s.heap.push { cls:=.type "tuple",data:=.seq (ord.map fun j:Nat=>rawInt j).toArray }).objs.size=s.heap.objs.size + 1:=FF ..
  refine h _ _ ⟨_,[_,S,s.heap.objs.size],es.size,_,_,_,d1,rfl,rfl,fun b o e=>EU _ (EU _ e),?_,?_,fun A hA=>qv (ep:=ep) (t:=t) hA ?_ ?_ hlt hlen,⟨⟨_,EZ _ rfl,rfl,rfl⟩,hS1.keep fun o e=>EU _ e,?_⟩,hzl,?_⟩
  ·intro b hb
   rcases List.mem_cons.mp hb with rfl | hb
   ·right; rw [sz1]; omega
   ·rcases List.mem_cons.mp hb with rfl | hb
    ·left; rfl
    ·right; rw [List.mem_singleton.mp hb]; exact E9 _
  ·rw [sz1]; exact G1 _
  ·rw [sz1]; exact Fh (Gq hSlt)
  ·rw [sz1]; exact Fh (Nat.lt_succ_self _)
  ·exact g_ (IsTup.new _ _) fun o e=>EU _ e
  ·intro acc hacc
   refine hall _ ?_
   rw [g9 ord (fun j=>((es[j]?).map (·.2)).getD .none) hacc hlen fun i v ⟨j,hv,e1,e2⟩=>⟨j,e1,by rw [e2]; rfl⟩,Cm es ord hlt]
   refine List.Perm.map _ ((hp.filterMap _).trans ?_)
   rw [filterMap_getElem?_range]
 ·have hdr:¬ (!dD w && (!t.plain && decide (es.size > 1)))=true:=z
  have hdr':(!dD w && (!t.plain && decide (es.size > 1)))=false:=by simpa using hdr
  refine ET (EY ?_)
  refine ET ?_
  obtain ⟨o1,ho1,hd1⟩:=hS.ex
  refine wpAny_setEpoch_of ho1 hd1 hS.fits ?_
  refine ET (FI (EY ⟨_,rfl,"set_iterator",_,⟨_,EZ _ rfl,rfl⟩,SF.slot_setit_next.lookup,?_⟩))
  have hfp:∀ b ∈ [s.heap.objs.size,S],b=S∨s.heap.objs.size≤b:=fun b hb=>by
   rcases List.mem_cons.mp hb with rfl | hb
   ·exact .inr (E9 _)
   ·exact .inl (List.mem_singleton.mp hb)
  have hne:S ≠ s.heap.objs.size:=Fh hSlt
  cases hbt:dD w with
  | true =>
   refine h _ _ ⟨_,[_,S],es.size,_,_,_,s.drawn,rfl,rfl,fun b o e=>EU _ e,hfp,E9 _,fun A hA=>uf (ep:=ep) (t:=t) hA hbt hne,⟨⟨_,EZ _ rfl,rfl,rfl⟩,hS.keep fun o e=>EU _ e⟩,hzl,fun acc hacc=>?_⟩
   refine hall _ ?_
   have hp:=ei (w.params.setOrder S ep) es
   rw [g9 (dG w S ep es).toList (·.2) hacc (by rw [hp.length_eq]; simp) fun i v ⟨hv,e⟩=>⟨_,by rw [GA]; exact e,rfl⟩]
   exact hp.map _
  | false =>
   rw [hbt] at hdr' hled
   have hsm:es.size≤1:=by
    rcases G6 1 es.size with h1 | h1
    ·rw [hpl (by omega)] at hdr'
     simp at hdr'
     omega
    ·exact h1
   refine h _ _ ⟨_,[_,S],es.size,_,_,_,s.drawn,rfl,rfl,fun b o e=>EU _ e,hfp,E9 _,fun A hA=>qu (ep:=ep) (t:=t) hA hbt hne hled hsm,⟨⟨_,EZ _ rfl,rfl,rfl⟩,hS.keep fun o e=>EU _ e⟩,hzl,fun acc hacc=>?_⟩
   refine hall _ ?_
   rw [g9 es.toList (·.2) hacc (by simp) fun i v ⟨hv,e⟩=>⟨_,by rw [GA]; exact e,rfl⟩]
theorem uo {r:Addr}{Q:Bool→Shared→Prop} (hT:s.TypeIs (.ref r) "set") (h:Q false s):wpAny (model prog w) A (Builtin.List.listLengthHint (.ref r)) Q E s:=by
 unfold Builtin.List.listLengthHint
 refine ET (wpAny_specialOf hT PySem.F.slot_set_len.lookup ?_)
 generalize hid:("set.__len__" : String)=id0
 wp_delta
 rw [show splitId id0=some ("set","__len__") from by subst hid; decide +kernel]
 subst hid
 refine ET (wpAny_isInstance (T := "set") (b:=true) hT (by rw [GR]; kernel_rfl) ?_)
 refine Hg (fun hab=>absurd hab (by decide)) (fun _=>?_)
 refine Hg (fun _=>?_) (fun hab=>absurd (by decide +kernel) hab)
 refine ET (GW hT ?_)
 exact EY h
def tW (prog:Program) (w:World) (s:Shared) (S:Addr) (Pv:List Value→Prop) (itv:Value) (s1:Shared):Prop :=
 ∃ (it:Addr) (fp:List Addr) (n:Nat) (P:Nat→Value→Prop) (St:Nat→Heap→Prop) (h1:Heap) (d1:Drawn),itv=.ref it∧s1={ s with heap:=h1,drawn:=d1 }∧(∀ b o,s.heap.get? b=some o→h1.get? b=some o) ∧
  (∀ b ∈ fp,b=S∨s.heap.objs.size≤b)∧s.heap.objs.size≤it∧(∀ A:Around,A.handled=none→Walks prog w A it fp [it] n P St)∧St 0 h1∧n≤sizeLine∧∀ acc:Array Value,ItemsOf P acc n→Pv acc.toList
theorem i_ {T:String}{S:Addr}{o:Obj}{Pv:List Value→Prop}{R:List Value→Shared→Prop} (hh:A.handled=none) (ho:s.heap.get? S=some o) (hc:o.cls=.type T) (hT1:(Value.type T == Value.type "list")=false) (hT2:(Value.type T == Value.type "tuple")=false)
  (hint:∀ (A:Around) (E:Value→Shared→Prop) (s':Shared) (Q:Bool→Shared→Prop),s'.TypeIs (.ref S) T→Q false s'→wpAny (model prog w) A (Builtin.List.listLengthHint (.ref S)) Q E s')
  (iter:∀ (A:Around) (E:Value→Shared→Prop) (s':Shared) (Q:Value→Shared→Prop),(∀ o,s.heap.get? S=some o→s'.heap.get? S=some o)→(∀ itv s1,tW prog w s' S Pv itv s1→Q itv s1)→wpAny (model prog w) A (pyIter (.ref S)) Q E s')
  (h:∀ (h':Heap) (d':Drawn) (tk:Nat) (vs:List Value),(∀ b o,s.heap.get? b=some o→h'.get? b=some o)→s.heap.objs.size≤h'.objs.size→Pv vs→R vs { s with heap:=h',drawn:=d',toks:=tk }) :
  wpAny (model prog w) A (collect (.ref S)) R E s:=by
 have hSlt:S < s.heap.objs.size:=E6 ho
 let RR:Result→Shared→Prop:=fun r s'=>∃ (h':Heap) (d':Drawn) (tk:Nat) (acc:Array Value) (c:Nat),r=.ok (.ret (.ref s.heap.objs.size))∧s'={ s with heap:=h',drawn:=d',toks:=tk } ∧
  (∀ b o,s.heap.get? b=some o→h'.get? b=some o)∧h'.get? s.heap.objs.size=some { cls:=.type "list",dict:=none,data:=.seq acc c,slots:=#[] }∧Pv acc.toList
 have ext:wpAny (model prog w) A.in1 (Builtin.List.listExtendWith (.ref s.heap.objs.size) (.ref S) (.ref s.heap.objs.size))
   (fun fin s'=>match fin with | .done f=>RR (.ok f) s' | .again c'=>c'.quiet=true∧codeAny (model prog w) A c' RR s') (fun e s'=>RR (.error e) s') { s with heap:=s.heap.push { cls:=.type "list",data:=.seq ([]:List Value).toArray } }:=by
  have hL1:(s.heap.push { cls:=.type "list",data:=.seq ([]:List Value).toArray }).get? s.heap.objs.size=some { cls:=.type "list",data:=.seq #[] }:=EZ _ rfl
  have sz1:(s.heap.push { cls:=.type "list",data:=.seq ([]:List Value).toArray }).objs.size=s.heap.objs.size + 1:=FF ..
  have hSL:s.heap.objs.size ≠ S:=Hd hSlt
  unfold Builtin.List.listExtendWith
  refine ET (GW (T:=T) ⟨o,EU _ ho,hc⟩ ?_)
  have e1:Builtin.List.listSameRef (.ref s.heap.objs.size) (.ref S)=false:=by simp [Builtin.List.listSameRef,hSL]
  rw [if_neg (by rw [e1,hT1,hT2]; decide)]
  refine ET (iter _ _ _ _ (fun o e=>EU _ e) fun itv s2 came=>?_)
  obtain ⟨it,fp,n,P,St,h1,d1,rfl,rfl,kp,hfp,hit,hW,hst,hn,hacc⟩:=came
  have hL2:h1.get? s.heap.objs.size=some { cls:=.type "list",data:=.seq #[] }:=kp _ _ hL1
  have hLf:s.heap.objs.size ∉ fp:=fun hb=>by
   rcases hfp _ hb with e | e
   ·exact hSL e
   ·have e':s.heap.objs.size + 1≤s.heap.objs.size:=by rw [← sz1]; exact e
    exact absurd e' (Nat.not_succ_le_self _)
  refine ET (GJ (hint _ _ _ _ ⟨o,kp _ _ (EU _ ho),hc⟩ ?_))
  have key:∀ (h:Heap) (c₁:Nat),St 0 h→(∀ b o,b ≠ s.heap.objs.size→h1.get? b=some o→h.get? b=some o)→h.get? s.heap.objs.size=some { cls:=.type "list",data:=.seq #[] c₁ } →
    codeAny (model prog w) A (.builtin "list.extend.loop" ⟨[.ref s.heap.objs.size,.ref it,.ref s.heap.objs.size],[]⟩) RR { s with heap:=h,drawn:=d1 }:=by
   intro h c₁ st hk hL
   refine codeAny_extend_loopS (hW A.in1 hh).toS hn s.heap.objs.size hLf _ n 0 _ #[] c₁ rfl (FV _) st hL (ItemsOf.nil _) fun s' acc' c' hm hS' hacc'=>?_
   refine ⟨s'.heap,d1,s'.toks,acc',c',rfl,Moved.eq_with hm,fun b o' e=>?_,hS',hacc acc' hacc'⟩
   have hb:b < s.heap.objs.size:=E6 e
   refine hm.heap b o' (fun hmem=>?_) (hk b o' (Fh hb) (kp b o' (EU _ e)))
   rcases List.mem_cons.mp hmem with e' | hmem
   ·exact absurd e' (Fh hb)
   ·have e2:=List.mem_singleton.mp hmem
    have e3:s.heap.objs.size + 1≤it:=by rw [← sz1]; exact hit
    rw [e2] at hb
    exact absurd e3 (Nat.not_le.mpr (Gq hb))
  refine Hg (fun _=>?_) (fun _=>EY ⟨HG PySem.F.plain_extend_loop _,key h1 0 hst (fun _ _ _ e=>e) hL2⟩)
  refine ET (HR ?_)
  refine ET ?_
  show wpAny _ _ (updateSeq s.heap.objs.size (·.push .none) >>= fun _=>updateSeq s.heap.objs.size (·.pop)) _ _ _
  refine ET (wpAny_updateSeq hL2 rfl ?_)
  have hS2:=FD (Obj.mapSeq (·.push Value.none)) hL2 rfl
  refine wpAny_updateSeq (hz:=by seq_fits) hS2 rfl ?_
  have hS3:=FD (Obj.mapSeq (·.pop)) hS2 rfl
  have oth:∀ b o,b ≠ s.heap.objs.size→h1.get? b=some o→((h1.update s.heap.objs.size (Obj.mapSeq (·.push Value.none))).update s.heap.objs.size (Obj.mapSeq (·.pop))).get? b=some o:=fun b o hb e=>(Ft _ _ (Ne.symm hb)).trans ((Ft _ _ (Ne.symm hb)).trans e)
  exact EY ⟨HG PySem.F.plain_extend_loop _,key _ _ ((hW A.in1 hh).frame 0 _ _ hst fun b hb o e=>oth b o (fun z=>hLf (by rw [← z]; exact hb)) e) oth hS3⟩
 unfold collect
 refine ET (HW (Gk entry_proto_collect' ?_))
 rw [GO PySem.F.plain_proto_collect _]
 show wpAny _ A.in1 (newList [] >>= fun l=>again (.builtin "list.__iadd__" ⟨[l,.ref S],[]⟩)) _ _ s
 refine ET (FI ?_)
 refine EY ⟨HG PySem.F.plain_list_iadd _,Gk entry_list_iadd' ?_⟩
 rw [GO PySem.F.plain_list_iadd _]
 show wpAny _ A.in1 (Builtin.List.listExtendWith (.ref s.heap.objs.size) (.ref S) (.ref s.heap.objs.size)) _ _ _
 refine FG ext (fun fin s' x=>?_) fun e s' x=>?_
 ·cases fin with
  | done f =>
   obtain ⟨h',d',tk,acc',c',e,rfl,hk,hS',a1⟩:=x
   cases e
   show wpAny _ A (load s.heap.objs.size >>= _) _ _ _
   refine ET (wpAny_load hS' ?_)
   exact EY (h h' d' tk _ hk (Gm (E6 hS')) a1)
  | again c₁ =>
   refine ⟨x.1,GF x.2 fun q s₂ y=>?_⟩
   obtain ⟨h',d',tk,acc',c',rfl,rfl,hk,hS',a1⟩:=y
   show wpAny _ A (load s.heap.objs.size >>= _) _ _ _
   refine ET (wpAny_load hS' ?_)
   exact EY (h h' d' tk _ hk (Gm (E6 hS')) a1)
 ·obtain ⟨_,_,_,_,_,e',_⟩:=x
  cases e'
theorem m5 {S:Addr}{xs:List Str}{R:List Value→Shared→Prop} (hh:A.handled=none) (q:i7 prog w s.heap S xs)
  (h:∀ (h':Heap) (d':Drawn) (tk:Nat) (vs:List Value) (ss:List Str),(∀ b o,s.heap.get? b=some o→h'.get? b=some o)→s.heap.objs.size≤h'.objs.size→StrsAre vs ss→ss.Perm (ded xs)→R vs { s with heap:=h',drawn:=d',toks:=tk }) :
  wpAny (model prog w) A (collect (.ref S)) R E s:=by
 obtain ⟨o,es,ep,t,ho,hc,_⟩:=oO q
 refine i_ (Pv:=fun vs=>∃ ss,StrsAre vs ss∧ss.Perm (ded xs)) hh ho hc (by decide) (by decide) (fun A E s' Q hT hq=>uo hT hq) (fun A E s' Q kp hq=>um (q.at kp) hq) fun h' d' tk vs kp hz zz127_0=>by obtain ⟨ss,a1,a2⟩:=zz127_0; exact h h' d' tk vs ss kp hz a1 a2
end
def leS (a b:Str):Bool:=!decide (b.cps.toList < a.cps.toList)
def cZ (ss:List Str):List Str:=ss.mergeSort leS
theorem uW {a b c:List Nat} (h1:¬ b < a) (h2:¬ c < b):¬ c < a:=by
 have h1':a≤b:=List.not_lt.mp h1
 have h2':b≤c:=List.not_lt.mp h2
 exact List.not_lt.mpr (List.le_trans h1' h2')
theorem mh (a b c:Str) (h1:leS a b=true) (h2:leS b c=true):leS a c=true:=by
 unfold leS at *
 simp only [Ho,GP] at *
 exact uW h1 h2
theorem uX (a b:Str):(leS a b || leS b a)=true:=by
 unfold leS
 rcases List.le_total a.cps.toList b.cps.toList with h | h
 ·rw [Fc (List.not_lt.mpr h)]; rfl
 ·rw [Fc (p:=a.cps.toList < b.cps.toList) (List.not_lt.mpr h)]; simp
theorem mW {a b:Str} (h:a.cps.toList=b.cps.toList):a=b:=by
 cases a; cases b
 congr 1
 exact Array.toList_inj.mp h
theorem xp {a b:Str} (h1:leS a b=true) (h2:leS b a=true):a=b:=by
 unfold leS at *
 simp only [Ho,GP] at *
 exact mW (List.le_antisymm (List.not_lt.mp h1) (List.not_lt.mp h2))
theorem cB (ss:List Str):(cZ ss).Perm ss:=List.mergeSort_perm ss leS
theorem jI (ss:List Str):(cZ ss).Pairwise (fun a b=>leS a b=true):=List.pairwise_mergeSort mh uX ss
theorem mZ {ss ts:List Str} (hp:ts.Perm ss) (hs:ts.Pairwise (fun a b=>leS a b=true)):ts=cZ ss :=
 List.Perm.eq_of_pairwise (fun a b _ _ h1 h2=>xp h1 h2) hs (jI ss) (hp.trans (cB ss).symm)
theorem jd:∀ (p:Str) (l:List Str),risingS p l=true→(p :: l).Pairwise (fun a b=>leS a b=true)
 | p,[],_=>GS _ _
 | p,x :: r,h=>by
  have h':(!ltCps x.cps.toList p.cps.toList && risingS x r)=true:=h
  rw [FK] at h'
  have ih:=jd x r h'.2
  have hpx:leS p x=true:=by unfold leS; rw [← ltCps_eq]; exact h'.1
  refine List.pairwise_cons.mpr ⟨fun y hy=>?_,ih⟩
  rcases List.mem_cons.mp hy with rfl | hy
  ·exact hpx
  ·exact mh _ _ _ hpx ((List.pairwise_cons.mp ih).1 y hy)
theorem mY:∀ (l:List Str),sortedS l=true→l.Pairwise (fun a b=>leS a b=true)
 | [],_=>.nil
 | x :: r,h=>jd x r h
section
variable {prog:Program}{w:World}{A:Around}{E:Value→Shared→Prop}{s:Shared}
theorem p9 {T:String}{l:Addr}{o:Obj}{vs:List Value}{n:Nat}{Q:List Value→Shared→Prop} (ho:s.heap.get? l=some o) (hc:o.cls=.type T) (hd:o.data=.seq vs.toArray n) (hT:T = "list"∨T = "tuple") (hsz:vs.length≤sizeLine)
  (h:∀ h',(∀ b o,s.heap.get? b=some o→h'.get? b=some o)→s.heap.objs.size≤h'.objs.size→Q vs { s with heap:=h' }):wpAny (model prog w) A (collect (.ref l)) Q E s:=by
 unfold collect
 refine ET (HW (Gk entry_proto_collect' ?_))
 show wpAny _ _ (do again (.builtin "list.__iadd__" ⟨[← newList [],.ref l],[]⟩)) _ _ s
 refine ET (wpAny_newList (EY ⟨G4 _ (by decide +kernel),Gk entry_list_iadd' ?_⟩))
 show wpAny _ _ (Builtin.List.listExtendWith (.ref s.heap.objs.size) (.ref l) (.ref s.heap.objs.size)) _ _ { s with heap:=s.heap.push (seqObj "list" #[] 0) }
 unfold Builtin.List.listExtendWith
 have ho':(s.heap.push (seqObj "list" #[] 0)).get? l=some o:=EU _ ho
 refine ET (GW (T:=T) ⟨o,ho',hc⟩ ?_)
 rw [if_pos (by rcases hT with rfl | rfl <;> simp)]
 refine ET (listItems_at ho' hd ?_)
 refine ET (listItems_at (xs:=#[]) (n:=0) (EZ _ rfl) rfl ?_)
 rw [if_neg (by simp)]
 refine ET (listUpdate_at (xs:=#[]) (n:=0) (EZ _ rfl) rfl ?_ (FV _) (by show (#[] ++ vs.toArray).size≤sizeLine + 1; simp only [Array.size_append,E_,EM]; omega))
 refine EY ?_
 show wpAny (model prog w) A (do
   let o ← load s.heap.objs.size
   match o.data with
   | .seq xs _=>pure xs.toList
   | _=>unsupported "internal:collect") Q E { s with heap:=(s.heap.push (seqObj "list" #[] 0)).update s.heap.objs.size (Obj.mapSeq (· ++ vs.toArray)) }
 refine ET (wpAny_load (get?_update_seq (EZ _ rfl) _) ?_)
 show wpAny _ _ (pure ((#[]:Array Value) ++ vs.toArray).toList) Q E _
 rw [show ((#[]:Array Value) ++ vs.toArray).toList=vs by simp]
 exact EY (h _ (fun b o e=>(Ft _ _ (Hd (E6 e))).trans (EU _ e)) (by rw [Heap.size_update,size_push']; exact G1 _))
theorem fY {r:Addr}{ss0:List Str}{Q:Value→Shared→Prop} (h64:ss0.length < 64)
  (hc:∀ R:List Value→Shared→Prop,(∀ (h':Heap) (d':Drawn) (tk:Nat) (vs:List Value) (ss:List Str),(∀ b o,s.heap.get? b=some o→h'.get? b=some o)→s.heap.objs.size≤h'.objs.size→StrsAre vs ss→ss.Perm ss0→R vs { s with heap:=h',drawn:=d',toks:=tk })→wpAny (model prog w) A.in1 (collect (.ref r)) R E s)
  (h:∀ (D:Addr) (h':Heap) (d':Drawn) (tk:Nat) (its:List Value) (e:Nat),(∀ b o,s.heap.get? b=some o→h'.get? b=some o)→s.heap.objs.size≤D→h'.get? D=some { cls:=.type "list",data:=.seq its.toArray e }→StrsAre its (cZ ss0)→Q (.ref D) { s with heap:=h',drawn:=d',toks:=tk }) :
  wpAny (model prog w) A (call (.builtin "sorted") [.ref r]) Q E s:=by
 refine Calls.call_function_entry kind_sorted plain_sorted entry_sorted (args_sorted1 _) ?_
 unfold Builtin.«sorted»
 refine ET (m:=checkCount "sorted" 1 1 _) (EY ?_)
 refine ET (hc _ fun h' d' tk vs ss kp hD hS hp=>?_)
 have hlen:vs.length=ss0.length:=by rw [StrsAre.length hS,hp.length_eq]
 refine ET (wpAny_newList ?_ (by rw [hlen]; exact Fa (Gm h64) (by decide)))
 have hoL:(h'.push (seqObj "list" vs.toArray 0)).get? h'.objs.size=some (seqObj "list" vs.toArray 0):=EZ _ rfl
 show wpAny _ _ _ _ _ { s with heap:=h'.push (seqObj "list" vs.toArray 0),drawn:=d',toks:=tk }
 refine ET (GJ (Ge slot_list_sort ⟨_,hoL,rfl⟩ entry_list_sort (list_sort_treeK strKind_oneLt hoL hS.keysOf (fun v₁ v₂ bI e=>keyKind_strs (by rw [← e]; exact hS)) (by rw [hlen]; exact h64) fun st' a1 a2=>⟨_,rfl,?_⟩) (args_list_sort _)))
 obtain ⟨ss',b1,b2,b3⟩:=sorted_out_str hS a1 a2
 obtain ⟨e,he⟩:=sortedHeap_at (out:=(arrOf st').map (·.2)) hoL
 have hlt:∀ b o,s.heap.get? b=some o→(sortedHeap (h'.push (seqObj "list" vs.toArray 0)) h'.objs.size vs ((arrOf st').map (·.2))).get? b=some o:=fun b o eb=>by
  have e1:=kp b o eb
  have e2:=E6 e1
  rw [sortedHeap_old (Fh e2) (by rw [size_push']; exact Gq e2)]
  exact EU _ e1
 refine EY ⟨_,rfl,h _ _ d' tk ((arrOf st').map (·.2)).toList e hlt hD (by rw [Array.toArray_toList]; exact he) ?_⟩
 rw [← mZ (b2.trans hp) (mY ss' b3)]
 exact b1
end
theorem lJ:∀ {ss:List Str}{its:List Value},StrsAre its ss→aR (ss.map V.str) its
 := fun h=>by
  cases h with
  | nil=>exact .nil
  | cons _ t h=>exact .cons ⟨t,rfl⟩ (lJ h)
theorem iM:∀ {ss:List Str}{its:List Value},aR (ss.map V.str) its→StrsAre its ss
 := fun {ss its} z=>by
  cases ss with
  | nil=>cases z; exact .nil
  | cons x ss =>
   cases z with
   | cons r h=>obtain ⟨t,e⟩:=r; subst e; exact .cons x t (iM h)
section
variable {X:Cx}
theorem Inv.laidS {pins:List (Addr×Obj)} {σ:St}{H:Hp}{s:Shared} (I:Inv X pins σ H s) {h':Heap}{d':Drawn}{tk:Nat}{D:Addr}{its:List Value}{e:Nat}{ss:List Str} (kp:∀ b o,s.heap.get? b=some o→h'.get? b=some o) (hD:s.heap.objs.size≤D)
  (hl:h'.get? D=some { cls:=.type "list",data:=.seq its.toArray e }) (hS:StrsAre its ss) (hz:ss.length≤sizeLine):Inv X pins σ (upd H D (.lst (ss.map V.str))) { s with heap:=h',drawn:=d',toks:=tk }:=by
 have I1:Inv X pins σ (upd H D (.lst (ss.map V.str))) { s with heap:=h',toks:=tk }:=I.laid kp hD ⟨by rw [EW]; exact hz,its,e,lJ hS,hl⟩
 exact ⟨I1.ok,I1.os,I1.bare,I1.base,I1.loc,I1.cell,I1.free,I1.freeC,I1.pin,I1.hok,I1.len⟩
def ng (K:PySem.W.Frag):List V→Hp→VK→Prop:=fun xs H Q=>∃ p ss,xs=[.ref p]∧(SqL K H p (ss.map V.str)∨SqT K H p (ss.map V.str))∧ss.length < 64∧∀ l,H l=none→Q (.ref l) (upd H l (.lst ((cZ ss).map V.str)))
theorem qa:cQ X (.builtin "sorted") (ng X.K):=by
 intro pins s σ H xs us Q I r h
 obtain ⟨p,ss,rfl,hq,h64,q⟩:=h
 obtain ⟨u,rfl,ru⟩:=gO r
 cases ru
 have hz:ss.length≤sizeLine:=Fa (Gm h64) (by decide)
 obtain ⟨T,o,its,n,ho,hc,hd,hT,rv⟩:∃ T o its n,s.heap.get? p=some o∧o.cls=.type T∧o.data=.seq (List.toArray its) n∧(T = "list"∨T = "tuple")∧aR (ss.map V.str) its:=by
  rcases hq with hq | hq
  ·obtain ⟨its,rv,pl,_⟩:=I.list hq
   obtain ⟨o,n,e,c,hd,hdata⟩:=pl
   exact ⟨"list",o,its,_,e,c,hdata,.inl rfl,rv⟩
  ·obtain ⟨its,rv,⟨o,e,c,n,hd⟩,_⟩:=I.tuple hq
   exact ⟨"tuple",o,its,n,e,c,hd,.inr rfl,rv⟩
 have hS:=iM rv
 refine fY (ss0:=ss) h64 (fun R hR=>p9 ho hc hd hT (by rw [StrsAre.length hS]; exact hz) fun h' kp hsz=>?_) fun D h' d' tk its' e kp hD hl hS'=>?_
 ·have z:=hR h' s.drawn s.toks its ss kp hsz hS (.refl _)
  exact z
 ·exact ⟨.ref D,_,I.laidS kp hD hl hS' (by rw [(cB ss).length_eq]; exact hz),rfl,q D (I.hok.fresh hD)⟩
end
section
variable {X:Cx}{e:Expr}{p p2 pos pos2:Pos}{te:TE}
def qA (K:PySem.W.Frag) (te:TE):TE:=fun σ H Q=>te σ H fun x H1=>∃ a ss,x=.ref a∧(SqL K H1 a (ss.map V.str)∨SqT K H1 a (ss.map V.str))∧ss.length + 1 < 4096∧(ded ss).length < 64∧∀ l,H1 l=none→Q (.ref l) (upd H1 l (.lst ((cZ (ded ss)).map V.str)))
theorem nj (hc:X.calm=true) (hg:Gl X "sorted") (hm:X.mg "sorted" = none) (hv:bootBuiltins "sorted" = some (.builtin "sorted")) (hg2:Gl X "set") (hm2:X.mg "set" = none) (hv2:bootBuiltins "set" = some (.type "set")) (he:PE X e te)
  (hs:starEach [e] X.env=[(false,eval e X.env)]:=by rfl):PE X (.Call (.Name "sorted" p) [.Call (.Name "set" p2) [e] [] pos2] [] pos) (qA X.K te):=by
 intro pins s σ H Q I h
 refine Go (fG I hg hm hv ?_ (by decide) (by decide))
 refine PyProof.Rows.callWith_builtin1 ?_ rfl rfl
 show wpAny _ _ (spliced [(false,eval (.Call (.Name "set" p2) [e] [] pos2) X.env)]) _ _ s
 refine G5 ?_
 refine Go (fG I hg2 hm2 hv2 ?_ (by decide) (by decide))
 refine F0 ?_ hs rfl
 rw [hs]
 show wpAny _ _ (spliced [(false,eval e X.env)]) _ _ s
 refine G5 (thn (he pins s σ H _ I h) fun u s1 ⟨x,H1,I1,r1,a,ss,ex,hq,hb,h64,q⟩=>Hy ?_)
 subst ex
 cases r1
 obtain ⟨T,o,its,n,ho,hcl,hd,hT,rv⟩:∃ T o its n,s1.heap.get? a=some o∧o.cls=.type T∧o.data=.seq (List.toArray its) n∧(T = "list"∨T = "tuple")∧aR (ss.map V.str) its:=by
  rcases hq with hq | hq
  ·obtain ⟨its,rv,pl,_⟩:=I1.list hq
   obtain ⟨o,n,e,c,hd,hdata⟩:=pl
   exact ⟨"list",o,its,_,e,c,hdata,.inl rfl,rv⟩
  ·obtain ⟨its,rv,⟨o,e,c,n,hd⟩,_⟩:=I1.tuple hq
   exact ⟨"tuple",o,its,n,e,c,hd,.inr rfl,rv⟩
 have hS:=iM rv
 have hl:=StrsAre.length hS
 refine vo (xs:=ss) (I1.ok.hd hc) ho hcl hd hT (fun i v hi=>?_) (by rw [E_,hl]) (by rw [E_,hl]; exact hb) fun h' tk hset kp=>?_
 ·have hi':its[i]? = some v:=by simpa using hi
  obtain ⟨y,t,e⟩:=hS.all v (F_ hi')
  refine ⟨y,t,?_,e⟩
  rw [← hS.strs,Fg,hi',e]; rfl
 ·have kp':∀ b o,s1.heap.get? b=some o→h'.get? b=some o:=fun b o e=>kp b o (E6 e) e
  have I2:Inv X pins σ H1 { s1 with heap:=h',toks:=tk }:=I1.kept kp'
  refine Hy ?_
  refine fY (ss0:=ded ss) h64 (fun R hR=>m5 (show X.A.in1.handled=none from I1.ok.hd hc) hset hR) fun D h2 d' tk2 its' e2 kp2 hD hl2 hS2=>?_
  refine ⟨.ref D,_,I2.laidS kp2 hD hl2 hS2 ?_,rfl,q D (I2.hok.fresh hD)⟩
  rw [(cB _).length_eq]
  exact Fa (Gm h64) (by decide)
end
end L2
namespace L2.Cu
open PySem PySem.Spec PyProof.Rows
def e8:List D→Option (List Str)
 | []=>some []
 | .str x :: r=>(e8 r).map fun xs=>x :: xs
 | _=>none
theorem jH:∀ {ds:List D}{ss:List Str},e8 ds=some ss→ds=ss.map D.str
 | [],ss,h=>by cases h; rfl
 | .str x :: r,ss,h=>by
  unfold e8 at h
  cases hr:e8 r with
  | none=>rw [hr] at h; cases h
  | some cs =>
   rw [hr] at h
   cases h
   rw [jH hr]; rfl
theorem lM (ss:List Str):e8 (ss.map D.str)=some ss:=by
 induction ss with
 | nil=>rfl
 | cons x r ih=>show (e8 (r.map D.str)).map _=_; rw [ih]; rfl
theorem Reps.strs {F:Hp}:∀ {vs:List V}{ss:List Str},Reps F vs (ss.map D.str)→vs=ss.map V.str
 := fun {vs ss} z=>by
  cases ss with
  | nil=>cases z; rfl
  | cons x ss =>
   cases z with
   | cons r t=>cases r; rw [Reps.strs t]; rfl
theorem Reps.ofStrs {F:Hp}:∀ (ss:List Str),Reps F (ss.map V.str) (ss.map D.str)
 | []=>.nil
 | x :: ss=>.cons (.str x) (Reps.ofStrs ss)
def v_ (d:D):Option D:=(fZ d).bind fun ds=>(e8 ds).bind fun ss=>if ss.length < 64 then some (.lst ((cZ ss).map D.str)) else none
def fX (d:D):Option D:=(fZ d).bind fun ds=>(e8 ds).bind fun ss=>if ss.length + 1 < 4096∧(ded ss).length < 64 then some (.lst ((cZ (ded ss)).map D.str)) else none
section
variable {X:Cx}{e:Expr}{p p2 pos pos2:Pos}{f:DE→Option D}
theorem wg {K:PySem.W.Frag}{F H:Hp}{v:V}{d:D}{ds:List D}{ss:List Str} (s:∀ a u,F a=some u→H a=some u) (r:OB F H v d) (h:fZ d=some ds) (h2:e8 ds=some ss):∃ a,v=.ref a∧(SqL K H a (ss.map V.str)∨SqT K H a (ss.map V.str)):=by
 have e2:=jH h2
 subst e2
 cases d with
 | lst xs =>
  cases h
  obtain ⟨a,vs,rfl,ha,rs⟩:=OB.lst s r
  rw [Reps.strs rs] at ha
  exact ⟨a,rfl,.inl (SqL.of ha)⟩
 | tup xs =>
  cases h
  obtain ⟨a,vs,rfl,ha,rs⟩:=r.tup
  rw [Reps.strs rs] at ha
  exact ⟨a,rfl,.inr (SqT.of (s _ _ ha))⟩
 | _=>cases h
theorem uv {K:PySem.W.Frag}:jr .F (ng K) v_:=fun F H v x d Q s rx h q=>by
 unfold v_ at h
 cases h1:fZ x with
 | none=>simp [h1] at h
 | some ds =>
  cases h2:e8 ds with
  | none=>simp [h1,h2] at h
  | some ss =>
   simp only [h1,h2,EG] at h
   split at h
   ·rename_i h64
    cases h
    obtain ⟨a,rfl,hq⟩:=wg (K:=K) s rx h1 h2
    exact ⟨a,ss,rfl,hq,h64,fun l hl=>q _ F _ (Ext.lay s hl) ⟨l,_,rfl,hl,aw,nofr s hl,Reps.ofStrs _⟩⟩
   ·cases h
theorem nL (hu:X.A.units + 64 < cLine) (hc:X.calm=true) (hg:Gl X "sorted") (hm:X.mg "sorted" = none) (hv:bootBuiltins "sorted" = some (.builtin "sorted")) (hg2:Gl X "set") (hm2:X.mg "set" = none) (hv2:bootBuiltins "set" = some (.type "set"))
  (ha:Ev X .O e f) (he:aP e=true:=by rfl):Ev X .F (.Call (.Name "sorted" p) [.Call (.Name "set" p2) [e] [] pos2] [] pos) (un fX f) :=
 PE.by (nj hc hg hm hv hg2 hm2 hv2 ha.h (aE e [] X.env he)) fun σ H Q zz129_0=>by
  obtain ⟨B,F,E,d,k,q,w⟩:=zz129_0
  unfold un at q
  cases hf:f E with
  | none=>simp [hf] at q
  | some x =>
   simp only [hf,EG] at q
   unfold fX at q
   cases h1:fZ x with
   | none=>simp [h1] at q
   | some ds =>
    cases h2:e8 ds with
    | none=>simp [h1,h2] at q
    | some ss =>
     simp only [h1,h2,EG] at q
     split at q
     ·rename_i hz
      cases q
      refine ⟨B,F,E,x,k,hf,fun v F1 H1 x1 r1=>?_⟩
      obtain ⟨a,rfl,hq⟩:=wg (K:=X.K) x1.sub r1 h1 h2
      exact ⟨a,ss,rfl,hq,hz.1,hz.2,fun l hl=>w _ F1 _ (x1.trans (Ext.lay x1.sub hl)) ⟨l,_,rfl,x1.nofree hl,aw,nofr x1.sub hl,Reps.ofStrs _⟩⟩
     ·cases q
end
end L2.Cu
namespace L2
open PySem PySem.Spec PyProof.Rows
section
variable {X:Cx}
def zb:V→List V→Hp→VK→Prop:=fun x vs H Q=>∃ a b kvs more,x=.ref a∧vs=[.ref b]∧a ≠ b∧H a=some (.dK kvs)∧H b=some (.dK more)∧kvs.length + more.length≤sizeLine∧Q .non (upd H a (.dK (gZ kvs more)))
theorem uR:MtM X "dict.update" zb:=by
 intro pins s σ H x vs v us Q I rx rv h
 obtain ⟨a,b,kvs,more,rfl,rfl,hab,ha,hb,hz,q⟩:=h
 cases rx
 obtain ⟨u,rfl,ru⟩:=rv.one
 cases ru
 obtain ⟨z1,hd1,vs1,rel1,dd1⟩:=tH I.hok ha
 obtain ⟨z2,hd2,vs2,rel2,dd2⟩:=tH I.hok hb
 refine call_meetsIn PySem.F.slot_dict_update dd1.typeIs PySem.F.entry_dict_update (PySem.F.args_dict_update_2 _ _) (meets_dict_update (bf X.prog X.w) a b hab hd2) ⟨vs1,vs2,dd1,dd2,by rw [← rel1.length,← rel2.length]; exact hz,fun h' d1 d2 hs=>?_⟩
 have he:∃ q,h'.get? a=some q:=let ⟨q,_,_,hq,_⟩:=d1; ⟨q,hq⟩
 have hl:(gZ kvs more).length≤sizeLine:=Fa (eV more kvs) hz
 exact ⟨.non,_,jC (t':=s.toks) I (by rw [ha]; exact True.intro) hs he (rB hl hd1 (rel2.merge rel1) d1),rfl,q⟩
def j9 (x:Str) (n:Int):Str:=⟨(List.replicate n.toNat x.cps.toList).flatten.toArray⟩
theorem o3 (a:List Nat):∀ (k:Nat) (acc:List Nat),List.foldl (fun x1 x2=>x1 ++ x2) acc.toArray (List.replicate k a.toArray)=(acc ++ (List.replicate k a).flatten).toArray
 | 0,acc=>by simp
 | k + 1,acc=>by
  have e:acc.toArray ++ a.toArray=(acc ++ a).toArray:=by simp
  have e2:(acc ++ a) ++ (List.replicate k a).flatten=acc ++ (List.replicate (k + 1) a).flatten:=by rw [GL,Hm,GB]
  rw [GL,ES,e,o3 a k (acc ++ a),e2]
theorem qN:OpR X (binaryOp .Mult) (fun x y H Q=>∃ z n,x=.str z∧y=.int n∧0≤n∧n < 2 ^ 20∧z.length * n.toNat≤sizeLine∧Q (.str (j9 z n)) H):=by
 intro pins s σ H x y v u Q I rx ry h
 obtain ⟨z,n,rfl,rfl,h0,h1,hz,q⟩:=h
 obtain ⟨t,rfl⟩:=rx
 obtain ⟨t',rfl⟩:=ry
 have hzl:z.length * n.toNat≤2 ^ 24:=hz
 refine PySem.P.mul_str ?_ (fun hn hb=>?_) (fun hn hb=>?_) ?_
 ·rw [Fc (by omega),Fc (by omega)]; rfl
 ·have hn1:1≤n:=by omega
  have hzn:(z.length:Int)≤2 ^ 24:=by
   have h2:z.length * 1≤z.length * n.toNat:=Nat.mul_le_mul_left _ (by omega)
   omega
  have hdiv:(2 ^ 63 - 1) / 2 ^ 20≤(2 ^ 63 - 1) / n:=by
   refine Int.le_ediv_of_mul_le (by omega) ?_
   have h3:(2 ^ 63 - 1) / 2 ^ 20 * n≤(2 ^ 63 - 1) / 2 ^ 20 * 2 ^ 20:=Int.mul_le_mul_of_nonneg_left (by omega) (by decide)
   omega
  omega
 ·unfold Builtin.Str.tooLong
  exact Fc (by have:sizeLine=2 ^ 24:=rfl; omega)
 ·have e0:(List.replicate n.toNat z.cps).foldl (· ++ ·) #[]=(List.replicate n.toNat z.cps.toList).flatten.toArray:=by
   have:=o3 z.cps.toList n.toNat []
   simpa using this
  by_cases hn:n < 1
  ·rw [if_pos hn]
   refine ⟨by decide,?_⟩
   have e:j9 z n=Str.empty:=by
    have:n.toNat=0:=by omega
    unfold j9; rw [this]; rfl
   rw [e] at q
   exact ⟨.str _,H,I.tok _,⟨_,rfl⟩,q⟩
  ·rw [if_neg hn]
   by_cases hb:(n == 1 || z.length == 0)=true
   ·rw [if_pos hb]
    have e:j9 z n=z:=by
     unfold j9
     rcases Bool.or_eq_true_iff.mp hb with hb | hb
     ·have:n=1:=by simpa using hb
      subst this
      simp
     ·have hl:z.cps.size=0:=(by simpa using hb:z.length=0)
      have:z.cps=#[]:=Array.eq_empty_of_size_eq_zero hl
      cases z
      simp only at this
      subst this
      simp
    rw [e] at q
    exact ⟨.str z,H,I,⟨t,rfl⟩,q⟩
   ·rw [if_neg hb,e0]
    refine ⟨?_,⟨.str _,H,I.tok _,⟨_,rfl⟩,q⟩⟩
    show ((List.replicate n.toNat z.cps.toList).flatten.toArray).size≤sizeLine
    rw [E_,zM,FU,Nat.mul_comm]
    exact hz
end
end L2
namespace L2.Cu
open PySem PySem.Spec PyProof.Rows
section
variable {X:Cx}{a b e:Expr}{pos apos cpos spos dpos pos':Pos}{f g:DE→Option D}
theorem PE.or {e:Expr}{t t':TE} (h:PE X e t) (h':PE X e t'):PE X e (fun σ H Q=>t σ H Q∨t' σ H Q):=fun pins s σ H Q I q=>q.elim (h pins s σ H Q I) (h' pins s σ H Q I)
theorem PT.or {e:Expr}{t t':TT} (h:PT X e t) (h':PT X e t'):PT X e (fun σ H Q=>t σ H Q∨t' σ H Q):=fun pins s σ H Q I q=>q.elim (h pins s σ H Q I) (h' pins s σ H Q I)
def pw (x y:D):Option D:=match x,y with
 | .str z,.int n=>if 0≤n∧n < 2 ^ 20∧z.length * n.toNat≤sizeLine then some (.str (j9 z n)) else none
 | x,y=>xg x y
theorem y8:eG .V (fun x y H Q=>(rI (fun i j=>Builtin.Int.intBits i≤2 ^ 20∧Builtin.Int.intBits j≤2 ^ 20) fun i j=>.int (i * j)) x y H Q∨∃ z n,x=V.str z∧y=V.int n∧0≤n∧n < 2 ^ 20∧z.length * n.toNat≤sizeLine∧Q (.str (j9 z n)) H) pw:=fun F H v w x y d Q s rx ry h q=>by
 have onI:xg x y=some d→(rI (fun i j=>Builtin.Int.intBits i≤2 ^ 20∧Builtin.Int.intBits j≤2 ^ 20) fun i j=>V.int (i * j)) v w H Q:=fun h=>Br F H v w x y d Q s rx ry h q
 cases x with
 | str z =>
  cases y with
  | int n =>
   have h':(if 0≤n∧n < 2 ^ 20∧z.length * n.toNat≤sizeLine then some (D.str (j9 z n)) else none)=some d:=h
   split at h'
   ·rename_i hc
    cases h'
    exact .inr ⟨z,n,rx.str,ry.int,hc.1,hc.2.1,hc.2.2,q _ F H (Ext.refl s) (.str _)⟩
   ·cases h'
  | _=>exact .inl (onI h)
 | _=>exact .inl (onI h)
theorem tf (ha:Ev X .O a f) (hb:Ev X .O b g):Ev X .V (.BinOp a .Mult b pos) (bin pw f g):=iY (OpR.or zB qN) y8 ha hb
def nh (kvs:List (Key×D)) (k:Key) (v:D):List (Key×D):=if (kvs.any fun kv=>decide (kv.1=k))=true then kvs.map (fun kv=>if kv.1=k then (kv.1,v) else kv) else kvs ++ [(k,v)]
theorem RepK.any {F:Hp}{k:Key}:∀ {vs:List (Key×V)} {ds:List (Key×D)},RepK F vs ds→(vs.any fun kv=>decide (kv.1=k))=ds.any fun kv=>decide (kv.1=k)
 := fun r=>by
  cases r with
  | nil=>rfl
  | cons _ t=>rw [Gu,Gu,RepK.any t]
theorem RepK.map1 {F:Hp}{k:Key}{v:V}{d:D} (r:Rep F v d):∀ {vs:List (Key×V)} {ds:List (Key×D)},RepK F vs ds→RepK F (vs.map (fun kv=>if kv.1=k then (kv.1,v) else kv)) (ds.map (fun kv=>if kv.1=k then (kv.1,d) else kv))
 := fun q=>by
  cases q with
  | nil=>exact .nil
  | @cons k' v' d' vs ds r' t =>
   rw [EN,EN]
   by_cases e:k'=k
   ·rw [if_pos e,if_pos e]; exact .cons r (RepK.map1 r t)
   ·rw [if_neg e,if_neg e]; exact .cons r' (RepK.map1 r t)
theorem RepK.snoc {F:Hp}{k:Key}{v:V}{d:D} (r:Rep F v d):∀ {vs:List (Key×V)} {ds:List (Key×D)},RepK F vs ds→RepK F (vs ++ [(k,v)]) (ds ++ [(k,d)])
 := fun q=>by
  cases q with
  | nil=>exact .cons r .nil
  | cons r' t=>exact .cons r' (RepK.snoc r t)
theorem RepK.put {F:Hp}{k:Key}{v:V}{d:D} (r:Rep F v d) {vs:List (Key×V)} {ds:List (Key×D)} (h:RepK F vs ds):RepK F (eT vs k v) (nh ds k d):=by
 unfold eT nh
 rw [h.any]
 split
 ·exact h.map1 r
 ·exact h.snoc r
def jk (i:Nat) (fk fv:DE→Option D) (E:DE):Option Out:=match E[i]? with
 | some (.own (.dic kvs))=>(fk E).bind fun x=>(c3 x).bind fun k=>(fv E).bind fun v=>if kvs.length < sizeLine then some (.nx (E.set i (.own (.dic (nh kvs k v))))) else none
 | _=>none
theorem ve (hu:X.A.units + 64 < cLine) {i:Nat}{o:Expr} (ho:PE X o (gM i)) (ha:Ev X .V a f) (hb:Ev X .V b g) (hbase:attributeBase o "update" X.env (eval o X.env)=eval o X.env:=by rfl)
  (hfew:((backTo cpos (starEach [.Dict [some a] [b] dpos] X.env)).all (fun x => !x.1) && (backToKw cpos (keywordEach [] X.env)).all (fun x=>x.1.isSome) && decide (([.Dict [some a] [b] dpos]:List Expr).length + ([]:List Keyword).length + (if ([]:List Keyword).isEmpty then 0 else 1) < 30))=true:=by rfl)
  (hline:(apos.endLine == cpos.line)=true:=by rfl) (hs:swapsWith (.Call (.Attribute o "update" apos) [.Dict [some a] [b] dpos] [] cpos) none spos.line X.env=pure false:=by rfl) :
  Es X (.Expr (.Call (.Attribute o "update" apos) [.Dict [some a] [b] dpos] [] cpos) spos) (jk i f g) :=
 PS.by (io (sH PySem.F.plainAttrs_dict PySem.F.slot_dict_update PySem.F.type_dict_update uR ho (cI (z9 (pos:=dpos) ha hb).h ej) hbase hfew hline rfl rfl) hs) fun Z σ H zz130_0=>by
  obtain ⟨B,F,E,r,k,q,w⟩:=zz130_0
  unfold jk at q
  split at q
  ·rename_i kvs hd
   cases hf:f E with
   | none=>simp [hf] at q
   | some x =>
    cases hk:c3 x with
    | none=>simp [hf,hk] at q
    | some ky =>
     cases hg:g E with
     | none=>simp [hf,hk,hg] at q
     | some y =>
      simp only [hf,hk,hg,EG] at q
      split at q
      ·rename_i hz
       cases q
       obtain ⟨p,vs,h1,h2,h3,h4⟩:=sM k hd
       refine ⟨.ref p,h1,.inr (.inr (.inl ⟨rfl,.inl ⟨vs,h2⟩⟩)),B,F,E,.dic [(ky,y)],k,by simp [ym,hf,hk,hg],fun v F' H' x' rv=>?_⟩
       obtain ⟨c,o',rfl,hc0,hc,hcF,hor⟩:=rv
       cases o' with
       | dK ws =>
        cases (show RepK F' ws [(ky,y)] from hor) with
        | @cons _ u _ _ _ ru tl =>
         cases tl
         refine ⟨p,c,vs,[(ky,u)],rfl,rfl,fun z=>?_,x'.same _ _ h2,hc,by rw [h4.length]; exact hz,?_⟩
         ·rw [z,hc0] at h2; cases h2
         ·have z:=(k.ext x').rewrite hd h1 (o':=.dK (eT vs ky u)) (d':=.dic (nh kvs ky y)) ((h4.mono x'.fr).put ru)
          exact w σ F' _ z x'.fr
       | _=>exact False.elim hor
      ·cases q
  ·cases q
theorem tu (hu:X.A.units + 64 < cLine) {i:Nat}{o:Expr} (ho:PE X o (gM i)) (ha:Ev X .V a f) (hb:Ev X .V b g) (hs:swapsWith b (some (.Subscript o a pos')) pos.line X.env=pure false:=by rfl) :
  Es X (.Assign [.Subscript o a pos'] b pos) (jk i f g):=PS.by (sC (iW hu) ho ha.h hb.h hs) fun Z σ H zz131_0=>by
 obtain ⟨B,F,E,r,k,q,w⟩:=zz131_0
 unfold jk at q
 split at q
 ·rename_i kvs hd
  cases hf:f E with
  | none=>simp [hf] at q
  | some x =>
   cases hk:c3 x with
   | none=>simp [hf,hk] at q
   | some ky =>
    cases hg:g E with
    | none=>simp [hf,hk,hg] at q
    | some y =>
     simp only [hf,hk,hg,EG] at q
     split at q
     ·rename_i hz
      cases q
      obtain ⟨p,vs,h1,h2,h3,h4⟩:=sM k hd
      refine ⟨B,F,E,y,k,hg,fun v F1 H1 x1 r1=>⟨.ref p,h1,B,F1,E,x,k.ext x1,hf,fun u F2 H2 x2 r2=>?_⟩⟩
      have ek:=el (F:=F2) (H:=H2) hk (.inl r2)
      subst ek
      refine ⟨p,_,rfl,vI.k (x2.same _ _ (x1.same _ _ h2)) (by rw [h4.length]; exact hz),?_⟩
      have z:=((k.ext x1).ext x2).rewrite hd h1 (o':=.dK (eT vs ky v)) (d':=.dic (nh kvs ky y)) ((h4.mono (x1.trans x2).fr).put (r1.mono x2.fr))
      exact w σ F2 _ z (x1.trans x2).fr
     ·cases q
 ·cases q
def ixE (x y:D):Option D:=match x with
 | .dic kvs=>(c3 y).bind fun k=>dQ kvs k
 | x=>ixD x y
theorem bd (hu:X.A.units + 64 < cLine) (ha:Ev X .O a f) (hb:Ev X .O b g) (hs:tY b):Ev X .V (.Subscript a b pos) (bin ixE f g) :=
 PE.by (PE.or (DG Cc ha.h hb.h hs) (sF (iW hu) ha.h hb.h hs)) fun σ H Q h=>by
  obtain ⟨B,F,E,d,k,q,w⟩:=h
  have q0:=q
  unfold bin at q
  cases hf:f E with
  | none=>rw [hf] at q; cases q
  | some x =>
   rw [hf] at q
   cases hg:g E with
   | none=>rw [hg] at q; cases q
   | some y =>
    rw [hg] at q
    have seq:ixD x y=some d→tOp (rIx X.K) (tM .O f) (tM .O g) σ H Q:=fun hq=>gr (m:=.V) Dq σ H Q ⟨B,F,E,d,k,by unfold bin; rw [hf,hg]; exact hq,w⟩
    cases x with
    | dic kvs =>
     right
     have q':(c3 y).bind (fun k=>dQ kvs k)=some d:=q
     cases hk:c3 y with
     | none=>rw [hk] at q'; cases q'
     | some ky =>
      rw [hk] at q'
      have q2:dQ kvs ky=some d:=q'
      refine ⟨B,F,E,_,k,hf,fun v F1 H1 x1 r1=>⟨B,F1,E,y,k.ext x1,hg,fun u F2 H2 x2 r2=>?_⟩⟩
      obtain ⟨p,vs,rfl,hp,rk⟩:=OB.dic x1.sub r1
      have eu:u=kV ky:=el hk r2
      obtain ⟨v',e',r'⟩:=(RepK.val (k:=ky) (rk.mono x2.fr)).1 d q2
      refine ⟨p,v',rfl,?_,w v' F2 H2 (x1.trans x2) r'⟩
      rw [eu,← e']
      exact nS (qJ x2.same hp)
    | _=>exact .inl (seq q)
def uO (x y:D):Option D:=match y with
 | .dic kvs=>(c3 x).map fun k=>.bl (!(dQ kvs k).isSome)
 | y=>w_ x y
theorem rg {F:Hp}{vs:List (Key×V)} {ds:List (Key×D)} {k:Key} (r:RepK F vs ds):(dz vs k).isSome=(dQ ds k).isSome:=by
 obtain ⟨h1,h2⟩:=RepK.val (k:=k) r
 cases h:dQ ds k with
 | some d=>obtain ⟨v,e,_⟩:=h1 d h; rw [e]; rfl
 | none=>rw [h2 h]; rfl
theorem uN {K:PySem.W.Frag} (σ:St) (H:Hp) (Q:VK) (h:tM .V (bin uO f g) σ H Q):tOp (fun x y H Q=>(∃ i j,x=V.str i∧y=V.str j∧Q (.bl (!(!(Builtin.Str.occurrences j i 0 j.length 1).isEmpty))) H)∨rIn K true x y H Q) (tM .O f) (tM .O g) σ H Q∨sj (tM .O f) (tM .O g) σ H Q:=by
 obtain ⟨B,F,E,d,k,q,w⟩:=h
 unfold bin at q
 cases hf:f E with
 | none=>rw [hf] at q; cases q
 | some x =>
  rw [hf] at q
  cases hg:g E with
  | none=>rw [hg] at q; cases q
  | some y =>
   rw [hg] at q
   have seq:w_ x y=some d→tOp (fun x y H Q=>(∃ i j,x=V.str i∧y=V.str j∧Q (.bl (!(!(Builtin.Str.occurrences j i 0 j.length 1).isEmpty))) H)∨rIn K true x y H Q) (tM .O f) (tM .O g) σ H Q:=fun hq=>gr (m:=.V) Bp σ H Q ⟨B,F,E,d,k,by unfold bin; rw [hf,hg]; exact hq,w⟩
   cases y with
   | dic kvs =>
    right
    have q':(c3 x).map (fun k=>D.bl (!(dQ kvs k).isSome))=some d:=q
    cases hk:c3 x with
    | none=>rw [hk] at q'; cases q'
    | some ky =>
     rw [hk] at q'
     cases q'
     refine ⟨B,F,E,x,k,hf,fun v F1 H1 x1 r1=>⟨B,F1,E,_,k.ext x1,hg,fun u F2 H2 x2 r2=>?_⟩⟩
     obtain ⟨p,vs,rfl,hp,rk⟩:=OB.dic x2.sub r2
     have eu:v=kV ky:=el hk r1
     refine ⟨p,dz vs ky,rfl,by rw [eu]; exact nS hp,?_⟩
     rw [rg rk]
     exact w _ F2 H2 (x1.trans x2) (.bl _)
   | _=>exact .inl (seq q)
theorem z_ (hu:X.A.units + 64 < cLine) (ha:Ev X .O a f) (hb:Ev X .O b g) (hm:behindInMarks .NotIn b=false):Et X (.Compare a [.NotIn] [b] pos) (tst (bin uO f g)) :=
 PT.by (PT.or (ju (OpR.or nr nu) ha.h hb.h hm) (BC (uE (iW hu) ha.h hb.h) hm)) fun σ H Q q=>uN σ H _ (fU σ H Q q)
def bg (x:D):Option D:=match x with
 | .dic kvs=>some (.int kvs.length)
 | x=>xo x
theorem cQ.or {f:Value}{r r':List V→Hp→VK→Prop} (h:cQ X f r) (h':cQ X f r'):cQ X f (fun xs H Q=>r xs H Q∨r' xs H Q):=fun pins s σ H xs us Q I rv q=>q.elim (h pins s σ H xs us Q I rv) (h' pins s σ H xs us Q I rv)
theorem y_ {K:PySem.W.Frag}:jr .V (fun xs H Q=>(∃ x n,xs=[x]∧CV K x H n∧Q (.int n) H)∨∃ a kvs,xs=[V.ref a]∧Rd H a (.dK kvs)∧Q (.int kvs.length) H) bg:=fun F H v x d Q s rx h q=>by
 cases x with
 | dic kvs =>
  cases E4 h
  obtain ⟨p,vs,rfl,hp,rk⟩:=OB.dic s rx
  refine .inr ⟨p,vs,rfl,hp,?_⟩
  rw [rk.length]
  exact q _ F H (Ext.refl s) (.int _)
 | _=>exact .inl (Bu F H v _ d Q s rx h q)
theorem vq:cQ X (.builtin "len") (fun xs H Q=>∃ a kvs,xs=[V.ref a]∧Rd H a (.dK kvs)∧Q (.int kvs.length) H):=by
 intro pins s σ H xs us Q I r h
 obtain ⟨a,kvs,rfl,ha,q⟩:=h
 obtain ⟨u,rfl,ru⟩:=gO r
 cases ru
 exact D6 I ha fun t s' I'=>⟨.int kvs.length,H,I',⟨t,rfl⟩,q⟩
theorem aO {p:Pos} (hg:Gl X "len") (hm:X.mg "len" = none) (ha:Ev X .O e f) (he:aP e=true:=by rfl):Ev X .V (.Call (.Name "len" p) [e] [] pos) (un bg f) :=
 jA (cQ.or yu vq) y_ hg hm PySem.boot_len ha (by decide) (by decide) he
def rc:List (Key×D)→Option (List Str)
 | []=>some []
 | (.inr x,_) :: r=>(rc r).map fun xs=>x :: xs
 | _=>none
def o4:List V→Hp→VK→Prop:=fun xs H Q=>∃ p kvs ss,xs=[.ref p]∧Rd H p (.dK kvs)∧kvs.map (·.1)=ss.map (Sum.inr:Str→Key)∧ss.length < 64∧∀ l,H l=none→Q (.ref l) (upd H l (.lst ((cZ ss).map V.str)))
theorem mi:∀ {ds:List (Key×D)} {ss:List Str},rc ds=some ss→ds.map (·.1)=ss.map (Sum.inr:Str→Key)
 | [],ss,h=>by cases h; rfl
 | (.inr x,d) :: r,ss,h=>by
  unfold rc at h
  cases hr:rc r with
  | none=>rw [hr] at h; cases h
  | some xs=>rw [hr] at h; cases h; rw [EN,mi hr]; rfl
theorem RepK.keys {F:Hp}:∀ {vs:List (Key×V)} {ds:List (Key×D)},RepK F vs ds→vs.map (·.1)=ds.map (·.1)
 := fun r=>by
  cases r with
  | nil=>rfl
  | cons _ t=>rw [EN,EN,RepK.keys t]
end
end L2.Cu
namespace L2
open PySem PySem.Spec PyProof.Rows
theorem vh {prog:Program}{w:World}{A:Around}{E:Value→Shared→Prop}{s:Shared}{d:Addr}{kvs:List (Key×Value)} {ep:Nat}{Pv:List Value→Prop}{Q:Value→Shared→Prop} (lo:(d == sysModules)=false) (hm:s.heap.DictAt (bf prog w) d kvs ep) (hz:kvs.length≤sizeLine)
  (hP:∀ vs:List Value,vs.length=kvs.length→(∀ (i:Nat) v,vs[i]? = some v→∃ k x,kvs[i]? = some (k,x)∧(bf prog w).is k v=true)→Pv vs) (h:∀ itv s1,tW prog w s d Pv itv s1→Q itv s1):wpAny (model prog w) A (pyIter (.ref d)) Q E s:=by
 refine wpAny_pyIter_dict lo hm (h _ _ ⟨_,[s.heap.objs.size,d],kvs.length,_,_,_,s.drawn,rfl,rfl,fun b o e=>EU _ e,fun b hb=>?_,E9 _,fun A hA=>Walks.dictKeys (knd:=bf prog w) hA _ d (Fh hm.lt_size) kvs ep,⟨⟨_,EZ _ rfl,rfl,rfl⟩,hm.push _⟩,hz,fun acc hacc=>?_⟩)
 ·rcases List.mem_cons.mp hb with rfl | hb
  ·exact .inr (E9 _)
  ·exact .inl (List.mem_singleton.mp hb)
 ·exact hP _ (by rw [FU]; exact hacc.1) fun i v e=>hacc.2 i v (by rw [← GA]; exact e)
theorem lL {P:Program}{w:World}:∀ {ss:List Str}{kvs:List (Key×Value)} {vs:List Value},kvs.map (·.1)=ss.map (Sum.inr:Str→Key)→vs.length=kvs.length→(∀ (i:Nat) v,vs[i]? = some v→∃ k x,kvs[i]? = some (k,x)∧(bf P w).is k v=true)→StrsAre vs ss
 | [],kvs,vs,hk,hl,h=>by
  have e1:kvs=[]:=List.map_eq_nil_iff.mp hk
  subst e1
  have e2:vs=[]:=List.length_eq_zero_iff.mp hl
  subst e2
  exact .nil
 | x :: ss,[],vs,hk,hl,h=>by simp at hk
 | x :: ss,(k,y) :: kvs,[],hk,hl,h=>by simp at hl
 | x :: ss,(k,y) :: kvs,v :: vs,hk,hl,h=>by
  rw [EN,EN] at hk
  injection hk with hk1 hk2
  obtain ⟨k',x',e,hi⟩:=h 0 v rfl
  cases e
  have hk1':k=Sum.inr x:=hk1
  subst hk1'
  rcases bM (show gQ (Sum.inr x) v=true from hi) with ⟨i,t,e,_⟩ | ⟨z,t,e,rfl⟩ | ⟨e,_⟩
  ·cases e
  rotate_left
  ·cases e
  ·cases e
   exact .cons x t (lL hk2 (by simpa using hl) fun i v hv=>by simpa using h (i + 1) v (by simpa using hv))
theorem nV {X:Cx} (hc:X.calm=true):cQ X (.builtin "sorted") Cu.o4:=by
 intro pins s σ H xs us Q I r h
 obtain ⟨p,kvs,ss,rfl,hp,hk,h64,q⟩:=h
 obtain ⟨u,rfl,ru⟩:=gO r
 cases ru
 obtain ⟨z,hd,vs,rel,dd⟩:=jg I.hok hp
 obtain ⟨ep,hat⟩:=dd.dictAt
 have hz:ss.length≤sizeLine:=Fa (Gm h64) (by decide)
 have hks:=rel.keys.symm.trans hk
 obtain ⟨o,es,ho,hx,_⟩:=id hat
 refine fY (ss0:=ss) h64 (fun R hR=>?_) fun D h' d' tk its' e kp hD hl hS'=>?_
 ·refine i_ (T := "dict") (Pv:=fun us=>StrsAre us ss) (show X.A.in1.handled=none from I.ok.hd hc) ho hx.1 (by decide) (by decide) (fun A E s' Q hT hq=>PySem.W.kdl_hint_dict hT hq) (fun A E s' Q kp hq=>vh hd (hat.at' kp) (by rw [← rel.length]; exact z) (fun us h1 h2=>lL hks h1 h2) hq) fun h' d' tk us kp hsz hS=>hR h' d' tk us ss kp hsz hS (.refl _)
 ·exact ⟨.ref D,_,I.laidS kp hD hl hS' (by rw [(cB ss).length_eq]; exact hz),rfl,q D (I.hok.fresh hD)⟩
end L2
namespace L2.Cu
open PySem PySem.Spec PyProof.Rows
section
variable {X:Cx}{a b e:Expr}{p pos:Pos}{f g:DE→Option D}
def lN (x:D):Option D:=match x with
 | .dic kvs=>(rc kvs).bind fun ss=>if ss.length < 64 then some (.lst ((cZ ss).map D.str)) else none
 | x=>v_ x
theorem wt {K:PySem.W.Frag}:jr .F (fun xs H Q=>ng K xs H Q∨o4 xs H Q) lN:=fun F H v x d Q s rx h q=>by
 cases x with
 | dic kvs =>
  have h':(rc kvs).bind (fun ss=>if ss.length < 64 then some (D.lst ((cZ ss).map D.str)) else none)=some d:=h
  cases hk:rc kvs with
  | none=>rw [hk] at h'; cases h'
  | some ss =>
   simp only [hk,EG] at h'
   split at h'
   ·rename_i h64
    cases h'
    obtain ⟨c,vs,rfl,hc,rk⟩:=OB.dic s rx
    exact .inr ⟨c,vs,ss,rfl,hc,rk.keys.trans (mi hk),h64,fun l hl=>q _ F _ (Ext.lay s hl) ⟨l,_,rfl,hl,aw,nofr s hl,Reps.ofStrs _⟩⟩
   ·cases h'
 | _=>exact .inl (uv F H v _ d Q s rx h q)
theorem xT (hc:X.calm=true) (hg:Gl X "sorted") (hm:X.mg "sorted" = none) (hv:bootBuiltins "sorted" = some (.builtin "sorted")) (ha:Ev X .O e f) (he:aP e=true:=by rfl):Ev X .F (.Call (.Name "sorted" p) [e] [] pos) (un lN f) :=
 jA (cQ.or qa (nV hc)) wt hg hm hv ha (by decide) (by decide) he
end
end L2.Cu
namespace L2
open PySem PySem.Spec PyProof.Rows
def RIt (b:Bool) (h:Heap) (it a:Addr) (i:Nat):Prop:=match b with
 | true=>h.IsListIter it a i
 | false=>h.IsTupleIter it a i
def RSq (b:Bool) (h:Heap) (a:Addr) (vs:Array Value):Prop:=match b with
 | true=>h.IsList a vs
 | false=>h.IsTuple a vs
theorem RIt.keep {b:Bool}{h h':Heap}{it a:Addr}{i:Nat} (x:RIt b h it a i) (k:∀ o,h.get? it=some o→h'.get? it=some o):RIt b h' it a i:=by
 cases b <;> exact let ⟨o,e,r⟩:=x; ⟨o,k o e,r⟩
theorem RSq.keep {b:Bool}{h h':Heap}{a:Addr}{vs:Array Value} (x:RSq b h a vs) (k:∀ o,h.get? a=some o→h'.get? a=some o):RSq b h' a vs:=by
 cases b <;> exact let ⟨o,e,r⟩:=x; ⟨o,k o e,r⟩
theorem RIt.obj {b:Bool}{h:Heap}{it a:Addr}{i:Nat} (x:RIt b h it a i):∃ o,h.get? it=some o∧∃ vs,o.data=.fields vs:=by
 cases b <;> exact let ⟨o,e,_,r⟩:=x; ⟨o,e,_,r⟩
section
variable {prog:Program}{w:World}{A:Around}{E:Value→Shared→Prop}{s:Shared}
theorem vZ {it t:Addr}{i:Nat}{vs:Array Value}{x:Value}{Q:Value→Shared→Prop} (st:s.heap.IsTupleIter it t i) (ht:s.heap.IsTuple t vs) (hx:vs[i]? = some x)
  (q:∀ h',h'.IsTupleIter it t (i + 1)→Heap.SameBut it s.heap h'→Q x { s with heap:=h' }):wpAny (model prog w) A (Builtin.SmallTypes.nextOf (.ref it)) Q E s:=by
 obtain ⟨o,ho,hc,hd⟩:=id st
 obtain ⟨p,hp,_,n,hn⟩:=ht
 unfold Builtin.SmallTypes.nextOf
 refine ET (Gi (name:=Str.ofString "__next__") st.typeIs GM (Ge GM st.typeIs F.entry_tuple_iterator_next ?_ (F.args_tuple_iterator_next_1 _)))
 show wpAny _ _ (field (.ref it) 0 >>= _) _ _ s
 refine ET (Ga ho hd (x:=.ref t) rfl ?_)
 show wpAny _ _ (if (Value.ref t == Value.none)=true then _ else field (.ref it) 1 >>= _) _ _ s
 rw [if_neg (show ¬ (Value.ref t == Value.none)=true from Fe)]
 refine ET (Ga ho hd (x:=.int i 0) rfl (ET (GQ hp hn ?_)))
 simp only [Gd,hx]
 exact ET (Gj ho hd (by simp) (EY ⟨x,rfl,EY (q _ ⟨_,FD _ ho (Gg (FC hd _)),(H_ ..).trans hc,by rw [FC hd]; simp [rawInt]⟩ (Gz ..))⟩))
theorem yQ {it t:Addr}{i:Nat}{vs:Array Value}{Q:Value→Shared→Prop} (hh:A.handled=none) (st:s.heap.IsTupleIter it t i) (ht:s.heap.IsTuple t vs) (hx:vs[i]? = none)
  (q:∀ h' e,Heap.ExtBut it s.heap h'→(∃ o,h'.get? e=some o∧o.cls=.type "StopIteration")→E (.ref e) { s with heap:=h' }):wpAny (model prog w) A (Builtin.SmallTypes.nextOf (.ref it)) Q E s:=by
 obtain ⟨o,ho,hc,hd⟩:=id st
 obtain ⟨p,hp,_,n,hn⟩:=ht
 unfold Builtin.SmallTypes.nextOf
 refine ET (Gi (name:=Str.ofString "__next__") st.typeIs GM (Ge GM st.typeIs F.entry_tuple_iterator_next ?_ (F.args_tuple_iterator_next_1 _)))
 show wpAny _ _ (field (.ref it) 0 >>= _) _ _ s
 refine ET (Ga ho hd (x:=.ref t) rfl ?_)
 show wpAny _ _ (if (Value.ref t == Value.none)=true then _ else field (.ref it) 1 >>= _) _ _ s
 rw [if_neg (show ¬ (Value.ref t == Value.none)=true from Fe)]
 refine ET (Ga ho hd (x:=.int i 0) rfl (ET (GQ hp hn ?_)))
 simp only [Gd,hx]
 refine ET (HR (ET (Gj ho hd (by simp) ?_)))
 show wpAny _ _ (newExc (.type "StopIteration") [] >>= _) _ _ _
 refine ET ?_
 simp only [newExc,newTuple]
 refine ET (FI (ET (m:=firstArgMember _ _) (wpAny_of_eq (a:=Value.none) (by first | rfl | (simp only [firstArgMember]; rfl)) (FI ?_ (by size_fits)))) (by size_fits))
 simp only [raiseNew]
 refine ET (wpAny_handled ?_)
 rw [show A.in1.handled=none from hh]
 exact ET (EY (wpAny_throw (q _ _ (((Gz ..).extBut.push _).push _) ⟨_,EZ _ rfl,rfl⟩)))
theorem oX {b:Bool}{it t:Addr}{i:Nat}{vs:Array Value}{x:Value}{Q:Value→Shared→Prop} (st:RIt b s.heap it t i) (ht:RSq b s.heap t vs) (hx:vs[i]? = some x)
  (q:∀ h',RIt b h' it t (i + 1)→Heap.SameBut it s.heap h'→Q x { s with heap:=h' }):wpAny (model prog w) A (Builtin.SmallTypes.nextOf (.ref it)) Q E s:=by
 cases b with
 | true=>exact wpAny_nextOf_list_item st ht hx q
 | false=>exact vZ st ht hx q
theorem sw {b:Bool}{it t:Addr}{i:Nat}{vs:Array Value}{Q:Value→Shared→Prop} (hh:A.handled=none) (st:RIt b s.heap it t i) (ht:RSq b s.heap t vs) (hx:vs[i]? = none)
  (q:∀ h' e,Heap.ExtBut it s.heap h'→(∃ o,h'.get? e=some o∧o.cls=.type "StopIteration")→E (.ref e) { s with heap:=h' }):wpAny (model prog w) A (Builtin.SmallTypes.nextOf (.ref it)) Q E s:=by
 cases b with
 | true=>exact wpAny_nextOf_list_end hh st ht hx q
 | false=>exact yQ hh st ht hx q
def bo (b:Bool) (a:Addr):Obj:=match b with
 | true=>{ cls:=.type "list_iterator",data:=.fields #[.ref a,.int 0 0] }
 | false=>{ cls:=.type "tuple_iterator",data:=.fields #[.ref a,.int 0 0] }
theorem gE {b:Bool}{a it:Addr}{h:Heap} (e:h.get? it=some (bo b a)):RIt b h it a 0:=by
 cases b <;> exact ⟨_,e,rfl,rfl⟩
theorem jc {b:Bool}{a:Addr}{vs:Array Value}{Q:Value→Shared→Prop} (h:RSq b s.heap a vs) (q:Q (.ref s.heap.objs.size) { s with heap:=s.heap.push (bo b a) }):wpAny (model prog w) A (pyIter (.ref a)) Q E s:=by
 cases b with
 | true=>exact Hw h q
 | false=>exact H8 h q
end
theorem cw {a b:Nat} (h:a ≠ b):@Ne Addr a b:=h
structure ZSt (so:List (Bool×Addr)) (m:Nat) (f0:Value) (i:Nat→Nat) (ws:List Value) (h:Heap):Prop where
 its:∀ (k:Nat) (b:Bool) (a:Addr),so[k]? = some (b,a)→RIt b h (m + k) a (i k)
 ti:h.get? (m + so.length)=some { cls:=.type "tuple",data:=.seq ((List.range so.length).map fun k=>Value.ref (m + k)).toArray }
 to:h.get? (m + so.length + 1)=some { cls:=.type "tuple",data:=.seq ws.toArray }
 lw:ws.length=so.length
 z:IsZip h (m + so.length + 2) (m + so.length) (m + so.length + 1) f0
section
variable {prog:Program}{w:World}{A:Around}{E:Value→Shared→Prop}{s:Shared}
theorem yW {T:Addr}{ws:List Value}{x:Value}{k:Nat}{Q:Unit→Shared→Prop} (hn:ws.length≤sizeLine) (hT:s.heap.get? T=some { cls:=.type "tuple",data:=.seq ws.toArray })
  (h:∀ h',h'.get? T=some { cls:=.type "tuple",data:=.seq (ws.set k x).toArray }→Heap.SameBut T s.heap h'→Q () { s with heap:=h' }) :
  wpAny (model prog w) A (updateSeq T (·.setIfInBounds k x)) Q E s:=by
 refine wpAny_updateSeq hT rfl (h _ ?_ (Gz ..)) (by simpa using hn) (by simp; omega)
 rw [FD _ hT rfl]
 simp [Obj.mapSeq]
theorem wc {α:Type _} (xs ws:List α) (k:Nat) (x:α) (hx:xs[k]? = some x) (hk:k < ws.length):(xs.take k ++ ws.drop k).set k x=xs.take (k + 1) ++ ws.drop (k + 1):=by
 have hk':k < xs.length:=(List.getElem?_eq_some_iff.mp hx).1
 rw [List.set_append_right _ _ (by simp; omega)]
 have e:k - (xs.take k).length=0:=by simp; omega
 rw [e,FM hk,EJ,List.take_succ,hx]
 simp
theorem yJ {so:List (Bool×Addr)} {m:Nat}{i K:Nat}{ws xs:List Value}{Q:Value→Shared→Prop} (hh:A.handled=none) (hn:so.length≤sizeLine) (h0:so ≠ []) (hlt:∀ p ∈ so,p.2 < m) (st:ZSt so m .none (fun _=>i) ws s.heap)
  (hl:xs.length=K) (hK:K≤so.length) (hv:∀ (k:Nat) (b:Bool) (a:Addr),so[k]? = some (b,a)→∃ vs,RSq b s.heap a vs∧(k < K→vs[i]? = xs[k]?)∧(k=K→vs[i]? = none))
  (hQ:K=so.length→∀ h',ZSt so m (rawInt s.heap.objs.size) (fun _=>i + 1) xs h'→h'.get? s.heap.objs.size=some { cls:=.type "tuple",data:=.seq xs.toArray }→h'.objs.size=s.heap.objs.size + 1 →
   (∀ (c:Nat) o,(c < m∨m + so.length + 2 < c)→s.heap.get? c=some o→h'.get? c=some o)→Q (.ref s.heap.objs.size) { s with heap:=h' })
  (hE:K < so.length→∀ h' e,(∀ (c:Nat) o,(c < m∨m + so.length + 2 < c)→s.heap.get? c=some o→h'.get? c=some o)→(∃ o,h'.get? e=some o∧o.cls=.type "StopIteration")→E (.ref e) { s with heap:=h' }) :
  wpAny (model prog w) A (Builtin.«zip.__next__» ⟨[.ref (m + so.length + 2)],[]⟩) (fun fin s'=>∃ v,fin=.done (.ret v)∧Q v s') E s:=by
 have hz:=st.z
 show wpAny _ _ (field (.ref _) 2 >>= _) _ _ _
 refine ET (Ga hz rfl (x:=.bool false) rfl ?_)
 show wpAny _ _ (field (.ref _) 3 >>= _) _ _ _
 refine ET (Ga hz rfl (x:=.ref (m + so.length)) rfl ?_)
 refine ET (GQ st.ti rfl ?_)
 have he:((List.range so.length).map fun k=>Value.ref (m + k)).toArray.isEmpty=false:=by
  cases so with
  | nil=>exact absurd rfl h0
  | cons _ _=>simp
 simp only [he,Ff,HJ]
 refine ET ?_
 unfold Builtin.SmallTypes.ownedTupleIsFree
 refine ET (Ga hz rfl (x:=.none) rfl (EY ?_))
 simp only [if_true]
 refine ET (HR ?_)
 refine ET (Ga hz rfl (x:=.ref (m + so.length + 1)) rfl ?_)
 refine ET (Hs hz (by simp) fun h₁ hz₁ hs₁=>?_)
 replace hz₁:IsZip h₁ (m + so.length + 2) (m + so.length) (m + so.length + 1) .ellipsis:=hz₁
 have k₁:∀ c o,c ≠ m + so.length + 2→s.heap.get? c=some o→h₁.get? c=some o:=fun c o hc e=>hs₁.extBut _ _ hc e
 refine ET (wpAny_forIn_list _ (fun bI b s'=>∃ k h',k≤K∧bI=(((List.range so.length).map fun k=>Value.ref (m + k)).toArray.toList.zipIdx).drop k∧b=(none,())∧s'={ s with heap:=h' } ∧
  ZSt so m .ellipsis (fun j=>if j < k then i + 1 else i) (xs.take k ++ ws.drop k) h'∧h'.objs.size=s.heap.objs.size∧∀ (c:Nat) o,(c < m∨m + so.length + 2 < c)→s.heap.get? c=some o→h'.get? c=some o) _ ?_ ?_ _ _ ?_)
 ·intro x bI b s' hI
  refine FN fun hno=>?_
  obtain ⟨k,h',hk,hr,hb,hs,Z,hz',kk⟩:=hI
  subst hb hs
  apply hno
  clear hno
  have hkn:k < so.length:=by
   have:=FZ List.length hr
   simp at this
   omega
  have hx0:(((List.range so.length).map fun k=>Value.ref (m + k)).toArray.toList.zipIdx)[k]? = some x:=by
   have:=FZ (fun l=>l[0]?) hr
   simpa using this.symm
  have hx1:x=(.ref (m + k),k):=by
   simp [List.getElem?_zipIdx,hkn] at hx0
   exact hx0.symm
  have hr1:bI=(((List.range so.length).map fun k=>Value.ref (m + k)).toArray.toList.zipIdx).drop (k + 1):=by
   have:=FZ List.tail hr
   simpa [List.tail_drop] using this
  subst hx1
  obtain ⟨⟨b,a⟩,hba⟩:∃ p,so[k]? = some p:=⟨so[k],EV hkn⟩
  have ham:(a:Nat) < m:=hlt (b,a) (F_ hba)
  obtain ⟨vs,r0,v1,v2⟩:=hv k b a hba
  have r1:RSq b h' a vs:=r0.keep fun o e=>kk a o (.inl ham) e
  have i1:RIt b h' (m + k) a i:=by have:=Z.its k b a hba; simpa using this
  refine ET (wpAny_onRaise ?_)
  show wpAny _ _ (Builtin.SmallTypes.nextOf (.ref (m + k)) >>= _) _ _ _
  rcases G6 k K with hlk | hge
  ·have hxk:vs[i]? = some xs[k]:=by rw [v1 hlk]; exact EV (by omega)
   refine ET (oX (s:={ s with heap:=h' }) i1 r1 hxk fun h2 i2 s2=>EY ?_)
   have t2:=s2.extBut _ _ (show m + so.length + 1 ≠ m + k by first | omega | exact cw (by omega)) Z.to
   refine ET (GQ t2 rfl ?_)
   refine ET (yW (s:={ s with heap:=h2 }) (by rw [Z.lw]; exact hn) t2 fun h3 t3 s3=>?_)
   refine ET (wpAny_letGo (EY ?_))
   refine ⟨k + 1,h3,by omega,hr1,rfl,rfl,⟨?_,?_,?_,?_,?_⟩,?_,?_⟩
   ·intro j b' a' hj
    have hjn:j < so.length:=(List.getElem?_eq_some_iff.mp hj).1
    have up:∀ c o,c ≠ m + k→c ≠ m + so.length + 1→h'.get? c=some o→h3.get? c=some o:=fun c o c1 c2 e=>s3.extBut _ _ c2 (s2.extBut _ _ c1 e)
    by_cases ejk:j=k
    ·subst ejk
     rw [hba] at hj
     cases hj
     rw [if_pos (Nat.lt_succ_self _)]
     exact i2.keep fun o e=>s3.extBut _ _ (by first | omega | exact cw (by omega)) e
    ·have q:=Z.its j b' a' hj
     have ee:(if j < k + 1 then i + 1 else i)=if j < k then i + 1 else i:=by
      by_cases h:j < k
      ·rw [if_pos h,if_pos (by omega)]
      ·rw [if_neg h,if_neg (by omega)]
     show RIt b' h3 (m + j) a' (if j < k + 1 then i + 1 else i)
     rw [ee]
     exact q.keep fun o e=>up _ o (by first | omega | exact cw (by omega)) (by first | omega | exact cw (by omega)) e
   ·exact s3.extBut _ _ (by first | omega | exact cw (by omega)) (s2.extBut _ _ (by first | omega | exact cw (by omega)) Z.ti)
   ·rw [← wc xs ws k xs[k] (EV (by omega)) (by rw [st.lw]; exact hkn)]
    exact t3
   ·have:=st.lw
    simp
    omega
   ·exact s3.extBut _ _ (by first | omega | exact cw (by omega)) (s2.extBut _ _ (by first | omega | exact cw (by omega)) Z.z)
   ·rw [s3.1,s2.1]; exact hz'
   ·exact fun c o hc e=>s3.extBut _ _ (by first | omega | exact cw (by omega)) (s2.extBut _ _ (by first | omega | exact cw (by omega)) (kk c o hc e))
  ·have hkK:k=K:=by omega
   refine ET (sw (s:={ s with heap:=h' }) hh i1 r1 (v2 hkK) fun h2 e s2 he=>?_)
   obtain ⟨oe,hoe,hce⟩:=he
   have hz2:IsZip h2 (m + so.length + 2) (m + so.length) (m + so.length + 1) .ellipsis:=s2 _ _ (by first | omega | exact cw (by omega)) Z.z
   have hez:e ≠ m + so.length + 2:=fun x=>by subst x; rw [hz2] at hoe; cases hoe; simp at hce
   exact Hs (s:={ s with heap:=h2 }) hz2 (by simp) fun h3 _ s3=>hE (by omega) h3 e (fun c o hc x=>s3.extBut _ _ (by first | omega | exact cw (by omega)) (s2 _ _ (by first | omega | exact cw (by omega)) (kk c o hc x))) ⟨oe,s3.extBut _ _ hez hoe,hce⟩
 ·intro b s' hI
  refine FN fun hno=>?_
  obtain ⟨k,h',hk,hr,hb,hs,Z,hz',kk⟩:=hI
  subst hb hs
  apply hno
  clear hno
  have hkn:so.length≤k:=by
   have:=FZ List.length hr
   simp at this
   omega
  have hKn:K=so.length:=by omega
  have e1:xs.take k ++ ws.drop k=xs:=by rw [Gc (by omega),GZ (by rw [st.lw]; exact hkn),F9]
  have e2:∀ (j:Nat) (b:Bool) (a:Addr),so[j]? = some (b,a)→RIt b h' (m + j) a (i + 1):=fun j b a hj=>by
   have hjn:j < so.length:=(List.getElem?_eq_some_iff.mp hj).1
   have:=Z.its j b a hj
   rwa [if_pos (show j < k by omega)] at this
  have t1:=Z.to
  rw [e1] at t1
  refine ET (GQ t1 rfl ?_)
  refine ET (wpAny_newTuple ?_ (by simp; omega))
  show wpAny _ _ (Builtin.SmallTypes.ownedTupleHandOut _ (.ref h'.objs.size) >>= _) _ _ _
  refine ET ?_
  unfold Builtin.SmallTypes.ownedTupleHandOut
  have z3:=EU { cls:=.type "tuple",data:=.seq xs.toArray } Z.z
  refine ET (Hs (s:={ s with heap:=h'.push { cls:=.type "tuple",data:=.seq xs.toArray } }) z3 (by simp) fun h4 z4 s4=>?_)
  replace z4:IsZip h4 (m + so.length + 2) (m + so.length) (m + so.length + 1) (rawInt h'.objs.size):=z4
  refine Hs (s:={ s with heap:=h4 }) z4 (by simp) fun h5 z5 s5=>?_
  replace z5:IsZip h5 (m + so.length + 2) (m + so.length) (m + so.length + 1) (rawInt h'.objs.size):=z5
  have up:∀ (c:Nat) o,c ≠ m + so.length + 2→h'.get? c=some o→h5.get? c=some o:=fun c o hc e=>s5.extBut _ _ hc (s4.extBut _ _ hc (EU _ e))
  have hzl:m + so.length + 2 < h'.objs.size:=E6 Z.z
  have t5:=s5.extBut _ _ (show h'.objs.size ≠ m + so.length + 2 by first | omega | exact cw (by omega)) (s4.extBut _ _ (show h'.objs.size ≠ m + so.length + 2 by first | omega | exact cw (by omega)) (EZ _ rfl))
  have z8:h5.objs.size=h'.objs.size + 1:=by rw [s5.1,s4.1,FF]
  refine EY ⟨_,rfl,?_⟩
  show Q (.ref h'.objs.size) _
  rw [hz'] at z5 t5 z8 ⊢
  exact hQ hKn h5 ⟨fun j b a hj=>(e2 j b a hj).keep fun o e=>by
   have hjn:j < so.length:=(List.getElem?_eq_some_iff.mp hj).1
   exact up _ o (by first | omega | exact cw (by omega)) e,up _ _ (by first | omega | exact cw (by omega)) Z.ti,up _ _ (by first | omega | exact cw (by omega)) t1,by omega,z5⟩ (by simpa using t5) z8 fun c o hc e=>up c o (by first | omega | exact cw (by omega)) (kk c o hc e)
 ·refine ⟨0,h₁,FV _,rfl,rfl,rfl,⟨?_,?_,?_,?_,?_⟩,hs₁.1,fun c o hc e=>k₁ c o (by first | omega | exact cw (by omega)) e⟩
  ·intro j b a hj
   have hjn:j < so.length:=(List.getElem?_eq_some_iff.mp hj).1
   exact (st.its j b a hj).keep fun o e=>k₁ _ o (by first | omega | exact cw (by omega)) e
  ·exact k₁ _ _ (by first | omega | exact cw (by omega)) st.ti
  ·exact k₁ _ _ (by first | omega | exact cw (by omega)) st.to
  ·exact st.lw
  ·exact hz₁
theorem C0 {so:List (Bool×Addr)} {m:Nat}{T:Addr}{i:Nat→Nat}{ws:List Value}{elts:List Expr}{x1}{pos:Pos}{Q:Unit→Shared→Prop} (st:ZSt so m (rawInt T) i ws s.heap)
  (q:∀ h',ZSt so m .none i ws h'→Heap.SameBut (m + so.length + 2) s.heap h'→Q () { s with heap:=h' }):wpAny (model prog w) A (letOwnedTupleGo (.Tuple elts x1 pos) (.ref (m + so.length + 2)) (.ref T)) Q E s :=
 wpAny_letOwnedTupleGo_zip st.z fun h' z' s'=>q h' ⟨fun j b a hj=>(st.its j b a hj).keep fun o e=>by
  have hjn:j < so.length:=(List.getElem?_eq_some_iff.mp hj).1
  exact s'.extBut _ _ (by first | omega | exact cw (by omega)) e,s'.extBut _ _ (by first | omega | exact cw (by omega)) st.ti,s'.extBut _ _ (by first | omega | exact cw (by omega)) st.to,st.lw,z'⟩ s'
theorem rX {so:List (Bool×Addr)} {m:Nat}{i K:Nat}{ws xs:List Value}{Q:Option Value→Shared→Prop} (hh:A.handled=none) (hn:so.length≤sizeLine) (h0:so ≠ []) (hlt:∀ p ∈ so,p.2 < m) (st:ZSt so m .none (fun _=>i) ws s.heap)
  (hl:xs.length=K) (hK:K≤so.length) (hv:∀ (k:Nat) (b:Bool) (a:Addr),so[k]? = some (b,a)→∃ vs,RSq b s.heap a vs∧(k < K→vs[i]? = xs[k]?)∧(k=K→vs[i]? = none))
  (hQ:K=so.length→∀ h',ZSt so m (rawInt s.heap.objs.size) (fun _=>i + 1) xs h'→h'.get? s.heap.objs.size=some { cls:=.type "tuple",data:=.seq xs.toArray }→h'.objs.size=s.heap.objs.size + 1 →
   (∀ (c:Nat) o,(c < m∨m + so.length + 2 < c)→s.heap.get? c=some o→h'.get? c=some o)→Q (some (.ref s.heap.objs.size)) { s with heap:=h' })
  (hE:K < so.length→∀ h',(∀ (c:Nat) o,(c < m∨m + so.length + 2 < c)→s.heap.get? c=some o→h'.get? c=some o)→Q none { s with heap:=h' }) :
  wpAny (model prog w) A (pyNext (.ref (m + so.length + 2))) Q E s:=by
 have hT:s.TypeIs (.ref (m + so.length + 2)) "zip" := ⟨_,st.z,rfl⟩
 unfold pyNext
 refine ET (wpAny_attempt (Gi (name:=Str.ofString "__next__") hT F.slot_zip_next (Ge F.slot_zip_next hT F.entry_zip_next
  (yJ (A:=A.in1) hh hn h0 hlt st hl hK hv (fun e h' a1 a2 a3 a4=>EY (hQ e h' a1 a2 a3 a4)) fun e h' x kk hx=>?_) (F.args_zip_next_1 _))))
 obtain ⟨o,ho,hc⟩:=hx
 exact ET (wpAny_isInstance (T := "StopIteration") (b:=true) ⟨o,ho,hc⟩ isSubtype_stop (EY (hE e h' kk)))
end
def SqB (K:PySem.W.Frag) (b:Bool) (H:Hp) (a:Addr) (xs:List V):Prop:=match b with
 | true=>SqL K H a xs
 | false=>SqT K H a xs
theorem Inv.sqB {X:Cx}{pins:List (Addr×Obj)} {σ:St}{H:Hp}{s:Shared}{b:Bool}{a:Addr}{xs:List V} (I:Inv X pins σ H s) (h:SqB X.K b H a xs):∃ its:List Value,aR xs its∧RSq b s.heap a its.toArray:=by
 cases b with
 | true=>obtain ⟨its,r,p,_⟩:=I.list h; exact ⟨its,r,p.isList⟩
 | false=>obtain ⟨its,r,p,_⟩:=I.tuple h; exact ⟨its,r,p⟩
theorem Inv.sqB_inj {X:Cx}{pins:List (Addr×Obj)} {σ:St}{H:Hp}{s:Shared}{b:Bool}{a:Addr}{xs ys:List V} (I:Inv X pins σ H s) (h:SqB X.K b H a xs) (h':SqB X.K b H a ys):xs=ys:=by
 cases b with
 | true=>exact I.list_inj h h'
 | false=>exact I.tuple_inj h h'
theorem Inv.turnedN {X:Cx}{pins:List (Addr×Obj)} {σ:St}{H:Hp}{s:Shared}{h':Heap}{t':Nat}{fp:List Addr} (I:Inv X pins σ H s) (k:∀ b o,b ∉ fp→s.heap.get? b=some o→h'.get? b=some o) (hf:∀ b ∈ fp,ic X pins H b):Inv X pins σ H { s with heap:=h',toks:=t' }:=by
 have nit:∀ b u,H b=some u→b ∉ fp:=fun b u e z=>by rw [(hf b z).1] at e; cases e
 refine I.step (g':=s.gens) (d':=s.drawn) (ch:=fp) (fun b hb=>?_) (fun b o _ _ hc e _=>k b o hc e) (fun b o _ _ hc e _=>⟨o.slots,k b o hc e⟩) (fun _ _ _ _ n=>n)
  (fun b o hc e=>⟨o,k b o hc e⟩) (fun _ _ e=>e) (fun _ _ _ e=>e) (fun b ps e=>⟨#[],by rw [e]; simp⟩) (fun m hm=>?_) (fun b u e=>?_) I.bare
 ·obtain ⟨_,f1,_,f3,f4,f5⟩:=hf b hb
  exact ⟨f3,f1,f4,f5⟩
 ·obtain ⟨o,es,ep,ho,r⟩:=hm
  exact ⟨o,es,ep,k _ o (fun z=>(hf _ z).2.1 rfl) ho,r⟩
 ·refine (I.hok b u e).stay (fun c v hc q=>k c v ?_ q) (fun _ q=>q) fun _ _ q=>q
  rcases hc with z | z
  ·rw [z]; exact nit b u e
  ·exact nit c _ z
def Itz (K:PySem.W.Frag) (so:List (Bool×Addr)):It :=
  ⟨fun i H=>∃ xs:List V,xs.length=so.length∧∀ (k:Nat) (b:Bool) (a:Addr),so[k]? = some (b,a)→∃ ys,SqB K b H a ys∧ys[i]? = xs[k]?,
   fun i H x H'=>∃ (T:Addr) (xs:List V),x=.ref T∧H T=none∧H'=upd H T (.tup xs)∧xs.length=so.length∧∀ (k:Nat) (b:Bool) (a:Addr),so[k]? = some (b,a)→∀ ys,SqB K b H a ys→ys[i]? = xs[k]?,
   fun i H=>∃ k0,k0 < so.length∧∀ (k:Nat) (b:Bool) (a:Addr),so[k]? = some (b,a)→∃ ys,SqB K b H a ys∧(k < k0→i < ys.length)∧(k=k0→ys.length≤i)⟩
theorem eP {α:Type _}{P:Nat→α→Prop}:∀ (n:Nat),(∀ k,k < n→∃ u,P k u)→∃ us:List α,us.length=n∧∀ (k:Nat) u,us[k]? = some u→P k u
 | 0,_=>⟨[],rfl,fun k u e=>by simp at e⟩
 | n + 1,h=>by
  obtain ⟨us,hl,hp⟩:=eP n fun k hk=>h k (by omega)
  obtain ⟨u,hu⟩:=h n (by omega)
  refine ⟨us ++ [u],by simp [hl],fun k v e=>?_⟩
  by_cases hk:k < us.length
  ·rw [GG hk] at e; exact hp k v e
  ·rw [GD (by omega)] at e
   have:k - us.length=0:=by
    have:=(List.getElem?_eq_some_iff.mp e).1
    simp at this
    omega
   rw [this] at e
   cases e
   have:k=n:=by omega
   subst this
   exact hu
theorem sf:∀ {xs:List V}{us:List Value},xs.length=us.length→(∀ (k:Nat) x u,xs[k]? = some x→us[k]? = some u→aS x u)→aR xs us
 | [],[],_,_=>.nil
 | x :: xs,u :: us,hl,h=>.cons (h 0 x u rfl rfl) (sf (by simpa using hl) fun k a b e1 e2=>h (k + 1) a b (by simpa using e1) (by simpa using e2))
 | [],_ :: _,hl,_=>by simp at hl
 | _ :: _,[],hl,_=>by simp at hl
abbrev zfp (so:List (Bool×Addr)) (m:Nat):List Addr:=(List.range (so.length + 3)).map (m + ·)
theorem cJ {so:List (Bool×Addr)} {m:Nat}{b:Nat}:b ∈ zfp so m ↔ m≤b∧b≤m + so.length + 2:=by
 simp only [List.mem_map,HI]
 exact ⟨fun ⟨k,h,e⟩=>by subst e; omega,fun h=>⟨b - m,by omega,by omega⟩⟩
theorem oB {P:Program}{w:World}{K:PySem.W.Frag}{elts:List Expr}{x1}{pos:Pos} (so:List (Bool×Addr)) (m:Nat) (hn:so.length≤sizeLine) (h0:so ≠ []) (hlt:∀ p ∈ so,p.2 < m) :
  oa P w K (.Tuple elts x1 pos) (Itz K so) (zfp so m) (m + so.length + 2) (fun i h=>∃ ws,ZSt so m .none (fun _=>i) ws h) where
 mem:=cJ.mpr (by omega)
 obj:=fun i h zz133_0 (b:Nat) hb=>by
  obtain ⟨ws,st⟩:=zz133_0
  have hb:m≤b∧b≤m + so.length + 2:=cJ.mp hb
  by_cases h1:b < m + so.length
  ·obtain ⟨k,hk⟩:∃ k,b=m + k:=⟨b - m,by omega⟩
   subst hk
   obtain ⟨o,e,vs,d⟩:=(st.its k (so[k]'(by omega)).1 (so[k]'(by omega)).2 (EV _)).obj
   exact ⟨o,e,fun v z=>by rw [d] at z; cases z⟩
  ·by_cases h2:b=m + so.length
   ·subst h2; exact ⟨_,st.ti,fun v z=>by have z':Data.seq _ _=Data.cell v:=z; cases z'⟩
   ·by_cases h3:b=m + so.length + 1
    ·subst h3; exact ⟨_,st.to,fun v z=>by have z':Data.seq _ _=Data.cell v:=z; cases z'⟩
    ·have h4:b=m + so.length + 2:=by omega
     subst h4; exact ⟨_,st.z,fun v z=>by have z':Data.fields _=Data.cell v:=z; cases z'⟩
 keep:=fun i h h' ⟨ws,st⟩ k=>⟨ws,fun j b a hj=>(st.its j b a hj).keep fun o e=>by
  have hjn:j < so.length:=(List.getElem?_eq_some_iff.mp hj).1
  exact k _ (cJ.mpr (by omega)) o e,k _ (cJ.mpr (by omega)) _ st.ti,k _ (cJ.mpr (by omega)) _ st.to,st.lw,k _ (cJ.mpr (by omega)) _ st.z⟩
 item:=by
  intro X hP hw hK hc i pins s σ H E I hf ⟨ws,st⟩ hg
  subst hP hw hK
  obtain ⟨xs,hxl,hx⟩:=hg
  obtain ⟨us,hul,hu⟩:=eP (P:=fun k u=>∃ x,xs[k]? = some x∧aS x u∧∀ b a,so[k]? = some (b,a)→∃ vs:Array Value,RSq b s.heap a vs∧vs[i]? = some u) so.length fun k hk=>by
   obtain ⟨ys,q,e⟩:=hx k (so[k]'hk).1 (so[k]'hk).2 (EV hk)
   obtain ⟨its,rv,p⟩:=I.sqB q
   have e2:xs[k]? = some (xs[k]'(by omega)):=EV _
   obtain ⟨u,hu,ru⟩:=rv.get (e.trans e2)
   refine ⟨u,_,e2,ru,fun b a hba=>⟨its.toArray,?_,by simpa using hu⟩⟩
   have e3:=(EV hk).symm.trans hba
   rw [E4 e3] at p
   exact p
  have hvals:aR xs us:=sf (by omega) fun k x u e1 e2=>by
   obtain ⟨x',e3,r,_⟩:=hu k u e2
   rw [e1] at e3; cases e3; exact r
  refine rX (xs:=us) (K:=so.length) (I.ok.hd hc) hn h0 hlt st hul (E9 _) (fun k b a hba=>?_) (fun _ h' st' t' z' kk=>?_) (fun hlt=>absurd hlt (Gr _))
  ·have hk:k < so.length:=(List.getElem?_eq_some_iff.mp hba).1
   have e2:us[k]? = some (us[k]'(by omega)):=EV _
   obtain ⟨x,_,_,q⟩:=hu k _ e2
   obtain ⟨vs,r,e⟩:=q b a hba
   exact ⟨vs,r,fun _=>by rw [e,e2],fun z=>by omega⟩
  ·refine ⟨_,rfl,C0 (s:={ s with heap:=h' }) st' fun h2 st2 s2=>?_⟩
   have hT:H s.heap.objs.size=none:=I.fresh
   have hfl:∀ b ∈ zfp so m,b < s.heap.objs.size:=fun b hb=>HN (cJ.mp hb).2 (E6 st.z)
   have hf1:∀ b ∈ zfp so m,ic X pins (upd H s.heap.objs.size (.tup xs)) b:=fun b hb=>⟨by rw [aj (Fh (hfl b hb))]; exact (hf b hb).1,(hf b hb).2⟩
   have I1:Inv X pins σ (upd H s.heap.objs.size (.tup xs)) { s with heap:=s.heap.push { cls:=.type "tuple",data:=.seq us.toArray } }:=I.laid (t':=s.toks) (fun b u e=>EU _ e) (E9 _)
    ⟨by omega,us,hvals,⟨_,EZ _ rfl,rfl,_,rfl⟩⟩
   have I2:Inv X pins σ (upd H s.heap.objs.size (.tup xs)) { s with heap:=h2 }:=I1.turnedN (t':=s.toks) (h':=h2) (fun (b:Nat) o hb e=>by
    have hbz:b ≠ m + so.length + 2:=fun z=>hb (cJ.mpr (by omega))
    refine s2.extBut _ _ hbz ?_
    rcases Heap.get?_push_cases e with ⟨e1,e2⟩ | e'
    ·subst e1 e2
     exact t'
    ·exact kk b o (by have:¬ (m≤b∧b≤m + so.length + 2):=mt cJ.mpr hb; omega) e') hf1
   refine ⟨.ref s.heap.objs.size,_,I2,rfl,⟨_,xs,rfl,hT,rfl,hxl,fun k b a hba ys hy=>?_⟩,⟨_,st2⟩,fun b hb=>(hf1 b hb).1⟩
   obtain ⟨ys',q,e⟩:=hx k b a hba
   rw [I.sqB_inj hy q]
   exact e
 done:=by
  intro X hP hw hK hc i pins s σ H E I hf ⟨ws,st⟩ hg
  subst hP hw hK
  obtain ⟨k0,hk0,hx⟩:=hg
  obtain ⟨us,hul,hu⟩:=eP (P:=fun k u=>∀ b a,so[k]? = some (b,a)→∃ vs:Array Value,RSq b s.heap a vs∧vs[i]? = some u) k0 fun k hk=>by
   obtain ⟨ys,q,e,_⟩:=hx k (so[k]'(by omega)).1 (so[k]'(by omega)).2 (EV _)
   obtain ⟨its,rv,p⟩:=I.sqB q
   obtain ⟨u,hu,ru⟩:=rv.get (EV (e hk))
   refine ⟨u,fun b a hba=>⟨its.toArray,?_,by simpa using hu⟩⟩
   have e3:=(EV (show k < so.length by omega)).symm.trans hba
   rw [E4 e3] at p
   exact p
  refine rX (xs:=us) (K:=k0) (I.ok.hd hc) hn h0 hlt st hul (Gm hk0) (fun k b a hba=>?_) (fun z=>by omega) (fun _ h' kk=>⟨rfl,I.turnedN (t':=s.toks) (fun (b:Nat) o hb e=>kk b o (by have:¬ (m≤b∧b≤m + so.length + 2):=mt cJ.mpr hb; omega) e) hf⟩)
  have hk:k < so.length:=(List.getElem?_eq_some_iff.mp hba).1
  by_cases hkk:k < k0
  ·have e2:us[k]? = some (us[k]'(by omega)):=EV _
   obtain ⟨vs,r,e⟩:=hu k _ e2 b a hba
   exact ⟨vs,r,fun _=>by rw [e,e2],fun z=>by omega⟩
  ·obtain ⟨ys,q,_,e⟩:=hx k b a hba
   obtain ⟨its,rv,p⟩:=I.sqB q
   exact ⟨_,p,fun z=>absurd z hkk,fun z=>by
    have:=e z
    have:=rv.length
    simp
    omega⟩
 self:=fun A i s Q E zz135_0 h=>by obtain ⟨ws,st⟩:=zz135_0; exact wpAny_pyIter_zip st.z h
def yI (a b:Addr):Obj:={ cls:=.type "zip",data:=.fields #[.none,.bool false,.bool false,.ref a,.ref b] }
def lg (vs:List Value):Obj:={ cls:=.type "tuple",data:=.seq vs.toArray }
abbrev zn2 (h:Heap) (b1 b2:Bool) (l1 l2:Addr):Heap:=((((h.push (bo b1 l1)).push (bo b2 l2)).push (lg [.ref h.objs.size,.ref (h.push (bo b1 l1)).objs.size])).push (lg [.none,.none]))
abbrev zl2 (h:Heap) (b1 b2:Bool) (l1 l2:Addr):Heap:=(zn2 h b1 b2 l1 l2).push (yI ((h.push (bo b1 l1)).push (bo b2 l2)).objs.size (((h.push (bo b1 l1)).push (bo b2 l2)).push (lg [.ref h.objs.size,.ref (h.push (bo b1 l1)).objs.size])).objs.size)
theorem CZ (b1 b2:Bool) (l1 l2:Addr) (xs ys:Array Value) :
  Meets (Builtin.«zip.__new__» ⟨[.type "zip",.ref l1,.ref l2],[]⟩) (fun _ R s=>RSq b1 s.heap l1 xs∧RSq b2 s.heap l2 ys ∧
   R (.ok (.ret (.ref (zn2 s.heap b1 b2 l1 l2).objs.size))) { s with heap:=zl2 s.heap b1 b2 l1 l2 }) :=
 .of_wp fun prog w A R s h=>by
  obtain ⟨hp,g,d,tk,os⟩:=s; obtain ⟨hl1,hl2,h⟩:=h
  have hsub:=sub_zip
  have hL1:RSq b1 (Shared.heap ⟨hp,g,d,tk,os⟩) l1 xs:=hl1
  have hL2:RSq b2 (Shared.heap ⟨hp.push (bo b1 l1),g,d,tk,os⟩) l2 ys:=hl2.keep fun o e=>EU _ e
  wp_walk using jc hL1,jc hL2
  exact ⟨_,rfl,h⟩
section
variable {prog:Program}{w:World}{A:Around}{E:Value→Shared→Prop}{s:Shared}
theorem A3 {b1 b2:Bool}{l1 l2:Addr}{xs ys:Array Value}{Q:Value→Shared→Prop} (hl1:RSq b1 s.heap l1 xs) (hl2:RSq b2 s.heap l2 ys)
  (h:∀ h',ZSt [(b1,l1),(b2,l2)] s.heap.objs.size .none (fun _=>0) [.none,.none] h'→(∀ c o,s.heap.get? c=some o→h'.get? c=some o)→Q (.ref (s.heap.objs.size + 2 + 2)) { s with heap:=h' }) :
  wpAny (model prog w) A (call (.type "zip") [.ref l1,.ref l2]) Q E s:=by
 refine callType_new F.called_zip (by decide) (F.typeCall_zip_2 _ _) (F.newCall_zip_2 _ _) (fun obj=>F.args_object_init_3 obj _ _) F.entry_zip_new (CZ b1 b2 l1 l2 xs ys) ⟨hl1,hl2,?_⟩
 have up:∀ {hp:Heap}{c:Addr}{o u:Obj},hp.get? c=some u→(hp.push o).get? c=some u:=fun e=>EU _ e
 have z1:(s.heap.push (bo b1 l1)).objs.size=s.heap.objs.size + 1:=FF ..
 have z2:((s.heap.push (bo b1 l1)).push (bo b2 l2)).objs.size=s.heap.objs.size + 2:=by rw [FF,z1]
 have z3:(((s.heap.push (bo b1 l1)).push (bo b2 l2)).push (lg [.ref s.heap.objs.size,.ref (s.heap.push (bo b1 l1)).objs.size])).objs.size=s.heap.objs.size + 3:=by rw [FF,z2]
 have z4:(zn2 s.heap b1 b2 l1 l2).objs.size=s.heap.objs.size + 4:=by rw [FF,z3]
 have f1:∀ b l,(bo b l).isFreed=false:=fun b l=>by cases b <;> rfl
 have g1:(zl2 s.heap b1 b2 l1 l2).get? s.heap.objs.size=some (bo b1 l1):=up (up (up (up (EZ _ (f1 _ _)))))
 have g2:(zl2 s.heap b1 b2 l1 l2).get? (s.heap.objs.size + 1)=some (bo b2 l2):=by rw [← z1]; exact up (up (up (EZ _ (f1 _ _))))
 have g3:(zl2 s.heap b1 b2 l1 l2).get? (s.heap.objs.size + 2)=some (lg [.ref s.heap.objs.size,.ref (s.heap.objs.size + 1)]):=by rw [← z2,← z1]; exact up (up (EZ _ rfl))
 have g4:(zl2 s.heap b1 b2 l1 l2).get? (s.heap.objs.size + 3)=some (lg [.none,.none]):=by rw [← z3]; exact up (EZ _ rfl)
 have g5:(zl2 s.heap b1 b2 l1 l2).get? (s.heap.objs.size + 4)=some (yI (s.heap.objs.size + 2) (s.heap.objs.size + 3)):=by rw [← z4,← z3,← z2]; exact EZ _ rfl
 show _∧_
 rw [z4]
 refine ⟨⟨_,g5,rfl⟩,h _ ⟨fun k b a hk=>?_,?_,g4,rfl,g5⟩ fun c o e=>up (up (up (up (up e))))⟩
 ·match k,hk with
  | 0,hk=>cases hk; exact gE g1
  | 1,hk=>cases hk; exact gE g2
 ·exact g3
end
def sqI (K:PySem.W.Frag) (H:Hp) (p:Bool×Addr):Prop:=∃ ys,SqB K p.1 H p.2 ys
def DU (K:PySem.W.Frag) (n:Nat) (ta:TA):TI:=fun σ H R=>ta σ H fun vs H1=>∃ so:List (Bool×Addr),so.length=n∧vs=so.map (fun p=>V.ref p.2)∧(∀ p ∈ so,sqI K H1 p)∧R (Itz K so) H1
theorem iP {b:Bool}{h:Heap}{a:Addr}{vs:Array Value} (x:RSq b h a vs):a < h.objs.size:=by
 cases b <;> exact let ⟨o,e,_⟩:=x; E6 e
theorem zm {X:Cx}{elts:List Expr}{x1}{tp:Pos}{a b:Expr}{ta:TA}{p pos:Pos} (hg:Gl X "zip") (hm:X.mg "zip" = none) (ha:PA X [a,b] ta) (hs:starEach [a,b] X.env=[(false,eval a X.env),(false,eval b X.env)]:=by rfl) (hs2:starEach [b] X.env=[(false,eval b X.env)]:=by rfl) :
  PI X (.Tuple elts x1 tp) (.Call (.Name "zip" p) [a,b] [] pos) (DU X.K 2 ta):=by
 intro pins s σ H R I h
 refine Call_ (fG I hg hm boot_zip (F0 (thn (ha pos pins s σ H _ I h) fun us s1 zz136_0=>?_) (by rw [hs,hs2]) (by rw [hs2]; rfl)))
 obtain ⟨vs,H1,I1,r1,q1⟩:=zz136_0
 obtain ⟨so,hl,e,hq,q⟩:=q1
 match so,hl with
 | [(b1,l1),(b2,l2)],_ =>
  subst e
  obtain ⟨ys1,y1⟩:=hq (b1,l1) (by simp)
  obtain ⟨ys2,y2⟩:=hq (b2,l2) (by simp)
  obtain ⟨i1,_,p1⟩:=I1.sqB y1
  obtain ⟨i2,_,p2⟩:=I1.sqB y2
  obtain ⟨u,v,e,ru,rv⟩:=aR.two r1
  subst e
  cases ru
  cases rv
  refine A3 p1 p2 fun h' st kk=>wpAny_pyIter_zip (s:={ s1 with heap:=h' }) st.z ?_
  refine ⟨_,zfp [(b1,l1),(b2,l2)] s1.heap.objs.size,_,_,H1,rfl,I1.kept (t':=s1.toks) kk,oB _ _ (by show 2≤sizeLine; decide) (by simp) (fun p hp=>?_),⟨_,st⟩,fun c hc=>I1.fpOk (cJ.mp hc).1 (I1.hok.fresh (cJ.mp hc).1),q⟩
  rcases List.mem_cons.mp hp with z | hp
  ·rw [z]; exact iP p1
  ·have z:p=(b2,l2):=by simpa using hp
   rw [z]; exact iP p2
end L2
namespace L2.Cu
open PySem PySem.Spec PyProof.Rows
def RpB (F:Hp) (p:Bool×Addr) (ds:List D):Prop:=∃ vs,F p.2=some (bif p.1 then .lst vs else .tup vs)∧Reps F vs ds
theorem RpB.sq {K:PySem.W.Frag}{F H:Hp}{p:Bool×Addr}{ds:List D} (h:RpB F p ds) (s:∀ a o,F a=some o→H a=some o):∃ vs,SqB K p.1 H p.2 vs∧Reps F vs ds:=by
 obtain ⟨vs,e,r⟩:=h
 obtain ⟨b,a⟩:=p
 cases b with
 | true=>exact ⟨vs,SqL.of (s _ _ e),r⟩
 | false=>exact ⟨vs,SqT.of (s _ _ e),r⟩
theorem RpB.mono {F F':Hp}{p:Bool×Addr}{ds:List D} (h:RpB F p ds) (y:Fr F F'):RpB F' p ds:=by
 obtain ⟨vs,e,r⟩:=h
 exact ⟨vs,y _ _ e,r.mono y⟩
theorem iQ {F:Hp}{v:V}{d:D}{ds:List D} (r:Rep F v d) (h:a6 d=some ds):∃ b a,v=.ref a∧RpB F (b,a) ds:=by
 cases d with
 | lst xs=>cases h; cases r with | lst e rs=>exact ⟨true,_,rfl,_,e,rs⟩
 | tup xs=>cases h; cases r with | tup e rs=>exact ⟨false,_,rfl,_,e,rs⟩
 | _=>cases h
theorem sx {F:Hp}:∀ {vs:List V}{ds:List D},vs.length=ds.length→(∀ (k:Nat) v d,vs[k]? = some v→ds[k]? = some d→Rep F v d)→Reps F vs ds
 | [],[],_,_=>.nil
 | x :: xs,u :: us,hl,h=>.cons (h 0 x u rfl rfl) (sx (by simpa using hl) fun k a b e1 e2=>h (k + 1) a b (by simpa using e1) (by simpa using e2))
 | [],_ :: _,hl,_=>by simp at hl
 | _ :: _,[],hl,_=>by simp at hl
def rJ (srcs:List (List D)) (xs:List D):Prop:=∀ i:Nat,
 (xs.length=i→∃ k0,k0 < srcs.length∧∀ (k:Nat) ds,srcs[k]? = some ds→(k < k0→i < ds.length)∧(k=k0→ds.length≤i)) ∧
 ∀ d,xs[i]? = some d→∃ row,d=.tup row∧row.length=srcs.length∧∀ (k:Nat) ds,srcs[k]? = some ds→ds[i]? = row[k]?
theorem xB {K:PySem.W.Frag}{F:Hp}{so:List (Bool×Addr)} {srcs:List (List D)} {xs:List D} (hl:so.length=srcs.length) (hr:∀ (k:Nat) p ds,so[k]? = some p→srcs[k]? = some ds→RpB F p ds) (ok:rJ srcs xs):qo F (Itz K so) xs:=by
 intro i F2 H2 y s
 have src:∀ {k:Nat}{p:Bool×Addr},so[k]? = some p→∃ ds,srcs[k]? = some ds:=fun {k p} e=>⟨srcs[k]'(by have:=(List.getElem?_eq_some_iff.mp e).1; omega),EV _⟩
 refine ⟨fun hx=>?_,fun d hd=>?_⟩
 ·obtain ⟨k0,h0,q⟩:=(ok i).1 hx
  refine ⟨k0,by omega,fun k b a e=>?_⟩
  obtain ⟨ds,e2⟩:=src e
  obtain ⟨vs,sq,rs⟩:=((hr k _ ds e e2).mono y).sq (K:=K) s
  have:=rs.length
  have q:=q k ds e2
  exact ⟨vs,sq,fun z=>by have:=q.1 z; omega,fun z=>by have:=q.2 z; omega⟩
 ·obtain ⟨row,rfl,hrl,q⟩:=(ok i).2 d hd
  refine ⟨?_,fun x H' yl=>?_⟩
  ·obtain ⟨ws,hwl,hw⟩:=eP (P:=fun k v=>∀ b a,so[k]? = some (b,a)→∃ ys,SqB K b H2 a ys∧ys[i]? = some v) so.length fun k hk=>by
    have e:so[k]? = some so[k]:=EV hk
    obtain ⟨ds,e2⟩:=src e
    obtain ⟨vs,sq,rs⟩:=((hr k _ ds e e2).mono y).sq (K:=K) s
    have e3:=q k ds e2
    rw [EV (show k < row.length by omega)] at e3
    obtain ⟨v,hv,_⟩:=rs.get e3
    refine ⟨v,fun b a hba=>?_⟩
    have e4:=e.symm.trans hba
    rw [E4 e4] at sq
    exact ⟨vs,sq,hv⟩
   refine ⟨ws,hwl,fun k b a e=>?_⟩
   have hk:k < so.length:=(List.getElem?_eq_some_iff.mp e).1
   have e5:ws[k]? = some (ws[k]'(by omega)):=EV _
   obtain ⟨ys,sq,z⟩:=hw k _ e5 b a e
   exact ⟨ys,sq,by rw [z,e5]⟩
  ·obtain ⟨T,ws,rfl,hT,rfl,hwl,hw⟩:=yl
   refine ⟨upd F2 T (.tup ws),Ext.freeze s hT,?_⟩
   have X:=Ext.freeze (o:=.tup ws) s hT
   refine Rep.tup aw (sx (by omega) fun k v d ev ed=>?_)
   have hk:k < so.length:=by have:=(List.getElem?_eq_some_iff.mp ev).1; omega
   have e:so[k]? = some so[k]:=EV hk
   obtain ⟨ds,e2⟩:=src e
   obtain ⟨vs,sq,rs⟩:=((hr k _ ds e e2).mono y).sq (K:=K) s
   have e3:=q k ds e2
   rw [ed] at e3
   obtain ⟨v',hv',rv⟩:=rs.get e3
   have e6:=hw k _ _ e vs sq
   rw [hv',ev] at e6
   cases e6
   exact rv.mono X.fr
theorem Dl (xs ys:List D):rJ [xs,ys] (List.zipWith (fun a b=>D.tup [a,b]) xs ys):=by
 intro i
 refine ⟨fun h=>?_,fun d hd=>?_⟩
 ·rw [List.length_zipWith] at h
  by_cases hx:xs.length≤i
  ·exact ⟨0,by simp,fun k ds e=>⟨fun z=>by omega,fun z=>by subst z; cases e; exact hx⟩⟩
  ·refine ⟨1,by simp,fun k ds e=>⟨fun z=>?_,fun z=>?_⟩⟩
   ·have:k=0:=by omega
    subst this; cases e; omega
   ·subst z; cases e; omega
 ·rw [List.getElem?_zipWith] at hd
  cases hx:xs[i]? with
  | none=>rw [hx] at hd; cases hd
  | some x =>
   cases hy:ys[i]? with
   | none=>rw [hx,hy] at hd; cases hd
   | some y =>
    rw [hx,hy] at hd
    cases hd
    refine ⟨[x,y],rfl,rfl,fun k ds e=>?_⟩
    match k,e with
    | 0,e=>cases e; exact hx
    | 1,e=>cases e; exact hy
def vJ (ds:List D):Option (List D):=match ds with
 | [a,b]=>(a6 a).bind fun xs=>(a6 b).bind fun ys=>some (List.zipWith (fun a b=>D.tup [a,b]) xs ys)
 | _=>none
theorem ua {ds xs:List D} (h:vJ ds=some xs):∃ a b,ds=[a,b]:=by
 unfold vJ at h
 split at h
 ·exact ⟨_,_,rfl⟩
 ·cases h
def t_ (f:DE→Option (List D)) (E:DE):Option (List D):=(f E).bind vJ
section
variable {X:Cx}{pos:Pos}
theorem tE {elts:List Expr}{x1}{tp:Pos}{a b:Expr}{f:DE→Option (List D)} {p:Pos} (hg:Gl X "zip") (hm:X.mg "zip" = none) (ha:Ea X [a,b] f) (hs:aP a=true:=by rfl) (hs2:aP b=true:=by rfl):Ei X (.Tuple elts x1 tp) (.Call (.Name "zip" p) [a,b] [] pos) (t_ f) :=
 PI.by (zm hg hm ha.h (by rw [aE a [b] X.env hs,aE b [] X.env hs2]; rfl) (aE b [] X.env hs2)) fun σ H R zz137_0=>by
  obtain ⟨B,F,E,xs,k,q,w⟩:=zz137_0
  unfold t_ at q
  cases hf:f E with
  | none=>simp [hf] at q
  | some ds =>
   rw [hf] at q
   refine ⟨B,F,E,ds,k,hf,fun vs F' H' x r=>?_⟩
   obtain ⟨d1,d2,rfl⟩:=ua q
   obtain ⟨v1,ws,rfl,r1,r⟩:=r.c1
   obtain ⟨v2,ws,rfl,r2,r⟩:=r.c1
   obtain rfl:=r.c0
   ·have q':((a6 d1).bind fun xs=>(a6 d2).bind fun ys=>some (List.zipWith (fun a b=>D.tup [a,b]) xs ys))=some xs:=q
    cases h1:a6 d1 with
    | none=>rw [h1] at q'; cases q'
    | some s1 =>
     cases h2:a6 d2 with
     | none=>rw [h1,h2] at q'; cases q'
     | some s2 =>
      rw [h1,h2] at q'
      cases q'
      obtain ⟨b1,l1,rfl,p1⟩:=iQ r1 h1
      obtain ⟨b2,l2,rfl,p2⟩:=iQ r2 h2
      refine ⟨[(b1,l1),(b2,l2)],rfl,rfl,fun p hp=>?_,w _ F' H' x (xB (srcs:=[s1,s2]) rfl (fun k p ds e1 e2=>?_) (Dl s1 s2))⟩
      ·rcases List.mem_cons.mp hp with z | hp
       ·rw [z]; obtain ⟨vs,sq,_⟩:=p1.sq (K:=X.K) x.sub; exact ⟨vs,sq⟩
       ·have z:p=(b2,l2):=by simpa using hp
        rw [z]; obtain ⟨vs,sq,_⟩:=p2.sq (K:=X.K) x.sub; exact ⟨vs,sq⟩
      ·match k,e1,e2 with
       | 0,e1,e2=>cases e1; cases e2; exact p1
       | 1,e1,e2=>cases e1; cases e2; exact p2
end
end L2.Cu
namespace L2
open PySem PySem.Spec PyProof.Rows
theorem mF {prog:Program}{w:World}{A:Around} (hh:A.handled=none) (b:Bool) (it a:Addr) (hne:a ≠ it) (vs:Array Value) :
  Draws prog w A it [it,a] vs.size (fun i v=>vs[i]? = some v) (fun i h=>RIt b h it a i∧RSq b h a vs) where
 live:=fun _ _ st=>let ⟨o,e,_⟩:=st.1.obj; ⟨o,e⟩
 frame:=fun _ _ _ st k=>⟨st.1.keep fun o e=>k it (by simp) o e,st.2.keep fun o e=>k a (by simp) o e⟩
 item:=fun i s Q E hi st q=>oX st.1 st.2 (x:=vs[i]) (FP hi) fun h' st' sb=>q _ h' s.toks (FP hi) ⟨st',st.2.keep fun o e=>sb.extBut _ _ hne e⟩ sb
 done:=fun s Q E st q=>sw hh st.1 st.2 (Gy (E9 _)) q
theorem EC (b:Bool) (l:Addr) (xs:Array Value) :
  Meets (Builtin.«enumerate.__new__» ⟨[.type "enumerate",.ref l],[]⟩) (fun _ R s=>RSq b s.heap l xs ∧
   R (.ok (.ret (.ref (s.heap.push (bo b l)).objs.size))) { s with heap:=(s.heap.push (bo b l)).push { cls:=.type "enumerate",data:=.fields #[.none,.bool false,.ref s.heap.objs.size,rawInt 0,.none,.none] } }) :=
 .of_wp fun prog w A R s h=>by
  obtain ⟨hp,g,d,tk,os⟩:=s; obtain ⟨hl,h⟩:=h
  have hsub:=sub_enumerate
  have hL:RSq b (Shared.heap ⟨hp,g,d,tk,os⟩) l xs:=hl
  obtain ⟨o,ho⟩:∃ o,(Shared.heap ⟨hp,g,d,tk,os⟩).get? l=some o:=by
   cases b <;> exact let ⟨o,e,_⟩:=hL; ⟨o,e⟩
  wp_walk using GX ho
  refine wpAny_stack_any fun st=>EY ?_
  split
  ·rename_i c _ _ _ _ _
   cases (c == Value.type "enumerate")
   ·wp_walk using GX ho,jc hL
    exact ⟨_,rfl,h⟩
   ·wp_walk using GX ho,jc hL
    exact ⟨_,rfl,h⟩
  ·wp_walk using GX ho,jc hL
   exact ⟨_,rfl,h⟩
def EF (b:Bool) (a m:Addr) (i:Nat) (h:Heap):Prop:=(∃ old,IsEnum h (m + 1) m i old)∧RIt b h m a i
def Ite (K:PySem.W.Frag) (b:Bool) (a:Addr):It :=
  ⟨fun i H=>∃ ys y,SqB K b H a ys∧ys[i]? = some y,
   fun i H x H'=>∃ (T:Addr) (y:V),x=.ref T∧H T=none∧H'=upd H T (.tup [.int i,y])∧∀ ys,SqB K b H a ys→ys[i]? = some y,
   fun i H=>∃ ys,SqB K b H a ys∧ys.length=i⟩
theorem uh {P:Program}{w:World}{K:PySem.W.Frag}{elts:List Expr}{x1}{pos:Pos} (b:Bool) (a m:Nat) (hlt:a < m) :
  oa P w K (.Tuple elts x1 pos) (Ite K b a) [m,m + 1] (m + 1) (fun i h=>EF b a m i h) where
 mem:=by simp
 obj:=fun i h zz138_0 c hc=>by
  obtain ⟨⟨old,st⟩,it⟩:=zz138_0
  have hc:c=m∨c=m + 1:=by simpa using hc
  rcases hc with z | z
  ·subst z
   obtain ⟨o,e,vs,d⟩:=it.obj
   exact ⟨o,e,fun v z=>by rw [d] at z; cases z⟩
  ·subst z; exact ⟨_,st,fun v z=>by have z':Data.fields _=Data.cell v:=z; cases z'⟩
 keep:=fun i h h' ⟨⟨old,st⟩,it⟩ k=>⟨⟨old,k (m + 1) (by simp) _ st⟩,it.keep fun o e=>k m (by simp) o e⟩
 item:=by
  intro X hP hw hK hc i pins s σ H E I hf st hg
  subst hP hw hK
  obtain ⟨⟨old,he⟩,hit⟩:=st
  obtain ⟨ys,y,hq,hy⟩:=hg
  obtain ⟨its,rv,p⟩:=I.sqB hq
  obtain ⟨u,hu,ru⟩:=rv.get hy
  have hul:i < its.toArray.size:=by
   have:=(List.getElem?_eq_some_iff.mp hu).1
   simpa using this
  have hh:X.A.in1.handled=none:=I.ok.hd hc
  refine wpAny_pyNext_enum_itemD (mF hh b m a (Fh hlt) its.toArray) he ⟨hit,p⟩ hul (show (m + 1:Nat) ≠ m by omega) (fun z=>by have z:(m + 1:Nat)=m∨(m + 1:Nat)=a:=(by simpa using z); omega) fun x h' tk hP ho st' hT hsz kk=>?_
  have hxu:x=u:=by
   have e2:its.toArray[i]? = some u:=by simpa using hu
   rw [e2] at hP; cases hP; rfl
  subst hxu
  refine ⟨_,rfl,wpAny_letOwnedTupleGo_enum (s:={ s with heap:=h',toks:=tk + 1 }) ho fun h2 he2 s2=>?_⟩
  have hT0:H s.heap.objs.size=none:=I.fresh
  have hml:m + 1 < s.heap.objs.size:=E6 he
  have hf1:∀ c ∈ [m,m + 1],ic X pins (upd H s.heap.objs.size (.tup [.int i,y])) c:=fun c hcm=>by
   have hcc:c=m∨c=m + 1:=by simpa using hcm
   refine ⟨?_,(hf c hcm).2⟩
   rw [aj (by rcases hcc with z | z <;> (subst z; exact Fh (by omega)))]
   exact (hf c hcm).1
  have I1:Inv X pins σ (upd H s.heap.objs.size (.tup [.int i,y])) { s with heap:=s.heap.push { cls:=.type "tuple",data:=.seq #[.int i tk,x] },toks:=tk + 1 }:=I.laid (t':=tk + 1) (fun c v e=>EU _ e) (E9 _)
   ⟨by show 2≤sizeLine; decide,[.int i tk,x],.cons ⟨tk,rfl⟩ (.cons ru .nil),⟨_,EZ _ rfl,rfl,_,rfl⟩⟩
  have I2:Inv X pins σ (upd H s.heap.objs.size (.tup [.int i,y])) { s with heap:=h2,toks:=tk + 1 }:=I1.turnedN (t':=tk + 1) (h':=h2) (fun (c:Nat) o hcn e=>by
   have h1:¬ (c=m∨c=m + 1):=by simpa using hcn
   refine s2.extBut _ _ (show (c:Nat) ≠ m + 1 by omega) ?_
   rcases Heap.get?_push_cases e with ⟨e1,e2⟩ | e'
   ·subst e1 e2; exact hT
   ·exact kk c o (show (c:Nat) ≠ m + 1 by omega) (show (c:Nat) ≠ m by omega) e') hf1
  refine ⟨.ref s.heap.objs.size,_,I2,rfl,⟨_,y,rfl,hT0,rfl,fun zs hz=>by rw [I.sqB_inj hz hq]; exact hy⟩,⟨⟨_,by simpa using he2⟩,st'.1.keep fun o e=>s2.extBut _ _ (show (m:Nat) ≠ m + 1 by omega) e⟩,fun c hcm=>(hf1 c hcm).1⟩
 done:=by
  intro X hP hw hK hc i pins s σ H E I hf st hg
  subst hP hw hK
  obtain ⟨⟨old,he⟩,hit⟩:=st
  obtain ⟨ys,hq,hy⟩:=hg
  obtain ⟨its,rv,p⟩:=I.sqB hq
  have hl:i=its.toArray.size:=by rw [← hy,rv.length]; simp
  have hh:X.A.in1.handled=none:=I.ok.hd hc
  subst hl
  exact wpAny_pyNext_enum_endD (mF hh b m a (Fh hlt) its.toArray) he ⟨hit,p⟩ fun h' kk=>⟨rfl,I.turnedN (t':=s.toks) (fun c o hcn e=>kk c o (fun z=>hcn (by simp [z])) e) hf⟩
 self:=fun A i s Q E zz140_0 h=>by obtain ⟨⟨old,st⟩,_⟩:=zz140_0; exact wpAny_pyIter_enum st h
def DX (K:PySem.W.Frag) (ta:TA):TI:=fun σ H R=>ta σ H fun vs H1=>∃ b a,vs=[.ref a]∧sqI K H1 (b,a)∧R (Ite K b a) H1
theorem zn {X:Cx}{elts:List Expr}{x1}{tp:Pos}{e:Expr}{ta:TA}{p pos:Pos} (hg:Gl X "enumerate") (hm:X.mg "enumerate" = none) (ha:PA X [e] ta) (hs:starEach [e] X.env=[(false,eval e X.env)]:=by rfl) :
  PI X (.Tuple elts x1 tp) (.Call (.Name "enumerate" p) [e] [] pos) (DX X.K ta):=by
 intro pins s σ H R I h
 refine Call_ (fG I hg hm boot_enumerate (F0 (thn (ha pos pins s σ H _ I h) fun us s1 zz141_0=>?_) hs rfl))
 obtain ⟨vs,H1,I1,r1,q1⟩:=zz141_0
 obtain ⟨b,a,rfl,⟨ys,hy⟩,q⟩:=q1
 obtain ⟨u,rfl,ru⟩:=aR.one r1
 cases ru
 obtain ⟨its,_,p1⟩:=I1.sqB hy
 refine callType_new F.called_enumerate (by decide) (F.typeCall_enumerate_1 _) (F.newCall_enumerate_1 _) (fun obj=>F.args_object_init_2 obj _) F.entry_enumerate_new (EC b a its.toArray) ⟨p1,?_⟩
 have hz:(s1.heap.push (bo b a)).objs.size=s1.heap.objs.size + 1:=FF ..
 have f1:(bo b a).isFreed=false:=by cases b <;> rfl
 have he:IsEnum ((s1.heap.push (bo b a)).push { cls:=.type "enumerate",data:=.fields #[.none,.bool false,.ref s1.heap.objs.size,rawInt 0,.none,.none] }) (s1.heap.objs.size + 1) s1.heap.objs.size 0 .none:=by
  rw [← hz]; exact EZ _ rfl
 show _∧_
 rw [hz]
 refine ⟨⟨_,he,rfl⟩,wpAny_pyIter_enum (s:={ s1 with heap:=(s1.heap.push (bo b a)).push { cls:=.type "enumerate",data:=.fields #[.none,.bool false,.ref s1.heap.objs.size,rawInt 0,.none,.none] } }) he ?_⟩
 exact ⟨_,[s1.heap.objs.size,s1.heap.objs.size + 1],_,_,H1,rfl,I1.kept (t':=s1.toks) fun c o e=>EU _ (EU _ e),uh b a s1.heap.objs.size (iP p1),⟨⟨_,he⟩,gE (EU _ (EZ _ f1))⟩,fun c hc=>by
  have hcc:c=s1.heap.objs.size∨c=s1.heap.objs.size + 1:=by simpa using hc
  have hle:s1.heap.objs.size≤c:=by rcases hcc with z | z <;> (subst z; omega)
  exact I1.fpOk hle (I1.hok.fresh hle),q⟩
end L2
namespace L2.Cu
open PySem PySem.Spec PyProof.Rows
def fS:List D→Int→List D
 | [],_=>[]
 | x :: r,i=>.tup [.int i,x] :: fS r (i + 1)
theorem mD:∀ (xs:List D) (i:Int),(fS xs i).length=xs.length
 | [],_=>rfl
 | _ :: r,i=>by rw [fS,EL,mD r,EL]
theorem i0:∀ (xs:List D) (k:Int) (i:Nat),(fS xs k)[i]? = xs[i]?.map fun x=>.tup [.int (k + i),x]
 | [],_,_=>by simp [fS]
 | x :: r,k,0=>by simp [fS]
 | x :: r,k,i + 1=>by
  rw [fS,EH,EH,i0 r (k + 1) i]
  congr 1
  funext y
  have:k + 1 + (i:Int)=k + ((i + 1:Nat):Int):=by omega
  rw [this]
theorem Ch {K:PySem.W.Frag}{F:Hp}{p:Bool×Addr}{ds:List D} (h:RpB F p ds):qo F (Ite K p.1 p.2) (fS ds 0):=by
 intro i F2 H2 y s
 obtain ⟨vs,sq,rs⟩:=(h.mono y).sq (K:=K) s
 refine ⟨fun hl=>⟨vs,sq,by rw [rs.length,← hl,mD]⟩,fun d hd=>?_⟩
 rw [i0] at hd
 cases hx:ds[i]? with
 | none=>rw [hx] at hd; cases hd
 | some x =>
  rw [hx] at hd
  cases hd
  obtain ⟨v,hv,rv⟩:=rs.get hx
  refine ⟨⟨vs,v,sq,hv⟩,fun z H' yl=>?_⟩
  obtain ⟨T,w,rfl,hT,rfl,hw⟩:=yl
  have e:=hw vs sq
  rw [hv] at e
  cases e
  have X:=Ext.freeze (o:=.tup [.int i,v]) s hT
  refine ⟨upd F2 T (.tup [.int i,v]),X,Rep.tup aw (.cons ?_ (.cons (rv.mono X.fr) .nil))⟩
  rw [HE]; exact .int _
def tD (ds:List D):Option (List D):=match ds with
 | [a]=>(a6 a).map fun xs=>fS xs 0
 | _=>none
theorem ro {ds xs:List D} (h:tD ds=some xs):∃ a,ds=[a]:=by
 unfold tD at h
 split at h
 ·exact ⟨_,rfl⟩
 ·cases h
def tz (f:DE→Option (List D)) (E:DE):Option (List D):=(f E).bind tD
theorem Ad {X:Cx}{pos:Pos}{elts:List Expr}{x1}{tp:Pos}{a:Expr}{f:DE→Option (List D)} {p:Pos} (hg:Gl X "enumerate") (hm:X.mg "enumerate" = none) (ha:Ea X [a] f) (hs:aP a=true:=by rfl):Ei X (.Tuple elts x1 tp) (.Call (.Name "enumerate" p) [a] [] pos) (tz f) :=
 PI.by (zn hg hm ha.h (aE a [] X.env hs)) fun σ H R zz142_0=>by
  obtain ⟨B,F,E,xs,k,q,w⟩:=zz142_0
  unfold tz at q
  cases hf:f E with
  | none=>simp [hf] at q
  | some ds =>
   rw [hf] at q
   refine ⟨B,F,E,ds,k,hf,fun vs F' H' x r=>?_⟩
   obtain ⟨d1,rfl⟩:=ro q
   obtain ⟨v1,ws,rfl,r1,r⟩:=r.c1
   obtain rfl:=r.c0
   ·have q':(a6 d1).map (fun xs=>fS xs 0)=some xs:=q
    cases h1:a6 d1 with
    | none=>rw [h1] at q'; cases q'
    | some s1 =>
     rw [h1] at q'
     cases q'
     obtain ⟨b1,l1,rfl,p1⟩:=iQ r1 h1
     refine ⟨b1,l1,rfl,?_,w _ F' H' x (Ch (p:=(b1,l1)) p1)⟩
     obtain ⟨vs,sq,_⟩:=p1.sq (K:=X.K) x.sub
     exact ⟨vs,sq⟩
end L2.Cu
namespace L2
open PySem PySem.Spec PyProof.Rows
theorem ub (a b c:Value):checkTypeCall "zip" ⟨[a,b,c],[]⟩=pure ():=by kernel_rfl
theorem vK (a b c:Value):checkBuiltinCall "zip.__new__" ⟨[.type "zip",a,b,c],[]⟩=pure ():=by kernel_rfl
theorem DT (a b c d:Value):argsOk "object.__init__" ⟨[a,b,c,d],[]⟩:=by
 unfold argsOk; rw [signature?_of (id := "object.__init__") (n:=['_','_','t','i','n','i','_','_']) (o:=['t','c','e','j','b','o']) (by kernel_rfl) F.owner_object]; kernel_rfl
abbrev zi3 (h:Heap) (b1 b2 b3:Bool) (l1 l2 l3:Addr):Heap:=((h.push (bo b1 l1)).push (bo b2 l2)).push (bo b3 l3)
abbrev zt3 (h:Heap) (b1 b2 b3:Bool) (l1 l2 l3:Addr):Heap:=(zi3 h b1 b2 b3 l1 l2 l3).push (lg [.ref h.objs.size,.ref (h.push (bo b1 l1)).objs.size,.ref ((h.push (bo b1 l1)).push (bo b2 l2)).objs.size])
abbrev zn3 (h:Heap) (b1 b2 b3:Bool) (l1 l2 l3:Addr):Heap:=(zt3 h b1 b2 b3 l1 l2 l3).push (lg [.none,.none,.none])
abbrev zl3 (h:Heap) (b1 b2 b3:Bool) (l1 l2 l3:Addr):Heap:=(zn3 h b1 b2 b3 l1 l2 l3).push (yI (zi3 h b1 b2 b3 l1 l2 l3).objs.size (zt3 h b1 b2 b3 l1 l2 l3).objs.size)
theorem CY (b1 b2 b3:Bool) (l1 l2 l3:Addr) (xs ys zs:Array Value) :
  Meets (Builtin.«zip.__new__» ⟨[.type "zip",.ref l1,.ref l2,.ref l3],[]⟩) (fun _ R s=>RSq b1 s.heap l1 xs∧RSq b2 s.heap l2 ys∧RSq b3 s.heap l3 zs ∧
   R (.ok (.ret (.ref (zn3 s.heap b1 b2 b3 l1 l2 l3).objs.size))) { s with heap:=zl3 s.heap b1 b2 b3 l1 l2 l3 }) :=
 .of_wp fun prog w A R s h=>by
  obtain ⟨hp,g,d,tk,os⟩:=s; obtain ⟨hl1,hl2,hl3,h⟩:=h
  have hsub:=sub_zip
  have hL1:RSq b1 (Shared.heap ⟨hp,g,d,tk,os⟩) l1 xs:=hl1
  have hL2:RSq b2 (Shared.heap ⟨hp.push (bo b1 l1),g,d,tk,os⟩) l2 ys:=hl2.keep fun o e=>EU _ e
  have hL3:RSq b3 (Shared.heap ⟨(hp.push (bo b1 l1)).push (bo b2 l2),g,d,tk,os⟩) l3 zs:=hl3.keep fun o e=>EU _ (EU _ e)
  wp_walk using jc hL1,jc hL2,jc hL3
  exact ⟨_,rfl,h⟩
section
variable {prog:Program}{w:World}{A:Around}{E:Value→Shared→Prop}{s:Shared}
theorem A2 {b1 b2 b3:Bool}{l1 l2 l3:Addr}{xs ys zs:Array Value}{Q:Value→Shared→Prop} (hl1:RSq b1 s.heap l1 xs) (hl2:RSq b2 s.heap l2 ys) (hl3:RSq b3 s.heap l3 zs)
  (h:∀ h',ZSt [(b1,l1),(b2,l2),(b3,l3)] s.heap.objs.size .none (fun _=>0) [.none,.none,.none] h'→(∀ c o,s.heap.get? c=some o→h'.get? c=some o)→Q (.ref (s.heap.objs.size + 3 + 2)) { s with heap:=h' }) :
  wpAny (model prog w) A (call (.type "zip") [.ref l1,.ref l2,.ref l3]) Q E s:=by
 refine callType_new F.called_zip (by decide) (ub _ _ _) (vK _ _ _) (fun obj=>DT obj _ _ _) F.entry_zip_new (CY b1 b2 b3 l1 l2 l3 xs ys zs) ⟨hl1,hl2,hl3,?_⟩
 have up:∀ {hp:Heap}{c:Addr}{o u:Obj},hp.get? c=some u→(hp.push o).get? c=some u:=fun e=>EU _ e
 have z1:(s.heap.push (bo b1 l1)).objs.size=s.heap.objs.size + 1:=FF ..
 have z2:((s.heap.push (bo b1 l1)).push (bo b2 l2)).objs.size=s.heap.objs.size + 2:=by rw [FF,z1]
 have z3:(zi3 s.heap b1 b2 b3 l1 l2 l3).objs.size=s.heap.objs.size + 3:=by rw [FF,z2]
 have z4:(zt3 s.heap b1 b2 b3 l1 l2 l3).objs.size=s.heap.objs.size + 4:=by rw [FF,z3]
 have z5:(zn3 s.heap b1 b2 b3 l1 l2 l3).objs.size=s.heap.objs.size + 5:=by rw [FF,z4]
 have f1:∀ b l,(bo b l).isFreed=false:=fun b l=>by cases b <;> rfl
 have g1:(zl3 s.heap b1 b2 b3 l1 l2 l3).get? s.heap.objs.size=some (bo b1 l1):=up (up (up (up (up (EZ _ (f1 _ _))))))
 have g2:(zl3 s.heap b1 b2 b3 l1 l2 l3).get? (s.heap.objs.size + 1)=some (bo b2 l2):=by rw [← z1]; exact up (up (up (up (EZ _ (f1 _ _)))))
 have g2':(zl3 s.heap b1 b2 b3 l1 l2 l3).get? (s.heap.objs.size + 2)=some (bo b3 l3):=by rw [← z2]; exact up (up (up (EZ _ (f1 _ _))))
 have g3:(zl3 s.heap b1 b2 b3 l1 l2 l3).get? (s.heap.objs.size + 3)=some (lg [.ref s.heap.objs.size,.ref (s.heap.objs.size + 1),.ref (s.heap.objs.size + 2)]):=by rw [← z3,← z2,← z1]; exact up (up (EZ _ rfl))
 have g4:(zl3 s.heap b1 b2 b3 l1 l2 l3).get? (s.heap.objs.size + 4)=some (lg [.none,.none,.none]):=by rw [← z4]; exact up (EZ _ rfl)
 have g5:(zl3 s.heap b1 b2 b3 l1 l2 l3).get? (s.heap.objs.size + 5)=some (yI (s.heap.objs.size + 3) (s.heap.objs.size + 4)):=by rw [← z5,← z4,← z3]; exact EZ _ rfl
 show _∧_
 rw [z5]
 refine ⟨⟨_,g5,rfl⟩,h _ ⟨fun k b a hk=>?_,?_,g4,rfl,g5⟩ fun c o e=>up (up (up (up (up (up e)))))⟩
 ·match k,hk with
  | 0,hk=>cases hk; exact gE g1
  | 1,hk=>cases hk; exact gE g2
  | 2,hk=>cases hk; exact gE g2'
 ·exact g3
end
theorem aR.three:∀ {x y z:V}{us:List Value},aR [x,y,z] us→∃ u v t,us=[u,v,t]∧aS x u∧aS y v∧aS z t:=by
 intro x y z us h
 cases h with
 | cons a h=>cases h with
  | cons b h=>cases h with
   | cons c h=>cases h; exact ⟨_,_,_,rfl,a,b,c⟩
theorem zk {X:Cx}{elts:List Expr}{x1}{tp:Pos}{a b c:Expr}{ta:TA}{p pos:Pos} (hg:Gl X "zip") (hm:X.mg "zip" = none) (ha:PA X [a,b,c] ta) (hs:starEach [a,b,c] X.env=(false,eval a X.env) :: starEach [b,c] X.env:=by rfl) (hs2:(backTo pos (starEach [b,c] X.env)).any (·.1)=false:=by rfl) :
  PI X (.Tuple elts x1 tp) (.Call (.Name "zip" p) [a,b,c] [] pos) (DU X.K 3 ta):=by
 intro pins s σ H R I h
 refine Call_ (fG I hg hm boot_zip (F0 (thn (ha pos pins s σ H _ I h) fun us s1 zz143_0=>?_) hs hs2))
 obtain ⟨vs,H1,I1,r1,q1⟩:=zz143_0
 obtain ⟨so,hl,e,hq,q⟩:=q1
 match so,hl with
 | [(b1,l1),(b2,l2),(b3,l3)],_ =>
  subst e
  obtain ⟨ys1,y1⟩:=hq (b1,l1) (by simp)
  obtain ⟨ys2,y2⟩:=hq (b2,l2) (by simp)
  obtain ⟨ys3,y3⟩:=hq (b3,l3) (by simp)
  obtain ⟨i1,_,p1⟩:=I1.sqB y1
  obtain ⟨i2,_,p2⟩:=I1.sqB y2
  obtain ⟨i3,_,p3⟩:=I1.sqB y3
  obtain ⟨u,v,t,e,ru,rv,rt⟩:=aR.three r1
  subst e
  cases ru
  cases rv
  cases rt
  refine A2 p1 p2 p3 fun h' st kk=>wpAny_pyIter_zip (s:={ s1 with heap:=h' }) st.z ?_
  refine ⟨_,zfp [(b1,l1),(b2,l2),(b3,l3)] s1.heap.objs.size,_,_,H1,rfl,I1.kept (t':=s1.toks) kk,oB _ _ (by show 3≤sizeLine; decide) (by simp) (fun p hp=>?_),⟨_,st⟩,fun c hc=>I1.fpOk (cJ.mp hc).1 (I1.hok.fresh (cJ.mp hc).1),q⟩
  have z:p=(b1,l1)∨p=(b2,l2)∨p=(b3,l3):=by simpa using hp
  rcases z with z | z | z
  ·rw [z]; exact iP p1
  ·rw [z]; exact iP p2
  ·rw [z]; exact iP p3
end L2
namespace L2.Cu
open PySem PySem.Spec PyProof.Rows
def du:List D→List D→List D→List D
 | a :: as,b :: bs,c :: cs=>.tup [a,b,c] :: du as bs cs
 | _,_,_=>[]
theorem lG:∀ xs ys zs:List D,(du xs ys zs).length=min xs.length (min ys.length zs.length)
 | [],_,_=>by simp [du]
 | _ :: _,[],_=>by simp [du]
 | _ :: _,_ :: _,[]=>by simp [du]
 | a :: as,b :: bs,c :: cs=>by
  rw [du,EL,lG as bs cs,EL,EL,EL,Nat.add_min_add_right,Nat.add_min_add_right]
theorem lH:∀ (xs ys zs:List D) (i:Nat) (d:D),(du xs ys zs)[i]? = some d→∃ x y z,d=.tup [x,y,z]∧xs[i]? = some x∧ys[i]? = some y∧zs[i]? = some z
 | [],_,_,_,_,h=>by simp [du] at h
 | _ :: _,[],_,_,_,h=>by simp [du] at h
 | _ :: _,_ :: _,[],_,_,h=>by simp [du] at h
 | a :: as,b :: bs,c :: cs,0,d,h=>by
  rw [du,on] at h
  cases h
  exact ⟨a,b,c,rfl,rfl,rfl,rfl⟩
 | a :: as,b :: bs,c :: cs,i + 1,d,h=>by
  rw [du,EH] at h
  obtain ⟨x,y,z,e,h1,h2,h3⟩:=lH as bs cs i d h
  exact ⟨x,y,z,e,by simpa using h1,by simpa using h2,by simpa using h3⟩
theorem Dk (xs ys zs:List D):rJ [xs,ys,zs] (du xs ys zs):=by
 intro i
 refine ⟨fun h=>?_,fun d hd=>?_⟩
 ·rw [lG] at h
  by_cases hx:xs.length≤i
  ·exact ⟨0,by simp,fun k ds e=>⟨fun z=>by omega,fun z=>by subst z; cases e; exact hx⟩⟩
  ·by_cases hy:ys.length≤i
   ·refine ⟨1,by simp,fun k ds e=>⟨fun z=>?_,fun z=>?_⟩⟩
    ·have:k=0:=by omega
     subst this; cases e; omega
    ·subst z; cases e; exact hy
   ·refine ⟨2,by simp,fun k ds e=>⟨fun z=>?_,fun z=>?_⟩⟩
    ·match k,z,e with
     | 0,_,e=>cases e; omega
     | 1,_,e=>cases e; omega
    ·subst z; cases e; omega
 ·obtain ⟨x,y,z,e,h1,h2,h3⟩:=lH xs ys zs i d hd
  subst e
  refine ⟨[x,y,z],rfl,rfl,fun k ds e=>?_⟩
  match k,e with
  | 0,e=>cases e; exact h1
  | 1,e=>cases e; exact h2
  | 2,e=>cases e; exact h3
def r8 (ds:List D):Option (List D):=match ds with
 | [a,b,c]=>(a6 a).bind fun xs=>(a6 b).bind fun ys=>(a6 c).map fun zs=>du xs ys zs
 | _=>none
theorem qp {ds xs:List D} (h:r8 ds=some xs):∃ a b c,ds=[a,b,c]:=by
 unfold r8 at h
 split at h
 ·exact ⟨_,_,_,rfl⟩
 ·cases h
def rZ (f:DE→Option (List D)) (E:DE):Option (List D):=(f E).bind r8
theorem Ac {X:Cx}{pos:Pos}{elts:List Expr}{x1}{tp:Pos}{a b c:Expr}{f:DE→Option (List D)} {p:Pos} (hg:Gl X "zip") (hm:X.mg "zip" = none) (ha:Ea X [a,b,c] f) (hs:aP a=true:=by rfl) (hs2:aP b=true:=by rfl) (hs3:aP c=true:=by rfl):Ei X (.Tuple elts x1 tp) (.Call (.Name "zip" p) [a,b,c] [] pos) (rZ f) :=
 PI.by (zk hg hm ha.h (aE a [b,c] X.env hs) (by rw [aE b [c] X.env hs2,aE c [] X.env hs3]; rfl)) fun σ H R zz144_0=>by
  obtain ⟨B,F,E,xs,k,q,w⟩:=zz144_0
  unfold rZ at q
  cases hf:f E with
  | none=>simp [hf] at q
  | some ds =>
   rw [hf] at q
   refine ⟨B,F,E,ds,k,hf,fun vs F' H' x r=>?_⟩
   obtain ⟨d1,d2,d3,rfl⟩:=qp q
   obtain ⟨v1,ws,rfl,r1,r⟩:=r.c1
   obtain ⟨v2,ws,rfl,r2,r⟩:=r.c1
   obtain ⟨v3,ws,rfl,r3,r⟩:=r.c1
   obtain rfl:=r.c0
   ·have q':((a6 d1).bind fun xs=>(a6 d2).bind fun ys=>(a6 d3).map fun zs=>du xs ys zs)=some xs:=q
    cases h1:a6 d1 with
    | none=>rw [h1] at q'; cases q'
    | some s1 =>
     cases h2:a6 d2 with
     | none=>rw [h1,h2] at q'; cases q'
     | some s2 =>
      cases h3:a6 d3 with
      | none=>rw [h1,h2,h3] at q'; cases q'
      | some s3 =>
       rw [h1,h2,h3] at q'
       cases q'
       obtain ⟨b1,l1,rfl,p1⟩:=iQ r1 h1
       obtain ⟨b2,l2,rfl,p2⟩:=iQ r2 h2
       obtain ⟨b3,l3,rfl,p3⟩:=iQ r3 h3
       refine ⟨[(b1,l1),(b2,l2),(b3,l3)],rfl,rfl,fun p hp=>?_,w _ F' H' x (xB (srcs:=[s1,s2,s3]) rfl (fun k p ds e1 e2=>?_) (Dk s1 s2 s3))⟩
       ·have z:p=(b1,l1)∨p=(b2,l2)∨p=(b3,l3):=by simpa using hp
        rcases z with z | z | z
        ·rw [z]; obtain ⟨vs,sq,_⟩:=p1.sq (K:=X.K) x.sub; exact ⟨vs,sq⟩
        ·rw [z]; obtain ⟨vs,sq,_⟩:=p2.sq (K:=X.K) x.sub; exact ⟨vs,sq⟩
        ·rw [z]; obtain ⟨vs,sq,_⟩:=p3.sq (K:=X.K) x.sub; exact ⟨vs,sq⟩
       ·match k,e1,e2 with
        | 0,e1,e2=>cases e1; cases e2; exact p1
        | 1,e1,e2=>cases e1; cases e2; exact p2
        | 2,e1,e2=>cases e1; cases e2; exact p3
end L2.Cu
namespace L2
open PySem PySem.Spec PyProof.Rows
section
variable {prog:Program}{w:World}{A:Around}{E:Value→Shared→Prop}{s:Shared}
theorem wJ (xs:List Value):((List.range xs.toArray.size).filterMap fun (k:Nat)=>xs.toArray[(((xs.toArray.size:Nat):Int) - 1 + (k:Int) * (-1)).toNat]?)=xs.reverse:=by
 have h1:∀ ys:List Value,(List.range ys.length).filterMap (fun k=>ys[k]?)=ys:=fun ys=>by
  have h:=pick_run ys.toArray 0 ys.length
  simpa using h
 have h2:∀ (l:List Nat) (f g:Nat→Option Value),(∀ k ∈ l,f k=g k)→l.filterMap f=l.filterMap g:=fun l f g h=>by
  induction l with
  | nil=>rfl
  | cons x l ih=>rw [Gs,Gs,h x (Fd ..),ih fun k hk=>h k (E7 _ hk)]
 have h3:=h1 xs.reverse
 rw [List.length_reverse] at h3
 rw [E_,← h3]
 refine h2 _ _ _ fun k hk=>?_
 have hk:=List.mem_range.mp hk
 rw [List.getElem?_reverse hk]
 have e:((xs.length:Int) - 1 + (k:Int) * (-1)).toNat=xs.length - 1 - k:=by omega
 rw [e]
 simp
end
end L2
namespace L2.Cu
open PySem PySem.Spec PyProof.Rows
section
variable {X:Cx}{e:Expr}{f g:DE→Option D}{pos apos cpos spos apos' cpos':Pos}
theorem D3 {a b:Expr} (ha:Ev X .O a f) (hb:Ev X .O b g):Et X (.Compare a [.GtE] [b] pos) (tst (bin geD f g)):=kN DN Dr ha hb (eU _)
end
end L2.Cu
namespace L2
open PySem PySem.Spec PyProof.Rows
theorem vU:∀ {is:List Int}{us:List Value},aR (is.map V.int) us→∃ ps:List (Int×Tok),us=ps.map (fun p=>Value.int p.1 p.2)∧ps.map (·.1)=is
 | [],_,.nil=>⟨[],rfl,rfl⟩
 | i :: is,_,.cons ⟨t,e⟩ h=>by
  obtain ⟨ps,h1,h2⟩:=vU h
  exact ⟨(i,t) :: ps,by rw [e,h1]; rfl,by rw [EN,h2]⟩
theorem gR (ps:List (Int×Tok)):intItems ps.toArray=(ps.map fun p=>Value.int p.1 p.2).toArray:=by simp [intItems]
end L2
namespace L2.Cu
open PySem PySem.Spec PyProof.Rows
def fR:List D→Option (List Int)
 | []=>some []
 | .int i :: r=>(fR r).map fun is=>i :: is
 | _=>none
theorem hU:∀ {ds:List D}{is:List Int},fR ds=some is→ds=is.map D.int
 | [],is,h=>by cases h; rfl
 | .int b :: r,is,h=>by
  unfold fR at h
  cases hr:fR r with
  | none=>rw [hr] at h; cases h
  | some cs =>
   rw [hr] at h
   cases h
   rw [hU hr]; rfl
theorem iV:∀ is:List Int,fR (is.map D.int)=some is
 | []=>rfl
 | i :: is=>by
  show (fR (is.map D.int)).map _=_
  rw [iV is]; rfl
theorem Reps.intsV {F:Hp}:∀ {vs:List V}{is:List Int},Reps F vs (is.map D.int)→vs=is.map V.int
 | _,[],.nil=>rfl
 | _,i :: is,.cons r t=>by cases r; rw [Reps.intsV t]; rfl
def Ds:List V→Hp→VK→Prop:=fun xs H Q=>∃ (p:Addr) (is:List Int),xs=[.ref p]∧(H p=some (.lst (is.map V.int))∨H p=some (.tup (is.map V.int)))∧Q (.int is.sum) H
theorem vn {X:Cx} (hc:X.calm=true):cQ X (.builtin "sum") Ds:=by
 intro pins s σ H xs us Q I r h
 obtain ⟨p,is,rfl,hp,q⟩:=h
 obtain ⟨u,rfl,ru⟩:=gO r
 cases ru
 have fin:∀ (ps:List (Int×Tok)),is=ps.map (·.1)→∀ h' tk t',(∀ b o,s.heap.get? b=some o→h'.get? b=some o)→EP X pins σ Q (.int (preSum (numAt ps.toArray) ps.toArray.size) t') { s with heap:=h',toks:=tk }:=fun ps e h' tk t' hk=>by
  have e2:preSum (numAt ps.toArray) ps.toArray.size=is.sum:=by
   rw [preSum_eq,Gc (by simp),e]
  rw [e2]
  exact ⟨.int is.sum,H,I.kept hk,⟨_,rfl⟩,q⟩
 rcases hp with hp | hp
 ·obtain ⟨z,its,n,rv,hl,e⟩:=I.lstM hp
  obtain ⟨ps,rfl,e1⟩:=vU rv
  exact sum_intListG (I.ok.hd hc) (xs:=ps.toArray) ⟨_,e,rfl,n,by rw [gR]⟩ (fin ps e1.symm)
 ·obtain ⟨_,its,rv,o,g,g2,n,g3⟩:=I.hok p _ hp
  obtain ⟨ps,rfl,e1⟩:=vU rv
  exact PySem.W.ktm_sumG (I.ok.hd hc) (xs:=ps.toArray) ⟨o,g,g2,n,by rw [gR]; exact g3⟩ (fin ps e1.symm)
def jG:D→Option D
 | .lst xs=>(fR xs).map fun is=>.int is.sum
 | .tup xs=>(fR xs).map fun is=>.int is.sum
 | _=>none
theorem oK (is:List Int):jG (.lst (is.map D.int))=some (.int is.sum):=by
 show (fR (is.map D.int)).map _=_
 rw [iV]; rfl
theorem v7 (is:List Int):jG (.tup (is.map D.int))=some (.int is.sum):=by
 show (fR (is.map D.int)).map _=_
 rw [iV]; rfl
theorem Bm:jr .V Ds jG:=fun F H v x d Q s rx h q=>by
 match x,h with
 | .lst xs,h =>
  have h':(fR xs).map (fun is=>D.int is.sum)=some d:=h
  obtain ⟨is,hb,rfl⟩:=Option.map_eq_some_iff.mp h'
  obtain ⟨p,vs,rfl,hp,rp⟩:=OB.lst s rx
  rw [hU hb] at rp
  rw [Reps.intsV rp] at hp
  exact ⟨p,is,rfl,.inl hp,q _ F H (Ext.refl s) (.int _)⟩
 | .tup xs,h =>
  have h':(fR xs).map (fun is=>D.int is.sum)=some d:=h
  obtain ⟨is,hb,rfl⟩:=Option.map_eq_some_iff.mp h'
  obtain ⟨p,vs,rfl,hp,rp⟩:=OB.tup rx
  rw [hU hb] at rp
  rw [Reps.intsV rp] at hp
  exact ⟨p,is,rfl,.inr (s _ _ hp),q _ F H (Ext.refl s) (.int _)⟩
theorem nI {X:Cx}{e:Expr}{f:DE→Option D}{pos p:Pos} (hc:X.calm=true) (hg:Gl X "sum") (hm:X.mg "sum" = none) (hv:bootBuiltins "sum" = some (.builtin "sum")) (ha:Ev X .O e f) (he:aP e=true:=by rfl):Ev X .V (.Call (.Name "sum" p) [e] [] pos) (un jG f) :=
 jA (vn hc) Bm hg hm hv ha (by decide) (by decide) he
def Do (sc scope:Scope):Scope :=
 { scope with names:=scope.names.map fun p=>if (p.2 == NameKind.free && sc.kind == .function && sc.names.lookup p.1 == some .cell) then (p.1,NameKind.cell) else p }
theorem y7 (scope:Scope) (env:Env):relabel scope env=Do env.scope scope:=rfl
theorem Blk.of2 {X:Cx}{sc scope scope':Scope}{C:Addr}{fp:List Addr}{s0:Shared}{H0:Hp}{N:List Str}{js:List Nat} (h:yw (Do sc scope) N scope' js=true) (h1:X.env.scope=sc) (h2:X.N=N):Blk (cr X scope C fp s0 H0) scope' js :=
 Blk.of h (by show relabel scope X.env=_; rw [y7,h1]) h2
end L2.Cu
namespace L2
open PySem PySem.Spec PyProof.Rows
theorem zQ {k:Key}{u:Value} (h:gQ k u=true):aS (kV k) u:=by
 rcases bM h with ⟨i,t,rfl,rfl⟩ | ⟨x,t,rfl,rfl⟩ | ⟨rfl,rfl⟩
 ·exact ⟨t,rfl⟩
 ·exact ⟨t,rfl⟩
 ·rfl
theorem kH {X:Cx}{pins:List (Addr×Obj)} {σ:St}{H:Hp}{s:Shared}{d:Addr}{ob:Obj}{kvs:List (Key×V)} (I:Inv X pins σ H s) (e:H d=some (.frz ob (.dK kvs))) :
  ∃ vs,KV kvs vs∧(d == sysModules)=false∧kvs.length≤sizeLine∧(∃ es ep,ob.data=.dict es ep)∧∀ es ep,ob.data=.dict es ep→s.heap.DictAt (bf X.prog X.w) d vs ep:=by
 obtain ⟨h0,hz,hd,vs,rel,dd⟩:=I.hok d _ e
 obtain ⟨o,es',ep',h1,h2,h3,h4⟩:=dd
 rw [h0] at h1; cases h1
 refine ⟨vs,rel,hd,hz,⟨es',ep',h3⟩,fun es ep he=>?_⟩
 obtain ⟨rfl,rfl⟩:es=es'∧ep=ep':=by rw [he] at h3; cases h3; exact ⟨rfl,rfl⟩
 exact ⟨ob,es,h0,h2,he,h4⟩
theorem KV.at {kvs:List (Key×V)} {vs:List (Key×Value)} (r:KV kvs vs) {i:Nat}{k:Key}{u:Value} (h:vs[i]? = some (k,u)):∃ v,kvs[i]? = some (k,v)∧aS v u:=by
 induction r generalizing i with
 | nil=>simp at h
 | @cons p q _ _ h1 t ih =>
  cases i with
  | zero =>
   simp at h
   subst h
   have h3:p.1=k:=h1.1
   exact ⟨p.2,by rw [← h3]; rfl,h1.2⟩
  | succ j =>
   simp at h
   obtain ⟨v,e1,e2⟩:=ih h
   exact ⟨v,by simpa using e1,e2⟩
def Itd (d:Addr) (ob:Obj) (kvs:List (Key×V)):It :=
 ⟨fun i H=>H d=some (.frz ob (.dK kvs))∧i < kvs.length,fun i H x H'=>H'=H∧∃ k v,kvs[i]? = some (k,v)∧x=kV k,fun i H=>H d=some (.frz ob (.dK kvs))∧kvs.length=i⟩
theorem qy {P:Program}{w:World}{K:PySem.W.Frag}{tg:Expr} (d it:Addr) (ob:Obj) (kvs:List (Key×V)) (es:Array DictEntry) (ep:Nat) (he:ob.data=.dict es ep):oa P w K tg (Itd d ob kvs) [it] it (fun i h=>h.IsKeyIter it d i kvs.length ep) where
 mem:=by simp
 obj:=fun i h st b hb=>by
  have e:b=it:=by simpa using hb
  subst e
  obtain ⟨o,e,c,d⟩:=st
  exact ⟨o,e,fun v z=>by rw [d] at z; cases z⟩
 keep:=fun i h h' st k=>st.at fun o e=>k it (by simp) o e
 item:=by
  intro X hP hw hK hc i pins s σ H E I hf st hg
  subst hP hw hK
  obtain ⟨e,hi⟩:=hg
  obtain ⟨vs,rel,hd,hz,_,at_⟩:=kH I e
  have hm:=at_ es ep he
  have hl:=rel.length
  obtain ⟨⟨k,u⟩,hx⟩:∃ p,vs[i]? = some p:=⟨vs[i]'(by omega),EV _⟩
  obtain ⟨v,hkv,_⟩:=rel.at hx
  obtain ⟨f0,f1,f2,f3,f4,f5⟩:=hf it (by simp)
  refine wpAny_pyNext_dict_item (knd:=bf X.prog X.w) (by rw [← hl]; exact st) hm hx fun key h' hkey st' sb=>?_
  have I1:Inv X pins σ H { s with heap:=h' }:=I.turned (t':=s.toks) (fun b o hb e=>(sb.2 b hb).trans e) f0 f1 f3 f4 f5
  obtain ⟨o,e,c,d⟩:=id st'
  exact ⟨key,rfl,sZ (s:={ s with heap:=h' }) e c d (by decide) ⟨kV k,H,I1,zQ hkey,⟨rfl,k,v,hkv,rfl⟩,by rw [hl]; exact st',fun b hb=>(hf b hb).1⟩⟩
 done:=by
  intro X hP hw hK hc i pins s σ H E I hf st hg
  subst hP hw hK
  obtain ⟨e,hi⟩:=hg
  obtain ⟨vs,rel,hd,hz,_,at_⟩:=kH I e
  have hm:=at_ es ep he
  have hl:=rel.length
  obtain ⟨f0,f1,f2,f3,f4,f5⟩:=hf it (by simp)
  exact wpAny_pyNext_dict_end (knd:=bf X.prog X.w) (I.ok.hd hc) (by rw [← hl]; exact st) hm (FB (by omega)) fun h' eb=>⟨rfl,I.turned (t':=s.toks) (fun b o hb e=>eb b o hb e) f0 f1 f3 f4 f5⟩
 self:=fun _ _ _ _ _ st h=>wpAny_pyIter_keyiter st h
def DY (tl:TE):TI:=fun σ H R=>tl σ H fun x H1=>∃ d ob kvs,x=.ref d∧H1 d=some (.frz ob (.dK kvs))∧R (Itd d ob kvs) H1
theorem zo {X:Cx}{tg l:Expr}{tl:TE} (hl:PE X l tl):PI X tg l (DY tl):=by
 intro pins s σ H R I h
 refine thn (hl pins s σ H _ I h) fun v s1 zz145_0=>?_
 obtain ⟨x,H1,I1,r1,q1⟩:=zz145_0
 obtain ⟨d,ob,kvs,e,hq,q⟩:=q1
 subst e
 cases r1
 obtain ⟨vs,rel,hd,hz,⟨es,ep,he⟩,at_⟩:=kH I1 hq
 have hm:=at_ es ep he
 refine wpAny_pyIter_dict (knd:=bf X.prog X.w) hd hm ?_
 refine ⟨s1.heap.objs.size,[s1.heap.objs.size],_,_,H1,rfl,I1.kept (t':=s1.toks) fun b o e=>EU _ e,qy d _ ob kvs es ep he,⟨_,EZ _ rfl,rfl,by rw [rel.length]; rfl⟩,fun b hb=>?_,q⟩
 have e:b=s1.heap.objs.size:=by simpa using hb
 subst e
 exact I1.fpOk (E9 _) (I1.hok.fresh (E9 _))
end L2
namespace L2.Cu
open PySem PySem.Spec PyProof.Rows
def sU:Key→D
 | .inl (some i)=>.int i
 | .inl none=>.non
 | .inr x=>.str x
theorem y6 {F:Hp}:∀ k:Key,Rep F (kV k) (sU k)
 | .inl (some i)=>.int i
 | .inl none=>.non
 | .inr x=>.str x
theorem RepK.at {F:Hp}:∀ {vs:List (Key×V)} {ds:List (Key×D)} {i:Nat}{k:Key}{v:V},RepK F vs ds→vs[i]? = some (k,v)→∃ d,ds[i]? = some (k,d)∧Rep F v d
 := fun {vs ds i k v} r e=>by
  cases r with
  | nil=>cases e
  | cons r t =>
   cases i with
   | zero=>cases e; exact ⟨_,rfl,r⟩
   | succ i=>exact RepK.at (i:=i) t e
def kC:D→Option (List D)
 | .dic kvs=>some (kvs.map fun p=>sU p.1)
 | d=>aH d
theorem Ci {F:Hp}{a:Addr}{ob:Obj}{vs:List (Key×V)} {ds:List (Key×D)} (h:F a=some (.frz ob (.dK vs))) (r:RepK F vs ds):qo F (Itd a ob vs) (ds.map fun p=>sU p.1):=by
 intro i F2 H2 y s
 have q:H2 a=some (.frz ob (.dK vs)):=s _ _ (y _ _ h)
 refine ⟨fun hl=>⟨q,by rw [r.length,← hl,EW]⟩,fun d hd=>?_⟩
 rw [Fg] at hd
 cases hx:ds[i]? with
 | none=>rw [hx] at hd; cases hd
 | some p =>
  rw [hx] at hd
  cases hd
  have hlt:i < vs.length:=by rw [r.length]; exact (List.getElem?_eq_some_iff.mp hx).1
  refine ⟨⟨q,hlt⟩,fun x H' yl=>?_⟩
  obtain ⟨rfl,k,v,hk,rfl⟩:=yl
  obtain ⟨d',e1,_⟩:=r.at hk
  rw [hx] at e1
  cases e1
  exact ⟨F2,Ext.refl s,y6 k⟩
theorem tF {X:Cx}{e:Expr}{y:Str}{py:Pos}{f:DE→Option D} (h:Ev X .V e f):Ei X (.Name y py) e (a8 kC f):=PI.by (PI.or (zo h.h) (b6 (y:=y) (py:=py) h).h) fun σ H R zz146_0=>by
 obtain ⟨B,F,E,xs,k,q,w⟩:=zz146_0
 unfold a8 at q
 cases hf:f E with
 | none=>simp [hf] at q
 | some d =>
  simp only [hf,EG] at q
  cases d with
  | dic ds =>
   cases q
   refine .inl ⟨B,F,E,_,k,hf,fun v F' H' x r=>?_⟩
   cases r with
   | dic e rs=>exact ⟨_,_,_,rfl,x.sub _ _ e,w _ F' H' x (Ci e rs)⟩
  | _=>exact .inr ⟨B,F,E,xs,k,by unfold a8; rw [hf]; exact q,w⟩
section
variable {X:Cx}{a b e:Expr}{p pos:Pos}{f g:DE→Option D}
def xH (es:List (Key×D)) (p:Key×D):Bool:=match dQ es p.1 with
 | some y=>PyData.eqv (toP p.2) (toP y)
 | none=>false
theorem vW {es:List (Key×D)} {k:Key}{y:D} (h:dQ es k=some y):∃ p ∈ es,p.2=y:=by
 unfold dQ at h
 cases hf:es.find? fun p=>decide (p.1=k) with
 | none=>rw [hf] at h; cases h
 | some p=>rw [hf] at h; cases h; exact ⟨p,List.mem_of_find?_eq_some hf,rfl⟩
theorem Cl {X:Cx}{pins:List (Addr×Obj)} {σ:St}{F H:Hp}{s:Shared}{A:Around} (I:Inv X pins σ H s) (hs:∀ a o,F a=some o→H a=some o) (hu:A.units + 62 < cLine) {ws:List (Key×V)} {es:List (Key×D)} {kb:List (Key×Value)} (r2:RepK F ws es) (q2:KV ws kb) (d2:∀ p ∈ es,eX p.2=true) :
  ∀ {vs:List (Key×V)} {ds:List (Key×D)} {ka:List (Key×Value)},RepK F vs ds→KV vs ka→(∀ p ∈ ds,eX p.2=true)→PySem.W.KeqHits A s kb ka (ds.all (xH es))
 := fun {vs ds ka} z0 z1 d1=>by
  cases z0 with
  | nil=>cases z1; exact .nil
  | @cons k v d vs ds r t =>
   cases z1 with
   | @cons _ q _ _ h q1 =>
    have ih:=Cl I hs hu r2 q2 d2 t q1 fun p hp=>d1 p (.tail _ hp)
    obtain ⟨k',u⟩:=q
    obtain ⟨e1,e2⟩:=h
    have e1':k=k':=e1
    subst e1'
    have e2':aS v u:=e2
    obtain ⟨v1,v2⟩:=RepK.val (k:=k) r2
    have rel:=q2.val k
    cases hv:dQ es k with
    | none =>
     have hn:=v2 hv
     rw [hn] at rel
     have hb:xH es (k,d)=false:=by unfold xH; rw [hv]
     rw [Gn,hb,Gx]
     exact .miss (eI.none_of rel)
    | some y =>
     obtain ⟨w,hw,rw'⟩:=v1 y hv
     rw [hw] at rel
     obtain ⟨u',hu',ru'⟩:=eI.some_of rel
     have hb:xH es (k,d)=PyData.eqv (toP d) (toP y):=by unfold xH; rw [hv]
     rw [Gn,hb]
     obtain ⟨a1,a2⟩:=Bool.and_eq_true_iff.mp (d1 (k,d) (.head _))
     obtain ⟨pp,hpm,hpe⟩:=vW hv
     obtain ⟨b1,b2⟩:=Bool.and_eq_true_iff.mp (hpe ▸ d2 pp hpm)
     obtain ⟨as,ra⟩:=Rep.reads I hs r e2' a1
     obtain ⟨bs,rb⟩:=Rep.reads I hs rw' ru' b1
     have a2':(toP d).depth≤60:=FH a2
     exact .hit hu' (SeqAt.eqAt_reads (toP d) (toP y) A s u u' as bs ra rb a1 b1 (by omega)) ih
end
def wp {α:Type} (o:Option α) (P:α→Prop):Prop:=match o with
 | some a=>P a
 | none=>False
theorem af {α:Type}{a:α}{P:α→Prop}:wp (some a) P=P a:=rfl
theorem aJ {α β:Type}{o:Option α}{k:α→Option β}{P:β→Prop}:wp (o.bind k) P=wp o (fun a=>wp (k a) P):=by cases o <;> rfl
theorem bS {α β:Type}{o:Option α}{k:α→β}{P:β→Prop}:wp (o.map k) P=wp o (fun a=>P (k a)):=by cases o <;> rfl
theorem dF {α:Type}{o:Option α}{P Q:α→Prop} (h:wp o P) (w:∀ a,P a→Q a):wp o Q:=by
 cases o with
 | none=>exact h
 | some a=>exact w a h
theorem bE {α:Type}{o:Option α}{a:α} (h:wp o (fun b=>b=a)):o=some a:=by
 cases o with
 | none=>exact False.elim h
 | some b=>exact FZ some h
theorem dy {α:Type}{o:Option α}{P:α→Prop}:wp o P ↔ ∃ a,o=some a∧P a:=by
 cases o with
 | none=>exact ⟨False.elim,fun ⟨_,h,_⟩=>by cases h⟩
 | some b=>exact ⟨fun h=>⟨b,rfl,h⟩,fun ⟨_,h,p⟩=>by cases h; exact p⟩
theorem cA {α:Type}{c:Prop} [Decidable c] {a b:Option α}{P:α→Prop} (h:c) (q:wp a P):wp (if c then a else b) P:=by rw [if_pos h]; exact q
theorem aL {i j:Int} (h:0 < j):bW (.int i) (.int j)=some (.int (i % j)):=if_pos h
theorem qY {j:Int} (h:j≤10 ^ 200) (h0:0 < j):j.natAbs.log2 < 9000:=by
 rw [Nat.log2_lt (by omega)]
 have h1:(j.natAbs:Int)≤10 ^ 200:=by omega
 have h2:((10:Nat) ^ 200:Nat) < 2 ^ 9000:=by decide
 have h3:j.natAbs≤(10:Nat) ^ 200:=by
  have:((10:Int) ^ 200)=(((10:Nat) ^ 200:Nat):Int):=by decide
  omega
 exact HN h3 h2
theorem bQ {i j:Int} (h:0 < j) (h2:j≤10 ^ 200):bK (.int i) (.int j)=some (.int (i / j)):=if_pos ⟨h,qY h2 h⟩
theorem uQ {i j:Int} (h:Builtin.Int.intBits i≤2 ^ 20) (h2:Builtin.Int.intBits j≤2 ^ 20):xg (.int i) (.int j)=some (.int (i * j)):=if_pos ⟨h,h2⟩
theorem gF {i j:Int} (h:0≤j) (h2:j≤1000000) (h3:i.natAbs < 2 ^ 64):lj (.int i) (.int j)=some (.int (i ^ j.toNat)):=if_pos ⟨h,h2,h3⟩
theorem fF {i j:Int}:ltD (.int i) (.int j)=some (.bl (decide (i < j))):=rfl
theorem sR {i j:Str}:ltD (.str i) (.str j)=some (.bl (decide (i.cps.toList < j.cps.toList))):=rfl
theorem nC {i j:Int}:leD (.int i) (.int j)=some (.bl (decide (i≤j))):=rfl
theorem sS {i j:Str}:leD (.str i) (.str j)=some (.bl (!decide (j.cps.toList < i.cps.toList))):=rfl
theorem jx {i j:Int}:gtD (.int i) (.int j)=some (.bl (decide (j < i))):=rfl
theorem iw {i j:Int}:geD (.int i) (.int j)=some (.bl (decide (j≤i))):=rfl
theorem e7 {i j:Int}:qC (.int i) (.int j)=some (.int (i - j)):=rfl
theorem tR {α:Type}{xs:List α}{i:Int} (h:0≤i) (h2:i < xs.length):atI xs i=xs[i.toNat]?:=by
 unfold atI ixN
 rw [if_pos h,if_pos h2]; rfl
theorem cu {α:Type}{xs:List α}{i:Nat}:atI xs (i:Int)=xs[i]?:=by
 unfold atI ixN
 rw [if_pos (by omega)]
 by_cases h:(i:Int) < xs.length
 ·rw [if_pos h]; rfl
 ·rw [if_neg h]
  exact (FB (by omega)).symm
theorem vR {α:Type}{xs:List α}{i:Int}{P:α→Prop} (h:0≤i) (h2:i < xs.length) (q:∀ d ∈ xs,P d):wp (atI xs i) P:=by
 have hlt:i.toNat < xs.length:=by omega
 rw [tR h h2,EV hlt]
 exact q _ (Fx hlt)
theorem sr (x:Str):x.length=x.cps.toList.length:=by
 show x.cps.size=_
 simp
theorem zT {z:Str}{i:Int} (hz:z.length≤16777216) (h:0≤i) (h2:i < z.length):ixD (.str z) (.int i)=some (.str ⟨#[z.cps.toList.getD i.toNat 0]⟩):=by
 show (if z.length≤16777216 then (atI z.cps.toList i).map fun c=>D.str ⟨#[c]⟩ else none)=_
 rw [sr] at h2
 rw [if_pos hz,tR h h2]
 have hlt:i.toNat < z.cps.toList.length:=by omega
 rw [EV hlt,FA,EV hlt]
 rfl
theorem mX (x y:Str):(x ++ y).cps.toList=x.cps.toList ++ y.cps.toList:=by
 show (x.cps ++ y.cps).toList=_
 simp
theorem cE {i j:Int}:bG (.int i) (.int j)=some (.int (i + j)):=rfl
theorem yD {i j:Str} (h:i.length + j.length≤16777216):bG (.str i) (.str j)=some (.str (i ++ j)):=if_pos h
theorem yC {i j:List D} (h:i.length + j.length≤16777216):bG (.tup i) (.tup j)=some (.tup (i ++ j)):=if_pos h
theorem sX {xs:List D}{i:Int}:ixD (.lst xs) (.int i)=atI xs i:=rfl
theorem sV {xs:List D}{i:Int}:ixD (.tup xs) (.int i)=atI xs i:=rfl
theorem sW {xs:List Int}{i:Int}:ixD (.scr xs) (.int i)=(atI xs i).map D.int:=rfl
theorem pF {xs:List D}:xo (.lst xs)=some (.int xs.length):=rfl
theorem pD {xs:List D}:xo (.tup xs)=some (.int xs.length):=rfl
theorem pE {xs:List Int}:xo (.scr xs)=some (.int xs.length):=rfl
theorem su {xs:List D}{lo hi:Option Int}:slD (.lst xs) lo hi=some (.lst (bO xs lo hi)):=rfl
theorem eJ {xs:List D}{lo hi:Option Int}:slD (.tup xs) lo hi=some (.tup (bO xs lo hi)):=rfl
theorem jt {xs:List Int}{lo hi:Option Int}:slD (.scr xs) lo hi=some (.lst ((bO xs lo hi).map D.int)):=rfl
theorem yV {x:Str}{lo hi:Option Int} (h:x.length≤16777216):slD (.str x) lo hi=some (.str (Txt.slice x lo hi)):=if_pos h
theorem cK {i j:Int}:eqO (.int i) (.int j)=some (.bl (decide (i=j))):=rfl
theorem tw {i j:Str}:eqO (.str i) (.str j)=some (.bl (decide (i=j))):=rfl
theorem rm {i j:Bool}:eqO (.bl i) (.bl j)=some (.bl (decide (i=j))):=rfl
theorem eM {i j:Int}:neO (.int i) (.int j)=some (.bl (!decide (i=j))):=rfl
theorem sP {i j:Str}:neO (.str i) (.str j)=some (.bl (!decide (i=j))):=rfl
theorem sY {c:Nat}{z:Str}:inO (.str ⟨#[c]⟩) (.str z)=some (.bl (decide (c ∈ z.cps.toList))):=by
 show some (D.bl (!(Builtin.Str.occurrences z ⟨#[c]⟩ 0 z.length 1).isEmpty))=_
 rw [PySem.StrLaws.found_one]
theorem pq {c:Nat}{z:Str}:w_ (.str ⟨#[c]⟩) (.str z)=some (.bl (!decide (c ∈ z.cps.toList))):=by
 show some (D.bl (!(!(Builtin.Str.occurrences z ⟨#[c]⟩ 0 z.length 1).isEmpty)))=_
 rw [PySem.StrLaws.found_one]
def Bf (g:DE→Option Out) (P:Out→Prop):Out→Prop
 | .nx E=>wp (g E) P
 | r=>P r
theorem ao {g:DE→Option Out}{P:Out→Prop}{E:DE}:Bf g P (.nx E)=wp (g E) P:=rfl
theorem a_ {g:DE→Option Out}{P:Out→Prop}{d:D}:Bf g P (.rt d)=P (.rt d):=rfl
theorem ar {f g:DE→Option Out}{E:DE}{P:Out→Prop}:wp (av f g E) P=wp (f E) (Bf g P):=by
 unfold av; rw [aJ]
 congr 1
 funext r
 cases r <;> rfl
def ifK (f g:DE→Option Out) (E:DE) (P:Out→Prop) (b:Bool):Prop:=wp (if b=true then f E else g E) P
theorem aY {f g:DE→Option Out}{E:DE}{P:Out→Prop}:ifK f g E P true=wp (f E) P:=rfl
theorem a7 {f g:DE→Option Out}{E:DE}{P:Out→Prop}:ifK f g E P false=wp (g E) P:=rfl
theorem aT {c:DE→Option Bool}{f g:DE→Option Out}{E:DE}{P:Out→Prop}:wp (ifS c f g E) P=wp (c E) (ifK f g E P):=by
 unfold ifS; rw [aJ]; rfl
theorem kF {f g:DE→Option Out}{E:DE}{P:Out→Prop}{b:Bool} (h1:b=true→wp (f E) P) (h2:b=false→wp (g E) P):ifK f g E P b:=by
 cases b with
 | true=>exact h1 rfl
 | false=>exact h2 rfl
theorem ir {f g:DE→Option Out}{E:DE}{P:Out→Prop}{c:Prop} [Decidable c] (h1:c→wp (f E) P) (h2:¬ c→wp (g E) P):ifK f g E P (decide c) :=
 kF (fun h=>h1 (FH h)) fun h=>h2 (of_decide_eq_false h)
def Bi (P:D→Prop):Out→Prop
 | .rt d=>P d
 | .nx _=>P .non
 | _=>False
theorem ax {P:D→Prop}{d:D}:Bi P (.rt d)=P d:=rfl
theorem m9 {P:D→Prop}{E:DE}:Bi P (.nx E)=P .non:=rfl
theorem aG {n m:Nat}{b:DE→Option Out}{ds:List D}{P:D→Prop} (h:ds.length=n):wp (ci n m b ds) P=wp (b (ds.map Sl.val ++ List.replicate (m - n) Sl.no)) (Bi P):=by
 unfold ci
 rw [if_pos h,aJ]
 congr 1
 funext r
 cases r <;> rfl
theorem fP {n:Nat} (h:n≤16777216):n≤sizeLine:=h
theorem fV {n:Nat} (h:n < 16777216):n < sizeLine:=h
theorem br {n:Nat} (h:n≤16777216):(n≤sizeLine)=True:=eq_true h
theorem lQ {n:Nat} (h:n < 16777216):(n < sizeLine)=True:=eq_true h
theorem cN {f:DE→Option (List D)} {E:DE}:eS f E=(f E).bind jb:=rfl
theorem oZ {f:DE→Option (List D)} {E:DE}:Eo f E=(f E).bind AJ:=rfl
theorem db {j:Int} (h : -4000000000≤j) (h2:j≤4000000000):jb [.int j]=some (dX 0 j.toNat):=if_pos ⟨by omega,by omega⟩
def pC (gf:D→DE→Option DE) (fb:DE→Option Out) (xs:List D) (E:DE):Option Out:=kr (fun x E1=>(gf x E1).bind fb) xs E
theorem bP {fi:DE→Option (List D)} {gf:D→DE→Option DE}{fb:DE→Option Out}{E:DE}{P:Out→Prop}:wp (c4 fi gf fb E) P=wp (fi E) (fun xs=>wp (pC gf fb xs E) P):=by
 unfold c4; rw [aJ]; rfl
section
variable {α:Type} (enc:α→D) (ys:List α) (I:List α→DE→Prop) {gf:D→DE→Option DE}{fb:DE→Option Out}{xs:List D}{E:DE}{P:Out→Prop}
theorem ig (hx:xs=ys.map enc) (h0:I [] E)
  (step:∀ pre x post E,ys=pre ++ x :: post→I pre E→wp (gf (enc x) E) fun E1=>wp (fb E1) fun r=>match r with | .nx E'=>I (pre ++ [x]) E' | .ct E'=>I (pre ++ [x]) E' | .bk E'=>P (.nx E') | .rt d=>P (.rt d)) (fin:∀ E',I ys E'→P (.nx E')):wp (pC gf fb xs E) P:=by
 subst hx
 have go:∀ (post pre:List α) (E:DE),ys=pre ++ post→I pre E→wp (pC gf fb (post.map enc) E) P:=by
  intro post
  induction post with
  | nil=>intro pre E h i; rw [F9] at h; subst h; exact fin E i
  | cons x post ih =>
   intro pre E h i
   show wp (((gf (enc x) E).bind fb).bind _) P
   rw [aJ,aJ]
   refine dF (step pre x post E h i) fun E1 q1=>dF q1 fun r q=>?_
   have nxt:∀ E',I (pre ++ [x]) E'→wp (pC gf fb (post.map enc) E') P:=fun E' i'=>ih (pre ++ [x]) E' (by rw [h]; simp) i'
   cases r with
   | nx E'=>exact nxt E' q
   | ct E'=>exact nxt E' q
   | bk E'=>exact q
   | rt d=>exact q
 exact go ys [] E rfl h0
theorem cz (hx:xs=ys.map enc) (h0:I [] E)
  (step:∀ pre x post E,ys=pre ++ x :: post→I pre E→wp (gf (enc x) E) fun E1=>wp (fb E1) fun r=>match r with | .nx E'=>I (pre ++ [x]) E' | .ct E'=>I (pre ++ [x]) E' | _=>False) (fin:∀ E',I ys E'→P (.nx E')):wp (pC gf fb xs E) P :=
 ig enc ys I hx h0 (fun pre x post E h i=>dF (step pre x post E h i) fun E1 q=>dF q fun r q=>by cases r <;> first | exact q | exact False.elim q) fin
end
theorem i6 {α:Type} (enc:α→D) (f:α→D) {gf:D→DE→Option DE}{cf:DE→Option Bool}{ef:DE→Option D}{E:DE}:∀ (ys:List α),(∀ x ∈ ys,wp (gf (enc x) E) fun E1=>cf E1=some true∧ef E1=some (f x))→cc gf cf ef E (ys.map enc)=some (ys.map f)
 | [],_=>rfl
 | x :: ys,h=>by
  obtain ⟨E1,h1,h2,h3⟩:=dy.mp (h x Fd)
  show (gf (enc x) E).bind _=_
  rw [h1]
  show (cf E1).bind _=_
  rw [h2]
  show (if true=true then (ef E1).bind (fun y=>(cc gf cf ef E (ys.map enc)).map fun zs=>y :: zs) else cc gf cf ef E (ys.map enc))=_
  rw [if_pos rfl,h3,i6 enc f ys fun y hy=>h y (E7 _ hy)]
  rfl
theorem iE {α:Type} (enc:α→D) (p:α→Bool) (f:α→D) {gf:D→DE→Option DE}{cf:DE→Option Bool}{ef:DE→Option D}{E:DE}:∀ (ys:List α),(∀ x ∈ ys,wp (gf (enc x) E) fun E1=>cf E1=some (p x)∧(p x=true→ef E1=some (f x)))→cc gf cf ef E (ys.map enc)=some ((ys.filter p).map f)
 | [],_=>rfl
 | x :: ys,h=>by
  obtain ⟨E1,h1,h2,h3⟩:=dy.mp (h x Fd)
  have ih:=iE enc p f (gf:=gf) (cf:=cf) (ef:=ef) (E:=E) ys fun y hy=>h y (E7 _ hy)
  show (gf (enc x) E).bind _=_
  rw [h1]
  show (cf E1).bind _=_
  rw [h2]
  show (if p x=true then (ef E1).bind (fun y=>(cc gf cf ef E (ys.map enc)).map fun zs=>y :: zs) else cc gf cf ef E (ys.map enc))=_
  cases hp:p x with
  | true =>
   rw [if_pos rfl,h3 hp,ih,List.filter_cons_of_pos hp]
   rfl
  | false =>
   rw [if_neg (by simp),ih,List.filter_cons_of_neg (by simp [hp])]
theorem iG {α:Type} (f:α→Bool):∀ ys:List α,lC (ys.map fun x=>D.bl (f x))=some (ys.map f)
 | []=>rfl
 | x :: ys=>by
  show (lC (ys.map fun x=>D.bl (f x))).map _=_
  rw [iG f ys]; rfl
def mk (l:List Nat):Str:=⟨l.toArray⟩
theorem dJ (l:List Nat):(mk l).cps.toList=l:=by simp [mk]
theorem fD (l:List Nat):(mk l).length=l.length:=by rw [sr,dJ]
theorem BZ (a b:List Nat):mk a ++ mk b=mk (a ++ b):=mW (by rw [mX,dJ,dJ,dJ])
theorem BY {a b:List Nat}:mk a=mk b ↔ a=b:=⟨fun h=>by rw [← dJ a,h,dJ],fun h=>by rw [h]⟩
theorem clip_eq (v:Option Int) (n d:Nat) (hd:d≤n):(match v with | none=>(d:Int) | some i=>max (0:Int) (min (if i < 0 then i + (n:Int) else i) (n:Int)):Int)=((HT.sIx n d v:Nat):Int):=by
 cases v with
 | none=>rfl
 | some i =>
  show max 0 (min (if i < 0 then i + (n:Int) else i) n)=((if i < 0 then (i + (n:Int)).toNat else min i.toNat n:Nat):Int)
  by_cases h:i < 0
  ·rw [if_pos h,if_pos h,Int.min_eq_left (Int.add_le_of_le_sub_right (by rw [Int.sub_self]; exact Int.le_of_lt h)),Int.ofNat_toNat,Int.max_comm]
  ·have h0:=Int.not_lt.mp h
   rw [if_neg h,if_neg h,Int.max_eq_right (Int.le_min.mpr ⟨h0,Int.natCast_nonneg n⟩)]; omega
theorem sIx_le (v:Option Int) (n d:Nat) (hd:d≤n):HT.sIx n d v≤n:=by
 cases v with
 | none=>exact hd
 | some i =>
  show (if i < 0 then (i + (n:Int)).toNat else min i.toNat n)≤n
  split <;> omega
theorem rh (lo hi:Option Int) (n:Nat):Builtin.Str.strSliceIndices lo hi 1 n=(List.range (HT.sIx n n hi - HT.sIx n 0 lo)).map fun k=>HT.sIx n 0 lo + k:=by
 have e1:=clip_eq lo n 0 (FV _)
 have e2:=clip_eq hi n n (E9 _)
 have e:Builtin.Str.strSliceIndices lo hi 1 n=sliceRange (HT.sIx n 0 lo:Nat) (HT.sIx n n hi:Nat) 1:=by
  rw [← e1,← e2]
  unfold Builtin.Str.strSliceIndices
  cases lo <;> cases hi <;> rfl
 rw [e]
 unfold sliceRange
 rw [if_pos (by decide)]
 dsimp only
 have ec:(if ((HT.sIx n 0 lo:Nat):Int) < ((HT.sIx n n hi:Nat):Int) then (((HT.sIx n n hi:Nat):Int) - ((HT.sIx n 0 lo:Nat):Int) + 1 - 1) / 1 else 0).toNat=HT.sIx n n hi - HT.sIx n 0 lo:=by
  split <;> omega
 rw [ec]
 refine FJ fun k _=>?_
 omega
theorem gl {α:Type} (l:List α) (a m:Nat):((List.range m).map (fun k=>a + k)).filterMap (fun i=>l[i]?)=(l.drop a).take m:=by
 induction m with
 | zero=>simp
 | succ m ih =>
  rw [HA,Fs,List.filterMap_append,ih,Hk]
  congr 1
  rw [List.getElem?_drop]
  show List.filterMap (fun i=>l[i]?) [a + m]=_
  cases h:l[a + m]? with
  | none=>simp [h]
  | some x=>simp [h]
theorem wa (l:List Nat) (lo hi:Option Int):Txt.slice (mk l) lo hi=mk (bO l lo hi):=by
 unfold Txt.slice
 rw [rh,fD]
 have hf:(((List.range (HT.sIx l.length l.length hi - HT.sIx l.length 0 lo)).map fun k=>HT.sIx l.length 0 lo + k).filterMap fun i=>(mk l).cps[i]?)=bO l lo hi:=by
  have e:(fun i:Nat=>(mk l).cps[i]?)=fun i=>l[i]?:=by
   funext i
   rw [← GA,dJ]
  rw [e,gl]; rfl
 split
 ·rename_i hc
  have hlen:HT.sIx l.length l.length hi - HT.sIx l.length 0 lo=l.length:=by
   simpa using hc
  have h1:=sIx_le hi l.length l.length (E9 _)
  have:bO l lo hi=l:=by
   unfold bO
   rcases Nat.eq_zero_or_pos l.length with h0 | h0
   ·rw [List.length_eq_zero_iff.mp h0]; simp
   ·have h2:HT.sIx l.length 0 lo=0:=by omega
    rw [hlen,h2]; simp
  rw [this]
 ·show mk _=_
  rw [hf]
theorem Bl (l:List Nat) (n:Int):j9 (mk l) n=mk (List.replicate n.toNat l).flatten:=by unfold j9; rw [dJ]; rfl
theorem yo {α:Type} (l:List α) (k:Nat):bO l none (some (k:Int))=l.take k:=by
 unfold bO
 rw [HT.sIx_none,HT.sIx_nat]
 simp
theorem yq {α:Type} (l:List α) (k:Nat):bO l (some (k:Int)) none=l.drop k:=by
 unfold bO
 rw [HT.sIx_none,HT.sIx_nat]
 rcases Nat.le_total k l.length with h | h
 ·rw [Nat.min_eq_left h,Gc (by simp)]
 ·rw [Nat.min_eq_right h]; simp [GZ h]
theorem nT {α:Type} (l:List α) (a b:Nat):bO l (some (a:Int)) (some (b:Int))=(l.take b).drop a:=by
 unfold bO
 rw [HT.sIx_nat,HT.sIx_nat,List.drop_take]
 rcases Nat.le_total a l.length with h | h
 ·rw [Nat.min_eq_left h]
  rcases Nat.le_total b l.length with h2 | h2
  ·rw [Nat.min_eq_left h2]
  ·rw [Nat.min_eq_right h2,Gc (by simp),Gc (by simp; omega)]
 ·rw [Nat.min_eq_right h]; simp [GZ h]
theorem b5 {xs:List D}{i:Int}:ixE (.lst xs) (.int i)=atI xs i:=rfl
theorem cR {xs:List D}{i:Int}:ixE (.tup xs) (.int i)=atI xs i:=rfl
theorem nD {xs:List Int}{i:Int}:ixE (.scr xs) (.int i)=(atI xs i).map D.int:=rfl
theorem Cd {l:List Nat}{i:Int} (hz:l.length≤16777216) (h:0≤i) (h2:i < l.length):ixE (.str (mk l)) (.int i)=some (.str (mk [l.getD i.toNat 0])):=by
 have e:=zT (z:=mk l) (i:=i) (by rw [fD]; exact hz) h (by rw [fD]; exact h2)
 rw [dJ] at e
 exact e
theorem bZ {xs:List D}:bg (.lst xs)=some (.int xs.length):=rfl
theorem bc {xs:List D}:bg (.tup xs)=some (.int xs.length):=rfl
theorem gj {xs:List Int}:bg (.scr xs)=some (.int xs.length):=rfl
theorem ip {xs:List (Key×D)}:bg (.dic xs)=some (.int xs.length):=rfl
theorem xh {i j:Int} (h:Builtin.Int.intBits i≤2 ^ 20) (h2:Builtin.Int.intBits j≤2 ^ 20):pw (.int i) (.int j)=some (.int (i * j)):=uQ h h2
theorem zK {l:List Nat}{n:Int} (h0:0≤n) (h1:n < 1048576) (h2:l.length * n.toNat≤16777216):pw (.str (mk l)) (.int n)=some (.str (mk (List.replicate n.toNat l).flatten)):=by
 show (if 0≤n∧n < 2 ^ 20∧(mk l).length * n.toNat≤sizeLine then some (D.str (j9 (mk l) n)) else none)=_
 rw [if_pos ⟨h0,h1,by rw [fD]; exact h2⟩,Bl]
theorem n_ {a b:List Nat} (h:a.length + b.length≤16777216):bG (.str (mk a)) (.str (mk b))=some (.str (mk (a ++ b))):=by
 rw [yD (by rw [fD,fD]; exact h),BZ]
theorem wb {l:List Nat}{lo hi:Option Int} (h:l.length≤16777216):slD (.str (mk l)) lo hi=some (.str (mk (bO l lo hi))):=by
 rw [yV (by rw [fD]; exact h),wa]
theorem bR {α:Type} (enc:α→D) (f:α→D) {i:Nat}{ef:DE→Option D}{E:DE} (ys:List α) (h:∀ x ∈ ys,ef (E.set i (.val (enc x)))=some (f x)):cc (nmG i) noT ef E (ys.map enc)=some (ys.map f) :=
 i6 enc f ys fun x hx=>⟨rfl,h x hx⟩
theorem u_ (ss:List Str):(ss.map D.str).all dU=true:=by
 rw [GI]
 intro d hd
 obtain ⟨x,_,rfl⟩:=List.mem_map.mp hd
 rfl
theorem Ab (a b:Str):eqV (.str a) (.str b)=decide (a=b):=by
 show decide _=_
 by_cases h:a=b
 ·simp [h]
 ·simp [h]
theorem xG (x:Str) (ss:List Str):inV (.str x) ((ss.map D.str).map toV)=decide (x ∈ ss):=by
 unfold inV
 induction ss with
 | nil=>rfl
 | cons y r ih =>
  rw [EN,EN,Gu,ih]
  show (eqV (.str y) (.str x) || decide (x ∈ r))=_
  rw [Ab]
  by_cases h:x=y
  ·simp [h]
  ·have h':¬ y=x:=fun z=>h z.symm
   simp [h,h']
theorem xb {x:Str}{ss:List Str}:uO (.str x) (.lst (ss.map D.str))=some (.bl (!decide (x ∈ ss))):=by
 show (inD (.str x) (.lst (ss.map D.str))).map (fun b=>D.bl (!b))=_
 show ((if dU (.str x) && (ss.map D.str).all dU then some (inV (toV (.str x)) ((ss.map D.str).map toV)) else none):Option Bool).map (fun b=>D.bl (!b))=_
 rw [u_]
 show some (D.bl (!inV (.str x) ((ss.map D.str).map toV)))=_
 rw [xG]
theorem xa {x:Str}{ss:List Str}:uO (.str x) (.tup (ss.map D.str))=some (.bl (!decide (x ∈ ss))):=xb
theorem ul {ss:List Str} (h:ss.length < 64):lN (.lst (ss.map D.str))=some (.lst ((cZ ss).map D.str)):=by
 show (e8 (ss.map D.str)).bind _=_
 rw [lM]
 exact if_pos h
theorem oN {ss:List Str} (h:ss.length + 1 < 4096) (h2:(ded ss).length < 64):fX (.lst (ss.map D.str))=some (.lst ((cZ (ded ss)).map D.str)):=by
 show (e8 (ss.map D.str)).bind _=_
 rw [lM]
 exact if_pos ⟨h,h2⟩
theorem bp {xs:List D}:aW (.lst xs)=some (.tup xs):=rfl
theorem jF {xs:List D}:aW (.tup xs)=some (.tup xs):=rfl
theorem me {xs:List D}:kt (.lst xs)=some (.lst xs):=rfl
theorem e_ {xs:List D}:kt (.tup xs)=some (.lst xs):=rfl
theorem d7 {α:Type} (f:α→D):∀ xs:List α,toPs (xs.map f)=xs.map fun x=>toP (f x)
 | []=>by rw [EO,toPs]; rfl
 | x :: xs=>by rw [EN,toPs,d7 f xs]; rfl
theorem kP {α:Type} [DecidableEq α] (f:α→PyData) (h:∀ a b,PyData.eqv (f a) (f b)=decide (a=b)):∀ xs ys:List α,PyData.eqvAll (xs.map f) (ys.map f)=decide (xs=ys)
 | [],[]=>by simp [PyData.eqvAll]
 | [],_ :: _=>by simp [PyData.eqvAll]
 | _ :: _,[]=>by simp [PyData.eqvAll]
 | x :: xs,y :: ys=>by
  rw [EN,EN,PyData.eqvAll,h,kP f h xs ys]
  by_cases e:x=y
  ·by_cases e2:xs=ys
   ·simp [e,e2]
   ·simp [e2]
  ·simp [e]
theorem h_ {α:Type} (f:α→PyData):∀ xs:List α,(∀ x ∈ xs,(f x).canLay0=true)→PyData.canLayAll0 (xs.map f)=true
 | [],_=>by simp [PyData.canLayAll0]
 | x :: xs,h=>by
  rw [EN,PyData.canLayAll0,h x Fd,h_ f xs fun y hy=>h y (E7 _ hy)]; rfl
theorem fN {α:Type} (f:α→PyData) (n:Nat):∀ xs:List α,(∀ x ∈ xs,(f x).depth≤n)→PyData.depthAll (xs.map f)≤n
 | [],_=>by rw [EO,PyData.depthAll]; exact FV _
 | x :: xs,h=>by
  rw [EN,PyData.depthAll]
  exact Nat.max_le.mpr ⟨h x Fd,fN f n xs fun y hy=>h y (E7 _ hy)⟩
structure dE (n:Nat) (d:D):Prop where
 lay:(toP d).canLay0=true
 dep:(toP d).depth≤n
theorem dE.le {n m:Nat}{d:D} (h:dE n d) (hm:n≤m):dE m d:=⟨h.lay,Fa h.dep hm⟩
theorem dE.ok {n:Nat}{d:D} (h:dE n d) (hn:n≤60):eX d=true:=by
 unfold eX
 rw [h.lay,Fj (Fa h.dep hn)]; rfl
theorem iy {x:Str} (h:∀ c ∈ x.cps.toList,c≤122):dE 0 (.str x):=by
 refine ⟨?_,by rw [toP,PyData.depth]; exact E9 _⟩
 rw [toP,PyData.canLay0]
 unfold PyData.strOk
 rw [← Array.all_toList,GI]
 intro c hc
 exact Fj (HN (h c hc) (by decide))
theorem dO (i:Int):dE 0 (.int i):=⟨by rw [toP,PyData.canLay0],by rw [toP,PyData.depth]; exact E9 _⟩
theorem s_ (i:Bool):dE 0 (.bl i):=⟨by rw [toP,PyData.canLay0],by rw [toP,PyData.depth]; exact E9 _⟩
theorem pP:dE 0 .non:=⟨by rw [toP,PyData.canLay0],by rw [toP,PyData.depth]; exact E9 _⟩
theorem iz {α:Type}{n:Nat} (f:α→D) (xs:List α) (h:∀ x ∈ xs,dE n (f x)):dE (n + 1) (.lst (xs.map f)):=by
 constructor
 ·rw [toP,PyData.canLay0,d7]; exact h_ _ xs fun x hx=>(h x hx).lay
 ·rw [toP,PyData.depth,d7]; exact Nat.succ_le_succ (fN _ n xs fun x hx=>(h x hx).dep)
theorem xP {α:Type}{n:Nat} (f:α→D) (xs:List α) (h:∀ x ∈ xs,dE n (f x)):dE (n + 1) (.tup (xs.map f)):=by
 constructor
 ·rw [toP,PyData.canLay0,d7]; exact h_ _ xs fun x hx=>(h x hx).lay
 ·rw [toP,PyData.depth,d7]; exact Nat.succ_le_succ (fN _ n xs fun x hx=>(h x hx).dep)
theorem gK {n:Nat} (xs:List D) (h:∀ x ∈ xs,dE n x):dE (n + 1) (.tup xs):=by
 have:=xP (fun d:D=>d) xs h
 rwa [List.map_id'] at this
theorem mv {n:Nat} (xs:List D) (h:∀ x ∈ xs,dE n x):dE (n + 1) (.lst xs):=by
 have:=iz (fun d:D=>d) xs h
 rwa [List.map_id'] at this
def pT (x y:D):Bool:=PyData.eqv (toP x) (toP y)
theorem yb (a b:Str):pT (.str a) (.str b)=decide (a=b):=by
 unfold pT
 rw [toP,toP,PyData.eqv]
 by_cases h:a=b
 ·simp [h]
 ·simp [h]
theorem yc {α:Type} [DecidableEq α] (f:α→D) (h:∀ a b,pT (f a) (f b)=decide (a=b)) (xs ys:List α):pT (.lst (xs.map f)) (.lst (ys.map f))=decide (xs=ys):=by
 unfold pT
 rw [toP,toP,PyData.eqv,d7,d7]
 exact kP _ h xs ys
theorem kQ {n:Nat}{x y:D} (hx:dE n x) (hy:dE n y) (hn:n≤60) (hs:scD x y=none):eqO x y=some (.bl (pT x y)):=by
 unfold eqO eqD
 rw [hs,hx.ok hn,hy.ok hn]; rfl
def vF (x:Str):Prop:=∀ c ∈ x.cps.toList,c≤122
theorem ye {ss ts:List Str} (hs:∀ x ∈ ss,vF x) (ht:∀ x ∈ ts,vF x):eqO (.lst (ss.map D.str)) (.lst (ts.map D.str))=some (.bl (decide (ss=ts))):=by
 rw [kQ (n:=1) (iz _ _ fun x hx=>iy (hs x hx)) (iz _ _ fun x hx=>iy (ht x hx)) (by decide) rfl,yc _ yb]
theorem vf {ss:List Str} (hs:∀ x ∈ ss,vF x):eqO (.lst (ss.map D.str)) (.lst [])=some (.bl (decide (ss=[]))):=ye hs (ts:=[]) fun _ h=>by cases h
abbrev Dm:=List (Key×List D)
def dv (qs:List (Key×Addr)):List (Key×V):=qs.map fun q=>(q.1,V.ref q.2)
inductive Lds (B:Hp×Hp) (F H:Hp):List (Key×Addr)→Dm→Prop
 | nil:Lds B F H [] []
 | cons {k:Key}{p:Addr}{xs:List V}{ds:List D}{qs:List (Key×Addr)} {m:Dm}:H p=some (.lst xs)→F p=none→B.2 p=none→Reps F xs ds→Lds B F H qs m→Lds B F H ((k,p) :: qs) ((k,ds) :: m)
section
variable {B:Hp×Hp}{F H F' H':Hp}
theorem Lds.ext (x:Ext F H F' H'):∀ {qs:List (Key×Addr)} {m:Dm},Lds B F H qs m→Lds B F' H' qs m
 := fun r=>by
  cases r with
  | nil=>exact .nil
  | cons h1 h2 h3 h4 t=>exact .cons (x.same _ _ h1) (x.new _ h2 (by rw [h1]; simp)) h3 (h4.mono x.fr) (Lds.ext x t)
theorem Lds.off {c:Addr}{o:HO}:∀ {qs:List (Key×Addr)} {m:Dm},c ∉ qs.map (·.2)→Lds B F H qs m→Lds B F (upd H c o) qs m
 | [],_,_,h=>by cases h; exact .nil
 | _ :: _,_,hc,h=>by
  cases h with
  | cons h1 h2 h3 h4 t =>
   rw [EN,F7,not_or] at hc
   exact .cons (by rw [aj (Ne.symm hc.1)]; exact h1) h2 h3 h4 (Lds.off hc.2 t)
theorem Lds.snoc {k:Key}{p:Addr}{xs:List V}{ds:List D} (h1:H p=some (.lst xs)) (h2:F p=none) (h3:B.2 p=none) (h4:Reps F xs ds):∀ {qs:List (Key×Addr)} {m:Dm},Lds B F H qs m→Lds B F H (qs ++ [(k,p)]) (m ++ [(k,ds)])
 := fun r=>by
  cases r with
  | nil=>exact .cons h1 h2 h3 h4 .nil
  | cons g1 g2 g3 g4 t=>exact .cons g1 g2 g3 g4 (Lds.snoc h1 h2 h3 h4 t)
theorem Lds.keys:∀ {qs:List (Key×Addr)} {m:Dm},Lds B F H qs m→qs.map (·.1)=m.map (·.1)
 := fun r=>by
  cases r with
  | nil=>rfl
  | cons _ _ _ _ t=>rw [EN,EN,Lds.keys t]
theorem Lds.dom:∀ {qs:List (Key×Addr)} {m:Dm},Lds B F H qs m→∀ p ∈ qs.map (·.2),H p ≠ none∧F p=none∧B.2 p=none
 := fun r p h=>by
  cases r with
  | nil=>cases h
  | cons g1 g2 g3 g4 t =>
   rcases List.mem_cons.mp h with e | h
   ·rw [e]; exact ⟨by rw [g1]; simp,g2,g3⟩
   ·exact Lds.dom t p h
end
def jp:Dm→Key→D→Option Dm
 | [],_,_=>none
 | (k',ds) :: r,k,d=>if k'=k then (if ds.length < sizeLine then some ((k',ds ++ [d]) :: r) else none) else (jp r k d).map fun r'=>(k',ds) :: r'
theorem Lds.app {B:Hp×Hp}{F H:Hp}{k:Key}{d:D}:∀ {qs:List (Key×Addr)} {m m':Dm},Lds B F H qs m→(qs.map (·.2)).Nodup→jp m k d=some m' →
  ∃ p xs,dz (dv qs) k=some (.ref p)∧p ∈ qs.map (·.2)∧H p=some (.lst xs)∧xs.length < sizeLine∧∀ v,Rep F v d→Lds B F (upd H p (.lst (xs ++ [v]))) qs m'
 | _,_,m',.nil,_,h=>by cases h
 | _,_,m',@Lds.cons _ _ _ k' p xs ds qs m g1 g2 g3 g4 t,hn,h=>by
  rw [EN,HB] at hn
  unfold jp at h
  by_cases e:k'=k
  ·rw [if_pos e] at h
   split at h
   ·rename_i hz
    cases h
    refine ⟨p,xs,ij e,by simp,g1,by rw [g4.length]; exact hz,fun v rv=>?_⟩
    exact .cons aw g2 g3 (g4.append (.cons rv .nil)) (t.off hn.1)
   ·cases h
  ·rw [if_neg e] at h
   cases ha:jp m k d with
   | none=>rw [ha] at h; cases h
   | some m1 =>
    rw [ha] at h
    cases h
    obtain ⟨p1,xs1,q1,q2,q3,q4,q5⟩:=Lds.app t hn.2 ha
    have hne:p ≠ p1:=fun z=>hn.1 (by rw [z]; exact q2)
    refine ⟨p1,xs1,(ik e).trans q1,E7 _ q2,q3,q4,fun v rv=>?_⟩
    exact .cons (by rw [aj hne]; exact g1) g2 g3 g4 (q5 v rv)
def eh (a:Addr):Sl:=.rob ⟨0,some a,[]⟩
def di (E:DE):Prop:=(∀ (j:Nat) d,E[j]? ≠ some (.own d))∧∀ (j:Nat) s,E[j]? ≠ some (.obj s)
theorem di.set {E:DE} (h:di E) (i:Nat) {z:Sl} (h1:∀ d,z ≠ .own d) (h2:∀ s,z ≠ .obj s):di (E.set i z):=by
 refine ⟨fun j d e=>?_,fun j s e=>?_⟩
 ·rw [Fk] at e
  split at e
  ·split at e
   ·exact h1 d (E4 e)
   ·cases e
  ·exact h.1 j d e
 ·rw [Fk] at e
  split at e
  ·split at e
   ·exact h2 s (E4 e)
   ·cases e
  ·exact h.2 j s e
structure Ok2 (i:Nat) (a:Addr) (B:Hp×Hp) (F H:Hp) (σ:St) (E:DE) (m:Dm):Prop where
 ok:Ok B F H σ E
 at_:E[i]? = some (eh a)
 no:di E
 dol:∃ qs,H a=some (.dK (dv qs))∧F a=none∧B.2 a=none∧(a :: qs.map (·.2)).Nodup∧Lds B F H qs m
section
variable {i:Nat}{a:Addr}{B:Hp×Hp}{F H F' H':Hp} {σ:St}{E:DE}{m:Dm}
theorem Ok2.σ_ (k:Ok2 i a B F H σ E m):σ[i]? = some (some (.ref a)):=by
 obtain ⟨fp,q⟩:=k.ok.ob
 rcases q.rob i _ k.at_ with ⟨b,ps,q1,q2⟩ | ⟨_,b,q1,q2⟩
 ·obtain ⟨b',ps',dx,fs,e1,e2,e3,_⟩:=q2
  have e4:=e2 a rfl
  cases e1
  rw [e4] at q1; exact q1
 ·cases q1; exact q2
theorem Ok2.ext (k:Ok2 i a B F H σ E m) (x:Ext F H F' H'):Ok2 i a B F' H' σ E m:=by
 obtain ⟨qs,h1,h2,h3,h4,h5⟩:=k.dol
 exact ⟨k.ok.ext x,k.at_,k.no,qs,x.same _ _ h1,x.new _ h2 (by rw [h1]; simp),h3,h4,h5.ext x⟩
theorem Ok.updN (k:Ok B F H σ E) (hn:di E) {c:Addr}{o:HO} (hF:F c=none) (hB:B.2 c=none):Ok B F (upd H c o) σ E:=by
 refine ⟨⟨fun b u e=>?_,k.ent.fr,fun b u e=>?_,k.ent.new⟩,k.len,k.val,fun j d h=>(hn.1 j d h).elim,fun j l d e b _ h=>(hn.1 j d h).elim,?_⟩
 ·have:b ≠ c:=fun z=>by rw [z,hB] at e; cases e
  rw [aj this]; exact k.ent.same b u e
 ·have:b ≠ c:=fun z=>by rw [z,hF] at e; cases e
  rw [aj this]; exact k.sub b u e
 ·obtain ⟨fp,q⟩:=k.ob
  exact ⟨fp,q.to (fun _ _ e=>e) (fun j s h=>⟨h,rfl⟩) (fun j s h=>⟨h,rfl⟩) (fun j s h=>(hn.2 j s h).elim) (fun j l s d b h=>(hn.2 j s h).elim)⟩
end
abbrev Fin:=Hp×Hp→Hp→eZ→Out→Prop
def qk (Φ:Fin):Prop:=∀ B F F' Z r,Fr F F'→Φ B F Z r→Φ B F' Z r
def tSG (Φ:Fin) (f:DE→Option Out):TS:=fun Z σ H=>∃ B F E r,Ok B F H σ E∧f E=some r∧Φ B F Z r
structure EsG (X:Cx) (Φ:Fin) (sts:List Stmt) (f:DE→Option Out):Prop where
 h:PSs X sts (tSG Φ f)
def t2 (Φ:Fin) (i:Nat) (a:Addr) (G:DE→Dm→Option Out):TS:=fun Z σ H=>∃ B F E m r,Ok2 i a B F H σ E m∧G E m=some r∧Φ B F Z r
def tb2 (i:Nat) (a:Addr) (G:DE→Dm→Option (DE×Dm)):TS:=fun Z σ H=>∃ B F E m p,Ok2 i a B F H σ E m∧G E m=some p∧∀ σ' F' H',Ok2 i a B F' H' σ' p.1 p.2→Fr F F'→Z.nx σ' H'
structure Ex2 (X:Cx) (Φ:Fin) (i:Nat) (a:Addr) (sts:List Stmt) (G:DE→Dm→Option Out):Prop where
 h:PSs X sts (t2 Φ i a G)
structure Eb2 (X:Cx) (i:Nat) (a:Addr) (st:Stmt) (G:DE→Dm→Option (DE×Dm)):Prop where
 h:PS X st (tb2 i a G)
section
variable {X:Cx} {Φ:Fin}{i:Nat}{a:Addr}
theorem yM {st:Stmt}{bI:List Stmt}{Gb:DE→Dm→Option (DE×Dm)} {G:DE→Dm→Option Out} (hΦ:qk Φ) (h:Eb2 X i a st Gb) (h2:Ex2 X Φ i a bI G):Ex2 X Φ i a (st :: bI) (fun E m=>(Gb E m).bind fun p=>G p.1 p.2) :=
 ⟨fun pins s σ H Z I zz149_0=>by
  obtain ⟨B,F,E,m,r,k,q,w⟩:=zz149_0
  have q:(Gb E m).bind (fun p=>G p.1 p.2)=some r:=q
  cases hb:Gb E m with
  | none=>rw [hb] at q; cases q
  | some p =>
   rw [hb] at q
   refine im h.h h2.h pins s σ H Z I ⟨B,F,E,m,p,k,hb,fun σ' F' H' k' y=>⟨B,F',p.1,p.2,r,k',q,hΦ B F F' Z r y w⟩⟩⟩
def qm (i:Nat) (gf:D→DE→Option DE):Prop:=∀ d E E',gf d E=some E'→E'[i]? = E[i]?∧(di E→di E')
theorem gI {i j:Nat} (h:j ≠ i):qm i (nmG j):=fun d E E' e=>by
 cases e
 exact ⟨E8 h,fun hn=>hn.set j (by simp) (by simp)⟩
def fQ (gf:D→DE→Option DE) (Gb:DE→Dm→Option (DE×Dm)):List D→DE→Dm→Option (DE×Dm)
 | [],E,m=>some (E,m)
 | x :: xs,E,m=>(gf x E).bind fun E1=>(Gb E1 m).bind fun p=>fQ gf Gb xs p.1 p.2
theorem CN {tg iter:Expr}{body:Stmt}{pos:Pos}{fi:DE→Option (List D)} {gf:D→DE→Option DE}{Gb:DE→Dm→Option (DE×Dm)} (hp:PassesOwn (model X.prog X.w) X.A X.env X.xe) (hc:X.calm=true) (hi:Ei X tg iter fi) (hg:Eg X tg gf) (hk:qm i gf) (hb:Eb2 X i a body Gb)
  (hs:∀ x,foldedSetIterable iter X.env x=pure x:=by intro _; rfl):Eb2 X i a (.For tg iter [body] [] pos) (fun E m=>(fi E).bind fun xs=>fQ gf Gb xs E m):=⟨fun pins s σ H Z I zz150_0=>by
 obtain ⟨B,F,E,m,p,k,q,w⟩:=zz150_0
 refine wE hp hc hi.h hg.h (jv hb.h) hs pins s σ H Z I ?_
 have q:(fi E).bind (fun xs=>fQ gf Gb xs E m)=some p:=q
 cases hf:fi E with
 | none=>rw [hf] at q; cases q
 | some xs =>
  rw [hf] at q
  have q:fQ gf Gb xs E m=some p:=q
  refine ⟨B,F,E,xs,k.ok,hf,fun J F1 H1 x1 it=>?_⟩
  refine ⟨fun n mm σ' H'=>∃ F' E' m',Ok2 i a B F' H' σ' E' m'∧Fr F1 F'∧n≤xs.length∧mm=xs.length - n∧fQ gf Gb (xs.drop n) E' m'=some p,⟨_,F1,E,m,k.ext x1,fun _ _ e=>e,FV _,rfl,q⟩,?_⟩
  rintro n mm σ' H' ⟨F',E',m',k',y,hn,rfl,ql⟩
  obtain ⟨st,gn⟩:=it n F' H' y k'.ok.sub
  by_cases hlt:n < xs.length
  ·right
   have hx:xs[n]? = some xs[n]:=by simp [hlt]
   obtain ⟨go,yl⟩:=gn _ hx
   rw [FM hlt] at ql
   unfold fQ at ql
   refine ⟨go,fun σ2 H2=>∃ F2 E2 m2,Ok2 i a B F2 H2 σ2 E2 m2∧Fr F1 F2∧fQ gf Gb (xs.drop (n + 1)) E2 m2=some p,?_,?_⟩
   ·rintro σ2 H2 ⟨F2,E2,m2,k2,y2,q2⟩
    exact ⟨xs.length - (n + 1),by omega,F2,E2,m2,k2,y2,hlt,rfl,q2⟩
   ·intro x H2 hy
    obtain ⟨F3,x3,r3⟩:=yl x H2 hy
    cases hgf:gf xs[n] E' with
    | none=>simp [hgf] at ql
    | some E3 =>
     cases hfb:Gb E3 m' with
     | none=>simp [hgf,hfb] at ql
     | some p1 =>
      simp only [hgf,hfb,EG] at ql
      have k3:=k'.ext x3
      obtain ⟨c1,c2⟩:=hk _ _ _ hgf
      refine ⟨B,F3,E',xs[n],E3,k3.ok,r3,hgf,fun σ4 F4 H4 k4 x4=>?_⟩
      have y4:Fr F1 F4:=fun b o e=>x4.fr b o (x3.fr b o (y b o e))
      obtain ⟨qs,d1,d2,d3,d4,d5⟩:=k3.dol
      have k4':Ok2 i a B F4 H4 σ4 E3 m':=⟨k4,c1.trans k3.at_,c2 k3.no,qs,x4.same _ _ d1,x4.new _ d2 (by rw [d1]; simp),d3,d4,d5.ext x4⟩
      exact ⟨B,F4,E3,m',p1,k4',hfb,fun σ5 F5 H5 k5 y5=>⟨F5,p1.1,p1.2,k5,fun b o e=>y5 b o (y4 b o e),ql⟩⟩
  ·left
   have e:n=xs.length:=by omega
   subst e
   refine ⟨st rfl,?_⟩
   rw [G_] at ql
   cases ql
   exact w σ' F' H' k' fun b o e=>y b o (x1.fr b o e)⟩
theorem CL {j:Nat}{x:Str}{pos pos':Pos}{e:Expr}{f:DE→Option D} (hN:X.N.Nodup) (hi:X.N[j]? = some x) (hx:Loc X.env.scope x) (he:Ev X .V e f) (hj:j ≠ i) (hs:swapsWith e (some (.Name x pos')) pos.line X.env=pure false:=by rfl)
  (hf:X.fn x=true∨X.env.scope.names.lookup x=some .local:=by first | exact .inl rfl | exact .inr rfl | assumption):Eb2 X i a (.Assign [.Name x pos'] e pos) (fun E m=>(f E).map fun d=>(E.set j (.val d),m)):=⟨fun pins s σ H Z I zz151_0=>by
 obtain ⟨B,F,E,m,p,k,q,w⟩:=zz151_0
 have q:(f E).map (fun d=>(E.set j (.val d),m))=some p:=q
 cases hfe:f E with
 | none=>rw [hfe] at q; cases q
 | some d =>
  rw [hfe] at q
  cases q
  refine ni hN hi hx he.h hs hf pins s σ H Z I ⟨B,F,E,d,k.ok,hfe,fun v F' H' x' r=>?_⟩
  have k':=k.ext x'
  exact w _ F' H' ⟨k'.ok.set_val r j,(E8 hj).trans k'.at_,k'.no.set j (by simp) (by simp),k'.dol⟩ x'.fr⟩
theorem CM {o:Expr}{ka:Expr}{pos pos' lp:Pos}{f:DE→Option D} (hu:X.A.units + 64 < cLine) (ho:PE X o (gM i)) (hk:Ev X .V ka f) (hs:swapsWith (.List [] lp) (some (.Subscript o ka pos')) pos.line X.env=pure false:=by rfl) :
  Eb2 X i a (.Assign [.Subscript o ka pos'] (.List [] lp) pos) (fun E m=>(f E).bind fun d=>(c3 d).bind fun k=>if (m.any fun q=>decide (q.1=k))=false∧m.length < sizeLine then some (E,m ++ [(k,[])]) else none):=⟨fun pins s σ H Z I zz152_0=>by
 obtain ⟨B,F,E,m,p,k,q,w⟩:=zz152_0
 have q:(f E).bind (fun d=>(c3 d).bind fun k=>if (m.any fun q=>decide (q.1=k))=false∧m.length < sizeLine then some (E,m ++ [(k,[])]) else none)=some p:=q
 cases hfe:f E with
 | none=>rw [hfe] at q; cases q
 | some d =>
  cases hkd:c3 d with
  | none=>simp [hfe,hkd] at q
  | some ky =>
   simp only [hfe,hkd,EG] at q
   split at q
   ·rename_i hc
    cases q
    refine sC (iW hu) ho hk.h (bU ai).h hs pins s σ H Z I ⟨B,F,E,.lst [],k.ok,rfl,fun v F1 H1 x1 r1=>?_⟩
    obtain ⟨l,o1,rfl,n0,n1,n2,n3⟩:=r1
    have k1:=k.ext x1
    refine ⟨.ref a,k1.σ_,B,F1,E,d,k1.ok,hfe,fun u F2 H2 x2 r2=>?_⟩
    have k2:=k1.ext x2
    obtain ⟨qs,g1,g2,g3,h4,g5⟩:=k.dol
    have x12:=x1.trans x2
    have h1:=x12.same _ _ g1
    have h2:=x12.new _ g2 (by rw [g1]; simp)
    have h3:=g3
    have h5:=g5.ext x12
    have hl2:H2 l=some o1:=x2.same _ _ n1
    have ek:=el (F:=F2) (H:=H2) hkd (.inl r2)
    subst ek
    obtain ⟨xs,rfl⟩:∃ xs,o1=.lst xs:=by cases o1 <;> first | exact ⟨_,rfl⟩ | exact False.elim n3
    have n3':Reps F1 xs []:=n3
    cases n3'
    have hlen:qs.length=m.length:=by
     have:=FZ List.length h5.keys
     simpa using this
    have hlB:B.2 l=none:=k.ok.ent.nofree n0
    have hlF:F2 l=none:=x2.new _ n2 (by rw [n1]; simp)
    have hla:l ≠ a:=fun z=>by rw [z,g1] at n0; cases n0
    have hlq:l ∉ qs.map (·.2):=fun z=>(g5.dom l z).1 n0
    have hnone:dz (dv qs) ky=none:=by
     have:ky ∉ (dv qs).map (·.1):=fun z=>by
      have e1:(dv qs).map (·.1)=m.map (·.1):=by
       rw [← h5.keys]; unfold dv; rw [Fm]; rfl
      rw [e1] at z
      obtain ⟨y,hy,e⟩:=List.mem_map.mp z
      have:=hc.1
      rw [Hn] at this
      exact this y hy (Fj e)
     cases hv:dz (dv qs) ky with
     | none=>rfl
     | some v=>exact absurd (yP hv) this
    refine ⟨a,_,rfl,vI.k h1 (by unfold dv; rw [EW,hlen]; exact hc.2),?_⟩
    rw [wy _ hnone]
    refine w σ F2 _ ⟨k2.ok.updN k2.no h2 h3,k2.at_,k2.no,qs ++ [(ky,l)],?_,h2,h3,?_,?_⟩ (x1.trans x2).fr
    ·rw [aw]; unfold dv; rw [Fs]; rfl
    ·rw [Fs]
     rw [HB] at h4 ⊢
     refine ⟨fun z=>?_,?_⟩
     ·rcases List.mem_append.mp z with z | z
      ·exact h4.1 z
      ·exact hla (List.mem_singleton.mp z).symm
     ·refine List.nodup_append.mpr ⟨h4.2,by simp,fun b hb c hc' e=>?_⟩
      rw [List.mem_singleton.mp hc'] at e
      have e':b=l:=e
      rw [e'] at hb
      exact hlq hb
    ·refine (h5.off (fun z=>by
      rw [HB] at h4
      exact h4.1 z)).snoc (by rw [aj hla]; exact hl2) hlF hlB .nil
   ·cases q⟩
theorem CO {o ka e:Expr}{spos apos cpos dpos:Pos}{f g:DE→Option D} (hu:X.A.units + 64 < cLine) (ho:PE X o (gM i)) (hk:Ev X .V ka f) (he:Ev X .V e g) (hsl:AA ka:=by intro _ _; rfl) (hbase:attributeBase (.Subscript o ka dpos) "append" X.env (eval (.Subscript o ka dpos) X.env)=eval (.Subscript o ka dpos) X.env:=by rfl)
  (hfew:((backTo cpos (starEach [e] X.env)).all (fun x => !x.1) && (backToKw cpos (keywordEach [] X.env)).all (fun x=>x.1.isSome) && decide (([e]:List Expr).length + ([]:List Keyword).length + (if ([]:List Keyword).isEmpty then 0 else 1) < 30))=true:=by rfl)
  (hline:(apos.endLine == cpos.line)=true:=by rfl) (hns:aP e=true:=by rfl) (hs:swapsWith (.Call (.Attribute (.Subscript o ka dpos) "append" apos) [e] [] cpos) none spos.line X.env=pure false:=by rfl) :
  Eb2 X i a (.Expr (.Call (.Attribute (.Subscript o ka dpos) "append" apos) [e] [] cpos) spos) (fun E m=>(f E).bind fun d=>(c3 d).bind fun k=>(g E).bind fun v=>(jp m k v).map fun m'=>(E,m')):=⟨fun pins s σ H Z I zz153_0=>by
 obtain ⟨B,F,E,m,p,k,q,w⟩:=zz153_0
 have q:(f E).bind (fun d=>(c3 d).bind fun k=>(g E).bind fun v=>(jp m k v).map fun m'=>(E,m'))=some p:=q
 cases hfe:f E with
 | none=>rw [hfe] at q; cases q
 | some d =>
  cases hkd:c3 d with
  | none=>simp [hfe,hkd] at q
  | some ky =>
   cases hge:g E with
   | none=>simp [hfe,hkd,hge] at q
   | some y =>
    simp only [hfe,hkd,hge,EG] at q
    cases ha:jp m ky y with
    | none=>rw [ha] at q; cases q
    | some m' =>
     rw [ha] at q
     cases q
     refine io (sH Hq PySem.F.slot_list_append PySem.F.type_list_append iT (sF (iW hu) ho hk.h hsl) (cI he.h ej (aE e [] X.env hns)) hbase hfew hline (aE e [] X.env hns) rfl) hs pins s σ H Z I ?_
     refine ⟨.ref a,k.σ_,B,F,E,d,k.ok,hfe,fun u F1 H1 x1 r1=>?_⟩
     obtain ⟨qs,g1,g2,g3,g4,g5⟩:=k.dol
     have ek:=el (F:=F1) (H:=H1) hkd (.inl r1)
     subst ek
     have hn:=(List.nodup_cons.mp g4)
     obtain ⟨pp,xs,q1,q2,q3,q4,_⟩:=Lds.app g5 hn.2 ha
     refine ⟨a,.ref pp,rfl,by rw [← q1]; exact lf.k (x1.same _ _ g1),?_⟩
     refine ⟨.inl ⟨rfl,xs,SqL.of (x1.same _ _ q3)⟩,B,F1,E,y,(k.ext x1).ok,hge,fun v F2 H2 x2 rv=>?_⟩
     have x12:=x1.trans x2
     refine ⟨pp,xs,v,rfl,rfl,x12.same _ _ q3,q4,?_⟩
     have k2:=k.ext x12
     have h5:=g5.ext x12
     obtain ⟨pp',xs',r1',r2',r3',_,r5'⟩:=Lds.app h5 hn.2 ha
     have e1:pp'=pp:=by
      rw [q1] at r1'
      cases r1'; rfl
     subst e1
     have e2:xs'=xs:=by
      rw [x12.same _ _ q3] at r3'
      cases r3'; rfl
     subst e2
     obtain ⟨_,d2,d3⟩:=h5.dom pp' q2
     have hpa:a ≠ pp':=fun z=>hn.1 (by rw [z]; exact q2)
     exact w σ F2 _ ⟨k2.ok.updN k2.no d2 d3,k2.at_,k2.no,qs,by rw [aj hpa]; exact x12.same _ _ g1,x12.new _ g2 (by rw [g1]; simp),g3,g4,r5' v rv⟩ x12.fr⟩
theorem uA {st:Stmt}{bI:List Stmt}{t:TS}{u:Addr→TS} (h1:PS X st t) (h2:∀ c,PSs X bI (u c)):PSs X (st :: bI) (C6 t fun Z σ H=>∃ c,u c Z σ H) :=
 im h1 fun pins s σ H Z I zz154_0=>by obtain ⟨c,h⟩:=zz154_0; exact h2 c pins s σ H Z I h
def vy (G:Addr→Option Out):Option Out:=@dite _ (∃ r,∀ a,G a=some r) (Classical.propDecidable _) (fun h=>some (Classical.choose h)) fun _=>none
theorem Ax {G:Addr→Option Out}{r:Out} (h:∀ a,G a=some r):vy G=some r:=by
 unfold vy
 have hx:∃ r,∀ a,G a=some r:=⟨r,h⟩
 rw [dif_pos hx]
 have:=G8 hx 0
 rw [h 0] at this
 exact this.symm
theorem vx {G:Addr→Option Out}{r:Out} (h:vy G=some r):∀ a,G a=some r:=by
 unfold vy at h
 by_cases hx:∃ r,∀ a,G a=some r
 ·rw [dif_pos hx] at h
  cases h
  exact G8 hx
 ·rw [dif_neg hx] at h; cases h
theorem Ok.set_raw {B:Hp×Hp}{F H:Hp} {σ:St}{E:DE} (k:Ok B F H σ E) (hn:di E) (i:Nat) (c:Addr):Ok B F H (σ.set i (some (.ref c))) (E.set i (eh c)):=by
 have hl:=k.len
 have hn':di (E.set i (eh c)):=hn.set i (by intro d e; cases e) (by intro d e; cases e)
 refine ⟨k.ent,by rw [FW,FW]; exact hl,fun j d h=>?_,fun j d h=>(hn'.1 j d h).elim,fun j l d e b _ h=>(hn'.1 j d h).elim,?_⟩
 ·rw [Fk] at h
  split at h
  ·split at h
   ·cases h
   ·cases h
  ·rename_i hne
   rw [E8 hne]; exact k.val j d h
 ·obtain ⟨fp,q⟩:=k.ob
  refine ⟨fp,fun j s h=>(hn'.2 j s h).elim,fun j l s d b h=>(hn'.2 j s h).elim,fun j l s t _ h=>(hn'.2 j s h).elim,fun j s h=>?_⟩
  rw [Fk] at h
  split at h
  ·rename_i hij
   subst hij
   split at h
   ·rename_i hlt
    cases h
    exact .inr ⟨rfl,c,rfl,by rw [FE (by omega)]⟩
   ·cases h
  ·rename_i hne
   rw [E8 hne]
   exact q.rob j s h
end
def dmD (m:Dm):D:=.dic (m.map fun q=>(q.1,D.lst q.2))
theorem Lds.repK {B:Hp×Hp}{F H F2:Hp}:∀ {qs:List (Key×Addr)} {m:Dm},Lds B F H qs m→(∀ b o,F b=some o→F2 b=some o)→(∀ p ∈ qs.map (·.2),F2 p=H p)→RepK F2 (dv qs) (m.map fun q=>(q.1,D.lst q.2))
 := fun {qs m} h hf hp=>by
  cases h with
  | nil=>exact .nil
  | cons h1 h2 h3 h4 t =>
   exact .cons (.lst (by rw [hp _ (by simp)]; exact h1) (h4.mono hf)) (Lds.repK t hf fun p hm=>hp p (by simp at hm ⊢; exact .inr hm))
theorem vO {X:Cx} {Φ:Fin}{i:Nat}{a:Addr}{bI:List Stmt}{f:DE→Option Out} (hΦ:qk Φ) (h:EsG X Φ bI f):Ex2 X Φ i a bI (fun E m=>f (E.set i (.val (dmD m)))):=⟨fun pins s σ H Z I zz155_0=>by
 obtain ⟨B,F,E,m,r,k,q,w⟩:=zz155_0
 obtain ⟨qs,h1,h2,h3,h4,h5⟩:=k.dol
 obtain ⟨ob,I'⟩:=xE I h1
 have hn:=List.nodup_cons.mp h4
 let F1:Hp:=fun b=>if b ∈ qs.map (·.2) then H b else F b
 let F2:Hp:=upd F1 a (.frz ob (.dK (dv qs)))
 have nq:∀ b o,F b=some o→b ∉ qs.map (·.2):=fun b o e z=>by rw [(h5.dom b z).2.1] at e; cases e
 have up:∀ b o,F b=some o→F2 b=some o:=fun b o e=>by
  have hb:b ≠ a:=fun z=>by rw [z,h2] at e; cases e
  show upd F1 a _ b=_
  rw [aj hb]
  show (if b ∈ qs.map (·.2) then H b else F b)=_
  rw [if_neg (nq b o e)]; exact e
 have sub2:∀ b o,F2 b=some o→upd H a (.frz ob (.dK (dv qs))) b=some o:=fun b o e=>by
  by_cases hb:b=a
  ·subst hb
   have e':upd F1 b (.frz ob (.dK (dv qs))) b=some o:=e
   rw [aw] at e' ⊢; exact e'
  ·have e':upd F1 a (.frz ob (.dK (dv qs))) b=some o:=e
   rw [aj hb] at e' ⊢
   have e2:(if b ∈ qs.map (·.2) then H b else F b)=some o:=e'
   split at e2
   ·exact e2
   ·exact k.ok.sub b o e2
 have hF2q:∀ p ∈ qs.map (·.2),F2 p=H p:=fun p hp=>by
  have hb:p ≠ a:=fun z=>hn.1 (by rw [← z]; exact hp)
  show upd F1 a _ p=_
  rw [aj hb]
  exact if_pos hp
 have k2:Ok B F2 (upd H a (.frz ob (.dK (dv qs)))) σ (E.set i (.val (dmD m))):=by
  have hE:=k.no
  have hE':di (E.set i (.val (dmD m))):=hE.set i (by simp) (by simp)
  refine ⟨⟨fun b u e=>?_,fun b u e=>up b u (k.ok.ent.fr b u e),sub2,fun b e n=>?_⟩,by rw [FW]; exact k.ok.len,fun j d hd=>?_,fun j d hd=>(hE'.1 j d hd).elim,fun j l d e b _ hd=>(hE'.1 j d hd).elim,?_⟩
  ·have hb:b ≠ a:=fun z=>by rw [z,h3] at e; cases e
   rw [aj hb]; exact k.ok.ent.same b u e
  ·have hb:b ≠ a:=fun z=>n (by rw [z]; exact h3)
   have hq:b ∉ qs.map (·.2):=fun z=>n (h5.dom b z).2.2
   show upd F1 a _ b=none
   rw [aj hb]
   show (if b ∈ qs.map (·.2) then H b else F b)=none
   rw [if_neg hq]; exact k.ok.ent.new b e n
  ·rw [Fk] at hd
   split at hd
   ·rename_i hij
    subst hij
    split at hd
    ·cases hd
     exact ⟨_,k.σ_,.dic (by show upd F1 a _ a=_; exact aw) (h5.repK up hF2q)⟩
    ·cases hd
   ·obtain ⟨v,r1,r2⟩:=k.ok.val j d hd
    exact ⟨v,r1,r2.mono up⟩
  ·obtain ⟨fp,q⟩:=k.ok.ob
   refine ⟨fp,fun j s hj=>(hE'.2 j s hj).elim,fun j l s d b hj=>(hE'.2 j s hj).elim,fun j l s t _ hj=>(hE'.2 j s hj).elim,fun j s hj=>?_⟩
   rw [Fk] at hj
   split at hj
   ·split at hj
    ·cases hj
    ·cases hj
   ·rcases q.rob j s hj with ⟨c,ps,q1,q2⟩ | q2
    ·exact .inl ⟨c,ps,q1,q2.move up fun p _ o e=>up p o e⟩
    ·exact .inr q2
 exact h.h pins s σ _ Z I' ⟨B,F2,_,r,k2,q,hΦ B F F2 Z r up w⟩⟩
def lc (i:Nat):Fin:=fun B F Z r=>match r with
 | .nx E'=>∃ d,E'[i]? = some (.own d)∧∀ v F' H',Ext B.1 B.2 F' H'→rM .F B.2 F' H' v d→Z.rt v H'
 | _=>False
theorem nA (i:Nat):qk (lc i):=fun B F F' Z r y w=>w
theorem DQ {X:Cx}{i:Nat}{e:Expr}{pos:Pos} (ho:PE X e (gM i)):EsG X (lc i) [.Return (some e) pos] a9:=⟨fun pins s σ H Z I zz156_0=>by
 obtain ⟨B,F,E,r,k,q,w⟩:=zz156_0
 cases q
 obtain ⟨d,hd,w⟩:=w
 obtain ⟨a,o,h1,h2,h3,h4,h5⟩:=k.own i d hd
 exact jv (wC ho) pins s σ H Z I ⟨.ref a,h1,w _ F H k.ent ⟨a,o,rfl,h4,h2,h3,h5⟩⟩⟩
theorem qT {X:Cx}{i:Nat}{st:Stmt}{bI:List Stmt}{f g:DE→Option Out} (h:Es X st f) (h2:EsG X (lc i) bI g):EsG X (lc i) (st :: bI) (av f g):=⟨fun pins s σ H Z I zz157_0=>by
 obtain ⟨B,F,E,r,k,q,w⟩:=zz157_0
 refine im h.h h2.h pins s σ H Z I ?_
 unfold av at q
 cases hf:f E with
 | none=>simp [hf] at q
 | some r1 =>
  rw [hf] at q
  cases r1 with
  | nx E'=>exact ⟨B,F,E,.nx E',k,hf,fun σ' F' H' k' y=>⟨B,F',E',r,k',q,w⟩⟩
  | rt d=>cases q; exact w.elim
  | bk E'=>cases q; exact w.elim
  | ct E'=>cases q; exact w.elim⟩
def spN (n:Nat) (g:List D→Option D):Sp:=fun vs H Q _=>∃ F ds d,(∀ a o,F a=some o→H a=some o)∧Reps F vs ds∧ds.length=n∧g ds=some d∧∀ v F' H',Ext F H F' H'→rM .F H F' H' v d→Q v H'
def wm (i n m:Nat) (b:DE→Option Out) (ds:List D):Option D:=if ds.length=n then (b (ds.map Sl.val ++ List.replicate (m - n) Sl.no)).bind fun r=>match r with
 | .nx E=>match E[i]? with
  | some (.own d)=>some d
  | _=>none
 | _=>none
 else none
theorem fnN {P:Program}{w:World}{K:PySem.W.Frag}{mg:Str→Option Value}{base:Heap}{x qual:Str}{st:Stmt}{f:Addr}{fd:FuncData}{N ps:List Str}{k k1 n m i:Nat}{b:DE→Option Out}{g:List D→Option D} (Fn:Fun K x qual st f fd) (S:aM N ps (al st))
  (hn:ps.length=n) (hm:N.length=m) (hk:k + 1=k1) (hg:g=wm i n m b)
  (hbody:∀ (cdv:Value) (A:Around) (outer:List Env) (s:Shared) (H:Hp) (E:XK),da k (A.deeper (envOfC qual (al st) s.heap.objs.size f cdv)) →
   EsG (i5 CX0 P w K mg base N qual (al st) f cdv A outer s H E).nox (lc i) (dL st) b):bu P w K mg base CX0 k1 f fd ps (spN n g):=by
 subst hn hm hk hg
 refine Fn.ok S (fun vs H Q E h=>?_) (fun cdv A outer s H vs Q E hr h=>?_)
 ·obtain ⟨F,ds,d,_,r,hl,_⟩:=h
  rw [r.length,hl]
 ·obtain ⟨F,ds,d,hs,r,hl,hg,q⟩:=h
  refine ⟨_,(hbody cdv A outer s H E hr).h,?_⟩
  unfold wm at hg
  rw [if_pos hl] at hg
  cases hb:b (ds.map Sl.val ++ List.replicate (N.length - ps.length) Sl.no) with
  | none=>rw [hb] at hg; cases hg
  | some rr =>
   rw [hb] at hg
   have k0:=kh (N:=N) hs r
   rw [hl] at k0
   refine ⟨(F,H),F,_,rr,k0,hb,?_⟩
   cases rr with
   | nx E' =>
    have hg':(match E'[i]? with | some (.own d)=>some d | _=>none)=some d:=hg
    cases he:E'[i]? with
    | none=>rw [he] at hg'; cases hg'
    | some z =>
     rw [he] at hg'
     cases z with
     | own d'=>cases hg'; exact ⟨_,he,fun v F' H' x r'=>q v F' H' x r'⟩
     | _=>cases hg'
   | rt d'=>cases hg
   | bk E'=>cases hg
   | ct E'=>cases hg
def og (i:Nat) (gs:List D→DE→Option DE):Prop:=∀ ds E E',gs ds E=some E'→E'[i]? = E[i]?∧(di E→di E')
theorem ml {i:Nat}:og i dk:=fun ds E E' e=>by
 cases ds with
 | nil=>cases e; exact ⟨rfl,id⟩
 | cons d r=>cases e
theorem em {i:Nat}{g:D→DE→Option DE}{gs:List D→DE→Option DE} (h:qm i g) (h2:og i gs):og i (bh g gs):=fun ds E E' e=>by
 cases ds with
 | nil=>cases e
 | cons d r =>
  have e':(g d E).bind (fun E1=>gs r E1)=some E':=e
  cases hg:g d E with
  | none=>rw [hg] at e'; cases e'
  | some E1 =>
   rw [hg] at e'
   obtain ⟨a1,a2⟩:=h d E E1 hg
   obtain ⟨b1,b2⟩:=h2 r E1 E' e'
   exact ⟨b1.trans a1,fun z=>b2 (a2 z)⟩
theorem mj {i n:Nat}{gs:List D→DE→Option DE} (h:og i gs):qm i (dj n gs):=fun d E E' e=>by
 cases d with
 | tup ds =>
  have e':(if ds.length=n then gs ds E else none)=some E':=e
  split at e'
  ·exact h ds E E' e'
  ·cases e'
 | _=>cases e
def wj (Gb:DE→Dm→Option (DE×Dm)) (G:DE→Dm→Option Out) (E:DE) (m:Dm):Option Out:=(Gb E m).bind fun p=>G p.1 p.2
def q8 (i:Nat) (f:DE→Option Out) (E:DE) (m:Dm):Option Out:=f (E.set i (.val (dmD m)))
def xM (fi:DE→Option (List D)) (gf:D→DE→Option DE) (Gb:DE→Dm→Option (DE×Dm)) (E:DE) (m:Dm):Option (DE×Dm):=(fi E).bind fun xs=>fQ gf Gb xs E m
def Be (j:Nat) (f:DE→Option D) (E:DE) (m:Dm):Option (DE×Dm):=(f E).map fun d=>(E.set j (.val d),m)
def Bz (f:DE→Option D) (E:DE) (m:Dm):Option (DE×Dm):=(f E).bind fun d=>(c3 d).bind fun k=>if (m.any fun q=>decide (q.1=k))=false∧m.length < sizeLine then some (E,m ++ [(k,[])]) else none
def CP (f g:DE→Option D) (E:DE) (m:Dm):Option (DE×Dm):=(f E).bind fun d=>(c3 d).bind fun k=>(g E).bind fun v=>(jp m k v).map fun m'=>(E,m')
section
variable {X:Cx} {Φ:Fin}{i:Nat}{a:Addr}
theorem qr {st:Stmt}{bI:List Stmt}{Gb:DE→Dm→Option (DE×Dm)} {G:DE→Dm→Option Out} (hΦ:qk Φ) (h:Eb2 X i a st Gb) (h2:Ex2 X Φ i a bI G):Ex2 X Φ i a (st :: bI) (wj Gb G):=yM hΦ h h2
theorem A4 {bI:List Stmt}{f:DE→Option Out} (hΦ:qk Φ) (h:EsG X Φ bI f):Ex2 X Φ i a bI (q8 i f):=vO hΦ h
theorem nY {tg iter:Expr}{body:Stmt}{pos:Pos}{fi:DE→Option (List D)} {gf:D→DE→Option DE}{Gb:DE→Dm→Option (DE×Dm)} (hp:PassesOwn (model X.prog X.w) X.A X.env X.xe) (hc:X.calm=true) (hi:Ei X tg iter fi) (hg:Eg X tg gf) (hk:qm i gf) (hb:Eb2 X i a body Gb)
  (hs:∀ x,foldedSetIterable iter X.env x=pure x:=by intro _; rfl):Eb2 X i a (.For tg iter [body] [] pos) (xM fi gf Gb):=CN hp hc hi hg hk hb hs
theorem As {j:Nat}{x:Str}{pos pos':Pos}{e:Expr}{f:DE→Option D} (hN:X.N.Nodup) (hi:X.N[j]? = some x) (hx:Loc X.env.scope x) (he:Ev X .V e f) (hj:j ≠ i) (hs:swapsWith e (some (.Name x pos')) pos.line X.env=pure false:=by rfl)
  (hf:X.fn x=true∨X.env.scope.names.lookup x=some .local:=by first | exact .inl rfl | exact .inr rfl | assumption):Eb2 X i a (.Assign [.Name x pos'] e pos) (Be j f):=CL hN hi hx he hj hs hf
theorem At {o:Expr}{ka:Expr}{pos pos' lp:Pos}{f:DE→Option D} (hu:X.A.units + 64 < cLine) (ho:PE X o (gM i)) (hk:Ev X .V ka f) (hs:swapsWith (.List [] lp) (some (.Subscript o ka pos')) pos.line X.env=pure false:=by rfl) :
  Eb2 X i a (.Assign [.Subscript o ka pos'] (.List [] lp) pos) (Bz f):=CM hu ho hk hs
theorem Au {o ka e:Expr}{spos apos cpos dpos:Pos}{f g:DE→Option D} (hu:X.A.units + 64 < cLine) (ho:PE X o (gM i)) (hk:Ev X .V ka f) (he:Ev X .V e g) (hsl:AA ka:=by intro _ _; rfl) (hbase:attributeBase (.Subscript o ka dpos) "append" X.env (eval (.Subscript o ka dpos) X.env)=eval (.Subscript o ka dpos) X.env:=by rfl)
  (hfew:((backTo cpos (starEach [e] X.env)).all (fun x => !x.1) && (backToKw cpos (keywordEach [] X.env)).all (fun x=>x.1.isSome) && decide (([e]:List Expr).length + ([]:List Keyword).length + (if ([]:List Keyword).isEmpty then 0 else 1) < 30))=true:=by rfl)
  (hline:(apos.endLine == cpos.line)=true:=by rfl) (hns:aP e=true:=by rfl) (hs:swapsWith (.Call (.Attribute (.Subscript o ka dpos) "append" apos) [e] [] cpos) none spos.line X.env=pure false:=by rfl) :
  Eb2 X i a (.Expr (.Call (.Attribute (.Subscript o ka dpos) "append" apos) [e] [] cpos) spos) (CP f g):=CO hu ho hk he hsl hbase hfew hline hns hs
end
def oJ (t:Nat) (d:D):DE:=List.replicate t Sl.no ++ [Sl.own d]
theorem oH (t:Nat) (d:D):(oJ t d)[t]? = some (.own d):=by
 unfold oJ
 rw [GD (by simp)]
 simp
def yH (t i:Nat) (G:DE→Dm→Option Out) (E:DE) (d:D):Prop:=di E∧∀ a,∃ E',G (E.set i (eh a)) []=some (.nx E')∧E'[t]? = some (.own d)
def i4 (t i:Nat) (G:DE→Dm→Option Out) (E:DE):Option Out:=@dite _ (∃ d,yH t i G E d) (Classical.propDecidable _) (fun h=>some (.nx (oJ t (Classical.choose h)))) fun _=>none
theorem vg {t i:Nat}{G:DE→Dm→Option Out}{E:DE}{d:D} (h:yH t i G E d):i4 t i G E=some (.nx (oJ t d)):=by
 unfold i4
 have hx:∃ d,yH t i G E d:=⟨d,h⟩
 rw [dif_pos hx]
 have h2:=G8 hx
 obtain ⟨E1,a1,a2⟩:=h.2 0
 obtain ⟨E2,b1,b2⟩:=h2.2 0
 rw [a1] at b1
 cases b1
 rw [a2] at b2
 injection b2 with b2
 injection b2 with b2
 rw [← b2]
theorem rl {X:Cx}{t i:Nat}{x:Str}{pos pos' dp:Pos}{bI:List Stmt}{G:DE→Dm→Option Out} (hN:X.N.Nodup) (hi:X.N[i]? = some x) (hx:Loc X.env.scope x) (hrest:∀ a,Ex2 X (lc t) i a bI G) (hlen:∀ E:DE,(∃ B F H σ,Ok B F H σ E∧σ.length=X.N.length)→i < E.length) (hs:swapsWith (.Dict [] [] dp) (some (.Name x pos')) pos.line X.env=pure false:=by rfl)
  (hf:X.fn x=true∨X.env.scope.names.lookup x=some .local:=by first | exact .inl rfl | exact .inr rfl | assumption):EsG X (lc t) (.Assign [.Name x pos'] (.Dict [] [] dp) pos :: bI) (i4 t i G):=⟨fun pins s σ H Z I zz158_0=>by
 obtain ⟨B,F,E,r,k,q,w⟩:=zz158_0
 unfold i4 at q
 by_cases hx':∃ d,yH t i G E d
 ·rw [dif_pos hx'] at q
  cases q
  obtain ⟨hn,hall⟩:=G8 hx'
  obtain ⟨d,hd,w⟩:=w
  rw [oH] at hd
  injection hd with hd
  injection hd with hd
  have hlt:i < E.length:=hlen E ⟨B,F,H,σ,k,I.len⟩
  refine uA (ni hN hi hx (jz (pos:=dp)).h hs hf) (fun c=>(hrest c).h) pins s σ H Z I ?_
  refine ⟨B,F,E,.dic [],k,rfl,fun v F' H' x' rv=>?_⟩
  obtain ⟨p,o,rfl,n0,n1,n2,n3⟩:=rv
  obtain ⟨vs,rfl⟩:∃ vs,o=.dK vs:=by cases o <;> first | exact ⟨_,rfl⟩ | exact False.elim n3
  have n3':RepK F' vs []:=n3
  cases n3'
  have k':=k.ext x'
  obtain ⟨E',e1,e2⟩:=hall p
  exact ⟨p,B,F',E.set i (eh p),[],.nx E',⟨k'.set_raw hn i p,by rw [FE hlt],hn.set i (by intro d e; cases e) (by intro d e; cases e),[],n1,n2,k.ent.nofree n0,by simp,.nil⟩,e1,⟨d,by rw [e2,hd],w⟩⟩
 ·rw [dif_neg hx'] at q; cases q⟩
theorem pj {E:DE} (h:∀ z ∈ E,(∀ d,z ≠ .own d)∧∀ s,z ≠ .obj s):di E :=
 ⟨fun j d e=>(h _ (F_ e)).1 d rfl,fun j s e=>(h _ (F_ e)).2 s rfl⟩
theorem yN {Gb:DE→Dm→Option (DE×Dm)} {G:DE→Dm→Option Out}{E:DE}{m:Dm}{P:Out→Prop}:wp (wj Gb G E m) P=wp (Gb E m) fun p=>wp (G p.1 p.2) P:=aJ
theorem se {fi:DE→Option (List D)} {gf:D→DE→Option DE}{Gb:DE→Dm→Option (DE×Dm)} {E:DE}{m:Dm}{P:DE×Dm→Prop}:wp (xM fi gf Gb E m) P=wp (fi E) fun xs=>wp (fQ gf Gb xs E m) P:=aJ
theorem jE {α:Type} (enc:α→D) (ys:List α) {gf:D→DE→Option DE}{Gb:DE→Dm→Option (DE×Dm)} {E:DE}{m:Dm}{xs:List D}{P:DE×Dm→Prop} (I:List α→DE→Dm→Prop) (hx:xs=ys.map enc) (h0:I [] E m)
  (hstep:∀ pre y post E m,ys=pre ++ y :: post→I pre E m→wp (gf (enc y) E) fun E1=>wp (Gb E1 m) fun p=>I (pre ++ [y]) p.1 p.2) (hend:∀ E m,I ys E m→P (E,m)):wp (fQ gf Gb xs E m) P:=by
 subst hx
 have key:∀ (zs pre:List α) (E:DE) (m:Dm),ys=pre ++ zs→I pre E m→wp (fQ gf Gb (zs.map enc) E m) P:=by
  intro zs
  induction zs with
  | nil =>
   intro pre E m e h
   rw [F9] at e
   subst e
   exact hend E m h
  | cons z zs ih =>
   intro pre E m e h
   have h1:=hstep pre z zs E m e h
   rw [EN]
   show wp ((gf (enc z) E).bind fun E1=>(Gb E1 m).bind fun p=>fQ gf Gb (zs.map enc) p.1 p.2) P
   rw [aJ]
   refine dF h1 fun E1 h2=>?_
   rw [aJ]
   exact dF h2 fun p h3=>ih (pre ++ [z]) p.1 p.2 (by rw [e]; simp) h3
 exact key ys [] E m rfl h0
theorem yO {i n m:Nat}{b:DE→Option Out}{ds:List D}{d:D} (h:ds.length=n) (hb:wp (b (ds.map Sl.val ++ List.replicate (m - n) Sl.no)) fun r=>∃ E',r=.nx E'∧E'[i]? = some (.own d)):wm i n m b ds=some d:=by
 unfold wm
 rw [if_pos h]
 obtain ⟨r,e,E',rfl,h2⟩:=dy.mp hb
 rw [e]
 show (match E'[i]? with | some (.own d)=>some d | _=>none)=some d
 rw [h2]
def bkL (ns:List Str) (f:Str→D):List (Key×D):=ns.map fun n=>(Sum.inr n,f n)
def bk (ns:List Str) (f:Str→D):D:=.dic (bkL ns f)
def bm (ns:List Str) (f:Str→List D):Dm:=ns.map fun n=>(Sum.inr n,f n)
theorem D7 (ns:List Str) (f:Str→List D):dmD (bm ns f)=bk ns fun n=>.lst (f n):=by
 unfold dmD bm bk bkL
 rw [Fm]; rfl
theorem jw {a b:Str} (h:(Sum.inr a:Key)=Sum.inr b):a=b:=by injection h
theorem tV {n:Str}{d:D}:∀ {ns:List Str}{f:Str→List D},ns.Nodup→n ∈ ns→(f n).length < sizeLine→jp (bm ns f) (.inr n) d=some (bm ns fun x=>if x=n then f x ++ [d] else f x)
 | [],_,_,h,_=>by cases h
 | x :: ns,f,hn,h,hl=>by
  rw [HB] at hn
  show jp ((Sum.inr x,f x) :: bm ns f) _ _=_
  unfold jp
  by_cases e:x=n
  ·subst e
   rw [if_pos rfl,if_pos hl]
   show some ((Sum.inr x,f x ++ [d]) :: bm ns f)=some ((Sum.inr x,if x=x then f x ++ [d] else f x) :: bm ns fun y=>if y=x then f y ++ [d] else f y)
   rw [if_pos rfl]
   congr 2
   unfold bm
   refine FJ fun y hy=>?_
   show ((Sum.inr y:Key),f y)=(Sum.inr y,if y=x then f y ++ [d] else f y)
   rw [if_neg (fun z=>hn.1 (by rw [← z]; exact hy))]
  ·have hm:n ∈ ns:=by
    rcases List.mem_cons.mp h with h | h
    ·exact absurd h.symm e
    ·exact h
   rw [if_neg (fun z=>e (jw z)),tV hn.2 hm hl]
   show some ((Sum.inr x,f x) :: bm ns _)=some ((Sum.inr x,if x=n then f x ++ [d] else f x) :: bm ns _)
   rw [if_neg e]
theorem sg {n:Str}{f:Str→D}:∀ {ns:List Str},n ∈ ns→dQ (bkL ns f) (.inr n)=some (f n)
 | [],h=>by cases h
 | x :: ns,h=>by
  show ((((Sum.inr x:Key),f x) :: bkL ns f).find? fun p=>decide (p.1=Sum.inr n)).map (·.2)=_
  rw [F8]
  by_cases e:x=n
  ·subst e; simp
  ·have:decide ((Sum.inr x:Key)=Sum.inr n)=false:=Fc fun z=>e (jw z)
   simp only [this]
   rcases List.mem_cons.mp h with h | h
   ·exact absurd h.symm e
   ·exact sg h
end L2.Cu
namespace L2
open PySem PySem.Spec PyProof.Rows
theorem lh (its:List Value):slicePick its.toArray none none (some (-1))=its.reverse.toArray:=by
 unfold slicePick
 have e:sliceBounds none none (some (-1)) its.toArray.size=((its.length:Int) - 1,-1,-1):=rfl
 rw [e]
 have e2:sliceRange ((its.length:Int) - 1) (-1) (-1)=(List.range its.length).map fun k:Nat=>((its.length:Int) - 1 + (-1) * (k:Int)).toNat:=by
  unfold sliceRange
  dsimp only
  rw [if_neg (by decide)]
  congr 2
  by_cases h:((its.length:Int) - 1) > -1
  ·rw [if_pos h,show (its.length:Int) - 1 - -1 - -1 - 1=its.length by omega,show (-(-1):Int)=1 from rfl,Int.ediv_one]; omega
  ·rw [if_neg h]; omega
 show ((sliceRange ((its.length:Int) - 1) (-1) (-1)).filterMap _).toArray=_
 rw [e2,List.filterMap_map]
 have h:=wJ its
 rw [E_] at h
 conv=>rhs; rw [← h]
 congr 1
 congr 1
 funext k
 show its.toArray[((its.length:Int) - 1 + (-1) * (k:Int)).toNat]? = its.toArray[((its.length:Int) - 1 + (k:Int) * (-1)).toNat]?
 rw [Int.mul_comm]
def C7 (K:PySem.W.Frag) (te:TE) (ts:TO):TE:=fun σ H Q=>te σ H fun x H1=>ts σ H1 fun l H2=>∃ a xs,x=.ref a∧l=some (-1)∧SqL K H2 a xs∧∀ p,H2 p=none→Q (.ref p) (upd H2 p (.lst xs.reverse))
theorem zt {X:Cx}{e st:Expr}{te:TE}{ts:TO}{p2 pos:Pos} (he:PE X e te) (hst:PO X (some st) ts):PE X (.Subscript e (.Slice none none (some st) p2) pos) (C7 X.K te ts):=by
 intro pins s σ H Q I h
 refine Subscript_ (thn (he pins s σ H _ I h) fun v s1 zz159_0=>?_)
 obtain ⟨x,H1,I1,r1,q1⟩:=zz159_0
 refine wpAny_Slice ?_
 rw [evalPart_none]
 refine EY (EY (thn (hst pins s1 σ H1 _ I1 q1) fun vs s2 zz160_0=>?_))
 obtain ⟨l,H2,I2,pl,q2⟩:=zz160_0
 obtain ⟨a,xs,rfl,rfl,hx,q⟩:=q2
 cases r1
 cases pl with
 | int i t =>
  have I4:Inv X pins σ H2 { s2 with heap:=s2.heap.push { cls:=.type "slice",data:=.fields #[.none,.none,.int (-1) t] } }:=I2.kept (t':=s2.toks) fun b ob q=>EU _ q
  obtain ⟨its,r,ht,hz⟩:=I4.list hx
  show wpAny (model X.prog X.w) X.A (subscriptTail e (.Slice none none (some st) p2) (.ref a) (.ref s2.heap.objs.size)) (EP X pins σ Q) X.xe { s2 with heap:=s2.heap.push { cls:=.type "slice",data:=.fields #[.none,.none,.int (-1) t] } }
  refine tail_any (ops:=[.ref a,.ref s2.heap.objs.size]) ht.isList.typeIs slot_list_getitem.lookup (wpAny_getItem_list_slice ht.isList (Heap.IsSliceOf.new ..) .none .none (.int (-1) t) (by simp) ?_ (by rw [E_,← r.length]; exact hz)) (by with_unfolding_all rfl)
  rw [lh]
  exact ⟨.ref _,_,I4.laid (t':=s2.toks) (o:=.lst xs.reverse) (fun b ob q=>EU _ q) (E9 _) ⟨by rw [List.length_reverse]; exact hz,_,0,r.reverse,EZ _ rfl⟩,rfl,q _ I4.fresh⟩
end L2
namespace L2.Cu
open PySem PySem.Spec PyProof.Rows
def Bj (x y:D):Option D:=match x,y with
 | .lst z,.int n=>if n = -1 then some (.lst z.reverse) else none
 | _,_=>none
theorem z6 {X:Cx}{e st:Expr}{f g:DE→Option D}{p2 pos:Pos} (ha:Ev X .O e f) (hb:Ev X .V st g):Ev X .V (.Subscript e (.Slice none none (some st) p2) pos) (bin Bj f g) :=
 PE.by (zt ha.h (sD hb.h)) fun σ H Q zz161_0=>by
  obtain ⟨B,F,E,d,k,q,w⟩:=zz161_0
  unfold bin at q
  cases h1:f E with
  | none=>simp [h1] at q
  | some x =>
   cases h2:g E with
   | none=>simp [h1,h2] at q
   | some y =>
    simp only [h1,h2,EG] at q
    refine ⟨B,F,E,x,k,h1,fun v F1 H1 x1 r1=>⟨B,F1,E,y,k.ext x1,h2,fun v2 F2 H2 x2 r2=>?_⟩⟩
    match x,y,q with
    | .lst z,.int n,q =>
     have q':(if n = -1 then some (D.lst z.reverse) else none)=some d:=q
     by_cases hn:n = -1
     ·rw [if_pos hn] at q'
      cases q'
      subst hn
      have r3:OB F2 H2 v (.lst z):=OB.ext x2 r1
      obtain ⟨p,vs,rfl,hp,rp⟩:=r3.lst x2.sub
      refine ⟨-1,?_,p,vs,rfl,rfl,SqL.of hp,fun c hc=>?_⟩
      ·cases r2; rfl
      ·have x3:=Ext.freeze (o:=HO.lst vs.reverse) x2.sub hc
       exact w _ _ _ ((x1.trans x2).trans x3) (.lst aw (rp.reverse.mono x3.fr))
     ·rw [if_neg hn] at q'; cases q'
open PySem PySem.W PySem.Calls PyProof.Rows PySem.Spec Att
theorem CI (P:Params):((boot_heap P).isNs mainGlobals,(boot_heap P).objs.size,(boot_heap P).nsMap mainGlobals "__annotations__")=(true,11,some (.ref 6)):=by kernel_rfl
abbrev rL (p q:Program) (loose:List Str) (Xt:Shared→Bool) {α:Type} (Yf:Shared→α) (a:α) (N:Nat):Prop:=∀ (w:World) (os:OsState),
 (PySem.W.Fast.tw14082659384304107361 PySem.W.Fast.tw14364793385576792824 p w 11 (some (.ref 6)) N ⟨boot_heap w.params,Array.mk [],boot_drawn,boot_toks,os⟩ (topStub p)).map
  (fun s=>(staticsOk (importedModules p.main.body) (boot_heap w.params) s.heap && namesBound p s.heap && gensDone s && laidKept (boot_heap w.params) s.heap,
   PySem.W.Fast.tw4187177175401517315 q loose (importedModules p.main.body) Xt true s,Yf s))=some (true,openGood q loose,a)
theorem zN {p q:Program}{loose:List Str}{Xt:Shared→Bool} {α:Type}{Yf:Shared→α}{a:α}{N:Nat} (e:opening p=plainProg p.main.scope.names) (hN:Nat.ble 600 N=true) (f:∀ s,fenceModules? p s=some s)
  (h:rL p q loose Xt Yf a N):LeftO p q loose Xt Yf (fun _=>a) N:=fun w=>by
 obtain ⟨⟨hp,gs,d,k,os⟩,e1,e2⟩:=Option.map_eq_some_iff.mp (boot_open e hN f w)
 obtain ⟨rfl,rfl,rfl,rfl⟩:hp=boot_heap w.params∧gs=Array.mk []∧d=boot_drawn∧k=boot_toks:=by simpa using e2
 obtain ⟨s,r1,r2⟩:=Option.map_eq_some_iff.mp (h w os)
 rw [← PySem.W.Fast.te14082659384304107361,← PySem.W.Fast.te14364793385576792824] at r1
 rw [← PySem.W.Fast.te4187177175401517315] at r2
 obtain ⟨b1,b2⟩:=Gf (CI w.params)
 obtain ⟨b2,b3⟩:=Gf b2
 obtain ⟨c1,c2⟩:=Gf r2
 have t:topFrom treeTable p w N ⟨boot_heap w.params,Array.mk [],boot_drawn,boot_toks,os⟩=some s:=by
  unfold topFrom
  dsimp only
  rw [b1,b2,b3,r1]
  show (match staticsOk (importedModules p.main.body) (boot_heap w.params) s.heap && namesBound p s.heap && gensDone s && laidKept (boot_heap w.params) s.heap with | true=>some s | false=>none)=_
  rw [c1]
 unfold openEnds
 rw [e1]
 show (topFrom treeTable p w N _).map _=_
 rw [t]
 exact FZ some c2
def KH (h:Heap):Frag:=(List.range h.objs.size).filterMap fun a=>match h.get? a with
 | some o=>if o.cls == Value.type "list" then none else some (a,o)
 | none=>none
theorem xn {K:Frag}{a:Addr}{o:Obj}:K.lookup a=some o→(a,o) ∈ K:=by
 induction K with
 | nil=>intro e; cases e
 | cons p r ih =>
  intro e
  obtain ⟨b,x⟩:=p
  rw [FY] at e
  cases hb:a == b with
  | true=>rw [hb] at e; cases e; rw [beq_iff_eq.mp hb]; exact .head _
  | false=>rw [hb] at e; exact .tail _ (ih e)
theorem xj {h:Heap}{a:Addr}{o:Obj} (m:(a,o) ∈ KH h):h.get? a=some o∧o.cls ≠ Value.type "list" := by
 obtain ⟨b,_,e⟩:=List.mem_filterMap.mp m
 cases hb:h.get? b with
 | none=>rw [hb] at e; cases e
 | some x =>
  rw [hb] at e
  dsimp only at e
  by_cases hc:(x.cls == Value.type "list")=true
  ·rw [if_pos hc] at e; cases e
  ·rw [if_neg hc] at e; cases e; exact ⟨hb,fun q=>hc (beq_iff_eq.mpr q)⟩
theorem Ec (h:Heap):(KH h).In h:=fun _ _ e=>(xj (xn e)).1
theorem vG (h:Heap):nz (KH h)=true:=List.all_eq_true.mpr fun p m=>by
 have:=(xj (a:=p.1) (o:=p.2) m).2
 simpa using this
def cV (s:Stmt):Str:=match s with
 | .FunctionDef n _ _ _ _ _ _ _ _ _=>n
 | _ => ""
abbrev dw (p:Program) (i:Nat):Stmt:=p.main.body.getD i (.Pass ⟨0,0,0,0⟩)
def AX (fd:FuncData):FuncData:={ fd with kwdefaults:=.none,doc:=.none,pyModule:=.none,annotations:=none,code:=.none,closureTuple:=.none }
def zV (K:Frag) (qual:Str) (f:Addr):Option (FuncData×Bool×Bool):=match K.lookup f with
 | some ⟨_,_,.func fd,_⟩=>some (AX fd,codeIn K fd.code qual,keepIn K (.ref f))
 | _=>none
def xN (K:Frag) (st:Stmt):Option (FuncData×Bool×Bool):=match nsIn K mainGlobals (cV st) with
 | some (some (.ref f))=>zV K (cV st) f
 | _=>none
abbrev xO (x qual:Str) (st:Stmt):Option (FuncData×Bool×Bool):=some (fnOf x qual (jB st) (dL st) (al st) .none .none .none .none none .none .none,true,true)
def C4:Option (Option Value)→Option (Option Value)
 | some (some (.int n _))=>some (some (.int n 0))
 | x=>x
theorem AV {K:Frag}{x qual:Str}{st:Stmt}{f:Addr} (e:zV K qual f=xO x qual st):∃ fd,Fun K x qual st f fd:=by
 unfold zV at e
 split at e
 ·rename_i oc od fd sl hl
  obtain ⟨e1,e2⟩:=Gf (E4 e)
  obtain ⟨e2,e3⟩:=Gf e2
  refine ⟨fd,⟨oc,od,fd.kwdefaults,fd.doc,fd.pyModule,fd.annotations,fd.code,fd.closureTuple,sl,?_,hl,e2⟩,e3⟩
  cases fd
  simp only [AX,FuncData.mk.injEq,true_and] at e1 ⊢
  exact e1
 ·cases e
structure TT (p:Program) (ds:List Nat) (zs:List Str) (cs:List (Str×Int)) {β:Type} (mo:Frag→β) (mb:β) (K:Frag) (mg:Str→Option Value) where
 f:Nat→Addr
 fd:Nat→FuncData
 F:∀ i,i ∈ ds→Fun K (cV (dw p i)) (cV (dw p i)) (dw p i) (f i) (fd i)
 m:∀ i,i ∈ ds→mg (cV (dw p i))=some (.ref (f i))
 z:∀ x,x ∈ zs→mg x=none
 t:Str→Tok
 c:∀ y,y ∈ cs→mg y.1=some (.int y.2 (t y.1))
 o:mo K=mb
 g:∀ (x:Str) (v:Value),nsIn K mainGlobals x=some (some v)→mg x=some v
abbrev iA (p:Program) (ds:List Nat) (zs:List Str) (cs:List (Str×Int)) {β:Type} (mo:Frag→β) (K:Frag):=(ds.map fun i=>xN K (dw p i),zs.map (nsIn K mainGlobals),(cs.map fun c=>C4 (nsIn K mainGlobals c.1)),mo K)
abbrev pX (p:Program) (ds:List Nat) (zs:List Str) (cs:List (Str×Int)) {β:Type} (mb:β):=((ds.map fun i=>xO (cV (dw p i)) (cV (dw p i)) (dw p i)),(zs.map fun _=>some none:List (Option (Option Value))),(cs.map fun c=>(some (some (.int c.2 0)):Option (Option Value))),mb)
theorem C3 {p:Program}{ds:List Nat}{zs:List Str}{cs:List (Str×Int)} {β:Type}{mo:Frag→β}{mb:β}{K:Frag}{h:Heap}{mg:Str→Option Value} (X:K.In h) (G:h.Ns mainGlobals mg) (e:iA p ds zs cs mo K=pX p ds zs cs mb):Nonempty (TT p ds zs cs mo mb K mg):=by
 obtain ⟨e1,e⟩:=Gf e
 obtain ⟨e2,e⟩:=Gf e
 obtain ⟨e3,e4⟩:=Gf e
 have A:∀ i,∃ f fd,i ∈ ds→Fun K (cV (dw p i)) (cV (dw p i)) (dw p i) f fd∧mg (cV (dw p i))=some (.ref f):=fun i=>by
  by_cases hi:i ∈ ds
  ·have q:=List.map_inj_left.mp e1 i hi
   unfold xN at q
   split at q
   ·rename_i f hf
    obtain ⟨fd,r⟩:=AV q
    exact ⟨f,fd,fun _=>⟨r,mg_of X G hf⟩⟩
   ·cases q
  ·exact ⟨0,default,fun q=>absurd q hi⟩
 have B:∀ x,∃ t,∀ n,(x,n) ∈ cs→mg x=some (.int n t):=fun x=>by
  by_cases hx:∃ n,(x,n) ∈ cs
  ·obtain ⟨n,hn⟩:=hx
   have q:=List.map_inj_left.mp e3 _ hn
   dsimp only at q
   have u:∃ n' t,nsIn K mainGlobals x=some (some (.int n' t)):=by
    unfold C4 at q
    split at q
    ·rename_i n' t hh; exact ⟨n',t,hh⟩
    ·rename_i hh; exact absurd q (hh n 0)
   obtain ⟨n',t,hh⟩:=u
   refine ⟨t,fun n₂ h₂=>?_⟩
   have q₂:=List.map_inj_left.mp e3 _ h₂
   dsimp only at q₂
   rw [hh] at q₂
   have z:=E4 (E4 q₂)
   injection z with z
   subst z
   exact mg_of X G hh
  ·exact ⟨0,fun n hn=>absurd ⟨n,hn⟩ hx⟩
 exact ⟨⟨fun i=>(A i).choose,fun i=>(A i).choose_spec.choose,fun i hi=>((A i).choose_spec.choose_spec hi).1,fun i hi=>((A i).choose_spec.choose_spec hi).2,
  fun x hx=>mg_none_of X G (List.map_inj_left.mp e2 x hx),fun x=>(B x).choose,fun y hy=>(B y.1).choose_spec y.2 hy,e4,fun x v q=>mg_of X G q⟩⟩
theorem C1 {l:OpenLaw}{n k:Nat}{q:Program}{loose:List Str}{XP:(Str→Option Value)→Heap→Prop}{YP:World→Heap→Prop}{d:DefRec}{x:Str}{g:List D→Option D}
  (hn:l.most=some n) (hn2:n≤sizeLine) (hdf:d.params.defaults=[]) (hr:da k callerA)
  (F:∀ (w:World) (mg:Str→Option Value) (fa:Addr) (h:Heap),YP w h→h.Ns mainGlobals mg→mg d.name=some (.ref fa)→∃ K:Frag,K.In h∧nz K=true ∧
   ∃ fd:FuncData,(∀ (s:Shared) (u:Value),BindsTo s fd ⟨[u],[]⟩ [(x,u)])∧∀ base:Heap,K.In base→base.Ns mainGlobals mg→bu l.prog w K mg base CX0 k fa fd [x] (spD 1 g))
  (law:∀ ns:List Int,ns.length≤n→(∀ i ∈ ns,Builtin.Int.intBits i≤2 ^ 20)→g [.scr ns]=some (.bl true)):WalkO q loose XP YP l.row.toRowW d [] (fun f vs=>PySem.call f vs):=by
 intro w s₀ s₁ mg mb G Y fa o pm cd doc dV kV ho hd hcd hD hmg hg args vals as hpre hlay hrd hwl hlo
 obtain rfl:dV=.none:=Dflts.none hD hdf
 obtain rfl:kV=.none:=Dflts.noKw hD
 obtain ⟨a,vs,ns,rfl,rfl,hobj,hints,hlen⟩:=uq hn hpre hwl
 obtain ⟨K,KX,hK,fd,hb,hF⟩:=F w mg fa _ Y G.T.g hmg
 have run:=xu (CX:=CX0) (sp:=spD 1 g) KX G.T.g G.T.b G.T.builtins G.T.nolimit hg hobj hints (Fa hlen hn2) hr hF hb
  (fun H hO hS=>B4 (fun o ho=>pk hK ho) hS hO (law ns hlen (Ar hlay))) fun _ _ _ z=>z
 refine enter_call (GF run fun r s' hq=>?_)
 obtain ⟨rfl,h2,h3,h4⟩:=hq
 exact ⟨.inl ⟨.bool true,.bool true,[],rfl,fun _=>rfl,.bool true,uB l _,fun _=>⟨List.Pairwise.nil,fun _ hm=>(nomatch hm)⟩⟩,h2,h3,h4⟩
abbrev gX (p:Program):List Str:=(p.main.scope.names.map (·.1)).filter fun x => !(x == ("law" : Str))
theorem DJ {l:OpenLaw}{n k i N:Nat}{x:Str}{g:List D→Option D}{ds:List Nat}{zs:List Str}{cs:List (Str×Int)} {β:Type}{mo:Frag→β}{mb:β}{d:DefRec}
  (run:rL l.prog (view l.prog [i]) (gX l.prog) (fun s=>xlAt (view l.prog [i]) [] s && recOk [] s) (fun s=>iA l.prog ds zs cs mo (KH s.heap)) (pX l.prog ds zs cs mb) N)
  (said:PySem.W.Fast.tw9446332074065402090 l=true) (e:opening l.prog=plainProg l.prog.main.scope.names) (hN:Nat.ble 600 N=true) (f:∀ s,fenceModules? l.prog s=some s)
  (hdef:defOf (view l.prog [i]) l.name=some (d,[])) (hp:l.prog.theDef l.name=some (d.params,d.body,d.scope)) (hk:kwWritten? d.params.kwonlyargs d.params.kw_defaults=some [])
  (ok:(chainsOk (view l.prog [i]) && opensWell l.prog && (frees l.row.toRowW && l.row.within.isEmpty))=true) (hb:l.prog.bare) (hw:l.row.toRowW.promised)
  (hn:l.most=some n) (hn2:n≤sizeLine) (hdf:d.params.defaults=[]) (hr:da k callerA) (hnm:d.name=cV (dw l.prog i)) (hi:i ∈ ds)
  (F:∀ {w:World}{K:Frag}{mg:Str→Option Value} (T:TT l.prog ds zs cs mo mb K mg) (base:Heap),K.In base→base.Ns mainGlobals mg→bu l.prog w K mg base CX0 k (T.f i) (T.fd i) [x] (spD 1 g))
  (B:∀ (kV doc pm:Value) (an:Option Addr) (cdv ct:Value) (u:Value),bindArgs (fnOf (cV (dw l.prog i)) (cV (dw l.prog i)) (jB (dw l.prog i)) (dL (dw l.prog i)) (al (dw l.prog i)) .none kV doc pm an cdv ct) ⟨[u],[]⟩=pure [(x,u)])
  (law:∀ ns:List Int,ns.length≤n→(∀ i ∈ ns,Builtin.Int.intBits i≤2 ^ 20)→g [.scr ns]=some (.bl true)):l.Holds:=by
 have sd:l.wellSaid=true:=by rw [PySem.W.Fast.te9446332074065402090]; exact said
 refine holds_law sd fun k1=>holds_open (q:=view l.prog [i]) (loose:=gX l.prog) (Xt:=fun s=>xlAt (view l.prog [i]) [] s && recOk [] s) (XP:=XL (view l.prog [i]) []) (Yf:=fun s=>iA l.prog ds zs cs mo (KH s.heap)) (Ya:=fun _=>pX l.prog ds zs cs mb)
  (YP:=fun _ h=>∃ K:Frag,K.In h∧nz K=true∧iA l.prog ds zs cs mo K=pX l.prog ds zs cs mb) (N:=N) (d:=d) (kwd:=[])
  (zN e hN f run) (fun w s y=>⟨KH s.heap,Ec _,vG _,y⟩) (fun w h h' y kp=>?_) (fun s q=>xl_of s (Bool.and_eq_true_iff.mp q).1) XL.keeps hdef hp hk (fun s q=>recFacts_of (Bool.and_eq_true_iff.mp q).2) (G9 _) k1 ok hb hw ?_
 ·obtain ⟨K,a,b,c⟩:=y
  exact ⟨K,a.keeps kp,b,c⟩
 ·refine C1 (x:=x) hn hn2 hdf hr (fun w mg fa h Y G hm=>?_) law
  obtain ⟨K,a,b,c⟩:=Y
  obtain ⟨T⟩:=C3 (mg:=mg) a G c
  refine ⟨K,a,b,T.fd i,?_,?_⟩
  ·obtain ⟨oc,od,kV,doc,pm,an,cdv,ct,osl,q,_⟩:=(T.F i hi).ex
   rw [q]
   exact fun s u=>.of_eq (B kV doc pm an cdv ct u)
  ·have:=hm.symm.trans (hnm ▸ T.m i hi)
   cases this
   exact fun base kb nb=>F T base kb nb
end L2.Cu
namespace L2
open PySem
abbrev eD (C t:Addr):Obj:={ cls:=.ref C,data:=.fields #[.ref t,.none,.none,.none,.bool false,.none] }
section
variable {prog:Program}{w:World}{A:Around}{E:Value→Shared→Prop}{h:Heap}{g:Array GenState}{d:Drawn}{t:Nat}{os:OsState}
variable {nm q:Str}{C N:Addr}{bs bm bmB:List Value}{hdct:Bool}{sn:List Str}{sub:List Value}{ab:Bool}{col:Option Bool}{dd:Option Addr}{k0 k1 k2 k3 k5:Option Value}{B newId initId:String}
theorem lx (F:ExcBaseFacts B newId initId bmB) (T:OwnTail h bmB bm) {mN:Str→Option Value}{us:List Value}{fI:Addr}{oI:Obj}{Q:Fin→Shared→Prop}
  (hC:h.get? C=some (excClassObj nm q C N bs bm hdct sn sub ab col dd k0 k1 k2 k3 k5 newId)) (hN:h.Ns N mN) (hini:mN "__init__" = some (.ref fI)) (hfun:h.get? fI=some oI) (hcls:oI.cls=.type "function")
  (hrun:wpAny (model prog w) A (call (.ref fI) (.ref (h.objs.size + 1) :: us)) (fun r s'=>r=.none∧Q (.done (.ret (.ref (h.objs.size + 1)))) s') E ⟨(h.push { cls:=.type "tuple",data:=.seq us.toArray }).push (eD C h.objs.size),g,d,t,os⟩)
  (hus:us.length≤sizeLine):wpAny (model prog w) A (Builtin.«type.__call__» ⟨.ref C :: us,[]⟩) Q E ⟨h,g,d,t,os⟩:=by
 let t1:Obj:={ cls:=.type "tuple",data:=.seq us.toArray }
 let e1:Obj:={ cls:=.ref C,data:=.fields #[.ref h.objs.size,.none,.none,.none,.bool false,.none] }
 have kp:∀ b o,h.get? b=some o→((h.push t1).push e1).get? b=some o:=fun b o z=>EU e1 (EU t1 z)
 repeat (first | with_reducible refine FQ hC ?_ | with_reducible refine wpAny_madeBy_exc hC ?_ | wp_step)
 refine codeAny_call_builtin_code (G4 _ F.quiet) (wpAny_check_new_subT F T hC (codeAny_exc_new_subT F T hC ?_ hus))
 show wpAny _ _ _ _ _ _
 have hC1:=kp _ _ hC
 have hget:((h.push t1).push e1).get? (h.objs.size + 1)=some e1:=by heap_get
 have hself:(Value.ref C :: bm).contains (.ref C)=true:=by simp
 unfold isInstance
 repeat (first | with_reducible refine FQ hget ?_ | (with_reducible refine wpAny_isSubtype_exc hC1 ?_; rw [hself]) | wp_step)
 show wpAny _ _ (typeLookup (.ref C) _) _ _ _
 refine wpAny_typeLookup_tail hC1 (hN.keeps kp) (T.keeps kp) F.mroIs F.init.lookup ?_
 rw [hini]
 refine GJ (ET ?_)
 unfold bindSpecial
 refine ET (GW (T := "function") ⟨_,kp _ _ hfun,hcls⟩ ?_)
 rw [if_pos (by decide)]
 refine EY (ET (FG hrun (fun r s' z=>?_) fun _ _ z=>z))
 obtain ⟨rfl,hQ⟩:=z
 wp_walk
 exact hQ
theorem xR (F:ExcBaseFacts B newId initId bmB) (T:OwnTail h bmB bm) {mN:Str→Option Value}{us:List Value}{fI:Addr}{oI:Obj}{Q:Value→Shared→Prop}
  (hC:h.get? C=some (excClassObj nm q C N bs bm hdct sn sub ab col dd k0 k1 k2 k3 k5 newId)) (hN:h.Ns N mN) (hini:mN "__init__" = some (.ref fI)) (hfun:h.get? fI=some oI) (hcls:oI.cls=.type "function")
  (hrun:wpAny (model prog w) (A.under (.builtin "type.__call__" ⟨.ref C :: us,[]⟩)) (call (.ref fI) (.ref (h.objs.size + 1) :: us)) (fun r s'=>r=.none∧Q (.ref (h.objs.size + 1)) s') E ⟨(h.push { cls:=.type "tuple",data:=.seq us.toArray }).push (eD C h.objs.size),g,d,t,os⟩)
  (hus:us.length≤sizeLine):wpAny (model prog w) A (call (.ref C) us) Q E ⟨h,g,d,t,os⟩:=by
 have c1:=tc_lookup
 have c2:=tc_bind (.ref C)
 have hT:(⟨h,g,d,t,os⟩:Shared).TypeIs (.ref C) "type" := ⟨_,hC,rfl⟩
 refine H9 (codeAny_of_tree ?_)
 show wpAny _ _ (callAny (.ref C) _) _ _ _
 repeat (any_goals (first | assumption | with_reducible refine FQ hC ?_ | wp_step))
 refine ⟨rfl,codeAny_call_builtin_at (G4 _ (by decide +kernel)) entry_typeCall (wpAny_check_type_call_sub hC (lx F T hC hN hini hfun hcls ?_ hus))⟩
 exact hrun
end
open PySem PySem.W
open Builtin Builtin.ObjectAttr
section
variable {prog:Program}{w:World}{A:Around}{E:Value→Shared→Prop}{s:Shared}{K:Frag}{x C:Addr}{mA:Str→Option Value}{cd:ClassData}{name:Str}{v:Value}
theorem kJ {R:Fin→Shared→Prop}{tk:Tok}{b:Bool}{ns:List Str} (X:K.In s.heap) (I:s.heap.Inst x C mA) (hc:clsIn K C=some cd) (hd:cd.hasDict=true) (hw:Within mA ns) (hz:ns.length≤1000)
  (h:∀ h' tk',h'.Inst x C (fun y=>if y=name then some v else mA y) →
   (∀ b o,b ≠ x→(∀ o₀ dx,s.heap.get? x=some o₀→o₀.dict=some dx→b ≠ dx)→s.heap.get? b=some o→h'.get? b=some o) →
   (∀ o₀,s.heap.get? x=some o₀→∃ dx,h'.get? x=some { o₀ with dict:=some dx }∧(o₀.dict=some dx∨o₀.dict=none∧s.heap.objs.size≤dx))→R (.done (.ret .none)) { s with heap:=h',toks:=tk' }) :
  wpAny (model prog w) A (storeInOwnDict (.ref x) (.ref C) (.str name tk) name v b) R E s:=by
 obtain ⟨o,hx,hcl,hnc,hdict⟩:=I
 obtain ⟨hh,g,dr,tt,os⟩:=s
 unfold storeInOwnDict ownDictForStores instanceDict
 refine ET (EY (ET (ET (wpAny_loadPart hx ?_))))
 rw [hcl]
 refine ET ((looks_clsIn X hc).here ?_)
 rw [hd]
 rcases hdict with ⟨e0,hm0⟩ | ⟨dx,e1,hne,hns⟩
 ·rw [e0,if_neg (by decide)]
  show wpAny _ _ (if (!true || !typeHasDict (Value.ref C))=true then pure none else _) _ _ _
  rw [if_neg (by simp [typeHasDict])]
  have hxs:x ≠ hh.objs.size:=Fh (E6 hx)
  have hx1:(hh.push { cls:=.type "dict",data:=.dict #[] }).get? x=some o:=EU _ hx
  split
  ·rename_i c hcd
   exact absurd hcd (hnc c)
  ·refine ET (wpAny_alloc' (ET (wpAny_update' hx1 (EY ?_))))
   have hgd:((hh.push { cls:=.type "dict",data:=.dict #[] }).update x fun o=>{ cls:=o.cls,dict:=some hh.objs.size,data:=o.data,slots:=o.slots }).get? hh.objs.size=some { cls:=.type "dict",data:=.dict #[] } :=
    (Heap.get?_update_ne _ _ _ _ hxs.symm).trans (Heap.get?_push_at rfl rfl)
   have hnd:((hh.push { cls:=.type "dict",data:=.dict #[] }).update x fun o=>{ cls:=o.cls,dict:=some hh.objs.size,data:=o.data,slots:=o.slots }).Ns hh.objs.size (fun _=>none) :=
    ⟨_,#[],_,hgd,rfl,fun e he=>absurd he (by simp),fun _=>rfl⟩
   show wpAny _ _ (storeInDict hh.objs.size (.str name tk) name v) _ _ _
   unfold storeInDict newKeyGuard
   refine ET (EY (ET (wpAny_nsSet1 (Heap.Ns1.of_empty hnd) fun h' n1 sb=>?_)))
   obtain ⟨oD,esD,epD,hoD,hdD,hcD⟩:=n1.count (Within.cons name v Within.nil)
   refine ET (wpAny_lookBehind hoD (by rw [hdD]; exact pastItsLine_dict (Fa hcD (by rw [EL,EM,Hi]; omega))) ?_)
   refine EY ?_
   have hx':h'.get? x=some { o with dict:=some hh.objs.size }:=by
    refine (sb.2 x hxs).trans (FD _ hx1 ?_)
    have hfr:=(Heap.get?_some_iff.mp hx).2
    obtain ⟨oc,od,odt,osl⟩:=o
    cases odt <;> first | rfl | exact hfr
   refine h h' _ ⟨_,hx',hcl,hnc,.inr ⟨hh.objs.size,rfl,hxs.symm,?_⟩⟩ (fun b ob hbx _ hb=>?_) fun o₀ q=>?_
   ·obtain ⟨o',es,ep,a1,a2,a3,au,a4⟩:=n1
    exact ⟨o',es,ep,a1,a2,a3,au,fun y=>by rw [a4 y]; by_cases hy:y=name <;> simp [hy,hm0]⟩
   ·exact (sb.2 b (Fh (E6 hb))).trans ((Heap.get?_update_ne _ _ _ _ hbx).trans (EU _ hb))
   ·obtain rfl:o=o₀:=E4 (hx.symm.trans q)
    exact ⟨hh.objs.size,hx',.inr ⟨e0,E9 _⟩⟩
 ·rw [e1,if_neg (by decide)]
  refine EY ?_
  show wpAny _ _ (storeInDict dx (.str name tk) name v) _ _ _
  unfold storeInDict newKeyGuard
  refine ET (EY (ET (wpAny_nsSet1 hns fun h' n1 sb=>?_)))
  obtain ⟨oD,esD,epD,hoD,hdD,hcD⟩:=n1.count (Within.cons name v hw)
  refine ET (wpAny_lookBehind hoD (by rw [hdD]; exact pastItsLine_dict (Fa hcD (by rw [EL,Hi]; omega))) ?_)
  refine EY ?_
  refine h h' _ ⟨o,(sb.2 x hne.symm).trans hx,hcl,hnc,.inr ⟨dx,e1,hne,n1⟩⟩ (fun b ob _ hbd hb=>(sb.2 b (hbd o dx hx e1)).trans hb) fun o₀ q=>?_
  obtain rfl:o=o₀:=E4 (hx.symm.trans q)
  refine ⟨dx,?_,.inl e1⟩
  rw [show ({ o with dict:=some dx }:Obj)=o by rw [← e1]]
  exact (sb.2 x hne.symm).trans hx
theorem vb {Q:Unit→Shared→Prop}{ns:List Str} (X:K.In s.heap) (I:s.heap.Inst x C mA) (hc:clsIn K C=some cd) (hp:∀ self,refuseLoop self "__setattr__" cd.mro=pure ()) (ho:cd.mro.contains (.type "object")=true) (hd:cd.hasDict=true)
  (hs:findIn K (.ref C) "__setattr__" = some (some (.builtin "object.__setattr__"))) (hn:findIn K (.ref C) name=some none) (hw:Within mA ns) (hz:ns.length≤1000)
  (h:∀ h' tk',h'.Inst x C (fun y=>if y=name then some v else mA y) →
   (∀ b o,b ≠ x→(∀ o₀ dx,s.heap.get? x=some o₀→o₀.dict=some dx→b ≠ dx)→s.heap.get? b=some o→h'.get? b=some o) →
   (∀ o₀,s.heap.get? x=some o₀→∃ dx,h'.get? x=some { o₀ with dict:=some dx }∧(o₀.dict=some dx∨o₀.dict=none∧s.heap.objs.size≤dx))→Q () { s with heap:=h',toks:=tk' }) :
  wpAny (model prog w) A (setAttr (.ref x) name v) Q E s:=by
 obtain ⟨o,hx,hcl,hnc,hdict⟩:=id I
 have hno:notCls o=true:=by
  unfold notCls
  split
  ·rename_i c q
   exact absurd q (hnc c)
  ·rfl
 obtain ⟨od,IA⟩:∃ od,InstAt s.heap x o C od:=by
  rcases hdict with ⟨e0,_⟩ | ⟨dx,e1,_,hns⟩
  ·exact ⟨none,hx,hcl,hno,by rw [e0]; trivial⟩
  ·obtain ⟨od,es,ep,e,_⟩:=hns
   exact ⟨some od,hx,hcl,hno,by rw [e1]; exact e⟩
 have SF:=PySem.F.store_object
 have hmro:Looks (model prog w) s.heap (mroOf (.ref C)) cd.mro:=(looks_clsIn X hc).andThen .now
 have ne:cd.mro.isEmpty=false:=by
  cases q:cd.mro with
  | nil=>rw [q] at ho; cases ho
  | cons _ _=>rfl
 have sub:Looks (model prog w) s.heap (isInstance (.ref x) (.type "object")) true:=IA.type.andThen (looks_mroIn X (by unfold mroIn; rw [hc,EG,if_neg (by rw [ne]; decide),ho]))
 refine set_plain X IA hs (GN SF.slot.plain SF.entry (@check_slot (model prog w) _ _ { s with toks:=s.toks + 1 } "object.__setattr__" "object" "__setattr__" (.ref x) [.str name s.toks,v] [] _ SF.kind SF.split sub (SF.args (.ref x) (.str name s.toks) v) ?_))
 rw [osa_eq,refuse_eq]
 refine ET (ET (IA.type _ _ _ _ (fun _ _ e=>e) (ET (hmro _ _ _ _ (fun _ _ e=>e) ?_))))
 rw [hp]
 refine EY (ET (IA.type _ _ _ _ (fun _ _ e=>e) (ET (looks_findIn X hn _ _ _ _ (fun _ _ e=>e) ?_))))
 refine ET (EY ?_)
 exact kJ (s:={ s with toks:=s.toks + 1 }) X I hc hd hw hz fun h' tk' i1 i2 i3=>h h' tk' i1 i2 i3
end
section
variable {prog:Program}{w:World}{A:Around}{E:Value→Shared→Prop}{h:Heap}{g:Array GenState}{dr:Drawn}{t:Nat}{os:OsState}{K:Frag}{x C:Addr}{mA:Str→Option Value}{cd:ClassData}{name:Str}{v:Value}
theorem lkF {M:Model}{r:Option Value}{n:Str}{Q:Option Value→Shared→Prop} (X:K.In h) (e:findIn K (.ref C) n=some r) (q:Q r ⟨h,g,dr,t,os⟩):wpAny M A (typeLookup (.ref C) n) Q E ⟨h,g,dr,t,os⟩:=looks_findIn X e _ _ _ _ (fun _ _ z=>z) q
theorem lkC {M:Model}{Q:ClassData→Shared→Prop} (X:K.In h) (e:clsIn K C=some cd) (q:Q cd ⟨h,g,dr,t,os⟩):wpAny M A (classData C) Q E ⟨h,g,dr,t,os⟩:=looks_clsIn X e _ _ _ _ (fun _ _ z=>z) q
theorem kK {Q:Fin→Shared→Prop}{tk:Tok} (X:K.In h) (I:h.Inst x C mA) (hc:clsIn K C=some cd) (hd:cd.hasDict=true) (hn:findIn K (.ref C) name=some none) (hv:mA name=some v)
  (q:Q (.done (.ret v)) ⟨h,g,dr,t,os⟩):wpAny (model prog w) A (Builtin.«object.__getattribute__» ⟨[.ref x,.str name tk],[]⟩) Q E ⟨h,g,dr,t,os⟩:=by
 obtain ⟨o,hx,hcl,hnc,hdict⟩:=I
 rcases hdict with ⟨_,hm0⟩ | ⟨dx,e1,hne,hns⟩
 ·rw [hm0 name] at hv; cases hv
 unfold Builtin.«object.__getattribute__»
 repeat (first | (with_reducible refine FQ hx ?_; rw [hcl]) | with_reducible refine lkF X hn ?_ | wp_step)
 split
 ·rename_i c hcd
  exact absurd hcd (hnc c)
 unfold instanceDict
 repeat (first | (with_reducible refine FQ hx ?_; rw [hcl]) | (with_reducible refine lkC X hc ?_; rw [hd]) | wp_step)
 rw [e1]
 repeat (first | (with_reducible refine wpAny_nsGet hns.ns ?_; rw [hv]) | wp_step)
 exact q
theorem xQ {Q:Value→Shared→Prop}{expr:Bool} (X:K.In h) (I:h.Inst x C mA) (hc:clsIn K C=some cd) (hd:cd.hasDict=true) (hb:cd.mro.contains (.type "BaseException")=true)
  (hga:findIn K (.ref C) "__getattribute__" = some (some (.builtin "BaseException.__getattribute__"))) (hgt:findIn K (.ref C) "__getattr__" = some none) (hn:findIn K (.ref C) name=some none) (hv:mA name=some v)
  (hh:handedOut v=pure v) (q:Q v ⟨h,g,dr,t + 1,os⟩):wpAny (model prog w) A (getAttr (.ref x) name expr) Q E ⟨h,g,dr,t,os⟩:=by
 obtain ⟨o,hx,hcl,_⟩:=id I
 have hx0:(expr && onTheHeap (Value.builtin "BaseException.__getattribute__"))=false:=by cases expr <;> rfl
 have hx1:(onTheHeap (Value.ref C) && Value.builtin "BaseException.__getattribute__" == Value.builtin "object.__getattribute__")=false:=by
  rw [show (Value.builtin "BaseException.__getattribute__" == Value.builtin "object.__getattribute__")=false by decide +kernel]; rfl
 have hbs:bindSpecial (.builtin "BaseException.__getattribute__") (.ref x)=pure (.builtin "BaseException.__getattribute__",[.ref x]):=(GC).ga.bind (.ref x)
 unfold getAttr getAttrBy
 repeat (first | (with_reducible refine FQ hx ?_; rw [hcl]) | with_reducible refine lkF X hga ?_ | with_reducible refine lkF X hgt ?_ | wp_step)
 have IA:Looks (model prog w) h (typeOf (.ref x)) (.ref C):=(Looks.ld (part:=none) hx).andThen (by rw [hcl]; exact .now)
 have ne:cd.mro.isEmpty=false:=by
  cases z:cd.mro with
  | nil=>rw [z] at hb; cases hb
  | cons _ _=>rfl
 have sub:Looks (model prog w) h (isInstance (.ref x) (.type "BaseException")) true:=IA.andThen (looks_mroIn X (by unfold mroIn; rw [hc,EG,if_neg (by rw [ne]; decide),hb]))
 have hk:builtinKind "BaseException.__getattribute__" = some .slot:=by decide +kernel
 have hsp:splitId "BaseException.__getattribute__" = some ("BaseException","__getattribute__"):=by decide +kernel
 refine GN (GC).ga.plain PySem.F.entry_bexc_ga (@check_slot (model prog w) _ _ ⟨h,g,dr,t + 1,os⟩ "BaseException.__getattribute__" "BaseException" "__getattribute__" (.ref x) [.str name t] [] _ hk hsp sub (PySem.F.args_bexc_ga (.ref x) (.str name t)) ?_)
 refine kK X I hc hd hn hv ?_
 show wpAny _ _ (handedOut v) _ _ _
 rw [hh]
 exact EY q
end
structure Kp (fs xs:List Addr) (h h':Heap):Prop where
 keep:∀ b o,b ∉ fs→b ∉ xs→h.get? b=some o→h'.get? b=some o
 slot:∀ b o,b ∈ fs→b ∉ xs→h.get? b=some o→∃ sl,h'.get? b=some { o with slots:=sl }
theorem Kp.trans {fs xs:List Addr}{h h1 h2:Heap} (a:Kp fs xs h h1) (b:Kp fs xs h1 h2):Kp fs xs h h2 :=
 ⟨fun c o n1 n2 e=>b.keep c o n1 n2 (a.keep c o n1 n2 e),fun c o n1 n2 e=>by
  obtain ⟨sl,e1⟩:=a.slot c o n1 n2 e
  obtain ⟨sl',e2⟩:=b.slot c _ n1 n2 e1
  exact ⟨sl',e2⟩⟩
theorem Kp.wide {fs fs' xs xs':List Addr}{h h':Heap} (a:Kp fs xs h h') (h1:∀ b ∈ fs,b ∈ fs') (h2:∀ b ∈ xs,b ∈ xs'):Kp fs' xs' h h' :=
 ⟨fun c o n1 n2 e=>a.keep c o (fun z=>n1 (h1 c z)) (fun z=>n2 (h2 c z)) e,fun c o n1 n2 e=>by
  by_cases hc:c ∈ fs
  ·exact a.slot c o hc (fun z=>n2 (h2 c z)) e
  ·exact ⟨o.slots,a.keep c o hc (fun z=>n2 (h2 c z)) e⟩⟩
theorem Kp.funs {base:Heap}{xs:List Addr}{h h':Heap}{l:List Env}{fs:List Addr} (k:Kp fs xs h h') (hl:h.FunFrames base l) (hx:∀ b o,b ∈ xs→h.get? b=some o→∃ vs,o.data=.fields vs):h'.FunFrames base l :=
 hl.of_keeps fun b o e hn=>by
  have hb:b ∉ xs:=fun z=>by
   obtain ⟨vs,q⟩:=hx b o z e
   exact hn vs q
  by_cases hf:b ∈ fs
  ·obtain ⟨sl,e'⟩:=k.slot b o hf hb e
   exact ⟨_,e',rfl⟩
  ·exact ⟨o,k.keep b o hf hb e,rfl⟩
def Fly (h:Heap) (o0:Obj) (e T:Addr) (fl:Value):Prop :=
 ∃ vs oT ts,h.get? e=some { o0 with data:=.fields vs }∧vs[1]? = some (.ref T)∧T ≠ e∧h.get? T=some oT∧oT.data=.fields ts∧ts[3]? = some fl
section
variable {M:Model}{A:Around}{E:Value→Shared→Prop}{s:Shared}
theorem l9 {base h:Heap}{l:List Env}{e:Addr}{o:Obj}{vs:Array Value} (hl:h.FunFrames base l) (he:h.get? e=some o) (hd:o.data=.fields vs):e ∉ l.filterMap (·.frame):=fun hm=>by
 obtain ⟨_,o',ho,hnf⟩:=hl.mem hm
 rw [he] at ho
 cases ho
 exact hnf vs hd
theorem kR {base:Heap}{env:Env}{outer:List Env}{L e:Addr}{o0:Obj}{vs:Array Value}{head:Value}{nx:Bool}{Q:Unit→Shared→Prop}
  (hfr:A.frames=some (env :: outer)) (hl:s.heap.FunFrames base (env :: outer)) (hf:env.frame=some L) (he:s.heap.get? e=some { o0 with data:=.fields vs }) (hsz:1 < vs.size)
  (h:∀ h' T,Kp ((env :: outer).filterMap (·.frame)) [e] s.heap h'→s.heap.objs.size≤T→Fly h' o0 e T (rawInt L)→Q () { s with heap:=h' }) :
  wpAny M A (do let a ← frameOf env; let pl ← entryPlaceOf L nx; let b ← EntryCells.newEntry head a .none (rawInt L) .none pl; setField (.ref e) 1 b) Q E s:=by
 have hene:=l9 hl he rfl
 refine ET (wpAny_frameOf_fun hfr hl hf fun h1 so=>?_)
 refine ET (wpAny_entryPlaceOf fun pl hpl=>?_)
 unfold EntryCells.newEntry newFields
 refine ET (FI ?_ (hpl.sizeOk5 _ _ _ _ _))
 have he1:h1.get? e=some { o0 with data:=.fields vs }:=(so.2.1 e hene).trans he
 generalize hO:({ cls:=.type "traceback",dict:=none,data:=.fields ([head,.ref L,.none,rawInt L,.none] ++ (if pl.isEmpty then List.replicate 6 Value.none else pl)).toArray }:Obj)=O
 have he2:=EU (h:=h1) O he1
 have hne:h1.objs.size ≠ e:=Hd (E6 he1)
 refine Gj he2 rfl hsz ?_
 have he3:=FD (Obj.mapFields (·.setIfInBounds 1 (Value.ref h1.objs.size))) he2 (Gg (FC rfl _))
 have hT:((h1.push O).update e (Obj.mapFields (·.setIfInBounds 1 (Value.ref h1.objs.size)))).get? h1.objs.size=some O :=
  (Ft _ _ (Ne.symm hne)).trans (EZ h1 (by rw [← hO]; rfl))
 have hsize:s.heap.objs.size≤h1.objs.size:=Hz so.1.symm
 refine h _ h1.objs.size ⟨fun b o nb nx' q=>?_,fun b o hb nx' q=>?_⟩ hsize ⟨_,O,_,he3,by simp [hsz],hne,hT,by rw [← hO],?_⟩
 ·have hbe:b ≠ e:=fun z=>nx' (by simp [z])
  rw [Ft _ _ (Ne.symm hbe)]
  exact EU _ ((so.2.1 b nb).trans q)
 ·have hbe:b ≠ e:=fun z=>nx' (by simp [z])
  obtain ⟨sl,q1⟩:=so.2.2 b o q
  refine ⟨sl,?_⟩
  rw [Ft _ _ (Ne.symm hbe)]
  exact EU _ q1
 ·simp
theorem kl {base:Heap}{env:Env}{outer:List Env}{L e:Addr}{o0:Obj}{vs:Array Value}{Q:Unit→Shared→Prop}
  (hfr:A.frames=some (env :: outer)) (hl:s.heap.FunFrames base (env :: outer)) (hf:env.frame=some L) (he:s.heap.get? e=some { o0 with data:=.fields vs }) (h1:vs[1]? = some .none)
  (h:∀ h' T,Kp ((env :: outer).filterMap (·.frame)) [e] s.heap h'→s.heap.objs.size≤T→Fly h' o0 e T (rawInt L)→Q () { s with heap:=h' }):wpAny M A (noteFrame (.ref e) env) Q E s:=by
 unfold noteFrame
 simp only [hf]
 refine ET (Ga he rfl h1 ?_)
 rw [if_neg (by decide)]
 exact kR hfr hl hf he (Array.getElem?_eq_some_iff.mp h1).1 h
theorem l8 {base:Heap}{env:Env}{outer:List Env}{L e T:Addr}{o0:Obj}{Q:Unit→Shared→Prop}
  (hfr:A.frames=some (env :: outer)) (hl:s.heap.FunFrames base (env :: outer)) (hf:env.frame=some L) (he:Fly s.heap o0 e T .none)
  (h:∀ h' T',Kp ((env :: outer).filterMap (·.frame)) [e,T] s.heap h'→s.heap.objs.size≤T'→Fly h' o0 e T' (rawInt L)→Q () { s with heap:=h' }):wpAny M A (noteFrame (.ref e) env) Q E s:=by
 obtain ⟨vs,oT,ts,q1,q2,hTe,q3,q4,q5⟩:=he
 unfold noteFrame
 simp only [hf]
 refine ET (Ga q1 rfl q2 ?_)
 rw [if_pos (show (Value.ref T != Value.none)=true from by simp)]
 refine ET (Ga q3 q4 q5 ?_)
 rw [if_neg (show ¬ ((Value.none == rawInt L)=true) from by simp [rawInt])]
 refine ET (Gj q3 q4 (Array.getElem?_eq_some_iff.mp q5).1 ?_)
 have oth:∀ b,b ≠ T→(s.heap.update T (Obj.mapFields (·.setIfInBounds 3 Value.none))).get? b=s.heap.get? b:=fun b hb=>Ft _ _ (Ne.symm hb)
 have k0:Kp ((env :: outer).filterMap (·.frame)) [e,T] s.heap (s.heap.update T (Obj.mapFields (·.setIfInBounds 3 Value.none))) :=
  ⟨fun b o _ nx q=>(oth b fun z=>nx (by simp [z])).trans q,fun b o _ nx q=>⟨o.slots,(oth b fun z=>nx (by simp [z])).trans q⟩⟩
 refine kR hfr (k0.funs hl fun b o hb q=>?_) hf ((oth e (Ne.symm hTe)).trans q1) (Array.getElem?_eq_some_iff.mp q2).1 fun h' T' k1 k2 k3=>h h' T' (k0.trans (k1.wide (fun _ z=>z) fun b z=>by simp at z; simp [z])) ?_ k3
 ·rcases List.mem_cons.mp hb with rfl | hb
  ·rw [q1] at q; cases q; exact ⟨vs,rfl⟩
  ·rw [List.mem_singleton.mp hb,q3] at q; cases q; exact ⟨ts,q4⟩
 ·have:(s.heap.update T (Obj.mapFields (·.setIfInBounds 3 Value.none))).objs.size=s.heap.objs.size:=by simp [Heap.update]
  rw [← this]; exact k2
theorem fu {e T:Addr}{o0:Obj}{fl:Value}{Q:Unit→Shared→Prop} (he:Fly s.heap o0 e T fl)
  (h:∀ h',Kp [] [T] s.heap h'→h'.objs.size=s.heap.objs.size→Fly h' o0 e T .none→Q () { s with heap:=h' }):wpAny M A (setFlight (.ref e) none) Q E s:=by
 obtain ⟨vs,oT,ts,q1,q2,hTe,q3,q4,q5⟩:=he
 have hz:3 < ts.size:=(Array.getElem?_eq_some_iff.mp q5).1
 have oth:∀ b,b ≠ T→(s.heap.update T (Obj.mapFields (·.setIfInBounds 3 ((none:Option Addr).elim Value.none fun f=>rawInt f)))).get? b=s.heap.get? b:=fun b hb=>Ft _ _ (Ne.symm hb)
 unfold setFlight
 refine ET (Ga q1 rfl q2 ?_)
 rw [if_pos (show (Value.ref T != Value.none)=true from by simp)]
 refine Gj q3 q4 hz (h _ ⟨fun b o _ nx q=>(oth b fun z=>nx (by simp [z])).trans q,fun b o hb=>by cases hb⟩ (by simp [Heap.update]) ?_)
 exact ⟨vs,_,_,(oth e (Ne.symm hTe)).trans q1,q2,hTe,FD _ q3 (Gg (FC q4 _)),FC q4 _,by simp [hz]⟩
theorem pG {base:Heap}{env:Env}{outer:List Env}{L e:Addr}{o0:Obj}{vs:Array Value}{Q:Unit→Shared→Prop}
  (hfr:A.frames=some (env :: outer)) (hl:s.heap.FunFrames base (env :: outer)) (hf:env.frame=some L) (he:s.heap.get? e=some { o0 with data:=.fields vs }) (h1:vs[1]? = some .none)
  (h:∀ h' T,Kp ((env :: outer).filterMap (·.frame)) [e] s.heap h'→s.heap.objs.size≤T→Fly h' o0 e T .none→Q () { s with heap:=h' }):wpAny M A (leaving env (.ref e)) Q E s:=by
 unfold leaving
 refine ET (kl hfr hl hf he h1 fun h' T k1 k2 k3=>fu k3 fun h'' j1 _ j3=>h h'' T ?_ k2 j3)
 refine ⟨fun b o n1 n2 q=>j1.keep b o (by simp) (fun z=>?_) (k1.keep b o n1 n2 q),fun b o n1 n2 q=>?_⟩
 ·rw [List.mem_singleton.mp z] at q
  exact absurd (E6 q) (Nat.not_lt.mpr k2)
 ·obtain ⟨sl,q1⟩:=k1.slot b o n1 n2 q
  refine ⟨sl,j1.keep b _ (by simp) (fun z=>?_) q1⟩
  rw [List.mem_singleton.mp z] at q
  exact absurd (E6 q) (Nat.not_lt.mpr k2)
theorem qZ {base:Heap}{env:Env}{outer:List Env}{L e T:Addr}{o0:Obj}{Q:Unit→Shared→Prop}
  (hfr:A.frames=some (env :: outer)) (hl:s.heap.FunFrames base (env :: outer)) (hf:env.frame=some L) (he:Fly s.heap o0 e T .none)
  (h:∀ h' T',Kp ((env :: outer).filterMap (·.frame)) [e,T] s.heap h'→s.heap.objs.size≤T'→Fly h' o0 e T' .none→Q () { s with heap:=h' }):wpAny M A (leaving env (.ref e)) Q E s:=by
 unfold leaving
 refine ET (l8 hfr hl hf he fun h' T' k1 k2 k3=>fu k3 fun h'' j1 _ j3=>h h'' T' ?_ k2 j3)
 refine ⟨fun b o n1 n2 q=>j1.keep b o (by simp) (fun z=>?_) (k1.keep b o n1 n2 q),fun b o n1 n2 q=>?_⟩
 ·rw [List.mem_singleton.mp z] at q
  exact absurd (E6 q) (Nat.not_lt.mpr k2)
 ·obtain ⟨sl,q1⟩:=k1.slot b o n1 n2 q
  refine ⟨sl,j1.keep b _ (by simp) (fun z=>?_) q1⟩
  rw [List.mem_singleton.mp z] at q
  exact absurd (E6 q) (Nat.not_lt.mpr k2)
end
open PySem PySem.Spec PyProof.Rows
section
variable {X:Cx}{pins:List (Addr×Obj)} {σ:St}{H:Hp}{s:Shared}{h':Heap}{ch:List Addr}
theorem Inv.recd (I:Inv X pins σ H s) {b:Addr}{o:Obj}{vs:Array Value} (e:s.heap.get? b=some o) (hd:o.data=.fields vs):b ≠ X.env.locals∧(∀ x c,X.env.cells.lookup x=some c→c ≠ b)∧b ∉ frs X.stack:=by
 refine ⟨fun z=>?_,fun x c q z=>?_,l9 I.stack e hd⟩
 ·obtain ⟨m,⟨o',es,ep,ho',hd',_⟩,_⟩:=I.loc
  rw [← z,e] at ho'; cases ho'; rw [hd'] at hd; cases hd
 ·obtain ⟨v,o',ho',hd'⟩:=I.cell x c q
  rw [z,e] at ho'; cases ho'; rw [hd'] at hd; cases hd
theorem Inv.kp (I:Inv X pins σ H s) (k:Kp (frs X.stack) ch s.heap h')
  (hch:∀ b ∈ ch,X.s₀.heap.objs.size≤b∧(∃ o vs,s.heap.get? b=some o∧o.data=.fields vs)∧(∀ p ∈ X.pn ++ pins,p.1 ≠ b)∧H b=none):Inv X pins σ H { s with heap:=h' }:=by
 have trk:∀ b o,H b ≠ none→s.heap.get? b=some o→h'.get? b=some o:=fun b o n e=>k.keep b o (fun z=>n (I.stkFree b z)) (fun z=>n (hch b z).2.2.2) e
 refine I.step (ch:=ch) (fun b hb=>?_) (fun b o n1 n2 n3 e n=>?_) (fun b o n1 n2 n3 e n=>?_) (fun _ _ _ _ n=>n) (fun b o n3 e=>?_) (fun _ _ q=>q) (fun _ _ _ q=>q) (fun _ ps q=>⟨#[],by rw [q]; simp⟩) (fun m hm=>?_) (fun a o e=>?_) I.bare
 ·obtain ⟨a1,⟨o,vs,a2,a3⟩,a4,a5⟩:=hch b hb
  obtain ⟨b1,b2,_⟩:=I.recd a2 a3
  exact ⟨.inr a1,b1,b2,a4⟩
 ·exact k.keep b o (fun z=>by rcases List.mem_cons.mp (I.stkSub b z) with q | q; exact n1 q; exact n2 q) n3 e
 ·by_cases hb:b ∈ frs X.stack
  ·exact k.slot b o hb n3 e
  ·exact ⟨o.slots,k.keep b o hb n3 e⟩
 ·by_cases hb:b ∈ frs X.stack
  ·obtain ⟨sl,q⟩:=k.slot b o hb n3 e
   exact ⟨_,q⟩
  ·exact ⟨o,k.keep b o hb n3 e⟩
 ·obtain ⟨o,es,ep,e,hd,r⟩:=hm
  have nch:X.env.locals ∉ ch:=fun z=>by
   obtain ⟨_,⟨o',vs,a2,a3⟩,_⟩:=hch _ z
   rw [e] at a2; cases a2; rw [hd] at a3; cases a3
  by_cases hb:X.env.locals ∈ frs X.stack
  ·obtain ⟨sl,q⟩:=k.slot _ o hb nch e
   exact ⟨_,es,ep,q,hd,r⟩
  ·exact ⟨o,es,ep,k.keep _ o hb nch e,hd,r⟩
 ·exact (I.hok a o e).stay (fun b u hb q=>trk b u (fun z=>by
   rcases hb with rfl | hb
   ·rw [e] at z; cases z
   ·rw [hb] at z; cases z) q) (fun _ q=>q) fun _ _ q=>q
end
def Err (h:Heap) (H:Hp) (z:Nat) (ps:List (Addr×Obj)) (o0:Obj) (a:Addr):Prop :=
 (∃ vs,h.get? a=some { o0 with data:=.fields vs }∧vs[1]? = some .none)∨∃ T,Fly h o0 a T .none∧H T=none∧z≤T∧∀ p ∈ ps,p.1 ≠ T
structure A1 (H:Hp) (z:Nat) (o0:Obj) (a C dx:Addr):Prop where
 cls:o0.cls=.ref C
 dict:o0.dict=some dx
 ne:dx ≠ a
 free:H a=none
 new:z≤a
def CX1 (P:Program) (w:World):CXT:=fun outer H s E e s'=>∃ (a C dx T:Addr) (o0:Obj) (H':Hp),e=.ref a∧s'.os=s.os∧AllBare s'.gens∧Un (frs outer) [] H H' s.heap s'.heap∧HOk P w H' s'.heap ∧
 Fly s'.heap o0 a T .none∧H' T=none∧s.heap.objs.size≤T∧A1 H' s.heap.objs.size o0 a C dx∧E (.ref C) (some dx) H'
abbrev XW:=St→Value→Option Addr→Hp→Prop
def EX (X:Cx) (pins:List (Addr×Obj)) (W:XW) (e:Value) (s:Shared):Prop:=∃ (σ:St) (a C dx:Addr) (o0:Obj) (H:Hp),e=.ref a∧Inv X pins σ H s∧Err s.heap H X.s₀.heap.objs.size (X.pn ++ pins) o0 a∧A1 H X.s₀.heap.objs.size o0 a C dx∧(∀ p ∈ X.pn ++ pins,p.1 ≠ a)∧W σ (.ref C) (some dx) H
section
variable {P:Program}{w:World}{K:PySem.W.Frag}{mg:Str→Option Value}{base:Heap}{N:List Str}{qual:Str}{scope:Scope}{f:Addr}{cd:Value}{A:Around}{outer:List Env}{s₀:Shared}{H₀:Hp}{E:XK}
theorem Fly.recd {h:Heap}{o0:Obj}{e T:Addr}{fl:Value} (x:Fly h o0 e T fl):(∃ o vs,h.get? e=some o∧o.data=.fields vs)∧∃ o vs,h.get? T=some o∧o.data=.fields vs:=by
 obtain ⟨vs,oT,ts,q1,q2,q3,q4,q5,q6⟩:=x
 exact ⟨⟨_,vs,q1,rfl⟩,oT,ts,q4,q5⟩
theorem vc {pins:List (Addr×Obj)} {e:Value}{s:Shared} (x:EX (i5 (CX1 P w) P w K mg base N qual scope f cd A outer s₀ H₀ E) pins (fun _ c d H=>E c d H) e s):(i5 (CX1 P w) P w K mg base N qual scope f cd A outer s₀ H₀ E).xe e s:=by
 obtain ⟨σ,a,C,dx,o0,H,rfl,I,er,eo,hp,hw⟩:=x
 have hz:s₀.heap.objs.size≤s.heap.objs.size:=I.sz
 rcases er with ⟨vs,q1,q2⟩ | ⟨T,hf,hT,hTz,hTp⟩
 ·refine pG (base:=base) I.ok.frames I.stack rfl q1 q2 fun h' T k k2 k3=>?_
  have I':=I.kp (ch:=[a]) k fun b hb=>by
   rw [List.mem_singleton.mp hb]
   exact ⟨eo.new,⟨_,vs,q1,rfl⟩,hp,eo.free⟩
  exact ⟨a,C,dx,T,o0,H,rfl,I'.os,I'.bare,I'.base,I'.hok,k3,I.hok.fresh k2,Fa hz k2,eo,hw⟩
 ·refine qZ (base:=base) I.ok.frames I.stack rfl hf fun h' T' k k2 k3=>?_
  have I':=I.kp (ch:=[a,T]) k fun b hb=>by
   rcases List.mem_cons.mp hb with rfl | hb
   ·exact ⟨eo.new,hf.recd.1,hp,eo.free⟩
   ·rw [List.mem_singleton.mp hb]
    exact ⟨hTz,hf.recd.2,hTp,hT⟩
  exact ⟨a,C,dx,T',o0,H,rfl,I'.os,I'.bare,I'.base,I'.hok,k3,I.hok.fresh k2,Fa hz k2,eo,hw⟩
end
section
variable {X:Cx}{pins:List (Addr×Obj)} {σ:St}{H:Hp}{s s':Shared}{E:XK}{W:XW}{e:Value}
theorem Inv.raised (I:Inv X pins σ H s) (h:CX1 X.prog X.w X.stack H s E e s') (hE:∀ c d H',E c d H'→W σ c d H'):EX X pins W e s':=by
 obtain ⟨a,C,dx,T,o0,H',rfl,h1,h2,h3,h4,h5,h6,h7,h8,h9⟩:=h
 have hce:CE X.stack X.prog X.w H s (fun v H''=>H''=H') .none s':=⟨.non,H',h1,h2,h3,h4,rfl,rfl⟩
 obtain ⟨x,H'',I',_,rfl⟩:=I.after hce
 refine ⟨σ,a,C,dx,o0,_,rfl,I',.inr ⟨T,h5,h6,Fa I.sz h7,fun p hp z=>absurd (E6 (I.pin p hp).1) (by rw [z]; exact Nat.not_lt.mpr h7)⟩,⟨h8.cls,h8.dict,h8.ne,h8.free,Fa I.sz h8.new⟩,fun p hp z=>?_,hE _ _ _ h9⟩
 have q:=(I.pin p hp).1
 exact absurd (E6 q) (by rw [z]; exact Nat.not_lt.mpr h8.new)
end
abbrev TEX:=St→Hp→VK→XW→Prop
abbrev TSX:=eZ→XW→St→Hp→Prop
def PEX (X:Cx) (e:Expr) (t:TEX):Prop :=
 ∀ (pins:List (Addr×Obj)) (s:Shared) (σ:St) (H:Hp) (Q:VK) (W:XW) (xe:Value→Shared→Prop),Inv X pins σ H s→t σ H Q W→(∀ e s',EX X pins W e s'→xe e s')→wpAny (model X.prog X.w) X.A (eval e X.env) (EP X pins σ Q) xe s
def PSX (X:Cx) (st:Stmt) (t:TSX):Prop :=
 ∀ (pins:List (Addr×Obj)) (s:Shared) (σ:St) (H:Hp) (D:eZ) (W:XW) (xe:Value→Shared→Prop),Inv X pins σ H s→t D W σ H→(∀ e s',EX X pins W e s'→xe e s')→wpAny (model X.prog X.w) X.A (exec st X.env) (SP X pins D) xe s
def i8 (X:Cx) (st:List Stmt) (t:TSX):Prop :=
 ∀ (pins:List (Addr×Obj)) (s:Shared) (σ:St) (H:Hp) (D:eZ) (W:XW) (xe:Value→Shared→Prop),Inv X pins σ H s→t D W σ H→(∀ e s',EX X pins W e s'→xe e s')→wpAny (model X.prog X.w) X.A (execs st X.env) (SP X pins D) xe s
section
variable {X:Cx}{st:Stmt}{bI:List Stmt}{t:TS}{e:Expr}{pos:Pos}
theorem BD (h:PS X.nox st t):PSX X st (fun D _ σ H=>t D σ H):=fun pins s σ H D W xe I hw _ =>
 FG (h pins s σ H D (I.wish _) hw) (fun _ _ q=>q.unwish) fun _ _ z=>False.elim z
theorem ze (h:PSs X.nox bI t):i8 X bI (fun D _ σ H=>t D σ H):=fun pins s σ H D W xe I hw _ =>
 FG (h pins s σ H D (I.wish _) hw) (fun _ _ q=>q.unwish) fun _ _ z=>False.elim z
theorem ux {t u:TSX} (h1:PSX X st t) (h2:i8 X bI u):i8 X (st :: bI) (fun D W σ H=>t { D with nx:=u D W } W σ H):=by
 intro pins s σ H D W xe I h hx
 refine HH (thn (h1 pins s σ H { D with nx:=u D W } W xe I h hx) fun f s1 q=>?_)
 cases f with
 | next =>
  obtain ⟨σ',H',I',q⟩:=q
  exact h2 pins s1 σ' H' D W xe I' q hx
 | ret v=>exact q
 | brk=>exact q
 | cont=>exact q
theorem wA {t:TSX} (h1:PSX X st t):i8 X [st] t:=by
 intro pins s σ H D W xe I h hx
 refine HH (thn (h1 pins s σ H D W xe I h hx) fun f s1 q=>?_)
 cases f with
 | next=>exact Hh q
 | ret v=>exact q
 | brk=>exact q
 | cont=>exact q
theorem BE {c:Expr}{a b:List Stmt}{tc:TT}{t u:TSX} (hc:PT X.nox c tc) (ha:i8 X a t) (hb:i8 X b u):PSX X (.If c a b pos) (fun D W σ H=>tc σ H fun b H1=>if b=true then t D W σ H1 else u D W σ H1):=by
 intro pins s σ H D W xe I h hx
 refine wpAny_If (FG (hc pins s σ H _ (I.wish _) h) (fun d s1 zz162_0=>?_) fun _ _ z=>False.elim z)
 obtain ⟨H1,I1,q1⟩:=zz162_0
 cases d with
 | true=>exact ha pins s1 σ H1 D W xe I1.unwish q1 hx
 | false=>exact hb pins s1 σ H1 D W xe I1.unwish q1 hx
theorem wB {te:TEX} (he:PEX X e te) (hs:swapsWith e none pos.line X.env=pure false:=by rfl):PSX X (.Expr e pos) (fun D W σ H=>te σ H (fun _ H1=>D.nx σ H1) W):=by
 intro pins s σ H D W xe I h hx
 exact wpAny_Expr_any (thn (he pins s σ H _ W xe I h hx) fun v s1 zz163_0=>by obtain ⟨x,H1,I1,r1,q1⟩:=zz163_0; exact ⟨σ,H1,I1,q1⟩) I.quiet hs
end
section
variable {X:Cx}{k:Nat}{f:Addr}{fd:FuncData}{ps:List Str}{sp:Sp}{x:Str}{p pos:Pos}{e:Expr}{es:List Expr}{t:TA}
theorem wN (F:bu X.prog X.w X.K X.mg X.base (CX1 X.prog X.w) k f fd ps sp) (hr:da k X.A) (hg:Gl X x) (hm:X.mg x=some (.ref f)) (hk:PySem.W.keepIn X.K (.ref f)=true) (hb:bC X.K fd ps [])
  (ha:PA X.nox (e :: es) t) (hdb:(x == ("__debug__" : Str))=false:=by decide) (he:starEach (e :: es) X.env=(false,eval e X.env) :: starEach es X.env:=by rfl) (hpl:(backTo pos (starEach es X.env)).any (·.1)=false:=by rfl) :
  PEX X (.Call (.Name x p) (e :: es) [] pos) (fun σ H Q W=>t σ H fun vs H1=>∃ E:XK,sp vs H1 Q E∧∀ c d H',E c d H'→W σ c d H'):=by
 intro pins s σ H Q W xe I h hx
 refine Go (iq I hg hm ?_ hdb)
 refine HL (h₀:=X.base) I.ok.mod.kin hk (FG (ha pos pins s σ H _ (I.wish _) h) (fun us s1 ⟨vs,H1,I1,r,q⟩=>⟨I1.unwish.kIn,?_⟩) fun _ _ z=>False.elim z) he hpl
 have I1:=I1.unwish
 obtain ⟨E,h1,hE⟩:=q
 have hl:us.length=ps.length:=by rw [← r.length]; exact F.len _ _ _ _ h1
 have hb':=hb s1 us I1.kIn (by rw [F9]; exact hl)
 rw [F9] at hb'
 refine H9 (GF (F.run X.A X.stack s1 H1 ⟨us,[]⟩ us vs Q E hr I1.env0 hb' r h1) fun r s' hq=>?_)
 cases r with
 | error e=>exact hx e s' (I1.raised hq hE)
 | ok fl =>
  cases fl with
  | ret u=>exact I1.after hq
  | next=>exact False.elim hq
  | brk=>exact False.elim hq
  | cont=>exact False.elim hq
end
theorem Cn {P:Program}{w:World}{K:PySem.W.Frag}{mg:Str→Option Value}{base:Heap}{k:Nat}{f:Addr}{name qual:Str}{params:Arguments}{body:List Stmt}{scope:Scope}{dV kV doc pm cdv ct oc:Value}{an od:Option Addr}
  {osl:Array (Option Value)} {N ps:List Str}{sp:Sp} (lk:K.lookup f=some ⟨oc,od,.func (PySem.W.fnOf name qual params body scope dV kV doc pm an cdv ct),osl⟩) (hcd:PySem.W.codeIn K cdv qual=true) (S:aM N ps scope)
  (len:∀ vs H Q E,sp vs H Q E→vs.length=ps.length)
  (hbody:∀ (A:Around) (outer:List Env) (s:Shared) (H:Hp) (vs:List V) (Q:VK) (E:XK),da k (A.deeper (envOfC qual scope s.heap.objs.size f cdv))→sp vs H Q E →
   ∃ t,i8 (i5 (CX1 P w) P w K mg base N qual scope f cdv A outer s H E) body t∧t { nx:=fun _ H'=>Q .non H',rt:=Q } (fun _ c d H'=>E c d H') (start N vs) H) :
  bu P w K mg base (CX1 P w) (k + 1) f (PySem.W.fnOf name qual params body scope dV kV doc pm an cdv ct) ps sp:=by
 refine AU lk hcd S len fun A outer s H vs Q E hr hs=>?_
 obtain ⟨t,h1,h2⟩:=hbody A outer s H vs Q E hr hs
 exact ⟨fun D σ H'=>t D (fun _ c d H'=>E c d H') σ H',fun pins s' σ H' D I h=>h1 pins s' σ H' D _ _ I h fun e s'' x=>vc x,h2⟩
structure k9 (K:PySem.W.Frag) (C:Addr) (cd:ClassData):Prop where
 cls:PySem.W.clsIn K C=some cd
 pass:∀ self,refuseLoop self "__setattr__" cd.mro=pure ()
 obj:cd.mro.contains (.type "object")=true
 exc:cd.mro.contains (.type "BaseException")=true
 hd:cd.hasDict=true
 sa:PySem.W.findIn K (.ref C) "__setattr__" = some (some (.builtin "object.__setattr__"))
 ga:PySem.W.findIn K (.ref C) "__getattribute__" = some (some (.builtin "BaseException.__getattribute__"))
 gt:PySem.W.findIn K (.ref C) "__getattr__" = some none
def er0 (e C t:Addr) (h:Heap):Prop:=h.get? e=some (eD C t)
def er1 (e C t dx:Addr) (h:Heap):Prop:=h.get? e=some { eD C t with dict:=some dx }
section
variable {X:Cx}{o value:Expr}{ta tv:TE}{f:Str}{pos pos':Pos}
def sXf (K:PySem.W.Frag) (ta tv:TE) (f:Str):TS:=fun D σ H=>tv σ H fun y H1=>ta σ H1 fun x H2=>∃ e C t cd,x=.ref e∧H2 e=some (.ext (er0 e C t))∧k9 K C cd∧PySem.W.findIn K (.ref C) f=some none ∧
 ∀ dx,H2 dx=none→dx ≠ e→D.nx σ (upd (upd H2 e (.ext (er1 e C t dx))) dx (.xd [(f,y)]))
theorem DA (ha:PE X o ta) (hv:PE X value tv) (hs:swapsWith value (some (.Attribute o f pos')) pos.line X.env=pure false):PS X (.Assign [.Attribute o f pos'] value pos) (sXf X.K ta tv f):=by
 intro pins s σ H D I h
 refine plainObj_wpAny_Assign_Attribute (thn (hv pins s σ H _ I h) fun u s1 ⟨y,H1,I1,ry,q⟩=>thn (ha pins s1 σ H1 _ I1 q) fun ov s2 zz166_0=>?_) hs
 obtain ⟨x,H2,I2,rx,e,C,t,cd,ex,ee,c,hn,q2⟩:=zz166_0
 subst ex
 obtain rfl:ov=Value.ref e:=rx
 have he:s2.heap.get? e=some (eD C t):=(I2.hok e _ ee).1
 have hI:s2.heap.Inst e C (fun _=>none):=⟨_,he,rfl,fun c z=>(by cases z),.inl ⟨rfl,fun _=>rfl⟩⟩
 refine vb (ns:=[]) I2.kIn hI c.cls c.pass c.obj c.hd c.sa hn Within.nil (by simp) fun h' tk' i1 i2 i3=>?_
 obtain ⟨dx,e1,e2⟩:=i3 _ he
 have hdz:s2.heap.objs.size≤dx:=by
  rcases e2 with z | ⟨_,z⟩
  ·cases z
  ·exact z
 have hdH:H2 dx=none:=I2.hok.fresh hdz
 have hde:dx ≠ e:=fun z=>absurd (E6 he) (by rw [← z]; exact Nat.not_lt.mpr hdz)
 have kp:∀ b ob,b ≠ e→s2.heap.get? b=some ob→h'.get? b=some ob:=fun b ob hb z=>i2 b ob hb (fun o0 d0 z1 z2=>by rw [he] at z1; cases z1; cases z2) z
 have hns:h'.Ns1 dx (fun g=>if g=f then some u else none):=by
  obtain ⟨o',a1,a2,a3,a4⟩:=i1
  rw [e1] at a1; cases a1
  rcases a4 with ⟨z,_⟩ | ⟨d',z1,z2,z3⟩
  ·cases z
  ·cases z1; exact z3
 have nd:∀ b ob,H2 b=some ob→b ≠ dx:=fun b ob z w=>by rw [w,hdH] at z; cases z
 have I3:Inv X pins σ (upd (upd H2 e (.ext (er1 e C t dx))) dx (.xd [(f,y)])) { s2 with heap:=h',toks:=tk' }:=by
  refine I2.un ⟨fun b ob z n _ _=>?_,fun b ob z n _ _=>?_,fun b ob z n _=>?_,fun b ob z _=>?_,fun b xs z=>?_,fun b ob xs z=>?_,fun b ps z=>?_⟩ fun b u' z=>?_
  ·exact kp b ob (fun w=>by rw [w,ee] at n; cases n) z
  ·exact ⟨ob.slots,kp b ob (fun w=>by rw [w,ee] at n; cases n) z⟩
  ·rw [aj (Fh (Fi (E6 z) hdz)),aj (fun w=>by rw [w,ee] at n; cases n)]; exact n
  ·by_cases hb:b=e
   ·rw [hb]; exact ⟨_,e1⟩
   ·exact ⟨ob,kp b ob hb z⟩
  ·rw [aj (nd b _ z),aj (fun w=>by rw [w,ee] at z; cases z)]; exact z
  ·rw [aj (nd b _ z),aj (fun w=>by rw [w,ee] at z; cases z)]; exact z
  ·exact ⟨#[],by rw [aj (nd b _ z),aj (fun w=>by rw [w,ee] at z; cases z),z]; simp⟩
  ·by_cases hb:b=dx
   ·subst hb
    rw [aw] at z
    cases z
    refine ⟨_,hns,fun g=>?_⟩
    show eI (List.lookup g [(f,y)]) (if g=f then some u else none)
    by_cases hg:g=f
    ·subst hg; rw [if_pos rfl]; simp [eI,ry]
    ·rw [if_neg hg]
     have:(g == f)=false:=by simpa using hg
     simp [List.lookup,this,eI]
   ·rw [aj hb] at z
    by_cases hb2:b=e
    ·subst hb2
     rw [aw] at z
     cases z
     exact ⟨e1,⟨_,e1⟩,fun h1 h2 z1 z2=>z2 _ z1⟩
    ·rw [aj hb2] at z
     refine (I2.hok b u' z).stay (fun c v hc w=>kp c v (fun z3=>?_) w) (fun c w=>?_) fun c xs w=>?_
     ·rcases hc with rfl | hc
      ·exact hb2 z3
      ·rw [z3,ee] at hc; cases hc
     ·rw [aj (nd c _ w),aj (fun z3=>by rw [z3,ee] at w; cases w)]; exact w
     ·rw [aj (nd c _ w),aj (fun z3=>by rw [z3,ee] at w; cases w)]; exact w
 exact ⟨σ,_,I3,q2 dx hdH hde⟩
end
def bmV:List Value:=[.type "ValueError",.type "Exception",.type "BaseException",.type "object"]
def ly (K:PySem.W.Frag) (C fI:Addr):Bool:=match K.lookup C with
 | some ⟨.type "type",_,.cls cd,sl⟩=>(match cd.mro,sl.toList with
  | .ref C' :: bm,[_,_,_,_,some (.builtin n),_]=>C' == C && (n == "ValueError.__new__" && (!cd.hasDel && (PySem.W.tailIn K bmV bm && (PySem.W.nsOkIn K cd.ns && PySem.W.nsIn K cd.ns "__init__" == some (some (.ref fI))))))
  | _,_=>false)
 | _=>false
theorem zI {K:PySem.W.Frag}{h:Heap}{N:Addr}{m:Str→Option Value}{n:Str}{v:Value} (X:K.In h) (G:h.Ns N m) (z:PySem.W.nsIn K N n=some (some v)):m n=some v:=by
 obtain ⟨ob,es,ep,hob,hdt,_,hfind⟩:=G
 unfold PySem.W.nsIn at z
 split at z
 ·rename_i c d es' n' sl q
  have w:=X _ _ q
  rw [hob] at w
  cases w
  cases hdt
  split at z
  ·rename_i en hen
   cases z
   rw [← hfind]
   unfold nsFind findBy
   rw [← Array.find?_toList,hen]; rfl
  ·split at z <;> cases z
 ·cases z
theorem nG {K:PySem.W.Frag}{h:Heap}{C fI:Addr} (X:K.In h) (q:ly K C fI=true):∃ nm qn N bs bm hdct sn sub ab col dd k0 k1 k2 k3 k5 mN,h.get? C=some (excClassObj nm qn C N bs bm hdct sn sub ab col dd k0 k1 k2 k3 k5 "ValueError.__new__")∧h.Ns N mN∧mN "__init__" = some (.ref fI)∧OwnTail h bmV bm:=by
 unfold ly at q
 split at q
 ·rename_i dd cd sl ho
  split at q
  ·rename_i C' bm k0 k1 k2 k3 n k5 hm hs
   simp only [FK,HS,Ho] at q
   obtain ⟨q1,q2,hdel,ht,hok,hni⟩:=q
   subst q1 q2
   obtain ⟨nm,bs,mro,ns,qn,hd,sn,sub,ab,col,del⟩:=cd
   dsimp only at hm hdel hok hni
   subst hm hdel
   have hsl:sl=#[k0,k1,k2,k3,some (.builtin "ValueError.__new__"),k5]:=by
    obtain ⟨l⟩:=sl
    simp only at hs
    rw [hs]
   subst hsl
   have hN:h.Ns ns (h.nsMap ns):=.of_isNs (PySem.W.isNs_of_in X hok)
   exact ⟨nm,qn,ns,bs,bm,hd,sn,sub,ab,col,dd,k0,k1,k2,k3,k5,_,X _ _ ho,hN,zI X hN hni,PySem.W.tail_of_in X ht⟩
  ·cases q
 ·cases q
section
variable {M:Model}{A:Around}{E:Value→Shared→Prop}{env:Env}{s:Shared}
variable {nm q:Str}{C N:Addr}{bs bm:List Value}{hdct:Bool}{sn:List Str}{sub:List Value}{ab:Bool}{col:Option Bool}{dd:Option Addr}{k0 k1 k2 k3 k5:Option Value}{newId:String}
theorem qK {x:Sem Value}{Q:Flow→Shared→Prop} (hbase:bm.contains (.type "BaseException")=true) (hh:A.handled=none)
  (h:wpAny M A x (fun v s1=>∃ e o vs,v=.ref e∧s1.heap.get? C=some (excClassObj nm q C N bs bm hdct sn sub ab col dd k0 k1 k2 k3 k5 newId)∧s1.heap.get? e=some o∧o.cls=.ref C∧o.data=.fields vs∧vs[1]? = some .none∧E (.ref e) s1) E s) :
  wpAny M A (raiseStmt env (some x) none) Q E s:=by
 have hcB:(Value.ref C :: bm).contains (.type "BaseException")=true:=by rw [List.contains_cons,hbase,G9]
 unfold raiseStmt
 refine ET (FG h (fun v s1 z=>?_) fun _ _ z=>z)
 obtain ⟨e,o,vs,rfl,hC,he,hcl,hd,h1,hE⟩:=z
 obtain ⟨hp,g,d,tk,os⟩:=s1
 repeat (first | (with_reducible refine FQ he ?_; rw [hcl]) | with_reducible refine FQ hC ?_ | (with_reducible refine wpAny_isSubtype_exc hC ?_; rw [hcB]) | with_reducible refine Ga he hd h1 ?_ | wp_step)
 exact wpAny_raiseNew_none hh hE
end
def rmH (H:Hp) (e:Addr):Hp:=fun b=>if b=e then none else H b
theorem cO {H:Hp}{e b:Addr} (h:b ≠ e):rmH H e b=H b:=if_neg h
theorem d_ {H:Hp}{e:Addr}:rmH H e e=none:=if_pos rfl
theorem Inv.untrack {X:Cx}{pins:List (Addr×Obj)} {σ:St}{H:Hp}{s:Shared}{e:Addr} {φ:Heap→Prop} (I:Inv X pins σ H s) (he:H e=some (.ext φ)):Inv X pins σ (rmH H e) s:=by
 have ne:∀ b u,H b=some u→(∀ ψ,u ≠ .ext ψ)→b ≠ e:=fun b u z n w=>by rw [w,he] at z; cases z; exact n φ rfl
 have J:=I.un (t':=s.toks) (H':=rmH H e) (h':=s.heap) ⟨fun b o z _ _ _=>z,fun b o z _ _ _=>⟨o.slots,z⟩,fun b o z n _=>?_,fun b o z _=>⟨o,z⟩,fun b xs z=>?_,fun b o xs z=>?_,fun b ps z=>?_⟩ fun b u z=>?_
 ·exact J
 ·by_cases hb:b=e
  ·rw [hb]; exact d_
  ·rw [cO hb]; exact n
 ·rw [cO (ne b _ z fun ψ w=>by cases w)]; exact z
 ·rw [cO (ne b _ z fun ψ w=>by cases w)]; exact z
 ·exact ⟨#[],by rw [cO (ne b _ z fun ψ w=>by cases w),z]; simp⟩
 ·have hb:b ≠ e:=fun w=>by rw [w,d_] at z; cases z
  rw [cO hb] at z
  refine (I.hok b u z).stay (fun c v _ w=>w) (fun c w=>?_) fun c xs w=>?_
  ·rw [cO (ne c _ w fun ψ z=>by cases z)]; exact w
  ·rw [cO (ne c _ w fun ψ z=>by cases z)]; exact w
def spI (C:Addr) (f:Str):Sp:=fun vs H Q _=>∃ e t v,vs=[V.ref e,v]∧H e=some (.ext (er0 e C t))∧∀ dx,H dx=none→dx ≠ e→Q .non (upd (upd H e (.ext (er1 e C t dx))) dx (.xd [(f,v)]))
theorem zX {K:PySem.W.Frag}{C fI:Addr} (q:ly K C fI=true):∃ o,K.lookup C=some o:=by
 unfold ly at q
 split at q
 ·rename_i z; exact ⟨_,z⟩
 ·cases q
section
variable {X:Cx}{k:Nat}{fI C:Addr}{fd:FuncData}{f p x:Str}{np cpos pos:Pos}{arg:Expr}{t:TA}
theorem uy (hq:ly X.K C fI=true) (F:bu X.prog X.w X.K X.mg X.base CX0 k fI fd ["self",p] (spI C f)) (hb:bC X.K fd ["self",p] []) (hfn:PySem.W.isFn X.K (.ref fI)=true) (hr:da (k + 1) X.A) (hc:X.calm=true)
  (hg:Gl X x) (hm:X.mg x=some (.ref C)) (hk:PySem.W.keepIn X.K (.ref C)=true) (ha:PA X.nox [arg] t) (hdb:(x == ("__debug__" : Str))=false:=by decide) (he:starEach [arg] X.env=(false,eval arg X.env) :: starEach [] X.env:=by rfl) (hpl:(backTo cpos (starEach [] X.env)).any (·.1)=false:=by rfl) :
  PSX X (.Raise (some (.Call (.Name x np) [arg] [] cpos)) none pos) (fun D W σ H=>t σ H fun vs H1=>∃ v,vs=[v]∧∀ dx,H1 dx=none→W σ (.ref C) (some dx) (upd H1 dx (.xd [(f,v)]))):=by
 intro pins s σ H D W xe I h hx
 obtain ⟨nm,qn,N,bs,bm,hdct,sn,sub,ab,col,dd,k0,k1,k2,k3,k5,mN0,hC0,_,_,T0⟩:=nG I.kIn hq
 have hbase:bm.contains (.type "BaseException")=true:=T0.hasType (Hc).hasBase
 rw [arm_exec_Raise]
 refine ET (HZ (qK (C:=C) (nm:=nm) (q:=qn) (N:=N) (bs:=bs) (bm:=bm) (hdct:=hdct) (sn:=sn) (sub:=sub) (ab:=ab) (col:=col) (dd:=dd) (k0:=k0) (k1:=k1) (k2:=k2) (k3:=k3) (k5:=k5) (newId := "ValueError.__new__") hbase (I.ok.hd hc) ?_))
 refine ET (FG (Go (iq I hg hm ?_ hdb)) (fun v s3 z=>ET (HZ (EY z))) fun _ _ z=>z)
 refine HL (h₀:=X.base) I.ok.mod.kin hk (FG (ha cpos pins s σ H _ (I.wish _) h) (fun us s1 ⟨vs,H1,I1,r,v,hvs,q⟩=>⟨I1.unwish.kIn,?_⟩) fun _ _ z=>False.elim z) he hpl
 have I1:=I1.unwish
 subst hvs
 obtain ⟨u,rv,rfl⟩:∃ u,aS v u∧us=[u]:=by
  cases r with
  | cons a b=>cases b; exact ⟨_,a,rfl⟩
 obtain ⟨oC,hoC⟩:=zX hq
 have sameC:∀ s':Shared,X.K.In s'.heap→s'.heap.get? C=s.heap.get? C:=fun s' z=>(z _ _ hoC).trans (I.kIn _ _ hoC).symm
 obtain ⟨nm1,qn1,N1,bs1,bm1,hdct1,sn1,sub1,ab1,col1,dd1,j0,j1,j2,j3,j5,mN1,hC1,hN1,hi1,T1⟩:=nG I1.kIn hq
 obtain ⟨oI,hoI,hclI⟩:∃ oI,s1.heap.get? fI=some oI∧oI.cls=.type "function" := by
  have z:PySem.W.typeIn X.K (.ref fI)=some (.type "function"):=beq_iff_eq.mp hfn
  obtain ⟨o,w1,w2⟩:=Option.map_eq_some_iff.mp z
  exact ⟨o,I1.kIn _ _ w1,w2⟩
 have hz:X.s₀.heap.objs.size≤s1.heap.objs.size:=I1.sz
 have hpin:∀ p ∈ X.pn ++ pins,p.1 < s1.heap.objs.size:=fun p hp=>E6 (I1.pin p hp).1
 have hHe:H1 (s1.heap.objs.size + 1)=none:=I1.hok.fresh (G1 _)
 obtain ⟨hh,g,dr,tk,os⟩:=s1
 show wpAny _ _ (call (.ref C) [u]) _ _ _
 refine xR (Hc) T1 hC1 hN1 hi1 hoI hclI ?_ (by rw [Hi]; simp)
 have he2:((hh.push { cls:=.type "tuple",data:=.seq [u].toArray }).push (eD C hh.objs.size)).get? (hh.objs.size + 1)=some (eD C hh.objs.size):=by heap_get
 have I2:Inv X pins σ (upd H1 (hh.objs.size + 1) (.ext (er0 (hh.objs.size + 1) C hh.objs.size))) ⟨(hh.push { cls:=.type "tuple",data:=.seq [u].toArray }).push (eD C hh.objs.size),g,dr,tk,os⟩ :=
  I1.laid (t':=tk) (fun b o z=>EU _ (EU _ z)) (G1 _) ⟨he2,⟨_,he2⟩,fun h1 h2 z1 z2=>z2 _ z1⟩
 have hsp:spI C f [V.ref (hh.objs.size + 1),v] (upd H1 (hh.objs.size + 1) (.ext (er0 (hh.objs.size + 1) C hh.objs.size))) (fun r H'=>r=.non∧∃ dx,H1 dx=none∧dx ≠ hh.objs.size + 1∧H'=upd (upd (upd H1 (hh.objs.size + 1) (.ext (er0 (hh.objs.size + 1) C hh.objs.size))) (hh.objs.size + 1) (.ext (er1 (hh.objs.size + 1) C hh.objs.size dx))) dx (.xd [(f,v)])) E0 :=
  ⟨_,_,v,rfl,aw,fun dx z1 z2=>⟨rfl,dx,by rw [aj z2] at z1; exact z1,z2,rfl⟩⟩
 have hb':=hb ⟨(hh.push { cls:=.type "tuple",data:=.seq [u].toArray }).push (eD C hh.objs.size),g,dr,tk,os⟩ [.ref (hh.objs.size + 1),u] I2.kIn rfl
 refine H9 (GF (F.run _ X.stack _ _ ⟨[.ref (hh.objs.size + 1),u],[]⟩ [.ref (hh.objs.size + 1),u] [V.ref (hh.objs.size + 1),v] _ E0 (hr.make C [u] []) (I2.env0.make C [u] []) hb' (.cons rfl (.cons rv .nil)) hsp) fun r s' hq'=>?_)
 cases r with
 | error e=>exact False.elim hq'
 | ok fl =>
  cases fl with
  | ret w =>
   obtain ⟨v',H',I3,rv',ev,dx,d1,d2,eH⟩:=I2.after hq'
   subst ev
   have hHe':H' (hh.objs.size + 1)=some (.ext (er1 (hh.objs.size + 1) C hh.objs.size dx)):=by rw [eH,aj (Ne.symm d2),aw]
   have hobj:s'.heap.get? (hh.objs.size + 1)=some { eD C hh.objs.size with dict:=some dx }:=(I3.hok _ _ hHe').1
   have I4:=I3.untrack hHe'
   have eR:rmH H' (hh.objs.size + 1)=upd H1 dx (.xd [(f,v)]):=by
    funext b
    by_cases hb0:b=hh.objs.size + 1
    ·rw [hb0,d_,aj (Ne.symm d2)]; exact hHe.symm
    ·rw [cO hb0,eH]
     by_cases hb1:b=dx
     ·rw [hb1,aw,aw]
     ·rw [aj hb1,aj hb1,aj hb0,aj hb0]
   rw [eR] at I4
   refine ⟨rv',hh.objs.size + 1,_,_,rfl,(sameC s' I3.kIn).trans hC0,hobj,rfl,rfl,rfl,hx _ _ ⟨σ,hh.objs.size + 1,C,dx,{ eD C hh.objs.size with dict:=some dx },_,rfl,I4,.inl ⟨_,hobj,rfl⟩,⟨rfl,rfl,d2,?_,Fa hz (G1 _)⟩,fun p hp z=>?_,q dx d1⟩⟩
   ·rw [aj (Ne.symm d2)]; exact hHe
   ·have:=hpin p hp
    rw [z] at this
    exact absurd this (Nat.not_lt.mpr (G1 _))
  | next=>exact False.elim hq'
  | brk=>exact False.elim hq'
  | cont=>exact False.elim hq'
end
def Cx.hnd (X:Cx) (a:Addr) (oe:Obj):Cx:={ X with A:=X.A.mark (some (.ref a)),calm:=false,pn:=(a,oe) :: X.pn,xe:=fun _ _=>False }
def Cx.hnd2 (X:Cx) (a:Addr) (oe:Obj) (dx:Addr) (od:Obj):Cx:={ X.hnd a oe with pn:=(a,oe) :: (dx,od) :: X.pn }
def iJ (dx:Addr) (od:Obj) (vs:List (Str×V)):Prop:=∃ mA,(∀ h:Heap,h.get? dx=some od→h.Ns1 dx mA)∧∀ f,eI (vs.lookup f) (mA f)
section
variable {X:Cx}{pins:List (Addr×Obj)} {σ:St}{H:Hp}{s:Shared}{a:Addr}{oe:Obj}
theorem Inv.untrackX {e:Addr}{vs:List (Str×V)} (I:Inv X pins σ H s) (he:H e=some (.xd vs)):Inv X pins σ (rmH H e) s:=by
 have ne:∀ b u,H b=some u→(∀ ψ,u ≠ .xd ψ)→b ≠ e:=fun b u z n w=>by rw [w,he] at z; cases z; exact n vs rfl
 have J:=I.un (t':=s.toks) (H':=rmH H e) (h':=s.heap) ⟨fun b o z _ _ _=>z,fun b o z _ _ _=>⟨o.slots,z⟩,fun b o z n _=>?_,fun b o z _=>⟨o,z⟩,fun b xs z=>?_,fun b o xs z=>?_,fun b ps z=>?_⟩ fun b u z=>?_
 ·exact J
 ·by_cases hb:b=e
  ·rw [hb]; exact d_
  ·rw [cO hb]; exact n
 ·rw [cO (ne b _ z fun ψ w=>by cases w)]; exact z
 ·rw [cO (ne b _ z fun ψ w=>by cases w)]; exact z
 ·exact ⟨#[],by rw [cO (ne b _ z fun ψ w=>by cases w),z]; simp⟩
 ·have hb:b ≠ e:=fun w=>by rw [w,d_] at z; cases z
  rw [cO hb] at z
  refine (I.hok b u z).stay (fun c v _ w=>w) (fun c w=>?_) fun c xs w=>?_
  ·rw [cO (ne c _ w fun ψ z=>by cases z)]; exact w
  ·rw [cO (ne c _ w fun ψ z=>by cases z)]; exact w
theorem Inv.hnd (I:Inv X pins σ H s) {vs:Array Value} (he:s.heap.get? a=some oe) (hd:oe.data=.fields vs) (hH:H a=none):Inv (X.hnd a oe) pins σ H s:=by
 obtain ⟨q1,q2,q3⟩:=I.recd he hd
 have nf:a ∉ X.fs:=fun z=>by
  obtain ⟨_,o',ho,hnf⟩:=I.funs.mem z
  rw [he] at ho; cases ho
  exact hnf vs hd
 refine ⟨⟨I.ok.mod,I.ok.kind,I.ok.glob,I.ok.blt,I.ok.above,I.ok.inj,I.ok.has,I.ok.cab,fun z=>(by cases z),I.ok.frames,I.ok.stk,I.ok.exf,I.ok.bs,I.ok.bsz,I.ok.noex,I.ok.exfs,I.ok.funs,I.ok.frf⟩,I.os,I.bare,I.base,I.loc,I.cell,I.free,I.freeC,fun p hp=>?_,I.hok,I.len⟩
 rcases List.mem_cons.mp hp with rfl | hp
 ·exact ⟨he,hH,q1,nf,fun v z=>by rw [hd] at z; cases z⟩
 ·exact I.pin p hp
theorem Inv.hnd2 (I:Inv X pins σ H s) {vs:Array Value}{dx:Addr}{fs:List (Str×V)} (he:s.heap.get? a=some oe) (hd:oe.data=.fields vs) (hH:H a=none) (hx:H dx=some (.xd fs)):∃ od,iJ dx od fs∧Inv (X.hnd2 a oe dx od) pins σ (rmH H dx) s:=by
 obtain ⟨mA,⟨od,es,ep,e1,e2⟩,hr⟩:=I.hok dx _ hx
 have I2:=I.untrackX hx
 obtain ⟨q1,q2,q3⟩:=I.recd he hd
 have nf:a ∉ X.fs:=fun z=>by
  obtain ⟨_,o',ho,hnf⟩:=I.funs.mem z
  rw [he] at ho; cases ho
  exact hnf vs hd
 have ndx:dx ∉ X.fs:=fun z=>by
  obtain ⟨_,o',ho,_⟩:=I.ok.funs.mem z
  have w:=I.base.free dx o' ho (I.ok.frf dx z) fun y=>I.ok.exfs dx y z
  rw [hx] at w; cases w
 have hane:a ≠ dx:=fun z=>by rw [← z,hH] at hx; cases hx
 refine ⟨od,⟨mA,fun h z=>⟨od,es,ep,z,e2⟩,hr⟩,?_⟩
 refine ⟨⟨I.ok.mod,I.ok.kind,I.ok.glob,I.ok.blt,I.ok.above,I.ok.inj,I.ok.has,I.ok.cab,fun z=>(by cases z),I.ok.frames,I.ok.stk,I.ok.exf,I.ok.bs,I.ok.bsz,I.ok.noex,I.ok.exfs,I.ok.funs,I.ok.frf⟩,I2.os,I2.bare,I2.base,I2.loc,I2.cell,I2.free,I2.freeC,fun p hp=>?_,I2.hok,I2.len⟩
 rcases List.mem_cons.mp hp with rfl | hp
 ·exact ⟨he,by rw [cO hane]; exact hH,q1,nf,fun v z=>by rw [hd] at z; cases z⟩
 ·rcases List.mem_cons.mp hp with rfl | hp
  ·exact ⟨e1,d_,fun z=>(by rw [show dx=X.env.locals from z,I.free] at hx; cases hx),ndx,fun v z=>by rw [e2.1] at z; cases z⟩
  ·exact I2.pin p hp
theorem Inv.unhnd2 {dx:Addr}{od:Obj} (ok:X.Ok) (I:Inv (X.hnd2 a oe dx od) pins σ H s):Inv X pins σ H s :=
 ⟨ok,I.os,I.bare,I.base,I.loc,I.cell,I.free,I.freeC,fun p hp=>I.pin p (E7 _ (E7 _ hp)),I.hok,I.len⟩
theorem gB {M:Model}{A:Around}{E:Value→Shared→Prop}{i:Nat}{x:Str}{pos:Pos}{Q:Unit→Shared→Prop} (I:Inv X pins σ H s) (hN:X.N.Nodup) (hi:X.N[i]? = some x) (hx:X.env.scope.names.lookup x=some .local)
  (h:∀ s',Inv X pins (σ.set i none) H s'→Q () s'):wpAny M A (do bindName X.env x .none; unbindBehindTheSuite X.env x pos) Q E s:=by
 obtain ⟨m,hn,hl⟩:=id I.loc
 have hcls:(X.env.scope.kind == .class || (X.env.scope.kind == .module && X.env.locals != X.env.globals))=false:=by rw [I.ok.kind]; rfl
 obtain ⟨oL,_,_,hoL,_⟩:=id hn
 refine wpAny_nameGoes_keeps hx hn hcls fun h' v hn' hs=>h _ ?_
 have lt:∀ b o,X.s₀.heap.get? b=some o→b ≠ X.env.locals:=fun b o e=>Fh (Fi (E6 e) I.ok.above)
 refine ⟨I.ok,I.os,I.bare,⟨fun b o e n hb hx=>(hs.2 b (lt b o e)).trans (I.base.keep b o e n hb hx),fun b o e n hb hx=>?_,I.base.free,fun b o e hx=>?_,I.base.tups,I.base.frzs,I.base.tbls⟩,⟨_,hn',fun j y v' e1 e2 e3=>?_⟩,fun y c e=>?_,I.free,I.freeC,fun p hp=>?_,fun b ob e=>?_,by simpa using I.len⟩
 ·obtain ⟨sl,e1⟩:=I.base.slot b o e n hb hx
  exact ⟨sl,(hs.2 b (lt b o e)).trans e1⟩
 ·obtain ⟨o',e1⟩:=I.base.there b o e hx
  exact ⟨o',(hs.2 b (lt b o e)).trans e1⟩
 ·have hj:j ≠ i:=fun z=>by
   subst z
   have hlt:j < σ.length:=by rw [I.len]; exact (List.getElem?_eq_some_iff.mp e1).1
   rw [FE hlt] at e2
   cases e2
  rw [E8 (Ne.symm hj)] at e2
  obtain ⟨u',r',q⟩:=hl j y v' e1 e2 e3
  refine ⟨u',r',?_⟩
  rcases q with ⟨k,e⟩ | ⟨k,c,e,z⟩
  ·refine .inl ⟨k,?_⟩
   have:y ≠ x:=fun e=>hj (km hN e1 (e ▸ hi))
   simp [this,e]
  ·exact .inr ⟨k,c,e,z.sameBut hs (I.cne y c e)⟩
 ·obtain ⟨w',z⟩:=I.cell y c e
  exact ⟨w',z.sameBut hs (I.cne y c e)⟩
 ·obtain ⟨e,n,ne,nf,d⟩:=I.pin p hp
  exact ⟨(hs.2 p.1 ne).trans e,n,ne,nf,d⟩
 ·refine (I.hok b ob e).stay (fun c w' hc q=>(hs.2 c ?_).trans q) (fun _ q=>q) fun _ _ q=>q
  intro z
  subst z
  rcases hc with hc | hc
  ·rw [← hc,I.free] at e; cases e
  ·rw [I.free] at hc; cases hc
end
section
variable {X:Cx}{body suite:List Stmt}{b₀:Stmt}{cn en:Str}{C fI:Addr}{i:Nat}{np hpos pos:Pos}{tb:TSX}{th:Addr→List (Str×V)→TS}
def iI (i:Nat) (D:eZ):eZ:=⟨fun σ H=>D.nx (σ.set i none) H,D.rt,fun σ H=>D.bk (σ.set i none) H,fun σ H=>D.ct (σ.set i none) H⟩
theorem SP.gone {M:Model}{A:Around}{E:Value→Shared→Prop}{pins:List (Addr×Obj)} {a dx:Addr}{oe od:Obj}{D:eZ}{f:Flow}{s:Shared} (ok:X.Ok) (hN:X.N.Nodup) (hi:X.N[i]? = some en) (hl:X.env.scope.names.lookup en=some .local)
  (h:SP (X.hnd2 a oe dx od) pins (iI i D) f s):wpAny M A (do bindName X.env en .none; unbindBehindTheSuite X.env en pos) (fun _ s5=>SP X pins D f s5) E s:=by
 cases f with
 | next=>obtain ⟨σ',H',I,q⟩:=h; exact gB (I.unhnd2 ok) hN hi hl fun s' J=>⟨_,H',J,q⟩
 | brk=>obtain ⟨σ',H',I,q⟩:=h; exact gB (I.unhnd2 ok) hN hi hl fun s' J=>⟨_,H',J,q⟩
 | cont=>obtain ⟨σ',H',I,q⟩:=h; exact gB (I.unhnd2 ok) hN hi hl fun s' J=>⟨_,H',J,q⟩
 | ret u=>obtain ⟨v,σ',H',I,r,q⟩:=h; exact gB (I.unhnd2 ok) hN hi hl fun s' J=>⟨v,_,H',J,r,q⟩
def WH (C:Addr) (i:Nat) (th:Addr→List (Str×V)→TS) (D:eZ):XW:=fun σ c d H=>∃ dx fs,c=.ref C∧d=some dx∧H dx=some (.xd fs)∧∀ a,H a=none→th a fs (iI i D) (σ.set i (some (.ref a))) (rmH H dx)
theorem BF (hb:i8 X body tb) (hst:X.stack=X.env :: X.outer) (hfr:X.env.frame=some X.env.locals) (hq:ly X.K C fI=true) (hg:Gl X cn) (hm:X.mg cn=some (.ref C)) (hN:X.N.Nodup) (hi:X.N[i]? = some en) (hl:X.env.scope.names.lookup en=some .local)
  (hs:∀ (a dx:Addr) (oe od:Obj) (vs:Array Value) (fs:List (Str×V)),oe.cls=.ref C→oe.dict=some dx→oe.data=.fields vs→dx ≠ a→iJ dx od fs→PSs (X.hnd2 a oe dx od) (b₀ :: suite) (th a fs)) (hf:X.fn en=true∨X.env.scope.names.lookup en=some .local:=by exact .inr (by assumption)) (hdb:(cn == ("__debug__" : Str))=false:=by decide) :
  PS X (.Try body [.ExceptHandler (some (.Name cn np)) (some en) (b₀ :: suite) hpos] [] [] pos) (fun D σ H=>tb D (WH C i th D) σ H):=by
 intro pins s σ H D I h
 have ok:=I.ok
 have pass:∀ (f:Flow) (s1:Shared),SP X pins D f s1→(match f with | .next=>wpAny (model X.prog X.w) X.A (execs [] X.env) (SP X pins D) X.xe s1 | f=>SP X pins D f s1):=fun f s1 q=>by
  cases f with
  | next=>exact Hh q
  | ret v=>exact q
  | brk=>exact q
  | cont=>exact q
 refine wpAny_Try_except (FG (hb pins s σ H D (WH C i th D) _ I h fun e s' x=>x) pass fun e s1 x=>?_)
 obtain ⟨σ1,a,C',dx,o0,H1,rfl,I1,er,eo,hp,dx',fs,hc,hd,hxd,hw⟩:=x
 cases hc
 cases hd
 have landed:∀ (h4:Heap) (T:Addr),Inv X pins σ1 H1 { s1 with heap:=h4 }→Fly h4 o0 a T (rawInt X.env.locals)→H1 T=none→X.s₀.heap.objs.size≤T→(∀ p ∈ X.pn ++ pins,p.1 ≠ T) →
   wpAny (model X.prog X.w) X.A (setFlight (.ref a) none) (fun _ s3=>wpAny (model X.prog X.w) X.A (handleBy (.ref a) X.env [.ExceptHandler (some (.Name cn np)) (some en) (b₀ :: suite) hpos]) (SP X pins D) X.xe s3) X.xe { s1 with heap:=h4 }:=by
  intro h4 T I4 f4 hT1 hT2 hT3
  refine fu (s:={ s1 with heap:=h4 }) f4 fun h5 k5 _ f5=>?_
  have I5:Inv X pins σ1 H1 { s1 with heap:=h5 }:=Inv.kp (s:={ s1 with heap:=h4 }) (ch:=[T]) I4 (k5.wide (fun _ z=>by cases z) fun _ z=>z) fun b hb=>by
   rw [List.mem_singleton.mp hb]
   exact ⟨hT2,f4.recd.2,hT3,hT1⟩
  obtain ⟨vs5,oT5,ts5,g1,g2,g3,g4,g5,g6⟩:=id f5
  have Ih:=I5.hnd (a:=a) g1 rfl eo.free
  refine wpAny_handleBy_cons (codeAny_handlers_test (iq (X:=X.hnd a _) Ih hg hm ?_ hdb)) (by intro q; cases q)
  obtain ⟨nm,qn,N,bs,bm,hdct,sn,sub,ab,col,dd,k0,k1,k2,k3,k5',mN,hC,_,_,T0⟩:=nG I5.kIn hq
  have hbase:bm.contains (.type "BaseException")=true:=T0.hasType (Hc).hasBase
  obtain ⟨hh1,gg,dr,tk,os⟩:=s1
  refine wpAny_excMatches_sub_self hC g1 eo.cls hbase ?_
  refine codeAny_handlers_suite_as (fu (s:=⟨h5,gg,dr,tk,os⟩) f5 fun h6 k6 _ f6=>?_)
  have I6:Inv X pins σ1 H1 ⟨h6,gg,dr,tk,os⟩:=Inv.kp (s:=⟨h5,gg,dr,tk,os⟩) (ch:=[T]) I5 (k6.wide (fun _ z=>by cases z) fun _ z=>z) fun b hb=>by
   rw [List.mem_singleton.mp hb]
   exact ⟨hT2,f5.recd.2,hT3,hT1⟩
  obtain ⟨vs6,oT6,ts6,r1,_⟩:=id f6
  obtain ⟨od,hdh,Ih6⟩:=I6.hnd2 (a:=a) r1 rfl eo.free hxd
  refine fW (X:=X.hnd2 a _ dx od) Ih6 hN hi (.inl hl) (v:=V.ref a) rfl (fun s7 I7=>?_) hf
  exact FG (hs a dx { o0 with data:=.fields vs6 } od vs6 fs eo.cls eo.dict rfl eo.ne hdh pins s7 _ _ (iI i D) I7 (hw a eo.free)) (fun f s8 q=>q.gone ok hN hi hl) fun _ _ z=>False.elim z
 have hA:X.A.frames=some (X.env :: X.outer):=by rw [← hst]; exact ok.frames
 have hF:s1.heap.FunFrames X.base (X.env :: X.outer):=by rw [← hst]; exact I1.stack
 have hz:=I1.sz
 have pinT:∀ T,s1.heap.objs.size≤T→∀ p ∈ X.pn ++ pins,p.1 ≠ T:=fun T hT p hp z=>absurd (E6 (I1.pin p hp).1) (by rw [z]; exact Nat.not_lt.mpr hT)
 rcases er with ⟨vs,q1,q2⟩ | ⟨T,hf1,hT,hTz,hTp⟩
 ·refine kl (base:=X.base) hA hF hfr q1 q2 fun h4 T k4 z4 f4=>?_
  have I4:Inv X pins σ1 H1 { s1 with heap:=h4 }:=I1.kp (ch:=[a]) (by unfold frs; rw [hst]; exact k4) fun b hb=>by
   rw [List.mem_singleton.mp hb]
   exact ⟨eo.new,⟨_,vs,q1,rfl⟩,hp,eo.free⟩
  exact landed h4 T I4 f4 (I1.hok.fresh z4) (Fa hz z4) (pinT T z4)
 ·refine l8 (base:=X.base) hA hF hfr hf1 fun h4 T' k4 z4 f4=>?_
  have I4:Inv X pins σ1 H1 { s1 with heap:=h4 }:=I1.kp (ch:=[a,T]) (by unfold frs; rw [hst]; exact k4) fun b hb=>by
   rcases List.mem_cons.mp hb with rfl | hb
   ·exact ⟨eo.new,hf1.recd.1,hp,eo.free⟩
   ·rw [List.mem_singleton.mp hb]
    exact ⟨hTz,hf1.recd.2,hTp,hT⟩
  exact landed h4 T' I4 f4 (I1.hok.fresh z4) (Fa hz z4) (pinT T' z4)
end
section
variable {X:Cx}{a dx C:Addr}{oe od:Obj}{vs:Array Value}{fs:List (Str×V)} {cd:ClassData}{e:Expr}{f:Str}{ta:TE}{pos:Pos}
theorem zr (hc:oe.cls=.ref C) (hd:oe.dict=some dx) (hdata:oe.data=.fields vs) (hne:dx ≠ a) (xc:k9 X.K C cd) (hn:PySem.W.findIn X.K (.ref C) f=some none) (hdh:iJ dx od fs) (he:PE (X.hnd2 a oe dx od) e ta) (hb:attributeBase e f X.env (eval e X.env)=eval e X.env:=by rfl) :
  PE (X.hnd2 a oe dx od) (.Attribute e f pos) (fun σ H Q=>ta σ H fun x H1=>x=.ref a∧∃ v,fs.lookup f=some v∧Q v H1):=by
 intro pins s σ H Q I h
 refine Av hb (thn (he pins s σ H _ I h) fun u s1 z=>?_)
 obtain ⟨x,H1,I1,rx,ex,v,hl,q⟩:=z
 subst ex
 obtain rfl:u=Value.ref a:=rx
 have hp:=(I1.pin (a,oe) (Fd ..)).1
 obtain ⟨mA,hns,hr⟩:=hdh
 have hns:=hns s1.heap (I1.pin (dx,od) (E7 _ (Fd ..))).1
 obtain ⟨u',hu,ru⟩:=eI.some_of (v:=v) (o:=mA f) (by rw [← hl]; exact hr f)
 have hI:s1.heap.Inst a C mA:=⟨oe,hp,hc,fun c z=>(by rw [hdata] at z; cases z),.inr ⟨dx,hd,hne,hns⟩⟩
 have hk:=I1.kIn
 have hfin:∀ tk,EP (X.hnd2 a oe dx od) pins σ Q u' { s1 with toks:=tk }:=fun tk=>⟨v,H1,I1.tok tk,ru,q⟩
 obtain ⟨hh,g,dr,tk,os⟩:=s1
 exact xQ hk hI xc.cls xc.hd xc.exc xc.ga xc.gt hn hu (PySem.W.handedOut_of (u9 ru)) (hfin _)
end
section
variable {prog:Program}{w:World}{A:Around}{E:Value→Shared→Prop}{h:Heap}{g:Array GenState}{dr:Drawn}{t:Nat}{os:OsState}{K:PySem.W.Frag}{a C:Addr}{o:Obj}{cd:ClassData}
theorem lkS {M:Model}{base:Value}{r:Bool}{Q:Bool→Shared→Prop} (X:K.In h) (e:PySem.W.mroIn K C base=some r) (q:Q r ⟨h,g,dr,t,os⟩):wpAny M A (isSubtype (.ref C) base) Q E ⟨h,g,dr,t,os⟩:=PySem.W.looks_mroIn X e _ _ _ _ (fun _ _ z=>z) q
theorem vL {R:Result→Shared→Prop} (X:K.In h) (hx:h.get? a=some o) (hcl:o.cls=.ref C) (ho:PySem.W.mroIn K C (.type "object")=some true) (q:R (.ok (.ret (.ref C))) ⟨h,g,dr,t,os⟩) :
  codeAny (model prog w) A (.call (.builtin "getset_descriptor.__get__") ⟨[.builtin "object.__class__",.ref a,.ref C],[]⟩) R ⟨h,g,dr,t,os⟩:=by
 have hT5:(⟨h,g,dr,t,os⟩:Shared).TypeIs (.builtin "object.__class__") "getset_descriptor" := HM
 have hs:PySem.W.mroIn K C (.type (".".intercalate ("object.__class__".cutAt '.').dropLast))=some true:=by rw [F.owner_object_class]; exact ho
 refine GN F.slot_gs_get.plain F.entry_gs_get (F.slot_gs_get.check _ _ _ _ _ _ _ _ hT5 (F.args_gs_get _ _ _) ?_)
 repeat (any_goals (first | assumption | (with_reducible refine FQ hx ?_; rw [hcl]) | with_reducible refine lkS X hs ?_ | wp_step))
 refine ⟨G4 _ (by decide +kernel),Gk F.entry_object_class ?_⟩
 repeat (any_goals (first | assumption | (with_reducible refine FQ hx ?_; rw [hcl]) | wp_step))
theorem qq {Q:Fin→Shared→Prop}{tk:Tok} (X:K.In h) (hx:h.get? a=some o) (hcl:o.cls=.ref C) (ho:PySem.W.mroIn K C (.type "object")=some true) (hc:PySem.W.findIn K (.ref C) "__class__" = some (some (.builtin "object.__class__")))
  (q:Q (.done (.ret (.ref C))) ⟨h,g,dr,t,os⟩):wpAny (model prog w) A (Builtin.«object.__getattribute__» ⟨[.ref a,.str "__class__" tk],[]⟩) Q E ⟨h,g,dr,t,os⟩:=by
 have hT5:(⟨h,g,dr,t,os⟩:Shared).TypeIs (.builtin "object.__class__") "getset_descriptor" := HM
 have c5:=HM
 have c6:=F.slot_gs_get.lookup
 have c7:=F.slot_gs_set.lookup
 repeat (any_goals (first | assumption | (with_reducible refine FQ hx ?_; rw [hcl]) | with_reducible refine lkF X hc ?_ | wp_step))
 refine vL X hx hcl ho ?_
 repeat (any_goals (first | assumption | wp_step))
theorem yL {Q:Value→Shared→Prop}{tk:Tok}{fill expr:Bool} (X:K.In h) (hx:h.get? a=some o) (hcl:o.cls=.ref C) (ho:PySem.W.mroIn K C (.type "object")=some true) (hb:PySem.W.mroIn K C (.type "BaseException")=some true)
  (hc:PySem.W.findIn K (.ref C) "__class__" = some (some (.builtin "object.__class__"))) (hga:PySem.W.findIn K (.ref C) "__getattribute__" = some (some (.builtin "BaseException.__getattribute__"))) (hgt:PySem.W.findIn K (.ref C) "__getattr__" = some none)
  (q:Q (.ref C) ⟨h,g,dr,t,os⟩):wpAny (model prog w) A (getAttrBy (.ref a) (.str "__class__" tk) fill expr) Q E ⟨h,g,dr,t,os⟩:=by
 have hx0:(expr && onTheHeap (Value.builtin "BaseException.__getattribute__"))=false:=by cases expr <;> rfl
 have hx1:(onTheHeap (Value.ref C) && Value.builtin "BaseException.__getattribute__" == Value.builtin "object.__getattribute__")=false:=by
  rw [show (Value.builtin "BaseException.__getattribute__" == Value.builtin "object.__getattribute__")=false by decide +kernel]; rfl
 have hbs:bindSpecial (.builtin "BaseException.__getattribute__") (.ref a)=pure (.builtin "BaseException.__getattribute__",[.ref a]):=(GC).ga.bind (.ref a)
 have IA:PySem.W.Looks (model prog w) h (typeOf (.ref a)) (.ref C):=(PySem.W.Looks.ld (part:=none) hx).andThen (by rw [hcl]; exact .now)
 have sub:PySem.W.Looks (model prog w) h (isInstance (.ref a) (.type "BaseException")) true:=IA.andThen (PySem.W.looks_mroIn X hb)
 have hk:builtinKind "BaseException.__getattribute__" = some .slot:=by decide +kernel
 have hsp:splitId "BaseException.__getattribute__" = some ("BaseException","__getattribute__"):=by decide +kernel
 repeat (any_goals (first | assumption | (with_reducible refine FQ hx ?_; rw [hcl]) | with_reducible refine lkF X hga ?_ | with_reducible refine lkF X hgt ?_ | wp_step))
 refine GN (GC).ga.plain PySem.F.entry_bexc_ga (@PySem.W.check_slot (model prog w) _ _ ⟨h,g,dr,t,os⟩ "BaseException.__getattribute__" "BaseException" "__getattribute__" (.ref a) [.str "__class__" tk] [] _ hk hsp sub (PySem.F.args_bexc_ga (.ref a) (.str "__class__" tk)) ?_)
 refine qq X hx hcl ho hc ?_
 repeat (any_goals (first | assumption | wp_step))
theorem uc {Q:Option Value→Shared→Prop} (X:K.In h) (hx:h.get? a=some o) (hcl:o.cls=.ref C) (ho:PySem.W.mroIn K C (.type "object")=some true) (hb:PySem.W.mroIn K C (.type "BaseException")=some true)
  (hc:PySem.W.findIn K (.ref C) "__class__" = some (some (.builtin "object.__class__"))) (hga:PySem.W.findIn K (.ref C) "__getattribute__" = some (some (.builtin "BaseException.__getattribute__"))) (hgt:PySem.W.findIn K (.ref C) "__getattr__" = some none)
  (q:Q (some (.ref C)) ⟨h,g,dr,t + 1,os⟩):wpAny (model prog w) A (getAttr? (.ref a) "__class__") Q E ⟨h,g,dr,t,os⟩:=by
 unfold getAttr? getAttrBy?
 repeat (any_goals (first | assumption | with_reducible apply yL X hx hcl ho hb hc hga hgt | wp_step))
theorem pH (xc:k9 K C cd) (hc:PySem.W.findIn K (.ref C) "__class__" = some (some (.builtin "object.__class__"))):PySem.W.KitX K (.ref a) (.ref C) (fun h=>∃ o,h.get? a=some o∧o.cls=.ref C):=by
 have ne0:cd.mro.isEmpty=false:=by
  cases z:cd.mro with
  | nil=>have w:=xc.obj; rw [z] at w; cases w
  | cons _ _=>rfl
 have ho:PySem.W.mroIn K C (.type "object")=some true:=by unfold PySem.W.mroIn; rw [xc.cls,EG,if_neg (by rw [ne0]; decide),xc.obj]
 have hb:PySem.W.mroIn K C (.type "BaseException")=some true:=by unfold PySem.W.mroIn; rw [xc.cls,EG,if_neg (by rw [ne0]; decide),xc.exc]
 have lk:∃ c' d' sl',K.lookup C=some ⟨c',d',.cls cd,sl'⟩:=by
  have z:=xc.cls
  unfold PySem.W.clsIn at z
  split at z
  ·rename_i hl
   cases z
   exact ⟨_,_,_,hl⟩
  ·cases z
 obtain ⟨c',d',sl',hl⟩:=lk
 refine ⟨fun M h X p=>?_,fun M h X p=>?_,fun h tp dd its n sl X htp=>?_,fun {prog w A E Q s} X p k=>?_⟩
 ·obtain ⟨o,z1,z2⟩:=p
  exact (PySem.W.Looks.ld (part:=none) z1).andThen (by rw [z2]; exact .now)
 ·intro A' Q' E' s' k q
  unfold isType loadHead
  exact ET (wpAny_loadPart (k _ _ (X _ _ hl)) (EY q))
 ·refine Bool.eq_false_iff.mpr fun q=>?_
  have e:C=tp:=Value.ref.inj (beq_iff_eq.mp q)
  subst e
  have z:=(X _ _ hl).symm.trans htp
  cases z
 ·obtain ⟨o,z1,z2⟩:=p
  obtain ⟨hh,gg,d,tt,oss⟩:=s
  exact uc X z1 z2 ho hb hc xc.ga xc.gt k
end
section
variable {X:Cx}{a C dx:Addr}{oe od:Obj}{cd:ClassData}
theorem nX (hcl:oe.cls=.ref C) (xc:k9 X.K C cd) (hc:PySem.W.findIn X.K (.ref C) "__class__" = some (some (.builtin "object.__class__"))) :
  cQ (X.hnd2 a oe dx od) (.builtin "isinstance") (fun xs H Q=>∃ (tp:Addr) (Cs:List Addr) (b:Bool),xs=[.ref a,.ref tp]∧H tp=some (.tup (Cs.map V.ref))∧PySem.W.kitAny X.K (.ref C) (Cs.map Value.ref)=some b∧Q (.bl b) H):=by
 intro pins s σ H xs us Q I r h
 obtain ⟨tp,Cs,b,rfl,htp,e,q⟩:=h
 obtain ⟨u,w',rfl,ru,rw'⟩:=aR.two r
 obtain rfl:u=Value.ref a:=ru
 obtain rfl:w'=Value.ref tp:=rw'
 have hp:=(I.pin (a,oe) (Fd ..)).1
 obtain ⟨_,its,rv,⟨c,dd,dt,sl⟩,g,g2,n,g3⟩:=I.hok tp _ htp
 cases g2
 cases g3
 have Cl:∀ (Cs:List Addr) (its:List Value),aR (Cs.map V.ref) its→its=Cs.map Value.ref:=fun Cs=>by
  induction Cs with
  | nil=>intro its z; cases z; rfl
  | cons d Cs ih =>
   intro its z
   cases z with
   | cons z1 z2=>rw [ih _ z2,EN]; congr 1
 have e2:=Cl Cs its rv
 subst e2
 exact PySem.W.kia_tup (pH xc hc) I.kIn ⟨_,hp,hcl⟩ g e (fun z=>nomatch z) fun tk=>⟨.bl b,H,I.tok tk,rfl,q⟩
theorem lB (hcl:oe.cls=.ref C) (xc:k9 X.K C cd) (hc:PySem.W.findIn X.K (.ref C) "__class__" = some (some (.builtin "object.__class__"))) :
  cQ (X.hnd2 a oe dx od) (.builtin "isinstance") (fun xs H Q=>∃ (y:V) (c:Value) (b:Bool),xs=[.ref a,y]∧(∀ u,aS y u→u=c)∧PySem.W.kitOne X.K (.ref C) c=some b∧Q (.bl b) H):=by
 intro pins s σ H xs us Q I r h
 obtain ⟨y,c,b,rfl,hy,e,q⟩:=h
 obtain ⟨u,w',rfl,ru,rw'⟩:=aR.two r
 obtain rfl:u=Value.ref a:=ru
 obtain rfl:=hy w' rw'
 have hp:=(I.pin (a,oe) (Fd ..)).1
 exact FR (pH xc hc) I.kIn ⟨_,hp,hcl⟩ e (fun z=>nomatch z) fun tk=>⟨.bl b,H,I.tok tk,rfl,q⟩
end
end L2
namespace L2.Cu
open PySem PySem.Spec PyProof.Rows
def kD:D→Bool
 | .non=>true
 | .bl _=>true
 | .int _=>true
 | .str _=>true
 | _=>false
def scV:D→V
 | .bl b=>.bl b
 | .int i=>.int i
 | .str x=>.str x
 | _=>.non
theorem Bk {F:Hp}{v:V}{d:D} (r:Rep F v d) (h:kD d=true):v=scV d:=by cases r <;> first | rfl | cases h
theorem Bg {F:Hp}{d:D} (h:kD d=true):Rep F (scV d) d:=by cases d <;> first | exact .non | exact .bl _ | exact .int _ | exact .str _ | cases h
abbrev scF (fs:List (Str×D)):List (Str×V):=fs.map fun p=>(p.1,scV p.2)
inductive dm where
 | ok (r:Out) | xc (n:Nat) (fs:List (Str×D)) (E:DE)
def t9 (cl:Nat→Addr) (B:Hp×Hp) (F:Hp) (Z:eZ) (W:XW):dm→Prop
 | .ok r=>oh B F Z r
 | .xc n fs E=>∀ σ F' H dx,Ok B F' H σ E→Fr F F'→H dx=none→W σ (.ref (cl n)) (some dx) (upd H dx (.xd (scF fs)))
theorem t9.mono {cl:Nat→Addr}{B:Hp×Hp}{F F1:Hp}{Z:eZ}{W:XW}{r:dm} (h:t9 cl B F Z W r) (x:Fr F F1):t9 cl B F1 Z W r:=by
 cases r with
 | ok r=>exact oh.mono h x
 | xc n fs E=>exact fun σ F' H dx k y=>h σ F' H dx k fun a o e=>y a o (x a o e)
def tSX (cl:Nat→Addr) (f:DE→Option dm):TSX:=fun Z W σ H=>∃ B F E r,Ok B F H σ E∧f E=some r∧t9 cl B F Z W r
structure EsX (X:Cx) (cl:Nat→Addr) (st:Stmt) (f:DE→Option dm):Prop where
 h:PSX X st (tSX cl f)
structure om (X:Cx) (cl:Nat→Addr) (st:List Stmt) (f:DE→Option dm):Prop where
 h:i8 X st (tSX cl f)
section
variable {X:Cx}{cl:Nat→Addr}{st:Stmt}{bI:List Stmt}{pos:Pos}
theorem PSX.by {t:TSX}{f:DE→Option dm} (h:PSX X st t) (w:∀ Z W σ H,tSX cl f Z W σ H→t Z W σ H):EsX X cl st f:=⟨fun pins s σ H Z W xe I q=>h pins s σ H Z W xe I (w Z W σ H q)⟩
theorem i8.by {t:TSX}{f:DE→Option dm} (h:i8 X bI t) (w:∀ Z W σ H,tSX cl f Z W σ H→t Z W σ H):om X cl bI f:=⟨fun pins s σ H Z W xe I q=>h pins s σ H Z W xe I (w Z W σ H q)⟩
def okX (f:DE→Option Out) (E:DE):Option dm:=(f E).map dm.ok
theorem pe {f:DE→Option Out}{Z:eZ}{W:XW} {σ:St}{H:Hp} (h:tSX cl (okX f) Z W σ H):tS f Z σ H:=by
 obtain ⟨B,F,E,r,k,q,w⟩:=h
 unfold okX at q
 cases hf:f E with
 | none=>rw [hf] at q; cases q
 | some r1=>rw [hf] at q; cases q; exact ⟨B,F,E,r1,k,hf,w⟩
theorem Cq {f:DE→Option Out} (h:Es X.nox st f):EsX X cl st (okX f):=PSX.by (BD h.h) fun _ _ _ _ q=>pe q
theorem tq {f:DE→Option Out} (h:Ess X.nox bI f):om X cl bI (okX f):=i8.by (ze h.h) fun _ _ _ _ q=>pe q
def qF (f g:DE→Option dm) (E:DE):Option dm:=(f E).bind fun r=>match r with
 | .ok (.nx E')=>g E'
 | r=>some r
theorem my {f g:DE→Option dm} (h:EsX X cl st f) (h2:om X cl bI g):om X cl (st :: bI) (qF f g):=i8.by (ux h.h h2.h) fun Z W σ H z=>by
 obtain ⟨B,F,E,r,k,q,w⟩:=z
 unfold qF at q
 cases hf:f E with
 | none=>rw [hf] at q; cases q
 | some r1 =>
  rw [hf] at q
  cases r1 with
  | xc n fs E'=>cases q; exact ⟨B,F,E,_,k,hf,w⟩
  | ok r1 =>
   cases r1 with
   | nx E'=>exact ⟨B,F,E,_,k,hf,fun σ' F' H' k' y=>⟨B,F',E',r,k',q,w.mono y⟩⟩
   | rt d=>cases q; exact ⟨B,F,E,_,k,hf,w⟩
   | bk E'=>cases q; exact ⟨B,F,E,_,k,hf,w⟩
   | ct E'=>cases q; exact ⟨B,F,E,_,k,hf,w⟩
theorem kO {f:DE→Option dm} (h:EsX X cl st f):om X cl [st] f:=⟨wA h.h⟩
def ifX (c:DE→Option Bool) (f g:DE→Option dm) (E:DE):Option dm:=(c E).bind fun b=>if b=true then f E else g E
theorem Cr {c:Expr}{a b:List Stmt}{cf:DE→Option Bool}{f g:DE→Option dm} (hc:Et X.nox c cf) (ha:om X cl a f) (hb:om X cl b g):EsX X cl (.If c a b pos) (ifX cf f g):=PSX.by (BE hc.h ha.h hb.h) fun Z W σ H z=>by
 obtain ⟨B,F,E,r,k,q,w⟩:=z
 unfold ifX at q
 cases hf:cf E with
 | none=>rw [hf] at q; cases q
 | some x =>
  rw [hf] at q
  refine ⟨B,F,E,x,k,hf,fun F1 H1 x1=>?_⟩
  cases x with
  | true=>exact re ⟨B,F1,E,r,k.ext x1,q,w.mono x1.fr⟩
  | false=>exact rf ⟨B,F1,E,r,k.ext x1,q,w.mono x1.fr⟩
def nc (n:Nat) (fld:Str) (f:DE→Option D) (E:DE):Option dm:=(f E).bind fun d=>if kD d=true then some (.xc n [(fld,d)] E) else none
theorem vd {k:Nat}{fI C:Addr}{fd:FuncData}{fld p x:Str}{np cpos:Pos}{arg:Expr}{f:DE→Option D}{n:Nat} (hn:cl n=C) (hq:ly X.K C fI=true) (F:bu X.prog X.w X.K X.mg X.base CX0 k fI fd ["self",p] (spI C fld)) (hb:bC X.K fd ["self",p] [])
  (hfn:PySem.W.isFn X.K (.ref fI)=true) (hr:da (k + 1) X.A) (hc:X.calm=true) (hg:Gl X x) (hm:X.mg x=some (.ref C)) (hk:PySem.W.keepIn X.K (.ref C)=true) (ha:Ev X.nox .V arg f) (hdb:(x == ("__debug__" : Str))=false:=by decide) (hs:aP arg=true:=by rfl) :
  EsX X cl (.Raise (some (.Call (.Name x np) [arg] [] cpos)) none pos) (nc n fld f) :=
 PSX.by (uy hq F hb hfn hr hc hg hm hk (ae ha ai (by first | assumption | rfl)).h hdb (aE arg [] X.env hs) rfl) fun Z W σ H z=>by
  obtain ⟨B,G,E,r,k,q,w⟩:=z
  unfold nc at q
  cases hf:f E with
  | none=>rw [hf] at q; cases q
  | some d =>
   rw [hf] at q
   by_cases hd:kD d=true
   ·have q':some (dm.xc n [(fld,d)] E)=some r:=by
     rw [← q]
     show _=if kD d=true then _ else _
     rw [if_pos hd]
    cases q'
    refine ⟨B,G,E,[d],k,?_,fun vs F' H' x r=>?_⟩
    ·unfold aa ah
     rw [hf]; rfl
    ·obtain ⟨v,ws,rfl,r1,r2⟩:=r.c1
     obtain rfl:=r2.c0
     subst hn
     obtain rfl:=Bk r1 hd
     exact ⟨_,rfl,fun dx hdx=>w σ F' H' dx (k.ext x) x.fr hdx⟩
   ·have:(none:Option dm)=some r:=by
     rw [← q]
     show _=if kD d=true then _ else _
     rw [if_neg hd]
    cases this
end
def uk (cl:Nat→Addr) (n:Nat) (g:List D→Option (Option (Nat×List (Str×D)))):Sp:=fun vs H Q E=>∃ F ds r,(∀ a o,F a=some o→H a=some o)∧Reps F vs ds∧ds.length=n∧g ds=some r ∧
 match r with
 | none=>∀ v F' H',Ext F H F' H'→Q v H'
 | some (m,fs)=>∀ F' H' dx,Ext F H F' H'→H' dx=none→E (.ref (cl m)) (some dx) (upd H' dx (.xd (scF fs)))
def fj (n:Nat) (g:List D→Option (Option (Nat×List (Str×D)))) (f:DE→Option (List D)) (E:DE):Option dm:=(f E).bind fun ds=>if ds.length=n then (g ds).map fun r=>match r with
 | none=>.ok (.nx E)
 | some (m,fs)=>.xc m fs E else none
section
variable {X:Cx}{cl:Nat→Addr}
theorem pS {k:Nat}{fa:Addr}{fd:FuncData}{ps:List Str}{x:Str}{p cpos pos:Pos}{e:Expr}{es:List Expr}{n:Nat}{g:List D→Option (Option (Nat×List (Str×D)))} {f:DE→Option (List D)} (Fn:bu X.prog X.w X.K X.mg X.base (CX1 X.prog X.w) k fa fd ps (uk cl n g)) (hr:da k X.A) (hg:Gl X x)
  (hm:X.mg x=some (.ref fa)) (hk:PySem.W.keepIn X.K (.ref fa)=true) (hb:bC X.K fd ps []) (ha:Ea X.nox (e :: es) f) (hdb:(x == ("__debug__" : Str))=false:=by decide)
  (he:aP e=true:=by rfl) (hpl:es.all aP=true:=by rfl) (hs:swapsWith (.Call (.Name x p) (e :: es) [] cpos) none pos.line X.env=pure false:=by rfl):EsX X cl (.Expr (.Call (.Name x p) (e :: es) [] cpos) pos) (fj n g f) :=
 PSX.by (wB (wN Fn hr hg hm hk hb ha.h hdb (aE e es X.env he) (dZ cpos X.env es hpl)) hs) fun Z W σ H z=>by
  obtain ⟨B,F,E,r,k,q,w⟩:=z
  unfold fj at q
  cases hf:f E with
  | none=>rw [hf] at q; cases q
  | some ds =>
   rw [hf] at q
   by_cases hn:ds.length=n
   ·have q':(g ds).map (fun r=>match r with | none=>dm.ok (.nx E) | some (m,fs)=>.xc m fs E)=some r:=by
     have:=q
     simpa [hn] using this
    cases hgd:g ds with
    | none=>rw [hgd] at q'; cases q'
    | some r0 =>
     rw [hgd] at q'
     refine ⟨B,F,E,ds,k,hf,fun vs F1 H1 x1 r1=>⟨fun c d H'=>W σ c d H',⟨F1,ds,r0,x1.sub,r1,hn,hgd,?_⟩,fun _ _ _ z=>z⟩⟩
     cases r0 with
     | none =>
      cases q'
      exact fun v F2 H2 x2=>w σ F2 H2 (k.ext (x1.trans x2)) (x1.trans x2).fr
     | some mf =>
      obtain ⟨m,fs⟩:=mf
      cases q'
      exact fun F2 H2 dx x2 hd=>w σ F2 H2 dx (k.ext (x1.trans x2)) (x1.trans x2).fr hd
   ·have:(none:Option dm)=some r:=by
     have:=q
     simpa [hn] using this
    cases this
end
def gP (n m:Nat) (b:DE→Option dm) (ds:List D):Option (Option (Nat×List (Str×D))):=if ds.length=n then (b (ds.map Sl.val ++ List.replicate (m - n) Sl.no)).bind fun r=>match r with
 | .ok (.nx _)=>some none
 | .ok (.rt _)=>some none
 | .xc k fs _=>some (some (k,fs))
 | _=>none else none
theorem D0 {P:Program}{w:World}{K:PySem.W.Frag}{mg:Str→Option Value}{base:Heap}{x qual:Str}{st:Stmt}{f:Addr}{fd:FuncData}{N ps:List Str}{k:Nat}{cl:Nat→Addr}{b:DE→Option dm} (Fn:Fun K x qual st f fd) (S:aM N ps (al st))
  (hbody:∀ (cdv:Value) (A:Around) (outer:List Env) (s:Shared) (H:Hp) (E:XK),da k (A.deeper (envOfC qual (al st) s.heap.objs.size f cdv)) →
   om (i5 (CX1 P w) P w K mg base N qual (al st) f cdv A outer s H E) cl (dL st) b):bu P w K mg base (CX1 P w) (k + 1) f fd ps (uk cl ps.length (gP ps.length N.length b)):=by
 obtain ⟨oc,od,kV,doc,pm,an,cdv,ct,osl,rfl,lk,hcd⟩:=Fn.ex
 refine Cn lk hcd S (fun vs H Q E h=>?_) fun A outer s H vs Q E hr h=>?_
 ·obtain ⟨F,ds,d,_,r,hl,_⟩:=h
  rw [r.length,hl]
 ·obtain ⟨F,ds,r0,hs,r,hl,hg,q⟩:=h
  refine ⟨_,(hbody cdv A outer s H E hr).h,?_⟩
  unfold gP at hg
  rw [if_pos hl] at hg
  cases hb:b (ds.map Sl.val ++ List.replicate (N.length - ps.length) Sl.no) with
  | none=>rw [hb] at hg; cases hg
  | some rr =>
   rw [hb] at hg
   have k0:=kh (N:=N) hs r
   rw [hl] at k0
   refine ⟨(F,H),F,_,rr,k0,hb,?_⟩
   cases rr with
   | xc m fs E'=>cases hg; exact fun σ' F' H' dx k' _ hd=>q F' H' dx k'.ent hd
   | ok rr =>
    cases rr with
    | rt d'=>cases hg; exact fun v F' H' x r'=>q v F' H' x
    | nx E'=>cases hg; exact fun σ' F' H' k' _=>q .non F' H' k'.ent
    | bk E'=>cases hg
    | ct E'=>cases hg
def xJ (i:Nat):Out→Out
 | .nx E=>.nx (E.set i .no)
 | .bk E=>.bk (E.set i .no)
 | .ct E=>.ct (E.set i .no)
 | .rt d=>.rt d
def qz (n i:Nat) (fb:DE→Option dm) (fh:Addr→List (Str×D)→DE→Option Out) (E:DE):Option Out:=(fb E).bind fun r=>match r with
 | .ok r=>some r
 | .xc m fs E'=>@ite _ (m=n∧di E') (Classical.propDecidable _) (vy fun a=>(fh a fs (E'.set i (eh a))).map (xJ i)) none
theorem va {B:Hp×Hp}{F:Hp}{D:eZ}{i:Nat}{r:Out} (w:oh B F D (xJ i r)):oh B F (iI i D) r:=by
 cases r with
 | nx E=>exact fun σ F' H k x=>w (σ.set i none) F' H (k.noS i) x
 | bk E=>exact fun σ F' H k x=>w (σ.set i none) F' H (k.noS i) x
 | ct E=>exact fun σ F' H k x=>w (σ.set i none) F' H (k.noS i) x
 | rt d=>exact w
theorem yZ {H:Hp}{dx:Addr}{o:HO} (h:H dx=none):rmH (upd H dx o) dx=H:=by
 funext b
 by_cases hb:b=dx
 ·rw [hb,d_,h]
 ·rw [cO hb,aj hb]
theorem Ct {X:Cx}{cl:Nat→Addr}{body suite:List Stmt}{b₀:Stmt}{cn en:Str}{fI:Addr}{i n:Nat}{np hpos pos:Pos}{fb:DE→Option dm}{fh:Addr→List (Str×D)→DE→Option Out} (hb:om X cl body fb) (hst:X.stack=X.env :: X.outer) (hfr:X.env.frame=some X.env.locals) (hq:ly X.K (cl n) fI=true)
  (hg:Gl X cn) (hm:X.mg cn=some (.ref (cl n))) (hN:X.N.Nodup) (hi:X.N[i]? = some en) (hl:X.env.scope.names.lookup en=some .local)
  (hs:∀ (a dx:Addr) (oe od:Obj) (vs:Array Value) (fs:List (Str×D)),oe.cls=.ref (cl n)→oe.dict=some dx→oe.data=.fields vs→dx ≠ a→iJ dx od (scF fs)→Ess (X.hnd2 a oe dx od) (b₀ :: suite) (fh a fs)) (hdb:(cn == ("__debug__" : Str))=false:=by decide) :
  Es X (.Try body [.ExceptHandler (some (.Name cn np)) (some en) (b₀ :: suite) hpos] [] [] pos) (qz n i fb fh) :=
 PS.by (BF (th:=fun a vs D σ H=>∃ fs,vs=scF fs∧tS (fh a fs) D σ H) hb.h hst hfr hq hg hm hN hi hl (fun a dx oe od vs fsV h1 h2 h3 h4 h5=>fun pins s σ H D I z=>by
  obtain ⟨fs,e,q⟩:=z
  subst e
  exact (hs a dx oe od vs fs h1 h2 h3 h4 h5).h pins s σ H D I q) (.inr hl) hdb) fun Z σ H z=>by
  obtain ⟨B,F,E,r,k,q,w⟩:=z
  unfold qz at q
  cases hf:fb E with
  | none=>rw [hf] at q; cases q
  | some r1 =>
   rw [hf] at q
   refine ⟨B,F,E,r1,k,hf,?_⟩
   cases r1 with
   | ok r1=>cases q; exact w
   | xc m fs E' =>
    have q2:@ite _ (m=n∧di E') (Classical.propDecidable _) (vy fun a=>(fh a fs (E'.set i (eh a))).map (xJ i)) none=some r:=q
    by_cases hc:m=n∧di E'
    ·rw [if_pos hc] at q2
     obtain ⟨hmn,hno⟩:=hc
     subst hmn
     refine fun σ' F' H' dx k' x hd=>⟨dx,scF fs,rfl,rfl,aw,fun a _=>?_⟩
     obtain ⟨r2,e1,e2⟩:=Option.map_eq_some_iff.mp (vx q2 a)
     subst e2
     refine ⟨fs,rfl,B,F',_,r2,?_,e1,va (w.mono x)⟩
     rw [yZ hd]
     exact k'.set_raw hno i a
    ·rw [if_neg hc] at q2; cases q2
def xF (i:Nat) (a:Addr) (d:D) (E:DE):Option D:=(E[i]?).bind fun s=>match s with
 | .rob o=>if o.ia=some a then some d else none
 | _=>none
theorem mT {i:Nat}{a:Addr}{d d':D}{B:Hp×Hp}{F H:Hp} {σ:St}{E:DE} (k:Ok B F H σ E) (h:xF i a d E=some d'):d'=d∧σ[i]? = some (some (.ref a)):=by
 unfold xF at h
 cases he:E[i]? with
 | none=>rw [he] at h; cases h
 | some s =>
  rw [he] at h
  cases s with
  | rob o =>
   have h:(if o.ia=some a then some d else none)=some d':=h
   by_cases ho:o.ia=some a
   ·rw [if_pos ho] at h
    cases h
    refine ⟨rfl,?_⟩
    obtain ⟨fp,q⟩:=k.ob
    rcases q.rob i _ he with ⟨b,ps,q1,q2⟩ | ⟨_,b,q1,q2⟩
    ·obtain ⟨b',ps',dx,fs,e1,e2,e3,_⟩:=q2
     have e4:=e2 a ho
     cases e1
     rw [e4] at q1; exact q1
    ·rw [ho] at q1; cases q1; exact q2
   ·rw [if_neg ho] at h; cases h
  | no=>cases h
  | val _=>cases h
  | own _=>cases h
  | obj _=>cases h
section
variable {X:Cx}{a C dx:Addr}{oe od:Obj}{cd:ClassData}{i:Nat}{p pos np:Pos}{en:Str}
def vN (i:Nat) (a:Addr) (f:Str) (fs:List (Str×D)) (E:DE):Option D:=(fs.lookup f).bind fun d=>if kD d=true then xF i a d E else none
theorem zY {f:Str}{vs:Array Value}{fs:List (Str×D)} (hc:oe.cls=.ref C) (hd:oe.dict=some dx) (hdata:oe.data=.fields vs) (hne:dx ≠ a) (xc:k9 X.K C cd) (hn:PySem.W.findIn X.K (.ref C) f=some none) (hdh:iJ dx od (scF fs)) (hv:PE (X.hnd2 a oe dx od) (.Name en p) (gM i))
  (hb:attributeBase (.Name en p) f X.env (eval (.Name en p) X.env)=eval (.Name en p) X.env:=by rfl):Ev (X.hnd2 a oe dx od) .V (.Attribute (.Name en p) f pos) (vN i a f fs) :=
 PE.by (zr hc hd hdata hne xc hn hdh hv hb) fun σ H Q z=>by
  obtain ⟨B,F,E,d',k,q,w⟩:=z
  unfold vN at q
  obtain ⟨d,hl,q⟩:=Option.bind_eq_some_iff.mp q
  by_cases hsc:kD d=true
  ·rw [if_pos hsc] at q
   obtain ⟨rfl,e⟩:=mT k q
   refine ⟨_,e,rfl,scV d',?_,w _ F H (Ext.refl k.sub) (Bg hsc)⟩
   have:∀ l:List (Str×D),l.lookup f=some d'→(scF l).lookup f=some (scV d'):=fun l=>by
    induction l with
    | nil=>intro z; cases z
    | cons y l ih =>
     intro z
     obtain ⟨g,x⟩:=y
     rw [FY] at z
     show List.lookup f ((g,scV x) :: scF l)=_
     rw [FY]
     cases hg:f == g with
     | true=>rw [hg] at z; cases z; rfl
     | false=>rw [hg] at z; exact ih z
   exact this fs hl
  ·rw [if_neg hsc] at q; cases q
def C8 (Cs:List Addr):TA:=fun _ H Q=>Q (Cs.map V.ref) H
def wG:Expr→Pos
 | .Name _ p=>p
 | _=>⟨0,0,0,0⟩
theorem sK {X:Cx}{ad:Str→Addr}:∀ {as:List Str}{es:List Expr},es=List.zipWith Expr.Name as (es.map wG)→(∀ y ∈ as,X.mg y=some (.ref (ad y)))→as.map X.env.kindOf=(as.map fun _=>some NameKind.globalImplicit)→as.all (fun y => !(y == ("__debug__" : Str)))=true→as.length=es.length→PA X es (C8 (as.map ad))
 | [],[],_,_,_,_,_=>ej
 | y :: as,e :: es,h,m,g,d,l=>by
  rw [EN,GY] at h
  rw [EN,EN] at g
  rw [Gn] at d
  injection h with h1 h2
  injection g with g1 g2
  obtain ⟨d1,d2⟩:=Bool.and_eq_true_iff.mp d
  have h3:=cI (nn (v:=.ref (ad y)) (pos:=wG e) g1 (m y (.head _)) rfl (by simpa using d1)) (sK (X:=X) (ad:=ad) h2 (fun z hz=>m z (.tail _ hz)) g2 d2 (Nat.succ.inj l)) rfl
  rw [← h1] at h3
  exact h3
theorem xS {as:List Str}{ad:Str→Addr}{es:List Expr}{x1}{tpos:Pos}{b:Bool} (hcl:oe.cls=.ref C) (xc:k9 X.K C cd) (hc:PySem.W.findIn X.K (.ref C) "__class__" = some (some (.builtin "object.__class__"))) (hg:Gl (X.hnd2 a oe dx od) "isinstance") (hm:X.mg "isinstance" = none) (hbi:bootBuiltins "isinstance" = some (.builtin "isinstance")) (hv:PE (X.hnd2 a oe dx od) (.Name en p) (gM i))
  (hm2:∀ y ∈ as,X.mg y=some (.ref (ad y))) (hk:PySem.W.kitAny X.K (.ref C) (as.map fun y=>.ref (ad y))=some b) (hz:as.length≤9:=by decide) (hes:es=List.zipWith Expr.Name as (es.map wG):=by rfl) (hgl:as.map X.env.kindOf=(as.map fun _=>some NameKind.globalImplicit):=by rfl) (hdb:as.all (fun y => !(y == ("__debug__" : Str)))=true:=by decide)
  (hln:as.length=es.length:=by rfl):Ev (X.hnd2 a oe dx od) .V (.Call (.Name "isinstance" np) [.Name en p,.Tuple es x1 tpos] [] pos) (xF i a (.bl b)) :=
 PE.by (gd (nX hcl xc hc) hg hm hbi (cI hv (cI (wO (sK (X:=X.hnd2 a oe dx od) hes hm2 hgl hdb hln)) ej rfl) rfl)) fun σ H Q z=>by
  obtain ⟨B,F,E,d',k,q,w⟩:=z
  obtain ⟨rfl,e⟩:=mT k q
  refine ⟨_,e,?_,fun tp htp=>⟨tp,as.map ad,b,rfl,aw,by rw [Fm]; exact hk,w _ F _ ⟨fun c o z=>?_,fun c o z=>z,fun c o z=>?_,fun c z _=>z⟩ (.bl b)⟩⟩
  ·rw [EW,EW]; exact Fa hz (by decide)
  ·rw [aj (fun z1=>by rw [z1,htp] at z; cases z)]; exact z
  ·rw [aj (fun z1=>by rw [z1] at z; rw [k.sub _ _ z] at htp; cases htp)]; exact k.sub _ _ z
theorem nH {e:Expr}{c:Value}{y:V}{b:Bool} (hcl:oe.cls=.ref C) (xc:k9 X.K C cd) (hc:PySem.W.findIn X.K (.ref C) "__class__" = some (some (.builtin "object.__class__"))) (hg:Gl (X.hnd2 a oe dx od) "isinstance") (hm:X.mg "isinstance" = none) (hbi:bootBuiltins "isinstance" = some (.builtin "isinstance")) (hv:PE (X.hnd2 a oe dx od) (.Name en p) (gM i))
  (he:PE (X.hnd2 a oe dx od) e (tC y)) (hy:∀ u,aS y u→u=c) (hk:PySem.W.kitOne X.K (.ref C) c=some b) (hs:aP e=true:=by rfl) :
  Ev (X.hnd2 a oe dx od) .V (.Call (.Name "isinstance" np) [.Name en p,e] [] pos) (xF i a (.bl b)) :=
 PE.by (gd (lB hcl xc hc) hg hm hbi (cI hv (cI he ej (aE e [] X.env hs)) rfl) (by decide) (by decide) rfl (dZ pos X.env [e] (by simp [hs]))) fun σ H Q z=>by
  obtain ⟨B,F,E,d',k,q,w⟩:=z
  obtain ⟨rfl,e⟩:=mT k q
  exact ⟨_,e,y,c,b,rfl,hy,hk,w _ F H (Ext.refl k.sub) (.bl b)⟩
end
theorem bu.wide {P:Program}{w:World}{K:PySem.W.Frag}{mg:Str→Option Value}{base:Heap}{CX:CXT}{k:Nat}{f:Addr}{fd:FuncData}{ps:List Str}{sp:Sp} (F:bu P w K mg base CX0 k f fd ps sp):bu P w K mg base CX k f fd ps sp :=
 ⟨F.len,fun A outer s H args us vs Q E hr he hb hv hs=>GF (F.run A outer s H args us vs Q E hr he hb hv hs) fun r s' z=>by
  cases r with
  | error e=>exact False.elim z
  | ok fl=>cases fl <;> exact z⟩
theorem bu.or {P:Program}{w:World}{K:PySem.W.Frag}{mg:Str→Option Value}{base:Heap}{CX:CXT}{k:Nat}{f:Addr}{fd:FuncData}{ps:List Str}{sp sp' sp2:Sp} (F:bu P w K mg base CX k f fd ps sp) (F':bu P w K mg base CX k f fd ps sp')
  (h:∀ vs H Q E,sp2 vs H Q E→sp vs H Q E∨sp' vs H Q E):bu P w K mg base CX k f fd ps sp2 :=
 ⟨fun vs H Q E q=>(h _ _ _ _ q).elim (F.len vs H Q E) (F'.len vs H Q E),fun A outer s H args us vs Q E hr he hb hv hs=>(h _ _ _ _ hs).elim (fun z=>F.run A outer s H args us vs Q E hr he hb hv z) fun z=>F'.run A outer s H args us vs Q E hr he hb hv z⟩
def iB (g:List D→Option D) (gx:List D→Option (Option (Nat×List (Str×D)))) (ds:List D):Option (Option (Nat×List (Str×D))):=match g ds with
 | some _=>some none
 | none=>gx ds
theorem Eu {P:Program}{w:World}{K:PySem.W.Frag}{mg:Str→Option Value}{base:Heap}{k n:Nat}{f:Addr}{fd:FuncData}{ps:List Str}{cl:Nat→Addr}{g:List D→Option D}{gx:List D→Option (Option (Nat×List (Str×D)))} (F:bu P w K mg base CX0 k f fd ps (spN n g))
  (F':bu P w K mg base (CX1 P w) k f fd ps (uk cl n gx)):bu P w K mg base (CX1 P w) k f fd ps (uk cl n (iB g gx)) :=
 bu.or (bu.wide F) F' fun vs H Q E h=>by
  obtain ⟨G,ds,r,h1,h2,h3,h4,h5⟩:=h
  unfold iB at h4
  cases hg:g ds with
  | none=>rw [hg] at h4; exact .inr ⟨G,ds,r,h1,h2,h3,h4,h5⟩
  | some d=>rw [hg] at h4; cases h4; exact .inl ⟨G,ds,d,h1,h2,h3,hg,fun v F' H' x _=>h5 v F' H' x⟩
open PySem PySem.Spec PyProof.Rows PySem.W
def iC:List Value→List Value
 | .ref _ :: r=>iC r
 | l=>l
theorem je (self:Value):∀ l:List Value,refuseLoop self "__setattr__" l=refuseLoop self "__setattr__" (iC l)
 | []=>rfl
 | v :: r=>by
  cases v with
  | ref c=>rw [refuseLoop_ref]; exact je self r
  | _=>rfl
theorem kT {x:Value}:∀ l:List Value,(iC l).contains x=true→l.contains x=true
 | [],h=>h
 | v :: r,h=>by
  cases v with
  | ref c=>rw [List.contains_cons,kT r h,G9]
  | _=>exact h
def vM (K:Frag) (C:Addr):Bool:=match clsIn K C with
 | some cd=>iC cd.mro == bmV && (cd.hasDict && (findIn K (.ref C) "__setattr__" == some (some (.builtin "object.__setattr__")) && (findIn K (.ref C) "__getattribute__" == some (some (.builtin "BaseException.__getattribute__")) && findIn K (.ref C) "__getattr__" == some none)))
 | none=>false
theorem yK {K:Frag}{C:Addr} (h:vM K C=true):∃ cd,k9 K C cd:=by
 unfold vM at h
 split at h
 ·rename_i cd hc
  simp only [FK,HS] at h
  obtain ⟨h1,h2,h3,h4,h5⟩:=h
  exact ⟨cd,hc,fun self=>by rw [je,h1]; exact PySem.F.store_ValueError.passes self,kT _ (by rw [h1]; decide +kernel),kT _ (by rw [h1]; decide +kernel),h2,h3,h4,h5⟩
 ·cases h
def cv (K:Frag) (x:Str):Addr:=match nsIn K mainGlobals x with
 | some (some (.ref a))=>a
 | _=>0
def kE (K:Frag) (C:Addr):Addr:=match findIn K (.ref C) "__init__" with
 | some (some (.ref a))=>a
 | _=>0
def CG (K:Frag) (x:Str):Bool:=nsIn K mainGlobals x == some (some (.ref (cv K x)))
def Cw (K:Frag) (x f:Str):Bool:=CG K x && (ly K (cv K x) (kE K (cv K x)) && (isFn K (.ref (kE K (cv K x))) && (keepIn K (.ref (cv K x)) && (vM K (cv K x) && (findIn K (.ref (cv K x)) f == some none && findIn K (.ref (cv K x)) "__class__" == some (some (.builtin "object.__class__")))))))
structure A0 (K:Frag) (x f:Str):Prop where
 ns:nsIn K mainGlobals x=some (some (.ref (cv K x)))
 q:ly K (cv K x) (kE K (cv K x))=true
 fn:isFn K (.ref (kE K (cv K x)))=true
 kp:keepIn K (.ref (cv K x))=true
 xc:∃ cd,k9 K (cv K x) cd
 nf:findIn K (.ref (cv K x)) f=some none
 cl:findIn K (.ref (cv K x)) "__class__" = some (some (.builtin "object.__class__"))
theorem Cv {K:Frag}{x f:Str} (h:Cw K x f=true):A0 K x f:=by
 unfold Cw CG at h
 simp only [FK,HS] at h
 obtain ⟨h1,h2,h3,h4,h5,h6,h7⟩:=h
 exact ⟨h1,h2,h3,h4,yK h5,h6,h7⟩
theorem zG {P:Program}{w:World}{K:Frag}{mg:Str→Option Value}{base:Heap}{qual:Str}{st:Stmt}{C fI:Addr}{fd:FuncData}{f p:Str}{cd:ClassData}{p1 p2 p3 p4:Pos} (F:Fun K "__init__" qual st fI fd) (S:aM ["self",p] ["self",p] (al st)) (xc:k9 K C cd) (hn:findIn K (.ref C) f=some none)
  (hb:dL st=[.Assign [.Attribute (.Name "self" p1) f p2] (.Name p p3) p4]) (hv0:Vis (al st) "self") (hv1:Vis (al st) p) (hd:(p == ("__debug__" : Str))=false) (hcd:(p == ("__classdict__" : Str))=false)
  (hsw:∀ (env:Env),swapsWith (.Name p p3) (some (.Attribute (.Name "self" p1) f p2)) p4.line env=pure false):bu P w K mg base CX0 1 fI fd ["self",p] (spI C f):=by
 refine Fun.ok (k:=0) F S (fun vs H Q E z=>?_) fun cdv A outer s H vs Q E hr z=>?_
 ·obtain ⟨e,t,v,rfl,_⟩:=z; rfl
 ·rw [hb]
  refine ⟨_,jv (DA (kg (i:=0) rfl hv0) (kg (i:=1) rfl hv1 hd hcd) (hsw _)),?_⟩
  obtain ⟨e,t,v,rfl,he,hq⟩:=z
  exact ⟨v,rfl,V.ref e,rfl,e,C,t,cd,rfl,he,xc,hn,fun dx h1 h2=>hq dx h1 h2⟩
abbrev sA (K:Frag) (as:List Str):List Value:=as.map fun y=>.ref (cv K y)
abbrev x_ (K:Frag) (x f qual:Str) (as bs:List Str) (c d:Str):=(zV K qual (kE K (cv K x)),Cw K x f && (as ++ bs ++ [c,d]).all (CG K),kitAny K (.ref (cv K x)) (sA K as),kitAny K (.ref (cv K x)) (sA K bs),kitOne K (.ref (cv K x)) (.ref (cv K c)),kitOne K (.ref (cv K x)) (.ref (cv K d)),kitOne K (.ref (cv K x)) (.type "ValueError"))
abbrev ya (qual:Str) (st:Stmt):=(xO "__init__" qual st,true,some false,some false,some false,some true,some true)
structure AZ (K:Frag) (mg:Str→Option Value) (x f qual:Str) (st:Stmt) (as bs:List Str) (c d:Str):Prop where
 fn:∃ fd,Fun K "__init__" qual st (kE K (cv K x)) fd
 er:A0 K x f
 mx:mg x=some (.ref (cv K x))
 ms:∀ y ∈ as ++ bs ++ [c,d],mg y=some (.ref (cv K y))
 ka:kitAny K (.ref (cv K x)) (sA K as)=some false
 kb:kitAny K (.ref (cv K x)) (sA K bs)=some false
 kc:kitOne K (.ref (cv K x)) (.ref (cv K c))=some false
 kd:kitOne K (.ref (cv K x)) (.ref (cv K d))=some true
 kv:kitOne K (.ref (cv K x)) (.type "ValueError")=some true
theorem xw {K:Frag}{mg:Str→Option Value}{x f qual:Str}{st:Stmt}{as bs:List Str}{c d:Str} (h:x_ K x f qual as bs c d=ya qual st) (g:∀ (x:Str) (v:Value),nsIn K mainGlobals x=some (some v)→mg x=some v):AZ K mg x f qual st as bs c d:=by
 obtain ⟨h1,h⟩:=Gf h
 obtain ⟨h2,h⟩:=Gf h
 obtain ⟨h3,h⟩:=Gf h
 obtain ⟨h4,h⟩:=Gf h
 obtain ⟨h5,h⟩:=Gf h
 obtain ⟨h6,h7⟩:=Gf h
 obtain ⟨e1,e2⟩:=Bool.and_eq_true_iff.mp h2
 have er:=Cv e1
 exact ⟨AV h1,er,g _ _ er.ns,fun y hy=>g _ _ (beq_iff_eq.mp (List.all_eq_true.mp e2 y hy)),h3,h4,h5,h6,h7⟩
end L2.Cu
namespace L2.Cu.Sh
open PySem PySem.Spec PyProof.Rows
def b__Lmixed:DE→Option Out :=
 (az (bin bW (bin pw (ac 0) (cst (.int 271828182845904523536028747135266249775724709369995957496697))) (bin lj (cst (.int 10)) (cst (.int 60)))))
def g__Lmixed:List D→Option D:=ci 1 1 b__Lmixed
def b__Lcell:DE→Option Out :=
 (av (ifS (tst (bin ltD (ac 1) (un bg (ac 0))))
 (az (aC 1 g__Lmixed (aa (bin ixE (ac 0) (ac 1)) ah)))
 a9)
 (az (cst (.int 0))))
def g__Lcell:List D→Option D:=ci 2 2 b__Lcell
def b__Ltexts:DE→Option Out :=
 (av (aD 3 (cst (.str "abcdefghijklmnopqrstuvwxyz")))
 (av (aD 4 (bin bW (ac 0) (cst (.int 3))))
 (av (aD 5 (bin bW (bin bK (ac 0) (cst (.int 3))) (ac 2)))
 (av (aD 6 (bin bW (bin bK (ac 0) (cst (.int 40))) (bin bG (ac 5) (cst (.int 1)))))
 (av (aD 0 (bin bK (ac 0) (cst (.int 600))))
 (av (aD 7 (cst (.str "")))
 (av (c4 (eS (aa (var 2) ah)) (nmG 8)
 (av (aD 7 (bin bG (ac 7) (bin ixE (ac 3) (bin bW (ac 0) (cst (.int 26))))))
 (aD 0 (bin bK (ac 0) (cst (.int 26))))))
 (av (ifS (tst (bin eqO (ac 4) (cst (.int 0))))
 (az (aQ [8] (eS (aa (var 1) ah)) (nmG 8) noT (ba (ac 7) noP (bv (bin bG (cst (.int 1)) (ac 8))))))
 a9)
 (av (ifS (tst (bin eqO (ac 4) (cst (.int 1))))
 (az (aQ [8] (eS (aa (var 1) ah)) (nmG 8) noT (bin bG (bin bG (ba (ac 7) noP (bv (var 6))) (bin ixE (ac 3) (bin bW (bin bG (ac 0) (ac 8)) (cst (.int 26))))) (ba (ac 7) (bv (var 6)) (bv (var 5))))))
 a9)
 (az (aQ [8] (eS (aa (var 1) ah)) (nmG 8) noT (bin pw (bin ixE (ac 3) (bin bW (bin bG (ac 0) (ac 8)) (cst (.int 26)))) (bin bG (cst (.int 1)) (ac 5))))))))))))))
def g__Ltexts:List D→Option D:=ci 3 9 b__Ltexts
def b__Lplay:DE→Option Out :=
 (av (cp 3 (bn ah))
 (av (aD 4 (cg ah))
 (av (c4 (a8 aH (var 0)) (nmG 5)
 (av (aD 5 (aC 1 g__Lmixed (aa (var 5) ah)))
 (av (aD 6 (aQ [8] (a8 aH (var 1)) (nmG 8) (tst (bin uO (ac 8) (ac 4))) (var 8)))
 (av (cp 7 (bn ah))
 (av (c4 (a8 aH (var 6)) (nmG 8)
 (av (ifS (tst (bin eqO (bin bW (ac 5) (cst (.int 3))) (cst (.int 0))))
 (dl 7 (var 8))
 a9)
 (aD 5 (bin bK (ac 5) (cst (.int 3))))))
 (av (ifS (orT (tst (bin eqO (ac 7) (bn ah))) (tst (bin eqO (un bg (ac 7)) (un bg (ac 1)))))
 (cp 7 (bn (aa (bin ixE (ac 6) (bin bW (ac 5) (un bg (ac 6)))) ah)))
 a9)
 (av (aD 5 (bin bK (ac 5) (cst (.int 5))))
 (av (cp 9 (bn ah))
 (av (c4 (eS (aa (bin bG (cst (.int 1)) (bin bW (ac 5) (cst (.int 5)))) ah)) (nmG 10)
 (av (aD 5 (bin bK (ac 5) (cst (.int 7))))
 (dl 9 (bin ixE (ac 2) (bin bW (ac 5) (un bg (ac 2)))))))
 (av (aD 4 (un aW (un lN (ac 7))))
 (dl 3 (cg (aa (var 4) (aa (un aW (ac 9)) ah))))))))))))))
 (az (un aW (ac 3))))))
def g__Lplay:List D→Option D:=ci 3 11 b__Lplay
def b__Lsame (gIH:List D→Option D):DE→Option Out :=
 (av (ifS (tst (isF "tuple" (ac 1)))
 (av (ifS (orT (cC (tst (isF "tuple" (ac 0)))) (tst (bin neO (un bg (ac 0)) (un bg (ac 1)))))
 (az (cst (.bl false)))
 a9)
 (az (un lD (aQ [2] (eS (aa (un bg (ac 1)) ah)) (nmG 2) noT (aC 2 gIH (aa (bin ixE (ac 0) (ac 2)) (aa (bin ixE (ac 1) (ac 2)) ah)))))))
 a9)
 (av (ifS (tst (isF "str" (ac 1)))
 (az (gv (isF "str" (ac 0)) (bin eqO (ac 0) (ac 1))))
 a9)
 (az (gv (isF "int" (ac 0)) (gv (lr (isF "bool" (ac 0))) (bin eqO (ac 0) (ac 1)))))))
def g__Lsame:Nat→List D→Option D
 | 0=>fun _=>none
 | k + 1=>ci 2 3 (b__Lsame (g__Lsame k))
end L2.Cu.Sh
namespace L2.Cu
open PySem PySem.Spec PyProof.Rows
theorem ph {α:Type} (f:Nat→α) (m:Nat) (h:∀ i j,i < m→j < m→f i=f j→i=j):((List.range m).map f).Nodup:=by
 induction m with
 | zero=>exact List.nodup_nil
 | succ m ih =>
  rw [HA,Fs,List.nodup_append]
  refine ⟨ih fun i j hi hj e=>h i j (by omega) (by omega) e,GS _ _,fun a ha b hb=>?_⟩
  obtain ⟨i,hi,rfl⟩:=List.mem_map.mp ha
  obtain ⟨j,hj,rfl⟩:=List.mem_map.mp hb
  rw [HI] at hi
  rw [GT] at hj
  subst hj
  intro e
  have:=h i j (by omega) (by omega) e
  omega
def AC (l:List Nat):Prop:=∀ c ∈ l,97≤c∧c≤122
structure Wd (M:Nat) (x:Str):Prop where
 pos:1≤x.length
 le:x.length≤M
 low:AC x.cps.toList
theorem Wd.mk' {M:Nat}{l:List Nat} (h1:1≤l.length) (h2:l.length≤M) (h3:AC l):Wd M (L2.Cu.mk l):=⟨by rw [fD]; exact h1,by rw [fD]; exact h2,by rw [dJ]; exact h3⟩
theorem yA:Str.ofString "abcdefghijklmnopqrstuvwxyz" = mk (List.range' 97 26):=by decide
theorem yh:Str.ofString "" = mk []:=by decide
theorem vw {i:Int} (h:0≤i) (h2:i < 26):(List.range' 97 26).getD i.toNat 0=97 + i.toNat:=by
 have hlt:i.toNat < 26:=by omega
 rw [FA,List.getElem?_range' hlt]
 simp
theorem iU {i:Int} (h:0≤i) (h2:i < 26):ixE (.str (mk (List.range' 97 26))) (.int i)=some (.str (mk [97 + i.toNat])):=by
 rw [Cd (by decide) h (by simpa using h2),vw h h2]
namespace Sh
theorem xi {c:Int} (h:Builtin.Int.intBits c≤2 ^ 20):g__Lmixed [.int c]=some (.int (c * 271828182845904523536028747135266249775724709369995957496697 % 10 ^ 60)):=by
 have hb:Builtin.Int.intBits 271828182845904523536028747135266249775724709369995957496697≤2 ^ 20:=by decide
 refine bE ?_
 simp only [g__Lmixed,b__Lmixed,af,aG,ax,az,bin,cst,ac,aL,gF,EG,EI,EN,EO,EQ,ER,EL,EM,on,List.replicate,Nat.reduceAdd,Nat.reduceSub,Int.reduceLT,Int.reduceLE,Int.reducePow,Int.reduceToNat,Int.reduceAbs,Nat.reducePow,Nat.reduceLT,xh h hb]
theorem ko {c:Int} (h:Builtin.Int.intBits c≤2 ^ 20):wp (g__Lmixed [.int c]) fun d=>∃ e:Int,d=.int e∧0≤e:=by
 rw [xi h]
 exact ⟨_,rfl,Fy _ (by decide)⟩
theorem tO {ns:List Int} (hb:∀ i ∈ ns,Builtin.Int.intBits i≤2 ^ 20) (k:Nat):wp (g__Lcell [.scr ns,.int k]) fun d=>∃ e:Int,d=.int e∧0≤e:=by
 simp only [g__Lcell,b__Lcell,af,aG,ar,aT,bin,un,ac,tst,asB,fF,EG,EN,EO,EQ,ER,EL,EM,on,EH,List.replicate,Nat.reduceAdd,Nat.reduceSub,gj]
 refine ir (fun h=>?_) fun h=>?_
 ·have hk:k < ns.length:=by omega
  simp only [bS,a_,ax,az,bin,ac,aC,aa,ah,EG,EI,EL,EM,on,EH,reduceIte,Nat.reduceAdd,nD,cu,EV hk]
  exact ko (hb _ (Fx hk))
 ·simp only [af,ao,ax,az,a9,cst,EI,D.int.injEq]
  exact ⟨0,rfl,Int.le_refl 0⟩
theorem yi {c:Int}{i j:Nat} (hi:i < 26) (hj:j < 26) (e:97 + ((c + i) % 26).toNat=97 + ((c + j) % 26).toNat):i=j:=by omega
theorem rq (c:Int):97≤97 + (c % 26).toNat∧97 + (c % 26).toNat≤122:=by omega
theorem oG (c mI MI:Int) (m M:Nat) (hmI:mI=m) (hMI:MI=M) (hm:m≤M) (hM:M≤12) (hM1:1≤M):wp (g__Ltexts [.int c,.int mI,.int MI]) fun d=>∃ ss:List Str,d=.lst (ss.map D.str)∧ss.length=m∧ss.Nodup∧∀ x ∈ ss,Wd M x:=by
 have hM0:(0:Int) < MI:=by omega
 have h26:m≤26:=Fa hm (Fa hM (by decide))
 have fin:∀ f:Nat→List Nat,(∀ i j,i < m→j < m→f i=f j→i=j)→(∀ i,i < m→1≤(f i).length∧(f i).length≤M∧AC (f i))→∃ ss:List Str,D.lst ((List.range m).map fun k=>D.str (mk (f k)))=.lst (ss.map D.str)∧ss.length=m∧ss.Nodup∧∀ x ∈ ss,Wd M x:=fun f h1 h2 =>
  ⟨(List.range m).map fun k=>mk (f k),by rw [Fm]; rfl,by simp,ph _ m fun i j hi hj e=>h1 i j hi hj (BY.mp e),fun x hx=>by
   obtain ⟨k,hk,rfl⟩:=List.mem_map.mp hx
   obtain ⟨a,b,c⟩:=h2 k (List.mem_range.mp hk)
   exact Wd.mk' a b c⟩
 have hs0:0≤c / 3 % MI:=Fy _ (by omega)
 have hs1:c / 3 % MI < MI:=Fw _ hM0
 generalize hsI:c / 3 % MI=sI at hs0 hs1
 have hszp:(0:Int) < sI + 1:=by omega
 have ha0:0≤c / 40 % (sI + 1):=Fy _ (by omega)
 have ha1:c / 40 % (sI + 1) < sI + 1:=Fw _ hszp
 generalize haI:c / 40 % (sI + 1)=aI at ha0 ha1
 obtain ⟨sz,hsz⟩:∃ sz:Nat,sI=sz:=⟨sI.toNat,by omega⟩
 obtain ⟨at',hat⟩:∃ at':Nat,aI=at':=⟨aI.toNat,by omega⟩
 have hat1:at'≤sz:=by omega
 simp only [g__Ltexts,b__Ltexts,af,aG,ar,ao,aD,bP,bin,cst,var,ac,aa,ah,cN,aL,bQ,EG,EI,EN,EO,EQ,ER,EL,EM,EJ,EK,on,EH,List.replicate,Nat.reduceAdd,Nat.reduceSub,Int.reduceLT,Int.reduceLE,Int.reducePow,cE,aL hM0,yA,yh,hsI,aL hszp,haI]
 rw [db (by omega) (by omega),show MI.toNat=M by omega]
 simp only [af]
 refine cz (fun i:Nat=>D.int (0 + i)) (List.range M) (fun pre E=>∃ (c':Int) (l:List Nat) (sl:Sl),E=[Sl.val (D.int c'),Sl.val (D.int mI),Sl.val (D.int MI),Sl.val (D.str (mk (List.range' 97 26))),Sl.val (D.int (c % 3)),Sl.val (D.int sI),Sl.val (D.int aI),Sl.val (D.str (mk l)),sl]∧l.length=pre.length∧AC l) ?_ ?_ ?_ ?_
 ·rfl
 ·exact ⟨c / 600,[],Sl.no,rfl,rfl,fun c h=>by cases h⟩
 ·rintro pre k post E hs ⟨c',l,sl,rfl,hl,hlow⟩
  have hl':pre.length < 12:=by
   have:=FZ List.length hs
   simp at this
   omega
  have h0:0≤c' % 26:=Fy _ (by decide)
  have h1:c' % 26 < 26:=Fw _ (by decide)
  simp only [af,aJ,bS,ar,ao,aD,bin,cst,ac,nmG,aL,bQ,EG,EJ,EK,on,EH,Int.reduceLT,Int.reduceLE,Int.reducePow,iU h0 h1]
  rw [n_ (by simp; omega)]
  simp only [af]
  refine ⟨_,_,_,rfl,by simp [hl],fun x hx=>?_⟩
  rcases List.mem_append.mp hx with h | h
  ·exact hlow x h
  ·rw [List.mem_singleton.mp h]; exact rq _
 ·rintro E ⟨c',l,sl,rfl,hl,hlow⟩
  rw [Fo] at hl
  have hz:l.length≤16777216:=by omega
  simp only [af,ar,ao,aT,bin,cst,ac,tst,asB,EG,on,EH,cK]
  refine ir (fun h=>?_) fun h=>?_
  ·simp only [aJ,bS,a_,ax,az,var,aa,ah,cN,aV,aQ,EG,EI,EJ,EK,on,EH,ES,FL]
   rw [db (by omega) (by omega),show mI.toNat=m by omega]
   simp only [af]
   refine cA (fP (by simp [dX]; omega)) ?_
   rw [show dX 0 m=(List.range m).map (fun i:Nat=>D.int (0 + i)) from rfl,bR (fun i:Nat=>D.int (0 + i)) (fun k=>D.str (mk (l.take (1 + k)))) (List.range m) fun k hk=>?_]
   ·simp only [af,EI]
    have ht:∀ i,i < m→(l.take (1 + i)).length=1 + i:=fun i hi=>Hv (by omega)
    refine fin _ (fun i j hi hj e=>?_) fun i hi=>⟨by rw [ht i hi]; exact Nat.le_add_right 1 i,by rw [ht i hi]; omega,fun c hc=>hlow c (Ha hc)⟩
    have:=FZ List.length e
    rw [ht i hi,ht j hj] at this
    exact Nat.add_left_cancel this
   ·refine bE ?_
    simp only [af,bin,cst,ac,noP,bv,ba,EG,EJ,EK,on,EH,cE,wb hz]
    rw [show (1:Int) + (0 + (k:Nat))=((1 + k:Nat):Int) by omega,yo]
  ·simp only [af,ar,ao,aT,a9,bin,cst,ac,tst,asB,EG,on,EH,cK]
   refine ir (fun h2=>?_) fun h2=>?_
   ·simp only [aJ,bS,a_,ax,az,var,aa,ah,cN,aV,aQ,EG,EI,EJ,EK,on,EH,ES,FL]
    rw [db (by omega) (by omega),show mI.toNat=m by omega]
    simp only [af]
    refine cA (fP (by simp [dX]; omega)) ?_
    rw [show dX 0 m=(List.range m).map (fun i:Nat=>D.int (0 + i)) from rfl,bR (fun i:Nat=>D.int (0 + i)) (fun k:Nat=>D.str (mk (l.take at' ++ [97 + ((c' + k) % 26).toNat] ++ (l.take sz).drop at'))) (List.range m) fun k hk=>?_]
    ·simp only [af,EI]
     have ht:∀ y:Nat,(l.take at' ++ [y] ++ (l.take sz).drop at').length=sz + 1:=fun y=>by
      rw [Fb,Fb,Gw,Hv (by omega),Hv (by omega),FT]; omega
     refine fin _ (fun i j hi hj e=>?_) fun i hi=>⟨by rw [ht]; exact Nat.le_add_left 1 sz,by rw [ht]; omega,fun c hc=>?_⟩
     ·have e1:=List.append_cancel_right e
      have e2:=List.append_cancel_left e1
      injection e2 with e3
      exact yi (Fi hi h26) (Fi hj h26) e3
     ·simp only [List.mem_append] at hc
      rcases hc with (hc | hc) | hc
      ·exact hlow c (Ha hc)
      ·rw [List.mem_singleton.mp hc]; exact rq _
      ·exact hlow c (Ha (List.mem_of_mem_drop hc))
    ·refine bE ?_
     have h0:0≤(c' + (0 + (k:Nat))) % 26:=Fy _ (by decide)
     have h1:(c' + (0 + (k:Nat))) % 26 < 26:=Fw _ (by decide)
     simp only [aJ,bin,cst,var,ac,noP,bv,ba,aL,EG,EJ,EK,on,EH,Int.reduceLT,cE,wb hz,iU h0 h1]
     rw [hat,hsz,yo,nT]
     have hx:(l.take at').length≤l.length:=List.length_take_le' ..
     have hy:((l.take sz).drop at').length≤l.length:=Fa (by rw [Gw]; exact Nat.sub_le _ _) (List.length_take_le' sz l)
     have hlm:l.length≤12:=by omega
     rw [n_ (Fa (Nat.add_le_add (Fa hx hlm) (E9 _)) (by simp only [FT]; decide))]
     simp only [af]
     rw [n_ (Fa (Nat.add_le_add (by rw [Fb]; exact Nat.add_le_add (Fa hx hlm) (E9 _)) (Fa hy hlm)) (by simp only [FT]; decide))]
     simp only [af]
     rw [show c' + (0 + (k:Int))=c' + k by omega]
   ·simp only [af,aJ,bS,ao,ax,az,a9,var,aa,ah,cN,aV,aQ,EG,EI,EJ,EK,on,EH,ES,FL]
    rw [db (by omega) (by omega),show mI.toNat=m by omega]
    simp only [af]
    refine cA (fP (by simp [dX]; omega)) ?_
    rw [show dX 0 m=(List.range m).map (fun i:Nat=>D.int (0 + i)) from rfl,bR (fun i:Nat=>D.int (0 + i)) (fun k:Nat=>D.str (mk (List.replicate (1 + sz) [97 + ((c' + k) % 26).toNat]).flatten)) (List.range m) fun k hk=>?_]
    ·simp only [af,EI]
     refine fin _ (fun i j hi hj e=>?_) fun i hi=>⟨by simp,by simp; omega,fun c hc=>?_⟩
     ·rw [Nat.add_comm 1 sz,GL,GL,Hm,Hm] at e
      injection e with e3
      exact yi (Fi hi h26) (Fi hj h26) e3
     ·obtain ⟨y,hy,hcy⟩:=List.mem_flatten.mp hc
      rw [(List.mem_replicate.mp hy).2] at hcy
      rw [List.mem_singleton.mp hcy]; exact rq _
    ·refine bE ?_
     have h0:0≤(c' + (0 + (k:Nat))) % 26:=Fy _ (by decide)
     have h1:(c' + (0 + (k:Nat))) % 26 < 26:=Fw _ (by decide)
     simp only [bin,cst,ac,aL,EG,EJ,EK,on,EH,Int.reduceLT,cE,iU h0 h1]
     rw [zK (by omega) (by omega) (by simp; omega)]
     simp only [af]
     rw [show c' + (0 + (k:Int))=c' + k by omega,show ((1:Int) + sI).toNat=1 + sz by omega]
end Sh
abbrev Sp:=List Str×List Str
def b9 (ss:List Str):D:=.tup (ss.map D.str)
def cT (s:Sp):D:=.tup [b9 s.1,b9 s.2]
def aZ (p:List Sp):D:=.tup (p.map cT)
def ltS (a b:Str):Prop:=a.cps.toList < b.cps.toList
structure CW (names words:List Str) (s:Sp):Prop where
 ne:s.1 ≠ []
 le:s.1.length≤names.length
 lt:s.1.length < names.length∨names.length≤1
 sub:∀ n ∈ s.1,n ∈ names
 ris:s.1.Pairwise ltS
 wne:s.2 ≠ []
 wle:s.2.length≤5
 wsub:∀ w ∈ s.2,w ∈ words
def rW (a b:Sp):Prop:=∀ n ∈ a.1,n ∉ b.1
def iK:List Sp→Prop
 | a :: b :: r=>rW a b∧iK (b :: r)
 | _=>True
theorem iK.snoc:∀ {p:List Sp}{s:Sp},iK p→(∀ a,p.getLast? = some a→rW a s)→iK (p ++ [s])
 | [],_,_,_=>trivial
 | [a],s,_,h=>⟨h a rfl,trivial⟩
 | a :: b :: r,s,h,hl=>⟨h.1,iK.snoc (p:=b :: r) h.2 fun x hx=>hl x (by rw [List.getLast?_cons_cons]; exact hx)⟩
structure vH (names words:List Str) (p:List Sp):Prop where
 each:∀ s ∈ p,CW names words s
 apart:iK p
def cX (p:List Sp):List Str:=(p.getLast?.map (·.1)).getD []
theorem ku (p:List Sp) (s:Sp):cX (p ++ [s])=s.1:=by simp [cX]
theorem v9 {ss:List Str} (h:ss.Nodup):(cZ ss).Pairwise ltS:=by
 have h1:=jI ss
 have h2:(cZ ss).Nodup:=(cB ss).nodup_iff.mpr h
 refine List.Pairwise.imp₂ (fun a b hab hne=>?_) h1 h2
 unfold leS at hab
 simp only [Ho,GP] at hab
 rcases List.le_iff_lt_or_eq.mp (List.not_lt.mp hab) with z | z
 ·exact z
 ·exact absurd (mW z) hne
theorem Wd.lowS {M:Nat}{x:Str} (h:Wd M x):vF x:=fun c hc=>(h.low c hc).2
theorem gH {α:Type} [DecidableEq α]:∀ {l m:List α},l.Nodup→(∀ x ∈ l,x ∈ m)→l.length≤m.length
 | [],_,_,_=>FV _
 | x :: l,m,h,hs=>by
  obtain ⟨hx,hn⟩:=List.nodup_cons.mp h
  have hm:=hs x Fd
  have:=gH (l:=l) (m:=m.erase x) hn fun y hy=>(List.mem_erase_of_ne (fun z=>hx (by rw [← z]; exact hy))).mpr (hs y (E7 _ hy))
  rw [List.length_erase_of_mem hm] at this
  have:=List.length_pos_of_mem hm
  rw [EL]
  omega
namespace Sh
theorem zj (cells:List Int) (names words:List Str) (hb:∀ i ∈ cells,Builtin.Int.intBits i≤2 ^ 20) (hc:cells.length≤61) (hn:names.Nodup) (hn2:2≤names.length) (hn8:names.length≤8) (hnw:∀ x ∈ names,vF x) (hw:1≤words.length) :
  wp (g__Lplay [.lst (cells.map D.int),.lst (names.map D.str),.lst (words.map D.str)]) fun d=>∃ p,d=aZ p∧p.length=cells.length∧vH names words p:=by
 simp only [g__Lplay,b__Lplay,af,aG,ar,ao,aD,cp,bP,var,ah,cg,bn,a8,aH,EG,EI,EN,EO,EQ,ER,EL,EM,EJ,EK,on,List.replicate,reduceIte,Nat.reduceAdd,Nat.reduceSub,Nat.reduceLeDiff,br]
 refine cz D.int cells (fun pre E=>∃ (p:List Sp) (s5 s6 s7 s8 s9 s10:Sl),E=[Sl.val (D.lst (cells.map D.int)),Sl.val (D.lst (names.map D.str)),Sl.val (D.lst (words.map D.str)),Sl.own (D.lst (p.map cT)),Sl.val (D.tup ((cX p).map D.str)),s5,s6,s7,s8,s9,s10] ∧
  p.length=pre.length∧vH names words p∧(cX p).length < names.length) rfl ?_ ?_ ?_
 ·exact ⟨[],_,_,_,_,_,_,rfl,rfl,⟨fun _ h=>(by cases h),trivial⟩,by show 0 < _; omega⟩
 ·rintro pre c post E hs ⟨p,s5,s6,s7,s8,s9,s10,rfl,hpl,hgood,hlast⟩
  have hcm:c ∈ cells:=by rw [hs]; simp
  have hpre:pre.length < cells.length:=by rw [hs]; simp
  try simp only [af,aJ,bS,ar,ao,aD,cp,bP,var,aC,aa,ah,bn,a8,nmG,aV,aQ,aH,EG,EI,EL,EM,EJ,EK,on,EH,ES,FL,reduceIte,Nat.reduceAdd,Nat.reduceLeDiff,br]
  refine dF (ko (hb c hcm)) ?_
  rintro _ ⟨e,rfl,he⟩
  try simp only [af,aJ,bS,aG,ar,ao,a_,ax,m9,aD,cp,aT,aY,a7,bP,az,Dn,a9,bin,un,iF,cst,var,ac,tst,asB,cC,D9,orT,gv,orV,lr,ifV,aC,aa,ah,cg,bn,a8,cN,oZ,noP,bv,ba,nmG,dj,bh,dk,isF,nR,ym,noT,aV,aQ,e7,aL,bQ,gF,DR,fF,sR,nC,sS,jx,iw,lD,D8,a6,aH,tyN,EG,EI,Option.bind_none,Option.map_none,EN,EO,EQ,ER,EL,EM,EJ,EK,on,EH,List.replicate,ES,FL,reduceIte,Nat.reduceAdd,Nat.reduceSub,Int.reduceLT,Int.reduceLE,Int.reducePow,Int.reduceToNat,Int.reduceAdd,Int.reduceSub,Int.reduceMul,Int.reduceNeg,Int.reduceAbs,Nat.reducePow,Nat.reduceLT,Nat.reduceLeDiff,Nat.reduceMul,and_true,true_and,and_self,Fz,FO,Ff,G0,decide_false,HV,D.int.injEq,D.bl.injEq,cP,String.reduceBEq,Fu,Bool.true_or,G9,HQ,Fv,GV,GU,Fl,Gx,Bool.or_self,Bool.and_self,reduceCtorEq,cE,sX,sV,sW,pF,pD,pE,su,eJ,jt,cK,tw,rm,eM,sP,sY,pq,br,lQ,c3,b5,cR,nD,bZ,bc,gj,ip,dl,lv,nZ,jk,sh,jf,fZ,bp,jF,me,e_,eY,pL,cW,AT,hJ,df]
  refine cA (fP (by simp; omega)) ?_
  rw [iE D.str (fun n => !decide (n ∈ cX p)) D.str names fun x hx=>?_]
  ·try simp only [af,EI]
   generalize hfr:names.filter (fun n => !decide (n ∈ cX p))=free
   have hfsub:∀ n ∈ free,n ∈ names∧n ∉ cX p:=fun n hn=>by
    rw [← hfr,List.mem_filter] at hn
    exact ⟨hn.1,by simpa using hn.2⟩
   have hfnd:free.Nodup:=by rw [← hfr]; exact hn.filter _
   have hfl:free.length≤8:=by rw [← hfr]; exact Fa (HD _ _) hn8
   have hfne:0 < free.length:=by
    rcases Nat.eq_zero_or_pos free.length with h0 | h0
    ·exfalso
     have hall:∀ n ∈ names,n ∈ cX p:=fun n hn'=>by
      by_cases hm:n ∈ cX p
      ·exact hm
      ·have:n ∈ free:=by rw [← hfr,List.mem_filter]; exact ⟨hn',by simpa using hm⟩
       rw [List.length_eq_zero_iff.mp h0] at this
       cases this
     have:=gH hn hall
     omega
    ·exact h0
   refine cz D.str free (fun pr E=>∃ (some':List Str) (e':Int) (sl:Sl),E=[Sl.val (D.lst (cells.map D.int)),Sl.val (D.lst (names.map D.str)),Sl.val (D.lst (words.map D.str)),Sl.own (D.lst (p.map cT)),Sl.val (D.tup ((cX p).map D.str)),Sl.val (D.int e'),Sl.val (D.lst (free.map D.str)),Sl.own (D.lst (some'.map D.str)),sl,s9,s10]∧some'.Sublist pr) rfl ⟨[],_,_,rfl,.slnil⟩ ?_ ?_
   ·rintro pr x po E hsx ⟨so,e',sl,rfl,hsub⟩
    have hl:so.length≤8:=Fa hsub.length_le (by rw [hsx] at hfl; simp at hfl; omega)
    try simp only [af,aJ,ar,aT,bin,cst,ac,tst,asB,nmG,aL,EG,EJ,EK,on,EH,Int.reduceLT,cK]
    refine ir (fun h=>?_) fun h=>?_
    ·try simp only [var,EG,EJ,EK,on,EH,dl]
     refine cA (fV (by simp; omega)) ?_
     try simp only [af,ao,aD,bin,cst,ac,bQ,EG,EI,EJ,EK,on,EH,Int.reduceLT,Int.reduceLE,Int.reducePow]
     exact ⟨so ++ [x],_,_,by rw [Fs]; rfl,hsub.append (List.Sublist.refl _)⟩
    ·try simp only [af,ao,aD,a9,bin,cst,ac,bQ,EG,EI,EJ,EK,on,EH,Int.reduceLT,Int.reduceLE,Int.reducePow]
     exact ⟨so,_,_,rfl,hsub.trans (List.sublist_append_left _ _)⟩
   ·rintro E ⟨so,e',sl,rfl,hsub⟩
    have hsl:so.length≤8:=Fa hsub.length_le hfl
    have hsmem:∀ n ∈ so,n ∈ free:=fun n hn'=>hsub.subset hn'
    have hsnd:so.Nodup:=hsub.nodup hfnd
    have hslow:∀ x ∈ so,vF x:=fun x hx=>hnw x (hfsub x (hsmem x hx)).1
    have hfl0:(0:Int) < (free.length:Int):=by omega
    have key:∀ (so':List Str),so'.Nodup→so' ≠ []→so'.length < names.length→(∀ n ∈ so',n ∈ free)→wp ((av (aD 5 (bin bK (ac 5) (cst (.int 5)))) (av (cp 9 (bn ah)) (av (c4 (eS (aa (bin bG (cst (.int 1)) (bin bW (ac 5) (cst (.int 5)))) ah)) (nmG 10) (av (aD 5 (bin bK (ac 5) (cst (.int 7)))) (dl 9 (bin ixE (ac 2) (bin bW (ac 5) (un bg (ac 2))))))) (av (aD 4 (un aW (un lN (ac 7)))) (dl 3 (cg (aa (var 4) (aa (un aW (ac 9)) ah)))))))) [Sl.val (D.lst (cells.map D.int)),Sl.val (D.lst (names.map D.str)),Sl.val (D.lst (words.map D.str)),Sl.own (D.lst (p.map cT)),Sl.val (D.tup ((cX p).map D.str)),Sl.val (D.int e'),Sl.val (D.lst (free.map D.str)),Sl.own (D.lst (so'.map D.str)),sl,s9,s10])
      (fun r=>match r with | .nx E'=>∃ (p:List Sp) (s5 s6 s7 s8 s9 s10:Sl),E'=[Sl.val (D.lst (cells.map D.int)),Sl.val (D.lst (names.map D.str)),Sl.val (D.lst (words.map D.str)),Sl.own (D.lst (p.map cT)),Sl.val (D.tup ((cX p).map D.str)),s5,s6,s7,s8,s9,s10]∧p.length=(pre ++ [c]).length∧vH names words p∧(cX p).length < names.length | .ct E'=>∃ (p:List Sp) (s5 s6 s7 s8 s9 s10:Sl),E'=[Sl.val (D.lst (cells.map D.int)),Sl.val (D.lst (names.map D.str)),Sl.val (D.lst (words.map D.str)),Sl.own (D.lst (p.map cT)),Sl.val (D.tup ((cX p).map D.str)),s5,s6,s7,s8,s9,s10]∧p.length=(pre ++ [c]).length∧vH names words p∧(cX p).length < names.length | _=>False):=by
     intro so' h1 h2 h3 h4
     try simp only [af,ar,ao,aD,cp,bP,bin,cst,ac,aa,ah,bn,cN,aL,bQ,EG,EI,EM,EJ,EK,on,EH,reduceIte,Int.reduceLT,Int.reduceLE,Int.reducePow,Nat.reduceLeDiff,cE,br]
     have hr:1≤1 + e' / 5 % 5∧1 + e' / 5 % 5≤5:=by omega
     rw [db (by omega) (by omega)]
     try simp only [af]
     refine cz (fun i:Nat=>D.int (0 + i)) (List.range (1 + e' / 5 % 5).toNat) (fun pr E=>∃ (ws:List Str) (e':Int) (sl2:Sl),E=[Sl.val (D.lst (cells.map D.int)),Sl.val (D.lst (names.map D.str)),Sl.val (D.lst (words.map D.str)),Sl.own (D.lst (p.map cT)),Sl.val (D.tup ((cX p).map D.str)),Sl.val (D.int e'),Sl.val (D.lst (free.map D.str)),Sl.own (D.lst (so'.map D.str)),sl,Sl.own (D.lst (ws.map D.str)),sl2]∧ws.length=pr.length∧∀ w ∈ ws,w ∈ words) rfl ⟨[],_,_,rfl,rfl,fun _ h=>by cases h⟩ ?_ ?_
     ·rintro pr k po E hk ⟨ws,e2,sl2,rfl,hwl,hws⟩
      have hwp:(0:Int) < ((words.map D.str).length:Int):=by simp; omega
      have hpl':pr.length < 5:=by
       have:=FZ List.length hk
       simp at this
       omega
      simp only [af,aJ,bS,ar,ao,aD,bin,un,cst,ac,nmG,aL,bQ,EG,EJ,EK,on,EH,Int.reduceLT,Int.reduceLE,Int.reducePow,b5,bZ,dl,aL hwp]
      refine vR (Fy _ (by omega)) (Fw _ hwp) fun d hd=>?_
      obtain ⟨x,hx,rfl⟩:=List.mem_map.mp hd
      refine cA (fV (by simp; omega)) ?_
      try simp only [af]
      exact ⟨ws ++ [x],_,_,by rw [Fs]; rfl,by simp [hwl],fun w hw'=>by
       rcases List.mem_append.mp hw' with z | z
       ·exact hws w z
       ·rw [List.mem_singleton.mp z]; exact hx⟩
     ·rintro E ⟨ws,e2,sl2,rfl,hwl,hws⟩
      rw [Fo] at hwl
      simp only [af,ar,ao,aD,un,var,ac,aa,ah,cg,EG,EI,EL,EM,EJ,EK,on,EH,reduceIte,Nat.reduceAdd,Nat.reduceLeDiff,br,dl,bp,ul (show so'.length < 64 by omega)]
      refine cA (fV (by simp; omega)) ?_
      try simp only [af]
      have hperm:=cB so'
      have hdisj:∀ n ∈ cX p,n ∉ cZ so':=fun n hn' hm=>(hfsub n (h4 n (hperm.mem_iff.mp hm))).2 hn'
      refine ⟨p ++ [(cZ so',ws)],Sl.val (D.int e2),Sl.val (D.lst (free.map D.str)),Sl.own (D.lst (so'.map D.str)),sl,Sl.own (D.lst (ws.map D.str)),sl2,?_,by simp [hpl],⟨fun s hs'=>?_,?_⟩,?_⟩
      ·rw [ku,Fs]; rfl
      ·rcases List.mem_append.mp hs' with z | z
       ·exact hgood.each s z
       ·rw [List.mem_singleton.mp z]
        refine ⟨fun z=>h2 (List.length_eq_zero_iff.mp (by rw [← hperm.length_eq,show cZ so'=[] from z]; rfl)),by rw [hperm.length_eq]; omega,.inl (by rw [hperm.length_eq]; exact h3),fun n hn'=>(hfsub n (h4 n (hperm.mem_iff.mp hn'))).1,v9 h1,fun z=>?_,by simp only; omega,hws⟩
        rw [show ws=[] from z] at hwl
        simp at hwl
        omega
      ·refine hgood.apart.snoc fun a ha n hn'=>?_
       have:cX p=a.1:=by unfold cX; rw [ha]; rfl
       exact hdisj n (by rw [this]; exact hn')
      ·rw [ku]
       show (cZ so').length < _
       rw [hperm.length_eq]; exact h3
    have one:wp ((cp 7 (bn (aa (bin ixE (ac 6) (bin bW (ac 5) (un bg (ac 6)))) ah))) [Sl.val (D.lst (cells.map D.int)),Sl.val (D.lst (names.map D.str)),Sl.val (D.lst (words.map D.str)),Sl.own (D.lst (p.map cT)),Sl.val (D.tup ((cX p).map D.str)),Sl.val (D.int e'),Sl.val (D.lst (free.map D.str)),Sl.own (D.lst (so.map D.str)),sl,s9,s10]) (fun r=>∃ x,x ∈ free∧r=.nx [Sl.val (D.lst (cells.map D.int)),Sl.val (D.lst (names.map D.str)),Sl.val (D.lst (words.map D.str)),Sl.own (D.lst (p.map cT)),Sl.val (D.tup ((cX p).map D.str)),Sl.val (D.int e'),Sl.val (D.lst (free.map D.str)),Sl.own (D.lst ([x].map D.str)),sl,s9,s10]):=by
     have hfp:(0:Int) < ((free.map D.str).length:Int):=by simp; omega
     simp only [af,aJ,bS,cp,bin,un,ac,aa,ah,bn,aL,EG,EI,EN,EO,EL,EM,EJ,EK,on,EH,reduceIte,Nat.reduceAdd,Nat.reduceLeDiff,br,b5,bZ,aL hfp]
     refine vR (Fy _ (by omega)) (Fw _ hfp) fun d hd=>?_
     obtain ⟨x,hx,rfl⟩:=List.mem_map.mp hd
     skip
     try simp only [af,aJ,bS,aG,ar,ao,a_,ax,m9,aD,cp,aT,aY,a7,bP,az,Dn,a9,bin,un,iF,cst,var,ac,tst,asB,cC,D9,orT,gv,orV,lr,ifV,aC,aa,ah,cg,bn,a8,cN,oZ,noP,bv,ba,nmG,dj,bh,dk,isF,nR,ym,noT,aV,aQ,e7,aL,bQ,gF,DR,fF,sR,nC,sS,jx,iw,lD,D8,a6,aH,tyN,EG,EI,Option.bind_none,Option.map_none,EN,EO,EQ,ER,EL,EM,EJ,EK,on,EH,List.replicate,ES,FL,reduceIte,Nat.reduceAdd,Nat.reduceSub,Int.reduceLT,Int.reduceLE,Int.reducePow,Int.reduceToNat,Int.reduceAdd,Int.reduceSub,Int.reduceMul,Int.reduceNeg,Int.reduceAbs,Nat.reducePow,Nat.reduceLT,Nat.reduceLeDiff,Nat.reduceMul,and_true,true_and,and_self,Fz,FO,Ff,G0,decide_false,HV,D.int.injEq,D.bl.injEq,cP,String.reduceBEq,Fu,Bool.true_or,G9,HQ,Fv,GV,GU,Fl,Gx,Bool.or_self,Bool.and_self,reduceCtorEq,cE,sX,sV,sW,pF,pD,pE,su,eJ,jt,cK,tw,rm,eM,sP,sY,pq,br,lQ,c3,b5,cR,nD,bZ,bc,gj,ip,dl,lv,nZ,jk,sh,jf,fZ,bp,jF,me,e_,eY,pL,cW,AT,hJ,df]
     exact ⟨x,hx,rfl⟩
    have single:∀ x,x ∈ free→([x]:List Str).Nodup∧([x]:List Str) ≠ []∧([x]:List Str).length < names.length∧∀ n ∈ [x],n ∈ free:=fun x hx=>⟨GS _ _,by simp,by simp; omega,fun n hn'=>by rw [List.mem_singleton.mp hn']; exact hx⟩
    have hcond:orT (tst (bin eqO (ac 7) (bn ah))) (tst (bin eqO (un bg (ac 7)) (un bg (ac 1)))) [Sl.val (D.lst (cells.map D.int)),Sl.val (D.lst (names.map D.str)),Sl.val (D.lst (words.map D.str)),Sl.own (D.lst (p.map cT)),Sl.val (D.tup ((cX p).map D.str)),Sl.val (D.int e'),Sl.val (D.lst (free.map D.str)),Sl.own (D.lst (so.map D.str)),sl,s9,s10]=some (decide (so=[]) || decide (so.length=names.length)):=by
     refine bE ?_
     simp only [bin,un,ac,tst,asB,orT,ah,bn,EG,EM,on,EH,reduceIte,Nat.reduceLeDiff,cK,br,bZ,vf hslow]
     by_cases hso:so=[]
     ·simp only [hso,af,EO,EM,reduceIte,G0,Bool.true_or]
     ·simp only [hso,af,reduceIte,Ff,decide_false,HQ,EW]
      congr 1
      exact propext ⟨fun h=>by omega,fun h=>by omega⟩
    rw [ao,ar,aT,hcond,af]
    refine kF (fun h=>?_) fun h=>?_
    ·refine dF one ?_
     rintro _ ⟨x,hx,rfl⟩
     obtain ⟨a1,a2,a3,a4⟩:=single x hx
     rw [ao]
     exact key [x] a1 a2 a3 a4
    ·simp only [Bool.or_eq_false_iff,GP] at h
     rw [show a9 _=some (Out.nx _) from rfl,af,ao]
     refine key so hsnd h.1 ?_ hsmem
     have h1:so.length ≠ names.length:=h.2
     have h2:so.length≤names.length:=Fa hsub.length_le (by rw [← hfr]; exact HD _ _)
     omega
  ·simp only [af,bin,var,ac,tst,asB,nmG,EG,EJ,EK,on,EH,true_and,GU,xa]
   exact fun _=>trivial
 ·rintro E ⟨p,s5,s6,s7,s8,s9,s10,rfl,hpl,hgood,hlast⟩
  try simp only [af,ao,ax,az,un,ac,EG,EI,on,EH,bp]
  exact ⟨p,rfl,hpl,hgood⟩
end Sh
theorem oY (n:Nat):dX 0 n=(List.range n).map (fun i:Nat=>D.int (0 + i)):=rfl
theorem tU {α:Type}{xs:List α}{i:Nat}:atI xs (0 + (i:Int))=xs[i]?:=by rw [HE]; exact cu
theorem n6 {α:Type} [DecidableEq α] (xs ys:List α) (h:xs.length=ys.length):((List.range ys.length).map fun i=>decide (xs[i]? = ys[i]?)).all id=decide (xs=ys):=by
 rw [List.all_map]
 by_cases e:xs=ys
 ·subst e
  rw [Fj rfl,GI]
  intro i _
  simp
 ·rw [Fc e]
  rw [Bool.eq_false_iff]
  intro hall
  rw [GI] at hall
  refine e (G3 fun i=>?_)
  rcases G6 i ys.length with hi | hi
  ·have:=hall i (List.mem_range.mpr hi)
   simpa using this
  ·rw [FB (by omega),FB hi]
namespace Sh
theorem same_int (k:Nat) (a b:Int):g__Lsame (k + 1) [.int a,.int b]=some (.bl (decide (a=b))):=by
 refine bE ?_
 simp only [g__Lsame,b__Lsame,af,aG,ar,ao,ax,aT,a7,az,a9,bin,ac,tst,asB,gv,lr,isF,tyN,EG,EI,EN,EO,EQ,ER,EL,EM,on,EH,List.replicate,reduceIte,Nat.reduceAdd,Nat.reduceSub,FO,cP,String.reduceBEq,Fu,Fv,GV,Fl,cK]
theorem wk {α:Type} [DecidableEq α] (enc:α→D) (k:Nat) (h:∀ a b,g__Lsame k [enc a,enc b]=some (.bl (decide (a=b)))) (xs ys:List α) (hx:xs.length≤4000000) (hy:ys.length≤4000000):g__Lsame (k + 1) [.tup (xs.map enc),.tup (ys.map enc)]=some (.bl (decide (xs=ys))):=by
 have hylen:(ys.map enc).length=ys.length:=EW ..
 have hxlen:(xs.map enc).length=xs.length:=EW ..
 by_cases hl:xs.length=ys.length
 ·have hc:cc (nmG 2) noT (aC 2 (g__Lsame k) (aa (bin ixE (ac 0) (ac 2)) (aa (bin ixE (ac 1) (ac 2)) ah))) [Sl.val (D.tup (xs.map enc)),Sl.val (D.tup (ys.map enc)),Sl.no] (dX 0 ys.length)=some ((List.range ys.length).map fun i=>D.bl (decide (xs[i]? = ys[i]?))):=by
   rw [oY]
   refine bR _ _ _ fun i hi=>?_
   rw [HI] at hi
   have hi':i < xs.length:=by omega
   refine bE ?_
   simp only [af,bin,ac,aC,aa,ah,EG,EI,EL,EM,EJ,EK,on,EH,reduceIte,Nat.reduceAdd,HV,cR,tU,Fg,EV hi,EV hi',h]
  have e0:decide ((xs.length:Int)=(ys.length:Int))=true:=by simp [hl]
  have hz:(dX 0 ys.length).length≤16777216:=by simp [dX]; omega
  have hr:jb [D.int (ys.length:Int)]=some (dX 0 ys.length):=by rw [db (by omega) (by omega),Gd]
  refine bE ?_
  simp only [g__Lsame,b__Lsame,af,aG,ar,ao,a_,ax,aT,aY,a7,az,a9,bin,un,ac,tst,asB,cC,orT,aa,ah,cN,isF,aV,aQ,lD,tyN,EG,EI,EN,EO,EQ,ER,EL,EM,EJ,EK,on,EH,List.replicate,ES,FL,reduceIte,Nat.reduceAdd,Nat.reduceSub,Fz,Ff,D.bl.injEq,cP,String.reduceBEq,Fu,Fv,Fl,eM,br,bc,hylen,hxlen,e0,hr,hc,br hz,iG]
  rw [n6 xs ys hl]
 ·have e0:decide ((xs.length:Int)=(ys.length:Int))=false:=by simp; omega
  have hne:xs ≠ ys:=fun z=>hl (by rw [z])
  refine bE ?_
  simp only [g__Lsame,b__Lsame,af,aG,ar,a_,ax,aT,aY,az,bin,un,cst,ac,tst,asB,cC,orT,isF,tyN,EG,EI,EN,EO,EQ,ER,EL,EM,on,EH,List.replicate,reduceIte,Nat.reduceAdd,Nat.reduceSub,Fz,FO,Ff,cP,String.reduceBEq,Fu,Fv,Fl,eM,bc,hylen,hxlen,e0,Fc hne]
theorem uu (k:Nat) (ss ts:List Int) (hx:ss.length≤4000000) (hy:ts.length≤4000000):g__Lsame (k + 2) [.tup (ss.map D.int),.tup (ts.map D.int)]=some (.bl (decide (ss=ts))):=wk D.int (k + 1) (same_int k) ss ts hx hy
end Sh
end L2.Cu
namespace L2.Cu.Sh
open PySem PySem.Spec PyProof.Rows
def b_names_in:DE→Option Out :=
 (av (cp 1 (bn ah))
 (av (c4 (a8 a6 (var 0)) (dj 2 (bh (nmG 2) (bh (nmG 3) dk)))
 (lv 1 (ac 2)))
 (az (un aW (un fX (ac 1))))))
def g_names_in:List D→Option D:=ci 1 4 b_names_in
def b_begins:DE→Option Out :=
 (av (cp 1 (bn ah))
 (av (aD 2 (cst (.int 0)))
 (av (c4 (a8 a6 (var 0)) (dj 2 (bh (nmG 3) (bh (nmG 4) dk)))
 (av (dl 1 (var 2))
 (nZ 2 (un bg (ac 4)))))
 (az (un aW (ac 1))))))
def g_begins:List D→Option D:=ci 1 5 b_begins
def b_words_in:DE→Option Out :=
 (av (cp 1 (bn ah))
 (av (c4 (a8 a6 (var 0)) (dj 2 (bh (nmG 2) (bh (nmG 3) dk)))
 (lv 1 (ac 3)))
 (az (un aW (ac 1)))))
def g_words_in:List D→Option D:=ci 1 4 b_words_in
end L2.Cu.Sh
namespace L2.Cu
open PySem PySem.Spec PyProof.Rows
def ce (p:List Sp) (n:Str):List Str:=p.foldl (fun h s=>if n ∈ s.1 then [] else h ++ s.2) []
theorem lI (p:List Sp) (s:Sp) (n:Str):ce (p ++ [s]) n=if n ∈ s.1 then [] else ce p n ++ s.2:=by unfold ce; rw [G2]; rfl
def aq (p:List Sp):List Str:=p.flatMap (·.2)
def aX (p:List Sp):List Str:=p.flatMap (·.1)
theorem b_ (p:List Sp) (s:Sp):aq (p ++ [s])=aq p ++ s.2:=by simp [aq]
theorem dN (p:List Sp) (s:Sp):aX (p ++ [s])=aX p ++ s.1:=by simp [aX]
theorem gU {p pre post:List Sp} (h:p=pre ++ post):(aq pre).length≤(aq p).length:=by
 subst h; simp [aq]
theorem fC {p pre post:List Sp} (h:p=pre ++ post):(aX pre).length≤(aX p).length:=by
 subst h; simp [aX]
theorem oz (n:Str):∀ p:List Sp,(ce p n).length≤(aq p).length:=by
 intro p
 have key:∀ (q:List Sp) (h:List Str),(q.foldl (fun h s=>if n ∈ s.1 then [] else h ++ s.2) h).length≤h.length + (aq q).length:=by
  intro q
  induction q with
  | nil=>intro h; simp [aq]
  | cons s q ih =>
   intro h
   rw [ES]
   refine Fa (ih _) ?_
   have e:(aq (s :: q)).length=s.2.length + (aq q).length:=by simp [aq]
   rw [e]
   split
   ·simp; omega
   ·rw [Fb]; omega
 have:=key p []
 simpa [ce] using this
def gu:List Sp→Int→List Int
 | [],_=>[]
 | s :: r,t=>t :: gu r (t + s.2.length)
theorem mQ:∀ (p:List Sp) (s:Sp) (t:Int),gu (p ++ [s]) t=gu p t ++ [t + (aq p).length]
 | [],s,t=>by simp [gu,aq]
 | a :: p,s,t=>by
  rw [EQ,gu,mQ p s,gu,EQ]
  have e:(aq (a :: p)).length=a.2.length + (aq p).length:=by simp [aq]
  rw [e]
  congr 3
  omega
theorem kZ:∀ (p:List Sp) (t:Int),(gu p t).length=p.length
 | [],_=>rfl
 | s :: p,t=>by rw [gu,EL,kZ p,EL]
theorem xk {α β:Type} (f:α→β) (l:List α) (x:α):l.map f ++ [f x]=(l ++ [x]).map f:=by simp
namespace Sh
theorem oq (p:List Sp) (hw:(aq p).length≤1000000):g_words_in [aZ p]=some (b9 (aq p)):=by
 refine bE ?_
 simp only [g_words_in,b_words_in,af,aG,ar,ao,cp,bP,var,ah,bn,a8,a6,EG,EI,EN,EO,EQ,ER,EL,EM,EJ,EK,on,List.replicate,reduceIte,Nat.reduceAdd,Nat.reduceSub,Nat.reduceLeDiff,br,aZ]
 refine cz cT p (fun pre E=>∃ s2 s3,E=[Sl.val (D.tup (p.map cT)),Sl.own (D.lst ((aq pre).map D.str)),s2,s3]) rfl ⟨_,_,rfl⟩ ?_ ?_
 ·rintro pre s post E hs ⟨s4,s5,rfl⟩
  have h2:=gU (p:=p) (pre:=pre ++ [s]) (post:=post) (by rw [hs]; simp)
  rw [b_,Fb] at h2
  simp only [af,ac,nmG,dj,bh,dk,EG,EL,EM,EJ,EK,on,EH,reduceIte,Nat.reduceAdd,lv,fZ,cT,b9]
  refine cA (fP (by simp; omega)) ?_
  simp only [af]
  exact ⟨_,_,by rw [b_,Fs]⟩
 ·rintro E ⟨s4,s5,rfl⟩
  simp only [af,ao,ax,az,un,ac,EG,EI,on,EH,bp,b9]
theorem pt (p:List Sp) (hw:(aX p).length≤4000) (hd:(ded (aX p)).length < 64):g_names_in [aZ p]=some (b9 (cZ (ded (aX p)))):=by
 refine bE ?_
 simp only [g_names_in,b_names_in,af,aG,ar,ao,cp,bP,var,ah,bn,a8,a6,EG,EI,EN,EO,EQ,ER,EL,EM,EJ,EK,on,List.replicate,reduceIte,Nat.reduceAdd,Nat.reduceSub,Nat.reduceLeDiff,br,aZ]
 refine cz cT p (fun pre E=>∃ s2 s3,E=[Sl.val (D.tup (p.map cT)),Sl.own (D.lst ((aX pre).map D.str)),s2,s3]) rfl ⟨_,_,rfl⟩ ?_ ?_
 ·rintro pre s post E hs ⟨s4,s5,rfl⟩
  have h2:=fC (p:=p) (pre:=pre ++ [s]) (post:=post) (by rw [hs]; simp)
  rw [dN,Fb] at h2
  simp only [af,ac,nmG,dj,bh,dk,EG,EL,EM,EJ,EK,on,EH,reduceIte,Nat.reduceAdd,lv,fZ,cT,b9]
  refine cA (fP (by simp; omega)) ?_
  simp only [af]
  exact ⟨_,_,by rw [dN,Fs]⟩
 ·rintro E ⟨s4,s5,rfl⟩
  simp only [af,ao,ax,az,un,ac,EG,EI,on,EH,bp,b9,oN (show (aX p).length + 1 < 4096 by omega) hd]
theorem vv (p:List Sp) (hp:p.length≤1000000):g_begins [aZ p]=some (.tup ((gu p 0).map D.int)):=by
 refine bE ?_
 simp only [g_begins,b_begins,af,aG,ar,ao,aD,cp,bP,cst,var,ah,bn,a8,a6,EG,EI,EN,EO,EQ,ER,EL,EM,EJ,EK,on,List.replicate,reduceIte,Nat.reduceAdd,Nat.reduceSub,Nat.reduceLeDiff,br,aZ]
 refine cz cT p (fun pre E=>∃ t s3 s4,E=[Sl.val (D.tup (p.map cT)),Sl.own (D.lst ((gu pre 0).map D.int)),Sl.val (D.int t),s3,s4]∧t=(aq pre).length) rfl ⟨_,_,_,rfl,rfl⟩ ?_ ?_
 ·rintro pre s post E hs ⟨t,s3,s4,rfl,ht⟩
  have hl:pre.length < p.length:=by rw [hs]; simp
  simp only [af,ar,var,nmG,dj,bh,dk,EG,EL,EM,EJ,EK,on,EH,reduceIte,Nat.reduceAdd,dl,cT,b9]
  refine cA (fV (by simp [kZ]; omega)) ?_
  simp only [af,ao,un,ac,EG,EJ,EK,on,EH,bc,nZ]
  refine ⟨t + ((s.2.map D.str).length:Nat),Sl.val (D.tup (s.1.map D.str)),Sl.val (D.tup (s.2.map D.str)),?_,?_⟩
  ·rw [xk,mQ,← ht,HE]
  ·rw [ht,b_]; simp
 ·rintro E ⟨t,s3,s4,rfl,ht⟩
  simp only [af,ao,ax,az,un,ac,EG,EI,on,EH,bp]
end Sh
def gV (m:List (Str×Int)) (n:Str) (t:Int):List (Str×Int):=if (m.any fun q=>decide (q.1=n))=true then m.map (fun q=>if q.1=n then (q.1,t) else q) else m ++ [(n,t)]
def hV (m:List (Str×Int)):List (Key×D):=m.map fun q=>(Sum.inr q.1,D.int q.2)
theorem sT (a b:Str):decide ((Sum.inr a:Key)=Sum.inr b)=decide (a=b):=by
 by_cases h:a=b
 ·simp [h]
 ·simp [h]
theorem o5 (m:List (Str×Int)) (n:Str) (t:Int):nh (hV m) (.inr n) (.int t)=hV (gV m n t):=by
 have ha:((hV m).any fun kv=>decide (kv.1=Sum.inr n))=m.any fun q=>decide (q.1=n):=by
  unfold hV
  rw [List.any_map]
  congr 1
  funext q
  exact sT q.1 n
 unfold nh gV
 rw [ha]
 split
 ·unfold hV
  rw [Fm,Fm]
  refine FJ fun q _=>?_
  by_cases h:q.1=n
  ·simp [h]
  ·simp [h]
 ·unfold hV; simp
def lu (m:List (Str×Int)) (n:Str):Option Int:=(m.find? fun q=>decide (q.1=n)).map (·.2)
theorem vV (m:List (Str×Int)) (n:Str):dQ (hV m) (.inr n)=(lu m n).map D.int:=by
 unfold dQ lu hV
 induction m with
 | nil=>rfl
 | cons q r ih =>
  rw [EN,F8,F8,sT]
  cases decide (q.1=n)
  ·exact ih
  ·rfl
theorem xK (m:List (Str×Int)) (n k:Str) (t:Int):lu (gV m n t) k=if k=n then some t else lu m k:=by
 unfold gV
 by_cases ha:(m.any fun q=>decide (q.1=n))=true
 ·rw [if_pos ha]
  unfold lu
  induction m with
  | nil=>simp at ha
  | cons q r ih =>
   rw [EN,F8,F8]
   by_cases hq:q.1=n
   ·rw [if_pos hq]
    by_cases hk:k=n
    ·subst hk; simp [hq]
    ·have h1:¬ q.1=k:=fun z=>hk (by rw [← z,hq])
     simp only [Fc h1,if_neg hk]
     by_cases hr:(r.any fun q=>decide (q.1=n))=true
     ·have:=ih hr
      rw [if_neg hk] at this
      exact this
     ·have e:r.map (fun q=>if q.1=n then (q.1,t) else q)=r:=by
       conv=>rhs; rw [← List.map_id r]
       refine FJ fun x hx=>?_
       have:¬ x.1=n:=fun z=>hr (List.any_eq_true.mpr ⟨x,hx,Fj z⟩)
       simp [this]
      rw [e]
   ·rw [if_neg hq]
    by_cases hqk:q.1=k
    ·have hk:¬ k=n:=fun z=>hq (by rw [hqk,z])
     simp [hqk,if_neg hk]
    ·simp only [Fc hqk]
     have hr:(r.any fun q=>decide (q.1=n))=true:=by
      rw [Gu,Fc hq] at ha
      simpa using ha
     exact ih hr
 ·rw [if_neg ha]
  unfold lu
  rw [List.find?_append]
  by_cases hk:k=n
  ·subst hk
   have:m.find? (fun q=>decide (q.1=k))=none:=List.find?_eq_none.mpr fun x hx z=>ha (List.any_eq_true.mpr ⟨x,hx,z⟩)
   rw [this]
   simp
  ·have h1:¬ n=k:=fun z=>hk z.symm
   rw [if_neg hk]
   cases m.find? (fun q=>decide (q.1=k)) with
   | some x=>rfl
   | none=>simp [h1]
theorem xy (m:List (Str×Int)) (n:Str) (t:Int):(gV m n t).map (·.1)=if n ∈ m.map (·.1) then m.map (·.1) else m.map (·.1) ++ [n]:=by
 have hm:(m.any fun q=>decide (q.1=n))=true ↔ n ∈ m.map (·.1):=by
  rw [List.any_eq_true,List.mem_map]
  exact ⟨fun zz168_0=>by obtain ⟨x,h1,h2⟩:=zz168_0; exact ⟨x,h1,FH h2⟩,fun zz169_0=>by obtain ⟨x,h1,h2⟩:=zz169_0; exact ⟨x,h1,Fj h2⟩⟩
 unfold gV
 by_cases h:(m.any fun q=>decide (q.1=n))=true
 ·rw [if_pos h,if_pos (hm.mp h),Fm]
  refine FJ fun q _=>?_
  show (if q.1=n then (q.1,t) else q).1=q.1
  split <;> rfl
 ·rw [if_neg h,if_neg fun z=>h (hm.mpr z)]; simp
theorem gb {n x:Nat}{pre post:List Nat} (h:List.range n=pre ++ x :: post):x=pre.length∧x < n:=by
 have h1:(List.range n)[pre.length]? = some x:=by rw [h]; simp
 obtain ⟨h2,h3⟩:=List.getElem?_eq_some_iff.mp h1
 rw [HP] at h3
 rw [Fo] at h2
 exact ⟨h3.symm,by omega⟩
theorem Aj (xs ys:List Str):ded (xs ++ ys)=ys.foldl (fun acc x=>if x ∈ acc then acc else acc ++ [x]) (ded xs):=by unfold ded; rw [G2]
structure fO (p:List Sp) (m:List (Str×Int)):Prop where
 keys:m.map (·.1)=ded (aX p)
 win:∀ n,∃ k:Nat,(lu m n).getD 0=(k:Int)∧k≤(aq p).length∧ce p n=(aq p).drop k
theorem fO.next {p:List Sp}{m:List (Str×Int)} (h:fO p m) (s:Sp):fO (p ++ [s]) (s.1.foldl (fun m n=>gV m n ((aq (p ++ [s])).length:Int)) m):=by
 have hk:∀ (ns:List Str) (m:List (Str×Int)) (t:Int),(ns.foldl (fun m n=>gV m n t) m).map (·.1)=ns.foldl (fun acc x=>if x ∈ acc then acc else acc ++ [x]) (m.map (·.1)):=by
  intro ns
  induction ns with
  | nil=>intro m t; rfl
  | cons n ns ih=>intro m t; rw [ES,ih,xy,ES]
 have hg:∀ (ns:List Str) (m:List (Str×Int)) (t:Int) (k:Str),lu (ns.foldl (fun m n=>gV m n t) m) k=if k ∈ ns then some t else lu m k:=by
  intro ns
  induction ns with
  | nil=>intro m t k; simp
  | cons n ns ih =>
   intro m t k
   rw [ES,ih,xK]
   by_cases h1:k ∈ ns
   ·simp [h1]
   ·by_cases h2:k=n
    ·simp [h2]
    ·simp [h1,h2]
 refine ⟨?_,fun n=>?_⟩
 ·rw [hk,h.keys,dN,Aj]
 ·rw [hg,lI]
  by_cases hn:n ∈ s.1
  ·rw [if_pos hn,if_pos hn]
   exact ⟨_,rfl,E9 _,by rw [G_]⟩
  ·rw [if_neg hn,if_neg hn]
   obtain ⟨k,h1,h2,h3⟩:=h.win n
   refine ⟨k,h1,by rw [b_,Fb]; omega,?_⟩
   rw [h3,b_,List.drop_append_of_le_length h2]
theorem iL {α:Type}{l:List α}{k:Nat} (h:k < l.length):l.take (k + 1)=l.take k ++ [l[k]]:=by
 rw [Hk,EV h]; rfl
end L2.Cu
namespace L2.Cu.Wk
open PySem PySem.Spec PyProof.Rows
def c_ (i:Nat):Stmt:=PySem.Challenge.pw_cuebook_k11_counts_of_a_play.main.body.getD i (.Pass ⟨0,0,0,0⟩)
abbrev lX:Stmt:=c_ 29
abbrev vD:List Str:=["_law_cell_here"]
theorem qH:aM vD ["_law_cell_here"] (al lX):=⟨rfl,rfl,rfl,by decide +kernel,rfl,by decide +kernel,by decide +kernel⟩
abbrev oW:Stmt:=c_ 30
abbrev yG:List Str:=["_law_script","_law_k"]
theorem ur:aM yG ["_law_script","_law_k"] (al oW):=⟨rfl,rfl,rfl,by decide +kernel,rfl,by decide +kernel,by decide +kernel⟩
abbrev e9:Stmt:=c_ 31
abbrev gL:List Str:=["_law_cell_here","_law_many","_law_most","_law_letters","_law_way","_law_size","_law_at","_law_stem","_law_k"]
theorem bH:aM gL ["_law_cell_here","_law_many","_law_most"] (al e9):=⟨rfl,rfl,rfl,by decide +kernel,rfl,by decide +kernel,by decide +kernel⟩
abbrev j4:Stmt:=c_ 32
abbrev qj:List Str:=["_law_cells","_law_names","_law_words","_law_play_here","_law_ahead","_law_cell_here","_law_free","_law_some","_law_name","_law_row","_law_k"]
theorem bA:aM qj ["_law_cells","_law_names","_law_words"] (al j4):=⟨rfl,rfl,rfl,by decide +kernel,rfl,by decide +kernel,by decide +kernel⟩
abbrev f_:Stmt:=c_ 35
abbrev ji:List Str:=["_law_play_here","_law_found","_law_told","_law_last","_law_names","_law_words","_law_name"]
theorem bX:aM ji ["_law_play_here"] (al f_):=⟨rfl,rfl,rfl,by decide +kernel,rfl,by decide +kernel,by decide +kernel⟩
abbrev jZ:Stmt:=c_ 33
abbrev qi:List Str:=["_law_found","_law_due","_law_k"]
theorem iN:aM qi ["_law_found","_law_due"] (al jZ):=⟨rfl,rfl,rfl,by decide +kernel,rfl,by decide +kernel,by decide +kernel⟩
abbrev d8:Stmt:=c_ 18
abbrev gy:List Str:=["play","last_ends","place","counts","names","words","name"]
theorem bj:aM gy ["play"] (al d8):=⟨rfl,rfl,rfl,by decide +kernel,rfl,by decide +kernel,by decide +kernel⟩
abbrev iO:Stmt:=c_ 19
abbrev mS:List Str:=["row","many","size"]
theorem jP:aM mS ["row","many"] (al iO):=⟨rfl,rfl,rfl,by decide +kernel,rfl,by decide +kernel,by decide +kernel⟩
abbrev m8:Stmt:=c_ 20
abbrev t8:List Str:=["play","many","row"]
theorem oU:aM t8 ["play","many"] (al m8):=⟨rfl,rfl,rfl,by decide +kernel,rfl,by decide +kernel,by decide +kernel⟩
abbrev j6:Stmt:=c_ 36
abbrev rT:List Str:=["_law_windows_here","_law_cells","_law_found","_law_at","_law_cell_here","_law_row","_law_heard","_law_size"]
theorem ca:aM rT ["_law_windows_here","_law_cells"] (al j6):=⟨rfl,rfl,rfl,by decide +kernel,rfl,by decide +kernel,by decide +kernel⟩
abbrev m7:Stmt:=c_ 25
abbrev tZ:List Str:=["counts","row"]
theorem oQ:aM tZ ["counts"] (al m7):=⟨rfl,rfl,rfl,by decide +kernel,rfl,by decide +kernel,by decide +kernel⟩
abbrev lU:Stmt:=c_ 39
abbrev vA:List Str:=["_law_thing","_law_windows_here","_law_at","_law_k","_law_count"]
theorem fw:aM vA ["_law_thing","_law_windows_here"] (al lU):=⟨rfl,rfl,rfl,by decide +kernel,rfl,by decide +kernel,by decide +kernel⟩
abbrev lW:Stmt:=c_ 34
abbrev vC:List Str:=["_law_found","_law_due"]
theorem qG:aM vC ["_law_found","_law_due"] (al lW):=⟨rfl,rfl,rfl,by decide +kernel,rfl,by decide +kernel,by decide +kernel⟩
abbrev jV:Stmt:=c_ 13
abbrev rP:List Str:=["thing"]
theorem oR:aM rP ["thing"] (al jV):=⟨rfl,rfl,rfl,by decide +kernel,rfl,by decide +kernel,by decide +kernel⟩
abbrev jW:Stmt:=c_ 21
abbrev rQ:List Str:=["thing","size"]
theorem oS:aM rQ ["thing","size"] (al jW):=⟨rfl,rfl,rfl,by decide +kernel,rfl,by decide +kernel,by decide +kernel⟩
abbrev fA:Stmt:=c_ 22
abbrev iH:List Str:=["thing","row","number","size"]
theorem eQ:aM iH ["thing","row"] (al fA):=⟨rfl,rfl,rfl,by decide +kernel,rfl,by decide +kernel,by decide +kernel⟩
abbrev jX:Stmt:=c_ 23
abbrev rR:List Str:=["play","thing","at","row"]
theorem f7:aM rR ["play","thing"] (al jX):=⟨rfl,rfl,rfl,by decide +kernel,rfl,by decide +kernel,by decide +kernel⟩
abbrev ja:Stmt:=c_ 24
abbrev qh:List Str:=["play","thing"]
theorem m6:aM qh ["play","thing"] (al ja):=⟨rfl,rfl,rfl,by decide +kernel,rfl,by decide +kernel,by decide +kernel⟩
abbrev f9:Stmt:=c_ 26
abbrev lb:List Str:=["play","thing","amiss"]
theorem c9:aM lb ["play","thing"] (al f9):=⟨rfl,rfl,rfl,by decide +kernel,rfl,by decide +kernel,by decide +kernel⟩
abbrev jT:Stmt:=c_ 14
abbrev rO:List Str:=["play","found","names","words"]
theorem eL:aM rO ["play"] (al jT):=⟨rfl,rfl,rfl,by decide +kernel,rfl,by decide +kernel,by decide +kernel⟩
abbrev jS:Stmt:=c_ 15
abbrev rN:List Str:=["play","found","names","words"]
theorem eK:aM rN ["play"] (al jS):=⟨rfl,rfl,rfl,by decide +kernel,rfl,by decide +kernel,by decide +kernel⟩
abbrev oV:Stmt:=c_ 16
abbrev yF:List Str:=["play","places","spoken","names","words"]
theorem d6:aM yF ["play"] (al oV):=⟨rfl,rfl,rfl,by decide +kernel,rfl,by decide +kernel,by decide +kernel⟩
abbrev AI:Stmt:=c_ 27
abbrev AY:List Str:=["play","counts","entries","name","heard","speech","begin","row","many","books"]
theorem dR:aM AY ["play","counts"] (al AI):=⟨rfl,rfl,rfl,by decide +kernel,rfl,by decide +kernel,by decide +kernel⟩
abbrev sv:Stmt:=c_ 40
abbrev AB:List Str:=["_law_play_here","_law_thing","_law_refused","e","_law_kinds"]
theorem f8:aM AB ["_law_play_here","_law_thing"] (al sv):=⟨rfl,rfl,rfl,by decide +kernel,rfl,by decide +kernel,by decide +kernel⟩
abbrev lY:Stmt:=c_ 41
abbrev vE:List Str:=["_law_play_here","_law_thing","_law_windows_here","_law_wrong_here"]
theorem jR:aM vE ["_law_play_here","_law_thing","_law_windows_here"] (al lY):=⟨rfl,rfl,rfl,by decide +kernel,rfl,by decide +kernel,by decide +kernel⟩
abbrev lV:Stmt:=c_ 38
abbrev vB:List Str:=["_law_thing","_law_cell_here","_law_at"]
theorem jQ:aM vB ["_law_thing","_law_cell_here"] (al lV):=⟨rfl,rfl,rfl,by decide +kernel,rfl,by decide +kernel,by decide +kernel⟩
abbrev jY:Stmt:=c_ 37
abbrev rS:List Str:=["_law_counts_here","_law_windows_here","_law_cell_here","_law_at","_law_row","_law_k","_law_size","_law_odd"]
theorem cM:aM rS ["_law_counts_here","_law_windows_here","_law_cell_here"] (al jY):=⟨rfl,rfl,rfl,by decide +kernel,rfl,by decide +kernel,by decide +kernel⟩
abbrev jU:Stmt:=c_ 42
abbrev mR:List Str:=["_law_script","_law_cell_here","_law_names","_law_words","_law_play_here","_law_windows_here","_law_manies","_law_many","_law_due","_law_counts_here","_law_some","_law_thing","_law_row","_law_heard","_law_size"]
theorem cG:aM mR ["_law_script"] (al jU):=⟨rfl,rfl,rfl,by decide +kernel,rfl,by decide +kernel,by decide +kernel⟩
abbrev kA:List Str:=["Apart","Meets","NoBooks","NoCast","NoPlay"]
abbrev kB:List Str:=["NoLine","NoText","TooFew"]
abbrev moK (K:PySem.W.Frag):=x_ K "NoCounts" "place" "NoCounts.__init__" kA kB "Unknown" "CueError"
abbrev moB:=ya "NoCounts.__init__" (nE (c_ 3) 0)
abbrev ds:List Nat:=[29,30,31,32,35,33,18,19,20,36,25,39,34,13,21,22,23,24,26,14,15,16,27,40,41,38,37,42]
abbrev zs:List Str:=["ValueError","all","bool","enumerate","int","isinstance","len","list","min","range","set","sorted","str","sum","tuple","zip"]
abbrev cs:List (Str×Int):=[]
abbrev TX (K:PySem.W.Frag) (mg:Str→Option Value):=TT PySem.Challenge.pw_cuebook_k11_counts_of_a_play ds zs cs moK moB K mg
section
variable {K:PySem.W.Frag}{mg:Str→Option Value} (T:TX K mg)
abbrev TX.f__Lmixed:=T.f 29
abbrev TX.fd__Lmixed:=T.fd 29
theorem TX.F__Lmixed:Fun K "_law_mixed" "_law_mixed" lX T.f__Lmixed T.fd__Lmixed:=T.F 29 (by decide)
theorem TX.m__Lmixed:mg "_law_mixed" = some (.ref T.f__Lmixed):=T.m 29 (by decide)
theorem TX.b__Lmixed:bC K T.fd__Lmixed ["_law_cell_here"] []:=T.F__Lmixed.binds fun _ _ _ _ _ _ us hl=>by obtain ⟨u0,rfl⟩:=ul1 hl; rfl
abbrev TX.f__Lcell:=T.f 30
abbrev TX.fd__Lcell:=T.fd 30
theorem TX.F__Lcell:Fun K "_law_cell" "_law_cell" oW T.f__Lcell T.fd__Lcell:=T.F 30 (by decide)
theorem TX.m__Lcell:mg "_law_cell" = some (.ref T.f__Lcell):=T.m 30 (by decide)
theorem TX.b__Lcell:bC K T.fd__Lcell ["_law_script","_law_k"] []:=T.F__Lcell.binds fun _ _ _ _ _ _ us hl=>by obtain ⟨u0,u1,rfl⟩:=ul2 hl; rfl
abbrev TX.f__Ltexts:=T.f 31
abbrev TX.fd__Ltexts:=T.fd 31
theorem TX.F__Ltexts:Fun K "_law_texts" "_law_texts" e9 T.f__Ltexts T.fd__Ltexts:=T.F 31 (by decide)
theorem TX.m__Ltexts:mg "_law_texts" = some (.ref T.f__Ltexts):=T.m 31 (by decide)
theorem TX.b__Ltexts:bC K T.fd__Ltexts ["_law_cell_here","_law_many","_law_most"] []:=T.F__Ltexts.binds fun _ _ _ _ _ _ us hl=>by obtain ⟨u0,u1,u2,rfl⟩:=ul3 hl; rfl
abbrev TX.f__Lplay:=T.f 32
abbrev TX.fd__Lplay:=T.fd 32
theorem TX.F__Lplay:Fun K "_law_play" "_law_play" j4 T.f__Lplay T.fd__Lplay:=T.F 32 (by decide)
theorem TX.m__Lplay:mg "_law_play" = some (.ref T.f__Lplay):=T.m 32 (by decide)
theorem TX.b__Lplay:bC K T.fd__Lplay ["_law_cells","_law_names","_law_words"] []:=T.F__Lplay.binds fun _ _ _ _ _ _ us hl=>by obtain ⟨u0,u1,u2,rfl⟩:=ul3 hl; rfl
abbrev TX.f__Lwindows:=T.f 35
abbrev TX.fd__Lwindows:=T.fd 35
theorem TX.F__Lwindows:Fun K "_law_windows" "_law_windows" f_ T.f__Lwindows T.fd__Lwindows:=T.F 35 (by decide)
theorem TX.m__Lwindows:mg "_law_windows" = some (.ref T.f__Lwindows):=T.m 35 (by decide)
theorem TX.b__Lwindows:bC K T.fd__Lwindows ["_law_play_here"] []:=T.F__Lwindows.binds fun _ _ _ _ _ _ us hl=>by obtain ⟨u0,rfl⟩:=ul1 hl; rfl
abbrev TX.f__Lsame:=T.f 33
abbrev TX.fd__Lsame:=T.fd 33
theorem TX.F__Lsame:Fun K "_law_same" "_law_same" jZ T.f__Lsame T.fd__Lsame:=T.F 33 (by decide)
theorem TX.m__Lsame:mg "_law_same" = some (.ref T.f__Lsame):=T.m 33 (by decide)
theorem TX.b__Lsame:bC K T.fd__Lsame ["_law_found","_law_due"] []:=T.F__Lsame.binds fun _ _ _ _ _ _ us hl=>by obtain ⟨u0,u1,rfl⟩:=ul2 hl; rfl
abbrev TX.f_whole_counts:=T.f 18
abbrev TX.fd_whole_counts:=T.fd 18
theorem TX.F_whole_counts:Fun K "whole_counts" "whole_counts" d8 T.f_whole_counts T.fd_whole_counts:=T.F 18 (by decide)
theorem TX.m_whole_counts:mg "whole_counts" = some (.ref T.f_whole_counts):=T.m 18 (by decide)
theorem TX.b_whole_counts:bC K T.fd_whole_counts ["play"] []:=T.F_whole_counts.binds fun _ _ _ _ _ _ us hl=>by obtain ⟨u0,rfl⟩:=ul1 hl; rfl
abbrev TX.f_at_most:=T.f 19
abbrev TX.fd_at_most:=T.fd 19
theorem TX.F_at_most:Fun K "at_most" "at_most" iO T.f_at_most T.fd_at_most:=T.F 19 (by decide)
theorem TX.m_at_most:mg "at_most" = some (.ref T.f_at_most):=T.m 19 (by decide)
theorem TX.b_at_most:bC K T.fd_at_most ["row","many"] []:=T.F_at_most.binds fun _ _ _ _ _ _ us hl=>by obtain ⟨u0,u1,rfl⟩:=ul2 hl; rfl
abbrev TX.f_alike:=T.f 20
abbrev TX.fd_alike:=T.fd 20
theorem TX.F_alike:Fun K "alike" "alike" m8 T.f_alike T.fd_alike:=T.F 20 (by decide)
theorem TX.m_alike:mg "alike" = some (.ref T.f_alike):=T.m 20 (by decide)
theorem TX.b_alike:bC K T.fd_alike ["play","many"] []:=T.F_alike.binds fun _ _ _ _ _ _ us hl=>by obtain ⟨u0,u1,rfl⟩:=ul2 hl; rfl
abbrev TX.f__Lcounts:=T.f 36
abbrev TX.fd__Lcounts:=T.fd 36
theorem TX.F__Lcounts:Fun K "_law_counts" "_law_counts" j6 T.f__Lcounts T.fd__Lcounts:=T.F 36 (by decide)
theorem TX.m__Lcounts:mg "_law_counts" = some (.ref T.f__Lcounts):=T.m 36 (by decide)
theorem TX.b__Lcounts:bC K T.fd__Lcounts ["_law_windows_here","_law_cells"] []:=T.F__Lcounts.binds fun _ _ _ _ _ _ us hl=>by obtain ⟨u0,u1,rfl⟩:=ul2 hl; rfl
abbrev TX.f_total:=T.f 25
abbrev TX.fd_total:=T.fd 25
theorem TX.F_total:Fun K "total" "total" m7 T.f_total T.fd_total:=T.F 25 (by decide)
theorem TX.m_total:mg "total" = some (.ref T.f_total):=T.m 25 (by decide)
theorem TX.b_total:bC K T.fd_total ["counts"] []:=T.F_total.binds fun _ _ _ _ _ _ us hl=>by obtain ⟨u0,rfl⟩:=ul1 hl; rfl
abbrev TX.f__Lwrong:=T.f 39
abbrev TX.fd__Lwrong:=T.fd 39
theorem TX.F__Lwrong:Fun K "_law_wrong" "_law_wrong" lU T.f__Lwrong T.fd__Lwrong:=T.F 39 (by decide)
theorem TX.m__Lwrong:mg "_law_wrong" = some (.ref T.f__Lwrong):=T.m 39 (by decide)
theorem TX.b__Lwrong:bC K T.fd__Lwrong ["_law_thing","_law_windows_here"] []:=T.F__Lwrong.binds fun _ _ _ _ _ _ us hl=>by obtain ⟨u0,u1,rfl⟩:=ul2 hl; rfl
abbrev TX.f__Ltruth:=T.f 34
abbrev TX.fd__Ltruth:=T.fd 34
theorem TX.F__Ltruth:Fun K "_law_truth" "_law_truth" lW T.f__Ltruth T.fd__Ltruth:=T.F 34 (by decide)
theorem TX.m__Ltruth:mg "_law_truth" = some (.ref T.f__Ltruth):=T.m 34 (by decide)
theorem TX.b__Ltruth:bC K T.fd__Ltruth ["_law_found","_law_due"] []:=T.F__Ltruth.binds fun _ _ _ _ _ _ us hl=>by obtain ⟨u0,u1,rfl⟩:=ul2 hl; rfl
abbrev TX.f_is_whole:=T.f 13
abbrev TX.fd_is_whole:=T.fd 13
theorem TX.F_is_whole:Fun K "is_whole" "is_whole" jV T.f_is_whole T.fd_is_whole:=T.F 13 (by decide)
theorem TX.m_is_whole:mg "is_whole" = some (.ref T.f_is_whole):=T.m 13 (by decide)
theorem TX.b_is_whole:bC K T.fd_is_whole ["thing"] []:=T.F_is_whole.binds fun _ _ _ _ _ _ us hl=>by obtain ⟨u0,rfl⟩:=ul1 hl; rfl
abbrev TX.f_is_count:=T.f 21
abbrev TX.fd_is_count:=T.fd 21
theorem TX.F_is_count:Fun K "is_count" "is_count" jW T.f_is_count T.fd_is_count:=T.F 21 (by decide)
theorem TX.m_is_count:mg "is_count" = some (.ref T.f_is_count):=T.m 21 (by decide)
theorem TX.b_is_count:bC K T.fd_is_count ["thing","size"] []:=T.F_is_count.binds fun _ _ _ _ _ _ us hl=>by obtain ⟨u0,u1,rfl⟩:=ul2 hl; rfl
abbrev TX.f_are_counts:=T.f 22
abbrev TX.fd_are_counts:=T.fd 22
theorem TX.F_are_counts:Fun K "are_counts" "are_counts" fA T.f_are_counts T.fd_are_counts:=T.F 22 (by decide)
theorem TX.m_are_counts:mg "are_counts" = some (.ref T.f_are_counts):=T.m 22 (by decide)
theorem TX.b_are_counts:bC K T.fd_are_counts ["thing","row"] []:=T.F_are_counts.binds fun _ _ _ _ _ _ us hl=>by obtain ⟨u0,u1,rfl⟩:=ul2 hl; rfl
abbrev TX.f_amiss_at:=T.f 23
abbrev TX.fd_amiss_at:=T.fd 23
theorem TX.F_amiss_at:Fun K "amiss_at" "amiss_at" jX T.f_amiss_at T.fd_amiss_at:=T.F 23 (by decide)
theorem TX.m_amiss_at:mg "amiss_at" = some (.ref T.f_amiss_at):=T.m 23 (by decide)
theorem TX.b_amiss_at:bC K T.fd_amiss_at ["play","thing"] []:=T.F_amiss_at.binds fun _ _ _ _ _ _ us hl=>by obtain ⟨u0,u1,rfl⟩:=ul2 hl; rfl
abbrev TX.f_is_counts:=T.f 24
abbrev TX.fd_is_counts:=T.fd 24
theorem TX.F_is_counts:Fun K "is_counts" "is_counts" ja T.f_is_counts T.fd_is_counts:=T.F 24 (by decide)
theorem TX.m_is_counts:mg "is_counts" = some (.ref T.f_is_counts):=T.m 24 (by decide)
theorem TX.b_is_counts:bC K T.fd_is_counts ["play","thing"] []:=T.F_is_counts.binds fun _ _ _ _ _ _ us hl=>by obtain ⟨u0,u1,rfl⟩:=ul2 hl; rfl
abbrev TX.f_check_counts:=T.f 26
abbrev TX.fd_check_counts:=T.fd 26
theorem TX.F_check_counts:Fun K "check_counts" "check_counts" f9 T.f_check_counts T.fd_check_counts:=T.F 26 (by decide)
theorem TX.m_check_counts:mg "check_counts" = some (.ref T.f_check_counts):=T.m 26 (by decide)
theorem TX.b_check_counts:bC K T.fd_check_counts ["play","thing"] []:=T.F_check_counts.binds fun _ _ _ _ _ _ us hl=>by obtain ⟨u0,u1,rfl⟩:=ul2 hl; rfl
abbrev TX.f_names_in:=T.f 14
abbrev TX.fd_names_in:=T.fd 14
theorem TX.F_names_in:Fun K "names_in" "names_in" jT T.f_names_in T.fd_names_in:=T.F 14 (by decide)
theorem TX.m_names_in:mg "names_in" = some (.ref T.f_names_in):=T.m 14 (by decide)
theorem TX.b_names_in:bC K T.fd_names_in ["play"] []:=T.F_names_in.binds fun _ _ _ _ _ _ us hl=>by obtain ⟨u0,rfl⟩:=ul1 hl; rfl
abbrev TX.f_words_in:=T.f 15
abbrev TX.fd_words_in:=T.fd 15
theorem TX.F_words_in:Fun K "words_in" "words_in" jS T.f_words_in T.fd_words_in:=T.F 15 (by decide)
theorem TX.m_words_in:mg "words_in" = some (.ref T.f_words_in):=T.m 15 (by decide)
theorem TX.b_words_in:bC K T.fd_words_in ["play"] []:=T.F_words_in.binds fun _ _ _ _ _ _ us hl=>by obtain ⟨u0,rfl⟩:=ul1 hl; rfl
abbrev TX.f_begins:=T.f 16
abbrev TX.fd_begins:=T.fd 16
theorem TX.F_begins:Fun K "begins" "begins" oV T.f_begins T.fd_begins:=T.F 16 (by decide)
theorem TX.m_begins:mg "begins" = some (.ref T.f_begins):=T.m 16 (by decide)
theorem TX.b_begins:bC K T.fd_begins ["play"] []:=T.F_begins.binds fun _ _ _ _ _ _ us hl=>by obtain ⟨u0,rfl⟩:=ul1 hl; rfl
abbrev TX.f_cut:=T.f 27
abbrev TX.fd_cut:=T.fd 27
theorem TX.F_cut:Fun K "cut" "cut" AI T.f_cut T.fd_cut:=T.F 27 (by decide)
theorem TX.m_cut:mg "cut" = some (.ref T.f_cut):=T.m 27 (by decide)
theorem TX.b_cut:bC K T.fd_cut ["play","counts"] []:=T.F_cut.binds fun _ _ _ _ _ _ us hl=>by obtain ⟨u0,u1,rfl⟩:=ul2 hl; rfl
abbrev TX.f__Lcut:=T.f 40
abbrev TX.fd__Lcut:=T.fd 40
theorem TX.F__Lcut:Fun K "_law_cut" "_law_cut" sv T.f__Lcut T.fd__Lcut:=T.F 40 (by decide)
theorem TX.m__Lcut:mg "_law_cut" = some (.ref T.f__Lcut):=T.m 40 (by decide)
theorem TX.b__Lcut:bC K T.fd__Lcut ["_law_play_here","_law_thing"] []:=T.F__Lcut.binds fun _ _ _ _ _ _ us hl=>by obtain ⟨u0,u1,rfl⟩:=ul2 hl; rfl
abbrev TX.f__Lasked:=T.f 41
abbrev TX.fd__Lasked:=T.fd 41
theorem TX.F__Lasked:Fun K "_law_asked" "_law_asked" lY T.f__Lasked T.fd__Lasked:=T.F 41 (by decide)
theorem TX.m__Lasked:mg "_law_asked" = some (.ref T.f__Lasked):=T.m 41 (by decide)
theorem TX.b__Lasked:bC K T.fd__Lasked ["_law_play_here","_law_thing","_law_windows_here"] []:=T.F__Lasked.binds fun _ _ _ _ _ _ us hl=>by obtain ⟨u0,u1,u2,rfl⟩:=ul3 hl; rfl
abbrev TX.f__Ltwice:=T.f 38
abbrev TX.fd__Ltwice:=T.fd 38
theorem TX.F__Ltwice:Fun K "_law_twice" "_law_twice" lV T.f__Ltwice T.fd__Ltwice:=T.F 38 (by decide)
theorem TX.m__Ltwice:mg "_law_twice" = some (.ref T.f__Ltwice):=T.m 38 (by decide)
theorem TX.b__Ltwice:bC K T.fd__Ltwice ["_law_thing","_law_cell_here"] []:=T.F__Ltwice.binds fun _ _ _ _ _ _ us hl=>by obtain ⟨u0,u1,rfl⟩:=ul2 hl; rfl
abbrev TX.f__Lspoilt:=T.f 37
abbrev TX.fd__Lspoilt:=T.fd 37
theorem TX.F__Lspoilt:Fun K "_law_spoilt" "_law_spoilt" jY T.f__Lspoilt T.fd__Lspoilt:=T.F 37 (by decide)
theorem TX.m__Lspoilt:mg "_law_spoilt" = some (.ref T.f__Lspoilt):=T.m 37 (by decide)
theorem TX.b__Lspoilt:bC K T.fd__Lspoilt ["_law_counts_here","_law_windows_here","_law_cell_here"] []:=T.F__Lspoilt.binds fun _ _ _ _ _ _ us hl=>by obtain ⟨u0,u1,u2,rfl⟩:=ul3 hl; rfl
abbrev TX.f_law:=T.f 42
abbrev TX.fd_law:=T.fd 42
theorem TX.F_law:Fun K "law" "law" jU T.f_law T.fd_law:=T.F 42 (by decide)
theorem TX.n_ValueError (T:TX K mg):mg "ValueError" = none:=T.z _ (.head _)
theorem TX.n_all (T:TX K mg):mg "all" = none:=T.z _ (.tail _ (.head _))
theorem TX.n_bool (T:TX K mg):mg "bool" = none:=T.z _ (.tail _ (.tail _ (.head _)))
theorem TX.n_enumerate (T:TX K mg):mg "enumerate" = none:=T.z _ (.tail _ (.tail _ (.tail _ (.head _))))
theorem TX.n_int (T:TX K mg):mg "int" = none:=T.z _ (.tail _ (.tail _ (.tail _ (.tail _ (.head _)))))
theorem TX.n_isinstance (T:TX K mg):mg "isinstance" = none:=T.z _ (.tail _ (.tail _ (.tail _ (.tail _ (.tail _ (.head _))))))
theorem TX.n_len (T:TX K mg):mg "len" = none:=T.z _ (.tail _ (.tail _ (.tail _ (.tail _ (.tail _ (.tail _ (.head _)))))))
theorem TX.n_list (T:TX K mg):mg "list" = none:=T.z _ (.tail _ (.tail _ (.tail _ (.tail _ (.tail _ (.tail _ (.tail _ (.head _))))))))
theorem TX.n_min (T:TX K mg):mg "min" = none:=T.z _ (.tail _ (.tail _ (.tail _ (.tail _ (.tail _ (.tail _ (.tail _ (.tail _ (.head _)))))))))
theorem TX.n_range (T:TX K mg):mg "range" = none:=T.z _ (.tail _ (.tail _ (.tail _ (.tail _ (.tail _ (.tail _ (.tail _ (.tail _ (.tail _ (.head _))))))))))
theorem TX.n_set (T:TX K mg):mg "set" = none:=T.z _ (.tail _ (.tail _ (.tail _ (.tail _ (.tail _ (.tail _ (.tail _ (.tail _ (.tail _ (.tail _ (.head _)))))))))))
theorem TX.n_sorted (T:TX K mg):mg "sorted" = none:=T.z _ (.tail _ (.tail _ (.tail _ (.tail _ (.tail _ (.tail _ (.tail _ (.tail _ (.tail _ (.tail _ (.tail _ (.head _))))))))))))
theorem TX.n_str (T:TX K mg):mg "str" = none:=T.z _ (.tail _ (.tail _ (.tail _ (.tail _ (.tail _ (.tail _ (.tail _ (.tail _ (.tail _ (.tail _ (.tail _ (.tail _ (.head _)))))))))))))
theorem TX.n_sum (T:TX K mg):mg "sum" = none:=T.z _ (.tail _ (.tail _ (.tail _ (.tail _ (.tail _ (.tail _ (.tail _ (.tail _ (.tail _ (.tail _ (.tail _ (.tail _ (.tail _ (.head _))))))))))))))
theorem TX.n_tuple (T:TX K mg):mg "tuple" = none:=T.z _ (.tail _ (.tail _ (.tail _ (.tail _ (.tail _ (.tail _ (.tail _ (.tail _ (.tail _ (.tail _ (.tail _ (.tail _ (.tail _ (.tail _ (.head _)))))))))))))))
theorem TX.n_zip (T:TX K mg):mg "zip" = none:=T.z _ (.tail _ (.tail _ (.tail _ (.tail _ (.tail _ (.tail _ (.tail _ (.tail _ (.tail _ (.tail _ (.tail _ (.tail _ (.tail _ (.tail _ (.tail _ (.head _))))))))))))))))
end
section
variable {P:Program}{w:World}{K:PySem.W.Frag}{mg:Str→Option Value}{base:Heap}
def b__Lmixed:DE→Option Out :=
 (az (bin bW (bin pw (ac 0) (cst (.int 271828182845904523536028747135266249775724709369995957496697))) (bin lj (cst (.int 10)) (cst (.int 60)))))
def g__Lmixed:List D→Option D:=ci 1 1 b__Lmixed
theorem gY (T:TX K mg):bu P w K mg base CX0 2 T.f__Lmixed T.fd__Lmixed ["_law_cell_here"] (spD 1 g__Lmixed) :=
 fnG (k:=1) (b:=b__Lmixed) T.F__Lmixed qH rfl rfl rfl rfl fun cdv A outer s H E hr =>
   (ap (aF (bt (Ev.obs (tf (ak 0) (Ev.obs am))) (Ev.obs (nM (Ev.obs am) (Ev.obs am))))))
def b__Lcell:DE→Option Out :=
 (av (ifS (tst (bin ltD (ac 1) (un bg (ac 0))))
 (az (aC 1 g__Lmixed (aa (bin ixE (ac 0) (ac 1)) ah)))
 a9)
 (az (cst (.int 0))))
def g__Lcell:List D→Option D:=ci 2 2 b__Lcell
theorem l7 (T:TX K mg):bu P w K mg base CX0 3 T.f__Lcell T.fd__Lcell ["_law_script","_law_k"] (spD 2 g__Lcell) :=
 fnG (k:=2) (b:=b__Lcell) T.F__Lcell ur rfl rfl rfl rfl fun cdv A outer s H E hr =>
   (ag (cb (pR  (ak 1) (Ev.obs (aO rfl T.n_len (ak 0))))
   (ap (aF (aK (gY T) (hr.mono (by decide)) rfl T.m__Lmixed T.F__Lmixed.kp T.b__Lmixed (ae (bd hr.units (ak 0) (ak 1) (fun _ _=>rfl)) ai))))
   aU)
   (ap (aF am)))
def b__Ltexts:DE→Option Out :=
 (av (aD 3 (cst (.str "abcdefghijklmnopqrstuvwxyz")))
 (av (aD 4 (bin bW (ac 0) (cst (.int 3))))
 (av (aD 5 (bin bW (bin bK (ac 0) (cst (.int 3))) (ac 2)))
 (av (aD 6 (bin bW (bin bK (ac 0) (cst (.int 40))) (bin bG (ac 5) (cst (.int 1)))))
 (av (aD 0 (bin bK (ac 0) (cst (.int 600))))
 (av (aD 7 (cst (.str "")))
 (av (c4 (eS (aa (var 2) ah)) (nmG 8)
 (av (aD 7 (bin bG (ac 7) (bin ixE (ac 3) (bin bW (ac 0) (cst (.int 26))))))
 (aD 0 (bin bK (ac 0) (cst (.int 26))))))
 (av (ifS (tst (bin eqO (ac 4) (cst (.int 0))))
 (az (aQ [8] (eS (aa (var 1) ah)) (nmG 8) noT (ba (ac 7) noP (bv (bin bG (cst (.int 1)) (ac 8))))))
 a9)
 (av (ifS (tst (bin eqO (ac 4) (cst (.int 1))))
 (az (aQ [8] (eS (aa (var 1) ah)) (nmG 8) noT (bin bG (bin bG (ba (ac 7) noP (bv (var 6))) (bin ixE (ac 3) (bin bW (bin bG (ac 0) (ac 8)) (cst (.int 26))))) (ba (ac 7) (bv (var 6)) (bv (var 5))))))
 a9)
 (az (aQ [8] (eS (aa (var 1) ah)) (nmG 8) noT (bin pw (bin ixE (ac 3) (bin bW (bin bG (ac 0) (ac 8)) (cst (.int 26)))) (bin bG (cst (.int 1)) (ac 5))))))))))))))
def g__Ltexts:List D→Option D:=ci 3 9 b__Ltexts
theorem ki (T:TX K mg):bu P w K mg base CX0 2 T.f__Ltexts T.fd__Ltexts ["_law_cell_here","_law_many","_law_most"] (spD 3 g__Ltexts) :=
 fnG (k:=1) (b:=b__Ltexts) T.F__Ltexts bH rfl rfl rfl rfl fun cdv A outer s H E hr =>
   (ag (aN (i:=3) bH.nd rfl (Or.inr rfl) nK)
   (ag (aN (i:=4) bH.nd rfl (Or.inl rfl) (bt (ak 0) (Ev.obs am)))
   (ag (aN (i:=5) bH.nd rfl (Or.inr rfl) (bt (Ev.obs (bL (ak 0) (Ev.obs am))) (ak 2)))
   (ag (aN (i:=6) bH.nd rfl (Or.inr rfl) (bt (Ev.obs (bL (ak 0) (Ev.obs am))) (Ev.obs (be (ak 5) (Ev.obs am)))))
   (ag (aN (i:=0) bH.nd rfl (Or.inr rfl) (bL (ak 0) (Ev.obs am)))
   (ag (aN (i:=7) bH.nd rfl (Or.inr rfl) nK)
   (ag (cH Fp rfl (cU rfl T.n_range (ae (aA 2) ai)) (aB (i:=8) bH.nd rfl (Or.inl rfl))
   (ag (aN (i:=7) bH.nd rfl (Or.inr rfl) (be (ak 7) (Ev.obs (bd hr.units (ak 3) (Ev.obs (bt (ak 0) (Ev.obs am))) (fun _ _=>rfl)))))
   (ap (aN (i:=0) bH.nd rfl (Or.inr rfl) (bL (ak 0) (Ev.obs am))))))
   (ag (cb (gp hr.units (ak 4) (Ev.obs am))
   (ap (aF (Ev.frz (cD (js:=[8]) (Blk.of (sc:=al e9) (N:=gL) (by decide +kernel) rfl rfl) rfl (cU rfl T.n_range (ae (aA 1) ai)) bJ (fun _ _ _ _=>(aB (i:=8) bH.nd rfl (Or.inl rfl))) (fun _ _ _ _=>b4) (fun _ _ _ _=>(bF (ak 7) cL (bD (be (Ev.obs am) (ak 8)))))))))
   aU)
   (ag (cb (gp hr.units (ak 4) (Ev.obs am))
   (ap (aF (Ev.frz (cD (js:=[8]) (Blk.of (sc:=al e9) (N:=gL) (by decide +kernel) rfl rfl) rfl (cU rfl T.n_range (ae (aA 1) ai)) bJ (fun _ _ _ _=>(aB (i:=8) bH.nd rfl (Or.inl rfl))) (fun _ _ _ _=>b4) (fun _ _ _ _=>(be (Ev.obs (be (Ev.obs (bF (ak 7) cL (bD (aA 6)))) (Ev.obs (bd hr.units (ak 3) (Ev.obs (bt (Ev.obs (be (ak 0) (ak 8))) (Ev.obs am))) (fun _ _=>rfl))))) (Ev.obs (bF (ak 7) (bD (aA 6)) (bD (aA 5))))))))))
   aU)
   (ap (aF (Ev.frz (cD (js:=[8]) (Blk.of (sc:=al e9) (N:=gL) (by decide +kernel) rfl rfl) rfl (cU rfl T.n_range (ae (aA 1) ai)) bJ (fun _ _ _ _=>(aB (i:=8) bH.nd rfl (Or.inl rfl))) (fun _ _ _ _=>b4) (fun _ _ _ _=>(tf (Ev.obs (bd hr.units (ak 3) (Ev.obs (bt (Ev.obs (be (ak 0) (ak 8))) (Ev.obs am))) (fun _ _=>rfl))) (Ev.obs (be (Ev.obs am) (ak 5))))))))))))))))))
def b__Lplay:DE→Option Out :=
 (av (cp 3 (bn ah))
 (av (aD 4 (cg ah))
 (av (c4 (a8 aH (var 0)) (nmG 5)
 (av (aD 5 (aC 1 g__Lmixed (aa (var 5) ah)))
 (av (aD 6 (aQ [8] (a8 aH (var 1)) (nmG 8) (tst (bin uO (ac 8) (ac 4))) (var 8)))
 (av (cp 7 (bn ah))
 (av (c4 (a8 aH (var 6)) (nmG 8)
 (av (ifS (tst (bin eqO (bin bW (ac 5) (cst (.int 3))) (cst (.int 0))))
 (dl 7 (var 8))
 a9)
 (aD 5 (bin bK (ac 5) (cst (.int 3))))))
 (av (ifS (orT (tst (bin eqO (ac 7) (bn ah))) (tst (bin eqO (un bg (ac 7)) (un bg (ac 1)))))
 (cp 7 (bn (aa (bin ixE (ac 6) (bin bW (ac 5) (un bg (ac 6)))) ah)))
 a9)
 (av (aD 5 (bin bK (ac 5) (cst (.int 5))))
 (av (cp 9 (bn ah))
 (av (c4 (eS (aa (bin bG (cst (.int 1)) (bin bW (ac 5) (cst (.int 5)))) ah)) (nmG 10)
 (av (aD 5 (bin bK (ac 5) (cst (.int 7))))
 (dl 9 (bin ixE (ac 2) (bin bW (ac 5) (un bg (ac 2)))))))
 (av (aD 4 (un aW (un lN (ac 7))))
 (dl 3 (cg (aa (var 4) (aa (un aW (ac 9)) ah))))))))))))))
 (az (un aW (ac 3))))))
def g__Lplay:List D→Option D:=ci 3 11 b__Lplay
theorem uJ (T:TX K mg):bu P w K mg base CX0 3 T.f__Lplay T.fd__Lplay ["_law_cells","_law_names","_law_words"] (spD 3 g__Lplay) :=
 fnG (k:=2) (b:=b__Lplay) T.F__Lplay bA rfl rfl rfl rfl fun cdv A outer s H E hr =>
   (ag (dg (i:=3) bA.nd rfl (Or.inl rfl) (bU ai))
   (ag (aN (i:=4) bA.nd rfl (Or.inr rfl) (b8 ai))
   (ag (cH Fp rfl (b6 (aA 0)) (aB (i:=5) bA.nd rfl (Or.inl rfl))
   (ag (aN (i:=5) bA.nd rfl (Or.inl rfl) (aK (gY T) (hr.mono (by decide)) rfl T.m__Lmixed T.F__Lmixed.kp T.b__Lmixed (ae (aA 5) ai)))
   (ag (x8 (i:=6) bA.nd rfl (Or.inl rfl) (js:=[8]) (Blk.of (sc:=al j4) (N:=qj) (by decide +kernel) rfl rfl) rfl (b6 (aA 1)) bJ (fun _ _ _ _=>(aB (i:=8) bA.nd rfl (Or.inl rfl))) (fun _ _ _ _=>(yj (z_ hr.units (ak 8) (ak 4) rfl))) (fun _ _ _ _=>(aA 8)) rfl)
   (ag (dg (i:=7) bA.nd rfl (Or.inl rfl) (bU ai))
   (ag (cH Fp rfl (b6 (aA 6)) (aB (i:=8) bA.nd rfl (Or.inl rfl))
   (ag (cb (gp hr.units (Ev.obs (bt (ak 5) (Ev.obs am))) (Ev.obs am))
   (ap (de (i:=7) (pv 7) (aA 8)))
   aU)
   (ap (aN (i:=5) bA.nd rfl (Or.inl rfl) (bL (ak 5) (Ev.obs am))))))
   (ag (cb (Ew.et (gS (gp hr.units (ak 7) (Ev.obs (bU ai))) (gm (gp hr.units (Ev.obs (aO rfl T.n_len (ak 7))) (Ev.obs (aO rfl T.n_len (ak 1)))))))
   (ap (dg (i:=7) bA.nd rfl (Or.inl rfl) (bU (ae (bd hr.units (ak 6) (Ev.obs (bt (ak 5) (Ev.obs (aO rfl T.n_len (ak 6))))) (fun _ _=>rfl)) ai))))
   aU)
   (ag (aN (i:=5) bA.nd rfl (Or.inl rfl) (bL (ak 5) (Ev.obs am)))
   (ag (dg (i:=9) bA.nd rfl (Or.inl rfl) (bU ai))
   (ag (cH Fp rfl (cU rfl T.n_range (ae (be (Ev.obs am) (Ev.obs (bt (ak 5) (Ev.obs am)))) ai)) (aB (i:=10) bA.nd rfl (Or.inl rfl))
   (ag (aN (i:=5) bA.nd rfl (Or.inl rfl) (bL (ak 5) (Ev.obs am)))
   (ap (de (i:=9) (pv 9) (bd hr.units (ak 2) (Ev.obs (bt (ak 5) (Ev.obs (aO rfl T.n_len (ak 2))))) (fun _ _=>rfl))))))
   (ag (aN (i:=4) bA.nd rfl (Or.inr rfl) (bN rfl T.n_tuple rfl (Ev.obs (xT rfl rfl T.n_sorted rfl (ak 7)))))
   (ap (de (i:=3) (pv 3) (b8 (ae (aA 4) (ae (bN rfl T.n_tuple rfl (ak 9)) ai)))))))))))))))
   (ap (aF (bN rfl T.n_tuple rfl (ak 3)))))))
def b__Lwindows:DE→Option Out :=
 (av (cp 1 (bn ah))
 (av (aD 2 (cg ah))
 (av (cp 3 nR)
 (av (c4 (a8 a6 (var 0)) (dj 2 (bh (nmG 4) (bh (nmG 5) dk)))
 (av (dl 1 (aQ [6] (a8 aH (var 4)) (nmG 6) noT (ba (ac 2) (bv (jf (ac 3) (var 6) (cst (.int 0)))) noP)))
 (av (aD 2 (bin bG (ac 2) (ac 5)))
 (c4 (a8 aH (var 4)) (nmG 6)
 (jk 3 (var 6) (un bg (ac 2)))))))
 (fun E=>(az (var 1)) (fzE 1 E))))))
def eN:List D→Option D:=ci 1 7 b__Lwindows
theorem ny (T:TX K mg):bu P w K mg base CX0 2 T.f__Lwindows T.fd__Lwindows ["_law_play_here"] (spD 1 eN) :=
 fnG (k:=1) (b:=b__Lwindows) T.F__Lwindows bX rfl rfl rfl rfl fun cdv A outer s H E hr =>
   (ag (dg (i:=1) bX.nd rfl (Or.inl rfl) (bU ai))
   (ag (aN (i:=2) bX.nd rfl (Or.inr rfl) (b8 ai))
   (ag (dg (i:=3) bX.nd rfl (Or.inr rfl) jz)
   (ag (cH Fp rfl (kS (aA 0)) (fM rfl (bz (aB (i:=4) bX.nd rfl (Or.inl rfl)) (bz (aB (i:=5) bX.nd rfl (Or.inl rfl)) dY)))
   (ag (de (i:=1) (pv 1) (Ev.frz (cD (js:=[6]) (Blk.of (sc:=al f_) (N:=ji) (by decide +kernel) rfl rfl) rfl (b6 (aA 4)) bJ (fun _ _ _ _=>(aB (i:=6) bX.nd rfl (Or.inl rfl))) (fun _ _ _ _=>b4) (fun _ _ _ _=>(bF (ak 2) (bD (tm hr.units (ak 3) (aA 6) am)) cL)))))
   (ag (aN (i:=2) bX.nd rfl (Or.inr rfl) (be (ak 2) (ak 5)))
   (ap (cH Fp rfl (b6 (aA 4)) (aB (i:=6) bX.nd rfl (Or.inl rfl))
   (ap (ve hr.units (i:=3) (pv 3) (aA 6) (aO rfl T.n_len (ak 2)))))))))
   (ap (D4 1 (aF (aA 1))))))))
def b__Lsame (gIH:List D→Option D):DE→Option Out :=
 (av (ifS (tst (isF "tuple" (ac 1)))
 (av (ifS (orT (cC (tst (isF "tuple" (ac 0)))) (tst (bin neO (un bg (ac 0)) (un bg (ac 1)))))
 (az (cst (.bl false)))
 a9)
 (az (un lD (aQ [2] (eS (aa (un bg (ac 1)) ah)) (nmG 2) noT (aC 2 gIH (aa (bin ixE (ac 0) (ac 2)) (aa (bin ixE (ac 1) (ac 2)) ah)))))))
 a9)
 (av (ifS (tst (isF "str" (ac 1)))
 (az (gv (isF "str" (ac 0)) (bin eqO (ac 0) (ac 1))))
 a9)
 (az (gv (isF "int" (ac 0)) (gv (lr (isF "bool" (ac 0))) (bin eqO (ac 0) (ac 1)))))))
def g__Lsame:Nat→List D→Option D
 | 0=>fun _=>none
 | k + 1=>ci 2 3 (b__Lsame (g__Lsame k))
theorem gG (T:TX K mg):∀ k:Nat,bu P w K mg base CX0 (2 + k) T.f__Lsame T.fd__Lsame ["_law_found","_law_due"] (spD 2 (g__Lsame k))
 | 0=>fnG (k:=1) (b:=noS) T.F__Lsame iN rfl rfl rfl (by funext ds; unfold ci; split <;> rfl) fun cdv A outer s H E hr=>mz
 | k + 1=>fnG (k:=2 + k) (b:=b__Lsame (g__Lsame k)) T.F__Lsame iN rfl rfl (by omega) rfl fun cdv A outer s H E hr=>have IH:=gG T k
   (ag (cb (cY (bB (T := "tuple") rfl rfl T.n_isinstance rfl rfl T.n_tuple rfl (ak 1)))
   (ag (cb (Ew.et (gS (dC (cY (bB (T := "tuple") rfl rfl T.n_isinstance rfl rfl T.n_tuple rfl (ak 0)))) (gm (xY hr.units (Ev.obs (aO rfl T.n_len (ak 0))) (Ev.obs (aO rfl T.n_len (ak 1)))))))
   (ap (aF eO))
   aU)
   (ap (aF (xX rfl rfl T.n_all rfl (Ev.obs (cD (js:=[2]) (Blk.of (sc:=al jZ) (N:=qi) (by decide +kernel) rfl rfl) rfl (cU rfl T.n_range (ae (aO rfl T.n_len (ak 1)) ai)) bJ (fun _ _ _ _=>(aB (i:=2) iN.nd rfl (Or.inl rfl))) (fun _ _ _ _=>b4) (fun _ _ _ _=>(aK IH (hr.mono (by omega)) rfl T.m__Lsame T.F__Lsame.kp T.b__Lsame (ae (bd hr.units (ak 0) (ak 2) (fun _ _=>rfl)) (ae (bd hr.units (ak 1) (ak 2) (fun _ _=>rfl)) ai))))))))))
   aU)
   (ag (cb (cY (bB (T := "str") rfl rfl T.n_isinstance rfl rfl T.n_str rfl (ak 1)))
   (ap (aF (iZ (bB (T := "str") rfl rfl T.n_isinstance rfl rfl T.n_str rfl (ak 0)) (kL (pQ hr.units (ak 0) (ak 1))))))
   aU)
   (ap (aF (iZ (bB (T := "int") rfl rfl T.n_isinstance rfl rfl T.n_int rfl (ak 0)) (iZ (xU (bB (T := "bool") rfl rfl T.n_isinstance rfl rfl T.n_bool rfl (ak 0))) (kL (pQ hr.units (ak 0) (ak 1)))))))))
def b_whole_counts:DE→Option Out :=
 (av (cp 1 nR)
 (av (aD 2 (cst (.int 0)))
 (av (cp 3 (bn ah))
 (av (c4 (a8 a6 (var 0)) (dj 2 (bh (nmG 4) (bh (nmG 5) dk)))
 (av (dl 3 (un aW (aQ [6] (a8 aH (var 4)) (nmG 6) noT (bin qC (ac 2) (jf (ac 1) (var 6) (cst (.int 0)))))))
 (av (nZ 2 (un bg (ac 5)))
 (c4 (a8 aH (var 4)) (nmG 6)
 (jk 1 (var 6) (var 2))))))
 (az (un aW (ac 3)))))))
def cq:List D→Option D:=ci 1 7 b_whole_counts
theorem dS (T:TX K mg):bu P w K mg base CX0 2 T.f_whole_counts T.fd_whole_counts ["play"] (spD 1 cq) :=
 fnG (k:=1) (b:=b_whole_counts) T.F_whole_counts bj rfl rfl rfl rfl fun cdv A outer s H E hr =>
   (ag (dg (i:=1) bj.nd rfl (Or.inr rfl) jz)
   (ag (aN (i:=2) bj.nd rfl (Or.inr rfl) am)
   (ag (dg (i:=3) bj.nd rfl (Or.inl rfl) (bU ai))
   (ag (cH Fp rfl (kS (aA 0)) (fM rfl (bz (aB (i:=4) bj.nd rfl (Or.inl rfl)) (bz (aB (i:=5) bj.nd rfl (Or.inl rfl)) dY)))
   (ag (de (i:=3) (pv 3) (bN rfl T.n_tuple rfl (Ev.obs (cD (js:=[6]) (Blk.of (sc:=al d8) (N:=gy) (by decide +kernel) rfl rfl) rfl (b6 (aA 4)) bJ (fun _ _ _ _=>(aB (i:=6) bj.nd rfl (Or.inl rfl))) (fun _ _ _ _=>b4) (fun _ _ _ _=>(nJ (ak 2) (Ev.obs (tm hr.units (ak 1) (aA 6) am))))))))
   (ag (x9 (i:=2) bj.nd rfl (Or.inr rfl) (aO rfl T.n_len (ak 5)))
   (ap (cH Fp rfl (b6 (aA 4)) (aB (i:=6) bj.nd rfl (Or.inl rfl))
   (ap (tu hr.units (i:=1) (pv 1) (aA 6) (aA 2))))))))
   (ap (aF (bN rfl T.n_tuple rfl (ak 3))))))))
def b_at_most:DE→Option Out :=
 (az (un aW (aQ [2] (a8 aH (var 0)) (nmG 2) noT (eY cW (aa (var 1) (aa (var 2) ah))))))
def fc:List D→Option D:=ci 2 3 b_at_most
theorem qP (T:TX K mg):bu P w K mg base CX0 2 T.f_at_most T.fd_at_most ["row","many"] (spD 2 fc) :=
 fnG (k:=1) (b:=b_at_most) T.F_at_most jP rfl rfl rfl rfl fun cdv A outer s H E hr =>
   (ap (aF (bN rfl T.n_tuple rfl (Ev.obs (cD (js:=[2]) (Blk.of (sc:=al iO) (N:=mS) (by decide +kernel) rfl rfl) rfl (b6 (aA 0)) bJ (fun _ _ _ _=>(aB (i:=2) jP.nd rfl (Or.inl rfl))) (fun _ _ _ _=>b4) (fun _ _ _ _=>(nO rfl rfl T.n_min rfl (ae (aA 1) (ae (aA 2) ai)))))))))
def b_alike:DE→Option Out :=
 (az (un aW (aQ [2] (a8 aH (aC 1 cq (aa (var 0) ah))) (nmG 2) noT (aC 2 fc (aa (var 2) (aa (var 1) ah))))))
def jy:List D→Option D:=ci 2 3 b_alike
theorem w8 (T:TX K mg):bu P w K mg base CX0 3 T.f_alike T.fd_alike ["play","many"] (spD 2 jy) :=
 fnG (k:=2) (b:=b_alike) T.F_alike oU rfl rfl rfl rfl fun cdv A outer s H E hr =>
   (ap (aF (bN rfl T.n_tuple rfl (Ev.obs (cD (js:=[2]) (Blk.of (sc:=al m8) (N:=t8) (by decide +kernel) rfl rfl) rfl (b6 (aK (dS T) (hr.mono (by decide)) rfl T.m_whole_counts T.F_whole_counts.kp T.b_whole_counts (ae (aA 0) ai))) bJ (fun _ _ _ _=>(aB (i:=2) oU.nd rfl (Or.inl rfl))) (fun _ _ _ _=>b4) (fun _ _ _ _=>(aK (qP T) (hr.mono (by decide)) rfl T.m_at_most T.F_at_most.kp T.b_at_most (ae (aA 2) (ae (aA 1) ai)))))))))
def b__Lcounts:DE→Option Out :=
 (av (cp 2 (bn ah))
 (av (c4 (eS (aa (un bg (ac 0)) ah)) (nmG 3)
 (av (aD 4 (cst (.int 0)))
 (av (ifS (tst (bin ltD (ac 3) (un bg (ac 1))))
 (aD 4 (aC 1 g__Lmixed (aa (bin ixE (ac 1) (ac 3)) ah)))
 a9)
 (av (cp 5 (bn ah))
 (av (c4 (a8 aH (bin ixE (ac 0) (ac 3))) (nmG 6)
 (av (aD 7 (un bg (ac 6)))
 (av (dl 5 (eY cW (aa (var 7) (aa (bin ixE (bn (aa (bin bG (cst (.int 1)) (bin bW (bin bK (ac 4) (cst (.int 4))) (cst (.int 3)))) (aa (bin bG (cst (.int 1)) (bin bW (bin bK (ac 4) (cst (.int 4))) (bin bG (ac 7) (cst (.int 1))))) (aa (var 7) (aa (cst (.int 1)) ah))))) (bin bW (ac 4) (cst (.int 4)))) ah))))
 (aD 4 (bin bK (ac 4) (bin lj (cst (.int 10)) (cst (.int 6))))))))
 (dl 2 (un aW (ac 5))))))))
 (az (un aW (ac 2)))))
def eC:List D→Option D:=ci 2 8 b__Lcounts
theorem pd (T:TX K mg):bu P w K mg base CX0 3 T.f__Lcounts T.fd__Lcounts ["_law_windows_here","_law_cells"] (spD 2 eC) :=
 fnG (k:=2) (b:=b__Lcounts) T.F__Lcounts ca rfl rfl rfl rfl fun cdv A outer s H E hr =>
   (ag (dg (i:=2) ca.nd rfl (Or.inl rfl) (bU ai))
   (ag (cH Fp rfl (cU rfl T.n_range (ae (aO rfl T.n_len (ak 0)) ai)) (aB (i:=3) ca.nd rfl (Or.inl rfl))
   (ag (aN (i:=4) ca.nd rfl (Or.inl rfl) am)
   (ag (cb (pR  (ak 3) (Ev.obs (aO rfl T.n_len (ak 1))))
   (ap (aN (i:=4) ca.nd rfl (Or.inl rfl) (aK (gY T) (hr.mono (by decide)) rfl T.m__Lmixed T.F__Lmixed.kp T.b__Lmixed (ae (bd hr.units (ak 1) (ak 3) (fun _ _=>rfl)) ai))))
   aU)
   (ag (dg (i:=5) ca.nd rfl (Or.inl rfl) (bU ai))
   (ag (cH Fp rfl (b6 (bd hr.units (ak 0) (ak 3) (fun _ _=>rfl))) (aB (i:=6) ca.nd rfl (Or.inl rfl))
   (ag (aN (i:=7) ca.nd rfl (Or.inl rfl) (aO rfl T.n_len (ak 6)))
   (ag (de (i:=5) (pv 5) (nO rfl rfl T.n_min rfl (ae (aA 7) (ae (bd hr.units (Ev.obs (bU (ae (be (Ev.obs am) (Ev.obs (bt (Ev.obs (bL (ak 4) (Ev.obs am))) (Ev.obs am)))) (ae (be (Ev.obs am) (Ev.obs (bt (Ev.obs (bL (ak 4) (Ev.obs am))) (Ev.obs (be (ak 7) (Ev.obs am)))))) (ae (aA 7) (ae am ai)))))) (Ev.obs (bt (ak 4) (Ev.obs am))) (fun _ _=>rfl)) ai))))
   (ap (aN (i:=4) ca.nd rfl (Or.inl rfl) (bL (ak 4) (Ev.obs (nM (Ev.obs am) (Ev.obs am)))))))))
   (ap (de (i:=2) (pv 2) (bN rfl T.n_tuple rfl (ak 5)))))))))
   (ap (aF (bN rfl T.n_tuple rfl (ak 2))))))
def b_total:DE→Option Out :=
 (az (un jG (aQ [1] (a8 aH (var 0)) (nmG 1) noT (un jG (ac 1)))))
def ix:List D→Option D:=ci 1 2 b_total
theorem w6 (T:TX K mg):bu P w K mg base CX0 2 T.f_total T.fd_total ["counts"] (spD 1 ix) :=
 fnG (k:=1) (b:=b_total) T.F_total oQ rfl rfl rfl rfl fun cdv A outer s H E hr =>
   (ap (aF (nI rfl rfl T.n_sum rfl (Ev.obs (cD (js:=[1]) (Blk.of (sc:=al m7) (N:=tZ) (by decide +kernel) rfl rfl) rfl (b6 (aA 0)) bJ (fun _ _ _ _=>(aB (i:=1) oQ.nd rfl (Or.inl rfl))) (fun _ _ _ _=>b4) (fun _ _ _ _=>(nI rfl rfl T.n_sum rfl (ak 1))))))))
def b__Lwrong:DE→Option Out :=
 (av (ifS (cC (tst (isF "tuple" (ac 0))))
 (az (un bg (ac 1)))
 a9)
 (av (c4 (eS (aa (un bg (ac 1)) ah)) (nmG 2)
 (av (ifS (orT (tst (bin geD (ac 2) (un bg (ac 0)))) (orT (cC (tst (isF "tuple" (bin ixE (ac 0) (ac 2))))) (tst (bin neO (un bg (bin ixE (ac 0) (ac 2))) (un bg (bin ixE (ac 1) (ac 2)))))))
 (az (var 2))
 a9)
 (c4 (eS (aa (un bg (bin ixE (ac 1) (ac 2))) ah)) (nmG 3)
 (av (aD 4 (bin ixE (bin ixE (ac 0) (ac 2)) (ac 3)))
 (av (ifS (orT (cC (tst (isF "int" (ac 4)))) (tst (isF "bool" (ac 4))))
 (az (var 2))
 a9)
 (ifS (orT (tst (bin ltD (ac 4) (un pL (bin gtD (ac 2) (cst (.int 0)))))) (tst (bin gtD (ac 4) (un bg (bin ixE (bin ixE (ac 1) (ac 2)) (ac 3))))))
 (az (var 2))
 a9))))))
 (av (ifS (tst (bin gtD (un bg (ac 0)) (un bg (ac 1))))
 (az (un bg (ac 1)))
 a9)
 (az (cst .non)))))
def ff:List D→Option D:=ci 2 5 b__Lwrong
theorem qQ (T:TX K mg):bu P w K mg base CX0 2 T.f__Lwrong T.fd__Lwrong ["_law_thing","_law_windows_here"] (spD 2 ff) :=
 fnG (k:=1) (b:=b__Lwrong) T.F__Lwrong fw rfl rfl rfl rfl fun cdv A outer s H E hr =>
   (ag (cb (dC (cY (bB (T := "tuple") rfl rfl T.n_isinstance rfl rfl T.n_tuple rfl (ak 0))))
   (ap (aF (aO rfl T.n_len (ak 1))))
   aU)
   (ag (cH Fp rfl (cU rfl T.n_range (ae (aO rfl T.n_len (ak 1)) ai)) (aB (i:=2) fw.nd rfl (Or.inl rfl))
   (ag (cb (Ew.et (gS (D3  (ak 2) (Ev.obs (aO rfl T.n_len (ak 0)))) (gS (dC (cY (bB (T := "tuple") rfl rfl T.n_isinstance rfl rfl T.n_tuple rfl (Ev.obs (bd hr.units (ak 0) (ak 2) (fun _ _=>rfl)))))) (gm (xY hr.units (Ev.obs (aO rfl T.n_len (Ev.obs (bd hr.units (ak 0) (ak 2) (fun _ _=>rfl))))) (Ev.obs (aO rfl T.n_len (Ev.obs (bd hr.units (ak 1) (ak 2) (fun _ _=>rfl))))))))))
   (ap (aF (aA 2)))
   aU)
   (ap (cH Fp rfl (cU rfl T.n_range (ae (aO rfl T.n_len (Ev.obs (bd hr.units (ak 1) (ak 2) (fun _ _=>rfl)))) ai)) (aB (i:=3) fw.nd rfl (Or.inl rfl))
   (ag (aN (i:=4) fw.nd rfl (Or.inl rfl) (bd hr.units (Ev.obs (bd hr.units (ak 0) (ak 2) (fun _ _=>rfl))) (ak 3) (fun _ _=>rfl)))
   (ag (cb (Ew.et (gS (dC (cY (bB (T := "int") rfl rfl T.n_isinstance rfl rfl T.n_int rfl (ak 4)))) (gm (cY (bB (T := "bool") rfl rfl T.n_isinstance rfl rfl T.n_bool rfl (ak 4))))))
   (ap (aF (aA 2)))
   aU)
   (ap (cb (Ew.et (gS (pR  (ak 4) (Ev.obs (tj rfl T.n_int rfl (Ev.obs (D2  (ak 2) (Ev.obs am)))))) (gm (AW  (ak 4) (Ev.obs (aO rfl T.n_len (Ev.obs (bd hr.units (Ev.obs (bd hr.units (ak 1) (ak 2) (fun _ _=>rfl))) (ak 3) (fun _ _=>rfl)))))))))
   (ap (aF (aA 2)))
   aU))))))))
   (ag (cb (AW  (Ev.obs (aO rfl T.n_len (ak 0))) (Ev.obs (aO rfl T.n_len (ak 1))))
   (ap (aF (aO rfl T.n_len (ak 1))))
   aU)
   (ap (aF kM)))))
def b__Ltruth:DE→Option Out :=
 (az (gv (isF "bool" (ac 0)) (bin eqO (ac 0) (ac 1))))
def gJ:List D→Option D:=ci 2 2 b__Ltruth
theorem qS (T:TX K mg):bu P w K mg base CX0 2 T.f__Ltruth T.fd__Ltruth ["_law_found","_law_due"] (spD 2 gJ) :=
 fnG (k:=1) (b:=b__Ltruth) T.F__Ltruth qG rfl rfl rfl rfl fun cdv A outer s H E hr =>
   (ap (aF (iZ (bB (T := "bool") rfl rfl T.n_isinstance rfl rfl T.n_bool rfl (ak 0)) (kL (pQ hr.units (ak 0) (ak 1))))))
def b_is_whole:DE→Option Out :=
 (az (gv (isF "int" (ac 0)) (lr (isF "bool" (ac 0)))))
def fK:List D→Option D:=ci 1 1 b_is_whole
theorem o9 (T:TX K mg):bu P w K mg base CX0 2 T.f_is_whole T.fd_is_whole ["thing"] (spD 1 fK) :=
 fnG (k:=1) (b:=b_is_whole) T.F_is_whole oR rfl rfl rfl rfl fun cdv A outer s H E hr =>
   (ap (aF (iZ (bB (T := "int") rfl rfl T.n_isinstance rfl rfl T.n_int rfl (ak 0)) (kL (xU (bB (T := "bool") rfl rfl T.n_isinstance rfl rfl T.n_bool rfl (ak 0)))))))
def b_is_count:DE→Option Out :=
 (az (gv (aC 1 fK (aa (var 0) ah)) (iF leD leD (eY cW (aa (cst (.int 1)) (aa (var 1) ah))) (ac 0) (ac 1))))
def dA:List D→Option D:=ci 2 2 b_is_count
theorem o_ (T:TX K mg):bu P w K mg base CX0 3 T.f_is_count T.fd_is_count ["thing","size"] (spD 2 dA) :=
 fnG (k:=2) (b:=b_is_count) T.F_is_count oS rfl rfl rfl rfl fun cdv A outer s H E hr =>
   (ap (aF (iZ (aK (o9 T) (hr.mono (by decide)) rfl T.m_is_whole T.F_is_whole.kp T.b_is_whole (ae (aA 0) ai)) (kL (z7 (Ev.obs (nO rfl rfl T.n_min rfl (ae am (ae (aA 1) ai)))) (ak 0) (ak 1))))))
def b_are_counts:DE→Option Out :=
 (av (ifS (orT (cC (tst (isF "tuple" (ac 0)))) (tst (bin neO (un bg (ac 0)) (un bg (ac 1)))))
 (az (cst (.bl false)))
 a9)
 (az (un lD (aQ [2,3] (t_ (aa (var 0) (aa (var 1) ah))) (dj 2 (bh (nmG 2) (bh (nmG 3) dk))) noT (aC 2 dA (aa (var 2) (aa (var 3) ah)))))))
def cS:List D→Option D:=ci 2 4 b_are_counts
theorem ln (T:TX K mg):bu P w K mg base CX0 4 T.f_are_counts T.fd_are_counts ["thing","row"] (spD 2 cS) :=
 fnG (k:=3) (b:=b_are_counts) T.F_are_counts eQ rfl rfl rfl rfl fun cdv A outer s H E hr =>
   (ag (cb (Ew.et (gS (dC (cY (bB (T := "tuple") rfl rfl T.n_isinstance rfl rfl T.n_tuple rfl (ak 0)))) (gm (xY hr.units (Ev.obs (aO rfl T.n_len (ak 0))) (Ev.obs (aO rfl T.n_len (ak 1)))))))
   (ap (aF eO))
   aU)
   (ap (aF (xX rfl rfl T.n_all rfl (Ev.obs (cD (js:=[2,3]) (Blk.of (sc:=al fA) (N:=iH) (by decide +kernel) rfl rfl) rfl (tE rfl T.n_zip (ae (aA 0) (ae (aA 1) ai))) (i9.js (w4 (l6 (sN (by decide)) (l6 (sN (by decide)) w5)))) (fun _ _ _ _=>(fM rfl (bz (aB (i:=2) eQ.nd rfl (Or.inl rfl)) (bz (aB (i:=3) eQ.nd rfl (Or.inl rfl)) dY)))) (fun _ _ _ _=>b4) (fun _ _ _ _=>(aK (o_ T) (hr.mono (by decide)) rfl T.m_is_count T.F_is_count.kp T.b_is_count (ae (aA 2) (ae (aA 3) ai))))))))))
def b_amiss_at:DE→Option Out :=
 (av (ifS (cC (tst (isF "tuple" (ac 1))))
 (az (un bg (ac 0)))
 a9)
 (av (c4 (tz (aa (aC 1 cq (aa (var 0) ah)) ah)) (dj 2 (bh (nmG 2) (bh (nmG 3) dk)))
 (ifS (orT (tst (bin eqO (ac 2) (un bg (ac 1)))) (cC (tst (aC 2 cS (aa (bin ixE (ac 1) (ac 2)) (aa (var 3) ah))))))
 (az (var 2))
 a9))
 (az (ifV (tst (bin eqO (un bg (ac 1)) (un bg (ac 0)))) (cst .non) (un bg (ac 0))))))
def cj:List D→Option D:=ci 2 4 b_amiss_at
theorem ge (T:TX K mg):bu P w K mg base CX0 5 T.f_amiss_at T.fd_amiss_at ["play","thing"] (spD 2 cj) :=
 fnG (k:=4) (b:=b_amiss_at) T.F_amiss_at f7 rfl rfl rfl rfl fun cdv A outer s H E hr =>
   (ag (cb (dC (cY (bB (T := "tuple") rfl rfl T.n_isinstance rfl rfl T.n_tuple rfl (ak 1))))
   (ap (aF (aO rfl T.n_len (ak 0))))
   aU)
   (ag (cH Fp rfl (Ad rfl T.n_enumerate (ae (aK (dS T) (hr.mono (by decide)) rfl T.m_whole_counts T.F_whole_counts.kp T.b_whole_counts (ae (aA 0) ai)) ai)) (fM rfl (bz (aB (i:=2) f7.nd rfl (Or.inl rfl)) (bz (aB (i:=3) f7.nd rfl (Or.inl rfl)) dY)))
   (ap (cb (Ew.et (gS (gp hr.units (ak 2) (Ev.obs (aO rfl T.n_len (ak 1)))) (gm (dC (cY (aK (ln T) (hr.mono (by decide)) rfl T.m_are_counts T.F_are_counts.kp T.b_are_counts (ae (bd hr.units (ak 1) (ak 2) (fun _ _=>rfl)) (ae (aA 3) ai))))))))
   (ap (aF (aA 2)))
   aU)))
   (ap (aF (D1 (gp hr.units (Ev.obs (aO rfl T.n_len (ak 1))) (Ev.obs (aO rfl T.n_len (ak 0)))) kM (aO rfl T.n_len (ak 0)))))))
def b_is_counts:DE→Option Out :=
 (az (un hJ (aC 2 cj (aa (var 0) (aa (var 1) ah)))))
def dc:List D→Option D:=ci 2 2 b_is_counts
theorem nv (T:TX K mg):bu P w K mg base CX0 6 T.f_is_counts T.fd_is_counts ["play","thing"] (spD 2 dc) :=
 fnG (k:=5) (b:=b_is_counts) T.F_is_counts m6 rfl rfl rfl rfl fun cdv A outer s H E hr =>
   (ap (aF (rj (aK (ge T) (hr.mono (by decide)) rfl T.m_amiss_at T.F_amiss_at.kp T.b_amiss_at (ae (aA 0) (ae (aA 1) ai))))))
def b_check_counts:DE→Option Out :=
 (av (aD 2 (aC 2 cj (aa (var 0) (aa (var 1) ah))))
 (ifS (tst (un df (var 2)))
 noS
 a9))
def bx:List D→Option D:=ci 2 3 b_check_counts
theorem jl (T:TX K mg):bu P w K mg base CX0 6 T.f_check_counts T.fd_check_counts ["play","thing"] (spD 2 bx) :=
 fnG (k:=5) (b:=b_check_counts) T.F_check_counts c9 rfl rfl rfl rfl fun cdv A outer s H E hr =>
   (ag (aN (i:=2) c9.nd rfl (Or.inl rfl) (aK (ge T) (hr.mono (by decide)) rfl T.m_amiss_at T.F_amiss_at.kp T.b_amiss_at (ae (aA 0) (ae (aA 1) ai))))
   (ap (cb (mw (aA 2))
   (ap xZ)
   aU)))
def b_names_in:DE→Option Out :=
 (av (cp 1 (bn ah))
 (av (c4 (a8 a6 (var 0)) (dj 2 (bh (nmG 2) (bh (nmG 3) dk)))
 (lv 1 (ac 2)))
 (az (un aW (un fX (ac 1))))))
def g_names_in:List D→Option D:=ci 1 4 b_names_in
theorem o8 (T:TX K mg):bu P w K mg base CX0 2 T.f_names_in T.fd_names_in ["play"] (spD 1 g_names_in) :=
 fnG (k:=1) (b:=b_names_in) T.F_names_in eL rfl rfl rfl rfl fun cdv A outer s H E hr =>
   (ag (dg (i:=1) eL.nd rfl (Or.inl rfl) (bU ai))
   (ag (cH Fp rfl (kS (aA 0)) (fM rfl (bz (aB (i:=2) eL.nd rfl (Or.inl rfl)) (bz (aB (i:=3) eL.nd rfl (Or.inl rfl)) dY)))
   (ap (mB (i:=1) (pv 1) (ak 2))))
   (ap (aF (bN rfl T.n_tuple rfl (Ev.obs (nL hr.units rfl rfl T.n_sorted rfl rfl T.n_set rfl (ak 1))))))))
def b_words_in:DE→Option Out :=
 (av (cp 1 (bn ah))
 (av (c4 (a8 a6 (var 0)) (dj 2 (bh (nmG 2) (bh (nmG 3) dk)))
 (lv 1 (ac 3)))
 (az (un aW (ac 1)))))
def g_words_in:List D→Option D:=ci 1 4 b_words_in
theorem o7 (T:TX K mg):bu P w K mg base CX0 2 T.f_words_in T.fd_words_in ["play"] (spD 1 g_words_in) :=
 fnG (k:=1) (b:=b_words_in) T.F_words_in eK rfl rfl rfl rfl fun cdv A outer s H E hr =>
   (ag (dg (i:=1) eK.nd rfl (Or.inl rfl) (bU ai))
   (ag (cH Fp rfl (kS (aA 0)) (fM rfl (bz (aB (i:=2) eK.nd rfl (Or.inl rfl)) (bz (aB (i:=3) eK.nd rfl (Or.inl rfl)) dY)))
   (ap (mB (i:=1) (pv 1) (ak 3))))
   (ap (aF (bN rfl T.n_tuple rfl (ak 1))))))
def b_begins:DE→Option Out :=
 (av (cp 1 (bn ah))
 (av (aD 2 (cst (.int 0)))
 (av (c4 (a8 a6 (var 0)) (dj 2 (bh (nmG 3) (bh (nmG 4) dk)))
 (av (dl 1 (var 2))
 (nZ 2 (un bg (ac 4)))))
 (az (un aW (ac 1))))))
def g_begins:List D→Option D:=ci 1 5 b_begins
theorem uI (T:TX K mg):bu P w K mg base CX0 2 T.f_begins T.fd_begins ["play"] (spD 1 g_begins) :=
 fnG (k:=1) (b:=b_begins) T.F_begins d6 rfl rfl rfl rfl fun cdv A outer s H E hr =>
   (ag (dg (i:=1) d6.nd rfl (Or.inl rfl) (bU ai))
   (ag (aN (i:=2) d6.nd rfl (Or.inl rfl) am)
   (ag (cH Fp rfl (kS (aA 0)) (fM rfl (bz (aB (i:=3) d6.nd rfl (Or.inl rfl)) (bz (aB (i:=4) d6.nd rfl (Or.inl rfl)) dY)))
   (ag (de (i:=1) (pv 1) (aA 2))
   (ap (x9 (i:=2) d6.nd rfl (Or.inl rfl) (aO rfl T.n_len (ak 4))))))
   (ap (aF (bN rfl T.n_tuple rfl (ak 1)))))))
def b_cut:DE→Option Out :=
 (av (pY (aC 2 bx (aa (var 0) (aa (var 1) ah))))
 (i4 9 2 (wj (xM (a8 kC (aC 1 g_names_in (aa (var 0) ah))) (nmG 3)
 (Bz (var 3)))
 (wj (Be 4 (aC 1 g_words_in (aa (var 0) ah)))
 (wj (xM (rZ (aa (var 0) (aa (aC 1 g_begins (aa (var 0) ah)) (aa (var 1) ah)))) (dj 3 (bh (nmG 5) (bh (nmG 6) (bh (nmG 7) dk))))
 (xM (t_ (aa (bin ixE (ac 5) (cst (.int 0))) (aa (var 7) ah))) (dj 2 (bh (nmG 3) (bh (nmG 8) dk)))
 (CP (var 3) (cg (aa (ba (ac 4) (bv (bin qC (ac 6) (ac 8))) (bv (var 6))) (aa (bin ixE (ac 5) (cst (.int 0))) (aa (bin ixE (ac 5) (cst (.int 1))) ah)))))))
 (q8 2 (av (cp 9 nR)
 (av (c4 (a8 kC (var 2)) (nmG 3)
 (jk 9 (var 3) (un aW (bin ixE (ac 2) (ac 3)))))
 a9))))))))
def kG:List D→Option D:=wm 9 2 10 b_cut
theorem BW (T:TX K mg):bu P w K mg base CX0 7 T.f_cut T.fd_cut ["play","counts"] (spN 2 kG) :=
 fnN (k:=6) (i:=9) (b:=b_cut) T.F_cut dR rfl rfl rfl rfl fun cdv A outer s H E hr =>
   (qT (Aa (aK (jl T) (hr.mono (by decide)) rfl T.m_check_counts T.F_check_counts.kp T.b_check_counts (ae (aA 0) (ae (aA 1) ai))))
   (rl (i:=2) (hlen:=fun E h=>by obtain ⟨B,F,H,σ,k,e⟩:=h; rw [← k.len,e]; exact (by decide:2 < AY.length)) dR.nd rfl (Or.inl rfl) fun _ =>
   (qr (nA 9) (nY Fp rfl (tF (aK (o8 T) (hr.mono (by decide)) rfl T.m_names_in T.F_names_in.kp T.b_names_in (ae (aA 0) ai))) (aB (i:=3) dR.nd rfl (Or.inl rfl)) (gI (by decide))
   (At hr.units (pv 2) (aA 3)))
   (qr (nA 9) (As (j:=4) dR.nd rfl (Or.inl rfl) (aK (o7 T) (hr.mono (by decide)) rfl T.m_words_in T.F_words_in.kp T.b_words_in (ae (aA 0) ai)) (by decide))
   (qr (nA 9) (nY Fp rfl (Ac rfl T.n_zip (ae (aA 0) (ae (aK (uI T) (hr.mono (by decide)) rfl T.m_begins T.F_begins.kp T.b_begins (ae (aA 0) ai)) (ae (aA 1) ai)))) (fM rfl (bz (aB (i:=5) dR.nd rfl (Or.inl rfl)) (bz (aB (i:=6) dR.nd rfl (Or.inl rfl)) (bz (aB (i:=7) dR.nd rfl (Or.inl rfl)) dY)))) (mj (em (gI (by decide)) (em (gI (by decide)) (em (gI (by decide)) ml))))
   (nY Fp rfl (tE rfl T.n_zip (ae (bd hr.units (ak 5) (Ev.obs am) (fun _ _=>rfl)) (ae (aA 7) ai))) (fM rfl (bz (aB (i:=3) dR.nd rfl (Or.inl rfl)) (bz (aB (i:=8) dR.nd rfl (Or.inl rfl)) dY))) (mj (em (gI (by decide)) (em (gI (by decide)) ml)))
   (Au hr.units (pv 2) (aA 3) (b8 (ae (bF (ak 4) (bD (nJ (ak 6) (ak 8))) (bD (aA 6))) (ae (bd hr.units (ak 5) (Ev.obs am) (fun _ _=>rfl)) (ae (bd hr.units (ak 5) (Ev.obs am) (fun _ _=>rfl)) ai)))))))
   (A4 (nA 9) (qT (dg (i:=9) dR.nd rfl (Or.inl rfl) jz)
   (qT (cH Fp rfl (tF (aA 2)) (aB (i:=3) dR.nd rfl (Or.inl rfl))
   (ap (tu hr.units (i:=9) (pv 9) (aA 3) (bN rfl T.n_tuple rfl (Ev.obs (bd hr.units (ak 2) (ak 3) (fun _ _=>rfl)))))))
   (DQ (pv 9))))))))))
section
variable {P:Program}{w:World}{K:PySem.W.Frag}{mg:Str→Option Value}{base:Heap}
theorem TX.kd (T:TX K mg):AZ K mg "NoCounts" "place" "NoCounts.__init__" (nE (c_ 3) 0) kA kB "Unknown" "CueError" := xw T.o T.g
abbrev clN (K:PySem.W.Frag):Nat→Addr:=fun _=>cv K "NoCounts"
theorem yX:aM ["self","place"] ["self","place"] (al (nE (c_ 3) 0)):=⟨rfl,rfl,rfl,by decide +kernel,rfl,by decide +kernel,by decide +kernel⟩
def bV:DE→Option dm:=qF (okX (aD 2 (aC 2 cj (aa (var 0) (aa (var 1) ah))))) (ifX (tst (un df (var 2))) (nc 0 "place" (var 2)) (okX a9))
theorem iS (T:TX K mg):bu P w K mg base (CX1 P w) 6 T.f_check_counts T.fd_check_counts ["play","thing"] (uk (clN K) 2 (gP 2 3 bV)):=by
 obtain ⟨fd,F⟩:=T.kd.fn
 obtain ⟨cd,xc⟩:=T.kd.er.xc
 have oi:bu P w K mg base CX0 1 (kE K (cv K "NoCounts")) fd ["self","place"] (spI (cv K "NoCounts") "place"):=zG F yX xc T.kd.er.nf rfl (Or.inl rfl) (Or.inl rfl) (by decide) (by decide) fun _=>rfl
 have bi:bC K fd ["self","place"] []:=F.binds fun _ _ _ _ _ _ us hl=>by obtain ⟨u0,u1,rfl⟩:=ul2 hl; rfl
 exact D0 (k:=5) T.F_check_counts c9 fun cdv A outer s H E hr =>
  my (Cq (aN (i:=2) c9.nd rfl (Or.inl rfl) (aK (ge T) (hr.mono (by decide)) rfl T.m_amiss_at T.F_amiss_at.kp T.b_amiss_at (ae (aA 0) (ae (aA 1) ai)))))
  (kO (Cr (mw (aA 2)) (kO (vd rfl T.kd.er.q oi bi T.kd.er.fn (hr.mono (by decide)) rfl rfl T.kd.mx T.kd.er.kp (aA 2))) (tq aU)))
def CH:DE→Option dm:=qF (fj 2 (gP 2 3 bV) (aa (var 0) (aa (var 1) ah))) (okX noS)
def eW:List D→Option (Option (Nat×List (Str×D))):=iB kG (gP 2 10 CH)
theorem zF (T:TX K mg):bu P w K mg base (CX1 P w) 7 T.f_cut T.fd_cut ["play","counts"] (uk (clN K) 2 eW) :=
 Eu (BW T) (D0 (k:=6) T.F_cut dR fun cdv A outer s H E hr =>
  my (pS (iS T) (hr.mono (by decide)) rfl T.m_check_counts T.F_check_counts.kp T.b_check_counts (ae (aA 0) (ae (aA 1) ai))) (tq mz))
def iu (a:Addr) (fs:List (Str×D)):DE→Option Out:=av (aD 4 (bn (aa (xF 3 a (.bl false)) (aa (xF 3 a (.bl false)) ah))))
 (aD 2 (cg (aa (vN 3 a "place" fs) (aa (bin bG (ac 4) (bn (aa (xF 3 a (.bl false)) (aa (xF 3 a (.bl true)) (aa (xF 3 a (.bl true)) ah))))) ah))))
def b__Lcut:DE→Option Out:=av (aD 2 (cst .non)) (av (qz 0 3 (fj 2 eW (aa (var 0) (aa (var 1) ah))) iu) (az (var 2)))
def fL:List D→Option D:=ci 2 5 b__Lcut
theorem pc (T:TX K mg):bu P w K mg base CX0 8 T.f__Lcut T.fd__Lcut ["_law_play_here","_law_thing"] (spD 2 fL):=by
 obtain ⟨cd,xc⟩:=T.kd.er.xc
 have ms:=T.kd.ms
 exact fnG (k:=7) (b:=b__Lcut) T.F__Lcut f8 rfl rfl rfl rfl fun cdv A outer s H E hr =>
  (ag (aN (i:=2) f8.nd rfl (Or.inl rfl) kM)
  (ag (Ct (n:=0) (cl:=clN K) (kO (pS (zF T) (hr.mono (by decide)) rfl T.m_cut T.F_cut.kp T.b_cut (ae (aA 0) (ae (aA 1) ai)))) rfl rfl T.kd.er.q rfl T.kd.mx f8.nd rfl rfl
   fun a dx oe od vs fs h1 h2 h3 h4 h5=>ag (aN (i:=4) f8.nd rfl (Or.inl rfl) (Ev.frz (bU (ae
    (xS (as:=kA) h1 xc T.kd.er.cl rfl T.n_isinstance rfl (pv 3) (fun y hy=>ms y (GE _ (GE _ hy))) T.kd.ka) (ae
    (xS (as:=kB) h1 xc T.kd.er.cl rfl T.n_isinstance rfl (pv 3) (fun y hy=>ms y (GE _ (Fq _ hy))) T.kd.kb) ai)))))
    (ap (aN (i:=2) f8.nd rfl (Or.inl rfl) (b8 (ae (zY h1 h2 h3 h4 xc T.kd.er.nf h5 (pv 3)) (ae (be (ak 4) (Ev.obs (bU (ae
     (nH h1 xc T.kd.er.cl rfl T.n_isinstance rfl (pv 3) (nn rfl (ms "Unknown" (by decide)) (v:=.ref (cv K "Unknown")) rfl) (fun u hu=>hu) T.kd.kc) (ae
     (nH h1 xc T.kd.er.cl rfl T.n_isinstance rfl (pv 3) (nn rfl (ms "CueError" (by decide)) (v:=.ref (cv K "CueError")) rfl) (fun u hu=>hu) T.kd.kd) (ae
     (nH h1 xc T.kd.er.cl rfl T.n_isinstance rfl (pv 3) (sJ rfl T.n_ValueError rfl (v:=.ty "ValueError") rfl) (fun u hu=>hu) T.kd.kv) ai)))))) ai))))))
  (ap (aF (aA 2)))))
end
def b__Lasked:DE→Option Out :=
 (av (aD 3 (aC 2 ff (aa (var 1) (aa (var 2) ah))))
 (av (ifS (cC (tst (aC 2 gJ (aa (aC 2 dc (aa (var 0) (aa (var 1) ah))) (aa (un hJ (var 3)) ah)))))
 (az (cst (.bl false)))
 a9)
 (av (ifS (tst (un hJ (var 3)))
 (az (un hJ (aC 2 fL (aa (var 0) (aa (var 1) ah)))))
 a9)
 (az (bin eqO (aC 2 fL (aa (var 0) (aa (var 1) ah))) (cg (aa (var 3) (aa (bn (aa (cst (.bl false)) (aa (cst (.bl false)) (aa (cst (.bl false)) (aa (cst (.bl true)) (aa (cst (.bl true)) ah)))))) ah))))))))
def dB:List D→Option D:=ci 3 4 b__Lasked
theorem kj (T:TX K mg):bu P w K mg base CX0 9 T.f__Lasked T.fd__Lasked ["_law_play_here","_law_thing","_law_windows_here"] (spD 3 dB) :=
 fnG (k:=8) (b:=b__Lasked) T.F__Lasked jR rfl rfl rfl rfl fun cdv A outer s H E hr =>
   (ag (aN (i:=3) jR.nd rfl (Or.inl rfl) (aK (qQ T) (hr.mono (by decide)) rfl T.m__Lwrong T.F__Lwrong.kp T.b__Lwrong (ae (aA 1) (ae (aA 2) ai))))
   (ag (cb (dC (cY (aK (qS T) (hr.mono (by decide)) rfl T.m__Ltruth T.F__Ltruth.kp T.b__Ltruth (ae (aK (nv T) (hr.mono (by decide)) rfl T.m_is_counts T.F_is_counts.kp T.b_is_counts (ae (aA 0) (ae (aA 1) ai))) (ae (rj (aA 3)) ai)))))
   (ap (aF eO))
   aU)
   (ag (cb (Cp (aA 3))
   (ap (aF (rj (aK (pc T) (hr.mono (by decide)) rfl T.m__Lcut T.F__Lcut.kp T.b__Lcut (ae (aA 0) (ae (aA 1) ai))))))
   aU)
   (ap (aF (pQ hr.units (Ev.obs (aK (pc T) (hr.mono (by decide)) rfl T.m__Lcut T.F__Lcut.kp T.b__Lcut (ae (aA 0) (ae (aA 1) ai)))) (Ev.obs (b8 (ae (aA 3) (ae (Ev.frz (bU (ae eO (ae eO (ae eO (ae eO (ae eO ai))))))) ai))))))))))
def b__Ltwice:DE→Option Out :=
 (av (ifS (orT (cC (tst (isF "tuple" (ac 0)))) (orT (tst (bin eqO (ac 0) (cg ah))) (tst (bin eqO (bin bW (ac 1) (cst (.int 2))) (cst (.int 0))))))
 (az (var 0))
 a9)
 (av (aD 2 (bin bW (bin bK (ac 1) (cst (.int 10))) (un bg (ac 0))))
 (az (bin ixE (bn (aa (bin bG (ac 0) (cg (aa (cg (aa (cst (.int 1)) ah)) ah))) (aa (ba (ac 0) noP (bv (cst (.int (-1))))) (aa (un kt (ac 0)) (aa (bin bG (bin bG (ba (ac 0) noP (bv (var 2))) (cg (aa (cg ah) ah))) (ba (ac 0) (bv (bin bG (ac 2) (cst (.int 1)))) noP)) ah))))) (bin bW (bin bK (ac 1) (cst (.int 2))) (cst (.int 4)))))))
def fg:List D→Option D:=ci 2 3 b__Ltwice
theorem qR (T:TX K mg):bu P w K mg base CX0 2 T.f__Ltwice T.fd__Ltwice ["_law_thing","_law_cell_here"] (spD 2 fg) :=
 fnG (k:=1) (b:=b__Ltwice) T.F__Ltwice jQ rfl rfl rfl rfl fun cdv A outer s H E hr =>
   (ag (cb (Ew.et (gS (dC (cY (bB (T := "tuple") rfl rfl T.n_isinstance rfl rfl T.n_tuple rfl (ak 0)))) (gS (gp hr.units (ak 0) (Ev.obs (b8 ai))) (gm (gp hr.units (Ev.obs (bt (ak 1) (Ev.obs am))) (Ev.obs am))))))
   (ap (aF (aA 0)))
   aU)
   (ag (aN (i:=2) jQ.nd rfl (Or.inl rfl) (bt (Ev.obs (bL (ak 1) (Ev.obs am))) (Ev.obs (aO rfl T.n_len (ak 0)))))
   (ap (aF (bd hr.units (Ev.obs (bU (ae (be (ak 0) (Ev.obs (b8 (ae (b8 (ae am ai)) ai)))) (ae (bF (ak 0) cL (bD nN)) (ae (Ev.frz (nP rfl T.n_list rfl (ak 0))) (ae (be (Ev.obs (be (Ev.obs (bF (ak 0) cL (bD (aA 2)))) (Ev.obs (b8 (ae (b8 ai) ai))))) (Ev.obs (bF (ak 0) (bD (be (ak 2) (Ev.obs am))) cL))) ai)))))) (Ev.obs (bt (Ev.obs (bL (ak 1) (Ev.obs am))) (Ev.obs am))) (fun _ _=>rfl))))))
def b__Lspoilt:DE→Option Out :=
 (av (ifS (tst (bin eqO (ac 0) (cg ah)))
 (az (bin ixE (bn (aa (bn ah) (aa (cg (aa (cg (aa (cst (.int 1)) ah)) ah)) (aa (cst .non) (aa (cst (.str "")) (aa (cg (aa (cg ah) ah)) ah)))))) (bin bW (ac 2) (cst (.int 5)))))
 a9)
 (av (aD 3 (bin bW (bin bK (ac 2) (cst (.int 20))) (un bg (ac 0))))
 (av (aD 4 (bin ixE (ac 0) (ac 3)))
 (av (aD 5 (bin bW (bin bK (ac 2) (cst (.int 2000))) (un bg (ac 4))))
 (av (aD 6 (un bg (bin ixE (bin ixE (ac 1) (ac 3)) (ac 5))))
 (av (ifS (tst (bin ltD (bin bW (ac 2) (cst (.int 12))) (cst (.int 6))))
 (av (aD 7 (bin ixE (bn (aa (un pL (bin eqO (ac 3) (cst (.int 0)))) (aa (bin bG (ac 6) (cst (.int 1))) (aa (cst (.int (-1))) (aa (cst (.bl true)) (aa (cst (.str "1")) (aa (cst .non) ah))))))) (bin bW (ac 2) (cst (.int 12)))))
 (az (bin bG (bin bG (ba (ac 0) noP (bv (var 3))) (cg (aa (bin bG (bin bG (ba (ac 4) noP (bv (var 5))) (cg (aa (var 7) ah))) (ba (ac 4) (bv (bin bG (ac 5) (cst (.int 1)))) noP)) ah))) (ba (ac 0) (bv (bin bG (ac 3) (cst (.int 1)))) noP))))
 a9)
 (av (ifS (tst (bin ltD (bin bW (ac 2) (cst (.int 12))) (cst (.int 9))))
 (av (aD 7 (bin ixE (bn (aa (bin bG (ac 4) (cg (aa (cst (.int 1)) ah))) (aa (ba (ac 4) (bv (cst (.int 1))) noP) (aa (un kt (ac 4)) ah)))) (bin qC (bin bW (ac 2) (cst (.int 12))) (cst (.int 6)))))
 (az (bin bG (bin bG (ba (ac 0) noP (bv (var 3))) (cg (aa (var 7) ah))) (ba (ac 0) (bv (bin bG (ac 3) (cst (.int 1)))) noP))))
 a9)
 (az (bin ixE (bn (aa (bin bG (ac 0) (cg (aa (cg (aa (cst (.int 1)) ah)) ah))) (aa (ba (ac 0) noP (bv (cst (.int (-1))))) (aa (un kt (ac 0)) ah)))) (bin qC (bin bW (ac 2) (cst (.int 12))) (cst (.int 9))))))))))))
def eB:List D→Option D:=ci 3 8 b__Lspoilt
theorem pb (T:TX K mg):bu P w K mg base CX0 2 T.f__Lspoilt T.fd__Lspoilt ["_law_counts_here","_law_windows_here","_law_cell_here"] (spD 3 eB) :=
 fnG (k:=1) (b:=b__Lspoilt) T.F__Lspoilt cM rfl rfl rfl rfl fun cdv A outer s H E hr =>
   (ag (cb (gp hr.units (ak 0) (Ev.obs (b8 ai)))
   (ap (aF (bd hr.units (Ev.obs (bU (ae (Ev.frz (bU ai)) (ae (b8 (ae (b8 (ae am ai)) ai)) (ae kM (ae nK (ae (b8 (ae (b8 ai) ai)) ai))))))) (Ev.obs (bt (ak 2) (Ev.obs am))) (fun _ _=>rfl))))
   aU)
   (ag (aN (i:=3) cM.nd rfl (Or.inl rfl) (bt (Ev.obs (bL (ak 2) (Ev.obs am))) (Ev.obs (aO rfl T.n_len (ak 0)))))
   (ag (aN (i:=4) cM.nd rfl (Or.inl rfl) (bd hr.units (ak 0) (ak 3) (fun _ _=>rfl)))
   (ag (aN (i:=5) cM.nd rfl (Or.inl rfl) (bt (Ev.obs (bL (ak 2) (Ev.obs am))) (Ev.obs (aO rfl T.n_len (ak 4)))))
   (ag (aN (i:=6) cM.nd rfl (Or.inl rfl) (aO rfl T.n_len (Ev.obs (bd hr.units (Ev.obs (bd hr.units (ak 1) (ak 3) (fun _ _=>rfl))) (ak 5) (fun _ _=>rfl)))))
   (ag (cb (pR  (Ev.obs (bt (ak 2) (Ev.obs am))) (Ev.obs am))
   (ag (aN (i:=7) cM.nd rfl (Or.inl rfl) (bd hr.units (Ev.obs (bU (ae (tj rfl T.n_int rfl (Ev.obs (pQ hr.units (ak 3) (Ev.obs am)))) (ae (be (ak 6) (Ev.obs am)) (ae nN (ae eO (ae nK (ae kM ai)))))))) (Ev.obs (bt (ak 2) (Ev.obs am))) (fun _ _=>rfl)))
   (ap (aF (be (Ev.obs (be (Ev.obs (bF (ak 0) cL (bD (aA 3)))) (Ev.obs (b8 (ae (be (Ev.obs (be (Ev.obs (bF (ak 4) cL (bD (aA 5)))) (Ev.obs (b8 (ae (aA 7) ai))))) (Ev.obs (bF (ak 4) (bD (be (ak 5) (Ev.obs am))) cL))) ai))))) (Ev.obs (bF (ak 0) (bD (be (ak 3) (Ev.obs am))) cL))))))
   aU)
   (ag (cb (pR  (Ev.obs (bt (ak 2) (Ev.obs am))) (Ev.obs am))
   (ag (aN (i:=7) cM.nd rfl (Or.inl rfl) (bd hr.units (Ev.obs (bU (ae (be (ak 4) (Ev.obs (b8 (ae am ai)))) (ae (bF (ak 4) (bD am) cL) (ae (Ev.frz (nP rfl T.n_list rfl (ak 4))) ai))))) (Ev.obs (nJ (Ev.obs (bt (ak 2) (Ev.obs am))) (Ev.obs am))) (fun _ _=>rfl)))
   (ap (aF (be (Ev.obs (be (Ev.obs (bF (ak 0) cL (bD (aA 3)))) (Ev.obs (b8 (ae (aA 7) ai))))) (Ev.obs (bF (ak 0) (bD (be (ak 3) (Ev.obs am))) cL))))))
   aU)
   (ap (aF (bd hr.units (Ev.obs (bU (ae (be (ak 0) (Ev.obs (b8 (ae (b8 (ae am ai)) ai)))) (ae (bF (ak 0) cL (bD nN)) (ae (Ev.frz (nP rfl T.n_list rfl (ak 0))) ai))))) (Ev.obs (nJ (Ev.obs (bt (ak 2) (Ev.obs am))) (Ev.obs am))) (fun _ _=>rfl)))))))))))
def yx:DE→Option Out :=
 (av (aD 1 (aC 2 g__Lcell (aa (var 0) (aa (cst (.int 0)) ah))))
 (av (aD 2 (aC 3 g__Ltexts (aa (aC 2 g__Lcell (aa (var 0) (aa (cst (.int 1)) ah))) (aa (bin bG (cst (.int 2)) (bin bW (ac 1) (cst (.int 7)))) (aa (cst (.int 8)) ah)))))
 (av (aD 3 (aC 3 g__Ltexts (aa (bin bK (ac 1) (cst (.int 100))) (aa (bin bG (cst (.int 1)) (bin bW (bin bK (ac 1) (cst (.int 4))) (cst (.int 4)))) (aa (cst (.int 12)) ah)))))
 (av (aD 4 (aC 3 g__Lplay (aa (ba (ac 0) (bv (cst (.int 2))) (bv (cst (.int 42)))) (aa (var 2) (aa (var 3) ah)))))
 (av (aD 5 (aC 1 eN (aa (var 4) ah)))
 (av (aD 6 (un aW (aQ [12] (a8 aH (var 5)) (nmG 12) noT (un aW (aQ [13] (a8 aH (var 12)) (nmG 13) noT (un bg (ac 13)))))))
 (av (ifS (cC (tst (aC 2 (g__Lsame 6) (aa (aC 1 cq (aa (var 4) ah)) (aa (var 6) ah)))))
 (az (cst (.bl false)))
 a9)
 (av (aD 7 (bin bG (cst (.int 1)) (bin bW (bin bK (ac 1) (cst (.int 64))) (bin ixE (bn (aa (cst (.int 5)) (aa (cst (.int 400)) ah))) (bin bW (bin bK (ac 1) (cst (.int 32))) (cst (.int 2)))))))
 (av (aD 8 (un aW (aQ [12] (a8 aH (var 6)) (nmG 12) noT (un aW (aQ [14] (a8 aH (var 12)) (nmG 14) noT (eY cW (aa (var 7) (aa (var 14) ah))))))))
 (av (ifS (cC (tst (aC 2 (g__Lsame 6) (aa (aC 2 jy (aa (var 4) (aa (var 7) ah))) (aa (var 8) ah)))))
 (az (cst (.bl false)))
 a9)
 (av (aD 9 (aC 2 eC (aa (var 5) (aa (bin Bj (ba (ac 0) (bv (cst (.int 2))) (bv (cst (.int 42)))) (cst (.int (-1)))) ah))))
 (av (c4 (a8 aH (bn (aa (var 9) (aa (var 6) (aa (var 8) ah))))) (nmG 10)
 (av (ifS (cC (tst (aC 2 (g__Lsame 6) (aa (aC 1 ix (aa (var 10) ah)) (aa (un jG (aQ [12] (a8 aH (var 10)) (nmG 12) noT (un jG (ac 12)))) ah)))))
 (az (cst (.bl false)))
 a9)
 (ifS (cC (tst (aC 3 dB (aa (var 4) (aa (var 10) (aa (var 5) ah))))))
 (az (cst (.bl false)))
 a9)))
 (av (aD 1 (bin bK (ac 1) (bin lj (cst (.int 10)) (cst (.int 40)))))
 (av (ifS (tst (bin eqO (bin bW (ac 1) (cst (.int 4))) (cst (.int 0))))
 (az (cst (.bl true)))
 a9)
 (av (aD 11 (aC 2 fg (aa (aC 3 eB (aa (var 9) (aa (var 5) (aa (bin bK (ac 1) (cst (.int 4))) ah)))) (aa (bin bK (ac 1) (bin lj (cst (.int 10)) (cst (.int 9)))) ah))))
 (az (aC 3 dB (aa (var 4) (aa (var 11) (aa (var 5) ah))))))))))))))))))))
def pM:List D→Option D:=ci 1 15 yx
theorem BV (T:TX K mg):bu P w K mg base CX0 10 T.f_law T.fd_law ["_law_script"] (spD 1 pM) :=
 fnG (k:=9) (b:=yx) T.F_law cG rfl rfl rfl rfl fun cdv A outer s H E hr =>
   (ag (aN (i:=1) cG.nd rfl (Or.inl rfl) (aK (l7 T) (hr.mono (by decide)) rfl T.m__Lcell T.F__Lcell.kp T.b__Lcell (ae (aA 0) (ae am ai))))
   (ag (aN (i:=2) cG.nd rfl (Or.inl rfl) (aK (ki T) (hr.mono (by decide)) rfl T.m__Ltexts T.F__Ltexts.kp T.b__Ltexts (ae (aK (l7 T) (hr.mono (by decide)) rfl T.m__Lcell T.F__Lcell.kp T.b__Lcell (ae (aA 0) (ae am ai))) (ae (be (Ev.obs am) (Ev.obs (bt (ak 1) (Ev.obs am)))) (ae am ai)))))
   (ag (aN (i:=3) cG.nd rfl (Or.inl rfl) (aK (ki T) (hr.mono (by decide)) rfl T.m__Ltexts T.F__Ltexts.kp T.b__Ltexts (ae (bL (ak 1) (Ev.obs am)) (ae (be (Ev.obs am) (Ev.obs (bt (Ev.obs (bL (ak 1) (Ev.obs am))) (Ev.obs am)))) (ae am ai)))))
   (ag (aN (i:=4) cG.nd rfl (Or.inl rfl) (aK (uJ T) (hr.mono (by decide)) rfl T.m__Lplay T.F__Lplay.kp T.b__Lplay (ae (bF (ak 0) (bD am) (bD am)) (ae (aA 2) (ae (aA 3) ai)))))
   (ag (aN (i:=5) cG.nd rfl (Or.inl rfl) (aK (ny T) (hr.mono (by decide)) rfl T.m__Lwindows T.F__Lwindows.kp T.b__Lwindows (ae (aA 4) ai)))
   (ag (aN (i:=6) cG.nd rfl (Or.inl rfl) (bN rfl T.n_tuple rfl (Ev.obs (cD (js:=[12]) (Blk.of (sc:=al jU) (N:=mR) (by decide +kernel) rfl rfl) rfl (b6 (aA 5)) bJ (fun _ _ _ _=>(aB (i:=12) cG.nd rfl (Or.inl rfl))) (fun _ _ _ _=>b4) (fun _ _ _ _=>(bN rfl T.n_tuple rfl (Ev.obs (cD (js:=[13]) (Blk.of2 (sc:=al jU) (N:=mR) (by decide +kernel) rfl rfl) rfl (b6 (aA 12)) bJ (fun _ _ _ _=>(aB (i:=13) cG.nd rfl (Or.inl rfl))) (fun _ _ _ _=>b4) (fun _ _ _ _=>(aO rfl T.n_len (ak 13)))))))))))
   (ag (cb (dC (cY (aK (gG T 6) (hr.mono (by decide)) rfl T.m__Lsame T.F__Lsame.kp T.b__Lsame (ae (aK (dS T) (hr.mono (by decide)) rfl T.m_whole_counts T.F_whole_counts.kp T.b_whole_counts (ae (aA 4) ai)) (ae (aA 6) ai)))))
   (ap (aF eO))
   aU)
   (ag (aN (i:=7) cG.nd rfl (Or.inr rfl) (be (Ev.obs am) (Ev.obs (bt (Ev.obs (bL (ak 1) (Ev.obs am))) (Ev.obs (bd hr.units (Ev.obs (bU (ae am (ae am ai)))) (Ev.obs (bt (Ev.obs (bL (ak 1) (Ev.obs am))) (Ev.obs am))) (fun _ _=>rfl)))))))
   (ag (aN (i:=8) cG.nd rfl (Or.inl rfl) (bN rfl T.n_tuple rfl (Ev.obs (cD (js:=[12]) (Blk.of (sc:=al jU) (N:=mR) (by decide +kernel) rfl rfl) rfl (b6 (aA 6)) bJ (fun _ _ _ _=>(aB (i:=12) cG.nd rfl (Or.inl rfl))) (fun _ _ _ _=>b4) (fun _ _ _ _=>(bN rfl T.n_tuple rfl (Ev.obs (cD (js:=[14]) (Blk.of2 (sc:=al jU) (N:=mR) (by decide +kernel) rfl rfl) rfl (b6 (aA 12)) bJ (fun _ _ _ _=>(aB (i:=14) cG.nd rfl (Or.inl rfl))) (fun _ _ _ _=>b4) (fun _ _ _ _=>(nO rfl rfl T.n_min rfl (ae (aA 7) (ae (aA 14) ai))))))))))))
   (ag (cb (dC (cY (aK (gG T 6) (hr.mono (by decide)) rfl T.m__Lsame T.F__Lsame.kp T.b__Lsame (ae (aK (w8 T) (hr.mono (by decide)) rfl T.m_alike T.F_alike.kp T.b_alike (ae (aA 4) (ae (aA 7) ai))) (ae (aA 8) ai)))))
   (ap (aF eO))
   aU)
   (ag (aN (i:=9) cG.nd rfl (Or.inl rfl) (aK (pd T) (hr.mono (by decide)) rfl T.m__Lcounts T.F__Lcounts.kp T.b__Lcounts (ae (aA 5) (ae (z6 (Ev.obs (bF (ak 0) (bD am) (bD am))) nN) ai))))
   (ag (cH Fp rfl (b6 (Ev.frz (bU (ae (aA 9) (ae (aA 6) (ae (aA 8) ai)))))) (aB (i:=10) cG.nd rfl (Or.inl rfl))
   (ag (cb (dC (cY (aK (gG T 6) (hr.mono (by decide)) rfl T.m__Lsame T.F__Lsame.kp T.b__Lsame (ae (aK (w6 T) (hr.mono (by decide)) rfl T.m_total T.F_total.kp T.b_total (ae (aA 10) ai)) (ae (nI rfl rfl T.n_sum rfl (Ev.obs (cD (js:=[12]) (Blk.of (sc:=al jU) (N:=mR) (by decide +kernel) rfl rfl) rfl (b6 (aA 10)) bJ (fun _ _ _ _=>(aB (i:=12) cG.nd rfl (Or.inl rfl))) (fun _ _ _ _=>b4) (fun _ _ _ _=>(nI rfl rfl T.n_sum rfl (ak 12)))))) ai)))))
   (ap (aF eO))
   aU)
   (ap (cb (dC (cY (aK (kj T) (hr.mono (by decide)) rfl T.m__Lasked T.F__Lasked.kp T.b__Lasked (ae (aA 4) (ae (aA 10) (ae (aA 5) ai))))))
   (ap (aF eO))
   aU))))
   (ag (aN (i:=1) cG.nd rfl (Or.inl rfl) (bL (ak 1) (Ev.obs (nM (Ev.obs am) (Ev.obs am)))))
   (ag (cb (gp hr.units (Ev.obs (bt (ak 1) (Ev.obs am))) (Ev.obs am))
   (ap (aF eO))
   aU)
   (ag (aN (i:=11) cG.nd rfl (Or.inl rfl) (aK (qR T) (hr.mono (by decide)) rfl T.m__Ltwice T.F__Ltwice.kp T.b__Ltwice (ae (aK (pb T) (hr.mono (by decide)) rfl T.m__Lspoilt T.F__Lspoilt.kp T.b__Lspoilt (ae (aA 9) (ae (aA 5) (ae (bL (ak 1) (Ev.obs am)) ai)))) (ae (bL (ak 1) (Ev.obs (nM (Ev.obs am) (Ev.obs am)))) ai))))
   (ap (aF (aK (kj T) (hr.mono (by decide)) rfl T.m__Lasked T.F__Lasked.kp T.b__Lasked (ae (aA 4) (ae (aA 11) (ae (aA 5) ai)))))))))))))))))))))
end
end L2.Cu.Wk
namespace L2.Cu
open PySem PySem.Spec PyProof.Rows
def stW (p:List Sp) (n:Str):Int:=((aq p).length:Int) - ((ce p n).length:Int)
theorem fO.get {p:List Sp}{m:List (Str×Int)} (h:fO p m) (n:Str):((dQ (hV m) (Sum.inr n)).getD (D.int 0))=D.int (stW p n)∧∀ (hz:True),bO ((aq p).map D.str) (some (stW p n)) none=(ce p n).map D.str:=by
 obtain ⟨k,hk1,hk2,hk3⟩:=h.win n
 have e:stW p n=(k:Int):=by unfold stW; rw [hk3,Gw]; omega
 refine ⟨?_,fun _=>?_⟩
 ·rw [e,vV]
  cases hgp:lu m n with
  | none=>rw [hgp] at hk1; simp at hk1; simp [hk1]
  | some v=>rw [hgp] at hk1; simp at hk1; simp [hk1]
 ·rw [e,yq,← List.map_drop,← hk3]
theorem wx (m:List (Str×Int)) (n:Str) (t:Int):(gV m n t).length≤m.length + 1:=by
 unfold gV; split <;> simp
theorem kI (t:Int):∀ (ns:List Str) (m:List (Str×Int)),(ns.foldl (fun m n=>gV m n t) m).length≤m.length + ns.length
 | [],m=>by simp
 | a :: r,m=>by
  refine Fa (kI t r _) ?_
  have:=wx m a t
  show (gV m a t).length + r.length≤_
  rw [EL]; omega
theorem fO.len {p:List Sp}{m:List (Str×Int)} (h:fO p m):m.length≤(aX p).length:=by
 have h3:m.length=(ded (aX p)).length:=by rw [← h.keys,EW]
 rw [h3]
 exact gH (mG _) fun x hx=>(Ai _ _).mp hx
theorem qd:∀ (p:List Sp) (t:Int) (k:Nat),k < p.length→(gu p t)[k]? = some (t + (aq (p.take k)).length)
 | [],_,k,h=>by simp at h
 | s :: p,t,0,_=>by simp [gu,aq]
 | s :: p,t,k + 1,h=>by
  rw [gu,EH,qd p (t + s.2.length) k (by simpa using h)]
  have e:(aq ((s :: p).take (k + 1))).length=s.2.length + (aq (p.take k)).length:=by simp [aq]
  rw [e]
  congr 1
  omega
theorem iK.at_:∀ {p:List Sp} (h:iK p) (k:Nat) (a b:Sp),p[k]? = some a→p[k + 1]? = some b→rW a b
 | [],_,_,_,_,h1,_=>by simp at h1
 | [x],_,k,_,_,_,h2=>by simp at h2
 | x :: y :: r,h,0,a,b,h1,h2=>by simp at h1 h2; subst h1; subst h2; exact h.1
 | x :: y :: r,h,k + 1,a,b,h1,h2=>by
  rw [EH] at h1 h2
  exact iK.at_ (p:=y :: r) h.2 k a b h1 h2
theorem vH.heard {names words:List Str}{p:List Sp} (h:vH names words p) {k:Nat} (hk:k + 1 < p.length) {n:Str} (hn:n ∈ (p[k + 1]).1):1≤(ce (p.take (k + 1)) n).length:=by
 have hk':k < p.length:=by omega
 have hap:=h.apart.at_ k p[k] p[k + 1] (EV hk') (EV hk)
 have hnn:n ∉ (p[k]).1:=fun z=>hap n z hn
 rw [iL hk',lI,if_neg hnn,Fb]
 have hw:=(h.each p[k] (Fx hk')).wne
 have:0 < (p[k]).2.length:=List.length_pos_iff.mpr hw
 omega
theorem vS {q:List Sp} (h:∀ s ∈ q,s.2.length≤5):(aq q).length≤5 * q.length:=by
 induction q with
 | nil=>simp [aq]
 | cons s q ih =>
  have h1:=ih fun x hx=>h x (E7 _ hx)
  have h2:=h s Fd
  have e:(aq (s :: q)).length=s.2.length + (aq q).length:=by simp [aq]
  rw [e,EL]; omega
theorem xf {q:List Sp} (h:∀ s ∈ q,s.1.length≤8):(aX q).length≤8 * q.length:=by
 induction q with
 | nil=>simp [aX]
 | cons s q ih =>
  have h1:=ih fun x hx=>h x (E7 _ hx)
  have h2:=h s Fd
  have e:(aX (s :: q)).length=s.1.length + (aX q).length:=by simp [aX]
  rw [e,EL]; omega
theorem ou (p:List Sp) (n:Str):ce p n <:+ aq p:=by
 have key:∀ (q:List Sp) (a w:List Str),a <:+ w→q.foldl (fun h s=>if n ∈ s.1 then [] else h ++ s.2) a <:+ w ++ aq q:=by
  intro q
  induction q with
  | nil=>intro a w h; simpa [aq] using h
  | cons s q ih =>
   intro a w h
   rw [ES,show aq (s :: q)=s.2 ++ aq q by simp [aq],← GB]
   refine ih _ _ ?_
   split
   ·exact List.nil_suffix
   ·obtain ⟨t,ht⟩:=h
    exact ⟨t,by rw [← ht,GB]⟩
 have:=key p [] [] (List.suffix_refl _)
 rw [ER] at this
 exact this
theorem mV (p:List Sp) (k:Nat):(aq p).take (aq (p.take k)).length=aq (p.take k):=by
 have e:aq p=aq (p.take k) ++ aq (p.drop k):=by
  unfold aq
  rw [← List.flatMap_append,G7]
 conv=>lhs; rw [e]
 rw [List.take_left]
theorem rF (p:List Sp):gu p 0=(List.range p.length).map fun k=>((aq (p.take k)).length:Int):=by
 refine G3 fun k=>?_
 rcases G6 k p.length with h | h
 ·rw [qd p 0 k h,Fg,Gh h,HE]; rfl
 ·rw [FB (by rw [kZ]; exact h),FB (by simpa using h)]
theorem ie {α β γ δ:Type} (f:β→γ→δ) (a:α→β) (b:α→γ):∀ l:List α,List.zipWith f (l.map a) (l.map b)=l.map fun x=>f (a x) (b x)
 | []=>rfl
 | x :: l=>by rw [EN,EN,GY,ie f a b l,EN]
theorem j_ {α:Type} (l:List α) (d:α):(List.range l.length).map (fun j=>l.getD j d)=l:=by
 refine G3 fun k=>?_
 rcases G6 k l.length with h | h
 ·rw [Fg,Gh h,EV h]
  simp [h]
 ·rw [FB h,FB (by simpa using h)]
def bY (p:List Sp) (k:Nat):List Str:=(p.getD k ([],[])).1
theorem gD {p:List Sp}{k:Nat} (h:k < p.length):bY p k=(p[k]).1:=by
 unfold bY
 rw [FA,EV h]; rfl
def wcD (p:List Sp) (k:Nat):D:=.tup ((bY p k).map fun n=>D.int ((ce (p.take k) n).length:Int))
namespace Wk
theorem Ae:g_words_in=Sh.g_words_in:=rfl
theorem yk:g_begins=Sh.g_begins:=rfl
theorem Ag:g_names_in=Sh.g_names_in:=rfl
theorem dP (p:List Sp) (hp:p.length≤1000) (hN:(aX p).length≤10000) (hW:(aq p).length≤10000):cq [aZ p]=some (.tup ((List.range p.length).map (wcD p))):=by
 refine bE ?_
 simp only [cq,b_whole_counts,af,aG,ar,ao,aD,cp,bP,cst,var,ah,bn,a8,nR,a6,EG,EI,EN,EO,EQ,ER,EL,EM,EJ,EK,on,List.replicate,reduceIte,Nat.reduceAdd,Nat.reduceSub,Nat.reduceLeDiff,br,aZ]
 refine cz cT p (fun pre E=>∃ (m:List (Str×Int)) (s4 s5 s6:Sl),E=[Sl.val (D.tup (p.map cT)),Sl.own (D.dic (hV m)),Sl.val (D.int ((aq pre).length:Int)),Sl.own (D.lst ((List.range pre.length).map (wcD p))),s4,s5,s6]∧fO pre m) rfl ⟨[],_,_,_,rfl,⟨rfl,fun n=>⟨0,rfl,FV _,rfl⟩⟩⟩ ?_ ?_
 ·rintro pre s post E hs ⟨m,s4,s5,s6,rfl,hm⟩
  have h2:=fC (p:=p) (pre:=pre ++ [s]) (post:=post) (by rw [hs]; simp)
  rw [dN,Fb] at h2
  have hpl:pre.length < p.length:=by rw [hs]; simp
  have hml:=hm.len
  have htk:p.take pre.length=pre:=by rw [hs]; simp
  have hgd:bY p pre.length=s.1:=by unfold bY; rw [hs]; simp
  have hrow:wcD p pre.length=D.tup (s.1.map fun n=>D.int ((ce pre n).length:Int)):=by unfold wcD; rw [htk,hgd]
  simp only [af,aJ,ar,un,var,a8,nmG,dj,bh,dk,aV,aQ,aH,EG,EL,EM,EJ,EK,on,EH,ES,FL,reduceIte,Nat.reduceAdd,dl,cT,b9]
  refine cA (fP (by simp; omega)) ?_
  rw [bR D.str (fun n=>D.int ((ce pre n).length:Int)) s.1 fun n hn=>?_]
  ·simp only [af,EI,bp]
   refine cA (fV (by simp; omega)) ?_
   simp only [af,ar,ao,bP,un,var,ac,a8,aH,EG,EJ,EK,on,EH,bc,nZ]
   have hlen:((aq pre).length:Int) + ((s.2.map D.str).length:Int)=((aq (pre ++ [s])).length:Int):=by rw [b_]; simp
   rw [hlen]
   refine cz D.str s.1 (fun pr E=>∃ s6,E=[Sl.val (D.tup (p.map cT)),Sl.own (D.dic (hV (pr.foldl (fun m n=>gV m n ((aq (pre ++ [s])).length:Int)) m))),Sl.val (D.int ((aq (pre ++ [s])).length:Int)),Sl.own (D.lst ((List.range pre.length).map (wcD p) ++ [D.tup (s.1.map fun n=>D.int ((ce pre n).length:Int))])),Sl.val (D.tup (s.1.map D.str)),Sl.val (D.tup (s.2.map D.str)),s6]) rfl ⟨_,rfl⟩ ?_ ?_
   ·rintro pr n po E hpr ⟨s6',rfl⟩
    simp only [af,var,nmG,EG,EJ,EK,on,EH,c3,jk]
    refine cA (fV ?_) ?_
    ·have q1:=kI ((aq (pre ++ [s])).length:Int) pr m
     have q2:pr.length≤s.1.length:=by rw [hpr]; simp
     unfold hV
     rw [EW]
     omega
    ·simp only [af]
     refine ⟨Sl.val (D.str n),?_⟩
     rw [o5,G2]; rfl
   ·rintro E ⟨s6',rfl⟩
    refine ⟨_,Sl.val (D.tup (s.1.map D.str)),Sl.val (D.tup (s.2.map D.str)),s6',?_,hm.next s⟩
    rw [Fb,FT,HA,Fs,He,hrow]
  ·obtain ⟨g1,g2⟩:=hm.get n
   refine bE ?_
   simp only [af,bin,cst,var,ac,e7,EG,EI,EJ,EK,on,EH,D.int.injEq,c3,jf,g1]
   congr 1
   unfold stW
   omega
 ·rintro E ⟨m,s4,s5,s6,rfl,hm⟩
  simp only [af,ao,ax,az,un,ac,EG,EI,on,EH,bp]
def bq (p:List Sp) (k:Nat):D:=.lst ((bY p k).map fun n=>b9 (ce (p.take k) n))
theorem qt (p:List Sp) (hp:p.length≤1000) (hN:(aX p).length≤10000) (hW:(aq p).length≤10000):eN [aZ p]=some (.lst ((List.range p.length).map (bq p))):=by
 refine bE ?_
 simp only [eN,b__Lwindows,af,aG,ar,ao,aD,cp,bP,az,var,ah,cg,bn,a8,nR,a6,EG,EI,EN,EO,EQ,ER,EL,EM,EJ,EK,on,List.replicate,reduceIte,Nat.reduceAdd,Nat.reduceSub,Nat.reduceLeDiff,br,aZ]
 refine cz cT p (fun pre E=>∃ (m:List (Str×Int)) (s4 s5 s6:Sl),E=[Sl.val (D.tup (p.map cT)),Sl.own (D.lst ((List.range pre.length).map (bq p))),Sl.val (D.tup ((aq pre).map D.str)),Sl.own (D.dic (hV m)),s4,s5,s6]∧fO pre m) rfl ⟨[],_,_,_,rfl,⟨rfl,fun n=>⟨0,rfl,FV _,rfl⟩⟩⟩ ?_ ?_
 ·rintro pre s post E hs ⟨m,s4,s5,s6,rfl,hm⟩
  have h1:=gU (p:=p) (pre:=pre ++ [s]) (post:=post) (by rw [hs]; simp)
  have h2:=fC (p:=p) (pre:=pre ++ [s]) (post:=post) (by rw [hs]; simp)
  rw [b_,Fb] at h1
  rw [dN,Fb] at h2
  have hpl:pre.length < p.length:=by rw [hs]; simp
  have hml:=hm.len
  have htk:p.take pre.length=pre:=by rw [hs]; simp
  have hgd:bY p pre.length=s.1:=by unfold bY; rw [hs]; simp
  have hrow:bq p pre.length=D.lst (s.1.map fun n=>b9 (ce pre n)):=by unfold bq; rw [htk,hgd]
  simp only [af,aJ,ar,var,a8,nmG,dj,bh,dk,aV,aQ,aH,EG,EL,EM,EJ,EK,on,EH,ES,FL,reduceIte,Nat.reduceAdd,dl,cT,b9]
  refine cA (fP (by simp; omega)) ?_
  rw [bR D.str (fun n=>D.tup ((ce pre n).map D.str)) s.1 fun n hn=>?_]
  ·simp only [af,EI]
   refine cA (fV (by simp; omega)) ?_
   simp only [af,bS,ar,ao,aD,bP,bin,var,ac,a8,aH,EG,EJ,EK,on,EH]
   rw [yC (by simp; omega)]
   simp only [af]
   refine cz D.str s.1 (fun pr E=>∃ s6,E=[Sl.val (D.tup (p.map cT)),Sl.own (D.lst ((List.range pre.length).map (bq p) ++ [D.lst (s.1.map fun n=>D.tup ((ce pre n).map D.str))])),Sl.val (D.tup ((aq pre).map D.str ++ s.2.map D.str)),Sl.own (D.dic (hV (pr.foldl (fun m n=>gV m n ((aq (pre ++ [s])).length:Int)) m))),Sl.val (D.tup (s.1.map D.str)),Sl.val (D.tup (s.2.map D.str)),s6]) rfl ⟨_,rfl⟩ ?_ ?_
   ·rintro pr n po E hpr ⟨s6',rfl⟩
    have hlen:((((aq pre).map D.str ++ s.2.map D.str).length:Nat):Int)=((aq (pre ++ [s])).length:Int):=by rw [b_]; simp
    simp only [af,un,var,ac,nmG,EG,EJ,EK,on,EH,c3,bc,jk,hlen]
    refine cA (fV ?_) ?_
    ·have q1:=kI ((aq (pre ++ [s])).length:Int) pr m
     have q2:pr.length≤s.1.length:=by rw [hpr]; simp
     unfold hV
     rw [EW]
     omega
    ·simp only [af]
     refine ⟨Sl.val (D.str n),?_⟩
     rw [o5,G2]; rfl
   ·rintro E ⟨s6',rfl⟩
    refine ⟨_,Sl.val (D.tup (s.1.map D.str)),Sl.val (D.tup (s.2.map D.str)),s6',?_,hm.next s⟩
    rw [Fb,FT,HA,Fs,He,hrow,b_,Fs]
    rfl
  ·obtain ⟨g1,g2⟩:=hm.get n
   refine bE ?_
   simp only [af,cst,var,ac,noP,bv,ba,EG,EI,EJ,EK,on,EH,eJ,c3,jf,g1,g2 trivial]
 ·rintro E ⟨m,s4,s5,s6,rfl,hm⟩
  simp only [fzE,af,ao,ax,EI,EJ,EK,on,EH]
end Wk
abbrev CS:=List (Str×Nat)×List Str
def plain (s:CS):Sp:=(s.1.map (·.1),s.2)
def ay (q:List CS):List Sp:=q.map plain
def gq (s:CS):D:=.tup (s.1.map fun z=>.int (z.2:Int))
def hY (q:List CS):D:=.tup (q.map gq)
def yt (p:List Sp) (z:Str×Nat):List Str:=(ce p z.1).drop ((ce p z.1).length - z.2)
def yg (pre:List CS) (s:CS) (z:Str×Nat):D:=.tup [b9 (yt (ay pre) z),b9 (plain s).1,b9 s.2]
def wn (pre:List CS) (s:CS):List (Str×D):=s.1.map fun z=>(z.1,yg pre s z)
def RA:List CS→List CS→List (Str×D)
 | _,[]=>[]
 | pre,s :: r=>wn pre s ++ RA (pre ++ [s]) r
def RR (q:List CS):List (Str×D):=RA [] q
theorem tX:∀ (r pre:List CS) (s:CS),RA pre (r ++ [s])=RA pre r ++ wn (pre ++ r) s
 | [],pre,s=>by simp [RA]
 | x :: r,pre,s=>by simp [RA,tX r,GB]
theorem Az (q:List CS) (s:CS):RR (q ++ [s])=RR q ++ wn q s:=by unfold RR; rw [tX]; simp
def eE (R:List (Str×D)) (n:Str):List D:=(R.filter fun x=>decide (x.1=n)).map (·.2)
theorem qc (R:List (Str×D)) (n:Str) (d:D):eE (R ++ [(n,d)])=fun x=>if x=n then eE R x ++ [d] else eE R x:=by
 funext x
 unfold eE
 rw [List.filter_append]
 by_cases e:x=n
 ·subst e
  simp
 ·rw [if_neg e,List.filter_cons_of_neg (by simpa using fun z=>e z.symm)]
  simp
theorem rE (R:List (Str×D)) (n:Str):(eE R n).length≤R.length:=by
 unfold eE
 rw [EW]
 exact HD _ _
theorem qg:∀ (q pre:List CS),(RA pre q).map (·.1)=aX (ay q)
 | [],_=>rfl
 | s :: q,pre=>by
  show (wn pre s ++ RA (pre ++ [s]) q).map (·.1)=_
  rw [Fs,qg q]
  unfold wn ay aX
  rw [Fm,EN,List.flatMap_cons]
  rfl
theorem yE (q:List CS):(RR q).map (·.1)=aX (ay q):=qg q []
def gA (q:List CS):Prop:=∀ pre s post,q=pre ++ s :: post→∀ z ∈ s.1,z.2≤(ce (ay pre) z.1).length∧(ce (ay pre) z.1 ≠ []→1≤z.2)
theorem ke (a b:List CS):ay (a ++ b)=ay a ++ ay b:=Fs
theorem pV (q:List CS):aZ (ay q)=.tup (q.map fun s=>cT (plain s)):=by
 unfold aZ ay
 rw [Fm]; rfl
theorem ue {t i:Nat}{G:DE→Dm→Option Out}{E:DE}{d:D}{P:Out→Prop} (hE:di E) (h:∀ a,wp (G (E.set i (eh a)) []) fun r=>∃ E',r=.nx E'∧E'[t]? = some (.own d)) (k:P (.nx (oJ t d))):wp (i4 t i G E) P:=by
 have he:yH t i G E d:=⟨hE,fun a=>by
  obtain ⟨r,e,E',rfl,h2⟩:=dy.mp (h a)
  exact ⟨E',e,h2⟩⟩
 rw [vg he]
 exact k
theorem oM {a b:List Str} (h:a <:+ b) {m:Nat} (hm:m≤a.length):b.drop (b.length - m)=a.drop (a.length - m):=by
 obtain ⟨c,rfl⟩:=h
 rw [Fb,List.drop_append]
 have:c.drop (c.length + a.length - m)=[]:=GZ (by omega)
 rw [this,ER]
 congr 1
 omega
namespace Wk
def eA:D→Nat→Bool
 | .int i,n=>decide ((if (n:Int) < 1 then (n:Int) else 1)≤i) && decide (i≤(n:Int))
 | _,_=>false
def d9:D→List Nat→Bool
 | .tup xs,ns=>decide (xs.length=ns.length) && (List.zipWith eA xs ns).all id
 | _,_=>false
def wr:List D→List (List Nat)→Nat→Option Nat
 | [],[],_=>none
 | _ :: _,[],k=>some k
 | [],_ :: _,k=>some k
 | r :: rs,s :: ss,k=>if d9 r s=true then wr rs ss (k + 1) else some k
def iR:Option Nat→D
 | none=>.non
 | some k=>.int (k:Int)
def ck (ns:List Nat):D:=.tup (ns.map fun n:Nat=>.int (n:Int))
def SmR (d:D):Prop:=∀ xs,d=.tup xs→xs.length≤1000
theorem pJ (d:D) (n:Nat):dA [d,.int (n:Int)]=some (.bl (eA d n)):=by
 refine bE ?_
 cases d with
 | int i =>
  simp only [dA,b_is_count,fK,b_is_whole,eA,af,aJ,bS,aG,ax,az,iF,cst,var,ac,asB,gv,lr,aC,aa,ah,isF,nC,tyN,EG,EI,EN,EO,EQ,ER,EL,EM,on,EH,List.replicate,reduceIte,Nat.reduceAdd,Nat.reduceSub,FO,cP,String.reduceBEq,Fu,Fv,GV,Fl,eY,cW]
  by_cases h:(if (n:Int) < 1 then (n:Int) else 1)≤i
  ·rw [if_pos (Fj h),Fj h,GU,af]
  ·rw [if_neg (by simpa using h),Fc h,Gx,af]
 | _=>simp only [dA,b_is_count,fK,b_is_whole,eA,af,aJ,bS,aG,ax,az,iF,cst,var,ac,asB,gv,lr,aC,aa,ah,isF,tyN,EG,EI,EN,EO,EQ,ER,EL,EM,on,EH,List.replicate,reduceIte,Nat.reduceAdd,Nat.reduceSub,Fz,FO,Ff,cP,String.reduceBEq,Fu,G9,Fv,GV,Fl,Bool.or_self,eY,cW]
theorem lE:∀ (xs:List D) (ns:List Nat),List.zipWith (fun a b=>D.tup [a,b]) xs (ns.map fun n:Nat=>D.int (n:Int))=(xs.zip ns).map fun z=>D.tup [z.1,.int (z.2:Int)]
 | [],_=>by simp
 | _ :: _,[]=>by simp
 | x :: xs,n :: ns=>by rw [EN,GY,lE xs ns,List.zip_cons_cons,EN]
theorem rY:∀ (xs:List D) (ns:List Nat),((xs.zip ns).map fun z=>eA z.1 z.2)=List.zipWith eA xs ns
 | [],_=>by simp
 | _ :: _,[]=>by simp
 | x :: xs,n :: ns=>by rw [List.zip_cons_cons,EN,rY xs ns,GY]
theorem k8 (d:D) (ns:List Nat) (hd:SmR d) (hn:ns.length≤1000):cS [d,ck ns]=some (.bl (d9 d ns)):=by
 refine bE ?_
 cases d with
 | tup xs =>
  have hx:=hd xs rfl
  simp only [cS,b_are_counts,ck,af,aG,ar,aT,bin,un,ac,tst,asB,cC,orT,isF,tyN,EG,EI,EN,EO,EQ,ER,EL,EM,on,EH,List.replicate,reduceIte,Nat.reduceAdd,Nat.reduceSub,Fz,Ff,cP,String.reduceBEq,Fu,Fv,Fl,eM,bc,EW]
  by_cases h:xs.length=ns.length
  ·have hne:decide ((xs.length:Int)=(ns.length:Int))=true:=Fj (by omega)
   have hc:∀ E:DE,E.length=4→cc (dj 2 (bh (nmG 2) (bh (nmG 3) dk))) noT (aC 2 dA (aa (var 2) (aa (var 3) ah))) E ((xs.zip ns).map fun z=>D.tup [z.1,.int (z.2:Int)])=some ((xs.zip ns).map fun z=>D.bl (eA z.1 z.2)):=fun E hE=>by
    obtain ⟨e0,e1,e2,e3,rfl⟩:∃ e0 e1 e2 e3,E=[e0,e1,e2,e3]:=by
     match E,hE with
     | [a,b,c,d],_=>exact ⟨a,b,c,d,rfl⟩
    refine i6 _ _ _ fun z hz=>?_
    simp only [af,var,aC,aa,ah,nmG,dj,bh,dk,noT,EG,EI,EL,EM,EJ,EK,on,EH,reduceIte,Nat.reduceAdd,true_and,GU,pJ]
   simp only [hne,af,aJ,bS,ao,ax,a7,az,a9,un,var,aa,ah,aV,aQ,lD,a6,EG,EI,EJ,EK,on,EH,ES,FL,Fz,t_,vJ,lE]
   refine cA (fP (by simp; omega)) ?_
   rw [hc _ rfl]
   simp only [af,EI,G0,GU,iG (fun z:D×Nat=>eA z.1 z.2),d9,rY,h]
  ·have hne:decide ((xs.length:Int)=(ns.length:Int))=false:=Fc (by omega)
   simp only [hne,af,a_,ax,aY,az,cst,EI,FO,Gx,d9,Fc h]
 | _=>simp only [cS,b_are_counts,ck,d9,af,aG,ar,a_,ax,aT,aY,az,bin,un,cst,ac,tst,asB,cC,orT,isF,tyN,EG,EI,EN,EO,EQ,ER,EL,EM,on,EH,List.replicate,reduceIte,Nat.reduceAdd,Nat.reduceSub,FO,cP,String.reduceBEq,Fv,Fl,eM,bZ,bc,gj,ip]
theorem v8 {α:Type}{q:List α}{k:Nat} (h:k < q.length):q=q.take k ++ q[k] :: q.drop (k + 1):=by
 rw [← FM h,G7]
theorem rn (n:Nat) (g:Nat→D):fS ((List.range n).map g) 0=(List.range n).map fun i:Nat=>D.tup [.int (i:Int),g i]:=by
 refine G3 fun i=>?_
 rw [i0,Fg,Fg]
 by_cases h:i < n
 ·rw [Gh h]
  simp
 ·rw [FB (by simpa using h)]
  rfl
end Wk
namespace Wk
def szK (p:List Sp) (k:Nat):List Nat:=(bY p k).map fun n=>(ce (p.take k) n).length
def szs (p:List Sp):List (List Nat):=(List.range p.length).map (szK p)
theorem vT (p:List Sp) (k:Nat):wcD p k=ck (szK p k):=by
 unfold wcD ck szK
 rw [Fm]; rfl
theorem gC (p:List Sp):(szs p).length=p.length:=by unfold szs; rw [EW,Fo]
theorem v6 {p:List Sp}{k:Nat} (h:k < p.length):(szs p).drop k=szK p k :: (szs p).drop (k + 1):=by
 have h1:k < (szs p).length:=by rw [gC]; exact h
 rw [FM h1]
 congr 1
 simp [szs]
theorem r_ {p:List Sp}{rows:List D}{k:Nat} (hk:k < p.length) (hr:k < rows.length):wr (rows.drop k) ((szs p).drop k) k=if d9 rows[k] (szK p k)=true then wr (rows.drop (k + 1)) ((szs p).drop (k + 1)) (k + 1) else some k:=by
 rw [v6 hk,FM hr]; rfl
theorem oo {p:List Sp}{rows:List D} (hk:rows.length < p.length):wr (rows.drop rows.length) ((szs p).drop rows.length) rows.length=some rows.length:=by
 rw [v6 hk,G_]; rfl
theorem vQ {p:List Sp}{rows:List D} (h:p.length≤rows.length):wr (rows.drop p.length) ((szs p).drop p.length) p.length=if rows.length=p.length then none else some p.length:=by
 rw [List.drop_of_length_le (Hz (gC p))]
 by_cases e:rows.length=p.length
 ·rw [if_pos e,List.drop_of_length_le (Hz e)]; rfl
 ·rw [if_neg e,FM (by omega)]; rfl
def wrD (p:List Sp):D→D
 | .tup rows=>iR (wr rows (szs p) 0)
 | _=>.int (p.length:Int)
structure SmC (d:D):Prop where
 len:∀ rows,d=.tup rows→rows.length≤1000
 row:∀ rows,d=.tup rows→∀ r ∈ rows,SmR r
structure oj (p:List Sp):Prop where
 len:p.length≤1000
 row:∀ s ∈ p,s.1.length≤1000
 nms:(aX p).length≤4000
 wds:(aq p).length≤10000
 fst:∀ n ∈ szK p 0,n=0
 nxt:∀ k,0 < k→k < p.length→∀ n ∈ szK p k,1≤n
theorem oj.sz {p:List Sp} (h:oj p) (k:Nat):(szK p k).length≤1000:=by
 unfold szK
 rw [EW]
 by_cases hk:k < p.length
 ·rw [gD hk]; exact h.row _ (Fx hk)
 ·unfold bY
  rw [FA,FB (by omega)]; exact FV _
theorem qf (p:List Sp) (hp:oj p) (d:D) (hd:SmC d):cj [aZ p,d]=some (wrD p d):=by
 have hwc:=dP p hp.len (by have:=hp.nms; omega) hp.wds
 refine bE ?_
 cases d with
 | tup rows =>
  have hl:=hd.len rows rfl
  have he:tD [D.tup ((List.range p.length).map (wcD p))]=some ((List.range p.length).map fun i:Nat=>D.tup [.int (i:Int),wcD p i]):=by
   show some (fS _ 0)=_
   rw [rn]
  simp only [cj,b_amiss_at,af,aG,ar,ao,aT,a7,bP,a9,var,ac,tst,asB,cC,aC,aa,ah,isF,tyN,EG,EI,EN,EO,EQ,ER,EL,EM,on,EH,List.replicate,reduceIte,Nat.reduceAdd,Nat.reduceSub,Fz,cP,String.reduceBEq,Fu,Fv,Fl,tz,hwc,he,wrD]
  refine ig (fun i:Nat=>D.tup [.int (i:Int),wcD p i]) (List.range p.length) (fun pre E=>(∃ s2 s3,E=[Sl.val (aZ p),Sl.val (D.tup rows),s2,s3])∧pre.length≤rows.length∧wr rows (szs p) 0=wr (rows.drop pre.length) ((szs p).drop pre.length) pre.length) rfl ⟨⟨_,_,rfl⟩,FV _,rfl⟩ ?_ ?_
  ·rintro pre k post E hs ⟨⟨s2,s3,rfl⟩,h1,h2⟩
   obtain ⟨hk1,hk2⟩:=gb hs
   subst hk1
   by_cases hlt:pre.length < rows.length
   ·have hne:decide ((pre.length:Int)=(rows.length:Int))=false:=Fc (by omega)
    have hix:atI rows (pre.length:Int)=some rows[pre.length]:=by rw [cu,EV hlt]
    have hac:cS [rows[pre.length],wcD p pre.length]=some (.bl (d9 rows[pre.length] (szK p pre.length))):=by
     rw [vT]
     exact k8 _ _ (hd.row rows rfl _ (Fx hlt)) (hp.sz _)
    rw [r_ hk2 hlt] at h2
    simp only [af,aJ,bS,ao,a_,ax,aT,az,bin,un,cst,var,ac,tst,asB,cC,orT,ifV,aC,aa,ah,nmG,dj,bh,dk,EG,EI,EL,EM,EJ,EK,on,EH,reduceIte,Nat.reduceAdd,Ff,cK,cR,bc,hne,hix,hac]
    cases hro:d9 rows[pre.length] (szK p pre.length) with
    | true =>
     rw [if_pos hro] at h2
     simp only [af,a7,a9,Fz]
     exact ⟨⟨_,_,rfl⟩,by simp; omega,by simpa using h2⟩
    | false =>
     rw [if_neg (by rw [hro]; decide)] at h2
     simp only [af,aY,az,var,EI,on,EH,FO,h2,iR]
   ·have e:rows.length=pre.length:=by omega
    have hne:decide ((pre.length:Int)=(rows.length:Int))=true:=Fj (by omega)
    rw [← e,oo (by omega)] at h2
    simp only [af,aJ,bS,ao,a_,ax,aT,aY,az,bin,un,cst,var,ac,tst,asB,cC,orT,ifV,aC,aa,ah,nmG,dj,bh,dk,EG,EI,EL,EM,EJ,EK,on,EH,reduceIte,Nat.reduceAdd,G0,cK,cR,bc,hne,h2,iR,e]
  ·rintro E ⟨⟨s2,s3,rfl⟩,h1,h2⟩
   rw [Fo] at h1 h2
   rw [vQ h1] at h2
   simp only [bS,ao,ax,az,bin,un,cst,ac,tst,asB,ifV,EG,on,EH,cK,bc,aZ,EW]
   by_cases e:rows.length=p.length
   ·rw [if_pos e] at h2
    have:decide ((rows.length:Int)=(p.length:Int))=true:=Fj (by omega)
    simp only [af,reduceIte,this,h2,iR]
   ·rw [if_neg e] at h2
    have:decide ((rows.length:Int)=(p.length:Int))=false:=Fc (by omega)
    simp only [af,reduceIte,Ff,this,h2,iR]
 | _=>simp only [cj,b_amiss_at,aZ,wrD,af,aG,ar,a_,ax,aT,aY,az,un,ac,tst,asB,cC,isF,tyN,EG,EI,EN,EO,EQ,ER,EL,EM,on,EH,List.replicate,Nat.reduceAdd,Nat.reduceSub,FO,cP,String.reduceBEq,Fv,Fl,bc,EW]
theorem lZ (xs:List D) (ns:List Nat) (h:xs.length=ns.length):d9 (.tup xs) ns=true ↔ ∀ (j:Nat) (h1:j < xs.length) (h2:j < ns.length),eA xs[j] ns[j]=true:=by
 show (decide (xs.length=ns.length) && (List.zipWith eA xs ns).all id)=true ↔ _
 rw [Fj h,GU,GI]
 constructor
 ·intro q j h1 h2
  exact q _ (List.mem_iff_getElem.mpr ⟨j,by simp; omega,List.getElem_zipWith⟩)
 ·intro q x hx
  obtain ⟨j,hj,rfl⟩:=List.mem_iff_getElem.mp hx
  rw [List.length_zipWith] at hj
  rw [List.getElem_zipWith]
  exact q j (by omega) (by omega)
theorem B3 {p:List Sp} (hp:oj p) {k j:Nat} (hk:k < p.length) (hj:j < (szK p k).length):(if ((szK p k)[j]:Int) < 1 then ((szK p k)[j]:Int) else 1)=(if (decide ((k:Int) > 0))=true then 1 else 0):=by
 by_cases h0:k=0
 ·subst h0
  have:=hp.fst _ (Fx hj)
  rw [this]; rfl
 ·have:=hp.nxt k (by omega) hk _ (Fx hj)
  rw [if_neg (by omega),if_pos (Fj (by omega))]
theorem ii {p:List Sp}{k:Nat}:bq p k=.lst ((bY p k).map fun n=>b9 (ce (p.take k) n)):=rfl
theorem wo (n:Nat) (h:n≤4000000):jb [D.int (n:Int)]=some ((List.range n).map fun i:Nat=>D.int (i:Int)):=by
 rw [db (by omega) (by omega),Gd]
 unfold dX
 simp only [HE]
theorem vP (p:List Sp) (hp:oj p) (d:D) (hd:SmC d):ff [d,.lst ((List.range p.length).map (bq p))]=some (wrD p d):=by
 refine bE ?_
 cases d with
 | tup rows =>
  have hl:=hd.len rows rfl
  have hpl:=hp.len
  simp only [ff,b__Lwrong,af,aG,ar,ao,aT,a7,bP,a9,un,ac,tst,asB,cC,aa,ah,isF,tyN,EG,EI,EN,EO,EQ,ER,EL,EM,on,EH,List.replicate,Nat.reduceAdd,Nat.reduceSub,Fz,cP,String.reduceBEq,Fu,Fv,Fl,bZ,EW,Fo,eS,wo p.length (by omega),wrD]
  refine ig (fun i:Nat=>D.int (i:Int)) (List.range p.length) (fun pre E=>(∃ s2 s3 s4,E=[Sl.val (D.tup rows),Sl.val (.lst ((List.range p.length).map (bq p))),s2,s3,s4])∧pre.length≤rows.length∧wr rows (szs p) 0=wr (rows.drop pre.length) ((szs p).drop pre.length) pre.length) rfl ⟨⟨_,_,_,rfl⟩,FV _,rfl⟩ ?_ ?_
  ·rintro pre k post E hs ⟨⟨s2,s3,s4,rfl⟩,h1,h2⟩
   obtain ⟨hk1,hk2⟩:=gb hs
   subst hk1
   have hwi:atI ((List.range p.length).map (bq p)) (pre.length:Int)=some (bq p pre.length):=by
    rw [cu,Fg,Gh hk2]; rfl
   have hsl:(bY p pre.length).length=(szK p pre.length).length:=by unfold szK; rw [EW]
   by_cases hlt:pre.length < rows.length
   ·have hge:decide ((rows.length:Int)≤(pre.length:Int))=false:=Fc (by omega)
    have hix:atI rows (pre.length:Int)=some rows[pre.length]:=by rw [cu,EV hlt]
    rw [r_ hk2 hlt] at h2
    have hrw:=hd.row rows rfl _ (Fx hlt)
    generalize hr0:rows[pre.length]=r at hix h2 hrw
    cases r with
    | tup xs =>
     have hxl:=hrw xs rfl
     simp only [af,aJ,ar,ao,a_,ax,aT,bin,un,ac,tst,asB,cC,orT,nmG,isF,iw,tyN,EG,EI,EJ,EK,on,EH,reduceIte,Fz,Ff,cP,String.reduceBEq,Fu,Fv,Fl,eM,b5,cR,bZ,bc,hge,hix,hwi,ii,EW]
     by_cases hle:xs.length=(bY p pre.length).length
     ·have hne:decide ((xs.length:Int)=((bY p pre.length).length:Int))=true:=Fj (by omega)
      have h9:(bY p pre.length).length≤4000000:=by omega
      have hnk:xs.length=(szK p pre.length).length:=by omega
      have hsp:=lZ xs (szK p pre.length) hnk
      simp only [af,ao,a7,bP,a9,bin,un,ac,aa,ah,cN,EG,EI,on,EH,Fz,b5,bZ,hne,hwi,ii,EW,wo _ h9]
      refine ig (fun i:Nat=>D.int (i:Int)) (List.range (bY p pre.length).length) (fun pr E=>(∃ s3 s4,E=[Sl.val (D.tup rows),Sl.val (.lst ((List.range p.length).map (bq p))),Sl.val (.int (pre.length:Int)),s3,s4])∧∀ (j:Nat) (h1:j < xs.length) (h2:j < (szK p pre.length).length),j < pr.length→eA xs[j] (szK p pre.length)[j]=true) rfl ⟨⟨_,_,rfl⟩,fun j _ _ z=>by cases z⟩ ?_ ?_
      ·rintro pr j po E hpr ⟨⟨s3,s4,rfl⟩,hall⟩
       obtain ⟨hj1,hj2⟩:=gb hpr
       subst hj1
       have hxj:atI xs (pr.length:Int)=some (xs[pr.length]'(by omega)):=by rw [cu,EV]
       have hwj:atI ((bY p pre.length).map fun n=>D.tup ((ce (p.take pre.length) n).map D.str)) (pr.length:Int)=some (D.tup ((ce (p.take pre.length) ((bY p pre.length)[pr.length])).map D.str)):=by rw [cu,Fg,EV hj2]; rfl
       have hsz:(szK p pre.length)[pr.length]'(by omega)=(ce (p.take pre.length) ((bY p pre.length)[pr.length])).length:=by simp [szK]
       have hlow:=B3 hp hk2 (j:=pr.length) (by omega)
       rw [hsz] at hlow
       simp only [af,aJ,bS,ar,ao,aD,aT,bin,ac,tst,asB,cC,orT,nmG,isF,tyN,EG,EI,EJ,EK,on,EH,cP,String.reduceBEq,Fu,Fv,GV,Fl,cR,hix,hxj,hwi,ii,hwj,b9,EW]
       have hno:eA (xs[pr.length]'(by omega)) ((szK p pre.length)[pr.length]'(by omega))=false→wr rows (szs p) 0=some pre.length:=fun z=>by
        rw [h2,if_neg]
        intro q
        have:=hsp.mp q pr.length (by omega) (by omega)
        rw [z] at this
        cases this
       generalize hx0:(xs[pr.length]'(by omega))=x at hno
       cases x with
       | int i =>
        simp only [af,ao,aT,a7,a9,bin,un,cst,ac,tst,asB,orT,fF,jx,EG,on,EH,reduceIte,Fz,Ff,String.reduceBEq,Fu,Fv,b5,bc,pL,hwi,ii,b9,hwj,EW]
        have hcv:eA (.int i) ((szK p pre.length)[pr.length]'(by omega))=(decide ((if (decide ((pre.length:Int) > 0))=true then (1:Int) else 0)≤i) && decide (i≤((ce (p.take pre.length) ((bY p pre.length)[pr.length])).length:Int))):=by
         show (decide ((if (_:Int) < 1 then _ else _)≤i) && _)=_
         rw [hsz,hlow]
        generalize hL:(if (decide (0 < (pre.length:Int)))=true then (1:Int) else 0)=L
        have hcv:eA (.int i) ((szK p pre.length)[pr.length]'(by omega))=(decide (L≤i) && decide (i≤((ce (p.take pre.length) ((bY p pre.length)[pr.length])).length:Int))):=by rw [hcv,← hL]
        by_cases ha:i < L
        ·rw [Fj ha]
         simp only [af,aY,az,var,EI,on,EH,reduceIte]
         rw [hno (by rw [hcv,Fc (by omega),Gx])]; rfl
        ·rw [Fc ha]
         by_cases hb:i≤((ce (p.take pre.length) ((bY p pre.length)[pr.length])).length:Int)
         ·have hgt:decide (((ce (p.take pre.length) ((bY p pre.length)[pr.length])).length:Int) < i)=false:=Fc (by omega)
          simp only [af,a7,a9,reduceIte,Ff,hgt]
          refine ⟨⟨_,_,rfl⟩,fun j g1 g2 g3=>?_⟩
          rw [Fb,FT] at g3
          by_cases hj:j=pr.length
          ·subst hj
           rw [hx0,hcv,Fj (by omega),Fj hb]; rfl
          ·exact hall j g1 g2 (by omega)
         ·have hgt:decide (((ce (p.take pre.length) ((bY p pre.length)[pr.length])).length:Int) < i)=true:=Fj (by omega)
          simp only [af,aY,az,var,EI,on,EH,reduceIte,Ff,hgt]
          rw [hno (by rw [hcv,Fc hb,Fl])]; rfl
       | _ =>
        simp only [af,a_,aY,az,var,EI,on,EH,reduceIte,Fz,FO,Ff,String.reduceBEq,Fu,G9,Bool.or_self]
        rw [hno rfl]; rfl
      ·rintro E ⟨⟨s3,s4,rfl⟩,hall⟩
       rw [if_pos (hsp.mpr fun j h1 h2=>hall j h1 h2 (by rw [Fo]; omega))] at h2
       exact ⟨⟨_,_,_,rfl⟩,by simp; omega,by simpa using h2⟩
     ·have hne:decide ((xs.length:Int)=((bY p pre.length).length:Int))=false:=Fc (by omega)
      have hro:d9 (.tup xs) (szK p pre.length)=false:=by
       show (decide (xs.length=(szK p pre.length).length) && _)=false
       rw [Fc (by omega),Gx]
      rw [if_neg (by rw [hro]; decide)] at h2
      simp only [af,a_,aY,az,var,EI,on,EH,FO,hne,h2,iR]
    | _ =>
     rw [if_neg (by simp [d9])] at h2
     simp only [af,aJ,ar,ao,a_,ax,aT,aY,az,bin,un,var,ac,tst,asB,cC,orT,nmG,isF,iw,tyN,EG,EI,EJ,EK,on,EH,reduceIte,FO,Ff,cP,String.reduceBEq,Fv,Fl,b5,cR,bZ,bc,gj,ip,hge,hix,h2,iR]
   ·have e:rows.length=pre.length:=by omega
    have hge:decide ((pre.length:Int)≤(pre.length:Int))=true:=Fj (Int.le_refl _)
    rw [← e,oo (by omega)] at h2
    simp only [af,aJ,ar,ao,a_,ax,aT,aY,az,bin,un,var,ac,tst,asB,cC,orT,nmG,isF,iw,tyN,EG,EI,EJ,EK,on,EH,reduceIte,cP,String.reduceBEq,Fv,Fl,b5,cR,bc,e,hge,h2,iR]
  ·rintro E ⟨⟨s2,s3,s4,rfl⟩,h1,h2⟩
   rw [Fo] at h1 h2
   rw [vQ h1] at h2
   simp only [af,ar,ao,aT,bin,un,ac,tst,asB,jx,EG,on,EH,bZ,bc,EW,Fo]
   by_cases e:rows.length=p.length
   ·rw [if_pos e] at h2
    have:decide ((p.length:Int) < (rows.length:Int))=false:=Fc (by omega)
    simp only [af,ao,ax,a7,az,a9,cst,EI,this,h2,iR]
   ·rw [if_neg e] at h2
    have:decide ((p.length:Int) < (rows.length:Int))=true:=Fj (by omega)
    simp only [af,a_,ax,aY,az,un,ac,EG,EI,on,EH,bZ,this,h2,iR,EW,Fo]
 | _=>simp only [ff,b__Lwrong,wrD,af,aG,ar,a_,ax,aT,aY,az,un,ac,tst,asB,cC,isF,tyN,EG,EI,EN,EO,EQ,ER,EL,EM,on,EH,List.replicate,Nat.reduceAdd,Nat.reduceSub,FO,cP,String.reduceBEq,Fv,Fl,bZ,EW,Fo]
end Wk
def atC (q:List CS) (k:Nat):CS:=q.getD k ([],[])
theorem xm {β:Type} (f:CS→β) (q:List CS):q.map f=(List.range q.length).map fun k=>f (atC q k):=by
 have:=FZ (List.map f) (j_ q ([],[]))
 rw [Fm] at this
 exact this.symm
theorem lF {α:Type} (a b c:α→D):∀ l:List α,du (l.map a) (l.map b) (l.map c)=l.map fun x=>D.tup [a x,b x,c x]
 | []=>rfl
 | x :: l=>by rw [EN,EN,EN,du,lF a b c l]; rfl
theorem yy {q:List CS}{k:Nat} (h:k < q.length):atC q k=q[k]:=by
 unfold atC; rw [FA,EV h]; rfl
theorem CJ {n:Str}{ns:List Str}{f:Str→List D} (h:n ∉ ns):((bm ns f).any fun q=>decide (q.1=(Sum.inr n:Key)))=false:=by
 rw [Hn]
 intro q hq e
 obtain ⟨y,hy,rfl⟩:=List.mem_map.mp hq
 exact h (by rw [← jw (FH e)]; exact hy)
theorem uP {q pre post:List CS}{s:CS} (h:q=pre ++ s :: post) {z:Str×Nat} (hz:z ∈ s.1):z.1 ∈ aX (ay q):=by
 unfold aX
 refine List.mem_flatMap.mpr ⟨plain s,?_,List.mem_map.mpr ⟨z,hz,rfl⟩⟩
 rw [h]
 exact List.mem_map.mpr ⟨s,by simp,rfl⟩
theorem CQ (q:List CS):(RR q).length=(aX (ay q)).length:=by rw [← yE,EW]
theorem sQ {x:Str}{l:List Str}:x ∈ ded l ↔ x ∈ l:=by
 have key:∀ (l acc:List Str),x ∈ l.foldl (fun acc x=>if x ∈ acc then acc else acc ++ [x]) acc ↔ x ∈ acc∨x ∈ l:=by
  intro l
  induction l with
  | nil=>intro acc; simp
  | cons y l ih =>
   intro acc
   rw [ES,ih]
   by_cases hy:y ∈ acc
   ·rw [if_pos hy]
    constructor
    ·rintro (h | h)
     ·exact .inl h
     ·exact .inr (E7 _ h)
    ·rintro (h | h)
     ·exact .inl h
     ·rcases List.mem_cons.mp h with rfl | h
      ·exact .inl hy
      ·exact .inr h
   ·rw [if_neg hy]
    simp [or_assoc]
 have:=key l []
 simpa [ded] using this
theorem l_ (l:List Str):(ded l).Nodup:=by
 have key:∀ (l acc:List Str),acc.Nodup→(l.foldl (fun acc x=>if x ∈ acc then acc else acc ++ [x]) acc).Nodup:=by
  intro l
  induction l with
  | nil=>intro acc h; exact h
  | cons y l ih =>
   intro acc h
   rw [ES]
   refine ih _ ?_
   split
   ·exact h
   ·rename_i hy
    exact List.nodup_append.mpr ⟨h,by simp,fun a ha b hb e=>hy (by rw [← List.mem_singleton.mp hb,← e]; exact ha)⟩
 exact key l [] (by simp)
def fH (q:List CS):List Str:=cZ (ded (aX (ay q)))
theorem B5 {q:List CS}{n:Str}:n ∈ fH q ↔ n ∈ aX (ay q):=by
 unfold fH
 rw [(cB _).mem_iff,sQ]
theorem kx (q:List CS):(fH q).Nodup:=(cB _).nodup_iff.mpr (l_ _)
def bkD (q:List CS) (n:Str):D:=.tup (eE (RR q) n)
theorem wz {n:Str}{d:D}{ns:List Str}{f:Str→D} (h:n ∉ ns):nh (bkL ns f) (.inr n) d=bkL ns f ++ [(.inr n,d)]:=by
 unfold nh
 have:((bkL ns f).any fun q=>decide (q.1=(Sum.inr n:Key)))=false:=by
  rw [Hn]
  intro q hq e
  obtain ⟨y,hy,rfl⟩:=List.mem_map.mp hq
  exact h (by rw [← jw (FH e)]; exact hy)
 rw [if_neg (by rw [this]; simp)]
theorem Aq (ns:List Str) (f:Str→D):kC (bk ns f)=some (ns.map D.str):=by
 show some ((bkL ns f).map fun p=>sU p.1)=_
 unfold bkL
 rw [Fm]; rfl
theorem Ce {ns:List Str}{f:Str→D}{n:Str} (h:n ∈ ns):ixE (bk ns f) (.str n)=some (f n):=by
 show (c3 (.str n)).bind (fun k=>dQ (bkL ns f) k)=_
 exact sg h
theorem sO {α:Type}{ks pre post:List α}{n:α} (hn:ks.Nodup) (hs:ks=pre ++ n :: post):n ∉ pre:=fun z=>by
 rw [hs] at hn
 exact (List.nodup_append.mp hn).2.2 n z n (by simp) rfl
namespace Wk
theorem CD (q:List CS) (hck:bx [aZ (ay q),hY q]=some .non) (hq:gA q) (h8:∀ s ∈ q,s.1.length≤1000) (hp:q.length≤1000) (hN:(aX (ay q)).length≤4000) (hd:(ded (aX (ay q))).length < 64) (hW:(aq (ay q)).length≤10000):kG [aZ (ay q),hY q]=some (bk (fH q) (bkD q)):=by
 have hl:(ay q).length=q.length:=EW _
 have hwi:g_words_in [aZ (ay q)]=some (b9 (aq (ay q))):=by rw [Ae]; exact Sh.oq _ (by omega)
 have hbg:g_begins [aZ (ay q)]=some (.tup ((gu (ay q) 0).map D.int)):=by rw [yk]; exact Sh.vv _ (by omega)
 have hnm:g_names_in [aZ (ay q)]=some (b9 (fH q)):=by rw [Ag]; exact Sh.pt _ hN hd
 have hkl:(fH q).length < 64:=by unfold fH; rw [(cB _).length_eq]; exact hd
 refine yO rfl ?_
 simp only [b_cut,pY,af,ar,ao,var,aC,aa,ah,EG,EI,EN,EO,EQ,ER,EL,EM,on,EH,List.replicate,reduceIte,Nat.reduceAdd,Nat.reduceSub,hck]
 refine ue (d:=bk (fH q) (bkD q)) (pj fun z hz=>?_) (fun a=>?_) ⟨_,rfl,oH _ _⟩
 ·simp only [F7,FX,Hb] at hz
  rcases hz with rfl | rfl | rfl | rfl | rfl | rfl | rfl | rfl | rfl | rfl <;> constructor <;> intro _ e <;> cases e
 ·simp only [yN,se,var,aC,aa,ah,a8,EG,EI,EL,EM,EJ,EK,on,reduceIte,Nat.reduceAdd,hnm]
  have hi:kC (b9 (fH q))=some ((fH q).map D.str):=rfl
  rw [hi]
  simp only [af]
  refine jE D.str (fH q) (fun pre E m=>∃ s3,E=[Sl.val (aZ (ay q)),Sl.val (hY q),eh a,s3,Sl.no,Sl.no,Sl.no,Sl.no,Sl.no,Sl.no]∧m=bm pre fun _=>[]) rfl ⟨_,rfl,rfl⟩ ?_ ?_
  ·rintro pre n post E m hs ⟨s3,rfl,rfl⟩
   have hn:=sO (kx q) hs
   have hpl:pre.length≤(fH q).length:=by rw [hs]; simp
   simp only [af,aJ,var,nmG,EJ,EK,on,EH,c3,Bz]
   refine cA ⟨CJ hn,fV (by unfold bm; rw [EW]; omega)⟩ ?_
   refine ⟨_,rfl,?_⟩
   unfold bm
   rw [Fs]; rfl
  ·rintro E m ⟨s3,rfl,rfl⟩
   have hz:du (q.map fun s=>cT (plain s)) ((gu (ay q) 0).map D.int) (q.map gq)=(List.range q.length).map fun k:Nat=>D.tup [cT (plain (atC q k)),.int ((aq ((ay q).take k)).length:Int),gq (atC q k)]:=by
    rw [rF,hl,Fm,xm (fun s=>cT (plain s)) q,xm gq q,lF]; rfl
   simp only [af,aJ,bS,var,aC,aa,ah,EG,EI,EL,EM,EJ,EK,on,EH,reduceIte,Nat.reduceAdd,Be,hwi,rZ,hbg]
   have hz2:r8 [aZ (ay q),.tup ((gu (ay q) 0).map D.int),hY q]=some ((List.range q.length).map fun k:Nat=>D.tup [cT (plain (atC q k)),.int ((aq ((ay q).take k)).length:Int),gq (atC q k)]):=by
    rw [pV,← hz]; rfl
   rw [hz2]
   simp only [af]
   refine jE (fun k:Nat=>D.tup [cT (plain (atC q k)),.int ((aq ((ay q).take k)).length:Int),gq (atC q k)]) (List.range q.length) (fun pre E m=>∃ s3 s5 s6 s7 s8,E=[Sl.val (aZ (ay q)),Sl.val (hY q),eh a,s3,Sl.val (b9 (aq (ay q))),s5,s6,s7,s8,Sl.no]∧m=bm (fH q) (eE (RR (q.take pre.length)))) rfl ⟨_,_,_,_,_,rfl,rfl⟩ ?_ ?_
   ·rintro pre k post E m hs ⟨s3,s5,s6,s7,s8,rfl,rfl⟩
    obtain ⟨hk1,hk2⟩:=gb hs
    subst hk1
    have hsp:=v8 hk2
    rw [← yy hk2] at hsp
    obtain ⟨s,hsd⟩:∃ s,s=atC q pre.length:=⟨_,rfl⟩
    rw [← hsd] at hsp ⊢
    have htk:(ay q).take pre.length=ay (q.take pre.length):=by unfold ay; rw [List.map_take]
    have hzz:vJ [b9 (plain s).1,gq s]=some (s.1.map fun z=>D.tup [.str z.1,.int (z.2:Int)]):=by
     show some (List.zipWith _ ((s.1.map (·.1)).map D.str) (s.1.map _))=_
     rw [Fm,ie]; rfl
    have hat:atI [b9 (plain s).1,b9 (plain s).2] 0=some (b9 (plain s).1):=rfl
    have hat1:atI [b9 (plain s).1,b9 (plain s).2] 1=some (b9 (plain s).2):=rfl
    simp only [af,aJ,bS,bin,cst,var,ac,aa,ah,nmG,dj,bh,dk,EG,EI,EL,EM,EJ,EK,on,EH,reduceIte,Nat.reduceAdd,cR,se,t_,cT,hat,hzz]
    refine jE (fun z:Str×Nat=>D.tup [.str z.1,.int (z.2:Int)]) s.1 (fun pr E m=>∃ s3 s8,E=[Sl.val (aZ (ay q)),Sl.val (hY q),eh a,s3,Sl.val (b9 (aq (ay q))),Sl.val (.tup [b9 (plain s).1,b9 (plain s).2]),Sl.val (.int ((aq ((ay q).take pre.length)).length:Int)),Sl.val (gq s),s8,Sl.no]∧m=bm (fH q) (eE (RR (q.take pre.length) ++ pr.map fun z=>(z.1,yg (q.take pre.length) s z)))) rfl ⟨_,_,rfl,by rw [EO,F9]⟩ ?_ ?_
    ·rintro pr z po E m hs' ⟨s3,s8,rfl,rfl⟩
     have hzm:z ∈ s.1:=by rw [hs']; simp
     obtain ⟨hz1,hz3⟩:=hq _ _ _ hsp z hzm
     have hmem:z.1 ∈ fH q:=B5.mpr (uP hsp hzm)
     have hle:=oz z.1 (ay (q.take pre.length))
     have hcut:bO ((aq (ay q)).map D.str) (some (((aq ((ay q).take pre.length)).length:Int) - (z.2:Int))) (some ((aq ((ay q).take pre.length)).length:Int))=(yt (ay (q.take pre.length)) z).map D.str:=by
      rw [htk,show ((aq (ay (q.take pre.length))).length:Int) - (z.2:Int)=(((aq (ay (q.take pre.length))).length - z.2:Nat):Int) by omega,nT,← List.map_take,← htk,mV,← List.map_drop,htk]
      unfold yt
      rw [oM (ou _ _) hz1]
     have hbl:(eE (RR (q.take pre.length) ++ pr.map fun z=>(z.1,yg (q.take pre.length) s z)) z.1).length < sizeLine:=by
      refine fV ?_
      have h1:=rE (RR (q.take pre.length) ++ pr.map fun z=>(z.1,yg (q.take pre.length) s z)) z.1
      rw [Fb,EW,CQ] at h1
      have h2:(aX (ay (q.take pre.length))).length≤(aX (ay q)).length:=by
       rw [← htk]; exact fC (p:=ay q) (G7 _ _).symm
      have h3:pr.length≤s.1.length:=by rw [hs']; simp
      have h4:s.1.length≤1000:=h8 s (by rw [hsp]; simp)
      omega
     simp only [af,aJ,bS,bin,cst,var,ac,aa,ah,cg,bv,ba,nmG,dj,bh,dk,e7,EG,EI,EL,EM,EJ,EK,on,EH,reduceIte,Nat.reduceAdd,Nat.reduceLeDiff,eJ,br,c3,cR,CP,b9,hcut]
     show wp (jp _ _ (yg (q.take pre.length) s z)) _
     rw [tV (kx q) hmem hbl]
     refine ⟨_,_,rfl,?_⟩
     rw [Fs,He,← GB,qc]
    ·rintro E m ⟨s3,s8,rfl,rfl⟩
     refine ⟨_,_,_,_,_,rfl,?_⟩
     rw [Fb,FT,iL hk2,Az,← yy hk2,← hsd]
     rfl
   ·rintro E m ⟨s3,s5,s6,s7,s8,rfl,rfl⟩
    rw [Fo,List.take_length]
    simp only [q8,D7,af,ar,ao,cp,bP,var,a8,nR,EG,EI,EJ,EK,on,EH,Aq]
    refine cz D.str (fH q) (fun pre E=>∃ s3,E=[Sl.val (aZ (ay q)),Sl.val (hY q),Sl.val (bk (fH q) fun n=>.lst (eE (RR q) n)),s3,Sl.val (b9 (aq (ay q))),s5,s6,s7,s8,Sl.own (.dic (bkL pre (bkD q)))]) rfl ⟨_,rfl⟩ ?_ ?_
    ·rintro pre n post E hs ⟨s3,rfl⟩
     have hn:=sO (kx q) hs
     have hm:n ∈ fH q:=by rw [hs]; simp
     have hpl:pre.length≤(fH q).length:=by rw [hs]; simp
     simp only [af,bin,un,var,ac,nmG,EG,EJ,EK,on,EH,c3,jk,bp,Ce hm,wz hn]
     refine cA (fV (by unfold bkL; rw [EW]; omega)) ?_
     refine ⟨Sl.val (D.str n),?_⟩
     unfold bkL
     rw [Fs]; rfl
    ·rintro E ⟨s3,rfl⟩
     simp only [af,ao,a9]
     exact ⟨_,rfl,rfl⟩
end Wk
namespace Wk
theorem r9:∀ (rows:List D) (ss:List (List Nat)) (k:Nat),wr rows ss k=none→rows.length=ss.length∧∀ (j:Nat) (h1:j < rows.length) (h2:j < ss.length),d9 rows[j] ss[j]=true
 | [],[],_,_=>⟨rfl,fun j h=>by cases h⟩
 | _ :: _,[],_,h=>by cases h
 | [],_ :: _,_,h=>by cases h
 | r :: rs,s :: ss,k,h=>by
  unfold wr at h
  by_cases hr:d9 r s=true
  ·rw [if_pos hr] at h
   obtain ⟨h1,h2⟩:=r9 rs ss (k + 1) h
   refine ⟨by simp [h1],fun j g1 g2=>?_⟩
   cases j with
   | zero=>exact hr
   | succ j=>exact h2 j (by simpa using g1) (by simpa using g2)
  ·rw [if_neg hr] at h; cases h
def zJ:D→Nat
 | .int i=>i.toNat
 | _=>0
def gh:D→List Nat
 | .tup xs=>xs.map zJ
 | _=>[]
theorem m_ {d:D}{ns:List Nat} (h:d9 d ns=true):d=ck (gh d)∧(gh d).length=ns.length∧∀ (j:Nat) (h1:j < (gh d).length) (h2:j < ns.length),(gh d)[j]≤ns[j]∧(1≤ns[j]→1≤(gh d)[j]):=by
 cases d with
 | tup xs =>
  have hl:xs.length=ns.length:=by
   have:(decide (xs.length=ns.length) && (List.zipWith eA xs ns).all id)=true:=h
   exact FH (Bool.and_eq_true_iff.mp this).1
  have hall:=(lZ xs ns hl).mp h
  have at_:∀ (j:Nat) (h1:j < xs.length),∃ i:Int,xs[j]=.int i∧0≤i∧i≤(ns[j]'(by omega):Int)∧(1≤ns[j]'(by omega)→1≤i):=fun j h1=>by
   have h3:=hall j h1 (by omega)
   cases hx:xs[j] with
   | int i =>
    rw [hx] at h3
    have h3:(decide ((if ((ns[j]'(by omega):Nat):Int) < 1 then ((ns[j]'(by omega):Nat):Int) else 1)≤i) && decide (i≤((ns[j]'(by omega):Nat):Int)))=true:=h3
    obtain ⟨a,b⟩:=Bool.and_eq_true_iff.mp h3
    have a:=FH a
    have b:=FH b
    refine ⟨i,rfl,?_,b,fun z=>?_⟩
    ·split at a <;> omega
    ·rw [if_neg (by omega)] at a; exact a
   | _=>rw [hx] at h3; cases h3
  refine ⟨?_,by show (xs.map zJ).length=_; rw [EW,hl],fun j h1 h2=>?_⟩
  ·unfold ck
   congr 1
   show xs=List.map _ (xs.map zJ)
   rw [Fm]
   refine List.ext_getElem (by simp) fun j g1 g2=>?_
   obtain ⟨i,e,p,_⟩:=at_ j g1
   rw [List.getElem_map,e]
   show D.int i=D.int ((i.toNat:Nat):Int)
   rw [Int.toNat_of_nonneg p]
  ·have h1':j < xs.length:=by omega
   obtain ⟨i,e,p,q,r⟩:=at_ j h1'
   have e2:(gh (.tup xs))[j]=i.toNat:=by
    show (xs.map zJ)[j]'(by simpa using h1')=_
    rw [List.getElem_map,e]; rfl
   rw [e2]
   exact ⟨by omega,fun z=>by have:=r z; omega⟩
 | _=>cases h
def Ba (p:List Sp) (k:Nat):List Str:=(p.getD k ([],[])).2
def mkQ (p:List Sp) (f:Nat→List Nat):List CS:=(List.range p.length).map fun k=>((bY p k).zip (f k),Ba p k)
theorem l0 {p:List Sp}{f:Nat→List Nat} (h:∀ k,k < p.length→(f k).length=(bY p k).length):ay (mkQ p f)=p:=by
 unfold ay mkQ
 rw [Fm]
 refine Eq.trans (FJ fun k hk=>?_) (j_ p ([],[]))
 have:=h k (List.mem_range.mp hk)
 show (((bY p k).zip (f k)).map (·.1),Ba p k)=_
 rw [List.map_fst_zip (by omega)]; rfl
theorem An {p:List Sp}{f:Nat→List Nat} (h:∀ k,k < p.length→(f k).length=(bY p k).length):hY (mkQ p f)=.tup ((List.range p.length).map fun k=>ck (f k)):=by
 unfold hY mkQ
 rw [Fm]
 congr 1
 refine FJ fun k hk=>?_
 have:=h k (List.mem_range.mp hk)
 show D.tup (((bY p k).zip (f k)).map fun z=>.int (z.2:Int))=ck (f k)
 unfold ck
 congr 1
 have e:((bY p k).zip (f k)).map (fun z=>D.int (z.2:Int))=(((bY p k).zip (f k)).map (·.2)).map fun n:Nat=>D.int (n:Int):=by rw [Fm]; rfl
 rw [e,List.map_snd_zip (by omega)]
theorem CF {p:List Sp}{f:Nat→List Nat} (h:∀ k,k < p.length→(f k).length=(bY p k).length) (hf:∀ k,k < p.length→∀ (j:Nat) (h1:j < (f k).length) (h2:j < (szK p k).length),(f k)[j]≤(szK p k)[j]∧(1≤(szK p k)[j]→1≤(f k)[j])):gA (mkQ p f):=by
 intro pre s post e z hz
 have h1:(mkQ p f)[pre.length]? = some s:=by rw [e]; simp
 have hlt:pre.length < p.length:=by
  have:=FZ List.length e
  unfold mkQ at this
  simp at this
  omega
 unfold mkQ at h1
 rw [Fg,Gh hlt] at h1
 have h2:s=((bY p pre.length).zip (f pre.length),Ba p pre.length):=(E4 h1).symm
 have h3:ay pre=p.take pre.length:=by
  have h4:=FZ ay e
  rw [l0 h,ke] at h4
  have hl:(ay pre).length=pre.length:=EW _
  rw [h4,← hl,List.take_left]
 rw [h2] at hz
 obtain ⟨j,hj,hz2⟩:=List.mem_iff_getElem.mp hz
 have hj2:j < min (bY p pre.length).length (f pre.length).length:=by simpa using hj
 have hzj:z=((bY p pre.length)[j]'(by omega),(f pre.length)[j]'(by omega)):=by rw [← hz2]; simp
 have hs:(szK p pre.length)[j]'(by unfold szK; rw [EW]; omega)=(ce (p.take pre.length) ((bY p pre.length)[j]'(by omega))).length:=by simp [szK]
 obtain ⟨a,b⟩:=hf pre.length hlt j (by omega) (by unfold szK; rw [EW]; omega)
 rw [hs] at a b
 rw [h3,hzj]
 exact ⟨a,fun hne=>b (List.length_pos_iff.mpr hne)⟩
theorem oF (a b:Bool):gJ [.bl a,.bl b]=some (.bl (decide (a=b))):=by
 refine bE ?_
 simp only [gJ,b__Ltruth,af,aG,ax,az,bin,ac,asB,gv,isF,tyN,EG,EI,EN,EO,EQ,ER,EL,EM,on,EH,List.replicate,reduceIte,Nat.reduceAdd,Nat.reduceSub,cP,String.reduceBEq,Fu,Fv,Fl,rm]
structure AD (p:List Sp):Prop extends oj p where
 ded:(ded (aX p)).length < 64
theorem ud (p:List Sp) (d:D):wrD p d=.non∨∃ k:Nat,wrD p d=.int (k:Int):=by
 cases d with
 | tup rows =>
  show iR (wr rows (szs p) 0)=.non∨_
  cases h:wr rows (szs p) 0 with
  | none=>exact .inl rfl
  | some k=>exact .inr ⟨k,by show iR (wr rows (szs p) 0)=_; rw [h]; rfl⟩
 | _=>exact .inr ⟨p.length,rfl⟩
theorem yp {p:List Sp} (hp:AD p) {d:D} (hd:SmC d) (h:wrD p d=.non):∃ x,kG [aZ p,d]=some x:=by
 have ha:=qf p hp.tooj d hd
 rw [h] at ha
 cases d with
 | tup rows =>
  have h0:wr rows (szs p) 0=none:=by
   have h:iR (wr rows (szs p) 0)=.non:=h
   cases hw:wr rows (szs p) 0 with
   | none=>rfl
   | some k=>rw [hw] at h; cases h
  obtain ⟨hl,hall⟩:=r9 _ _ _ h0
  rw [gC] at hl
  have hrow:∀ k (hk:k < p.length),d9 (rows[k]'(by omega)) (szK p k)=true:=fun k hk=>by
   have:=hall k (by omega) (by rw [gC]; exact hk)
   simpa [szs] using this
  have hf:∀ k,k < p.length→(gh (rows.getD k .non)).length=(bY p k).length:=fun k hk=>by
   have e:rows.getD k .non=rows[k]'(by omega):=by rw [FA,EV (by omega)]; rfl
   rw [e,(m_ (hrow k hk)).2.1]
   unfold szK
   rw [EW]
  have ep:=l0 hf
  have ec:hY (mkQ p fun k=>gh (rows.getD k .non))=.tup rows:=by
   rw [An hf]
   congr 1
   refine List.ext_getElem (by simp; omega) fun k g1 g2=>?_
   rw [List.getElem_map,HP]
   have hk:k < p.length:=by simpa using g1
   have e:rows.getD k .non=rows[k]'(by omega):=by rw [FA,EV (by omega)]; rfl
   rw [e]
   exact (m_ (hrow k hk)).1.symm
  have hq:gA (mkQ p fun k=>gh (rows.getD k .non)):=CF hf fun k hk j h1 h2=>by
   have e:rows.getD k .non=rows[k]'(by omega):=by rw [FA,EV (by omega)]; rfl
   have:=(m_ (hrow k hk)).2.2
   revert h1
   rw [e]
   exact fun h1=>this j h1 h2
  have hck:bx [aZ p,.tup rows]=some .non:=by
   refine bE ?_
   simp only [bx,b_check_counts,af,aG,ar,ao,m9,aD,aT,a7,a9,un,var,tst,asB,aC,aa,ah,EG,EI,EN,EO,EQ,ER,EL,EM,EJ,EK,on,EH,List.replicate,reduceIte,Nat.reduceAdd,Nat.reduceSub,df,ha]
  have hlq:(mkQ p fun k=>gh (rows.getD k .non)).length=p.length:=by unfold mkQ; simp
  have:=CD (mkQ p fun k=>gh (rows.getD k .non)) (by rw [ep,ec]; exact hck) hq (fun s hs=>?_) (by rw [hlq]; exact hp.len) (by rw [ep]; exact hp.nms) (by rw [ep]; exact hp.ded) (by rw [ep]; exact hp.wds)
  ·rw [ep,ec] at this
   exact ⟨_,this⟩
  ·unfold mkQ at hs
   obtain ⟨k,hk,rfl⟩:=List.mem_map.mp hs
   have hk:=List.mem_range.mp hk
   have:=hp.row _ (Fx hk)
   rw [← gD hk] at this
   show ((bY p k).zip _).length≤1000
   rw [List.length_zip]; omega
 | _=>cases h
end Wk
theorem yf {n:Nat}{x:D} (h:dE n x) (hn:n≤60) (hs:scD x x=none):eqO x x=some (.bl true):=by
 rw [kQ h h hn hs]
 unfold pT
 rw [PySem.SeqAt.eqv_refl _ h.lay]
namespace Wk
theorem rC {p:List Sp}{d:D}{k:Nat} (ha:cj [aZ p,d]=some (.int (k:Int))):bx [aZ p,d]=none:=by
 cases hx:bx [aZ p,d] with
 | none=>rfl
 | some x =>
  have h:wp (bx [aZ p,d]) fun _=>True:=dy.mpr ⟨x,hx,trivial⟩
  simp only [bx,b_check_counts,af,aG,ar,ao,aD,aT,aY,un,var,tst,asB,aC,aa,ah,EG,EI,EN,EO,EQ,ER,EL,EM,EJ,EK,on,EH,List.replicate,reduceIte,Nat.reduceAdd,Nat.reduceSub,df,ha,noS] at h
  exact False.elim h
theorem Am {p:List Sp}{d:D}{k:Nat} (ha:cj [aZ p,d]=some (.int (k:Int))):eW [aZ p,d]=some (some (0,[(("place" : Str),D.int (k:Int))])):=by
 have hn:kG [aZ p,d]=none:=by
  show (if 2=2 then (b_cut [Sl.val (aZ p),Sl.val d,Sl.no,Sl.no,Sl.no,Sl.no,Sl.no,Sl.no,Sl.no,Sl.no]).bind _ else none)=none
  have hb:b_cut [Sl.val (aZ p),Sl.val d,Sl.no,Sl.no,Sl.no,Sl.no,Sl.no,Sl.no,Sl.no,Sl.no]=none:=by
   simp [b_cut,av,pY,aC,aa,ah,var,rC ha]
  rw [hb]; rfl
 have hc:gP 2 3 bV [aZ p,d]=some (some (0,[(("place" : Str),D.int (k:Int))])):=by
  simp [gP,bV,qF,okX,aD,aC,aa,ah,var,ha,ifX,tst,un,df,asB,nc,kD]
 unfold eW iB
 rw [hn]
 have hdx:∀ E:DE,aa (var 0) (aa (var 1) ah) E=some [aZ p,d]→fj 2 (gP 2 3 bV) (aa (var 0) (aa (var 1) ah)) E=some (.xc 0 [(("place" : Str),D.int (k:Int))] E):=fun E hE=>by
  generalize gP 2 3 bV=g at hc
  unfold fj
  rw [hE]
  simp [hc]
 show (if 2=2 then ((qF (fj 2 (gP 2 3 bV) (aa (var 0) (aa (var 1) ah))) (okX noS)) [Sl.val (aZ p),Sl.val d,Sl.no,Sl.no,Sl.no,Sl.no,Sl.no,Sl.no,Sl.no,Sl.no]).bind _ else none)=_
 unfold qF
 rw [hdx _ rfl]; rfl
theorem Al {p:List Sp}{d x:D} (h:kG [aZ p,d]=some x):eW [aZ p,d]=some none:=by
 unfold eW iB
 rw [h]
abbrev xv:D:=.lst [.bl false,.bl false,.bl false,.bl true,.bl true]
theorem BX (a b c:D):di [Sl.val a,Sl.val b,Sl.val c,Sl.no,Sl.no]:=pj fun z hz=>by
 simp only [F7,FX,Hb] at hz
 rcases hz with rfl | rfl | rfl | rfl | rfl <;> constructor <;> intro _ e <;> cases e
theorem xr {p:List Sp}{d:D}{k:Nat} (ha:cj [aZ p,d]=some (.int (k:Int))):fL [aZ p,d]=some (.tup [.int (k:Int),xv]):=by
 have ht:qz 0 3 (fj 2 eW (aa (var 0) (aa (var 1) ah))) iu [Sl.val (aZ p),Sl.val d,Sl.val .non,Sl.no,Sl.no]=some (.nx [Sl.val (aZ p),Sl.val d,Sl.val (.tup [.int (k:Int),xv]),Sl.no,Sl.val (.lst [.bl false,.bl false])]):=by
  have hd:fj 2 eW (aa (var 0) (aa (var 1) ah)) [Sl.val (aZ p),Sl.val d,Sl.val .non,Sl.no,Sl.no]=some (.xc 0 [(("place" : Str),D.int (k:Int))] [Sl.val (aZ p),Sl.val d,Sl.val .non,Sl.no,Sl.no]):=by
   simp [fj,aa,ah,var,Am ha]
  unfold qz
  rw [hd]
  show @ite _ _ (Classical.propDecidable _) _ _=_
  rw [if_pos ⟨rfl,BX _ _ _⟩]
  have hall:∀ a,iu a [(("place" : Str),D.int (k:Int))] ([Sl.val (aZ p),Sl.val d,Sl.val .non,Sl.no,Sl.no].set 3 (eh a))=some (.nx [Sl.val (aZ p),Sl.val d,Sl.val (.tup [.int (k:Int),xv]),eh a,Sl.val (.lst [.bl false,.bl false])]):=fun a=>by
   have xx:∀ (d e2 e4:Sl) (z:D),xF 3 a z [Sl.val (aZ p),d,e2,eh a,e4]=some z:=fun d e2 e4 z=>if_pos rfl
   have xl:∀ (d e2 e4:Sl),vN 3 a "place" [(("place" : Str),D.int (k:Int))] [Sl.val (aZ p),d,e2,eh a,e4]=some (.int (k:Int)):=fun d e2 e4=>by
    unfold vN
    rw [FY,Fu]
    show (some (D.int (k:Int))).bind (fun z=>if kD z=true then xF 3 a z _ else none)=_
    rw [EG,if_pos (show kD (D.int (k:Int))=true from rfl),xx]
   refine bE ?_
   simp only [iu,af,ar,ao,aD,bin,ac,aa,ah,cg,bn,EG,EI,EQ,ER,EL,EM,EJ,EK,on,EH,reduceIte,Nat.reduceAdd,Nat.reduceLeDiff,br,xx,xl,bG]
  exact Ax fun a=>by rw [hall a]; rfl
 refine bE ?_
 simp only [fL,b__Lcut,af,aG,ar,ao,ax,aD,az,cst,var,EI,EN,EO,EQ,ER,EL,EM,EJ,EK,on,EH,List.replicate,Nat.reduceAdd,Nat.reduceSub,ht]
theorem xt {p:List Sp}{d x:D} (h:kG [aZ p,d]=some x):fL [aZ p,d]=some .non:=by
 have ht:qz 0 3 (fj 2 eW (aa (var 0) (aa (var 1) ah))) iu [Sl.val (aZ p),Sl.val d,Sl.val .non,Sl.no,Sl.no]=some (.nx [Sl.val (aZ p),Sl.val d,Sl.val .non,Sl.no,Sl.no]):=by
  have hd:fj 2 eW (aa (var 0) (aa (var 1) ah)) [Sl.val (aZ p),Sl.val d,Sl.val .non,Sl.no,Sl.no]=some (.ok (.nx [Sl.val (aZ p),Sl.val d,Sl.val .non,Sl.no,Sl.no])):=by
   simp [fj,aa,ah,var,Al h]
  unfold qz
  rw [hd]; rfl
 refine bE ?_
 simp only [fL,b__Lcut,af,aG,ar,ao,ax,aD,az,cst,var,EI,EN,EO,EQ,ER,EL,EM,EJ,EK,on,EH,List.replicate,Nat.reduceAdd,Nat.reduceSub,ht]
theorem B6 (k:Nat):eqO (.tup [.int (k:Int),xv]) (.tup [.int (k:Int),xv])=some (.bl true):=by
 refine yf (n:=2) (gK _ fun x hx=>?_) (by decide) rfl
 simp only [F7,FX,Hb] at hx
 rcases hx with rfl | rfl
 ·exact (dO _).le (by decide)
 ·exact iz D.bl [false,false,false,true,true] fun x _=>s_ x
theorem qe {p:List Sp} (hp:AD p) {d:D} (hd:SmC d):dB [aZ p,d,.lst ((List.range p.length).map (bq p))]=some (.bl true):=by
 have ha:=qf p hp.tooj d hd
 have hw:=vP p hp.tooj d hd
 rcases ud p d with e | ⟨k,e⟩
 ·obtain ⟨x,hx⟩:=yp hp hd e
  rw [e] at ha hw
  have hi:dc [aZ p,d]=some (.bl true):=by
   refine bE ?_
   simp only [dc,b_is_counts,af,aG,ax,az,un,var,aC,aa,ah,EG,EI,EN,EO,EQ,ER,EL,EM,on,EH,List.replicate,reduceIte,Nat.reduceAdd,Nat.reduceSub,hJ,ha]
  refine bE ?_
  simp only [dB,b__Lasked,af,aG,ar,ao,a_,ax,aD,aT,aY,a7,az,a9,un,var,tst,asB,cC,aC,aa,ah,EG,EI,EN,EO,EQ,ER,EL,EM,EJ,EK,on,EH,List.replicate,reduceIte,Nat.reduceAdd,Nat.reduceSub,Fz,G0,hJ,hw,hi,oF,xt hx]
 ·rw [e] at ha hw
  have hi:dc [aZ p,d]=some (.bl false):=by
   refine bE ?_
   simp only [dc,b_is_counts,af,aG,ax,az,un,var,aC,aa,ah,EG,EI,EN,EO,EQ,ER,EL,EM,on,EH,List.replicate,reduceIte,Nat.reduceAdd,Nat.reduceSub,hJ,ha]
  refine bE ?_
  simp only [dB,b__Lasked,af,aG,ar,ao,ax,aD,aT,a7,az,a9,bin,un,cst,var,tst,asB,cC,aC,aa,ah,cg,bn,EG,EI,EN,EO,EQ,ER,EL,EM,EJ,EK,on,EH,List.replicate,reduceIte,Nat.reduceAdd,Nat.reduceSub,Nat.reduceLeDiff,Fz,G0,br,hJ,hw,hi,oF,xr ha,B6]
end Wk
theorem pU {n:Nat}{xs:List D} (h:dE n (.tup xs)) (hn:n≤60):eqO (.tup xs) (.tup [])=some (.bl (decide (xs=[]))):=by
 rw [kQ (n:=60) (h.le hn) ((gK (n:=0) [] fun _ z=>by cases z).le (by decide)) (by decide) rfl]
 cases xs with
 | nil=>rfl
 | cons x xs=>simp [pT,toP,toPs,PyData.eqv,PyData.eqvAll]
theorem gc {α:Type} (l:List α) (i:Int) (h0:0≤i) (h1:i < l.length):∃ x ∈ l,atI l i=some x:=by
 obtain ⟨n,rfl⟩:∃ n:Nat,i=n:=⟨i.toNat,by omega⟩
 exact ⟨l[n]'(by omega),Fx _,by rw [cu,EV]⟩
theorem dh {α:Type} (l:List α) (a b:Option Int):(bO l a b).length≤l.length:=by
 unfold bO
 rw [GH,Gw]; omega
theorem c8 {α:Type}{l:List α}{a b:Option Int}{x:α} (h:x ∈ bO l a b):x ∈ l:=by
 unfold bO at h
 exact List.mem_of_mem_drop (Ha h)
theorem n9 {a b:List D} (h:a.length + b.length≤1000):bG (.tup a) (.tup b)=some (.tup (a ++ b)):=if_pos (Fa h (by decide))
namespace Wk
def ThR (r:D):Prop:=(∀ xs,r=.tup xs→xs.length≤100)∧dE 3 r
structure Th (n:Nat) (d:D):Prop where
 sm:∀ rows,d=.tup rows→rows.length≤n∧∀ r ∈ rows,ThR r
 fn:dE 4 d
theorem Th.tup {n:Nat}{rows:List D} (hl:rows.length≤n) (h:∀ r ∈ rows,ThR r):Th n (.tup rows):=⟨fun _ e=>by cases e; exact ⟨hl,h⟩,gK rows fun r hr=>(h r hr).2⟩
theorem Th.lst {n:Nat}{rows:List D} (h:∀ r ∈ rows,ThR r):Th n (.lst rows):=⟨fun _ e=>(by cases e),mv rows fun r hr=>(h r hr).2⟩
theorem Th.smc {n:Nat}{d:D} (h:Th n d) (hn:n≤1000):SmC d:=⟨fun rows e=>Fa (h.sm rows e).1 hn,fun rows e r hr xs ex=>Fa (((h.sm rows e).2 r hr).1 xs ex) (by decide)⟩
theorem ThR.tup {xs:List D} (hl:xs.length≤100) (h:∀ x ∈ xs,dE 2 x):ThR (.tup xs):=⟨fun _ e=>(by cases e; exact hl),gK xs h⟩
theorem vX {d:D}{c:Int} (h:Th 130 d):wp (fg [d,.int c]) fun d=>Th 300 d:=by
 cases d with
 | tup rows =>
  obtain ⟨hl,hr⟩:=h.sm rows rfl
  have h0:=pU h.fn (by decide)
  simp only [fg,b__Ltwice,aG,ar,aT,bin,cst,ac,tst,asB,cC,orT,ah,cg,isF,aL,tyN,EG,EI,EN,EO,EQ,ER,EL,EM,on,EH,List.replicate,reduceIte,Nat.reduceAdd,Nat.reduceSub,Int.reduceLT,Int.reduceNeg,Nat.reduceLeDiff,Fz,Ff,cP,String.reduceBEq,Fu,Fv,Fl,cK,br,h0]
  have big:Th 300 (.tup rows):=.tup (by omega) hr
  by_cases hne:rows=[]
  ·have:decide (rows=[])=true:=Fj hne
   simp only [af,a_,ax,aY,az,var,EI,on,reduceIte,Int.reduceNeg,this]
   exact big
  ·have hd:decide (rows=[])=false:=Fc hne
   have hp:0 < rows.length:=List.length_pos_iff.mpr hne
   by_cases hc:c % 2=0
   ·have:decide (c % 2=0)=true:=Fj hc
    simp only [af,a_,ax,aY,az,var,EI,on,reduceIte,Int.reduceNeg,Ff,hd,this]
    exact big
   ·have h2:decide (c % 2=0)=false:=Fc hc
    have hz:(0:Int) < (rows.length:Int):=by omega
    have hm:=aL (i:=c / 10) hz
    have g0:=Fy (c / 10) (b:=(rows.length:Int)) (by omega)
    have g1:=Fw (c / 10) hz
    have e0:=Fy (c / 2) (b:=4) (by decide)
    have e1:=Fw (c / 2) (b:=4) (by decide)
    have a1:=n9 (a:=rows) (b:=[.tup [.int 1]]) (by simp; omega)
    have l1:=dh rows none (some (c / 10 % (rows.length:Int)))
    have l2:=dh rows (some (c / 10 % (rows.length:Int) + 1)) none
    have a2:=n9 (a:=bO rows none (some (c / 10 % (rows.length:Int)))) (b:=[.tup []]) (by simp; omega)
    have a3:=n9 (a:=bO rows none (some (c / 10 % (rows.length:Int))) ++ [.tup []]) (b:=bO rows (some (c / 10 % (rows.length:Int) + 1)) none) (by simp; omega)
    simp only [af,bS,ar,ao,ax,aD,a7,az,a9,bin,un,cst,var,ac,aa,ah,cg,bn,noP,bv,ba,aL,bQ,EG,EI,EL,EM,EJ,EK,on,EH,reduceIte,Nat.reduceAdd,Int.reduceLT,Int.reduceLE,Int.reducePow,Int.reduceNeg,Nat.reduceLeDiff,Ff,cE,eJ,br,b5,bc,e_,hd,h2,hm,a1,a2,a3]
    obtain ⟨x,hx,e⟩:=gc [D.tup (rows ++ [.tup [.int 1]]),.tup (bO rows none (some (-1))),.lst rows,.tup (bO rows none (some (c / 10 % (rows.length:Int))) ++ [.tup []] ++ bO rows (some (c / 10 % (rows.length:Int) + 1)) none)] (c / 2 % 4) e0 (by simpa using e1)
    rw [e]
    have t1:ThR (.tup [.int 1]):=.tup (by decide) fun x hx=>by rw [List.mem_singleton.mp hx]; exact (dO 1).le (by decide)
    have t0:ThR (.tup []):=.tup (by decide) fun x hx=>by cases hx
    simp only [F7,FX,Hb] at hx
    simp only [af]
    rcases hx with rfl | rfl | rfl | rfl
    ·refine .tup (by simp; omega) fun r hr'=>?_
     rcases List.mem_append.mp hr' with z | z
     ·exact hr r z
     ·rw [List.mem_singleton.mp z]; exact t1
    ·exact .tup (Fa (dh _ _ _) (by omega)) fun r z=>hr r (c8 z)
    ·exact .lst hr
    ·refine .tup (by simp; omega) fun r hr'=>?_
     rcases List.mem_append.mp hr' with z | z
     ·rcases List.mem_append.mp z with z | z
      ·exact hr r (c8 z)
      ·rw [List.mem_singleton.mp z]; exact t0
     ·exact hr r (c8 z)
 | _ =>
  simp only [fg,b__Ltwice,af,aG,ar,a_,ax,aT,aY,az,bin,cst,var,ac,tst,asB,cC,orT,ah,cg,isF,aL,tyN,EG,EI,EN,EO,EQ,ER,EL,EM,on,EH,List.replicate,reduceIte,Nat.reduceAdd,Nat.reduceSub,Int.reduceLT,Int.reduceNeg,Nat.reduceLeDiff,FO,cP,String.reduceBEq,Fv,Fl,cK,br]
  exact ⟨fun _ e=>(by cases e),h.fn⟩
theorem uj {rows ws:List D}{c:Int} (hl:rows.length≤60) (hr:∀ r ∈ rows,∃ xs:List Int,r=.tup (xs.map D.int)∧xs ≠ []∧xs.length≤30)
  (hw:∀ (i j:Nat) (xs:List D),rows[i]? = some (.tup xs)→j < xs.length→∃ W w m,atI ws (i:Int)=some W∧ixE W (.int (j:Int))=some w∧bg w=some (.int m)):wp (eB [.tup rows,.lst ws,.int c]) fun d=>Th 130 d:=by
 have hR:∀ r ∈ rows,ThR r:=fun r z=>by
  obtain ⟨xs,rfl,_,h⟩:=hr r z
  exact .tup (by rw [EW]; omega) fun x hx=>by
   obtain ⟨i,_,rfl⟩:=List.mem_map.mp hx
   exact (dO i).le (by decide)
 have h0:=pU (Th.tup (n:=60) hl hR).fn (by decide)
 have i1:dE 2 (.int 1):=(dO 1).le (by decide)
 have t1:ThR (.tup [.int 1]):=.tup (by decide) fun x hx=>by rw [List.mem_singleton.mp hx]; exact i1
 have t0:ThR (.tup []):=.tup (by decide) fun x hx=>by cases hx
 simp only [eB,b__Lspoilt,af,aG,ar,aT,bin,ac,tst,asB,ah,cg,EG,EN,EO,EQ,ER,EL,EM,on,List.replicate,reduceIte,Nat.reduceAdd,Nat.reduceSub,Int.reduceNeg,Nat.reduceLeDiff,br,h0]
 by_cases hne:rows=[]
 ·have e0:=Fy c (b:=5) (by decide)
  have e1:=Fw c (b:=5) (by decide)
  have:decide (rows=[])=true:=Fj hne
  obtain ⟨x,hx,e⟩:=gc [D.lst [],.tup [.tup [.int 1]],.non,.str "",.tup [.tup []]] (c % 5) e0 (by simpa using e1)
  simp only [af,a_,ax,aY,az,bin,cst,ac,aa,ah,cg,bn,aL,EG,EI,EL,EM,on,EH,reduceIte,Nat.reduceAdd,Int.reduceLT,Int.reduceNeg,Nat.reduceLeDiff,br,b5,this,e]
  simp only [F7,FX,Hb] at hx
  rcases hx with rfl | rfl | rfl | rfl | rfl
  ·exact .lst fun r z=>by cases z
  ·exact .tup (by decide) fun r z=>by rw [List.mem_singleton.mp z]; exact t1
  ·exact ⟨fun _ e=>(by cases e),pP.le (by decide)⟩
  ·exact ⟨fun _ e=>(by cases e),(iy (x := "") (by decide)).le (by decide)⟩
  ·exact .tup (by decide) fun r z=>by rw [List.mem_singleton.mp z]; exact t0
 ·have hd:decide (rows=[])=false:=Fc hne
  have hp:(0:Int) < (rows.length:Int):=by have:=List.length_pos_iff.mpr hne; omega
  have hm:=aL (i:=c / 20) hp
  have g0:=Fy (c / 20) (b:=(rows.length:Int)) (by omega)
  have g1:=Fw (c / 20) hp
  obtain ⟨at',hat⟩:∃ n:Nat,c / 20 % (rows.length:Int)=(n:Int):=⟨(c / 20 % (rows.length:Int)).toNat,by omega⟩
  rw [hat] at hm g1
  have hlt:at' < rows.length:=by omega
  obtain ⟨xs,hx,hxn,hxl⟩:=hr rows[at'] (Fx hlt)
  have hix:atI rows (at':Int)=some (.tup (xs.map D.int)):=by rw [cu,EV hlt,hx]
  have hxp:(0:Int) < (xs.length:Int):=by have:=List.length_pos_iff.mpr hxn; omega
  have hm2:=aL (i:=c / 2000) hxp
  have f0:=Fy (c / 2000) (b:=(xs.length:Int)) (by omega)
  have f1:=Fw (c / 2000) hxp
  obtain ⟨k,hk⟩:∃ n:Nat,c / 2000 % (xs.length:Int)=(n:Int):=⟨(c / 2000 % (xs.length:Int)).toNat,by omega⟩
  rw [hk] at hm2 f1
  obtain ⟨W,w,m,w1,w2,w3⟩:=hw at' k (xs.map D.int) (by rw [EV hlt,hx]) (by rw [EW]; omega)
  have u0:=Fy c (b:=12) (by decide)
  have u1:=Fw c (b:=12) (by decide)
  have l1:=dh rows none (some (at':Int))
  have l2:=dh rows (some ((at':Int) + 1)) none
  have b2:∀ r:D,bG (.tup (bO rows none (some (at':Int)))) (.tup [r])=some (.tup (bO rows none (some (at':Int)) ++ [r])):=fun r=>n9 (by simp; omega)
  have b3:∀ r:D,bG (.tup (bO rows none (some (at':Int)) ++ [r])) (.tup (bO rows (some ((at':Int) + 1)) none))=some (.tup (bO rows none (some (at':Int)) ++ [r] ++ bO rows (some ((at':Int) + 1)) none)):=fun r=>n9 (by simp; omega)
  have fin:∀ r:D,ThR r→Th 130 (.tup (bO rows none (some (at':Int)) ++ [r] ++ bO rows (some ((at':Int) + 1)) none)):=fun r hr'=>.tup (by simp; omega) fun y hy=>by
   rcases List.mem_append.mp hy with z | z
   ·rcases List.mem_append.mp z with z | z
    ·exact hR y (c8 z)
    ·rw [List.mem_singleton.mp z]; exact hr'
   ·exact hR y (c8 z)
  have fx:∀ x ∈ xs.map D.int,dE 2 x:=fun x hx=>by
   obtain ⟨i,_,rfl⟩:=List.mem_map.mp hx
   exact (dO i).le (by decide)
  simp only [af,ar,ao,aD,aT,a7,a9,bin,un,cst,ac,tst,asB,aL,bQ,fF,EG,EI,EJ,EK,on,EH,Int.reduceLT,Int.reduceLE,Int.reducePow,Int.reduceNeg,b5,cR,bc,hd,hm,hix,EW,hm2,w1,w2,w3]
  refine kF (fun h=>?_) fun h=>?_
  ·have h:=FH h
   have q1:=dh (xs.map D.int) none (some (k:Int))
   have q2:=dh (xs.map D.int) (some ((k:Int) + 1)) none
   rw [EW] at q1 q2
   obtain ⟨x,hx',e⟩:=gc [D.int (if decide ((at':Int)=0)=true then 1 else 0),.int (m + 1),.int (-1),.bl true,.str "1",.non] (c % 12) u0 (by simpa using h)
   have a2:=n9 (a:=bO (xs.map D.int) none (some (k:Int))) (b:=[x]) (by simp; omega)
   have a3:=n9 (a:=bO (xs.map D.int) none (some (k:Int)) ++ [x]) (b:=bO (xs.map D.int) (some ((k:Int) + 1)) none) (by simp; omega)
   have fxx:dE 2 x:=by
    simp only [F7,FX,Hb] at hx'
    rcases hx' with rfl | rfl | rfl | rfl | rfl | rfl
    ·exact (dO _).le (by decide)
    ·exact (dO _).le (by decide)
    ·exact (dO _).le (by decide)
    ·exact (s_ _).le (by decide)
    ·exact (iy (x := "1") (by decide)).le (by decide)
    ·exact pP.le (by decide)
   simp only [af,ar,ao,a_,ax,aD,az,bin,un,cst,var,ac,aa,ah,cg,bn,noP,bv,ba,aL,EG,EI,EL,EM,EJ,EK,on,EH,reduceIte,Nat.reduceAdd,Int.reduceLT,Int.reduceNeg,Nat.reduceLeDiff,cE,eJ,cK,br,b5,pL,e,a2,a3,b2,b3]
   refine fin _ (.tup (by simp; omega) fun y hy=>?_)
   rcases List.mem_append.mp hy with z | z
   ·rcases List.mem_append.mp z with z | z
    ·exact fx y (c8 z)
    ·rw [List.mem_singleton.mp z]; exact fxx
   ·exact fx y (c8 z)
  ·have h:¬ c % 12 < 6:=by simpa using h
   simp only [af,ar,ao,aT,a9,bin,cst,ac,tst,asB,aL,fF,EG,on,EH,Int.reduceLT,Int.reduceNeg]
   refine kF (fun h'=>?_) fun h'=>?_
   ·have h':=FH h'
    have a1:=n9 (a:=xs.map D.int) (b:=[.int 1]) (by simp; omega)
    obtain ⟨x,hx',e⟩:=gc [D.tup (xs.map D.int ++ [.int 1]),.tup (bO (xs.map D.int) (some 1) none),.lst (xs.map D.int)] (c % 12 - 6) (by omega) (by simp; omega)
    have fxx:ThR x:=by
     simp only [F7,FX,Hb] at hx'
     rcases hx' with rfl | rfl | rfl
     ·refine .tup (by simp; omega) fun y hy=>?_
      rcases List.mem_append.mp hy with z | z
      ·exact fx y z
      ·rw [List.mem_singleton.mp z]; exact i1
     ·exact .tup (Fa (dh _ _ _) (by rw [EW]; omega)) fun y hy=>fx y (c8 hy)
     ·exact ⟨fun _ e=>(by cases e),mv _ fx⟩
    simp only [af,ar,ao,a_,ax,aD,az,bin,un,cst,var,ac,aa,ah,cg,bn,noP,bv,ba,e7,aL,EG,EI,EL,EM,EJ,EK,on,EH,reduceIte,Nat.reduceAdd,Int.reduceLT,Int.reduceNeg,Nat.reduceLeDiff,cE,eJ,br,b5,e_,a1,e,b2,b3]
    exact fin _ fxx
   ·have h':¬ c % 12 < 9:=by simpa using h'
    have a1:=n9 (a:=rows) (b:=[.tup [.int 1]]) (by simp; omega)
    obtain ⟨x,hx',e⟩:=gc [D.tup (rows ++ [.tup [.int 1]]),.tup (bO rows none (some (-1))),.lst rows] (c % 12 - 9) (by omega) (by simp; omega)
    simp only [af,ao,ax,az,a9,bin,un,cst,ac,aa,ah,cg,bn,noP,bv,ba,e7,aL,EG,EI,EL,EM,on,EH,reduceIte,Nat.reduceAdd,Int.reduceLT,Int.reduceNeg,Nat.reduceLeDiff,eJ,br,b5,e_,a1,e]
    simp only [F7,FX,Hb] at hx'
    rcases hx' with rfl | rfl | rfl
    ·refine .tup (by simp; omega) fun r hr'=>?_
     rcases List.mem_append.mp hr' with z | z
     ·exact hR r z
     ·rw [List.mem_singleton.mp z]; exact t1
    ·exact .tup (Fa (dh _ _ _) (by omega)) fun r z=>hR r (c8 z)
    ·exact .lst hR
end Wk
theorem gA.snoc {q:List CS}{s:CS} (h:gA q) (hs:∀ z ∈ s.1,z.2≤(ce (ay q) z.1).length∧(ce (ay q) z.1 ≠ []→1≤z.2)):gA (q ++ [s]):=by
 intro pre t post e z hz
 rcases List.eq_nil_or_concat post with rfl | ⟨po,x,rfl⟩
 ·obtain ⟨e1,e2⟩:=List.append_inj' e rfl
  injection e2 with e3 _
  subst e1
  subst e3
  exact hs z hz
 ·have e':q ++ [s]=(pre ++ t :: po) ++ [x]:=by rw [e]; simp
  obtain ⟨e1,_⟩:=List.append_inj' e' rfl
  exact h pre t po e1 z hz
theorem DC (c a b sz:Int) (ha:1≤a) (hb:1≤b):∃ v:Int,atI [D.int a,D.int b,D.int sz,D.int 1] (c % 4)=some (.int v)∧(1≤v∨v=sz):=by
 have:c % 4=0∨c % 4=1∨c % 4=2∨c % 4=3:=by omega
 rcases this with h | h | h | h <;> rw [h]
 ·exact ⟨a,rfl,.inl ha⟩
 ·exact ⟨b,rfl,.inl hb⟩
 ·exact ⟨sz,rfl,.inr rfl⟩
 ·exact ⟨1,rfl,.inl (by omega)⟩
namespace Sh
theorem ut (k:Nat) (ds:List D) (h:∀ d ∈ ds,g__Lsame k [d,d]=some (.bl true)) (hx:ds.length≤4000000):g__Lsame (k + 1) [.tup ds,.tup ds]=some (.bl true):=by
 have hc:cc (nmG 2) noT (aC 2 (g__Lsame k) (aa (bin ixE (ac 0) (ac 2)) (aa (bin ixE (ac 1) (ac 2)) ah))) [Sl.val (D.tup ds),Sl.val (D.tup ds),Sl.no] (dX 0 ds.length)=some ((List.range ds.length).map fun _=>D.bl true):=by
  rw [oY]
  refine bR _ _ _ fun i hi=>?_
  rw [HI] at hi
  refine bE ?_
  simp only [af,bin,ac,aC,aa,ah,EG,EI,EL,EM,EJ,EK,on,EH,reduceIte,Nat.reduceAdd,cR,tU,EV hi,h _ (Fx hi)]
 have hz:(dX 0 ds.length).length≤16777216:=by simp [dX]; omega
 have hr:jb [D.int (ds.length:Int)]=some (dX 0 ds.length):=by rw [db (by omega) (by omega),Gd]
 have hb:((List.range ds.length).map fun _=>true).all id=true:=by simp
 refine bE ?_
 simp only [g__Lsame,b__Lsame,af,aG,ar,ao,a_,ax,aT,aY,a7,az,a9,bin,un,ac,tst,asB,cC,orT,aa,ah,cN,isF,aV,aQ,lD,tyN,EG,EI,EN,EO,EQ,ER,EL,EM,EJ,EK,on,EH,List.replicate,ES,FL,reduceIte,Nat.reduceAdd,Nat.reduceSub,Fz,Ff,G0,cP,String.reduceBEq,Fu,Fv,Fl,eM,br,bc,hr,hc,br hz,iG (fun _:Nat=>true),hb]
end Sh
namespace Wk
theorem rA:∀ k:Nat,g__Lsame k=Sh.g__Lsame k
 | 0=>rfl
 | k + 1=>by
  show ci 2 _ (b__Lsame (g__Lsame k))=ci 2 _ (Sh.b__Lsame (Sh.g__Lsame k))
  rw [rA k]; rfl
theorem Ah:g__Lmixed=Sh.g__Lmixed:=rfl
def Ap:DE→Option Out :=
 (av (cp 5 (bn ah))
 (av (c4 (a8 aH (bin ixE (ac 0) (ac 3))) (nmG 6)
 (av (aD 7 (un bg (ac 6)))
 (av (dl 5 (eY cW (aa (var 7) (aa (bin ixE (bn (aa (bin bG (cst (.int 1)) (bin bW (bin bK (ac 4) (cst (.int 4))) (cst (.int 3)))) (aa (bin bG (cst (.int 1)) (bin bW (bin bK (ac 4) (cst (.int 4))) (bin bG (ac 7) (cst (.int 1))))) (aa (var 7) (aa (cst (.int 1)) ah))))) (bin bW (ac 4) (cst (.int 4)))) ah))))
 (aD 4 (bin bK (ac 4) (bin lj (cst (.int 10)) (cst (.int 6))))))))
 (dl 2 (un aW (ac 5)))))
theorem p7:b__Lcounts=(av (cp 2 (bn ah))
 (av (c4 (eS (aa (un bg (ac 0)) ah)) (nmG 3)
 (av (aD 4 (cst (.int 0)))
 (av (ifS (tst (bin ltD (ac 3) (un bg (ac 1))))
 (aD 4 (aC 1 g__Lmixed (aa (bin ixE (ac 1) (ac 3)) ah)))
 a9) Ap)))
 (az (un aW (ac 2))))):=rfl
theorem Ao {W C:D}{k c:Int}{L:List D}{ns:List Str}{f:Str→List Str}{s5 s6 s7:Sl} (hix:ixE W (.int k)=some (.lst (ns.map fun n=>b9 (f n)))) (hL:L.length≤10000) (hw:∀ n,(f n).length≤10000) (hl:ns.length≤1000) :
  wp (Ap [Sl.val W,Sl.val C,Sl.own (.lst L),Sl.val (.int k),Sl.val (.int c),s5,s6,s7]) fun r=>∃ (rs:List (Str×Nat)) (s4 s5 s6 s7:Sl),r=.nx [Sl.val W,Sl.val C,Sl.own (.lst (L ++ [.tup (rs.map fun z=>.int (z.2:Int))])),Sl.val (.int k),s4,s5,s6,s7]∧rs.map (·.1)=ns∧∀ z ∈ rs,z.2≤(f z.1).length∧(f z.1 ≠ []→1≤z.2):=by
 have p6:lj (.int 10) (.int 6)=some (.int (10 ^ 6)):=gF (by omega) (by omega) (by decide)
 unfold Ap
 simp only [af,ar,ao,cp,bP,bin,ac,ah,bn,a8,aH,EG,EI,EM,EJ,EK,on,EH,reduceIte,Nat.reduceLeDiff,br,hix]
 refine cz (fun n=>b9 (f n)) ns (fun pre E=>∃ (rs:List (Str×Nat)) (c:Int) (s6 s7:Sl),E=[Sl.val W,Sl.val C,Sl.own (.lst L),Sl.val (.int k),Sl.val (.int c),Sl.own (.lst (rs.map fun z=>.int (z.2:Int))),s6,s7]∧rs.map (·.1)=pre∧∀ z ∈ rs,z.2≤(f z.1).length∧(f z.1 ≠ []→1≤z.2)) rfl ⟨[],c,_,_,rfl,rfl,fun z hz=>by cases hz⟩ ?_ ?_
 ·rintro pre n post E hs ⟨rs,c,s6,s7,rfl,h1,h2⟩
  have hln:bg (b9 (f n))=some (.int ((f n).length:Int)):=by
   show some (D.int (((f n).map D.str).length:Int))=_
   rw [EW]
  have hpos:(0:Int) < ((f n).length:Int) + 1:=by omega
  have hrl:rs.length≤ns.length:=by
   have:=FZ List.length h1
   rw [EW] at this
   rw [this,hs]; simp
  have hm0:=Fy (c / 4) (show ((f n).length:Int) + 1 ≠ 0 by omega)
  obtain ⟨v,hv,hv2⟩:=DC c (1 + c / 4 % 3) (1 + c / 4 % (((f n).length:Int) + 1)) ((f n).length:Int) (by omega) (by omega)
  simp only [af,aJ,bS,ar,ao,aD,bin,un,cst,var,ac,aa,ah,bn,nmG,aL,bQ,EG,EI,EL,EM,EJ,EK,on,EH,reduceIte,Nat.reduceAdd,Int.reduceLT,Int.reduceLE,Int.reducePow,Nat.reduceLeDiff,cE,br,lQ,b5,dl,eY,cW,hln,aL hpos,hv,p6,EW,lQ (show rs.length < 16777216 by omega)]
  refine ⟨rs ++ [(n,(if v < ((f n).length:Int) then v else ((f n).length:Int)).toNat)],c / 1000000,Sl.val (b9 (f n)),Sl.val (.int ((f n).length:Int)),?_,by rw [Fs,h1]; rfl,fun z hz=>?_⟩
  ·have e:(((if v < ((f n).length:Int) then v else ((f n).length:Int)).toNat:Nat):Int)=if v < ((f n).length:Int) then v else ((f n).length:Int):=by
    split
    ·rcases hv2 with h | h <;> omega
    ·omega
   rw [Fs,He,e]
  ·rcases List.mem_append.mp hz with hz | hz
   ·exact h2 z hz
   ·rw [List.mem_singleton.mp hz]
    refine ⟨?_,fun hne=>?_⟩
    ·show (if v < ((f n).length:Int) then v else ((f n).length:Int)).toNat≤(f n).length
     split <;> omega
    ·have hp:0 < (f n).length:=List.length_pos_iff.mpr hne
     show 1≤(if v < ((f n).length:Int) then v else ((f n).length:Int)).toNat
     split
     ·rcases hv2 with h | h <;> omega
     ·omega
 ·rintro E ⟨rs,c,s6,s7,rfl,h1,h2⟩
  simp only [af,ao,un,ac,EG,EJ,EK,on,EH,reduceIte,lQ,dl,bp,lQ (show L.length < 16777216 by omega)]
  exact ⟨rs,_,_,_,_,rfl,h1,h2⟩
theorem vk (p:List Sp) (cs:List Int) (hb:∀ i ∈ cs,Builtin.Int.intBits i≤2 ^ 20) (hp:p.length≤1000) (h8:∀ s ∈ p,s.1.length≤1000) (hW:(aq p).length≤10000):wp (eC [.lst ((List.range p.length).map (bq p)),.lst (cs.map D.int)]) fun d=>∃ q,ay q=p∧gA q∧d=hY q:=by
 have hr:=wo p.length (by omega)
 simp only [eC,p7,af,aG,ar,ao,cp,bP,un,ac,aa,ah,bn,cN,EG,EI,EN,EO,EQ,ER,EL,EM,EJ,EK,on,List.replicate,reduceIte,Nat.reduceAdd,Nat.reduceSub,Nat.reduceLeDiff,br,bZ,EW,Fo,hr]
 refine cz (fun i:Nat=>D.int (i:Int)) (List.range p.length) (fun pre E=>∃ (q:List CS) (s3 s4 s5 s6 s7:Sl),E=[Sl.val (.lst ((List.range p.length).map (bq p))),Sl.val (.lst (cs.map D.int)),Sl.own (.lst (q.map gq)),s3,s4,s5,s6,s7]∧ay q=p.take pre.length∧gA q) rfl ⟨[],_,_,_,_,_,rfl,rfl,fun pre s post e=>by cases pre <;> cases e⟩ ?_ ?_
 ·rintro pre k post E hs ⟨q,s3,s4,s5,s6,s7,rfl,hq1,hq2⟩
  obtain ⟨hk1,hk2⟩:=gb hs
  subst hk1
  have hql:q.length=pre.length:=by
   have:=FZ List.length hq1
   rw [GH] at this
   unfold ay at this
   rw [EW] at this
   omega
  have hwin:ixE (.lst ((List.range p.length).map (bq p))) (.int (pre.length:Int))=some (.lst ((bY p pre.length).map fun n=>b9 (ce (p.take pre.length) n))):=by
   show atI ((List.range p.length).map (bq p)) (pre.length:Int)=_
   rw [cu,Fg,Gh hk2]; rfl
  have hwl:∀ n,(ce (p.take pre.length) n).length≤10000:=fun n=>by
   have h1:=oz n (p.take pre.length)
   have h2:(aq (p.take pre.length)).length≤(aq p).length:=gU (p:=p) (post:=p.drop pre.length) (by rw [G7])
   omega
  have hnl:(bY p pre.length).length≤1000:=by rw [gD hk2]; exact h8 _ (Fx hk2)
  have fin:∀ c:Int,wp (Ap [Sl.val (.lst ((List.range p.length).map (bq p))),Sl.val (.lst (cs.map D.int)),Sl.own (.lst (q.map gq)),Sl.val (.int (pre.length:Int)),Sl.val (.int c),s5,s6,s7]) fun r=>match r with
    | .nx E'=>∃ (q:List CS) (s3 s4 s5 s6 s7:Sl),E'=[Sl.val (.lst ((List.range p.length).map (bq p))),Sl.val (.lst (cs.map D.int)),Sl.own (.lst (q.map gq)),s3,s4,s5,s6,s7]∧ay q=p.take (pre ++ [pre.length]).length∧gA q
    | .ct E'=>∃ (q:List CS) (s3 s4 s5 s6 s7:Sl),E'=[Sl.val (.lst ((List.range p.length).map (bq p))),Sl.val (.lst (cs.map D.int)),Sl.own (.lst (q.map gq)),s3,s4,s5,s6,s7]∧ay q=p.take (pre ++ [pre.length]).length∧gA q
    | _=>False:=fun c=>by
   refine dF (Ao hwin (by rw [EW]; omega) hwl hnl) ?_
   rintro r ⟨rs,t4,t5,t6,t7,rfl,h1,h2⟩
   refine ⟨q ++ [(rs,(p[pre.length]).2)],Sl.val (.int (pre.length:Int)),t4,t5,t6,t7,?_,?_,hq2.snoc ?_⟩
   ·rw [Fs]; rfl
   ·rw [ke,hq1,Fb,FT,iL hk2]
    congr 1
    show [(rs.map (·.1),(p[pre.length]).2)]=[p[pre.length]]
    rw [h1,gD hk2]
   ·intro z hz
    rw [hq1]
    exact h2 z hz
  simp only [af,aJ,ar,ao,aD,aT,bin,un,cst,ac,tst,asB,nmG,fF,EI,EJ,EK,on,EH,bZ]
  refine ir (fun h=>?_) fun h=>?_
  ·rw [EW] at h
   have hlt:pre.length < cs.length:=by omega
   have hcell:atI (cs.map D.int) (pre.length:Int)=some (.int cs[pre.length]):=by
    rw [cu,Fg,EV hlt]; rfl
   simp only [bS,ao,aD,bin,ac,aC,aa,ah,EG,EI,EL,EM,EJ,EK,on,EH,reduceIte,Nat.reduceAdd,b5,hcell,Ah]
   refine dF (Sh.ko (hb _ (Fx hlt))) ?_
   rintro _ ⟨e,rfl,he⟩
   exact fin e
  ·simp only [af,ao,a9]
   exact fin 0
 ·rintro E ⟨q,s3,s4,s5,s6,s7,rfl,hq1,hq2⟩
  simp only [af,ao,ax,az,un,ac,EG,EI,on,EH,bp]
  rw [Fo,List.take_length] at hq1
  exact ⟨q,hq1,hq2,rfl⟩
def mnI (m:Int) (n:Nat):Int:=if (n:Int) < m then (n:Int) else m
def bw (ls:List (List Int)):D:=.tup (ls.map fun l=>.tup (l.map D.int))
theorem rG (ns:List Nat) (m:Int) (hl:ns.length≤1000):fc [ck ns,.int m]=some (.tup (ns.map fun n=>.int (mnI m n))):=by
 have hc:cc (nmG 2) noT (eY cW (aa (var 1) (aa (var 2) ah))) [Sl.val (.tup (ns.map fun n:Nat=>.int (n:Int))),Sl.val (.int m),Sl.no] (ns.map fun n:Nat=>.int (n:Int))=some (ns.map fun n=>.int (mnI m n)):=by
  refine bR (fun n:Nat=>D.int (n:Int)) _ ns fun n _=>?_
  refine bE ?_
  simp only [af,var,aa,ah,EG,EI,EJ,EK,on,EH,eY,cW,mnI]
 refine bE ?_
 simp only [fc,b_at_most,ck,af,aG,ax,az,un,var,a8,aV,aQ,aH,EG,EI,EN,EO,EQ,ER,EL,EM,EJ,EK,on,List.replicate,ES,FL,reduceIte,Nat.reduceAdd,Nat.reduceSub,br,bp,EW,br (show ns.length≤16777216 by omega),hc]
def hX (p:List Sp) (m:Int):List (List Int):=(szs p).map fun ns=>ns.map (mnI m)
def g8 (p:List Sp):List (List Int):=(szs p).map fun ns=>ns.map fun n:Nat=>(n:Int)
theorem j8 (p:List Sp) (m:Int):bw (hX p m)=.tup ((List.range p.length).map fun k=>.tup ((szK p k).map fun n=>.int (mnI m n))):=by
 unfold bw hX szs
 rw [Fm,Fm]
 congr 1
 refine FJ fun k _=>?_
 show D.tup (List.map D.int (List.map (mnI m) (szK p k)))=_
 rw [Fm]; rfl
theorem j7 (p:List Sp):bw (g8 p)=.tup ((List.range p.length).map fun k=>ck (szK p k)):=by
 unfold bw g8 szs
 rw [Fm,Fm]
 congr 1
 refine FJ fun k _=>?_
 show D.tup (List.map D.int (List.map (fun n:Nat=>(n:Int)) (szK p k)))=_
 rw [Fm]; rfl
theorem yB (p:List Sp) (hp:oj p) (m:Int):jy [aZ p,.int m]=some (bw (hX p m)):=by
 have hwc:=dP p hp.len (by have:=hp.nms; omega) hp.wds
 have hc:cc (nmG 2) noT (aC 2 fc (aa (var 2) (aa (var 1) ah))) [Sl.val (aZ p),Sl.val (.int m),Sl.no] ((List.range p.length).map (wcD p))=some ((List.range p.length).map fun k=>.tup ((szK p k).map fun n=>.int (mnI m n))):=by
  refine bR (wcD p) _ _ fun k hk=>?_
  have:=rG (szK p k) m (hp.sz k)
  refine bE ?_
  simp only [af,var,aC,aa,ah,EG,EI,EL,EM,EJ,EK,on,EH,reduceIte,Nat.reduceAdd,vT,this]
 have hl:=hp.len
 refine bE ?_
 rw [j8]
 simp only [jy,b_alike,af,aG,ax,az,un,var,aC,aa,ah,a8,aV,aQ,aH,EG,EI,EN,EO,EQ,ER,EL,EM,EJ,EK,on,List.replicate,ES,FL,reduceIte,Nat.reduceAdd,Nat.reduceSub,br,bp,hwc,EW,Fo,br (show p.length≤16777216 by omega),hc]
theorem sk (ls:List (List Int)) (i:Nat) (E:DE) (h:i < E.length):cc (nmG i) noT (un jG (ac i)) E (ls.map fun l=>.tup (l.map D.int))=some ((ls.map List.sum).map D.int):=by
 rw [Fm]
 refine bR (fun l:List Int=>D.tup (l.map D.int)) _ ls fun l _=>?_
 unfold un ac
 rw [FE h]
 exact v7 l
theorem vY (ls:List (List Int)) (hl:ls.length≤1000):ix [bw ls]=some (.int (ls.map List.sum).sum):=by
 have hs:=sk ls 1 [Sl.val (D.tup (ls.map fun l=>.tup (l.map D.int))),Sl.no] (show 1 < 2 by decide)
 refine bE ?_
 simp only [ix,b_total,bw,af,aG,ax,az,un,var,a8,aV,aQ,aH,EG,EI,EN,EO,EQ,ER,EL,EM,EJ,EK,on,List.replicate,ES,FL,reduceIte,Nat.reduceAdd,Nat.reduceSub,br,EW,br (show ls.length≤16777216 by omega),hs,oK]
theorem lT (ls:List (List Int)) (hl:ls.length≤1000) (hr:∀ l ∈ ls,l.length≤1000):g__Lsame 6 [bw ls,bw ls]=some (.bl true):=by
 rw [rA]
 refine Sh.ut 5 _ (fun d hd=>?_) (by rw [EW]; omega)
 obtain ⟨l,hm,rfl⟩:=List.mem_map.mp hd
 rw [Sh.uu 3 l l (by have:=hr l hm; omega) (by have:=hr l hm; omega),Fj rfl]
theorem same_int (i:Int):g__Lsame 6 [.int i,.int i]=some (.bl true):=by
 rw [rA,Sh.same_int 5 i i,Fj rfl]
theorem yY {ls:List (List Int)} (hl:ls.length≤1000) (hr:∀ l ∈ ls,l.length≤1000):SmC (bw ls):=by
 refine ⟨fun rows e=>?_,fun rows e r hm xs ex=>?_⟩
 ·cases e; rw [EW]; exact hl
 ·cases e
  obtain ⟨l,hm',rfl⟩:=List.mem_map.mp hm
  cases ex
  rw [EW]; exact hr l hm'
theorem zL (p:List Sp) (k:Nat) (E:DE) (h:13 < E.length):cc (nmG 13) noT (un bg (ac 13)) E ((bY p k).map fun n=>b9 (ce (p.take k) n))=some ((szK p k).map fun n:Nat=>D.int (n:Int)):=by
 unfold szK
 rw [Fm]
 refine bR (fun n=>b9 (ce (p.take k) n)) _ _ fun n _=>?_
 unfold un ac
 rw [FE h]
 show bg (D.tup _)=some (D.int (((ce (p.take k) n).length:Nat):Int))
 simp only [bc,EW]
theorem B0 (p:List Sp) (hp:oj p) (E:DE) (hE:E.length=15):cc (nmG 12) noT (un aW (aQ [13] (a8 aH (var 12)) (nmG 13) noT (un bg (ac 13)))) E ((List.range p.length).map (bq p))=some ((List.range p.length).map fun k=>ck (szK p k)):=by
 refine bR (bq p) _ _ fun k hk=>?_
 have hv:var 12 (E.set 12 (.val (bq p k)))=some (bq p k):=by unfold var; rw [FE (by omega)]
 have hik:aH (bq p k)=some ((bY p k).map fun n=>b9 (ce (p.take k) n)):=rfl
 have hz:=hp.sz k
 have hcf:aQ [13] (a8 aH (var 12)) (nmG 13) noT (un bg (ac 13)) (E.set 12 (.val (bq p k)))=some (.lst ((szK p k).map fun n:Nat=>D.int (n:Int))):=by
  unfold aQ a8
  rw [hv]
  simp only [EG,hik]
  rw [if_pos (fP (by rw [EW]; unfold szK at hz; rw [EW] at hz; omega)),zL p k _ (by unfold aV; simp; omega)]; rfl
 show (aQ [13] (a8 aH (var 12)) (nmG 13) noT (un bg (ac 13)) (E.set 12 (.val (bq p k)))).bind aW=_
 rw [hcf]; rfl
theorem CB (p:List Sp) (hp:oj p) (m:Int) (E:DE) (hE:E.length=15) (h7:E[7]? = some (.val (.int m))):cc (nmG 12) noT (un aW (aQ [14] (a8 aH (var 12)) (nmG 14) noT (eY cW (aa (var 7) (aa (var 14) ah))))) E ((List.range p.length).map fun k=>ck (szK p k))=some ((List.range p.length).map fun k=>.tup ((szK p k).map fun n=>.int (mnI m n))):=by
 refine bR (fun k=>ck (szK p k)) _ _ fun k hk=>?_
 have hv:var 12 (E.set 12 (.val (ck (szK p k))))=some (ck (szK p k)):=by unfold var; rw [FE (by omega)]
 have hik:aH (ck (szK p k))=some ((szK p k).map fun n:Nat=>D.int (n:Int)):=rfl
 have hz:=hp.sz k
 have hc:cc (nmG 14) noT (eY cW (aa (var 7) (aa (var 14) ah))) (aV [14] (E.set 12 (.val (ck (szK p k))))) ((szK p k).map fun n:Nat=>D.int (n:Int))=some ((szK p k).map fun n=>.int (mnI m n)):=by
  refine bR (fun n:Nat=>D.int (n:Int)) _ _ fun n _=>?_
  have g14:((aV [14] (E.set 12 (.val (ck (szK p k))))).set 14 (.val (D.int (n:Int))))[14]? = some (.val (D.int (n:Int))):=by rw [FE (by unfold aV; simp; omega)]
  have g7:((aV [14] (E.set 12 (.val (ck (szK p k))))).set 14 (.val (D.int (n:Int))))[7]? = some (.val (.int m)):=by
   rw [E8 (by decide)]
   show ((E.set 12 _).set 14 .no)[7]? = _
   rw [E8 (by decide),E8 (by decide),h7]
  unfold eY aa var ah
  rw [g14,g7]
  simp only [EG,EI,cW,mnI]
 have hcf:aQ [14] (a8 aH (var 12)) (nmG 14) noT (eY cW (aa (var 7) (aa (var 14) ah))) (E.set 12 (.val (ck (szK p k))))=some (.lst ((szK p k).map fun n=>.int (mnI m n))):=by
  unfold aQ a8
  rw [hv]
  simp only [EG,hik]
  rw [if_pos (fP (by rw [EW]; omega)),hc]; rfl
 show (aQ [14] (a8 aH (var 12)) (nmG 14) noT (eY cW (aa (var 7) (aa (var 14) ah))) (E.set 12 (.val (ck (szK p k))))).bind aW=_
 rw [hcf]; rfl
end Wk
namespace Wk
theorem CA:g__Lcell=Sh.g__Lcell:=rfl
theorem Af:g__Ltexts=Sh.g__Ltexts:=rfl
theorem Cz:g__Lplay=Sh.g__Lplay:=rfl
theorem y0 (xs:List D):Bj (.lst xs) (.int (-1))=some (.lst xs.reverse):=rfl
theorem zO {ns:List Int}{c c1:Int}{Nm Wd:D}{p:List Sp}{q:List CS}{cs:List D} (hp:AD p) (hl:p.length≤60) (h30:∀ s ∈ p,s.1 ≠ []∧s.1.length≤30) (k0:Sh.g__Lcell [.scr ns,.int 0]=some (.int c)) (k1:Sh.g__Lcell [.scr ns,.int 1]=some (.int c1))
  (hnm:Sh.g__Ltexts [.int c1,.int (2 + c % 7),.int 8]=some Nm) (hwd:Sh.g__Ltexts [.int (c / 100),.int (1 + c / 4 % 4),.int 12]=some Wd) (hcs:(bO ns (some 2) (some 42)).map D.int=cs)
  (hpl:Sh.g__Lplay [.lst cs,Nm,Wd]=some (aZ p)) (hct:eC [.lst ((List.range p.length).map (bq p)),.lst cs.reverse]=some (hY q)) (hq:ay q=p) (hqc:gA q):pM [.scr ns]=some (.bl true):=by
 have hpf:=hp.tooj
 have hwi:=qt p hp.len (by have:=hp.nms; omega) hp.wds
 have hwc:=dP p hp.len (by have:=hp.nms; omega) hp.wds
 have ewc:D.tup ((List.range p.length).map (wcD p))=bw (g8 p):=by
  rw [j7]
  congr 1
  exact FJ fun k _=>vT p k
 rw [ewc] at hwc
 have zl:∀ l ∈ szs p,l.length≤1000:=fun l h=>by
  obtain ⟨k,_,rfl⟩:=List.mem_map.mp h
  exact hpf.sz k
 have lm:(g8 p).length≤1000∧∀ l ∈ g8 p,l.length≤1000:=⟨by unfold g8; rw [EW,gC]; omega,fun l h=>by
  obtain ⟨x,hx,rfl⟩:=List.mem_map.mp h
  rw [EW]; exact zl x hx⟩
 have ld:∀ m,(hX p m).length≤1000∧∀ l ∈ hX p m,l.length≤1000:=fun m=>⟨by unfold hX; rw [EW,gC]; omega,fun l h=>by
  obtain ⟨x,hx,rfl⟩:=List.mem_map.mp h
  rw [EW]; exact zl x hx⟩
 have ecn:hY q=bw (q.map fun s=>s.1.map fun z=>(z.2:Int)):=by
  unfold hY bw
  rw [Fm]
  congr 1
  refine FJ fun s _=>?_
  show gq s=D.tup (List.map D.int (List.map _ s.1))
  rw [Fm]; rfl
 have hql:q.length=p.length:=by rw [← hq]; exact (EW _).symm
 have qs:∀ s ∈ q,s.1 ≠ []∧s.1.length≤30:=fun s hs=>by
  have:=h30 (plain s) (by rw [← hq]; exact List.mem_map.mpr ⟨s,hs,rfl⟩)
  obtain ⟨a,b⟩:=this
  have b:(s.1.map (·.1)).length≤30:=b
  rw [EW] at b
  exact ⟨fun z=>a (by show s.1.map _=[]; rw [z]; rfl),b⟩
 have lq:(q.map fun s=>s.1.map fun z=>(z.2:Int)).length≤1000∧∀ l ∈ q.map fun s=>s.1.map fun z=>(z.2:Int),l.length≤1000:=⟨by rw [EW]; omega,fun l h=>by
  obtain ⟨x,hx,rfl⟩:=List.mem_map.mp h
  rw [EW]; have:=(qs x hx).2; omega⟩
 have ask:∀ ls:List (List Int),(ls.length≤1000∧∀ l ∈ ls,l.length≤1000)→ix [bw ls]=some (.int (ls.map List.sum).sum)∧dB [aZ p,bw ls,.lst ((List.range p.length).map (bq p))]=some (.bl true):=fun ls h=>⟨vY ls h.1,qe hp (yY h.1 h.2)⟩
 have sp:∀ c:Int,∃ d,eB [hY q,.lst ((List.range p.length).map (bq p)),.int c]=some d∧Th 130 d:=fun c=>by
  have:=uj (c:=c) (rows:=q.map gq) (ws:=(List.range p.length).map (bq p)) (by rw [EW]; omega) (fun r hr=>?_) (fun i j xs h1 h2=>?_)
  ·exact dy.mp this
  ·obtain ⟨s,hs,rfl⟩:=List.mem_map.mp hr
   refine ⟨s.1.map fun z=>(z.2:Int),by unfold gq; rw [Fm]; rfl,fun z=>(qs s hs).1 (List.map_eq_nil_iff.mp z),by rw [EW]; exact (qs s hs).2⟩
  ·have hi:i < q.length:=by
    have:=(List.getElem?_eq_some_iff.mp h1).1
    rwa [EW] at this
   rw [Fg,EV hi] at h1
   have e1:gq q[i]=.tup xs:=E4 h1
   have e2:xs=(q[i]).1.map fun z=>D.int (z.2:Int):=by
    unfold gq at e1
    injection e1 with e1
    exact e1.symm
   have hip:i < p.length:=by omega
   have e3:bY p i=(q[i]).1.map (·.1):=by
    rw [gD hip]
    have:p[i]? = some (plain q[i]):=by rw [← hq]; unfold ay; rw [Fg,EV hi]; rfl
    rw [EV hip] at this
    rw [E4 this]; rfl
   have hj:j < (bY p i).length:=by
    rw [e3,EW]
    rw [e2,EW] at h2
    exact h2
   refine ⟨bq p i,b9 (ce (p.take i) ((bY p i)[j])),_,by rw [cu,Fg,Gh hip]; rfl,?_,rfl⟩
   show atI ((bY p i).map fun n=>b9 (ce (p.take i) n)) (j:Int)=_
   rw [cu,Fg,EV hj]; rfl
 obtain ⟨M,hM0,hM⟩:∃ M:Int,0 < M∧atI [D.int 5,.int 400] (c / 32 % 2)=some (.int M):=by
  rcases (show c / 32 % 2=0∨c / 32 % 2=1 by omega) with h | h
  ·exact ⟨5,by decide,by rw [h]; rfl⟩
  ·exact ⟨400,by decide,by rw [h]; rfl⟩
 have hmod:=aL (i:=c / 64) hM0
 generalize hm:1 + c / 64 % M=m
 have hman:cc (nmG 12) noT (un aW (aQ [13] (a8 aH (var 12)) (nmG 13) noT (un bg (ac 13)))) [Sl.val (.scr ns),Sl.val (.int c),Sl.val Nm,Sl.val Wd,Sl.val (aZ p),Sl.val (.lst ((List.range p.length).map (bq p))),Sl.no,Sl.no,Sl.no,Sl.no,Sl.no,Sl.no,Sl.no,Sl.no,Sl.no] ((List.range p.length).map (bq p))=some ((List.range p.length).map fun k=>ck (szK p k)):=B0 p hpf _ rfl
 have hdue:∀ s8:Sl,cc (nmG 12) noT (un aW (aQ [14] (a8 aH (var 12)) (nmG 14) noT (eY cW (aa (var 7) (aa (var 14) ah))))) [Sl.val (.scr ns),Sl.val (.int c),Sl.val Nm,Sl.val Wd,Sl.val (aZ p),Sl.val (.lst ((List.range p.length).map (bq p))),Sl.val (.tup ((List.range p.length).map fun k=>ck (szK p k))),Sl.val (.int m),s8,Sl.no,Sl.no,Sl.no,Sl.no,Sl.no,Sl.no] ((List.range p.length).map fun k=>ck (szK p k))=some ((List.range p.length).map fun k=>.tup ((szK p k).map fun n=>.int (mnI m n))):=fun s8=>CB p hpf m _ rfl rfl
 have hsm:=lT (g8 p) lm.1 lm.2
 have hsd:=lT (hX p m) (ld m).1 (ld m).2
 have hal:=yB p hpf m
 have zz:((List.range p.length).map (bq p)).length≤16777216:=by rw [EW,Fo]; omega
 have zy:((List.range p.length).map fun k=>ck (szK p k)).length≤16777216:=by rw [EW,Fo]; omega
 rw [j7] at hwc hsm
 rw [j8] at hsd hal
 refine bE ?_
 simp only [pM,yx,CA,Af,Cz]
 generalize hK1:av (aD 9 _) _=K1
 simp only [af,aG,ar,ao,aD,aT,a7,a9,bin,un,cst,var,ac,tst,asB,cC,aC,aa,ah,bn,a8,bv,ba,aV,aQ,aL,bQ,aH,EG,EI,EN,EO,EQ,ER,EL,EM,EJ,EK,on,EH,List.replicate,ES,FL,reduceIte,Nat.reduceAdd,Nat.reduceSub,Int.reduceLT,Int.reduceLE,Int.reducePow,Nat.reduceLeDiff,Fz,cE,jt,br,b5,bp,k0,k1,hnm,hwd,hcs,hpl,hwi,br zz,hman,hwc,hsm,hM,hmod,hm,br zy,hdue,hal,hsd]
 rw [← hK1,← j7,← j8]
 generalize hL1:av (aD 1 _) _=L1
 simp only [af,ar,ao,aD,bP,bin,cst,var,ac,aC,aa,ah,bn,a8,bv,ba,aH,EG,EI,EL,EM,EJ,EK,on,EH,reduceIte,Nat.reduceAdd,Int.reduceNeg,Nat.reduceLeDiff,jt,br,hcs,y0,hct]
 rw [ecn]
 generalize hCq:(q.map fun s=>s.1.map fun z=>(z.2:Int))=C at ecn lq
 refine cz bw [C,g8 p,hX p m] (fun _ E=>∃ s10,E=[Sl.val (D.scr ns),Sl.val (D.int c),Sl.val Nm,Sl.val Wd,Sl.val (aZ p),Sl.val (D.lst ((List.range p.length).map (bq p))),Sl.val (bw (g8 p)),Sl.val (D.int m),Sl.val (bw (hX p m)),Sl.val (bw C),s10,Sl.no,Sl.no,Sl.no,Sl.no]) rfl ⟨_,rfl⟩ ?_ ?_
 ·rintro pre ls post E hs ⟨s10,rfl⟩
  have hb:ls.length≤1000∧∀ l ∈ ls,l.length≤1000:=by
   have:ls ∈ [C,g8 p,hX p m]:=by rw [hs]; simp
   simp only [F7,FX,Hb] at this
   rcases this with rfl | rfl | rfl
   ·exact lq
   ·exact lm
   ·exact ld m
  obtain ⟨t1,t2⟩:=ask ls hb
  have hsu:=sk ls 12 [Sl.val (D.scr ns),Sl.val (D.int c),Sl.val Nm,Sl.val Wd,Sl.val (aZ p),Sl.val (D.lst ((List.range p.length).map (bq p))),Sl.val (bw (g8 p)),Sl.val (D.int m),Sl.val (bw (hX p m)),Sl.val (bw C),Sl.val (bw ls),Sl.no,Sl.no,Sl.no,Sl.no] (show 12 < 15 by decide)
  have hit:a8 aH (var 10) [Sl.val (D.scr ns),Sl.val (D.int c),Sl.val Nm,Sl.val Wd,Sl.val (aZ p),Sl.val (D.lst ((List.range p.length).map (bq p))),Sl.val (bw (g8 p)),Sl.val (D.int m),Sl.val (bw (hX p m)),Sl.val (bw C),Sl.val (bw ls),Sl.no,Sl.no,Sl.no,Sl.no]=some (ls.map fun l=>.tup (l.map D.int)):=rfl
  have hcf:aQ [12] (a8 aH (var 10)) (nmG 12) noT (un jG (ac 12)) [Sl.val (D.scr ns),Sl.val (D.int c),Sl.val Nm,Sl.val Wd,Sl.val (aZ p),Sl.val (D.lst ((List.range p.length).map (bq p))),Sl.val (bw (g8 p)),Sl.val (D.int m),Sl.val (bw (hX p m)),Sl.val (bw C),Sl.val (bw ls),Sl.no,Sl.no,Sl.no,Sl.no]=some (.lst ((ls.map List.sum).map D.int)):=by
   unfold aQ
   rw [hit]
   simp only [EG]
   rw [if_pos (fP (by rw [EW]; have:=hb.1; omega))]
   show Option.map _ (cc _ _ _ _ _)=_
   rw [show aV [12] [Sl.val (D.scr ns),Sl.val (D.int c),Sl.val Nm,Sl.val Wd,Sl.val (aZ p),Sl.val (D.lst ((List.range p.length).map (bq p))),Sl.val (bw (g8 p)),Sl.val (D.int m),Sl.val (bw (hX p m)),Sl.val (bw C),Sl.val (bw ls),Sl.no,Sl.no,Sl.no,Sl.no]=[Sl.val (D.scr ns),Sl.val (D.int c),Sl.val Nm,Sl.val Wd,Sl.val (aZ p),Sl.val (D.lst ((List.range p.length).map (bq p))),Sl.val (bw (g8 p)),Sl.val (D.int m),Sl.val (bw (hX p m)),Sl.val (bw C),Sl.val (bw ls),Sl.no,Sl.no,Sl.no,Sl.no] from rfl,hsu]; rfl
  generalize hcF:aQ [12] (a8 aH (var 10)) (nmG 12) noT (un jG (ac 12))=cF at hcf ⊢
  simp only [af,aJ,bS,ar,ao,aT,a7,a9,un,var,tst,asB,cC,aC,aa,ah,nmG,EG,EI,EL,EM,EJ,EK,on,EH,reduceIte,Nat.reduceAdd,Fz,t1,hcf,oK,same_int,t2]
  exact ⟨_,rfl⟩
 ·rintro E ⟨s10,rfl⟩
  rw [← hL1]
  simp only [af,ar,ao,aD,aT,bin,cst,ac,tst,asB,aL,bQ,gF,EG,EI,EJ,EK,on,EH,Int.reduceLT,Int.reduceLE,Int.reducePow,Int.reduceToNat,Int.reduceAbs,Nat.reducePow,Nat.reduceLT,cK]
  generalize c / 10000000000000000000000000000000000000000=c'
  refine kF (fun h=>?_) fun h=>?_
  ·simp only [af,a_,ax,az,cst,EI]
  ·obtain ⟨d,hd,td⟩:=sp (c' / 4)
   rw [ecn] at hd
   obtain ⟨d2,hd2,td2⟩:=dy.mp (vX (c:=c' / 1000000000) td)
   have hask:=qe hp (td2.smc (by decide))
   simp only [af,ar,ao,ax,aD,az,a9,bin,cst,var,ac,aC,aa,ah,bQ,gF,EG,EI,EL,EM,EJ,EK,on,EH,reduceIte,Nat.reduceAdd,Int.reduceLT,Int.reduceLE,Int.reducePow,Int.reduceToNat,Int.reduceAbs,Nat.reducePow,Nat.reduceLT,hd,hd2,hask]
theorem xq (ns:List Int) (hn:ns.length≤63) (hb:∀ i ∈ ns,Builtin.Int.intBits i≤2 ^ 20):pM [.scr ns]=some (.bl true):=by
 obtain ⟨_,k0,c,rfl,hc⟩:=dy.mp (Sh.tO hb 0)
 obtain ⟨_,k1,c1,rfl,hc1⟩:=dy.mp (Sh.tO hb 1)
 have a0:0≤c % 7:=Fy _ (by decide)
 have a1:c % 7 < 7:=Fw _ (by decide)
 have b0:0≤c / 4 % 4:=Fy _ (by decide)
 have b1:c / 4 % 4 < 4:=Fw _ (by decide)
 obtain ⟨_,hnm,names,rfl,nl,nd,nw⟩:=dy.mp (Sh.oG c1 (2 + c % 7) 8 (2 + (c % 7).toNat) 8 (by omega) rfl (by omega) (by omega) (by omega))
 obtain ⟨_,hwd,words,rfl,wl,wd,ww⟩:=dy.mp (Sh.oG (c / 100) (1 + c / 4 % 4) 12 (1 + (c / 4 % 4).toNat) 12 (by omega) rfl (by omega) (by omega) (by omega))
 have n8:names.length≤8:=by omega
 obtain ⟨cs,hcs⟩:∃ cs,cs=bO ns (some 2) (some 42):=⟨_,rfl⟩
 have hcl:cs.length≤60:=by
  have e:bO ns (some 2) (some 42)=(ns.take 42).drop 2:=nT ns 2 42
  rw [hcs,e,Gw,GH]; omega
 have hcm:∀ i ∈ cs,Builtin.Int.intBits i≤2 ^ 20:=fun i hi=>hb i (by rw [hcs] at hi; exact c8 hi)
 obtain ⟨_,hpl,p,rfl,plen,pgood⟩:=dy.mp (Sh.zj cs names words hcm (by omega) nd (by omega) n8 (fun x hx=>(nw x hx).lowS) (by omega))
 have p8:∀ s ∈ p,s.1.length≤8:=fun s hs=>Fa (pgood.each s hs).le n8
 have pN:=xf p8
 have pW:=vS fun s hs=>(pgood.each s hs).wle
 obtain ⟨_,hct,q,hq1,hq2,rfl⟩:=dy.mp (vk p cs.reverse (fun i hi=>hcm i (List.mem_reverse.mp hi)) (by omega) (fun s hs=>by have:=p8 s hs; omega) (by omega))
 rw [List.map_reverse] at hct
 have hd:(ded (aX p)).length < 64:=by
  have:=gH (l_ (aX p)) (m:=names) fun x hx=>by
   obtain ⟨s,hs,hx⟩:=List.mem_flatMap.mp (sQ.mp hx)
   exact (pgood.each s hs).sub x hx
  omega
 have hF:AD p:=⟨⟨by omega,fun s hs=>by have:=p8 s hs; omega,by omega,by omega,fun n h=>?_,fun k h0 hk n h=>?_⟩,hd⟩
 ·refine zO hF (by omega) (fun s hs=>⟨(pgood.each s hs).ne,by have:=p8 s hs; omega⟩) k0 k1 hnm hwd (by rw [hcs]) hpl hct hq1 hq2
 ·obtain ⟨x,_,rfl⟩:=List.mem_map.mp h
  rfl
 ·obtain ⟨x,hx,rfl⟩:=List.mem_map.mp h
  obtain ⟨j,rfl⟩:∃ j,k=j + 1:=⟨k - 1,by omega⟩
  rw [gD hk] at hx
  exact pgood.heard hk hx
end Wk
end L2.Cu
namespace L2.Cu.Wk
open PySem PySem.W PyProof.Rows
set_option maxRecDepth 100000
set_option maxHeartbeats 0
theorem En:rL PySem.Challenge.pw_cuebook_k11_counts_of_a_play (view PySem.Challenge.pw_cuebook_k11_counts_of_a_play [42]) (gX PySem.Challenge.pw_cuebook_k11_counts_of_a_play) (fun s=>xlAt (view PySem.Challenge.pw_cuebook_k11_counts_of_a_play [42]) [] s && recOk [] s) (fun s=>iA PySem.Challenge.pw_cuebook_k11_counts_of_a_play ds zs cs moK (KH s.heap)) (pX PySem.Challenge.pw_cuebook_k11_counts_of_a_play ds zs cs moB) 20000:=fun w os=>by kernel_rfl
theorem Di:PySem.W.Fast.tw9446332074065402090 PySem.Challenge.rw_cuebook_k11_counts_of_a_play=true:=by kernel_rfl
theorem DS (hw:PySem.Challenge.rw_cuebook_k11_counts_of_a_play.row.toRowW.promised):PySem.Challenge.rw_cuebook_k11_counts_of_a_play.Holds :=
  DJ (l:=PySem.Challenge.rw_cuebook_k11_counts_of_a_play) (n:=63) (k:=10) (x := "_law_script") (g:=pM) En Di (by kernel_rfl) rfl (fun s=>by kernel_rfl) rfl rfl rfl (by decide +kernel) ⟨rfl,rfl,rfl,rfl,rfl,by decide +kernel⟩ hw rfl (by decide) rfl ⟨rfl,by decide,by decide⟩ rfl (by decide) (fun T base kb nb=>BV T) (fun _ _ _ _ _ _ _=>rfl) xq
end L2.Cu.Wk
open PySem PySem.W PyProof.Rows
set_option maxRecDepth 100000 in
set_option maxHeartbeats 0 in
theorem PySem.Challenge.cw_cuebook_k11_counts_of_a_play_holds : PySem.Challenge.rw_cuebook_k11_counts_of_a_play.Holds := by
  refine L2.Cu.Wk.DS ?hw
  case hw=>w_witness2
