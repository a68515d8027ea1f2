import PyProof.Rows.All
import Wide.All
import OpenK.AllK
import Wide.FinOn
import Lean
import PyProof.EqAt
import PyProof.EqKinds
import PyProof.TupleCall
import PyProof.Rows.SetFrom
import PyProof.SetRoads
import PyProof.TableTree
import PyProof.FactsTree
import KE.KDictSum
import PyProof.WalksMore
import PyProof.Rows.SortStr
import PyProof.DictUpdate
import PyProof.ZipIter
import PyProof.Draws
import PyProof.Rows.FactsT2
import PyProof.EnumMake
import PyProof.Rows.EnumRows
import KE.KTupSum
import PyProof.Rows.SumAny
import PyProof.DictItemsLoops
import KE.KPairComp
import KE.KEqDict
import PyProof.Rows.Range3
import PyProof.TupleOfSeq
import PyProof.AttrMissSeq
import KE.KDictOf
import PyProof.ExcClass3
import PyProof.ExcInit
import PyProof.StationsW
import OpenK.KMake
import PyProof.InstStore
import PyProof.ExcArgsOwn
import OpenK.KOwn
import PyProof.ExcBaseAll.ValueError
import PyProof.InstStoreFacts
import PyProof.NsDelKeeps
import PyProof.IsiH_list
import KE.KIsAll
import KE.RegKIsAll
import PySem.Challenge.RW_cuebook_k02_a_play_made
set_option Elab.async false
set_option linter.all false
set_option maxRecDepth 100000
noncomputable section
abbrev DP:=@PySem.wpAny_bind
abbrev DQ:=@PySem.Heap.get?_push_of_some
abbrev DR:=@Bool.false_eq_true
abbrev DS:=@PySem.wpAny_pure
abbrev DT:=@List.getElem?_eq_getElem
abbrev DU:=@List.length_map
abbrev DV:=@PySem.Heap.lt_size
abbrev DW:=@Option.some.inj
abbrev DX:=@PySem.Heap.get?_push_size
abbrev DY:=@List.size_toArray
abbrev DZ:=@Nat.le_refl
abbrev D0:=@List.mem_cons_of_mem
abbrev D1:=@Nat.le_trans
abbrev D2:=@List.getElem?_set_ne
abbrev D3:=@List.mem_cons_self
abbrev D4:=@List.mem_append_right
abbrev D5:=@Nat.ne_of_lt
abbrev D6:=@Bool.false_ne_true
abbrev D7:=@Nat.lt_of_lt_of_le
abbrev D8:=@Bool.and_eq_true
abbrev D9:=@List.length_append
abbrev D_:=@List.getElem?_set
abbrev Eb:=@List.foldl_nil
abbrev Ec:=@decide_eq_true
abbrev Ed:=@beq_self_eq_true
abbrev Ee:=@Bool.not_true
abbrev Ef:=@PySem.AutoSeq1.wpAny_loadPart'
abbrev Eh:=@Bool.not_false
abbrev Ej:=@decide_true
abbrev Ek:=@decide_eq_false
abbrev El:=@List.length_set
abbrev Em:=@Bool.and_false
abbrev Eo:=@PySem.wpAny_mono
abbrev Er:=@Int.emod_nonneg
abbrev Eu:=@Int.emod_lt_of_pos
abbrev Ex:=@decide_false
abbrev Ey:=@List.not_mem_nil
abbrev Ez:=@PySem.Heap.get?_update_other
abbrev EA:=@PySem.wpAny_holding
abbrev EB:=@Bool.or_false
abbrev EC:=@Classical.byContradiction
abbrev ED:=@Bool.false_and
abbrev EE:=@List.mem_singleton
abbrev EF:=@Bool.true_and
abbrev EG:=@PySem.wpAny_loadPart_at
abbrev EH:=@PySem.W.kia_one
abbrev EI:=@List.getElem_mem
abbrev EJ:=@List.mem_cons
abbrev EK:=@PySem.wpAny_field
abbrev EL:=@List.mem_append_left
abbrev EM:=@List.lookup_cons
abbrev EN:=@Array.length_toList
abbrev EO:=@of_decide_eq_true
abbrev EQ:=@List.getElem?_map
abbrev ER:=@congrArg
abbrev ES:=@PySem.wpAny_newObj_type
abbrev ET:=@PySem.Heap.get?_update_self
abbrev EU:=@List.mem_of_getElem?
abbrev EV:=@PySem.codeAny_builtin
abbrev EY:=@List.all_cons
abbrev EZ:=@PySem.Heap.size_push
abbrev E4:=@Prod.mk.inj
abbrev E6:=@Option.bind_none
abbrev E7:=@PySem.wpAny_passesOwn
abbrev E8:=@PySem.Around.under_plainId
abbrev E9:=@PyProof.Rows.callWith_type1
abbrev E_:=@Nat.zero_le
abbrev Fa:=@List.filterMap_cons
abbrev Fb:=@List.append_nil
abbrev Fc:=@List.take_of_length_le
abbrev Fd:=@PySem.wpAny_truthy_bool
abbrev Fe:=@List.all_map
abbrev Ff:=@List.drop_eq_getElem_cons
abbrev Fg:=@PySem.wpAny_Call_Name_kw
abbrev Fh:=@PyProof.Rows.slot_tuple_getitem
abbrev Fi:=@Int.toNat_natCast
abbrev Fj:=@Nat.lt_irrefl
abbrev Fk:=@List.all_eq_true
abbrev Fl:=@PySem.wpAny_callSpecial?_slot
abbrev Fm:=@Nat.le_of_lt
abbrev Fo:=@List.map_id'
abbrev Fp:=@List.map_append
abbrev Fq:=@List.find?_cons
abbrev Fs:=@PySem.W.kitx_dict
abbrev Ft:=@Nat.lt_succ_of_lt
abbrev Fu:=@PySem.F.excAttr_ValueError
abbrev Fv:=@List.mem_of_mem_take
abbrev Fw:=@PySem.codeAny_mono
abbrev Fx:=@List.getElem?_append_left
abbrev Fy:=@or_false
abbrev Fz:=@List.length_drop
abbrev FA:=@PySem.wpAny_pyIter_list
abbrev FB:=@PySem.mem_of_lookup
abbrev FC:=@List.replicate_succ
abbrev FD:=@PySem.F.slot_tuple_iterator_next
abbrev FE:=@List.length_filterMap_le
abbrev FF:=@PySem.codeAny_call_builtin
abbrev FG:=@decide_eq_false_iff_not
abbrev FH:=@List.pairwise_singleton
abbrev FI:=@List.any_cons
abbrev FJ:=@Bool.eq_iff_iff
abbrev FK:=@PySem.wpAny_call_entry
abbrev FL:=@PySem.Heap.SameBut.update
abbrev FM:=@List.getElem?_set_self
abbrev FN:=@Option.some.injEq
abbrev FO:=@List.length_range
abbrev FP:=@PySem.wpAny_standAt
abbrev FQ:=@PySem.wpAny_execs_nil
abbrev FR:=@PySem.plainId_quiet
abbrev FT:=@PySem.PassesOwn.never
abbrev FU:=@PySem.Obj.data_mapFields
abbrev FV:=@PySem.MeetsSeq3.plain_eq_loop
abbrev FW:=@PySem.Code.quiet_builtin
abbrev FX:=@List.length_singleton
abbrev FY:=@List.length_take
abbrev FZ:=@List.any_eq_true
abbrev F0:=@List.mem_of_mem_drop
abbrev F7:=@Nat.le_succ
abbrev F8:=@PySem.F.excBase_ValueError
abbrev F9:=@List.getElem?_append_right
abbrev F_:=@List.getD_eq_getElem?_getD
abbrev Ga:=@Nat.ne_of_gt
abbrev Gb:=@decide_eq_true_eq
abbrev Gc:=@PySem.sizeLine_eq
abbrev Ge:=@PySem.W.kitx_list
abbrev Gf:=@PySem.F.args_tuple_add_2
abbrev Gg:=@List.reverse_cons
abbrev Gh:=@List.flatten_cons
abbrev Gi:=@Bool.not_eq_true'
abbrev Gj:=@PySem.F.entry_tuple_add
abbrev Gk:=@PySem.wpAny_typeOf
abbrev Gm:=@PySem.wpAny_setField_rec
abbrev Gn:=@List.drop_length
abbrev Go:=@PySem.wpAny_setField
abbrev Gp:=@PySem.wpAny_seqItems
abbrev Gq:=@PySem.F.slot_tuple_add
abbrev Gr:=@List.length_take_of_le
abbrev Gs:=@List.drop_eq_nil_of_le
abbrev Gu:=@PySem.wpAny_rule
abbrev Gv:=@PySem.wpAny_getItem_list_slice
abbrev Gw:=@List.of_mem_zip
abbrev Gx:=@List.map_map
abbrev Gy:=@List.length_replicate
abbrev Gz:=@List.getElem?_eq_none
abbrev GA:=@Bool.or_true
abbrev GB:=@true_and
abbrev GC:=@PySem.wpAny_execs_cons
abbrev GD:=@List.mem_range
abbrev GE:=@List.length_reverse
abbrev GF:=@if_false
abbrev GG:=@PySem.W.callWith_K
abbrev GH:=@PySem.Obj.isFreed_of_fields
abbrev GI:=@PySem.F.typeOf_object_class
abbrev GJ:=@Nat.lt_of_le_of_lt
abbrev GK:=@List.take_add_one
abbrev GL:=@PySem.wpAny_runValue
abbrev GM:=@PyProof.Rows.F.plain_set_update_loop
abbrev GN:=@PySem.wpAny_pyIter_tuple
abbrev GO:=@PySem.tupleKind_room_in1
abbrev GP:=@PySem.evalPart_none
abbrev GQ:=@PySem.Heap.IsSliceOf.new
abbrev GR:=@PySem.Calls.spliced_cons
abbrev GS:=@PySem.wpAny_call
abbrev GT:=@PySem.Calls.spliced_nil
universe u v
theorem on{α:Type u}{a:α}{l:List α}:(a::l)[0]?=some a:=rfl
theorem DC{α:Type u}{β:Type v}(a:α)(f:α→Option β):(some a).bind f=f a:=rfl
theorem DD{α:Type u}{a:α}{i:Nat}{l:List α}:(a::l)[i+1]?=l[i]?:=rfl
theorem DF{α:Type u}{β:Type v}(a:α)(f:α→β):(some a).map f=some (f a):=rfl
theorem DG{α:Type u}{x:α}{xs:List α}{a:α}:(x::xs).set 0 a=a::xs:=rfl
theorem DH{α:Type u}{x:α}{xs:List α}{i:Nat}{a:α}:(x::xs).set (i+1) a=x::xs.set i a:=rfl
theorem DI{α:Type u}{a:α}{as:List α}:(a::as).length=as.length+1:=rfl
theorem DJ{α:Type u}:([]:List α).length=0:=rfl
theorem DK{α:Type u}{β:Type v}{f:α→β}{a:α}{l:List α}:(a::l).map f=f a::l.map f:=rfl
theorem DL{α:Type u}{β:Type v}{f:α→β}:[].map f=([]:List β):=rfl
theorem DM{α:Type u}{a:α}{as bs:List α}:a::as++bs=a::(as++bs):=rfl
theorem DN{α:Type u}(as:List α):[]++as=as:=rfl
theorem DO{α:Type u}{β:Type v}{a:α}{l:List α}{f:β→α→β}{b:β}:(a::l).foldl f b=l.foldl f (f b a):=rfl
namespace L2
open PySem PySem.Spec PyProof.Rows
abbrev Key:=Sum (Option Int) Str
def io:Key→Value→Bool
 | .inl (some k),v=>Value.isInt k v
 | .inl none,v=>match v with | .none=>true | _=>false
 | .inr x,v=>Value.isStrOf x v
def Do (w:World):Key→Int
 | .inl (some k)=>hashInt k
 | .inl none=>reduceHash 0xFCA86420
 | .inr x=>hashStr w x
theorem bR:∀ {k:Key}{v:Value},io k v=true→(∃ i t,k=Sum.inl (some i)∧v=Value.int i t)∨(∃ x t,k=Sum.inr x∧v=Value.str x t)∨(k=Sum.inl none∧v=Value.none)
 | .inl (some i),v,h=>by
  obtain ⟨t,e⟩:=Value.isInt_shape (k:=i) (v:=v) h
  exact .inl ⟨i,t,rfl,e⟩
 | .inl none,v,h=>by
  cases v <;> first | exact .inr (.inr ⟨rfl,rfl⟩) | exact absurd h (by decide) | (simp [io] at h)
 | .inr x,v,h=>by
  obtain ⟨t,e⟩:=Value.isStrOf_shape (x:=x) (v:=v) h
  exact .inr (.inl ⟨x,t,rfl,e⟩)
theorem ui (i:Int) (t:Tok):io (.inl (some i)) (.int i t)=true:=by simp [io,Value.isInt]
theorem ug (x:Str) (t:Tok):io (.inr x) (.str x t)=true:=by simp [io,Value.isStrOf]
theorem uh:io (.inl none) .none=true:=rfl
theorem A7 (a b:Int):decide ((Sum.inl (some a):Key)=Sum.inl (some b))=(a == b):=by
 by_cases e:a=b
 ·subst e; simp
 ·have h:¬ (Sum.inl (some a):Key)=Sum.inl (some b):=fun q=>e (DW (Sum.inl.inj q))
  rw [Ek h]
  exact (beq_eq_false_iff_ne.mpr e).symm
theorem A4 (a b:Str):decide ((Sum.inr a:Key)=Sum.inr b)=decide (a=b):=by
 by_cases e:a=b
 ·subst e; simp
 ·have h:¬ (Sum.inr a:Key)=Sum.inr b:=fun q=>e (Sum.inr.inj q)
  rw [Ek h,Ek e]
theorem wE (a:Option Int) (b:Str):decide ((Sum.inl a:Key)=Sum.inr b)=false:=Ek (fun q=>nomatch q)
theorem wD (a:Str) (b:Option Int):decide ((Sum.inr a:Key)=Sum.inl b)=false:=Ek (fun q=>nomatch q)
theorem A6 (a:Int):decide ((Sum.inl (some a):Key)=Sum.inl none)=false:=Ek (fun q=>nomatch q)
theorem A5 (a:Int):decide ((Sum.inl none:Key)=Sum.inl (some a))=false:=Ek (fun q=>nomatch q)
theorem uo {prog:Program}{w:World}{A:Around}{E:Value→Shared→Prop}{s:Shared}{Q:Int→Shared→Prop} (h:Q (reduceHash 0xFCA86420) { s with toks:=s.toks + 1 }):wpAny (model prog w) A (pyHash .none) Q E s:=by
 exact PySem.W.pyHash_slot (T := "NoneType") rfl F.slot_NoneType_hash F.entry_NoneType_hash (F.args_NoneType_hash_1 _) (PySem.beq_builtin_none _) (.inl rfl) (DP (DS (DP (wpAny_mkInt (DS ⟨_,_,rfl,h⟩)))))
def bP (prog:Program) (w:World):PySem.KeyKind prog w Key where
 is:=io
 hash:=Do w
 inj:=fun v a b ha hb=>by
  rcases bR ha with ⟨i,t,rfl,rfl⟩ | ⟨x,t,rfl,rfl⟩ | ⟨rfl,rfl⟩ <;> rcases bR hb with ⟨j,u,rfl,e⟩ | ⟨y,u,rfl,e⟩ | ⟨rfl,e⟩ <;> first | rfl | (injection e with e1 _; rw [e1]; done) | (cases e; done)
 byValue:=fun k v h=>by
  rcases bR h with ⟨i,t,rfl,rfl⟩ | ⟨x,t,rfl,rfl⟩ | ⟨rfl,rfl⟩ <;> rfl
 pyHash:=fun hv h=>by
  rcases bR hv with ⟨i,t,rfl,rfl⟩ | ⟨x,t,rfl,rfl⟩ | ⟨rfl,rfl⟩
  ·exact wpAny_pyHash_int h
  ·exact wpAny_pyHash_str h
  ·exact uo h
 eqBool:=fun hu hv h=>by
  rcases bR hu with ⟨i,t,rfl,rfl⟩ | ⟨x,t,rfl,rfl⟩ | ⟨rfl,rfl⟩
  ·rcases bR hv with ⟨j,u,rfl,rfl⟩ | ⟨y,u,rfl,rfl⟩ | ⟨rfl,rfl⟩
   ·rw [A7] at h; exact wpAny_eqBool_int h
   ·rw [wE] at h; exact SeqAt.EqAt.int_str i t y u _ _ _ _ h
   ·rw [A6] at h; exact SeqAt.EqAt.int_none i t _ _ _ _ h
  ·rcases bR hv with ⟨j,u,rfl,rfl⟩ | ⟨y,u,rfl,rfl⟩ | ⟨rfl,rfl⟩
   ·rw [wD] at h; exact SeqAt.EqAt.str_int x t j u _ _ _ _ h
   ·rw [A4] at h; exact wpAny_eqBool_str h
   ·rw [wD] at h; exact SeqAt.EqAt.str_none x t _ _ _ _ h
  ·rcases bR hv with ⟨j,u,rfl,rfl⟩ | ⟨y,u,rfl,rfl⟩ | ⟨rfl,rfl⟩
   ·rw [A5] at h; exact SeqAt.EqAt.none_int j u _ _ _ _ h
   ·rw [wE] at h; exact SeqAt.EqAt.none_str y u _ _ _ _ h
   ·rw [Ec rfl] at h; exact SeqAt.EqAt.same _ _ _ _ _ h
 «strs»:=fun k x t v h=>by
  rcases bR h with ⟨i,u,rfl,e⟩ | ⟨y,u,rfl,e⟩ | ⟨rfl,e⟩
  ·exact nomatch e
  ·injection e with e1 _
   subst e1
   cases v <;> rfl
  ·exact nomatch e
theorem oB (prog:Program) (w:World) (i:Int) (t:Tok):(bP prog w).is (.inl (some i)) (.int i t)=true:=ui i t
theorem oA (prog:Program) (w:World) (x:Str) (t:Tok):(bP prog w).is (.inr x) (.str x t)=true:=ug x t
inductive V where
 | non | bl (b:Bool) | int (i:Int) | str (x:Str) | byt (b:Array UInt8) | flt (b:UInt64) | ref (a:Addr) | ty (n:String)
 deriving DecidableEq
def aX:V→Value→Prop
 | .non,u=>u=Value.none
 | .bl b,u=>u=Value.bool b
 | .int i,u=>∃ t,u=Value.int i t
 | .str x,u=>∃ t,u=Value.str x t
 | .byt b,u=>∃ t,u=Value.bytes b t
 | .flt b,u=>∃ t,u=Value.float b t
 | .ref a,u=>u=Value.ref a
 | .ty n,u=>u=Value.type n
abbrev aT:List V→List Value→Prop:=Paired aX
theorem aT.length {xs:List V}{us:List Value} (r:aT xs us):xs.length=us.length:=Paired.length r
theorem aT.get:∀ {xs:List V}{us:List Value}{i:Nat}{x:V},aT xs us→xs[i]? = some x→∃ u,us[i]? = some u∧aX x u
 := fun {xs us i x} r e=>by
  cases r with
  | nil=>cases e
  | cons r t =>
   cases i with
   | zero=>cases e; exact ⟨_,rfl,r⟩
   | succ i=>exact aT.get (i:=i) t e
theorem aT.set {x:V}{u:Value} (r:aX x u):∀ {xs:List V}{us:List Value} (i:Nat),aT xs us→aT (xs.set i x) (us.set i u)
 | _,_,_,.nil=>.nil
 | _,_,0,.cons _ t=>.cons r t
 | _,_,i + 1,.cons q t=>.cons q (aT.set r i t)
theorem aT.append:∀ {xs ys:List V}{us ws:List Value},aT xs us→aT ys ws→aT (xs ++ ys) (us ++ ws)
 := fun r s=>by
  cases r with
  | nil=>exact s
  | cons r t=>exact .cons r (aT.append t s)
theorem aT.take:∀ {xs:List V}{us:List Value} (n:Nat),aT xs us→aT (xs.take n) (us.take n)
 := fun n r=>by
  cases n with
  | zero=>exact .nil
  | succ n =>
   cases r with
   | nil=>exact .nil
   | cons r t=>exact .cons r (aT.take n t)
theorem aT.drop:∀ {xs:List V}{us:List Value} (n:Nat),aT xs us→aT (xs.drop n) (us.drop n)
 := fun n r=>by
  cases n with
  | zero=>exact r
  | succ n =>
   cases r with
   | nil=>exact .nil
   | cons _ t=>exact aT.drop n t
def d9:Option V→Option Value→Prop
 | some v,some u=>aX v u
 | none,none=>True
 | _,_=>False
def KV {κ:Type}:List (κ×V)→List (κ×Value)→Prop:=Paired fun (p:κ×V) (q:κ×Value)=>p.1=q.1∧aX p.2 q.2
def kV:Key→V
 | .inl (some i)=>.int i
 | .inl none=>.non
 | .inr x=>.str x
inductive HO where
 | lst (xs:List V)
 | tup (xs:List V)
 | dK (kvs:List (Key×V)) | dT (kvs:List (List Key×V))
 | set (S:Int→Bool) (n:Nat)
 | ins (C dx:Addr) (fs:List (Str×V))
 | own (x:Addr)
 | xd (fs:List (Str×V))
 | met (f x:Addr)
 | rng (lo hi:Int)
 | frz (o:Obj) (u:HO)
 | tbl (ps:Array Value)
 | ext (φ:Heap→Prop)
abbrev Hp:=Addr→Option HO
def upd (H:Hp) (a:Addr) (o:HO):Hp:=fun b=>if b=a then some o else H b
theorem ar {H:Hp}{a:Addr}{o:HO}:upd H a o a=some o:=by unfold upd; rw [if_pos rfl]
theorem am {H:Hp}{a b:Addr}{o:HO} (h:b ≠ a):upd H a o b=H b:=by unfold upd; rw [if_neg h]
theorem bL {H:Hp}{a b:Addr}{o:HO} (h:H a=some o) (h':H b=none):a ≠ b:=by
 intro e; subst e; rw [h] at h'; cases h'
section
variable (P:Program) (w:World)
def ce (H:Hp) (h:Heap) (a:Addr):HO→Prop
 | .lst xs=>xs.length≤sizeLine∧∃ (its:List Value) (n:Nat),aT xs its∧h.get? a=some { cls:=.type "list",data:=.seq its.toArray n }
 | .tup xs=>xs.length≤sizeLine∧∃ its:List Value,aT xs its∧IsTup h a its.toArray
 | .dK kvs=>kvs.length≤sizeLine∧(a == sysModules)=false∧∃ vs,KV kvs vs∧h.DictOf (bP P w) a vs
 | .dT kvs=>kvs.length≤sizeLine∧(a == sysModules)=false∧∃ xs:List (List Key×Addr×Value),
   Paired (fun (p:List Key×V) (q:List Key×Addr×Value)=>p.1=q.1∧H q.2.1=some (.tup (p.1.map kV))∧aX p.2 q.2.2) kvs xs ∧
   ∃ o es ep,h.get? a=some o∧o.ExactDict∧o.data=.dict es ep∧es.toList=xs.map (entryOfKey (tupleKind (bP P w)))∧(xs.map (·.1)).Nodup
 | .set S n=>h.SetOf (intKind P w) a S n
 | .ins C dx fs=>H dx=some (.own a)∧fs.length≤1000∧dx ≠ a∧h.get? a=some (PySem.W.instObj C dx) ∧
   ∃ mA,h.Ns1 dx mA∧(∀ f,d9 (fs.lookup f) (mA f))∧PySem.Within mA (fs.map (·.1))
 | .own _=>∃ o,h.get? a=some o
 | .xd fs=>∃ mA,h.Ns1 a mA∧∀ f,d9 (fs.lookup f) (mA f)
 | .rng lo hi=>∃ t u v,h.get? a=some { cls:=.type "range",data:=.fields #[.int lo t,.int hi u,.int 1 v] }
 | .frz o u=>h.get? a=some o∧ce H h a u
 | .tbl ps=>h.get? a=some { cls:=.none,data:=.fields ps }
 | .met f x=>h.get? a=some (PySem.W.methodObj (.ref f) (.ref x))
 | .ext φ=>φ h∧(∃ o,h.get? a=some o)∧∀ h1 h2:Heap,φ h1→(∀ o,h1.get? a=some o→h2.get? a=some o)→φ h2
def HOk (H:Hp) (h:Heap):Prop:=∀ a o,H a=some o→ce P w H h a o
end
section
variable {P:Program}{w:World}{H H':Hp}{h h':Heap}{a:Addr}{o:HO}
theorem ce.lt (x:ce P w H h a o):a < h.objs.size:=by
 cases o with
 | lst xs=>obtain ⟨_,_,_,_,e⟩:=x; exact DV e
 | tup xs=>obtain ⟨_,_,_,p⟩:=x; exact p.lt
 | dK kvs=>obtain ⟨_,_,_,_,o,_,_,e,_⟩:=x; exact DV e
 | dT kvs=>obtain ⟨_,_,_,_,o,_,_,e,_⟩:=x; exact DV e
 | set S n=>obtain ⟨o,_,_,_,e,_⟩:=x; exact DV e
 | ins C dx fs=>obtain ⟨_,_,_,e,_⟩:=x; exact DV e
 | own y=>obtain ⟨_,e⟩:=x; exact DV e
 | xd fs=>obtain ⟨_,⟨_,_,_,e,_⟩,_⟩:=x; exact DV e
 | rng lo hi=>obtain ⟨_,_,_,e⟩:=x; exact DV e
 | frz ob u=>obtain ⟨e,_⟩:=x; exact DV e
 | tbl ps=>exact DV (show h.get? a=some _ from x)
 | met f y=>exact DV (show h.get? a=some _ from x)
 | ext φ=>obtain ⟨_,⟨_,e⟩,_⟩:=x; exact DV e
theorem Paired.mapP {α β:Type}{F G:α→β→Prop}:∀ {l₁:List α}{l₂:List β},Paired F l₁ l₂→(∀ a b,F a b→G a b)→Paired G l₁ l₂
 := fun r f=>by
  cases r with
  | nil=>exact .nil
  | cons r t=>exact .cons (f _ _ r) (Paired.mapP t f)
theorem ce.stay (x:ce P w H h a o) (k:∀ b u,(b=a∨H b=some (.own a))→h.get? b=some u→h'.get? b=some u)
  (ho:∀ b,H b=some (.own a)→H' b=some (.own a)) (ht:∀ b xs,H b=some (.tup xs)→H' b=some (.tup xs)):ce P w H' h' a o:=by
 induction o with
 | lst xs=>obtain ⟨z,its,n,r,e⟩:=x; exact ⟨z,its,n,r,k _ _ (.inl rfl) e⟩
 | tup xs=>obtain ⟨z,its,r,ob,e,c⟩:=x; exact ⟨z,its,r,ob,k _ _ (.inl rfl) e,c⟩
 | dK kvs=>obtain ⟨z,y,vs,r,ob,es,ep,e,c⟩:=x; exact ⟨z,y,vs,r,ob,es,ep,k _ _ (.inl rfl) e,c⟩
 | dT kvs =>
  obtain ⟨z,y,xs,r,ob,es,ep,e,c⟩:=x
  exact ⟨z,y,xs,Paired.mapP r fun p q z=>⟨z.1,ht _ _ z.2.1,z.2.2⟩,ob,es,ep,k _ _ (.inl rfl) e,c⟩
 | set S n=>obtain ⟨ob,es,ep,t,e,c⟩:=x; exact ⟨ob,es,ep,t,k _ _ (.inl rfl) e,c⟩
 | ins C dx fs =>
  obtain ⟨d,z,ne,e,mA,⟨od,es,ep,e2,c⟩,r⟩:=x
  exact ⟨ho _ d,z,ne,k _ _ (.inl rfl) e,mA,⟨od,es,ep,k _ _ (.inr d) e2,c⟩,r⟩
 | own y=>obtain ⟨ob,e⟩:=x; exact ⟨ob,k _ _ (.inl rfl) e⟩
 | xd fs=>obtain ⟨mA,⟨od,es,ep,e,c⟩,r⟩:=x; exact ⟨mA,⟨od,es,ep,k _ _ (.inl rfl) e,c⟩,r⟩
 | rng lo hi=>obtain ⟨t,u,v,e⟩:=x; exact ⟨t,u,v,k _ _ (.inl rfl) e⟩
 | frz ob u ih=>obtain ⟨e,q⟩:=x; exact ⟨k _ _ (.inl rfl) e,ih q⟩
 | tbl ps =>
  have e:h.get? a=some { cls:=.none,data:=.fields ps }:=x
  show h'.get? a=some { cls:=.none,data:=.fields ps }
  exact k a _ (.inl rfl) e
 | met f y =>
  have e:h.get? a=some (PySem.W.methodObj (.ref f) (.ref y)):=x
  show h'.get? a=some (PySem.W.methodObj (.ref f) (.ref y))
  exact k a _ (.inl rfl) e
 | ext φ=>obtain ⟨p,⟨o,e⟩,st⟩:=x; exact ⟨st _ _ p fun o q=>k _ _ (.inl rfl) q,⟨o,k _ _ (.inl rfl) e⟩,st⟩
theorem HOk.lt (x:HOk P w H h) (e:H a=some o):a < h.objs.size:=(x a o e).lt
theorem HOk.fresh (x:HOk P w H h) (e:h.objs.size≤a):H a=none:=by
 cases q:H a with
 | none=>rfl
 | some u=>exact absurd (D7 (x.lt q) e) (Fj _)
theorem HOk.kept (x:HOk P w H h) (k:∀ b u,h.get? b=some u→h'.get? b=some u):HOk P w H h':=fun a o e =>
 (x a o e).stay (fun b u _ q=>k b u q) (fun _ q=>q) fun _ _ q=>q
theorem HOk.laid (x:HOk P w H h) (k:∀ b u,h.get? b=some u→h'.get? b=some u) (hp:h.objs.size≤a) (new:ce P w (upd H a o) h' a o):HOk P w (upd H a o) h':=fun b u e=>by
 have hn:=x.fresh hp
 by_cases hb:b=a
 ·subst hb; rw [ar] at e; cases e; exact new
 ·rw [am hb] at e
  exact (x b u e).stay (fun c v _ q=>k c v q) (fun c q=>by rw [am (bL q hn)]; exact q) fun c xs q=>by rw [am (bL q hn)]; exact q
end
def Rd (H:Hp) (a:Addr) (u:HO):Prop:=H a=some u∨∃ o,H a=some (.frz o u)
theorem Rd.ok {P:Program}{w:World}{H:Hp}{h:Heap}{a:Addr}{u:HO} (r:Rd H a u) (x:HOk P w H h):ce P w H h a u:=by
 rcases r with r | ⟨o,r⟩
 ·exact x a u r
 ·obtain ⟨_,q⟩:=x a _ r
  exact q
def Mut:Option HO→Prop
 | some (.lst _)=>True
 | some (.dK _)=>True
 | some (.dT _)=>True
 | some (.set _ _)=>True
 | some (.ins _ _ _)=>True
 | some (.ext _)=>True
 | _=>False
section
variable {P:Program}{w:World}{H:Hp}{h h':Heap}{x e:Addr}{o':HO}
theorem HOk.write (ok:HOk P w H h) (mu:Mut (H x)) (he:e=x∨H e=some (.own x)) (k:∀ b u,b ≠ e→h.get? b=some u→h'.get? b=some u) (heo:∃ u,h'.get? e=some u)
  (new:ce P w (upd H x o') h' x o'):HOk P w (upd H x o') h':=fun b u q=>by
 have nown:∀ c y,H c=some (.own y)→c ≠ x:=fun c y r z=>by subst z; rw [r] at mu; exact mu
 have ntup:∀ c xs,H c=some (.tup xs)→c ≠ x:=fun c xs r z=>by subst z; rw [r] at mu; exact mu
 by_cases hb:b=x
 ·subst hb; rw [ar] at q; cases q; exact new
 ·rw [am hb] at q
  by_cases hbe:b=e
  ·have q':H b=some (.own x):=by
    rcases he with z | z
    ·exact absurd (hbe.trans z) hb
    ·rw [hbe]; exact z
   rw [q] at q'; cases q'
   obtain ⟨v,hv⟩:=heo
   exact ⟨v,by rw [hbe]; exact hv⟩
  ·refine (ok b u q).stay (fun c v hc r=>k c v ?_ r) (fun c r=>by rw [am (nown c b r)]; exact r) fun c xs r=>by rw [am (ntup c xs r)]; exact r
   rcases hc with rfl | hc
   ·exact hbe
   ·rintro rfl
    rcases he with z | z
    ·exact nown c b hc z
    ·rw [hc] at z; cases z; exact hb rfl
end
structure Un (fs ex:List Addr) (H H':Hp) (h h':Heap):Prop where
 keep:∀ b o,h.get? b=some o→H b=none→b ∉ fs→b ∉ ex→h'.get? b=some o
 slot:∀ b o,h.get? b=some o→H b=none→b ∈ fs→b ∉ ex→∃ sl,h'.get? b=some { o with slots:=sl }
 free:∀ b o,h.get? b=some o→H b=none→b ∉ ex→H' b=none
 there:∀ b o,h.get? b=some o→b ∉ ex→∃ o',h'.get? b=some o'
 tups:∀ b xs,H b=some (.tup xs)→H' b=some (.tup xs)
 frzs:∀ b o u,H b=some (.frz o u)→H' b=some (.frz o u)
 tbls:∀ b ps,H b=some (.tbl ps)→∃ more,H' b=some (.tbl (ps ++ more))
section
variable {fs fs' ex ex':List Addr}{H H1 H2:Hp}{h h1 h2 h':Heap}{a x e:Addr}{o:HO}
theorem Un.any (u:Un fs ex H H1 h h1) {b:Addr}{ob:Obj} (q:h.get? b=some ob) (n:H b=none) (hx:b ∉ ex):∃ sl,h1.get? b=some { ob with slots:=sl }:=by
 by_cases hb:b ∈ fs
 ·exact u.slot b ob q n hb hx
 ·exact ⟨ob.slots,u.keep b ob q n hb hx⟩
theorem Un.kept (k:∀ b u,h.get? b=some u→h'.get? b=some u):Un fs ex H H h h' :=
 ⟨fun b ob q _ _ _=>k b ob q,fun b ob q _ _ _=>⟨ob.slots,k b ob q⟩,fun _ _ _ n _=>n,fun b ob q _=>⟨ob,k b ob q⟩,fun _ _ q=>q,fun _ _ _ q=>q,fun _ ps q=>⟨#[],by rw [q]; simp⟩⟩
theorem Un.refl:Un fs ex H H h h:=Un.kept fun _ _ q=>q
theorem Un.laid (k:∀ b u,h.get? b=some u→h'.get? b=some u) (hp:h.objs.size≤a) (hn:H a=none):Un fs ex H (upd H a o) h h' where
 keep:=fun b u q _ _ _=>k b u q
 slot:=fun b u q _ _ _=>⟨u.slots,k b u q⟩
 free:=fun b u q n _=>by rw [am (D5 (D7 (DV q) hp))]; exact n
 there:=fun b u q _=>⟨u,k b u q⟩
 tups:=fun b xs q=>by rw [am (bL q hn)]; exact q
 frzs:=fun b u xs q=>by rw [am (bL q hn)]; exact q
 tbls:=fun b ps q=>⟨#[],by rw [am (bL q hn),q]; simp⟩
theorem Un.write (mu:Mut (H x)) (he:e=x∨H e=some (.own x)) (k:∀ b u,b ≠ e→h.get? b=some u→h'.get? b=some u) (heo:∃ u,h'.get? e=some u):Un fs ex H (upd H x o) h h':=by
 have hx:∀ b,H b=none→b ≠ x:=fun b n z=>by subst z; rw [n] at mu; exact mu
 have hb:∀ b,H b=none→b ≠ e:=fun b n z=>by
  subst z
  rcases he with r | r
  ·exact hx b n r
  ·rw [n] at r; cases r
 have hm:∀ b u,H b=some u→¬ Mut (some u)→b ≠ x:=fun b u q nm z=>by subst z; rw [q] at mu; exact nm mu
 refine ⟨fun b u q n _ _=>k b u (hb b n) q,fun b u q n _ _=>⟨u.slots,k b u (hb b n) q⟩,fun b u q n _=>by rw [am (hx b n)]; exact n,fun b u q _=>?_,
  fun b xs q=>by rw [am (hm b _ q fun z=>z)]; exact q,fun b u xs q=>by rw [am (hm b _ q fun z=>z)]; exact q,fun b ps q=>⟨#[],by rw [am (hm b _ q fun z=>z),q]; simp⟩⟩
 by_cases hbe:b=e
 ·subst hbe; exact heo
 ·exact ⟨u,k b u hbe q⟩
end
def trk (h:Heap) (H:Hp):List Addr:=(List.range h.objs.size).filter fun a=>(H a).isSome
def nc (h:Heap) (H:Hp):Heap:=PySem.W.hideAll h (trk h H)
theorem um (h:Heap) (H:Hp):(nc h H).objs.size=h.objs.size:=PySem.W.hideAll_size _ _
theorem wJ {h:Heap}{H:Hp}{b:Addr}{o:Obj} (e:h.get? b=some o) (n:H b=none):(nc h H).get? b=some o :=
 PySem.W.hideAll_get _ e fun hm=>by
  have q:(H b).isSome=true:=(List.mem_filter.mp hm).2
  rw [n] at q; simp at q
theorem yH {h:Heap}{H:Hp}{b:Addr}{o:Obj} (e:(nc h H).get? b=some o):h.get? b=some o∧H b=none:=by
 have e':h.get? b=some o:=PySem.W.of_hideAll (trk h H) e
 refine ⟨e',?_⟩
 cases q:H b with
 | none=>rfl
 | some x =>
  have hm:b ∈ trk h H:=List.mem_filter.mpr ⟨List.mem_range.mpr (DV e'),by simp [q]⟩
  have z:(nc h H).get? b=none:=PySem.W.hideAll_none (trk h H) hm
  rw [z] at e; cases e
def zh (g h:Heap) (L:Addr):List (Addr×Obj):=(List.range h.objs.size).filterMap fun a=>if a=L∨(g.get? a).isSome=true then none else (h.get? a).map fun o=>(a,o)
def cg (g h:Heap) (L d:Addr):List (Addr×Obj):=(zh g h L).filter fun p=>decide (p.1 ≠ d)
structure Mod (K:PySem.W.Frag) (mg:Str→Option Value) (base:Heap):Prop where
 kin:K.In base
 glob:base.Ns mainGlobals mg
 blt:∃ mb,base.Ns builtinsNs mb∧∀ x:Str,x ≠ "__name__"→mb x=bootBuiltins x
 nolimit:base.NoLimit
structure Cx where
 prog:Program
 w:World
 K:PySem.W.Frag
 mg:Str→Option Value
 base:Heap
 A:Around
 N:List Str
 s₀:Shared
 H₀:Hp
 env:Env
 outer:List Env
 stack:List Env
 ex:List Addr
 fn:Str→Bool
 calm:Bool
 pn:List (Addr×Obj)
 xe:Value→Shared→Prop
def frs (l:List Env):List Addr:=l.filterMap (·.frame)
abbrev Cx.fs (X:Cx):List Addr:=frs X.outer
def Vis (sc:Scope) (x:Str):Prop:=sc.names.lookup x=some .local∨sc.names.lookup x=some .cell∨sc.names.lookup x=some .free
def Loc (sc:Scope) (x:Str):Prop:=sc.names.lookup x=some .local∨sc.names.lookup x=some .cell
def DA (env:Env) (h:Heap) (m:Str→Option Value) (x:Str) (u:Value):Prop :=
 (env.kindOf x=some .local∧m x=some u)∨((env.kindOf x=some .cell∨env.kindOf x=some .free)∧∃ c,env.cells.lookup x=some c∧h.IsCell c (some u))
structure Cx.Ok (X:Cx):Prop where
 mod:Mod X.K X.mg X.base
 kind:X.env.scope.kind=.function
 glob:X.env.globals=mainGlobals
 blt:X.env.builtins=builtinsNs
 above:X.s₀.heap.objs.size≤X.env.locals
 inj:∀ x y c,X.env.cells.lookup x=some c→X.env.cells.lookup y=some c→x=y
 has:∀ x,(X.env.kindOf x=some .cell∨X.env.kindOf x=some .free)→∃ c,X.env.cells.lookup x=some c
 cab:∀ x c,X.fn x=true→X.env.cells.lookup x=some c→X.s₀.heap.objs.size≤c
 hd:X.calm=true→X.A.handled=none
 frames:X.A.frames=some X.stack
 stk:X.stack=X.outer∨(X.stack=X.env :: X.outer∧X.env.frame=some X.env.locals)
 exf:∀ b ∈ X.ex,b ≠ X.env.locals∧∀ x c,X.env.cells.lookup x=some c→c ≠ b
 bs:∀ b o,X.base.get? b=some o→X.s₀.heap.get? b=some o∧X.H₀ b=none
 bsz:X.base.objs.size≤X.s₀.heap.objs.size
 noex:∀ b o,X.base.get? b=some o→b ∉ X.ex
 exfs:∀ b ∈ X.ex,b ∉ X.fs
 funs:X.s₀.heap.FunFrames X.base X.outer
 frf:∀ b ∈ X.fs,X.H₀ b=none
structure Inv (X:Cx) (pins:List (Addr×Obj)) (σ:List (Option V)) (H:Hp) (s:Shared):Prop where
 ok:X.Ok
 os:s.os=X.s₀.os
 bare:AllBare s.gens
 base:Un X.fs X.ex X.H₀ H X.s₀.heap s.heap
 loc:∃ m,s.heap.Ns X.env.locals m∧∀ (i:Nat) (x:Str) (v:V),X.N[i]? = some x→σ[i]? = some (some v)→Vis X.env.scope x→∃ u,aX v u∧DA X.env s.heap m x u
 cell:∀ x c,X.env.cells.lookup x=some c→∃ v,s.heap.IsCell c v
 free:H X.env.locals=none
 freeC:∀ x c,X.env.cells.lookup x=some c→H c=none
 pin:∀ p ∈ X.pn ++ pins,s.heap.get? p.1=some p.2∧H p.1=none∧p.1 ≠ X.env.locals∧p.1 ∉ X.fs∧∀ v,p.2.data ≠ .cell v
 hok:HOk X.prog X.w H s.heap
 len:σ.length=X.N.length
section
variable {X:Cx}{pins:List (Addr×Obj)} {σ:List (Option V)} {H H':Hp}{s:Shared}{h':Heap}
theorem Cx.Ok.nofr (ok:X.Ok) {b:Addr}{o:Obj} (e:X.base.get? b=some o):b ∉ X.fs:=fun hb=>by
 have:=(ok.funs.mem hb).1
 rw [e] at this; cases this
theorem Inv.bs (I:Inv X pins σ H s):∀ b o,X.base.get? b=some o→s.heap.get? b=some o∧H b=none:=fun b o e =>
 ⟨I.base.keep b o (I.ok.bs b o e).1 (I.ok.bs b o e).2 (I.ok.nofr e) (I.ok.noex b o e),I.base.free b o (I.ok.bs b o e).1 (I.ok.bs b o e).2 (I.ok.noex b o e)⟩
theorem Inv.bk (I:Inv X pins σ H s):∀ b o,X.base.get? b=some o→s.heap.get? b=some o:=fun b o e=>(I.bs b o e).1
theorem Inv.mod (I:Inv X pins σ H s):Mod X.K X.mg X.base:=I.ok.mod
theorem Inv.kIn (I:Inv X pins σ H s):X.K.In s.heap:=I.ok.mod.kin.keeps I.bk
theorem Inv.lt (I:Inv X pins σ H s):X.env.locals < s.heap.objs.size:=let ⟨_,hn,_⟩:=I.loc; hn.lt
theorem Inv.sz (I:Inv X pins σ H s):X.s₀.heap.objs.size≤s.heap.objs.size:=D1 I.ok.above (Fm I.lt)
theorem Inv.nofs (I:Inv X pins σ H s) {a:Addr} (h:s.heap.objs.size≤a):a ∉ X.fs:=fun hb=>by
 obtain ⟨_,o,ho,_⟩:=I.ok.funs.mem hb
 exact absurd (D7 (DV ho) (D1 I.sz h)) (Fj _)
theorem Inv.cne (I:Inv X pins σ H s):∀ x c,X.env.cells.lookup x=some c→c ≠ X.env.locals:=fun x c e z=>by
 obtain ⟨v,o,ho,hd⟩:=I.cell x c e
 obtain ⟨m,⟨o',es,ep,ho',hd',_⟩,_⟩:=I.loc
 rw [z,ho'] at ho; cases ho; rw [hd'] at hd; cases hd
theorem Inv.funs (I:Inv X pins σ H s):s.heap.FunFrames X.base X.outer:=by
 have all:∀ (l:List Env),(∀ b ∈ frs l,b ∈ X.fs)→X.s₀.heap.FunFrames X.base l→s.heap.FunFrames X.base l:=by
  intro l
  induction l with
  | nil=>intro _ _; trivial
  | cons env r ih =>
   intro hs hl
   obtain ⟨hk,⟨L,o,hf,hn,ho,hd⟩,hr⟩:=hl
   have hL:L ∈ X.fs:=hs L (by unfold frs; rw [Fa,hf]; exact D3)
   obtain ⟨sl,e⟩:=I.base.slot L o ho (I.ok.frf L hL) hL fun z=>I.ok.exfs L z hL
   exact ⟨hk,⟨L,_,hf,hn,e,hd⟩,ih (fun b hb=>hs b (by unfold frs; rw [Fa,hf]; exact D0 _ hb)) hr⟩
 exact all X.outer (fun _ hb=>hb) I.ok.funs
theorem Inv.stack (I:Inv X pins σ H s):s.heap.FunFrames X.base X.stack:=by
 rcases I.ok.stk with e | ⟨e,hf⟩
 ·rw [e]; exact I.funs
 ·rw [e]
  obtain ⟨m,hn,_⟩:=I.loc
  refine .cons (by rw [I.ok.kind]; decide) hf hn ?_ I.funs
  exact Heap.get?_none_of_le (D1 I.ok.bsz I.ok.above)
theorem Inv.stkSub (I:Inv X pins σ H s):∀ b ∈ frs X.stack,b ∈ X.env.locals :: X.fs:=fun b hb=>by
 rcases I.ok.stk with e | ⟨e,hf⟩
 ·rw [e] at hb; exact D0 _ hb
 ·rw [e] at hb
  unfold frs at hb
  rw [Fa,hf] at hb
  exact hb
theorem Inv.stkFree (I:Inv X pins σ H s):∀ b ∈ frs X.stack,H b=none:=fun b hb=>by
 rcases List.mem_cons.mp (I.stkSub b hb) with e | hb
 ·rw [e]; exact I.free
 ·obtain ⟨_,o,ho,_⟩:=I.ok.funs.mem hb
  exact I.base.free b o ho (I.ok.frf b hb) fun z=>I.ok.exfs b z hb
theorem Inv.step {g':Array GenState}{t':Nat}{d':Drawn}{ch:List Addr} (I:Inv X pins σ H s)
  (hch:∀ b ∈ ch,(b ∈ X.ex∨X.s₀.heap.objs.size≤b)∧b ≠ X.env.locals∧(∀ x c,X.env.cells.lookup x=some c→c ≠ b)∧∀ p ∈ X.pn ++ pins,p.1 ≠ b)
  (keep:∀ b o,b ≠ X.env.locals→b ∉ X.fs→b ∉ ch→s.heap.get? b=some o→H b=none→h'.get? b=some o)
  (slot:∀ b o,b ≠ X.env.locals→b ∈ X.fs→b ∉ ch→s.heap.get? b=some o→H b=none→∃ sl,h'.get? b=some { o with slots:=sl }) (free:∀ b o,b ∉ ch→s.heap.get? b=some o→H b=none→H' b=none)
  (there:∀ b o,b ∉ ch→s.heap.get? b=some o→∃ o',h'.get? b=some o')
  (tups:∀ b xs,H b=some (.tup xs)→H' b=some (.tup xs)) (frzs:∀ b o u,H b=some (.frz o u)→H' b=some (.frz o u)) (tbls:∀ b ps,H b=some (.tbl ps)→∃ more,H' b=some (.tbl (ps ++ more)))
  (ns:∀ m,s.heap.Ns X.env.locals m→h'.Ns X.env.locals m) (hok:HOk X.prog X.w H' h') (hg:AllBare g') :
  Inv X pins σ H' { s with heap:=h',gens:=g',drawn:=d',toks:=t' }:=by
 have neL:∀ b o,X.s₀.heap.get? b=some o→b ≠ X.env.locals:=fun b o e=>D5 (D7 (DV e) I.ok.above)
 have neC:∀ b o,X.s₀.heap.get? b=some o→b ∉ X.ex→b ∉ ch:=fun b o e hx hb=>by
  rcases (hch b hb).1 with z | z
  ·exact hx z
  ·exact absurd (D7 (DV e) z) (Fj _)
 have cellK:∀ x c,X.env.cells.lookup x=some c→∀ v,s.heap.IsCell c v→h'.IsCell c v:=fun x c e v zz1_0=>by
  obtain ⟨o,ho,hd⟩:=zz1_0
  have nch:c ∉ ch:=fun z=>(hch c z).2.2.1 x c e rfl
  by_cases hc:c ∈ X.fs
  ·obtain ⟨sl,q⟩:=slot c o (I.cne x c e) hc nch ho (I.freeC x c e)
   exact ⟨_,q,hd⟩
  ·exact ⟨o,keep c o (I.cne x c e) hc nch ho (I.freeC x c e),hd⟩
 refine ⟨I.ok,I.os,hg,⟨fun b o e n hb hx=>?_,fun b o e n hb hx=>?_,fun b o e n hx=>?_,fun b o e hx=>?_,fun b xs e=>tups b xs (I.base.tups b xs e),fun b o xs e=>frzs b o xs (I.base.frzs b o xs e),fun b ps e=>?_⟩,?_,fun x c e=>?_,?_,fun x c e=>?_,fun p hp=>?_,hok,I.len⟩
 ·exact keep b o (neL b o e) hb (neC b o e hx) (I.base.keep b o e n hb hx) (I.base.free b o e n hx)
 ·obtain ⟨sl,e1⟩:=I.base.slot b o e n hb hx
  obtain ⟨sl',e2⟩:=slot b _ (neL b o e) hb (neC b o e hx) e1 (I.base.free b o e n hx)
  exact ⟨sl',e2⟩
 ·obtain ⟨o',e1⟩:=I.base.there b o e hx
  exact free b o' (neC b o e hx) e1 (I.base.free b o e n hx)
 ·obtain ⟨o',e1⟩:=I.base.there b o e hx
  exact there b o' (neC b o e hx) e1
 ·obtain ⟨m1,e1⟩:=I.base.tbls b ps e
  obtain ⟨m2,e2⟩:=tbls b _ e1
  exact ⟨m1 ++ m2,by rw [e2,Array.append_assoc]⟩
 ·obtain ⟨m,hn,hl⟩:=I.loc
  refine ⟨m,ns m hn,fun i x v e1 e2 e3=>?_⟩
  obtain ⟨u,r,l⟩:=hl i x v e1 e2 e3
  refine ⟨u,r,?_⟩
  rcases l with l | ⟨k,c,e,z⟩
  ·exact .inl l
  ·exact .inr ⟨k,c,e,cellK x c e _ z⟩
 ·obtain ⟨v,z⟩:=I.cell x c e
  exact ⟨v,cellK x c e v z⟩
 ·obtain ⟨m,⟨o,_,_,ho,_⟩,_⟩:=I.loc
  exact free _ o (fun z=>(hch _ z).2.1 rfl) ho I.free
 ·obtain ⟨v,o,ho,hd⟩:=I.cell x c e
  exact free c o (fun z=>(hch c z).2.2.1 x c e rfl) ho (I.freeC x c e)
 ·obtain ⟨e,n,ne,nf,d⟩:=I.pin p hp
  have nch:p.1 ∉ ch:=fun z=>(hch p.1 z).2.2.2 p hp rfl
  exact ⟨keep p.1 p.2 ne nf nch e n,free p.1 p.2 nch e n,ne,nf,d⟩
theorem Inv.un {t':Nat} (I:Inv X pins σ H s) (u:Un X.fs [] H H' s.heap h') (hok:HOk X.prog X.w H' h'):Inv X pins σ H' { s with heap:=h',toks:=t' }:=by
 obtain ⟨m,⟨o,es,ep,ho,r⟩,_⟩:=id I.loc
 obtain ⟨sl,hL⟩:=u.any ho I.free (by simp)
 exact I.step (g':=s.gens) (d':=s.drawn) (ch:=[]) (fun _ z=>nomatch z) (fun b o _ hb _ e n=>u.keep b o e n hb (by simp)) (fun b o _ hb _ e n=>u.slot b o e n hb (by simp)) (fun b o _ e n=>u.free b o e n (by simp)) (fun b o _ e=>u.there b o e (by simp)) u.tups u.frzs u.tbls (fun m' hm=>by
  obtain ⟨o',es',ep',ho',r'⟩:=hm
  rw [ho] at ho'; cases ho'
  exact ⟨_,es',ep',hL,r'⟩) hok I.bare
theorem Inv.call {g':Array GenState}{t':Nat}{d':Drawn}{ch:List Addr} (I:Inv X pins σ H s) (u:Un (frs X.stack) ch H H' s.heap h') (hok:HOk X.prog X.w H' h') (hg:AllBare g')
  (hch:∀ b ∈ ch,(b ∈ X.ex∨X.s₀.heap.objs.size≤b)∧b ≠ X.env.locals∧(∀ x c,X.env.cells.lookup x=some c→c ≠ b)∧∀ p ∈ X.pn ++ pins,p.1 ≠ b) :
  Inv X pins σ H' { s with heap:=h',gens:=g',drawn:=d',toks:=t' }:=by
 obtain ⟨m,⟨o,es,ep,ho,r⟩,_⟩:=id I.loc
 obtain ⟨sl,hL⟩:=u.any ho I.free fun z=>(hch _ z).2.1 rfl
 exact I.step (ch:=ch) hch (fun b o hL hb hc e n=>u.keep b o e n (fun z=>(List.mem_cons.mp (I.stkSub b z)).elim hL hb) hc) (fun b o _ _ hc e n=>u.any e n hc) (fun b o hc e n=>u.free b o e n hc) (fun b o hc e=>u.there b o e hc) u.tups u.frzs u.tbls (fun m' hm=>by
  obtain ⟨o',es',ep',ho',r'⟩:=hm
  rw [ho] at ho'; cases ho'
  exact ⟨_,es',ep',hL,r'⟩) hok hg
theorem Inv.turned {t':Nat}{it:Addr} (I:Inv X pins σ H s) (k:∀ b o,b ≠ it→s.heap.get? b=some o→h'.get? b=some o) (hn:H it=none) (hL:it ≠ X.env.locals)
  (h1:it ∈ X.ex∨X.s₀.heap.objs.size≤it) (h2:∀ x c,X.env.cells.lookup x=some c→c ≠ it) (h3:∀ p ∈ X.pn ++ pins,p.1 ≠ it):Inv X pins σ H { s with heap:=h',toks:=t' }:=by
 have nit:∀ b u,H b=some u→b ≠ it:=fun b u e z=>by rw [z,hn] at e; cases e
 refine I.step (g':=s.gens) (d':=s.drawn) (ch:=[it]) (fun b hb=>?_) (fun b o _ _ hc e _=>k b o (fun z=>hc (by simp [z])) e) (fun b o _ _ hc e _=>⟨o.slots,k b o (fun z=>hc (by simp [z])) e⟩) (fun _ _ _ _ n=>n)
  (fun b o hc e=>⟨o,k b o (fun z=>hc (by simp [z])) e⟩) (fun _ _ e=>e) (fun _ _ _ e=>e) (fun b ps e=>⟨#[],by rw [e]; simp⟩) (fun m hm=>?_) (fun b u e=>?_) I.bare
 ·have e:b=it:=by simpa using hb
  subst e
  exact ⟨h1,hL,h2,h3⟩
 ·obtain ⟨o,es,ep,ho,r⟩:=hm
  exact ⟨o,es,ep,k _ o (Ne.symm hL) ho,r⟩
 ·refine (I.hok b u e).stay (fun c v hc q=>k c v ?_ q) (fun _ q=>q) fun _ _ q=>q
  rcases hc with z | z
  ·rw [z]; exact nit b u e
  ·exact nit c _ z
theorem Inv.tok (I:Inv X pins σ H s) (t:Nat):Inv X pins σ H { s with toks:=t }:=I.un (h':=s.heap) (t':=t) Un.refl I.hok
theorem Inv.kept {t':Nat} (I:Inv X pins σ H s) (k:∀ b u,s.heap.get? b=some u→h'.get? b=some u):Inv X pins σ H { s with heap:=h',toks:=t' }:=I.un (Un.kept k) (I.hok.kept k)
theorem Inv.laid {a:Addr}{o:HO}{t':Nat} (I:Inv X pins σ H s) (k:∀ b u,s.heap.get? b=some u→h'.get? b=some u) (hp:s.heap.objs.size≤a) (new:ce X.prog X.w (upd H a o) h' a o) :
  Inv X pins σ (upd H a o) { s with heap:=h',toks:=t' }:=I.un (Un.laid k hp (I.hok.fresh hp)) (I.hok.laid k hp new)
theorem Inv.write {x e:Addr}{o:HO}{t':Nat} (I:Inv X pins σ H s) (mu:Mut (H x)) (he:e=x∨H e=some (.own x)) (k:∀ b u,b ≠ e→s.heap.get? b=some u→h'.get? b=some u) (heo:∃ u,h'.get? e=some u)
  (new:ce X.prog X.w (upd H x o) h' x o):Inv X pins σ (upd H x o) { s with heap:=h',toks:=t' }:=I.un (Un.write mu he k heo) (I.hok.write mu he k heo new)
theorem Inv.pins_of {pins':List (Addr×Obj)} (I:Inv X pins σ H s) (h:∀ p ∈ pins',s.heap.get? p.1=some p.2∧H p.1=none∧p.1 ≠ X.env.locals∧p.1 ∉ X.fs∧∀ v,p.2.data ≠ .cell v):Inv X pins' σ H s :=
 ⟨I.ok,I.os,I.bare,I.base,I.loc,I.cell,I.free,I.freeC,fun p hp=>(List.mem_append.mp hp).elim (fun z=>I.pin p (EL _ z)) (h p),I.hok,I.len⟩
theorem ko {N:List Str} (hN:N.Nodup) {i j:Nat}{x:Str} (a:N[i]? = some x) (b:N[j]? = some x):i=j:=by
 obtain ⟨h1,e1⟩:=List.getElem?_eq_some_iff.mp a
 obtain ⟨h2,e2⟩:=List.getElem?_eq_some_iff.mp b
 exact (List.getElem_inj hN).mp (e1.trans e2.symm)
theorem sW {M:Model}{A:Around}{E:Value→Shared→Prop}{i:Nat}{x:Str}{v:V}{u:Value}{Q:Unit→Shared→Prop} (I:Inv X pins σ H s) (hN:X.N.Nodup) (hi:X.N[i]? = some x) (hx:Loc X.env.scope x) (r:aX v u)
  (h:∀ s',Inv X pins (σ.set i (some v)) H s'→(∃ a,Heap.SameBut a s.heap s'.heap∧(a=X.env.locals∨X.env.cells.lookup x=some a))→Q () s') (hf:X.fn x=true∨X.env.scope.names.lookup x=some .local:=by first | exact .inl rfl | exact .inr rfl | assumption):wpAny M A (storeName X.env x u) Q E s:=by
 obtain ⟨m,hn,hl⟩:=id I.loc
 have hcls:(X.env.scope.kind == .class || (X.env.scope.kind == .module && X.env.locals != X.env.globals))=false:=by rw [I.ok.kind]; rfl
 have hiσ:i < σ.length:=by rw [I.len]; exact (List.getElem?_eq_some_iff.mp hi).1
 have cne:=I.cne
 have tracked:∀ {a:Addr}{h':Heap},(∃ o,s.heap.get? a=some o∧H a=none)→Heap.SameBut a s.heap h'→HOk X.prog X.w H h':=fun {a h'} ha hs b ob e=>by
  obtain ⟨_,_,hfree⟩:=ha
  refine (I.hok b ob e).stay (fun c w' hc q=>(hs.2 c ?_).trans q) (fun _ q=>q) fun _ _ q=>q
  rintro rfl
  rcases hc with rfl | hc
  ·rw [hfree] at e; cases e
  ·rw [hfree] at hc; cases hc
 rcases hx with hk | hk
 ·refine wpAny_storeName_local hk hn (fun h' hn' hs=>?_) hcls
  obtain ⟨oL,_,_,hoL,_⟩:=id hn
  refine h _ ⟨I.ok,I.os,I.bare,⟨fun b o e n hb hx=>?_,fun b o e n hb hx=>?_,I.base.free,fun b o e hx=>?_,I.base.tups,I.base.frzs,I.base.tbls⟩,⟨_,hn',fun j y v' e1 e2 e3=>?_⟩,fun y c e=>?_,I.free,I.freeC,fun p hp=>?_,tracked ⟨oL,hoL,I.free⟩ hs,by simpa using I.len⟩ ⟨_,hs,.inl rfl⟩
  ·exact (hs.2 b (D5 (D7 (DV e) I.ok.above))).trans (I.base.keep b o e n hb hx)
  ·obtain ⟨sl,e1⟩:=I.base.slot b o e n hb hx
   exact ⟨sl,(hs.2 b (D5 (D7 (DV e) I.ok.above))).trans e1⟩
  ·obtain ⟨o',e1⟩:=I.base.there b o e hx
   exact ⟨o',(hs.2 b (D5 (D7 (DV e) I.ok.above))).trans e1⟩
  ·by_cases hj:j=i
   ·subst hj
    rw [hi] at e1; cases e1
    rw [FM hiσ] at e2
    cases e2
    exact ⟨u,r,.inl ⟨hk,by simp⟩⟩
   ·rw [D2 (Ne.symm hj)] at e2
    obtain ⟨u',r',q⟩:=hl j y v' e1 e2 e3
    refine ⟨u',r',?_⟩
    rcases q with ⟨k,e⟩ | ⟨k,c,e,z⟩
    ·refine .inl ⟨k,?_⟩
     have:y ≠ x:=fun e=>hj (ko hN e1 (e ▸ hi))
     simp [this,e]
    ·exact .inr ⟨k,c,e,z.sameBut hs (cne y c e)⟩
  ·obtain ⟨w',z⟩:=I.cell y c e
   exact ⟨w',z.sameBut hs (cne y c e)⟩
  ·obtain ⟨e,n,ne,nf,d⟩:=I.pin p hp
   exact ⟨(hs.2 p.1 ne).trans e,n,ne,nf,d⟩
 ·have hfn:X.fn x=true:=by
   rcases hf with z | z
   ·exact z
   ·rw [z] at hk; cases hk
  obtain ⟨c,hc⟩:=I.ok.has x (.inl hk)
  obtain ⟨w',z⟩:=I.cell x c hc
  refine wpAny_storeName_cell I.ok.kind hk hc z (fun h' hc' hs=>?_)
  obtain ⟨oc,hoc,hocd⟩:=id z
  refine h { s with heap:=h' } ⟨I.ok,I.os,I.bare,⟨fun b o e n hb hx=>?_,fun b o e n hb hx=>?_,I.base.free,fun b o e hx=>?_,I.base.tups,I.base.frzs,I.base.tbls⟩,⟨m,hn.sameBut hs (Ne.symm (cne x c hc)),fun j y v' e1 e2 e3=>?_⟩,fun y c' e=>?_,I.free,I.freeC,fun p hp=>?_,tracked ⟨oc,hoc,I.freeC x c hc⟩ hs,by simpa using I.len⟩ ⟨c,hs,.inr hc⟩
  ·exact (hs.2 b (D5 (D7 (DV e) (I.ok.cab x c hfn hc)))).trans (I.base.keep b o e n hb hx)
  ·obtain ⟨sl,e1⟩:=I.base.slot b o e n hb hx
   exact ⟨sl,(hs.2 b (D5 (D7 (DV e) (I.ok.cab x c hfn hc)))).trans e1⟩
  ·obtain ⟨o',e1⟩:=I.base.there b o e hx
   exact ⟨o',(hs.2 b (D5 (D7 (DV e) (I.ok.cab x c hfn hc)))).trans e1⟩
  ·by_cases hj:j=i
   ·subst hj
    rw [hi] at e1; cases e1
    rw [FM hiσ] at e2
    cases e2
    exact ⟨u,r,.inr ⟨.inl hk,c,hc,hc'⟩⟩
   ·rw [D2 (Ne.symm hj)] at e2
    obtain ⟨u',r',q⟩:=hl j y v' e1 e2 e3
    refine ⟨u',r',?_⟩
    rcases q with q | ⟨k,c',e,z'⟩
    ·exact .inl q
    ·refine .inr ⟨k,c',e,z'.sameBut hs ?_⟩
     rintro rfl
     exact hj (ko hN e1 (I.ok.inj _ _ _ e hc ▸ hi))
  ·by_cases hcc:c'=c
   ·subst hcc; exact ⟨_,hc'⟩
   ·obtain ⟨w2,z2⟩:=I.cell y c' e
    exact ⟨w2,z2.sameBut hs hcc⟩
  ·obtain ⟨e,n,ne,nf,d⟩:=I.pin p hp
   refine ⟨(hs.2 p.1 ?_).trans e,n,ne,nf,d⟩
   intro q
   rw [q,hoc] at e
   have q':oc=p.2:=DW e
   exact d w' (by rw [← q']; exact hocd)
theorem dW {M:Model}{A:Around}{E:Value→Shared→Prop}{i:Nat}{x:Str}{v:V}{u:Value}{Q:Unit→Shared→Prop} (I:Inv X pins σ H s) (hN:X.N.Nodup) (hi:X.N[i]? = some x) (hx:Loc X.env.scope x) (r:aX v u)
  (h:∀ s',Inv X pins (σ.set i (some v)) H s'→Q () s') (hf:X.fn x=true∨X.env.scope.names.lookup x=some .local:=by first | exact .inl rfl | exact .inr rfl | assumption):wpAny M A (storeName X.env x u) Q E s :=
 sW I hN hi hx r (fun s' I' _=>h s' I') hf
theorem Inv.call' {s':Shared}{ch:List Addr} (I:Inv X pins σ H s) (ho:s'.os=s.os) (u:Un (frs X.stack) ch H H' s.heap s'.heap) (hok:HOk X.prog X.w H' s'.heap) (hg:AllBare s'.gens)
  (hch:∀ b ∈ ch,(b ∈ X.ex∨X.s₀.heap.objs.size≤b)∧b ≠ X.env.locals∧(∀ x c,X.env.cells.lookup x=some c→c ≠ b)∧∀ p ∈ X.pn ++ pins,p.1 ≠ b):Inv X pins σ H' s':=by
 obtain ⟨h',g',d',t',o'⟩:=s'
 have e:o'=s.os:=ho
 subst e
 exact I.call (g':=g') (t':=t') (d':=d') u hok hg hch
end
abbrev XK:=Value→Option Addr→Hp→Prop
abbrev St:=List (Option V)
abbrev VK:=V→Hp→Prop
abbrev TE:=St→Hp→VK→Prop
abbrev TT:=St→Hp→(Bool→Hp→Prop)→Prop
abbrev TA:=St→Hp→(List V→Hp→Prop)→Prop
structure d_ where
 nx:St→Hp→Prop
 rt:VK
 bk:St→Hp→Prop:=fun _ _=>False
 ct:St→Hp→Prop:=fun _ _=>False
abbrev TS:=d_→St→Hp→Prop
def EP (X:Cx) (pins:List (Addr×Obj)) (σ:St) (Q:VK) (u:Value) (s':Shared):Prop:=∃ v H',Inv X pins σ H' s'∧aX v u∧Q v H'
def TP (X:Cx) (pins:List (Addr×Obj)) (σ:St) (Q:Bool→Hp→Prop) (b:Bool) (s':Shared):Prop:=∃ H',Inv X pins σ H' s'∧Q b H'
def AP (X:Cx) (pins:List (Addr×Obj)) (σ:St) (Q:List V→Hp→Prop) (us:List Value) (s':Shared):Prop:=∃ vs H',Inv X pins σ H' s'∧aT vs us∧Q vs H'
def SP (X:Cx) (pins:List (Addr×Obj)) (D:d_) (f:Flow) (s':Shared):Prop :=
 match f with
 | .next=>∃ σ' H',Inv X pins σ' H' s'∧D.nx σ' H'
 | .brk=>∃ σ' H',Inv X pins σ' H' s'∧D.bk σ' H'
 | .cont=>∃ σ' H',Inv X pins σ' H' s'∧D.ct σ' H'
 | .ret u=>∃ v σ' H',Inv X pins σ' H' s'∧aX v u∧D.rt v H'
def PE (X:Cx) (e:Expr) (t:TE):Prop :=
 ∀ (pins:List (Addr×Obj)) (s:Shared) (σ:St) (H:Hp) (Q:VK),Inv X pins σ H s→t σ H Q→wpAny (model X.prog X.w) X.A (eval e X.env) (EP X pins σ Q) X.xe s
def PT (X:Cx) (e:Expr) (t:TT):Prop :=
 ∀ (pins:List (Addr×Obj)) (s:Shared) (σ:St) (H:Hp) (Q:Bool→Hp→Prop),Inv X pins σ H s→t σ H Q→wpAny (model X.prog X.w) X.A (isTrue e X.env (eval e X.env)) (TP X pins σ Q) X.xe s
def PW (X:Cx) (e:Expr) (t:TT):Prop :=
 ∀ (whole:Sem Value) (pins:List (Addr×Obj)) (s:Shared) (σ:St) (H:Hp) (Q:Bool→Hp→Prop),Inv X pins σ H s→t σ H Q→wpAny (model X.prog X.w) X.A (isTrue e X.env whole) (TP X pins σ Q) X.xe s
def PA (X:Cx) (es:List Expr) (t:TA):Prop :=
 ∀ (pos:Pos) (pins:List (Addr×Obj)) (s:Shared) (σ:St) (H:Hp) (Q:List V→Hp→Prop),Inv X pins σ H s→t σ H Q→wpAny (model X.prog X.w) X.A (spliced (backTo pos (starEach es X.env))) (AP X pins σ Q) X.xe s
def PS (X:Cx) (st:Stmt) (t:TS):Prop :=
 ∀ (pins:List (Addr×Obj)) (s:Shared) (σ:St) (H:Hp) (D:d_),Inv X pins σ H s→t D σ H→wpAny (model X.prog X.w) X.A (exec st X.env) (SP X pins D) X.xe s
def PSs (X:Cx) (st:List Stmt) (t:TS):Prop :=
 ∀ (pins:List (Addr×Obj)) (s:Shared) (σ:St) (H:Hp) (D:d_),Inv X pins σ H s→t D σ H→wpAny (model X.prog X.w) X.A (execs st X.env) (SP X pins D) X.xe s
theorem thn {α:Type}{t:Sem α}{Q Q':α→Shared→Prop}{M:Model}{A:Around}{E:Value→Shared→Prop}{s:Shared} (h:wpAny M A t Q E s) (hQ:∀ a s,Q a s→Q' a s):wpAny M A t Q' E s:=Eo h hQ fun _ _ x=>x
section
variable {X:Cx}
def my (i:Nat):TE:=fun σ H Q=>∃ v,σ[i]? = some (some v)∧Q v H
def tC (v:V):TE:=fun _ H Q=>Q v H
theorem ki {i:Nat}{x:Str}{pos:Pos} (hN:X.N[i]? = some x) (hv:Vis X.env.scope x) (hd:(x == ("__debug__" : Str))=false:=by decide) (hcd:(x == ("__classdict__" : Str))=false:=by decide):PE X (.Name x pos) (my i):=by
 intro pins s σ H Q I h
 obtain ⟨v,e,h⟩:=h
 obtain ⟨m,hn,hl⟩:=I.loc
 obtain ⟨u,r,l⟩:=hl i x v hN e hv
 have fin:EP X pins σ Q u s:=⟨v,H,I,r,h⟩
 rcases l with ⟨hk,hm⟩ | ⟨hk,c,hc,hcell⟩
 ·exact wpAny_Name (wpAny_loadName_local I.ok.kind hk hn hm fin) hd
 ·rcases hk with hk | hk
  ·exact wpAny_Name (wpAny_loadName_cell I.ok.kind hk hc hcell fin) hd
  ·exact wpAny_Name (wpAny_loadName_free I.ok.kind hk hc hcell fin hcd) hd
theorem vV {i j pos}:PE X (.Constant (.int i) j pos) (tC (.int i)):=fun _ _ _ H _ I h=>wpAny_Constant_int ⟨.int i,H,I.tok _,⟨_,rfl⟩,h⟩
theorem Cr {b j pos}:PE X (.Constant (.bool b) j pos) (tC (.bl b)):=fun _ _ _ H _ I h=>Constant_bool ⟨.bl b,H,I,rfl,h⟩
theorem mP {j pos}:PE X (.Constant .none j pos) (tC .non):=fun _ _ _ H _ I h=>Constant_none ⟨.non,H,I,rfl,h⟩
theorem AE {x j pos}:PE X (.Constant (.str x) j pos) (tC (.str x)):=fun _ _ _ H _ I h=>Calls.Constant_str ⟨.str x,H,I.tok _,⟨_,rfl⟩,h⟩
def Gl (X:Cx) (x:Str):Prop:=X.env.kindOf x=some .globalImplicit
theorem im {E:Value→Shared→Prop}{pins:List (Addr×Obj)} {s:Shared} {σ:St}{H:Hp}{x:Str}{u:Value}{pos:Pos}{Q:Value→Shared→Prop} (I:Inv X pins σ H s) (hg:Gl X x) (hm:X.mg x=some u) (h:Q u s)
  (hd:(x == ("__debug__" : Str))=false:=by decide):wpAny (model X.prog X.w) X.A (eval (.Name x pos) X.env) Q E s :=
 Calls.Name_function_global I.ok.kind hg (Calls.loadGlobal_global (by rw [I.ok.glob]; exact I.mod.glob.keeps I.bk) hm h) hd
theorem fX {E:Value→Shared→Prop}{pins:List (Addr×Obj)} {s:Shared} {σ:St}{H:Hp}{x:Str}{u:Value}{pos:Pos}{Q:Value→Shared→Prop} (I:Inv X pins σ H s) (hg:Gl X x) (hm:X.mg x=none) (hv:bootBuiltins x=some u) (h:Q u s)
  (hn:x ≠ "__name__" := by decide) (hd:(x == ("__debug__" : Str))=false:=by decide):wpAny (model X.prog X.w) X.A (eval (.Name x pos) X.env) Q E s:=by
 obtain ⟨mb,h1,h2⟩:=I.mod.blt
 exact Calls.Name_function_global I.ok.kind hg (Calls.loadGlobal_builtin (by rw [I.ok.glob]; exact I.mod.glob.keeps I.bk) hm (by rw [I.ok.blt]; exact h1.keeps I.bk) ((h2 x hn).trans hv) h) hd
theorem jF {x:Str}{v:V}{u:Value}{pos:Pos} (hg:Gl X x) (hm:X.mg x=some u) (r:aX v u) (hd:(x == ("__debug__" : Str))=false:=by decide):PE X (.Name x pos) (tC v) :=
 fun _ _ _ H _ I h=>im I hg hm ⟨v,H,I,r,h⟩ hd
theorem jG {x:Str}{v:V}{u:Value}{pos:Pos} (hg:Gl X x) (hm:X.mg x=none) (hv:bootBuiltins x=some u) (r:aX v u) (hn:x ≠ "__name__" := by decide) (hd:(x == ("__debug__" : Str))=false:=by decide):PE X (.Name x pos) (tC v) :=
 fun _ _ _ H _ I h=>fX I hg hm hv ⟨v,H,I,r,h⟩ hn hd
variable {a b:Expr}{ta tb:TE}{pos:Pos}
def PC (X:Cx) (op:CmpOp) (a b:Expr) (t:TE):Prop :=
 ∀ (pins:List (Addr×Obj)) (s:Shared) (σ:St) (H:Hp) (Q:VK),Inv X pins σ H s→t σ H Q →
  wpAny (model X.prog X.w) X.A (eval a X.env) (fun v s₁=>wpAny (model X.prog X.w) X.A (eval b X.env) (fun u s₂=>wpAny (model X.prog X.w) X.A (compareOp op v u) (EP X pins σ Q) X.xe s₂) X.xe s₁) X.xe s
theorem oo (b:Expr) {op:CmpOp} (h:op ≠ .In) (h2:op ≠ .NotIn):behindInMarks op b=false:=by
 have e1:(op == CmpOp.In)=false:=by cases op <;> first | rfl | exact absurd rfl h
 have e2:(op == CmpOp.NotIn)=false:=by cases op <;> first | rfl | exact absurd rfl h2
 cases b <;> simp [behindInMarks,e1,e2]
def tB (t:TE):TT:=fun σ H Q=>t σ H fun x H1=>∃ c,x=.bl c∧Q c H1
theorem AI {op:CmpOp}{t:TE} (h:PC X op a b t) (h1:behindInMarks op b=false:=by first | exact oo _ (by decide) (by decide) | rfl):PE X (.Compare a [op] [b] pos) t:=fun pins s σ H Q I hw=>wpAny_Compare1 (h pins s σ H Q I hw) h1
theorem At {op:CmpOp}{t:TE} (h:PC X op a b t) (h1:behindInMarks op b=false:=by first | exact oo _ (by decide) (by decide) | rfl):PT X (.Compare a [op] [b] pos) (tB t):=by
 intro pins s σ H Q I hw
 refine wpAny_isTrue_Compare1 (thn (h pins s σ H _ I hw) fun v s1 h1=>thn h1 fun u s2 h2=>thn h2 fun c s3 zz2_0=>?_) h1
 obtain ⟨x,H1,I1,r1,q1⟩:=zz2_0
 obtain ⟨d,rfl,q⟩:=q1
 cases r1
 exact Fd ⟨H1,I1,q⟩
theorem Ar {e:Expr}{t:TE} (h:PE X e t) (he:∀ whole,isTrue e X.env whole=(do let v ← whole; standAt e.pos; holding [v] (truthy v)):=by intro _; rfl):PT X e (tB t):=by
 intro pins s σ H Q I hw
 refine isTrue_plain (thn (h pins s σ H _ I hw) fun v s1 zz3_0=>?_) (he _)
 obtain ⟨x,H1,I1,r1,q1⟩:=zz3_0
 obtain ⟨d,rfl,q⟩:=q1
 cases r1
 exact Fd ⟨H1,I1,q⟩
variable {tA tB':TT}{cg:List Expr}
def De (t u:TT):TT:=fun σ H Q=>t σ H fun c H1=>if c=true then u σ H1 Q else Q false H1
def tOr (t u:TT):TT:=fun σ H Q=>t σ H fun c H1=>if c=true then Q true H1 else u σ H1 Q
def Da (t:TT):TT:=fun σ H Q=>t σ H fun c H1=>Q (!c) H1
theorem yd (ha:PT X a tA):PW X (.BoolOp .And [a] pos) tA:=by
 intro wh pins s σ H Q I h
 refine isTrue_and (thn (ha pins s σ H Q I h) fun c s1 e=>?_)
 cases c with
 | true=>exact isTrue_and_nil e
 | false=>exact e
theorem Ap (ha:PT X a tA):PW X (.BoolOp .Or [a] pos) tA:=by
 intro wh pins s σ H Q I h
 refine isTrue_or (thn (ha pins s σ H Q I h) fun c s1 e=>?_)
 cases c with
 | false=>exact isTrue_or_nil e
 | true=>exact e
theorem Aq (ha:PT X a tA) (hb:PW X (.BoolOp .And (b :: cg) pos) tB'):PW X (.BoolOp .And (a :: b :: cg) pos) (De tA tB'):=by
 intro wh pins s σ H Q I h
 refine isTrue_and (thn (ha pins s σ H _ I h) fun c s1 zz4_0=>?_)
 obtain ⟨H1,I1,q1⟩:=zz4_0
 cases c with
 | true=>exact hb wh pins s1 σ H1 Q I1 q1
 | false=>exact ⟨H1,I1,q1⟩
theorem Cj (ha:PT X a tA) (hb:PW X (.BoolOp .Or (b :: cg) pos) tB'):PW X (.BoolOp .Or (a :: b :: cg) pos) (tOr tA tB'):=by
 intro wh pins s σ H Q I h
 refine isTrue_or (thn (ha pins s σ H _ I h) fun c s1 zz5_0=>?_)
 obtain ⟨H1,I1,q1⟩:=zz5_0
 cases c with
 | true=>exact ⟨H1,I1,q1⟩
 | false=>exact hb wh pins s1 σ H1 Q I1 q1
theorem As (ha:PT X a tA):PT X (.UnaryOp .Not a pos) (Da tA):=by
 intro pins s σ H Q I h
 exact isTrue_not (ha pins s σ H (fun c H1=>Q (!c) H1) I h)
def B5 (ta tb:TE):TE:=fun σ H Q=>ta σ H fun x H1=>∃ c,x=.bl c∧if c=true then tb σ H1 Q else Q (.bl false) H1
def BU (ta:TE):TE:=fun σ H Q=>ta σ H fun x H1=>∃ c,x=.bl c∧Q (.bl (!c)) H1
theorem AF {op}{t:TE} (h:PE X a t):PE X (.BoolOp op [a] pos) t:=fun pins s σ H Q I hw=>BoolOp_one (h pins s σ H Q I hw)
theorem AJ (ha:PE X a ta) (hb:PE X (.BoolOp .And (b :: cg) pos) tb):PE X (.BoolOp .And (a :: b :: cg) pos) (B5 ta tb):=by
 intro pins s σ H Q I h
 refine BoolOp_and (thn (ha pins s σ H _ I h) fun v s1 zz6_0=>?_)
 obtain ⟨x,H1,I1,r1,q1⟩:=zz6_0
 obtain ⟨c,rfl,q1⟩:=q1
 cases r1
 refine Fd ?_
 cases c with
 | true=>exact hb pins s1 σ H1 Q I1 q1
 | false=>exact ⟨.bl false,H1,I1,rfl,q1⟩
theorem AG (ha:PE X a ta):PE X (.UnaryOp .Not a pos) (BU ta):=by
 intro pins s σ H Q I h
 refine UnaryOp_ (thn (ha pins s σ H _ I h) fun v s1 zz7_0=>?_)
 obtain ⟨x,H1,I1,r1,q1⟩:=zz7_0
 obtain ⟨c,rfl,q1⟩:=q1
 cases r1
 exact not_of (Fd ⟨.bl (!c),H1,I1,rfl,q1⟩)
def tIf (t:TT) (ta tb:TE):TE:=fun σ H Q=>t σ H fun c H1=>if c=true then ta σ H1 Q else tb σ H1 Q
theorem vW {c:Expr} (hc:PT X c tA) (ha:PE X a ta) (hb:PE X b tb):PE X (.IfExp c a b pos) (tIf tA ta tb):=by
 intro pins s σ H Q I h
 refine wpAny_IfExp (thn (hc pins s σ H _ I h) fun d s1 zz8_0=>?_)
 obtain ⟨H1,I1,q1⟩:=zz8_0
 cases d with
 | true=>exact ha pins s1 σ H1 Q I1 q1
 | false=>exact hb pins s1 σ H1 Q I1 q1
end
def SqL (K:PySem.W.Frag) (H:Hp) (a:Addr) (xs:List V):Prop :=
 Rd H a (.lst xs) ∨
  ∃ (o:Obj) (its:Array Value) (n:Nat),K.lookup a=some o∧o.cls=.type "list"∧o.dict=none∧o.data=.seq its n∧its.size≤sizeLine∧aT xs its.toList
def SqT (K:PySem.W.Frag) (H:Hp) (a:Addr) (xs:List V):Prop :=
 Rd H a (.tup xs) ∨
  ∃ (o:Obj) (its:Array Value) (n:Nat),K.lookup a=some o∧o.cls=.type "tuple"∧o.data=.seq its n∧its.size≤sizeLine∧aT xs its.toList
def Dz:Value→Option V
 | .none=>some .non
 | .bool b=>some (.bl b)
 | .int i _=>some (.int i)
 | .str x _=>some (.str x)
 | .bytes b _=>some (.byt b)
 | .float b _=>some (.flt b)
 | .ref a=>some (.ref a)
 | .type n=>some (.ty n)
 | _=>none
theorem aX.abs {x:V}{u:Value} (r:aX x u):Dz u=some x:=by
 cases x with
 | non=>cases r; rfl
 | bl _=>cases r; rfl
 | int _=>obtain ⟨t,rfl⟩:=r; rfl
 | str _=>obtain ⟨t,rfl⟩:=r; rfl
 | byt _=>obtain ⟨t,rfl⟩:=r; rfl
 | flt _=>obtain ⟨t,rfl⟩:=r; rfl
 | ref _=>cases r; rfl
 | ty _=>cases r; rfl
theorem aX.inj {x y:V}{u:Value} (r:aX x u) (q:aX y u):x=y:=DW (r.abs.symm.trans q.abs)
theorem aT.inj:∀ {xs ys:List V}{us:List Value},aT xs us→aT ys us→xs=ys
 := by
  intro xs ys us h
  revert ys
  induction h with
  | nil =>
   intro ys k
   cases k
   rfl
  | cons r t ih =>
   intro ys k
   cases k with
   | cons r' t'=>rw [r.inj r',ih t']
section
variable {X:Cx}{pins:List (Addr×Obj)} {σ:St}{H:Hp}{s:Shared}{a:Addr}{xs ys:List V}
theorem SqL.of {K:PySem.W.Frag} (h:H a=some (.lst xs)):SqL K H a xs:=.inl (.inl h)
theorem SqT.of {K:PySem.W.Frag} (h:H a=some (.tup xs)):SqT K H a xs:=.inl (.inl h)
theorem Inv.list (I:Inv X pins σ H s) (h:SqL X.K H a xs):∃ its:List Value,aT xs its∧PlainL s.heap a its.toArray∧xs.length≤sizeLine:=by
 rcases h with h | ⟨o,its,n,hk,hc,hd,hs,hz,r⟩
 ·obtain ⟨z,its,n,r,e⟩:=h.ok I.hok
  exact ⟨its,r,⟨_,n,e,rfl,rfl,rfl⟩,z⟩
 ·refine ⟨its.toList,r,⟨o,n,I.kIn a o hk,hc,hd,by simpa using hs⟩,?_⟩
  have e:=r.length
  simp only [EN] at e
  omega
theorem Inv.tuple (I:Inv X pins σ H s) (h:SqT X.K H a xs):∃ its:List Value,aT xs its∧IsTup s.heap a its.toArray∧xs.length≤sizeLine:=by
 rcases h with h | ⟨o,its,n,hk,hc,hs,hz,r⟩
 ·obtain ⟨z,its,r,p⟩:=h.ok I.hok
  exact ⟨its,r,p,z⟩
 ·refine ⟨its.toList,r,⟨o,I.kIn a o hk,hc,n,by simpa using hs⟩,?_⟩
  have e:=r.length
  simp only [EN] at e
  omega
theorem Inv.list_inj (I:Inv X pins σ H s) (h:SqL X.K H a xs) (h':SqL X.K H a ys):xs=ys:=by
 obtain ⟨its,r,⟨o,n,e,_,_,d⟩,_⟩:=I.list h
 obtain ⟨its',r',⟨o',n',e',_,_,d'⟩,_⟩:=I.list h'
 rw [e] at e'; cases e'
 rw [d] at d'
 injection d' with d1 _
 have:its=its':=by simpa using ER Array.toList d1
 subst this
 exact r.inj r'
theorem Inv.tuple_inj (I:Inv X pins σ H s) (h:SqT X.K H a xs) (h':SqT X.K H a ys):xs=ys:=by
 obtain ⟨its,r,⟨o,e,_,n,d⟩,_⟩:=I.tuple h
 obtain ⟨its',r',⟨o',e',_,n',d'⟩,_⟩:=I.tuple h'
 rw [e] at e'; cases e'
 rw [d] at d'
 injection d' with d1 _
 have:its=its':=by simpa using ER Array.toList d1
 subst this
 exact r.inj r'
end
abbrev Cx.wish (X:Cx) (E:Value→Shared→Prop):Cx:={ X with xe:=E }
abbrev Cx.nox (X:Cx):Cx:=X.wish fun _ _=>False
theorem Cx.Ok.wish {X:Cx} (ok:X.Ok) (E:Value→Shared→Prop):(X.wish E).Ok :=
 ⟨ok.mod,ok.kind,ok.glob,ok.blt,ok.above,ok.inj,ok.has,ok.cab,ok.hd,ok.frames,ok.stk,ok.exf,ok.bs,ok.bsz,ok.noex,ok.exfs,ok.funs,ok.frf⟩
theorem Cx.Ok.unwish {X:Cx}{E:Value→Shared→Prop} (ok:(X.wish E).Ok):X.Ok :=
 ⟨ok.mod,ok.kind,ok.glob,ok.blt,ok.above,ok.inj,ok.has,ok.cab,ok.hd,ok.frames,ok.stk,ok.exf,ok.bs,ok.bsz,ok.noex,ok.exfs,ok.funs,ok.frf⟩
section
variable {X:Cx}{pins:List (Addr×Obj)} {σ:St}{H:Hp}{s:Shared}{E:Value→Shared→Prop}
theorem Inv.wish (I:Inv X pins σ H s) (E:Value→Shared→Prop):Inv (X.wish E) pins σ H s:=⟨I.ok.wish E,I.os,I.bare,I.base,I.loc,I.cell,I.free,I.freeC,I.pin,I.hok,I.len⟩
theorem Inv.unwish (I:Inv (X.wish E) pins σ H s):Inv X pins σ H s:=⟨I.ok.unwish,I.os,I.bare,I.base,I.loc,I.cell,I.free,I.freeC,I.pin,I.hok,I.len⟩
theorem SP.unwish {D:d_}{f:Flow}{s':Shared} (h:SP (X.wish E) pins D f s'):SP X pins D f s':=by
 cases f with
 | next=>obtain ⟨σ',H',I,q⟩:=h; exact ⟨σ',H',I.unwish,q⟩
 | brk=>obtain ⟨σ',H',I,q⟩:=h; exact ⟨σ',H',I.unwish,q⟩
 | cont=>obtain ⟨σ',H',I,q⟩:=h; exact ⟨σ',H',I.unwish,q⟩
 | ret u=>obtain ⟨v,σ',H',I,r,q⟩:=h; exact ⟨v,σ',H',I.unwish,r,q⟩
theorem PSs.nox {st:List Stmt}{t:TS} (h:PSs X.nox st t):PSs X st t:=fun pins s σ H D I hw =>
 Eo (h pins s σ H D (I.wish _) hw) (fun _ _ q=>q.unwish) fun _ _ z=>False.elim z
end
section
variable {X:Cx}{st:Stmt}{cg:List Stmt}{t u:TS}{e:Expr}{te:TE}{pos:Pos}
def BW:TS:=fun D σ H=>D.nx σ H
def C8 (t u:TS):TS:=fun D σ H=>t { D with nx:=u D } σ H
theorem yh:PSs X [] BW:=fun _ _ σ H _ I h=>FQ ⟨σ,H,I,h⟩
theorem vG (h1:PS X st t) (h2:PSs X cg u):PSs X (st :: cg) (C8 t u):=by
 intro pins s σ H D I h
 refine GC (thn (h1 pins s σ H { D with nx:=u D } I h) fun f s1 q=>?_)
 cases f with
 | next =>
  obtain ⟨σ',H',I',q⟩:=q
  exact h2 pins s1 σ' H' D I' q
 | ret v=>exact q
 | brk=>exact q
 | cont=>exact q
theorem rK (h1:PS X st t):PSs X [st] t:=by
 intro pins s σ H D I h
 refine GC (thn (h1 pins s σ H D I h) fun f s1 q=>?_)
 cases f with
 | next=>exact FQ q
 | ret v=>exact q
 | brk=>exact q
 | cont=>exact q
theorem Inv.quiet {pins:List (Addr×Obj)} {σ:St}{H:Hp}{s:Shared} (I:Inv X pins σ H s):interactive X.env=false:=by simp [interactive,I.ok.kind]
def BY (te:TE):TS:=fun D σ H=>te σ H fun _ H1=>D.nx σ H1
theorem yi (he:PE X e te) (hs:swapsWith e none pos.line X.env=pure false:=by rfl):PS X (.Expr e pos) (BY te):=by
 intro pins s σ H D I h
 exact wpAny_Expr_any (thn (he pins s σ H _ I h) fun v s1 zz9_0=>by obtain ⟨x,H1,I1,r1,q1⟩:=zz9_0; exact ⟨σ,H1,I1,q1⟩) I.quiet hs
def C9 (te:TE):TS:=fun D σ H=>te σ H D.rt
theorem Ax (he:PE X e te):PS X (.Return (some e) pos) (C9 te):=by
 intro pins s σ H D I h
 exact wpAny_Return_some (thn (he pins s σ H _ I h) fun v s1 zz10_0=>by obtain ⟨x,H1,I1,r1,q1⟩:=zz10_0; exact ⟨x,σ,H1,I1,r1,q1⟩)
def Dc (c:TT) (t u:TS):TS:=fun D σ H=>c σ H fun b H1=>if b=true then t D σ H1 else u D σ H1
theorem Cl {c:Expr}{a b:List Stmt}{tc:TT} (hc:PT X c tc) (ha:PSs X a t) (hb:PSs X b u):PS X (.If c a b pos) (Dc tc t u):=by
 intro pins s σ H D I h
 refine wpAny_If (thn (hc pins s σ H _ I h) fun d s1 zz11_0=>?_)
 obtain ⟨H1,I1,q1⟩:=zz11_0
 cases d with
 | true=>exact ha pins s1 σ H1 D I1 q1
 | false=>exact hb pins s1 σ H1 D I1 q1
def vd:TS:=fun _ _ _=>False
theorem vI:PS X st vd:=fun _ _ _ _ _ _ h=>h.elim
theorem tE {sts:List Stmt}:PSs X sts vd:=fun _ _ _ _ _ _ h=>h.elim
end
abbrev TG:=V→St→Hp→(St→Hp→Prop)→Prop
abbrev TGs:=List V→St→Hp→(St→Hp→Prop)→Prop
def PG (X:Cx) (target:Expr) (t:TG):Prop :=
 ∀ (pins:List (Addr×Obj)) (s:Shared) (σ:St) (H:Hp) (v:V) (u:Value) (Q:St→Hp→Prop),Inv X pins σ H s→aX v u→t v σ H Q →
  wpAny (model X.prog X.w) X.A (assign target X.env u) (fun _ s'=>∃ σ' H',Inv X pins σ' H' s'∧Q σ' H') X.xe s
def PGs (X:Cx) (ts:List Expr) (t:TGs):Prop :=
 ∀ (pins:List (Addr×Obj)) (s:Shared) (σ:St) (H:Hp) (vs:List V) (us:List Value) (Q:St→Hp→Prop),Inv X pins σ H s→aT vs us→t vs σ H Q →
  wpAny (model X.prog X.w) X.A (assignInOrder ((assignEach ts X.env).map (·.2)) us) (fun _ s'=>∃ σ' H',Inv X pins σ' H' s'∧Q σ' H') X.xe s
abbrev BF:=V→V→V→Hp→(Hp→Prop)→Prop
def CY (X:Cx) (t:BF):Prop :=
 ∀ (pins:List (Addr×Obj)) (s:Shared) (σ:St) (H:Hp) (o i v:V) (ov iv u:Value) (Q:Hp→Prop),Inv X pins σ H s→aX o ov→aX i iv→aX v u→t o i v H Q →
  wpAny (model X.prog X.w) X.A (setItem ov iv u) (fun _ s'=>∃ H',Inv X pins σ H' s'∧Q H') X.xe s
section
variable {X:Cx}{pos:Pos}
def l3 (i:Nat):TG:=fun v σ H Q=>Q (σ.set i (some v)) H
theorem yt {i:Nat}{x:Str} (hN:X.N.Nodup) (hi:X.N[i]? = some x) (hx:Loc X.env.scope x) (hf:X.fn x=true∨X.env.scope.names.lookup x=some .local:=by first | exact .inl rfl | exact .inr rfl | assumption):PG X (.Name x pos) (l3 i):=by
 intro pins s σ H v u Q I r h
 exact wpAny_assign_Name (dW I hN hi hx r (fun s' I'=>⟨_,H,I',h⟩) hf)
def Dv:TGs:=fun vs σ H Q=>vs=[]∧Q σ H
def CK (t:TG) (u:TGs):TGs:=fun vs σ H Q=>∃ v r,vs=v :: r∧t v σ H fun σ' H'=>u r σ' H' Q
theorem yr:PGs X [] Dv:=by
 intro pins s σ H vs us Q I r h
 obtain ⟨e,h⟩:=h
 subst e
 cases r
 exact assignInOrder_nil ⟨σ,H,I,h⟩
theorem vR {e:Expr}{es:List Expr}{t:TG}{u:TGs} (h1:PG X e t) (h2:PGs X es u)
  (hs:(assignEach (e :: es) X.env).map (·.2)=assign e X.env :: (assignEach es X.env).map (·.2):=by rfl):PGs X (e :: es) (CK t u):=by
 intro pins s σ H vs us Q I r h
 obtain ⟨v,vr,e1,h⟩:=h
 subst e1
 cases r with
 | cons r rr =>
  rw [hs]
  refine assignInOrder_cons (thn (h1 pins s σ H _ _ _ I r h) fun _ s1 zz12_0=>?_)
  obtain ⟨σ1,H1,I1,q1⟩:=zz12_0
  exact h2 pins s1 σ1 H1 _ _ Q I1 rr q1
def Dt (K:PySem.W.Frag) (n:Nat) (t:TGs):TG:=fun v σ H Q=>∃ a xs,v=.ref a∧SqT K H a xs∧xs.length=n∧t xs σ H Q
theorem vS {es:List Expr}{k:Nat}{t:TGs}{n:Nat} (hc:X.calm=true) (h:PGs X es t)
  (hn:(assignEach es X.env).length=n:=by rfl) (hst:(assignEach es X.env).findIdx? (·.1)=none:=by rfl):PG X (.Tuple es k pos) (Dt X.K n t):=by
 intro pins s σ H v u Q I r hw
 obtain ⟨a,xs,e1,hq,hl,hw⟩:=hw
 subst e1
 cases r
 obtain ⟨its,rv,ht,hz⟩:=I.tuple hq
 refine assign_Tuple_tuple (I.ok.hd hc) ht (by simp [hn,← hl,rv.length]) hst fun h' hx=>?_
 have I1:Inv X pins σ H { s with heap:=h' }:=I.kept (t':=s.toks) fun b o e=>hx b o (D5 (DV e)) e
 exact h pins _ σ H xs _ Q I1 (by simpa using rv) hw
def Du (to ti:TE) (t:BF):TG:=fun v σ H Q=>to σ H fun o H1=>ti σ H1 fun i H2=>t o i v H2 fun H3=>Q σ H3
theorem AD {o i:Expr}{to ti:TE}{t:BF} (ho:PE X o to) (hi:PE X i ti) (hs:CY X t)
  (ha:∀ v,assign (.Subscript o i pos) X.env v=(do
   let ov ← holding [v] (eval o X.env)
   let iv ← holding [v,ov] (eval i X.env)
   standAt pos
   holding [v,ov,iv] (setItem ov iv v)
   release [v,ov,iv] []):=by intro _; rfl):PG X (.Subscript o i pos) (Du to ti t):=by
 intro pins s σ H v u Q I r h
 rw [ha]
 refine DP (EA (thn (ho pins s σ H _ I h) fun ov s1 zz13_0=>?_))
 obtain ⟨x,H1,I1,r1,q1⟩:=zz13_0
 refine DP (EA (thn (hi pins s1 σ H1 _ I1 q1) fun iv s2 zz14_0=>?_))
 obtain ⟨y,H2,I2,r2,q2⟩:=zz14_0
 refine DP (FP (DP (EA (thn (hs pins s2 σ H2 x y v ov iv u _ I2 r1 r2 r q2) fun _ s3 zz15_0=>?_))))
 obtain ⟨H3,I3,q3⟩:=zz15_0
 exact wpAny_release ⟨σ,H3,I3,q3⟩
def vg (te:TE) (g:TG):TS:=fun D σ H=>te σ H fun x H1=>g x σ H1 D.nx
theorem vJ {tg e:Expr}{te:TE}{g:TG} (he:PE X e te) (hg:PG X tg g) (hs:swapsWithSole [tg] e pos.line X.env=pure false:=by rfl) (hw:swappedStores [tg] e X.env=pure none:=by rfl)
  (h1:(assignEach [tg] X.env).map (·.2)=[assign tg X.env]:=by rfl):PS X (.Assign [tg] e pos) (vg te g):=by
 intro pins s σ H D I h
 refine wpAny_Assign_stores (thn (he pins s σ H _ I h) fun v s1 zz16_0=>?_) hs hw
 obtain ⟨x,H1,I1,r1,q1⟩:=zz16_0
 rw [h1]
 exact thn (hg pins s1 σ H1 x v _ I1 r1 q1) fun _ s2 q=>q
theorem vH {i:Nat}{x:Str}{e:Expr}{te:TE}{pos':Pos} (hN:X.N.Nodup) (hi:X.N[i]? = some x) (hx:Loc X.env.scope x) (he:PE X e te) (hs:swapsWith e (some (.Name x pos')) pos.line X.env=pure false:=by rfl) (hf:X.fn x=true∨X.env.scope.names.lookup x=some .local:=by first | exact .inl rfl | exact .inr rfl | assumption) :
  PS X (.Assign [.Name x pos'] e pos) (vg te (l3 i)):=by
 intro pins s σ H D I h
 refine wpAny_Assign_Name (thn (he pins s σ H _ I h) fun v s1 zz17_0=>?_) hs
 obtain ⟨y,H1,I1,r1,q1⟩:=zz17_0
 exact dW I1 hN hi hx r1 (fun s2 I2=>⟨_,H1,I2,q1⟩) hf
def C_ (i j:Nat) (ta:TA):TS:=fun D σ H=>ta σ H fun vs H1=>∃ v w,vs=[v,w]∧D.nx ((σ.set i (some v)).set j (some w)) H1
theorem Ay {i j:Nat}{x y:Str}{a b:Expr}{ta:TA}{px py pt:Pos}{kt k2 pt2} (hc:X.calm=true) (hN:X.N.Nodup) (hi:X.N[i]? = some x) (hj:X.N[j]? = some y) (hij:i ≠ j)
  (hx:X.env.scope.names.lookup x=some .local) (hy:X.env.scope.names.lookup y=some .local) (ha:PA X [a,b] ta)
  (hw:swappedStores [.Tuple [.Name x px,.Name y py] kt pt] (.Tuple [a,b] k2 pt2) X.env=pure (some [x,y]))
  (hs:swapsWithSole [.Tuple [.Name x px,.Name y py] kt pt] (.Tuple [a,b] k2 pt2) pos.line X.env=pure false:=by rfl) :
  PS X (.Assign [.Tuple [.Name x px,.Name y py] kt pt] (.Tuple [a,b] k2 pt2) pos) (C_ i j ta):=by
 intro pins s σ H D I h
 rw [exec_Assign_arm]
 refine DP (FP ?_)
 rw [hs]
 refine DP (DS ?_)
 rw [if_neg (by decide)]
 refine DP (Tuple_ (thn (ha _ pins s σ H _ I h) fun us s1 zz18_0=>?_))
 obtain ⟨vs,H1,I1,r1,q1⟩:=zz18_0
 obtain ⟨v,w,e1,q1⟩:=q1
 subst e1
 obtain ⟨u1,u2,rfl,rv,rw'⟩:∃ u1 u2,us=[u1,u2]∧aX v u1∧aX w u2:=by
  cases r1 with
  | cons p q =>
   cases q with
   | cons p' q' =>
    cases q'
    exact ⟨_,_,rfl,p,p'⟩
 refine ES ?_ (by show 2≤sizeLine; decide)
 have I2:Inv X pins σ H1 { s1 with heap:=s1.heap.push { cls:=.type "tuple",data:=.seq [u1,u2].toArray } }:=I1.kept (t':=s1.toks) fun b o e=>DQ _ e
 rw [hw]
 refine DP (DS ?_)
 show wpAny (model X.prog X.w) X.A (do rule "assign.swapped-stores"; let items ← unpackItems (.ref s1.heap.objs.size) 2 none; assignInOrder [fun v=>bindName X.env y v,fun v=>bindName X.env x v] items.reverse; pure Flow.next) _ _ _
 refine DP (Gu (DP (unpackItems_tuple (items:=#[u1,u2]) (I.ok.hd hc) (IsTup.new s1.heap _) fun h' hx'=>?_)))
 have I3:=I2.kept (h':=h') (t':=s1.toks) fun b o e=>hx' b o (D5 (DV e)) e
 show wpAny _ _ (assignInOrder [fun v=>bindName X.env y v,fun v=>bindName X.env x v] [u2,u1] >>= fun _=>pure Flow.next) _ _ _
 refine DP (assignInOrder_cons (wpAny_bindName (dW I3 hN hj (.inl hy) rw' (fun s2 I4=>?_) (.inr hy))))
 refine assignInOrder_cons (wpAny_bindName (dW I4 hN hi (.inl hx) rv (fun s3 I5=>assignInOrder_nil (DS ?_)) (.inr hx)))
 rw [List.set_comm _ _ (Ne.symm hij)] at I5
 exact ⟨_,H1,I5,q1⟩
end
structure It where
 go:Nat→Hp→Prop
 yld:Nat→Hp→V→Hp→Prop
 stop:Nat→Hp→Prop
def gH (X:Cx) (pins:List (Addr×Obj)) (H:Hp) (b:Addr):Prop :=
 H b=none∧b ≠ X.env.locals∧b ∉ X.fs∧(b ∈ X.ex∨X.s₀.heap.objs.size≤b)∧(∀ x c,X.env.cells.lookup x=some c→c ≠ b)∧∀ p ∈ X.pn ++ pins,p.1 ≠ b
theorem Inv.fpOk {X:Cx}{pins:List (Addr×Obj)} {σ:St}{H H':Hp}{s:Shared}{b:Addr} (I:Inv X pins σ H s) (hb:s.heap.objs.size≤b) (hn:H' b=none):gH X pins H' b:=by
 refine ⟨hn,Ga (D7 I.lt hb),I.nofs hb,.inr (D1 I.sz hb),fun x c e z=>?_,fun p hp z=>?_⟩
 ·obtain ⟨v,q⟩:=I.cell x c e
  exact absurd (D7 q.lt (by rw [z]; exact hb)) (Fj _)
 ·exact absurd (D7 (DV (I.pin p hp).1) (by rw [z]; exact hb)) (Fj _)
structure pJ (P:Program) (w:World) (K:PySem.W.Frag) (tg:Expr) (J:It) (fp:List Addr) (it:Addr) (tn:Nat→Heap→Prop):Prop where
 mem:it ∈ fp
 obj:∀ i h,tn i h→∀ b ∈ fp,∃ o,h.get? b=some o∧∀ v,o.data ≠ .cell v
 keep:∀ i h h',tn i h→(∀ b ∈ fp,∀ o,h.get? b=some o→h'.get? b=some o)→tn i h'
 item:∀ (X:Cx),X.prog=P→X.w=w→X.K=K→X.calm=true→∀ (i:Nat) (pins:List (Addr×Obj)) (s:Shared) (σ:St) (H:Hp) (E:Value→Shared→Prop),Inv X pins σ H s→(∀ b ∈ fp,gH X pins H b)→tn i s.heap→J.go i H →
  wpAny (model P w) X.A (pyNext (.ref it)) (fun r s1=>∃ u,r=some u ∧
   wpAny (model P w) X.A (letOwnedTupleGo tg (.ref it) u) (fun _ s2=>∃ x H',Inv X pins σ H' s2∧aX x u∧J.yld i H x H'∧tn (i + 1) s2.heap∧∀ b ∈ fp,H' b=none) E s1) E s
 done:∀ (X:Cx),X.prog=P→X.w=w→X.K=K→X.calm=true→∀ (i:Nat) (pins:List (Addr×Obj)) (s:Shared) (σ:St) (H:Hp) (E:Value→Shared→Prop),Inv X pins σ H s→(∀ b ∈ fp,gH X pins H b)→tn i s.heap→J.stop i H →
  wpAny (model P w) X.A (pyNext (.ref it)) (fun r s1=>r=none∧Inv X pins σ H s1) E s
 self:∀ (A:Around) (i:Nat) (s:Shared) (Q:Value→Shared→Prop) (E:Value→Shared→Prop),tn i s.heap→Q (.ref it) s→wpAny (model P w) A (pyIter (.ref it)) Q E s
abbrev TI:=St→Hp→(It→Hp→Prop)→Prop
def PIE (X:Cx) (pins:List (Addr×Obj)) (σ:St) (tg:Expr) (R:It→Hp→Prop) (itv:Value) (s2:Shared):Prop :=
 ∃ (it:Addr) (fp:List Addr) (tn:Nat→Heap→Prop) (J:It) (H':Hp),itv=.ref it∧Inv X pins σ H' s2∧pJ X.prog X.w X.K tg J fp it tn∧tn 0 s2.heap∧(∀ b ∈ fp,gH X pins H' b)∧R J H'
def PI (X:Cx) (tg iter:Expr) (wi:TI):Prop :=
 ∀ (pins:List (Addr×Obj)) (s:Shared) (σ:St) (H:Hp) (R:It→Hp→Prop),Inv X pins σ H s→wi σ H R →
  wpAny (model X.prog X.w) X.A (eval iter X.env) (fun v s1=>wpAny (model X.prog X.w) X.A (pyIter v) (PIE X pins σ tg R) X.xe s1) X.xe s
theorem wL {M:Model}{A:Around}{E:Value→Shared→Prop}{s:Shared}{tg:Expr}{it:Addr}{u:Value}{o:Obj}{n:String}{vs:Array Value}{Q:Unit→Shared→Prop} (ho:s.heap.get? it=some o) (hc:o.cls=.type n) (hd:o.data=.fields vs)
    (hn:["enumerate","zip","dict_itemiterator","dict_reverseitemiterator","odict_iterator","itertools.zip_longest","itertools.pairwise"].contains n=false) (hQ:Q () s):wpAny M A (letOwnedTupleGo tg (.ref it) u) Q E s:=by
  unfold letOwnedTupleGo
  cases tg <;> first
    | exact DS hQ
    | (cases u <;> first
        | exact DS hQ
        | (refine DP (wpAny_load ho ?_)
           rw [hc,hd]
           show wpAny M A (if (["enumerate","zip","dict_itemiterator","dict_reverseitemiterator","odict_iterator","itertools.zip_longest","itertools.pairwise"].contains n && vs[0]? == some (rawInt _))=true then _ else _) Q E s
           rw [if_neg (by intro h; rw [hn,ED] at h; cases h)]
           exact DS hQ))
def Itl (K:PySem.W.Frag) (a:Addr):It :=
 ⟨fun i H=>∃ xs x,SqL K H a xs∧xs[i]? = some x,fun i H x H'=>H'=H∧∀ xs,SqL K H a xs→xs[i]? = some x,fun i H=>∃ xs,SqL K H a xs∧xs.length≤i⟩
def Itt (K:PySem.W.Frag) (a:Addr):It :=
 ⟨fun i H=>∃ xs x,SqT K H a xs∧xs[i]? = some x,fun i H x H'=>H'=H∧∀ xs,SqT K H a xs→xs[i]? = some x,fun i H=>∃ xs,SqT K H a xs∧xs.length≤i⟩
def Itr (lo:Int) (n:Nat):It:=⟨fun i _=>i < n,fun i H x H'=>H'=H∧x=.int (lo + i),fun i _=>n≤i⟩
theorem sT {P:Program}{w:World}{K:PySem.W.Frag}{tg:Expr} (a it:Addr):pJ P w K tg (Itl K a) [it] it (fun i h=>h.IsListIter it a i) where
 mem:=by simp
 obj:=fun i h st b hb=>by
  have e:b=it:=by simpa using hb
  subst e
  obtain ⟨o,e,c,d⟩:=st
  exact ⟨o,e,fun v z=>by rw [d] at z; cases z⟩
 keep:=fun i h h' st k=>st.at fun o e=>k it (by simp) o e
 item:=by
  intro X hP hw hK hc i pins s σ H E I hf st hg
  subst hP hw hK
  obtain ⟨xs,x,hq,hx⟩:=hg
  obtain ⟨its,rv,p,hz⟩:=I.list hq
  obtain ⟨u,hu,ru⟩:=rv.get hx
  obtain ⟨f0,f1,f2,f3,f4,f5⟩:=hf it (by simp)
  refine wpAny_pyNext_list_item st p.isList (x:=u) (by simpa using hu) fun h' st' sb=>?_
  have I1:Inv X pins σ H { s with heap:=h' }:=I.turned (t':=s.toks) (fun b o hb e=>(sb.2 b hb).trans e) f0 f1 f3 f4 f5
  obtain ⟨o,e,c,d⟩:=id st'
  exact ⟨u,rfl,wL (s:={ s with heap:=h' }) e c d (by decide) ⟨x,H,I1,ru,⟨rfl,fun ys hy=>by rw [I.list_inj hy hq]; exact hx⟩,st',fun b hb=>(hf b hb).1⟩⟩
 done:=by
  intro X hP hw hK hc i pins s σ H E I hf st hg
  subst hP hw hK
  obtain ⟨xs,hq,hx⟩:=hg
  obtain ⟨its,rv,p,hz⟩:=I.list hq
  obtain ⟨f0,f1,f2,f3,f4,f5⟩:=hf it (by simp)
  have hl:=rv.length
  exact wpAny_pyNext_list_end (I.ok.hd hc) st p.isList (by simp; omega) fun h' eb=>⟨rfl,I.turned (t':=s.toks) (fun b o hb e=>eb b o hb e) f0 f1 f3 f4 f5⟩
 self:=fun _ _ _ _ _ st h=>wpAny_pyIter_listiter st h
theorem pU {P:Program}{w:World}{K:PySem.W.Frag}{tg:Expr} (a it:Addr):pJ P w K tg (Itt K a) [it] it (fun i h=>h.IsTupleIter it a i) where
 mem:=by simp
 obj:=fun i h st b hb=>by
  have e:b=it:=by simpa using hb
  subst e
  obtain ⟨o,e,c,d⟩:=st
  exact ⟨o,e,fun v z=>by rw [d] at z; cases z⟩
 keep:=fun i h h' st k=>st.at fun o e=>k it (by simp) o e
 item:=by
  intro X hP hw hK hc i pins s σ H E I hf st hg
  subst hP hw hK
  obtain ⟨xs,x,hq,hx⟩:=hg
  obtain ⟨its,rv,p,hz⟩:=I.tuple hq
  obtain ⟨u,hu,ru⟩:=rv.get hx
  obtain ⟨f0,f1,f2,f3,f4,f5⟩:=hf it (by simp)
  refine wpAny_pyNext_tuple_item st (show s.heap.IsTuple a its.toArray from p) (x:=u) (by simpa using hu) fun h' st' sb=>?_
  have I1:Inv X pins σ H { s with heap:=h' }:=I.turned (t':=s.toks) (fun b o hb e=>(sb.2 b hb).trans e) f0 f1 f3 f4 f5
  obtain ⟨o,e,c,d⟩:=id st'
  exact ⟨u,rfl,wL (s:={ s with heap:=h' }) e c d (by decide) ⟨x,H,I1,ru,⟨rfl,fun ys hy=>by rw [I.tuple_inj hy hq]; exact hx⟩,st',fun b hb=>(hf b hb).1⟩⟩
 done:=by
  intro X hP hw hK hc i pins s σ H E I hf st hg
  subst hP hw hK
  obtain ⟨xs,hq,hx⟩:=hg
  obtain ⟨its,rv,p,hz⟩:=I.tuple hq
  obtain ⟨f0,f1,f2,f3,f4,f5⟩:=hf it (by simp)
  have hl:=rv.length
  exact wpAny_pyNext_tuple_end (I.ok.hd hc) st (show s.heap.IsTuple a its.toArray from p) (by simp; omega) fun h' eb=>⟨rfl,I.turned (t':=s.toks) (fun b o hb e=>eb b o hb e) f0 f1 f3 f4 f5⟩
 self:=fun _ _ _ _ _ st h=>wpAny_pyIter_tupleiter st h
theorem pV {P:Program}{w:World}{K:PySem.W.Frag}{tg:Expr} (it:Addr) (lo:Int) (n:Nat):pJ P w K tg (Itr lo n) [it] it (fun i h=>IsRangeIter h it (lo + (i:Nat) * 1) ((n:Int) - (i:Nat)) 1) where
 mem:=by simp
 obj:=fun i h st b hb=>by
  have e:b=it:=by simpa using hb
  subst e
  exact ⟨_,st,fun v z=>by
   have z':Data.fields _=Data.cell v:=z
   cases z'⟩
 keep:=fun i h h' st k=>k it (by simp) _ st
 item:=by
  intro X hP hw hK hc i pins s σ H E I hf st hg
  subst hP hw hK
  obtain ⟨f0,f1,f2,f3,f4,f5⟩:=hf it (by simp)
  have W:=Walks.range (prog:=X.prog) (w:=X.w) (I.ok.hd hc) it lo 1 n
  refine W.item i s _ _ hg st fun v h' tk hv st' kk=>?_
  obtain ⟨t,rfl⟩:=hv
  have I1:Inv X pins σ H { s with heap:=h',toks:=tk }:=I.turned (fun b o hb e=>kk b o (by simpa using hb) e) f0 f1 f3 f4 f5
  refine ⟨_,rfl,wL (s:={ s with heap:=h',toks:=tk }) (n := "range_iterator") st' rfl rfl (by decide) ⟨.int (lo + i),H,I1,⟨t,?_⟩,⟨rfl,rfl⟩,st',fun b hb=>(hf b hb).1⟩⟩
  rw [Int.mul_one]
 done:=by
  intro X hP hw hK hc i pins s σ H E I hf st hg
  subst hP hw hK
  obtain ⟨f0,f1,f2,f3,f4,f5⟩:=hf it (by simp)
  exact wpAny_pyNext_range_end (I.ok.hd hc) st (by have:n≤i:=hg; omega) fun h' eb=>⟨rfl,I.turned (t':=s.toks) (fun b o hb e=>eb b o hb e) f0 f1 f3 f4 f5⟩
 self:=fun _ _ _ _ _ st h=>wpAny_pyIter_rangeiter st h
section
variable {X:Cx}{tg:Expr}
def CI (K:PySem.W.Frag) (tl:TE):TI:=fun σ H R=>tl σ H fun x H1=>∃ a,x=.ref a∧(∃ xs,SqL K H1 a xs)∧R (Itl K a) H1
def Dq (K:PySem.W.Frag) (tl:TE):TI:=fun σ H R=>tl σ H fun x H1=>∃ a,x=.ref a∧(∃ xs,SqT K H1 a xs)∧R (Itt K a) H1
theorem yp {l:Expr}{tl:TE} (hl:PE X l tl):PI X tg l (CI X.K tl):=by
 intro pins s σ H R I h
 refine thn (hl pins s σ H _ I h) fun v s1 zz19_0=>?_
 obtain ⟨x,H1,I1,r1,q1⟩:=zz19_0
 obtain ⟨a,e,⟨xs,hq⟩,q⟩:=q1
 subst e
 cases r1
 obtain ⟨its,rv,p,hz⟩:=I1.list hq
 refine FA p.isList ?_
 refine ⟨s1.heap.objs.size,[s1.heap.objs.size],_,_,H1,rfl,I1.kept (t':=s1.toks) fun b o e=>DQ _ e,sT a _,⟨_,DX _ rfl,rfl,rfl⟩,fun b hb=>?_,q⟩
 have e:b=s1.heap.objs.size:=by simpa using hb
 subst e
 exact I1.fpOk (DZ _) (I1.hok.fresh (DZ _))
theorem AA {l:Expr}{tl:TE} (hl:PE X l tl):PI X tg l (Dq X.K tl):=by
 intro pins s σ H R I h
 refine thn (hl pins s σ H _ I h) fun v s1 zz20_0=>?_
 obtain ⟨x,H1,I1,r1,q1⟩:=zz20_0
 obtain ⟨a,e,⟨xs,hq⟩,q⟩:=q1
 subst e
 cases r1
 obtain ⟨its,rv,p,hz⟩:=I1.tuple hq
 refine GN (show s1.heap.IsTuple a its.toArray from p) ?_
 refine ⟨s1.heap.objs.size,[s1.heap.objs.size],_,_,H1,rfl,I1.kept (t':=s1.toks) fun b o e=>DQ _ e,pU a _,⟨_,DX _ rfl,rfl,rfl⟩,fun b hb=>?_,q⟩
 have e:b=s1.heap.objs.size:=by simpa using hb
 subst e
 exact I1.fpOk (DZ _) (I1.hok.fresh (DZ _))
theorem vB {pins:List (Addr×Obj)} {σ:St}{H:Hp}{s:Shared}{R:It→Hp→Prop}{E:Value→Shared→Prop}{lo hi:Int}{t u v:Tok}{tk:Nat} (I:Inv X pins σ H s) (h1 : -(2 ^ 62)≤lo) (h2:lo < 2 ^ 62) (h3 : -(2 ^ 62)≤hi) (h4:hi < 2 ^ 62)
  (q:R (Itr lo (hi - lo).toNat) H):wpAny (model X.prog X.w) X.A (pyIter (.ref s.heap.objs.size)) (PIE X pins σ tg R) E { s with heap:=s.heap.push { cls:=.type "range",data:=.fields #[.int lo t,.int hi u,.int 1 v] },toks:=tk }:=by
 refine wpAny_pyIter_range (IsRange.new ..) (small_one h1 h2 h3 h4) ?_
 have I1:Inv X pins σ H { s with heap:=s.heap.push { cls:=.type "range",data:=.fields #[.int lo t,.int hi u,.int 1 v] },toks:=tk }:=I.kept fun b o e=>DQ _ e
 refine ⟨(s.heap.push { cls:=.type "range",data:=.fields #[.int lo t,.int hi u,.int 1 v] }).objs.size,[(s.heap.push { cls:=.type "range",data:=.fields #[.int lo t,.int hi u,.int 1 v] }).objs.size],_,_,H,rfl,
  I1.kept (t':=tk) fun b o e=>DQ _ e,pV _ lo (hi - lo).toNat,?_,fun b hb=>?_,q⟩
 ·have e1:lo + ((0:Nat):Int) * 1=lo:=by simp
  have e2:(((hi - lo).toNat:Nat):Int) - ((0:Nat):Int)=Builtin.Range.rangeSize lo hi 1:=by rw [rangeSize_one]; split <;> omega
  show IsRangeIter _ _ (lo + ((0:Nat):Int) * 1) ((((hi - lo).toNat:Nat):Int) - ((0:Nat):Int)) 1
  rw [e1,e2]
  exact DX _ rfl
 ·have e:b=(s.heap.push { cls:=.type "range",data:=.fields #[.int lo t,.int hi u,.int 1 v] }).objs.size:=by simpa using hb
  subst e
  exact I1.fpOk (DZ _) (I1.hok.fresh (DZ _))
def CH (ta:TA):TI:=fun σ H R=>ta σ H fun vs H1=>∃ j:Int,vs=[.int j]∧-(2 ^ 62)≤j∧j < 2 ^ 62∧R (Itr 0 j.toNat) H1
theorem tH {a:Expr}{ta:TA}{p pos:Pos} (hg:Gl X "range") (hm:X.mg "range" = none) (ha:PA X [a] ta) (hs:starEach [a] X.env=[(false,eval a X.env)]:=by rfl):PI X tg (.Call (.Name "range" p) [a] [] pos) (CH ta):=by
 intro pins s σ H R I h
 refine Call_ (fX I hg hm boot_range (E9 (thn (ha pos pins s σ H _ I h) fun us s1 zz21_0=>?_) hs rfl))
 obtain ⟨vs,H1,I1,r1,q1⟩:=zz21_0
 obtain ⟨j,e,q1,q2,q⟩:=q1
 subst e
 cases r1 with
 | cons r rr =>
  cases rr
  obtain ⟨t,rfl⟩:=r
  exact call_range_1 (vB I1 (by omega) (by omega) q1 q2 (by simpa using q))
def Dd (wi:TI) (g:TG) (tb:TS):TS:=fun D σ H=>wi σ H fun J H1=>∃ W:Nat→Nat→St→Hp→Prop,(∃ m,W 0 m σ H1)∧∀ i m σ H,W i m σ H →
 (J.stop i H∧D.nx σ H)∨(J.go i H∧∃ N:St→Hp→Prop,(∀ σ' H',N σ' H'→∃ m',m' < m∧W (i + 1) m' σ' H')∧∀ x H',J.yld i H x H'→g x σ H' fun σ2 H2=>tb { D with nx:=N,ct:=N,bk:=D.nx } σ2 H2)
def iT (fp:List Addr) (h:Heap):List (Addr×Obj):=fp.filterMap fun b=>(h.get? b).map fun o=>(b,o)
theorem dj {fp:List Addr}{h:Heap}{b:Addr}{o:Obj} (hb:b ∈ fp) (e:h.get? b=some o):(b,o) ∈ iT fp h:=List.mem_filterMap.mpr ⟨b,hb,by rw [e]; rfl⟩
theorem tW {fp:List Addr}{h:Heap}{p:Addr×Obj} (hp:p ∈ iT fp h):p.1 ∈ fp∧h.get? p.1=some p.2:=by
 obtain ⟨b,hb,e⟩:=List.mem_filterMap.mp hp
 cases q:h.get? b with
 | none=>rw [q] at e; cases e
 | some o =>
  rw [q] at e
  have e':(b,o)=p:=DW e
  subst e'
  exact ⟨hb,q⟩
theorem Inv.pinned {pins:List (Addr×Obj)} {σ:St}{H:Hp}{s:Shared}{fp:List Addr} (I:Inv X pins σ H s) (hf:∀ b ∈ fp,gH X pins H b) (ho:∀ b ∈ fp,∃ o,s.heap.get? b=some o∧∀ v,o.data ≠ .cell v):Inv X (pins ++ iT fp s.heap) σ H s :=
 I.pins_of fun p hp=>(List.mem_append.mp hp).elim (fun z=>I.pin p (D4 _ z)) fun z=>by
  obtain ⟨hb,e⟩:=tW z
  obtain ⟨f0,f1,f2,_⟩:=hf p.1 hb
  obtain ⟨o,e',d⟩:=ho p.1 hb
  rw [e] at e'; cases e'
  exact ⟨e,f0,f1,f2,d⟩
theorem Inv.unpinned {pins pl:List (Addr×Obj)} {σ:St}{H:Hp}{s:Shared} (I:Inv X (pins ++ pl) σ H s):Inv X pins σ H s:=I.pins_of fun p hp=>I.pin p (D4 _ (EL _ hp))
theorem Az {iter:Expr}{body:List Stmt}{wi:TI}{g:TG}{tb:TS}{pos:Pos} (hp:PassesOwn (model X.prog X.w) X.A X.env X.xe) (hc:X.calm=true) (hi:PI X tg iter wi) (hg:PG X tg g) (hb:PSs X body tb)
  (hs:∀ x,foldedSetIterable iter X.env x=pure x:=by intro _; rfl):PS X (.For tg iter body [] pos) (Dd wi g tb):=by
 intro pins s σ H D I h
 refine wpAny_For (thn (hi pins s σ H _ I h) fun v s1 h1=>thn h1 fun itv s2 h2=>?_) hs
 obtain ⟨it,fp,tn,J,H2,e,I2,T,st2,f2,W,⟨m0,w0⟩,turn⟩:=h2
 subst e
 have stat:∀ {H':Hp},(∀ b ∈ fp,H' b=none)→∀ b ∈ fp,gH X pins H' b:=fun hn b hb=>⟨hn b hb,(f2 b hb).2⟩
 refine codeAny_forLoop_any (fun n s'=>∃ i σ' H',Inv X pins σ' H' s'∧tn i s'.heap∧(∀ b ∈ fp,H' b=none)∧W i n σ' H') ?_ m0 ⟨0,σ,H2,I2,st2,fun b hb=>(f2 b hb).1,w0⟩
 rintro n s3 ⟨i,σ3,H3,I3,st3,fr3,w3⟩
 rcases turn i n σ3 H3 w3 with ⟨stop,qn⟩ | ⟨go,N,hN,step⟩
 ·refine E7 hp (thn (T.done X rfl rfl rfl hc i pins s3 σ3 H3 X.xe I3 (stat fr3) st3 stop) fun r s4 zz22_0=>?_)
  obtain ⟨hr,I4⟩:=zz22_0
  subst hr
  exact FQ ⟨σ3,H3,I4,qn⟩
 ·refine E7 hp (thn (T.item X rfl rfl rfl hc i pins s3 σ3 H3 X.xe I3 (stat fr3) st3 go) fun r s4 zz23_0=>?_)
  obtain ⟨u,hr,h4⟩:=zz23_0
  subst hr
  refine E7 hp (thn h4 fun _ s5 zz24_0=>?_)
  obtain ⟨x,H5,I5,r5,y5,st5,fr5⟩:=zz24_0
  have I5':=I5.pinned (stat fr5) (T.obj _ _ st5)
  refine E7 hp (thn (hg _ s5 σ3 H5 x u _ I5' r5 (step x H5 y5)) fun _ s6 zz25_0=>?_)
  obtain ⟨σ6,H6,I6,q6⟩:=zz25_0
  refine E7 hp (thn (hb _ s6 σ6 H6 _ I6 q6) fun f s7 q7=>?_)
  have again:∀ {σ7:St}{H7:Hp},Inv X (pins ++ iT fp s5.heap) σ7 H7 s7→N σ7 H7→∃ m,m < n∧∃ i σ' H',Inv X pins σ' H' s7∧tn i s7.heap∧(∀ b ∈ fp,H' b=none)∧W i m σ' H':=fun {σ7 H7} I7 n7=>by
   obtain ⟨m',hm,w7⟩:=hN σ7 H7 n7
   refine ⟨m',hm,i + 1,σ7,H7,I7.unpinned,T.keep _ _ _ st5 fun b hb o e=>(I7.pin (b,o) (D4 _ (D4 _ (dj hb e)))).1,fun b hb=>?_,w7⟩
   obtain ⟨o,e,d⟩:=T.obj _ _ st5 b hb
   exact (I7.pin (b,o) (D4 _ (D4 _ (dj hb e)))).2.1
  cases f with
  | next=>obtain ⟨σ7,H7,I7,n7⟩:=q7; exact again I7 n7
  | cont=>obtain ⟨σ7,H7,I7,n7⟩:=q7; exact again I7 n7
  | brk=>obtain ⟨σ7,H7,I7,q7⟩:=q7; exact ⟨σ7,H7,I7.unpinned,q7⟩
  | ret v=>obtain ⟨x7,σ7,H7,I7,r7,q7⟩:=q7; exact ⟨x7,σ7,H7,I7.unpinned,r7,q7⟩
end
abbrev R2:=V→V→Hp→VK→Prop
def OpR (X:Cx) (f:Value→Value→Sem Value) (r:R2):Prop :=
 ∀ (pins:List (Addr×Obj)) (s:Shared) (σ:St) (H:Hp) (x y:V) (v u:Value) (Q:VK),Inv X pins σ H s→aX x v→aX y u→r x y H Q →
  wpAny (model X.prog X.w) X.A (f v u) (EP X pins σ Q) X.xe s
def UnR (X:Cx) (f:Value→Sem Value) (r:V→Hp→VK→Prop):Prop :=
 ∀ (pins:List (Addr×Obj)) (s:Shared) (σ:St) (H:Hp) (x:V) (v:Value) (Q:VK),Inv X pins σ H s→aX x v→r x H Q →
  wpAny (model X.prog X.w) X.A (f v) (EP X pins σ Q) X.xe s
def cI (X:Cx) (f:Value) (r:List V→Hp→VK→Prop):Prop :=
 ∀ (pins:List (Addr×Obj)) (s:Shared) (σ:St) (H:Hp) (xs:List V) (us:List Value) (Q:VK),Inv X pins σ H s→aT xs us→r xs H Q →
  wpAny (model X.prog X.w) X.A (call f us) (EP X pins σ Q) X.xe s
def tOp (r:R2) (ta tb:TE):TE:=fun σ H Q=>ta σ H fun x H1=>tb σ H1 fun y H2=>r x y H2 Q
def tUn (r:V→Hp→VK→Prop) (ta:TE):TE:=fun σ H Q=>ta σ H fun x H1=>r x H1 Q
def rI (C:Int→Int→Prop) (g:Int→Int→V):R2:=fun x y H Q=>∃ i j,x=.int i∧y=.int j∧C i j∧Q (g i j) H
def rI0 (g:Int→Int→V):R2:=fun x y H Q=>∃ i j,x=.int i∧y=.int j∧Q (g i j) H
def rU (g:Int→V):V→Hp→VK→Prop:=fun x H Q=>∃ i,x=.int i∧Q (g i) H
section
variable {X:Cx}{a b c:Expr}{ta tb tc:TE}{pos:Pos}
theorem BE (ha:PE X a ta) (hb:PE X b tb) {pins:List (Addr×Obj)} {s:Shared} {σ:St}{H:Hp}{R:V→V→Hp→Prop} (I:Inv X pins σ H s)
  (h:ta σ H fun x H1=>tb σ H1 fun y H2=>R x y H2) {Q:Value→Shared→Prop}{f:Value→Value→Sem Value}
  (hf:∀ v u s2 x y H2,Inv X pins σ H2 s2→aX x v→aX y u→R x y H2→wpAny (model X.prog X.w) X.A (f v u) Q X.xe s2) :
  wpAny (model X.prog X.w) X.A (eval a X.env) (fun v s₁=>wpAny (model X.prog X.w) X.A (eval b X.env) (fun u s₂=>wpAny (model X.prog X.w) X.A (f v u) Q X.xe s₂) X.xe s₁) X.xe s:=by
 refine thn (ha pins s σ H _ I h) fun v s1 zz26_0=>?_
 obtain ⟨x,H1,I1,r1,q1⟩:=zz26_0
 refine thn (hb pins s1 σ H1 _ I1 q1) fun u s2 zz27_0=>?_
 obtain ⟨y,H2,I2,r2,q2⟩:=zz27_0
 exact hf v u s2 x y H2 I2 r1 r2 q2
theorem Co {op:Operator}{r:R2} (ho:OpR X (binaryOp op) r) (ha:PE X a ta) (hb:PE X b tb):PE X (.BinOp a op b pos) (tOp r ta tb):=by
 intro pins s σ H Q I h
 exact wpAny_BinOp (BE ha hb I h fun v u s2 x y H2 I2 rx ry q=>ho pins s2 σ H2 x y v u Q I2 rx ry q)
theorem Cn {op:UnaryOp}{r:V→Hp→VK→Prop} (ho:UnR X (unaryOp op) r) (ha:PE X a ta):PE X (.UnaryOp op a pos) (tUn r ta):=by
 intro pins s σ H Q I h
 exact UnaryOp_ (thn (ha pins s σ H _ I h) fun v s1 zz28_0=>by obtain ⟨x,H1,I1,r1,q1⟩:=zz28_0; exact ho pins s1 σ H1 x v Q I1 r1 q1)
theorem opI {f:Value→Value→Sem Value}{C:Int→Int→Prop}{g:Int→Int→Int}
  (rule:∀ (i j:Int) (t u:Tok) (s:Shared) (Q:Value→Shared→Prop) (E:Value→Shared→Prop),C i j→Q (.int (g i j) s.toks) { s with toks:=s.toks + 1 }→wpAny (model X.prog X.w) X.A (f (.int i t) (.int j u)) Q E s) :
  OpR X f (rI C fun i j=>.int (g i j)):=by
 intro pins s σ H x y v u Q I rx ry h
 obtain ⟨i,j,rfl,rfl,hc,q⟩:=h
 obtain ⟨t,rfl⟩:=rx
 obtain ⟨t',rfl⟩:=ry
 exact rule i j t t' s _ _ hc ⟨.int (g i j),H,I.tok _,⟨_,rfl⟩,q⟩
theorem CA {f:Value→Value→Sem Value}{g:Int→Int→Int}
  (rule:∀ (i j:Int) (t u:Tok) (s:Shared) (Q:Value→Shared→Prop) (E:Value→Shared→Prop),Q (.int (g i j) s.toks) { s with toks:=s.toks + 1 }→wpAny (model X.prog X.w) X.A (f (.int i t) (.int j u)) Q E s) :
  OpR X f (rI0 fun i j=>.int (g i j)):=by
 intro pins s σ H x y v u Q I rx ry h
 obtain ⟨i,j,rfl,rfl,q⟩:=h
 obtain ⟨t,rfl⟩:=rx
 obtain ⟨t',rfl⟩:=ry
 exact rule i j t t' s _ _ ⟨.int (g i j),H,I.tok _,⟨_,rfl⟩,q⟩
theorem AT {f:Value→Value→Sem Value}{g:Int→Int→Bool}
  (rule:∀ (i j:Int) (t u:Tok) (s:Shared) (Q:Value→Shared→Prop) (E:Value→Shared→Prop),Q (.bool (g i j)) s→wpAny (model X.prog X.w) X.A (f (.int i t) (.int j u)) Q E s) :
  OpR X f (rI0 fun i j=>.bl (g i j)):=by
 intro pins s σ H x y v u Q I rx ry h
 obtain ⟨i,j,rfl,rfl,q⟩:=h
 obtain ⟨t,rfl⟩:=rx
 obtain ⟨t',rfl⟩:=ry
 exact rule i j t t' s _ _ ⟨.bl (g i j),H,I,rfl,q⟩
def C6 (i j:Int):Prop:=0≤j∧j≤1000000∧i.natAbs < 2 ^ 64
theorem AS:OpR X (binaryOp .Add) (rI0 fun i j=>.int (i + j)):=CA fun _ _ _ _ _ _ _ q=>add_int q
theorem AM:OpR X (binaryOp .Sub) (rI0 fun i j=>.int (i - j)):=CA fun _ _ _ _ _ _ _ q=>sub_int q
theorem AQ:OpR X (binaryOp .Mod) (rI (fun _ j=>0 < j) fun i j=>.int (i % j)):=opI fun i j _ _ _ _ _ hc q=>by
 have h1:(0:Int) < j:=hc
 exact mod_int' (by omega) (by rw [Int.fmod_eq_emod_of_nonneg i (by omega)]; exact q)
theorem AN:OpR X (binaryOp .Pow) (rI C6 fun i j=>.int (i ^ j.toNat)):=opI fun _ _ _ _ _ _ _ hc q=>pow_int_small hc.1 hc.2.1 hc.2.2 q
theorem unI {f:Value→Sem Value}{g:Int→Int}
  (rule:∀ (i:Int) (t:Tok) (s:Shared) (Q:Value→Shared→Prop) (E:Value→Shared→Prop),Q (.int (g i) s.toks) { s with toks:=s.toks + 1 }→wpAny (model X.prog X.w) X.A (f (.int i t)) Q E s) :
  UnR X f (rU fun i=>.int (g i)):=by
 intro pins s σ H x v Q I rx h
 obtain ⟨i,rfl,q⟩:=h
 obtain ⟨t,rfl⟩:=rx
 exact rule i t s _ _ ⟨.int (g i),H,I.tok _,⟨_,rfl⟩,q⟩
theorem zU:UnR X (unaryOp .USub) (rU fun i=>.int (-i)):=unI fun _ _ _ _ _ q=>neg_int q
end
def scal:V→V→Bool
 | .non,.non=>true | .non,.int _=>true | .int _,.non=>true | .non,.bl _=>true | .bl _,.non=>true | .non,.str _=>true | .str _,.non=>true
 | .int _,.int _=>true | .bl _,.bl _=>true | .str _,.str _=>true | .byt _,.byt _=>true
 | .int _,.str _=>true | .str _,.int _=>true | .bl _,.str _=>true | .str _,.bl _=>true
 | _,_=>false
def rEq:R2:=fun x y H Q=>scal x y=true∧Q (.bl (decide (x=y))) H
def rNe:R2:=fun x y H Q=>scal x y=true∧Q (.bl (!decide (x=y))) H
theorem sC {i j:Int}:decide (V.int i=V.int j)=(i == j):=by
 rw [FJ]
 simp
theorem xk {i j:Bool}:decide (V.bl i=V.bl j)=(i == j):=by
 rw [FJ]
 simp
theorem sB {i j:Str}:decide (V.str i=V.str j)=(i == j):=by
 rw [FJ]
 simp
theorem sD {i j:Array UInt8}:decide (V.byt i=V.byt j)=(i.toList == j.toList):=by
 rw [FJ]
 cases i
 cases j
 simp
section
variable {X:Cx}{a b c:Expr}{ta tb tc:TE}{pos:Pos}
theorem ba {pins:List (Addr×Obj)} {σ:St}{H:Hp}{s:Shared}{Q:VK}{k k':Bool} (I:Inv X pins σ H s) (q:Q (.bl k) H) (e:k=k'):EP X pins σ Q (.bool k') s:=by
 subst e
 exact ⟨.bl k,H,I,rfl,q⟩
theorem zG:OpR X (compareOp .Eq) rEq:=by
 intro pins s σ H x y v u Q I rx ry h
 obtain ⟨hs,q⟩:=h
 cases x with
 | non =>
  cases rx
  cases y with
  | non=>cases ry; exact PySem.EqNone.eq_none_none (ba I q (by simp))
  | bl j=>cases ry; exact PySem.EqNone.eq_none_bool (ba I q (by simp))
  | int j=>obtain ⟨t',rfl⟩:=ry; exact PySem.EqNone.eq_none_int (ba I q (by simp))
  | str j=>obtain ⟨t',rfl⟩:=ry; exact PySem.EqNone.eq_none_str (ba I q (by simp))
  | _=>exact absurd (show false=true from hs) D6
 | bl i =>
  cases rx
  cases y with
  | non=>cases ry; exact PySem.EqNone.eq_bool_none (ba I q (by simp))
  | bl j=>cases ry; exact eq_bool (ba I q xk)
  | str j=>obtain ⟨t',rfl⟩:=ry; exact PySem.EqMixed.eq_bool_str (ba I q (by simp))
  | _=>exact absurd (show false=true from hs) D6
 | int i =>
  obtain ⟨t,rfl⟩:=rx
  cases y with
  | non=>cases ry; exact PySem.EqNone.eq_int_none (ba I q (by simp))
  | int j=>obtain ⟨t',rfl⟩:=ry; exact eq_int (ba I q sC)
  | str j=>obtain ⟨t',rfl⟩:=ry; exact PySem.EqMixed.eq_int_str (ba I q (by simp))
  | _=>exact absurd (show false=true from hs) D6
 | str i =>
  obtain ⟨t,rfl⟩:=rx
  cases y with
  | non=>cases ry; exact PySem.EqNone.eq_str_none (ba I q (by simp))
  | bl j=>cases ry; exact PySem.EqMixed.eq_str_bool (ba I q (by simp))
  | int j=>obtain ⟨t',rfl⟩:=ry; exact PySem.EqMixed.eq_str_int (ba I q (by simp))
  | str j=>obtain ⟨t',rfl⟩:=ry; exact eq_str (ba I q sB)
  | _=>exact absurd (show false=true from hs) D6
 | byt i =>
  obtain ⟨t,rfl⟩:=rx
  cases y with
  | byt j=>obtain ⟨t',rfl⟩:=ry; exact PySem.W.eq_bytes (ba I q sD)
  | _=>exact absurd (show false=true from hs) D6
 | _=>cases y <;> exact absurd (show false=true from hs) D6
theorem Cw:OpR X (compareOp .NotEq) rNe:=by
 intro pins s σ H x y v u Q I rx ry h
 obtain ⟨hs,q⟩:=h
 cases x with
 | non =>
  cases rx
  cases y with
  | non=>cases ry; exact PySem.EqNone.ne_none_none (ba I q (by simp))
  | bl j=>cases ry; exact PySem.EqNone.ne_none_bool (ba I q (by simp))
  | int j=>obtain ⟨t',rfl⟩:=ry; exact PySem.EqNone.ne_none_int (ba I q (by simp))
  | str j=>obtain ⟨t',rfl⟩:=ry; exact PySem.EqNone.ne_none_str (ba I q (by simp))
  | _=>exact absurd (show false=true from hs) D6
 | bl i =>
  cases rx
  cases y with
  | non=>cases ry; exact PySem.EqNone.ne_bool_none (ba I q (by simp))
  | bl j=>cases ry; exact ne_bool (ba I q (ER not xk))
  | str j=>obtain ⟨t',rfl⟩:=ry; exact PySem.EqMixed.ne_bool_str (ba I q (by simp))
  | _=>exact absurd (show false=true from hs) D6
 | int i =>
  obtain ⟨t,rfl⟩:=rx
  cases y with
  | non=>cases ry; exact PySem.EqNone.ne_int_none (ba I q (by simp))
  | int j=>obtain ⟨t',rfl⟩:=ry; exact ne_int (ba I q (ER not sC))
  | str j=>obtain ⟨t',rfl⟩:=ry; exact PySem.EqMixed.ne_int_str (ba I q (by simp))
  | _=>exact absurd (show false=true from hs) D6
 | str i =>
  obtain ⟨t,rfl⟩:=rx
  cases y with
  | non=>cases ry; exact PySem.EqNone.ne_str_none (ba I q (by simp))
  | bl j=>cases ry; exact PySem.EqMixed.ne_str_bool (ba I q (by simp))
  | int j=>obtain ⟨t',rfl⟩:=ry; exact PySem.EqMixed.ne_str_int (ba I q (by simp))
  | str j=>obtain ⟨t',rfl⟩:=ry; exact ne_str (ba I q (ER not sB))
  | _=>exact absurd (show false=true from hs) D6
 | byt i =>
  obtain ⟨t,rfl⟩:=rx
  cases y with
  | byt j=>obtain ⟨t',rfl⟩:=ry; exact PySem.W.ne_bytes (ba I q (ER not sD))
  | _=>exact absurd (show false=true from hs) D6
 | _=>cases y <;> exact absurd (show false=true from hs) D6
theorem Cy:OpR X (compareOp .Lt) (rI0 fun i j=>.bl (decide (i < j))):=AT fun _ _ _ _ _ _ _ q=>lt_int q
theorem Cz:OpR X (compareOp .LtE) (rI0 fun i j=>.bl (decide (i≤j))):=AT fun _ _ _ _ _ _ _ q=>le_int q
theorem zF:OpR X (compareOp .Gt) (rI0 fun i j=>.bl (decide (j < i))):=AT fun _ _ _ _ _ _ _ q=>gt_int q
theorem tO:OpR X (compareOp .Lt) (fun x y H Q=>∃ i j,x=.str i∧y=.str j∧Q (.bl (decide (i.cps.toList < j.cps.toList))) H):=by
 intro pins s σ H x y v u Q I rx ry h
 obtain ⟨i,j,rfl,rfl,q⟩:=h
 obtain ⟨t,rfl⟩:=rx
 obtain ⟨t',rfl⟩:=ry
 exact lt_str (ba I q rfl)
theorem tR:OpR X (compareOp .In) (fun x y H Q=>∃ i j,x=.str i∧y=.str j∧Q (.bl (!(Builtin.Str.occurrences j i 0 j.length 1).isEmpty)) H):=by
 intro pins s σ H x y v u Q I rx ry h
 obtain ⟨i,j,rfl,rfl,q⟩:=h
 obtain ⟨t,rfl⟩:=rx
 obtain ⟨t',rfl⟩:=ry
 exact in_str (ba I q rfl)
theorem v3:OpR X (compareOp .Is) (fun x y H Q=>y=.non∧Q (.bl (decide (x=.non))) H):=by
 intro pins s σ H x y v u Q I rx ry h
 obtain ⟨rfl,q⟩:=h
 cases ry
 refine is_none_gen (ba I q ?_)
 cases x <;> first
  | (cases rx; rfl)
  | (obtain ⟨t,rfl⟩:=rx; rfl)
theorem yC:OpR X (compareOp .IsNot) (fun x y H Q=>y=.non∧Q (.bl (!decide (x=.non))) H):=by
 intro pins s σ H x y v u Q I rx ry h
 obtain ⟨rfl,q⟩:=h
 cases ry
 refine isnot_none_gen (ba I q ?_)
 cases x <;> first
  | (cases rx; rfl)
  | (obtain ⟨t,rfl⟩:=rx; rfl)
theorem mR:OpR X (compareOp .NotIn) (fun x y H Q=>∃ i j,x=.str i∧y=.str j∧Q (.bl (!(!(Builtin.Str.occurrences j i 0 j.length 1).isEmpty))) H):=by
 intro pins s σ H x y v u Q I rx ry h
 obtain ⟨i,j,rfl,rfl,q⟩:=h
 obtain ⟨t,rfl⟩:=rx
 obtain ⟨t',rfl⟩:=ry
 exact notIn_str (ba I q rfl)
theorem OpR.or {f:Value→Value→Sem Value}{r r':R2} (h:OpR X f r) (h':OpR X f r'):OpR X f (fun x y H Q=>r x y H Q∨r' x y H Q):=by
 intro pins s σ H x y v u Q I rx ry q
 rcases q with q | q
 ·exact h pins s σ H x y v u Q I rx ry q
 ·exact h' pins s σ H x y v u Q I rx ry q
theorem d4 (b:Expr) {op:CmpOp} (h:op ≠ .In:=by decide) (h2:op ≠ .NotIn:=by decide):behindInMarks op b=false:=by
 have e1:(op == CmpOp.In)=false:=by cases op <;> first | rfl | exact absurd rfl h
 have e2:(op == CmpOp.NotIn)=false:=by cases op <;> first | rfl | exact absurd rfl h2
 cases b <;> simp [behindInMarks,e1,e2]
theorem mQ {op:CmpOp}{r:R2} (ho:OpR X (compareOp op) r) (ha:PE X a ta) (hb:PE X b tb) (hm:behindInMarks op b=false):PE X (.Compare a [op] [b] pos) (tOp r ta tb):=by
 intro pins s σ H Q I h
 exact wpAny_Compare1 (BE ha hb I h fun v u s2 x y H2 I2 rx ry q=>ho pins s2 σ H2 x y v u Q I2 rx ry q) hm
def BR (t:TE):TT:=fun σ H Q=>t σ H fun x H'=>∃ k,x=.bl k∧Q k H'
theorem jE {op:CmpOp}{r:R2} (ho:OpR X (compareOp op) r) (ha:PE X a ta) (hb:PE X b tb) (hm:behindInMarks op b=false):PT X (.Compare a [op] [b] pos) (BR (tOp r ta tb)):=by
 intro pins s σ H Q I h
 refine wpAny_isTrue_Compare1 (thn (ha pins s σ H _ I h) fun v s1 ⟨x,H1,I1,r1,q1⟩=>thn (hb pins s1 σ H1 _ I1 q1) fun u s2 ⟨y,H2,I2,r2,q2⟩ =>
  thn (ho pins s2 σ H2 x y v u _ I2 r1 r2 q2) fun c s3 ⟨z,H3,I3,r3,k,e,q3⟩=>?_) hm
 subst e
 cases r3
 exact Fd ⟨H3,I3,q3⟩
def vf (r r':R2) (ta tb tc:TE):TE:=fun σ H Q=>ta σ H fun x H1=>tb σ H1 fun y H2=>r x y H2 fun z H3=>∃ k,z=.bl k ∧
 (if k=true then tc σ H3 fun w' H4=>r' y w' H4 Q else Q (.bl false) H3)
theorem vY {op op':CmpOp}{r r':R2} (ho:OpR X (compareOp op) r) (ho':OpR X (compareOp op') r') (ha:PE X a ta) (hb:PE X b tb) (hc:PE X c tc)
  (hm:lastMarks [op,op'] [b,c]=false:=by with_unfolding_all rfl):PE X (.Compare a [op,op'] [b,c] pos) (vf r r' ta tb tc):=by
 intro pins s σ H Q I h
 refine Compare_chain (thn (ha pins s σ H _ I h) fun v s1 ⟨x,H1,I1,r1,q1⟩=>chain_link (thn (hb pins s1 σ H1 _ I1 q1) fun u s2 ⟨y,H2,I2,r2,q2⟩ =>
  thn (ho pins s2 σ H2 x y v u _ I2 r1 r2 q2) fun d s3 ⟨z,H3,I3,r3,k,e,q3⟩=>?_)) hm
 subst e
 cases r3
 refine Fd ?_
 cases k with
 | false=>exact ite_ff ⟨.bl false,H3,I3,rfl,q3⟩
 | true=>exact ite_tt (chain_last (thn (hc pins s3 σ H3 _ I3 q3) fun w' s4 zz35_0=>by obtain ⟨z',H4,I4,r4,q4⟩:=zz35_0; exact ho' pins s4 σ H4 y z' u w' Q I4 r2 r4 q4))
theorem ku:(sizeLine:Nat) < 2 ^ 63:=by rw [Gc]; decide
theorem qf:OpR X (binaryOp .Add) (fun x y H Q=>∃ i j,x=.str i∧y=.str j∧i.length + j.length≤sizeLine∧Q (.str (i ++ j)) H):=by
 intro pins s σ H x y v u Q I rx ry h
 obtain ⟨i,j,rfl,rfl,hz,q⟩:=h
 obtain ⟨t,rfl⟩:=rx
 obtain ⟨t',rfl⟩:=ry
 exact add_str (fun t' tk=>⟨.str (i ++ j),H,I.tok _,⟨_,rfl⟩,q⟩) hz
theorem i_ {x:V}{us:List Value} (r:aT [x] us):∃ u,us=[u]∧aX x u:=by
 cases r with
 | cons r1 r2=>cases r2; exact ⟨_,rfl,r1⟩
theorem zl {x y:V}{us:List Value} (r:aT [x,y] us):∃ u w',us=[u,w']∧aX x u∧aX y w':=by
 cases r with
 | cons r1 r2 =>
  cases r2 with
  | cons r3 r4=>cases r4; exact ⟨_,_,rfl,r1,r3⟩
def BI (K:PySem.W.Frag) (x:V) (H:Hp) (n:Nat):Prop :=
 match x with
 | .str y=>y.length≤sizeLine∧n=y.length
 | .byt y=>y.size≤sizeLine∧n=y.size
 | .ref p=>(∃ xs,SqL K H p xs∧n=xs.length)∨∃ xs,SqT K H p xs∧n=xs.length
 | _=>False
theorem xr:cI X (.builtin "len") (fun xs H Q=>∃ x n,xs=[x]∧BI X.K x H n∧Q (.int n) H):=by
 intro pins s σ H xs us Q I r h
 obtain ⟨x,n,rfl,e,q⟩:=h
 obtain ⟨u,rfl,rx⟩:=i_ r
 have hl:=ku
 have hs:sizeLine=16777216:=Gc
 cases x with
 | str y =>
  obtain ⟨t,rfl⟩:=rx
  obtain ⟨hy,e'⟩:y.length≤sizeLine∧n=y.length:=e
  subst e'
  exact len_str (by omega) ⟨.int _,H,I.tok _,⟨_,rfl⟩,q⟩
 | byt y =>
  obtain ⟨t,rfl⟩:=rx
  obtain ⟨hy,e'⟩:y.size≤sizeLine∧n=y.size:=e
  subst e'
  exact PySem.W.len_bytes (by omega) ⟨.int _,H,I.tok _,⟨_,rfl⟩,q⟩
 | ref p =>
  cases rx
  have e':(∃ xs,SqL X.K H p xs∧n=xs.length)∨∃ xs,SqT X.K H p xs∧n=xs.length:=e
  rcases e' with ⟨xs,hx,e'⟩ | ⟨xs,hx,e'⟩
  ·subst e'
   obtain ⟨its,r',pl,hz⟩:=I.list hx
   have hlen:=r'.length
   exact Calls.call_len_list pl.isList (by simp only [DY]; omega) ⟨.int xs.length,H,I.tok _,⟨_,by simp only [DY]; rw [hlen]⟩,q⟩
  ·subst e'
   obtain ⟨its,r',pl,hz⟩:=I.tuple hx
   have hlen:=r'.length
   exact len_tuple pl (by simp only [DY]; omega) ⟨.int xs.length,H,I.tok _,⟨_,by simp only [DY]; rw [hlen]⟩,q⟩
 | _=>exact (show False from e).elim
end
structure BH (h:Heap) (x dx C:Addr) (mA:Str→Option Value):Prop where
 obj:h.get? x=some (PySem.W.instObj C dx)
 ns:h.Ns1 dx mA
 ne:dx ≠ x
theorem ub {h:Heap}{dx:Addr}{mA:Str→Option Value} (n:h.Ns1 dx mA):∃ od,h.get? dx=some od∧∀ name,PySem.W.lookIn name od=some (mA name):=by
 obtain ⟨o,es,ep,ho,hd,hk,_,hm⟩:=n
 refine ⟨o,ho,fun name=>?_⟩
 have e:=hm name
 unfold nsFind findBy at e
 rw [← Array.find?_toList] at e
 unfold PySem.W.lookIn
 rw [hd]
 dsimp only
 split
 ·rename_i y q
  rw [q] at e
  exact ER some e
 ·rename_i q
  rw [q] at e
  have a:es.toList.any (·.refKey)=false:=by
   rw [List.any_eq_false]
   intro y hy
   obtain ⟨z,t,hkey⟩:=hk y (Array.mem_toList_iff.mp hy)
   simp [DictEntry.refKey,hkey]
  have a':¬ es.toList.any (·.refKey)=true:=by rw [a]; exact D6
  rw [if_neg a']
  exact ER some e
theorem BH.look {h:Heap}{x dx C:Addr}{mA:Str→Option Value} (I:BH h x dx C mA):∃ od,PySem.W.InstAt h x (PySem.W.instObj C dx) C (some od)∧∀ name,PySem.W.lookIn name od=some (mA name) :=
 let ⟨od,ho,hl⟩:=ub I.ns
 ⟨od,⟨I.obj,rfl,rfl,ho⟩,hl⟩
theorem d9.some_of {v:V}{o:Option Value} (r:d9 (some v) o):∃ u,o=some u∧aX v u:=by
 cases o with
 | none=>exact (show False from r).elim
 | some u=>exact ⟨u,rfl,r⟩
theorem d9.none_of {o:Option Value} (r:d9 none o):o=none:=by
 cases o with
 | none=>rfl
 | some u=>exact (show False from r).elim
theorem uq {v:V}{u:Value} (r:aX v u):PySem.W.handedIn u=true:=by
 cases v with
 | non=>cases (show u=Value.none from r); rfl
 | bl b=>cases (show u=Value.bool b from r); rfl
 | int i=>obtain ⟨t,e⟩:=(show ∃ t,u=Value.int i t from r); cases e; rfl
 | str x=>obtain ⟨t,e⟩:=(show ∃ t,u=Value.str x t from r); cases e; rfl
 | byt b=>obtain ⟨t,e⟩:=(show ∃ t,u=Value.bytes b t from r); cases e; rfl
 | flt b=>obtain ⟨t,e⟩:=(show ∃ t,u=Value.float b t from r); cases e; rfl
 | ref a=>cases (show u=Value.ref a from r); rfl
 | ty n=>cases (show u=Value.type n from r); rfl
section
variable {P:Program}{w:World}{H H':Hp}{h h':Heap}{a C dx:Addr}{fs fs':List (Str×V)}
theorem rZ (hok:HOk P w H h) (e:H a=some (.ins C dx fs)):∃ mA,BH h a dx C mA∧(∀ f,d9 (fs.lookup f) (mA f))∧PySem.Within mA (fs.map (·.1))∧fs.length≤1000∧H dx=some (.own a):=by
 obtain ⟨d,z,ne,ob,mA,n,r,q⟩:=(show ce P w H h a (.ins C dx fs) from hok a _ e)
 exact ⟨mA,⟨ob,n,ne⟩,r,q,z,d⟩
end
structure Cls (K:PySem.W.Frag) (C:Addr):Prop where
 pg:PySem.W.plainGet K C Str.empty=true
 hd:PySem.W.hasDictIn K C=true
 po:PySem.W.plainOver K C=true
 sa:PySem.W.findIn K (.ref C) "__setattr__" = some (some (.builtin "object.__setattr__"))
theorem Cls.get {K:PySem.W.Frag}{C:Addr} (c:Cls K C) (f:Str):PySem.W.plainGet K C f=true:=c.pg
section
variable {X:Cx}{pins:List (Addr×Obj)} {σ:St}{H:Hp}{s:Shared}{a C dx:Addr}{fs:List (Str×V)} {f:Str}{v:V}{A:Around}{E:Value→Shared→Prop}
theorem zg {prog:Program}{w:World}{env:Env}{e:Expr}{f:Str}{pos:Pos}{s:Shared}{Q:Value→Shared→Prop} (hb:attributeBase e f env (eval e env)=eval e env)
  (h:wpAny (model prog w) A (eval e env) (fun o s₁=>wpAny (model prog w) A (getAttr o f true) Q E s₁) E s):wpAny (model prog w) A (eval (.Attribute e f pos) env) Q E s :=
 Attribute_any_ h (by rw [arm_eval_Attribute,hb])
end
section
variable {X:Cx}{pins:List (Addr×Obj)} {σ:St}{H:Hp}{s:Shared}{A:Around}{E:Value→Shared→Prop}{Q:Value→Shared→Prop}{c:Value}{b:Bool}
inductive gk (K:PySem.W.Frag) (H:Hp):V→Value→Prop where
 | non:gk K H .non (.type "NoneType")
 | bl (x:Bool):gk K H (.bl x) (.type "bool")
 | int (i:Int):gk K H (.int i) (.type "int")
 | str (x:Str):gk K H (.str x) (.type "str")
 | flt (x:UInt64):gk K H (.flt x) (.type "float")
 | lst {a:Addr}{xs:List V} (e:H a=some (.lst xs)):gk K H (.ref a) (.type "list")
 | frz {a:Addr}{o:Obj}{xs:List V} (e:H a=some (.frz o (.lst xs))):gk K H (.ref a) (.type "list")
 | tup {a:Addr}{xs:List V} (e:H a=some (.tup xs)):gk K H (.ref a) (.type "tuple")
 | dK {a:Addr}{kvs:List (Key×V)} (e:H a=some (.dK kvs)):gk K H (.ref a) (.type "dict")
 | dT {a:Addr}{kvs:List (List Key×V)} (e:H a=some (.dT kvs)):gk K H (.ref a) (.type "dict")
 | frzD {a:Addr}{o:Obj}{kvs:List (Key×V)} (e:H a=some (.frz o (.dK kvs))):gk K H (.ref a) (.type "dict")
 | ins {a C dx:Addr}{fs:List (Str×V)} (e:H a=some (.ins C dx fs)) (cl:Cls K C) (ha:PySem.W.findIn K (.ref C) "__class__" = some (some (.builtin "object.__class__")))
   (hn:PySem.W.specialIn K (.builtin "object.__class__") "__get__" = some (some (.builtin "getset_descriptor.__get__"))) (htk:PySem.W.takesIn K (.builtin "object.__class__")=some true)
   (hm:PySem.W.mroIn K C (.type "object")=some true):gk K H (.ref a) (.ref C)
theorem uk {x:V}{u t:Value} (I:Inv X pins σ H s) (rx:aX x u) (ty:gk X.K H x t) (e:PySem.W.kitOne X.K t c=some b) (h:∀ tk,Q (.bool b) { s with toks:=tk }) :
  wpAny (model X.prog X.w) A (call (.builtin "isinstance") [u,c]) Q E s:=by
 cases ty with
 | non=>cases (show u=Value.none from rx); exact EH PySem.W.kitx_none I.kIn True.intro e (fun z=>nomatch z) h
 | bl y=>cases (show u=Value.bool y from rx); exact EH PySem.W.kitx_bool I.kIn True.intro e (fun z=>nomatch z) h
 | int i=>obtain ⟨t,q⟩:=(show ∃ t,u=Value.int i t from rx); cases q; exact EH PySem.W.kitx_int I.kIn True.intro e (fun z=>nomatch z) h
 | str y=>obtain ⟨t,q⟩:=(show ∃ t,u=Value.str y t from rx); cases q; exact EH PySem.W.kitx_str I.kIn True.intro e (fun z=>nomatch z) h
 | flt y=>obtain ⟨t,q⟩:=(show ∃ t,u=Value.float y t from rx); cases q; exact EH PySem.W.kitx_float I.kIn True.intro e (fun z=>nomatch z) h
 | @lst a xs ea =>
  cases (show u=Value.ref a from rx)
  obtain ⟨_,_,n,_,h1⟩:=(show ce X.prog X.w H s.heap a (.lst xs) from I.hok a _ ea)
  exact EH Ge I.kIn ⟨_,h1,rfl⟩ e (fun z=>nomatch z) h
 | @frz a ob xs ea =>
  cases (show u=Value.ref a from rx)
  obtain ⟨_,_,_,n,_,h1⟩:=(show ce X.prog X.w H s.heap a (.frz ob (.lst xs)) from I.hok a _ ea)
  exact EH Ge I.kIn ⟨_,h1,rfl⟩ e (fun z=>nomatch z) h
 | @tup a xs ea =>
  cases (show u=Value.ref a from rx)
  obtain ⟨_,_,_,p⟩:=(show ce X.prog X.w H s.heap a (.tup xs) from I.hok a _ ea)
  obtain ⟨o,h1,h2,_⟩:=p
  exact EH PySem.W.kitx_tuple I.kIn ⟨o,h1,h2⟩ e (fun z=>nomatch z) h
 | @dK a kvs ea =>
  cases (show u=Value.ref a from rx)
  obtain ⟨_,_,vs,_,p⟩:=(show ce X.prog X.w H s.heap a (.dK kvs) from I.hok a _ ea)
  obtain ⟨o,es,ep,h1,h2,_⟩:=p
  exact EH Fs I.kIn ⟨o,h1,h2.1⟩ e (fun z=>nomatch z) h
 | @frzD a ob kvs ea =>
  cases (show u=Value.ref a from rx)
  obtain ⟨_,_,_,vs,_,p⟩:=(show ce X.prog X.w H s.heap a (.frz ob (.dK kvs)) from I.hok a _ ea)
  obtain ⟨o,es,ep,h1,h2,_⟩:=p
  exact EH Fs I.kIn ⟨o,h1,h2.1⟩ e (fun z=>nomatch z) h
 | @dT a kvs ea =>
  cases (show u=Value.ref a from rx)
  obtain ⟨_,_,xs,_,o,es,ep,h1,h2,_⟩:=(show ce X.prog X.w H s.heap a (.dT kvs) from I.hok a _ ea)
  exact EH Fs I.kIn ⟨o,h1,h2.1⟩ e (fun z=>nomatch z) h
 | @ins a C dx fs ea cl ha hn htk hm =>
  cases (show u=Value.ref a from rx)
  obtain ⟨mA,O,_⟩:=rZ I.hok ea
  obtain ⟨od,J,_⟩:=O.look
  exact EH (PySem.W.kitx_own (cl.get _) cl.hd ha hn htk hm) I.kIn J e (fun z=>nomatch z) h
end
structure cW (k:Nat) (A:Around):Prop where
 hd:A.handled=none
 dp:A.depth + 3 * k + 5 < recursionLimit
 un:A.units + 16 * k + 200 < cLine
theorem cW.mono {j k:Nat}{A:Around} (r:cW k A) (h:j≤k):cW j A:=⟨r.hd,by have:=r.dp; omega,by have:=r.un; omega⟩
theorem cW.deeper {k:Nat}{A:Around} (r:cW (k + 1) A) (env:Env):cW k (A.deeper env) :=
 ⟨r.hd,by have:=r.dp; show A.depth + 1 + 3 * k + 5 < _; omega,by have:=r.un; show A.units + 3 + 16 * k + 200 < _; omega⟩
theorem qp {A:Around}{C:Addr}{us:List Value}{kw:List (Str×Value)}:(A.under (.builtin "type.__call__" ⟨.ref C :: us,kw⟩)).depth=A.depth + 1:=by
 first | rfl | simp [Around.under,Code.weight,Code.isCreation,Code.isGuard,Code.isCaller,Code.frames,Code.isFrame,guardIds]
theorem qo {A:Around}{C:Addr}{us:List Value}{kw:List (Str×Value)}:(A.under (.builtin "type.__call__" ⟨.ref C :: us,kw⟩)).units=A.units + 1:=by
 first | rfl | simp [Around.under,Code.cUnits,Code.frames,Code.isFrame]
theorem cW.make {k:Nat}{A:Around} (r:cW (k + 1) A) (C:Addr) (us:List Value) (kw:List (Str×Value)):cW k (A.under (.builtin "type.__call__" ⟨.ref C :: us,kw⟩)) :=
 ⟨r.hd,by have:=r.dp; rw [qp]; omega,by have:=r.un; rw [qo]; omega⟩
theorem cW.depth {k:Nat}{A:Around} (r:cW k A):A.depth < recursionLimit:=by have:=r.dp; omega
theorem cW.units {k:Nat}{A:Around} (r:cW k A):A.units + 64 < cLine:=by have:=r.un; omega
def BV:TA:=fun _ H Q=>Q [] H
def zq (ta:TE) (tr:TA):TA:=fun σ H Q=>ta σ H fun x H1=>tr σ H1 fun xs H2=>Q (x :: xs) H2
section
variable {X:Cx}{e:Expr}{es:List Expr}{te:TE}{t:TA}{pos:Pos}
theorem eI:PA X [] BV:=fun _ _ _ _ H Q I h=>GT ⟨[],H,I,.nil,h⟩
theorem cr (ha:PE X e te) (hr:PA X es t) (hs:starEach (e :: es) X.env=(false,eval e X.env) :: starEach es X.env:=by rfl):PA X (e :: es) (zq te t):=by
 intro pos pins s σ H Q I h
 rw [hs]
 show wpAny _ _ (spliced ((false,eval e X.env) :: backTo pos (starEach es X.env))) _ _ s
 refine GR (thn (ha pins s σ H _ I h) fun u s1 zz36_0=>?_)
 obtain ⟨x,H1,I1,r1,q1⟩:=zz36_0
 exact thn (hr pos pins s1 σ H1 _ I1 q1) fun us s2 zz37_0=>by obtain ⟨xs,H2,I2,r2,q2⟩:=zz37_0; exact ⟨x :: xs,H2,I2,.cons r1 r2,q2⟩
def C7 (t:TA):TE:=fun σ H Q=>t σ H fun xs H1=>xs.length≤sizeLine∧∀ p,H1 p=none→Q (.ref p) (upd H1 p (.tup xs))
def Db (t:TA):TE:=fun σ H Q=>t σ H fun xs H1=>xs.length≤sizeLine∧∀ p,H1 p=none→Q (.ref p) (upd H1 p (.lst xs))
theorem qd {x1} (h:PA X es t):PE X (.Tuple es x1 pos) (C7 t):=by
 intro pins s σ H Q I hq
 refine wpAny_Tuple_spliced (thn (h pos pins s σ H _ I hq) fun us s1 ⟨xs,H1,I1,r,z,q⟩=>⟨by rw [← r.length]; exact z,?_⟩)
 have hf:H1 s1.heap.objs.size=none:=I1.hok.fresh (DZ _)
 refine ⟨.ref s1.heap.objs.size,upd H1 s1.heap.objs.size (.tup xs),I1.laid (t':=s1.toks) (fun b u e=>DQ _ e) (DZ _) ?_,rfl,q _ hf⟩
 exact ⟨z,us,r,⟨_,DX _ rfl,rfl,_,rfl⟩⟩
theorem AH (h:PA X es t):PE X (.List es pos) (Db t):=by
 intro pins s σ H Q I hq
 refine wpAny_List_spliced (thn (h pos pins s σ H _ I hq) fun us s1 ⟨xs,H1,I1,r,z,q⟩=>⟨by rw [← r.length]; exact z,?_⟩)
 have hf:H1 s1.heap.objs.size=none:=I1.hok.fresh (DZ _)
 refine ⟨.ref s1.heap.objs.size,upd H1 s1.heap.objs.size (.lst xs),I1.laid (t':=s1.toks) (fun b u e=>DQ _ e) (DZ _) ?_,rfl,q _ hf⟩
 exact ⟨z,us,0,r,DX _ rfl⟩
end
abbrev Sp:=List V→Hp→VK→XK→Prop
abbrev CXT:=List Env→Hp→Shared→XK→Value→Shared→Prop
structure q8 (P:Program) (w:World) (K:PySem.W.Frag) (mg:Str→Option Value) (base:Heap) (A:Around) (outer:List Env) (s:Shared) (H:Hp):Prop where
 frames:A.frames=some outer
 mod:Mod K mg base
 bs:∀ b o,base.get? b=some o→s.heap.get? b=some o∧H b=none
 bsz:base.objs.size≤s.heap.objs.size
 funs:s.heap.FunFrames base outer
 frf:∀ b ∈ frs outer,H b=none
 hok:HOk P w H s.heap
 bare:AllBare s.gens
def CE (outer:List Env) (P:Program) (w:World) (H:Hp) (s:Shared) (Q:VK) (u:Value) (s':Shared):Prop :=
 ∃ v H',s'.os=s.os∧AllBare s'.gens∧Un (frs outer) [] H H' s.heap s'.heap∧HOk P w H' s'.heap∧aX v u∧Q v H'
def CR (CX:CXT) (outer:List Env) (P:Program) (w:World) (H:Hp) (s:Shared) (Q:VK) (E:XK) (r:Result) (s':Shared):Prop :=
 match r with
 | .ok (.ret u)=>CE outer P w H s Q u s'
 | .ok _=>False
 | .error e=>CX outer H s E e s'
structure br (P:Program) (w:World) (K:PySem.W.Frag) (mg:Str→Option Value) (base:Heap) (CX:CXT) (k:Nat) (f:Addr) (fd:FuncData) (ps:List Str) (sp:Sp):Prop where
 len:∀ vs H Q E,sp vs H Q E→vs.length=ps.length
 run:∀ (A:Around) (outer:List Env) (s:Shared) (H:Hp) (args:Args) (us:List Value) (vs:List V) (Q:VK) (E:XK),cW k A→q8 P w K mg base A outer s H→BindsTo s fd args (ps.zip us)→aT vs us→sp vs H Q E →
  codeAny (model P w) A (.call (.ref f) args) (CR CX outer P w H s Q E) s
theorem q8.make {P:Program}{w:World}{K:PySem.W.Frag}{mg:Str→Option Value}{base:Heap}{A:Around}{outer:List Env}{s:Shared}{H:Hp} (e:q8 P w K mg base A outer s H) (C:Addr) (us:List Value) (kw:List (Str×Value)) :
  q8 P w K mg base (A.under (.builtin "type.__call__" ⟨.ref C :: us,kw⟩)) outer s H:=⟨by first | exact e.frames | (simpa [Around.under,Code.envs,Code.isFrame,pushEnvs] using e.frames),e.mod,e.bs,e.bsz,e.funs,e.frf,e.hok,e.bare⟩
section
variable {X:Cx}{pins:List (Addr×Obj)} {σ:St}{H:Hp}{s s':Shared}
theorem Inv.env0 (I:Inv X pins σ H s):q8 X.prog X.w X.K X.mg X.base X.A X.stack s H :=
 ⟨I.ok.frames,I.ok.mod,I.bs,D1 I.ok.bsz I.sz,I.stack,I.stkFree,I.hok,I.bare⟩
theorem Inv.after {Q:VK}{u:Value} (I:Inv X pins σ H s) (h:CE X.stack X.prog X.w H s Q u s'):EP X pins σ Q u s':=by
 obtain ⟨v,H',os,bare,un,hok,r,q⟩:=h
 obtain ⟨hh,g,d,t,os'⟩:=s'
 obtain rfl:os'=s.os:=os
 exact ⟨v,H',I.call (h':=hh) (g':=g) (d':=d) (t':=t) (ch:=[]) un hok bare (fun b z=>absurd z (by simp)),r,q⟩
end
def B4 (sp:Sp) (dvs:List V) (E:XK) (t:TA):TE:=fun σ H Q=>t σ H fun vs H1=>sp (vs ++ dvs) H1 Q E
def bz (K:PySem.W.Frag) (fd:FuncData) (ps:List Str) (ds:List Value):Prop :=
 ∀ (s:Shared) (us:List Value),K.In s.heap→(us ++ ds).length=ps.length→BindsTo s fd ⟨us,[]⟩ (ps.zip (us ++ ds))
theorem bz.all {K:PySem.W.Frag}{fd:FuncData}{ps:List Str} (h:∀ us:List Value,us.length=ps.length→bindArgs fd ⟨us,[]⟩=pure (ps.zip us)):bz K fd ps []:=fun s us _ hl=>by
 rw [Fb] at hl ⊢
 exact .of_eq (h us hl)
def qU (CX:CXT) (X:Cx) (E:XK):Prop:=∀ (pins:List (Addr×Obj)) (σ:St) (H:Hp) (s:Shared) (e:Value) (s':Shared),Inv X pins σ H s→CX X.stack H s E e s'→X.xe e s'
section
variable {X:Cx}{CX:CXT}{k:Nat}{f C:Addr}{fd:FuncData}{ps:List Str}{sp:Sp}{dvs:List V}{ds:List Value}{E:XK}{x m:Str}{p pos apos:Pos}{e o:Expr}{es:List Expr}{ta:TE}{t:TA}
theorem Aa {pins:List (Addr×Obj)} {σ:St}{H:Hp}{s:Shared}{Q:VK}{us:List Value}{vs:List V} (F:br X.prog X.w X.K X.mg X.base CX k f fd ps sp) (hr:cW k X.A) (hb:bz X.K fd ps ds) (hd:aT dvs ds) (hx:qU CX X E)
  (I:Inv X pins σ H s) (r:aT vs us) (h:sp (vs ++ dvs) H Q E):wpAny (model X.prog X.w) X.A (call (.ref f) us) (EP X pins σ Q) X.xe s:=by
 have r2:aT (vs ++ dvs) (us ++ ds):=r.append hd
 have hl:(us ++ ds).length=ps.length:=by rw [← r2.length]; exact F.len _ _ _ _ h
 refine GS (Fw (F.run X.A X.stack s H ⟨us,[]⟩ (us ++ ds) (vs ++ dvs) Q E hr I.env0 (hb s us I.kIn hl) r2 h) fun r s' hq=>?_)
 cases r with
 | error e=>exact hx pins σ H s e s' I hq
 | ok fl =>
  cases fl with
  | ret u=>exact I.after hq
  | next=>exact False.elim hq
  | brk=>exact False.elim hq
  | cont=>exact False.elim hq
theorem yA (F:br X.prog X.w X.K X.mg X.base CX k f fd ps sp) (hr:cW k X.A) (hg:Gl X x) (hm:X.mg x=some (.ref f)) (hk:PySem.W.keepIn X.K (.ref f)=true) (hb:bz X.K fd ps ds) (hd:aT dvs ds) (hx:qU CX X E)
  (ha:PA X (e :: es) t) (hdb:(x == ("__debug__" : Str))=false:=by decide) (he:starEach (e :: es) X.env=(false,eval e X.env) :: starEach es X.env:=by rfl) (hpl:(backTo pos (starEach es X.env)).any (·.1)=false:=by rfl) :
  PE X (.Call (.Name x p) (e :: es) [] pos) (B4 sp dvs E t):=by
 intro pins s σ H Q I h
 refine Fg (im I hg hm ?_ hdb)
 refine GG (h₀:=X.base) I.ok.mod.kin hk (thn (ha pos pins s σ H _ I h) fun us s1 ⟨vs,H1,I1,r,q⟩=>⟨I1.kIn,?_⟩) he hpl
 exact Aa F hr hb hd hx I1 r q
end
structure aL (N P:List Str) (sc:Scope):Prop where
 kind:sc.kind=.function
 co:sc.isCoroutine=false
 gen:sc.isGenerator=false
 nd:N.Nodup
 pre:N.take P.length=P
 par:∀ x ∈ P,sc.names.lookup x=some .local∨sc.names.lookup x=some .cell
 nofree:∀ y ∈ sc.names,y.2 ≠ .free
theorem mi {kindOf:Str→Option NameKind}{x:Str}:∀ {binds:List (Str×Value)} {m:Str→Option Value},(∀ v,(x,v) ∉ binds)→bindL kindOf binds m x=m x
 | [],_,_=>rfl
 | (n,v) :: r,m,h=>by
  unfold bindL
  rw [mi fun w hw=>h w (D0 _ hw)]
  split
  ·have:x ≠ n:=by rintro rfl; exact h v D3
   simp [this]
  ·rfl
theorem ml {kindOf:Str→Option NameKind}{x:Str}:∀ {binds:List (Str×Value)} {m:Str→Option Value},(∀ v,(x,v) ∉ binds)→bindC kindOf binds m x=m x
 | [],_,_=>rfl
 | (n,v) :: r,m,h=>by
  unfold bindC
  rw [ml fun w hw=>h w (D0 _ hw)]
  split
  ·rfl
  ·have:x ≠ n:=by rintro rfl; exact h v D3
   simp [this]
theorem mj {kindOf:Str→Option NameKind}{x:Str}{v:Value}:∀ {P:List Str}{vs:List Value}{i:Nat}{m:Str→Option Value},P.Nodup→P[i]? = some x→vs[i]? = some v→kindOf x=some .local →
  bindL kindOf (P.zip vs) m x=some v
 | [],_,_,_,_,h,_,_=>by simp at h
 | _ :: _,[],_,_,_,_,h,_=>by simp at h
 | p :: P,w :: vs,0,m,nd,h1,h2,hk=>by
  simp at h1 h2; subst h1; subst h2
  show bindL kindOf ((p,w) :: P.zip vs) m p=_
  unfold bindL
  rw [mi fun v hv=>(List.nodup_cons.mp nd).1 (Gw hv).1,if_pos hk]
  simp
 | p :: P,w :: vs,i + 1,m,nd,h1,h2,hk=>by
  show bindL kindOf ((p,w) :: P.zip vs) m x=_
  unfold bindL
  exact mj (i:=i) (List.nodup_cons.mp nd).2 (by simpa using h1) (by simpa using h2) hk
theorem mm {kindOf:Str→Option NameKind}{x:Str}{v:Value}:∀ {P:List Str}{vs:List Value}{i:Nat}{m:Str→Option Value},P.Nodup→P[i]? = some x→vs[i]? = some v→kindOf x ≠ some .local →
  bindC kindOf (P.zip vs) m x=some v
 | [],_,_,_,_,h,_,_=>by simp at h
 | _ :: _,[],_,_,_,_,h,_=>by simp at h
 | p :: P,w :: vs,0,m,nd,h1,h2,hk=>by
  simp at h1 h2; subst h1; subst h2
  show bindC kindOf ((p,w) :: P.zip vs) m p=_
  unfold bindC
  rw [ml fun v hv=>(List.nodup_cons.mp nd).1 (Gw hv).1,if_neg hk]
  simp
 | p :: P,w :: vs,i + 1,m,nd,h1,h2,hk=>by
  show bindC kindOf ((p,w) :: P.zip vs) m x=_
  unfold bindC
  exact mm (i:=i) (List.nodup_cons.mp nd).2 (by simpa using h1) (by simpa using h2) hk
def start (N:List Str) (vs:List V):St:=vs.map some ++ List.replicate (N.length - vs.length) none
def jv (CX:CXT) (P:Program) (w:World) (K:PySem.W.Frag) (mg:Str→Option Value) (base:Heap) (N:List Str) (qual:Str) (scope:Scope) (f:Addr) (cd:Value) (A:Around) (outer:List Env) (s:Shared) (H:Hp) (E:XK):Cx where
 prog:=P
 w:=w
 K:=K
 mg:=mg
 base:=base
 A:=A.deeper (envOfC qual scope s.heap.objs.size f cd)
 N:=N
 s₀:=s
 H₀:=H
 env:=envOfC qual scope s.heap.objs.size f cd
 outer:=outer
 stack:=envOfC qual scope s.heap.objs.size f cd :: outer
 ex:=[]
 calm:=true
 fn:=fun _=>true
 pn:=[]
 xe:=fun e s'=>wpAny (model P w) (A.deeper (envOfC qual scope s.heap.objs.size f cd)) (leaving (envOfC qual scope s.heap.objs.size f cd) e) (fun _ s''=>CX outer H s E e s'') (fun e' s''=>CX outer H s E e' s'') s'
theorem pE {sc:Scope}{n:Nat}{x:Str} (h:sc.names.lookup x=some .cell):∃ c,(cellsFrom n sc.names []).lookup x=some c:=by
 have q:=PySem.W.cellsFrom_some sc.names n [] (.inl h)
 exact Option.isSome_iff_exists.mp q
theorem ul {CX:CXT}{P:Program}{w:World}{K:PySem.W.Frag}{mg:Str→Option Value}{base:Heap}{N ps:List Str}{qual:Str}{scope:Scope}{f:Addr}{cd:Value}{A:Around}{outer:List Env}{s s1:Shared}{H:Hp}{E:XK}{us:List Value}{vs:List V}
  (S:aL N ps scope) (hd:A.handled=none) (e0:q8 P w K mg base A outer s H) (hl:vs.length=ps.length) (r:aT vs us)
  (x:InCallC s s.heap.objs.size (bindL (envOfC qual scope s.heap.objs.size f cd).kindOf (ps.zip us) fun _=>none) (cellsFrom (s.heap.objs.size + 1) scope.names []) (bindC (envOfC qual scope s.heap.objs.size f cd).kindOf (ps.zip us) fun _=>none) s1) :
  Inv (jv CX P w K mg base N qual scope f cd A outer s H E) [] (start N vs) H s1:=by
 have hpl:ps.length≤N.length:=by have:=ER List.length S.pre; rw [FY] at this; omega
 obtain ⟨h1,tk,rfl,hk⟩:=x.done
 have noA:∀ b:Addr,b ∉ (jv CX P w K mg base N qual scope f cd A outer s H E).ex:=fun b z=>absurd (show b ∈ ([]:List Addr) from z) (by simp)
 refine ⟨⟨e0.mod,S.kind,rfl,rfl,DZ _,fun y z c h1 h2=>?_,fun y hy=>?_,fun y c _ h=>?_,fun _=>hd,Around.frames_deeper e0.frames,.inr ⟨rfl,rfl⟩,fun b z=>absurd z (noA b),e0.bs,e0.bsz,fun b _ _=>noA b,fun b z=>absurd z (noA b),e0.funs,e0.frf⟩,
  rfl,e0.bare,Un.kept hk,⟨_,x.toInCall.ns,fun i y v h1 h2 h3=>?_⟩,fun y c h=>⟨_,x.cell y c h⟩,e0.hok.fresh (DZ _),fun y c h=>?_,fun p hp=>absurd (show p ∈ ([]:List (Addr×Obj)) from hp) (by simp),e0.hok.kept hk,?_⟩
 ·exact name_of_addr x.apart (FB h1) (FB h2)
 ·have hy:scope.names.lookup y=some .cell∨scope.names.lookup y=some .free:=hy
  rcases hy with hy | hy
  ·exact pE hy
  ·exact absurd rfl (S.nofree _ (FB hy))
 ·exact Fm (x.above y c (FB h))
 ·have hi:i < vs.length:=by
   unfold start at h2
   by_cases hi:i < vs.length
   ·exact hi
   ·rw [F9 (by simpa using hi)] at h2
    rw [List.getElem?_replicate] at h2
    split at h2 <;> cases h2
  have ha:vs[i]? = some v:=by
   unfold start at h2
   rw [Fx (by simpa using hi),EQ] at h2
   cases e:vs[i]? with
   | none=>rw [e] at h2; cases h2
   | some a=>rw [e] at h2; cases h2; rfl
  obtain ⟨u,hu,rv⟩:=r.get ha
  have hp:ps[i]? = some y:=by
   rw [← S.pre,List.getElem?_take_of_lt (by omega)]; exact h1
  have ndP:ps.Nodup:=by rw [← S.pre]; exact S.nd.sublist (List.take_sublist _ _)
  refine ⟨u,rv,?_⟩
  rcases S.par y (EU hp) with k | k
  ·exact .inl ⟨k,mj ndP hp hu k⟩
  ·obtain ⟨c,e⟩:=pE (n:=s.heap.objs.size + 1) k
   refine .inr ⟨.inl k,c,e,?_⟩
   have q:=x.cell y c e
   rw [mm ndP hp hu (by show scope.names.lookup y ≠ _; rw [k]; decide)] at q
   exact q
 ·exact e0.hok.fresh (Fm (x.above y c (FB h)))
 ·unfold start
  show _=N.length
  rw [D9,DU,Gy]
  omega
theorem zL {CX:CXT}{P:Program}{w:World}{K:PySem.W.Frag}{mg:Str→Option Value}{base:Heap}{k:Nat}{f:Addr}{name qual:Str}{params:Arguments}{body:List Stmt}{scope:Scope}{dV kV doc pm cdv ct oc:Value}{an od:Option Addr}
  {osl:Array (Option Value)} {N ps:List Str}{sp:Sp} (lk:K.lookup f=some ⟨oc,od,.func (PySem.W.fnOf name qual params body scope dV kV doc pm an cdv ct),osl⟩) (hcd:PySem.W.codeIn K cdv qual=true) (S:aL N ps scope)
  (len:∀ vs H Q E,sp vs H Q E→vs.length=ps.length)
  (hbody:∀ (A:Around) (outer:List Env) (s:Shared) (H:Hp) (vs:List V) (Q:VK) (E:XK),cW k (A.deeper (envOfC qual scope s.heap.objs.size f cdv))→sp vs H Q E →
   ∃ t,PSs (jv CX P w K mg base N qual scope f cdv A outer s H E) body t∧t { nx:=fun _ H'=>Q .non H',rt:=Q } (start N vs) H) :
  br P w K mg base CX (k + 1) f (PySem.W.fnOf name qual params body scope dV kV doc pm an cdv ct) ps sp:=by
 refine ⟨len,fun A outer s H args us vs Q E hr e0 hb r hsp=>?_⟩
 have hl:=len _ _ _ _ hsp
 have KX:K.In s.heap:=e0.mod.kin.keeps fun b o e=>(e0.bs b o e).1
 have lim:s.heap.NoLimit:=e0.mod.nolimit.keeps fun b o e=>(e0.bs b o e).1
 have hkind:∀ y ∈ ps.zip us,scope.names.lookup y.1=some .local∨(scope.names.lookup y.1=some .cell∧((cellsFrom (s.heap.objs.size + 1) scope.names []).lookup y.1).isSome=true):=fun zz41_0 hy=>by
  obtain ⟨n,v⟩:=zz41_0
  rcases S.par n (Gw hy).1 with q | q
  ·exact .inl q
  ·exact .inr ⟨q,PySem.W.cellsFrom_some _ _ _ (.inl q)⟩
 refine codeAny_call_function hr.depth (KX _ _ lk) rfl S.co S.gen rfl (PySem.W.codeRec_of KX hcd) (hb _ _ _ _ ?_)
 refine wpAny_newFunctionEnv_cells S.kind hkind fun env he s1 x=>?_
 subst he
 refine ⟨lim.keeps x.toInCall.keep,codeAny_func ?_⟩
 obtain ⟨t,ht,hq⟩:=hbody A outer s H vs Q E (hr.deeper _) hsp
 have I:Inv (jv CX P w K mg base N qual scope f cdv A outer s H E) [] (start N vs) H s1:=ul S hr.hd e0 hl r x
 refine Eo (ht [] s1 (start N vs) H _ I hq) (fun fl s' hs=>?_) fun e s' hs=>hs
 have fin:∀ {σ':St}{H':Hp}{v:V}{u:Value},Inv (jv CX P w K mg base N qual scope f cdv A outer s H E) [] σ' H' s'→aX v u→Q v H'→CE outer P w H s Q u s' :=
  fun {σ' H' v u} J rv q=>⟨v,H',J.os,J.bare,J.base,J.hok,rv,q⟩
 cases fl with
 | ret u =>
  obtain ⟨v,σ',H',J,rv,q⟩:=hs
  exact fin J rv q
 | next =>
  obtain ⟨σ',H',J,q⟩:=hs
  exact fin (v:=V.non) (u:=Value.none) J rfl q
 | brk =>
  obtain ⟨_,_,_,q⟩:=hs
  exact False.elim q
 | cont =>
  obtain ⟨_,_,_,q⟩:=hs
  exact False.elim q
section
variable {X:Cx}{x:Str}{p pos:Pos}{e:Expr}{es:List Expr}{t:TA}{id T:String}{r:List V→Hp→VK→Prop}
def tCB (r:List V→Hp→VK→Prop) (t:TA):TE:=fun σ H Q=>t σ H fun vs H1=>r vs H1 Q
theorem fU (hc:cI X (.builtin id) r) (hg:Gl X x) (hm:X.mg x=none) (hv:bootBuiltins x=some (.builtin id)) (ha:PA X (e :: es) t) (hn:x ≠ "__name__" := by decide) (hdb:(x == ("__debug__" : Str))=false:=by decide)
  (he:starEach (e :: es) X.env=(false,eval e X.env) :: starEach es X.env:=by rfl) (hpl:(backTo pos (starEach es X.env)).any (·.1)=false:=by rfl):PE X (.Call (.Name x p) (e :: es) [] pos) (tCB r t):=by
 intro pins s σ H Q I h
 refine Fg (fX I hg hm hv ?_ hn hdb)
 exact PyProof.Rows.callWith_builtin1 (thn (ha pos pins s σ H _ I h) fun us s1 zz42_0=>by obtain ⟨vs,H1,I1,r1,q1⟩:=zz42_0; exact hc pins s1 σ H1 vs us Q I1 r1 q1) he hpl
theorem tJ (hc:cI X (.type T) r) (hg:Gl X x) (hm:X.mg x=none) (hv:bootBuiltins x=some (.type T)) (ha:PA X (e :: es) t) (hn:x ≠ "__name__" := by decide) (hdb:(x == ("__debug__" : Str))=false:=by decide)
  (he:starEach (e :: es) X.env=(false,eval e X.env) :: starEach es X.env:=by rfl) (hpl:(backTo pos (starEach es X.env)).any (·.1)=false:=by rfl):PE X (.Call (.Name x p) (e :: es) [] pos) (tCB r t):=by
 intro pins s σ H Q I h
 refine Fg (fX I hg hm hv ?_ hn hdb)
 exact E9 (thn (ha pos pins s σ H _ I h) fun us s1 zz43_0=>by obtain ⟨vs,H1,I1,r1,q1⟩:=zz43_0; exact hc pins s1 σ H1 vs us Q I1 r1 q1) he hpl
end
end L2
namespace HT
open PySem PyProof.Rows
section
open PySem.SeqAt
open PySem.AutoSeq1 (wpAny_loadPart')
open PySem.MeetsSeq PySem.MeetsSeq2 PySem.MeetsSeq3
end
section
variable {prog:Program}{w:World}{A:Around}{E:Value→Shared→Prop}{s:Shared}
theorem cat_tup {t b:Addr}{vs ws:List Value}{Q:Value→Shared→Prop} (ht:IsTup s.heap t vs.toArray) (hb:IsTup s.heap b ws.toArray) (hv:vs ≠ [])
  (h1:ws=[]→Q (.ref t) s) (h2:ws ≠ []→Q (.ref s.heap.objs.size) { s with heap:=s.heap.push { cls:=.type "tuple",data:=.seq (vs ++ ws).toArray } })
  (hsz:vs.length + ws.length≤sizeLine):wpAny (model prog w) A (binaryOp .Add (.ref t) (.ref b)) Q E s:=by
 obtain ⟨⟨cls,dd,data,sl⟩,ho,hc,n,hd⟩:=id ht
 obtain ⟨⟨cls2,dd2,data2,sl2⟩,ho2,hc2,n2,hd2⟩:=id hb
 simp only at hc hd hc2 hd2
 subst hc hd hc2 hd2
 have e:vs.toArray ++ ws.toArray=(vs ++ ws).toArray:=by simp
 by_cases hw:ws=[]
 ·exact concat_meets ⟨_,ho,rfl⟩ ⟨_,ho2,rfl⟩ noFill_tuple_add seq_tuple_add Gq Gj (Gf _ _)
   (tuple_addW1 t b vs.toArray ws.toArray n n2 dd dd2 sl sl2 (by simpa using hv) (by simp [hw])) ⟨ho,ho2,h1 hw⟩
 ·refine concat_meets ⟨_,ho,rfl⟩ ⟨_,ho2,rfl⟩ noFill_tuple_add seq_tuple_add Gq Gj (Gf _ _)
   (tuple_addW2 t b vs.toArray ws.toArray n n2 dd dd2 sl sl2 (by simpa using hv) (by simpa using hw) (by rw [DY,DY]; exact hsz)) ⟨ho,ho2,?_⟩
  rw [e]
  exact h2 hw
def sIx (n d:Nat):Option Int→Nat
 | none=>d
 | some v=>if v < 0 then (v + (n:Int)).toNat else min v.toNat n
theorem sIx_none (n d:Nat):sIx n d none=d:=rfl
theorem sIx_nat (n d k:Nat):sIx n d (some (k:Int))=min k n:=by
 show (if (k:Int) < 0 then ((k:Int) + (n:Int)).toNat else min (k:Int).toNat n)=min k n
 rw [if_neg (by omega),Fi]
theorem sIx_le (n d:Nat) (hd:d≤n) (o:Option Int):sIx n d o≤n:=by
 cases o with
 | none=>exact hd
 | some v =>
  show (if v < 0 then (v + (n:Int)).toNat else min v.toNat n)≤n
  by_cases hv:v < 0
  ·rw [if_pos hv]; omega
  ·rw [if_neg hv]; exact Nat.min_le_right _ _
theorem clip_eq (v:Int) (n d:Nat):(if v < 0 then max (v + (n:Int)) 0 else min v (n:Int))=((sIx n d (some v):Nat):Int):=by
 show (if v < 0 then max (v + (n:Int)) 0 else min v (n:Int))=(((if v < 0 then (v + (n:Int)).toNat else min v.toNat n):Nat):Int)
 by_cases hv:v < 0
 ·simp only [if_pos hv]; omega
 ·simp only [if_neg hv]; omega
theorem qT (lo hi:Option Int) (n:Nat):Builtin.Slice.sliceAdjust lo hi 1 (n:Int)=(((sIx n 0 lo:Nat):Int),((sIx n n hi:Nat):Int)):=by
 have h1:¬ ((1:Int) < 0):=by omega
 unfold Builtin.Slice.sliceAdjust
 simp only [h1,GF]
 refine Prod.ext ?_ ?_
 ·cases lo with
  | none=>rfl
  | some v=>exact clip_eq v n 0
 ·cases hi with
  | none=>rfl
  | some v=>exact clip_eq v n n
theorem qb (i j:Nat):Builtin.Slice.slicePlaces (i:Int) (j:Int) 1=j - i:=by
 unfold Builtin.Slice.slicePlaces
 have h1:(1:Int) > 0:=by omega
 simp only [h1,if_true,Int.ediv_one]
 split <;> omega
theorem j4 {v:Value}{o:Option Int}{Q:Option Int→Shared→Prop} (p:IsPart v o) (h:Q o s):wpAny (model prog w) A (Builtin.Slice.slicePartIndex v) Q E s:=by
 cases p with
 | none=>exact slicePart_none h
 | int i t=>exact slicePart_int h
theorem sliceApplied_gen {sl:Addr}{vl vu:Value}{lo hi:Option Int}{n:Nat}{Q:Int×Int×Nat→Shared→Prop} (hs:s.heap.IsSliceOf sl vl vu .none) (pl:IsPart vl lo) (pu:IsPart vu hi)
  (h:Q (((sIx n 0 lo:Nat):Int),1,sIx n n hi - sIx n 0 lo) s):wpAny (model prog w) A (Builtin.Slice.sliceApplied (.ref sl) (pure (n:Int))) Q E s:=by
 obtain ⟨os,hos,hcs,hds⟩:=id hs
 unfold Builtin.Slice.sliceApplied Builtin.Slice.sliceFields
 refine DP (DP (EK hos hds (x:=vl) rfl (DP (EK hos hds (x:=vu) rfl (DP (EK hos hds (x:=.none) rfl (DS ?_)))))))
 refine DP (slicePart_none ?_)
 show wpAny _ _ (if ((1:Int) == 0)=true then _ else _) _ _ s
 rw [if_neg (by decide)]
 refine DP (j4 pl (DP (j4 pu (DP (DS ?_)))))
 show wpAny _ _ (match Builtin.Slice.sliceAdjust lo hi 1 (n:Int) with | (lo,hi)=>pure (lo,(1:Int),Builtin.Slice.slicePlaces lo hi 1)) _ _ s
 rw [qT lo hi n]
 show wpAny _ _ (pure (((sIx n 0 lo:Nat):Int),(1:Int),Builtin.Slice.slicePlaces ((sIx n 0 lo:Nat):Int) ((sIx n n hi:Nat):Int) 1)) _ _ s
 rw [qb]
 exact DS h
theorem vQ (xs:Array Value) (i k:Nat):((List.range k).filterMap fun (m:Nat)=>xs[((i:Int) + (m:Int) * 1).toNat]?).toArray=((xs.toList.drop i).take k).toArray:=by
 have e:(fun (m:Nat)=>xs[((i:Int) + (m:Int) * 1).toNat]?)=fun m=>xs[i + m]?:=by
  funext m
  have:((i:Int) + (m:Int) * 1).toNat=i + m:=by omega
  rw [this]
 rw [e]
 have:=pick_run xs i k
 rw [List.filterMap_map] at this
 have e2:((fun x=>xs[x]?) ∘ fun x=>i + x)=fun m=>xs[i + m]?:=rfl
 rw [e2] at this
 rw [this]
theorem getItem_tuple_cut {t sl:Addr}{items:Array Value}{vl vu:Value}{lo hi:Option Int}{Q:Value→Shared→Prop} (ht:IsTup s.heap t items) (hs:s.heap.IsSliceOf sl vl vu .none) (pl:IsPart vl lo) (pu:IsPart vu hi)
  (hw:¬ (sIx items.size 0 lo=0∧sIx items.size items.size hi=items.size))
  (h:Q (.ref s.heap.objs.size) { s with heap:=s.heap.push { cls:=.type "tuple",data:=.seq ((items.toList.drop (sIx items.size 0 lo)).take (sIx items.size items.size hi - sIx items.size 0 lo)).toArray } })
  (hsz:items.size≤sizeLine):wpAny (model prog w) A (getItem (.ref t) (.ref sl)) Q E s:=by
 have htake:sizeOk (.seq ((items.toList.drop (sIx items.size 0 lo)).take (sIx items.size items.size hi - sIx items.size 0 lo)).toArray):=by
  show ((items.toList.drop (sIx items.size 0 lo)).take (sIx items.size items.size hi - sIx items.size 0 lo)).toArray.size≤sizeLine
  rw [DY,FY,Fz,EN]
  omega
 have hj:sIx items.size items.size hi≤items.size:=sIx_le _ _ (DZ _) hi
 obtain ⟨os,hos,hcs,hds⟩:=id hs
 have hTs:s.TypeIs (.ref sl) "slice" := ⟨os,hos,hcs⟩
 unfold getItem
 try with_reducible refine EA ?_
 first | refine DP (DS ?_) | skip
 refine DP (wpAny_sequenceKey ht.typeIs (by decide) ?_)
 refine DP (Fl (name:=Str.ofString "__getitem__") ht.typeIs Fh
  (FK Fh ht.typeIs entry_tuple_getitem ?_ (args_tuple_getitem _ _)))
 show wpAny _ _ (Builtin.Tuple.tupleItemsOf (.ref t) >>= _) _ _ s
 refine DP (tupleItemsOf_ ht ?_)
 refine DP (Gk hTs ?_)
 rw [if_pos (by decide)]
 refine DP (sliceApplied_gen hs pl pu ?_)
 have hno:¬ ((((sIx items.size 0 lo:Nat):Int) == 0 && (1:Int) == 1 && (sIx items.size items.size hi - sIx items.size 0 lo) == items.size)=true):=by
  intro q
  rw [D8,D8] at q
  have q1:((sIx items.size 0 lo:Nat):Int)=0:=eq_of_beq q.1.1
  have q2:sIx items.size items.size hi - sIx items.size 0 lo=items.size:=eq_of_beq q.2
  exact hw ⟨by omega,by omega⟩
 show wpAny _ _ (if (((sIx items.size 0 lo:Nat):Int) == 0 && (1:Int) == 1 && (sIx items.size items.size hi - sIx items.size 0 lo) == items.size)=true then _ else _) _ _ s
 rw [if_neg hno,vQ]
 first
  | exact DP (m:=Builtin.Tuple.tupleExact _) (ES (DS ⟨_,rfl,DS h⟩) htake)
  | exact DP (m:=Builtin.Tuple.tupleExact _) (ES (DP (DS (DS ⟨_,rfl,DS h⟩))) htake)
  | exact DP (DP (m:=Builtin.Tuple.tupleExact _) (ES (DS (DS ⟨_,rfl,DS h⟩)) htake))
  | exact DP (DP (m:=Builtin.Tuple.tupleExact _) (ES (DS ⟨_,rfl,DS h⟩) htake))
end
end HT
namespace L2
open PySem PySem.Spec PyProof.Rows
abbrev TO:=St→Hp→(Option Int→Hp→Prop)→Prop
def PO (X:Cx) (e:Option Expr) (t:TO):Prop :=
 ∀ (pins:List (Addr×Obj)) (s:Shared) (σ:St) (H:Hp) (Q:Option Int→Hp→Prop),Inv X pins σ H s→t σ H Q →
  wpAny (model X.prog X.w) X.A (evalPart e X.env) (fun u s'=>∃ o H',Inv X pins σ H' s'∧IsPart u o∧Q o H') X.xe s
def xP:TO:=fun _ H Q=>Q none H
def BT (t:TE):TO:=fun σ H Q=>t σ H fun x H1=>∃ i,x=.int i∧Q (some i) H1
section
variable {X:Cx}{e:Expr}{te:TE}{lo hi:Option Expr}{tl th:TO}{pos p2:Pos}
theorem ym:PO X none xP:=by
 intro pins s σ H Q I h
 rw [GP]
 exact DS ⟨none,H,I,.none,h⟩
theorem rN (h:PE X e te):PO X (some e) (BT te):=by
 intro pins s σ H Q I hw
 rw [evalPart_some]
 refine thn (h pins s σ H _ I hw) fun u s1 zz44_0=>?_
 obtain ⟨x,H1,I1,r1,q1⟩:=zz44_0
 obtain ⟨i,rfl,q⟩:=q1
 obtain ⟨t,rfl⟩:=r1
 exact ⟨some i,H1,I1,.int i t,q⟩
def SlR (X:Cx) (r:V→Option Int→Option Int→Hp→VK→Prop):Prop :=
 ∀ (pins:List (Addr×Obj)) (s:Shared) (σ:St) (H:Hp) (x:V) (v vl vu:Value) (lo hi:Option Int) (sl:Addr) (Q:VK),Inv X pins σ H s→aX x v→s.heap.IsSliceOf sl vl vu .none→IsPart vl lo→IsPart vu hi→r x lo hi H Q →
  ∃ T id,typeLookup (.type T) "__getitem__" = pure (some (.builtin id))∧s.TypeIs v T∧wpAny (model X.prog X.w) X.A (getItem v (.ref sl)) (EP X pins σ Q) X.xe s
theorem SlR.or {r r':V→Option Int→Option Int→Hp→VK→Prop} (h:SlR X r) (h':SlR X r'):SlR X (fun x lo hi H Q=>r x lo hi H Q∨r' x lo hi H Q):=by
 intro pins s σ H x v vl vu lo hi sl Q I rx hs pl pu q
 rcases q with q | q
 ·exact h pins s σ H x v vl vu lo hi sl Q I rx hs pl pu q
 ·exact h' pins s σ H x v vl vu lo hi sl Q I rx hs pl pu q
def tSl (r:V→Option Int→Option Int→Hp→VK→Prop) (te:TE) (tl th:TO):TE:=fun σ H Q=>te σ H fun x H1=>tl σ H1 fun l H2=>th σ H2 fun u H3=>r x l u H3 Q
theorem vU {r:V→Option Int→Option Int→Hp→VK→Prop} (hr:SlR X r) (he:PE X e te) (hl:PO X lo tl) (hu:PO X hi th):PE X (.Subscript e (.Slice lo hi none p2) pos) (tSl r te tl th):=by
 intro pins s σ H Q I h
 refine Subscript_ (thn (he pins s σ H _ I h) fun v s1 zz45_0=>?_)
 obtain ⟨x,H1,I1,r1,q1⟩:=zz45_0
 refine wpAny_Slice (thn (hl pins s1 σ H1 _ I1 q1) fun vl s2 ⟨l,H2,I2,pl,q2⟩=>thn (hu pins s2 σ H2 _ I2 q2) fun vu s3 zz47_0=>?_)
 obtain ⟨u,H3,I3,pu,q3⟩:=zz47_0
 rw [GP]
 refine DS ?_
 have I4:Inv X pins σ H3 { s3 with heap:=s3.heap.push { cls:=.type "slice",data:=.fields #[vl,vu,.none] } }:=I3.kept (t':=s3.toks) fun b ob q=>DQ _ q
 obtain ⟨T,id,hT,ht,hg⟩:=hr pins { s3 with heap:=s3.heap.push { cls:=.type "slice",data:=.fields #[vl,vu,.none] } } σ H3 x v vl vu l u s3.heap.objs.size Q I4 r1 (GQ ..) pl pu q3
 show wpAny (model X.prog X.w) X.A (subscriptTail e (.Slice lo hi none p2) v (.ref s3.heap.objs.size)) (EP X pins σ Q) X.xe { s3 with heap:=s3.heap.push { cls:=.type "slice",data:=.fields #[vl,vu,.none] } }
 exact tail_any (ops:=[.ref s3.heap.objs.size,v]) ht hT hg (by with_unfolding_all rfl)
def jw (xs:List V) (lo hi:Option Int):List V:=(xs.drop (HT.sIx xs.length 0 lo)).take (HT.sIx xs.length xs.length hi - HT.sIx xs.length 0 lo)
theorem jm (xs:List V) (lo hi:Option Int):(jw xs lo hi).length≤xs.length:=by
 unfold jw
 rw [FY,Fz]
 omega
def Cb (K:PySem.W.Frag):V→Option Int→Option Int→Hp→VK→Prop:=fun x lo hi H Q=>∃ a xs,x=.ref a∧SqT K H a xs ∧
 ¬ (HT.sIx xs.length 0 lo=0∧HT.sIx xs.length xs.length hi=xs.length)∧∀ p,H p=none→Q (.ref p) (upd H p (.tup (jw xs lo hi)))
theorem zY:SlR X (Cb X.K):=by
 intro pins s σ H x v vl vu lo hi sl Q I rx hs pl pu h
 obtain ⟨a,xs,rfl,hx,hw,q⟩:=h
 cases rx
 obtain ⟨its,r,ht,hz⟩:=I.tuple hx
 have hlen:its.toArray.size=xs.length:=by rw [DY]; exact r.length.symm
 refine ⟨"tuple",_,PyProof.Rows.slot_tuple_getitem.lookup,ht.typeIs,?_⟩
 refine HT.getItem_tuple_cut ht hs pl pu (by rw [hlen]; exact hw) ?_ (by rw [hlen]; exact hz)
 rw [hlen]
 refine ⟨.ref s.heap.objs.size,_,I.laid (t':=s.toks) (o:=.tup (jw xs lo hi)) (fun b ob q=>DQ _ q) (DZ _) ?_,rfl,q _ (I.hok.fresh (DZ _))⟩
 exact ⟨D1 (jm xs lo hi) hz,_,(r.drop (HT.sIx xs.length 0 lo)).take (HT.sIx xs.length xs.length hi - HT.sIx xs.length 0 lo),IsTup.new _ _⟩
def zC (K:PySem.W.Frag):R2:=fun x y H Q=>∃ a b xs ys,x=.ref a∧y=.ref b∧SqT K H a xs∧SqT K H b ys∧xs ≠ []∧xs.length + ys.length≤sizeLine ∧
 (ys=[]→Q (.ref a) H)∧(ys ≠ []→∀ p,H p=none→Q (.ref p) (upd H p (.tup (xs ++ ys))))
theorem aT.nil_iff {xs:List V}{us:List Value} (r:aT xs us):us=[] ↔ xs=[]:=by
 cases r with
 | nil=>simp
 | cons _ _=>simp
theorem yE:OpR X (binaryOp .Add) (zC X.K):=by
 intro pins s σ H x y v u Q I rx ry h
 obtain ⟨a,b,xs,ys,rfl,rfl,ha,hb,hx,hz,q1,q2⟩:=h
 cases rx
 cases ry
 obtain ⟨its,r1,p1,_⟩:=I.tuple ha
 obtain ⟨its2,r2,p2,_⟩:=I.tuple hb
 refine HT.cat_tup p1 p2 (fun z=>hx (r1.nil_iff.mp z)) (fun z=>⟨.ref a,H,I,rfl,q1 (r2.nil_iff.mp z)⟩) (fun z=>?_) (by rw [← r1.length,← r2.length]; exact hz)
 refine ⟨.ref s.heap.objs.size,_,I.laid (t':=s.toks) (o:=.tup (xs ++ ys)) (fun b ob q=>DQ _ q) (DZ _) ?_,rfl,q2 (fun w=>z (r2.nil_iff.mpr w)) _ (I.hok.fresh (DZ _))⟩
 exact ⟨by rw [D9]; exact hz,_,r1.append r2,IsTup.new _ _⟩
end
def ixN (n:Nat) (i:Int):Option Nat:=if 0≤i then (if i < n then some i.toNat else none) else if -(n:Int)≤i then some (i + n).toNat else none
def atI {α:Type} (xs:List α) (i:Int):Option α:=(ixN xs.length i).bind fun j=>xs[j]?
theorem rS {n:Nat}{i:Int}{j:Nat} (h:ixN n i=some j):seqIndex? i n=some j∧j < n∧-(n:Int)≤i∧i < n:=by
 unfold ixN at h
 by_cases h0:0≤i
 ·rw [if_pos h0] at h
  by_cases h1:i < n
  ·rw [if_pos h1] at h
   have e:i.toNat=j:=DW h
   exact ⟨by rw [seqIndex_of h0 h1,e],by omega,by omega,h1⟩
  ·rw [if_neg h1] at h; cases h
 ·rw [if_neg h0] at h
  by_cases h1 : -(n:Int)≤i
  ·rw [if_pos h1] at h
   have e:(i + n).toNat=j:=DW h
   exact ⟨by rw [seqIndex_neg (by omega) h1,e],by omega,h1,by omega⟩
  ·rw [if_neg h1] at h; cases h
theorem nG {α:Type}{xs:List α}{i:Int}{v:α} (h:atI xs i=some v):∃ j,seqIndex? i xs.length=some j∧xs[j]? = some v∧j < xs.length∧-(xs.length:Int)≤i∧i < xs.length:=by
 unfold atI at h
 cases e:ixN xs.length i with
 | none=>rw [e] at h; cases h
 | some j =>
  rw [e] at h
  obtain ⟨h1,h2,h3,h4⟩:=rS e
  exact ⟨j,h1,h,h2,h3,h4⟩
def sN (b:Expr):Prop:=∀ o i,subscripted b false o i=operate [o,i] (getItem o i)
def IxR (X:Cx) (r:R2):Prop :=
 ∀ (value slice:Expr) (pins:List (Addr×Obj)) (s:Shared) (σ:St) (H:Hp) (x y:V) (v u:Value) (Q:VK),Inv X pins σ H s→aX x v→aX y u→r x y H Q →
  subscripted slice false v u=operate [v,u] (getItem v u)→wpAny (model X.prog X.w) X.A (subscriptTail value slice v u) (EP X pins σ Q) X.xe s
def MtR (X:Cx) (id:String) (r:V→List V→Hp→VK→Prop):Prop :=
 ∀ (pins:List (Addr×Obj)) (s:Shared) (σ:St) (H:Hp) (x:V) (xs:List V) (v:Value) (us:List Value) (Q:VK),Inv X pins σ H s→aX x v→aT xs us→r x xs H Q →
  wpAny (model X.prog X.w) X.A (call (.builtin id) (v :: us)) (EP X pins σ Q) X.xe s
section
variable {X:Cx}{a b:Expr}{ta tb:TE}{pos:Pos}
theorem IxR.or {r r':R2} (h:IxR X r) (h':IxR X r'):IxR X (fun x y H Q=>r x y H Q∨r' x y H Q):=by
 intro value slice pins s σ H x y v u Q I rx ry q hs
 rcases q with q | q
 ·exact h value slice pins s σ H x y v u Q I rx ry q hs
 ·exact h' value slice pins s σ H x y v u Q I rx ry q hs
theorem Cp {r:R2} (hr:IxR X r) (ha:PE X a ta) (hb:PE X b tb) (hs:sN b):PE X (.Subscript a b pos) (tOp r ta tb):=by
 intro pins s σ H Q I h
 exact Subscript_ (BE ha hb I h fun v u s2 x y H2 I2 rx ry q=>hr a b pins s2 σ H2 x y v u Q I2 rx ry q (hs _ _))
def Ch (K:PySem.W.Frag):R2:=fun x y H Q=>∃ p xs i v,x=.ref p∧y=.int i∧SqL K H p xs∧atI xs i=some v∧Q v H
def Cf (K:PySem.W.Frag):R2:=fun x y H Q=>∃ p xs i v,x=.ref p∧y=.int i∧SqT K H p xs∧atI xs i=some v∧Q v H
def Cg:R2:=fun x y H Q=>∃ z i c,x=.str z∧y=.int i∧z.length≤sizeLine∧atI z.cps.toList i=some c∧Q (.str ⟨#[c]⟩) H
theorem yR:IxR X (Ch X.K):=by
 intro value slice pins s σ H x y v u Q I rx ry h hs
 obtain ⟨p,xs,i,z,rfl,rfl,hq,he,q⟩:=h
 cases rx
 obtain ⟨t,rfl⟩:=ry
 obtain ⟨its,r,pl,hz⟩:=I.list hq
 obtain ⟨j,h1,h2,h3,h4,h5⟩:=nG he
 obtain ⟨w,ew,rw'⟩:=r.get h2
 have hl:=r.length
 have hn:=ku
 have fin:EP X pins σ Q w s:=⟨z,H,I,rw',q⟩
 by_cases h0:0≤i
 ·have hj:i.toNat=j:=by
   rw [seqIndex_of h0 h5] at h1
   exact DW h1
  exact item_listR pl.isList h0 (by omega) (by rw [hj]; simpa using ew) fin hs
 ·have hj:(i + (its.toArray.size:Int)).toNat=j:=by
   rw [seqIndex_neg (by omega) h4] at h1
   rw [DY,← hl]
   exact DW h1
  exact subscriptTail_builtinR (x:=w) pl.isList.typeIs slot_list_getitem.lookup
   (wpAny_getItem_list_neg (Q:=fun r s'=>r=w∧EP X pins σ Q r s') pl.isList (by omega) (by rw [DY] <;> omega) (by omega) (by rw [hj]; simpa using ew) ⟨rfl,fin⟩) hs
theorem A8:IxR X (Cf X.K):=by
 intro value slice pins s σ H x y v u Q I rx ry h hs
 obtain ⟨p,xs,i,z,rfl,rfl,hq,he,q⟩:=h
 cases rx
 obtain ⟨t,rfl⟩:=ry
 obtain ⟨its,r,pl,hz⟩:=I.tuple hq
 obtain ⟨j,h1,h2,h3,h4,h5⟩:=nG he
 obtain ⟨w,ew,rw'⟩:=r.get h2
 have hl:=r.length
 have hn:=ku
 have fin:EP X pins σ Q w s:=⟨z,H,I,rw',q⟩
 exact subscriptTail_builtinR (x:=w) pl.typeIs slot_tuple_getitem.lookup
  (getItem_tuple (j:=j) (Q:=fun r s'=>r=w∧EP X pins σ Q r s') pl (by omega) (by omega) (by rw [DY,← hl]; exact h1) (by simpa using ew) ⟨rfl,fin⟩) hs
theorem A9:IxR X Cg:=by
 intro value slice pins s σ H x y v u Q I rx ry h hs
 obtain ⟨z,i,c,rfl,rfl,hz,he,q⟩:=h
 obtain ⟨t,rfl⟩:=rx
 obtain ⟨t',rfl⟩:=ry
 obtain ⟨j,h1,h2,h3,h4,h5⟩:=nG he
 have hl:z.cps.toList.length=z.length:=by simp [Str.length]
 rw [hl] at h1 h4 h5
 have hn:=ku
 exact tail_any (typeIs_str s z t) slot_str_getitem.lookup (getItem_str (c:=c) (by
  have e1:decide (i < -(2 ^ 63:Int))=false:=Ek (by omega)
  have e2:decide (i ≥ 2 ^ 63)=false:=Ek (by omega)
  rw [e1,e2,EB]) (by rw [h1]; simpa using h2) ⟨.str ⟨#[c]⟩,H,I.tok _,⟨_,rfl⟩,q⟩) hs
def rIx (K:PySem.W.Frag):R2:=fun x y H Q=>Ch K x y H Q∨Cf K x y H Q∨Cg x y H Q
theorem A_:IxR X (rIx X.K):=yR.or (A8.or A9)
theorem qm (its:List Value) (n j:Nat) (u:Value):Obj.mapSeq (·.setIfInBounds j u) { cls:=.type "list",data:=.seq its.toArray n }={ cls:=.type "list",data:=.seq (its.set j u).toArray n }:=by
 simp [Obj.mapSeq]
theorem Inv.lst {pins:List (Addr×Obj)} {σ:St}{H:Hp}{s:Shared}{p:Addr}{xs:List V} (I:Inv X pins σ H s) (h:H p=some (.lst xs)) :
  ∃ (its:List Value) (n:Nat),aT xs its∧s.heap.get? p=some { cls:=.type "list",data:=.seq its.toArray n }∧xs.length≤sizeLine:=by
 obtain ⟨z,its,n,r,e⟩:=I.hok p _ h
 exact ⟨its,n,r,e,z⟩
theorem Inv.lstUpd {pins:List (Addr×Obj)} {σ:St}{H:Hp}{s:Shared}{p:Addr}{xs ys:List V}{its its':List Value}{n n':Nat}{f:Obj→Obj} (I:Inv X pins σ H s) (h:H p=some (.lst xs))
  (ho:s.heap.get? p=some { cls:=.type "list",data:=.seq its.toArray n }) (hf:f { cls:=.type "list",data:=.seq its.toArray n }={ cls:=.type "list",data:=.seq its'.toArray n' }) (r:aT ys its') (hz:ys.length≤sizeLine) (t:Nat) :
  Inv X pins σ (upd H p (.lst ys)) { s with heap:=s.heap.update p f,toks:=t }:=by
 have e:(s.heap.update p f).get? p=some { cls:=.type "list",data:=.seq its'.toArray n' }:=by
  rw [ET f ho (by rw [hf] <;> rfl),hf]
 refine I.write (x:=p) (e:=p) (by rw [h]; trivial) (.inl rfl) (fun b u hb q=>(Ez _ _ (Ne.symm hb)).trans q) ⟨_,e⟩ ?_
 exact ⟨hz,its',n',r,e⟩
def Cd:V→V→V→Hp→(Hp→Prop)→Prop:=fun o i v H Q=>∃ p xs k j,o=.ref p∧i=.int k∧H p=some (.lst xs)∧ixN xs.length k=some j∧Q (upd H p (.lst (xs.set j v)))
theorem vq:CY X Cd:=by
 intro pins s σ H o i v ov iv u Q I ro ri rv h
 obtain ⟨p,xs,k,j,rfl,rfl,hp,hj,q⟩:=h
 cases ro
 obtain ⟨t,rfl⟩:=ri
 obtain ⟨its,n,r,ho,hz⟩:=I.lst hp
 obtain ⟨h1,h2,h3,h4⟩:=rS hj
 have hl:=r.length
 have hn:=ku
 have I':Inv X pins σ (upd H p (.lst (xs.set j v))) { s with heap:=s.heap.update p (Obj.mapSeq (·.setIfInBounds j u)) } :=
  I.lstUpd hp ho (qm its n j u) (r.set rv j) (by rw [El]; exact hz) s.toks
 by_cases h0:0≤k
 ·have hk:k.toNat=j:=by
   rw [seqIndex_of h0 h4] at h1
   exact DW h1
  exact PySem.W.ki_setAt ho h0 (by omega) (by rw [DY,← hl]; exact h4) (by rw [hk]; exact ⟨_,I',q⟩)
 ·have hk:(k + (its.toArray.size:Int)).toNat=j:=by
   rw [seqIndex_neg (by omega) h3] at h1
   rw [DY,← hl]
   exact DW h1
  exact PySem.W.ki_setBack ho (by omega) (by rw [DY,← hl]; exact h3) (by omega) (by rw [hk]; exact ⟨_,I',q⟩)
theorem mE (lo hi:Option Int) (n:Nat):(sliceBounds lo hi none n).1=((HT.sIx n 0 lo:Nat):Int)∧(sliceBounds lo hi none n).2.1=((HT.sIx n n hi:Nat):Int)∧(sliceBounds lo hi none n).2.2=1:=by
 refine ⟨?_,?_,rfl⟩
 ·cases lo with
  | none=>simp [sliceBounds,HT.sIx]
  | some i =>
   simp only [sliceBounds,HT.sIx,Option.getD_none,show (1:Int) > 0 by decide,if_true]
   by_cases h:i < 0
   ·simp only [h,if_true] <;> omega
   ·simp only [h,GF] <;> omega
 ·cases hi with
  | none=>simp [sliceBounds,HT.sIx]
  | some i =>
   simp only [sliceBounds,HT.sIx,Option.getD_none,show (1:Int) > 0 by decide,if_true]
   by_cases h:i < 0
   ·simp only [h,if_true] <;> omega
   ·simp only [h,GF] <;> omega
theorem lc (its:List Value) (lo hi:Option Int):slicePick its.toArray lo hi none=((its.drop (HT.sIx its.length 0 lo)).take (HT.sIx its.length its.length hi - HT.sIx its.length 0 lo)).toArray:=by
 obtain ⟨h1,h2,h3⟩:=mE lo hi its.toArray.size
 unfold slicePick
 rw [h1,h2,h3]
 simp only [sliceRange_one,pick_run,DY] <;> rfl
def Cc (K:PySem.W.Frag):V→Option Int→Option Int→Hp→VK→Prop:=fun x lo hi H Q=>∃ a xs,x=.ref a∧SqL K H a xs∧∀ p,H p=none→Q (.ref p) (upd H p (.lst (jw xs lo hi)))
theorem xV:SlR X (Cc X.K):=by
 intro pins s σ H x v vl vu lo hi sl Q I rx hs pl pu h
 obtain ⟨a,xs,rfl,hx,q⟩:=h
 cases rx
 obtain ⟨its,r,ht,hz⟩:=I.list hx
 have hlen:=r.length
 refine ⟨"list",_,slot_list_getitem.lookup,ht.isList.typeIs,?_⟩
 refine Gv ht.isList hs pl pu .none (by simp) ?_ (by rw [DY] <;> omega)
 rw [lc,← hlen]
 refine ⟨.ref s.heap.objs.size,_,I.laid (t':=s.toks) (o:=.lst (jw xs lo hi)) (fun b ob q=>DQ _ q) (DZ _) ?_,rfl,q _ (I.hok.fresh (DZ _))⟩
 exact ⟨D1 (jm xs lo hi) hz,_,0,(r.drop (HT.sIx xs.length 0 lo)).take (HT.sIx xs.length xs.length hi - HT.sIx xs.length 0 lo),DX _ rfl⟩
def ge:V→Bool
 | .non=>true
 | .bl _=>true
 | .int _=>true
 | .str _=>true
 | _=>false
def eqV:V→V→Bool
 | .non,.non=>true
 | .bl a,.bl b=>a == b
 | .bl a,.int b=>(if a then 1 else 0) == b
 | .int a,.bl b=>a == (if b then 1 else 0)
 | .int a,.int b=>a == b
 | .str a,.str b=>a == b
 | _,_=>false
theorem Bv {A:Around}{s:Shared}{y x:V}{u v:Value} (ry:aX y u) (rx:aX x v) (fy:ge y=true) (fx:ge x=true):SeqAt.EqAt A s u v (eqV y x):=by
 cases y with
 | non =>
  cases ry
  cases x with
  | non=>cases rx; exact SeqAt.EqAt.same _
  | bl b=>cases rx; exact SeqAt.EqAt.none_bool b
  | int b=>obtain ⟨t,rfl⟩:=rx; exact SeqAt.EqAt.none_int b t
  | str b=>obtain ⟨t,rfl⟩:=rx; exact SeqAt.EqAt.none_str b t
  | _=>exact absurd (show false=true from fx) D6
 | bl a =>
  cases ry
  cases x with
  | non=>cases rx; exact SeqAt.EqAt.bool_none a
  | bl b=>cases rx; exact SeqAt.EqAt.bool_bool a b
  | int b=>obtain ⟨t,rfl⟩:=rx; exact SeqAt.EqAt.bool_int a b t
  | str b=>obtain ⟨t,rfl⟩:=rx; exact SeqAt.EqAt.bool_str a b t
  | _=>exact absurd (show false=true from fx) D6
 | int a =>
  obtain ⟨t',rfl⟩:=ry
  cases x with
  | non=>cases rx; exact SeqAt.EqAt.int_none a t'
  | bl b=>cases rx; exact SeqAt.EqAt.int_bool a t' b
  | int b=>obtain ⟨t,rfl⟩:=rx; exact SeqAt.EqAt.int_int a t' b t
  | str b=>obtain ⟨t,rfl⟩:=rx; exact SeqAt.EqAt.int_str a t' b t
  | _=>exact absurd (show false=true from fx) D6
 | str a =>
  obtain ⟨t',rfl⟩:=ry
  cases x with
  | non=>cases rx; exact SeqAt.EqAt.str_none a t'
  | bl b=>cases rx; exact SeqAt.EqAt.str_bool a t' b
  | int b=>obtain ⟨t,rfl⟩:=rx; exact SeqAt.EqAt.str_int a t' b t
  | str b=>obtain ⟨t,rfl⟩:=rx; exact SeqAt.EqAt.str_str a t' b t
  | _=>exact absurd (show false=true from fx) D6
 | _=>exact absurd (show false=true from fy) D6
def eqU (x:V) (u:Value):Bool:=match u with
 | .none=>eqV .non x
 | .bool b=>eqV (.bl b) x
 | .int i _=>eqV (.int i) x
 | .str z _=>eqV (.str z) x
 | _=>false
theorem w_ {x y:V}{u:Value} (r:aX y u) (f:ge y=true):eqU x u=eqV y x:=by
 cases y with
 | non=>cases r; rfl
 | bl b=>cases r; rfl
 | int i=>obtain ⟨t,rfl⟩:=r; rfl
 | str z=>obtain ⟨t,rfl⟩:=r; rfl
 | _=>exact absurd (show false=true from f) D6
theorem iG {x:V}:∀ {xs:List V}{us:List Value},aT xs us→xs.all ge=true→us.any (eqU x)=xs.any fun y=>eqV y x
 | _,_,.nil,_=>rfl
 | y :: xs,u :: us,.cons r t,f=>by
  rw [EY,D8] at f
  rw [FI,FI,w_ r f.1,iG t f.2]
theorem fV {A:Around}{s:Shared}{x:V}{v:Value} (rx:aX x v) (fx:ge x=true):∀ {xs:List V}{us:List Value},aT xs us→xs.all ge=true→∀ u ∈ us,SeqAt.EqAt A s u v (eqU x u)
 | _,_,.nil,_=>fun u hu=>by cases hu
 | y :: xs,u :: us,.cons r t,f=>fun u' hu=>by
  rw [EY,D8] at f
  rcases List.mem_cons.mp hu with rfl | hu
  ·rw [w_ r f.1]; exact Bv r rx f.1 fx
  ·exact fV rx fx t f.2 u' hu
def inV (x:V) (xs:List V):Bool:=xs.any fun y=>eqV y x
def rIn (K:PySem.W.Frag) (neg:Bool):R2:=fun x y H Q=>∃ p xs,y=.ref p∧(SqL K H p xs∨SqT K H p xs)∧ge x=true∧xs.all ge=true∧Q (.bl (if neg then !inV x xs else inV x xs)) H
theorem tU:OpR X (compareOp .In) (rIn X.K false):=by
 intro pins s σ H x y v u Q I rx ry h
 obtain ⟨p,xs,rfl,hq,fx,fs,q⟩:=h
 cases ry
 rcases hq with hq | hq
 ·obtain ⟨its,r,pl,hz⟩:=I.list hq
  refine SeqAt.in_listAt (eqU x) pl.isList (fun w hw=>fV rx fx r fs w (by simpa using hw)) ⟨.bl _,H,I,rfl,?_⟩
  rw [show its.toArray.any (eqU x)=its.any (eqU x) by simp,iG r fs]
  exact q
 ·obtain ⟨its,r,pl,hz⟩:=I.tuple hq
  refine SeqAt.in_tupleAt (eqU x) pl (fun w hw=>fV rx fx r fs w (by simpa using hw)) ⟨.bl _,H,I,rfl,?_⟩
  rw [show its.toArray.any (eqU x)=its.any (eqU x) by simp,iG r fs]
  exact q
theorem mS:OpR X (compareOp .NotIn) (rIn X.K true):=by
 intro pins s σ H x y v u Q I rx ry h
 obtain ⟨p,xs,rfl,hq,fx,fs,q⟩:=h
 cases ry
 rcases hq with hq | hq
 ·obtain ⟨its,r,pl,hz⟩:=I.list hq
  refine SeqAt.notIn_listAt (eqU x) pl.isList (fun w hw=>fV rx fx r fs w (by simpa using hw)) ⟨.bl _,H,I,rfl,?_⟩
  rw [show its.toArray.any (eqU x)=its.any (eqU x) by simp,iG r fs]
  exact q
 ·obtain ⟨its,r,pl,hz⟩:=I.tuple hq
  refine SeqAt.notIn_tupleAt (eqU x) pl (fun w hw=>fV rx fx r fs w (by simpa using hw)) ⟨.bl _,H,I,rfl,?_⟩
  rw [show its.toArray.any (eqU x)=its.any (eqU x) by simp,iG r fs]
  exact q
theorem nC:cI X (.type "list") (fun xs H Q=>∃ p ys,xs=[.ref p]∧(SqL X.K H p ys∨SqT X.K H p ys)∧∀ l,H l=none→Q (.ref l) (upd H l (.lst ys))):=by
 intro pins s σ H xs us Q I r h
 obtain ⟨p,ys,rfl,hq,q⟩:=h
 obtain ⟨u,rfl,rx⟩:=i_ r
 cases rx
 have fin:∀ (its:List Value),aT ys its→ys.length≤sizeLine→∀ (h':Heap) (c':Nat),(∀ b o',s.heap.get? b=some o'→h'.get? b=some o') →
   h'.get? s.heap.objs.size=some { cls:=.type "list",dict:=none,data:=.seq its.toArray c',slots:=#[] }→EP X pins σ Q (.ref s.heap.objs.size) { s with heap:=h' }:=fun its r' hz h' c' kp e =>
  ⟨.ref s.heap.objs.size,_,I.laid (t':=s.toks) kp (DZ _) (show ce X.prog X.w _ h' _ (.lst ys) from ⟨hz,its,c',r',e⟩),rfl,q _ (I.hok.fresh (DZ _))⟩
 rcases hq with hq | hq
 ·obtain ⟨its,r',pl,hz⟩:=I.list hq
  have hlen:=r'.length
  obtain ⟨o,ho,hc,n,hd⟩:=pl.isList
  exact call_list_seq p (.inl rfl) ho hc hd (fun h' c' kp e=>fin its r' hz h' c' kp e) (by simp only [DY] <;> omega)
 ·obtain ⟨its,r',pl,hz⟩:=I.tuple hq
  have hlen:=r'.length
  obtain ⟨o,ho,hc,n,hd⟩:=pl
  exact call_list_seq p (.inr rfl) ho hc hd (fun h' c' kp e=>fin its r' hz h' c' kp e) (by simp only [DY] <;> omega)
theorem lm:cI X (.type "tuple") (fun xs H Q=>∃ p ys,xs=[.ref p]∧((SqL X.K H p ys∧∀ l,H l=none→Q (.ref l) (upd H l (.tup ys)))∨(SqT X.K H p ys∧Q (.ref p) H))):=by
 intro pins s σ H xs us Q I r h
 obtain ⟨p,ys,rfl,h⟩:=h
 obtain ⟨u,rfl,rx⟩:=i_ r
 cases rx
 rcases h with ⟨hq,q⟩ | ⟨hq,q⟩
 ·obtain ⟨its,r',pl,hz⟩:=I.list hq
  have hlen:=r'.length
  refine call_tuple_list pl.isList (fun h' kp=>?_) (by simp only [DY] <;> omega)
  have I1:Inv X pins σ H { s with heap:=h' }:=I.kept (t':=s.toks) kp
  have I2:Inv X pins σ (upd H h'.objs.size (.tup ys)) { s with heap:=h'.push { cls:=.type "tuple",data:=.seq its.toArray } } :=
   I1.laid (t':=s.toks) (fun b o e=>DQ _ e) (DZ _) (show ce X.prog X.w _ _ _ (.tup ys) from ⟨hz,its,r',IsTup.new _ _⟩)
  exact ⟨.ref h'.objs.size,_,I2,rfl,q _ (I1.hok.fresh (DZ _))⟩
 ·obtain ⟨its,r',pl,hz⟩:=I.tuple hq
  exact call_tuple_same pl ⟨.ref p,H,I,rfl,q⟩
def tyV (K:PySem.W.Frag) (T:String) (x:V) (H:Hp):Prop:=match x with
 | .str _=>T = "str"
 | .int _=>T = "int"
 | .ref p=>(T = "list"∧∃ xs,SqL K H p xs)∨(T = "tuple"∧∃ o,K.lookup p=some o∧o.cls=.type "tuple"∧o.dict=none) ∨
   (T = "dict"∧((∃ kvs,H p=some (.dK kvs))∨∃ kvs,H p=some (.dT kvs)))∨(T = "set"∧∃ S n,H p=some (.set S n))
 | _=>False
theorem zV {pins:List (Addr×Obj)} {σ:St}{H:Hp}{s:Shared}{T:String}{x:V}{v:Value} (I:Inv X pins σ H s) (r:aX x v) (ty:tyV X.K T x H) :
  s.TypeIs v T∧∀ a,v=.ref a→∃ ob,s.heap.get? a=some ob∧ob.dict=none:=by
 cases x with
 | str z =>
  obtain ⟨t,rfl⟩:=r
  cases (show T = "str" from ty)
  exact ⟨typeIs_str s z t,fun _ e=>nomatch e⟩
 | int i =>
  obtain ⟨t,rfl⟩:=r
  cases (show T = "int" from ty)
  exact ⟨typeIs_int s i t,fun _ e=>nomatch e⟩
 | ref p =>
  cases r
  rcases ty with ⟨rfl,xs,hq⟩ | ⟨rfl,o,hk,hc,hd⟩ | ⟨rfl,hk⟩ | ⟨rfl,S,n,hk⟩
  ·obtain ⟨its,_,pl,_⟩:=I.list hq
   refine ⟨pl.isList.typeIs,fun a e=>?_⟩
   cases e
   obtain ⟨o,n,e,c,hd,_⟩:=pl
   exact ⟨o,e,hd⟩
  ·refine ⟨⟨o,I.kIn p o hk,hc⟩,fun a e=>?_⟩
   cases e
   exact ⟨o,I.kIn _ o hk,hd⟩
  ·have z:∃ o,s.heap.get? p=some o∧o.ExactDict:=by
    rcases hk with ⟨kvs,hk⟩ | ⟨kvs,hk⟩
    ·obtain ⟨_,_,_,_,o,_,_,e,ex,_⟩:=I.hok p _ hk
     exact ⟨o,e,ex⟩
    ·obtain ⟨_,_,_,_,o,_,_,e,ex,_⟩:=I.hok p _ hk
     exact ⟨o,e,ex⟩
   obtain ⟨o,e,ex⟩:=z
   refine ⟨⟨o,e,ex.1⟩,fun a e2=>?_⟩
   cases e2
   exact ⟨o,e,ex.2.1⟩
  ·obtain ⟨o,_,_,_,e,ex,_⟩:=I.hok p _ hk
   refine ⟨⟨o,e,ex.1⟩,fun a e2=>?_⟩
   cases e2
   exact ⟨o,e,ex.2.1⟩
 | _=>exact False.elim ty
def tBM (K:PySem.W.Frag) (T:String) (r:V→List V→Hp→VK→Prop) (to:TE) (t:TA):TE:=fun σ H Q=>to σ H fun x H1=>tyV K T x H1∧t σ H1 fun xs H2=>r x xs H2 Q
variable {o e:Expr}{es:List Expr}{to:TE}{t:TA}{name:Str}{apos cpos:Pos}{T id:String}{r:V→List V→Hp→VK→Prop}
theorem Cq (pa:PlainAttrs T) (slot:Slot T name id) (hty:typeOf (.builtin id)=pure (.type "method_descriptor")) (hm:MtR X id r) (ho:PE X o to) (ha:PA X (e :: es) t)
  (hbase:attributeBase o name X.env (eval o X.env)=eval o X.env:=by rfl)
  (hfew:((backTo cpos (starEach (e :: es) X.env)).all (fun x => !x.1) && (backToKw cpos (keywordEach [] X.env)).all (fun x=>x.1.isSome)
   && decide ((e :: es).length + ([]:List Keyword).length + (if ([]:List Keyword).isEmpty then 0 else 1) < 30))=true:=by rfl)
  (hline:(apos.endLine == cpos.line)=true:=by rfl) (hs:starEach (e :: es) X.env=(false,eval e X.env) :: starEach es X.env:=by rfl) (hplain:(backTo cpos (starEach es X.env)).any (·.1)=false:=by rfl) :
  PE X (.Call (.Attribute o name apos) (e :: es) [] cpos) (tBM X.K T r to t):=by
 intro pins s σ H Q I h
 refine wpAny_Call_method_late hbase hfew hline rfl (thn (ho pins s σ H _ I h) fun v s1 zz48_0=>?_)
 obtain ⟨x,H1,I1,r1,ty,q1⟩:=zz48_0
 obtain ⟨h1,h2⟩:=zV I1 r1 ty
 refine ⟨T,id,pa,slot,hty,h1,h2,?_⟩
 have hA:=ha cpos pins s1 σ H1 _ I1 q1
 rw [hs] at hA ⊢
 refine Calls.callWith_builtin (by show (false || (backTo cpos (starEach es X.env)).any (·.1))=false; rw [hplain] <;> rfl) (Calls.evalArgs_plain ?_)
 exact thn hA fun us s2 zz49_0=>by obtain ⟨vs,H2,I2,r2,q2⟩:=zz49_0; exact hm pins s2 σ H2 x vs v us Q I2 r1 r2 q2
end
def MtM (X:Cx) (id:String) (r:V→List V→Hp→VK→Prop):Prop :=
 ∀ (pins:List (Addr×Obj)) (s:Shared) (σ:St) (H:Hp) (x:V) (xs:List V) (v:Value) (us:List Value) (Q:VK),Inv X pins σ H s→aX x v→aT xs us→r x xs H Q →
  wpAny (model X.prog X.w) X.A (call (.builtin id) (v :: us)) (EP X pins σ Q) X.xe s
theorem aT.one:∀ {x:V}{us:List Value},aT [x] us→∃ u,us=[u]∧aX x u:=by
 intro x us h
 cases h with
 | cons r h=>cases h; exact ⟨_,rfl,r⟩
theorem aT.two:∀ {x y:V}{us:List Value},aT [x,y] us→∃ u v,us=[u,v]∧aX x u∧aX y v:=by
 intro x y us h
 cases h with
 | cons r h=>cases h with
  | cons q h=>cases h; exact ⟨_,_,rfl,r,q⟩
theorem aT.zero:∀ {us:List Value},aT [] us→us=[]
 | _,.nil=>rfl
theorem aT.reverse {xs:List V}{us:List Value} (h:aT xs us):aT xs.reverse us.reverse:=by
 induction h with
 | nil=>exact .nil
 | cons r t ih=>rw [Gg,Gg]; exact aT.append ih (.cons r .nil)
section
variable {X:Cx}{pins:List (Addr×Obj)} {σ:St}{H:Hp}{s:Shared}{l b:Addr}{xs ys zs:List V}
theorem Inv.lset {its its':List Value}{n:Nat}{f:Array Value→Array Value}{t':Nat} (I:Inv X pins σ H s) (hH:H l=some (.lst xs))
  (e:s.heap.get? l=some { cls:=.type "list",data:=.seq its.toArray n }) (hf:f its.toArray=its'.toArray) (hv:aT ys its') (hz:ys.length≤sizeLine) :
  Inv X pins σ (upd H l (.lst ys)) { s with heap:=s.heap.update l (Obj.mapSeq f),toks:=t' }:=by
 have q:=PySem.IsL.update e f
 rw [hf] at q
 refine I.write (x:=l) (e:=l) (by rw [hH]; exact trivial) (.inl rfl) (fun b' u hb hu=>(Ez s.heap (Obj.mapSeq f) (Ne.symm hb)).trans hu) ⟨_,q⟩ ?_
 exact ⟨hz,its',_,hv,q⟩
theorem Inv.lnew {its:List Value}{t':Nat} (I:Inv X pins σ H s) (hv:aT ys its) (hz:ys.length≤sizeLine) :
  Inv X pins σ (upd H s.heap.objs.size (.lst ys)) { s with heap:=s.heap.push { cls:=.type "list",data:=.seq its.toArray },toks:=t' } :=
 I.laid (fun _ _ q=>DQ _ q) (DZ _) ⟨hz,its,0,hv,DX _ rfl⟩
theorem Inv.fresh (I:Inv X pins σ H s):H s.heap.objs.size=none:=I.hok.fresh (DZ _)
theorem Inv.lstM (I:Inv X pins σ H s) (hH:H l=some (.lst xs)):xs.length≤sizeLine∧∃ (its:List Value) (n:Nat),aT xs its∧xs.length=its.length∧s.heap.get? l=some { cls:=.type "list",data:=.seq its.toArray n }:=by
 obtain ⟨z,its,n,r,e⟩:=I.hok l _ hH
 exact ⟨z,its,n,r,r.length,e⟩
end
section
variable {X:Cx}
def yc:V→List V→Hp→VK→Prop:=fun x vs H Q=>∃ l xs y,x=.ref l∧vs=[y]∧H l=some (.lst xs)∧xs.length < sizeLine∧Q .non (upd H l (.lst (xs ++ [y])))
theorem lT:MtM X "list.append" yc:=by
 intro pins s σ H x vs v us Q I rx rv h
 obtain ⟨l,xs,y,rfl,rfl,hH,hz,q⟩:=h
 cases rx
 obtain ⟨u,rfl,ru⟩:=rv.one
 obtain ⟨z,its,n,r,hl,e⟩:=I.lstM hH
 refine call_meets F.slot_list_append ⟨_,e,rfl⟩ F.entry_list_append (F.args_list_append_2 _ _) (PySem.list_append l its.toArray n u (by rw [DY]; omega)) ⟨e,?_⟩
 refine ⟨.non,_,I.lset (its':=its ++ [u]) hH e (by simp) (r.append (.cons ru .nil)) ?_,rfl,q⟩
 rw [D9,FX]
 omega
def Ci:R2:=fun x y H Q=>∃ l b xs zs,x=.ref l∧y=.ref b∧H l=some (.lst xs)∧H b=some (.lst zs)∧xs.length + zs.length≤sizeLine∧∀ p,H p=none→Q (.ref p) (upd H p (.lst (xs ++ zs)))
theorem AR:OpR X (binaryOp .Add) Ci:=by
 intro pins s σ H x y v u Q I rx ry h
 obtain ⟨l,b,xs,zs,rfl,rfl,hH,hB,hz,q⟩:=h
 cases rx
 cases ry
 obtain ⟨z,its,n,r,hl,e⟩:=I.lstM hH
 obtain ⟨z2,its2,n2,r2,hl2,e2⟩:=I.lstM hB
 refine PySem.P.add_list e e2 ?_ (by rw [DY,DY]; omega)
 have ea:its.toArray ++ its2.toArray=(its ++ its2).toArray:=by simp
 rw [ea]
 exact ⟨.ref _,_,I.lnew (t':=s.toks) (r.append r2) (by rw [D9]; omega),rfl,q _ I.fresh⟩
theorem yN {α:Type} (xs:List α) (k:Nat):(List.replicate k xs).flatten.length=k * xs.length:=by
 induction k with
 | zero=>simp
 | succ k ih=>rw [FC,Gh,D9,ih,Nat.succ_mul,Nat.add_comm]
end
end L2
namespace Att
open PySem PySem.W PySem.Calls PyProof.Rows
theorem ju {P:Params}{h:Heap}:∀ (ns:List Int) (vs:List Value),WellAll P h vs (ns.map WData.int)→IntsAre vs ns:=by
 intro ns
 induction ns with
 | nil =>
  intro vs w
  rw [DL] at w
  cases w
  exact .nil
 | cons n ns ih =>
  intro vs w
  rw [DK] at w
  cases w with
  | cons a b =>
   cases a
   exact .cons _ _ (ih _ b)
theorem sZ {l:OpenLaw}{n:Nat} (hn:l.most=some n) {P:Params}{h:Heap}{args:List WData}{vals:List Value}
  (hpre:l.row.toRowW.claim.pre args=true) (hwl:WellAll P h vals args) :
  ∃ a vs ns,vals=[Value.ref a]∧args=[WData.list (ns.map WData.int)]∧h.get? a=some { cls:=.type "list",data:=.seq vs.toArray }∧IntsAre vs ns∧ns.length≤n:=by
 have hsh:WShape.hasAll [] args [.list .int]=true:=(pre_splitW hpre).1
 have hc:l.pre.holds [] { args:=args }=true:=(pre_splitW hpre).2
 obtain ⟨d,r,rfl,h1,h2⟩:=hasAllW_cons hsh
 obtain rfl:=hasAllW_nil h2
 obtain ⟨xs,rfl,h3⟩:=hasW_list h1
 obtain ⟨ns,rfl⟩:=items_int h3
 have hlen:ns.length≤n:=by
  unfold OpenLaw.pre at hc
  have h4:(WTm.not (.lt (.lit (.int (n:Int))) (.len (.arg 0)))).holds [] { args:=[.list (ns.map .int)] }=true:=by
   have h4:=(holds_andW hc).1
   rw [hn] at h4
   exact h4
  have h5:=condW_of h4 (w_not (w_lt w_lit (w_len_list (w_arg rfl))))
  rw [DU] at h5
  refine Nat.le_of_not_lt fun q=>?_
  have q':(n:Int) < ((ns.length:Nat):Int):=by omega
  first
   | (rw [Ec q'] at h5; exact absurd h5 (by decide))
   | (simp at h5; omega)
 cases hwl with
 | cons w1 w2 =>
  cases w2
  cases w1 with
  | list ho hall=>exact ⟨_,_,ns,rfl,rfl,ho,ju ns _ hall,hlen⟩
theorem tF (l:OpenLaw) (args:List WData):l.row.toRowW.claim.post args (.bool true) args=true :=
 postW_of (r:=l.row.toRowW) (X:=(true == true))
  (show WShape.has [] (.bool true) .bool=true by first | rfl | decide | simp [WShape.has,WShape.arms,WShape.armsAll])
  (show (WTm.eq .res (.lit (.bool true))).value [] { args:=args,res:=some (.bool true),after:=args }=some (.bool (true == true)) from w_eq_bool (w_res rfl) w_lit) rfl
end Att
namespace L2
open PySem PySem.Spec PyProof.Rows
theorem lv:∀ {vs:List Value}{ns:List Int},IntsAre vs ns→aT (ns.map V.int) vs
 | _,_,.nil=>.nil
 | _,_,.cons n t h=>.cons ⟨t,rfl⟩ (lv h)
def BG (H:Hp):Prop:=∀ b,H b=none∨∃ o xs,H b=some (.frz o (.lst xs))
theorem wz {P:Program}{w:World}{K:PySem.W.Frag}{mg mb:Str→Option Value}{CX:CXT}{k:Nat}{fa a:Addr}{fd:FuncData}{x:Str}{sp:Sp}{s₁:Shared}{vs:List Value}{ns:List Int}
  (KX:K.In s₁.heap) (hns:s₁.heap.Ns mainGlobals mg) (hb:s₁.heap.Ns builtinsNs mb) (hbb:∀ x:Str,x ≠ "__name__"→mb x=bootBuiltins x) (hlim:s₁.heap.NoLimit) (hg:s₁.gens=#[])
  (ha:s₁.heap.get? a=some { cls:=.type "list",data:=.seq vs.toArray }) (hi:IntsAre vs ns) (hl:ns.length≤sizeLine) (hr:cW k callerA)
  (F:∀ base:Heap,K.In base→base.Ns mainGlobals mg→br P w K mg base CX k fa fd [x] sp) (hbind:∀ (s:Shared) (u:Value),BindsTo s fd ⟨[u],[]⟩ [(x,u)])
  (hsp:∀ H:Hp,BG H→SqL K H a (ns.map V.int)→sp [.ref a] H (fun v _=>v=.bl true) fun _ _ _=>False)
  (hCX:∀ H e s',CX [] H s₁ (fun _ _ _=>False) e s'→False) :
  codeAny (model P w) callerA (.call (.ref fa) ⟨[.ref a],[]⟩) (fun r s'=>r=.ok (.ret (.bool true))∧OldK s₁.heap s'.heap∧s'.os=s₁.os∧AllBare s'.gens) s₁:=by
 have rv:=lv hi
 have lenV:=hi.length
 have core:∀ H:Hp,BG H→SqL K H a (ns.map V.int)→HOk P w H s₁.heap→(∀ b,H b ≠ none→b=a)→(H a ≠ none→K.lookup a=none) →
   codeAny (model P w) callerA (.call (.ref fa) ⟨[.ref a],[]⟩) (fun r s'=>r=.ok (.ret (.bool true))∧OldK s₁.heap s'.heap∧s'.os=s₁.os∧AllBare s'.gens) s₁:=by
  intro H hO hS hok hA hK
  have base_of:∀ {b:Addr}{o:Obj},s₁.heap.get? b=some o→H b=none→(nc s₁.heap H).get? b=some o:=fun e n=>wJ e n
  have noA:∀ {b:Addr}{o:Obj}{es:Array DictEntry}{ep:Nat},s₁.heap.get? b=some o→o.data=.dict es ep→H b=none:=fun {b o es ep} e d=>by
   cases q:H b with
   | none=>rfl
   | some u =>
    have e':b=a:=hA b (by rw [q]; simp)
    subst e'
    rw [ha] at e; cases e
    have d':Data.seq vs.toArray _=Data.dict es ep:=d
    cases d'
  have nsK:∀ {b:Addr}{m:Str→Option Value},s₁.heap.Ns b m→(nc s₁.heap H).Ns b m:=fun {b m} zz50_0=>by obtain ⟨o,es,ep,e,d,r⟩:=zz50_0; exact ⟨o,es,ep,base_of e (noA e d),d,r⟩
  have hKb:K.In (nc s₁.heap H):=fun b o e=>base_of (KX b o e) (by
   cases q:H b with
   | none=>rfl
   | some u =>
    have e':b=a:=hA b (by rw [q]; simp)
    subst e'
    rw [hK (by rw [q]; simp)] at e; cases e)
  have hM:Mod K mg (nc s₁.heap H):=⟨hKb,nsK hns,⟨mb,nsK hb,hbb⟩,let ⟨mc,h1,h2⟩:=hlim; ⟨mc,nsK h1,h2⟩⟩
  have e0:q8 P w K mg (nc s₁.heap H) callerA [] s₁ H:=⟨rfl,hM,fun b o e=>yH e,Nat.le_of_eq (um _ _),trivial,fun b hb=>absurd (show b ∈ ([]:List Addr) from hb) (by simp),hok,.of_eq hg⟩
  refine Fw ((F _ hKb (nsK hns)).run callerA [] s₁ H ⟨[.ref a],[]⟩ [.ref a] [.ref a] _ _ hr e0 (hbind s₁ (.ref a)) (.cons rfl .nil) (hsp H hO hS)) fun r s' h=>?_
  cases r with
  | error e=>exact (hCX H e s' h).elim
  | ok fl =>
   cases fl with
   | next=>exact False.elim h
   | brk=>exact False.elim h
   | cont=>exact False.elim h
   | ret u =>
    obtain ⟨v,H',os,bare,un,hok',r',q⟩:=h
    have q':v=.bl true:=q
    subst q'
    obtain rfl:u=Value.bool true:=r'
    refine ⟨rfl,OldK.of_keep fun b o e=>?_,os,bare⟩
    cases q:H b with
    | none=>exact un.keep b o e q (by intro z; exact absurd (show b ∈ ([]:List Addr) from z) (by simp)) (by simp)
    | some u =>
     rcases hO b with z | ⟨ob,xs,z⟩
     ·rw [q] at z; cases z
     ·have z2:=un.frzs b ob _ z
      obtain ⟨e1,_⟩:=hok b _ z
      obtain ⟨e2,_⟩:=hok' b _ z2
      rw [e] at e1; cases e1
      exact e2
 cases hk:K.lookup a with
 | some o =>
  have e:=KX a o hk
  rw [ha] at e
  cases e
  refine core (fun _=>none) (fun _=>.inl rfl) (.inr ⟨_,vs.toArray,_,hk,rfl,rfl,rfl,by rw [DY,lenV]; exact hl,by simpa using rv⟩) (fun b u z=>by have z':(none:Option HO)=some u:=z; cases z') (fun b z=>absurd rfl z) fun z=>absurd rfl z
 | none =>
  refine core (fun b=>if b=a then some (.frz { cls:=.type "list",data:=.seq vs.toArray } (.lst (ns.map V.int))) else none) (fun b=>?_) (.inl (.inr ⟨{ cls:=.type "list",data:=.seq vs.toArray },if_pos rfl⟩)) (fun b u z=>?_) (fun b z=>?_) fun _=>hk
  ·by_cases hb:b=a
   ·exact .inr ⟨_,_,if_pos hb⟩
   ·exact .inl (if_neg hb)
  ·by_cases hb:b=a
   ·have z':=(if_pos hb).symm.trans z
    cases z'
    subst hb
    exact ⟨ha,by rw [DU]; exact hl,vs,_,rv,ha⟩
   ·have z':=(if_neg hb).symm.trans z
    cases z'
  ·by_cases hb:b=a
   ·exact hb
   ·exact absurd (if_neg hb) z
def na (s:Stmt) (j:Nat):Stmt:=match s with
 | .ClassDef _ _ _ body _ _ _ _ _ _ _=>body.getD j (.Pass ⟨0,0,0,0⟩)
 | _=>.Pass ⟨0,0,0,0⟩
def jN (s:Stmt):Arguments:=match s with
 | .FunctionDef _ a _ _ _ _ _ _ _ _=>a
 | _=>{ posonlyargs:=[],args:=[],vararg:=none,kwonlyargs:=[],kw_defaults:=[],kwarg:=none,defaults:=[] }
def dO (s:Stmt):List Stmt:=match s with
 | .FunctionDef _ _ b _ _ _ _ _ _ _=>b
 | _=>[]
def ak (s:Stmt):Scope:=match s with
 | .FunctionDef _ _ _ _ _ _ sc _ _ _=>sc
 | _=>{ kind:=.function,names:=[],isGenerator:=false,isCoroutine:=false }
abbrev CX0:CXT:=fun _ _ _ _ _ _=>False
abbrev E0:XK:=fun _ _ _=>False
theorem Ct {X:Cx}:qU CX0 X E0:=fun _ _ _ _ _ _ _ h=>h.elim
structure Fun (K:PySem.W.Frag) (x qual:Str) (st:Stmt) (f:Addr) (fd:FuncData):Prop where
 ex:∃ (oc:Value) (od:Option Addr) (kV doc pm:Value) (an:Option Addr) (cdv ct:Value) (osl:Array (Option Value)),
  fd=PySem.W.fnOf x qual (jN st) (dO st) (ak st) .none kV doc pm an cdv ct∧K.lookup f=some ⟨oc,od,.func fd,osl⟩∧PySem.W.codeIn K cdv qual=true
 kp:PySem.W.keepIn K (.ref f)=true
section
variable {P:Program}{w:World}{K:PySem.W.Frag}{mg:Str→Option Value}{base:Heap}
theorem Fun.ok {x qual:Str}{st:Stmt}{f:Addr}{fd:FuncData}{N ps:List Str}{k:Nat}{sp:Sp} (F:Fun K x qual st f fd) (S:aL N ps (ak st)) (len:∀ vs H Q E,sp vs H Q E→vs.length=ps.length)
  (hbody:∀ (cdv:Value) (A:Around) (outer:List Env) (s:Shared) (H:Hp) (vs:List V) (Q:VK) (E:XK),cW k (A.deeper (envOfC qual (ak st) s.heap.objs.size f cdv))→sp vs H Q E →
   ∃ t,PSs (jv CX0 P w K mg base N qual (ak st) f cdv A outer s H E).nox (dO st) t∧t { nx:=fun _ H'=>Q .non H',rt:=Q } (start N vs) H):br P w K mg base CX0 (k + 1) f fd ps sp:=by
 obtain ⟨oc,od,kV,doc,pm,an,cdv,ct,osl,rfl,lk,hcd⟩:=F.ex
 refine zL lk hcd S len fun A outer s H vs Q E hr hsp=>?_
 obtain ⟨t,h,q⟩:=hbody cdv A outer s H vs Q E hr hsp
 exact ⟨t,h.nox,q⟩
theorem Fun.binds {x qual:Str}{st:Stmt}{f:Addr}{fd:FuncData}{ps:List Str} (F:Fun K x qual st f fd)
  (h:∀ (kV doc pm:Value) (an:Option Addr) (cdv ct:Value) (us:List Value),us.length=ps.length→bindArgs (PySem.W.fnOf x qual (jN st) (dO st) (ak st) .none kV doc pm an cdv ct) ⟨us,[]⟩=pure (ps.zip us)):bz K fd ps []:=by
 obtain ⟨oc,od,kV,doc,pm,an,cdv,ct,osl,rfl,lk,hcd⟩:=F.ex
 exact .all (h kV doc pm an cdv ct)
end
section
variable {X:Cx}
theorem pv (i:Nat) {x:Str}{pos:Pos} (hN:X.N[i]? = some x:=by rfl) (hv:Vis X.env.scope x:=by first | exact Or.inl rfl | exact Or.inr (Or.inl rfl) | exact Or.inr (Or.inr rfl)) (hd:(x == ("__debug__" : Str))=false:=by decide)
  (hcd:(x == ("__classdict__" : Str))=false:=by decide):PE X (.Name x pos) (my i):=ki hN hv hd hcd
end
theorem oW {A B:Prop} (h:B):if false=true then A else B:=by
 rw [if_neg D6]
 exact h
theorem oV {A B:Prop} (h:A):if true=true then A else B:=by
 rw [if_pos rfl]
 exact h
section
variable {κ:Type} [DecidableEq κ]
def eL (kvs:List (κ×V)) (k:κ):Option V:=(kvs.find? fun kv=>decide (kv.1=k)).map (·.2)
def n4 (kvs:List (κ×V)) (k:κ) (v:V):List (κ×V) :=
 if (kvs.any fun kv=>decide (kv.1=k))=true then kvs.map (fun kv=>if kv.1=k then (kv.1,v) else kv) else kvs ++ [(k,v)]
theorem nK {p:κ×V}{r:List (κ×V)} {k:κ} (e:p.1=k):eL (p :: r) k=some p.2:=by simp [eL,Fq,e]
theorem nL {p:κ×V}{r:List (κ×V)} {k:κ} (e:¬ p.1=k):eL (p :: r) k=eL r k:=by simp [eL,Fq,e]
theorem oK (kvs:List (κ×V)) (k:κ) (v:V):(n4 kvs k v).length≤kvs.length + 1:=by
 unfold n4
 split
 ·rw [DU]; omega
 ·rw [D9,DI,DJ]; omega
theorem d9.isSome_eq {o:Option V}{u:Option Value} (r:d9 o u):o.isSome=u.isSome:=by
 cases o with
 | none=>cases u with
  | none=>rfl
  | some _=>exact (show False from r).elim
 | some _=>cases u with
  | none=>exact (show False from r).elim
  | some _=>rfl
theorem d9.getD {o:Option V}{u:Option Value}{d:V}{d':Value} (r:d9 o u) (rd:aX d d'):aX (o.getD d) (u.getD d'):=by
 cases o with
 | none=>cases u with
  | none=>exact rd
  | some _=>exact (show False from r).elim
 | some _=>cases u with
  | none=>exact (show False from r).elim
  | some _=>exact r
theorem KV.val {kvs:List (κ×V)} {vs:List (κ×Value)} (r:KV kvs vs) (k:κ):d9 (eL kvs k) (valueAt vs k):=by
 unfold KV at r
 induction r with
 | nil=>exact True.intro
 | @cons p q ps qs h t ih =>
  obtain ⟨h1,h2⟩:=h
  by_cases e:p.1=k
  ·have e':q.1=k:=h1.symm.trans e
   have b:valueAt (q :: qs) k=some q.2:=by simp [valueAt,Fq,e']
   rw [nK e,b]; exact h2
  ·have e':¬ q.1=k:=fun z=>e (h1.trans z)
   have b:valueAt (q :: qs) k=valueAt qs k:=by simp [valueAt,Fq,e']
   rw [nL e,b]; exact ih
theorem KV.any {kvs:List (κ×V)} {vs:List (κ×Value)} (r:KV kvs vs) (k:κ):(kvs.any fun kv=>decide (kv.1=k))=vs.any fun kv=>decide (kv.1=k):=by
 unfold KV at r
 induction r with
 | nil=>rfl
 | cons h t ih=>rw [FI,FI,ih,h.1]
theorem KV.repl {kvs:List (κ×V)} {vs:List (κ×Value)} (r:KV kvs vs) (k:κ) {y:V}{u:Value} (ry:aX y u) :
  KV (kvs.map fun kv=>if kv.1=k then (kv.1,y) else kv) (vs.map fun kv=>if kv.1=k then (kv.1,u) else kv):=by
 unfold KV at r ⊢
 induction r with
 | nil=>exact .nil
 | @cons p q ps qs h t ih =>
  rw [DK,DK]
  refine .cons ?_ ih
  obtain ⟨h1,h2⟩:=h
  by_cases e:p.1=k
  ·rw [if_pos e,if_pos (h1.symm.trans e)]; exact ⟨h1,ry⟩
  ·rw [if_neg e,if_neg (fun z=>e (h1.trans z))]; exact ⟨h1,h2⟩
theorem KV.put {kvs:List (κ×V)} {vs:List (κ×Value)} (r:KV kvs vs) (k:κ) {y:V}{u:Value} (ry:aX y u):KV (n4 kvs k y) (stored vs k u):=by
 unfold n4 stored
 rw [r.any k]
 by_cases e:(vs.any fun kv=>decide (kv.1=k))=true
 ·rw [if_pos e,if_pos e]; exact r.repl k ry
 ·rw [if_neg e,if_neg e]; exact Paired.snoc r ⟨rfl,ry⟩
theorem KV.keys {kvs:List (κ×V)} {vs:List (κ×Value)} (r:KV kvs vs):kvs.map (·.1)=vs.map (·.1):=by
 unfold KV at r
 induction r with
 | nil=>rfl
 | cons h t ih=>rw [DK,DK,ih,h.1]
theorem KV.length {kvs:List (κ×V)} {vs:List (κ×Value)} (r:KV kvs vs):kvs.length=vs.length:=Paired.length r
end
theorem oU {P:Program}{w:World}{k:Key}{u:Value} (r:aX (kV k) u):(bP P w).is k u=true:=by
 match k,r with
 | .inl (some i),r=>obtain ⟨t,e⟩:=(show ∃ t,u=Value.int i t from r); subst e; exact oB P w i t
 | .inl none,r=>cases (show u=Value.none from r); exact uh
 | .inr x,r=>obtain ⟨t,e⟩:=(show ∃ t,u=Value.str x t from r); subst e; exact oA P w x t
theorem lZ {P:Program}{w:World}:∀ {ks:List Key}{us:List Value},aT (ks.map kV) us→ItemsAre (bP P w) ks us
 | [],_,r=>by rw [DL] at r; cases r; exact .nil
 | k :: ks,_,r=>by
  rw [DK] at r
  cases r with
  | cons h t=>exact .cons (oU h) (lZ t)
abbrev KT (H:Hp):List (List Key×V)→List (List Key×Addr×Value)→Prop:=Paired fun p q=>p.1=q.1∧H q.2.1=some (.tup (p.1.map kV))∧aX p.2 q.2.2
theorem KT.val {H:Hp}{kvs:List (List Key×V)} {xs:List (List Key×Addr×Value)} (r:KT H kvs xs) (k:List Key):d9 (eL kvs k) ((atKey xs k).map (·.2)):=by
 induction r with
 | nil=>exact True.intro
 | @cons p q ps qs h t ih =>
  obtain ⟨h1,_,h2⟩:=h
  by_cases e:p.1=k
  ·have e':q.1=k:=h1.symm.trans e
   have b:atKey (q :: qs) k=some q.2:=by simp [atKey,Fq,e']
   rw [nK e,b]; exact h2
  ·have e':¬ q.1=k:=fun z=>e (h1.trans z)
   have b:atKey (q :: qs) k=atKey qs k:=by simp [atKey,Fq,e']
   rw [nL e,b]; exact ih
section
variable {P:Program}{w:World}{H:Hp}{h:Heap}{a:Addr}
theorem zv {u:HO} (ok:HOk P w H h) (e:Rd H a u):ce P w H h a u:=e.ok ok
theorem iA {kvs:List (Key×V)} (ok:HOk P w H h) (e:Rd H a (.dK kvs)):kvs.length≤sizeLine∧(a == sysModules)=false∧∃ vs,KV kvs vs∧h.DictOf (bP P w) a vs :=
 show ce P w H h a (.dK kvs) from zv ok e
theorem CP {kvs:List (Key×V)} (ok:HOk P w H h) (e:H a=some (.dK kvs)):kvs.length≤sizeLine∧(a == sysModules)=false∧∃ vs,KV kvs vs∧h.DictOf (bP P w) a vs:=iA ok (.inl e)
theorem m5 {ks:List Key} (ok:HOk P w H h) (e:H a=some (.tup (ks.map kV))):(tupleKind (bP P w)).is h ks a:=by
 obtain ⟨_,its,r,o,h1,h2,n,h3⟩:=(show ce P w H h a (.tup (ks.map kV)) from ok a _ e)
 exact ⟨o,its.toArray,n,h1,h2,h3,by simpa using lZ r⟩
theorem sA {kvs:List (List Key×V)} (ok:HOk P w H h) (e:Rd H a (.dT kvs)):kvs.length≤sizeLine∧(a == sysModules)=false ∧
  ∃ xs,KT H kvs xs∧h.DictOfH (tupleKind (bP P w)) a xs:=by
 obtain ⟨z,y,xs,r,o,es,ep,h1,h2,h3,h4,h5⟩:=(show ce P w H h a (.dT kvs) from zv ok e)
 refine ⟨z,y,xs,r,o,es,ep,h1,h2,h3,h4,fun x hx=>?_,h5⟩
 have all:∀ {l:List (List Key×V)} {m:List (List Key×Addr×Value)},KT H l m→∀ x ∈ m,(tupleKind (bP P w)).is h x.1 x.2.1:=by
  intro l m q
  induction q with
  | nil=>intro x hx; exact nomatch hx
  | @cons p q ps qs hq t ih =>
   intro x hx
   rcases List.mem_cons.mp hx with e | hx
   ·subst e
    exact m5 ok (by rw [← hq.1]; exact hq.2.1)
   ·exact ih x hx
 exact all r x hx
end
def pP (H:Hp) (a:Addr) (y:V) (r:Option V):Prop :=
 (∃ kvs k,Rd H a (.dK kvs)∧y=kV k∧r=eL kvs k)∨∃ kvs k b,Rd H a (.dT kvs)∧y=.ref b∧H b=some (.tup (k.map kV))∧r=eL kvs k
section
variable {X:Cx}{pins:List (Addr×Obj)} {σ:St}{H:Hp}{s:Shared}{a:Addr}{y v:V}{u r:Value}{o:Option V}{A:Around}{E:Value→Shared→Prop}
theorem Inv.big (I:Inv X pins σ H s):sysModules < s.heap.objs.size:=by
 have h:mainGlobals < s.heap.objs.size:=(I.mod.glob.keeps I.bk).lt
 exact Nat.lt_trans (by decide) h
theorem uE {Q:Value→Shared→Prop} (hu:A.units + 1 < cLine) (I:Inv X pins σ H s) (g:pP H a y (some v)) (ry:aX y u) (h:∀ w' s',Inv X pins σ H s'→aX v w'→Q w' s') :
  wpAny (model X.prog X.w) A (getItem (.ref a) u) Q E s:=by
 rcases g with ⟨kvs,k,e,ey,l⟩ | ⟨kvs,k,b,e,ey,eb,l⟩
 ·subst ey
  obtain ⟨z,hd,vs,rel,dd⟩:=iA I.hok e
  obtain ⟨w',hw,rw'⟩:=d9.some_of (v:=v) (o:=valueAt vs k) (by rw [l]; exact rel.val k)
  exact wpAny_getItem_of (oU ry) dd.mapOf hw (h w' _ (I.tok _) rw')
 ·subst ey
  cases (show u=Value.ref b from ry)
  obtain ⟨z,hd,xs,rel,dd⟩:=sA I.hok e
  obtain ⟨w',hw,rw'⟩:=d9.some_of (v:=v) (o:=(atKey xs k).map (·.2)) (by rw [l]; exact rel.val k)
  obtain ⟨p,hp,hp2⟩:=Option.map_eq_some_iff.mp hw
  refine wpAny_getItem_heap (GO hu) (m5 I.hok eb) dd hp ?_
  rw [hp2]
  exact h w' _ (I.tok _) rw'
theorem Dy {Q:Value→Shared→Prop} (hu:A.units + 1 < cLine) (I:Inv X pins σ H s) (g:pP H a y o) (ry:aX y u) (h:∀ s',Inv X pins σ H s'→Q (.bool o.isSome) s') :
  wpAny (model X.prog X.w) A (compareOp .In u (.ref a)) Q E s:=by
 rcases g with ⟨kvs,k,e,ey,l⟩ | ⟨kvs,k,b,e,ey,eb,l⟩
 ·subst ey
  obtain ⟨z,hd,vs,rel,dd⟩:=iA I.hok e
  refine wpAny_in_of (oU ry) hd dd.mapOf ?_
  rw [← (rel.val k).isSome_eq,← l]
  exact h _ (I.tok _)
 ·subst ey
  cases (show u=Value.ref b from ry)
  obtain ⟨z,hd,xs,rel,dd⟩:=sA I.hok e
  refine wpAny_in_heap (GO hu) (m5 I.hok eb) hd dd ?_
  have q:=(rel.val k).isSome_eq
  rw [Option.isSome_map] at q
  rw [← q,← l]
  exact h _ (I.tok _)
theorem ze {Q:Value→Shared→Prop} (hu:A.units + 1 < cLine) (I:Inv X pins σ H s) (g:pP H a y o) (ry:aX y u) (h:∀ s',Inv X pins σ H s'→Q (.bool (!o.isSome)) s') :
  wpAny (model X.prog X.w) A (compareOp .NotIn u (.ref a)) Q E s:=by
 rcases g with ⟨kvs,k,e,ey,l⟩ | ⟨kvs,k,b,e,ey,eb,l⟩
 ·subst ey
  obtain ⟨z,hd,vs,rel,dd⟩:=iA I.hok e
  refine wpAny_notIn_of (oU ry) hd dd.mapOf ?_
  rw [← (rel.val k).isSome_eq,← l]
  exact h _ (I.tok _)
 ·subst ey
  cases (show u=Value.ref b from ry)
  obtain ⟨z,hd,xs,rel,dd⟩:=sA I.hok e
  refine wpAny_notIn_heap (GO hu) (m5 I.hok eb) hd dd ?_
  have q:=(rel.val k).isSome_eq
  rw [Option.isSome_map] at q
  rw [← q,← l]
  exact h _ (I.tok _)
theorem zd {h':Heap}{t':Nat}{ob:HO} (I:Inv X pins σ H s) (mu:Mut (H a)) (hs:Heap.SameBut a s.heap h') (he:∃ q,h'.get? a=some q) (new:ce X.prog X.w (upd H a ob) h' a ob) :
  Inv X pins σ (upd H a ob) { s with heap:=h',toks:=t' } :=
 I.write (x:=a) (e:=a) mu (.inl rfl) (fun b q hb z=>(hs.2 b hb).trans z) he new
theorem BA {P:Program}{w:World}{H':Hp}{h':Heap}{kvs:List (Key×V)} {vs:List (Key×Value)} (z:kvs.length≤sizeLine) (hd:(a == sysModules)=false) (rel:KV kvs vs) (dd:h'.DictOf (bP P w) a vs) :
  ce P w H' h' a (.dK kvs):=⟨z,hd,vs,rel,dd⟩
end
section
variable {X:Cx}{pins:List (Addr×Obj)} {σ:St}{H:Hp}{s:Shared}{a:Addr}{kvs:List (Key×V)} {k:Key}{u:Value}{A:Around}{E:Value→Shared→Prop}
theorem CQ {Q:Value→Shared→Prop} (I:Inv X pins σ H s) (e:Rd H a (.dK kvs)) (h:∀ t s',Inv X pins σ H s'→Q (.int kvs.length t) s'):wpAny (model X.prog X.w) A (call (.builtin "len") [.ref a]) Q E s:=by
 obtain ⟨z,hd,vs,rel,dd⟩:=iA I.hok e
 refine call_len_dict hd dd (by rw [← rel.length]; rw [Gc] at z; omega) ?_
 rw [← rel.length]
 exact h _ _ (I.tok _)
end
def C0 (i:Expr):Prop:=∀ ov iv,subscripted i false ov iv=operate [ov,iv] (getItem ov iv)
theorem xR {prog:Program}{w:World}{A:Around}{E:Value→Shared→Prop}{s:Shared}{env:Env}{value slice:Expr}{pos:Pos}{T id:String}{Q:Value→Shared→Prop}
  (hl:typeLookup (.type T) "__getitem__" = pure (some (.builtin id))) (hs:C0 slice)
  (h:wpAny (model prog w) A (eval value env) (fun o s₁=>wpAny (model prog w) A (eval slice env) (fun i s₂=>s₂.TypeIs o T∧wpAny (model prog w) A (getItem o i) Q E s₂) E s₁) E s) :
  wpAny (model prog w) A (eval (.Subscript value slice pos) env) Q E s:=by
 refine Subscript_ (Eo h (fun o s₁ h₁=>Eo h₁ (fun i s₂ h₂=>?_) fun _ _ x=>x) fun _ _ x=>x)
 obtain ⟨hT,h₂⟩:=h₂
 unfold subscriptTail
 refine DP ?_
 rw [getitemInPython_of_ne hT.not_modules]
 refine DP (wpAny_specialOf hT hl ?_)
 have fin:wpAny (model prog w) A (subscripted slice false o i) (fun r s₃=>wpAny (model prog w) A (letTemporaryGo value o r >>= fun _=>pure r) Q E s₃) E s₂:=by
  rw [hs o i]
  exact wpAny_operating (Eo h₂ (fun r s₃ h₃=>DP (wpAny_letTemporaryGo (DS h₃))) fun _ _ x=>x)
 first
  | exact DS (DP fin)
  | exact DP (DS (DP fin))
  | exact DP fin
theorem pA {X:Cx}{pins:List (Addr×Obj)} {σ:St}{H:Hp}{s:Shared}{a:Addr}{y:V}{o:Option V} (I:Inv X pins σ H s) (g:pP H a y o):s.TypeIs (.ref a) "dict" := by
 rcases g with ⟨kvs,k,e,_,_⟩ | ⟨kvs,k,b,e,_,_,_⟩
 ·obtain ⟨_,_,vs,_,dd⟩:=iA I.hok e
  exact dd.typeIs
 ·obtain ⟨_,_,xs,_,dd⟩:=sA I.hok e
  exact dd.typeIs
def B3 (td ty:TE):TE:=fun σ H Q=>td σ H fun x H1=>ty σ H1 fun y H2=>∃ a v,x=.ref a∧pP H2 a y (some v)∧Q v H2
def B0 (ty td:TE):TE:=fun σ H Q=>ty σ H fun y H1=>td σ H1 fun x H2=>∃ a o,x=.ref a∧pP H2 a y o∧Q (.bl o.isSome) H2
def rl (ty td:TE):TE:=fun σ H Q=>ty σ H fun y H1=>td σ H1 fun x H2=>∃ a o,x=.ref a∧pP H2 a y o∧Q (.bl (!o.isSome)) H2
section
variable {X:Cx}{o i e value:Expr}{pos pos' tpos:Pos}{td ty tv:TE}
theorem yy (hu:X.A.units + 1 < cLine) (ho:PE X o td) (hi:PE X i ty) (hs:C0 i):PE X (.Subscript o i pos) (B3 td ty):=by
 intro pins s σ H Q I h
 refine xR PySem.F.slot_dict_getitem.lookup hs (thn (ho pins s σ H _ I h) fun u s1 ⟨x,H1,I1,rx,q1⟩=>thn (hi pins s1 σ H1 _ I1 q1) fun iv s2 zz52_0=>?_)
 obtain ⟨y,H2,I2,ry,a,v,ex,g,q2⟩:=zz52_0
 subst ex
 obtain rfl:u=Value.ref a:=rx
 exact ⟨pA I2 g,uE hu I2 g ry fun w' s3 I3 rw'=>⟨v,H2,I3,rw',q2⟩⟩
theorem AK (hu:X.A.units + 1 < cLine) (hi:PE X i ty) (ho:PE X o td):PC X .In i o (B0 ty td):=by
 intro pins s σ H Q I h
 refine thn (hi pins s σ H _ I h) fun iv s1 ⟨y,H1,I1,ry,q1⟩=>thn (ho pins s1 σ H1 _ I1 q1) fun u s2 zz54_0=>?_
 obtain ⟨x,H2,I2,rx,a,ov,ex,g,q2⟩:=zz54_0
 subst ex
 obtain rfl:u=Value.ref a:=rx
 exact Dy hu I2 g ry fun s3 I3=>⟨.bl ov.isSome,H2,I3,rfl,q2⟩
theorem tK (hu:X.A.units + 1 < cLine) (hi:PE X i ty) (ho:PE X o td):PC X .NotIn i o (rl ty td):=by
 intro pins s σ H Q I h
 refine thn (hi pins s σ H _ I h) fun iv s1 ⟨y,H1,I1,ry,q1⟩=>thn (ho pins s1 σ H1 _ I1 q1) fun u s2 zz56_0=>?_
 obtain ⟨x,H2,I2,rx,a,ov,ex,g,q2⟩:=zz56_0
 subst ex
 obtain rfl:u=Value.ref a:=rx
 exact ze hu I2 g ry fun s3 I3=>⟨.bl (!ov.isSome),H2,I3,rfl,q2⟩
end
theorem pz {P:Program}{w:World}{H:Hp} (h:Heap) (hb:sysModules < h.objs.size):ce P w H (h.push { cls:=.type "dict",data:=.dict #[] }) h.objs.size (.dK []) :=
 ⟨E_ _,beq_eq_false_iff_ne.mpr (Ne.symm (D5 hb)),[],.nil,Heap.DictOf.new h⟩
def zW:TE:=fun _ H Q=>∀ p,H p=none→Q (.ref p) (upd H p (.dK []))
section
variable {X:Cx}{pos:Pos}
theorem vX:PE X (.Dict [] [] pos) zW:=fun pins s σ H Q I h =>
 wpAny_Dict_empty ⟨.ref s.heap.objs.size,_,I.laid (a:=s.heap.objs.size) (o:=.dK []) (t':=s.toks) (fun _ _ q=>DQ _ q) (DZ _) (pz s.heap I.big),rfl,h _ (I.hok.fresh (DZ _))⟩
end
def pX:List (TE×TE)→St→Hp→(List (V×V)→Hp→Prop)→Prop
 | [],_,H,Q=>Q [] H
 | (tk,tv) :: r,σ,H,Q=>tk σ H fun x H1=>tv σ H1 fun y H2=>pX r σ H2 fun ps H3=>Q ((x,y) :: ps) H3
abbrev VV:List (V×V)→List (Value×Value)→Prop:=Paired fun p q=>aX p.1 q.1∧aX p.2 q.2
def PPs (X:Cx) (pos:Pos) (keys:List (Option Expr)) (values:List Expr) (trs:List (TE×TE)):Prop :=
 ∀ (pins:List (Addr×Obj)) (s:Shared) (σ:St) (H:Hp) (Q:List (V×V)→Hp→Prop),Inv X pins σ H s→pX trs σ H Q →
  wpAny (model X.prog X.w) X.A (evalPairs (pairTrees keys values X.env pos)) (fun vs s'=>∃ ps H',Inv X pins σ H' s'∧VV ps vs∧Q ps H') X.xe s
theorem yk {X:Cx}{pos:Pos}:PPs X pos [] [] []:=fun pins s σ H Q I h=>pairTrees_nil_walk ⟨[],H,I,.nil,h⟩
theorem vK {X:Cx}{pos:Pos}{k v:Expr}{ks:List (Option Expr)} {vs:List Expr}{tk tv:TE}{trs:List (TE×TE)} (hk:PE X k tk) (hv:PE X v tv) (hr:PPs X pos ks vs trs) :
  PPs X pos (some k :: ks) (v :: vs) ((tk,tv) :: trs):=fun pins s σ H Q I h =>
 pairTrees_cons_walk (thn (hk pins s σ H _ I h) fun u s1 ⟨x,H1,I1,rx,q1⟩=>thn (hv pins s1 σ H1 _ I1 q1) fun w2 s2 ⟨y,H2,I2,ry,q2⟩ =>
  thn (hr pins s2 σ H2 _ I2 q2) fun ws s3 zz59_0=>by obtain ⟨ps,H3,I3,rel,q3⟩:=zz59_0; exact ⟨(x,y) :: ps,H3,I3,.cons ⟨rx,ry⟩ rel,q3⟩)
def kq (kvs more:List (Key×V)):List (Key×V):=more.foldl (fun acc kv=>n4 acc kv.1 kv.2) kvs
theorem KV.merge:∀ {more:List (Key×V)} {rs:List (Key×Value)} {kvs:List (Key×V)} {vs:List (Key×Value)},KV more rs→KV kvs vs→KV (kq kvs more) (merged vs rs):=by
 intro more rs kvs vs r
 unfold KV at r
 induction r generalizing kvs vs with
 | nil=>intro q; exact q
 | @cons p q ps qs h t ih =>
  intro r0
  have e:KV (n4 kvs p.1 p.2) (stored vs q.1 q.2):=by
   have:=r0.put p.1 h.2
   rw [← h.1]; exact this
  exact ih e
theorem gM:∀ (more kvs:List (Key×V)),(kq kvs more).length≤kvs.length + more.length
 | [],kvs=>by show kvs.length≤kvs.length + 0; omega
 | p :: r,kvs=>by
  have h1:=gM r (n4 kvs p.1 p.2)
  have h2:=oK kvs p.1 p.2
  show (kq (n4 kvs p.1 p.2) r).length≤_
  rw [DI]; omega
theorem kU {P:Program}{w:World}:∀ {kvs:List (Key×V)} {ws:List (Value×Value)},VV (kvs.map fun kv=>(kV kv.1,kv.2)) ws→∃ rs,Carries (bP P w) ws rs∧KV kvs rs
 | [],_,r=>by rw [DL] at r; cases r; exact ⟨[],True.intro,.nil⟩
 | p :: kvs,_,r=>by
  rw [DK] at r
  cases r with
  | @cons a b as bs h t =>
   obtain ⟨rs,c,q⟩:=kU (P:=P) (w:=w) t
   obtain ⟨b1,b2⟩:=b
   exact ⟨(p.1,b2) :: rs,⟨oU h.1,rfl,c⟩,.cons ⟨rfl,h.2⟩ q⟩
def BZ (trs:List (TE×TE)):TE:=fun σ H Q=>∀ p,H p=none→pX trs σ (upd H p (.dK [])) fun ps H2=>H2 p=some (.dK [])∧∃ kvs:List (Key×V),ps=kvs.map (fun kv=>(kV kv.1,kv.2))∧kvs.length≤15∧Q (.ref p) (upd H2 p (.dK (kq [] kvs)))
theorem yx {X:Cx}{pos:Pos}{keys:List (Option Expr)} {values:List Expr}{trs:List (TE×TE)} (h:PPs X pos keys values trs) (hall:keys.all (·.isSome)=true) (hl:keys.length=values.length) (h0:keys ≠ [])
  (h15:keys.length≤15):PE X (.Dict keys values pos) (BZ trs):=by
 intro pins s σ H Q I q
 have hn:=I.hok.fresh (DZ s.heap.objs.size)
 have I1:=I.laid (a:=s.heap.objs.size) (o:=.dK []) (h':=s.heap.push { cls:=.type "dict",data:=.dict #[] }) (t':=s.toks) (fun _ _ q=>DQ _ q) (DZ _) (pz s.heap I.big)
 refine wpAny_Dict_walk (knd:=bP X.prog X.w) hall hl h0 h15 (thn (h pins _ σ _ _ I1 (q _ hn)) fun ws s2 zz60_0=>?_)
 obtain ⟨ps,H2,I2,rel,e,kvs,ep,lk,q2⟩:=zz60_0
 subst ep
 obtain ⟨rs,c,rk⟩:=kU (P:=X.prog) (w:=X.w) rel
 obtain ⟨z,hd,vs0,r0,dd⟩:=CP I2.hok e
 cases r0
 refine ⟨rs,c,dd,fun h' dd' hs=>⟨.ref s.heap.objs.size,_,?_,rfl,q2⟩⟩
 have hz:(kq [] kvs).length≤sizeLine:=by
  have h1:=gM kvs []
  rw [DJ] at h1
  rw [Gc]; omega
 have he:∃ q,h'.get? s.heap.objs.size=some q:=let ⟨q,_,_,hq,_⟩:=dd'; ⟨q,hq⟩
 exact zd I2 (by rw [e]; exact True.intro) hs he (BA hz hd (rk.merge .nil) dd')
end L2
set_option maxHeartbeats 4000000
namespace L2
open PySem PySem.Spec PyProof.Rows
def gO (env:Env):List (Str×NameKind)→List (Str×Addr)→List (Str×Addr)
 | [],acc=>acc
 | p :: r,acc=>gO env r (if p.2=NameKind.free then (p.1,(env.cells.lookup p.1).getD 0) :: acc else acc)
theorem kR {env:Env} (body:Str×NameKind→List (Str×Addr)→Sem (ForInStep (List (Str×Addr))))
  (hb:∀ x cs,(x.2=NameKind.free→(env.cells.lookup x.1).isSome=true)→body x cs=pure (ForInStep.yield (if x.2=NameKind.free then (x.1,(env.cells.lookup x.1).getD 0) :: cs else cs))) :
  ∀ (l:List (Str×NameKind)) (acc:List (Str×Addr)),(∀ x ∈ l,x.2=NameKind.free→(env.cells.lookup x.1).isSome=true)→(forIn l acc body:Sem (List (Str×Addr)))=pure (gO env l acc)
 | [],acc,_=>by rw [List.forIn_nil]; rfl
 | x :: l,acc,h=>by
  rw [List.forIn_cons,hb x acc (h x D3),pure_bind]
  exact kR body hb l _ fun y hy=>h y (D0 _ hy)
theorem sG {scope:Scope}{env:Env} (h:∀ x ∈ scope.names,x.2=NameKind.free→(env.cells.lookup x.1).isSome=true):closureFor scope env=pure (gO env scope.names []):=by
 simp only [closureFor]
 rw [kR (env:=env) _ ?_ scope.names [] h]
 ·rfl
 ·intro x cs hx
  obtain ⟨n,k⟩:=x
  by_cases hk:k=NameKind.free
  ·subst hk
   obtain ⟨c,hc⟩:=Option.isSome_iff_exists.mp (hx rfl)
   have hc':env.cells.lookup n=some c:=hc
   simp [cellOf,hc']
  ·have e:(k == NameKind.free)=false:=by simpa using hk
   simp [e,hk]
theorem kS {env:Env}:∀ (l:List (Str×NameKind)) (acc:List (Str×Addr)) (x:Str) (c:Addr),(∀ y ∈ l,y.2=NameKind.free→(env.cells.lookup y.1).isSome=true) →
  (gO env l acc).lookup x=some c→acc.lookup x=some c∨env.cells.lookup x=some c
 | [],acc,x,c,_,h=>.inl h
 | p :: l,acc,x,c,hs,h=>by
  rcases kS l _ x c (fun y hy=>hs y (D0 _ hy)) h with q | q
  ·by_cases hk:p.2=NameKind.free
   ·rw [if_pos hk,EM] at q
    cases hx:x == p.1 with
    | false=>rw [hx] at q; exact .inl q
    | true =>
     rw [hx] at q
     have ex:x=p.1:=by simpa using hx
     obtain ⟨c',hc⟩:=Option.isSome_iff_exists.mp (hs p D3 hk)
     rw [hc] at q
     right
     rw [ex,hc]
     exact q
   ·rw [if_neg hk] at q; exact .inl q
  ·exact .inr q
theorem kT {env:Env}:∀ (l:List (Str×NameKind)) (acc:List (Str×Addr)) (x:Str),(acc.lookup x).isSome=true→((gO env l acc).lookup x).isSome=true
 | [],acc,x,h=>h
 | p :: l,acc,x,h=>by
  refine kT l _ x ?_
  by_cases hk:p.2=NameKind.free
  ·rw [if_pos hk,EM]
   cases x == p.1
   ·exact h
   ·rfl
  ·rw [if_neg hk]; exact h
theorem g9 {env:Env}:∀ (l:List (Str×NameKind)) (acc:List (Str×Addr)) (x:Str),(x,NameKind.free) ∈ l→((gO env l acc).lookup x).isSome=true
 | p :: l,acc,x,h=>by
  rcases List.mem_cons.mp h with e | h
  ·refine kT l _ x ?_
   subst e
   simp [EM]
  ·exact g9 l _ x h
theorem dw {env:Env}{x:Str}:∀ {l:List (Str×NameKind)},(l.map fun (p:Str×NameKind)=>match p with | (n,k)=>if (k == NameKind.free && env.scope.kind == .function && env.kindOf n == some .cell)=true then (n,NameKind.cell) else (n,k)).lookup x=some NameKind.local→l.lookup x=some NameKind.local
 | [],h=>by simp at h
 | (n,k) :: r,h=>by
  rw [DK,EM] at h
  rw [EM]
  by_cases hc:(k == NameKind.free && env.scope.kind == .function && env.kindOf n == some .cell)=true
  ·simp only [hc,if_true] at h
   cases hx:x == n with
   | true=>rw [hx] at h; simp at h
   | false=>rw [hx] at h; exact dw h
  ·simp only [hc,DR,GF] at h
   cases hx:x == n with
   | true=>rw [hx] at h; simpa using h
   | false=>rw [hx] at h; exact dw (by simpa using h)
theorem du {env:Env}{x:Str}:∀ {l:List (Str×NameKind)},(∀ y ∈ l,y.2 ≠ NameKind.cell) →
    ((l.map fun (p:Str×NameKind)=>match p with | (n,k)=>if (k == NameKind.free && env.scope.kind == .function && env.kindOf n == some .cell)=true then (n,NameKind.cell) else (n,k)).lookup x=some NameKind.cell ∨
     (l.map fun (p:Str×NameKind)=>match p with | (n,k)=>if (k == NameKind.free && env.scope.kind == .function && env.kindOf n == some .cell)=true then (n,NameKind.cell) else (n,k)).lookup x=some NameKind.free)→(x,NameKind.free) ∈ l
  | [],_,h=>by simp at h
  | (n,k) :: r,hn,h=>by
    rw [DK,EM] at h
    by_cases hc:(k == NameKind.free && env.scope.kind == .function && env.kindOf n == some .cell)=true
    · simp only [hc,if_true] at h
      have hk:k=NameKind.free:=by
        have:=(Bool.and_eq_true_iff.mp (Bool.and_eq_true_iff.mp hc).1).1
        simpa using this
      cases hx:x == n with
      | true =>
        have ex:x=n:=by simpa using hx
        rw [ex,hk]; exact D3
      | false=>rw [hx] at h; exact D0 _ (du (fun y hy=>hn y (D0 _ hy)) h)
    · simp only [hc,DR,GF] at h
      cases hx:x == n with
      | true =>
        have ex:x=n:=by simpa using hx
        rw [hx] at h
        have h':k=NameKind.cell∨k=NameKind.free:=by simpa using h
        rcases h' with e | e
        · exact absurd e (hn (n,k) D3)
        · rw [ex,e]; exact D3
      | false=>rw [hx] at h; exact D0 _ (du (fun y hy=>hn y (D0 _ hy)) (by simpa using h))
def maskS (js:List Nat) (σ:St):St:=js.foldl (fun a j=>a.set j none) σ
theorem t9 (js:List Nat):∀ σ:St,(maskS js σ).length=σ.length:=by
 induction js with
 | nil=>intro σ; rfl
 | cons j r ih=>intro σ; show (maskS r (σ.set j none)).length=_; rw [ih,El]
theorem t_ (js:List Nat):∀ (σ:St) (i:Nat) (v:V),(maskS js σ)[i]? = some (some v)→σ[i]? = some (some v)∧i ∉ js:=by
 induction js with
 | nil=>intro σ i v h; exact ⟨h,by simp⟩
 | cons j r ih =>
  intro σ i v h
  obtain ⟨h1,h2⟩:=ih (σ.set j none) i v h
  have nij:i ≠ j:=by
   rintro rfl
   rw [D_] at h1
   split at h1
   ·split at h1 <;> simp at h1
   ·contradiction
  rw [D2 (Ne.symm nij)] at h1
  exact ⟨h1,by simp [nij,h2]⟩
structure Blk (X:Cx) (scope:Scope) (js:List Nat):Prop where
 kind:scope.kind=.function
 nocell:∀ y ∈ scope.names,y.2 ≠ NameKind.cell
 names:∀ y ∈ scope.names,y.2=NameKind.local→scope.names.lookup y.1=some .local
 free:∀ y ∈ scope.names,y.2=NameKind.free→X.env.kindOf y.1=some .cell∨X.env.kindOf y.1=some .free
 own:∀ (i:Nat) x,X.N[i]? = some x→scope.names.lookup x=some .local→i ∈ js
def b9 (X:Cx) (scope:Scope) (C:Addr) (fp:List Addr) (s₂:Shared) (H₂:Hp):Cx :=
 { X with s₀:=s₂,H₀:=H₂,env:=compEnvC scope (gO X.env scope.names []) C X.env,outer:=X.stack,ex:=fp,fn:=fun _=>false,pn:=[],xe:=fun _ _=>False }
section
variable {X:Cx}{scope:Scope}{js:List Nat}{pins:List (Addr×Obj)} {σ:St}{H:Hp}{s:Shared}
theorem Blk.has (b:Blk X scope js) (ok:X.Ok):∀ y ∈ scope.names,y.2=NameKind.free→(X.env.cells.lookup y.1).isSome=true:=fun y hy hk=>by
 obtain ⟨c,e⟩:=ok.has y.1 (b.free y hy hk)
 rw [e]; rfl
theorem Blk.cell (b:Blk X scope js) (ok:X.Ok) {x:Str}{c:Addr} (h:(gO X.env scope.names []).lookup x=some c):X.env.cells.lookup x=some c:=by
 rcases kS scope.names [] x c (b.has ok) h with q | q
 ·simp at q
 ·exact q
theorem Blk.start (b:Blk X scope js) (I:Inv X pins σ H s) {fp:List Addr} (hf:∀ a ∈ fp,gH X pins H a) {h₁:Heap}{tk:Nat} (hn:h₁.Ns s.heap.objs.size fun _=>none)
  (hk:∀ a o,s.heap.get? a=some o→h₁.get? a=some o) (hfs:∀ a ∈ fp,a < s.heap.objs.size):Inv (b9 X scope s.heap.objs.size fp s H) [] (maskS js σ) H { s with heap:=h₁,toks:=tk }:=by
 have ok:=I.ok
 have hC:H s.heap.objs.size=none:=I.hok.fresh (DZ _)
 refine ⟨⟨ok.mod,b.kind,ok.glob,ok.blt,DZ _,fun x y c h1 h2=>ok.inj x y c (b.cell ok h1) (b.cell ok h2),fun x hx=>?_,fun x c hx _=>Bool.noConfusion hx,ok.hd,ok.frames,.inl rfl,fun a ha=>⟨D5 (hfs a ha),fun x c h=>(hf a ha).2.2.2.2.1 x c (b.cell ok h)⟩,
  I.bs,D1 ok.bsz I.sz,fun a o e ha=>?_,fun a ha hx=>?_,I.stack,I.stkFree⟩,rfl,I.bare,Un.kept hk,⟨_,hn,fun i x v h1 h2 h3=>?_⟩,fun x c h=>?_,hC,fun x c h=>I.freeC x c (b.cell ok h),fun p hp=>absurd hp (by simp [b9]),I.hok.kept hk,?_⟩
 ·exact Option.isSome_iff_exists.mp (g9 scope.names [] x (du b.nocell hx))
 ·rcases (hf a ha).2.2.2.1 with q | q
  ·exact ok.noex a o e q
  ·exact absurd (D7 (DV e) (D1 ok.bsz q)) (Fj _)
 ·rcases List.mem_cons.mp (I.stkSub a hx) with q | q
  ·exact (hf a ha).2.1 q
  ·exact (hf a ha).2.2.1 q
 ·obtain ⟨h2,h4⟩:=t_ js σ i v h2
  have hfr:(x,NameKind.free) ∈ scope.names:=by
   rcases h3 with q | q
   ·exact absurd (b.own i x h1 (dw q)) h4
   ·exact du b.nocell q
  obtain ⟨c,hc⟩:=Option.isSome_iff_exists.mp (g9 (env:=X.env) scope.names [] x hfr)
  have hc':=b.cell ok hc
  have hv:=b.free _ hfr rfl
  obtain ⟨m,_,hl⟩:=I.loc
  obtain ⟨u,r,lk⟩:=hl i x v h1 h2 (.inr hv)
  refine ⟨u,r,.inr ⟨?_,c,hc,?_⟩⟩
  ·rcases h3 with q | q
   ·exact absurd (b.own i x h1 (dw q)) h4
   ·exact q
  ·rcases lk with ⟨z,_⟩ | ⟨_,c2,e2,o,ho,hd⟩
   ·have hv':X.env.kindOf x=some .cell∨X.env.kindOf x=some .free:=hv
    rw [z] at hv'
    rcases hv' with q | q <;> cases q
   ·rw [hc'] at e2
    cases e2
    exact ⟨o,hk _ _ ho,hd⟩
 ·obtain ⟨v,o,ho,hd⟩:=I.cell x c (b.cell ok h)
  exact ⟨v,o,hk _ _ ho,hd⟩
 ·rw [t9]; exact I.len
theorem Blk.back (I:Inv X pins σ H s) {fp:List Addr} (hf:∀ a ∈ fp,gH X pins H a) {σ':St}{H':Hp}{s':Shared} (J:Inv (b9 X scope s.heap.objs.size fp s H) [] σ' H' s') {h':Heap}
  (hs:Heap.SameBut s.heap.objs.size s'.heap h'):Inv X pins σ H' { s' with heap:=h' }:=by
 have hC:H' s.heap.objs.size=none:=J.free
 refine I.call' (ch:=fp) J.os ?_ ?_ J.bare fun a ha=>⟨(hf a ha).2.2.2.1,(hf a ha).2.1,(hf a ha).2.2.2.2.1,(hf a ha).2.2.2.2.2⟩
 ·have u:Un (frs X.stack) fp H H' s.heap s'.heap:=J.base
  have ne:∀ a o,s.heap.get? a=some o→a ≠ s.heap.objs.size:=fun a o e=>D5 (DV e)
  exact ⟨fun a o e n h1 h2=>hs.extBut a _ (ne a o e) (u.keep a o e n h1 h2),fun a o e n h1 h2=>(let ⟨sl,q⟩:=u.slot a o e n h1 h2; ⟨sl,hs.extBut a _ (ne a o e) q⟩),u.free,fun a o e h=>(let ⟨o',q⟩:=u.there a o e h; ⟨o',hs.extBut a _ (ne a o e) q⟩),u.tups,u.frzs,u.tbls⟩
 ·intro a o e
  refine (J.hok a o e).stay (fun b u hb q=>hs.extBut b u ?_ q) (fun _ q=>q) fun _ _ q=>q
  rintro rfl
  rcases hb with q | q
  ·rw [q,e] at hC; cases hC
  ·rw [q] at hC; cases hC
end
def ve (js:List Nat) (wi:TI) (g:TG) (tc:TT) (te:TE):TE:=fun σ H Q=>wi σ H fun J H1=>∀ D,H1 D=none →
 ∃ W:Nat→Nat→St→Hp→Prop,(∃ m,W 0 m (maskS js σ) (upd H1 D (.lst [])))∧∀ i m σ' H',W i m σ' H' →
  (J.stop i H'∧Q (.ref D) H')∨(J.go i H'∧∀ x H2,J.yld i H' x H2→g x σ' H2 fun σ3 H3=>tc σ3 H3 fun c H4 =>
   if c=true then te σ3 H4 fun v H5=>∃ vs,H5 D=some (.lst vs)∧vs.length < sizeLine∧∃ m',m' < m∧W (i + 1) m' σ3 (upd H5 D (.lst (vs ++ [v]))) else ∃ m',m' < m∧W (i + 1) m' σ3 H4)
def uP (X:Cx) (ifs:List Expr) (tc:TT):Prop :=
 ∀ (pins:List (Addr×Obj)) (s:Shared) (σ:St) (H:Hp) (Q:Bool→Hp→Prop),Inv X pins σ H s→tc σ H Q →
  wpAny (model X.prog X.w) X.A (forIn ifs true fun c r=>if r=true then do let ok ← isTrue c X.env (eval c X.env); pure (ForInStep.yield ok) else pure (ForInStep.yield r)) (TP X pins σ Q) X.xe s
def zp:TT:=fun _ H Q=>Q true H
theorem vO {X:Cx}:uP X [] zp:=fun _ _ _ H _ I h=>wpAny_tests_nil ⟨H,I,h⟩
theorem vN {X:Cx}{c:Expr}{tc:TT} (h:PT X c tc):uP X [c] tc:=fun pins s σ H Q I q=>wpAny_tests_one (h pins s σ H Q I q)
theorem nA {prog:Program}{w:World}{A:Around}{R:Result→Shared→Prop}{s:Shared}{elt tg iter:Expr}{ifs:List Expr}{scope:Scope}{pos:Pos}{it acc:Value}{env:Env} (Iv:Nat→Shared→Prop)
  (turn:∀ n s,Iv n s→wpAny (model prog w) A (pyNext it) (fun r s1=>match r with
   | none=>R (.ok .next) s1
   | some v=>wpAny (model prog w) A (letOwnedTupleGo tg it v) (fun _ s2=>wpAny (model prog w) A (assign tg env v) (fun _ s3 =>
     wpAny (model prog w) A (forIn ifs true fun c r=>if r=true then do let ok ← isTrue c env (eval c env); pure (ForInStep.yield ok) else pure (ForInStep.yield r)) (fun ok s4 =>
      if ok=true then wpAny (model prog w) A (eval elt env) (fun x s5=>wpAny (model prog w) A (call (.builtin "list.append") [acc,x]) (fun _ s6=>∃ m,m < n∧Iv m s6) (fun _ _=>False) s5) (fun _ _=>False) s4
      else ∃ m,m < n∧Iv m s4) (fun _ _=>False) s3) (fun _ _=>False) s2) (fun _ _=>False) s1) (fun _ _=>False) s)
  (n:Nat) (h:Iv n s):codeAny (model prog w) A (.compLoop (.ListComp elt [⟨tg,iter,ifs,0⟩] scope pos) 0 it acc env) R s:=by
 refine codeAny_loop rfl Iv (fun k t hI=>?_) n h
 show wpAny _ A ((compTurn (.ListComp elt [⟨tg,iter,ifs,0⟩] scope pos) 0 it acc env).onRaise _) _ _ t
 refine wpAny_noted ?_
 rw [compTurn_list]
 have no:∀ {E:Value→Shared→Prop} (e:Value) (z:Shared),(fun (_:Value) (_:Shared)=>False) e z→E e z:=fun _ _ f=>f.elim
 refine DP (FP (DP (Eo (turn k t hI) (fun r s1 q1=>?_) no)))
 cases r with
 | none=>exact DS q1
 | some v =>
  refine DP (Eo q1 (fun _ s2 q2=>?_) no)
  refine DP (Eo q2 (fun _ s3 q3=>?_) no)
  refine DP (Eo q3 (fun ok s4 q4=>?_) no)
  cases ok with
  | false=>exact DS ⟨rfl,by simpa using q4⟩
  | true =>
   have q4':=q4
   simp only [if_true] at q4'
   refine DP (DP (Eo q4' (fun x s5 q5=>?_) no))
   exact DP (Eo q5 (fun _ s6 q6=>DS (DS ⟨rfl,q6⟩)) no)
section
variable {X:Cx}{scope:Scope}{js:List Nat}{elt tg iter:Expr}{ifs:List Expr}{pos:Pos}{wi:TI}{g:TG}{tc:TT}{te:TE}
theorem sJ (b:Blk X scope js) (hc:X.calm=true) {pins:List (Addr×Obj)} {σ:St}{H2:Hp}{s2:Shared}{Q:VK}{it:Addr}{fp:List Addr}{tn:Nat→Heap→Prop}{J:It}
  (I2:Inv X pins σ H2 s2) (T:pJ X.prog X.w X.K tg J fp it tn) (st:tn 0 s2.heap) (hf:∀ a ∈ fp,gH X pins H2 a)
  (hg:∀ C fp s0 H0,PG (b9 X scope C fp s0 H0) tg g) (hi:∀ C fp s0 H0,uP (b9 X scope C fp s0 H0) ifs tc) (he:∀ C fp s0 H0,PE (b9 X scope C fp s0 H0) elt te)
  (hq:∀ D,H2 D=none→∃ W:Nat→Nat→St→Hp→Prop,(∃ m,W 0 m (maskS js σ) (upd H2 D (.lst [])))∧∀ i m σ' H',W i m σ' H' →
   (J.stop i H'∧Q (.ref D) H')∨(J.go i H'∧∀ x H3,J.yld i H' x H3→g x σ' H3 fun σ3 H3=>tc σ3 H3 fun c H4 =>
    if c=true then te σ3 H4 fun v H5=>∃ vs,H5 D=some (.lst vs)∧vs.length < sizeLine∧∃ m',m' < m∧W (i + 1) m' σ3 (upd H5 D (.lst (vs ++ [v]))) else ∃ m',m' < m∧W (i + 1) m' σ3 H4))
  {E:Value→Shared→Prop}{RR:Value→Addr→Result→Shared→Prop}
  (hR:∀ (D C:Addr) (s3:Shared) (H3:Hp) (σ':St) (H':Hp) (s':Shared),C=s3.heap.objs.size→Inv X pins σ H3 s3→(∀ a ∈ fp,gH X pins H3 a)→Inv (b9 X scope C fp s3 H3) [] σ' H' s'→Q (.ref D) H'→RR (.ref D) C (.ok .next) s') :
  wpAny (model X.prog X.w) X.A (newList []) (fun acc s3=>wpAny (model X.prog X.w) X.A (newFunctionEnv scope X.env.globals (gO X.env scope.names []) [] X.env.qual none .none (some X.env)) (fun cenv s4 =>
   codeAny (model X.prog X.w) X.A (.compStart (.ListComp elt [⟨tg,iter,ifs,0⟩] scope pos) 0 (.ref it) acc { cenv with scope:=relabel scope X.env }) (RR acc cenv.locals) s4) E s3) E s2:=by
 refine ES ?_
 have hD:H2 s2.heap.objs.size=none:=I2.hok.fresh (DZ _)
 have I3:=I2.lnew (ys:=[]) (its:=[]) (t':=s2.toks) .nil (E_ _)
 obtain ⟨W,⟨m0,w0⟩,turn⟩:=hq _ hD
 have fpLt:∀ a ∈ fp,a < s2.heap.objs.size:=fun a ha=>by
  obtain ⟨o,e,_⟩:=T.obj _ _ st a ha
  exact DV e
 generalize hs3:({ s2 with heap:=s2.heap.push { cls:=.type "list",dict:=none,data:=.seq ([]:List Value).toArray } }:Shared)=s3
 have I3':Inv X pins σ (upd H2 s2.heap.objs.size (.lst [])) s3:=by rw [← hs3]; exact I3
 have st3:tn 0 s3.heap:=T.keep _ _ _ st fun a _ o e=>by rw [← hs3]; exact DQ _ e
 have sz3:s3.heap.objs.size=s2.heap.objs.size + 1:=by rw [← hs3]; exact EZ ..
 have hf3:∀ a ∈ fp,gH X pins (upd H2 s2.heap.objs.size (.lst [])) a:=fun a ha=>⟨by rw [am (D5 (fpLt a ha))]; exact (hf a ha).1,(hf a ha).2⟩
 refine wpAny_newFunctionEnv b.nocell (by intro y hy; simp at hy) (fun h₁ hns hsb=>?_) b.kind
 have keep:∀ a o,s3.heap.get? a=some o→h₁.get? a=some o:=fun a o e=>hsb.extBut a o (D5 (DV e)) (DQ _ e)
 have J0:=b.start I3' hf3 (tk:=s3.toks + ([]:List (Str×Value)).length) (by simpa using hns) keep fun a ha=>by rw [sz3]; exact Ft (fpLt a ha)
 have st4:tn 0 h₁:=T.keep _ _ _ st3 fun a _ o e=>keep a o e
 have loop:∀ s4:Shared,s4={ s3 with heap:=h₁,toks:=s3.toks + ([]:List (Str×Value)).length }→codeAny (model X.prog X.w) X.A (.compLoop (.ListComp elt [⟨tg,iter,ifs,0⟩] scope pos) 0 (.ref it) (.ref s2.heap.objs.size) (compEnvC scope (gO X.env scope.names []) s3.heap.objs.size X.env))
   (RR (.ref s2.heap.objs.size) s3.heap.objs.size) s4:=by
  rintro s4 rfl
  refine nA (fun n t=>∃ i σ' H',Inv (b9 X scope s3.heap.objs.size fp s3 (upd H2 s2.heap.objs.size (.lst []))) [] σ' H' t∧tn i t.heap∧(∀ a ∈ fp,H' a=none)∧W i n σ' H') ?_ m0 ⟨0,_,_,J0,st4,fun a ha=>(hf3 a ha).1,w0⟩
  rintro n t ⟨i,σ',H',J1,st',fr,w'⟩
  have stat:∀ {H':Hp},(∀ a ∈ fp,H' a=none)→∀ a ∈ fp,gH (b9 X scope s3.heap.objs.size fp s3 (upd H2 s2.heap.objs.size (.lst []))) [] H' a:=fun hn a ha =>
   ⟨hn a ha,D5 (by rw [sz3]; exact Ft (fpLt a ha)),fun hx=>(by
    rcases List.mem_cons.mp (I2.stkSub a hx) with q | q
    ·exact (hf a ha).2.1 q
    ·exact (hf a ha).2.2.1 q),.inl ha,fun x c h=>(hf a ha).2.2.2.2.1 x c (b.cell I2.ok h),fun p hp=>absurd hp (by simp [b9])⟩
  rcases turn i n σ' H' w' with ⟨stop,qn⟩ | ⟨go,step⟩
  ·refine thn (T.done (b9 X scope s3.heap.objs.size fp s3 (upd H2 s2.heap.objs.size (.lst []))) rfl rfl rfl hc i [] t σ' H' _ J1 (stat fr) st' stop) fun r t1 zz61_0=>?_
   obtain ⟨hr,J2⟩:=zz61_0
   subst hr
   exact hR _ _ s3 _ σ' H' t1 rfl I3' hf3 J2 qn
  ·refine thn (T.item (b9 X scope s3.heap.objs.size fp s3 (upd H2 s2.heap.objs.size (.lst []))) rfl rfl rfl hc i [] t σ' H' _ J1 (stat fr) st' go) fun r t1 zz62_0=>?_
   obtain ⟨u,hr,q1⟩:=zz62_0
   subst hr
   refine thn q1 fun _ t2 zz63_0=>?_
   obtain ⟨x,H3,J3,r3,y3,st3',fr3⟩:=zz63_0
   have J3':=J3.pinned (stat fr3) (T.obj _ _ st3')
   have again:∀ {σ7:St}{H7:Hp}{t7:Shared},Inv (b9 X scope s3.heap.objs.size fp s3 (upd H2 s2.heap.objs.size (.lst []))) ([] ++ iT fp t2.heap) σ7 H7 t7→(∃ m',m' < n∧W (i + 1) m' σ7 H7) →
     ∃ m,m < n∧∃ i σ' H',Inv (b9 X scope s3.heap.objs.size fp s3 (upd H2 s2.heap.objs.size (.lst []))) [] σ' H' t7∧tn i t7.heap∧(∀ a ∈ fp,H' a=none)∧W i m σ' H':=fun {σ7 H7 t7} J7 w7=>by
    obtain ⟨m',hm,w7⟩:=w7
    refine ⟨m',hm,i + 1,σ7,H7,J7.unpinned,T.keep _ _ _ st3' fun a ha o e=>(J7.pin (a,o) (D4 _ (D4 _ (dj ha e)))).1,fun a ha=>?_,w7⟩
    obtain ⟨o,e,_⟩:=T.obj _ _ st3' a ha
    exact (J7.pin (a,o) (D4 _ (D4 _ (dj ha e)))).2.1
   refine thn (hg _ _ _ _ _ t2 σ' H3 x u _ J3' r3 (step x H3 y3)) fun _ t3 zz64_0=>?_
   obtain ⟨σ4,H4,J4,q4⟩:=zz64_0
   refine thn (hi _ _ _ _ _ t3 σ4 H4 _ J4 q4) fun ok t4 zz65_0=>?_
   obtain ⟨H5,J5,q5⟩:=zz65_0
   cases ok with
   | false=>exact again J5 (by simpa using q5)
   | true =>
    simp only [if_true] at q5 ⊢
    refine thn (he _ _ _ _ _ t4 σ4 H5 _ J5 q5) fun y t5 zz66_0=>?_
    obtain ⟨v,H6,J6,r6,vs,hl,hz,q6⟩:=zz66_0
    refine thn (lT _ t5 σ4 H6 (.ref s2.heap.objs.size) [v] (.ref s2.heap.objs.size) [y] (fun _ H7=>∃ m',m' < n∧W (i + 1) m' σ4 H7) J6 rfl (.cons r6 .nil) ⟨_,vs,v,rfl,rfl,hl,hz,q6⟩) fun _ t6 zz67_0=>?_
    obtain ⟨_,H7,J7,_,q7⟩:=zz67_0
    exact again J7 q7
 refine codeAny_compStart_list (loop _ rfl) (T.self _ 0 _ _ _ st4 (loop _ rfl))
theorem yz (b:Blk X scope js) (hc:X.calm=true) (hI:PI X tg iter wi)
  (hg:∀ C fp s0 H0,PG (b9 X scope C fp s0 H0) tg g) (hi:∀ C fp s0 H0,uP (b9 X scope C fp s0 H0) ifs tc) (he:∀ C fp s0 H0,PE (b9 X scope C fp s0 H0) elt te)
  (hs:∀ x,foldedSetIterable iter X.env x=pure x:=by intro _; rfl):PE X (.ListComp elt [⟨tg,iter,ifs,0⟩] scope pos) (ve js wi g tc te):=by
 intro pins s σ H Q I h
 rw [eval_ListComp]
 refine wpAny_comprehension_free (use:=none) rfl hs (sG (b.has I.ok)) b.kind b.names (thn (hI pins s σ H _ I h) fun v s1 q1=>thn q1 fun itv s2 q2=>?_)
 obtain ⟨it,fp,tn,J,H2,rfl,I2,T,st,hf,hq⟩:=q2
 refine sJ b hc I2 T st hf hg hi he hq fun D C s3 H3 σ' H' s' hC I3 hf3 J3 q3=>?_
 subst hC
 obtain ⟨m,hn,_⟩:=J3.loc
 exact ⟨m,hn,fun h' hs'=>⟨.ref D,H',Blk.back I3 hf3 J3 hs',rfl,q3⟩⟩
theorem rL {i:Nat}{x:Str}{px:Pos}{spos:Pos} (hN:X.N.Nodup) (hix:X.N[i]? = some x) (hx:Loc X.env.scope x) (b:Blk X scope js) (hc:X.calm=true) (hI:PI X tg iter wi)
  (hg:∀ C fp s0 H0,PG (b9 X scope C fp s0 H0) tg g) (hi:∀ C fp s0 H0,uP (b9 X scope C fp s0 H0) ifs tc) (he:∀ C fp s0 H0,PE (b9 X scope C fp s0 H0) elt te)
  (hsw:swapsWith (.ListComp elt [⟨tg,iter,ifs,0⟩] scope pos) (some (.Name x px)) spos.line X.env=pure true)
  (hfn:X.fn x=true∨X.env.scope.names.lookup x=some .local:=by first | exact .inl rfl | exact .inr rfl | assumption) (hs:∀ x,foldedSetIterable iter X.env x=pure x:=by intro _; rfl) :
  PS X (.Assign [.Name x px] (.ListComp elt [⟨tg,iter,ifs,0⟩] scope pos) spos) (vg (ve js wi g tc te) (l3 i)):=by
 intro pins s σ H D I h
 rw [exec_Assign_Name_used _ _ _ _ hsw]
 refine DP (FP (DP ?_))
 show wpAny _ _ (do let _ ← comprehension (.ListComp elt [⟨tg,iter,ifs,0⟩] scope pos) scope X.env _ (newList []) false (eval iter X.env) (some (assign (.Name x px) X.env))) _ _ s
 refine DP (Eo (wpAny_comprehension_free (use:=some (assign (.Name x px) X.env)) (Q:=fun _ s'=>SP X pins D .next s') rfl hs (sG (b.has I.ok)) b.kind b.names
  (thn (hI pins s σ H _ I h) fun v s1 q1=>thn q1 fun itv s2 q2=>?_)) (fun _ s' q=>DS (DS q)) fun _ _ e=>e)
 obtain ⟨it,fp,tn,J,H2,rfl,I2,T,st,hf,hq⟩:=q2
 refine sJ (Q:=fun y H1=>l3 i y σ H1 D.nx) b hc I2 T st hf hg hi he hq fun A C s3 H3 σ' H' s' hC I3 hf3 J3 q3=>?_
 subst hC
 obtain ⟨m,hn,_⟩:=J3.loc
 obtain ⟨oC,es,ep,hoC,hdC,hrC⟩:=id hn
 have hJf:H' s3.heap.objs.size=none:=J3.free
 have I4:Inv X pins σ H' s':=Blk.back I3 hf3 J3 (Heap.SameBut.refl _ _)
 have neL:s3.heap.objs.size ≠ X.env.locals:=Ga I3.lt
 have nfs:s3.heap.objs.size ∉ X.fs:=I3.nofs (DZ _)
 have ncell:∀ y c,X.env.cells.lookup y=some c→c ≠ s3.heap.objs.size:=fun y c e z=>by
  obtain ⟨v,o,ho,_⟩:=I3.cell y c e
  rw [z] at ho
  exact absurd (DV ho) (Fj _)
 have npin:∀ p ∈ X.pn ++ pins,p.1 ≠ s3.heap.objs.size:=fun p hp z=>by
  have ho:=(I3.pin p hp).1
  rw [z] at ho
  exact absurd (DV ho) (Fj _)
 have I5:Inv X (pins ++ [(s3.heap.objs.size,oC)]) σ H' s':=I4.pins_of fun p hp=>(List.mem_append.mp hp).elim (fun z=>I4.pin p (D4 _ z)) fun z=>by
  have e:p=(s3.heap.objs.size,oC):=by simpa using z
  subst e
  exact ⟨hoC,hJf,neL,nfs,fun v z=>by rw [hdC] at z; cases z⟩
 show wpAny _ _ (assign (.Name x px) X.env (.ref A)) _ _ s'
 refine wpAny_assign_Name (dW (i:=i) (v:=.ref A) I5 hN hix hx rfl (fun s5 I6=>?_) hfn)
 obtain ⟨p1,p2,_⟩:=I6.pin (s3.heap.objs.size,oC) (D4 _ (D4 _ (by simp)))
 refine ⟨m,⟨oC,es,ep,p1,hdC,hrC⟩,fun h' hs'=>?_⟩
 have I7:Inv X pins (σ.set i (some (.ref A))) H' { s5 with heap:=h',toks:=s5.toks }:=Inv.turned (it:=s3.heap.objs.size) I6.unpinned (fun a o ha e=>hs'.extBut a o ha e) p2 neL (.inr (D1 I3.sz (DZ _))) ncell npin
 exact ⟨_,H',I7,q3⟩
end
end L2
namespace L2.Cu
open PySem PySem.Spec PyProof.Rows
inductive D where
 | non | bl (b:Bool) | int (i:Int) | str (x:Str) | tup (xs:List D) | lst (xs:List D) | dic (kvs:List (Key×D)) | scr (ns:List Int)
mutual
inductive Rep (F:Hp):V→D→Prop
 | non:Rep F .non .non
 | bl (b:Bool):Rep F (.bl b) (.bl b)
 | int (i:Int):Rep F (.int i) (.int i)
 | str (x:Str):Rep F (.str x) (.str x)
 | tup {a:Addr}{vs:List V}{ds:List D}:F a=some (.tup vs)→Reps F vs ds→Rep F (.ref a) (.tup ds)
 | lst {a:Addr}{vs:List V}{ds:List D}:F a=some (.lst vs)→Reps F vs ds→Rep F (.ref a) (.lst ds)
 | dic {a:Addr}{ob:Obj}{vs:List (Key×V)} {ds:List (Key×D)}:F a=some (.frz ob (.dK vs))→RepK F vs ds→Rep F (.ref a) (.dic ds)
 | scr {a:Addr}{o:Obj}{ns:List Int}:F a=some (.frz o (.lst (ns.map V.int)))→Rep F (.ref a) (.scr ns)
inductive Reps (F:Hp):List V→List D→Prop
 | nil:Reps F [] []
 | cons {v:V}{d:D}{vs:List V}{ds:List D}:Rep F v d→Reps F vs ds→Reps F (v :: vs) (d :: ds)
inductive RepK (F:Hp):List (Key×V)→List (Key×D)→Prop
 | nil:RepK F [] []
 | cons {k:Key}{v:V}{d:D}{vs:List (Key×V)} {ds:List (Key×D)}:Rep F v d→RepK F vs ds→RepK F ((k,v) :: vs) ((k,d) :: ds)
end
section
variable {F F':Hp}
mutual
theorem Rep.mono (h:∀ a o,F a=some o→F' a=some o):∀ {v:V}{d:D},Rep F v d→Rep F' v d
 := fun r=>by
  cases r with
  | non=>exact .non
  | bl b=>exact .bl b
  | int i=>exact .int i
  | str x=>exact .str x
  | tup e r=>exact .tup (h _ _ e) (Reps.mono h r)
  | lst e r=>exact .lst (h _ _ e) (Reps.mono h r)
  | dic e r=>exact .dic (h _ _ e) (RepK.mono h r)
  | scr e=>exact .scr (h _ _ e)
theorem Reps.mono (h:∀ a o,F a=some o→F' a=some o):∀ {vs:List V}{ds:List D},Reps F vs ds→Reps F' vs ds:=fun r=>by
 cases r with
 | nil=>exact .nil
 | cons r t=>exact .cons (Rep.mono h r) (Reps.mono h t)
theorem RepK.mono (h:∀ a o,F a=some o→F' a=some o):∀ {vs:List (Key×V)} {ds:List (Key×D)},RepK F vs ds→RepK F' vs ds
 := fun r=>by
  cases r with
  | nil=>exact .nil
  | cons r t=>exact .cons (Rep.mono h r) (RepK.mono h t)
end
theorem Reps.c1 {vs:List V}{d:D}{ds:List D} (r:Reps F vs (d :: ds)):∃ v ws,vs=v :: ws∧Rep F v d∧Reps F ws ds:=by
 cases r with
 | cons a b=>exact ⟨_,_,rfl,a,b⟩
theorem Reps.c0 {vs:List V} (r:Reps F vs []):vs=[]:=by
 cases r
 rfl
theorem Reps.length:∀ {vs:List V}{ds:List D},Reps F vs ds→vs.length=ds.length:=fun r=>by
 cases r with
 | nil=>rfl
 | cons _ t=>exact ER Nat.succ (Reps.length t)
theorem Reps.append:∀ {vs ws:List V}{ds es:List D},Reps F vs ds→Reps F ws es→Reps F (vs ++ ws) (ds ++ es)
 := fun r s=>by
  cases r with
  | nil=>exact s
  | cons r t=>exact .cons r (Reps.append t s)
theorem Reps.get:∀ {vs:List V}{ds:List D}{i:Nat}{d:D},Reps F vs ds→ds[i]? = some d→∃ v,vs[i]? = some v∧Rep F v d
 := fun {vs ds i d} r e=>by
  cases r with
  | nil=>cases e
  | cons r t =>
   cases i with
   | zero=>cases e; exact ⟨_,rfl,r⟩
   | succ i=>exact Reps.get (i:=i) t e
theorem Reps.drop:∀ {vs:List V}{ds:List D} (n:Nat),Reps F vs ds→Reps F (vs.drop n) (ds.drop n)
 := fun n r=>by
  cases n with
  | zero=>exact r
  | succ n =>
   cases r with
   | nil=>exact .nil
   | cons _ t=>exact Reps.drop n t
theorem Reps.take:∀ {vs:List V}{ds:List D} (n:Nat),Reps F vs ds→Reps F (vs.take n) (ds.take n)
 := fun n r=>by
  cases n with
  | zero=>exact .nil
  | succ n =>
   cases r with
   | nil=>exact .nil
   | cons r t=>exact .cons r (Reps.take n t)
theorem Reps.set {v:V}{d:D} (r:Rep F v d):∀ {vs:List V}{ds:List D} (i:Nat),Reps F vs ds→Reps F (vs.set i v) (ds.set i d)
 | _,_,_,.nil=>.nil
 | _,_,0,.cons _ t=>.cons r t
 | _,_,i + 1,.cons q t=>.cons q (Reps.set r i t)
theorem Reps.reverse {vs:List V}{ds:List D} (h:Reps F vs ds):Reps F vs.reverse ds.reverse:=by
 induction vs generalizing ds with
 | nil=>cases h; exact .nil
 | cons v vs ih =>
  cases h with
  | cons r t=>rw [Gg,Gg]; exact (ih t).append (.cons r .nil)
theorem Reps.ints:∀ (ns:List Int),Reps F (ns.map V.int) (ns.map D.int)
 | []=>.nil
 | n :: ns=>.cons (.int n) (Reps.ints ns)
theorem Reps.bls:∀ {vs:List V}{bs:List Bool},Reps F vs (bs.map D.bl)→vs=bs.map V.bl
 := fun {vs bs} r=>by
  cases bs with
  | nil=>cases r; rfl
  | cons b bs =>
   cases r with
   | cons r t=>cases r; rw [Reps.bls t]; rfl
end
inductive FS where
 | v (d:D) | l (d:D)
structure OSt where
 C:Addr
 ia:Option Addr
 fs:List (Str×FS)
inductive Sl where
 | no | val (d:D) | own (d:D) | obj (s:OSt) | rob (s:OSt)
abbrev DE:=List Sl
def fJ (F:Hp):HO→D→Prop
 | .lst vs,.lst ds=>Reps F vs ds
 | .dK vs,.dic ds=>RepK F vs ds
 | _,_=>False
theorem fJ.mono {F F':Hp} (h:∀ a o,F a=some o→F' a=some o) {o:HO}{d:D} (r:fJ F o d):fJ F' o d:=by
 cases o <;> cases d <;> first | exact Reps.mono h r | exact RepK.mono h r | exact r
def fzO (ob:Obj):HO→HO
 | .dK vs=>.frz ob (.dK vs)
 | o=>o
theorem fJ.rep {F:Hp}{a:Addr}{ob:Obj}{o:HO}{d:D} (r:fJ F o d) (h:F a=some (fzO ob o)):Rep F (.ref a) d:=by
 cases o <;> cases d <;> first | exact .lst h r | exact .dic h r | exact False.elim r
theorem zT {H:Hp}{a:Addr}{o:HO} (h:H a=some o):upd H a o=H:=by
 funext b
 by_cases hb:b=a
 ·subst hb; rw [ar,h]
 ·rw [am hb]
theorem zJ {X:Cx}{pins:List (Addr×Obj)} {σ:St}{H:Hp}{s:Shared}{a:Addr}{o:HO} (I:Inv X pins σ H s) (e:H a=some o):∃ ob,Inv X pins σ (upd H a (fzO ob o)) s:=by
 cases o with
 | dK vs =>
  have z:=I.hok a _ e
  obtain ⟨h1,h2,us,h3,h4⟩:=id z
  obtain ⟨ob,es,ep,h5,h6⟩:=id h4
  exact ⟨ob,I.write (t':=s.toks) (x:=a) (e:=a) (h':=s.heap) (by rw [e]; exact trivial) (.inl rfl) (fun _ _ _ q=>q) ⟨ob,h5⟩ ⟨h5,h1,h2,us,h3,h4⟩⟩
 | _=>exact ⟨default,by
   unfold fzO
   rw [zT e]; exact I⟩
inductive gp (F H:Hp):List (Str×V)→List (Str×FS)→List Addr→Prop
 | nil:gp F H [] [] []
 | val {f:Str}{v:V}{d:D}{vs:List (Str×V)} {xs:List (Str×FS)} {ps:List Addr}:Rep F v d→gp F H vs xs ps→gp F H ((f,v) :: vs) ((f,.v d) :: xs) ps
 | own {f:Str}{p:Addr}{o:HO}{d:D}{vs:List (Str×V)} {xs:List (Str×FS)} {ps:List Addr}:H p=some o→fJ F o d→gp F H vs xs ps→gp F H ((f,.ref p) :: vs) ((f,.l d) :: xs) (p :: ps)
def k8 (F H:Hp) (s:OSt) (fp:List Addr):Prop:=∃ a ps dx fs,fp=a :: ps∧(∀ b,s.ia=some b→a=b)∧H a=some (.ins s.C dx fs)∧gp F H fs s.fs ps
theorem gp.move {F H F' H':Hp} (hf:∀ a o,F a=some o→F' a=some o):∀ {vs:List (Str×V)} {xs:List (Str×FS)} {ps:List Addr},gp F H vs xs ps→(∀ p ∈ ps,∀ o,H p=some o→H' p=some o)→gp F' H' vs xs ps
 := fun r=>by
  induction r with
  | nil=>exact fun _=>.nil
  | val r t ih=>exact fun h=>.val (Rep.mono hf r) (ih h)
  | own e r t ih=>exact fun h=>.own (h _ D3 _ e) (r.mono hf) (ih fun q hq=>h q (D0 _ hq))
theorem gp.dom {F H:Hp}:∀ {vs:List (Str×V)} {xs:List (Str×FS)} {ps:List Addr},gp F H vs xs ps→∀ p ∈ ps,H p ≠ none
 := fun r=>by
  induction r with
  | nil=>exact fun p h=>nomatch h
  | val r t ih=>exact ih
  | own e r t ih=>exact fun p h=>(List.mem_cons.mp h).elim (fun z q=>by rw [z,e] at q; cases q) (ih p)
theorem k8.move {F H F' H':Hp}{s:OSt}{fp:List Addr} (hf:∀ a o,F a=some o→F' a=some o) (h:∀ p ∈ fp,∀ o,H p=some o→H' p=some o) (r:k8 F H s fp):k8 F' H' s fp:=by
 obtain ⟨a,ps,dx,fs,rfl,h0,h1,h2⟩:=r
 exact ⟨a,ps,dx,fs,rfl,h0,h a D3 _ h1,h2.move hf fun p hp=>h p (D0 _ hp)⟩
theorem k8.dom {F H:Hp}{s:OSt}{fp:List Addr} (r:k8 F H s fp):∀ p ∈ fp,H p ≠ none:=by
 obtain ⟨a,ps,dx,fs,rfl,h0,h1,h2⟩:=r
 intro p hp
 rcases List.mem_cons.mp hp with z | z
 ·rw [z,h1]; simp
 ·exact h2.dom p z
structure Ext (F H F' H':Hp):Prop where
 same:∀ a o,H a=some o→H' a=some o
 fr:∀ a o,F a=some o→F' a=some o
 sub:∀ a o,F' a=some o→H' a=some o
 new:∀ a,F a=none→H a ≠ none→F' a=none
theorem Ext.refl {F H:Hp} (h:∀ a o,F a=some o→H a=some o):Ext F H F H:=⟨fun _ _ e=>e,fun _ _ e=>e,h,fun _ e _=>e⟩
theorem Ext.trans {F H F1 H1 F2 H2:Hp} (a:Ext F H F1 H1) (b:Ext F1 H1 F2 H2):Ext F H F2 H2 :=
 ⟨fun c o e=>b.same c o (a.same c o e),fun c o e=>b.fr c o (a.fr c o e),b.sub,fun c e n=>b.new c (a.new c e n) fun z=>n (by
  cases q:H c with
  | none=>rfl
  | some o=>rw [a.same c o q] at z; cases z)⟩
theorem Ext.freeze {F H:Hp}{p:Addr}{o:HO} (h:∀ a o,F a=some o→H a=some o) (hp:H p=none):Ext F H (upd F p o) (upd H p o) where
 same:=fun a u e=>by rw [am (bL e hp)]; exact e
 fr:=fun a u e=>by rw [am (bL (h a u e) hp)]; exact e
 sub:=fun a u e=>by
  by_cases ha:a=p
  ·subst ha; rw [ar] at e ⊢; exact e
  ·rw [am ha] at e ⊢; exact h a u e
 new:=fun a e n=>by
  have ha:a ≠ p:=fun z=>n (by rw [z]; exact hp)
  rw [am ha]; exact e
theorem Ext.lay {F H:Hp}{p:Addr}{o:HO} (h:∀ a o,F a=some o→H a=some o) (hp:H p=none):Ext F H F (upd H p o) where
 same:=fun a u e=>by rw [am (bL e hp)]; exact e
 fr:=fun _ _ e=>e
 sub:=fun a u e=>by rw [am (bL (h a u e) hp)]; exact h a u e
 new:=fun _ e _=>e
theorem Ext.nofree {F H F' H':Hp} (x:Ext F H F' H') {p:Addr} (h:H' p=none):H p=none:=by
 cases q:H p with
 | none=>rfl
 | some o=>rw [x.same p o q] at h; cases h
theorem nofr {F H:Hp} (h:∀ a o,F a=some o→H a=some o) {p:Addr} (hp:H p=none):F p=none:=by
 cases q:F p with
 | none=>rfl
 | some o=>rw [h p o q] at hp; cases hp
structure OkF (fp:Nat→List Addr) (B:Hp×Hp) (F H:Hp) (σ:St) (E:DE):Prop where
 at_:∀ (i:Nat) s,E[i]? = some (.obj s)→(∃ a,(fp i).head? = some a∧σ[i]? = some (some (.ref a)))∧k8 F H s (fp i)∧(fp i).Nodup∧∀ x ∈ fp i,F x=none∧B.2 x=none
 sep:∀ (i j:Nat) s d b,E[i]? = some (.obj s)→E[j]? = some (.own d)→σ[j]? = some (some (.ref b))→b ∉ fp i
 two:∀ (i j:Nat) s t,i ≠ j→E[i]? = some (.obj s)→E[j]? = some (.obj t)→∀ x ∈ fp i,x ∉ fp j
 rob:∀ (i:Nat) s,E[i]? = some (.rob s)→(∃ a ps,σ[i]? = some (some (.ref a))∧k8 F F s (a :: ps))∨(s.fs=[]∧∃ a,s.ia=some a∧σ[i]? = some (some (.ref a)))
def CZ (B:Hp×Hp) (F H:Hp) (σ:St) (E:DE):Prop:=∃ fp,OkF fp B F H σ E
theorem OkF.to {fp:Nat→List Addr}{B B':Hp×Hp}{F H F' H':Hp} {σ σ':St}{E E':DE} (k:OkF fp B F H σ E) (hf:∀ a o,F a=some o→F' a=some o) (ho:∀ (i:Nat) s,E'[i]? = some (.obj s)→E[i]? = some (.obj s)∧σ'[i]? = σ[i]?)
  (hr:∀ (i:Nat) s,E'[i]? = some (.rob s)→E[i]? = some (.rob s)∧σ'[i]? = σ[i]?)
  (hp:∀ (i:Nat) s,E'[i]? = some (.obj s)→∀ x ∈ fp i,(∀ o,H x=some o→H' x=some o)∧F' x=none∧B'.2 x=none)
  (hs:∀ (i j:Nat) s d b,E'[i]? = some (.obj s)→E'[j]? = some (.own d)→σ'[j]? = some (some (.ref b))→b ∉ fp i):OkF fp B' F' H' σ' E' where
 at_:=fun i s h=>by
  obtain ⟨h1,h2⟩:=ho i s h
  obtain ⟨a1,a2,a3,a4⟩:=k.at_ i s h1
  exact ⟨by rw [h2]; exact a1,a2.move hf fun p hpp=>(hp i s h p hpp).1,a3,fun x hx=>(hp i s h x hx).2⟩
 sep:=hs
 two:=fun i j s t hij h1 h2=>k.two i j s t hij (ho i s h1).1 (ho j t h2).1
 rob:=fun i s h=>by
  obtain ⟨h1,h2⟩:=hr i s h
  rcases k.rob i s h1 with ⟨a,ps,q1,q2⟩ | ⟨q0,a,q1,q2⟩
  ·exact .inl ⟨a,ps,by rw [h2]; exact q1,q2.move hf fun p _ o e=>hf p o e⟩
  ·exact .inr ⟨q0,a,q1,by rw [h2]; exact q2⟩
theorem OkF.ext {fp:Nat→List Addr}{B:Hp×Hp}{F H F' H':Hp} {σ:St}{E:DE} (q:OkF fp B F H σ E) (x:Ext F H F' H'):OkF fp B F' H' σ E :=
 q.to x.fr (fun i s h=>⟨h,rfl⟩) (fun i s h=>⟨h,rfl⟩) (fun i s h y hy=>⟨fun o e=>x.same y o e,x.new y ((q.at_ i s h).2.2.2 y hy).1 ((q.at_ i s h).2.1.dom y hy),((q.at_ i s h).2.2.2 y hy).2⟩) q.sep
structure Ok (B:Hp×Hp) (F H:Hp) (σ:St) (E:DE):Prop where
 ent:Ext B.1 B.2 F H
 len:σ.length=E.length
 val:∀ (i:Nat) d,E[i]? = some (.val d)→∃ v,σ[i]? = some (some v)∧Rep F v d
 own:∀ (i:Nat) d,E[i]? = some (.own d)→∃ a o,σ[i]? = some (some (.ref a))∧H a=some o∧F a=none∧B.2 a=none∧fJ F o d
 sep:∀ (i j:Nat) d e a,i ≠ j→E[i]? = some (.own d)→E[j]? = some (.own e)→σ[i]? = some (some (.ref a))→σ[j]? ≠ some (some (.ref a))
 ob:CZ B F H σ E
section
variable {B:Hp×Hp}{F H F' H':Hp} {σ:St}{E:DE}
theorem Ok.sub (k:Ok B F H σ E):∀ a o,F a=some o→H a=some o:=k.ent.sub
theorem Ok.ext (k:Ok B F H σ E) (x:Ext F H F' H'):Ok B F' H' σ E :=
 ⟨k.ent.trans x,k.len,fun i d e=>(let ⟨v,h1,h2⟩:=k.val i d e; ⟨v,h1,h2.mono x.fr⟩),
  fun i d e=>(let ⟨a,o,h1,h2,h3,h4,h5⟩:=k.own i d e; ⟨a,o,h1,x.same a o h2,x.new a h3 (by rw [h2]; simp),h4,h5.mono x.fr⟩),k.sep,
  let ⟨fp,q⟩:=k.ob; ⟨fp,q.ext x⟩⟩
theorem Ok.set_val (k:Ok B F H σ E) {v:V}{d:D} (r:Rep F v d) (i:Nat):Ok B F H (σ.set i (some v)) (E.set i (.val d)):=by
 have hl:=k.len
 have nown:∀ (j:Nat) e,(E.set i (.val d))[j]? = some (.own e)→i ≠ j∧E[j]? = some (.own e):=fun j e h=>by
  rw [D_] at h
  split at h
  ·split at h <;> simp at h
  ·exact ⟨by assumption,h⟩
 refine ⟨k.ent,by rw [El,El]; exact hl,fun j e h=>?_,fun j e h=>?_,fun j l d' e' a hjl h1 h2 h3 h4=>?_,?_⟩
 ·rw [D_] at h
  rw [D_]
  split at h
  ·subst_vars
   split at h
   ·simp at h; subst h
    rename_i hlt
    exact ⟨v,by simp [hl,hlt],r⟩
   ·simp at h
  ·rename_i hne
   rw [if_neg hne]
   exact k.val j e h
 ·obtain ⟨hne,h⟩:=nown j e h
  rw [D2 hne]
  exact k.own j e h
 ·obtain ⟨n1,h1⟩:=nown j d' h1
  obtain ⟨n2,h2⟩:=nown l e' h2
  rw [D2 n1] at h3
  rw [D2 n2] at h4
  exact k.sep j l d' e' a hjl h1 h2 h3 h4
 ·have bk:∀ (j:Nat) z,(∀ q,z ≠ Sl.val q)→(E.set i (.val d))[j]? = some z→i ≠ j∧E[j]? = some z:=fun j z hz h=>by
   rw [D_] at h
   split at h
   ·split at h
    ·simp at h; exact absurd h.symm (hz d)
    ·simp at h
   ·exact ⟨by assumption,h⟩
  obtain ⟨fp,q⟩:=k.ob
  exact ⟨fp,q.to (fun _ _ e=>e) (fun j s h=>⟨(bk j _ (by simp) h).2,D2 (bk j _ (by simp) h).1⟩) (fun j s h=>⟨(bk j _ (by simp) h).2,D2 (bk j _ (by simp) h).1⟩)
   (fun j s h x hx=>⟨fun _ e=>e,(q.at_ j s (bk j _ (by simp) h).2).2.2.2 x hx⟩) (fun j l s e b h1 h2 h3=>by
    obtain ⟨n2,h2⟩:=bk l _ (by simp) h2
    rw [D2 n2] at h3
    exact q.sep j l s e b (bk j _ (by simp) h1).2 h2 h3)⟩
theorem Ok.put_own (k:Ok B F H σ E) {a:Addr}{o:HO}{d:D} (i:Nat) (hn:F a=none) (hb:B.2 a=none) (r:fJ F o d)
  (hfree:∀ (j:Nat) e,j ≠ i→E[j]? = some (.own e)→σ[j]? ≠ some (some (.ref a))) (hobj:∃ fp,OkF fp B F H σ E∧∀ (j:Nat) s,E[j]? = some (.obj s)→a ∉ fp j):Ok B F (upd H a o) (σ.set i (some (.ref a))) (E.set i (.own d)):=by
 have hl:=k.len
 have oth:∀ (j:Nat) s,i ≠ j→(E.set i (.own d))[j]? = some s→E[j]? = some s:=fun j s hne h=>by rw [D2 hne] at h; exact h
 refine ⟨⟨fun b u e=>?_,k.ent.fr,fun b u e=>?_,k.ent.new⟩,by rw [El,El]; exact hl,fun j e h=>?_,fun j e h=>?_,fun j l d' e' b hjl h1 h2 h3 h4=>?_,?_⟩
 ·have:b ≠ a:=fun z=>by rw [z,hb] at e; cases e
  rw [am this]; exact k.ent.same b u e
 ·have:b ≠ a:=fun z=>by rw [z,hn] at e; cases e
  rw [am this]; exact k.sub b u e
 ·rw [D_] at h
  split at h
  ·split at h <;> simp at h
  ·rename_i hne
   rw [D2 hne]
   exact k.val j e h
 ·rw [D_] at h
  rw [D_]
  split at h
  ·rename_i hij
   subst hij
   split at h
   ·rename_i hlt
    simp at h; subst h
    exact ⟨a,o,by simp [hl,hlt],ar,hn,hb,r⟩
   ·simp at h
  ·rename_i hne
   rw [if_neg hne]
   obtain ⟨b,u,h1,h2,h3,h4,h5⟩:=k.own j e h
   have nba:b ≠ a:=fun z=>hfree j e (Ne.symm hne) h (by rw [h1,z])
   exact ⟨b,u,h1,by rw [am nba]; exact h2,h3,h4,h5⟩
 ·have key:∀ (p q:Nat) (dp dq:D),p ≠ q→(E.set i (.own d))[p]? = some (.own dp)→(E.set i (.own d))[q]? = some (.own dq)→(σ.set i (some (.ref a)))[p]? = some (some (.ref b))→(σ.set i (some (.ref a)))[q]? = some (some (.ref b))→i ≠ p→False:=by
   intro p q dp dq hpq g1 g2 g3 g4 hip
   rw [D2 hip] at g3
   have g1':=oth p _ hip g1
   by_cases hiq:i=q
   ·subst hiq
    rw [D_] at g4
    rw [if_pos rfl] at g4
    split at g4
    ·simp at g4; subst g4
     exact hfree p dp (Ne.symm hip) g1' g3
    ·simp at g4
   ·rw [D2 hiq] at g4
    exact k.sep p q dp dq b hpq g1' (oth q _ hiq g2) g3 g4
  by_cases hij:i=j
  ·exact key l j e' d' (Ne.symm hjl) h2 h1 h4 h3 (fun z=>hjl (by rw [← hij,z]))
  ·exact key j l d' e' hjl h1 h2 h3 h4 hij
 ·have bk:∀ (j:Nat) z,(∀ q,z ≠ Sl.own q)→(E.set i (.own d))[j]? = some z→i ≠ j∧E[j]? = some z:=fun j z hz h=>by
   rw [D_] at h
   split at h
   ·split at h
    ·simp at h; exact absurd h.symm (hz d)
    ·simp at h
   ·exact ⟨by assumption,h⟩
  obtain ⟨fp,q,hobj⟩:=hobj
  refine ⟨fp,q.to (fun _ _ e=>e) (fun j s h=>⟨(bk j _ (by simp) h).2,D2 (bk j _ (by simp) h).1⟩) (fun j s h=>⟨(bk j _ (by simp) h).2,D2 (bk j _ (by simp) h).1⟩)
   (fun j s h x hx=>⟨fun _ e=>?_,(q.at_ j s (bk j _ (by simp) h).2).2.2.2 x hx⟩) (fun j l s e c h1 h2 h3=>?_)⟩
  ·rw [am (fun z=>hobj j s (bk j _ (by simp) h).2 (by rw [← z]; exact hx))]; exact e
  ·have h1':=(bk j _ (by simp) h1).2
   by_cases hil:i=l
   ·subst hil
    rw [D_,if_pos rfl] at h3
    split at h3
    ·simp at h3; subst h3; exact hobj j s h1'
    ·simp at h3
   ·rw [D2 hil] at h2 h3
    exact q.sep j l s e c h1' h2 h3
end
def fzE (i:Nat) (E:DE):DE:=match E[i]? with
 | some (.own d)=>E.set i (.val d)
 | _=>E
theorem Ok.fzG {B:Hp×Hp}{F H:Hp} {σ:St}{E:DE} (k:Ok B F H σ E) {i:Nat}{d:D}{a:Addr}{o':HO} (h:E[i]? = some (.own d)) (h1:σ[i]? = some (some (.ref a))) (h3:F a=none) (h4:B.2 a=none) (hr:Rep (upd F a o') (.ref a) d):Ok B (upd F a o') (upd H a o') σ (E.set i (.val d)):=by
 have up:∀ b u,F b=some u→(upd F a o') b=some u:=fun b u e=>by rw [am (fun z=>by rw [z,h3] at e; cases e)]; exact e
 have nown:∀ (j:Nat) e,(E.set i (.val d))[j]? = some (.own e)→i ≠ j∧E[j]? = some (.own e):=fun j e q=>by
  rw [D_] at q
  split at q
  ·split at q <;> simp at q
  ·exact ⟨by assumption,q⟩
 refine ⟨⟨fun b u e=>?_,fun b u e=>up b u (k.ent.fr b u e),fun b u e=>?_,fun b e n=>?_⟩,by rw [El]; exact k.len,fun j e q=>?_,fun j e q=>?_,fun j l d' e' b hjl g1 g2=>k.sep j l d' e' b hjl (nown j d' g1).2 (nown l e' g2).2,?_⟩
 ·have:b ≠ a:=fun z=>by rw [z,h4] at e; cases e
  rw [am this]; exact k.ent.same b u e
 ·by_cases hb:b=a
  ·subst hb; rw [ar] at e ⊢; exact e
  ·rw [am hb] at e ⊢; exact k.sub b u e
 ·have hb:b ≠ a:=fun z=>n (by rw [z]; exact h4)
  rw [am hb]; exact k.ent.new b e n
 ·rw [D_] at q
  split at q
  ·rename_i hij
   subst hij
   split at q
   ·simp at q; subst q
    exact ⟨_,h1,hr⟩
   ·simp at q
  ·obtain ⟨v,r1,r2⟩:=k.val j e q
   exact ⟨v,r1,r2.mono up⟩
 ·obtain ⟨hne,q⟩:=nown j e q
  obtain ⟨b,u,r1,r2,r3,r4,r5⟩:=k.own j e q
  have nba:b ≠ a:=fun z=>k.sep j i e d a (Ne.symm hne) q h (by rw [r1,z]) h1
  exact ⟨b,u,r1,by rw [am nba]; exact r2,by rw [am nba]; exact r3,r4,r5.mono up⟩
 ·have bk:∀ (j:Nat) z,(∀ q,z ≠ Sl.val q)→(E.set i (.val d))[j]? = some z→i ≠ j∧E[j]? = some z:=fun j z hz h=>by
   rw [D_] at h
   split at h
   ·split at h
    ·simp at h; exact absurd h.symm (hz d)
    ·simp at h
   ·exact ⟨by assumption,h⟩
  obtain ⟨fp,m⟩:=k.ob
  have nfp:∀ (j:Nat) s,(E.set i (.val d))[j]? = some (.obj s)→∀ x ∈ fp j,x ≠ a:=fun j s q x hx z=>m.sep j i s d a (bk j _ (by simp) q).2 h h1 (by rw [← z]; exact hx)
  refine ⟨fp,m.to up (fun j s q=>⟨(bk j _ (by simp) q).2,rfl⟩) (fun j s q=>⟨(bk j _ (by simp) q).2,rfl⟩) (fun j s q x hx=>⟨fun _ e=>?_,?_,((m.at_ j s (bk j _ (by simp) q).2).2.2.2 x hx).2⟩) (fun j l s e c g1 g2=>m.sep j l s e c (bk j _ (by simp) g1).2 (bk l _ (by simp) g2).2)⟩
  ·rw [am (nfp j s q x hx)]; exact e
  ·rw [am (nfp j s q x hx)]
   exact ((m.at_ j s (bk j _ (by simp) q).2).2.2.2 x hx).1
theorem Ok.fz {X:Cx}{pins:List (Addr×Obj)} {s:Shared}{B:Hp×Hp}{F H:Hp} {σ:St}{E:DE} (I:Inv X pins σ H s) (k:Ok B F H σ E) (i:Nat):∃ F' H',Inv X pins σ H' s∧Ok B F' H' σ (fzE i E)∧∀ a o,F a=some o→F' a=some o:=by
 unfold fzE
 cases h:E[i]? with
 | none=>exact ⟨F,H,I,k,fun _ _ e=>e⟩
 | some z =>
  cases z with
  | no=>exact ⟨F,H,I,k,fun _ _ e=>e⟩
  | val d=>exact ⟨F,H,I,k,fun _ _ e=>e⟩
  | obj z=>exact ⟨F,H,I,k,fun _ _ e=>e⟩
  | rob z=>exact ⟨F,H,I,k,fun _ _ e=>e⟩
  | own d =>
   obtain ⟨a,o,h1,h2,h3,h4,h5⟩:=k.own i d h
   obtain ⟨ob,I'⟩:=zJ I h2
   have up:∀ b u,F b=some u→(upd F a (fzO ob o)) b=some u:=fun b u e=>by rw [am (fun z=>by rw [z,h3] at e; cases e)]; exact e
   exact ⟨upd F a (fzO ob o),_,I',k.fzG h h1 h3 h4 ((h5.mono up).rep ar),up⟩
inductive Md where
 | V | O | F
def rM:Md→Hp→Hp→Hp→V→D→Prop
 | .V,_,F,_,v,d=>Rep F v d
 | .O,_,F,H,v,d=>Rep F v d∨∃ a o,v=.ref a∧H a=some o∧fJ F o d
 | .F,H0,F,H,v,d=>∃ a o,v=.ref a∧H0 a=none∧H a=some o∧F a=none∧fJ F o d
abbrev OB (F H:Hp) (v:V) (d:D):Prop:=Rep F v d∨∃ a o,v=.ref a∧H a=some o∧fJ F o d
theorem OB.ext {F H F' H':Hp}{v:V}{d:D} (x:Ext F H F' H') (r:OB F H v d):OB F' H' v d:=by
 rcases r with r | ⟨a,o,h1,h2,h3⟩
 ·exact .inl (r.mono x.fr)
 ·exact .inr ⟨a,o,h1,x.same a o h2,h3.mono x.fr⟩
theorem rM.anti {m:Md}{H0 H1 F H:Hp}{v:V}{d:D} (h:∀ p,H1 p=none→H0 p=none) (r:rM m H1 F H v d):rM m H0 F H v d:=by
 cases m with
 | V=>exact r
 | O=>exact r
 | F=>obtain ⟨a,o,h1,h2,h3,h4,h5⟩:=r; exact ⟨a,o,h1,h a h2,h3,h4,h5⟩
theorem rM.ob {m:Md}{H0 F H:Hp}{v:V}{d:D} (r:rM m H0 F H v d):OB F H v d:=by
 cases m with
 | V=>exact .inl r
 | O=>exact r
 | F=>obtain ⟨a,o,h1,h2,h3,h4,h5⟩:=r; exact .inr ⟨a,o,h1,h3,h5⟩
def tM (m:Md) (f:DE→Option D):TE:=fun σ H Q=>∃ B F E d,Ok B F H σ E∧f E=some d∧∀ v F' H',Ext F H F' H'→rM m H F' H' v d→Q v H'
def tT (f:DE→Option Bool):TT:=fun σ H Q=>∃ B F E b,Ok B F H σ E∧f E=some b∧∀ F' H',Ext F H F' H'→Q b H'
def tL (f:DE→Option (List D)):TA:=fun σ H Q=>∃ B F E ds,Ok B F H σ E∧f E=some ds∧∀ vs F' H',Ext F H F' H'→Reps F' vs ds→Q vs H'
structure Ev (X:Cx) (m:Md) (e:Expr) (f:DE→Option D):Prop where
 h:PE X e (tM m f)
structure Et (X:Cx) (e:Expr) (f:DE→Option Bool):Prop where
 h:PT X e (tT f)
structure Ea (X:Cx) (es:List Expr) (f:DE→Option (List D)):Prop where
 h:PA X es (tL f)
inductive Out where
 | nx (E:DE) | rt (d:D) | bk (E:DE) | ct (E:DE)
abbrev Fr (F F':Hp):Prop:=∀ a o,F a=some o→F' a=some o
def lq (B:Hp×Hp) (F:Hp) (Z:d_):Out→Prop
 | .nx E=>∀ σ F' H,Ok B F' H σ E→Fr F F'→Z.nx σ H
 | .rt d=>∀ v F' H,Ext B.1 B.2 F' H→Rep F' v d→Z.rt v H
 | .bk E=>∀ σ F' H,Ok B F' H σ E→Fr F F'→Z.bk σ H
 | .ct E=>∀ σ F' H,Ok B F' H σ E→Fr F F'→Z.ct σ H
theorem lq.mono {B:Hp×Hp}{F F1:Hp}{Z:d_}{r:Out} (h:lq B F Z r) (x:Fr F F1):lq B F1 Z r:=by
 cases r with
 | nx E=>exact fun σ F' H k y=>h σ F' H k fun a o e=>y a o (x a o e)
 | rt d=>exact h
 | bk E=>exact fun σ F' H k y=>h σ F' H k fun a o e=>y a o (x a o e)
 | ct E=>exact fun σ F' H k y=>h σ F' H k fun a o e=>y a o (x a o e)
def tS (f:DE→Option Out):TS:=fun Z σ H=>∃ B F E r,Ok B F H σ E∧f E=some r∧lq B F Z r
structure Es (X:Cx) (st:Stmt) (f:DE→Option Out):Prop where
 h:PS X st (tS f)
structure Ess (X:Cx) (st:List Stmt) (f:DE→Option Out):Prop where
 h:PSs X st (tS f)
section
variable {X:Cx}{e a b c:Expr}{pos:Pos}
theorem PE.by {t:TE}{m:Md}{f:DE→Option D} (h:PE X e t) (w:∀ σ H Q,tM m f σ H Q→t σ H Q):Ev X m e f:=⟨fun pins s σ H Q I q=>h pins s σ H Q I (w σ H Q q)⟩
theorem PT.by {t:TT}{f:DE→Option Bool} (h:PT X e t) (w:∀ σ H Q,tT f σ H Q→t σ H Q):Et X e f:=⟨fun pins s σ H Q I q=>h pins s σ H Q I (w σ H Q q)⟩
theorem PA.by {es:List Expr}{t:TA}{f:DE→Option (List D)} (h:PA X es t) (w:∀ σ H Q,tL f σ H Q→t σ H Q):Ea X es f:=⟨fun pos pins s σ H Q I q=>h pos pins s σ H Q I (w σ H Q q)⟩
theorem PS.by {st:Stmt}{t:TS}{f:DE→Option Out} (h:PS X st t) (w:∀ Z σ H,tS f Z σ H→t Z σ H):Es X st f:=⟨fun pins s σ H Z I q=>h pins s σ H Z I (w Z σ H q)⟩
theorem PSs.by {st:List Stmt}{t:TS}{f:DE→Option Out} (h:PSs X st t) (w:∀ Z σ H,tS f Z σ H→t Z σ H):Ess X st f:=⟨fun pins s σ H Z I q=>h pins s σ H Z I (w Z σ H q)⟩
theorem Ev.frz {f:DE→Option D} (h:Ev X .F e f):Ev X .V e f:=⟨fun pins s σ H Q I zz68_0=>by
 obtain ⟨B,F,E,d,k,q,w⟩:=zz68_0
 refine thn (h.h pins s σ H (fun v H1=>∃ a o,v=.ref a∧H1 a=some o∧∀ ob,Q v (upd H1 a (fzO ob o))) I ⟨B,F,E,d,k,q,fun v F' H' x r=>?_⟩) fun u s1 ⟨x,H1,I1,r1,a,o,e1,e2,q1⟩=>?_
 ·obtain ⟨p,o,h1,h2,h3,h4,h5⟩:=r
  subst h1
  refine ⟨p,o,rfl,h3,fun ob=>?_⟩
  have up:∀ c u,F' c=some u→(upd F' p (fzO ob o)) c=some u:=fun c u z=>by rw [am (fun y=>by rw [y,h4] at z; cases z)]; exact z
  refine w _ (upd F' p (fzO ob o)) _ ⟨fun c u z=>?_,fun c u z=>up c u (x.fr c u z),fun c u z=>?_,fun c z n=>?_⟩ ((h5.mono up).rep ar)
  ·have hc:c ≠ p:=fun y=>by rw [y,h2] at z; cases z
   rw [am hc]; exact x.same c u z
  ·by_cases hc:c=p
   ·subst hc; rw [ar] at z ⊢; exact z
   ·rw [am hc] at z ⊢; exact x.sub c u z
  ·have hc:c ≠ p:=fun y=>n (by rw [y]; exact h2)
   rw [am hc]; exact x.new c z n
 ·obtain ⟨ob,I2⟩:=zJ I1 e2
  exact ⟨x,_,I2,r1,q1 ob⟩⟩
theorem Ev.obs {m:Md}{f:DE→Option D} (h:Ev X m e f):Ev X .O e f:=PE.by h.h fun σ H Q zz70_0=>by obtain ⟨B,F,E,d,k,q,w⟩:=zz70_0; exact ⟨B,F,E,d,k,q,fun v F' H' x r=>w v F' H' x r.ob⟩
def var (i:Nat) (E:DE):Option D:=match E[i]? with
 | some (.val d)=>some d
 | _=>none
def ae (i:Nat) (E:DE):Option D:=match E[i]? with
 | some (.val d)=>some d
 | some (.own d)=>some d
 | _=>none
theorem Bm (i:Nat) (h:PE X e (my i)):Ev X .V e (var i):=PE.by h fun σ H Q zz71_0=>by
 obtain ⟨B,F,E,d,k,q,w⟩:=zz71_0
 unfold var at q
 split at q
 ·rename_i d' hd
  cases q
  obtain ⟨v,h1,h2⟩:=k.val i d hd
  exact ⟨v,h1,w v F H (Ext.refl k.sub) h2⟩
 ·cases q
theorem y6 (i:Nat) (h:PE X e (my i)):Ev X .O e (ae i):=PE.by h fun σ H Q zz72_0=>by
 obtain ⟨B,F,E,d,k,q,w⟩:=zz72_0
 unfold ae at q
 split at q
 ·rename_i d' hd
  cases q
  obtain ⟨v,h1,h2⟩:=k.val i d hd
  exact ⟨v,h1,w v F H (Ext.refl k.sub) (.inl h2)⟩
 ·rename_i d' hd
  cases q
  obtain ⟨p,o,h1,h2,h3,h4,h5⟩:=k.own i d hd
  exact ⟨_,h1,w _ F H (Ext.refl k.sub) (.inr ⟨p,o,rfl,h2,h5⟩)⟩
 ·cases q
def cst (d:D) (_:DE):Option D:=some d
theorem kK {v:V}{d:D} (h:PE X e (tC v)) (r:∀ F,Rep F v d):Ev X .V e (cst d):=PE.by h fun σ H Q zz73_0=>by
 obtain ⟨B,F,E,d',k,q,w⟩:=zz73_0
 cases q
 exact w v F H (Ext.refl k.sub) (r F)
theorem aj {i:Int}{j pos}:Ev X .V (.Constant (.int i) j pos) (cst (.int i)):=kK vV fun _=>.int i
theorem cD {i:Bool}{j pos}:Ev X .V (.Constant (.bool i) j pos) (cst (.bl i)):=kK Cr fun _=>.bl i
theorem fE {j pos}:Ev X .V (.Constant .none j pos) (cst .non):=kK mP fun _=>.non
theorem bZ {i:Str}{j pos}:Ev X .V (.Constant (.str i) j pos) (cst (.str i)):=kK AE fun _=>.str i
def dP (m:Md) (r:R2) (o:D→D→Option D):Prop:=∀ (F H:Hp) (v w:V) (x y d:D) (Q:VK),(∀ a u,F a=some u→H a=some u)→OB F H v x→OB F H w y→o x y=some d →
 (∀ u F' H',Ext F H F' H'→rM m H F' H' u d→Q u H')→r v w H Q
def bin (o:D→D→Option D) (f g:DE→Option D) (E:DE):Option D:=(f E).bind fun x=>(g E).bind fun y=>o x y
theorem e7 {m:Md}{r:R2}{o:D→D→Option D}{f g:DE→Option D} (hr:dP m r o) (σ:St) (H:Hp) (Q:VK) (h:tM m (bin o f g) σ H Q):tOp r (tM .O f) (tM .O g) σ H Q:=by
 obtain ⟨B,F,E,d,k,q,w⟩:=h
 unfold bin at q
 cases hf:f E with
 | none=>rw [hf] at q; cases q
 | some x =>
  rw [hf] at q
  cases hg:g E with
  | none=>rw [hg] at q; cases q
  | some y =>
   rw [hg] at q
   refine ⟨B,F,E,x,k,hf,fun v F1 H1 x1 r1=>⟨B,F1,E,y,k.ext x1,hg,fun u F2 H2 x2 r2=>?_⟩⟩
   exact hr F2 H2 v u x y d Q x2.sub (OB.ext x2 r1) r2 q fun z F3 H3 x3 r3=>w z F3 H3 ((x1.trans x2).trans x3) (rM.anti (fun p hp=>(x1.trans x2).nofree hp) r3)
theorem iX {m:Md}{op:Operator}{r:R2}{o:D→D→Option D}{f g:DE→Option D} (ho:OpR X (binaryOp op) r) (hr:dP m r o) (ha:Ev X .O a f) (hb:Ev X .O b g):Ev X m (.BinOp a op b pos) (bin o f g) :=
 PE.by (Co ho ha.h hb.h) (e7 hr)
theorem qJ {op:CmpOp}{r:R2}{o:D→D→Option D}{f g:DE→Option D} (ho:OpR X (compareOp op) r) (hr:dP .V r o) (ha:Ev X .O a f) (hb:Ev X .O b g) (hm:behindInMarks op b=false):Ev X .V (.Compare a [op] [b] pos) (bin o f g) :=
 PE.by (mQ ho ha.h hb.h hm) (e7 hr)
def asB:D→Option Bool
 | .bl b=>some b
 | _=>none
def tst (f:DE→Option D) (E:DE):Option Bool:=(f E).bind asB
theorem fL {f:DE→Option D} (σ:St) (H:Hp) (Q:Bool→Hp→Prop) (h:tT (tst f) σ H Q):tM .V f σ H fun x H'=>∃ k,x=.bl k∧Q k H':=by
 obtain ⟨B,F,E,b,k,q,w⟩:=h
 unfold tst at q
 cases hf:f E with
 | none=>rw [hf] at q; cases q
 | some x =>
  rw [hf] at q
  refine ⟨B,F,E,x,k,hf,fun v F' H' x1 r1=>?_⟩
  cases x with
  | bl c =>
   cases q
   cases (show Rep F' v (.bl b) from r1)
   exact ⟨b,rfl,w F' H' x1⟩
  | _=>cases q
theorem kM {op:CmpOp}{r:R2}{o:D→D→Option D}{f g:DE→Option D} (ho:OpR X (compareOp op) r) (hr:dP .V r o) (ha:Ev X .O a f) (hb:Ev X .O b g) (hm:behindInMarks op b=false):Et X (.Compare a [op] [b] pos) (tst (bin o f g)) :=
 PT.by (jE ho ha.h hb.h hm) fun σ H Q h=>e7 hr σ H _ (fL σ H Q h)
theorem bG {f:DE→Option D} (h:Ev X .V e f) (he:∀ whole,isTrue e X.env whole=(do let v ← whole; standAt e.pos; holding [v] (truthy v)):=by intro _; rfl):Et X e (tst f) :=
 PT.by (Ar h.h he) fun σ H Q q=>fL σ H Q q
def bq (f:DE→Option Bool) (E:DE):Option Bool:=(f E).map (!·)
theorem cu {f:DE→Option Bool} (h:Et X a f):Et X (.UnaryOp .Not a pos) (bq f):=PT.by (As h.h) fun σ H Q zz74_0=>by
 obtain ⟨B,F,E,b,k,q,w⟩:=zz74_0
 unfold bq at q
 cases hf:f E with
 | none=>rw [hf] at q; cases q
 | some c =>
  rw [hf] at q
  cases q
  exact ⟨B,F,E,c,k,hf,w⟩
def kY (f g:DE→Option Bool) (E:DE):Option Bool:=(f E).bind fun c=>if c=true then g E else some false
def orT (f g:DE→Option Bool) (E:DE):Option Bool:=(f E).bind fun c=>if c=true then some true else g E
structure Ew (X:Cx) (e:Expr) (f:DE→Option Bool):Prop where
 h:PW X e (tT f)
theorem PW.by {t:TT}{f:DE→Option Bool} (h:PW X e t) (w:∀ σ H Q,tT f σ H Q→t σ H Q):Ew X e f:=⟨fun whole pins s σ H Q I q=>h whole pins s σ H Q I (w σ H Q q)⟩
theorem sf {f:DE→Option Bool} (h:Et X a f):Ew X (.BoolOp .And [a] pos) f:=⟨yd h.h⟩
theorem dG {f:DE→Option Bool} (h:Et X a f):Ew X (.BoolOp .Or [a] pos) f:=⟨Ap h.h⟩
theorem wT {cg:List Expr}{f g:DE→Option Bool} (h:Et X a f) (h2:Ew X (.BoolOp .And (b :: cg) pos) g):Ew X (.BoolOp .And (a :: b :: cg) pos) (kY f g):=PW.by (Aq h.h h2.h) fun σ H Q zz75_0=>by
 obtain ⟨B,F,E,d,k,q,w⟩:=zz75_0
 unfold kY at q
 cases hf:f E with
 | none=>rw [hf] at q; cases q
 | some c =>
  rw [hf] at q
  refine ⟨B,F,E,c,k,hf,fun F1 H1 x1=>?_⟩
  cases c with
  | false=>cases q; exact oW (w F1 H1 x1)
  | true=>exact oV ⟨B,F1,E,d,k.ext x1,q,fun F2 H2 x2=>w F2 H2 (x1.trans x2)⟩
theorem dC {cg:List Expr}{f g:DE→Option Bool} (h:Et X a f) (h2:Ew X (.BoolOp .Or (b :: cg) pos) g):Ew X (.BoolOp .Or (a :: b :: cg) pos) (orT f g):=PW.by (Cj h.h h2.h) fun σ H Q zz76_0=>by
 obtain ⟨B,F,E,d,k,q,w⟩:=zz76_0
 unfold orT at q
 cases hf:f E with
 | none=>rw [hf] at q; cases q
 | some c =>
  rw [hf] at q
  refine ⟨B,F,E,c,k,hf,fun F1 H1 x1=>?_⟩
  cases c with
  | true=>cases q; exact oV (w F1 H1 x1)
  | false=>exact oW ⟨B,F1,E,d,k.ext x1,q,fun F2 H2 x2=>w F2 H2 (x1.trans x2)⟩
theorem Ew.et {f:DE→Option Bool} (h:Ew X e f):Et X e f:=⟨h.h _⟩
def bS (f g:DE→Option D) (E:DE):Option D:=(f E).bind fun x=>(asB x).bind fun c=>if c=true then g E else some (.bl false)
def orV (f g:DE→Option D) (E:DE):Option D:=(f E).bind fun x=>(asB x).bind fun c=>if c=true then some (.bl true) else g E
def kn (f:DE→Option D) (E:DE):Option D:=(f E).bind fun x=>(asB x).map fun c=>.bl (!c)
theorem kX {x:D}{c:Bool} (h:asB x=some c):x=.bl c:=by cases x <;> simp [asB] at h; rw [h]
theorem eJ {op}{f:DE→Option D} (h:Ev X .V a f):Ev X .V (.BoolOp op [a] pos) f:=⟨AF h.h⟩
theorem cE {cg:List Expr}{f g:DE→Option D} (h:Ev X .V a f) (h2:Ev X .V (.BoolOp .And (b :: cg) pos) g):Ev X .V (.BoolOp .And (a :: b :: cg) pos) (bS f g):=PE.by (AJ h.h h2.h) fun σ H Q zz77_0=>by
 obtain ⟨B,F,E,d,k,q,w⟩:=zz77_0
 unfold bS at q
 cases hf:f E with
 | none=>rw [hf] at q; cases q
 | some x =>
  rw [hf] at q
  refine ⟨B,F,E,x,k,hf,fun v F1 H1 x1 r1=>?_⟩
  cases hx:asB x with
  | none=>simp [hx] at q
  | some c =>
   have ex:=kX hx
   subst ex
   simp only [DC,hx] at q
   cases (show Rep F1 v (.bl c) from r1)
   refine ⟨c,rfl,?_⟩
   cases c with
   | false=>cases q; exact oW (w _ F1 H1 x1 (.bl false))
   | true=>exact oV ⟨B,F1,E,d,k.ext x1,q,fun u F2 H2 x2 r2=>w u F2 H2 (x1.trans x2) r2⟩
theorem qH {f:DE→Option D} (h:Ev X .V a f):Ev X .V (.UnaryOp .Not a pos) (kn f):=PE.by (L2.AG h.h) fun σ H Q zz78_0=>by
 obtain ⟨B,F,E,d,k,q,w⟩:=zz78_0
 unfold kn at q
 cases hf:f E with
 | none=>rw [hf] at q; cases q
 | some x =>
  rw [hf] at q
  refine ⟨B,F,E,x,k,hf,fun v F1 H1 x1 r1=>?_⟩
  cases hx:asB x with
  | none=>simp [hx] at q
  | some c =>
   have ex:=kX hx
   subst ex
   simp only [DC,hx,DF] at q
   cases q
   cases (show Rep F1 v (.bl c) from r1)
   exact ⟨c,rfl,w _ F1 H1 x1 (.bl _)⟩
def ifV (c:DE→Option Bool) (f g:DE→Option D) (E:DE):Option D:=(c E).bind fun b=>if b=true then f E else g E
theorem CN {m:Md}{cf:DE→Option Bool}{f g:DE→Option D} (hc:Et X c cf) (ha:Ev X m a f) (hb:Ev X m b g):Ev X m (.IfExp c a b pos) (ifV cf f g):=PE.by (vW hc.h ha.h hb.h) fun σ H Q zz79_0=>by
 obtain ⟨B,F,E,d,k,q,w⟩:=zz79_0
 unfold ifV at q
 cases hf:cf E with
 | none=>rw [hf] at q; cases q
 | some x =>
  rw [hf] at q
  refine ⟨B,F,E,x,k,hf,fun F1 H1 x1=>?_⟩
  cases x with
  | true=>exact oV ⟨B,F1,E,d,k.ext x1,q,fun u F2 H2 x2 r2=>w u F2 H2 (x1.trans x2) (rM.anti (fun p hp=>x1.nofree hp) r2)⟩
  | false=>exact oW ⟨B,F1,E,d,k.ext x1,q,fun u F2 H2 x2 r2=>w u F2 H2 (x1.trans x2) (rM.anti (fun p hp=>x1.nofree hp) r2)⟩
def dI (o o':D→D→Option D) (f g h:DE→Option D) (E:DE):Option D:=(f E).bind fun x=>(g E).bind fun y=>(o x y).bind fun z=>(asB z).bind fun k=>if k=true then (h E).bind fun w=>o' y w else some (.bl false)
theorem qQ {r r':R2}{o o':D→D→Option D}{f g h:DE→Option D} (hr:dP .V r o) (hr':dP .V r' o') (σ:St) (H:Hp) (Q:VK) (q:tM .V (dI o o' f g h) σ H Q):vf r r' (tM .O f) (tM .O g) (tM .O h) σ H Q:=by
 obtain ⟨B,F,E,d,k,q,w⟩:=q
 unfold dI at q
 cases hf:f E with
 | none=>simp [hf] at q
 | some x =>
  cases hg:g E with
  | none=>simp [hf,hg] at q
  | some y =>
   cases ho:o x y with
   | none=>simp [hf,hg,ho] at q
   | some z =>
    cases hz:asB z with
    | none=>simp [hf,hg,ho,hz] at q
    | some c =>
     simp only [hf,hg,ho,hz,DC] at q
     refine ⟨B,F,E,x,k,hf,fun v F1 H1 x1 r1=>⟨B,F1,E,y,k.ext x1,hg,fun u F2 H2 x2 r2=>?_⟩⟩
     refine hr F2 H2 v u x y z _ x2.sub (OB.ext x2 r1) r2 ho fun t F3 H3 x3 r3=>?_
     have ez:=kX hz
     subst ez
     cases (show Rep F3 t (.bl c) from r3)
     refine ⟨c,rfl,?_⟩
     have x13:=(x1.trans x2).trans x3
     cases c with
     | false=>cases q; exact oW (w _ F3 H3 x13 (.bl false))
     | true =>
      refine oV ?_
      cases hh:h E with
      | none=>simp [hh] at q
      | some e =>
       simp only [hh,DC,if_true] at q
       refine ⟨B,F3,E,e,k.ext x13,hh,fun p F4 H4 x4 r4=>?_⟩
       exact hr' F4 H4 u p y e d Q x4.sub (OB.ext (x3.trans x4) r2) r4 q fun t F5 H5 x5 r5=>w t F5 H5 ((x13.trans x4).trans x5) r5
theorem wW {op op':CmpOp}{r r':R2}{o o':D→D→Option D}{f g h:DE→Option D} (ho:OpR X (compareOp op) r) (hr:dP .V r o) (ho':OpR X (compareOp op') r') (hr':dP .V r' o') (ha:Ev X .O a f) (hb:Ev X .O b g) (hc:Ev X .O c h)
  (hm:lastMarks [op,op'] [b,c]=false:=by with_unfolding_all rfl):Ev X .V (.Compare a [op,op'] [b,c] pos) (dI o o' f g h):=PE.by (vY ho ho' ha.h hb.h hc.h hm) (qQ hr hr')
def be:Expr→Bool
 | .Starred _ _=>false
 | _=>true
theorem aH (e:Expr) (es:List Expr) (env:Env) (h:be e=true):starEach (e :: es) env=(false,eval e env) :: starEach es env:=by
 cases e <;> first | rfl | cases h
theorem dQ (pos:Pos) (env:Env):∀ es:List Expr,es.all be=true→(backTo pos (starEach es env)).any (·.1)=false
 | [],_=>rfl
 | e :: es,h=>by
  rw [EY,D8] at h
  rw [aH e es env h.1]
  show (false || (backTo pos (starEach es env)).any (·.1))=false
  rw [dQ pos env es h.2]; rfl
def ag (_:DE):Option (List D):=some []
def aa (f:DE→Option D) (g:DE→Option (List D)) (E:DE):Option (List D):=(f E).bind fun x=>(g E).map fun xs=>x :: xs
theorem ai:Ea X [] ag:=PA.by eI fun σ H Q ⟨B,F,E,d,k,q,w⟩=>by cases q; exact w [] F H (Ext.refl k.sub) .nil
theorem ac {es:List Expr}{f:DE→Option D}{g:DE→Option (List D)} (h:Ev X .V e f) (h2:Ea X es g) (hs:be e=true:=by rfl):Ea X (e :: es) (aa f g) :=
 PA.by (cr h.h h2.h (aH e es X.env hs)) fun σ H Q zz81_0=>by
  obtain ⟨B,F,E,d,k,q,w⟩:=zz81_0
  unfold aa at q
  cases hf:f E with
  | none=>simp [hf] at q
  | some x =>
   cases hg:g E with
   | none=>simp [hf,hg] at q
   | some xs =>
    simp only [hf,hg,DC,DF] at q
    cases q
    exact ⟨B,F,E,x,k,hf,fun v F1 H1 x1 r1=>⟨B,F1,E,xs,k.ext x1,hg,fun vs F2 H2 x2 r2=>w _ F2 H2 (x1.trans x2) (.cons (r1.mono x2.fr) r2)⟩⟩
def bE (f:DE→Option (List D)) (E:DE):Option D:=(f E).bind fun xs=>if xs.length≤sizeLine then some (.tup xs) else none
def bB (f:DE→Option (List D)) (E:DE):Option D:=(f E).bind fun xs=>if xs.length≤sizeLine then some (.lst xs) else none
theorem bu {es:List Expr}{x1}{f:DE→Option (List D)} (h:Ea X es f):Ev X .V (.Tuple es x1 pos) (bE f):=PE.by (qd h.h) fun σ H Q zz82_0=>by
 obtain ⟨B,F,E,d,k,q,w⟩:=zz82_0
 unfold bE at q
 cases hf:f E with
 | none=>simp [hf] at q
 | some xs =>
  simp only [hf,DC] at q
  split at q
  ·rename_i hz
   cases q
   refine ⟨B,F,E,xs,k,hf,fun vs F1 H1 x1 r1=>⟨by rw [r1.length]; exact hz,fun p hp=>?_⟩⟩
   have x2:=Ext.freeze (o:=HO.tup vs) x1.sub hp
   exact w _ _ _ (x1.trans x2) (.tup ar (r1.mono x2.fr))
  ·cases q
theorem bv {es:List Expr}{f:DE→Option (List D)} (h:Ea X es f):Ev X .F (.List es pos) (bB f):=PE.by (AH h.h) fun σ H Q zz83_0=>by
 obtain ⟨B,F,E,d,k,q,w⟩:=zz83_0
 unfold bB at q
 cases hf:f E with
 | none=>simp [hf] at q
 | some xs =>
  simp only [hf,DC] at q
  split at q
  ·rename_i hz
   cases q
   refine ⟨B,F,E,xs,k,hf,fun vs F1 H1 x1 r1=>⟨by rw [r1.length]; exact hz,fun p hp=>?_⟩⟩
   have x2:=Ext.lay (o:=HO.lst vs) x1.sub hp
   exact w _ _ _ (x1.trans x2) ⟨p,_,rfl,x1.nofree hp,ar,nofr x1.sub hp,r1⟩
  ·cases q
def spD (n:Nat) (g:List D→Option D):Sp:=fun vs H Q _=>∃ F ds d,(∀ a o,F a=some o→H a=some o)∧Reps F vs ds∧ds.length=n∧g ds=some d∧∀ v F' H',Ext F H F' H'→Rep F' v d→Q v H'
def al (n:Nat) (g:List D→Option D) (f:DE→Option (List D)) (E:DE):Option D:=(f E).bind fun ds=>if ds.length=n then g ds else none
theorem aA {k:Nat}{fa:Addr}{fd:FuncData}{ps:List Str}{x:Str}{p:Pos}{es:List Expr}{n:Nat}{g:List D→Option D}{f:DE→Option (List D)} (Fn:br X.prog X.w X.K X.mg X.base CX0 k fa fd ps (spD n g)) (hr:cW k X.A) (hg:Gl X x)
  (hm:X.mg x=some (.ref fa)) (hk:PySem.W.keepIn X.K (.ref fa)=true) (hb:bz X.K fd ps []) (ha:Ea X (e :: es) f) (hdb:(x == ("__debug__" : Str))=false:=by decide)
  (he:be e=true:=by rfl) (hpl:es.all be=true:=by rfl):Ev X .V (.Call (.Name x p) (e :: es) [] pos) (al n g f) :=
 PE.by (yA Fn hr hg hm hk hb .nil Ct ha.h hdb (aH e es X.env he) (dQ pos X.env es hpl)) fun σ H Q zz84_0=>by
  obtain ⟨B,F,E,d,k,q,w⟩:=zz84_0
  unfold al at q
  cases hf:f E with
  | none=>simp [hf] at q
  | some ds =>
   simp only [hf,DC] at q
   split at q
   ·rename_i hn
    refine ⟨B,F,E,ds,k,hf,fun vs F1 H1 x1 r1=>⟨F1,ds,d,x1.sub,by rw [Fb]; exact r1,hn,q,fun v F2 H2 x2 r2=>w v F2 H2 (x1.trans x2) r2⟩⟩
   ·cases q
def CV (o:List D→Option D) (f:DE→Option (List D)) (E:DE):Option D:=(f E).bind o
def k7 (m:Md) (r:List V→Hp→VK→Prop) (o:D→Option D):Prop:=∀ (F H:Hp) (v:V) (x:D) (d:D) (Q:VK),(∀ a u,F a=some u→H a=some u)→OB F H v x→o x=some d →
 (∀ u F' H',Ext F H F' H'→rM m H F' H' u d→Q u H')→r [v] H Q
def un (o:D→Option D) (f:DE→Option D) (E:DE):Option D:=(f E).bind o
theorem rf {m:Md}{r:List V→Hp→VK→Prop}{o:D→Option D}{f:DE→Option D} (hr:k7 m r o) (σ:St) (H:Hp) (Q:VK) (h:tM m (un o f) σ H Q):tCB r (zq (tM .O f) BV) σ H Q:=by
 obtain ⟨B,F,E,d,k,q,w⟩:=h
 unfold un at q
 cases hf:f E with
 | none=>simp [hf] at q
 | some x =>
  simp only [hf,DC] at q
  exact ⟨B,F,E,x,k,hf,fun v F1 H1 x1 r1=>hr F1 H1 v x d Q x1.sub r1 q fun u F2 H2 x2 r2=>w u F2 H2 (x1.trans x2) (rM.anti (fun p hp=>x1.nofree hp) r2)⟩
theorem jM {m:Md}{x:Str}{p:Pos}{id:String}{r:List V→Hp→VK→Prop}{o:D→Option D}{f:DE→Option D} (hc:cI X (.builtin id) r) (hr:k7 m r o) (hg:Gl X x) (hm:X.mg x=none) (hv:bootBuiltins x=some (.builtin id))
  (ha:Ev X .O e f) (hn:x ≠ "__name__" := by decide) (hdb:(x == ("__debug__" : Str))=false:=by decide) (he:be e=true:=by rfl):Ev X m (.Call (.Name x p) [e] [] pos) (un o f) :=
 PE.by (fU hc hg hm hv (cr ha.h eI (aH e [] X.env he)) hn hdb (aH e [] X.env he) rfl) (rf hr)
theorem wV {m:Md}{x:Str}{p:Pos}{T:String}{r:List V→Hp→VK→Prop}{o:D→Option D}{f:DE→Option D} (hc:cI X (.type T) r) (hr:k7 m r o) (hg:Gl X x) (hm:X.mg x=none) (hv:bootBuiltins x=some (.type T))
  (ha:Ev X .O e f) (hn:x ≠ "__name__" := by decide) (hdb:(x == ("__debug__" : Str))=false:=by decide) (he:be e=true:=by rfl):Ev X m (.Call (.Name x p) [e] [] pos) (un o f) :=
 PE.by (tJ hc hg hm hv (cr ha.h eI (aH e [] X.env he)) hn hdb (aH e [] X.env he) rfl) (rf hr)
end
section
variable {X:Cx}{e:Expr}{pos:Pos}{st:Stmt}{cg:List Stmt}
def aQ (E:DE):Option Out:=some (.nx E)
def ay (f g:DE→Option Out) (E:DE):Option Out:=(f E).bind fun r=>match r with
 | .nx E'=>g E'
 | r=>some r
theorem aR:Ess X [] aQ:=PSs.by yh fun Z σ H ⟨B,F,E,r,k,q,w⟩=>by cases q; exact w σ F H k fun _ _ e=>e
theorem ap {f:DE→Option Out} (h:Es X st f):Ess X [st] f:=⟨rK h.h⟩
theorem ah {f g:DE→Option Out} (h:Es X st f) (h2:Ess X cg g):Ess X (st :: cg) (ay f g):=PSs.by (vG h.h h2.h) fun Z σ H zz86_0=>by
 obtain ⟨B,F,E,r,k,q,w⟩:=zz86_0
 unfold ay at q
 cases hf:f E with
 | none=>simp [hf] at q
 | some r1 =>
  rw [hf] at q
  cases r1 with
  | nx E'=>exact ⟨B,F,E,.nx E',k,hf,fun σ' F' H' k' y=>⟨B,F',E',r,k',q,w.mono y⟩⟩
  | rt d=>cases q; exact ⟨B,F,E,.rt d,k,hf,w⟩
  | bk E'=>cases q; exact ⟨B,F,E,.bk E',k,hf,w⟩
  | ct E'=>cases q; exact ⟨B,F,E,.ct E',k,hf,w⟩
theorem ph {f:DE→Option Out} (i:Nat) (h:Es X st f):Es X st (fun E=>f (fzE i E)):=⟨fun pins s σ H Z I zz87_0=>by
 obtain ⟨B,F,E,r,k,q,w⟩:=zz87_0
 obtain ⟨F',H',I',k',y⟩:=Ok.fz I k i
 exact h.h pins s σ H' Z I' ⟨B,F',fzE i E,r,k',q,w.mono y⟩⟩
def aw (f:DE→Option D) (E:DE):Option Out:=(f E).map Out.rt
theorem aD {f:DE→Option D} (h:Ev X .V e f):Es X (.Return (some e) pos) (aw f):=PS.by (Ax h.h) fun Z σ H zz88_0=>by
 obtain ⟨B,F,E,r,k,q,w⟩:=zz88_0
 unfold aw at q
 cases hf:f E with
 | none=>simp [hf] at q
 | some d =>
  simp only [hf,DF] at q
  cases q
  exact ⟨B,F,E,d,k,hf,fun v F' H' x r=>w v F' H' (k.ent.trans x) r⟩
def B9 (_:DE):Option Out:=some (.rt .non)
def ifS (c:DE→Option Bool) (f g:DE→Option Out) (E:DE):Option Out:=(c E).bind fun b=>if b=true then f E else g E
theorem bT {c:Expr}{a b:List Stmt}{cf:DE→Option Bool}{f g:DE→Option Out} (hc:Et X c cf) (ha:Ess X a f) (hb:Ess X b g):Es X (.If c a b pos) (ifS cf f g):=PS.by (Cl hc.h ha.h hb.h) fun Z σ H zz89_0=>by
 obtain ⟨B,F,E,r,k,q,w⟩:=zz89_0
 unfold ifS at q
 cases hf:cf E with
 | none=>simp [hf] at q
 | some x =>
  rw [hf] at q
  refine ⟨B,F,E,x,k,hf,fun F1 H1 x1=>?_⟩
  cases x with
  | true=>exact oV ⟨B,F1,E,r,k.ext x1,q,w.mono x1.fr⟩
  | false=>exact oW ⟨B,F1,E,r,k.ext x1,q,w.mono x1.fr⟩
def aB (i:Nat) (f:DE→Option D) (E:DE):Option Out:=(f E).map fun d=>.nx (E.set i (.val d))
def dF (i:Nat) (f:DE→Option D) (E:DE):Option Out:=(f E).map fun d=>.nx (E.set i (.own d))
theorem nR {i:Nat}{f:DE→Option D} (Z:d_) (σ:St) (H:Hp) (h:tS (aB i f) Z σ H):vg (tM .V f) (l3 i) Z σ H:=by
 obtain ⟨B,F,E,r,k,q,w⟩:=h
 unfold aB at q
 cases hf:f E with
 | none=>simp [hf] at q
 | some d =>
  simp only [hf,DF] at q
  cases q
  exact ⟨B,F,E,d,k,hf,fun v F' H' x r=>w _ F' H' ((k.ext x).set_val r i) x.fr⟩
theorem n6 {i:Nat}{f:DE→Option D} (Z:d_) (σ:St) (H:Hp) (h:tS (dF i f) Z σ H):vg (tM .F f) (l3 i) Z σ H:=by
 obtain ⟨B,F,E,r,k,q,w⟩:=h
 unfold dF at q
 cases hf:f E with
 | none=>simp [hf] at q
 | some d =>
  simp only [hf,DF] at q
  cases q
  refine ⟨B,F,E,d,k,hf,fun v F' H' x r=>?_⟩
  obtain ⟨a,o,rfl,h2,h3,h4,h5⟩:=r
  have k':=k.ext x
  have hb:B.2 a=none:=k.ent.nofree h2
  have hfr:∃ fp,OkF fp B F' H' σ E∧∀ (j:Nat) s,E[j]? = some (.obj s)→a ∉ fp j:=by
   obtain ⟨fp,m⟩:=k.ob
   exact ⟨fp,m.ext x,fun j t hj hm=>(m.at_ j t hj).2.1.dom a hm h2⟩
  have z:=k'.put_own (a:=a) (o:=o) i h4 hb h5 fun j e hj he hs=>by
   obtain ⟨b,u,g1,g2,_⟩:=k.own j e he
   rw [g1] at hs
   cases hs
   rw [h2] at g2
   cases g2
  have z:=z hfr
  have eu:upd H' a o=H':=by
   funext c
   unfold upd
   split
   ·rename_i hc; rw [hc,h3]
   ·rfl
  rw [eu] at z
  exact w _ F' H' z x.fr
theorem aG {i:Nat}{x:Str}{pos':Pos}{f:DE→Option D} (hN:X.N.Nodup) (hi:X.N[i]? = some x) (hx:Loc X.env.scope x) (he:Ev X .V e f) (hs:swapsWith e (some (.Name x pos')) pos.line X.env=pure false:=by rfl)
  (hf:X.fn x=true∨X.env.scope.names.lookup x=some .local:=by first | exact .inl rfl | exact .inr rfl | assumption):Es X (.Assign [.Name x pos'] e pos) (aB i f):=PS.by (vH hN hi hx he.h hs hf) nR
theorem iZ {i:Nat}{x:Str}{pos':Pos}{f:DE→Option D} (hN:X.N.Nodup) (hi:X.N[i]? = some x) (hx:Loc X.env.scope x) (he:Ev X .F e f) (hs:swapsWith e (some (.Name x pos')) pos.line X.env=pure false:=by rfl)
  (hf:X.fn x=true∨X.env.scope.names.lookup x=some .local:=by first | exact .inl rfl | exact .inr rfl | assumption):Es X (.Assign [.Name x pos'] e pos) (dF i f):=PS.by (vH hN hi hx he.h hs hf) n6
end
def qY (F:Hp) (J:It) (xs:List D):Prop:=∀ (i:Nat) (F2 H2:Hp),Fr F F2→(∀ a o,F2 a=some o→H2 a=some o) →
 (xs.length=i→J.stop i H2)∧∀ d,xs[i]? = some d→J.go i H2∧∀ x H',J.yld i H2 x H'→∃ F3,Ext F2 H2 F3 H'∧Rep F3 x d
def tIt (f:DE→Option (List D)):TI:=fun σ H R=>∃ B F E xs,Ok B F H σ E∧f E=some xs∧∀ J F' H',Ext F H F' H'→qY F' J xs→R J H'
structure Ei (X:Cx) (tg iter:Expr) (f:DE→Option (List D)):Prop where
 h:PI X tg iter (tIt f)
def tG (gf:D→DE→Option DE):TG:=fun v σ H Q=>∃ B F E d E',Ok B F H σ E∧Rep F v d∧gf d E=some E'∧∀ σ' F' H',Ok B F' H' σ' E'→Ext F H F' H'→Q σ' H'
structure Eg (X:Cx) (tg:Expr) (gf:D→DE→Option DE):Prop where
 h:PG X tg (tG gf)
section
variable {X:Cx}{pos:Pos}
theorem PI.by {tg iter:Expr}{wi:TI}{f:DE→Option (List D)} (h:PI X tg iter wi) (w:∀ σ H R,tIt f σ H R→wi σ H R):Ei X tg iter f:=⟨fun pins s σ H R I q=>h pins s σ H R I (w σ H R q)⟩
theorem PI.or {tg iter:Expr}{wi wi':TI} (h:PI X tg iter wi) (h':PI X tg iter wi'):PI X tg iter (fun σ H R=>wi σ H R∨wi' σ H R):=fun pins s σ H R I q=>q.elim (h pins s σ H R I) (h' pins s σ H R I)
theorem PG.by {tg:Expr}{t:TG}{gf:D→DE→Option DE} (h:PG X tg t) (w:∀ v σ H Q,tG gf v σ H Q→t v σ H Q):Eg X tg gf:=⟨fun pins s σ H v u Q I r q=>h pins s σ H v u Q I r (w v σ H Q q)⟩
def nmG (i:Nat) (d:D) (E:DE):Option DE:=some (E.set i (.val d))
theorem aK {i:Nat}{x:Str} (hN:X.N.Nodup) (hi:X.N[i]? = some x) (hx:Loc X.env.scope x) (hf:X.fn x=true∨X.env.scope.names.lookup x=some .local:=by first | exact .inl rfl | exact .inr rfl | assumption):Eg X (.Name x pos) (nmG i) :=
 PG.by (yt hN hi hx hf) fun v σ H Q ⟨B,F,E,d,E',k,r,q,w⟩=>by cases q; exact w _ F H (k.set_val r i) (Ext.refl k.sub)
def tGs (gf:List D→DE→Option DE):TGs:=fun vs σ H Q=>∃ B F E ds E',Ok B F H σ E∧Reps F vs ds∧gf ds E=some E'∧∀ σ' F' H',Ok B F' H' σ' E'→Ext F H F' H'→Q σ' H'
structure Egs (X:Cx) (ts:List Expr) (gf:List D→DE→Option DE):Prop where
 h:PGs X ts (tGs gf)
def dc (ds:List D) (E:DE):Option DE:=match ds with
 | []=>some E
 | _=>none
def bh (g:D→DE→Option DE) (gs:List D→DE→Option DE) (ds:List D) (E:DE):Option DE:=match ds with
 | d :: r=>(g d E).bind fun E'=>gs r E'
 | _=>none
theorem gD:Egs X [] dc:=⟨fun pins s σ H vs us Q I r zz91_0=>by
 obtain ⟨B,F,E,ds,E',k,rd,q,w⟩:=zz91_0
 cases ds with
 | nil=>cases q; cases rd; exact yr pins s σ H [] us Q I r ⟨rfl,w σ F H k (Ext.refl k.sub)⟩
 | cons _ _=>cases q⟩
theorem cw {e:Expr}{es:List Expr}{g:D→DE→Option DE}{gs:List D→DE→Option DE} (h1:Eg X e g) (h2:Egs X es gs)
  (he:(assignEach (e :: es) X.env).map (·.2)=assign e X.env :: (assignEach es X.env).map (·.2):=by rfl):Egs X (e :: es) (bh g gs):=⟨fun pins s σ H vs us Q I r zz92_0=>by
 obtain ⟨B,F,E,ds,E',k,rd,q,w⟩:=zz92_0
 cases ds with
 | nil=>cases q
 | cons d ds =>
  cases rd with
  | @cons v _ vs _ r1 r2 =>
   unfold bh at q
   cases hg:g d E with
   | none=>simp [hg] at q
   | some E1 =>
    simp only [hg,DC] at q
    refine vR h1.h h2.h he pins s σ H _ us Q I r ⟨v,vs,rfl,B,F,E,d,E1,k,r1,hg,fun σ1 F1 H1 k1 x1=>⟨B,F1,E1,ds,E',k1,r2.mono x1.fr,q,fun σ2 F2 H2 k2 x2=>w σ2 F2 H2 k2 (x1.trans x2)⟩⟩⟩
def dJ (n:Nat) (gs:List D→DE→Option DE) (d:D) (E:DE):Option DE:=match d with
 | .tup ds=>if ds.length=n then gs ds E else none
 | _=>none
theorem kP {es:List Expr}{kk:Nat}{gs:List D→DE→Option DE}{n:Nat} (hc:X.calm=true) (h:Egs X es gs) (hn:(assignEach es X.env).length=n:=by rfl) (hst:(assignEach es X.env).findIdx? (·.1)=none:=by rfl) :
  Eg X (.Tuple es kk pos) (dJ n gs):=PG.by (vS hc h.h hn hst) fun v σ H Q zz93_0=>by
 obtain ⟨B,F,E,d,E',k,r,q,w⟩:=zz93_0
 cases d with
 | tup ds =>
  have q':(if ds.length=n then gs ds E else none)=some E':=q
  by_cases hl:ds.length=n
  ·rw [if_pos hl] at q'
   cases r with
   | @tup a vs _ e rs=>exact ⟨a,vs,rfl,SqT.of (k.sub _ _ e),by rw [rs.length]; exact hl,B,F,E,ds,E',k,rs,q',w⟩
  ·rw [if_neg hl] at q'; cases q'
 | _=>cases q
end
def eA (body:D→DE→Option Out):List D→DE→Option Out
 | [],E=>some (.nx E)
 | x :: xs,E=>(body x E).bind fun r=>match r with
  | .nx E'=>eA body xs E'
  | .ct E'=>eA body xs E'
  | .bk E'=>some (.nx E')
  | .rt d=>some (.rt d)
def fD (fi:DE→Option (List D)) (gf:D→DE→Option DE) (fb:DE→Option Out) (E:DE):Option Out:=(fi E).bind fun xs=>eA (fun x E1=>(gf x E1).bind fb) xs E
section
variable {X:Cx}{pos:Pos}
theorem i4 {tg iter:Expr}{body:List Stmt}{fi:DE→Option (List D)} {gf:D→DE→Option DE}{fb:DE→Option Out} (hp:PassesOwn (model X.prog X.w) X.A X.env X.xe) (hc:X.calm=true) (hi:Ei X tg iter fi) (hg:Eg X tg gf) (hb:Ess X body fb)
  (hs:∀ x,foldedSetIterable iter X.env x=pure x:=by intro _; rfl):Es X (.For tg iter body [] pos) (fD fi gf fb):=PS.by (Az hp hc hi.h hg.h hb.h hs) fun Z σ H zz94_0=>by
 obtain ⟨B,F,E,r,k,q,w⟩:=zz94_0
 unfold fD at q
 cases hf:fi E with
 | none=>simp [hf] at q
 | some xs =>
  simp only [hf,DC] at q
  refine ⟨B,F,E,xs,k,hf,fun J F1 H1 x1 it=>?_⟩
  refine ⟨fun i m σ' H'=>∃ F' E',Ok B F' H' σ' E'∧Fr F1 F'∧i≤xs.length∧m=xs.length - i∧eA (fun x E1=>(gf x E1).bind fb) (xs.drop i) E'=some r,⟨_,F1,E,k.ext x1,fun _ _ e=>e,E_ _,rfl,q⟩,?_⟩
  rintro i m σ' H' ⟨F',E',k',y,hi,rfl,ql⟩
  have fitF:lq B F' Z r:=w.mono fun a o e=>y a o (x1.fr a o e)
  obtain ⟨st,gn⟩:=it i F' H' y k'.sub
  by_cases hlt:i < xs.length
  ·right
   have hx:xs[i]? = some xs[i]:=by simp [hlt]
   obtain ⟨go,yl⟩:=gn _ hx
   rw [Ff hlt] at ql
   unfold eA at ql
   refine ⟨go,fun σ2 H2=>∃ F2 E2,Ok B F2 H2 σ2 E2∧Fr F1 F2∧eA (fun x E1=>(gf x E1).bind fb) (xs.drop (i + 1)) E2=some r,?_,?_⟩
   ·rintro σ2 H2 ⟨F2,E2,k2,y2,q2⟩
    exact ⟨xs.length - (i + 1),by omega,F2,E2,k2,y2,hlt,rfl,q2⟩
   ·intro x H2 hy
    obtain ⟨F3,x3,r3⟩:=yl x H2 hy
    cases hgf:gf xs[i] E' with
    | none=>simp [hgf] at ql
    | some E3 =>
     cases hfb:fb E3 with
     | none=>simp [hgf,hfb] at ql
     | some r1 =>
      simp only [hgf,hfb,DC] at ql
      have k3:=k'.ext x3
      refine ⟨B,F3,E',xs[i],E3,k3,r3,hgf,fun σ4 F4 H4 k4 x4=>⟨B,F4,E3,r1,k4,hfb,?_⟩⟩
      have y4:Fr F1 F4:=fun a o e=>x4.fr a o (x3.fr a o (y a o e))
      have f4:Fr F' F4:=fun a o e=>x4.fr a o (x3.fr a o e)
      cases r1 with
      | nx E5=>exact fun σ5 F5 H5 k5 y5=>⟨F5,E5,k5,fun a o e=>y5 a o (y4 a o e),ql⟩
      | ct E5=>exact fun σ5 F5 H5 k5 y5=>⟨F5,E5,k5,fun a o e=>y5 a o (y4 a o e),ql⟩
      | bk E5 =>
       simp only at ql
       cases ql
       exact fun σ5 F5 H5 k5 y5=>fitF σ5 F5 H5 k5 fun a o e=>y5 a o (f4 a o e)
      | rt d =>
       simp only at ql
       cases ql
       exact fitF
  ·left
   have e:i=xs.length:=by omega
   subst e
   refine ⟨st rfl,?_⟩
   rw [Gn] at ql
   cases ql
   exact fitF σ' F' H' k' fun _ _ e=>e
end
def aU (js:List Nat) (E:DE):DE:=js.foldl (fun a j=>a.set j .no) E
theorem Ok.no {B:Hp×Hp}{F H:Hp} {σ:St}{E:DE} (k:Ok B F H σ E) (i:Nat):Ok B F H σ (E.set i .no):=by
 have bk:∀ (j:Nat) s,s ≠ Sl.no→(E.set i .no)[j]? = some s→E[j]? = some s:=fun j s hs h=>by
  rw [D_] at h
  split at h
  ·split at h
   ·simp at h; exact absurd h.symm hs
   ·simp at h
  ·exact h
 exact ⟨k.ent,by rw [El]; exact k.len,fun j d h=>k.val j d (bk j _ (by simp) h),fun j d h=>k.own j d (bk j _ (by simp) h),fun j l d e a hjl h1 h2=>k.sep j l d e a hjl (bk j _ (by simp) h1) (bk l _ (by simp) h2),
  let ⟨fp,q⟩:=k.ob; ⟨fp,q.to (fun _ _ e=>e) (fun j s h=>⟨bk j _ (by simp) h,rfl⟩) (fun j s h=>⟨bk j _ (by simp) h,rfl⟩) (fun j s h x hx=>⟨fun _ e=>e,(q.at_ j s (bk j _ (by simp) h)).2.2.2 x hx⟩) (fun j l s d b h1 h2=>q.sep j l s d b (bk j _ (by simp) h1) (bk l _ (by simp) h2))⟩⟩
theorem Ok.noS {B:Hp×Hp}{F H:Hp} {σ:St}{E:DE} (k:Ok B F H σ E) (i:Nat):Ok B F H (σ.set i none) (E.set i .no):=by
 have bk:∀ (j:Nat) s,s ≠ Sl.no→(E.set i .no)[j]? = some s→i ≠ j∧E[j]? = some s:=fun j s hs h=>by
  rw [D_] at h
  split at h
  ·split at h
   ·simp at h; exact absurd h.symm hs
   ·simp at h
  ·exact ⟨by assumption,h⟩
 refine ⟨k.ent,by rw [El,El]; exact k.len,fun j d h=>?_,fun j d h=>?_,fun j l d e a hjl h1 h2 h3 h4=>?_,?_⟩
 ·obtain ⟨n,h⟩:=bk j _ (by simp) h
  rw [D2 n]; exact k.val j d h
 ·obtain ⟨n,h⟩:=bk j _ (by simp) h
  rw [D2 n]; exact k.own j d h
 ·obtain ⟨n1,h1⟩:=bk j _ (by simp) h1
  obtain ⟨n2,h2⟩:=bk l _ (by simp) h2
  rw [D2 n1] at h3
  rw [D2 n2] at h4
  exact k.sep j l d e a hjl h1 h2 h3 h4
 ·obtain ⟨fp,q⟩:=k.ob
  exact ⟨fp,q.to (fun _ _ e=>e) (fun j s h=>⟨(bk j _ (by simp) h).2,D2 (bk j _ (by simp) h).1⟩) (fun j s h=>⟨(bk j _ (by simp) h).2,D2 (bk j _ (by simp) h).1⟩)
   (fun j s h x hx=>⟨fun _ e=>e,(q.at_ j s (bk j _ (by simp) h).2).2.2.2 x hx⟩) (fun j l s e b h1 h2 h3=>by
    obtain ⟨n2,h2⟩:=bk l _ (by simp) h2
    rw [D2 n2] at h3
    exact q.sep j l s e b (bk j _ (by simp) h1).2 h2 h3)⟩
theorem Ok.mask {B:Hp×Hp}{F H:Hp} {σ:St} (js:List Nat):∀ {E:DE},Ok B F H σ E→Ok B F H σ (aU js E):=by
 induction js with
 | nil=>intro E k; exact k
 | cons j r ih=>intro E k; exact ih (k.no j)
theorem Ok.maskS {B:Hp×Hp}{F H:Hp} (js:List Nat):∀ {σ:St}{E:DE},Ok B F H σ E→Ok B F H (L2.maskS js σ) (aU js E):=by
 induction js with
 | nil=>intro σ E k; exact k
 | cons j r ih=>intro σ E k; exact ih (k.noS j)
theorem Ok.withD {B:Hp×Hp}{F H:Hp} {σ:St}{E:DE} (k:Ok B F H σ E) {p:Addr}{o:HO} (hp:H p=none):Ok (B.1,upd B.2 p o) F (upd H p o) σ E:=by
 have nb:∀ a u,B.2 a=some u→a ≠ p:=fun a u e z=>by rw [z] at e; rw [k.ent.same p u e] at hp; cases hp
 obtain ⟨fp,m⟩:=k.ob
 have np:∀ (i:Nat) s,E[i]? = some (.obj s)→∀ x ∈ fp i,x ≠ p:=fun i s h x hx z=>(m.at_ i s h).2.1.dom x hx (by rw [z]; exact hp)
 refine ⟨⟨fun a u e=>?_,k.ent.fr,fun a u e=>?_,fun a e n=>?_⟩,k.len,k.val,fun i d h=>?_,k.sep,
  fp,m.to (fun _ _ e=>e) (fun i s h=>⟨h,rfl⟩) (fun i s h=>⟨h,rfl⟩) (fun i s h x hx=>⟨fun u e=>by rw [am (np i s h x hx)]; exact e,((m.at_ i s h).2.2.2 x hx).1,by show upd B.2 p o x=none; rw [am (np i s h x hx)]; exact ((m.at_ i s h).2.2.2 x hx).2⟩) m.sep⟩
 ·by_cases ha:a=p
  ·subst ha
   have e':upd B.2 a o a=some u:=e
   rw [ar] at e' ⊢; exact e'
  ·have e':upd B.2 p o a=some u:=e
   rw [am ha] at e' ⊢; exact k.ent.same a u e'
 ·rw [am (bL (k.sub a u e) hp)]; exact k.sub a u e
 ·by_cases ha:a=p
  ·subst ha; exact nofr k.sub hp
  ·refine k.ent.new a e fun z=>n ?_
   show upd B.2 p o a=none
   rw [am ha]; exact z
 ·obtain ⟨a,u,h1,h2,h3,h4,h5⟩:=k.own i d h
  have ha:a ≠ p:=bL h2 hp
  exact ⟨a,u,h1,by rw [am ha]; exact h2,h3,by show upd B.2 p o a=none; rw [am ha]; exact h4,h5⟩
theorem Ok.stepD {B1 B2 F H:Hp} {σ:St}{E:DE}{p:Addr}{o o':HO} (k:Ok (B1,upd B2 p o) F H σ E) (hb:B1 p=none):Ok (B1,upd B2 p o') F (upd H p o') σ E:=by
 have fp:F p=none:=k.ent.new p hb (by show upd B2 p o p ≠ none; rw [ar]; simp)
 obtain ⟨fq,m⟩:=k.ob
 have np:∀ (i:Nat) s,E[i]? = some (.obj s)→∀ x ∈ fq i,x ≠ p:=fun i s h x hx z=>by
  have q:upd B2 p o x=none:=((m.at_ i s h).2.2.2 x hx).2
  rw [z,ar] at q; cases q
 refine ⟨⟨fun a u e=>?_,k.ent.fr,fun a u e=>?_,fun a e n=>?_⟩,k.len,k.val,fun i d h=>?_,k.sep,
  fq,m.to (fun _ _ e=>e) (fun i s h=>⟨h,rfl⟩) (fun i s h=>⟨h,rfl⟩) (fun i s h x hx=>⟨fun u e=>by rw [am (np i s h x hx)]; exact e,((m.at_ i s h).2.2.2 x hx).1,by
   have q:upd B2 p o x=none:=((m.at_ i s h).2.2.2 x hx).2
   rw [am (np i s h x hx)] at q
   show upd B2 p o' x=none
   rw [am (np i s h x hx)]; exact q⟩) m.sep⟩
 ·by_cases ha:a=p
  ·subst ha
   have e':upd B2 a o' a=some u:=e
   rw [ar] at e' ⊢; exact e'
  ·have e':upd B2 p o' a=some u:=e
   rw [am ha] at e' ⊢
   exact k.ent.same a u (by show upd B2 p o a=some u; rw [am ha]; exact e')
 ·rw [am (fun z=>by rw [z,fp] at e; cases e)]; exact k.sub a u e
 ·by_cases ha:a=p
  ·subst ha; exact fp
  ·have n':upd B2 p o' a ≠ none:=n
   rw [am ha] at n'
   exact k.ent.new a e (by show upd B2 p o a ≠ none; rw [am ha]; exact n')
 ·obtain ⟨a,u,h1,h2,h3,h4,h5⟩:=k.own i d h
  have ha:a ≠ p:=fun z=>by
   have h4':upd B2 p o a=none:=h4
   rw [z,ar] at h4'; cases h4'
  have h4':upd B2 p o a=none:=h4
  rw [am ha] at h4'
  exact ⟨a,u,h1,by rw [am ha]; exact h2,h3,by show upd B2 p o' a=none; rw [am ha]; exact h4',h5⟩
theorem Ext.stepD {F H F' H':Hp}{p:Addr}{o o':HO} (x:Ext F (upd H p o) F' H') (hf:F p=none):Ext F (upd H p o') F' (upd H' p o'):=by
 have fp:F' p=none:=x.new p hf (by rw [ar]; simp)
 refine ⟨fun a u e=>?_,x.fr,fun a u e=>?_,fun a e n=>?_⟩
 ·by_cases ha:a=p
  ·subst ha; rw [ar] at e ⊢; exact e
  ·rw [am ha] at e ⊢; exact x.same a u (by rw [am ha]; exact e)
 ·rw [am (fun z=>by rw [z,fp] at e; cases e)]; exact x.sub a u e
 ·by_cases ha:a=p
  ·subst ha; exact fp
  ·rw [am ha] at n
   exact x.new a e (by rw [am ha]; exact n)
def bO (gf:D→DE→Option DE) (cf:DE→Option Bool) (ef:DE→Option D) (E:DE):List D→Option (List D)
 | []=>some []
 | x :: xs=>(gf x E).bind fun E1=>(cf E1).bind fun b=>if b=true then (ef E1).bind fun y=>(bO gf cf ef E xs).map fun ys=>y :: ys else bO gf cf ef E xs
def aE (js:List Nat) (fi:DE→Option (List D)) (gf:D→DE→Option DE) (cf:DE→Option Bool) (ef:DE→Option D) (E:DE):Option D :=
 (fi E).bind fun xs=>if xs.length≤sizeLine then (bO gf cf ef (aU js E) xs).map D.lst else none
def i8 (js:List Nat) (gf:D→DE→Option DE):Prop:=∀ d E E1,gf d (aU js E)=some E1→aU js E1=aU js E
theorem i6 {js:List Nat}{fi:DE→Option (List D)} {gf:D→DE→Option DE}{cf:DE→Option Bool}{ef:DE→Option D} (hj:i8 js gf) (σ:St) (H:Hp) (Q:VK)
  (h:tM .F (aE js fi gf cf ef) σ H Q):ve js (tIt fi) (tG gf) (tT cf) (tM .V ef) σ H Q:=by
 refine EC fun hn=>?_
 obtain ⟨B,F,E,d,k,q,w⟩:=h
 unfold aE at q
 cases hf:fi E with
 | none=>simp [hf] at q
 | some xs =>
  simp only [hf,DC] at q
  split at q
  ·rename_i hz
   cases hq:bO gf cf ef (aU js E) xs with
   | none=>simp [hq] at q
   | some ys =>
    rw [hq] at q
    cases q
    refine hn ⟨B,F,E,xs,k,hf,fun J F1 H1 x1 it p hp=>?_⟩
    have k1:=k.ext x1
    have f1p:F1 p=none:=nofr x1.sub hp
    have b1p:B.1 p=none:=by
     cases z:B.1 p with
     | none=>rfl
     | some u=>rw [k1.ent.fr p u z] at f1p; cases f1p
    refine ⟨fun i m σ' H'=>∃ F' vs dn rs,Ok (B.1,upd B.2 p (.lst vs)) F' H' σ' (aU js E)∧Ext F1 (upd H1 p (.lst vs)) F' H'∧Reps F' vs dn∧i≤xs.length∧m=xs.length - i∧vs.length≤i∧bO gf cf ef (aU js E) (xs.drop i)=some rs∧ys=dn ++ rs,
     ⟨_,F1,[],[],ys,((k1.maskS js).withD hp),Ext.refl fun a o e=>by rw [am (bL (x1.sub a o e) hp)]; exact x1.sub a o e,.nil,E_ _,rfl,DZ _,hq,rfl⟩,?_⟩
    intro i m σ' H' hw
    refine EC fun hn=>?_
    obtain ⟨F',vs,dn,rs,k',x',rp,hi,rfl,hvi,hl,rfl⟩:=hw
    obtain ⟨st,gn⟩:=it i F' H' x'.fr x'.sub
    have hHp:H' p=some (.lst vs):=x'.same p _ ar
    by_cases hlt:i < xs.length
    ·have hx:xs[i]? = some xs[i]:=by simp [hlt]
     obtain ⟨go,yl⟩:=gn _ hx
     refine hn (.inr ⟨go,fun x H2 hy=>?_⟩)
     clear hn
     refine EC fun hn=>?_
     obtain ⟨F3,x3,r3⟩:=yl x H2 hy
     rw [Ff hlt] at hl
     unfold bO at hl
     cases h1:gf xs[i] (aU js E) with
     | none=>simp [h1] at hl
     | some E1 =>
      cases h2:cf E1 with
      | none=>simp [h1,h2] at hl
      | some b =>
       simp only [h1,h2,DC] at hl
       refine hn ⟨_,F3,_,xs[i],E1,k'.ext x3,r3,h1,fun σ4 F4 H4 k4 x4=>⟨_,F4,E1,b,k4,h2,fun F5 H5 x5=>?_⟩⟩
       clear hn
       refine EC fun hn=>?_
       have x45:=(x3.trans x4).trans x5
       cases b with
       | false =>
        simp only [DR,GF] at hl
        refine hn (oW ⟨xs.length - (i + 1),by omega,F5,vs,dn,rs,?_,x'.trans x45,rp.mono x45.fr,hlt,rfl,by omega,hl,rfl⟩)
        have kk:=(k4.ext x5).mask js
        rw [hj _ _ _ h1] at kk
        exact kk
       | true =>
        cases h3:ef E1 with
        | none=>simp [h3] at hl
        | some y =>
         cases h4:bO gf cf ef (aU js E) (xs.drop (i + 1)) with
         | none=>simp [h3,h4] at hl
         | some zs =>
          simp only [h3,h4,DC,if_true,DF] at hl
          cases hl
          refine hn (oV ⟨_,F5,E1,y,k4.ext x5,h3,fun v F6 H6 x6 r6=>⟨vs,(x45.trans x6).same p _ hHp,by omega,xs.length - (i + 1),by omega,F6,vs ++ [v],dn ++ [y],zs,?_,?_,?_,hlt,rfl,by rw [D9]; simp; omega,h4,by simp⟩⟩)
          ·have kk:=((k4.ext x5).ext x6).mask js
           rw [hj _ _ _ h1] at kk
           exact kk.stepD b1p
          ·exact (x'.trans (x45.trans x6)).stepD f1p
          ·exact (rp.mono (x45.trans x6).fr).append (.cons r6 .nil)
    ·have e:i=xs.length:=by omega
     subst e
     refine hn (.inl ⟨st rfl,?_⟩)
     rw [Gn] at hl
     cases hl
     refine w _ F' H' (x1.trans ((Ext.lay x1.sub hp).trans x')) ⟨p,_,rfl,x1.nofree hp,hHp,x'.new p f1p (by rw [ar]; simp),?_⟩
     rw [Fb]
     exact rp
  ·cases q
def noT (_:DE):Option Bool:=some true
theorem tY (σ:St) (H:Hp) (Q:Bool→Hp→Prop) (h:tT noT σ H Q):zp σ H Q:=by
 obtain ⟨B,F,E,b,k,q,w⟩:=h
 cases q
 exact w F H (Ext.refl k.sub)
structure xH (X:Cx) (ifs:List Expr) (f:DE→Option Bool):Prop where
 h:uP X ifs (tT f)
theorem bg {X:Cx}:xH X [] noT:=⟨fun pins s σ H Q I h=>vO pins s σ H Q I (tY σ H Q h)⟩
theorem xh {X:Cx}{c:Expr}{f:DE→Option Bool} (h:Et X c f):xH X [c] f:=⟨vN h.h⟩
section
variable {X:Cx}{scope:Scope}{js:List Nat}{elt tg iter:Expr}{ifs:List Expr}{pos:Pos}{fi:DE→Option (List D)} {gf:D→DE→Option DE}{cf:DE→Option Bool}{ef:DE→Option D}
theorem bV (b:Blk X scope js) (hc:X.calm=true) (hI:Ei X tg iter fi) (hj:i8 js gf) (hg:∀ C fp s0 H0,Eg (b9 X scope C fp s0 H0) tg gf) (hi:∀ C fp s0 H0,xH (b9 X scope C fp s0 H0) ifs cf)
  (he:∀ C fp s0 H0,Ev (b9 X scope C fp s0 H0) .V elt ef) (hs:∀ x,foldedSetIterable iter X.env x=pure x:=by intro _; rfl):Ev X .F (.ListComp elt [⟨tg,iter,ifs,0⟩] scope pos) (aE js fi gf cf ef) :=
 PE.by (yz b hc hI.h (fun C fp s0 H0=>(hg C fp s0 H0).h) (fun C fp s0 H0=>(hi C fp s0 H0).h) (fun C fp s0 H0=>(he C fp s0 H0).h) hs) (i6 hj)
theorem sv {i:Nat}{x:Str}{px:Pos}{spos:Pos} (hN:X.N.Nodup) (hix:X.N[i]? = some x) (hx:Loc X.env.scope x) (b:Blk X scope js) (hc:X.calm=true) (hI:Ei X tg iter fi) (hj:i8 js gf)
  (hg:∀ C fp s0 H0,Eg (b9 X scope C fp s0 H0) tg gf) (hi:∀ C fp s0 H0,xH (b9 X scope C fp s0 H0) ifs cf) (he:∀ C fp s0 H0,Ev (b9 X scope C fp s0 H0) .V elt ef)
  (hsw:swapsWith (.ListComp elt [⟨tg,iter,ifs,0⟩] scope pos) (some (.Name x px)) spos.line X.env=pure true)
  (hfn:X.fn x=true∨X.env.scope.names.lookup x=some .local:=by first | exact .inl rfl | exact .inr rfl | assumption) (hs:∀ x,foldedSetIterable iter X.env x=pure x:=by intro _; rfl) :
  Es X (.Assign [.Name x px] (.ListComp elt [⟨tg,iter,ifs,0⟩] scope pos) spos) (dF i (aE js fi gf cf ef)):=PS.by (rL hN hix hx b hc hI.h (fun C fp s0 H0=>(hg C fp s0 H0).h) (fun C fp s0 H0=>(hi C fp s0 H0).h) (fun C fp s0 H0=>(he C fp s0 H0).h) hsw hfn hs) fun Z σ H h=>i6 hj σ H _ (n6 Z σ H h)
end
def zN (sc:Scope) (N:List Str) (scope:Scope) (js:List Nat):Bool :=
 decide (scope.kind=.function) && scope.names.all (fun y=>decide (y.2 ≠ NameKind.cell)) && scope.names.all (fun y=>decide (y.2=NameKind.local→scope.names.lookup y.1=some NameKind.local)) &&
 scope.names.all (fun y=>decide (y.2=NameKind.free→sc.names.lookup y.1=some NameKind.cell∨sc.names.lookup y.1=some NameKind.free)) &&
 (List.range N.length).all (fun i=>decide (((N[i]?).bind fun x=>scope.names.lookup x)=some NameKind.local→i ∈ js))
theorem Blk.of {X:Cx}{sc:Scope}{N:List Str}{scope:Scope}{js:List Nat} (h:zN sc N scope js=true) (h1:X.env.scope=sc) (h2:X.N=N):Blk X scope js:=by
 unfold zN at h
 simp only [D8,Fk,Gb] at h
 obtain ⟨⟨⟨⟨a,b⟩,c⟩,d⟩,e⟩:=h
 refine ⟨a,b,c,fun y hy hk=>?_,fun i x hi hx=>?_⟩
 ·show X.env.scope.names.lookup y.1=_∨X.env.scope.names.lookup y.1=_
  rw [h1]; exact d y hy hk
 ·rw [h2] at hi
  refine e i (List.mem_range.mpr (List.getElem?_eq_some_iff.mp hi).1) ?_
  rw [hi]; exact hx
theorem bc {i:Nat}:i8 [i] (nmG i):=fun d E E1 h=>by
 cases h
 show (((E.set i .no).set i (.val d)).set i .no)=E.set i .no
 rw [List.set_set,List.set_set]
end L2.Cu
namespace L2
open PySem PySem.Spec PyProof.Rows
def Its (x:Str):It:=⟨fun i _=>i < x.cps.size,fun i H v H'=>H'=H∧∃ c,x.cps[i]? = some c∧v=.str ⟨#[c]⟩,fun i _=>i=x.cps.size⟩
theorem nM {P:Program}{w:World}{K:PySem.W.Frag}{y:Str}{py:Pos}{x:Str}{t:Tok}{ty:String}{it:Addr}
  (W:∀ A:Around,A.handled=none→Walks P w A it [it] [it] x.cps.size (SignAt x) (fun i h=>h.IsStrIter it ty x t i)) (hself:∀ (A:Around) (i:Nat) (s:Shared) (Q:Value→Shared→Prop) (E:Value→Shared→Prop),s.heap.IsStrIter it ty x t i→Q (.ref it) s→wpAny (model P w) A (pyIter (.ref it)) Q E s) :
  pJ P w K (.Name y py) (Its x) [it] it (fun i h=>h.IsStrIter it ty x t i) where
 mem:=by simp
 obj:=fun i h st b hb=>by
  have e:b=it:=by simpa using hb
  subst e
  obtain ⟨o,ho,_,hd⟩:=st
  exact ⟨o,ho,fun v z=>by rw [hd] at z; cases z⟩
 keep:=fun i h h' st k=>by
  obtain ⟨o,ho,r⟩:=st
  exact ⟨o,k it (by simp) o ho,r⟩
 item:=by
  intro X hP hw hK hc i pins s σ H E I hf st hg
  subst hP hw hK
  obtain ⟨f0,f1,f2,f3,f4,f5⟩:=hf it (by simp)
  refine (W _ (I.ok.hd hc)).item i s _ _ hg st fun v h' tk hv st' kk=>?_
  obtain ⟨c,u,hcc,rfl⟩:=hv
  have I1:Inv X pins σ H { s with heap:=h',toks:=tk }:=I.turned (fun b o hb e=>kk b o (by simpa using hb) e) f0 f1 f3 f4 f5
  exact ⟨_,rfl,DS ⟨.str ⟨#[c]⟩,H,I1,⟨u,rfl⟩,⟨rfl,c,hcc,rfl⟩,st',fun b hb=>(hf b hb).1⟩⟩
 done:=by
  intro X hP hw hK hc i pins s σ H E I hf st hg
  subst hP hw hK
  obtain ⟨f0,f1,f2,f3,f4,f5⟩:=hf it (by simp)
  have hi:i=x.cps.size:=hg
  subst hi
  exact (W _ (I.ok.hd hc)).done s _ _ st fun h' tk kk=>⟨rfl,I.turned (fun b o hb e=>kk b o (by simpa using hb) e) f0 f1 f3 f4 f5⟩
 self:=hself
def Dr (tl:TE):TI:=fun σ H R=>tl σ H fun v H1=>∃ x,v=.str x∧R (Its x) H1
theorem AB {X:Cx}{y:Str}{py:Pos}{l:Expr}{tl:TE} (hl:PE X l tl):PI X (.Name y py) l (Dr tl):=by
 intro pins s σ H R I h
 refine thn (hl pins s σ H _ I h) fun u s1 zz95_0=>?_
 obtain ⟨v,H1,I1,r1,x,e,q⟩:=zz95_0
 subst e
 obtain ⟨t,rfl⟩:=r1
 have ht:H1 s1.heap.objs.size=none:=I1.hok.fresh (DZ _)
 cases ha:x.cps.all (· < 128)
 ·refine wpAny_pyIter_wide ha ?_
  refine ⟨s1.heap.objs.size,[s1.heap.objs.size],_,Its x,H1,rfl,I1.kept (t':=s1.toks) fun b o e=>DQ _ e,nM (t:=t) (ty := "str_iterator") (fun A hA=>Walks.strWide hA _ x t) (fun A i s Q E st hQ=>wpAny_pyIter_striter_wide st hQ),⟨_,DX _ rfl,rfl,rfl⟩,fun b hb=>?_,q⟩
  have e:b=s1.heap.objs.size:=by simpa using hb
  subst e
  exact I1.fpOk (DZ _) ht
 ·refine wpAny_pyIter_ascii ha ?_
  refine ⟨s1.heap.objs.size,[s1.heap.objs.size],_,Its x,H1,rfl,I1.kept (t':=s1.toks) fun b o e=>DQ _ e,nM (t:=t) (ty := "str_ascii_iterator") (fun A hA=>Walks.strAscii hA _ x t) (fun A i s Q E st hQ=>wpAny_pyIter_striter_ascii st hQ),⟨_,DX _ rfl,rfl,rfl⟩,fun b hb=>?_,q⟩
  have e:b=s1.heap.objs.size:=by simpa using hb
  subst e
  exact I1.fpOk (DZ _) ht
section
variable {X:Cx}
theorem yD:OpR X (binaryOp .Mult) (rI (fun i j=>Builtin.Int.intBits i≤2 ^ 20∧Builtin.Int.intBits j≤2 ^ 20) fun i j=>.int (i * j)):=opI fun _ _ _ _ _ _ _ hc q=>mul_int q (IntMulOk.of_bits hc.1 hc.2)
theorem v4:OpR X (binaryOp .FloorDiv) (rI (fun _ j=>0 < j∧j.natAbs.log2 < 9000) fun i j=>.int (i / j)):=opI fun i j _ _ _ _ _ hc q=>by
 refine floordiv_int (by omega) ?_ (.inl (PyProof.noPylong_of_log2 hc.2))
 rw [Int.fdiv_eq_ediv_of_nonneg _ (by omega)]
 exact q
theorem tQ:OpR X (compareOp .LtE) (fun x y H Q=>∃ i j,x=.str i∧y=.str j∧Q (.bl (!decide (j.cps.toList < i.cps.toList))) H):=by
 intro pins s σ H x y v u Q I rx ry h
 obtain ⟨i,j,rfl,rfl,q⟩:=h
 obtain ⟨t,rfl⟩:=rx
 obtain ⟨t',rfl⟩:=ry
 exact PySem.P.le_str ⟨.bl _,H,I,rfl,q⟩
theorem zZ:SlR X (fun x lo hi H Q=>∃ z,x=.str z∧z.length≤sizeLine∧Q (.str (Txt.slice z lo hi)) H):=by
 intro pins s σ H x v vl vu lo hi sl Q I rx hs pl pu h
 obtain ⟨z,rfl,hz,q⟩:=h
 obtain ⟨t,rfl⟩:=rx
 refine ⟨"str",_,F.slot_str_getitem.lookup,typeIs_str _ _ _,?_⟩
 have fin:∀ (l u:Option (Int×Tok)),l.map (·.1)=lo→u.map (·.1)=hi→s.heap.IsSlice sl l u none→wpAny (model X.prog X.w) X.A (getItem (.str z t) (.ref sl)) (EP X pins σ Q) X.xe s:=by
  intro l u hl hu hsl
  refine wpAny_getItem_str_slice hsl rfl ?_
  unfold sliceMade slicePicked
  rw [hl,hu]
  have e:Txt.slice z lo hi=if ((1:Int) == 1 && (Builtin.Str.strSliceIndices lo hi 1 z.length).length == z.length)=true then z else ⟨((Builtin.Str.strSliceIndices lo hi 1 z.length).filterMap (z.cps[·]?)).toArray⟩:=rfl
  rw [e] at q
  show (if ((1:Int) == 1 && (Builtin.Str.strSliceIndices lo hi 1 z.length).length == z.length)=true then Made.val (.str z t) else Made.str ⟨((Builtin.Str.strSliceIndices lo hi 1 z.length).filterMap (z.cps[·]?)).toArray⟩).post _ s
  by_cases hc:((1:Int) == 1 && (Builtin.Str.strSliceIndices lo hi 1 z.length).length == z.length)=true
  ·rw [if_pos hc] at q ⊢
   exact ⟨.str z,H,I,⟨t,rfl⟩,q⟩
  ·rw [if_neg hc] at q ⊢
   have hlen:(⟨((Builtin.Str.strSliceIndices lo hi 1 z.length).filterMap (z.cps[·]?)).toArray⟩:Str).length≤sizeLine:=by
    show ((Builtin.Str.strSliceIndices lo hi 1 z.length).filterMap (z.cps[·]?)).toArray.size≤sizeLine
    rw [DY]
    exact D1 (FE _ _) (D1 (sliceIndices_le lo hi z.length) hz)
   refine ⟨hlen,?_⟩
   exact ⟨.str _,H,I.tok _,⟨_,rfl⟩,q⟩
 obtain ⟨o,ho,hc,hd⟩:=hs
 cases pl with
 | none =>
  cases pu with
  | none=>exact fin none none rfl rfl ⟨o,ho,hc,hd⟩
  | int j u=>exact fin none (some (j,u)) rfl rfl ⟨o,ho,hc,hd⟩
 | int i t' =>
  cases pu with
  | none=>exact fin (some (i,t')) none rfl rfl ⟨o,ho,hc,hd⟩
  | int j u=>exact fin (some (i,t')) (some (j,u)) rfl rfl ⟨o,ho,hc,hd⟩
theorem va (A:Around) (its:Array Value) (bs:List Bool) (h:its.toList=bs.map Value.bool) (prog:Program) (w:World):TruthOf prog w A (fun i v=>its[i]? = some v) (fun i=>bs.getD i false):=by
 intro i v s Q E hv hq
 have e:its.toList[i]? = some v:=by simpa using hv
 rw [h,EQ] at e
 cases hb:bs[i]? with
 | none=>rw [hb] at e; cases e
 | some b =>
  rw [hb] at e
  cases e
  have:bs.getD i false=b:=by rw [F_,hb]; rfl
  have hq':Q (bs.getD i false) s:=hq
  rw [this] at hq'
  exact Fd hq'
theorem tx (bs:List Bool):(List.range bs.length).all (fun i=>bs.getD i false)=bs.all id:=by
 have e:(List.range bs.length).map (fun i=>bs.getD i false)=bs:=by
  refine List.ext_getElem (by simp) fun i h1 h2=>?_
  simp [DT h2]
 have:=ER (fun l=>l.all id) e
 simpa [Fe,Function.comp_def] using this
theorem tu (bs:List Bool):(List.range bs.length).any (fun i=>bs.getD i false)=bs.any id:=by
 have e:(List.range bs.length).map (fun i=>bs.getD i false)=bs:=by
  refine List.ext_getElem (by simp) fun i h1 h2=>?_
  simp [DT h2]
 have:=ER (fun l=>l.any id) e
 simpa [List.any_map,Function.comp_def] using this
theorem jT:∀ {bs:List Bool}{its:List Value},aT (bs.map V.bl) its→its=bs.map Value.bool
 := fun {bs its} z=>by
  cases bs with
  | nil=>cases z; rfl
  | cons b bs =>
   cases z with
   | cons r t =>
    have e:_=Value.bool b:=r
    rw [e,jT t]; rfl
theorem xu (hc:X.calm=true):cI X (.builtin "all") (fun xs H Q=>∃ (a:Addr) (bs:List Bool),xs=[.ref a]∧H a=some (.lst (bs.map V.bl))∧Q (.bl (bs.all id)) H):=by
 intro pins s σ H xs us Q I r h
 obtain ⟨a,bs,rfl,ha,q⟩:=h
 obtain ⟨u,rfl,ru⟩:=i_ r
 obtain rfl:u=Value.ref a:=ru
 obtain ⟨z,its,n,rv,hl,e⟩:=I.lstM ha
 have hit:=jT rv
 have hL:s.heap.IsList a its.toArray:=⟨_,e,rfl,n,rfl⟩
 have hlt:a < s.heap.objs.size:=DV e
 have hh:X.A.in1.handled=none:=I.ok.hd hc
 have st0:(s.heap.push { cls:=.type "list_iterator",data:=.fields #[.ref a,.int 0 0] }).IsListIter s.heap.objs.size a 0∧(s.heap.push { cls:=.type "list_iterator",data:=.fields #[.ref a,.int 0 0] }).IsList a its.toArray:=⟨⟨_,DX _ rfl,rfl,rfl⟩,⟨_,DQ _ e,rfl,n,rfl⟩⟩
 refine call_all_walk (FA hL ⟨_,_,_,_,_,_,_,rfl,Walks.list (A:=X.A.in1) hh _ a (D5 hlt) its.toArray,st0,va _ its.toArray bs (by simpa using hit) _ _,fun h' tk hk=>?_⟩)
 have hn:its.toArray.size=bs.length:=by rw [DY,← hl,DU]
 rw [hn,tx]
 exact ⟨.bl _,H,I.kept (t':=tk) fun b o eo=>hk b o (by simpa using D5 (DV eo)) (DQ _ eo),rfl,q⟩
theorem xt (hc:X.calm=true):cI X (.builtin "any") (fun xs H Q=>∃ (a:Addr) (bs:List Bool),xs=[.ref a]∧H a=some (.lst (bs.map V.bl))∧Q (.bl (bs.any id)) H):=by
 intro pins s σ H xs us Q I r h
 obtain ⟨a,bs,rfl,ha,q⟩:=h
 obtain ⟨u,rfl,ru⟩:=i_ r
 obtain rfl:u=Value.ref a:=ru
 obtain ⟨z,its,n,rv,hl,e⟩:=I.lstM ha
 have hit:=jT rv
 have hL:s.heap.IsList a its.toArray:=⟨_,e,rfl,n,rfl⟩
 have hlt:a < s.heap.objs.size:=DV e
 have hh:X.A.in1.handled=none:=I.ok.hd hc
 have st0:(s.heap.push { cls:=.type "list_iterator",data:=.fields #[.ref a,.int 0 0] }).IsListIter s.heap.objs.size a 0∧(s.heap.push { cls:=.type "list_iterator",data:=.fields #[.ref a,.int 0 0] }).IsList a its.toArray:=⟨⟨_,DX _ rfl,rfl,rfl⟩,⟨_,DQ _ e,rfl,n,rfl⟩⟩
 refine call_any_walk (FA hL ⟨_,_,_,_,_,_,_,rfl,Walks.list (A:=X.A.in1) hh _ a (D5 hlt) its.toArray,st0,va _ its.toArray bs (by simpa using hit) _ _,fun h' tk hk=>?_⟩)
 have hn:its.toArray.size=bs.length:=by rw [DY,← hl,DU]
 rw [hn,tu]
 exact ⟨.bl _,H,I.kept (t':=tk) fun b o eo=>hk b o (by simpa using D5 (DV eo)) (DQ _ eo),rfl,q⟩
theorem pG:cI X (.builtin "isinstance") (fun xs H Q=>∃ x T t b,xs=[x,.ty T]∧gk X.K H x t∧PySem.W.kitOne X.K t (.type T)=some b∧Q (.bl b) H):=by
 intro pins s σ H xs us Q I r h
 obtain ⟨x,T,t,b,rfl,ty,e,q⟩:=h
 obtain ⟨u,w',rfl,ru,rw'⟩:=zl r
 obtain rfl:w'=Value.type T:=rw'
 exact uk I ru ty e fun tk=>⟨.bl b,H,I.tok tk,rfl,q⟩
end
end L2
namespace L2.Cu
open PySem PySem.Spec PyProof.Rows
section
variable {F H:Hp}{v:V}
theorem OB.int {i:Int} (r:OB F H v (.int i)):v=.int i:=by
 rcases r with r | ⟨a,o,h1,h2,h3⟩
 ·cases r; rfl
 ·cases o <;> exact False.elim h3
theorem OB.bl {i:Bool} (r:OB F H v (.bl i)):v=.bl i:=by
 rcases r with r | ⟨a,o,h1,h2,h3⟩
 ·cases r; rfl
 ·cases o <;> exact False.elim h3
theorem OB.str {i:Str} (r:OB F H v (.str i)):v=.str i:=by
 rcases r with r | ⟨a,o,h1,h2,h3⟩
 ·cases r; rfl
 ·cases o <;> exact False.elim h3
theorem OB.non (r:OB F H v .non):v=.non:=by
 rcases r with r | ⟨a,o,h1,h2,h3⟩
 ·cases r; rfl
 ·cases o <;> exact False.elim h3
theorem OB.lst {ds:List D} (s:∀ a u,F a=some u→H a=some u) (r:OB F H v (.lst ds)):∃ a vs,v=.ref a∧H a=some (.lst vs)∧Reps F vs ds:=by
 rcases r with r | ⟨a,o,h1,h2,h3⟩
 ·cases r with
  | lst e rs=>exact ⟨_,_,rfl,s _ _ e,rs⟩
 ·cases o with
  | lst vs=>exact ⟨a,vs,h1,h2,h3⟩
  | _=>exact False.elim h3
theorem Al {H H':Hp}{a:Addr}{u:HO} (h:∀ a o,H a=some o→H' a=some o) (r:Rd H a u):Rd H' a u:=r.elim (fun e=>.inl (h _ _ e)) fun zz96_0=>by obtain ⟨o,e⟩:=zz96_0; exact .inr ⟨o,h _ _ e⟩
theorem ny {H:Hp}{a:Addr}{kvs:List (Key×V)} {k:Key} (e:Rd H a (.dK kvs)):pP H a (kV k) (eL kvs k):=.inl ⟨kvs,k,e,rfl,rfl⟩
theorem OB.dic {ds:List (Key×D)} (s:∀ a u,F a=some u→H a=some u) (r:OB F H v (.dic ds)):∃ a vs,v=.ref a∧Rd H a (.dK vs)∧RepK F vs ds:=by
 rcases r with r | ⟨a,o,h1,h2,h3⟩
 ·cases r with
  | dic e rs=>exact ⟨_,_,rfl,.inr ⟨_,s _ _ e⟩,rs⟩
 ·cases o with
  | dK vs=>exact ⟨a,vs,h1,.inl h2,h3⟩
  | _=>exact False.elim h3
theorem OB.tup {ds:List D} (r:OB F H v (.tup ds)):∃ a vs,v=.ref a∧F a=some (.tup vs)∧Reps F vs ds:=by
 rcases r with r | ⟨a,o,h1,h2,h3⟩
 ·cases r with
  | tup e rs=>exact ⟨_,_,rfl,e,rs⟩
 ·cases o <;> exact False.elim h3
theorem OB.scr {ns:List Int} (r:OB F H v (.scr ns)):∃ a o,v=.ref a∧F a=some (.frz o (.lst (ns.map V.int))):=by
 rcases r with r | ⟨a,o,h1,h2,h3⟩
 ·cases r with
  | scr e=>exact ⟨_,_,rfl,e⟩
 ·cases o <;> exact False.elim h3
end
def c3:D→Option (List D)
 | .lst xs=>some xs
 | .tup xs=>some xs
 | _=>none
def dX (x:Str):List D:=x.cps.toList.map fun c=>.str ⟨#[c]⟩
def aN:D→Option (List D)
 | .lst xs=>some xs
 | .tup xs=>some xs
 | .str x=>some (dX x)
 | _=>none
def bW (o:D→Option (List D)) (f:DE→Option D) (E:DE):Option (List D):=(f E).bind o
section
variable {X:Cx}{e:Expr}{pos:Pos}
theorem Bf {K:PySem.W.Frag}{F:Hp}{a:Addr}{vs:List V}{ds:List D} (h:F a=some (.lst vs)) (r:Reps F vs ds):qY F (Itl K a) ds:=by
 intro i F2 H2 y s
 have q:SqL K H2 a vs:=SqL.of (s _ _ (y _ _ h))
 refine ⟨fun hl=>⟨vs,q,by rw [r.length,hl]; exact DZ _⟩,fun d hd=>?_⟩
 obtain ⟨v,hv,rv⟩:=r.get hd
 refine ⟨⟨vs,v,q,hv⟩,fun x H' yl=>?_⟩
 obtain ⟨rfl,yl⟩:=yl
 have e2:=yl vs q
 rw [hv] at e2
 cases e2
 exact ⟨F2,Ext.refl s,rv.mono y⟩
theorem Bc {K:PySem.W.Frag}{F:Hp}{a:Addr}{vs:List V}{ds:List D} (h:F a=some (.tup vs)) (r:Reps F vs ds):qY F (Itt K a) ds:=by
 intro i F2 H2 y s
 have q:SqT K H2 a vs:=SqT.of (s _ _ (y _ _ h))
 refine ⟨fun hl=>⟨vs,q,by rw [r.length,hl]; exact DZ _⟩,fun d hd=>?_⟩
 obtain ⟨v,hv,rv⟩:=r.get hd
 refine ⟨⟨vs,v,q,hv⟩,fun x H' yl=>?_⟩
 obtain ⟨rfl,yl⟩:=yl
 have e2:=yl vs q
 rw [hv] at e2
 cases e2
 exact ⟨F2,Ext.refl s,rv.mono y⟩
theorem Bd {F:Hp} (x:Str):qY F (Its x) (dX x):=by
 intro i F2 H2 y s
 have hl:(dX x).length=x.cps.size:=by simp [dX]
 refine ⟨fun h=>by rw [hl] at h; exact h.symm,fun d hd=>?_⟩
 unfold dX at hd
 rw [EQ] at hd
 cases hc:x.cps.toList[i]? with
 | none=>rw [hc] at hd; cases hd
 | some c =>
  rw [hc] at hd
  cases hd
  have hlt:i < x.cps.size:=by
   have:=(List.getElem?_eq_some_iff.mp hc).1
   simpa using this
  have hc':x.cps[i]? = some c:=by simpa using hc
  refine ⟨hlt,fun z H' yl=>?_⟩
  obtain ⟨rfl,c',h1,h2⟩:=yl
  rw [hc'] at h1
  cases h1
  subst h2
  exact ⟨F2,Ext.refl s,.str _⟩
theorem b8 {y:Str}{py:Pos}{f:DE→Option D} (h:Ev X .V e f):Ei X (.Name y py) e (bW aN f):=PI.by (PI.or (AB h.h) (PI.or (yp h.h) (AA h.h))) fun σ H R zz97_0=>by
 obtain ⟨B,F,E,xs,k,q,w⟩:=zz97_0
 unfold bW at q
 cases hf:f E with
 | none=>simp [hf] at q
 | some d =>
  simp only [hf,DC] at q
  cases d with
  | str z =>
   cases q
   refine .inl ⟨B,F,E,_,k,hf,fun v F' H' x r=>?_⟩
   cases r with
   | str=>exact ⟨z,rfl,w _ F' H' x (Bd z)⟩
  | lst ds =>
   cases q
   refine .inr (.inl ⟨B,F,E,_,k,hf,fun v F' H' x r=>?_⟩)
   cases r with
   | lst e rs=>exact ⟨_,rfl,⟨_,SqL.of (x.sub _ _ e)⟩,w _ F' H' x (Bf e rs)⟩
  | tup ds =>
   cases q
   refine .inr (.inr ⟨B,F,E,_,k,hf,fun v F' H' x r=>?_⟩)
   cases r with
   | tup e rs=>exact ⟨_,rfl,⟨_,SqT.of (x.sub _ _ e)⟩,w _ F' H' x (Bc e rs)⟩
  | _=>cases q
def dE (lo:Int) (n:Nat):List D:=(List.range n).map fun i=>.int (lo + (i:Nat))
def je (ds:List D):Option (List D):=match ds with
 | [.int j]=>@ite _ (-(2 ^ 62)≤j∧j < 2 ^ 62) (Classical.propDecidable _) (some (dE 0 j.toNat)) none
 | _=>none
def zu (ds:List D):Option (List D):=match ds with
 | [.int i,.int j]=>@ite _ ((-(2 ^ 62)≤i∧i < 2 ^ 62)∧(-(2 ^ 62)≤j∧j < 2 ^ 62)) (Classical.propDecidable _) (some (dE i (j - i).toNat)) none
 | _=>none
def eQ (f:DE→Option (List D)) (E:DE):Option (List D):=(f E).bind je
def Dg (f:DE→Option (List D)) (E:DE):Option (List D):=(f E).bind zu
theorem p_ {ds xs:List D} (h:je ds=some xs):∃ j,ds=[.int j]:=by
 unfold je at h
 split at h
 ·exact ⟨_,rfl⟩
 ·cases h
theorem Be {F:Hp} (lo:Int) (n:Nat):qY F (Itr lo n) (dE lo n):=by
 intro i F2 H2 y s
 have hl:(dE lo n).length=n:=by simp [dE]
 refine ⟨fun h=>by rw [hl] at h; exact Nat.le_of_eq h,fun d hd=>?_⟩
 unfold dE at hd
 rw [EQ] at hd
 cases hc:(List.range n)[i]? with
 | none=>rw [hc] at hd; cases hd
 | some c =>
  rw [hc] at hd
  cases hd
  obtain ⟨hlt,rfl⟩:=List.getElem?_eq_some_iff.mp hc
  rw [FO] at hlt
  refine ⟨hlt,fun z H' yl=>?_⟩
  obtain ⟨rfl,rfl⟩:=yl
  rw [List.getElem_range]
  exact ⟨F2,Ext.refl s,.int _⟩
theorem dm {tg a:Expr}{f:DE→Option (List D)} {p:Pos} (hg:Gl X "range") (hm:X.mg "range" = none) (ha:Ea X [a] f) (hs:be a=true:=by rfl):Ei X tg (.Call (.Name "range" p) [a] [] pos) (eQ f) :=
 PI.by (tH hg hm ha.h (aH a [] X.env hs)) fun σ H R zz98_0=>by
  obtain ⟨B,F,E,xs,k,q,w⟩:=zz98_0
  unfold eQ at q
  cases hf:f E with
  | none=>simp [hf] at q
  | some ds =>
   rw [hf] at q
   refine ⟨B,F,E,ds,k,hf,fun vs F' H' x r=>?_⟩
   obtain ⟨j,rfl⟩:=p_ q
   obtain ⟨v1,ws,rfl,r1,r⟩:=r.c1
   obtain rfl:=r.c0
   cases r1
   ·have q':@ite _ (-(2 ^ 62)≤j∧j < 2 ^ 62) (Classical.propDecidable _) (some (dE 0 j.toNat)) none=some xs:=q
    by_cases hj : -(2 ^ 62)≤j∧j < 2 ^ 62
    ·rw [if_pos hj] at q'
     cases q'
     exact ⟨j,rfl,hj.1,hj.2,w _ F' H' x (Be 0 _)⟩
    ·rw [if_neg hj] at q'; cases q'
end
def i2 (g:Int→Int→Option D):D→D→Option D
 | .int i,.int j=>g i j
 | _,_=>none
theorem gB {g:Int→Int→Option D}{x y d:D} (h:i2 g x y=some d):∃ i j,x=.int i∧y=.int j∧g i j=some d:=by
 cases x <;> cases y <;> simp [i2] at h
 exact ⟨_,_,rfl,rfl,h⟩
def xS:D→D→Option D:=i2 fun i j=>some (.int (i - j))
theorem Ad:dP .V (rI0 fun i j=>.int (i - j)) xS:=fun F H v w x y d Q s rx ry h q=>by
 obtain ⟨i,j,rfl,rfl,h'⟩:=gB h
 cases h'
 exact ⟨i,j,rx.int,ry.int,q _ F H (Ext.refl s) (.int _)⟩
def we:D→D→Option D:=i2 fun i j=>if Builtin.Int.intBits i≤2 ^ 20∧Builtin.Int.intBits j≤2 ^ 20 then some (.int (i * j)) else none
theorem Ai:dP .V (rI (fun i j=>Builtin.Int.intBits i≤2 ^ 20∧Builtin.Int.intBits j≤2 ^ 20) fun i j=>.int (i * j)) we:=fun F H v w x y d Q s rx ry h q=>by
 obtain ⟨i,j,rfl,rfl,h'⟩:=gB h
 split at h'
 ·rename_i hc
  cases h'
  exact ⟨i,j,rx.int,ry.int,hc,q _ F H (Ext.refl s) (.int _)⟩
 ·cases h'
def ci:D→D→Option D:=i2 fun i j=>if 0 < j then some (.int (i % j)) else none
theorem Aj:dP .V (rI (fun _ j=>0 < j) fun i j=>.int (i % j)) ci:=fun F H v w x y d Q s rx ry h q=>by
 obtain ⟨i,j,rfl,rfl,h'⟩:=gB h
 split at h'
 ·rename_i hc
  cases h'
  exact ⟨i,j,rx.int,ry.int,hc,q _ F H (Ext.refl s) (.int _)⟩
 ·cases h'
def bM:D→D→Option D:=i2 fun i j=>if 0 < j∧j.natAbs.log2 < 9000 then some (.int (i / j)) else none
theorem yb:dP .V (rI (fun _ j=>0 < j∧j.natAbs.log2 < 9000) fun i j=>.int (i / j)) bM:=fun F H v w x y d Q s rx ry h q=>by
 obtain ⟨i,j,rfl,rfl,h'⟩:=gB h
 split at h'
 ·rename_i hc
  cases h'
  exact ⟨i,j,rx.int,ry.int,hc,q _ F H (Ext.refl s) (.int _)⟩
 ·cases h'
def n5:D→D→Option D:=i2 fun i j=>if 0≤j∧j≤1000000∧i.natAbs < 2 ^ 64 then some (.int (i ^ j.toNat)) else none
theorem Ae:dP .V (rI C6 fun i j=>.int (i ^ j.toNat)) n5:=fun F H v w x y d Q s rx ry h q=>by
 obtain ⟨i,j,rfl,rfl,h'⟩:=gB h
 split at h'
 ·rename_i hc
  cases h'
  exact ⟨i,j,rx.int,ry.int,hc,q _ F H (Ext.refl s) (.int _)⟩
 ·cases h'
def AL (pi:Int→Int→Bool) (ps:List Nat→List Nat→Bool):D→D→Option D
 | .int i,.int j=>some (.bl (pi i j))
 | .str i,.str j=>some (.bl (ps i.cps.toList j.cps.toList))
 | _,_=>none
def ltD:D→D→Option D:=AL (fun i j=>decide (i < j)) fun i j=>decide (i < j)
def leD:D→D→Option D:=AL (fun i j=>decide (i≤j)) fun i j => !decide (j < i)
def gtD:D→D→Option D:=i2 fun i j=>some (.bl (decide (j < i)))
def geD:D→D→Option D:=i2 fun i j=>some (.bl (decide (j≤i)))
theorem n9 {pi:Int→Int→Bool}{ps:List Nat→List Nat→Bool}{x y d:D} (h:AL pi ps x y=some d) :
  (∃ i j,x=.int i∧y=.int j∧d=.bl (pi i j))∨∃ i j,x=.str i∧y=.str j∧d=.bl (ps i.cps.toList j.cps.toList):=by
 match x,y,h with
 | .int i,.int j,h=>exact .inl ⟨i,j,rfl,rfl,(DW h).symm⟩
 | .str i,.str j,h=>exact .inr ⟨i,j,rfl,rfl,(DW h).symm⟩
theorem zx:dP .V (fun x y H Q=>(rI0 fun i j=>.bl (decide (i < j))) x y H Q∨∃ i j,x=.str i∧y=.str j∧Q (.bl (decide (i.cps.toList < j.cps.toList))) H) ltD:=fun F H v w x y d Q s rx ry h q=>by
 rcases n9 h with ⟨i,j,rfl,rfl,rfl⟩ | ⟨i,j,rfl,rfl,rfl⟩
 ·exact .inl ⟨_,_,rx.int,ry.int,q _ F H (Ext.refl s) (.bl _)⟩
 ·exact .inr ⟨_,_,rx.str,ry.str,q _ F H (Ext.refl s) (.bl _)⟩
theorem zA:dP .V (fun x y H Q=>(rI0 fun i j=>.bl (decide (i≤j))) x y H Q∨∃ i j,x=.str i∧y=.str j∧Q (.bl (!decide (j.cps.toList < i.cps.toList))) H) leD:=fun F H v w x y d Q s rx ry h q=>by
 rcases n9 h with ⟨i,j,rfl,rfl,rfl⟩ | ⟨i,j,rfl,rfl,rfl⟩
 ·exact .inl ⟨_,_,rx.int,ry.int,q _ F H (Ext.refl s) (.bl _)⟩
 ·exact .inr ⟨_,_,rx.str,ry.str,q _ F H (Ext.refl s) (.bl _)⟩
theorem zB:dP .V (rI0 fun i j=>.bl (decide (j < i))) gtD:=fun F H v w x y d Q s rx ry h q=>by
 obtain ⟨i,j,rfl,rfl,h'⟩:=gB h
 cases h'
 exact ⟨i,j,rx.int,ry.int,q _ F H (Ext.refl s) (.bl _)⟩
section
variable {X:Cx}{a b:Expr}{pos:Pos}{f g:DE→Option D}
theorem Bn (ha:Ev X .O a f) (hb:Ev X .O b g):Ev X .V (.BinOp a .Sub b pos) (bin xS f g):=iX AM Ad ha hb
theorem bQ (ha:Ev X .O a f) (hb:Ev X .O b g):Ev X .V (.BinOp a .Mod b pos) (bin ci f g):=iX AQ Aj ha hb
theorem bI (ha:Ev X .O a f) (hb:Ev X .O b g):Ev X .V (.BinOp a .FloorDiv b pos) (bin bM f g):=iX v4 yb ha hb
theorem nj (ha:Ev X .O a f) (hb:Ev X .O b g):Ev X .V (.BinOp a .Pow b pos) (bin n5 f g):=iX AN Ae ha hb
theorem vZ:OpR X (compareOp .Lt) (fun x y H Q=>(rI0 fun i j=>.bl (decide (i < j))) x y H Q∨∃ i j,x=.str i∧y=.str j∧Q (.bl (decide (i.cps.toList < j.cps.toList))) H):=OpR.or Cy tO
theorem v0:OpR X (compareOp .LtE) (fun x y H Q=>(rI0 fun i j=>.bl (decide (i≤j))) x y H Q∨∃ i j,x=.str i∧y=.str j∧Q (.bl (!decide (j.cps.toList < i.cps.toList))) H):=OpR.or Cz tQ
end
mutual
def toP:D→PyData
 | .non=>.none
 | .bl b=>.bool b
 | .int i=>.int i
 | .str x=>.str x
 | .tup xs=>.tuple (toPs xs)
 | .lst xs=>.list (toPs xs)
 | .dic _=>.dict []
 | .scr _=>.dict []
def toPs:List D→List PyData
 | []=>[]
 | x :: xs=>toP x :: toPs xs
end
section
variable {X:Cx}{pins:List (Addr×Obj)} {σ:St}{F H:Hp}{s:Shared}
mutual
theorem Rep.reads (I:Inv X pins σ H s) (hs:∀ a o,F a=some o→H a=some o):∀ {v:V}{d:D}{u:Value},Rep F v d→aX v u→(toP d).canLay0=true→∃ as,Reads s.heap u (toP d) as
 := fun {v d u} q r c=>by
  refine EC fun hn=>?_
  cases q with
  | non=>cases r; exact hn ⟨_,.none⟩
  | bl b=>cases r; exact hn ⟨_,.bool b⟩
  | int i=>obtain ⟨t,rfl⟩:=r; exact hn ⟨_,.int i t⟩
  | str x=>obtain ⟨t,rfl⟩:=r; exact hn ⟨_,.str x t⟩
  | @tup a vs ds e rs =>
   cases r
   obtain ⟨its,rv,ht,hz⟩:=I.tuple (SqT.of (hs _ _ e))
   obtain ⟨o,ho,hc,n,hd⟩:=ht
   have c':PyData.canLayAll0 (toPs ds)=true:=by simpa [toP,PyData.canLay0] using c
   obtain ⟨as,ra⟩:=Reps.reads I hs rs rv c'
   exact hn ⟨_,by rw [toP]; exact .tuple ho hc hd (by simpa using ra)⟩
  | @lst a vs ds e rs =>
   cases r
   obtain ⟨z,its,n,rv,hl,ho⟩:=I.lstM (hs _ _ e)
   have c':PyData.canLayAll0 (toPs ds)=true:=by simpa [toP,PyData.canLay0] using c
   obtain ⟨as,ra⟩:=Reps.reads I hs rs rv c'
   exact hn ⟨_,by rw [toP]; exact .list ho rfl rfl (by simpa using ra)⟩
  | dic _ _=>simp [toP,PyData.canLay0] at c
  | scr _=>simp [toP,PyData.canLay0] at c
theorem Reps.reads (I:Inv X pins σ H s) (hs:∀ a o,F a=some o→H a=some o):∀ {vs:List V}{ds:List D}{us:List Value},Reps F vs ds→aT vs us→PyData.canLayAll0 (toPs ds)=true→∃ as,ReadsAll s.heap us (toPs ds) as
 := fun {vs ds us} z w c=>by
  refine EC fun hn=>?_
  cases z with
  | nil=>cases w; exact hn ⟨_,.nil⟩
  | @cons v d vs ds r rs =>
   cases w with
   | cons q qs =>
    have c':(toP d).canLay0=true∧PyData.canLayAll0 (toPs ds)=true:=by simpa [toPs,PyData.canLayAll0] using c
    obtain ⟨as,h1⟩:=Rep.reads I hs r q c'.1
    obtain ⟨bs,h2⟩:=Reps.reads I hs rs qs c'.2
    exact hn ⟨_,by rw [toPs]; exact .cons h1 h2⟩
end
theorem OB.reads (I:Inv X pins σ H s) (hs:∀ a o,F a=some o→H a=some o) {v:V}{d:D}{u:Value} (r:OB F H v d) (q:aX v u) (c:(toP d).canLay0=true):∃ as,Reads s.heap u (toP d) as:=by
 rcases r with r | ⟨a,o,rfl,h2,h3⟩
 ·exact Rep.reads I hs r q c
 ·cases q
  cases o with
  | lst vs =>
   cases d with
   | lst ds =>
    obtain ⟨z,its,n,rv,hl,ho⟩:=I.lstM h2
    have c':PyData.canLayAll0 (toPs ds)=true:=by simpa [toP,PyData.canLay0] using c
    obtain ⟨as,ra⟩:=Reps.reads I hs (show Reps F vs ds from h3) rv c'
    exact ⟨_,by rw [toP]; exact .list ho rfl rfl (by simpa using ra)⟩
   | _=>exact False.elim h3
  | dK vs =>
   cases d with
   | dic ds=>simp [toP,PyData.canLay0] at c
   | _=>exact False.elim h3
  | _=>exact False.elim h3
end
def rJ (neg:Bool) (u:Nat):R2:=fun v w H Q=>∃ F x y,(∀ a o,F a=some o→H a=some o)∧OB F H v x∧OB F H w y∧(toP x).canLay0=true∧(toP y).canLay0=true∧u + min (toP x).depth (toP y).depth < cLine ∧
 Q (.bl (if neg then !PyData.eqv (toP x) (toP y) else PyData.eqv (toP x) (toP y))) H
section
variable {X:Cx}
theorem lP:OpR X (compareOp .Eq) (rJ false X.A.units):=by
 intro pins s σ H v w u z Q I rv rw h
 obtain ⟨F,x,y,hs,ox,oy,cx,cy,hu,q⟩:=h
 obtain ⟨as,ra⟩:=ox.reads I hs rv cx
 obtain ⟨bs,rb⟩:=oy.reads I hs rw cy
 exact SeqAt.rcAt_reads ra rb cx cy hu X.prog X.w X.xe _ ⟨.bl _,H,I,rfl,q⟩
theorem tN:OpR X (compareOp .NotEq) (rJ true X.A.units):=by
 intro pins s σ H v w u z Q I rv rw h
 obtain ⟨F,x,y,hs,ox,oy,cx,cy,hu,q⟩:=h
 obtain ⟨as,ra⟩:=ox.reads I hs rv cx
 obtain ⟨bs,rb⟩:=oy.reads I hs rw cy
 exact SeqAt.compareNe_reads ra rb cx cy hu ⟨.bl _,H,I,rfl,q⟩
end
def scD:D→D→Option Bool
 | .str x,.str y=>some (decide (x=y))
 | .int x,.int y=>some (decide (x=y))
 | .bl x,.bl y=>some (decide (x=y))
 | _,_=>none
def dH (x:D):Bool:=(toP x).canLay0 && decide ((toP x).depth≤60)
def eqD (x y:D):Option Bool:=match scD x y with
 | some b=>some b
 | none=>if dH x && dH y then some (PyData.eqv (toP x) (toP y)) else none
def eqO (x y:D):Option D:=(eqD x y).map D.bl
def neO (x y:D):Option D:=(eqD x y).map fun b=>.bl (!b)
theorem ma {x y:D}{b:Bool} (h:eqD x y=some b):(∃ i j,x=.str i∧y=.str j∧b=decide (i=j))∨(∃ i j,x=.int i∧y=.int j∧b=decide (i=j))∨(∃ i j,x=.bl i∧y=.bl j∧b=decide (i=j)) ∨
  (dH x=true∧dH y=true∧b=PyData.eqv (toP x) (toP y)):=by
 unfold eqD at h
 cases hs:scD x y with
 | some c =>
  rw [hs] at h
  cases h
  match x,y,hs with
  | .str i,.str j,hs=>exact .inl ⟨i,j,rfl,rfl,(DW hs).symm⟩
  | .int i,.int j,hs=>exact .inr (.inl ⟨i,j,rfl,rfl,(DW hs).symm⟩)
  | .bl i,.bl j,hs=>exact .inr (.inr (.inl ⟨i,j,rfl,rfl,(DW hs).symm⟩))
 | none =>
  rw [hs] at h
  have h':(if (dH x && dH y)=true then some (PyData.eqv (toP x) (toP y)) else none)=some b:=h
  split at h'
  ·rename_i hc
   obtain ⟨h1,h2⟩:=Bool.and_eq_true_iff.mp hc
   exact .inr (.inr (.inr ⟨h1,h2,(DW h').symm⟩))
  ·cases h'
theorem vA (u:Nat) (hu:u + 64 < cLine):dP .V (fun x y H Q=>rEq x y H Q∨rJ false u x y H Q) eqO:=fun F H v w x y d Q s rx ry h q=>by
 unfold eqO at h
 cases he:eqD x y with
 | none=>rw [he] at h; cases h
 | some b =>
  rw [he] at h
  cases h
  have fin:=q (.bl b) F H (Ext.refl s) (.bl b)
  rcases ma he with ⟨i,j,rfl,rfl,rfl⟩ | ⟨i,j,rfl,rfl,rfl⟩ | ⟨i,j,rfl,rfl,rfl⟩ | ⟨h1,h2,rfl⟩
  ·left; cases rx.str; cases ry.str; exact ⟨rfl,by simpa using fin⟩
  ·left; cases rx.int; cases ry.int; exact ⟨rfl,by simpa using fin⟩
  ·left; cases rx.bl; cases ry.bl; exact ⟨rfl,by simpa using fin⟩
  ·right
   obtain ⟨a1,a2⟩:=Bool.and_eq_true_iff.mp h1
   obtain ⟨b1,b2⟩:=Bool.and_eq_true_iff.mp h2
   have:=EO a2
   exact ⟨F,x,y,s,rx,ry,a1,b1,by omega,fin⟩
theorem Ah (u:Nat) (hu:u + 64 < cLine):dP .V (fun x y H Q=>rNe x y H Q∨rJ true u x y H Q) neO:=fun F H v w x y d Q s rx ry h q=>by
 unfold neO at h
 cases he:eqD x y with
 | none=>rw [he] at h; cases h
 | some b =>
  rw [he] at h
  cases h
  have fin:=q (.bl (!b)) F H (Ext.refl s) (.bl (!b))
  rcases ma he with ⟨i,j,rfl,rfl,rfl⟩ | ⟨i,j,rfl,rfl,rfl⟩ | ⟨i,j,rfl,rfl,rfl⟩ | ⟨h1,h2,rfl⟩
  ·left; cases rx.str; cases ry.str; exact ⟨rfl,by simpa using fin⟩
  ·left; cases rx.int; cases ry.int; exact ⟨rfl,by simpa using fin⟩
  ·left; cases rx.bl; cases ry.bl; exact ⟨rfl,by simpa using fin⟩
  ·right
   obtain ⟨a1,a2⟩:=Bool.and_eq_true_iff.mp h1
   obtain ⟨b1,b2⟩:=Bool.and_eq_true_iff.mp h2
   have:=EO a2
   exact ⟨F,x,y,s,rx,ry,a1,b1,by omega,fin⟩
def dg:D→Bool
 | .non | .bl _ | .int _ | .str _=>true
 | _=>false
def toV:D→V
 | .bl b=>.bl b
 | .int i=>.int i
 | .str x=>.str x
 | _=>.non
theorem pb {F:Hp}{v:V}{d:D} (r:Rep F v d) (h:dg d=true):v=toV d∧ge v=true:=by
 cases r <;> first | exact ⟨rfl,rfl⟩ | cases h
theorem eW {F:Hp}:∀ {vs:List V}{ds:List D},Reps F vs ds→ds.all dg=true→vs=ds.map toV∧vs.all ge=true
 := fun z h=>by
  cases z with
  | nil=>exact ⟨rfl,rfl⟩
  | cons r t =>
   rw [EY,D8] at h
   obtain ⟨e1,f1⟩:=pb r h.1
   obtain ⟨e2,f2⟩:=eW t h.2
   subst e1 e2
   exact ⟨rfl,by rw [EY,f1,f2]; rfl⟩
def inD (x y:D):Option Bool:=match x,y with
 | .str i,.str j=>some (!(Builtin.Str.occurrences j i 0 j.length 1).isEmpty)
 | x,.tup ds=>if dg x && ds.all dg then some (inV (toV x) (ds.map toV)) else none
 | x,.lst ds=>if dg x && ds.all dg then some (inV (toV x) (ds.map toV)) else none
 | _,_=>none
theorem l0 {x y:D}{b:Bool} (h:inD x y=some b):(∃ i j,x=.str i∧y=.str j∧b = !(Builtin.Str.occurrences j i 0 j.length 1).isEmpty) ∨
  (∃ ds,(y=.tup ds∨y=.lst ds)∧dg x=true∧ds.all dg=true∧b=inV (toV x) (ds.map toV)):=by
 cases y with
 | str j =>
  cases x with
  | str i=>exact .inl ⟨i,j,rfl,rfl,(DW h).symm⟩
  | _=>cases h
 | tup ds =>
  have h':(if dg x && ds.all dg then some (inV (toV x) (ds.map toV)) else none)=some b:=by cases x <;> exact h
  split at h'
  ·rename_i hc
   obtain ⟨h1,h2⟩:=Bool.and_eq_true_iff.mp hc
   exact .inr ⟨ds,.inl rfl,h1,h2,(DW h').symm⟩
  ·cases h'
 | lst ds =>
  have h':(if dg x && ds.all dg then some (inV (toV x) (ds.map toV)) else none)=some b:=by cases x <;> exact h
  split at h'
  ·rename_i hc
   obtain ⟨h1,h2⟩:=Bool.and_eq_true_iff.mp hc
   exact .inr ⟨ds,.inr rfl,h1,h2,(DW h').symm⟩
  ·cases h'
 | _=>cases x <;> cases h
theorem r_ {F H:Hp}{v:V}{d:D} (r:OB F H v d) (h:dg d=true):v=toV d∧ge v=true:=by
 rcases r with r | ⟨a,o,h1,h2,h3⟩
 ·exact pb r h
 ·cases o <;> cases d <;> first | exact False.elim h3 | cases h
def inO (x y:D):Option D:=(inD x y).map D.bl
def v8 (x y:D):Option D:=(inD x y).map fun b=>.bl (!b)
theorem Ca {K:PySem.W.Frag}:dP .V (fun x y H Q=>(∃ i j,x=.str i∧y=.str j∧Q (.bl (!(Builtin.Str.occurrences j i 0 j.length 1).isEmpty)) H)∨rIn K false x y H Q) inO:=fun F H v w x y d Q s rx ry h q=>by
 unfold inO at h
 cases he:inD x y with
 | none=>rw [he] at h; cases h
 | some b =>
  rw [he] at h
  cases h
  have fin:=q (.bl b) F H (Ext.refl s) (.bl b)
  rcases l0 he with ⟨i,j,rfl,rfl,rfl⟩ | ⟨ds,hy,h1,h2,rfl⟩
  ·exact .inl ⟨i,j,rx.str,ry.str,fin⟩
  ·right
   obtain ⟨ex,fx⟩:=r_ rx h1
   rcases hy with rfl | rfl
   ·obtain ⟨a,vs,rfl,ha,rs⟩:=ry.tup
    obtain ⟨e2,f2⟩:=eW rs h2
    subst e2
    exact ⟨a,_,rfl,.inr (SqT.of (s _ _ ha)),fx,f2,by rw [ex]; exact fin⟩
   ·obtain ⟨a,vs,rfl,ha,rs⟩:=OB.lst s ry
    obtain ⟨e2,f2⟩:=eW rs h2
    subst e2
    exact ⟨a,_,rfl,.inl (SqL.of ha),fx,f2,by rw [ex]; exact fin⟩
theorem Af {K:PySem.W.Frag}:dP .V (fun x y H Q=>(∃ i j,x=.str i∧y=.str j∧Q (.bl (!(!(Builtin.Str.occurrences j i 0 j.length 1).isEmpty))) H)∨rIn K true x y H Q) v8:=fun F H v w x y d Q s rx ry h q=>by
 unfold v8 at h
 cases he:inD x y with
 | none=>rw [he] at h; cases h
 | some b =>
  rw [he] at h
  cases h
  have fin:=q (.bl (!b)) F H (Ext.refl s) (.bl (!b))
  rcases l0 he with ⟨i,j,rfl,rfl,rfl⟩ | ⟨ds,hy,h1,h2,rfl⟩
  ·exact .inl ⟨i,j,rx.str,ry.str,fin⟩
  ·right
   obtain ⟨ex,fx⟩:=r_ rx h1
   rcases hy with rfl | rfl
   ·obtain ⟨a,vs,rfl,ha,rs⟩:=ry.tup
    obtain ⟨e2,f2⟩:=eW rs h2
    subst e2
    exact ⟨a,_,rfl,.inr (SqT.of (s _ _ ha)),fx,f2,by rw [ex]; exact fin⟩
   ·obtain ⟨a,vs,rfl,ha,rs⟩:=OB.lst s ry
    obtain ⟨e2,f2⟩:=eW rs h2
    subst e2
    exact ⟨a,_,rfl,.inl (SqL.of ha),fx,f2,by rw [ex]; exact fin⟩
def ixD (x y:D):Option D:=match x,y with
 | .lst xs,.int i=>atI xs i
 | .tup xs,.int i=>atI xs i
 | .str z,.int i=>if z.length≤sizeLine then (atI z.cps.toList i).map fun c=>.str ⟨#[c]⟩ else none
 | .scr ns,.int i=>(atI ns i).map D.int
 | _,_=>none
theorem Reps.atI {F:Hp}{vs:List V}{ds:List D} (r:Reps F vs ds) {i:Int}{d:D} (h:L2.atI ds i=some d):∃ v,L2.atI vs i=some v∧Rep F v d:=by
 unfold L2.atI at h ⊢
 rw [r.length]
 cases hx:ixN ds.length i with
 | none=>rw [hx] at h; cases h
 | some j=>rw [hx] at h; exact r.get h
theorem B_ {K:PySem.W.Frag}:dP .V (rIx K) ixD:=fun F H v w x y d Q s rx ry h q=>by
 cases y with
 | int i =>
  cases ry.int
  cases x with
  | lst xs =>
   obtain ⟨a,vs,rfl,ha,rs⟩:=OB.lst s rx
   obtain ⟨u,hu,ru⟩:=rs.atI (show atI xs i=some d from h)
   exact .inl ⟨a,vs,i,u,rfl,rfl,SqL.of ha,hu,q u F H (Ext.refl s) ru⟩
  | tup xs =>
   obtain ⟨a,vs,rfl,ha,rs⟩:=rx.tup
   obtain ⟨u,hu,ru⟩:=rs.atI (show atI xs i=some d from h)
   exact .inr (.inl ⟨a,vs,i,u,rfl,rfl,SqT.of (s _ _ ha),hu,q u F H (Ext.refl s) ru⟩)
  | str z =>
   cases rx.str
   have h':(if z.length≤sizeLine then (atI z.cps.toList i).map (fun c=>D.str ⟨#[c]⟩) else none)=some d:=h
   split at h'
   ·rename_i hz
    cases hc:atI z.cps.toList i with
    | none=>rw [hc] at h'; cases h'
    | some c =>
     rw [hc] at h'
     cases h'
     exact .inr (.inr ⟨z,i,c,rfl,rfl,hz,hc,q _ F H (Ext.refl s) (.str _)⟩)
   ·cases h'
  | scr ns =>
   obtain ⟨a,o,rfl,ha⟩:=rx.scr
   have h':(atI ns i).map D.int=some d:=h
   cases hc:atI ns i with
   | none=>rw [hc] at h'; cases h'
   | some c =>
    rw [hc] at h'
    cases h'
    refine .inl ⟨a,_,i,.int c,rfl,rfl,.inl (.inr ⟨o,s _ _ ha⟩),?_,q _ F H (Ext.refl s) (.int _)⟩
    unfold atI at hc ⊢
    rw [DU]
    cases hx:ixN ns.length i with
    | none=>rw [hx] at hc; cases hc
    | some j =>
     rw [hx] at hc
     show (ns.map V.int)[j]? = _
     have hc':ns[j]? = some c:=hc
     rw [EQ,hc']; rfl
  | _=>cases h
 | _=>cases x <;> cases h
def b5 {α:Type} (xs:List α) (lo hi:Option Int):List α:=(xs.drop (HT.sIx xs.length 0 lo)).take (HT.sIx xs.length xs.length hi - HT.sIx xs.length 0 lo)
def noP (_:DE):Option (Option Int):=some none
def cc (f:DE→Option D) (E:DE):Option (Option Int):=(f E).bind fun d=>match d with
 | .int i=>some (some i)
 | _=>none
def tP (f:DE→Option (Option Int)):TO:=fun σ H Q=>∃ B F E o,Ok B F H σ E∧f E=some o∧∀ F' H',Ext F H F' H'→Q o H'
structure Ep (X:Cx) (e:Option Expr) (f:DE→Option (Option Int)):Prop where
 h:PO X e (tP f)
theorem PO.by {X:Cx}{e:Option Expr}{t:TO}{f:DE→Option (Option Int)} (h:PO X e t) (w:∀ σ H Q,tP f σ H Q→t σ H Q):Ep X e f:=⟨fun pins s σ H Q I q=>h pins s σ H Q I (w σ H Q q)⟩
theorem eB {X:Cx}:Ep X none noP:=PO.by ym fun σ H Q ⟨B,F,E,o,k,q,w⟩=>by cases q; exact w F H (Ext.refl k.sub)
theorem cP {X:Cx}{e:Expr}{f:DE→Option D} (h:Ev X .V e f):Ep X (some e) (cc f):=PO.by (rN h.h) fun σ H Q zz100_0=>by
 obtain ⟨B,F,E,o,k,q,w⟩:=zz100_0
 unfold cc at q
 cases hf:f E with
 | none=>simp [hf] at q
 | some d =>
  rw [hf] at q
  cases d with
  | int i =>
   cases q
   exact ⟨B,F,E,_,k,hf,fun v F' H' x r=>⟨i,by cases r; rfl,w F' H' x⟩⟩
  | _=>cases q
def slD (x:D) (lo hi:Option Int):Option D:=match x with
 | .lst xs=>some (.lst (b5 xs lo hi))
 | .scr ns=>some (.lst ((b5 ns lo hi).map D.int))
 | .tup xs=>some (.tup (b5 xs lo hi))
 | .str z=>if z.length≤sizeLine then some (.str (Txt.slice z lo hi)) else none
 | _=>none
def bJ (f:DE→Option D) (l h:DE→Option (Option Int)) (E:DE):Option D:=(f E).bind fun x=>(l E).bind fun lo=>(h E).bind fun hi=>slD x lo hi
theorem xo {α β:Type} (g:α→β) (xs:List α) (lo hi:Option Int):b5 (xs.map g) lo hi=(b5 xs lo hi).map g:=by
 unfold b5
 rw [DU,List.map_take,List.map_drop]
theorem pY {X:Cx}:SlR X (fun x lo hi H Q=>∃ a xs,x=.ref a∧SqT X.K H a xs∧(HT.sIx xs.length 0 lo=0∧HT.sIx xs.length xs.length hi=xs.length)∧Q (.ref a) H):=by
 intro pins s σ H x v vl vu lo hi sl Q I rx hs pl pu h
 obtain ⟨a,xs,rfl,hx,⟨hw1,hw2⟩,q⟩:=h
 cases rx
 obtain ⟨its,r,ht,hz⟩:=I.tuple hx
 have hlen:its.toArray.size=xs.length:=by rw [DY]; exact r.length.symm
 refine ⟨"tuple",_,PyProof.Rows.slot_tuple_getitem.lookup,ht.typeIs,?_⟩
 obtain ⟨os,hos,hcs,hds⟩:=id hs
 have hTs:s.TypeIs (.ref sl) "slice" := ⟨os,hos,hcs⟩
 unfold getItem
 try with_reducible refine EA ?_
 first | refine DP (DS ?_) | skip
 refine DP (wpAny_sequenceKey ht.typeIs (by decide) ?_)
 refine DP (Fl (name:=Str.ofString "__getitem__") ht.typeIs Fh (FK Fh ht.typeIs entry_tuple_getitem ?_ (args_tuple_getitem _ _)))
 show wpAny _ _ (Builtin.Tuple.tupleItemsOf (.ref a) >>= _) _ _ s
 refine DP (tupleItemsOf_ ht ?_)
 refine DP (Gk hTs ?_)
 rw [if_pos (by decide)]
 refine DP (HT.sliceApplied_gen hs pl pu ?_)
 rw [hlen,hw1,hw2]
 dsimp only
 rw [if_pos (by simp)]
 refine DP (m:=Builtin.Tuple.tupleIsExact (.ref a)) ?_
 unfold Builtin.Tuple.tupleIsExact
 refine DP (Gk ht.typeIs (DS ?_))
 rw [if_pos (by decide)]
 exact DP (Gu (DS ⟨_,rfl,DS ⟨.ref a,H,I,rfl,q⟩⟩))
end L2.Cu
namespace L2
open PySem PySem.Spec PyProof.Rows
theorem v5 {X:Cx}:OpR X (binaryOp .Add) (fun x y H Q=>∃ a b ys,x=.ref a∧y=.ref b∧SqT X.K H a []∧SqT X.K H b ys∧Q (.ref b) H):=by
 intro pins s σ H x y v u Q I rx ry h
 obtain ⟨a,b,ys,rfl,rfl,ha,hb,q⟩:=h
 cases rx
 cases ry
 obtain ⟨its,r1,p1,_⟩:=I.tuple ha
 obtain ⟨its2,r2,p2,_⟩:=I.tuple hb
 have e0:its=[]:=r1.nil_iff.mpr rfl
 subst e0
 obtain ⟨⟨cls,dd,data,sl⟩,ho,hc,n,hd⟩:=id p1
 obtain ⟨⟨cls2,dd2,data2,sl2⟩,ho2,hc2,n2,hd2⟩:=id p2
 simp only at hc hd hc2 hd2
 subst hc hd hc2 hd2
 exact concat_meets ⟨_,ho,rfl⟩ ⟨_,ho2,rfl⟩ noFill_tuple_add seq_tuple_add Gq Gj (Gf _ _)
  (tuple_addW0 a b [].toArray its2.toArray n n2 dd dd2 sl sl2 (by simp)) ⟨ho,ho2,⟨.ref b,H,I,rfl,q⟩⟩
end L2
namespace L2.Cu
open PySem PySem.Spec PyProof.Rows
section
variable {X:Cx}{a b e:Expr}{pos p2:Pos}{f g:DE→Option D}
def cv (x y:D):Option D:=match x,y with
 | .int i,.int j=>some (.int (i + j))
 | .str i,.str j=>if i.length + j.length≤sizeLine then some (.str (i ++ j)) else none
 | .tup i,.tup j=>if i.length + j.length≤sizeLine then some (.tup (i ++ j)) else none
 | .lst i,.lst j=>if i.length + j.length≤sizeLine then some (.lst (i ++ j)) else none
 | _,_=>none
def zD (K:PySem.W.Frag):R2:=fun x y H Q=>(((rI0 fun i j=>.int (i + j)) x y H Q∨∃ i j,x=.str i∧y=.str j∧i.length + j.length≤sizeLine∧Q (.str (i ++ j)) H)∨(zC K x y H Q∨∃ a b ys,x=.ref a∧y=.ref b∧SqT K H a []∧SqT K H b ys∧Q (.ref b) H))∨Ci x y H Q
theorem yF:OpR X (binaryOp .Add) (zD X.K):=OpR.or (OpR.or (OpR.or AS qf) (OpR.or yE v5)) AR
theorem Ao {K:PySem.W.Frag}:dP .V (zD K) cv:=fun F H v w x y d Q s rx ry h q=>by
 match x,y,h with
 | .int i,.int j,h =>
  cases DW h
  exact .inl (.inl (.inl ⟨i,j,rx.int,ry.int,q _ F H (Ext.refl s) (.int _)⟩))
 | .str i,.str j,h =>
  have h':(if i.length + j.length≤sizeLine then some (D.str (i ++ j)) else none)=some d:=h
  split at h'
  ·rename_i hz
   cases DW h'
   exact .inl (.inl (.inr ⟨i,j,rx.str,ry.str,hz,q _ F H (Ext.refl s) (.str _)⟩))
  ·cases h'
 | .tup i,.tup j,h =>
  have h':(if i.length + j.length≤sizeLine then some (D.tup (i ++ j)) else none)=some d:=h
  split at h'
  ·rename_i hz
   cases DW h'
   obtain ⟨p,vs,rfl,hp,rp⟩:=rx.tup
   obtain ⟨r,ws,rfl,hr,rr⟩:=ry.tup
   by_cases he:vs=[]
   ·subst he
    cases rp
    exact .inl (.inr (.inr ⟨p,r,ws,rfl,rfl,SqT.of (s _ _ hp),SqT.of (s _ _ hr),q _ F H (Ext.refl s) (.tup hr rr)⟩))
   ·refine .inl (.inr (.inl ⟨p,r,vs,ws,rfl,rfl,SqT.of (s _ _ hp),SqT.of (s _ _ hr),he,by rw [rp.length,rr.length]; exact hz,fun hw=>?_,fun _ c hc=>?_⟩))
    ·subst hw
     cases rr
     exact q _ F H (Ext.refl s) (.tup hp (by rw [Fb]; exact rp))
    ·have x2:=Ext.freeze (o:=HO.tup (vs ++ ws)) s hc
     exact q _ _ _ x2 (.tup ar ((rp.append rr).mono x2.fr))
  ·cases h'
 | .lst i,.lst j,h =>
  have h':(if i.length + j.length≤sizeLine then some (D.lst (i ++ j)) else none)=some d:=h
  split at h'
  ·rename_i hz
   cases DW h'
   obtain ⟨p,vs,rfl,hp,rp⟩:=OB.lst s rx
   obtain ⟨r,ws,rfl,hr,rr⟩:=OB.lst s ry
   refine .inr ⟨p,r,vs,ws,rfl,rfl,hp,hr,by rw [rp.length,rr.length]; exact hz,fun c hc=>?_⟩
   have x2:=Ext.freeze (o:=HO.lst (vs ++ ws)) s hc
   exact q _ _ _ x2 (.lst ar ((rp.append rr).mono x2.fr))
  ·cases h'
theorem b4 (ha:Ev X .O a f) (hb:Ev X .O b g):Ev X .V (.BinOp a .Add b pos) (bin cv f g):=iX yF Ao ha hb
theorem l6 (hr:X.A.units + 64 < cLine) (ha:Ev X .O a f) (hb:Ev X .O b g):Ev X .V (.Compare a [.Eq] [b] pos) (bin eqO f g):=qJ (OpR.or zG lP) (vA _ hr) ha hb (d4 _)
theorem kL (hr:X.A.units + 64 < cLine) (ha:Ev X .O a f) (hb:Ev X .O b g):Et X (.Compare a [.Eq] [b] pos) (tst (bin eqO f g)):=kM (OpR.or zG lP) (vA _ hr) ha hb (d4 _)
theorem pe (hr:X.A.units + 64 < cLine) (ha:Ev X .O a f) (hb:Ev X .O b g):Et X (.Compare a [.NotEq] [b] pos) (tst (bin neO f g)):=kM (OpR.or Cw tN) (Ah _ hr) ha hb (d4 _)
theorem CM (ha:Ev X .O a f) (hb:Ev X .O b g):Ev X .V (.Compare a [.Lt] [b] pos) (bin ltD f g):=qJ vZ zx ha hb (d4 _)
theorem si (ha:Ev X .O a f) (hb:Ev X .O b g):Et X (.Compare a [.Lt] [b] pos) (tst (bin ltD f g)):=kM vZ zx ha hb (d4 _)
theorem sj (ha:Ev X .O a f) (hb:Ev X .O b g):Et X (.Compare a [.Gt] [b] pos) (tst (bin gtD f g)):=kM zF zB ha hb (d4 _)
theorem CO (ha:Ev X .O a f) (hb:Ev X .O b g):Ev X .V (.Compare a [.Gt] [b] pos) (bin gtD f g):=qJ zF zB ha hb (d4 _)
theorem nk {c:Expr}{h:DE→Option D} (ha:Ev X .O a f) (hb:Ev X .O b g) (hc:Ev X .O c h) (hm:lastMarks [.LtE,.LtE] [b,c]=false:=by with_unfolding_all rfl):Ev X .V (.Compare a [.LtE,.LtE] [b,c] pos) (dI leD leD f g h):=wW v0 zA v0 zA ha hb hc hm
def Dh (K:PySem.W.Frag):V→Option Int→Option Int→Hp→VK→Prop:=fun x lo hi H Q=>(Cc K x lo hi H Q∨∃ z,x=.str z∧z.length≤sizeLine∧Q (.str (Txt.slice z lo hi)) H) ∨
 (Cb K x lo hi H Q∨∃ a xs,x=.ref a∧SqT K H a xs∧(HT.sIx xs.length 0 lo=0∧HT.sIx xs.length xs.length hi=xs.length)∧Q (.ref a) H)
theorem z9:SlR X (Dh X.K):=SlR.or (SlR.or xV zZ) (SlR.or zY pY)
theorem Reps.cut {F:Hp}{vs:List V}{ds:List D} (r:Reps F vs ds) (lo hi:Option Int):Reps F (jw vs lo hi) (b5 ds lo hi):=by
 unfold jw b5
 rw [r.length]
 exact (r.drop _).take _
theorem cL {lo hi:Option Expr}{l h:DE→Option (Option Int)} (ha:Ev X .O e f) (hl:Ep X lo l) (hh:Ep X hi h):Ev X .V (.Subscript e (.Slice lo hi none p2) pos) (bJ f l h):=PE.by (vU z9 ha.h hl.h hh.h) fun σ H Q zz101_0=>by
 obtain ⟨B,F,E,d,k,q,w⟩:=zz101_0
 unfold bJ at q
 cases h1:f E with
 | none=>simp [h1] at q
 | some x =>
  cases h2:l E with
  | none=>simp [h1,h2] at q
  | some lo =>
   cases h3:h E with
   | none=>simp [h1,h2,h3] at q
   | some hi =>
    simp only [h1,h2,h3,DC] at q
    refine ⟨B,F,E,x,k,h1,fun v F1 H1 x1 r1=>⟨B,F1,E,lo,k.ext x1,h2,fun F2 H2 x2=>⟨B,F2,E,hi,(k.ext x1).ext x2,h3,fun F3 H3 x3=>?_⟩⟩⟩
    have x13:=(x1.trans x2).trans x3
    have r3:OB F3 H3 v x:=OB.ext (x2.trans x3) r1
    have s:=x3.sub
    cases x with
    | lst xs =>
     cases DW q
     obtain ⟨p,vs,rfl,hp,rp⟩:=OB.lst s r3
     refine .inl (.inl ⟨p,vs,rfl,SqL.of hp,fun c hc=>?_⟩)
     have x4:=Ext.freeze (o:=HO.lst (jw vs lo hi)) s hc
     exact w _ _ _ (x13.trans x4) (.lst ar ((rp.cut lo hi).mono x4.fr))
    | scr ns =>
     cases DW q
     obtain ⟨p,o,rfl,hp⟩:=r3.scr
     refine .inl (.inl ⟨p,_,rfl,.inl (.inr ⟨o,s _ _ hp⟩),fun c hc=>?_⟩)
     have x4:=Ext.freeze (o:=HO.lst (jw (ns.map V.int) lo hi)) s hc
     refine w _ _ _ (x13.trans x4) (.lst ar ?_)
     have e1:jw (ns.map V.int) lo hi=(b5 ns lo hi).map V.int:=xo V.int ns lo hi
     rw [e1]
     exact Reps.ints _
    | tup xs =>
     cases DW q
     obtain ⟨p,vs,rfl,hp,rp⟩:=r3.tup
     by_cases hw:HT.sIx vs.length 0 lo=0∧HT.sIx vs.length vs.length hi=vs.length
     ·refine .inr (.inr ⟨p,vs,rfl,SqT.of (s _ _ hp),hw,?_⟩)
      refine w _ F3 H3 x13 ?_
      have:b5 xs lo hi=xs:=by
       unfold b5
       rw [← rp.length,hw.1,hw.2,rp.length]
       simp
      rw [this]
      exact .tup hp rp
     ·refine .inr (.inl ⟨p,vs,rfl,SqT.of (s _ _ hp),hw,fun c hc=>?_⟩)
      have x4:=Ext.freeze (o:=HO.tup (jw vs lo hi)) s hc
      exact w _ _ _ (x13.trans x4) (.tup ar ((rp.cut lo hi).mono x4.fr))
    | str z =>
     have q':(if z.length≤sizeLine then some (D.str (Txt.slice z lo hi)) else none)=some d:=q
     split at q'
     ·rename_i hz
      cases DW q'
      exact .inl (.inr ⟨z,r3.str,hz,w _ F3 H3 x13 (.str _)⟩)
     ·cases q'
    | _=>cases q
def ue:D→Option D
 | .lst xs=>some (.int xs.length)
 | .tup xs=>some (.int xs.length)
 | .scr xs=>some (.int xs.length)
 | .str x=>if x.length≤sizeLine then some (.int x.length) else none
 | _=>none
theorem Ak {K:PySem.W.Frag}:k7 .V (fun xs H Q=>∃ x n,xs=[x]∧BI K x H n∧Q (.int n) H) ue:=fun F H v x d Q s rx h q=>by
 match x,h with
 | .lst xs,h =>
  cases DW h
  obtain ⟨p,vs,rfl,hp,rp⟩:=OB.lst s rx
  exact ⟨_,xs.length,rfl,.inl ⟨vs,SqL.of hp,rp.length.symm⟩,q _ F H (Ext.refl s) (.int _)⟩
 | .tup xs,h =>
  cases DW h
  obtain ⟨p,vs,rfl,hp,rp⟩:=rx.tup
  exact ⟨_,xs.length,rfl,.inr ⟨vs,SqT.of (s _ _ hp),rp.length.symm⟩,q _ F H (Ext.refl s) (.int _)⟩
 | .scr ns,h =>
  cases DW h
  obtain ⟨p,o,rfl,hp⟩:=rx.scr
  exact ⟨_,ns.length,rfl,.inl ⟨_,.inl (.inr ⟨o,s _ _ hp⟩),by rw [DU]⟩,q _ F H (Ext.refl s) (.int _)⟩
 | .str z,h =>
  have h':(if z.length≤sizeLine then some (D.int z.length) else none)=some d:=h
  split at h'
  ·rename_i hz
   cases DW h'
   cases rx.str
   exact ⟨_,z.length,rfl,⟨hz,rfl⟩,q _ F H (Ext.refl s) (.int _)⟩
  ·cases h'
def jx:List D→Option (List Bool)
 | []=>some []
 | .bl b :: r=>(jx r).map fun bs=>b :: bs
 | _=>none
theorem i7:∀ {ds:List D}{bs:List Bool},jx ds=some bs→ds=bs.map D.bl
 | [],bs,h=>by cases h; rfl
 | .bl b :: r,bs,h=>by
  unfold jx at h
  cases hr:jx r with
  | none=>rw [hr] at h; cases h
  | some cs =>
   rw [hr] at h
   cases h
   rw [i7 hr]; rfl
def cV:D→Option D
 | .lst xs=>(jx xs).map fun bs=>.bl (bs.all id)
 | _=>none
def jy:D→Option D
 | .lst xs=>(jx xs).map fun bs=>.bl (bs.any id)
 | _=>none
theorem An:k7 .V (fun xs H Q=>∃ (a:Addr) (bs:List Bool),xs=[.ref a]∧H a=some (.lst (bs.map V.bl))∧Q (.bl (bs.all id)) H) cV:=fun F H v x d Q s rx h q=>by
 match x,h with
 | .lst xs,h =>
  have h':((jx xs).map fun bs=>D.bl (bs.all id))=some d:=h
  cases hb:jx xs with
  | none=>rw [hb] at h'; cases h'
  | some bs =>
   rw [hb] at h'
   cases h'
   obtain ⟨p,vs,rfl,hp,rp⟩:=OB.lst s rx
   rw [i7 hb] at rp
   rw [Reps.bls rp] at hp
   exact ⟨p,bs,rfl,hp,q _ F H (Ext.refl s) (.bl _)⟩
theorem Am:k7 .V (fun xs H Q=>∃ (a:Addr) (bs:List Bool),xs=[.ref a]∧H a=some (.lst (bs.map V.bl))∧Q (.bl (bs.any id)) H) jy:=fun F H v x d Q s rx h q=>by
 match x,h with
 | .lst xs,h =>
  have h':((jx xs).map fun bs=>D.bl (bs.any id))=some d:=h
  cases hb:jx xs with
  | none=>rw [hb] at h'; cases h'
  | some bs =>
   rw [hb] at h'
   cases h'
   obtain ⟨p,vs,rfl,hp,rp⟩:=OB.lst s rx
   rw [i7 hb] at rp
   rw [Reps.bls rp] at hp
   exact ⟨p,bs,rfl,hp,q _ F H (Ext.refl s) (.bl _)⟩
theorem fG {p:Pos} (hc:X.calm=true) (hg:Gl X "all") (hm:X.mg "all" = none) (hv:bootBuiltins "all" = some (.builtin "all")) (ha:Ev X .O e f) (he:be e=true:=by rfl):Ev X .V (.Call (.Name "all" p) [e] [] pos) (un cV f) :=
 jM (xu hc) An hg hm hv ha (by decide) (by decide) he
theorem qK {p:Pos} (hc:X.calm=true) (hg:Gl X "any") (hm:X.mg "any" = none) (hv:bootBuiltins "any" = some (.builtin "any")) (ha:Ev X .O e f) (he:be e=true:=by rfl):Ev X .V (.Call (.Name "any" p) [e] [] pos) (un jy f) :=
 jM (xt hc) Am hg hm hv ha (by decide) (by decide) he
def tyN:D→String
 | .non => "NoneType" | .bl _ => "bool" | .int _ => "int" | .str _ => "str" | .tup _ => "tuple" | .lst _ => "list" | .dic _ => "dict" | .scr _ => "list"
def bX (t T:String):Bool:=t == T || (t == "bool" && T == "int")
def g0 (T:String):Bool:=T == "str" || T == "int" || T == "bool" || T == "tuple" || T == "list" || T == "dict"
theorem zm {K:PySem.W.Frag}{F H:Hp}{v:V}{d:D} (s:∀ a u,F a=some u→H a=some u) (r:OB F H v d):gk K H v (.type (tyN d)):=by
 cases d with
 | non=>rw [r.non]; exact .non
 | bl b=>rw [r.bl]; exact .bl b
 | int i=>rw [r.int]; exact .int i
 | str x=>rw [r.str]; exact .str x
 | tup xs=>obtain ⟨p,vs,rfl,hp,_⟩:=r.tup; exact .tup (s _ _ hp)
 | lst xs=>obtain ⟨p,vs,rfl,hp,_⟩:=OB.lst s r; exact .lst hp
 | dic xs=>obtain ⟨p,vs,rfl,hp,_⟩:=OB.dic s r; exact hp.elim (fun h=>.dK h) fun zz102_0=>by obtain ⟨_,h⟩:=zz102_0; exact .frzD h
 | scr ns=>obtain ⟨p,o,rfl,hp⟩:=r.scr; exact .frz (s _ _ hp)
theorem mZ (K:PySem.W.Frag) (d:D) {T:String} (h:g0 T=true):PySem.W.kitOne K (.type (tyN d)) (.type T)=some (bX (tyN d) T):=by
 have hT:T = "str"∨T = "int"∨T = "bool"∨T = "tuple"∨T = "list"∨T = "dict" := by simpa [g0,or_assoc] using h
 rcases hT with rfl | rfl | rfl | rfl | rfl | rfl <;> cases d <;> rfl
def isF (T:String) (f:DE→Option D) (E:DE):Option D:=(f E).map fun d=>.bl (bX (tyN d) T)
theorem bD {p px:Pos}{x:Str}{T:String} (hT:g0 T=true) (hg:Gl X "isinstance") (hm:X.mg "isinstance" = none) (hv:bootBuiltins "isinstance" = some (.builtin "isinstance")) (hgx:Gl X x) (hmx:X.mg x=none) (hvx:bootBuiltins x=some (.type T))
  (ha:Ev X .O e f) (hn:x ≠ "__name__" := by decide) (hd:(x == ("__debug__" : Str))=false:=by decide) (he:be e=true:=by rfl):Ev X .V (.Call (.Name "isinstance" p) [e,.Name x px] [] pos) (isF T f) :=
 PE.by (fU pG hg hm hv (cr ha.h (cr (jG hgx hmx hvx (v:=.ty T) rfl hn hd) eI (aH _ [] X.env rfl)) (aH e [.Name x px] X.env he)) (by decide) (by decide) (aH e [.Name x px] X.env he) (dQ pos X.env [.Name x px] rfl)) fun σ H Q zz103_0=>by
  obtain ⟨B,F,E,d,k,q,w⟩:=zz103_0
  unfold isF at q
  cases hf:f E with
  | none=>simp [hf] at q
  | some x =>
   simp only [hf,DF] at q
   cases q
   exact ⟨B,F,E,x,k,hf,fun v F' H' x1 r1=>⟨v,T,_,_,rfl,zm x1.sub r1,mZ X.K x hT,w _ F' H' x1 (.bl _)⟩⟩
def aW:D→Option D
 | .lst xs=>some (.tup xs)
 | .tup xs=>some (.tup xs)
 | _=>none
def eT:D→Option D
 | .lst xs=>some (.lst xs)
 | .tup xs=>some (.lst xs)
 | _=>none
theorem vy {K:PySem.W.Frag}:k7 .V (fun xs H Q=>∃ p ys,xs=[.ref p]∧((SqL K H p ys∧∀ l,H l=none→Q (.ref l) (upd H l (.tup ys)))∨(SqT K H p ys∧Q (.ref p) H))) aW:=fun F H v x d Q s rx h q=>by
 match x,h with
 | .lst xs,h =>
  cases DW h
  obtain ⟨p,vs,rfl,hp,rp⟩:=OB.lst s rx
  refine ⟨p,vs,rfl,.inl ⟨SqL.of hp,fun c hc=>?_⟩⟩
  have x4:=Ext.freeze (o:=HO.tup vs) s hc
  exact q _ _ _ x4 (.tup ar (rp.mono x4.fr))
 | .tup xs,h =>
  cases DW h
  obtain ⟨p,vs,rfl,hp,rp⟩:=rx.tup
  exact ⟨p,vs,rfl,.inr ⟨SqT.of (s _ _ hp),q _ F H (Ext.refl s) (.tup hp rp)⟩⟩
theorem x_ {K:PySem.W.Frag}:k7 .F (fun xs H Q=>∃ p ys,xs=[.ref p]∧(SqL K H p ys∨SqT K H p ys)∧∀ l,H l=none→Q (.ref l) (upd H l (.lst ys))) eT:=fun F H v x d Q s rx h q=>by
 match x,h with
 | .lst xs,h =>
  cases DW h
  obtain ⟨p,vs,rfl,hp,rp⟩:=OB.lst s rx
  exact ⟨p,vs,rfl,.inl (SqL.of hp),fun c hc=>q _ F _ (Ext.lay s hc) ⟨c,_,rfl,hc,ar,nofr s hc,rp⟩⟩
 | .tup xs,h =>
  cases DW h
  obtain ⟨p,vs,rfl,hp,rp⟩:=rx.tup
  exact ⟨p,vs,rfl,.inr (SqT.of (s _ _ hp)),fun c hc=>q _ F _ (Ext.lay s hc) ⟨c,_,rfl,hc,ar,nofr s hc,rp⟩⟩
theorem bN {p:Pos} (hg:Gl X "tuple") (hm:X.mg "tuple" = none) (hv:bootBuiltins "tuple" = some (.type "tuple")) (ha:Ev X .O e f) (he:be e=true:=by rfl):Ev X .V (.Call (.Name "tuple" p) [e] [] pos) (un aW f) :=
 wV lm vy hg hm hv ha (by decide) (by decide) he
theorem ix {p:Pos} (hg:Gl X "list") (hm:X.mg "list" = none) (hv:bootBuiltins "list" = some (.type "list")) (ha:Ev X .O e f) (he:be e=true:=by rfl):Ev X .F (.Call (.Name "list" p) [e] [] pos) (un eT f) :=
 wV nC x_ hg hm hv ha (by decide) (by decide) he
end
theorem uF {js:List Nat}{fi:DE→Option (List D)} {gf:D→DE→Option DE}{cf:DE→Option Bool}{ef:DE→Option D}:∀ E d,aE js fi gf cf ef E=some d→∃ xs,d=.lst xs:=fun E d h=>by
 unfold aE at h
 cases h1:fi E with
 | none=>rw [h1] at h; cases h
 | some xs =>
  rw [h1] at h
  have h':(if xs.length≤sizeLine then (bO gf cf ef (aU js E) xs).map D.lst else none)=some d:=h
  split at h'
  ·cases h2:bO gf cf ef (aU js E) xs with
   | none=>rw [h2] at h'; cases h'
   | some ys=>rw [h2] at h'; cases h'; exact ⟨_,rfl⟩
  ·cases h'
theorem wM {f:DE→Option D} (hl:∀ E d,f E=some d→∃ xs,d=.lst xs) (σ:St) (H:Hp) (Q:VK) (h:tM .V f σ H Q):tM .F f σ H Q:=by
 obtain ⟨B,F,E,d,k,q,w⟩:=h
 refine ⟨B,F,E,d,k,q,fun v F' H' x r=>?_⟩
 obtain ⟨p,o,h1,h2,h3,h4,h5⟩:=r
 have up:∀ c u,F' c=some u→(upd F' p o) c=some u:=fun c u z=>by rw [am (fun y=>by rw [y,h4] at z; cases z)]; exact z
 subst h1
 obtain ⟨xs,rfl⟩:=hl E d q
 have hfz:fzO default o=o:=by
  cases o <;> first | rfl | exact False.elim h5
 refine w _ (upd F' p o) H' ⟨x.same,fun c u z=>up c u (x.fr c u z),fun c u z=>?_,fun c z n=>?_⟩ ((h5.mono up).rep (ob:=default) (by rw [hfz]; exact ar))
 ·by_cases hc:c=p
  ·subst hc; rw [ar] at z; cases z; exact h3
  ·rw [am hc] at z; exact x.sub c u z
 ·have hc:c ≠ p:=fun y=>n (by rw [y]; exact h2)
  rw [am hc]; exact x.new c z n
theorem wZ {X:Cx}{scope:Scope}{js:List Nat}{elt tg iter:Expr}{ifs:List Expr}{pos:Pos}{fi:DE→Option (List D)} {gf:D→DE→Option DE}{cf:DE→Option Bool}{ef:DE→Option D}{i:Nat}{x:Str}{px:Pos}{spos:Pos} (hN:X.N.Nodup) (hix:X.N[i]? = some x) (hx:Loc X.env.scope x) (b:Blk X scope js) (hc:X.calm=true) (hI:Ei X tg iter fi) (hj:i8 js gf)
  (hg:∀ C fp s0 H0,Eg (b9 X scope C fp s0 H0) tg gf) (hi:∀ C fp s0 H0,xH (b9 X scope C fp s0 H0) ifs cf) (he:∀ C fp s0 H0,Ev (b9 X scope C fp s0 H0) .V elt ef)
  (hsw:swapsWith (.ListComp elt [⟨tg,iter,ifs,0⟩] scope pos) (some (.Name x px)) spos.line X.env=pure true)
  (hfn:X.fn x=true∨X.env.scope.names.lookup x=some .local:=by first | exact .inl rfl | exact .inr rfl | assumption) (hs:∀ x,foldedSetIterable iter X.env x=pure x:=by intro _; rfl) :
  Es X (.Assign [.Name x px] (.ListComp elt [⟨tg,iter,ifs,0⟩] scope pos) spos) (aB i (aE js fi gf cf ef)):=PS.by (rL hN hix hx b hc hI.h (fun C fp s0 H0=>(hg C fp s0 H0).h) (fun C fp s0 H0=>(hi C fp s0 H0).h) (fun C fp s0 H0=>(he C fp s0 H0).h) hsw hfn hs) fun Z σ H h=>i6 hj σ H _ (wM uF σ H _ (nR Z σ H h))
theorem nq {X:Cx}{x:Str}{v:V}{d:D}{u:Value}{pos:Pos} (hg:Gl X x) (hm:X.mg x=some u) (r:aX v u) (rd:∀ F,Rep F v d) (hd:(x == ("__debug__" : Str))=false:=by decide):Ev X .V (.Name x pos) (cst d):=kK (jF hg hm r hd) rd
def bF (n m:Nat) (b:DE→Option Out) (ds:List D):Option D:=if ds.length=n then (b (ds.map Sl.val ++ List.replicate (m - n) Sl.no)).bind fun r=>match r with
 | .rt d=>some d
 | .nx _=>some .non
 | _=>none
 else none
theorem oh {F H:Hp}{vs:List V}{ds:List D}{N:List Str} (s:∀ a o,F a=some o→H a=some o) (r:Reps F vs ds):Ok (F,H) F H (start N vs) (ds.map Sl.val ++ List.replicate (N.length - ds.length) Sl.no):=by
 have noown:∀ (i:Nat) d,(ds.map Sl.val ++ List.replicate (N.length - ds.length) Sl.no)[i]? = some (.own d)→False:=fun i d h=>by
  have:=EU h
  rcases List.mem_append.mp this with q | q
  ·obtain ⟨x,_,e⟩:=List.mem_map.mp q; cases e
  ·have:=(List.mem_replicate.mp q).2; cases this
 refine ⟨Ext.refl s,?_,fun i d h=>?_,fun i d h=>(noown i d h).elim,fun i j d e a _ h=>(noown i d h).elim,?_⟩
 ·unfold start
  rw [D9,D9,DU,DU,Gy,Gy,r.length]
 ·have hl:=r.length
  by_cases hi:i < ds.length
  ·rw [Fx (by simpa using hi),EQ] at h
   cases hd:ds[i]? with
   | none=>rw [hd] at h; cases h
   | some d' =>
    rw [hd] at h
    cases h
    obtain ⟨v,h1,h2⟩:=r.get hd
    refine ⟨v,?_,h2⟩
    unfold start
    rw [Fx (by simpa [hl] using hi),EQ,h1]; rfl
  ·rw [F9 (by simpa using hi)] at h
   have:=EU h
   have:=(List.mem_replicate.mp this).2
   cases this
 ·have no:∀ (i:Nat) z,(ds.map Sl.val ++ List.replicate (N.length - ds.length) Sl.no)[i]? = some z→(∃ d,z=.val d)∨z=.no:=fun i z h=>by
   rcases List.mem_append.mp (EU h) with q | q
   ·obtain ⟨x,_,e⟩:=List.mem_map.mp q; exact .inl ⟨x,e.symm⟩
   ·exact .inr (List.mem_replicate.mp q).2
  have n1:∀ (i:Nat) t,(ds.map Sl.val ++ List.replicate (N.length - ds.length) Sl.no)[i]? = some (.obj t)→False:=fun i t h=>by rcases no i _ h with ⟨d,e⟩ | e <;> cases e
  exact ⟨fun _=>[],fun i t h=>(n1 i t h).elim,fun i j t d b h=>(n1 i t h).elim,fun i j t u _ h=>(n1 i t h).elim,fun i t h=>by rcases no i _ h with ⟨d,e⟩ | e <;> cases e⟩
theorem fnD {P:Program}{w:World}{K:PySem.W.Frag}{mg:Str→Option Value}{base:Heap}{x qual:Str}{st:Stmt}{f:Addr}{fd:FuncData}{N ps:List Str}{k:Nat}{b:DE→Option Out} (Fn:Fun K x qual st f fd) (S:aL N ps (ak st))
  (hbody:∀ (cdv:Value) (A:Around) (outer:List Env) (s:Shared) (H:Hp) (E:XK),cW k (A.deeper (envOfC qual (ak st) s.heap.objs.size f cdv)) →
   Ess (jv CX0 P w K mg base N qual (ak st) f cdv A outer s H E).nox (dO st) b):br P w K mg base CX0 (k + 1) f fd ps (spD ps.length (bF ps.length N.length b)):=by
 refine Fn.ok S (fun vs H Q E h=>?_) (fun cdv A outer s H vs Q E hr h=>?_)
 ·obtain ⟨F,ds,d,_,r,hl,_⟩:=h
  rw [r.length,hl]
 ·obtain ⟨F,ds,d,hs,r,hl,hg,q⟩:=h
  refine ⟨_,(hbody cdv A outer s H E hr).h,?_⟩
  unfold bF at hg
  rw [if_pos hl] at hg
  cases hb:b (ds.map Sl.val ++ List.replicate (N.length - ps.length) Sl.no) with
  | none=>rw [hb] at hg; cases hg
  | some rr =>
   rw [hb] at hg
   have k0:=oh (N:=N) hs r
   rw [hl] at k0
   refine ⟨(F,H),F,_,rr,k0,hb,?_⟩
   cases rr with
   | rt d'=>cases hg; exact fun v F' H' x r'=>q v F' H' x r'
   | nx E'=>cases hg; exact fun σ' F' H' k' _=>q .non F' H' k'.ent .non
   | bk E'=>cases hg
   | ct E'=>cases hg
open PySem.W in
theorem zf {ns:List Int} (h:WData.layableAll [WData.list (ns.map WData.int)]=true):∀ n ∈ ns,Builtin.Int.intBits n≤2 ^ 20:=by
 have h1:(WData.list (ns.map WData.int)).layable=true:=by
  have:=h
  simp only [WData.layableAll,EY,List.all_nil,Bool.and_true] at this
  exact this
 intro n hn
 have h2:=layableW_item h1 (WData.int n) (List.mem_map.mpr ⟨n,hn,rfl⟩)
 have h3:=(layableW_iff.mp h2).2.2
 exact h3
def mW (K:PySem.W.Frag):Bool:=K.all fun p => !(p.2.cls == Value.type "list")
theorem oq {K:PySem.W.Frag} (h:mW K=true) {a:Addr}{o:Obj} (e:K.lookup a=some o):o.cls ≠ Value.type "list" := by
 intro hc
 have hm:(a,o) ∈ K:=by
  clear h
  induction K with
  | nil=>cases e
  | cons p r ih =>
   obtain ⟨b,u⟩:=p
   rw [EM] at e
   cases hb:a == b with
   | true =>
    rw [hb] at e
    have e1:a=b:=by simpa using hb
    have e2:u=o:=by simpa using e
    rw [e1,e2]; exact D3
   | false=>rw [hb] at e; exact D0 _ (ih e)
 have:=List.all_eq_true.mp h (a,o) hm
 rw [hc] at this
 simp at this
theorem A1 {K:PySem.W.Frag}{H:Hp}{a:Addr}{ns:List Int}{g:List D→Option D} (hK:∀ o,K.lookup a=some o→o.cls ≠ Value.type "list") (hS:SqL K H a (ns.map V.int)) (hO:BG H) (law:g [.scr ns]=some (.bl true)) :
  spD 1 g [.ref a] H (fun v _=>v=.bl true) fun _ _ _=>False:=by
 rcases hS with hS | ⟨o,its,n,hl,hc,_⟩
 ·have e:∃ o,H a=some (.frz o (.lst (ns.map V.int))):=by
   rcases hS with hS | hS
   ·rcases hO a with z | ⟨o,xs,z⟩
    ·rw [hS] at z; cases z
    ·rw [hS] at z; cases z
   ·exact hS
  obtain ⟨o,e⟩:=e
  refine ⟨H,[.scr ns],.bl true,fun _ _ q=>q,.cons (.scr e) .nil,rfl,law,fun v F' H' x r=>?_⟩
  cases r
  rfl
 ·exact absurd hc (hK o hl)
section
variable {X:Cx}{a b e:Expr}{pos:Pos}{f g:DE→Option D}
def fY:D→Option Key
 | .int i=>some (.inl (some i))
 | .non=>some (.inl none)
 | .str x=>some (.inr x)
 | _=>none
theorem ip {F H:Hp}{v:V}{d:D}{k:Key} (h:fY d=some k) (r:OB F H v d):v=kV k:=by
 match d,h with
 | .int i,h=>cases h; rw [r.int]; rfl
 | .non,h=>cases h; rw [r.non]; rfl
 | .str x,h=>cases h; rw [r.str]; rfl
def uD (_:DE):Option D:=some (.dic [])
theorem y8:Ev X .F (.Dict [] [] pos) uD:=PE.by vX fun σ H Q zz104_0=>by
 obtain ⟨B,F,E,d,k,q,w⟩:=zz104_0
 cases q
 intro p hp
 exact w _ F _ (Ext.lay k.sub hp) ⟨p,_,rfl,hp,ar,nofr k.sub hp,RepK.nil⟩
def uC (f g:DE→Option D) (E:DE):Option D:=(f E).bind fun x=>(fY x).bind fun k=>(g E).map fun v=>.dic [(k,v)]
theorem y7 (ha:Ev X .V a f) (hb:Ev X .V b g):Ev X .F (.Dict [some a] [b] pos) (uC f g):=PE.by (yx (vK ha.h hb.h yk) rfl rfl (by simp) (by simp)) fun σ H Q zz105_0=>by
 obtain ⟨B,F,E,d,k,q,w⟩:=zz105_0
 unfold uC at q
 cases h1:f E with
 | none=>simp [h1] at q
 | some x =>
  cases h2:fY x with
  | none=>simp [h1,h2] at q
  | some ky =>
   cases h3:g E with
   | none=>simp [h1,h2,h3] at q
   | some y =>
    simp only [h1,h2,h3,DC,DF] at q
    cases q
    intro p hp
    have x0:Ext F H F (upd H p (.dK [])):=Ext.lay k.sub hp
    have fp:F p=none:=nofr k.sub hp
    refine ⟨B,F,E,x,k.ext x0,h1,fun v F1 H1 x1 r1=>⟨B,F1,E,y,(k.ext x0).ext x1,h3,fun u F2 H2 x2 r2=>?_⟩⟩
    have x12:=x1.trans x2
    have hHp:H2 p=some (.dK []):=x12.same p _ ar
    have f2p:F2 p=none:=x12.new p fp (by rw [ar]; simp)
    refine ⟨hHp,[(ky,u)],?_,by simp,?_⟩
    ·rw [ip (F:=F1) (H:=H1) h2 (.inl r1)]; rfl
    ·have x3:Ext F (upd H p (.dK [(ky,u)])) F2 (upd H2 p (.dK [(ky,u)])):=x12.stepD fp
     refine w _ F2 _ ((Ext.lay k.sub hp).trans x3) ⟨p,_,rfl,hp,ar,f2p,?_⟩
     exact RepK.cons r2 .nil
end
abbrev CB:=we
theorem fnG {P:Program}{w:World}{K:PySem.W.Frag}{mg:Str→Option Value}{base:Heap}{x qual:Str}{st:Stmt}{f:Addr}{fd:FuncData}{N ps:List Str}{k k1 n m:Nat}{b:DE→Option Out}{g:List D→Option D} (Fn:Fun K x qual st f fd) (S:aL N ps (ak st))
  (hn:ps.length=n) (hm:N.length=m) (hk:k + 1=k1) (hg:g=bF n m b)
  (hbody:∀ (cdv:Value) (A:Around) (outer:List Env) (s:Shared) (H:Hp) (E:XK),cW k (A.deeper (envOfC qual (ak st) s.heap.objs.size f cdv)) →
   Ess (jv CX0 P w K mg base N qual (ak st) f cdv A outer s H E).nox (dO st) b):br P w K mg base CX0 k1 f fd ps (spD n g):=by
 subst hn hm hk hg
 exact fnD Fn S hbody
section
variable {X:Cx}
theorem aC (i:Nat) {x:Str}{pos:Pos} (hN:X.N[i]? = some x:=by rfl) (hv:Vis X.env.scope x:=by first | exact Or.inl rfl | exact Or.inr (Or.inl rfl) | exact Or.inr (Or.inr rfl)) (hd:(x == ("__debug__" : Str))=false:=by decide)
  (hcd:(x == ("__classdict__" : Str))=false:=by decide):Ev X .V (.Name x pos) (var i):=Bm i (ki hN hv hd hcd)
theorem ao (i:Nat) {x:Str}{pos:Pos} (hN:X.N[i]? = some x:=by rfl) (hv:Vis X.env.scope x:=by first | exact Or.inl rfl | exact Or.inr (Or.inl rfl) | exact Or.inr (Or.inr rfl)) (hd:(x == ("__debug__" : Str))=false:=by decide)
  (hcd:(x == ("__classdict__" : Str))=false:=by decide):Ev X .O (.Name x pos) (ae i):=y6 i (ki hN hv hd hcd)
end
section
variable {X:Cx}{a b e:Expr}{pos apos cpos spos:Pos}{f g:DE→Option D}
theorem vp {α:Type}{l:List α}{i:Nat}{x:α} (h:l[i]? = some x):l.set i x=l:=by
 obtain ⟨hi,rfl⟩:=List.getElem?_eq_some_iff.mp h
 exact List.set_getElem_self hi
theorem Ok.rewrite {B:Hp×Hp}{F H:Hp} {σ:St}{E:DE} (k:Ok B F H σ E) {i:Nat}{d d':D}{p:Addr}{o':HO} (h:E[i]? = some (.own d)) (hs:σ[i]? = some (some (.ref p))) (r:fJ F o' d'):Ok B F (upd H p o') σ (E.set i (.own d')):=by
 obtain ⟨q,o,h1,h2,h3,h4,h5⟩:=k.own i d h
 have e:p=q:=by rw [hs] at h1; cases h1; rfl
 subst e
 have z:=k.put_own i h3 h4 r (fun j e' hj he hq=>k.sep j i e' d p hj he h hq hs) (let ⟨fp,m⟩:=k.ob; ⟨fp,m,fun j t hb=>m.sep j i t d p hb h hs⟩)
 rwa [vp hs] at z
def eK (i:Nat) (f:DE→Option D) (E:DE):Option Out:=match E[i]? with
 | some (.own (.lst ds))=>(f E).bind fun d=>if ds.length < sizeLine then some (.nx (E.set i (.own (.lst (ds ++ [d]))))) else none
 | _=>none
theorem rP {B:Hp×Hp}{F H:Hp} {σ:St}{E:DE} (k:Ok B F H σ E) {i:Nat}{ds:List D} (h:E[i]? = some (.own (.lst ds))):∃ p vs,σ[i]? = some (some (.ref p))∧H p=some (.lst vs)∧F p=none∧Reps F vs ds:=by
 obtain ⟨q,o,h1,h2,h3,h4,h5⟩:=k.own i _ h
 cases o with
 | lst vs=>exact ⟨q,vs,h1,h2,h3,h5⟩
 | _=>exact False.elim h5
theorem eZ {i:Nat}{o:Expr} (ho:PE X o (my i)) (he:Ev X .V e f) (hbase:attributeBase o "append" X.env (eval o X.env)=eval o X.env:=by rfl)
  (hfew:((backTo cpos (starEach [e] X.env)).all (fun x => !x.1) && (backToKw cpos (keywordEach [] X.env)).all (fun x=>x.1.isSome) && decide (([e]:List Expr).length + ([]:List Keyword).length + (if ([]:List Keyword).isEmpty then 0 else 1) < 30))=true:=by rfl)
  (hline:(apos.endLine == cpos.line)=true:=by rfl) (hns:be e=true:=by rfl) (hs:swapsWith (.Call (.Attribute o "append" apos) [e] [] cpos) none spos.line X.env=pure false:=by rfl) :
  Es X (.Expr (.Call (.Attribute o "append" apos) [e] [] cpos) spos) (eK i f) :=
 PS.by (yi (Cq PySem.F.plainAttrs_list PySem.F.slot_list_append PySem.F.type_list_append lT ho (cr he.h eI (aH e [] X.env hns)) hbase hfew hline (aH e [] X.env hns) rfl) hs) fun Z σ H zz106_0=>by
  obtain ⟨B,F,E,r,k,q,w⟩:=zz106_0
  unfold eK at q
  split at q
  ·rename_i ds hd
   cases hf:f E with
   | none=>simp [hf] at q
   | some d =>
    simp only [hf,DC] at q
    split at q
    ·rename_i hz
     cases q
     obtain ⟨p,vs,h1,h2,h3,h4⟩:=rP k hd
     refine ⟨.ref p,h1,.inl ⟨rfl,vs,SqL.of h2⟩,B,F,E,d,k,hf,fun v F' H' x rv=>⟨p,vs,v,rfl,rfl,x.same _ _ h2,by rw [h4.length]; exact hz,?_⟩⟩
     exact w σ F' _ ((k.ext x).rewrite hd h1 (o':=.lst (vs ++ [v])) ((h4.mono x.fr).append (.cons rv .nil))) x.fr
    ·cases q
  ·cases q
def eO:D→Option (List D)
 | .lst xs=>some xs
 | .tup xs=>some xs
 | _=>none
def CL (i:Nat) (f:DE→Option D) (E:DE):Option Out:=match E[i]? with
 | some (.own (.lst ds))=>(f E).bind fun d=>(eO d).bind fun es=>if ds.length + es.length≤sizeLine then some (.nx (E.set i (.own (.lst (ds ++ es))))) else none
 | _=>none
def CU (i:Nat) (f:DE→Option D) (E:DE):Option Out:=match E[i]? with
 | some (.val (.int n))=>(f E).bind fun d=>match d with
  | .int m=>some (.nx (E.set i (.val (.int (n + m)))))
  | _=>none
 | _=>none
def cA (f:DE→Option D) (gf:D→DE→Option DE) (E:DE):Option Out:=(f E).bind fun d=>(gf d E).map Out.nx
theorem l_ {tg:Expr}{gf:D→DE→Option DE} (he:Ev X .V e f) (hg:Eg X tg gf) (hs:swapsWithSole [tg] e pos.line X.env=pure false:=by rfl) (hw:swappedStores [tg] e X.env=pure none:=by rfl)
  (h1:(assignEach [tg] X.env).map (·.2)=[assign tg X.env]:=by rfl):Es X (.Assign [tg] e pos) (cA f gf):=PS.by (vJ he.h hg.h hs hw h1) fun Z σ H zz107_0=>by
 obtain ⟨B,F,E,r,k,q,w⟩:=zz107_0
 unfold cA at q
 cases hf:f E with
 | none=>simp [hf] at q
 | some d =>
  simp only [hf,DC] at q
  cases hg:gf d E with
  | none=>simp [hg] at q
  | some E' =>
   simp only [hg,DF] at q
   cases q
   exact ⟨B,F,E,d,k,hf,fun v F1 H1 x1 r1=>⟨B,F1,E,d,E',k.ext x1,r1,hg,fun σ2 F2 H2 k2 x2=>w σ2 F2 H2 k2 fun a o e=>x2.fr a o (x1.fr a o e)⟩⟩
def dS (kvs:List (Key×D)) (k:Key):Option D:=(kvs.find? fun p=>decide (p.1=k)).map (·.2)
def zK (fo fk fe:DE→Option D) (E:DE):Option D:=(fo E).bind fun d=>match d with
 | .dic kvs=>(fk E).bind fun x=>(fY x).bind fun k=>(fe E).map fun y=>(dS kvs k).getD y
 | _=>none
theorem RepK.val {F:Hp}{k:Key}:∀ {vs:List (Key×V)} {ds:List (Key×D)},RepK F vs ds→(∀ d,dS ds k=some d→∃ v,eL vs k=some v∧Rep F v d)∧(dS ds k=none→eL vs k=none)
 | _,_,.nil=>⟨fun d h=>(by cases h),fun _=>rfl⟩
 | _,_,@RepK.cons _ k' v d vs ds r t=>by
  obtain ⟨h1,h2⟩:=RepK.val (k:=k) t
  by_cases e:k'=k
  ·have e1:dS ((k',d) :: ds) k=some d:=by simp [dS,e]
   have e2:eL ((k',v) :: vs) k=some v:=by simp [eL,e]
   refine ⟨fun d' h=>?_,fun h=>?_⟩
   ·rw [e1] at h; cases h; exact ⟨v,e2,r⟩
   ·rw [e1] at h; cases h
  ·have e1:dS ((k',d) :: ds) k=dS ds k:=by simp [dS,e]
   have e2:eL ((k',v) :: vs) k=eL vs k:=by simp [eL,e]
   rw [e1,e2]
   exact ⟨h1,h2⟩
theorem RepK.length {F:Hp}:∀ {vs:List (Key×V)} {ds:List (Key×D)},RepK F vs ds→vs.length=ds.length
 | _,_,.nil=>rfl
 | _,_,.cons _ t=>by simp [RepK.length t]
theorem qG (h:X.A.units + 64 < cLine):X.A.units + 1 < cLine:=by omega
def dN:D→Option D
 | .non=>some (.bl true)
 | _=>some (.bl false)
def dz:D→Option D
 | .non=>some (.bl false)
 | _=>some (.bl true)
theorem rG {F:Hp}{v:V}{d:D} (r:Rep F v d):dN d=some (.bl (decide (v=.non)))∧dz d=some (.bl (!decide (v=.non))):=by
 cases r <;> exact ⟨by simp [dN],by simp [dz]⟩
theorem o7 (σ:St) (H:Hp) (Q:VK) (h:tM .V (un dN f) σ H Q):tOp (fun x y H Q=>y=.non∧Q (.bl (decide (x=.non))) H) (tM .V f) (tC .non) σ H Q:=by
 obtain ⟨B,F,E,d,k,q,w⟩:=h
 unfold un at q
 cases hf:f E with
 | none=>simp [hf] at q
 | some x =>
  simp only [hf,DC] at q
  refine ⟨B,F,E,x,k,hf,fun v F1 H1 x1 r1=>⟨rfl,?_⟩⟩
  rw [(rG r1).1] at q
  cases q
  exact w _ F1 H1 x1 (.bl _)
theorem oX (σ:St) (H:Hp) (Q:VK) (h:tM .V (un dz f) σ H Q):tOp (fun x y H Q=>y=.non∧Q (.bl (!decide (x=.non))) H) (tM .V f) (tC .non) σ H Q:=by
 obtain ⟨B,F,E,d,k,q,w⟩:=h
 unfold un at q
 cases hf:f E with
 | none=>simp [hf] at q
 | some x =>
  simp only [hf,DC] at q
  refine ⟨B,F,E,x,k,hf,fun v F1 H1 x1 r1=>⟨rfl,?_⟩⟩
  rw [(rG r1).2] at q
  cases q
  exact w _ F1 H1 x1 (.bl _)
theorem Bp {j p} (h:Ev X .V e f):Ev X .V (.Compare e [.Is] [.Constant .none j p] pos) (un dN f):=PE.by (mQ v3 h.h mP (d4 _)) o7
theorem nr {j p} (h:Ev X .V e f):Et X (.Compare e [.Is] [.Constant .none j p] pos) (tst (un dN f)):=PT.by (jE v3 h.h mP (d4 _)) fun σ H Q q=>o7 σ H _ (fL σ H Q q)
theorem l7 {j p} (h:Ev X .V e f):Et X (.Compare e [.IsNot] [.Constant .none j p] pos) (tst (un dz f)):=PT.by (jE yC h.h mP (d4 _)) fun σ H Q q=>oX σ H _ (fL σ H Q q)
def zH:List D→Option D
 | [.int i,.int j]=>some (.int (if j < i then j else i))
 | _=>none
def zI:List D→Option D
 | [.int i,.int j]=>some (.int (if i < j then j else i))
 | _=>none
def CG:D→Option D
 | .int i=>some (.int i)
 | .bl k=>some (.int (if k then 1 else 0))
 | _=>none
theorem Bo {n:Int}{j p pos}:Ev X .V (.UnaryOp .USub (.Constant (.int n) j p) pos) (cst (.int (-n))):=PE.by (Cn zU vV) fun σ H Q zz108_0=>by
 obtain ⟨B,F,E,d,k,q,w⟩:=zz108_0
 cases q
 exact ⟨n,rfl,w _ F H (Ext.refl k.sub) (.int _)⟩
end
def noS (_:DE):Option Out:=none
theorem pf {X:Cx}{st:Stmt}:Es X st noS:=PS.by vI fun Z σ H ⟨B,F,E,r,k,q,w⟩=>by cases q
theorem l9 {X:Cx}{sts:List Stmt}:Ess X sts noS:=PSs.by tE fun Z σ H ⟨B,F,E,r,k,q,w⟩=>by cases q
theorem lU {js:List Nat}{i:Nat}{s:Sl} (hi:i ∈ js):∀ E:DE,aU js (E.set i s)=aU js E:=by
 induction js with
 | nil=>cases hi
 | cons j r ih =>
  intro E
  show aU r ((E.set i s).set j .no)=aU r (E.set j .no)
  by_cases h:i=j
  ·subst h; rw [List.set_set]
  ·rw [List.set_comm _ _ h]
   rcases List.mem_cons.mp hi with e | e
   ·exact absurd e h
   ·exact ih e _
theorem oE (js:List Nat) (E:DE):aU js (aU js E)=aU js E:=by
 have key:∀ (ks:List Nat) (E:DE),(∀ k ∈ ks,k ∈ js)→aU js (aU ks E)=aU js E:=by
  intro ks
  induction ks with
  | nil=>intro E _; rfl
  | cons k r ih =>
   intro E h
   show aU js (aU r (E.set k .no))=_
   rw [ih _ fun x hx=>h x (D0 _ hx),lU (h k D3)]
 exact key js E fun _ h=>h
def hG (js:List Nat) (gf:D→DE→Option DE):Prop:=∀ d E E1,gf d E=some E1→aU js E1=aU js E
theorem hG.js {js:List Nat}{gf:D→DE→Option DE} (h:hG js gf):i8 js gf:=fun d E E1 e=>by rw [h d _ E1 e,oE]
theorem jH {js:List Nat}{i:Nat} (h:i ∈ js):hG js (nmG i):=fun d E E1 e=>by
 cases e; exact lU h E
def jQ (js:List Nat) (gf:List D→DE→Option DE):Prop:=∀ ds E E1,gf ds E=some E1→aU js E1=aU js E
theorem oa {js:List Nat}:jQ js dc:=fun ds E E1 e=>by
 cases ds with
 | nil=>cases e; rfl
 | cons _ _=>cases e
theorem gy {js:List Nat}{g:D→DE→Option DE}{gs:List D→DE→Option DE} (h1:hG js g) (h2:jQ js gs):jQ js (bh g gs):=fun ds E E1 e=>by
 cases ds with
 | nil=>cases e
 | cons d r =>
  have e':(g d E).bind (fun E'=>gs r E')=some E1:=e
  cases hg:g d E with
  | none=>rw [hg] at e'; cases e'
  | some E2 =>
   rw [hg] at e'
   rw [h2 r E2 E1 e',h1 d E E2 hg]
theorem n_ {js:List Nat}{n:Nat}{gs:List D→DE→Option DE} (h:jQ js gs):hG js (dJ n gs):=fun d E E1 e=>by
 cases d with
 | tup ds =>
  have e':(if ds.length=n then gs ds E else none)=some E1:=e
  split at e'
  ·exact h ds E E1 e'
  ·cases e'
 | _=>cases e
theorem ul1 {us:List Value} (hl:us.length=1):∃ a,us=[a]:=List.length_eq_one_iff.mp hl
theorem ul2 {us:List Value} (hl:us.length=2):∃ a b,us=[a,b]:=by
 cases us with
 | nil=>cases hl
 | cons a us =>
  obtain ⟨b,rfl⟩:=ul1 (Nat.succ.inj hl)
  exact ⟨a,b,rfl⟩
theorem ul3 {us:List Value} (hl:us.length=3):∃ a b c,us=[a,b,c]:=by
 cases us with
 | nil=>cases hl
 | cons a us =>
  obtain ⟨b,c,rfl⟩:=ul2 (Nat.succ.inj hl)
  exact ⟨a,b,c,rfl⟩
end L2.Cu
namespace L2
open PySem PySem.Spec PyProof.Rows
abbrev gj (w:World):Bool:=w.params.followText "set-order"
def jz (prog:Program) (w:World) (h:Heap) (a:Addr) (S:Str→Bool) (n:Nat):Prop :=
 ∃ o es ep t,h.get? a=some o∧o.ExactSet∧o.data=.set es ep t∧ElemsOf (strKind prog w) es.toList∧(∀ k,S k=true ↔ ∃ e ∈ es.toList,(strKind prog w).is k e.2=true)
 ∧es.size < scanBound∧t.fits es.size=true∧es.size=n∧t.led=(!gj w)∧(es.size ≠ 0→t.plain=false)
theorem lf (t:SetTable) (n:Nat):(t.orStandIn n).led=t.led∧(t.plain=false→(t.orStandIn n).plain=false):=by
 unfold SetTable.orStandIn
 split
 ·exact ⟨rfl,fun h=>h⟩
 ·exact ⟨rfl,fun _=>rfl⟩
theorem qy (t:SetTable) (es:Array (Int×Value)) (h:Int) (x:Value):(layNew t es h x).2.1.led=t.led∧(t.plain=false→(layNew t es h x).2.1.plain=false):=by
 unfold layNew
 split
 ·exact lf _ _
 ·exact ⟨rfl,fun _=>rfl⟩
theorem mM (t:SetTable) (es:Array (Int×Value)) (wanted:Nat):(relayAll t es wanted).2.1.led=t.led∧(t.plain=false→(relayAll t es wanted).2.1.plain=false):=by
 unfold relayAll
 split
 ·rename_i t' order hr
  have e:t'.led=t.led∧t'.plain=t.plain:=by
   unfold SetTable.relaid SetTable.laid at hr
   cases hl:SetTable.layClean (SetTable.sizeAbove wanted - 1) (es.map (·.1)) with
   | none=>rw [hl] at hr; cases hr
   | some ow=>rw [hl] at hr; cases hr; exact ⟨rfl,rfl⟩
  dsimp only
  split
  ·exact ⟨e.1,fun h=>by rw [e.2]; exact h⟩
  ·exact ⟨rfl,fun _=>rfl⟩
 ·exact ⟨rfl,fun _=>rfl⟩
section
variable {prog:Program}{w:World}{A:Around}{E:Value→Shared→Prop}{s:Shared}
theorem j7 {h:Heap}{a:Addr}{o:Obj}{es es':Array (Int×Value)} {ep:Nat}{t t':SetTable}{S':Str→Bool} (ho:h.get? a=some o) (hx:o.ExactSet) (hd:o.data=.set es ep t)
  (h1:ElemsOf (strKind prog w) es'.toList) (h2:∀ k,S' k=true ↔ ∃ e ∈ es'.toList,(strKind prog w).is k e.2=true) (h3:es'.size < scanBound) (h4:t'.fits es'.size=true) (h5:t'.led=(!gj w)) (h6:t'.plain=false) :
  (h.update a (Obj.putSet es' t')).get? a=some { o with data:=.set es' (ep + 1) t' }∧jz prog w (h.update a (Obj.putSet es' t')) a S' es'.size:=by
 obtain ⟨hg,_⟩:=SetOf_store (knd:=strKind prog w) ho hx hd h1 h2 h3 h4
 exact ⟨hg,_,es',ep + 1,t',hg,hx,rfl,h1,h2,h3,h4,rfl,h5,fun _=>h6⟩
theorem lF {g:Bool→Sem Unit} (hg:∀ (b:Bool) (s1:Shared) (Q':Unit→Shared→Prop),Q' () s1→wpAny (model prog w) A (g b) Q' E s1) {a:Addr}{o:Obj}{es es1:Array (Int×Value)} {ep:Nat}{t t2:SetTable}{S':Str→Bool}{wasDummy:Bool}{R:Option Bool→Shared→Prop}
  (ho:s.heap.get? a=some o) (hx:o.ExactSet) (hd:o.data=.set es ep t) (h1:ElemsOf (strKind prog w) es1.toList) (h2:∀ k,S' k=true ↔ ∃ e ∈ es1.toList,(strKind prog w).is k e.2=true) (h3:es1.size < scanBound)
  (h4:t2.fits es1.size=true) (h5:t2.led=(!gj w)) (h6:t2.plain=false) (h:∀ h',Heap.SameBut a s.heap h'→jz prog w h' a S' es1.size→R (some true) { s with heap:=h' }) :
  wpAny (model prog w) A (do
   storeSet a es1 t2
   if (!wasDummy && t2.tooFull)=true then do
    g (relayAll t2 es1 (SetTable.grown es1.size)).2.2
    storeSet a (relayAll t2 es1 (SetTable.grown es1.size)).1 (relayAll t2 es1 (SetTable.grown es1.size)).2.1
    pure (some true)
   else pure (some true)) R E s:=by
 refine DP (wpAny_storeSet_of ho hd ?_ (fits_of_scanBound h3))
 obtain ⟨q1,q2⟩:=j7 ho hx hd h1 h2 h3 h4 h5 h6
 have sb:=FL s.heap a (Obj.putSet es1 t2)
 split
 ·have p1:=relayAll_perm t2 es1 (SetTable.grown es1.size)
  have p2:=relayAll_fits t2 es1 (SetTable.grown es1.size)
  obtain ⟨p3,p4⟩:=mM t2 es1 (SetTable.grown es1.size)
  generalize relayAll t2 es1 (SetTable.grown es1.size)=r at p1 p2 p3 p4 ⊢
  obtain ⟨es2,t3,gave⟩:=r
  dsimp only at p1 p2 p3 p4 ⊢
  have sz:es2.size=es1.size:=by rw [← EN,p1.length_eq,EN]
  refine DP (hg _ _ _ (DP (wpAny_storeSet_of q1 rfl ?_ (fits_of_scanBound (by rw [sz]; exact h3)))))
  obtain ⟨_,q3⟩:=j7 (prog:=prog) (w:=w) (S':=S') q1 hx rfl (h1.perm p1) (fun k=>(h2 k).trans ⟨fun zz111_0=>by obtain ⟨e,m,z⟩:=zz111_0; exact ⟨e,p1.mem_iff.mpr m,z⟩,fun zz112_0=>by obtain ⟨e,m,z⟩:=zz112_0; exact ⟨e,p1.mem_iff.mp m,z⟩⟩) (by rw [sz]; exact h3) p2 (p3.trans h5) (p4 h6)
  rw [sz] at q3
  exact DS (h _ (sb.trans (FL _ a _)) q3)
 ·exact DS (h _ sb q2)
theorem tX (x:Str) (t:Tok):hashByValue 8 (.str x t)=pure false:=rfl
theorem vt {a:Addr}{S:Str→Bool}{n:Nat}{k:Str}{tk:Tok}{Q:Bool→Shared→Prop} (hS:jz prog w s.heap a S n) (hroom:n + 1 < scanBound)
  (h:∀ h',Heap.SameBut a s.heap h'→jz prog w h' a (fun k'=>S k' || decide (k'=k)) (if S k then n else n + 1)→Q (!S k) { s with heap:=h' }) :
  wpAny (model prog w) A (setAddHashed a (.str k tk) ((strKind prog w).hash k)) Q E s:=by
 have hkey:(strKind prog w).is k (.str k tk)=true:=by show Value.isStrOf k (.str k tk)=true; simp [Value.isStrOf]
 have hsc:(Value.str k tk).scannable=true:=rfl
 obtain ⟨o,es,ep,t,ho,hx,hd,hel,hmem,hb,hf,hn,hled,hpl⟩:=hS
 unfold setAddHashed setAddHashedIn
 refine EA (DP (wpAny_setState_of ho hd hf ?_))
 dsimp only
 rw [byScan_of hsc hb hel]
 simp only [↓reduceIte]
 unfold setAddByScan
 refine DP (DP (Gu (DP (wpAny_setScan_of hkey ho hd hf hel ?_))))
 cases hr:List.findIdx? (fun e=>(strKind prog w).is k e.2) es.toList with
 | some j =>
  dsimp only
  obtain ⟨hj,hpj,_⟩:=List.findIdx?_eq_some_iff_getElem.mp hr
  have hSk:S k=true:=(hmem k).mpr ⟨es.toList[j],EI hj,hpj⟩
  refine DS (DS ?_)
  have q:=h s.heap (Heap.SameBut.refl a s.heap) ⟨o,es,ep,t,ho,hx,hd,hel,fun k'=>by
   rw [Bool.or_eq_true,Gb,← hmem k']
   exact ⟨fun z=>z.elim id (fun e=>e ▸ hSk),.inl⟩,hb,hf,by rw [hSk]; exact hn,hled,hpl⟩
  rw [hSk] at q
  exact q
 | none =>
  dsimp only
  have hSk:S k=false:=by
   cases hk:S k with
   | false=>rfl
   | true =>
    obtain ⟨e,he,hp⟩:=(hmem k).mp hk
    have z:=List.findIdx?_eq_none_iff.mp hr e he
    rw [hp] at z; cases z
  have gw:∀ (b:Bool) (s1:Shared) (Q':Unit→Shared→Prop),Q' () s1→wpAny (model prog w) A (match b with | true=>rule "set.scan.the-table-gave-way" | false=>pure ()) Q' E s1 :=
   fun b s1 Q' hq=>by cases b <;> first | exact DS hq | exact Gu hq
  have p1:=layNew_perm t es ((strKind prog w).hash k) (.str k tk)
  have p2:=layNew_fits t es ((strKind prog w).hash k) (.str k tk)
  obtain ⟨p3,p4⟩:=qy t es ((strKind prog w).hash k) (.str k tk)
  generalize layNew t es ((strKind prog w).hash k) (.str k tk)=L at p1 p2 p3 p4 ⊢
  obtain ⟨es1,t1,wasDummy,gave⟩:=L
  dsimp only at p1 p2 p3 p4 ⊢
  rw [Array.toList_push] at p1
  have hel1:=(hel.push hkey hsc).perm p1
  have hmem1:=fun k'=>mem_push_iff (knd:=strKind prog w) hkey hmem p1 k'
  have sz:es1.size=n + 1:=by
   rw [← EN,p1.length_eq,D9,EN,hn]; rfl
  refine DP (gw _ _ _ ?_)
  have fin:∀ h',Heap.SameBut a s.heap h'→jz prog w h' a (fun k'=>S k' || decide (k'=k)) es1.size→Q true { s with heap:=h' }:=fun h' sb q=>by
   have z:=h h' sb
   rw [hSk] at z
   rw [sz] at q
   exact z q
  split
  ·refine DP ?_
   rw [tX]
   refine DS ?_
   refine lF gw ho hx hd hel1 hmem1 (by rw [sz]; exact hroom) ?_ ?_ ?_ ?_
   ·exact SetTable.fits_plain_off p2
   ·exact p3.trans hled
   ·rfl
   ·intro h' sb q; exact DS (fin h' sb q)
  ·rename_i hp
   refine DP (DS ?_)
   simp only [↓reduceIte]
   refine lF gw ho hx hd hel1 hmem1 (by rw [sz]; exact hroom) p2 (p3.trans hled) (by simpa using hp) ?_
   intro h' sb q; exact DS (fin h' sb q)
end
def ded (xs:List Str):List Str:=xs.foldl (fun acc x=>if x ∈ acc then acc else acc ++ [x]) []
theorem pB (xs:List Str) (x:Str):ded (xs ++ [x])=if x ∈ ded xs then ded xs else ded xs ++ [x]:=by
 unfold ded; rw [List.foldl_append]; rfl
theorem iB (xs:List Str):∀ i,(ded (xs.take i)).length≤i
 | 0=>by simp [ded]
 | i + 1=>by
  have ih:=iB xs i
  by_cases h:i < xs.length
  ·rw [GK,DT h]
   show (ded (xs.take i ++ [xs[i]])).length≤i + 1
   rw [pB]
   split
   ·omega
   ·rw [D9]; show _ + 1≤_; omega
  ·rw [Fc (by omega)] at *
   omega
theorem jz.at {prog:Program}{w:World}{h h':Heap}{a:Addr}{S:Str→Bool}{n:Nat} (q:jz prog w h a S n) (e:∀ o,h.get? a=some o→h'.get? a=some o):jz prog w h' a S n :=
 let ⟨o,es,ep,t,ho,r⟩:=q; ⟨o,es,ep,t,e o ho,r⟩
theorem jz.congr {prog:Program}{w:World}{h:Heap}{a:Addr}{S S':Str→Bool}{n n':Nat} (q:jz prog w h a S n) (e:∀ k,S k=S' k) (en:n=n'):jz prog w h a S' n':=by
 have z:S=S':=funext e
 subst z en; exact q
def lp (prog:Program) (w:World) (h:Heap) (a:Addr) (xs:List Str):Prop:=jz prog w h a (fun k=>decide (k ∈ ded xs)) (ded xs).length
section
variable {prog:Program}{w:World}{A:Around}{R:Result→Shared→Prop}{I:Addr}{fp wr:List Addr}{G:Array GenState→Array GenState→Prop}{n:Nat}{P:Nat→Value→Prop}{St:Nat→Shared→Prop}
theorem lE (W:WalksS prog w A.in1 I fp wr G n P St) (S:Addr) (hSf:S ∉ fp) (xs:List Str) (hn:xs.length=n) (hval:∀ i v,P i v→∃ x t,xs[i]? = some x∧v=.str x t) (hb:n + 1 < scanBound) :
  ∀ (k i:Nat) (s:Shared),n - i=k→i≤n→St i s→lp prog w s.heap S (xs.take i)→(∀ s',Moved (S :: wr) G s s'→lp prog w s'.heap S xs→R (.ok (.ret .none)) s') →
   codeAny (model prog w) A (.builtin "set.update.loop" ⟨[.ref S,.ref I],[]⟩) R s:=by
 have hSw:S ∉ wr:=fun h=>hSf (W.sub _ h)
 have hsub:∀ b ∈ wr,b ∈ S :: wr:=fun b hb=>D0 _ hb
 intro k
 induction k with
 | zero =>
  intro i s hk hi hst hS hR
  obtain rfl:i=n:=by omega
  refine EV F.entry_set_update_loop ?_
  rw [E8 GM _]
  show wpAny _ A.in1 (pyNext (.ref I) >>= _) _ _ s
  refine DP (W.done s _ _ hst fun s' hm=>?_)
  show wpAny _ A.in1 (ret Value.none) _ _ s'
  rw [Fc (by omega)] at hS
  exact DS (hR s' (hm.mono hsub) (hS.at fun o e=>hm.heap S o hSw e))
 | succ k ih =>
  intro i s hk hi hst hS hR
  have hlt:i < n:=by omega
  refine EV F.entry_set_update_loop ?_
  rw [E8 GM _]
  show wpAny _ A.in1 (pyNext (.ref I) >>= _) _ _ s
  refine DP (W.item i s _ _ hlt hst fun v s' hP hst' hm=>?_)
  obtain ⟨x,t,hx,rfl⟩:=hval i v hP
  have hS':lp prog w s'.heap S (xs.take i):=hS.at fun o e=>hm.heap S o hSw e
  show wpAny _ A.in1 (holding [Value.str x t] (setAdd S (.str x t)) >>= _) _ _ s'
  refine DP (EA ?_)
  unfold setAdd
  refine EA (DP ((strKind prog w).pyHash (k:=x) (by show Value.isStrOf x (.str x t)=true; simp [Value.isStrOf]) ?_))
  have hroom:(ded (xs.take i)).length + 1 < scanBound:=by have:=iB xs i; omega
  refine vt (s:={ s' with toks:=s'.toks + 1 }) hS' hroom fun h' sb q=>?_
  have e1:xs.take (i + 1)=xs.take i ++ [x]:=by rw [GK,hx]; rfl
  have q':lp prog w h' S (xs.take (i + 1)):=by
   unfold lp
   rw [e1,pB]
   refine q.congr (fun k'=>?_) ?_
   ·by_cases hm:x ∈ ded (xs.take i)
    ·rw [if_pos hm]
     by_cases he:k'=x
     ·subst he; simp [hm]
     ·simp [he]
    ·rw [if_neg hm]
     simp [List.mem_append]
   ·by_cases hm:x ∈ ded (xs.take i)
    ·simp [hm]
    ·simp [hm]
  refine DS ⟨FR GM _,ih (i + 1) _ (by omega) hlt (W.frame _ s' _ _ hst' (F7 _) fun b hb o e=>?_) q' fun s'' hm'' hS''=>?_⟩
  ·rw [sb.2 b (fun h:b=S=>hSf (by rw [← h]; exact hb))]; exact e
  ·refine hR s'' (Moved.trans W.gtrans ((hm.mono hsub).then_heap (F7 _) fun b o hb e=>?_) hm'') hS''
   rw [sb.2 b (fun h:b=S=>hb (by rw [h]; exact D3))]; exact e
end
section
variable {prog:Program}{w:World}{A:Around}{E:Value→Shared→Prop}{s:Shared}
theorem ll (a:Value) {Q₁:Value→Shared→Prop} (h:Q₁ (.ref s.heap.objs.size) { s with heap:=s.heap.push { cls:=.type "set",dict:=none,data:=.set #[] 0 (.fresh 0 0 (!gj w)) } }) :
  codeAny (model prog w) A (.call (.builtin "set.__new__") ⟨[.type "set",a],[]⟩) (wants Q₁ E) s:=by
 refine codeAny_of_tree ?_
 show wpAny _ A.in1 (do checkBuiltinCall "set.__new__" ⟨[.type "set",a],[]⟩; again (.builtin "set.__new__" ⟨[.type "set",a],[]⟩)) _ _ s
 refine DP (wpAny_of_eq (PySem.F.newCall_set_1 a) (DS ⟨FR PySem.F.plain_set_new _,EV PySem.F.entry_set_new ?_⟩))
 rw [E8 PySem.F.plain_set_new _]
 unfold Builtin.«set.__new__» Builtin.Frozenset.newClass
 have hsub:=sub_set_self
 obtain ⟨hp,g,d,tk,os⟩:=s
 dsimp only
 wp_walk
 refine wpAny_askSetting (DS ?_)
 dsimp only
 simp only [newObj]
 refine DP (wpAny_alloc (DS ?_))
 exact DS h
theorem j6 {h:Heap}{a:Addr} (hg:h.get? a=some { cls:=.type "set",dict:=none,data:=.set #[] 0 (.fresh 0 0 (!gj w)) }):lp prog w h a [] :=
 ⟨_,#[],0,_,hg,⟨rfl,rfl,rfl⟩,rfl,fun e he=>by simp at he,fun k=>by simp [ded],by decide,by rfl,rfl,rfl,fun z=>absurd rfl z⟩
set_option maxHeartbeats 8000000 in
theorem uH {T:String}{l:Addr}{ol:Obj}{items:Array Value}{nl:Nat}{xs:List Str}{Q:Value→Shared→Prop} (hh:A.handled=none) (hol:s.heap.get? l=some ol) (hcl:ol.cls=.type T) (hdl:ol.data=.seq items nl) (hT:T = "list"∨T = "tuple")
  (hx:∀ (i:Nat) v,items[i]? = some v→∃ x t,xs[i]? = some x∧v=.str x t) (hlen:xs.length=items.size) (hb:items.size + 1 < scanBound)
  (h:∀ (h':Heap) (tk:Nat),lp prog w h' s.heap.objs.size xs→(∀ b o,b < s.heap.objs.size→s.heap.get? b=some o→h'.get? b=some o)→Q (.ref s.heap.objs.size) { s with heap:=h',toks:=tk }) :
  wpAny (model prog w) A (call (.type "set") [.ref l]) Q E s:=by
 obtain ⟨c,tl,hmro⟩:=PySem.F.called_set.mro
 have hmade:=PySem.F.called_set.made
 have hsub:=PySem.F.called_set.sub
 refine GS (codeAny_of_tree ?_)
 show wpAny _ _ (callAny (.type "set") _) _ _ _
 refine DS ⟨FW _ (by decide +kernel),EV PySem.F.entry_type_call ?_⟩
 rw [Around.under_plain (weight_type_call_type "set" [.ref l] []) rfl]
 have h1:=PySem.F.called_set.notType
 have h2:=PySem.F.called_set.canCreate
 have hct:=PySem.F.typeCall_set_1 (.ref l)
 repeat (any_goals (first | assumption | wp_step))
 refine Fw (ll (.ref l) (E:=E) (Q₁:=fun obj s₁=>obj=.ref s.heap.objs.size∧s₁={ s with heap:=s.heap.push { cls:=.type "set",dict:=none,data:=.set #[] 0 (.fresh 0 0 (!gj w)) } }) ⟨rfl,rfl⟩) fun r s₁ hr=>?_
 cases r with
 | error e=>exact hr
 | ok fl =>
  cases fl with
  | ret obj =>
   obtain ⟨rfl,rfl⟩:=hr
   have hS:(s.heap.push { cls:=.type "set",dict:=none,data:=.set #[] 0 (.fresh 0 0 (!gj w)) }).get? s.heap.objs.size=some { cls:=.type "set",dict:=none,data:=.set #[] 0 (.fresh 0 0 (!gj w)) }:=DX _ rfl
   have hTs:Shared.TypeIs { s with heap:=s.heap.push { cls:=.type "set",dict:=none,data:=.set #[] 0 (.fresh 0 0 (!gj w)) } } (.ref s.heap.objs.size) "set" := ⟨_,hS,rfl⟩
   have hli:=PySem.F.called_set.init.lookup
   have hbi:=PySem.F.called_set.init.bind (.ref s.heap.objs.size)
   repeat (any_goals (first | assumption | wp_step))
   refine Fw (FF (R:=wants (fun r s₂=>r=.none∧∃ h' tk,s₂={ s with heap:=h',toks:=tk }∧lp prog w h' s.heap.objs.size xs∧(∀ b o,b < s.heap.objs.size→s.heap.get? b=some o→h'.get? b=some o)) E) PySem.F.called_set.init.plain PySem.F.entry_set_init (check_set_init_1 hTs ?_)) fun r₂ s₂ hr₂=>?_
   ·obtain ⟨ocls,odict,odata,oslots⟩:=ol
    simp only at hcl hdl
    subst hcl; subst hdl
    have hol':(s.heap.push { cls:=.type "set",dict:=none,data:=.set #[] 0 (.fresh 0 0 (!gj w)) }).get? l=some { cls:=.type T,dict:=odict,data:=.seq items nl,slots:=oslots }:=DQ _ hol
    have hlS:l < s.heap.objs.size:=DV hol
    have hh3:A.in1.in1.in1.handled=none:=by simp [hh]
    have hneI:l ≠ (s.heap.push { cls:=.type "set",dict:=none,data:=.set #[] 0 (.fresh 0 0 (!gj w)) }).objs.size:=by
     rw [EZ]; exact D5 (Ft hlS)
    have hSf:s.heap.objs.size ∉ [(s.heap.push { cls:=.type "set",dict:=none,data:=.set #[] 0 (.fresh 0 0 (!gj w)) }).objs.size,l]:=by
     rw [EZ]; simp only [EJ,EE,Ey,Fy,not_or]
     exact ⟨D5 (Nat.lt_succ_self _),Ga hlS⟩
    have fin:∀ (k:String) (s':Shared),Moved [s.heap.objs.size,(s.heap.push { cls:=.type "set",dict:=none,data:=.set #[] 0 (.fresh 0 0 (!gj w)) }).objs.size] (fun g g'=>g'=g) { s with heap:=(s.heap.push { cls:=.type "set",dict:=none,data:=.set #[] 0 (.fresh 0 0 (!gj w)) }).push { cls:=.type k,data:=.fields #[.ref l,.int 0 0] } } s'→lp prog w s'.heap s.heap.objs.size xs →
      ∃ h' tk,s'={ s with heap:=h',toks:=tk }∧lp prog w h' s.heap.objs.size xs∧(∀ b o,b < s.heap.objs.size→s.heap.get? b=some o→h'.get? b=some o):=by
     intro k s' hm hS'
     obtain ⟨h',g',d',tk',os'⟩:=s'
     have eg:g'=s.gens:=hm.gens
     have ed:d'=s.drawn:=hm.drawn
     have eo:os'=s.os:=hm.os
     subst eg; subst ed; subst eo
     refine ⟨h',tk',rfl,hS',fun b o hb e=>?_⟩
     have hb1:b ≠ s.heap.objs.size:=D5 hb
     have hb2:b ≠ (s.heap.push { cls:=.type "set",dict:=none,data:=.set #[] 0 (.fresh 0 0 (!gj w)) }).objs.size:=by
      rw [EZ]; exact D5 (Ft hb)
     exact hm.heap b o (by simp only [EJ,EE,Ey,Fy,not_or]; exact ⟨hb1,hb2⟩) (DQ _ (DQ _ e))
    unfold Builtin.«set.__init__» noKeywords Builtin.Frozenset.updateFrom
    rcases hT with rfl | rfl
    ·have hsls:=PySem.F.sub_list_set
     have hslf:=PySem.F.sub_list_frozenset
     have hne:(Value.type "list" == Value.type "dict")=false:=by decide
     have hl1:(s.heap.push { cls:=.type "set",dict:=none,data:=.set #[] 0 (.fresh 0 0 (!gj w)) }).IsList l items:=⟨_,hol',rfl,nl,rfl⟩
     generalize hPI:pyIter=PI
     wp_walk
     subst hPI
     refine FA hl1 (DP (GL ?_))
     refine lE ((Walks.list hh3 _ l hneI items).toS) s.heap.objs.size hSf xs hlen hx hb (items.size - 0) 0 _ (by omega) (E_ _)
      ⟨⟨_,DX _ rfl,rfl,rfl⟩,(hl1.push _)⟩ (j6 (DQ _ hS)) fun s' hm hS'=>?_
     obtain ⟨h',tk',rfl,q1,q2⟩:=fin "list_iterator" s' hm hS'
     show wpAny _ _ _ _ _ _
     refine DS ?_
     show wpAny _ _ (ret Value.none) _ _ _
     exact DS ⟨rfl,h',tk',rfl,q1,q2⟩
    ·have hsls:isSubtype (.type "tuple") (.type "set")=pure false:=by rw [isSubtype_type]; kernel_rfl
     have hslf:isSubtype (.type "tuple") (.type "frozenset")=pure false:=by rw [isSubtype_type]; kernel_rfl
     have hne:(Value.type "tuple" == Value.type "dict")=false:=by decide
     have hl1:(s.heap.push { cls:=.type "set",dict:=none,data:=.set #[] 0 (.fresh 0 0 (!gj w)) }).IsTuple l items:=⟨_,hol',rfl,nl,rfl⟩
     generalize hPI:pyIter=PI
     wp_walk
     subst hPI
     refine GN hl1 (DP (GL ?_))
     refine lE ((Walks.tuple hh3 _ l hneI items).toS) s.heap.objs.size hSf xs hlen hx hb (items.size - 0) 0 _ (by omega) (E_ _)
      ⟨⟨_,DX _ rfl,rfl,rfl⟩,⟨_,DQ _ hol',rfl,nl,rfl⟩⟩ (j6 (DQ _ hS)) fun s' hm hS'=>?_
     obtain ⟨h',tk',rfl,q1,q2⟩:=fin "tuple_iterator" s' hm hS'
     show wpAny _ _ _ _ _ _
     refine DS ?_
     show wpAny _ _ (ret Value.none) _ _ _
     exact DS ⟨rfl,h',tk',rfl,q1,q2⟩
   ·cases r₂ with
    | error e=>exact hr₂
    | ok fl₂ =>
     cases fl₂ with
     | ret r =>
      obtain ⟨rfl,h',tk,rfl,hS',hk'⟩:=hr₂
      repeat (any_goals (first | assumption | wp_step))
      exact h _ _ hS' hk'
     | _=>exact hr₂.elim
  | _=>exact hr.elim
end
section
variable {prog:Program}{w:World}{A:Around}{E:Value→Shared→Prop}{s:Shared}
theorem qc {d:List Str}:∀ {l:List Str},d.Nodup→(∀ k ∈ d,k ∈ l)→l.length=d.length→l.Perm d:=by
 induction d with
 | nil=>intro l _ _ hl; rw [List.length_eq_zero_iff.mp hl]
 | cons k d ih =>
  intro l hn hc hl
  have hk:k ∈ l:=hc k D3
  obtain ⟨hkd,hn'⟩:=List.nodup_cons.mp hn
  refine (List.perm_cons_erase hk).trans ((ih hn' (fun x hx=>?_) ?_).cons k)
  ·exact (List.mem_erase_of_ne (fun z=>hkd (by rw [← z]; exact hx))).mpr (hc x (D0 _ hx))
  ·rw [List.length_erase_of_mem hk,hl]; rfl
theorem i5 (xs:List Str):(ded xs).Nodup:=by
 have key:∀ (ys acc:List Str),acc.Nodup→(ys.foldl (fun acc x=>if x ∈ acc then acc else acc ++ [x]) acc).Nodup:=by
  intro ys
  induction ys with
  | nil=>intro acc h; exact h
  | cons y ys ih =>
   intro acc h
   rw [DO]
   refine ih _ ?_
   split
   ·exact h
   ·rename_i hy
    rw [List.nodup_append]
    exact ⟨h,FH _ _,fun a ha b hb=>by rw [EE] at hb; subst hb; exact fun z=>hy (by rw [← z]; exact ha)⟩
 exact key xs [] List.nodup_nil
theorem nz (xs:List Str) (k:Str):k ∈ ded xs ↔ k ∈ xs:=by
 have key:∀ (ys acc:List Str),k ∈ ys.foldl (fun acc x=>if x ∈ acc then acc else acc ++ [x]) acc ↔ k ∈ acc∨k ∈ ys:=by
  intro ys
  induction ys with
  | nil=>intro acc; simp
  | cons y ys ih =>
   intro acc
   rw [DO,ih]
   split
   ·rename_i hy
    constructor
    ·rintro (h | h)
     ·exact .inl h
     ·exact .inr (D0 _ h)
    ·rintro (h | h)
     ·exact .inl h
     ·rcases List.mem_cons.mp h with e | e
      ·exact .inl (by rw [e]; exact hy)
      ·exact .inr e
   ·rw [List.mem_append,EE,EJ]
    constructor
    ·rintro ((h | h) | h)
     ·exact .inl h
     ·exact .inr (.inl h)
     ·exact .inr (.inr h)
    ·rintro (h | h | h)
     ·exact .inl (.inl h)
     ·exact .inl (.inr h)
     ·exact .inr h
 have:=key xs []
 simpa [ded] using this
end
section
variable {prog:Program}{w:World}{A:Around}{E:Value→Shared→Prop}{s:Shared}
def sM (prog:Program) (w:World) (s:Shared) (S:Addr) (Pv:List Value→Prop) (itv:Value) (s1:Shared):Prop :=
 ∃ (it:Addr) (fp:List Addr) (n:Nat) (P:Nat→Value→Prop) (St:Nat→Heap→Prop) (h1:Heap) (d1:Drawn),itv=.ref it∧s1={ s with heap:=h1,drawn:=d1 }∧(∀ b o,s.heap.get? b=some o→h1.get? b=some o) ∧
  (∀ b ∈ fp,b=S∨s.heap.objs.size≤b)∧s.heap.objs.size≤it∧(∀ A:Around,A.handled=none→Walks prog w A it fp [it] n P St)∧St 0 h1∧n≤sizeLine∧∀ acc:Array Value,ItemsOf P acc n→Pv acc.toList
theorem nO {T:String}{S:Addr}{o:Obj}{Pv:List Value→Prop}{R:List Value→Shared→Prop} (hh:A.handled=none) (ho:s.heap.get? S=some o) (hc:o.cls=.type T) (hT1:(Value.type T == Value.type "list")=false) (hT2:(Value.type T == Value.type "tuple")=false)
  (hint:∀ (A:Around) (E:Value→Shared→Prop) (s':Shared) (Q:Bool→Shared→Prop),s'.TypeIs (.ref S) T→Q false s'→wpAny (model prog w) A (Builtin.List.listLengthHint (.ref S)) Q E s')
  (iter:∀ (A:Around) (E:Value→Shared→Prop) (s':Shared) (Q:Value→Shared→Prop),(∀ o,s.heap.get? S=some o→s'.heap.get? S=some o)→(∀ itv s1,sM prog w s' S Pv itv s1→Q itv s1)→wpAny (model prog w) A (pyIter (.ref S)) Q E s')
  (h:∀ (h':Heap) (d':Drawn) (tk:Nat) (vs:List Value),(∀ b o,s.heap.get? b=some o→h'.get? b=some o)→s.heap.objs.size≤h'.objs.size→Pv vs→R vs { s with heap:=h',drawn:=d',toks:=tk }) :
  wpAny (model prog w) A (collect (.ref S)) R E s:=by
 have hSlt:S < s.heap.objs.size:=DV ho
 let RR:Result→Shared→Prop:=fun r s'=>∃ (h':Heap) (d':Drawn) (tk:Nat) (acc:Array Value) (c:Nat),r=.ok (.ret (.ref s.heap.objs.size))∧s'={ s with heap:=h',drawn:=d',toks:=tk } ∧
  (∀ b o,s.heap.get? b=some o→h'.get? b=some o)∧h'.get? s.heap.objs.size=some { cls:=.type "list",dict:=none,data:=.seq acc c,slots:=#[] }∧Pv acc.toList
 have ext:wpAny (model prog w) A.in1 (Builtin.List.listExtendWith (.ref s.heap.objs.size) (.ref S) (.ref s.heap.objs.size))
   (fun fin s'=>match fin with | .done f=>RR (.ok f) s' | .again c'=>c'.quiet=true∧codeAny (model prog w) A c' RR s') (fun e s'=>RR (.error e) s') { s with heap:=s.heap.push { cls:=.type "list",data:=.seq ([]:List Value).toArray } }:=by
  have hL1:(s.heap.push { cls:=.type "list",data:=.seq ([]:List Value).toArray }).get? s.heap.objs.size=some { cls:=.type "list",data:=.seq #[] }:=DX _ rfl
  have sz1:(s.heap.push { cls:=.type "list",data:=.seq ([]:List Value).toArray }).objs.size=s.heap.objs.size + 1:=EZ ..
  have hSL:s.heap.objs.size ≠ S:=Ga hSlt
  unfold Builtin.List.listExtendWith
  refine DP (Gk (T:=T) ⟨o,DQ _ ho,hc⟩ ?_)
  have e1:Builtin.List.listSameRef (.ref s.heap.objs.size) (.ref S)=false:=by simp [Builtin.List.listSameRef,hSL]
  rw [if_neg (by rw [e1,hT1,hT2]; decide)]
  refine DP (iter _ _ _ _ (fun o e=>DQ _ e) fun itv s2 came=>?_)
  obtain ⟨it,fp,n,P,St,h1,d1,rfl,rfl,kp,hfp,hit,hW,hst,hn,hacc⟩:=came
  have hL2:h1.get? s.heap.objs.size=some { cls:=.type "list",data:=.seq #[] }:=kp _ _ hL1
  have hLf:s.heap.objs.size ∉ fp:=fun hb=>by
   rcases hfp _ hb with e | e
   ·exact hSL e
   ·have e':s.heap.objs.size + 1≤s.heap.objs.size:=by rw [← sz1]; exact e
    exact absurd e' (Nat.not_succ_le_self _)
  refine DP (EA (hint _ _ _ _ ⟨o,kp _ _ (DQ _ ho),hc⟩ ?_))
  have key:∀ (h:Heap) (c₁:Nat),St 0 h→(∀ b o,b ≠ s.heap.objs.size→h1.get? b=some o→h.get? b=some o)→h.get? s.heap.objs.size=some { cls:=.type "list",data:=.seq #[] c₁ } →
    codeAny (model prog w) A (.builtin "list.extend.loop" ⟨[.ref s.heap.objs.size,.ref it,.ref s.heap.objs.size],[]⟩) RR { s with heap:=h,drawn:=d1 }:=by
   intro h c₁ st hk hL
   refine codeAny_extend_loopS (hW A.in1 hh).toS hn s.heap.objs.size hLf _ n 0 _ #[] c₁ rfl (E_ _) st hL (ItemsOf.nil _) fun s' acc' c' hm hS' hacc'=>?_
   refine ⟨s'.heap,d1,s'.toks,acc',c',rfl,Moved.eq_with hm,fun b o' e=>?_,hS',hacc acc' hacc'⟩
   have hb:b < s.heap.objs.size:=DV e
   refine hm.heap b o' (fun hmem=>?_) (hk b o' (D5 hb) (kp b o' (DQ _ e)))
   rcases List.mem_cons.mp hmem with e' | hmem
   ·exact absurd e' (D5 hb)
   ·have e2:=List.mem_singleton.mp hmem
    have e3:s.heap.objs.size + 1≤it:=by rw [← sz1]; exact hit
    rw [e2] at hb
    exact absurd e3 (Nat.not_le.mpr (Ft hb))
  refine wpAny_ite_split (fun _=>?_) (fun _=>DS ⟨FR PySem.F.plain_extend_loop _,key h1 0 hst (fun _ _ _ e=>e) hL2⟩)
  refine DP (Gu ?_)
  refine DP ?_
  show wpAny _ _ (updateSeq s.heap.objs.size (·.push .none) >>= fun _=>updateSeq s.heap.objs.size (·.pop)) _ _ _
  refine DP (wpAny_updateSeq hL2 rfl ?_)
  have hS2:=ET (Obj.mapSeq (·.push Value.none)) hL2 rfl
  refine wpAny_updateSeq (hz:=by seq_fits) hS2 rfl ?_
  have hS3:=ET (Obj.mapSeq (·.pop)) hS2 rfl
  have oth:∀ b o,b ≠ s.heap.objs.size→h1.get? b=some o→((h1.update s.heap.objs.size (Obj.mapSeq (·.push Value.none))).update s.heap.objs.size (Obj.mapSeq (·.pop))).get? b=some o:=fun b o hb e=>(Ez _ _ (Ne.symm hb)).trans ((Ez _ _ (Ne.symm hb)).trans e)
  exact DS ⟨FR PySem.F.plain_extend_loop _,key _ _ ((hW A.in1 hh).frame 0 _ _ hst fun b hb o e=>oth b o (fun z=>hLf (by rw [← z]; exact hb)) e) oth hS3⟩
 unfold collect
 refine DP (GL (EV entry_proto_collect' ?_))
 rw [E8 PySem.F.plain_proto_collect _]
 show wpAny _ A.in1 (newList [] >>= fun l=>again (.builtin "list.__iadd__" ⟨[l,.ref S],[]⟩)) _ _ s
 refine DP (ES ?_)
 refine DS ⟨FR PySem.F.plain_list_iadd _,EV entry_list_iadd' ?_⟩
 rw [E8 PySem.F.plain_list_iadd _]
 show wpAny _ A.in1 (Builtin.List.listExtendWith (.ref s.heap.objs.size) (.ref S) (.ref s.heap.objs.size)) _ _ _
 refine Eo ext (fun fin s' x=>?_) fun e s' x=>?_
 ·cases fin with
  | done f =>
   obtain ⟨h',d',tk,acc',c',e,rfl,hk,hS',a1⟩:=x
   cases e
   show wpAny _ A (load s.heap.objs.size >>= _) _ _ _
   refine DP (wpAny_load hS' ?_)
   exact DS (h h' d' tk _ hk (Fm (DV hS')) a1)
  | again c₁ =>
   refine ⟨x.1,Fw x.2 fun q s₂ y=>?_⟩
   obtain ⟨h',d',tk,acc',c',rfl,rfl,hk,hS',a1⟩:=y
   show wpAny _ A (load s.heap.objs.size >>= _) _ _ _
   refine DP (wpAny_load hS' ?_)
   exact DS (h h' d' tk _ hk (Fm (DV hS')) a1)
 ·obtain ⟨_,_,_,_,_,e',_⟩:=x
  cases e'
end
def leS (a b:Str):Bool:=!decide (b.cps.toList < a.cps.toList)
def bb (ss:List Str):List Str:=ss.mergeSort leS
theorem uc {a b c:List Nat} (h1:¬ b < a) (h2:¬ c < b):¬ c < a:=by
 have h1':a≤b:=List.not_lt.mp h1
 have h2':b≤c:=List.not_lt.mp h2
 exact List.not_lt.mpr (List.le_trans h1' h2')
theorem lX (a b c:Str) (h1:leS a b=true) (h2:leS b c=true):leS a c=true:=by
 unfold leS at *
 simp only [Gi,FG] at *
 exact uc h1 h2
theorem uf (a b:Str):(leS a b || leS b a)=true:=by
 unfold leS
 rcases List.le_total a.cps.toList b.cps.toList with h | h
 ·rw [Ek (List.not_lt.mpr h)]; rfl
 ·rw [Ek (p:=a.cps.toList < b.cps.toList) (List.not_lt.mpr h)]; simp
theorem mz {a b:Str} (h:a.cps.toList=b.cps.toList):a=b:=by
 cases a; cases b
 congr 1
 exact Array.toList_inj.mp h
theorem wx {a b:Str} (h1:leS a b=true) (h2:leS b a=true):a=b:=by
 unfold leS at *
 simp only [Gi,FG] at *
 exact mz (List.le_antisymm (List.not_lt.mp h1) (List.not_lt.mp h2))
theorem aM (ss:List Str):(bb ss).Perm ss:=List.mergeSort_perm ss leS
theorem gS (ss:List Str):(bb ss).Pairwise (fun a b=>leS a b=true):=List.pairwise_mergeSort lX uf ss
theorem hX {ss ts:List Str} (hp:ts.Perm ss) (hs:ts.Pairwise (fun a b=>leS a b=true)):ts=bb ss :=
 List.Perm.eq_of_pairwise (fun a b _ _ h1 h2=>wx h1 h2) hs (gS ss) (hp.trans (aM ss).symm)
theorem k9 {ss ts:List Str} (hp:ts.Perm ss):bb ts=bb ss:=hX ((aM ts).trans hp) (gS ts)
theorem jf:∀ (p:Str) (l:List Str),risingS p l=true→(p :: l).Pairwise (fun a b=>leS a b=true)
 | p,[],_=>FH _ _
 | p,x :: r,h=>by
  have h':(!ltCps x.cps.toList p.cps.toList && risingS x r)=true:=h
  rw [D8] at h'
  have ih:=jf x r h'.2
  have hpx:leS p x=true:=by unfold leS; rw [← ltCps_eq]; exact h'.1
  refine List.pairwise_cons.mpr ⟨fun y hy=>?_,ih⟩
  rcases List.mem_cons.mp hy with rfl | hy
  ·exact hpx
  ·exact lX _ _ _ hpx ((List.pairwise_cons.mp ih).1 y hy)
theorem mC:∀ (l:List Str),sortedS l=true→l.Pairwise (fun a b=>leS a b=true)
 | [],_=>.nil
 | x :: r,h=>jf x r h
section
variable {prog:Program}{w:World}{A:Around}{E:Value→Shared→Prop}{s:Shared}
theorem pD {T:String}{l:Addr}{o:Obj}{vs:List Value}{n:Nat}{Q:List Value→Shared→Prop} (ho:s.heap.get? l=some o) (hc:o.cls=.type T) (hd:o.data=.seq vs.toArray n) (hT:T = "list"∨T = "tuple") (hsz:vs.length≤sizeLine)
  (h:∀ h',(∀ b o,s.heap.get? b=some o→h'.get? b=some o)→s.heap.objs.size≤h'.objs.size→Q vs { s with heap:=h' }):wpAny (model prog w) A (collect (.ref l)) Q E s:=by
 unfold collect
 refine DP (GL (EV entry_proto_collect' ?_))
 show wpAny _ _ (do again (.builtin "list.__iadd__" ⟨[← newList [],.ref l],[]⟩)) _ _ s
 refine DP (wpAny_newList (DS ⟨FW _ (by decide +kernel),EV entry_list_iadd' ?_⟩))
 show wpAny _ _ (Builtin.List.listExtendWith (.ref s.heap.objs.size) (.ref l) (.ref s.heap.objs.size)) _ _ { s with heap:=s.heap.push (seqObj "list" #[] 0) }
 unfold Builtin.List.listExtendWith
 have ho':(s.heap.push (seqObj "list" #[] 0)).get? l=some o:=DQ _ ho
 refine DP (Gk (T:=T) ⟨o,ho',hc⟩ ?_)
 rw [if_pos (by rcases hT with rfl | rfl <;> simp)]
 refine DP (listItems_at ho' hd ?_)
 refine DP (listItems_at (xs:=#[]) (n:=0) (DX _ rfl) rfl ?_)
 rw [if_neg (by simp)]
 refine DP (listUpdate_at (xs:=#[]) (n:=0) (DX _ rfl) rfl ?_ (E_ _) (by show (#[] ++ vs.toArray).size≤sizeLine + 1; simp only [Array.size_append,DY,DJ]; omega))
 refine DS ?_
 show wpAny (model prog w) A (do
   let o ← load s.heap.objs.size
   match o.data with
   | .seq xs _=>pure xs.toList
   | _=>unsupported "internal:collect") Q E { s with heap:=(s.heap.push (seqObj "list" #[] 0)).update s.heap.objs.size (Obj.mapSeq (· ++ vs.toArray)) }
 refine DP (wpAny_load (get?_update_seq (DX _ rfl) _) ?_)
 show wpAny _ _ (pure ((#[]:Array Value) ++ vs.toArray).toList) Q E _
 rw [show ((#[]:Array Value) ++ vs.toArray).toList=vs by simp]
 exact DS (h _ (fun b o e=>(Ez _ _ (Ga (DV e))).trans (DQ _ e)) (by rw [Heap.size_update,size_push']; exact F7 _))
theorem ja {r:Addr}{ss0:List Str}{Q:Value→Shared→Prop} (h64:ss0.length < 64)
  (hc:∀ R:List Value→Shared→Prop,(∀ (h':Heap) (d':Drawn) (tk:Nat) (vs:List Value) (ss:List Str),(∀ b o,s.heap.get? b=some o→h'.get? b=some o)→s.heap.objs.size≤h'.objs.size→StrsAre vs ss→ss.Perm ss0→R vs { s with heap:=h',drawn:=d',toks:=tk })→wpAny (model prog w) A.in1 (collect (.ref r)) R E s)
  (h:∀ (D:Addr) (h':Heap) (d':Drawn) (tk:Nat) (its:List Value) (e:Nat),(∀ b o,s.heap.get? b=some o→h'.get? b=some o)→s.heap.objs.size≤D→h'.get? D=some { cls:=.type "list",data:=.seq its.toArray e }→StrsAre its (bb ss0)→Q (.ref D) { s with heap:=h',drawn:=d',toks:=tk }) :
  wpAny (model prog w) A (call (.builtin "sorted") [.ref r]) Q E s:=by
 refine Calls.call_function_entry kind_sorted plain_sorted entry_sorted (args_sorted1 _) ?_
 unfold Builtin.«sorted»
 refine DP (m:=checkCount "sorted" 1 1 _) (DS ?_)
 refine DP (hc _ fun h' d' tk vs ss kp hD hS hp=>?_)
 have hlen:vs.length=ss0.length:=by rw [StrsAre.length hS,hp.length_eq]
 refine DP (wpAny_newList ?_ (by rw [hlen]; exact D1 (Fm h64) (by decide)))
 have hoL:(h'.push (seqObj "list" vs.toArray 0)).get? h'.objs.size=some (seqObj "list" vs.toArray 0):=DX _ rfl
 show wpAny _ _ _ _ _ { s with heap:=h'.push (seqObj "list" vs.toArray 0),drawn:=d',toks:=tk }
 refine DP (EA (FK slot_list_sort ⟨_,hoL,rfl⟩ entry_list_sort (list_sort_treeK strKind_oneLt hoL hS.keysOf (fun v₁ v₂ cg e=>keyKind_strs (by rw [← e]; exact hS)) (by rw [hlen]; exact h64) fun st' a1 a2=>⟨_,rfl,?_⟩) (args_list_sort _)))
 obtain ⟨ss',b1,b2,b3⟩:=sorted_out_str hS a1 a2
 obtain ⟨e,he⟩:=sortedHeap_at (out:=(arrOf st').map (·.2)) hoL
 have hlt:∀ b o,s.heap.get? b=some o→(sortedHeap (h'.push (seqObj "list" vs.toArray 0)) h'.objs.size vs ((arrOf st').map (·.2))).get? b=some o:=fun b o eb=>by
  have e1:=kp b o eb
  have e2:=DV e1
  rw [sortedHeap_old (D5 e2) (by rw [size_push']; exact Ft e2)]
  exact DQ _ e1
 refine DS ⟨_,rfl,h _ _ d' tk ((arrOf st').map (·.2)).toList e hlt hD (by rw [Array.toArray_toList]; exact he) ?_⟩
 rw [← hX (b2.trans hp) (mC ss' b3)]
 exact b1
end
theorem lu:∀ {ss:List Str}{its:List Value},StrsAre its ss→aT (ss.map V.str) its
 := fun h=>by
  cases h with
  | nil=>exact .nil
  | cons _ t h=>exact .cons ⟨t,rfl⟩ (lu h)
theorem iP:∀ {ss:List Str}{its:List Value},aT (ss.map V.str) its→StrsAre its ss
 := fun {ss its} z=>by
  cases ss with
  | nil=>cases z; exact .nil
  | cons x ss =>
   cases z with
   | cons r h=>obtain ⟨t,e⟩:=r; subst e; exact .cons x t (iP h)
section
variable {X:Cx}
theorem Inv.laidS {pins:List (Addr×Obj)} {σ:St}{H:Hp}{s:Shared} (I:Inv X pins σ H s) {h':Heap}{d':Drawn}{tk:Nat}{D:Addr}{its:List Value}{e:Nat}{ss:List Str} (kp:∀ b o,s.heap.get? b=some o→h'.get? b=some o) (hD:s.heap.objs.size≤D)
  (hl:h'.get? D=some { cls:=.type "list",data:=.seq its.toArray e }) (hS:StrsAre its ss) (hz:ss.length≤sizeLine):Inv X pins σ (upd H D (.lst (ss.map V.str))) { s with heap:=h',drawn:=d',toks:=tk }:=by
 have I1:Inv X pins σ (upd H D (.lst (ss.map V.str))) { s with heap:=h',toks:=tk }:=I.laid kp hD ⟨by rw [DU]; exact hz,its,e,lu hS,hl⟩
 exact ⟨I1.ok,I1.os,I1.bare,I1.base,I1.loc,I1.cell,I1.free,I1.freeC,I1.pin,I1.hok,I1.len⟩
def mO (K:PySem.W.Frag):List V→Hp→VK→Prop:=fun xs H Q=>∃ p ss,xs=[.ref p]∧(SqL K H p (ss.map V.str)∨SqT K H p (ss.map V.str))∧ss.length < 64∧∀ l,H l=none→Q (.ref l) (upd H l (.lst ((bb ss).map V.str)))
theorem pF:cI X (.builtin "sorted") (mO X.K):=by
 intro pins s σ H xs us Q I r h
 obtain ⟨p,ss,rfl,hq,h64,q⟩:=h
 obtain ⟨u,rfl,ru⟩:=i_ r
 cases ru
 have hz:ss.length≤sizeLine:=D1 (Fm h64) (by decide)
 obtain ⟨T,o,its,n,ho,hc,hd,hT,rv⟩:∃ T o its n,s.heap.get? p=some o∧o.cls=.type T∧o.data=.seq (List.toArray its) n∧(T = "list"∨T = "tuple")∧aT (ss.map V.str) its:=by
  rcases hq with hq | hq
  ·obtain ⟨its,rv,pl,_⟩:=I.list hq
   obtain ⟨o,n,e,c,hd,hdata⟩:=pl
   exact ⟨"list",o,its,_,e,c,hdata,.inl rfl,rv⟩
  ·obtain ⟨its,rv,⟨o,e,c,n,hd⟩,_⟩:=I.tuple hq
   exact ⟨"tuple",o,its,n,e,c,hd,.inr rfl,rv⟩
 have hS:=iP rv
 refine ja (ss0:=ss) h64 (fun R hR=>pD ho hc hd hT (by rw [StrsAre.length hS]; exact hz) fun h' kp hsz=>?_) fun D h' d' tk its' e kp hD hl hS'=>?_
 ·have z:=hR h' s.drawn s.toks its ss kp hsz hS (.refl _)
  exact z
 ·exact ⟨.ref D,_,I.laidS kp hD hl hS' (by rw [(aM ss).length_eq]; exact hz),rfl,q D (I.hok.fresh hD)⟩
end
end L2
namespace L2.Cu
open PySem PySem.Spec PyProof.Rows
def fM:List D→Option (List Str)
 | []=>some []
 | .str x :: r=>(fM r).map fun xs=>x :: xs
 | _=>none
theorem jW:∀ {ds:List D}{ss:List Str},fM ds=some ss→ds=ss.map D.str
 | [],ss,h=>by cases h; rfl
 | .str x :: r,ss,h=>by
  unfold fM at h
  cases hr:fM r with
  | none=>rw [hr] at h; cases h
  | some cs =>
   rw [hr] at h
   cases h
   rw [jW hr]; rfl
theorem lz (ss:List Str):fM (ss.map D.str)=some ss:=by
 induction ss with
 | nil=>rfl
 | cons x r ih=>show (fM (r.map D.str)).map _=_; rw [ih]; rfl
theorem Reps.strs {F:Hp}:∀ {vs:List V}{ss:List Str},Reps F vs (ss.map D.str)→vs=ss.map V.str
 := fun {vs ss} z=>by
  cases ss with
  | nil=>cases z; rfl
  | cons x ss =>
   cases z with
   | cons r t=>cases r; rw [Reps.strs t]; rfl
theorem Reps.ofStrs {F:Hp}:∀ (ss:List Str),Reps F (ss.map V.str) (ss.map D.str)
 | []=>.nil
 | x :: ss=>.cons (.str x) (Reps.ofStrs ss)
def vk (d:D):Option D:=(eO d).bind fun ds=>(fM ds).bind fun ss=>if ss.length < 64 then some (.lst ((bb ss).map D.str)) else none
section
variable {X:Cx}{e:Expr}{p p2 pos pos2:Pos}{f:DE→Option D}
theorem vv {K:PySem.W.Frag}{F H:Hp}{v:V}{d:D}{ds:List D}{ss:List Str} (s:∀ a u,F a=some u→H a=some u) (r:OB F H v d) (h:eO d=some ds) (h2:fM ds=some ss):∃ a,v=.ref a∧(SqL K H a (ss.map V.str)∨SqT K H a (ss.map V.str)):=by
 have e2:=jW h2
 subst e2
 cases d with
 | lst xs =>
  cases h
  obtain ⟨a,vs,rfl,ha,rs⟩:=OB.lst s r
  rw [Reps.strs rs] at ha
  exact ⟨a,rfl,.inl (SqL.of ha)⟩
 | tup xs =>
  cases h
  obtain ⟨a,vs,rfl,ha,rs⟩:=r.tup
  rw [Reps.strs rs] at ha
  exact ⟨a,rfl,.inr (SqT.of (s _ _ ha))⟩
 | _=>cases h
theorem tm {K:PySem.W.Frag}:k7 .F (mO K) vk:=fun F H v x d Q s rx h q=>by
 unfold vk at h
 cases h1:eO x with
 | none=>simp [h1] at h
 | some ds =>
  cases h2:fM ds with
  | none=>simp [h1,h2] at h
  | some ss =>
   simp only [h1,h2,DC] at h
   split at h
   ·rename_i h64
    cases h
    obtain ⟨a,rfl,hq⟩:=vv (K:=K) s rx h1 h2
    exact ⟨a,ss,rfl,hq,h64,fun l hl=>q _ F _ (Ext.lay s hl) ⟨l,_,rfl,hl,ar,nofr s hl,Reps.ofStrs _⟩⟩
   ·cases h
end
end L2.Cu
namespace L2
open PySem PySem.Spec PyProof.Rows
section
variable {X:Cx}
def kf (x:Str) (n:Int):Str:=⟨(List.replicate n.toNat x.cps.toList).flatten.toArray⟩
theorem nZ (a:List Nat):∀ (k:Nat) (acc:List Nat),List.foldl (fun x1 x2=>x1 ++ x2) acc.toArray (List.replicate k a.toArray)=(acc ++ (List.replicate k a).flatten).toArray
 | 0,acc=>by simp
 | k + 1,acc=>by
  have e:acc.toArray ++ a.toArray=(acc ++ a).toArray:=by simp
  have e2:(acc ++ a) ++ (List.replicate k a).flatten=acc ++ (List.replicate (k + 1) a).flatten:=by rw [FC,Gh,List.append_assoc]
  rw [FC,DO,e,nZ a k (acc ++ a),e2]
theorem qe:OpR X (binaryOp .Mult) (fun x y H Q=>∃ z n,x=.str z∧y=.int n∧0≤n∧n < 2 ^ 20∧z.length * n.toNat≤sizeLine∧Q (.str (kf z n)) H):=by
 intro pins s σ H x y v u Q I rx ry h
 obtain ⟨z,n,rfl,rfl,h0,h1,hz,q⟩:=h
 obtain ⟨t,rfl⟩:=rx
 obtain ⟨t',rfl⟩:=ry
 have hzl:z.length * n.toNat≤2 ^ 24:=hz
 refine PySem.P.mul_str ?_ (fun hn hb=>?_) (fun hn hb=>?_) ?_
 ·rw [Ek (by omega),Ek (by omega)]; rfl
 ·have hn1:1≤n:=by omega
  have hzn:(z.length:Int)≤2 ^ 24:=by
   have h2:z.length * 1≤z.length * n.toNat:=Nat.mul_le_mul_left _ (by omega)
   omega
  have hdiv:(2 ^ 63 - 1) / 2 ^ 20≤(2 ^ 63 - 1) / n:=by
   refine Int.le_ediv_of_mul_le (by omega) ?_
   have h3:(2 ^ 63 - 1) / 2 ^ 20 * n≤(2 ^ 63 - 1) / 2 ^ 20 * 2 ^ 20:=Int.mul_le_mul_of_nonneg_left (by omega) (by decide)
   omega
  omega
 ·unfold Builtin.Str.tooLong
  exact Ek (by have:sizeLine=2 ^ 24:=rfl; omega)
 ·have e0:(List.replicate n.toNat z.cps).foldl (· ++ ·) #[]=(List.replicate n.toNat z.cps.toList).flatten.toArray:=by
   have:=nZ z.cps.toList n.toNat []
   simpa using this
  by_cases hn:n < 1
  ·rw [if_pos hn]
   refine ⟨by decide,?_⟩
   have e:kf z n=Str.empty:=by
    have:n.toNat=0:=by omega
    unfold kf; rw [this]; rfl
   rw [e] at q
   exact ⟨.str _,H,I.tok _,⟨_,rfl⟩,q⟩
  ·rw [if_neg hn]
   by_cases hb:(n == 1 || z.length == 0)=true
   ·rw [if_pos hb]
    have e:kf z n=z:=by
     unfold kf
     rcases Bool.or_eq_true_iff.mp hb with hb | hb
     ·have:n=1:=by simpa using hb
      subst this
      simp
     ·have hl:z.cps.size=0:=(by simpa using hb:z.length=0)
      have:z.cps=#[]:=Array.eq_empty_of_size_eq_zero hl
      cases z
      simp only at this
      subst this
      simp
    rw [e] at q
    exact ⟨.str z,H,I,⟨t,rfl⟩,q⟩
   ·rw [if_neg hb,e0]
    refine ⟨?_,⟨.str _,H,I.tok _,⟨_,rfl⟩,q⟩⟩
    show ((List.replicate n.toNat z.cps.toList).flatten.toArray).size≤sizeLine
    rw [DY,yN,EN,Nat.mul_comm]
    exact hz
end
end L2
namespace L2.Cu
open PySem PySem.Spec PyProof.Rows
section
variable {X:Cx}{a b e:Expr}{pos apos cpos spos dpos pos':Pos}{f g:DE→Option D}
theorem PE.or {e:Expr}{t t':TE} (h:PE X e t) (h':PE X e t'):PE X e (fun σ H Q=>t σ H Q∨t' σ H Q):=fun pins s σ H Q I q=>q.elim (h pins s σ H Q I) (h' pins s σ H Q I)
theorem PT.or {e:Expr}{t t':TT} (h:PT X e t) (h':PT X e t'):PT X e (fun σ H Q=>t σ H Q∨t' σ H Q):=fun pins s σ H Q I q=>q.elim (h pins s σ H Q I) (h' pins s σ H Q I)
def ou (x y:D):Option D:=match x,y with
 | .str z,.int n=>if 0≤n∧n < 2 ^ 20∧z.length * n.toNat≤sizeLine then some (.str (kf z n)) else none
 | x,y=>we x y
theorem x9:dP .V (fun x y H Q=>(rI (fun i j=>Builtin.Int.intBits i≤2 ^ 20∧Builtin.Int.intBits j≤2 ^ 20) fun i j=>.int (i * j)) x y H Q∨∃ z n,x=V.str z∧y=V.int n∧0≤n∧n < 2 ^ 20∧z.length * n.toNat≤sizeLine∧Q (.str (kf z n)) H) ou:=fun F H v w x y d Q s rx ry h q=>by
 have onI:we x y=some d→(rI (fun i j=>Builtin.Int.intBits i≤2 ^ 20∧Builtin.Int.intBits j≤2 ^ 20) fun i j=>V.int (i * j)) v w H Q:=fun h=>Ai F H v w x y d Q s rx ry h q
 cases x with
 | str z =>
  cases y with
  | int n =>
   have h':(if 0≤n∧n < 2 ^ 20∧z.length * n.toNat≤sizeLine then some (D.str (kf z n)) else none)=some d:=h
   split at h'
   ·rename_i hc
    cases h'
    exact .inr ⟨z,n,rx.str,ry.int,hc.1,hc.2.1,hc.2.2,q _ F H (Ext.refl s) (.str _)⟩
   ·cases h'
  | _=>exact .inl (onI h)
 | _=>exact .inl (onI h)
theorem sh (ha:Ev X .O a f) (hb:Ev X .O b g):Ev X .V (.BinOp a .Mult b pos) (bin ou f g):=iX (OpR.or yD qe) x9 ha hb
def Di (kvs:List (Key×D)) (k:Key) (v:D):List (Key×D):=if (kvs.any fun kv=>decide (kv.1=k))=true then kvs.map (fun kv=>if kv.1=k then (kv.1,v) else kv) else kvs ++ [(k,v)]
theorem RepK.any {F:Hp}{k:Key}:∀ {vs:List (Key×V)} {ds:List (Key×D)},RepK F vs ds→(vs.any fun kv=>decide (kv.1=k))=ds.any fun kv=>decide (kv.1=k)
 := fun r=>by
  cases r with
  | nil=>rfl
  | cons _ t=>rw [FI,FI,RepK.any t]
def BN (i:Nat) (fk fv:DE→Option D) (E:DE):Option Out:=match E[i]? with
 | some (.own (.dic kvs))=>(fk E).bind fun x=>(fY x).bind fun k=>(fv E).bind fun v=>if kvs.length < sizeLine then some (.nx (E.set i (.own (.dic (Di kvs k v))))) else none
 | _=>none
def ixE (x y:D):Option D:=match x with
 | .dic kvs=>(fY y).bind fun k=>dS kvs k
 | x=>ixD x y
theorem aO (hu:X.A.units + 64 < cLine) (ha:Ev X .O a f) (hb:Ev X .O b g) (hs:sN b):Ev X .V (.Subscript a b pos) (bin ixE f g) :=
 PE.by (PE.or (Cp A_ ha.h hb.h hs) (yy (qG hu) ha.h hb.h hs)) fun σ H Q h=>by
  obtain ⟨B,F,E,d,k,q,w⟩:=h
  have q0:=q
  unfold bin at q
  cases hf:f E with
  | none=>rw [hf] at q; cases q
  | some x =>
   rw [hf] at q
   cases hg:g E with
   | none=>rw [hg] at q; cases q
   | some y =>
    rw [hg] at q
    have seq:ixD x y=some d→tOp (rIx X.K) (tM .O f) (tM .O g) σ H Q:=fun hq=>e7 (m:=.V) B_ σ H Q ⟨B,F,E,d,k,by unfold bin; rw [hf,hg]; exact hq,w⟩
    cases x with
    | dic kvs =>
     right
     have q':(fY y).bind (fun k=>dS kvs k)=some d:=q
     cases hk:fY y with
     | none=>rw [hk] at q'; cases q'
     | some ky =>
      rw [hk] at q'
      have q2:dS kvs ky=some d:=q'
      refine ⟨B,F,E,_,k,hf,fun v F1 H1 x1 r1=>⟨B,F1,E,y,k.ext x1,hg,fun u F2 H2 x2 r2=>?_⟩⟩
      obtain ⟨p,vs,rfl,hp,rk⟩:=OB.dic x1.sub r1
      have eu:u=kV ky:=ip hk r2
      obtain ⟨v',e',r'⟩:=(RepK.val (k:=ky) (rk.mono x2.fr)).1 d q2
      refine ⟨p,v',rfl,?_,w v' F2 H2 (x1.trans x2) r'⟩
      rw [eu,← e']
      exact ny (Al x2.same hp)
    | _=>exact .inl (seq q)
def inE (x y:D):Option D:=match y with
 | .dic kvs=>(fY x).map fun k=>.bl (dS kvs k).isSome
 | y=>inO x y
def t0 (x y:D):Option D:=match y with
 | .dic kvs=>(fY x).map fun k=>.bl (!(dS kvs k).isSome)
 | y=>v8 x y
theorem kF {F:Hp}{vs:List (Key×V)} {ds:List (Key×D)} {k:Key} (r:RepK F vs ds):(eL vs k).isSome=(dS ds k).isSome:=by
 obtain ⟨h1,h2⟩:=RepK.val (k:=k) r
 cases h:dS ds k with
 | some d=>obtain ⟨v,e,_⟩:=h1 d h; rw [e]; rfl
 | none=>rw [h2 h]; rfl
theorem wH {K:PySem.W.Frag} (σ:St) (H:Hp) (Q:VK) (h:tM .V (bin inE f g) σ H Q):tOp (fun x y H Q=>(∃ i j,x=V.str i∧y=V.str j∧Q (.bl (!(Builtin.Str.occurrences j i 0 j.length 1).isEmpty)) H)∨rIn K false x y H Q) (tM .O f) (tM .O g) σ H Q∨B0 (tM .O f) (tM .O g) σ H Q:=by
 obtain ⟨B,F,E,d,k,q,w⟩:=h
 unfold bin at q
 cases hf:f E with
 | none=>rw [hf] at q; cases q
 | some x =>
  rw [hf] at q
  cases hg:g E with
  | none=>rw [hg] at q; cases q
  | some y =>
   rw [hg] at q
   have seq:inO x y=some d→tOp (fun x y H Q=>(∃ i j,x=V.str i∧y=V.str j∧Q (.bl (!(Builtin.Str.occurrences j i 0 j.length 1).isEmpty)) H)∨rIn K false x y H Q) (tM .O f) (tM .O g) σ H Q:=fun hq=>e7 (m:=.V) Ca σ H Q ⟨B,F,E,d,k,by unfold bin; rw [hf,hg]; exact hq,w⟩
   cases y with
   | dic kvs =>
    right
    have q':(fY x).map (fun k=>D.bl (dS kvs k).isSome)=some d:=q
    cases hk:fY x with
    | none=>rw [hk] at q'; cases q'
    | some ky =>
     rw [hk] at q'
     cases q'
     refine ⟨B,F,E,x,k,hf,fun v F1 H1 x1 r1=>⟨B,F1,E,_,k.ext x1,hg,fun u F2 H2 x2 r2=>?_⟩⟩
     obtain ⟨p,vs,rfl,hp,rk⟩:=OB.dic x2.sub r2
     have eu:v=kV ky:=ip hk r1
     refine ⟨p,eL vs ky,rfl,by rw [eu]; exact ny hp,?_⟩
     rw [kF rk]
     exact w _ F2 H2 (x1.trans x2) (.bl _)
   | _=>exact .inl (seq q)
theorem tZ {K:PySem.W.Frag} (σ:St) (H:Hp) (Q:VK) (h:tM .V (bin t0 f g) σ H Q):tOp (fun x y H Q=>(∃ i j,x=V.str i∧y=V.str j∧Q (.bl (!(!(Builtin.Str.occurrences j i 0 j.length 1).isEmpty))) H)∨rIn K true x y H Q) (tM .O f) (tM .O g) σ H Q∨rl (tM .O f) (tM .O g) σ H Q:=by
 obtain ⟨B,F,E,d,k,q,w⟩:=h
 unfold bin at q
 cases hf:f E with
 | none=>rw [hf] at q; cases q
 | some x =>
  rw [hf] at q
  cases hg:g E with
  | none=>rw [hg] at q; cases q
  | some y =>
   rw [hg] at q
   have seq:v8 x y=some d→tOp (fun x y H Q=>(∃ i j,x=V.str i∧y=V.str j∧Q (.bl (!(!(Builtin.Str.occurrences j i 0 j.length 1).isEmpty))) H)∨rIn K true x y H Q) (tM .O f) (tM .O g) σ H Q:=fun hq=>e7 (m:=.V) Af σ H Q ⟨B,F,E,d,k,by unfold bin; rw [hf,hg]; exact hq,w⟩
   cases y with
   | dic kvs =>
    right
    have q':(fY x).map (fun k=>D.bl (!(dS kvs k).isSome))=some d:=q
    cases hk:fY x with
    | none=>rw [hk] at q'; cases q'
    | some ky =>
     rw [hk] at q'
     cases q'
     refine ⟨B,F,E,x,k,hf,fun v F1 H1 x1 r1=>⟨B,F1,E,_,k.ext x1,hg,fun u F2 H2 x2 r2=>?_⟩⟩
     obtain ⟨p,vs,rfl,hp,rk⟩:=OB.dic x2.sub r2
     have eu:v=kV ky:=ip hk r1
     refine ⟨p,eL vs ky,rfl,by rw [eu]; exact ny hp,?_⟩
     rw [kF rk]
     exact w _ F2 H2 (x1.trans x2) (.bl _)
   | _=>exact .inl (seq q)
theorem qI (hu:X.A.units + 64 < cLine) (ha:Ev X .O a f) (hb:Ev X .O b g) (hm:behindInMarks .In b=false):Ev X .V (.Compare a [.In] [b] pos) (bin inE f g) :=
 PE.by (PE.or (mQ (OpR.or tR tU) ha.h hb.h hm) (AI (AK (qG hu) ha.h hb.h) hm)) wH
theorem y9 (hu:X.A.units + 64 < cLine) (ha:Ev X .O a f) (hb:Ev X .O b g) (hm:behindInMarks .NotIn b=false):Et X (.Compare a [.NotIn] [b] pos) (tst (bin t0 f g)) :=
 PT.by (PT.or (jE (OpR.or mR mS) ha.h hb.h hm) (At (tK (qG hu) ha.h hb.h) hm)) fun σ H Q q=>tZ σ H _ (fL σ H Q q)
def bx (x:D):Option D:=match x with
 | .dic kvs=>some (.int kvs.length)
 | x=>ue x
theorem cI.or {f:Value}{r r':List V→Hp→VK→Prop} (h:cI X f r) (h':cI X f r'):cI X f (fun xs H Q=>r xs H Q∨r' xs H Q):=fun pins s σ H xs us Q I rv q=>q.elim (h pins s σ H xs us Q I rv) (h' pins s σ H xs us Q I rv)
theorem ya {K:PySem.W.Frag}:k7 .V (fun xs H Q=>(∃ x n,xs=[x]∧BI K x H n∧Q (.int n) H)∨∃ a kvs,xs=[V.ref a]∧Rd H a (.dK kvs)∧Q (.int kvs.length) H) bx:=fun F H v x d Q s rx h q=>by
 cases x with
 | dic kvs =>
  cases DW h
  obtain ⟨p,vs,rfl,hp,rk⟩:=OB.dic s rx
  refine .inr ⟨p,vs,rfl,hp,?_⟩
  rw [rk.length]
  exact q _ F H (Ext.refl s) (.int _)
 | _=>exact .inl (Ak F H v _ d Q s rx h q)
theorem uI:cI X (.builtin "len") (fun xs H Q=>∃ a kvs,xs=[V.ref a]∧Rd H a (.dK kvs)∧Q (.int kvs.length) H):=by
 intro pins s σ H xs us Q I r h
 obtain ⟨a,kvs,rfl,ha,q⟩:=h
 obtain ⟨u,rfl,ru⟩:=i_ r
 cases ru
 exact CQ I ha fun t s' I'=>⟨.int kvs.length,H,I',⟨t,rfl⟩,q⟩
theorem bf {p:Pos} (hg:Gl X "len") (hm:X.mg "len" = none) (ha:Ev X .O e f) (he:be e=true:=by rfl):Ev X .V (.Call (.Name "len" p) [e] [] pos) (un bx f) :=
 jM (cI.or xr uI) ya hg hm PySem.boot_len ha (by decide) (by decide) he
def qz:List (Key×D)→Option (List Str)
 | []=>some []
 | (.inr x,_) :: r=>(qz r).map fun xs=>x :: xs
 | _=>none
def n0:List V→Hp→VK→Prop:=fun xs H Q=>∃ p kvs ss,xs=[.ref p]∧Rd H p (.dK kvs)∧kvs.map (·.1)=ss.map (Sum.inr:Str→Key)∧ss.length < 64∧∀ l,H l=none→Q (.ref l) (upd H l (.lst ((bb ss).map V.str)))
theorem lY:∀ {ds:List (Key×D)} {ss:List Str},qz ds=some ss→ds.map (·.1)=ss.map (Sum.inr:Str→Key)
 | [],ss,h=>by cases h; rfl
 | (.inr x,d) :: r,ss,h=>by
  unfold qz at h
  cases hr:qz r with
  | none=>rw [hr] at h; cases h
  | some xs=>rw [hr] at h; cases h; rw [DK,lY hr]; rfl
theorem RepK.keys {F:Hp}:∀ {vs:List (Key×V)} {ds:List (Key×D)},RepK F vs ds→vs.map (·.1)=ds.map (·.1)
 := fun r=>by
  cases r with
  | nil=>rfl
  | cons _ t=>rw [DK,DK,RepK.keys t]
end
end L2.Cu
namespace L2
open PySem PySem.Spec PyProof.Rows
theorem uB {prog:Program}{w:World}{A:Around}{E:Value→Shared→Prop}{s:Shared}{d:Addr}{kvs:List (Key×Value)} {ep:Nat}{Pv:List Value→Prop}{Q:Value→Shared→Prop} (lo:(d == sysModules)=false) (hm:s.heap.DictAt (bP prog w) d kvs ep) (hz:kvs.length≤sizeLine)
  (hP:∀ vs:List Value,vs.length=kvs.length→(∀ (i:Nat) v,vs[i]? = some v→∃ k x,kvs[i]? = some (k,x)∧(bP prog w).is k v=true)→Pv vs) (h:∀ itv s1,sM prog w s d Pv itv s1→Q itv s1):wpAny (model prog w) A (pyIter (.ref d)) Q E s:=by
 refine wpAny_pyIter_dict lo hm (h _ _ ⟨_,[s.heap.objs.size,d],kvs.length,_,_,_,s.drawn,rfl,rfl,fun b o e=>DQ _ e,fun b hb=>?_,DZ _,fun A hA=>Walks.dictKeys (knd:=bP prog w) hA _ d (D5 hm.lt_size) kvs ep,⟨⟨_,DX _ rfl,rfl,rfl⟩,hm.push _⟩,hz,fun acc hacc=>?_⟩)
 ·rcases List.mem_cons.mp hb with rfl | hb
  ·exact .inr (DZ _)
  ·exact .inl (List.mem_singleton.mp hb)
 ·exact hP _ (by rw [EN]; exact hacc.1) fun i v e=>hacc.2 i v (by rw [← Array.getElem?_toList]; exact e)
theorem ly {P:Program}{w:World}:∀ {ss:List Str}{kvs:List (Key×Value)} {vs:List Value},kvs.map (·.1)=ss.map (Sum.inr:Str→Key)→vs.length=kvs.length→(∀ (i:Nat) v,vs[i]? = some v→∃ k x,kvs[i]? = some (k,x)∧(bP P w).is k v=true)→StrsAre vs ss
 | [],kvs,vs,hk,hl,h=>by
  have e1:kvs=[]:=List.map_eq_nil_iff.mp hk
  subst e1
  have e2:vs=[]:=List.length_eq_zero_iff.mp hl
  subst e2
  exact .nil
 | x :: ss,[],vs,hk,hl,h=>by simp at hk
 | x :: ss,(k,y) :: kvs,[],hk,hl,h=>by simp at hl
 | x :: ss,(k,y) :: kvs,v :: vs,hk,hl,h=>by
  rw [DK,DK] at hk
  injection hk with hk1 hk2
  obtain ⟨k',x',e,hi⟩:=h 0 v rfl
  cases e
  have hk1':k=Sum.inr x:=hk1
  subst hk1'
  rcases bR (show io (Sum.inr x) v=true from hi) with ⟨i,t,e,_⟩ | ⟨z,t,e,rfl⟩ | ⟨e,_⟩
  ·cases e
  rotate_left
  ·cases e
  ·cases e
   exact .cons x t (ly hk2 (by simpa using hl) fun i v hv=>by simpa using h (i + 1) v (by simpa using hv))
theorem nB {X:Cx} (hc:X.calm=true):cI X (.builtin "sorted") Cu.n0:=by
 intro pins s σ H xs us Q I r h
 obtain ⟨p,kvs,ss,rfl,hp,hk,h64,q⟩:=h
 obtain ⟨u,rfl,ru⟩:=i_ r
 cases ru
 obtain ⟨z,hd,vs,rel,dd⟩:=iA I.hok hp
 obtain ⟨ep,hat⟩:=dd.dictAt
 have hz:ss.length≤sizeLine:=D1 (Fm h64) (by decide)
 have hks:=rel.keys.symm.trans hk
 obtain ⟨o,es,ho,hx,_⟩:=id hat
 refine ja (ss0:=ss) h64 (fun R hR=>?_) fun D h' d' tk its' e kp hD hl hS'=>?_
 ·refine nO (T := "dict") (Pv:=fun us=>StrsAre us ss) (show X.A.in1.handled=none from I.ok.hd hc) ho hx.1 (by decide) (by decide) (fun A E s' Q hT hq=>PySem.W.kdl_hint_dict hT hq) (fun A E s' Q kp hq=>uB hd (hat.at' kp) (by rw [← rel.length]; exact z) (fun us h1 h2=>ly hks h1 h2) hq) fun h' d' tk us kp hsz hS=>hR h' d' tk us ss kp hsz hS (.refl _)
 ·exact ⟨.ref D,_,I.laidS kp hD hl hS' (by rw [(aM ss).length_eq]; exact hz),rfl,q D (I.hok.fresh hD)⟩
end L2
namespace L2.Cu
open PySem PySem.Spec PyProof.Rows
section
variable {X:Cx}{a b e:Expr}{p pos:Pos}{f g:DE→Option D}
def eM (x:D):Option D:=match x with
 | .dic kvs=>(qz kvs).bind fun ss=>if ss.length < 64 then some (.lst ((bb ss).map D.str)) else none
 | x=>vk x
theorem vz {K:PySem.W.Frag}:k7 .F (fun xs H Q=>mO K xs H Q∨n0 xs H Q) eM:=fun F H v x d Q s rx h q=>by
 cases x with
 | dic kvs =>
  have h':(qz kvs).bind (fun ss=>if ss.length < 64 then some (D.lst ((bb ss).map D.str)) else none)=some d:=h
  cases hk:qz kvs with
  | none=>rw [hk] at h'; cases h'
  | some ss =>
   simp only [hk,DC] at h'
   split at h'
   ·rename_i h64
    cases h'
    obtain ⟨c,vs,rfl,hc,rk⟩:=OB.dic s rx
    exact .inr ⟨c,vs,ss,rfl,hc,rk.keys.trans (lY hk),h64,fun l hl=>q _ F _ (Ext.lay s hl) ⟨l,_,rfl,hl,ar,nofr s hl,Reps.ofStrs _⟩⟩
   ·cases h'
 | _=>exact .inl (tm F H v _ d Q s rx h q)
theorem iw (hc:X.calm=true) (hg:Gl X "sorted") (hm:X.mg "sorted" = none) (hv:bootBuiltins "sorted" = some (.builtin "sorted")) (ha:Ev X .O e f) (he:be e=true:=by rfl):Ev X .F (.Call (.Name "sorted" p) [e] [] pos) (un eM f) :=
 jM (cI.or pF (nB hc)) vz hg hm hv ha (by decide) (by decide) he
end
end L2.Cu
namespace L2
open PySem PySem.Spec PyProof.Rows
def RIt (b:Bool) (h:Heap) (it a:Addr) (i:Nat):Prop:=match b with
 | true=>h.IsListIter it a i
 | false=>h.IsTupleIter it a i
def RSq (b:Bool) (h:Heap) (a:Addr) (vs:Array Value):Prop:=match b with
 | true=>h.IsList a vs
 | false=>h.IsTuple a vs
theorem RIt.keep {b:Bool}{h h':Heap}{it a:Addr}{i:Nat} (x:RIt b h it a i) (k:∀ o,h.get? it=some o→h'.get? it=some o):RIt b h' it a i:=by
 cases b <;> exact let ⟨o,e,r⟩:=x; ⟨o,k o e,r⟩
theorem RSq.keep {b:Bool}{h h':Heap}{a:Addr}{vs:Array Value} (x:RSq b h a vs) (k:∀ o,h.get? a=some o→h'.get? a=some o):RSq b h' a vs:=by
 cases b <;> exact let ⟨o,e,r⟩:=x; ⟨o,k o e,r⟩
theorem RIt.obj {b:Bool}{h:Heap}{it a:Addr}{i:Nat} (x:RIt b h it a i):∃ o,h.get? it=some o∧∃ vs,o.data=.fields vs:=by
 cases b <;> exact let ⟨o,e,_,r⟩:=x; ⟨o,e,_,r⟩
section
variable {prog:Program}{w:World}{A:Around}{E:Value→Shared→Prop}{s:Shared}
theorem vc {it t:Addr}{i:Nat}{vs:Array Value}{x:Value}{Q:Value→Shared→Prop} (st:s.heap.IsTupleIter it t i) (ht:s.heap.IsTuple t vs) (hx:vs[i]? = some x)
  (q:∀ h',h'.IsTupleIter it t (i + 1)→Heap.SameBut it s.heap h'→Q x { s with heap:=h' }):wpAny (model prog w) A (Builtin.SmallTypes.nextOf (.ref it)) Q E s:=by
 obtain ⟨o,ho,hc,hd⟩:=id st
 obtain ⟨p,hp,_,n,hn⟩:=ht
 unfold Builtin.SmallTypes.nextOf
 refine DP (Fl (name:=Str.ofString "__next__") st.typeIs FD (FK FD st.typeIs F.entry_tuple_iterator_next ?_ (F.args_tuple_iterator_next_1 _)))
 show wpAny _ _ (field (.ref it) 0 >>= _) _ _ s
 refine DP (EK ho hd (x:=.ref t) rfl ?_)
 show wpAny _ _ (if (Value.ref t == Value.none)=true then _ else field (.ref it) 1 >>= _) _ _ s
 rw [if_neg (show ¬ (Value.ref t == Value.none)=true from D6)]
 refine DP (EK ho hd (x:=.int i 0) rfl (DP (Gp hp hn ?_)))
 simp only [Fi,hx]
 exact DP (Go ho hd (by simp) (DS ⟨x,rfl,DS (q _ ⟨_,ET _ ho (GH (FU hd _)),(Obj.cls_mapFields ..).trans hc,by rw [FU hd]; simp [rawInt]⟩ (FL ..))⟩))
theorem xO {it t:Addr}{i:Nat}{vs:Array Value}{Q:Value→Shared→Prop} (hh:A.handled=none) (st:s.heap.IsTupleIter it t i) (ht:s.heap.IsTuple t vs) (hx:vs[i]? = none)
  (q:∀ h' e,Heap.ExtBut it s.heap h'→(∃ o,h'.get? e=some o∧o.cls=.type "StopIteration")→E (.ref e) { s with heap:=h' }):wpAny (model prog w) A (Builtin.SmallTypes.nextOf (.ref it)) Q E s:=by
 obtain ⟨o,ho,hc,hd⟩:=id st
 obtain ⟨p,hp,_,n,hn⟩:=ht
 unfold Builtin.SmallTypes.nextOf
 refine DP (Fl (name:=Str.ofString "__next__") st.typeIs FD (FK FD st.typeIs F.entry_tuple_iterator_next ?_ (F.args_tuple_iterator_next_1 _)))
 show wpAny _ _ (field (.ref it) 0 >>= _) _ _ s
 refine DP (EK ho hd (x:=.ref t) rfl ?_)
 show wpAny _ _ (if (Value.ref t == Value.none)=true then _ else field (.ref it) 1 >>= _) _ _ s
 rw [if_neg (show ¬ (Value.ref t == Value.none)=true from D6)]
 refine DP (EK ho hd (x:=.int i 0) rfl (DP (Gp hp hn ?_)))
 simp only [Fi,hx]
 refine DP (Gu (DP (Go ho hd (by simp) ?_)))
 show wpAny _ _ (newExc (.type "StopIteration") [] >>= _) _ _ _
 refine DP ?_
 simp only [newExc,newTuple]
 refine DP (ES (DP (m:=firstArgMember _ _) (wpAny_of_eq (a:=Value.none) (by first | rfl | (simp only [firstArgMember]; rfl)) (ES ?_ (by size_fits)))) (by size_fits))
 simp only [raiseNew]
 refine DP (wpAny_handled ?_)
 rw [show A.in1.handled=none from hh]
 exact DP (DS (wpAny_throw (q _ _ (((FL ..).extBut.push _).push _) ⟨_,DX _ rfl,rfl⟩)))
theorem nV {b:Bool}{it t:Addr}{i:Nat}{vs:Array Value}{x:Value}{Q:Value→Shared→Prop} (st:RIt b s.heap it t i) (ht:RSq b s.heap t vs) (hx:vs[i]? = some x)
  (q:∀ h',RIt b h' it t (i + 1)→Heap.SameBut it s.heap h'→Q x { s with heap:=h' }):wpAny (model prog w) A (Builtin.SmallTypes.nextOf (.ref it)) Q E s:=by
 cases b with
 | true=>exact wpAny_nextOf_list_item st ht hx q
 | false=>exact vc st ht hx q
theorem rE {b:Bool}{it t:Addr}{i:Nat}{vs:Array Value}{Q:Value→Shared→Prop} (hh:A.handled=none) (st:RIt b s.heap it t i) (ht:RSq b s.heap t vs) (hx:vs[i]? = none)
  (q:∀ h' e,Heap.ExtBut it s.heap h'→(∃ o,h'.get? e=some o∧o.cls=.type "StopIteration")→E (.ref e) { s with heap:=h' }):wpAny (model prog w) A (Builtin.SmallTypes.nextOf (.ref it)) Q E s:=by
 cases b with
 | true=>exact wpAny_nextOf_list_end hh st ht hx q
 | false=>exact xO hh st ht hx q
def cq (b:Bool) (a:Addr):Obj:=match b with
 | true=>{ cls:=.type "list_iterator",data:=.fields #[.ref a,.int 0 0] }
 | false=>{ cls:=.type "tuple_iterator",data:=.fields #[.ref a,.int 0 0] }
theorem mL {b:Bool}{a it:Addr}{h:Heap} (e:h.get? it=some (cq b a)):RIt b h it a 0:=by
 cases b <;> exact ⟨_,e,rfl,rfl⟩
theorem nY {b:Bool}{a:Addr}{vs:Array Value}{Q:Value→Shared→Prop} (h:RSq b s.heap a vs) (q:Q (.ref s.heap.objs.size) { s with heap:=s.heap.push (cq b a) }):wpAny (model prog w) A (pyIter (.ref a)) Q E s:=by
 cases b with
 | true=>exact FA h q
 | false=>exact GN h q
end
theorem cm {a b:Nat} (h:a ≠ b):@Ne Addr a b:=h
structure ZSt (so:List (Bool×Addr)) (m:Nat) (f0:Value) (i:Nat→Nat) (ws:List Value) (h:Heap):Prop where
 its:∀ (k:Nat) (b:Bool) (a:Addr),so[k]? = some (b,a)→RIt b h (m + k) a (i k)
 ti:h.get? (m + so.length)=some { cls:=.type "tuple",data:=.seq ((List.range so.length).map fun k=>Value.ref (m + k)).toArray }
 to:h.get? (m + so.length + 1)=some { cls:=.type "tuple",data:=.seq ws.toArray }
 lw:ws.length=so.length
 z:IsZip h (m + so.length + 2) (m + so.length) (m + so.length + 1) f0
section
variable {prog:Program}{w:World}{A:Around}{E:Value→Shared→Prop}{s:Shared}
theorem xX {T:Addr}{ws:List Value}{x:Value}{k:Nat}{Q:Unit→Shared→Prop} (hn:ws.length≤sizeLine) (hT:s.heap.get? T=some { cls:=.type "tuple",data:=.seq ws.toArray })
  (h:∀ h',h'.get? T=some { cls:=.type "tuple",data:=.seq (ws.set k x).toArray }→Heap.SameBut T s.heap h'→Q () { s with heap:=h' }) :
  wpAny (model prog w) A (updateSeq T (·.setIfInBounds k x)) Q E s:=by
 refine wpAny_updateSeq hT rfl (h _ ?_ (FL ..)) (by simpa using hn) (by simp; omega)
 rw [ET _ hT rfl]
 simp [Obj.mapSeq]
theorem vo {α:Type _} (xs ws:List α) (k:Nat) (x:α) (hx:xs[k]? = some x) (hk:k < ws.length):(xs.take k ++ ws.drop k).set k x=xs.take (k + 1) ++ ws.drop (k + 1):=by
 have hk':k < xs.length:=(List.getElem?_eq_some_iff.mp hx).1
 rw [List.set_append_right _ _ (by simp; omega)]
 have e:k - (xs.take k).length=0:=by simp; omega
 rw [e,Ff hk,DG,List.take_succ,hx]
 simp
theorem xJ {so:List (Bool×Addr)} {m:Nat}{i K:Nat}{ws xs:List Value}{Q:Value→Shared→Prop} (hh:A.handled=none) (hn:so.length≤sizeLine) (h0:so ≠ []) (hlt:∀ p ∈ so,p.2 < m) (st:ZSt so m .none (fun _=>i) ws s.heap)
  (hl:xs.length=K) (hK:K≤so.length) (hv:∀ (k:Nat) (b:Bool) (a:Addr),so[k]? = some (b,a)→∃ vs,RSq b s.heap a vs∧(k < K→vs[i]? = xs[k]?)∧(k=K→vs[i]? = none))
  (hQ:K=so.length→∀ h',ZSt so m (rawInt s.heap.objs.size) (fun _=>i + 1) xs h'→h'.get? s.heap.objs.size=some { cls:=.type "tuple",data:=.seq xs.toArray }→h'.objs.size=s.heap.objs.size + 1 →
   (∀ (c:Nat) o,(c < m∨m + so.length + 2 < c)→s.heap.get? c=some o→h'.get? c=some o)→Q (.ref s.heap.objs.size) { s with heap:=h' })
  (hE:K < so.length→∀ h' e,(∀ (c:Nat) o,(c < m∨m + so.length + 2 < c)→s.heap.get? c=some o→h'.get? c=some o)→(∃ o,h'.get? e=some o∧o.cls=.type "StopIteration")→E (.ref e) { s with heap:=h' }) :
  wpAny (model prog w) A (Builtin.«zip.__next__» ⟨[.ref (m + so.length + 2)],[]⟩) (fun fin s'=>∃ v,fin=.done (.ret v)∧Q v s') E s:=by
 have hz:=st.z
 show wpAny _ _ (field (.ref _) 2 >>= _) _ _ _
 refine DP (EK hz rfl (x:=.bool false) rfl ?_)
 show wpAny _ _ (field (.ref _) 3 >>= _) _ _ _
 refine DP (EK hz rfl (x:=.ref (m + so.length)) rfl ?_)
 refine DP (Gp st.ti rfl ?_)
 have he:((List.range so.length).map fun k=>Value.ref (m + k)).toArray.isEmpty=false:=by
  cases so with
  | nil=>exact absurd rfl h0
  | cons _ _=>simp
 simp only [he,DR,GF]
 refine DP ?_
 unfold Builtin.SmallTypes.ownedTupleIsFree
 refine DP (EK hz rfl (x:=.none) rfl (DS ?_))
 simp only [if_true]
 refine DP (Gu ?_)
 refine DP (EK hz rfl (x:=.ref (m + so.length + 1)) rfl ?_)
 refine DP (Gm hz (by simp) fun h₁ hz₁ hs₁=>?_)
 replace hz₁:IsZip h₁ (m + so.length + 2) (m + so.length) (m + so.length + 1) .ellipsis:=hz₁
 have k₁:∀ c o,c ≠ m + so.length + 2→s.heap.get? c=some o→h₁.get? c=some o:=fun c o hc e=>hs₁.extBut _ _ hc e
 refine DP (wpAny_forIn_list _ (fun cg b s'=>∃ k h',k≤K∧cg=(((List.range so.length).map fun k=>Value.ref (m + k)).toArray.toList.zipIdx).drop k∧b=(none,())∧s'={ s with heap:=h' } ∧
  ZSt so m .ellipsis (fun j=>if j < k then i + 1 else i) (xs.take k ++ ws.drop k) h'∧h'.objs.size=s.heap.objs.size∧∀ (c:Nat) o,(c < m∨m + so.length + 2 < c)→s.heap.get? c=some o→h'.get? c=some o) _ ?_ ?_ _ _ ?_)
 ·intro x cg b s' hI
  refine EC fun hno=>?_
  obtain ⟨k,h',hk,hr,hb,hs,Z,hz',kk⟩:=hI
  subst hb hs
  apply hno
  clear hno
  have hkn:k < so.length:=by
   have:=ER List.length hr
   simp at this
   omega
  have hx0:(((List.range so.length).map fun k=>Value.ref (m + k)).toArray.toList.zipIdx)[k]? = some x:=by
   have:=ER (fun l=>l[0]?) hr
   simpa using this.symm
  have hx1:x=(.ref (m + k),k):=by
   simp [List.getElem?_zipIdx,hkn] at hx0
   exact hx0.symm
  have hr1:cg=(((List.range so.length).map fun k=>Value.ref (m + k)).toArray.toList.zipIdx).drop (k + 1):=by
   have:=ER List.tail hr
   simpa [List.tail_drop] using this
  subst hx1
  obtain ⟨⟨b,a⟩,hba⟩:∃ p,so[k]? = some p:=⟨so[k],DT hkn⟩
  have ham:(a:Nat) < m:=hlt (b,a) (EU hba)
  obtain ⟨vs,r0,v1,v2⟩:=hv k b a hba
  have r1:RSq b h' a vs:=r0.keep fun o e=>kk a o (.inl ham) e
  have i1:RIt b h' (m + k) a i:=by have:=Z.its k b a hba; simpa using this
  refine DP (wpAny_onRaise ?_)
  show wpAny _ _ (Builtin.SmallTypes.nextOf (.ref (m + k)) >>= _) _ _ _
  rcases Nat.lt_or_ge k K with hlk | hge
  ·have hxk:vs[i]? = some xs[k]:=by rw [v1 hlk]; exact DT (by omega)
   refine DP (nV (s:={ s with heap:=h' }) i1 r1 hxk fun h2 i2 s2=>DS ?_)
   have t2:=s2.extBut _ _ (show m + so.length + 1 ≠ m + k by first | omega | exact cm (by omega)) Z.to
   refine DP (Gp t2 rfl ?_)
   refine DP (xX (s:={ s with heap:=h2 }) (by rw [Z.lw]; exact hn) t2 fun h3 t3 s3=>?_)
   refine DP (wpAny_letGo (DS ?_))
   refine ⟨k + 1,h3,by omega,hr1,rfl,rfl,⟨?_,?_,?_,?_,?_⟩,?_,?_⟩
   ·intro j b' a' hj
    have hjn:j < so.length:=(List.getElem?_eq_some_iff.mp hj).1
    have up:∀ c o,c ≠ m + k→c ≠ m + so.length + 1→h'.get? c=some o→h3.get? c=some o:=fun c o c1 c2 e=>s3.extBut _ _ c2 (s2.extBut _ _ c1 e)
    by_cases ejk:j=k
    ·subst ejk
     rw [hba] at hj
     cases hj
     rw [if_pos (Nat.lt_succ_self _)]
     exact i2.keep fun o e=>s3.extBut _ _ (by first | omega | exact cm (by omega)) e
    ·have q:=Z.its j b' a' hj
     have ee:(if j < k + 1 then i + 1 else i)=if j < k then i + 1 else i:=by
      by_cases h:j < k
      ·rw [if_pos h,if_pos (by omega)]
      ·rw [if_neg h,if_neg (by omega)]
     show RIt b' h3 (m + j) a' (if j < k + 1 then i + 1 else i)
     rw [ee]
     exact q.keep fun o e=>up _ o (by first | omega | exact cm (by omega)) (by first | omega | exact cm (by omega)) e
   ·exact s3.extBut _ _ (by first | omega | exact cm (by omega)) (s2.extBut _ _ (by first | omega | exact cm (by omega)) Z.ti)
   ·rw [← vo xs ws k xs[k] (DT (by omega)) (by rw [st.lw]; exact hkn)]
    exact t3
   ·have:=st.lw
    simp
    omega
   ·exact s3.extBut _ _ (by first | omega | exact cm (by omega)) (s2.extBut _ _ (by first | omega | exact cm (by omega)) Z.z)
   ·rw [s3.1,s2.1]; exact hz'
   ·exact fun c o hc e=>s3.extBut _ _ (by first | omega | exact cm (by omega)) (s2.extBut _ _ (by first | omega | exact cm (by omega)) (kk c o hc e))
  ·have hkK:k=K:=by omega
   refine DP (rE (s:={ s with heap:=h' }) hh i1 r1 (v2 hkK) fun h2 e s2 he=>?_)
   obtain ⟨oe,hoe,hce⟩:=he
   have hz2:IsZip h2 (m + so.length + 2) (m + so.length) (m + so.length + 1) .ellipsis:=s2 _ _ (by first | omega | exact cm (by omega)) Z.z
   have hez:e ≠ m + so.length + 2:=fun x=>by subst x; rw [hz2] at hoe; cases hoe; simp at hce
   exact Gm (s:={ s with heap:=h2 }) hz2 (by simp) fun h3 _ s3=>hE (by omega) h3 e (fun c o hc x=>s3.extBut _ _ (by first | omega | exact cm (by omega)) (s2 _ _ (by first | omega | exact cm (by omega)) (kk c o hc x))) ⟨oe,s3.extBut _ _ hez hoe,hce⟩
 ·intro b s' hI
  refine EC fun hno=>?_
  obtain ⟨k,h',hk,hr,hb,hs,Z,hz',kk⟩:=hI
  subst hb hs
  apply hno
  clear hno
  have hkn:so.length≤k:=by
   have:=ER List.length hr
   simp at this
   omega
  have hKn:K=so.length:=by omega
  have e1:xs.take k ++ ws.drop k=xs:=by rw [Fc (by omega),Gs (by rw [st.lw]; exact hkn),Fb]
  have e2:∀ (j:Nat) (b:Bool) (a:Addr),so[j]? = some (b,a)→RIt b h' (m + j) a (i + 1):=fun j b a hj=>by
   have hjn:j < so.length:=(List.getElem?_eq_some_iff.mp hj).1
   have:=Z.its j b a hj
   rwa [if_pos (show j < k by omega)] at this
  have t1:=Z.to
  rw [e1] at t1
  refine DP (Gp t1 rfl ?_)
  refine DP (wpAny_newTuple ?_ (by simp; omega))
  show wpAny _ _ (Builtin.SmallTypes.ownedTupleHandOut _ (.ref h'.objs.size) >>= _) _ _ _
  refine DP ?_
  unfold Builtin.SmallTypes.ownedTupleHandOut
  have z3:=DQ { cls:=.type "tuple",data:=.seq xs.toArray } Z.z
  refine DP (Gm (s:={ s with heap:=h'.push { cls:=.type "tuple",data:=.seq xs.toArray } }) z3 (by simp) fun h4 z4 s4=>?_)
  replace z4:IsZip h4 (m + so.length + 2) (m + so.length) (m + so.length + 1) (rawInt h'.objs.size):=z4
  refine Gm (s:={ s with heap:=h4 }) z4 (by simp) fun h5 z5 s5=>?_
  replace z5:IsZip h5 (m + so.length + 2) (m + so.length) (m + so.length + 1) (rawInt h'.objs.size):=z5
  have up:∀ (c:Nat) o,c ≠ m + so.length + 2→h'.get? c=some o→h5.get? c=some o:=fun c o hc e=>s5.extBut _ _ hc (s4.extBut _ _ hc (DQ _ e))
  have hzl:m + so.length + 2 < h'.objs.size:=DV Z.z
  have t5:=s5.extBut _ _ (show h'.objs.size ≠ m + so.length + 2 by first | omega | exact cm (by omega)) (s4.extBut _ _ (show h'.objs.size ≠ m + so.length + 2 by first | omega | exact cm (by omega)) (DX _ rfl))
  have z8:h5.objs.size=h'.objs.size + 1:=by rw [s5.1,s4.1,EZ]
  refine DS ⟨_,rfl,?_⟩
  show Q (.ref h'.objs.size) _
  rw [hz'] at z5 t5 z8 ⊢
  exact hQ hKn h5 ⟨fun j b a hj=>(e2 j b a hj).keep fun o e=>by
   have hjn:j < so.length:=(List.getElem?_eq_some_iff.mp hj).1
   exact up _ o (by first | omega | exact cm (by omega)) e,up _ _ (by first | omega | exact cm (by omega)) Z.ti,up _ _ (by first | omega | exact cm (by omega)) t1,by omega,z5⟩ (by simpa using t5) z8 fun c o hc e=>up c o (by first | omega | exact cm (by omega)) (kk c o hc e)
 ·refine ⟨0,h₁,E_ _,rfl,rfl,rfl,⟨?_,?_,?_,?_,?_⟩,hs₁.1,fun c o hc e=>k₁ c o (by first | omega | exact cm (by omega)) e⟩
  ·intro j b a hj
   have hjn:j < so.length:=(List.getElem?_eq_some_iff.mp hj).1
   exact (st.its j b a hj).keep fun o e=>k₁ _ o (by first | omega | exact cm (by omega)) e
  ·exact k₁ _ _ (by first | omega | exact cm (by omega)) st.ti
  ·exact k₁ _ _ (by first | omega | exact cm (by omega)) st.to
  ·exact st.lw
  ·exact hz₁
theorem BL {so:List (Bool×Addr)} {m:Nat}{T:Addr}{i:Nat→Nat}{ws:List Value}{elts:List Expr}{x1}{pos:Pos}{Q:Unit→Shared→Prop} (st:ZSt so m (rawInt T) i ws s.heap)
  (q:∀ h',ZSt so m .none i ws h'→Heap.SameBut (m + so.length + 2) s.heap h'→Q () { s with heap:=h' }):wpAny (model prog w) A (letOwnedTupleGo (.Tuple elts x1 pos) (.ref (m + so.length + 2)) (.ref T)) Q E s :=
 wpAny_letOwnedTupleGo_zip st.z fun h' z' s'=>q h' ⟨fun j b a hj=>(st.its j b a hj).keep fun o e=>by
  have hjn:j < so.length:=(List.getElem?_eq_some_iff.mp hj).1
  exact s'.extBut _ _ (by first | omega | exact cm (by omega)) e,s'.extBut _ _ (by first | omega | exact cm (by omega)) st.ti,s'.extBut _ _ (by first | omega | exact cm (by omega)) st.to,st.lw,z'⟩ s'
theorem q9 {so:List (Bool×Addr)} {m:Nat}{i K:Nat}{ws xs:List Value}{Q:Option Value→Shared→Prop} (hh:A.handled=none) (hn:so.length≤sizeLine) (h0:so ≠ []) (hlt:∀ p ∈ so,p.2 < m) (st:ZSt so m .none (fun _=>i) ws s.heap)
  (hl:xs.length=K) (hK:K≤so.length) (hv:∀ (k:Nat) (b:Bool) (a:Addr),so[k]? = some (b,a)→∃ vs,RSq b s.heap a vs∧(k < K→vs[i]? = xs[k]?)∧(k=K→vs[i]? = none))
  (hQ:K=so.length→∀ h',ZSt so m (rawInt s.heap.objs.size) (fun _=>i + 1) xs h'→h'.get? s.heap.objs.size=some { cls:=.type "tuple",data:=.seq xs.toArray }→h'.objs.size=s.heap.objs.size + 1 →
   (∀ (c:Nat) o,(c < m∨m + so.length + 2 < c)→s.heap.get? c=some o→h'.get? c=some o)→Q (some (.ref s.heap.objs.size)) { s with heap:=h' })
  (hE:K < so.length→∀ h',(∀ (c:Nat) o,(c < m∨m + so.length + 2 < c)→s.heap.get? c=some o→h'.get? c=some o)→Q none { s with heap:=h' }) :
  wpAny (model prog w) A (pyNext (.ref (m + so.length + 2))) Q E s:=by
 have hT:s.TypeIs (.ref (m + so.length + 2)) "zip" := ⟨_,st.z,rfl⟩
 unfold pyNext
 refine DP (wpAny_attempt (Fl (name:=Str.ofString "__next__") hT F.slot_zip_next (FK F.slot_zip_next hT F.entry_zip_next
  (xJ (A:=A.in1) hh hn h0 hlt st hl hK hv (fun e h' a1 a2 a3 a4=>DS (hQ e h' a1 a2 a3 a4)) fun e h' x kk hx=>?_) (F.args_zip_next_1 _))))
 obtain ⟨o,ho,hc⟩:=hx
 exact DP (wpAny_isInstance (T := "StopIteration") (b:=true) ⟨o,ho,hc⟩ isSubtype_stop (DS (hE e h' kk)))
end
def SqB (K:PySem.W.Frag) (b:Bool) (H:Hp) (a:Addr) (xs:List V):Prop:=match b with
 | true=>SqL K H a xs
 | false=>SqT K H a xs
theorem Inv.sqB {X:Cx}{pins:List (Addr×Obj)} {σ:St}{H:Hp}{s:Shared}{b:Bool}{a:Addr}{xs:List V} (I:Inv X pins σ H s) (h:SqB X.K b H a xs):∃ its:List Value,aT xs its∧RSq b s.heap a its.toArray:=by
 cases b with
 | true=>obtain ⟨its,r,p,_⟩:=I.list h; exact ⟨its,r,p.isList⟩
 | false=>obtain ⟨its,r,p,_⟩:=I.tuple h; exact ⟨its,r,p⟩
theorem Inv.sqB_inj {X:Cx}{pins:List (Addr×Obj)} {σ:St}{H:Hp}{s:Shared}{b:Bool}{a:Addr}{xs ys:List V} (I:Inv X pins σ H s) (h:SqB X.K b H a xs) (h':SqB X.K b H a ys):xs=ys:=by
 cases b with
 | true=>exact I.list_inj h h'
 | false=>exact I.tuple_inj h h'
theorem Inv.turnedN {X:Cx}{pins:List (Addr×Obj)} {σ:St}{H:Hp}{s:Shared}{h':Heap}{t':Nat}{fp:List Addr} (I:Inv X pins σ H s) (k:∀ b o,b ∉ fp→s.heap.get? b=some o→h'.get? b=some o) (hf:∀ b ∈ fp,gH X pins H b):Inv X pins σ H { s with heap:=h',toks:=t' }:=by
 have nit:∀ b u,H b=some u→b ∉ fp:=fun b u e z=>by rw [(hf b z).1] at e; cases e
 refine I.step (g':=s.gens) (d':=s.drawn) (ch:=fp) (fun b hb=>?_) (fun b o _ _ hc e _=>k b o hc e) (fun b o _ _ hc e _=>⟨o.slots,k b o hc e⟩) (fun _ _ _ _ n=>n)
  (fun b o hc e=>⟨o,k b o hc e⟩) (fun _ _ e=>e) (fun _ _ _ e=>e) (fun b ps e=>⟨#[],by rw [e]; simp⟩) (fun m hm=>?_) (fun b u e=>?_) I.bare
 ·obtain ⟨_,f1,_,f3,f4,f5⟩:=hf b hb
  exact ⟨f3,f1,f4,f5⟩
 ·obtain ⟨o,es,ep,ho,r⟩:=hm
  exact ⟨o,es,ep,k _ o (fun z=>(hf _ z).2.1 rfl) ho,r⟩
 ·refine (I.hok b u e).stay (fun c v hc q=>k c v ?_ q) (fun _ q=>q) fun _ _ q=>q
  rcases hc with z | z
  ·rw [z]; exact nit b u e
  ·exact nit c _ z
def Itz (K:PySem.W.Frag) (so:List (Bool×Addr)):It :=
  ⟨fun i H=>∃ xs:List V,xs.length=so.length∧∀ (k:Nat) (b:Bool) (a:Addr),so[k]? = some (b,a)→∃ ys,SqB K b H a ys∧ys[i]? = xs[k]?,
   fun i H x H'=>∃ (T:Addr) (xs:List V),x=.ref T∧H T=none∧H'=upd H T (.tup xs)∧xs.length=so.length∧∀ (k:Nat) (b:Bool) (a:Addr),so[k]? = some (b,a)→∀ ys,SqB K b H a ys→ys[i]? = xs[k]?,
   fun i H=>∃ k0,k0 < so.length∧∀ (k:Nat) (b:Bool) (a:Addr),so[k]? = some (b,a)→∃ ys,SqB K b H a ys∧(k < k0→i < ys.length)∧(k=k0→ys.length≤i)⟩
theorem eD {α:Type _}{P:Nat→α→Prop}:∀ (n:Nat),(∀ k,k < n→∃ u,P k u)→∃ us:List α,us.length=n∧∀ (k:Nat) u,us[k]? = some u→P k u
 | 0,_=>⟨[],rfl,fun k u e=>by simp at e⟩
 | n + 1,h=>by
  obtain ⟨us,hl,hp⟩:=eD n fun k hk=>h k (by omega)
  obtain ⟨u,hu⟩:=h n (by omega)
  refine ⟨us ++ [u],by simp [hl],fun k v e=>?_⟩
  by_cases hk:k < us.length
  ·rw [Fx hk] at e; exact hp k v e
  ·rw [F9 (by omega)] at e
   have:k - us.length=0:=by
    have:=(List.getElem?_eq_some_iff.mp e).1
    simp at this
    omega
   rw [this] at e
   cases e
   have:k=n:=by omega
   subst this
   exact hu
theorem re:∀ {xs:List V}{us:List Value},xs.length=us.length→(∀ (k:Nat) x u,xs[k]? = some x→us[k]? = some u→aX x u)→aT xs us
 | [],[],_,_=>.nil
 | x :: xs,u :: us,hl,h=>.cons (h 0 x u rfl rfl) (re (by simpa using hl) fun k a b e1 e2=>h (k + 1) a b (by simpa using e1) (by simpa using e2))
 | [],_ :: _,hl,_=>by simp at hl
 | _ :: _,[],hl,_=>by simp at hl
abbrev zfp (so:List (Bool×Addr)) (m:Nat):List Addr:=(List.range (so.length + 3)).map (m + ·)
theorem cN {so:List (Bool×Addr)} {m:Nat}{b:Nat}:b ∈ zfp so m ↔ m≤b∧b≤m + so.length + 2:=by
 simp only [List.mem_map,GD]
 exact ⟨fun ⟨k,h,e⟩=>by subst e; omega,fun h=>⟨b - m,by omega,by omega⟩⟩
theorem u_ {P:Program}{w:World}{K:PySem.W.Frag}{elts:List Expr}{x1}{pos:Pos} (so:List (Bool×Addr)) (m:Nat) (hn:so.length≤sizeLine) (h0:so ≠ []) (hlt:∀ p ∈ so,p.2 < m) :
  pJ P w K (.Tuple elts x1 pos) (Itz K so) (zfp so m) (m + so.length + 2) (fun i h=>∃ ws,ZSt so m .none (fun _=>i) ws h) where
 mem:=cN.mpr (by omega)
 obj:=fun i h zz114_0 (b:Nat) hb=>by
  obtain ⟨ws,st⟩:=zz114_0
  have hb:m≤b∧b≤m + so.length + 2:=cN.mp hb
  by_cases h1:b < m + so.length
  ·obtain ⟨k,hk⟩:∃ k,b=m + k:=⟨b - m,by omega⟩
   subst hk
   obtain ⟨o,e,vs,d⟩:=(st.its k (so[k]'(by omega)).1 (so[k]'(by omega)).2 (DT _)).obj
   exact ⟨o,e,fun v z=>by rw [d] at z; cases z⟩
  ·by_cases h2:b=m + so.length
   ·subst h2; exact ⟨_,st.ti,fun v z=>by have z':Data.seq _ _=Data.cell v:=z; cases z'⟩
   ·by_cases h3:b=m + so.length + 1
    ·subst h3; exact ⟨_,st.to,fun v z=>by have z':Data.seq _ _=Data.cell v:=z; cases z'⟩
    ·have h4:b=m + so.length + 2:=by omega
     subst h4; exact ⟨_,st.z,fun v z=>by have z':Data.fields _=Data.cell v:=z; cases z'⟩
 keep:=fun i h h' ⟨ws,st⟩ k=>⟨ws,fun j b a hj=>(st.its j b a hj).keep fun o e=>by
  have hjn:j < so.length:=(List.getElem?_eq_some_iff.mp hj).1
  exact k _ (cN.mpr (by omega)) o e,k _ (cN.mpr (by omega)) _ st.ti,k _ (cN.mpr (by omega)) _ st.to,st.lw,k _ (cN.mpr (by omega)) _ st.z⟩
 item:=by
  intro X hP hw hK hc i pins s σ H E I hf ⟨ws,st⟩ hg
  subst hP hw hK
  obtain ⟨xs,hxl,hx⟩:=hg
  obtain ⟨us,hul,hu⟩:=eD (P:=fun k u=>∃ x,xs[k]? = some x∧aX x u∧∀ b a,so[k]? = some (b,a)→∃ vs:Array Value,RSq b s.heap a vs∧vs[i]? = some u) so.length fun k hk=>by
   obtain ⟨ys,q,e⟩:=hx k (so[k]'hk).1 (so[k]'hk).2 (DT hk)
   obtain ⟨its,rv,p⟩:=I.sqB q
   have e2:xs[k]? = some (xs[k]'(by omega)):=DT _
   obtain ⟨u,hu,ru⟩:=rv.get (e.trans e2)
   refine ⟨u,_,e2,ru,fun b a hba=>⟨its.toArray,?_,by simpa using hu⟩⟩
   have e3:=(DT hk).symm.trans hba
   rw [DW e3] at p
   exact p
  have hvals:aT xs us:=re (by omega) fun k x u e1 e2=>by
   obtain ⟨x',e3,r,_⟩:=hu k u e2
   rw [e1] at e3; cases e3; exact r
  refine q9 (xs:=us) (K:=so.length) (I.ok.hd hc) hn h0 hlt st hul (DZ _) (fun k b a hba=>?_) (fun _ h' st' t' z' kk=>?_) (fun hlt=>absurd hlt (Fj _))
  ·have hk:k < so.length:=(List.getElem?_eq_some_iff.mp hba).1
   have e2:us[k]? = some (us[k]'(by omega)):=DT _
   obtain ⟨x,_,_,q⟩:=hu k _ e2
   obtain ⟨vs,r,e⟩:=q b a hba
   exact ⟨vs,r,fun _=>by rw [e,e2],fun z=>by omega⟩
  ·refine ⟨_,rfl,BL (s:={ s with heap:=h' }) st' fun h2 st2 s2=>?_⟩
   have hT:H s.heap.objs.size=none:=I.fresh
   have hfl:∀ b ∈ zfp so m,b < s.heap.objs.size:=fun b hb=>GJ (cN.mp hb).2 (DV st.z)
   have hf1:∀ b ∈ zfp so m,gH X pins (upd H s.heap.objs.size (.tup xs)) b:=fun b hb=>⟨by rw [am (D5 (hfl b hb))]; exact (hf b hb).1,(hf b hb).2⟩
   have I1:Inv X pins σ (upd H s.heap.objs.size (.tup xs)) { s with heap:=s.heap.push { cls:=.type "tuple",data:=.seq us.toArray } }:=I.laid (t':=s.toks) (fun b u e=>DQ _ e) (DZ _)
    ⟨by omega,us,hvals,⟨_,DX _ rfl,rfl,_,rfl⟩⟩
   have I2:Inv X pins σ (upd H s.heap.objs.size (.tup xs)) { s with heap:=h2 }:=I1.turnedN (t':=s.toks) (h':=h2) (fun (b:Nat) o hb e=>by
    have hbz:b ≠ m + so.length + 2:=fun z=>hb (cN.mpr (by omega))
    refine s2.extBut _ _ hbz ?_
    rcases Heap.get?_push_cases e with ⟨e1,e2⟩ | e'
    ·subst e1 e2
     exact t'
    ·exact kk b o (by have:¬ (m≤b∧b≤m + so.length + 2):=mt cN.mpr hb; omega) e') hf1
   refine ⟨.ref s.heap.objs.size,_,I2,rfl,⟨_,xs,rfl,hT,rfl,hxl,fun k b a hba ys hy=>?_⟩,⟨_,st2⟩,fun b hb=>(hf1 b hb).1⟩
   obtain ⟨ys',q,e⟩:=hx k b a hba
   rw [I.sqB_inj hy q]
   exact e
 done:=by
  intro X hP hw hK hc i pins s σ H E I hf ⟨ws,st⟩ hg
  subst hP hw hK
  obtain ⟨k0,hk0,hx⟩:=hg
  obtain ⟨us,hul,hu⟩:=eD (P:=fun k u=>∀ b a,so[k]? = some (b,a)→∃ vs:Array Value,RSq b s.heap a vs∧vs[i]? = some u) k0 fun k hk=>by
   obtain ⟨ys,q,e,_⟩:=hx k (so[k]'(by omega)).1 (so[k]'(by omega)).2 (DT _)
   obtain ⟨its,rv,p⟩:=I.sqB q
   obtain ⟨u,hu,ru⟩:=rv.get (DT (e hk))
   refine ⟨u,fun b a hba=>⟨its.toArray,?_,by simpa using hu⟩⟩
   have e3:=(DT (show k < so.length by omega)).symm.trans hba
   rw [DW e3] at p
   exact p
  refine q9 (xs:=us) (K:=k0) (I.ok.hd hc) hn h0 hlt st hul (Fm hk0) (fun k b a hba=>?_) (fun z=>by omega) (fun _ h' kk=>⟨rfl,I.turnedN (t':=s.toks) (fun (b:Nat) o hb e=>kk b o (by have:¬ (m≤b∧b≤m + so.length + 2):=mt cN.mpr hb; omega) e) hf⟩)
  have hk:k < so.length:=(List.getElem?_eq_some_iff.mp hba).1
  by_cases hkk:k < k0
  ·have e2:us[k]? = some (us[k]'(by omega)):=DT _
   obtain ⟨vs,r,e⟩:=hu k _ e2 b a hba
   exact ⟨vs,r,fun _=>by rw [e,e2],fun z=>by omega⟩
  ·obtain ⟨ys,q,_,e⟩:=hx k b a hba
   obtain ⟨its,rv,p⟩:=I.sqB q
   exact ⟨_,p,fun z=>absurd z hkk,fun z=>by
    have:=e z
    have:=rv.length
    simp
    omega⟩
 self:=fun A i s Q E zz116_0 h=>by obtain ⟨ws,st⟩:=zz116_0; exact wpAny_pyIter_zip st.z h
def BJ (a b:Addr):Obj:={ cls:=.type "zip",data:=.fields #[.none,.bool false,.bool false,.ref a,.ref b] }
def sP (vs:List Value):Obj:={ cls:=.type "tuple",data:=.seq vs.toArray }
abbrev zn2 (h:Heap) (b1 b2:Bool) (l1 l2:Addr):Heap:=((((h.push (cq b1 l1)).push (cq b2 l2)).push (sP [.ref h.objs.size,.ref (h.push (cq b1 l1)).objs.size])).push (sP [.none,.none]))
abbrev zl2 (h:Heap) (b1 b2:Bool) (l1 l2:Addr):Heap:=(zn2 h b1 b2 l1 l2).push (BJ ((h.push (cq b1 l1)).push (cq b2 l2)).objs.size (((h.push (cq b1 l1)).push (cq b2 l2)).push (sP [.ref h.objs.size,.ref (h.push (cq b1 l1)).objs.size])).objs.size)
theorem BK (b1 b2:Bool) (l1 l2:Addr) (xs ys:Array Value) :
  Meets (Builtin.«zip.__new__» ⟨[.type "zip",.ref l1,.ref l2],[]⟩) (fun _ R s=>RSq b1 s.heap l1 xs∧RSq b2 s.heap l2 ys ∧
   R (.ok (.ret (.ref (zn2 s.heap b1 b2 l1 l2).objs.size))) { s with heap:=zl2 s.heap b1 b2 l1 l2 }) :=
 .of_wp fun prog w A R s h=>by
  obtain ⟨hp,g,d,tk,os⟩:=s; obtain ⟨hl1,hl2,h⟩:=h
  have hsub:=sub_zip
  have hL1:RSq b1 (Shared.heap ⟨hp,g,d,tk,os⟩) l1 xs:=hl1
  have hL2:RSq b2 (Shared.heap ⟨hp.push (cq b1 l1),g,d,tk,os⟩) l2 ys:=hl2.keep fun o e=>DQ _ e
  wp_walk using nY hL1,nY hL2
  exact ⟨_,rfl,h⟩
section
variable {prog:Program}{w:World}{A:Around}{E:Value→Shared→Prop}{s:Shared}
theorem zS {b1 b2:Bool}{l1 l2:Addr}{xs ys:Array Value}{Q:Value→Shared→Prop} (hl1:RSq b1 s.heap l1 xs) (hl2:RSq b2 s.heap l2 ys)
  (h:∀ h',ZSt [(b1,l1),(b2,l2)] s.heap.objs.size .none (fun _=>0) [.none,.none] h'→(∀ c o,s.heap.get? c=some o→h'.get? c=some o)→Q (.ref (s.heap.objs.size + 2 + 2)) { s with heap:=h' }) :
  wpAny (model prog w) A (call (.type "zip") [.ref l1,.ref l2]) Q E s:=by
 refine callType_new F.called_zip (by decide) (F.typeCall_zip_2 _ _) (F.newCall_zip_2 _ _) (fun obj=>F.args_object_init_3 obj _ _) F.entry_zip_new (BK b1 b2 l1 l2 xs ys) ⟨hl1,hl2,?_⟩
 have up:∀ {hp:Heap}{c:Addr}{o u:Obj},hp.get? c=some u→(hp.push o).get? c=some u:=fun e=>DQ _ e
 have z1:(s.heap.push (cq b1 l1)).objs.size=s.heap.objs.size + 1:=EZ ..
 have z2:((s.heap.push (cq b1 l1)).push (cq b2 l2)).objs.size=s.heap.objs.size + 2:=by rw [EZ,z1]
 have z3:(((s.heap.push (cq b1 l1)).push (cq b2 l2)).push (sP [.ref s.heap.objs.size,.ref (s.heap.push (cq b1 l1)).objs.size])).objs.size=s.heap.objs.size + 3:=by rw [EZ,z2]
 have z4:(zn2 s.heap b1 b2 l1 l2).objs.size=s.heap.objs.size + 4:=by rw [EZ,z3]
 have f1:∀ b l,(cq b l).isFreed=false:=fun b l=>by cases b <;> rfl
 have g1:(zl2 s.heap b1 b2 l1 l2).get? s.heap.objs.size=some (cq b1 l1):=up (up (up (up (DX _ (f1 _ _)))))
 have g2:(zl2 s.heap b1 b2 l1 l2).get? (s.heap.objs.size + 1)=some (cq b2 l2):=by rw [← z1]; exact up (up (up (DX _ (f1 _ _))))
 have g3:(zl2 s.heap b1 b2 l1 l2).get? (s.heap.objs.size + 2)=some (sP [.ref s.heap.objs.size,.ref (s.heap.objs.size + 1)]):=by rw [← z2,← z1]; exact up (up (DX _ rfl))
 have g4:(zl2 s.heap b1 b2 l1 l2).get? (s.heap.objs.size + 3)=some (sP [.none,.none]):=by rw [← z3]; exact up (DX _ rfl)
 have g5:(zl2 s.heap b1 b2 l1 l2).get? (s.heap.objs.size + 4)=some (BJ (s.heap.objs.size + 2) (s.heap.objs.size + 3)):=by rw [← z4,← z3,← z2]; exact DX _ rfl
 show _∧_
 rw [z4]
 refine ⟨⟨_,g5,rfl⟩,h _ ⟨fun k b a hk=>?_,?_,g4,rfl,g5⟩ fun c o e=>up (up (up (up (up e))))⟩
 ·match k,hk with
  | 0,hk=>cases hk; exact mL g1
  | 1,hk=>cases hk; exact mL g2
 ·exact g3
end
def sqI (K:PySem.W.Frag) (H:Hp) (p:Bool×Addr):Prop:=∃ ys,SqB K p.1 H p.2 ys
def Dp (K:PySem.W.Frag) (n:Nat) (ta:TA):TI:=fun σ H R=>ta σ H fun vs H1=>∃ so:List (Bool×Addr),so.length=n∧vs=so.map (fun p=>V.ref p.2)∧(∀ p ∈ so,sqI K H1 p)∧R (Itz K so) H1
theorem p8 {b:Bool}{h:Heap}{a:Addr}{vs:Array Value} (x:RSq b h a vs):a < h.objs.size:=by
 cases b <;> exact let ⟨o,e,_⟩:=x; DV e
theorem yo {X:Cx}{elts:List Expr}{x1}{tp:Pos}{a b:Expr}{ta:TA}{p pos:Pos} (hg:Gl X "zip") (hm:X.mg "zip" = none) (ha:PA X [a,b] ta) (hs:starEach [a,b] X.env=[(false,eval a X.env),(false,eval b X.env)]:=by rfl) (hs2:starEach [b] X.env=[(false,eval b X.env)]:=by rfl) :
  PI X (.Tuple elts x1 tp) (.Call (.Name "zip" p) [a,b] [] pos) (Dp X.K 2 ta):=by
 intro pins s σ H R I h
 refine Call_ (fX I hg hm boot_zip (E9 (thn (ha pos pins s σ H _ I h) fun us s1 zz117_0=>?_) (by rw [hs,hs2]) (by rw [hs2]; rfl)))
 obtain ⟨vs,H1,I1,r1,q1⟩:=zz117_0
 obtain ⟨so,hl,e,hq,q⟩:=q1
 match so,hl with
 | [(b1,l1),(b2,l2)],_ =>
  subst e
  obtain ⟨ys1,y1⟩:=hq (b1,l1) (by simp)
  obtain ⟨ys2,y2⟩:=hq (b2,l2) (by simp)
  obtain ⟨i1,_,p1⟩:=I1.sqB y1
  obtain ⟨i2,_,p2⟩:=I1.sqB y2
  obtain ⟨u,v,e,ru,rv⟩:=aT.two r1
  subst e
  cases ru
  cases rv
  refine zS p1 p2 fun h' st kk=>wpAny_pyIter_zip (s:={ s1 with heap:=h' }) st.z ?_
  refine ⟨_,zfp [(b1,l1),(b2,l2)] s1.heap.objs.size,_,_,H1,rfl,I1.kept (t':=s1.toks) kk,u_ _ _ (by show 2≤sizeLine; decide) (by simp) (fun p hp=>?_),⟨_,st⟩,fun c hc=>I1.fpOk (cN.mp hc).1 (I1.hok.fresh (cN.mp hc).1),q⟩
  rcases List.mem_cons.mp hp with z | hp
  ·rw [z]; exact p8 p1
  ·have z:p=(b2,l2):=by simpa using hp
   rw [z]; exact p8 p2
end L2
namespace L2.Cu
open PySem PySem.Spec PyProof.Rows
def RpB (F:Hp) (p:Bool×Addr) (ds:List D):Prop:=∃ vs,F p.2=some (bif p.1 then .lst vs else .tup vs)∧Reps F vs ds
theorem RpB.sq {K:PySem.W.Frag}{F H:Hp}{p:Bool×Addr}{ds:List D} (h:RpB F p ds) (s:∀ a o,F a=some o→H a=some o):∃ vs,SqB K p.1 H p.2 vs∧Reps F vs ds:=by
 obtain ⟨vs,e,r⟩:=h
 obtain ⟨b,a⟩:=p
 cases b with
 | true=>exact ⟨vs,SqL.of (s _ _ e),r⟩
 | false=>exact ⟨vs,SqT.of (s _ _ e),r⟩
theorem RpB.mono {F F':Hp}{p:Bool×Addr}{ds:List D} (h:RpB F p ds) (y:Fr F F'):RpB F' p ds:=by
 obtain ⟨vs,e,r⟩:=h
 exact ⟨vs,y _ _ e,r.mono y⟩
theorem p9 {F:Hp}{v:V}{d:D}{ds:List D} (r:Rep F v d) (h:c3 d=some ds):∃ b a,v=.ref a∧RpB F (b,a) ds:=by
 cases d with
 | lst xs=>cases h; cases r with | lst e rs=>exact ⟨true,_,rfl,_,e,rs⟩
 | tup xs=>cases h; cases r with | tup e rs=>exact ⟨false,_,rfl,_,e,rs⟩
 | _=>cases h
theorem rF {F:Hp}:∀ {vs:List V}{ds:List D},vs.length=ds.length→(∀ (k:Nat) v d,vs[k]? = some v→ds[k]? = some d→Rep F v d)→Reps F vs ds
 | [],[],_,_=>.nil
 | x :: xs,u :: us,hl,h=>.cons (h 0 x u rfl rfl) (rF (by simpa using hl) fun k a b e1 e2=>h (k + 1) a b (by simpa using e1) (by simpa using e2))
 | [],_ :: _,hl,_=>by simp at hl
 | _ :: _,[],hl,_=>by simp at hl
def xC (srcs:List (List D)) (xs:List D):Prop:=∀ i:Nat,
 (xs.length=i→∃ k0,k0 < srcs.length∧∀ (k:Nat) ds,srcs[k]? = some ds→(k < k0→i < ds.length)∧(k=k0→ds.length≤i)) ∧
 ∀ d,xs[i]? = some d→∃ row,d=.tup row∧row.length=srcs.length∧∀ (k:Nat) ds,srcs[k]? = some ds→ds[i]? = row[k]?
theorem Bb {K:PySem.W.Frag}{F:Hp}{so:List (Bool×Addr)} {srcs:List (List D)} {xs:List D} (hl:so.length=srcs.length) (hr:∀ (k:Nat) p ds,so[k]? = some p→srcs[k]? = some ds→RpB F p ds) (ok:xC srcs xs):qY F (Itz K so) xs:=by
 intro i F2 H2 y s
 have src:∀ {k:Nat}{p:Bool×Addr},so[k]? = some p→∃ ds,srcs[k]? = some ds:=fun {k p} e=>⟨srcs[k]'(by have:=(List.getElem?_eq_some_iff.mp e).1; omega),DT _⟩
 refine ⟨fun hx=>?_,fun d hd=>?_⟩
 ·obtain ⟨k0,h0,q⟩:=(ok i).1 hx
  refine ⟨k0,by omega,fun k b a e=>?_⟩
  obtain ⟨ds,e2⟩:=src e
  obtain ⟨vs,sq,rs⟩:=((hr k _ ds e e2).mono y).sq (K:=K) s
  have:=rs.length
  have q:=q k ds e2
  exact ⟨vs,sq,fun z=>by have:=q.1 z; omega,fun z=>by have:=q.2 z; omega⟩
 ·obtain ⟨row,rfl,hrl,q⟩:=(ok i).2 d hd
  refine ⟨?_,fun x H' yl=>?_⟩
  ·obtain ⟨ws,hwl,hw⟩:=eD (P:=fun k v=>∀ b a,so[k]? = some (b,a)→∃ ys,SqB K b H2 a ys∧ys[i]? = some v) so.length fun k hk=>by
    have e:so[k]? = some so[k]:=DT hk
    obtain ⟨ds,e2⟩:=src e
    obtain ⟨vs,sq,rs⟩:=((hr k _ ds e e2).mono y).sq (K:=K) s
    have e3:=q k ds e2
    rw [DT (show k < row.length by omega)] at e3
    obtain ⟨v,hv,_⟩:=rs.get e3
    refine ⟨v,fun b a hba=>?_⟩
    have e4:=e.symm.trans hba
    rw [DW e4] at sq
    exact ⟨vs,sq,hv⟩
   refine ⟨ws,hwl,fun k b a e=>?_⟩
   have hk:k < so.length:=(List.getElem?_eq_some_iff.mp e).1
   have e5:ws[k]? = some (ws[k]'(by omega)):=DT _
   obtain ⟨ys,sq,z⟩:=hw k _ e5 b a e
   exact ⟨ys,sq,by rw [z,e5]⟩
  ·obtain ⟨T,ws,rfl,hT,rfl,hwl,hw⟩:=yl
   refine ⟨upd F2 T (.tup ws),Ext.freeze s hT,?_⟩
   have X:=Ext.freeze (o:=.tup ws) s hT
   refine Rep.tup ar (rF (by omega) fun k v d ev ed=>?_)
   have hk:k < so.length:=by have:=(List.getElem?_eq_some_iff.mp ev).1; omega
   have e:so[k]? = some so[k]:=DT hk
   obtain ⟨ds,e2⟩:=src e
   obtain ⟨vs,sq,rs⟩:=((hr k _ ds e e2).mono y).sq (K:=K) s
   have e3:=q k ds e2
   rw [ed] at e3
   obtain ⟨v',hv',rv⟩:=rs.get e3
   have e6:=hw k _ _ e vs sq
   rw [hv',ev] at e6
   cases e6
   exact rv.mono X.fr
theorem B8 (xs ys:List D):xC [xs,ys] (List.zipWith (fun a b=>D.tup [a,b]) xs ys):=by
 intro i
 refine ⟨fun h=>?_,fun d hd=>?_⟩
 ·rw [List.length_zipWith] at h
  by_cases hx:xs.length≤i
  ·exact ⟨0,by simp,fun k ds e=>⟨fun z=>by omega,fun z=>by subst z; cases e; exact hx⟩⟩
  ·refine ⟨1,by simp,fun k ds e=>⟨fun z=>?_,fun z=>?_⟩⟩
   ·have:k=0:=by omega
    subst this; cases e; omega
   ·subst z; cases e; omega
 ·rw [List.getElem?_zipWith] at hd
  cases hx:xs[i]? with
  | none=>rw [hx] at hd; cases hd
  | some x =>
   cases hy:ys[i]? with
   | none=>rw [hx,hy] at hd; cases hd
   | some y =>
    rw [hx,hy] at hd
    cases hd
    refine ⟨[x,y],rfl,rfl,fun k ds e=>?_⟩
    match k,e with
    | 0,e=>cases e; exact hx
    | 1,e=>cases e; exact hy
def sR (ds:List D):Option (List D):=match ds with
 | [a,b]=>(c3 a).bind fun xs=>(c3 b).bind fun ys=>some (List.zipWith (fun a b=>D.tup [a,b]) xs ys)
 | _=>none
theorem sQ {ds xs:List D} (h:sR ds=some xs):∃ a b,ds=[a,b]:=by
 unfold sR at h
 split at h
 ·exact ⟨_,_,rfl⟩
 ·cases h
def mq (f:DE→Option (List D)) (E:DE):Option (List D):=(f E).bind sR
section
variable {X:Cx}{pos:Pos}
theorem sx {elts:List Expr}{x1}{tp:Pos}{a b:Expr}{f:DE→Option (List D)} {p:Pos} (hg:Gl X "zip") (hm:X.mg "zip" = none) (ha:Ea X [a,b] f) (hs:be a=true:=by rfl) (hs2:be b=true:=by rfl):Ei X (.Tuple elts x1 tp) (.Call (.Name "zip" p) [a,b] [] pos) (mq f) :=
 PI.by (yo hg hm ha.h (by rw [aH a [b] X.env hs,aH b [] X.env hs2]; rfl) (aH b [] X.env hs2)) fun σ H R zz118_0=>by
  obtain ⟨B,F,E,xs,k,q,w⟩:=zz118_0
  unfold mq at q
  cases hf:f E with
  | none=>simp [hf] at q
  | some ds =>
   rw [hf] at q
   refine ⟨B,F,E,ds,k,hf,fun vs F' H' x r=>?_⟩
   obtain ⟨d1,d2,rfl⟩:=sQ q
   obtain ⟨v1,ws,rfl,r1,r⟩:=r.c1
   obtain ⟨v2,ws,rfl,r2,r⟩:=r.c1
   obtain rfl:=r.c0
   ·have q':((c3 d1).bind fun xs=>(c3 d2).bind fun ys=>some (List.zipWith (fun a b=>D.tup [a,b]) xs ys))=some xs:=q
    cases h1:c3 d1 with
    | none=>rw [h1] at q'; cases q'
    | some s1 =>
     cases h2:c3 d2 with
     | none=>rw [h1,h2] at q'; cases q'
     | some s2 =>
      rw [h1,h2] at q'
      cases q'
      obtain ⟨b1,l1,rfl,p1⟩:=p9 r1 h1
      obtain ⟨b2,l2,rfl,p2⟩:=p9 r2 h2
      refine ⟨[(b1,l1),(b2,l2)],rfl,rfl,fun p hp=>?_,w _ F' H' x (Bb (srcs:=[s1,s2]) rfl (fun k p ds e1 e2=>?_) (B8 s1 s2))⟩
      ·rcases List.mem_cons.mp hp with z | hp
       ·rw [z]; obtain ⟨vs,sq,_⟩:=p1.sq (K:=X.K) x.sub; exact ⟨vs,sq⟩
       ·have z:p=(b2,l2):=by simpa using hp
        rw [z]; obtain ⟨vs,sq,_⟩:=p2.sq (K:=X.K) x.sub; exact ⟨vs,sq⟩
      ·match k,e1,e2 with
       | 0,e1,e2=>cases e1; cases e2; exact p1
       | 1,e1,e2=>cases e1; cases e2; exact p2
end
end L2.Cu
namespace L2
open PySem PySem.Spec PyProof.Rows
theorem mh {prog:Program}{w:World}{A:Around} (hh:A.handled=none) (b:Bool) (it a:Addr) (hne:a ≠ it) (vs:Array Value) :
  Draws prog w A it [it,a] vs.size (fun i v=>vs[i]? = some v) (fun i h=>RIt b h it a i∧RSq b h a vs) where
 live:=fun _ _ st=>let ⟨o,e,_⟩:=st.1.obj; ⟨o,e⟩
 frame:=fun _ _ _ st k=>⟨st.1.keep fun o e=>k it (by simp) o e,st.2.keep fun o e=>k a (by simp) o e⟩
 item:=fun i s Q E hi st q=>nV st.1 st.2 (x:=vs[i]) (Array.getElem?_eq_getElem hi) fun h' st' sb=>q _ h' s.toks (Array.getElem?_eq_getElem hi) ⟨st',st.2.keep fun o e=>sb.extBut _ _ hne e⟩ sb
 done:=fun s Q E st q=>rE hh st.1 st.2 (Array.getElem?_eq_none (DZ _)) q
theorem Dx (b:Bool) (l:Addr) (xs:Array Value) :
  Meets (Builtin.«enumerate.__new__» ⟨[.type "enumerate",.ref l],[]⟩) (fun _ R s=>RSq b s.heap l xs ∧
   R (.ok (.ret (.ref (s.heap.push (cq b l)).objs.size))) { s with heap:=(s.heap.push (cq b l)).push { cls:=.type "enumerate",data:=.fields #[.none,.bool false,.ref s.heap.objs.size,rawInt 0,.none,.none] } }) :=
 .of_wp fun prog w A R s h=>by
  obtain ⟨hp,g,d,tk,os⟩:=s; obtain ⟨hl,h⟩:=h
  have hsub:=sub_enumerate
  have hL:RSq b (Shared.heap ⟨hp,g,d,tk,os⟩) l xs:=hl
  obtain ⟨o,ho⟩:∃ o,(Shared.heap ⟨hp,g,d,tk,os⟩).get? l=some o:=by
   cases b <;> exact let ⟨o,e,_⟩:=hL; ⟨o,e⟩
  wp_walk using Ef ho
  refine wpAny_stack_any fun st=>DS ?_
  split
  ·rename_i c _ _ _ _ _
   cases (c == Value.type "enumerate")
   ·wp_walk using Ef ho,nY hL
    exact ⟨_,rfl,h⟩
   ·wp_walk using Ef ho,nY hL
    exact ⟨_,rfl,h⟩
  ·wp_walk using Ef ho,nY hL
   exact ⟨_,rfl,h⟩
def DB (b:Bool) (a m:Addr) (i:Nat) (h:Heap):Prop:=(∃ old,IsEnum h (m + 1) m i old)∧RIt b h m a i
def Ite (K:PySem.W.Frag) (b:Bool) (a:Addr):It :=
  ⟨fun i H=>∃ ys y,SqB K b H a ys∧ys[i]? = some y,
   fun i H x H'=>∃ (T:Addr) (y:V),x=.ref T∧H T=none∧H'=upd H T (.tup [.int i,y])∧∀ ys,SqB K b H a ys→ys[i]? = some y,
   fun i H=>∃ ys,SqB K b H a ys∧ys.length=i⟩
theorem sU {P:Program}{w:World}{K:PySem.W.Frag}{elts:List Expr}{x1}{pos:Pos} (b:Bool) (a m:Nat) (hlt:a < m) :
  pJ P w K (.Tuple elts x1 pos) (Ite K b a) [m,m + 1] (m + 1) (fun i h=>DB b a m i h) where
 mem:=by simp
 obj:=fun i h zz119_0 c hc=>by
  obtain ⟨⟨old,st⟩,it⟩:=zz119_0
  have hc:c=m∨c=m + 1:=by simpa using hc
  rcases hc with z | z
  ·subst z
   obtain ⟨o,e,vs,d⟩:=it.obj
   exact ⟨o,e,fun v z=>by rw [d] at z; cases z⟩
  ·subst z; exact ⟨_,st,fun v z=>by have z':Data.fields _=Data.cell v:=z; cases z'⟩
 keep:=fun i h h' ⟨⟨old,st⟩,it⟩ k=>⟨⟨old,k (m + 1) (by simp) _ st⟩,it.keep fun o e=>k m (by simp) o e⟩
 item:=by
  intro X hP hw hK hc i pins s σ H E I hf st hg
  subst hP hw hK
  obtain ⟨⟨old,he⟩,hit⟩:=st
  obtain ⟨ys,y,hq,hy⟩:=hg
  obtain ⟨its,rv,p⟩:=I.sqB hq
  obtain ⟨u,hu,ru⟩:=rv.get hy
  have hul:i < its.toArray.size:=by
   have:=(List.getElem?_eq_some_iff.mp hu).1
   simpa using this
  have hh:X.A.in1.handled=none:=I.ok.hd hc
  refine wpAny_pyNext_enum_itemD (mh hh b m a (D5 hlt) its.toArray) he ⟨hit,p⟩ hul (show (m + 1:Nat) ≠ m by omega) (fun z=>by have z:(m + 1:Nat)=m∨(m + 1:Nat)=a:=(by simpa using z); omega) fun x h' tk hP ho st' hT hsz kk=>?_
  have hxu:x=u:=by
   have e2:its.toArray[i]? = some u:=by simpa using hu
   rw [e2] at hP; cases hP; rfl
  subst hxu
  refine ⟨_,rfl,wpAny_letOwnedTupleGo_enum (s:={ s with heap:=h',toks:=tk + 1 }) ho fun h2 he2 s2=>?_⟩
  have hT0:H s.heap.objs.size=none:=I.fresh
  have hml:m + 1 < s.heap.objs.size:=DV he
  have hf1:∀ c ∈ [m,m + 1],gH X pins (upd H s.heap.objs.size (.tup [.int i,y])) c:=fun c hcm=>by
   have hcc:c=m∨c=m + 1:=by simpa using hcm
   refine ⟨?_,(hf c hcm).2⟩
   rw [am (by rcases hcc with z | z <;> (subst z; exact D5 (by omega)))]
   exact (hf c hcm).1
  have I1:Inv X pins σ (upd H s.heap.objs.size (.tup [.int i,y])) { s with heap:=s.heap.push { cls:=.type "tuple",data:=.seq #[.int i tk,x] },toks:=tk + 1 }:=I.laid (t':=tk + 1) (fun c v e=>DQ _ e) (DZ _)
   ⟨by show 2≤sizeLine; decide,[.int i tk,x],.cons ⟨tk,rfl⟩ (.cons ru .nil),⟨_,DX _ rfl,rfl,_,rfl⟩⟩
  have I2:Inv X pins σ (upd H s.heap.objs.size (.tup [.int i,y])) { s with heap:=h2,toks:=tk + 1 }:=I1.turnedN (t':=tk + 1) (h':=h2) (fun (c:Nat) o hcn e=>by
   have h1:¬ (c=m∨c=m + 1):=by simpa using hcn
   refine s2.extBut _ _ (show (c:Nat) ≠ m + 1 by omega) ?_
   rcases Heap.get?_push_cases e with ⟨e1,e2⟩ | e'
   ·subst e1 e2; exact hT
   ·exact kk c o (show (c:Nat) ≠ m + 1 by omega) (show (c:Nat) ≠ m by omega) e') hf1
  refine ⟨.ref s.heap.objs.size,_,I2,rfl,⟨_,y,rfl,hT0,rfl,fun zs hz=>by rw [I.sqB_inj hz hq]; exact hy⟩,⟨⟨_,by simpa using he2⟩,st'.1.keep fun o e=>s2.extBut _ _ (show (m:Nat) ≠ m + 1 by omega) e⟩,fun c hcm=>(hf1 c hcm).1⟩
 done:=by
  intro X hP hw hK hc i pins s σ H E I hf st hg
  subst hP hw hK
  obtain ⟨⟨old,he⟩,hit⟩:=st
  obtain ⟨ys,hq,hy⟩:=hg
  obtain ⟨its,rv,p⟩:=I.sqB hq
  have hl:i=its.toArray.size:=by rw [← hy,rv.length]; simp
  have hh:X.A.in1.handled=none:=I.ok.hd hc
  subst hl
  exact wpAny_pyNext_enum_endD (mh hh b m a (D5 hlt) its.toArray) he ⟨hit,p⟩ fun h' kk=>⟨rfl,I.turnedN (t':=s.toks) (fun c o hcn e=>kk c o (fun z=>hcn (by simp [z])) e) hf⟩
 self:=fun A i s Q E zz121_0 h=>by obtain ⟨⟨old,st⟩,_⟩:=zz121_0; exact wpAny_pyIter_enum st h
def CJ (K:PySem.W.Frag) (ta:TA):TI:=fun σ H R=>ta σ H fun vs H1=>∃ b a,vs=[.ref a]∧sqI K H1 (b,a)∧R (Ite K b a) H1
theorem yq {X:Cx}{elts:List Expr}{x1}{tp:Pos}{e:Expr}{ta:TA}{p pos:Pos} (hg:Gl X "enumerate") (hm:X.mg "enumerate" = none) (ha:PA X [e] ta) (hs:starEach [e] X.env=[(false,eval e X.env)]:=by rfl) :
  PI X (.Tuple elts x1 tp) (.Call (.Name "enumerate" p) [e] [] pos) (CJ X.K ta):=by
 intro pins s σ H R I h
 refine Call_ (fX I hg hm boot_enumerate (E9 (thn (ha pos pins s σ H _ I h) fun us s1 zz122_0=>?_) hs rfl))
 obtain ⟨vs,H1,I1,r1,q1⟩:=zz122_0
 obtain ⟨b,a,rfl,⟨ys,hy⟩,q⟩:=q1
 obtain ⟨u,rfl,ru⟩:=aT.one r1
 cases ru
 obtain ⟨its,_,p1⟩:=I1.sqB hy
 refine callType_new F.called_enumerate (by decide) (F.typeCall_enumerate_1 _) (F.newCall_enumerate_1 _) (fun obj=>F.args_object_init_2 obj _) F.entry_enumerate_new (Dx b a its.toArray) ⟨p1,?_⟩
 have hz:(s1.heap.push (cq b a)).objs.size=s1.heap.objs.size + 1:=EZ ..
 have f1:(cq b a).isFreed=false:=by cases b <;> rfl
 have he:IsEnum ((s1.heap.push (cq b a)).push { cls:=.type "enumerate",data:=.fields #[.none,.bool false,.ref s1.heap.objs.size,rawInt 0,.none,.none] }) (s1.heap.objs.size + 1) s1.heap.objs.size 0 .none:=by
  rw [← hz]; exact DX _ rfl
 show _∧_
 rw [hz]
 refine ⟨⟨_,he,rfl⟩,wpAny_pyIter_enum (s:={ s1 with heap:=(s1.heap.push (cq b a)).push { cls:=.type "enumerate",data:=.fields #[.none,.bool false,.ref s1.heap.objs.size,rawInt 0,.none,.none] } }) he ?_⟩
 exact ⟨_,[s1.heap.objs.size,s1.heap.objs.size + 1],_,_,H1,rfl,I1.kept (t':=s1.toks) fun c o e=>DQ _ (DQ _ e),sU b a s1.heap.objs.size (p8 p1),⟨⟨_,he⟩,mL (DQ _ (DX _ f1))⟩,fun c hc=>by
  have hcc:c=s1.heap.objs.size∨c=s1.heap.objs.size + 1:=by simpa using hc
  have hle:s1.heap.objs.size≤c:=by rcases hcc with z | z <;> (subst z; omega)
  exact I1.fpOk hle (I1.hok.fresh hle),q⟩
end L2
namespace L2.Cu
open PySem PySem.Spec PyProof.Rows
def cT:List D→Int→List D
 | [],_=>[]
 | x :: r,i=>.tup [.int i,x] :: cT r (i + 1)
theorem md:∀ (xs:List D) (i:Int),(cT xs i).length=xs.length
 | [],_=>rfl
 | _ :: r,i=>by rw [cT,DI,md r,DI]
theorem me:∀ (xs:List D) (k:Int) (i:Nat),(cT xs k)[i]? = xs[i]?.map fun x=>.tup [.int (k + i),x]
 | [],_,_=>by simp [cT]
 | x :: r,k,0=>by simp [cT]
 | x :: r,k,i + 1=>by
  rw [cT,DD,DD,me r (k + 1) i]
  congr 1
  funext y
  have:k + 1 + (i:Int)=k + ((i + 1:Nat):Int):=by omega
  rw [this]
theorem Bg {K:PySem.W.Frag}{F:Hp}{p:Bool×Addr}{ds:List D} (h:RpB F p ds):qY F (Ite K p.1 p.2) (cT ds 0):=by
 intro i F2 H2 y s
 obtain ⟨vs,sq,rs⟩:=(h.mono y).sq (K:=K) s
 refine ⟨fun hl=>⟨vs,sq,by rw [rs.length,← hl,md]⟩,fun d hd=>?_⟩
 rw [me] at hd
 cases hx:ds[i]? with
 | none=>rw [hx] at hd; cases hd
 | some x =>
  rw [hx] at hd
  cases hd
  obtain ⟨v,hv,rv⟩:=rs.get hx
  refine ⟨⟨vs,v,sq,hv⟩,fun z H' yl=>?_⟩
  obtain ⟨T,w,rfl,hT,rfl,hw⟩:=yl
  have e:=hw vs sq
  rw [hv] at e
  cases e
  have X:=Ext.freeze (o:=.tup [.int i,v]) s hT
  refine ⟨upd F2 T (.tup [.int i,v]),X,Rep.tup ar (.cons ?_ (.cons (rv.mono X.fr) .nil))⟩
  rw [Int.zero_add]; exact .int _
def mf (ds:List D):Option (List D):=match ds with
 | [a]=>(c3 a).map fun xs=>cT xs 0
 | _=>none
theorem qM {ds xs:List D} (h:mf ds=some xs):∃ a,ds=[a]:=by
 unfold mf at h
 split at h
 ·exact ⟨_,rfl⟩
 ·cases h
def jk (f:DE→Option (List D)) (E:DE):Option (List D):=(f E).bind mf
theorem sy {X:Cx}{pos:Pos}{elts:List Expr}{x1}{tp:Pos}{a:Expr}{f:DE→Option (List D)} {p:Pos} (hg:Gl X "enumerate") (hm:X.mg "enumerate" = none) (ha:Ea X [a] f) (hs:be a=true:=by rfl):Ei X (.Tuple elts x1 tp) (.Call (.Name "enumerate" p) [a] [] pos) (jk f) :=
 PI.by (yq hg hm ha.h (aH a [] X.env hs)) fun σ H R zz123_0=>by
  obtain ⟨B,F,E,xs,k,q,w⟩:=zz123_0
  unfold jk at q
  cases hf:f E with
  | none=>simp [hf] at q
  | some ds =>
   rw [hf] at q
   refine ⟨B,F,E,ds,k,hf,fun vs F' H' x r=>?_⟩
   obtain ⟨d1,rfl⟩:=qM q
   obtain ⟨v1,ws,rfl,r1,r⟩:=r.c1
   obtain rfl:=r.c0
   ·have q':(c3 d1).map (fun xs=>cT xs 0)=some xs:=q
    cases h1:c3 d1 with
    | none=>rw [h1] at q'; cases q'
    | some s1 =>
     rw [h1] at q'
     cases q'
     obtain ⟨b1,l1,rfl,p1⟩:=p9 r1 h1
     refine ⟨b1,l1,rfl,?_,w _ F' H' x (Bg (p:=(b1,l1)) p1)⟩
     obtain ⟨vs,sq,_⟩:=p1.sq (K:=X.K) x.sub
     exact ⟨vs,sq⟩
end L2.Cu
namespace L2
open PySem PySem.Spec PyProof.Rows
section
variable {X:Cx}{pins:List (Addr×Obj)} {σ:St}{H:Hp}{s:Shared}
theorem A3 {x:V}{u t:Value} (I:Inv X pins σ H s) (rx:aX x u) (ty:gk X.K H x t):∃ P:Heap→Prop,PySem.W.KitX X.K u t P∧P s.heap∧u ≠ .builtin "__main__.__loader__#opaque" := by
 cases ty with
 | non=>obtain rfl:u=Value.none:=rx; exact ⟨_,PySem.W.kitx_none,trivial,fun z=>nomatch z⟩
 | bl y=>obtain rfl:u=Value.bool y:=rx; exact ⟨_,PySem.W.kitx_bool,trivial,fun z=>nomatch z⟩
 | int i=>obtain ⟨k,rfl⟩:=rx; exact ⟨_,PySem.W.kitx_int,trivial,fun z=>nomatch z⟩
 | str y=>obtain ⟨k,rfl⟩:=rx; exact ⟨_,PySem.W.kitx_str,trivial,fun z=>nomatch z⟩
 | flt y=>obtain ⟨k,rfl⟩:=rx; exact ⟨_,PySem.W.kitx_float,trivial,fun z=>nomatch z⟩
 | @lst a xs ea =>
  obtain rfl:u=Value.ref a:=rx
  obtain ⟨_,_,m,_,g⟩:=I.hok a _ ea
  exact ⟨_,Ge,⟨_,g,rfl⟩,fun z=>nomatch z⟩
 | @frz a ob xs ea =>
  obtain rfl:u=Value.ref a:=rx
  obtain ⟨_,_,_,m,_,g⟩:=I.hok a _ ea
  exact ⟨_,Ge,⟨_,g,rfl⟩,fun z=>nomatch z⟩
 | @tup a xs ea =>
  obtain rfl:u=Value.ref a:=rx
  obtain ⟨_,_,_,o,g,g2,_⟩:=I.hok a _ ea
  exact ⟨_,PySem.W.kitx_tuple,⟨o,g,g2⟩,fun z=>nomatch z⟩
 | @dK a kvs ea =>
  obtain rfl:u=Value.ref a:=rx
  obtain ⟨_,_,vs,_,o,es,ep,g,g2,_⟩:=I.hok a _ ea
  exact ⟨_,Fs,⟨o,g,g2.1⟩,fun z=>nomatch z⟩
 | @frzD a ob kvs ea =>
  obtain rfl:u=Value.ref a:=rx
  obtain ⟨_,_,_,vs,_,o,es,ep,g,g2,_⟩:=I.hok a _ ea
  exact ⟨_,Fs,⟨o,g,g2.1⟩,fun z=>nomatch z⟩
 | @dT a kvs ea =>
  obtain rfl:u=Value.ref a:=rx
  obtain ⟨_,_,vs,_,o,es,ep,g,g2,_⟩:=I.hok a _ ea
  exact ⟨_,Fs,⟨o,g,g2.1⟩,fun z=>nomatch z⟩
 | @ins a C dx fs ea cl ha hn htk hm =>
  obtain rfl:u=Value.ref a:=rx
  obtain ⟨mA,O,_⟩:=rZ I.hok ea
  obtain ⟨od,J,_⟩:=O.look
  exact ⟨_,PySem.W.kitx_own (cl.get _) cl.hd ha hn htk hm,J,fun z=>nomatch z⟩
theorem rc:∀ {Ts:List String}{its:List Value},aT (Ts.map V.ty) its→its=Ts.map Value.type
 | [],_,.nil=>rfl
 | T :: Ts,_,.cons r t=>by
  rw [rc t,DK]
  congr 1
theorem nE:cI X (.builtin "isinstance") (fun xs H Q=>∃ (x:V) (tp:Addr) (Ts:List String) (t:Value) (b:Bool),xs=[x,.ref tp]∧H tp=some (.tup (Ts.map V.ty))∧gk X.K H x t∧PySem.W.kitAny X.K t (Ts.map Value.type)=some b∧Q (.bl b) H):=by
 intro pins s σ H xs us Q I r h
 obtain ⟨x,tp,Ts,t,b,rfl,htp,ty,e,q⟩:=h
 obtain ⟨u,w',rfl,ru,rw'⟩:=zl r
 obtain rfl:w'=Value.ref tp:=rw'
 obtain ⟨P,Z,hp,hu⟩:=A3 I ru ty
 obtain ⟨_,its,rv,⟨c,dd,dt,sl⟩,g,g2,n,g3⟩:=I.hok tp _ htp
 cases g2
 cases g3
 have hits:its=Ts.map Value.type:=rc rv
 subst hits
 exact PySem.W.kia_tup Z I.kIn hp g e hu fun tk=>⟨.bl b,H,I.tok tk,rfl,q⟩
end
end L2
namespace L2.Cu
open PySem PySem.Spec PyProof.Rows
section
variable {X:Cx}{e:Expr}{f:DE→Option D}{pos:Pos}
def qE (T U:String) (f:DE→Option D) (E:DE):Option D:=(f E).map fun d=>.bl (bX (tyN d) T || bX (tyN d) U)
theorem wB (K:PySem.W.Frag) (d:D) {T U:String} (h:g0 T=true) (h':g0 U=true):PySem.W.kitAny K (.type (tyN d)) ([T,U].map Value.type)=some (bX (tyN d) T || bX (tyN d) U):=by
 show PySem.W.kitAny K (.type (tyN d)) [.type T,.type U]=_
 unfold PySem.W.kitAny
 rw [mZ K d h]
 cases bX (tyN d) T with
 | true=>rfl
 | false =>
  show PySem.W.kitAny K (.type (tyN d)) [.type U]=_
  unfold PySem.W.kitAny
  rw [mZ K d h']
  cases bX (tyN d) U <;> rfl
theorem fF {p px py pt:Pos}{x y:Str}{T U:String}{kk:Nat} (hT:g0 T=true) (hU:g0 U=true) (hg:Gl X "isinstance") (hm:X.mg "isinstance" = none) (hv:bootBuiltins "isinstance" = some (.builtin "isinstance"))
  (hgx:Gl X x) (hmx:X.mg x=none) (hvx:bootBuiltins x=some (.type T)) (hgy:Gl X y) (hmy:X.mg y=none) (hvy:bootBuiltins y=some (.type U))
  (ha:Ev X .O e f) (hn:x ≠ "__name__" := by decide) (hd:(x == ("__debug__" : Str))=false:=by decide) (hn2:y ≠ "__name__" := by decide) (hd2:(y == ("__debug__" : Str))=false:=by decide) (he:be e=true:=by rfl) :
  Ev X .V (.Call (.Name "isinstance" p) [e,.Tuple [.Name x px,.Name y py] kk pt] [] pos) (qE T U f) :=
 PE.by (fU nE hg hm hv (cr ha.h (cr (qd (cr (jG hgx hmx hvx (v:=.ty T) rfl hn hd) (cr (jG hgy hmy hvy (v:=.ty U) rfl hn2 hd2) eI (aH _ [] X.env rfl)) (aH _ [.Name y py] X.env rfl))) eI (aH _ [] X.env rfl)) (aH e [.Tuple [.Name x px,.Name y py] kk pt] X.env he)) (by decide) (by decide) (aH e [.Tuple [.Name x px,.Name y py] kk pt] X.env he) (dQ pos X.env [.Tuple [.Name x px,.Name y py] kk pt] rfl)) fun σ H Q zz124_0=>by
  obtain ⟨B,F,E,d,k,q,w⟩:=zz124_0
  unfold qE at q
  cases hf:f E with
  | none=>simp [hf] at q
  | some z =>
   simp only [hf,DF] at q
   cases q
   refine ⟨B,F,E,z,k,hf,fun v F' H' x1 r1=>⟨by show 2≤sizeLine; decide,fun tp htp=>?_⟩⟩
   have x2:=Ext.lay (F:=F') (o:=HO.tup [V.ty T,V.ty U]) x1.sub htp
   exact ⟨v,tp,[T,U],_,_,rfl,ar,zm x2.sub (OB.ext x2 r1),wB X.K z hT hU,w _ F' _ (x1.trans x2) (.bl _)⟩
end
def kg (i:Nat) (fk fv:DE→Option D) (E:DE):Option Out:=match E[i]? with
 | some (.own (.lst ds))=>(fv E).bind fun v=>(fk E).bind fun x=>match x with
  | .int j=>(ixN ds.length j).map fun k=>.nx (E.set i (.own (.lst (ds.set k v))))
  | _=>none
 | _=>none
section
variable {X:Cx}{a b:Expr}{f g:DE→Option D}{pos pos':Pos}
theorem su {i:Nat}{o:Expr} (ho:PE X o (my i)) (ha:Ev X .V a f) (hb:Ev X .V b g)
  (hasg:∀ v,assign (.Subscript o a pos') X.env v=(do
   let ov ← holding [v] (eval o X.env)
   let iv ← holding [v,ov] (eval a X.env)
   standAt pos'
   holding [v,ov,iv] (setItem ov iv v)
   release [v,ov,iv] []):=by intro _; rfl) (hs:swapsWithSole [.Subscript o a pos'] b pos.line X.env=pure false:=by rfl) (hw:swappedStores [.Subscript o a pos'] b X.env=pure none:=by rfl)
  (h1:(assignEach [.Subscript o a pos'] X.env).map (·.2)=[assign (.Subscript o a pos') X.env]:=by rfl) :
  Es X (.Assign [.Subscript o a pos'] b pos) (kg i f g):=PS.by (vJ hb.h (AD ho ha.h vq hasg) hs hw h1) fun Z σ H zz125_0=>by
 obtain ⟨B,F,E,r,k,q,w⟩:=zz125_0
 unfold kg at q
 split at q
 ·rename_i ds hd
  cases hgE:g E with
  | none=>simp [hgE] at q
  | some y =>
   cases hf:f E with
   | none=>simp [hgE,hf] at q
   | some x =>
    simp only [hf,hgE,DC] at q
    match x,q with
    | .int j,q =>
     have q':(ixN ds.length j).map (fun k=>Out.nx (E.set i (.own (.lst (ds.set k y)))))=some r:=q
     cases hk:ixN ds.length j with
     | none=>rw [hk] at q'; cases q'
     | some kk =>
      rw [hk] at q'
      cases q'
      obtain ⟨p,vs,h1,h2,h3,h4⟩:=rP k hd
      refine ⟨B,F,E,y,k,hgE,fun v F1 H1 x1 r1=>⟨.ref p,h1,B,F1,E,_,k.ext x1,hf,fun u F2 H2 x2 r2=>?_⟩⟩
      cases r2
      refine ⟨p,vs,j,kk,rfl,rfl,x2.same _ _ (x1.same _ _ h2),by rw [h4.length]; exact hk,?_⟩
      have z:=((k.ext x1).ext x2).rewrite hd h1 (o':=.lst (vs.set kk v)) (d':=.lst (ds.set kk y)) ((h4.mono (x1.trans x2).fr).set (r1.mono x2.fr) kk)
      exact w σ F2 _ z (x1.trans x2).fr
 ·cases q
end
end L2.Cu
namespace L2
open PySem PySem.Spec PyProof.Rows
section
variable {prog:Program}{w:World}{A:Around}{E:Value→Shared→Prop}{s:Shared}
theorem vP (xs:List Value):((List.range xs.toArray.size).filterMap fun (k:Nat)=>xs.toArray[(((xs.toArray.size:Nat):Int) - 1 + (k:Int) * (-1)).toNat]?)=xs.reverse:=by
 have h1:∀ ys:List Value,(List.range ys.length).filterMap (fun k=>ys[k]?)=ys:=fun ys=>by
  have h:=pick_run ys.toArray 0 ys.length
  simpa using h
 have h2:∀ (l:List Nat) (f g:Nat→Option Value),(∀ k ∈ l,f k=g k)→l.filterMap f=l.filterMap g:=fun l f g h=>by
  induction l with
  | nil=>rfl
  | cons x l ih=>rw [Fa,Fa,h x (D3 ..),ih fun k hk=>h k (D0 _ hk)]
 have h3:=h1 xs.reverse
 rw [GE] at h3
 rw [DY,← h3]
 refine h2 _ _ _ fun k hk=>?_
 have hk:=List.mem_range.mp hk
 rw [List.getElem?_reverse hk]
 have e:((xs.length:Int) - 1 + (k:Int) * (-1)).toNat=xs.length - 1 - k:=by omega
 rw [e]
 simp
end
theorem KV.at {kvs:List (Key×V)} {vs:List (Key×Value)} (r:KV kvs vs) {i:Nat}{k:Key}{u:Value} (h:vs[i]? = some (k,u)):∃ v,kvs[i]? = some (k,v)∧aX v u:=by
 induction r generalizing i with
 | nil=>simp at h
 | @cons p q _ _ h1 t ih =>
  cases i with
  | zero =>
   simp at h
   subst h
   have h3:p.1=k:=h1.1
   exact ⟨p.2,by rw [← h3]; rfl,h1.2⟩
  | succ j =>
   simp at h
   obtain ⟨v,e1,e2⟩:=ih h
   exact ⟨v,by simpa using e1,e2⟩
end L2
namespace L2.Cu
open PySem PySem.Spec PyProof.Rows
theorem RepK.at {F:Hp}:∀ {vs:List (Key×V)} {ds:List (Key×D)} {i:Nat}{k:Key}{v:V},RepK F vs ds→vs[i]? = some (k,v)→∃ d,ds[i]? = some (k,d)∧Rep F v d
 := fun {vs ds i k v} r e=>by
  cases r with
  | nil=>cases e
  | cons r t =>
   cases i with
   | zero=>cases e; exact ⟨_,rfl,r⟩
   | succ i=>exact RepK.at (i:=i) t e
section
variable {X:Cx}{a b e:Expr}{p pos:Pos}{f g:DE→Option D}
def o9 (es:List (Key×D)) (p:Key×D):Bool:=match dS es p.1 with
 | some y=>PyData.eqv (toP p.2) (toP y)
 | none=>false
theorem u8 {es:List (Key×D)} {k:Key}{y:D} (h:dS es k=some y):∃ p ∈ es,p.2=y:=by
 unfold dS at h
 cases hf:es.find? fun p=>decide (p.1=k) with
 | none=>rw [hf] at h; cases h
 | some p=>rw [hf] at h; cases h; exact ⟨p,List.mem_of_find?_eq_some hf,rfl⟩
theorem hits {X:Cx}{pins:List (Addr×Obj)} {σ:St}{F H:Hp}{s:Shared}{A:Around} (I:Inv X pins σ H s) (hs:∀ a o,F a=some o→H a=some o) (hu:A.units + 62 < cLine) {ws:List (Key×V)} {es:List (Key×D)} {kb:List (Key×Value)} (r2:RepK F ws es) (q2:KV ws kb) (d2:∀ p ∈ es,dH p.2=true) :
  ∀ {vs:List (Key×V)} {ds:List (Key×D)} {ka:List (Key×Value)},RepK F vs ds→KV vs ka→(∀ p ∈ ds,dH p.2=true)→PySem.W.KeqHits A s kb ka (ds.all (o9 es))
 := fun {vs ds ka} z0 z1 d1=>by
  cases z0 with
  | nil=>cases z1; exact .nil
  | @cons k v d vs ds r t =>
   cases z1 with
   | @cons _ q _ _ h q1 =>
    have ih:=hits I hs hu r2 q2 d2 t q1 fun p hp=>d1 p (.tail _ hp)
    obtain ⟨k',u⟩:=q
    obtain ⟨e1,e2⟩:=h
    have e1':k=k':=e1
    subst e1'
    have e2':aX v u:=e2
    obtain ⟨v1,v2⟩:=RepK.val (k:=k) r2
    have rel:=q2.val k
    cases hv:dS es k with
    | none =>
     have hn:=v2 hv
     rw [hn] at rel
     have hb:o9 es (k,d)=false:=by unfold o9; rw [hv]
     rw [EY,hb,ED]
     exact .miss (d9.none_of rel)
    | some y =>
     obtain ⟨w,hw,rw'⟩:=v1 y hv
     rw [hw] at rel
     obtain ⟨u',hu',ru'⟩:=d9.some_of rel
     have hb:o9 es (k,d)=PyData.eqv (toP d) (toP y):=by unfold o9; rw [hv]
     rw [EY,hb]
     obtain ⟨a1,a2⟩:=Bool.and_eq_true_iff.mp (d1 (k,d) (.head _))
     obtain ⟨pp,hpm,hpe⟩:=u8 hv
     obtain ⟨b1,b2⟩:=Bool.and_eq_true_iff.mp (hpe ▸ d2 pp hpm)
     obtain ⟨as,ra⟩:=Rep.reads I hs r e2' a1
     obtain ⟨bs,rb⟩:=Rep.reads I hs rw' ru' b1
     have a2':(toP d).depth≤60:=EO a2
     exact .hit hu' (SeqAt.eqAt_reads (toP d) (toP y) A s u u' as bs ra rb a1 b1 (by omega)) ih
end
def wp {α:Type} (o:Option α) (P:α→Prop):Prop:=match o with
 | some a=>P a
 | none=>False
theorem af {α:Type}{a:α}{P:α→Prop}:wp (some a) P=P a:=rfl
theorem aZ {α β:Type}{o:Option α}{k:α→Option β}{P:β→Prop}:wp (o.bind k) P=wp o (fun a=>wp (k a) P):=by cases o <;> rfl
theorem bY {α β:Type}{o:Option α}{k:α→β}{P:β→Prop}:wp (o.map k) P=wp o (fun a=>P (k a)):=by cases o <;> rfl
theorem e8 {α:Type}{o:Option α}{P Q:α→Prop} (h:wp o P) (w:∀ a,P a→Q a):wp o Q:=by
 cases o with
 | none=>exact h
 | some a=>exact w a h
theorem aJ {α:Type}{o:Option α}{a:α} (h:wp o (fun b=>b=a)):o=some a:=by
 cases o with
 | none=>exact False.elim h
 | some b=>exact ER some h
theorem fK {α:Type}{o:Option α}{P:α→Prop}:wp o P ↔ ∃ a,o=some a∧P a:=by
 cases o with
 | none=>exact ⟨False.elim,fun ⟨_,h,_⟩=>by cases h⟩
 | some b=>exact ⟨fun h=>⟨b,rfl,h⟩,fun ⟨_,h,p⟩=>by cases h; exact p⟩
theorem gR {α:Type}{c:Prop} [Decidable c] {a b:Option α}{P:α→Prop} (h:c) (q:wp a P):wp (if c then a else b) P:=by rw [if_pos h]; exact q
theorem a_ {i j:Int} (h:0 < j):ci (.int i) (.int j)=some (.int (i % j)):=if_pos h
theorem qr {j:Int} (h:j≤10 ^ 200) (h0:0 < j):j.natAbs.log2 < 9000:=by
 rw [Nat.log2_lt (by omega)]
 have h1:(j.natAbs:Int)≤10 ^ 200:=by omega
 have h2:((10:Nat) ^ 200:Nat) < 2 ^ 9000:=by decide
 have h3:j.natAbs≤(10:Nat) ^ 200:=by
  have:((10:Int) ^ 200)=(((10:Nat) ^ 200:Nat):Int):=by decide
  omega
 exact GJ h3 h2
theorem bd {i j:Int} (h:0 < j) (h2:j≤10 ^ 200):bM (.int i) (.int j)=some (.int (i / j)):=if_pos ⟨h,qr h2 h⟩
theorem t8 {i j:Int} (h:Builtin.Int.intBits i≤2 ^ 20) (h2:Builtin.Int.intBits j≤2 ^ 20):we (.int i) (.int j)=some (.int (i * j)):=if_pos ⟨h,h2⟩
theorem gv {i j:Int} (h:0≤j) (h2:j≤1000000) (h3:i.natAbs < 2 ^ 64):n5 (.int i) (.int j)=some (.int (i ^ j.toNat)):=if_pos ⟨h,h2,h3⟩
theorem ik {i j:Int}:ltD (.int i) (.int j)=some (.bl (decide (i < j))):=rfl
theorem mX {i j:Str}:ltD (.str i) (.str j)=some (.bl (decide (i.cps.toList < j.cps.toList))):=rfl
theorem jK {i j:Int}:leD (.int i) (.int j)=some (.bl (decide (i≤j))):=rfl
theorem mY {i j:Str}:leD (.str i) (.str j)=some (.bl (!decide (j.cps.toList < i.cps.toList))):=rfl
theorem fC {i j:Int}:gtD (.int i) (.int j)=some (.bl (decide (j < i))):=rfl
theorem r9 {i j:Int}:geD (.int i) (.int j)=some (.bl (decide (j≤i))):=rfl
theorem jV {i j:Int}:xS (.int i) (.int j)=some (.int (i - j)):=rfl
theorem sK {α:Type}{xs:List α}{i:Int} (h:0≤i) (h2:i < xs.length):atI xs i=xs[i.toNat]?:=by
 unfold atI ixN
 rw [if_pos h,if_pos h2]; rfl
theorem iE {α:Type}{xs:List α}{i:Nat}:atI xs (i:Int)=xs[i]?:=by
 unfold atI ixN
 rw [if_pos (by omega)]
 by_cases h:(i:Int) < xs.length
 ·rw [if_pos h]; rfl
 ·rw [if_neg h]
  exact (Gz (by omega)).symm
theorem pR {α:Type}{xs:List α}{i:Int}{P:α→Prop} (h:0≤i) (h2:i < xs.length) (q:∀ d ∈ xs,P d):wp (atI xs i) P:=by
 have hlt:i.toNat < xs.length:=by omega
 rw [sK h h2,DT hlt]
 exact q _ (EI hlt)
theorem gr (x:Str):x.length=x.cps.toList.length:=by
 show x.cps.size=_
 simp
theorem yS {z:Str}{i:Int} (hz:z.length≤16777216) (h:0≤i) (h2:i < z.length):ixD (.str z) (.int i)=some (.str ⟨#[z.cps.toList.getD i.toNat 0]⟩):=by
 show (if z.length≤16777216 then (atI z.cps.toList i).map fun c=>D.str ⟨#[c]⟩ else none)=_
 rw [gr] at h2
 rw [if_pos hz,sK h h2]
 have hlt:i.toNat < z.cps.toList.length:=by omega
 rw [DT hlt,F_,DT hlt]
 rfl
theorem mB (x y:Str):(x ++ y).cps.toList=x.cps.toList ++ y.cps.toList:=by
 show (x.cps ++ y.cps).toList=_
 simp
theorem c8 {i j:Int}:cv (.int i) (.int j)=some (.int (i + j)):=rfl
theorem xB {i j:Str} (h:i.length + j.length≤16777216):cv (.str i) (.str j)=some (.str (i ++ j)):=if_pos h
theorem rW {xs:List D}{i:Int}:ixD (.lst xs) (.int i)=atI xs i:=rfl
theorem rT {xs:List D}{i:Int}:ixD (.tup xs) (.int i)=atI xs i:=rfl
theorem rV {xs:List Int}{i:Int}:ixD (.scr xs) (.int i)=(atI xs i).map D.int:=rfl
theorem oQ {xs:List D}:ue (.lst xs)=some (.int xs.length):=rfl
theorem oO {xs:List D}:ue (.tup xs)=some (.int xs.length):=rfl
theorem oP {xs:List Int}:ue (.scr xs)=some (.int xs.length):=rfl
theorem wv {x:Str} (h:x.length≤16777216):ue (.str x)=some (.int x.length):=if_pos h
theorem mG {xs:List D}{lo hi:Option Int}:slD (.lst xs) lo hi=some (.lst (b5 xs lo hi)):=rfl
theorem hY {xs:List D}{lo hi:Option Int}:slD (.tup xs) lo hi=some (.tup (b5 xs lo hi)):=rfl
theorem mF {xs:List Int}{lo hi:Option Int}:slD (.scr xs) lo hi=some (.lst ((b5 xs lo hi).map D.int)):=rfl
theorem xW {x:Str}{lo hi:Option Int} (h:x.length≤16777216):slD (.str x) lo hi=some (.str (Txt.slice x lo hi)):=if_pos h
theorem c4 {i j:Int}:eqO (.int i) (.int j)=some (.bl (decide (i=j))):=rfl
theorem nv {i j:Str}:eqO (.str i) (.str j)=some (.bl (decide (i=j))):=rfl
theorem qL {i j:Bool}:eqO (.bl i) (.bl j)=some (.bl (decide (i=j))):=rfl
theorem cB {i j:Int}:neO (.int i) (.int j)=some (.bl (!decide (i=j))):=rfl
theorem rQ {i j:Str}:neO (.str i) (.str j)=some (.bl (!decide (i=j))):=rfl
theorem m_ {c:Nat}{z:Str}:inO (.str ⟨#[c]⟩) (.str z)=some (.bl (decide (c ∈ z.cps.toList))):=by
 show some (D.bl (!(Builtin.Str.occurrences z ⟨#[c]⟩ 0 z.length 1).isEmpty))=_
 rw [PySem.StrLaws.found_one]
theorem ot {c:Nat}{z:Str}:v8 (.str ⟨#[c]⟩) (.str z)=some (.bl (!decide (c ∈ z.cps.toList))):=by
 show some (D.bl (!(!(Builtin.Str.occurrences z ⟨#[c]⟩ 0 z.length 1).isEmpty)))=_
 rw [PySem.StrLaws.found_one]
def xY (g:DE→Option Out) (P:Out→Prop):Out→Prop
 | .nx E=>wp (g E) P
 | r=>P r
theorem av {g:DE→Option Out}{P:Out→Prop}{E:DE}:xY g P (.nx E)=wp (g E) P:=rfl
theorem aV {g:DE→Option Out}{P:Out→Prop}{d:D}:xY g P (.rt d)=P (.rt d):=rfl
theorem ax {f g:DE→Option Out}{E:DE}{P:Out→Prop}:wp (ay f g E) P=wp (f E) (xY g P):=by
 unfold ay; rw [aZ]
 congr 1
 funext r
 cases r <;> rfl
def ifK (f g:DE→Option Out) (E:DE) (P:Out→Prop) (b:Bool):Prop:=wp (if b=true then f E else g E) P
theorem aF {f g:DE→Option Out}{E:DE}{P:Out→Prop}:ifK f g E P true=wp (f E) P:=rfl
theorem aP {f g:DE→Option Out}{E:DE}{P:Out→Prop}:ifK f g E P false=wp (g E) P:=rfl
theorem aS {c:DE→Option Bool}{f g:DE→Option Out}{E:DE}{P:Out→Prop}:wp (ifS c f g E) P=wp (c E) (ifK f g E P):=by
 unfold ifS; rw [aZ]; rfl
theorem wI {f g:DE→Option Out}{E:DE}{P:Out→Prop}{b:Bool} (h1:b=true→wp (f E) P) (h2:b=false→wp (g E) P):ifK f g E P b:=by
 cases b with
 | true=>exact h1 rfl
 | false=>exact h2 rfl
theorem fB {f g:DE→Option Out}{E:DE}{P:Out→Prop}{c:Prop} [Decidable c] (h1:c→wp (f E) P) (h2:¬ c→wp (g E) P):ifK f g E P (decide c) :=
 wI (fun h=>h1 (EO h)) fun h=>h2 (of_decide_eq_false h)
def tf (P:D→Prop):Out→Prop
 | .rt d=>P d
 | .nx _=>P .non
 | _=>False
theorem aq {P:D→Prop}{d:D}:tf P (.rt d)=P d:=rfl
theorem rD {P:D→Prop}{E:DE}:tf P (.nx E)=P .non:=rfl
theorem az {n m:Nat}{b:DE→Option Out}{ds:List D}{P:D→Prop} (h:ds.length=n):wp (bF n m b ds) P=wp (b (ds.map Sl.val ++ List.replicate (m - n) Sl.no)) (tf P):=by
 unfold bF
 rw [if_pos h,aZ]
 congr 1
 funext r
 cases r <;> rfl
theorem rm {n:Nat} (h:n≤16777216):n≤sizeLine:=h
theorem vh {n:Nat} (h:n < 16777216):n < sizeLine:=h
theorem bj {n:Nat} (h:n≤16777216):(n≤sizeLine)=True:=eq_true h
theorem zt {n:Nat} (h:n < 16777216):(n < sizeLine)=True:=eq_true h
theorem cX {f:DE→Option (List D)} {E:DE}:eQ f E=(f E).bind je:=rfl
theorem nX {f:DE→Option (List D)} {E:DE}:Dg f E=(f E).bind zu:=rfl
theorem cS {j:Int} (h : -4000000000≤j) (h2:j≤4000000000):je [.int j]=some (dE 0 j.toNat):=if_pos ⟨by omega,by omega⟩
def oF (gf:D→DE→Option DE) (fb:DE→Option Out) (xs:List D) (E:DE):Option Out:=eA (fun x E1=>(gf x E1).bind fb) xs E
theorem e9 {fi:DE→Option (List D)} {gf:D→DE→Option DE}{fb:DE→Option Out}{E:DE}{P:Out→Prop}:wp (fD fi gf fb E) P=wp (fi E) (fun xs=>wp (oF gf fb xs E) P):=by
 unfold fD; rw [aZ]; rfl
section
variable {α:Type} (enc:α→D) (ys:List α) (I:List α→DE→Prop) {gf:D→DE→Option DE}{fb:DE→Option Out}{xs:List D}{E:DE}{P:Out→Prop}
theorem u6 (hx:xs=ys.map enc) (h0:I [] E)
  (step:∀ pre x post E,ys=pre ++ x :: post→I pre E→wp (gf (enc x) E) fun E1=>wp (fb E1) fun r=>match r with | .nx E'=>I (pre ++ [x]) E' | .ct E'=>I (pre ++ [x]) E' | .bk E'=>P (.nx E') | .rt d=>P (.rt d)) (fin:∀ E',I ys E'→P (.nx E')):wp (oF gf fb xs E) P:=by
 subst hx
 have go:∀ (post pre:List α) (E:DE),ys=pre ++ post→I pre E→wp (oF gf fb (post.map enc) E) P:=by
  intro post
  induction post with
  | nil=>intro pre E h i; rw [Fb] at h; subst h; exact fin E i
  | cons x post ih =>
   intro pre E h i
   show wp (((gf (enc x) E).bind fb).bind _) P
   rw [aZ,aZ]
   refine e8 (step pre x post E h i) fun E1 q1=>e8 q1 fun r q=>?_
   have nxt:∀ E',I (pre ++ [x]) E'→wp (oF gf fb (post.map enc) E') P:=fun E' i'=>ih (pre ++ [x]) E' (by rw [h]; simp) i'
   cases r with
   | nx E'=>exact nxt E' q
   | ct E'=>exact nxt E' q
   | bk E'=>exact q
   | rt d=>exact q
 exact go ys [] E rfl h0
theorem hV (hx:xs=ys.map enc) (h0:I [] E)
  (step:∀ pre x post E,ys=pre ++ x :: post→I pre E→wp (gf (enc x) E) fun E1=>wp (fb E1) fun r=>match r with | .nx E'=>I (pre ++ [x]) E' | .ct E'=>I (pre ++ [x]) E' | _=>False) (fin:∀ E',I ys E'→P (.nx E')):wp (oF gf fb xs E) P :=
 u6 enc ys I hx h0 (fun pre x post E h i=>e8 (step pre x post E h i) fun E1 q=>e8 q fun r q=>by cases r <;> first | exact q | exact False.elim q) fin
end
theorem dR {α:Type} (enc:α→D) (f:α→D) {gf:D→DE→Option DE}{cf:DE→Option Bool}{ef:DE→Option D}{E:DE}:∀ (ys:List α),(∀ x ∈ ys,wp (gf (enc x) E) fun E1=>cf E1=some true∧ef E1=some (f x))→bO gf cf ef E (ys.map enc)=some (ys.map f)
 | [],_=>rfl
 | x :: ys,h=>by
  obtain ⟨E1,h1,h2,h3⟩:=fK.mp (h x D3)
  show (gf (enc x) E).bind _=_
  rw [h1]
  show (cf E1).bind _=_
  rw [h2]
  show (if true=true then (ef E1).bind (fun y=>(bO gf cf ef E (ys.map enc)).map fun zs=>y :: zs) else bO gf cf ef E (ys.map enc))=_
  rw [if_pos rfl,h3,dR enc f ys fun y hy=>h y (D0 _ hy)]
  rfl
theorem iC {α:Type} (enc:α→D) (p:α→Bool) (f:α→D) {gf:D→DE→Option DE}{cf:DE→Option Bool}{ef:DE→Option D}{E:DE}:∀ (ys:List α),(∀ x ∈ ys,wp (gf (enc x) E) fun E1=>cf E1=some (p x)∧(p x=true→ef E1=some (f x)))→bO gf cf ef E (ys.map enc)=some ((ys.filter p).map f)
 | [],_=>rfl
 | x :: ys,h=>by
  obtain ⟨E1,h1,h2,h3⟩:=fK.mp (h x D3)
  have ih:=iC enc p f (gf:=gf) (cf:=cf) (ef:=ef) (E:=E) ys fun y hy=>h y (D0 _ hy)
  show (gf (enc x) E).bind _=_
  rw [h1]
  show (cf E1).bind _=_
  rw [h2]
  show (if p x=true then (ef E1).bind (fun y=>(bO gf cf ef E (ys.map enc)).map fun zs=>y :: zs) else bO gf cf ef E (ys.map enc))=_
  cases hp:p x with
  | true =>
   rw [if_pos rfl,h3 hp,ih,List.filter_cons_of_pos hp]
   rfl
  | false =>
   rw [if_neg (by simp),ih,List.filter_cons_of_neg (by simp [hp])]
theorem bU {α:Type} (f:α→Bool):∀ ys:List α,jx (ys.map fun x=>D.bl (f x))=some (ys.map f)
 | []=>rfl
 | x :: ys=>by
  show (jx (ys.map fun x=>D.bl (f x))).map _=_
  rw [bU f ys]; rfl
def mk (l:List Nat):Str:=⟨l.toArray⟩
theorem dy (l:List Nat):(mk l).cps.toList=l:=by simp [mk]
theorem CC (x:Str):mk x.cps.toList=x:=by cases x; simp [mk]
theorem d5 (l:List Nat):(mk l).length=l.length:=by rw [gr,dy]
theorem A0 (a b:List Nat):mk a ++ mk b=mk (a ++ b):=mz (by rw [mB,dy,dy,dy])
theorem AZ {a b:List Nat}:mk a=mk b ↔ a=b:=⟨fun h=>by rw [← dy a,h,dy],fun h=>by rw [h]⟩
theorem clip_eq (v:Option Int) (n d:Nat) (hd:d≤n):(match v with | none=>(d:Int) | some i=>max (0:Int) (min (if i < 0 then i + (n:Int) else i) (n:Int)):Int)=((HT.sIx n d v:Nat):Int):=by
 cases v with
 | none=>rfl
 | some i =>
  show max 0 (min (if i < 0 then i + (n:Int) else i) n)=((if i < 0 then (i + (n:Int)).toNat else min i.toNat n:Nat):Int)
  by_cases h:i < 0
  ·rw [if_pos h,if_pos h,Int.min_eq_left (Int.add_le_of_le_sub_right (by rw [Int.sub_self]; exact Int.le_of_lt h)),Int.ofNat_toNat,Int.max_comm]
  ·have h0:=Int.not_lt.mp h
   rw [if_neg h,if_neg h,Int.max_eq_right (Int.le_min.mpr ⟨h0,Int.natCast_nonneg n⟩)]; omega
theorem sIx_le (v:Option Int) (n d:Nat) (hd:d≤n):HT.sIx n d v≤n:=by
 cases v with
 | none=>exact hd
 | some i =>
  show (if i < 0 then (i + (n:Int)).toNat else min i.toNat n)≤n
  split <;> omega
theorem qF (lo hi:Option Int) (n:Nat):Builtin.Str.strSliceIndices lo hi 1 n=(List.range (HT.sIx n n hi - HT.sIx n 0 lo)).map fun k=>HT.sIx n 0 lo + k:=by
 have e1:=clip_eq lo n 0 (E_ _)
 have e2:=clip_eq hi n n (DZ _)
 have e:Builtin.Str.strSliceIndices lo hi 1 n=sliceRange (HT.sIx n 0 lo:Nat) (HT.sIx n n hi:Nat) 1:=by
  rw [← e1,← e2]
  unfold Builtin.Str.strSliceIndices
  cases lo <;> cases hi <;> rfl
 rw [e]
 unfold sliceRange
 rw [if_pos (by decide)]
 dsimp only
 have ec:(if ((HT.sIx n 0 lo:Nat):Int) < ((HT.sIx n n hi:Nat):Int) then (((HT.sIx n n hi:Nat):Int) - ((HT.sIx n 0 lo:Nat):Int) + 1 - 1) / 1 else 0).toNat=HT.sIx n n hi - HT.sIx n 0 lo:=by
  split <;> omega
 rw [ec]
 refine List.map_congr_left fun k _=>?_
 omega
theorem gh {α:Type} (l:List α) (a m:Nat):((List.range m).map (fun k=>a + k)).filterMap (fun i=>l[i]?)=(l.drop a).take m:=by
 induction m with
 | zero=>simp
 | succ m ih =>
  rw [List.range_succ,Fp,List.filterMap_append,ih,GK]
  congr 1
  rw [List.getElem?_drop]
  show List.filterMap (fun i=>l[i]?) [a + m]=_
  cases h:l[a + m]? with
  | none=>simp [h]
  | some x=>simp [h]
theorem vm (l:List Nat) (lo hi:Option Int):Txt.slice (mk l) lo hi=mk (b5 l lo hi):=by
 unfold Txt.slice
 rw [qF,d5]
 have hf:(((List.range (HT.sIx l.length l.length hi - HT.sIx l.length 0 lo)).map fun k=>HT.sIx l.length 0 lo + k).filterMap fun i=>(mk l).cps[i]?)=b5 l lo hi:=by
  have e:(fun i:Nat=>(mk l).cps[i]?)=fun i=>l[i]?:=by
   funext i
   rw [← Array.getElem?_toList,dy]
  rw [e,gh]; rfl
 split
 ·rename_i hc
  have hlen:HT.sIx l.length l.length hi - HT.sIx l.length 0 lo=l.length:=by
   simpa using hc
  have h1:=sIx_le hi l.length l.length (DZ _)
  have:b5 l lo hi=l:=by
   unfold b5
   rcases Nat.eq_zero_or_pos l.length with h0 | h0
   ·rw [List.length_eq_zero_iff.mp h0]; simp
   ·have h2:HT.sIx l.length 0 lo=0:=by omega
    rw [hlen,h2]; simp
  rw [this]
 ·show mk _=_
  rw [hf]
theorem Ac (l:List Nat) (n:Int):kf (mk l) n=mk (List.replicate n.toNat l).flatten:=by unfold kf; rw [dy]; rfl
theorem xm {α:Type} (l:List α) (k:Nat):b5 l none (some (k:Int))=l.take k:=by
 unfold b5
 rw [HT.sIx_none,HT.sIx_nat]
 simp
theorem pC {α:Type} (l:List α) (k:Nat):b5 l (some (k:Int)) none=l.drop k:=by
 unfold b5
 rw [HT.sIx_none,HT.sIx_nat]
 rcases Nat.le_total k l.length with h | h
 ·rw [Nat.min_eq_left h,Fc (by simp)]
 ·rw [Nat.min_eq_right h]; simp [Gs h]
theorem sE {α:Type} (l:List α) (a b:Nat):b5 l (some (a:Int)) (some (b:Int))=(l.take b).drop a:=by
 unfold b5
 rw [HT.sIx_nat,HT.sIx_nat,List.drop_take]
 rcases Nat.le_total a l.length with h | h
 ·rw [Nat.min_eq_left h]
  rcases Nat.le_total b l.length with h2 | h2
  ·rw [Nat.min_eq_left h2]
  ·rw [Nat.min_eq_right h2,Fc (by simp),Fc (by simp; omega)]
 ·rw [Nat.min_eq_right h]; simp [Gs h]
theorem cO {xs:List D}{i:Int}:ixE (.lst xs) (.int i)=atI xs i:=rfl
theorem dM {xs:List D}{i:Int}:ixE (.tup xs) (.int i)=atI xs i:=rfl
theorem m8 {xs:List Int}{i:Int}:ixE (.scr xs) (.int i)=(atI xs i).map D.int:=rfl
theorem Ba {l:List Nat}{i:Int} (hz:l.length≤16777216) (h:0≤i) (h2:i < l.length):ixE (.str (mk l)) (.int i)=some (.str (mk [l.getD i.toNat 0])):=by
 have e:=yS (z:=mk l) (i:=i) (by rw [d5]; exact hz) h (by rw [d5]; exact h2)
 rw [dy] at e
 exact e
theorem dB {xs:List D}:bx (.lst xs)=some (.int xs.length):=rfl
theorem cZ {xs:List D}:bx (.tup xs)=some (.int xs.length):=rfl
theorem kC {xs:List Int}:bx (.scr xs)=some (.int xs.length):=rfl
theorem oN {xs:List (Key×D)}:bx (.dic xs)=some (.int xs.length):=rfl
theorem yO {l:List Nat} (h:l.length≤16777216):bx (.str (mk l))=some (.int l.length):=by
 have e:=wv (x:=mk l) (by rw [d5]; exact h)
 rw [d5] at e
 exact e
theorem wf {i j:Int} (h:Builtin.Int.intBits i≤2 ^ 20) (h2:Builtin.Int.intBits j≤2 ^ 20):ou (.int i) (.int j)=some (.int (i * j)):=t8 h h2
theorem yK {l:List Nat}{n:Int} (h0:0≤n) (h1:n < 1048576) (h2:l.length * n.toNat≤16777216):ou (.str (mk l)) (.int n)=some (.str (mk (List.replicate n.toNat l).flatten)):=by
 show (if 0≤n∧n < 2 ^ 20∧(mk l).length * n.toNat≤sizeLine then some (D.str (kf (mk l) n)) else none)=_
 rw [if_pos ⟨h0,h1,by rw [d5]; exact h2⟩,Ac]
theorem nJ {a b:List Nat} (h:a.length + b.length≤16777216):cv (.str (mk a)) (.str (mk b))=some (.str (mk (a ++ b))):=by
 rw [xB (by rw [d5,d5]; exact h),A0]
theorem vn {l:List Nat}{lo hi:Option Int} (h:l.length≤16777216):slD (.str (mk l)) lo hi=some (.str (mk (b5 l lo hi))):=by
 rw [xW (by rw [d5]; exact h),vm]
theorem bp {α:Type} (enc:α→D) (f:α→D) {i:Nat}{ef:DE→Option D}{E:DE} (ys:List α) (h:∀ x ∈ ys,ef (E.set i (.val (enc x)))=some (f x)):bO (nmG i) noT ef E (ys.map enc)=some (ys.map f) :=
 dR enc f ys fun x hx=>⟨rfl,h x hx⟩
theorem l4 (ss:List Str):(ss.map D.str).all dg=true:=by
 rw [Fk]
 intro d hd
 obtain ⟨x,_,rfl⟩:=List.mem_map.mp hd
 rfl
theorem za (a b:Str):eqV (.str a) (.str b)=decide (a=b):=by
 show decide _=_
 by_cases h:a=b
 ·simp [h]
 ·simp [h]
theorem o8 (x:Str) (ss:List Str):inV (.str x) ((ss.map D.str).map toV)=decide (x ∈ ss):=by
 unfold inV
 induction ss with
 | nil=>rfl
 | cons y r ih =>
  rw [DK,DK,FI,ih]
  show (eqV (.str y) (.str x) || decide (x ∈ r))=_
  rw [za]
  by_cases h:x=y
  ·simp [h]
  ·have h':¬ y=x:=fun z=>h z.symm
   simp [h,h']
theorem r8 {x:Str}{ss:List Str}:inE (.str x) (.lst (ss.map D.str))=some (.bl (decide (x ∈ ss))):=by
 show (inD (.str x) (.lst (ss.map D.str))).map D.bl=_
 show ((if dg (.str x) && (ss.map D.str).all dg then some (inV (toV (.str x)) ((ss.map D.str).map toV)) else none):Option Bool).map D.bl=_
 rw [l4]
 show some (D.bl (inV (.str x) ((ss.map D.str).map toV)))=_
 rw [o8]
theorem yV {x:Str}{ss:List Str}:inE (.str x) (.tup (ss.map D.str))=some (.bl (decide (x ∈ ss))):=r8
theorem v_ {x:Str}{ss:List Str}:t0 (.str x) (.lst (ss.map D.str))=some (.bl (!decide (x ∈ ss))):=by
 show (inD (.str x) (.lst (ss.map D.str))).map (fun b=>D.bl (!b))=_
 show ((if dg (.str x) && (ss.map D.str).all dg then some (inV (toV (.str x)) ((ss.map D.str).map toV)) else none):Option Bool).map (fun b=>D.bl (!b))=_
 rw [l4]
 show some (D.bl (!inV (.str x) ((ss.map D.str).map toV)))=_
 rw [o8]
theorem v9 {x:Str}{ss:List Str}:t0 (.str x) (.tup (ss.map D.str))=some (.bl (!decide (x ∈ ss))):=v_
theorem lD {ss:List Str} (h:ss.length < 64):eM (.lst (ss.map D.str))=some (.lst ((bb ss).map D.str)):=by
 show (fM (ss.map D.str)).bind _=_
 rw [lz]
 exact if_pos h
theorem b_ {xs:List D}:aW (.lst xs)=some (.tup xs):=rfl
theorem jU {xs:List D}:aW (.tup xs)=some (.tup xs):=rfl
theorem lV {xs:List D}:eT (.lst xs)=some (.lst xs):=rfl
theorem gA {xs:List D}:eT (.tup xs)=some (.lst xs):=rfl
theorem dU {α:Type} (f:α→D):∀ xs:List α,toPs (xs.map f)=xs.map fun x=>toP (f x)
 | []=>by rw [DL,toPs]; rfl
 | x :: xs=>by rw [DK,toPs,dU f xs]; rfl
theorem kN {α:Type} [DecidableEq α] (f:α→PyData) (h:∀ a b,PyData.eqv (f a) (f b)=decide (a=b)):∀ xs ys:List α,PyData.eqvAll (xs.map f) (ys.map f)=decide (xs=ys)
 | [],[]=>by simp [PyData.eqvAll]
 | [],_ :: _=>by simp [PyData.eqvAll]
 | _ :: _,[]=>by simp [PyData.eqvAll]
 | x :: xs,y :: ys=>by
  rw [DK,DK,PyData.eqvAll,h,kN f h xs ys]
  by_cases e:x=y
  ·by_cases e2:xs=ys
   ·simp [e,e2]
   ·simp [e2]
  ·simp [e]
theorem g_ {α:Type} (f:α→PyData):∀ xs:List α,(∀ x ∈ xs,(f x).canLay0=true)→PyData.canLayAll0 (xs.map f)=true
 | [],_=>by simp [PyData.canLayAll0]
 | x :: xs,h=>by
  rw [DK,PyData.canLayAll0,h x D3,g_ f xs fun y hy=>h y (D0 _ hy)]; rfl
theorem fH {α:Type} (f:α→PyData) (n:Nat):∀ xs:List α,(∀ x ∈ xs,(f x).depth≤n)→PyData.depthAll (xs.map f)≤n
 | [],_=>by rw [DL,PyData.depthAll]; exact E_ _
 | x :: xs,h=>by
  rw [DK,PyData.depthAll]
  exact Nat.max_le.mpr ⟨h x D3,fH f n xs fun y hy=>h y (D0 _ hy)⟩
structure c9 (n:Nat) (d:D):Prop where
 lay:(toP d).canLay0=true
 dep:(toP d).depth≤n
theorem c9.le {n m:Nat}{d:D} (h:c9 n d) (hm:n≤m):c9 m d:=⟨h.lay,D1 h.dep hm⟩
theorem c9.ok {n:Nat}{d:D} (h:c9 n d) (hn:n≤60):dH d=true:=by
 unfold dH
 rw [h.lay,Ec (D1 h.dep hn)]; rfl
theorem eX {x:Str} (h:∀ c ∈ x.cps.toList,c≤122):c9 0 (.str x):=by
 refine ⟨?_,by rw [toP,PyData.depth]; exact DZ _⟩
 rw [toP,PyData.canLay0]
 unfold PyData.strOk
 rw [← Array.all_toList,Fk]
 intro c hc
 exact Ec (GJ (h c hc) (by decide))
theorem pd (i:Int):c9 0 (.int i):=⟨by rw [toP,PyData.canLay0],by rw [toP,PyData.depth]; exact DZ _⟩
theorem se (i:Bool):c9 0 (.bl i):=⟨by rw [toP,PyData.canLay0],by rw [toP,PyData.depth]; exact DZ _⟩
theorem pc:c9 0 .non:=⟨by rw [toP,PyData.canLay0],by rw [toP,PyData.depth]; exact DZ _⟩
theorem ir {α:Type}{n:Nat} (f:α→D) (xs:List α) (h:∀ x ∈ xs,c9 n (f x)):c9 (n + 1) (.lst (xs.map f)):=by
 constructor
 ·rw [toP,PyData.canLay0,dU]; exact g_ _ xs fun x hx=>(h x hx).lay
 ·rw [toP,PyData.depth,dU]; exact Nat.succ_le_succ (fH _ n xs fun x hx=>(h x hx).dep)
theorem wQ {α:Type}{n:Nat} (f:α→D) (xs:List α) (h:∀ x ∈ xs,c9 n (f x)):c9 (n + 1) (.tup (xs.map f)):=by
 constructor
 ·rw [toP,PyData.canLay0,dU]; exact g_ _ xs fun x hx=>(h x hx).lay
 ·rw [toP,PyData.depth,dU]; exact Nat.succ_le_succ (fH _ n xs fun x hx=>(h x hx).dep)
theorem l5 {n:Nat} (xs:List D) (h:∀ x ∈ xs,c9 n x):c9 (n + 1) (.tup xs):=by
 have:=wQ (fun d:D=>d) xs h
 rwa [Fo] at this
theorem eY {n:Nat} (xs:List D) (h:∀ x ∈ xs,c9 n x):c9 (n + 1) (.lst xs):=by
 have:=ir (fun d:D=>d) xs h
 rwa [Fo] at this
def nu (x y:D):Bool:=PyData.eqv (toP x) (toP y)
theorem w6 (a b:Str):nu (.str a) (.str b)=decide (a=b):=by
 unfold nu
 rw [toP,toP,PyData.eqv]
 by_cases h:a=b
 ·simp [h]
 ·simp [h]
theorem w9 {α:Type} [DecidableEq α] (f:α→D) (h:∀ a b,nu (f a) (f b)=decide (a=b)) (xs ys:List α):nu (.lst (xs.map f)) (.lst (ys.map f))=decide (xs=ys):=by
 unfold nu
 rw [toP,toP,PyData.eqv,dU,dU]
 exact kN _ h xs ys
theorem pj {n:Nat}{x y:D} (hx:c9 n x) (hy:c9 n y) (hn:n≤60) (hs:scD x y=none):eqO x y=some (.bl (nu x y)):=by
 unfold eqO eqD
 rw [hs,hx.ok hn,hy.ok hn]; rfl
theorem wb {n:Nat}{x y:D} (hx:c9 n x) (hy:c9 n y) (hn:n≤60) (hs:scD x y=none):neO x y=some (.bl (!nu x y)):=by
 unfold neO eqD
 rw [hs,hx.ok hn,hy.ok hn]; rfl
def qX (x:Str):Prop:=∀ c ∈ x.cps.toList,c≤122
theorem xa {ss ts:List Str} (hs:∀ x ∈ ss,qX x) (ht:∀ x ∈ ts,qX x):eqO (.lst (ss.map D.str)) (.lst (ts.map D.str))=some (.bl (decide (ss=ts))):=by
 rw [pj (n:=1) (ir _ _ fun x hx=>eX (hs x hx)) (ir _ _ fun x hx=>eX (ht x hx)) (by decide) rfl,w9 _ w6]
theorem ux {ss:List Str} (hs:∀ x ∈ ss,qX x):eqO (.lst (ss.map D.str)) (.lst [])=some (.bl (decide (ss=[]))):=xa hs (ts:=[]) fun _ h=>by cases h
abbrev Dm:=List (Key×List D)
def dv (qs:List (Key×Addr)):List (Key×V):=qs.map fun q=>(q.1,V.ref q.2)
inductive Lds (B:Hp×Hp) (F H:Hp):List (Key×Addr)→Dm→Prop
 | nil:Lds B F H [] []
 | cons {k:Key}{p:Addr}{xs:List V}{ds:List D}{qs:List (Key×Addr)} {m:Dm}:H p=some (.lst xs)→F p=none→B.2 p=none→Reps F xs ds→Lds B F H qs m→Lds B F H ((k,p) :: qs) ((k,ds) :: m)
def ic (a:Addr):Sl:=.rob ⟨0,some a,[]⟩
def gl (E:DE):Prop:=(∀ (j:Nat) d,E[j]? ≠ some (.own d))∧∀ (j:Nat) s,E[j]? ≠ some (.obj s)
theorem gl.set {E:DE} (h:gl E) (i:Nat) {z:Sl} (h1:∀ d,z ≠ .own d) (h2:∀ s,z ≠ .obj s):gl (E.set i z):=by
 refine ⟨fun j d e=>?_,fun j s e=>?_⟩
 ·rw [D_] at e
  split at e
  ·split at e
   ·exact h1 d (DW e)
   ·cases e
  ·exact h.1 j d e
 ·rw [D_] at e
  split at e
  ·split at e
   ·exact h2 s (DW e)
   ·cases e
  ·exact h.2 j s e
structure Ok2 (i:Nat) (a:Addr) (B:Hp×Hp) (F H:Hp) (σ:St) (E:DE) (m:Dm):Prop where
 ok:Ok B F H σ E
 at_:E[i]? = some (ic a)
 no:gl E
 dol:∃ qs,H a=some (.dK (dv qs))∧F a=none∧B.2 a=none∧(a :: qs.map (·.2)).Nodup∧Lds B F H qs m
abbrev Fin:=Hp×Hp→Hp→d_→Out→Prop
def t2 (Φ:Fin) (i:Nat) (a:Addr) (G:DE→Dm→Option Out):TS:=fun Z σ H=>∃ B F E m r,Ok2 i a B F H σ E m∧G E m=some r∧Φ B F Z r
section
variable {X:Cx} {Φ:Fin}{i:Nat}{a:Addr}
def uO (G:Addr→Option Out):Option Out:=@dite _ (∃ r,∀ a,G a=some r) (Classical.propDecidable _) (fun h=>some (Classical.choose h)) fun _=>none
theorem zi {G:Addr→Option Out}{r:Out} (h:∀ a,G a=some r):uO G=some r:=by
 unfold uO
 have hx:∃ r,∀ a,G a=some r:=⟨r,h⟩
 rw [dif_pos hx]
 have:=Classical.choose_spec hx 0
 rw [h 0] at this
 exact this.symm
theorem uN {G:Addr→Option Out}{r:Out} (h:uO G=some r):∀ a,G a=some r:=by
 unfold uO at h
 by_cases hx:∃ r,∀ a,G a=some r
 ·rw [dif_pos hx] at h
  cases h
  exact Classical.choose_spec hx
 ·rw [dif_neg hx] at h; cases h
theorem Ok.set_raw {B:Hp×Hp}{F H:Hp} {σ:St}{E:DE} (k:Ok B F H σ E) (hn:gl E) (i:Nat) (c:Addr):Ok B F H (σ.set i (some (.ref c))) (E.set i (ic c)):=by
 have hl:=k.len
 have hn':gl (E.set i (ic c)):=hn.set i (by intro d e; cases e) (by intro d e; cases e)
 refine ⟨k.ent,by rw [El,El]; exact hl,fun j d h=>?_,fun j d h=>(hn'.1 j d h).elim,fun j l d e b _ h=>(hn'.1 j d h).elim,?_⟩
 ·rw [D_] at h
  split at h
  ·split at h
   ·cases h
   ·cases h
  ·rename_i hne
   rw [D2 hne]; exact k.val j d h
 ·obtain ⟨fp,q⟩:=k.ob
  refine ⟨fp,fun j s h=>(hn'.2 j s h).elim,fun j l s d b h=>(hn'.2 j s h).elim,fun j l s t _ h=>(hn'.2 j s h).elim,fun j s h=>?_⟩
  rw [D_] at h
  split at h
  ·rename_i hij
   subst hij
   split at h
   ·rename_i hlt
    cases h
    exact .inr ⟨rfl,c,rfl,by rw [FM (by omega)]⟩
   ·cases h
  ·rename_i hne
   rw [D2 hne]
   exact q.rob j s h
end
theorem v7 {E:DE} (h:∀ z ∈ E,(∀ d,z ≠ .own d)∧∀ s,z ≠ .obj s):gl E :=
 ⟨fun j d e=>(h _ (EU e)).1 d rfl,fun j s e=>(h _ (EU e)).2 s rfl⟩
def bkL (ns:List Str) (f:Str→D):List (Key×D):=ns.map fun n=>(Sum.inr n,f n)
def bk (ns:List Str) (f:Str→D):D:=.dic (bkL ns f)
def bm (ns:List Str) (f:Str→List D):Dm:=ns.map fun n=>(Sum.inr n,f n)
end L2.Cu
namespace L2
open PySem PySem.Spec PyProof.Rows
theorem k_ (its:List Value):slicePick its.toArray none none (some (-1))=its.reverse.toArray:=by
 unfold slicePick
 have e:sliceBounds none none (some (-1)) its.toArray.size=((its.length:Int) - 1,-1,-1):=rfl
 rw [e]
 have e2:sliceRange ((its.length:Int) - 1) (-1) (-1)=(List.range its.length).map fun k:Nat=>((its.length:Int) - 1 + (-1) * (k:Int)).toNat:=by
  unfold sliceRange
  dsimp only
  rw [if_neg (by decide)]
  congr 2
  by_cases h:((its.length:Int) - 1) > -1
  ·rw [if_pos h,show (its.length:Int) - 1 - -1 - -1 - 1=its.length by omega,show (-(-1):Int)=1 from rfl,Int.ediv_one]; omega
  ·rw [if_neg h]; omega
 show ((sliceRange ((its.length:Int) - 1) (-1) (-1)).filterMap _).toArray=_
 rw [e2,List.filterMap_map]
 have h:=vP its
 rw [DY] at h
 conv=>rhs; rw [← h]
 congr 1
 congr 1
 funext k
 show its.toArray[((its.length:Int) - 1 + (-1) * (k:Int)).toNat]? = its.toArray[((its.length:Int) - 1 + (k:Int) * (-1)).toNat]?
 rw [Int.mul_comm]
def zo (K:PySem.W.Frag) (te:TE) (ts:TO):TE:=fun σ H Q=>te σ H fun x H1=>ts σ H1 fun l H2=>∃ a xs,x=.ref a∧l=some (-1)∧SqL K H2 a xs∧∀ p,H2 p=none→Q (.ref p) (upd H2 p (.lst xs.reverse))
theorem yw {X:Cx}{e st:Expr}{te:TE}{ts:TO}{p2 pos:Pos} (he:PE X e te) (hst:PO X (some st) ts):PE X (.Subscript e (.Slice none none (some st) p2) pos) (zo X.K te ts):=by
 intro pins s σ H Q I h
 refine Subscript_ (thn (he pins s σ H _ I h) fun v s1 zz128_0=>?_)
 obtain ⟨x,H1,I1,r1,q1⟩:=zz128_0
 refine wpAny_Slice ?_
 rw [GP]
 refine DS (DS (thn (hst pins s1 σ H1 _ I1 q1) fun vs s2 zz129_0=>?_))
 obtain ⟨l,H2,I2,pl,q2⟩:=zz129_0
 obtain ⟨a,xs,rfl,rfl,hx,q⟩:=q2
 cases r1
 cases pl with
 | int i t =>
  have I4:Inv X pins σ H2 { s2 with heap:=s2.heap.push { cls:=.type "slice",data:=.fields #[.none,.none,.int (-1) t] } }:=I2.kept (t':=s2.toks) fun b ob q=>DQ _ q
  obtain ⟨its,r,ht,hz⟩:=I4.list hx
  show wpAny (model X.prog X.w) X.A (subscriptTail e (.Slice none none (some st) p2) (.ref a) (.ref s2.heap.objs.size)) (EP X pins σ Q) X.xe { s2 with heap:=s2.heap.push { cls:=.type "slice",data:=.fields #[.none,.none,.int (-1) t] } }
  refine tail_any (ops:=[.ref a,.ref s2.heap.objs.size]) ht.isList.typeIs slot_list_getitem.lookup (Gv ht.isList (GQ ..) .none .none (.int (-1) t) (by simp) ?_ (by rw [DY,← r.length]; exact hz)) (by with_unfolding_all rfl)
  rw [k_]
  exact ⟨.ref _,_,I4.laid (t':=s2.toks) (o:=.lst xs.reverse) (fun b ob q=>DQ _ q) (DZ _) ⟨by rw [GE]; exact hz,_,0,r.reverse,DX _ rfl⟩,rfl,q _ I4.fresh⟩
section
variable {X:Cx}{e:Expr}{p p2 pos pos2:Pos}{te:TE}
def xQ (K:PySem.W.Frag) (te:TE):TE:=fun σ H Q=>te σ H fun x H1=>∃ a ss,x=.ref a∧(SqL K H1 a (ss.map V.str)∨SqT K H1 a (ss.map V.str))∧ss.length + 1 < 4096∧Q (.int ((ded ss).length:Int)) H1
theorem tI (hc:X.calm=true) (hg:Gl X "len") (hm:X.mg "len" = none) (hv:bootBuiltins "len" = some (.builtin "len")) (hg2:Gl X "set") (hm2:X.mg "set" = none) (hv2:bootBuiltins "set" = some (.type "set")) (he:PE X e te)
  (hs:starEach [e] X.env=[(false,eval e X.env)]:=by rfl):PE X (.Call (.Name "len" p) [.Call (.Name "set" p2) [e] [] pos2] [] pos) (xQ X.K te):=by
 intro pins s σ H Q I h
 refine Fg (fX I hg hm hv ?_ (by decide) (by decide))
 refine PyProof.Rows.callWith_builtin1 ?_ rfl rfl
 show wpAny _ _ (spliced [(false,eval (.Call (.Name "set" p2) [e] [] pos2) X.env)]) _ _ s
 refine GR ?_
 refine Fg (fX I hg2 hm2 hv2 ?_ (by decide) (by decide))
 refine E9 ?_ hs rfl
 rw [hs]
 show wpAny _ _ (spliced [(false,eval e X.env)]) _ _ s
 refine GR (thn (he pins s σ H _ I h) fun u s1 ⟨x,H1,I1,r1,a,ss,ex,hq,hb,q⟩=>GT ?_)
 subst ex
 cases r1
 obtain ⟨T,o,its,n,ho,hcl,hd,hT,rv⟩:∃ T o its n,s1.heap.get? a=some o∧o.cls=.type T∧o.data=.seq (List.toArray its) n∧(T = "list"∨T = "tuple")∧aT (ss.map V.str) its:=by
  rcases hq with hq | hq
  ·obtain ⟨its,rv,pl,_⟩:=I1.list hq
   obtain ⟨o,n,e,c,hd,hdata⟩:=pl
   exact ⟨"list",o,its,_,e,c,hdata,.inl rfl,rv⟩
  ·obtain ⟨its,rv,⟨o,e,c,n,hd⟩,_⟩:=I1.tuple hq
   exact ⟨"tuple",o,its,n,e,c,hd,.inr rfl,rv⟩
 have hS:=iP rv
 have hl:=StrsAre.length hS
 refine uH (xs:=ss) (I1.ok.hd hc) ho hcl hd hT (fun i v hi=>?_) (by rw [DY,hl]) (by rw [DY,hl]; exact hb) fun h' tk hset kp=>?_
 ·have hi':its[i]? = some v:=by simpa using hi
  obtain ⟨y,t,e⟩:=hS.all v (EU hi')
  refine ⟨y,t,?_,e⟩
  rw [← hS.strs,EQ,hi',e]; rfl
 ·have kp':∀ b o,s1.heap.get? b=some o→h'.get? b=some o:=fun b o e=>kp b o (DV e) e
  have I2:Inv X pins σ H1 { s1 with heap:=h',toks:=tk }:=I1.kept kp'
  refine GT ?_
  obtain ⟨o',es,ep,t,z1,z2,z3,_,_,z6,z7,z8,_⟩:=hset
  refine call_len_set (s:={ s1 with heap:=h',toks:=tk }) z1 z2 z3 z7 (by rw [scanBound] at z6; omega) ?_
  rw [z8]
  exact ⟨.int _,H1,I2.tok _,⟨_,rfl⟩,q⟩
end
end L2
namespace L2.Cu
open PySem PySem.Spec PyProof.Rows
def kz (x:D):Option D:=(eO x).bind fun ds=>(fM ds).bind fun ss=>if ss.length + 1 < 4096 then some (.int ((ded ss).length:Int)) else none
theorem uw {X:Cx}{e:Expr}{f:DE→Option D}{p p2 pos pos2:Pos} (hc:X.calm=true) (hg:Gl X "len") (hm:X.mg "len" = none) (hv:bootBuiltins "len" = some (.builtin "len")) (hg2:Gl X "set") (hm2:X.mg "set" = none) (hv2:bootBuiltins "set" = some (.type "set"))
  (ha:Ev X .O e f) (he:be e=true:=by rfl):Ev X .V (.Call (.Name "len" p) [.Call (.Name "set" p2) [e] [] pos2] [] pos) (un kz f) :=
 PE.by (tI hc hg hm hv hg2 hm2 hv2 ha.h (aH e [] X.env he)) fun σ H Q zz131_0=>by
  obtain ⟨B,F,E,d,k,q,w⟩:=zz131_0
  unfold un at q
  obtain ⟨x,hf,q⟩:=Option.bind_eq_some_iff.mp q
  unfold kz at q
  obtain ⟨ds,h1,q⟩:=Option.bind_eq_some_iff.mp q
  obtain ⟨ss,h2,q⟩:=Option.bind_eq_some_iff.mp q
  split at q
  ·rename_i hz
   cases q
   refine ⟨B,F,E,x,k,hf,fun v F1 H1 x1 r1=>?_⟩
   obtain ⟨a,rfl,hq⟩:=vv (K:=X.K) x1.sub r1 h1 h2
   exact ⟨a,ss,rfl,hq,hz,w _ F1 _ x1 (.int _)⟩
  ·cases q
open L2 PySem PyProof
variable {X:Cx}
def yB (i j:Nat) (f:DE→Option (List D)) (E:DE):Option Out:=(f E).bind fun ds=>match ds with
 | [a,b]=>some (.nx ((E.set i (.val a)).set j (.val b)))
 | _=>none
theorem Bs {i j:Nat}{x y:Str}{a b:Expr}{f:DE→Option (List D)} {px py pt pos:Pos}{kt k2 pt2} (hN:X.N.Nodup) (hi:X.N[i]? = some x) (hj:X.N[j]? = some y) (hij:i ≠ j) (hx:X.env.scope.names.lookup x=some .local) (hy:X.env.scope.names.lookup y=some .local) (hc:X.calm=true) (ha:Ea X [a,b] f)
  (hw:swappedStores [.Tuple [.Name x px,.Name y py] kt pt] (.Tuple [a,b] k2 pt2) X.env=pure (some [x,y]):=by rfl)
  (hs:swapsWithSole [.Tuple [.Name x px,.Name y py] kt pt] (.Tuple [a,b] k2 pt2) pos.line X.env=pure false:=by rfl) :
  Es X (.Assign [.Tuple [.Name x px,.Name y py] kt pt] (.Tuple [a,b] k2 pt2) pos) (yB i j f):=PS.by (Ay hc hN hi hj hij hx hy ha.h hw hs) fun Z σ H zz132_0=>by
 obtain ⟨B,F,E,r,k,q,w⟩:=zz132_0
 unfold yB at q
 cases hf:f E with
 | none=>rw [hf] at q; cases q
 | some ds =>
  rw [hf,DC] at q
  match ds,q with
  | [d,e],q =>
   cases q
   refine ⟨B,F,E,[d,e],k,hf,fun vs F1 H1 x1 r1=>?_⟩
   cases r1 with
   | cons p r2 =>
    cases r2 with
    | cons p' r3 =>
     cases r3
     exact ⟨_,_,rfl,w _ F1 H1 (((k.ext x1).set_val p i).set_val p' j) x1.fr⟩
end L2.Cu
namespace L2
open PySem PySem.Spec PyProof PyProof.Rows
section
variable {X:Cx}{pos:Pos}
theorem iS {h:Heap}{a:Addr}{its:Array Value} (p:PlainL h a its):h.IsList a its:=by
 obtain ⟨o,n,h1,h2,_,h4⟩:=p
 exact ⟨o,h1,h2,n,h4⟩
theorem u9 {prog:Program}{w:World}{A:Around}{E:Value→Shared→Prop}{s:Shared}{l:Addr}{u1 u2:Value}{Q:List Value→Shared→Prop} (hh:A.handled=none) (hl:s.heap.IsList l #[u1,u2])
  (hQ:∀ h',Heap.ExtBut s.heap.objs.size s.heap h'→Q [u1,u2] { s with heap:=h' }):wpAny (model prog w) A (unpackItems (.ref l) 2 none) Q E s:=by
 have ne:l ≠ s.heap.objs.size:=by
  obtain ⟨o,ho,_⟩:=hl
  exact D5 (DV ho)
 have nx:∀ (h:Heap) (i:Nat) (x:Value) (Q:Option Value→Shared→Prop),h.IsListIter s.heap.objs.size l i→h.IsList l #[u1,u2]→(#[u1,u2]:Array Value)[i]? = some x →
   (∀ h',h'.IsListIter s.heap.objs.size l (i + 1)→h'.IsList l #[u1,u2]→Heap.ExtBut s.heap.objs.size h h'→Q (some x) { s with heap:=h' })→wpAny (model prog w) A (pyNext (.ref s.heap.objs.size)) Q E { s with heap:=h } :=
  fun h i x Q a b c d=>wpAny_pyNext_list_item a b c fun h' a' sb=>d h' a' (b.extBut sb.extBut ne) sb.extBut
 unfold unpackItems notIterableAtAll
 refine DP (DP (wpAny_specialOf hl.typeIs slot_list_iter.lookup (DS ?_)))
 rw [if_neg (by decide)]
 refine DP (EA (FA hl ?_))
 refine DP (EA ?_)
 show wpAny _ _ (pyNext (.ref s.heap.objs.size) >>= _) _ _ _
 refine DP (nx _ 0 u1 _ ⟨_,DX _ rfl,rfl,rfl⟩ (hl.push _) rfl fun h1 i1 l1 x1=>?_)
 refine DP (EA ?_)
 show wpAny _ _ (pyNext (.ref s.heap.objs.size) >>= _) _ _ _
 refine DP (nx h1 1 u2 _ i1 l1 rfl fun h2 i2 l2 x2=>?_)
 refine DP (EA (DS (DS (DS ?_))))
 rw [if_neg (by simp)]
 refine DP (EA (wpAny_pyNext_list_end hh i2 l2 rfl fun h3 x3=>?_))
 refine DS (hQ h3 fun b o hb e=>x3 b o hb (x2 b o hb (x1 b o hb (DQ _ e))))
def Ds (K:PySem.W.Frag) (t:TGs):TG:=fun v σ H Q=>∃ a x y,v=.ref a∧(SqL K H a [x,y]∨SqT K H a [x,y])∧t [x,y] σ H Q
theorem AC {es:List Expr}{k:Nat}{t:TGs} (hc:X.calm=true) (h:PGs X es t) (hn:(assignEach es X.env).length=2:=by rfl) (hst:(assignEach es X.env).findIdx? (·.1)=none:=by rfl):PG X (.Tuple es k pos) (Ds X.K t):=by
 intro pins s σ H v u Q I r hw
 obtain ⟨a,x,y,rfl,hq | hq,hw⟩:=hw
 ·cases r
  obtain ⟨its,rv,ht,_⟩:=I.list hq
  have rv':=rv
  cases rv with
  | @cons _ u1 _ _ p1 r2 =>
   cases r2 with
   | @cons _ u2 _ _ p2 r3 =>
    cases r3
    rw [assign_Tuple]
    refine DP (FP ?_)
    unfold unpack
    rw [hn,hst]
    refine DP (EA (u9 (I.ok.hd hc) (iS ht) fun h' hx=>?_))
    exact h pins _ σ H [x,y] _ Q (I.kept (t':=s.toks) fun b o e=>hx b o (D5 (DV e)) e) rv' hw
 ·exact vS hc h hn hst pins s σ H _ u Q I r ⟨a,[x,y],rfl,hq,rfl,hw⟩
end
end L2
namespace L2.Cu
open PySem PySem.Spec PyProof.Rows
def xM (gs:List D→DE→Option DE) (d:D) (E:DE):Option DE:=match d with
 | .tup [a,b]=>gs [a,b] E
 | .lst [a,b]=>gs [a,b] E
 | _=>none
theorem Bw {X:Cx}{pos:Pos}{es:List Expr}{kk:Nat}{gs:List D→DE→Option DE} (hc:X.calm=true) (h:Egs X es gs) (hn:(assignEach es X.env).length=2:=by rfl) (hst:(assignEach es X.env).findIdx? (·.1)=none:=by rfl) :
  Eg X (.Tuple es kk pos) (xM gs):=PG.by (AC hc h.h hn hst) fun v σ H Q zz133_0=>by
 obtain ⟨B,F,E,d,E',k,r,q,w⟩:=zz133_0
 unfold xM at q
 split at q
 ·rename_i a b
  cases r with
  | @tup p vs _ e rs =>
   have rs':=rs
   cases rs with
   | cons p1 r2 =>
    cases r2 with
    | cons p2 r3 =>
     cases r3
     exact ⟨p,_,_,rfl,.inr (SqT.of (k.sub _ _ e)),B,F,E,[a,b],E',k,rs',q,w⟩
 ·rename_i a b
  obtain ⟨p,vs,rfl,hp,rs⟩:=OB.lst k.sub (.inl r)
  have rs':=rs
  cases rs with
  | cons p1 r2 =>
   cases r2 with
   | cons p2 r3 =>
    cases r3
    exact ⟨p,_,_,rfl,.inl (SqL.of hp),B,F,E,[a,b],E',k,rs',q,w⟩
 ·cases q
def fP (x:D):Bool:=dH x || match x with
 | .dic ds=>ds.all (fun p=>dH p.2) && ds.all (o9 ds)
 | _=>false
open Classical in
def neL (x y:D):Option D:=if x=y∧∃ xs,x=.lst xs∧xs.all fP=true then some (.bl false) else none
section
variable {P:Program}{w:World}
def gQ (P:Program) (w:World) (A:Around) (s:Shared) (u z:Value):Prop:=∀ (E:Value→Shared→Prop) (Q:Bool→Shared→Prop),Q true s→wpAny (model P w) A (eqBool u z) Q E s
theorem gQ.of {A:Around}{s:Shared}{u z:Value} (h:SeqAt.EqAt A s u z true):gQ P w A s u z:=h P w
theorem gQ.refs {A:Around}{s:Shared}{a c:Addr} (hne:a ≠ c) (h:∀ (E:Value→Shared→Prop) (Q:Value→Shared→Prop),Q (.bool true) s→wpAny (model P w) A (richCompare .Eq (.ref a) (.ref c)) Q E s):gQ P w A s (.ref a) (.ref c):=fun E Q q=>by
 unfold eqBool
 refine EA ?_
 have hb:¬ ((Value.ref a == Value.ref c)=true):=fun z=>hne (by simpa using z)
 rw [if_neg hb]
 exact DP (h _ _ (Fd q))
theorem kr {l b:Addr}{xs ys:Array Value}{n m:Nat}{dl db:Option Addr}{sl sb:Array (Option Value)} (hz:xs.size=ys.size):∀ (k i:Nat),xs.size - i=k →
  MeetsIn P w (Builtin.«list.__eq__.loop» ⟨[.ref l,.ref b,rawInt i,rawInt 3],[]⟩) fun A R s=>(s.heap.get? l=some { cls:=.type "list",dict:=dl,data:=.seq xs n,slots:=sl }∧s.heap.get? b=some { cls:=.type "list",dict:=db,data:=.seq ys m,slots:=sb }) ∧
   (∀ j (h1:j < xs.size) (h2:j < ys.size),gQ P w A.in1 s xs[j] ys[j])∧R (.ok (.ret (.bool false))) s
 | 0,i,hk=>fun A R s h=>by
  obtain ⟨hp,g,d,tk,os⟩:=s
  obtain ⟨⟨hl,hb⟩,_,h⟩:=h
  wp_walk using Ef hl,Ef hb
  rw [show xs[((i:Nat):Int).toNat]? = none by simp; omega]
  wp_walk using Ef hl,Ef hb
  show R (.ok (.ret (.bool (xs.size != ys.size)))) _
  rw [hz,bne_self_eq_false]; exact h
 | k + 1,i,hk=>fun A R s h=>by
  obtain ⟨hp,g,d,tk,os⟩:=s
  obtain ⟨⟨hl,hb⟩,ha,h⟩:=h
  have j1:i < xs.size:=by omega
  have j2:i < ys.size:=by omega
  wp_walk using Ef hl,Ef hb
  rw [show xs[((i:Nat):Int).toNat]? = some xs[i] by simp [j1],show ys[((i:Nat):Int).toNat]? = some ys[i] by simp [j2]]
  refine DP (ha i j1 j2 _ _ ?_)
  wp_walk
  rw [show ((i:Int) + 1)=((i + 1:Nat):Int) by push_cast; rfl]
  exact ⟨FR FV _,EV MeetsSeq3.entry_eq_loop (by
   rw [E8 FV _]
   exact kr hz k (i + 1) (by omega) A R _ ⟨⟨hl,hb⟩,ha,h⟩)⟩
theorem wa {A:Around}{E:Value→Shared→Prop}{s:Shared}{a b:Addr}{xs ys:Array Value}{Q:Value→Shared→Prop} (hl:s.heap.IsList a xs) (hb:s.heap.IsList b ys) (hz:xs.size=ys.size) (hu:A.units < cLine)
  (ha:∀ j (h1:j < xs.size) (h2:j < ys.size),gQ P w A.in1 s xs[j] ys[j]) (q:Q (.bool false) s):wpAny (model P w) A (compareOp .NotEq (.ref a) (.ref b)) Q E s:=by
 refine wpAny_richCompare_same_room (op:=.NotEq) hl.typeIs hb.typeIs PySem.F.slot_list_ne (call_meetsIn (S:=fun A R s=>(s.heap.IsList a xs∧s.heap.IsList b ys)∧(∀ j (h1:j < xs.size) (h2:j < ys.size),gQ P w A.in1 s xs[j] ys[j])∧R (.ok (.ret (.bool false))) s) PySem.F.slot_list_ne hl.typeIs PySem.F.entry_list_ne (PySem.F.args_list_ne_2 _ _) (fun A R s h=>?_) ⟨⟨hl,hb⟩,ha,(fun x=>nomatch x),q⟩) hu
 obtain ⟨hp,g,d,tk,os⟩:=s
 obtain ⟨⟨⟨⟨c1,d1,e1,f1⟩,o1,rfl,n,z1⟩,⟨c2,d2,e2,f2⟩,o2,rfl,m,z2⟩,ha,h⟩:=h
 simp only at z1 z2
 subst z1 z2
 have f3:=AutoSeq1.sub_list_list
 have hne:¬ (xs.size != ys.size)=true:=by simp [hz]
 wp_walk using Ef o1,Ef o2
 exact ⟨FR FV _,EV MeetsSeq3.entry_eq_loop (by
  rw [E8 FV _]
  exact kr hz _ 0 rfl A R _ ⟨⟨o1,o2⟩,ha,h⟩)⟩
end
section
variable {X:Cx}{pins:List (Addr×Obj)} {σ:St}{F H:Hp}{s:Shared}
theorem uy {A:Around} (I:Inv X pins σ H s) (hs:∀ a o,F a=some o→H a=some o) (hu:A.units + 63 < cLine) {v w:V}{x:D}{u z:Value} (h:fP x=true) (rv:Rep F v x) (rw:Rep F w x) (qv:aX v u) (qw:aX w z):gQ X.prog X.w A s u z:=by
 unfold fP at h
 rcases Bool.or_eq_true_iff.mp h with h | h
 ·obtain ⟨a1,a2⟩:=Bool.and_eq_true_iff.mp h
  have a2':(toP x).depth≤60:=EO a2
  obtain ⟨as,ra⟩:=Rep.reads I hs rv qv a1
  obtain ⟨bs,rb⟩:=Rep.reads I hs rw qw a1
  have e:=SeqAt.eqAt_reads (toP x) (toP x) A s u z as bs ra rb a1 a1 (by omega)
  rw [SeqAt.eqv_refl _ a1] at e
  exact .of e
 ·cases x with
  | dic ds =>
   obtain ⟨h1,h2⟩:=Bool.and_eq_true_iff.mp h
   have h1':=List.all_eq_true.mp h1
   obtain ⟨a,vs,rfl,ha,r1⟩:=OB.dic hs (.inl rv)
   obtain ⟨c,ws,rfl,hc,r2⟩:=OB.dic hs (.inl rw)
   cases qv
   cases qw
   obtain ⟨_,da,ka,q1,d1⟩:=iA I.hok ha
   obtain ⟨_,db,kb,q2,d2⟩:=iA I.hok hc
   by_cases hne:a=c
   ·subst hne; exact .of (SeqAt.EqAt.same _)
   ·refine gQ.refs hne fun E Q hq=>?_
    have hh:=hits I hs (A:=A.in1) (show A.units + 1 + 62 < cLine by omega) r2 q2 h1' r1 q1 h1'
    refine PySem.W.keq_eq (knd:=bP X.prog X.w) da db d1 d2 (by omega) (fun _=>hh) ?_
    rw [← q1.length,← q2.length,r1.length,r2.length,h2,Ed]
    exact hq
  | _=>cases h
def Ce (u:Nat):R2:=fun v w H Q=>∃ F xs,(∀ a o,F a=some o→H a=some o)∧OB F H v (.lst xs)∧OB F H w (.lst xs)∧xs.all fP=true∧u + 64 < cLine∧Q (.bl false) H
theorem AO:OpR X (compareOp .NotEq) (Ce X.A.units):=by
 intro pins s σ H v w u z Q I rv rw h
 obtain ⟨F,xs,hs,ox,oy,ok,hu,q⟩:=h
 obtain ⟨a,vs,rfl,ha,r1⟩:=OB.lst hs ox
 obtain ⟨c,ws,rfl,hc,r2⟩:=OB.lst hs oy
 cases rv
 cases rw
 obtain ⟨its,q1,p1,_⟩:=I.list (SqL.of ha)
 obtain ⟨jts,q2,p2,_⟩:=I.list (SqL.of hc)
 have l1:its.length=xs.length:=by rw [← q1.length,r1.length]
 have l2:jts.length=xs.length:=by rw [← q2.length,r2.length]
 have alike:∀ j (h1:j < its.toArray.size) (h2:j < jts.toArray.size),gQ X.prog X.w X.A.in1 s its.toArray[j] jts.toArray[j]:=fun j h1 h2=>by
  have hj:j < xs.length:=by rw [← l1]; simpa using h1
  obtain ⟨v1,g1,k1⟩:=r1.get (DT hj)
  obtain ⟨v2,g2,k2⟩:=r2.get (DT hj)
  obtain ⟨u1,f1,m1⟩:=q1.get g1
  obtain ⟨u2,f2,m2⟩:=q2.get g2
  have n1:its.toArray[j]=u1:=by
   obtain ⟨_,e⟩:=List.getElem?_eq_some_iff.mp f1
   rw [List.getElem_toArray]; exact e
  have n2:jts.toArray[j]=u2:=by
   obtain ⟨_,e⟩:=List.getElem?_eq_some_iff.mp f2
   rw [List.getElem_toArray]; exact e
  rw [n1,n2]
  exact uy I hs (show X.A.units + 1 + 63 < cLine by omega) (List.all_eq_true.mp ok _ (EI hj)) k1 k2 m1 m2
 exact wa (iS p1) (iS p2) (by simp [l1,l2]) (by omega) alike ⟨.bl _,H,I,rfl,q⟩
theorem Ag (u:Nat) (hu:u + 64 < cLine):dP .V (Ce u) neL:=fun F H v w x y d Q s rx ry h q=>by
 unfold neL at h
 split at h
 ·rename_i hc
  obtain ⟨rfl,xs,rfl,ok⟩:=hc
  cases h
  exact ⟨F,xs,s,rx,ry,ok,hu,q _ F H (Ext.refl s) (.bl _)⟩
 ·cases h
theorem Bq {a b:Expr}{f g:DE→Option D}{pos:Pos} (hr:X.A.units + 64 < cLine) (ha:Ev X .O a f) (hb:Ev X .O b g):Et X (.Compare a [.NotEq] [b] pos) (tst (bin neL f g)):=kM AO (Ag _ hr) ha hb (d4 _)
end
end L2.Cu
namespace L2
open PySem PySem.Spec PyProof.Rows
theorem lb (its:List Value):slicePick its.toArray none none (some 1)=its.toArray:=(show slicePick its.toArray none none (some 1)=slicePick its.toArray none none none from rfl).trans (slicePick_all _)
def BQ (K:PySem.W.Frag) (te:TE) (ts:TO):TE:=fun σ H Q=>zo K te ts σ H Q∨te σ H fun x H1=>ts σ H1 fun l H2=>∃ a xs,x=.ref a∧l=some 1∧SqL K H2 a xs∧∀ p,H2 p=none→Q (.ref p) (upd H2 p (.lst xs))
theorem yv {X:Cx}{e st:Expr}{te:TE}{ts:TO}{p2 pos:Pos} (he:PE X e te) (hst:PO X (some st) ts):PE X (.Subscript e (.Slice none none (some st) p2) pos) (BQ X.K te ts):=by
 intro pins s σ H Q I h
 rcases h with h | h
 ·exact yw he hst pins s σ H Q I h
 refine Subscript_ (thn (he pins s σ H _ I h) fun v s1 zz134_0=>?_)
 obtain ⟨x,H1,I1,r1,q1⟩:=zz134_0
 refine wpAny_Slice ?_
 rw [GP]
 refine DS (DS (thn (hst pins s1 σ H1 _ I1 q1) fun vs s2 zz135_0=>?_))
 obtain ⟨l,H2,I2,pl,q2⟩:=zz135_0
 obtain ⟨a,xs,rfl,rfl,hx,q⟩:=q2
 cases r1
 cases pl with
 | int i t =>
  have I4:Inv X pins σ H2 { s2 with heap:=s2.heap.push { cls:=.type "slice",data:=.fields #[.none,.none,.int 1 t] } }:=I2.kept (t':=s2.toks) fun b ob q=>DQ _ q
  obtain ⟨its,r,ht,hz⟩:=I4.list hx
  show wpAny (model X.prog X.w) X.A (subscriptTail e (.Slice none none (some st) p2) (.ref a) (.ref s2.heap.objs.size)) (EP X pins σ Q) X.xe { s2 with heap:=s2.heap.push { cls:=.type "slice",data:=.fields #[.none,.none,.int 1 t] } }
  refine tail_any (ops:=[.ref a,.ref s2.heap.objs.size]) ht.isList.typeIs slot_list_getitem.lookup (Gv ht.isList (GQ ..) .none .none (.int 1 t) (by simp) ?_ (by rw [DY,← r.length]; exact hz)) (by with_unfolding_all rfl)
  rw [lb]
  exact ⟨.ref _,_,I4.laid (t':=s2.toks) (o:=.lst xs) (fun b ob q=>DQ _ q) (DZ _) ⟨hz,_,0,r,DX _ rfl⟩,rfl,q _ I4.fresh⟩
end L2
namespace L2.Cu
open PySem PySem.Spec PyProof.Rows
def lx (x y:D):Option D:=match x,y with
 | .lst z,.int n=>if n = -1 then some (.lst z.reverse) else if n=1 then some (.lst z) else none
 | _,_=>none
theorem sg {X:Cx}{e st:Expr}{f g:DE→Option D}{p2 pos:Pos} (ha:Ev X .O e f) (hb:Ev X .V st g):Ev X .V (.Subscript e (.Slice none none (some st) p2) pos) (bin lx f g) :=
 PE.by (yv ha.h (rN hb.h)) fun σ H Q zz136_0=>by
  obtain ⟨B,F,E,d,k,q,w⟩:=zz136_0
  unfold bin at q
  obtain ⟨x,h1,q⟩:=Option.bind_eq_some_iff.mp q
  obtain ⟨y,h2,q⟩:=Option.bind_eq_some_iff.mp q
  match x,y,q with
  | .lst z,.int n,q =>
   have q':(if n = -1 then some (D.lst z.reverse) else if n=1 then some (D.lst z) else none)=some d:=q
   split at q'
   ·rename_i hn
    subst hn
    cases q'
    refine .inl ⟨B,F,E,.lst z,k,h1,fun v F1 H1 x1 r1=>⟨B,F1,E,.int (-1),k.ext x1,h2,fun v2 F2 H2 x2 r2=>?_⟩⟩
    obtain ⟨p,vs,rfl,hp,rp⟩:=(OB.ext x2 r1:OB F2 H2 v (.lst z)).lst x2.sub
    refine ⟨-1,?_,p,vs,rfl,rfl,SqL.of hp,fun c hc=>?_⟩
    ·cases r2; rfl
    ·have x3:=Ext.freeze (o:=HO.lst vs.reverse) x2.sub hc
     exact w _ _ _ ((x1.trans x2).trans x3) (.lst ar (rp.reverse.mono x3.fr))
   ·split at q'
    ·rename_i hn
     subst hn
     cases q'
     refine .inr ⟨B,F,E,.lst z,k,h1,fun v F1 H1 x1 r1=>⟨B,F1,E,.int 1,k.ext x1,h2,fun v2 F2 H2 x2 r2=>?_⟩⟩
     obtain ⟨p,vs,rfl,hp,rp⟩:=(OB.ext x2 r1:OB F2 H2 v (.lst z)).lst x2.sub
     refine ⟨1,?_,p,vs,rfl,rfl,SqL.of hp,fun c hc=>?_⟩
     ·cases r2; rfl
     ·have x3:=Ext.freeze (o:=HO.lst vs) x2.sub hc
      exact w _ _ _ ((x1.trans x2).trans x3) (.lst ar (rp.mono x3.fr))
    ·cases q'
open PySem PySem.W PySem.Calls PyProof.Rows PySem.Spec Att
theorem BD (P:Params):((boot_heap P).isNs mainGlobals,(boot_heap P).objs.size,(boot_heap P).nsMap mainGlobals "__annotations__")=(true,11,some (.ref 6)):=by kernel_rfl
abbrev qV (p q:Program) (loose:List Str) (Xt:Shared→Bool) {α:Type} (Yf:Shared→α) (a:α) (N:Nat):Prop:=∀ (w:World) (os:OsState),
 (PySem.W.Fast.tw14082659384304107361 PySem.W.Fast.tw14364793385576792824 p w 11 (some (.ref 6)) N ⟨boot_heap w.params,Array.mk [],boot_drawn,boot_toks,os⟩ (topStub p)).map
  (fun s=>(staticsOk (importedModules p.main.body) (boot_heap w.params) s.heap && namesBound p s.heap && gensDone s && laidKept (boot_heap w.params) s.heap,
   PySem.W.Fast.tw4187177175401517315 q loose (importedModules p.main.body) Xt true s,Yf s))=some (true,openGood q loose,a)
theorem yP {p q:Program}{loose:List Str}{Xt:Shared→Bool} {α:Type}{Yf:Shared→α}{a:α}{N:Nat} (e:opening p=plainProg p.main.scope.names) (hN:Nat.ble 600 N=true) (f:∀ s,fenceModules? p s=some s)
  (h:qV p q loose Xt Yf a N):LeftO p q loose Xt Yf (fun _=>a) N:=fun w=>by
 obtain ⟨⟨hp,gs,d,k,os⟩,e1,e2⟩:=Option.map_eq_some_iff.mp (boot_open e hN f w)
 obtain ⟨rfl,rfl,rfl,rfl⟩:hp=boot_heap w.params∧gs=Array.mk []∧d=boot_drawn∧k=boot_toks:=by simpa using e2
 obtain ⟨s,r1,r2⟩:=Option.map_eq_some_iff.mp (h w os)
 rw [← PySem.W.Fast.te14082659384304107361,← PySem.W.Fast.te14364793385576792824] at r1
 rw [← PySem.W.Fast.te4187177175401517315] at r2
 obtain ⟨b1,b2⟩:=E4 (BD w.params)
 obtain ⟨b2,b3⟩:=E4 b2
 obtain ⟨c1,c2⟩:=E4 r2
 have t:topFrom treeTable p w N ⟨boot_heap w.params,Array.mk [],boot_drawn,boot_toks,os⟩=some s:=by
  unfold topFrom
  dsimp only
  rw [b1,b2,b3,r1]
  show (match staticsOk (importedModules p.main.body) (boot_heap w.params) s.heap && namesBound p s.heap && gensDone s && laidKept (boot_heap w.params) s.heap with | true=>some s | false=>none)=_
  rw [c1]
 unfold openEnds
 rw [e1]
 show (topFrom treeTable p w N _).map _=_
 rw [t]
 exact ER some c2
def KH (h:Heap):Frag:=(List.range h.objs.size).filterMap fun a=>match h.get? a with
 | some o=>if o.cls == Value.type "list" then none else some (a,o)
 | none=>none
theorem wu {K:Frag}{a:Addr}{o:Obj}:K.lookup a=some o→(a,o) ∈ K:=by
 induction K with
 | nil=>intro e; cases e
 | cons p r ih =>
  intro e
  obtain ⟨b,x⟩:=p
  rw [EM] at e
  cases hb:a == b with
  | true=>rw [hb] at e; cases e; rw [beq_iff_eq.mp hb]; exact .head _
  | false=>rw [hb] at e; exact .tail _ (ih e)
theorem wk {h:Heap}{a:Addr}{o:Obj} (m:(a,o) ∈ KH h):h.get? a=some o∧o.cls ≠ Value.type "list" := by
 obtain ⟨b,_,e⟩:=List.mem_filterMap.mp m
 cases hb:h.get? b with
 | none=>rw [hb] at e; cases e
 | some x =>
  rw [hb] at e
  dsimp only at e
  by_cases hc:(x.cls == Value.type "list")=true
  ·rw [if_pos hc] at e; cases e
  ·rw [if_neg hc] at e; cases e; exact ⟨hb,fun q=>hc (beq_iff_eq.mpr q)⟩
theorem C5 (h:Heap):(KH h).In h:=fun _ _ e=>(wk (wu e)).1
theorem uW (h:Heap):mW (KH h)=true:=List.all_eq_true.mpr fun p m=>by
 have:=(wk (a:=p.1) (o:=p.2) m).2
 simpa using this
def cG (s:Stmt):Str:=match s with
 | .FunctionDef n _ _ _ _ _ _ _ _ _=>n
 | _ => ""
abbrev de (p:Program) (i:Nat):Stmt:=p.main.body.getD i (.Pass ⟨0,0,0,0⟩)
def zO (fd:FuncData):FuncData:={ fd with kwdefaults:=.none,doc:=.none,pyModule:=.none,annotations:=none,code:=.none,closureTuple:=.none }
def yY (K:Frag) (qual:Str) (f:Addr):Option (FuncData×Bool×Bool):=match K.lookup f with
 | some ⟨_,_,.func fd,_⟩=>some (zO fd,codeIn K fd.code qual,keepIn K (.ref f))
 | _=>none
def wO (K:Frag) (st:Stmt):Option (FuncData×Bool×Bool):=match nsIn K mainGlobals (cG st) with
 | some (some (.ref f))=>yY K (cG st) f
 | _=>none
abbrev wP (x qual:Str) (st:Stmt):Option (FuncData×Bool×Bool):=some (fnOf x qual (jN st) (dO st) (ak st) .none .none .none .none none .none .none,true,true)
def BP:Option (Option Value)→Option (Option Value)
 | some (some (.int n _))=>some (some (.int n 0))
 | x=>x
theorem zM {K:Frag}{x qual:Str}{st:Stmt}{f:Addr} (e:yY K qual f=wP x qual st):∃ fd,Fun K x qual st f fd:=by
 unfold yY at e
 split at e
 ·rename_i oc od fd sl hl
  obtain ⟨e1,e2⟩:=E4 (DW e)
  obtain ⟨e2,e3⟩:=E4 e2
  refine ⟨fd,⟨oc,od,fd.kwdefaults,fd.doc,fd.pyModule,fd.annotations,fd.code,fd.closureTuple,sl,?_,hl,e2⟩,e3⟩
  cases fd
  simp only [zO,FuncData.mk.injEq,GB] at e1 ⊢
  exact e1
 ·cases e
structure TT (p:Program) (ds:List Nat) (zs:List Str) (cs:List (Str×Int)) {β:Type} (mo:Frag→β) (mb:β) (K:Frag) (mg:Str→Option Value) where
 f:Nat→Addr
 fd:Nat→FuncData
 F:∀ i,i ∈ ds→Fun K (cG (de p i)) (cG (de p i)) (de p i) (f i) (fd i)
 m:∀ i,i ∈ ds→mg (cG (de p i))=some (.ref (f i))
 z:∀ x,x ∈ zs→mg x=none
 t:Str→Tok
 c:∀ y,y ∈ cs→mg y.1=some (.int y.2 (t y.1))
 o:mo K=mb
 g:∀ (x:Str) (v:Value),nsIn K mainGlobals x=some (some v)→mg x=some v
abbrev iu (p:Program) (ds:List Nat) (zs:List Str) (cs:List (Str×Int)) {β:Type} (mo:Frag→β) (K:Frag):=(ds.map fun i=>wO K (de p i),zs.map (nsIn K mainGlobals),(cs.map fun c=>BP (nsIn K mainGlobals c.1)),mo K)
abbrev pq (p:Program) (ds:List Nat) (zs:List Str) (cs:List (Str×Int)) {β:Type} (mb:β):=((ds.map fun i=>wP (cG (de p i)) (cG (de p i)) (de p i)),(zs.map fun _=>some none:List (Option (Option Value))),(cs.map fun c=>(some (some (.int c.2 0)):Option (Option Value))),mb)
theorem BO {p:Program}{ds:List Nat}{zs:List Str}{cs:List (Str×Int)} {β:Type}{mo:Frag→β}{mb:β}{K:Frag}{h:Heap}{mg:Str→Option Value} (X:K.In h) (G:h.Ns mainGlobals mg) (e:iu p ds zs cs mo K=pq p ds zs cs mb):Nonempty (TT p ds zs cs mo mb K mg):=by
 obtain ⟨e1,e⟩:=E4 e
 obtain ⟨e2,e⟩:=E4 e
 obtain ⟨e3,e4⟩:=E4 e
 have A:∀ i,∃ f fd,i ∈ ds→Fun K (cG (de p i)) (cG (de p i)) (de p i) f fd∧mg (cG (de p i))=some (.ref f):=fun i=>by
  by_cases hi:i ∈ ds
  ·have q:=List.map_inj_left.mp e1 i hi
   unfold wO at q
   split at q
   ·rename_i f hf
    obtain ⟨fd,r⟩:=zM q
    exact ⟨f,fd,fun _=>⟨r,mg_of X G hf⟩⟩
   ·cases q
  ·exact ⟨0,default,fun q=>absurd q hi⟩
 have B:∀ x,∃ t,∀ n,(x,n) ∈ cs→mg x=some (.int n t):=fun x=>by
  by_cases hx:∃ n,(x,n) ∈ cs
  ·obtain ⟨n,hn⟩:=hx
   have q:=List.map_inj_left.mp e3 _ hn
   dsimp only at q
   have u:∃ n' t,nsIn K mainGlobals x=some (some (.int n' t)):=by
    unfold BP at q
    split at q
    ·rename_i n' t hh; exact ⟨n',t,hh⟩
    ·rename_i hh; exact absurd q (hh n 0)
   obtain ⟨n',t,hh⟩:=u
   refine ⟨t,fun n₂ h₂=>?_⟩
   have q₂:=List.map_inj_left.mp e3 _ h₂
   dsimp only at q₂
   rw [hh] at q₂
   have z:=DW (DW q₂)
   injection z with z
   subst z
   exact mg_of X G hh
  ·exact ⟨0,fun n hn=>absurd ⟨n,hn⟩ hx⟩
 exact ⟨⟨fun i=>(A i).choose,fun i=>(A i).choose_spec.choose,fun i hi=>((A i).choose_spec.choose_spec hi).1,fun i hi=>((A i).choose_spec.choose_spec hi).2,
  fun x hx=>mg_none_of X G (List.map_inj_left.mp e2 x hx),fun x=>(B x).choose,fun y hy=>(B y.1).choose_spec y.2 hy,e4,fun x v q=>mg_of X G q⟩⟩
theorem BM {l:OpenLaw}{n k:Nat}{q:Program}{loose:List Str}{XP:(Str→Option Value)→Heap→Prop}{YP:World→Heap→Prop}{d:DefRec}{x:Str}{g:List D→Option D}
  (hn:l.most=some n) (hn2:n≤sizeLine) (hdf:d.params.defaults=[]) (hr:cW k callerA)
  (F:∀ (w:World) (mg:Str→Option Value) (fa:Addr) (h:Heap),YP w h→h.Ns mainGlobals mg→mg d.name=some (.ref fa)→∃ K:Frag,K.In h∧mW K=true ∧
   ∃ fd:FuncData,(∀ (s:Shared) (u:Value),BindsTo s fd ⟨[u],[]⟩ [(x,u)])∧∀ base:Heap,K.In base→base.Ns mainGlobals mg→br l.prog w K mg base CX0 k fa fd [x] (spD 1 g))
  (law:∀ ns:List Int,ns.length≤n→(∀ i ∈ ns,Builtin.Int.intBits i≤2 ^ 20)→g [.scr ns]=some (.bl true)):WalkO q loose XP YP l.row.toRowW d [] (fun f vs=>PySem.call f vs):=by
 intro w s₀ s₁ mg mb G Y fa o pm cd doc dV kV ho hd hcd hD hmg hg args vals as hpre hlay hrd hwl hlo
 obtain rfl:dV=.none:=Dflts.none hD hdf
 obtain rfl:kV=.none:=Dflts.noKw hD
 obtain ⟨a,vs,ns,rfl,rfl,hobj,hints,hlen⟩:=sZ hn hpre hwl
 obtain ⟨K,KX,hK,fd,hb,hF⟩:=F w mg fa _ Y G.T.g hmg
 have run:=wz (CX:=CX0) (sp:=spD 1 g) KX G.T.g G.T.b G.T.builtins G.T.nolimit hg hobj hints (D1 hlen hn2) hr hF hb
  (fun H hO hS=>A1 (fun o ho=>oq hK ho) hS hO (law ns hlen (zf hlay))) fun _ _ _ z=>z
 refine enter_call (Fw run fun r s' hq=>?_)
 obtain ⟨rfl,h2,h3,h4⟩:=hq
 exact ⟨.inl ⟨.bool true,.bool true,[],rfl,fun _=>rfl,.bool true,tF l _,fun _=>⟨List.Pairwise.nil,fun _ hm=>(nomatch hm)⟩⟩,h2,h3,h4⟩
abbrev gV (p:Program):List Str:=(p.main.scope.names.map (·.1)).filter fun x => !(x == ("law" : Str))
theorem Cv {l:OpenLaw}{n k i N:Nat}{x:Str}{g:List D→Option D}{ds:List Nat}{zs:List Str}{cs:List (Str×Int)} {β:Type}{mo:Frag→β}{mb:β}{d:DefRec}
  (run:qV l.prog (view l.prog [i]) (gV l.prog) (fun s=>xlAt (view l.prog [i]) [] s && recOk [] s) (fun s=>iu l.prog ds zs cs mo (KH s.heap)) (pq l.prog ds zs cs mb) N)
  (said:PySem.W.Fast.tw9446332074065402090 l=true) (e:opening l.prog=plainProg l.prog.main.scope.names) (hN:Nat.ble 600 N=true) (f:∀ s,fenceModules? l.prog s=some s)
  (hdef:defOf (view l.prog [i]) l.name=some (d,[])) (hp:l.prog.theDef l.name=some (d.params,d.body,d.scope)) (hk:kwWritten? d.params.kwonlyargs d.params.kw_defaults=some [])
  (ok:(chainsOk (view l.prog [i]) && opensWell l.prog && (frees l.row.toRowW && l.row.within.isEmpty))=true) (hb:l.prog.bare) (hw:l.row.toRowW.promised)
  (hn:l.most=some n) (hn2:n≤sizeLine) (hdf:d.params.defaults=[]) (hr:cW k callerA) (hnm:d.name=cG (de l.prog i)) (hi:i ∈ ds)
  (F:∀ {w:World}{K:Frag}{mg:Str→Option Value} (T:TT l.prog ds zs cs mo mb K mg) (base:Heap),K.In base→base.Ns mainGlobals mg→br l.prog w K mg base CX0 k (T.f i) (T.fd i) [x] (spD 1 g))
  (B:∀ (kV doc pm:Value) (an:Option Addr) (cdv ct:Value) (u:Value),bindArgs (fnOf (cG (de l.prog i)) (cG (de l.prog i)) (jN (de l.prog i)) (dO (de l.prog i)) (ak (de l.prog i)) .none kV doc pm an cdv ct) ⟨[u],[]⟩=pure [(x,u)])
  (law:∀ ns:List Int,ns.length≤n→(∀ i ∈ ns,Builtin.Int.intBits i≤2 ^ 20)→g [.scr ns]=some (.bl true)):l.Holds:=by
 have sd:l.wellSaid=true:=by rw [PySem.W.Fast.te9446332074065402090]; exact said
 refine holds_law sd fun k1=>holds_open (q:=view l.prog [i]) (loose:=gV l.prog) (Xt:=fun s=>xlAt (view l.prog [i]) [] s && recOk [] s) (XP:=XL (view l.prog [i]) []) (Yf:=fun s=>iu l.prog ds zs cs mo (KH s.heap)) (Ya:=fun _=>pq l.prog ds zs cs mb)
  (YP:=fun _ h=>∃ K:Frag,K.In h∧mW K=true∧iu l.prog ds zs cs mo K=pq l.prog ds zs cs mb) (N:=N) (d:=d) (kwd:=[])
  (yP e hN f run) (fun w s y=>⟨KH s.heap,C5 _,uW _,y⟩) (fun w h h' y kp=>?_) (fun s q=>xl_of s (Bool.and_eq_true_iff.mp q).1) XL.keeps hdef hp hk (fun s q=>recFacts_of (Bool.and_eq_true_iff.mp q).2) (GA _) k1 ok hb hw ?_
 ·obtain ⟨K,a,b,c⟩:=y
  exact ⟨K,a.keeps kp,b,c⟩
 ·refine BM (x:=x) hn hn2 hdf hr (fun w mg fa h Y G hm=>?_) law
  obtain ⟨K,a,b,c⟩:=Y
  obtain ⟨T⟩:=BO (mg:=mg) a G c
  refine ⟨K,a,b,T.fd i,?_,?_⟩
  ·obtain ⟨oc,od,kV,doc,pm,an,cdv,ct,osl,q,_⟩:=(T.F i hi).ex
   rw [q]
   exact fun s u=>.of_eq (B kV doc pm an cdv ct u)
  ·have:=hm.symm.trans (hnm ▸ T.m i hi)
   cases this
   exact fun base kb nb=>F T base kb nb
end L2.Cu
namespace L2
open PySem
abbrev d7 (C t:Addr):Obj:={ cls:=.ref C,data:=.fields #[.ref t,.none,.none,.none,.bool false,.none] }
section
variable {prog:Program}{w:World}{A:Around}{E:Value→Shared→Prop}{h:Heap}{g:Array GenState}{d:Drawn}{t:Nat}{os:OsState}
variable {nm q:Str}{C N:Addr}{bs bm bmB:List Value}{hdct:Bool}{sn:List Str}{sub:List Value}{ab:Bool}{col:Option Bool}{dd:Option Addr}{k0 k1 k2 k3 k5:Option Value}{B newId initId:String}
theorem lh (F:ExcBaseFacts B newId initId bmB) (T:OwnTail h bmB bm) {mN:Str→Option Value}{us:List Value}{fI:Addr}{oI:Obj}{Q:Fin→Shared→Prop}
  (hC:h.get? C=some (excClassObj nm q C N bs bm hdct sn sub ab col dd k0 k1 k2 k3 k5 newId)) (hN:h.Ns N mN) (hini:mN "__init__" = some (.ref fI)) (hfun:h.get? fI=some oI) (hcls:oI.cls=.type "function")
  (hrun:wpAny (model prog w) A (call (.ref fI) (.ref (h.objs.size + 1) :: us)) (fun r s'=>r=.none∧Q (.done (.ret (.ref (h.objs.size + 1)))) s') E ⟨(h.push { cls:=.type "tuple",data:=.seq us.toArray }).push (d7 C h.objs.size),g,d,t,os⟩)
  (hus:us.length≤sizeLine):wpAny (model prog w) A (Builtin.«type.__call__» ⟨.ref C :: us,[]⟩) Q E ⟨h,g,d,t,os⟩:=by
 let t1:Obj:={ cls:=.type "tuple",data:=.seq us.toArray }
 let e1:Obj:={ cls:=.ref C,data:=.fields #[.ref h.objs.size,.none,.none,.none,.bool false,.none] }
 have kp:∀ b o,h.get? b=some o→((h.push t1).push e1).get? b=some o:=fun b o z=>DQ e1 (DQ t1 z)
 repeat (first | with_reducible refine EG hC ?_ | with_reducible refine wpAny_madeBy_exc hC ?_ | wp_step)
 refine codeAny_call_builtin_code (FW _ F.quiet) (wpAny_check_new_subT F T hC (codeAny_exc_new_subT F T hC ?_ hus))
 show wpAny _ _ _ _ _ _
 have hC1:=kp _ _ hC
 have hget:((h.push t1).push e1).get? (h.objs.size + 1)=some e1:=by heap_get
 have hself:(Value.ref C :: bm).contains (.ref C)=true:=by simp
 unfold isInstance
 repeat (first | with_reducible refine EG hget ?_ | (with_reducible refine wpAny_isSubtype_exc hC1 ?_; rw [hself]) | wp_step)
 show wpAny _ _ (typeLookup (.ref C) _) _ _ _
 refine wpAny_typeLookup_tail hC1 (hN.keeps kp) (T.keeps kp) F.mroIs F.init.lookup ?_
 rw [hini]
 refine EA (DP ?_)
 unfold bindSpecial
 refine DP (Gk (T := "function") ⟨_,kp _ _ hfun,hcls⟩ ?_)
 rw [if_pos (by decide)]
 refine DS (DP (Eo hrun (fun r s' z=>?_) fun _ _ z=>z))
 obtain ⟨rfl,hQ⟩:=z
 wp_walk
 exact hQ
theorem wS (F:ExcBaseFacts B newId initId bmB) (T:OwnTail h bmB bm) {mN:Str→Option Value}{us:List Value}{fI:Addr}{oI:Obj}{Q:Value→Shared→Prop}
  (hC:h.get? C=some (excClassObj nm q C N bs bm hdct sn sub ab col dd k0 k1 k2 k3 k5 newId)) (hN:h.Ns N mN) (hini:mN "__init__" = some (.ref fI)) (hfun:h.get? fI=some oI) (hcls:oI.cls=.type "function")
  (hrun:wpAny (model prog w) (A.under (.builtin "type.__call__" ⟨.ref C :: us,[]⟩)) (call (.ref fI) (.ref (h.objs.size + 1) :: us)) (fun r s'=>r=.none∧Q (.ref (h.objs.size + 1)) s') E ⟨(h.push { cls:=.type "tuple",data:=.seq us.toArray }).push (d7 C h.objs.size),g,d,t,os⟩)
  (hus:us.length≤sizeLine):wpAny (model prog w) A (call (.ref C) us) Q E ⟨h,g,d,t,os⟩:=by
 have c1:=tc_lookup
 have c2:=tc_bind (.ref C)
 have hT:(⟨h,g,d,t,os⟩:Shared).TypeIs (.ref C) "type" := ⟨_,hC,rfl⟩
 refine GS (codeAny_of_tree ?_)
 show wpAny _ _ (callAny (.ref C) _) _ _ _
 repeat (any_goals (first | assumption | with_reducible refine EG hC ?_ | wp_step))
 refine ⟨rfl,codeAny_call_builtin_at (FW _ (by decide +kernel)) entry_typeCall (wpAny_check_type_call_sub hC (lh F T hC hN hini hfun hcls ?_ hus))⟩
 exact hrun
end
open PySem PySem.W
open Builtin Builtin.ObjectAttr
section
variable {prog:Program}{w:World}{A:Around}{E:Value→Shared→Prop}{s:Shared}{K:Frag}{x C:Addr}{mA:Str→Option Value}{cd:ClassData}{name:Str}{v:Value}
theorem kI {R:Fin→Shared→Prop}{tk:Tok}{b:Bool}{ns:List Str} (X:K.In s.heap) (I:s.heap.Inst x C mA) (hc:clsIn K C=some cd) (hd:cd.hasDict=true) (hw:Within mA ns) (hz:ns.length≤1000)
  (h:∀ h' tk',h'.Inst x C (fun y=>if y=name then some v else mA y) →
   (∀ b o,b ≠ x→(∀ o₀ dx,s.heap.get? x=some o₀→o₀.dict=some dx→b ≠ dx)→s.heap.get? b=some o→h'.get? b=some o) →
   (∀ o₀,s.heap.get? x=some o₀→∃ dx,h'.get? x=some { o₀ with dict:=some dx }∧(o₀.dict=some dx∨o₀.dict=none∧s.heap.objs.size≤dx))→R (.done (.ret .none)) { s with heap:=h',toks:=tk' }) :
  wpAny (model prog w) A (storeInOwnDict (.ref x) (.ref C) (.str name tk) name v b) R E s:=by
 obtain ⟨o,hx,hcl,hnc,hdict⟩:=I
 obtain ⟨hh,g,dr,tt,os⟩:=s
 unfold storeInOwnDict ownDictForStores instanceDict
 refine DP (DS (DP (DP (wpAny_loadPart hx ?_))))
 rw [hcl]
 refine DP ((looks_clsIn X hc).here ?_)
 rw [hd]
 rcases hdict with ⟨e0,hm0⟩ | ⟨dx,e1,hne,hns⟩
 ·rw [e0,if_neg (by decide)]
  show wpAny _ _ (if (!true || !typeHasDict (Value.ref C))=true then pure none else _) _ _ _
  rw [if_neg (by simp [typeHasDict])]
  have hxs:x ≠ hh.objs.size:=D5 (DV hx)
  have hx1:(hh.push { cls:=.type "dict",data:=.dict #[] }).get? x=some o:=DQ _ hx
  split
  ·rename_i c hcd
   exact absurd hcd (hnc c)
  ·refine DP (wpAny_alloc' (DP (wpAny_update' hx1 (DS ?_))))
   have hgd:((hh.push { cls:=.type "dict",data:=.dict #[] }).update x fun o=>{ cls:=o.cls,dict:=some hh.objs.size,data:=o.data,slots:=o.slots }).get? hh.objs.size=some { cls:=.type "dict",data:=.dict #[] } :=
    (Heap.get?_update_ne _ _ _ _ hxs.symm).trans (Heap.get?_push_at rfl rfl)
   have hnd:((hh.push { cls:=.type "dict",data:=.dict #[] }).update x fun o=>{ cls:=o.cls,dict:=some hh.objs.size,data:=o.data,slots:=o.slots }).Ns hh.objs.size (fun _=>none) :=
    ⟨_,#[],_,hgd,rfl,fun e he=>absurd he (by simp),fun _=>rfl⟩
   show wpAny _ _ (storeInDict hh.objs.size (.str name tk) name v) _ _ _
   unfold storeInDict newKeyGuard
   refine DP (DS (DP (wpAny_nsSet1 (Heap.Ns1.of_empty hnd) fun h' n1 sb=>?_)))
   obtain ⟨oD,esD,epD,hoD,hdD,hcD⟩:=n1.count (Within.cons name v Within.nil)
   refine DP (wpAny_lookBehind hoD (by rw [hdD]; exact pastItsLine_dict (D1 hcD (by rw [DI,DJ,Gc]; omega))) ?_)
   refine DS ?_
   have hx':h'.get? x=some { o with dict:=some hh.objs.size }:=by
    refine (sb.2 x hxs).trans (ET _ hx1 ?_)
    have hfr:=(Heap.get?_some_iff.mp hx).2
    obtain ⟨oc,od,odt,osl⟩:=o
    cases odt <;> first | rfl | exact hfr
   refine h h' _ ⟨_,hx',hcl,hnc,.inr ⟨hh.objs.size,rfl,hxs.symm,?_⟩⟩ (fun b ob hbx _ hb=>?_) fun o₀ q=>?_
   ·obtain ⟨o',es,ep,a1,a2,a3,au,a4⟩:=n1
    exact ⟨o',es,ep,a1,a2,a3,au,fun y=>by rw [a4 y]; by_cases hy:y=name <;> simp [hy,hm0]⟩
   ·exact (sb.2 b (D5 (DV hb))).trans ((Heap.get?_update_ne _ _ _ _ hbx).trans (DQ _ hb))
   ·obtain rfl:o=o₀:=DW (hx.symm.trans q)
    exact ⟨hh.objs.size,hx',.inr ⟨e0,DZ _⟩⟩
 ·rw [e1,if_neg (by decide)]
  refine DS ?_
  show wpAny _ _ (storeInDict dx (.str name tk) name v) _ _ _
  unfold storeInDict newKeyGuard
  refine DP (DS (DP (wpAny_nsSet1 hns fun h' n1 sb=>?_)))
  obtain ⟨oD,esD,epD,hoD,hdD,hcD⟩:=n1.count (Within.cons name v hw)
  refine DP (wpAny_lookBehind hoD (by rw [hdD]; exact pastItsLine_dict (D1 hcD (by rw [DI,Gc]; omega))) ?_)
  refine DS ?_
  refine h h' _ ⟨o,(sb.2 x hne.symm).trans hx,hcl,hnc,.inr ⟨dx,e1,hne,n1⟩⟩ (fun b ob _ hbd hb=>(sb.2 b (hbd o dx hx e1)).trans hb) fun o₀ q=>?_
  obtain rfl:o=o₀:=DW (hx.symm.trans q)
  refine ⟨dx,?_,.inl e1⟩
  rw [show ({ o with dict:=some dx }:Obj)=o by rw [← e1]]
  exact (sb.2 x hne.symm).trans hx
theorem ut {Q:Unit→Shared→Prop}{ns:List Str} (X:K.In s.heap) (I:s.heap.Inst x C mA) (hc:clsIn K C=some cd) (hp:∀ self,refuseLoop self "__setattr__" cd.mro=pure ()) (ho:cd.mro.contains (.type "object")=true) (hd:cd.hasDict=true)
  (hs:findIn K (.ref C) "__setattr__" = some (some (.builtin "object.__setattr__"))) (hn:findIn K (.ref C) name=some none) (hw:Within mA ns) (hz:ns.length≤1000)
  (h:∀ h' tk',h'.Inst x C (fun y=>if y=name then some v else mA y) →
   (∀ b o,b ≠ x→(∀ o₀ dx,s.heap.get? x=some o₀→o₀.dict=some dx→b ≠ dx)→s.heap.get? b=some o→h'.get? b=some o) →
   (∀ o₀,s.heap.get? x=some o₀→∃ dx,h'.get? x=some { o₀ with dict:=some dx }∧(o₀.dict=some dx∨o₀.dict=none∧s.heap.objs.size≤dx))→Q () { s with heap:=h',toks:=tk' }) :
  wpAny (model prog w) A (setAttr (.ref x) name v) Q E s:=by
 obtain ⟨o,hx,hcl,hnc,hdict⟩:=id I
 have hno:notCls o=true:=by
  unfold notCls
  split
  ·rename_i c q
   exact absurd q (hnc c)
  ·rfl
 obtain ⟨od,IA⟩:∃ od,InstAt s.heap x o C od:=by
  rcases hdict with ⟨e0,_⟩ | ⟨dx,e1,_,hns⟩
  ·exact ⟨none,hx,hcl,hno,by rw [e0]; trivial⟩
  ·obtain ⟨od,es,ep,e,_⟩:=hns
   exact ⟨some od,hx,hcl,hno,by rw [e1]; exact e⟩
 have SF:=PySem.F.store_object
 have hmro:Looks (model prog w) s.heap (mroOf (.ref C)) cd.mro:=(looks_clsIn X hc).andThen .now
 have ne:cd.mro.isEmpty=false:=by
  cases q:cd.mro with
  | nil=>rw [q] at ho; cases ho
  | cons _ _=>rfl
 have sub:Looks (model prog w) s.heap (isInstance (.ref x) (.type "object")) true:=IA.type.andThen (looks_mroIn X (by unfold mroIn; rw [hc,DC,if_neg (by rw [ne]; decide),ho]))
 refine set_plain X IA hs (FF SF.slot.plain SF.entry (@check_slot (model prog w) _ _ { s with toks:=s.toks + 1 } "object.__setattr__" "object" "__setattr__" (.ref x) [.str name s.toks,v] [] _ SF.kind SF.split sub (SF.args (.ref x) (.str name s.toks) v) ?_))
 rw [osa_eq,refuse_eq]
 refine DP (DP (IA.type _ _ _ _ (fun _ _ e=>e) (DP (hmro _ _ _ _ (fun _ _ e=>e) ?_))))
 rw [hp]
 refine DS (DP (IA.type _ _ _ _ (fun _ _ e=>e) (DP (looks_findIn X hn _ _ _ _ (fun _ _ e=>e) ?_))))
 refine DP (DS ?_)
 exact kI (s:={ s with toks:=s.toks + 1 }) X I hc hd hw hz fun h' tk' i1 i2 i3=>h h' tk' i1 i2 i3
end
section
variable {prog:Program}{w:World}{A:Around}{E:Value→Shared→Prop}{h:Heap}{g:Array GenState}{dr:Drawn}{t:Nat}{os:OsState}{K:Frag}{x C:Addr}{mA:Str→Option Value}{cd:ClassData}{name:Str}{v:Value}
theorem lkF {M:Model}{r:Option Value}{n:Str}{Q:Option Value→Shared→Prop} (X:K.In h) (e:findIn K (.ref C) n=some r) (q:Q r ⟨h,g,dr,t,os⟩):wpAny M A (typeLookup (.ref C) n) Q E ⟨h,g,dr,t,os⟩:=looks_findIn X e _ _ _ _ (fun _ _ z=>z) q
theorem lkC {M:Model}{Q:ClassData→Shared→Prop} (X:K.In h) (e:clsIn K C=some cd) (q:Q cd ⟨h,g,dr,t,os⟩):wpAny M A (classData C) Q E ⟨h,g,dr,t,os⟩:=looks_clsIn X e _ _ _ _ (fun _ _ z=>z) q
theorem kJ {Q:Fin→Shared→Prop}{tk:Tok} (X:K.In h) (I:h.Inst x C mA) (hc:clsIn K C=some cd) (hd:cd.hasDict=true) (hn:findIn K (.ref C) name=some none) (hv:mA name=some v)
  (q:Q (.done (.ret v)) ⟨h,g,dr,t,os⟩):wpAny (model prog w) A (Builtin.«object.__getattribute__» ⟨[.ref x,.str name tk],[]⟩) Q E ⟨h,g,dr,t,os⟩:=by
 obtain ⟨o,hx,hcl,hnc,hdict⟩:=I
 rcases hdict with ⟨_,hm0⟩ | ⟨dx,e1,hne,hns⟩
 ·rw [hm0 name] at hv; cases hv
 unfold Builtin.«object.__getattribute__»
 repeat (first | (with_reducible refine EG hx ?_; rw [hcl]) | with_reducible refine lkF X hn ?_ | wp_step)
 split
 ·rename_i c hcd
  exact absurd hcd (hnc c)
 unfold instanceDict
 repeat (first | (with_reducible refine EG hx ?_; rw [hcl]) | (with_reducible refine lkC X hc ?_; rw [hd]) | wp_step)
 rw [e1]
 repeat (first | (with_reducible refine wpAny_nsGet hns.ns ?_; rw [hv]) | wp_step)
 exact q
theorem wR {Q:Value→Shared→Prop}{expr:Bool} (X:K.In h) (I:h.Inst x C mA) (hc:clsIn K C=some cd) (hd:cd.hasDict=true) (hb:cd.mro.contains (.type "BaseException")=true)
  (hga:findIn K (.ref C) "__getattribute__" = some (some (.builtin "BaseException.__getattribute__"))) (hgt:findIn K (.ref C) "__getattr__" = some none) (hn:findIn K (.ref C) name=some none) (hv:mA name=some v)
  (hh:handedOut v=pure v) (q:Q v ⟨h,g,dr,t + 1,os⟩):wpAny (model prog w) A (getAttr (.ref x) name expr) Q E ⟨h,g,dr,t,os⟩:=by
 obtain ⟨o,hx,hcl,_⟩:=id I
 have hx0:(expr && onTheHeap (Value.builtin "BaseException.__getattribute__"))=false:=by cases expr <;> rfl
 have hx1:(onTheHeap (Value.ref C) && Value.builtin "BaseException.__getattribute__" == Value.builtin "object.__getattribute__")=false:=by
  rw [show (Value.builtin "BaseException.__getattribute__" == Value.builtin "object.__getattribute__")=false by decide +kernel]; rfl
 have hbs:bindSpecial (.builtin "BaseException.__getattribute__") (.ref x)=pure (.builtin "BaseException.__getattribute__",[.ref x]):=(Fu).ga.bind (.ref x)
 unfold getAttr getAttrBy
 repeat (first | (with_reducible refine EG hx ?_; rw [hcl]) | with_reducible refine lkF X hga ?_ | with_reducible refine lkF X hgt ?_ | wp_step)
 have IA:Looks (model prog w) h (typeOf (.ref x)) (.ref C):=(Looks.ld (part:=none) hx).andThen (by rw [hcl]; exact .now)
 have ne:cd.mro.isEmpty=false:=by
  cases z:cd.mro with
  | nil=>rw [z] at hb; cases hb
  | cons _ _=>rfl
 have sub:Looks (model prog w) h (isInstance (.ref x) (.type "BaseException")) true:=IA.andThen (looks_mroIn X (by unfold mroIn; rw [hc,DC,if_neg (by rw [ne]; decide),hb]))
 have hk:builtinKind "BaseException.__getattribute__" = some .slot:=by decide +kernel
 have hsp:splitId "BaseException.__getattribute__" = some ("BaseException","__getattribute__"):=by decide +kernel
 refine FF (Fu).ga.plain PySem.F.entry_bexc_ga (@check_slot (model prog w) _ _ ⟨h,g,dr,t + 1,os⟩ "BaseException.__getattribute__" "BaseException" "__getattribute__" (.ref x) [.str name t] [] _ hk hsp sub (PySem.F.args_bexc_ga (.ref x) (.str name t)) ?_)
 refine kJ X I hc hd hn hv ?_
 show wpAny _ _ (handedOut v) _ _ _
 rw [hh]
 exact DS q
end
structure Kp (fs xs:List Addr) (h h':Heap):Prop where
 keep:∀ b o,b ∉ fs→b ∉ xs→h.get? b=some o→h'.get? b=some o
 slot:∀ b o,b ∈ fs→b ∉ xs→h.get? b=some o→∃ sl,h'.get? b=some { o with slots:=sl }
theorem Kp.trans {fs xs:List Addr}{h h1 h2:Heap} (a:Kp fs xs h h1) (b:Kp fs xs h1 h2):Kp fs xs h h2 :=
 ⟨fun c o n1 n2 e=>b.keep c o n1 n2 (a.keep c o n1 n2 e),fun c o n1 n2 e=>by
  obtain ⟨sl,e1⟩:=a.slot c o n1 n2 e
  obtain ⟨sl',e2⟩:=b.slot c _ n1 n2 e1
  exact ⟨sl',e2⟩⟩
theorem Kp.wide {fs fs' xs xs':List Addr}{h h':Heap} (a:Kp fs xs h h') (h1:∀ b ∈ fs,b ∈ fs') (h2:∀ b ∈ xs,b ∈ xs'):Kp fs' xs' h h' :=
 ⟨fun c o n1 n2 e=>a.keep c o (fun z=>n1 (h1 c z)) (fun z=>n2 (h2 c z)) e,fun c o n1 n2 e=>by
  by_cases hc:c ∈ fs
  ·exact a.slot c o hc (fun z=>n2 (h2 c z)) e
  ·exact ⟨o.slots,a.keep c o hc (fun z=>n2 (h2 c z)) e⟩⟩
theorem Kp.funs {base:Heap}{xs:List Addr}{h h':Heap}{l:List Env}{fs:List Addr} (k:Kp fs xs h h') (hl:h.FunFrames base l) (hx:∀ b o,b ∈ xs→h.get? b=some o→∃ vs,o.data=.fields vs):h'.FunFrames base l :=
 hl.of_keeps fun b o e hn=>by
  have hb:b ∉ xs:=fun z=>by
   obtain ⟨vs,q⟩:=hx b o z e
   exact hn vs q
  by_cases hf:b ∈ fs
  ·obtain ⟨sl,e'⟩:=k.slot b o hf hb e
   exact ⟨_,e',rfl⟩
  ·exact ⟨o,k.keep b o hf hb e,rfl⟩
def Fly (h:Heap) (o0:Obj) (e T:Addr) (fl:Value):Prop :=
 ∃ vs oT ts,h.get? e=some { o0 with data:=.fields vs }∧vs[1]? = some (.ref T)∧T ≠ e∧h.get? T=some oT∧oT.data=.fields ts∧ts[3]? = some fl
section
variable {M:Model}{A:Around}{E:Value→Shared→Prop}{s:Shared}
theorem lS {base h:Heap}{l:List Env}{e:Addr}{o:Obj}{vs:Array Value} (hl:h.FunFrames base l) (he:h.get? e=some o) (hd:o.data=.fields vs):e ∉ l.filterMap (·.frame):=fun hm=>by
 obtain ⟨_,o',ho,hnf⟩:=hl.mem hm
 rw [he] at ho
 cases ho
 exact hnf vs hd
theorem kO {base:Heap}{env:Env}{outer:List Env}{L e:Addr}{o0:Obj}{vs:Array Value}{head:Value}{nx:Bool}{Q:Unit→Shared→Prop}
  (hfr:A.frames=some (env :: outer)) (hl:s.heap.FunFrames base (env :: outer)) (hf:env.frame=some L) (he:s.heap.get? e=some { o0 with data:=.fields vs }) (hsz:1 < vs.size)
  (h:∀ h' T,Kp ((env :: outer).filterMap (·.frame)) [e] s.heap h'→s.heap.objs.size≤T→Fly h' o0 e T (rawInt L)→Q () { s with heap:=h' }) :
  wpAny M A (do let a ← frameOf env; let pl ← entryPlaceOf L nx; let b ← EntryCells.newEntry head a .none (rawInt L) .none pl; setField (.ref e) 1 b) Q E s:=by
 have hene:=lS hl he rfl
 refine DP (wpAny_frameOf_fun hfr hl hf fun h1 so=>?_)
 refine DP (wpAny_entryPlaceOf fun pl hpl=>?_)
 unfold EntryCells.newEntry newFields
 refine DP (ES ?_ (hpl.sizeOk5 _ _ _ _ _))
 have he1:h1.get? e=some { o0 with data:=.fields vs }:=(so.2.1 e hene).trans he
 generalize hO:({ cls:=.type "traceback",dict:=none,data:=.fields ([head,.ref L,.none,rawInt L,.none] ++ (if pl.isEmpty then List.replicate 6 Value.none else pl)).toArray }:Obj)=O
 have he2:=DQ (h:=h1) O he1
 have hne:h1.objs.size ≠ e:=Ga (DV he1)
 refine Go he2 rfl hsz ?_
 have he3:=ET (Obj.mapFields (·.setIfInBounds 1 (Value.ref h1.objs.size))) he2 (GH (FU rfl _))
 have hT:((h1.push O).update e (Obj.mapFields (·.setIfInBounds 1 (Value.ref h1.objs.size)))).get? h1.objs.size=some O :=
  (Ez _ _ (Ne.symm hne)).trans (DX h1 (by rw [← hO]; rfl))
 have hsize:s.heap.objs.size≤h1.objs.size:=Nat.le_of_eq so.1.symm
 refine h _ h1.objs.size ⟨fun b o nb nx' q=>?_,fun b o hb nx' q=>?_⟩ hsize ⟨_,O,_,he3,by simp [hsz],hne,hT,by rw [← hO],?_⟩
 ·have hbe:b ≠ e:=fun z=>nx' (by simp [z])
  rw [Ez _ _ (Ne.symm hbe)]
  exact DQ _ ((so.2.1 b nb).trans q)
 ·have hbe:b ≠ e:=fun z=>nx' (by simp [z])
  obtain ⟨sl,q1⟩:=so.2.2 b o q
  refine ⟨sl,?_⟩
  rw [Ez _ _ (Ne.symm hbe)]
  exact DQ _ q1
 ·simp
theorem gY {base:Heap}{env:Env}{outer:List Env}{L e:Addr}{o0:Obj}{vs:Array Value}{Q:Unit→Shared→Prop}
  (hfr:A.frames=some (env :: outer)) (hl:s.heap.FunFrames base (env :: outer)) (hf:env.frame=some L) (he:s.heap.get? e=some { o0 with data:=.fields vs }) (h1:vs[1]? = some .none)
  (h:∀ h' T,Kp ((env :: outer).filterMap (·.frame)) [e] s.heap h'→s.heap.objs.size≤T→Fly h' o0 e T (rawInt L)→Q () { s with heap:=h' }):wpAny M A (noteFrame (.ref e) env) Q E s:=by
 unfold noteFrame
 simp only [hf]
 refine DP (EK he rfl h1 ?_)
 rw [if_neg (by decide)]
 exact kO hfr hl hf he (Array.getElem?_eq_some_iff.mp h1).1 h
theorem iU {base:Heap}{env:Env}{outer:List Env}{L e T:Addr}{o0:Obj}{Q:Unit→Shared→Prop}
  (hfr:A.frames=some (env :: outer)) (hl:s.heap.FunFrames base (env :: outer)) (hf:env.frame=some L) (he:Fly s.heap o0 e T .none)
  (h:∀ h' T',Kp ((env :: outer).filterMap (·.frame)) [e,T] s.heap h'→s.heap.objs.size≤T'→Fly h' o0 e T' (rawInt L)→Q () { s with heap:=h' }):wpAny M A (noteFrame (.ref e) env) Q E s:=by
 obtain ⟨vs,oT,ts,q1,q2,hTe,q3,q4,q5⟩:=he
 unfold noteFrame
 simp only [hf]
 refine DP (EK q1 rfl q2 ?_)
 rw [if_pos (show (Value.ref T != Value.none)=true from by simp)]
 refine DP (EK q3 q4 q5 ?_)
 rw [if_neg (show ¬ ((Value.none == rawInt L)=true) from by simp [rawInt])]
 refine DP (Go q3 q4 (Array.getElem?_eq_some_iff.mp q5).1 ?_)
 have oth:∀ b,b ≠ T→(s.heap.update T (Obj.mapFields (·.setIfInBounds 3 Value.none))).get? b=s.heap.get? b:=fun b hb=>Ez _ _ (Ne.symm hb)
 have k0:Kp ((env :: outer).filterMap (·.frame)) [e,T] s.heap (s.heap.update T (Obj.mapFields (·.setIfInBounds 3 Value.none))) :=
  ⟨fun b o _ nx q=>(oth b fun z=>nx (by simp [z])).trans q,fun b o _ nx q=>⟨o.slots,(oth b fun z=>nx (by simp [z])).trans q⟩⟩
 refine kO hfr (k0.funs hl fun b o hb q=>?_) hf ((oth e (Ne.symm hTe)).trans q1) (Array.getElem?_eq_some_iff.mp q2).1 fun h' T' k1 k2 k3=>h h' T' (k0.trans (k1.wide (fun _ z=>z) fun b z=>by simp at z; simp [z])) ?_ k3
 ·rcases List.mem_cons.mp hb with rfl | hb
  ·rw [q1] at q; cases q; exact ⟨vs,rfl⟩
  ·rw [List.mem_singleton.mp hb,q3] at q; cases q; exact ⟨ts,q4⟩
 ·have:(s.heap.update T (Obj.mapFields (·.setIfInBounds 3 Value.none))).objs.size=s.heap.objs.size:=by simp [Heap.update]
  rw [← this]; exact k2
theorem km {env:Env}{L e T:Addr}{o0:Obj}{Q:Unit→Shared→Prop} (hf:env.frame=some L) (he:Fly s.heap o0 e T (rawInt L)) (h:Q () s):wpAny M A (noteFrame (.ref e) env) Q E s:=by
 obtain ⟨vs,oT,ts,q1,q2,hTe,q3,q4,q5⟩:=he
 unfold noteFrame
 simp only [hf]
 refine DP (EK q1 rfl q2 ?_)
 rw [if_pos (show (Value.ref T != Value.none)=true from by simp)]
 refine DP (EK q3 q4 q5 ?_)
 rw [if_pos (Ed _)]
 exact DS h
theorem dh {e T:Addr}{o0:Obj}{fl:Value}{fr:Option Addr}{Q:Unit→Shared→Prop} (he:Fly s.heap o0 e T fl)
  (h:∀ h',Kp [] [T] s.heap h'→h'.objs.size=s.heap.objs.size→Fly h' o0 e T (fr.elim Value.none fun f=>rawInt f)→Q () { s with heap:=h' }):wpAny M A (setFlight (.ref e) fr) Q E s:=by
 obtain ⟨vs,oT,ts,q1,q2,hTe,q3,q4,q5⟩:=he
 have hz:3 < ts.size:=(Array.getElem?_eq_some_iff.mp q5).1
 have oth:∀ b,b ≠ T→(s.heap.update T (Obj.mapFields (·.setIfInBounds 3 (fr.elim Value.none fun f=>rawInt f)))).get? b=s.heap.get? b:=fun b hb=>Ez _ _ (Ne.symm hb)
 unfold setFlight
 refine DP (EK q1 rfl q2 ?_)
 rw [if_pos (show (Value.ref T != Value.none)=true from by simp)]
 refine Go q3 q4 hz (h _ ⟨fun b o _ nx q=>(oth b fun z=>nx (by simp [z])).trans q,fun b o hb=>by cases hb⟩ (by simp [Heap.update]) ?_)
 exact ⟨vs,_,_,(oth e (Ne.symm hTe)).trans q1,q2,hTe,ET _ q3 (GH (FU q4 _)),FU q4 _,by simp [hz]⟩
theorem oR {base:Heap}{env:Env}{outer:List Env}{L e:Addr}{o0:Obj}{vs:Array Value}{Q:Unit→Shared→Prop}
  (hfr:A.frames=some (env :: outer)) (hl:s.heap.FunFrames base (env :: outer)) (hf:env.frame=some L) (he:s.heap.get? e=some { o0 with data:=.fields vs }) (h1:vs[1]? = some .none)
  (h:∀ h' T,Kp ((env :: outer).filterMap (·.frame)) [e] s.heap h'→s.heap.objs.size≤T→Fly h' o0 e T .none→Q () { s with heap:=h' }):wpAny M A (leaving env (.ref e)) Q E s:=by
 unfold leaving
 refine DP (gY hfr hl hf he h1 fun h' T k1 k2 k3=>dh k3 fun h'' j1 _ j3=>h h'' T ?_ k2 j3)
 refine ⟨fun b o n1 n2 q=>j1.keep b o (by simp) (fun z=>?_) (k1.keep b o n1 n2 q),fun b o n1 n2 q=>?_⟩
 ·rw [List.mem_singleton.mp z] at q
  exact absurd (DV q) (Nat.not_lt.mpr k2)
 ·obtain ⟨sl,q1⟩:=k1.slot b o n1 n2 q
  refine ⟨sl,j1.keep b _ (by simp) (fun z=>?_) q1⟩
  rw [List.mem_singleton.mp z] at q
  exact absurd (DV q) (Nat.not_lt.mpr k2)
theorem qx {base:Heap}{env:Env}{outer:List Env}{L e T:Addr}{o0:Obj}{Q:Unit→Shared→Prop}
  (hfr:A.frames=some (env :: outer)) (hl:s.heap.FunFrames base (env :: outer)) (hf:env.frame=some L) (he:Fly s.heap o0 e T .none)
  (h:∀ h' T',Kp ((env :: outer).filterMap (·.frame)) [e,T] s.heap h'→s.heap.objs.size≤T'→Fly h' o0 e T' .none→Q () { s with heap:=h' }):wpAny M A (leaving env (.ref e)) Q E s:=by
 unfold leaving
 refine DP (iU hfr hl hf he fun h' T' k1 k2 k3=>dh k3 fun h'' j1 _ j3=>h h'' T' ?_ k2 j3)
 refine ⟨fun b o n1 n2 q=>j1.keep b o (by simp) (fun z=>?_) (k1.keep b o n1 n2 q),fun b o n1 n2 q=>?_⟩
 ·rw [List.mem_singleton.mp z] at q
  exact absurd (DV q) (Nat.not_lt.mpr k2)
 ·obtain ⟨sl,q1⟩:=k1.slot b o n1 n2 q
  refine ⟨sl,j1.keep b _ (by simp) (fun z=>?_) q1⟩
  rw [List.mem_singleton.mp z] at q
  exact absurd (DV q) (Nat.not_lt.mpr k2)
end
open PySem PySem.Spec PyProof.Rows
section
variable {X:Cx}{pins:List (Addr×Obj)} {σ:St}{H:Hp}{s:Shared}{h':Heap}{ch:List Addr}
theorem Inv.recd (I:Inv X pins σ H s) {b:Addr}{o:Obj}{vs:Array Value} (e:s.heap.get? b=some o) (hd:o.data=.fields vs):b ≠ X.env.locals∧(∀ x c,X.env.cells.lookup x=some c→c ≠ b)∧b ∉ frs X.stack:=by
 refine ⟨fun z=>?_,fun x c q z=>?_,lS I.stack e hd⟩
 ·obtain ⟨m,⟨o',es,ep,ho',hd',_⟩,_⟩:=I.loc
  rw [← z,e] at ho'; cases ho'; rw [hd'] at hd; cases hd
 ·obtain ⟨v,o',ho',hd'⟩:=I.cell x c q
  rw [z,e] at ho'; cases ho'; rw [hd'] at hd; cases hd
theorem Inv.kp (I:Inv X pins σ H s) (k:Kp (frs X.stack) ch s.heap h')
  (hch:∀ b ∈ ch,X.s₀.heap.objs.size≤b∧(∃ o vs,s.heap.get? b=some o∧o.data=.fields vs)∧(∀ p ∈ X.pn ++ pins,p.1 ≠ b)∧H b=none):Inv X pins σ H { s with heap:=h' }:=by
 have trk:∀ b o,H b ≠ none→s.heap.get? b=some o→h'.get? b=some o:=fun b o n e=>k.keep b o (fun z=>n (I.stkFree b z)) (fun z=>n (hch b z).2.2.2) e
 refine I.step (ch:=ch) (fun b hb=>?_) (fun b o n1 n2 n3 e n=>?_) (fun b o n1 n2 n3 e n=>?_) (fun _ _ _ _ n=>n) (fun b o n3 e=>?_) (fun _ _ q=>q) (fun _ _ _ q=>q) (fun _ ps q=>⟨#[],by rw [q]; simp⟩) (fun m hm=>?_) (fun a o e=>?_) I.bare
 ·obtain ⟨a1,⟨o,vs,a2,a3⟩,a4,a5⟩:=hch b hb
  obtain ⟨b1,b2,_⟩:=I.recd a2 a3
  exact ⟨.inr a1,b1,b2,a4⟩
 ·exact k.keep b o (fun z=>by rcases List.mem_cons.mp (I.stkSub b z) with q | q; exact n1 q; exact n2 q) n3 e
 ·by_cases hb:b ∈ frs X.stack
  ·exact k.slot b o hb n3 e
  ·exact ⟨o.slots,k.keep b o hb n3 e⟩
 ·by_cases hb:b ∈ frs X.stack
  ·obtain ⟨sl,q⟩:=k.slot b o hb n3 e
   exact ⟨_,q⟩
  ·exact ⟨o,k.keep b o hb n3 e⟩
 ·obtain ⟨o,es,ep,e,hd,r⟩:=hm
  have nch:X.env.locals ∉ ch:=fun z=>by
   obtain ⟨_,⟨o',vs,a2,a3⟩,_⟩:=hch _ z
   rw [e] at a2; cases a2; rw [hd] at a3; cases a3
  by_cases hb:X.env.locals ∈ frs X.stack
  ·obtain ⟨sl,q⟩:=k.slot _ o hb nch e
   exact ⟨_,es,ep,q,hd,r⟩
  ·exact ⟨o,es,ep,k.keep _ o hb nch e,hd,r⟩
 ·exact (I.hok a o e).stay (fun b u hb q=>trk b u (fun z=>by
   rcases hb with rfl | hb
   ·rw [e] at z; cases z
   ·rw [hb] at z; cases z) q) (fun _ q=>q) fun _ _ q=>q
end
def Err (L:Addr) (h:Heap) (H:Hp) (z:Nat) (ps:List (Addr×Obj)) (o0:Obj) (a:Addr):Prop :=
 (∃ vs,h.get? a=some { o0 with data:=.fields vs }∧vs[1]? = some .none)∨∃ T fl,Fly h o0 a T fl∧(fl=.none∨fl=rawInt L)∧H T=none∧z≤T∧∀ p ∈ ps,p.1 ≠ T
structure zR (H:Hp) (z:Nat) (o0:Obj) (a C dx:Addr):Prop where
 cls:o0.cls=.ref C
 dict:o0.dict=some dx
 ne:dx ≠ a
 free:H a=none
 new:z≤a
def CX1 (P:Program) (w:World):CXT:=fun outer H s E e s'=>∃ (a C dx T:Addr) (o0:Obj) (H':Hp),e=.ref a∧s'.os=s.os∧AllBare s'.gens∧Un (frs outer) [] H H' s.heap s'.heap∧HOk P w H' s'.heap ∧
 Fly s'.heap o0 a T .none∧H' T=none∧s.heap.objs.size≤T∧zR H' s.heap.objs.size o0 a C dx∧E (.ref C) (some dx) H'
abbrev XW:=St→Value→Option Addr→Hp→Prop
def EX (X:Cx) (pins:List (Addr×Obj)) (W:XW) (e:Value) (s:Shared):Prop:=∃ (σ:St) (a C dx:Addr) (o0:Obj) (H:Hp),e=.ref a∧Inv X pins σ H s∧Err X.env.locals s.heap H X.s₀.heap.objs.size (X.pn ++ pins) o0 a∧zR H X.s₀.heap.objs.size o0 a C dx∧(∀ p ∈ X.pn ++ pins,p.1 ≠ a)∧W σ (.ref C) (some dx) H
section
variable {P:Program}{w:World}{K:PySem.W.Frag}{mg:Str→Option Value}{base:Heap}{N:List Str}{qual:Str}{scope:Scope}{f:Addr}{cd:Value}{A:Around}{outer:List Env}{s₀:Shared}{H₀:Hp}{E:XK}
theorem Fly.recd {h:Heap}{o0:Obj}{e T:Addr}{fl:Value} (x:Fly h o0 e T fl):(∃ o vs,h.get? e=some o∧o.data=.fields vs)∧∃ o vs,h.get? T=some o∧o.data=.fields vs:=by
 obtain ⟨vs,oT,ts,q1,q2,q3,q4,q5,q6⟩:=x
 exact ⟨⟨_,vs,q1,rfl⟩,oT,ts,q4,q5⟩
theorem uv {pins:List (Addr×Obj)} {e:Value}{s:Shared} (x:EX (jv (CX1 P w) P w K mg base N qual scope f cd A outer s₀ H₀ E) pins (fun _ c d H=>E c d H) e s):(jv (CX1 P w) P w K mg base N qual scope f cd A outer s₀ H₀ E).xe e s:=by
 obtain ⟨σ,a,C,dx,o0,H,rfl,I,er,eo,hp,hw⟩:=x
 have hz:s₀.heap.objs.size≤s.heap.objs.size:=I.sz
 rcases er with ⟨vs,q1,q2⟩ | ⟨T,fl,hf,rfl | rfl,hT,hTz,hTp⟩
 ·refine oR (base:=base) I.ok.frames I.stack rfl q1 q2 fun h' T k k2 k3=>?_
  have I':=I.kp (ch:=[a]) k fun b hb=>by
   rw [List.mem_singleton.mp hb]
   exact ⟨eo.new,⟨_,vs,q1,rfl⟩,hp,eo.free⟩
  exact ⟨a,C,dx,T,o0,H,rfl,I'.os,I'.bare,I'.base,I'.hok,k3,I.hok.fresh k2,D1 hz k2,eo,hw⟩
 ·refine qx (base:=base) I.ok.frames I.stack rfl hf fun h' T' k k2 k3=>?_
  have I':=I.kp (ch:=[a,T]) k fun b hb=>by
   rcases List.mem_cons.mp hb with rfl | hb
   ·exact ⟨eo.new,hf.recd.1,hp,eo.free⟩
   ·rw [List.mem_singleton.mp hb]
    exact ⟨hTz,hf.recd.2,hTp,hT⟩
  exact ⟨a,C,dx,T',o0,H,rfl,I'.os,I'.bare,I'.base,I'.hok,k3,I.hok.fresh k2,D1 hz k2,eo,hw⟩
 ·show wpAny _ _ (leaving _ _) _ _ _
  unfold leaving
  refine DP (km rfl hf (dh hf fun h' k _ k3=>?_))
  have I':=I.kp (ch:=[T]) (k.wide (fun _ z=>by cases z) fun _ z=>z) fun b hb=>by
   rw [List.mem_singleton.mp hb]
   exact ⟨hTz,hf.recd.2,hTp,hT⟩
  exact ⟨a,C,dx,T,o0,H,rfl,I'.os,I'.bare,I'.base,I'.hok,k3,hT,hTz,eo,hw⟩
end
section
variable {X:Cx}{pins:List (Addr×Obj)} {σ:St}{H:Hp}{s s':Shared}{E:XK}{W:XW}{e:Value}
theorem Inv.raised (I:Inv X pins σ H s) (h:CX1 X.prog X.w X.stack H s E e s') (hE:∀ c d H',E c d H'→W σ c d H'):EX X pins W e s':=by
 obtain ⟨a,C,dx,T,o0,H',rfl,h1,h2,h3,h4,h5,h6,h7,h8,h9⟩:=h
 have hce:CE X.stack X.prog X.w H s (fun v H''=>H''=H') .none s':=⟨.non,H',h1,h2,h3,h4,rfl,rfl⟩
 obtain ⟨x,H'',I',_,rfl⟩:=I.after hce
 refine ⟨σ,a,C,dx,o0,_,rfl,I',.inr ⟨T,_,h5,.inl rfl,h6,D1 I.sz h7,fun p hp z=>absurd (DV (I.pin p hp).1) (by rw [z]; exact Nat.not_lt.mpr h7)⟩,⟨h8.cls,h8.dict,h8.ne,h8.free,D1 I.sz h8.new⟩,fun p hp z=>?_,hE _ _ _ h9⟩
 have q:=(I.pin p hp).1
 exact absurd (DV q) (by rw [z]; exact Nat.not_lt.mpr h8.new)
end
abbrev TEX:=St→Hp→VK→XW→Prop
abbrev TSX:=d_→XW→St→Hp→Prop
def PEX (X:Cx) (e:Expr) (t:TEX):Prop :=
 ∀ (pins:List (Addr×Obj)) (s:Shared) (σ:St) (H:Hp) (Q:VK) (W:XW) (xe:Value→Shared→Prop),Inv X pins σ H s→t σ H Q W→(∀ e s',EX X pins W e s'→xe e s')→wpAny (model X.prog X.w) X.A (eval e X.env) (EP X pins σ Q) xe s
def PSX (X:Cx) (st:Stmt) (t:TSX):Prop :=
 ∀ (pins:List (Addr×Obj)) (s:Shared) (σ:St) (H:Hp) (D:d_) (W:XW) (xe:Value→Shared→Prop),Inv X pins σ H s→t D W σ H→(∀ e s',EX X pins W e s'→xe e s')→wpAny (model X.prog X.w) X.A (exec st X.env) (SP X pins D) xe s
def iH (X:Cx) (st:List Stmt) (t:TSX):Prop :=
 ∀ (pins:List (Addr×Obj)) (s:Shared) (σ:St) (H:Hp) (D:d_) (W:XW) (xe:Value→Shared→Prop),Inv X pins σ H s→t D W σ H→(∀ e s',EX X pins W e s'→xe e s')→wpAny (model X.prog X.w) X.A (execs st X.env) (SP X pins D) xe s
section
variable {X:Cx}{st:Stmt}{cg:List Stmt}{t:TS}{e:Expr}{pos:Pos}
theorem Au (h:PS X.nox st t):PSX X st (fun D _ σ H=>t D σ H):=fun pins s σ H D W xe I hw _ =>
 Eo (h pins s σ H D (I.wish _) hw) (fun _ _ q=>q.unwish) fun _ _ z=>False.elim z
theorem ye (h:PSs X.nox cg t):iH X cg (fun D _ σ H=>t D σ H):=fun pins s σ H D W xe I hw _ =>
 Eo (h pins s σ H D (I.wish _) hw) (fun _ _ q=>q.unwish) fun _ _ z=>False.elim z
theorem tz {t u:TSX} (h1:PSX X st t) (h2:iH X cg u):iH X (st :: cg) (fun D W σ H=>t { D with nx:=u D W } W σ H):=by
 intro pins s σ H D W xe I h hx
 refine GC (thn (h1 pins s σ H { D with nx:=u D W } W xe I h hx) fun f s1 q=>?_)
 cases f with
 | next =>
  obtain ⟨σ',H',I',q⟩:=q
  exact h2 pins s1 σ' H' D W xe I' q hx
 | ret v=>exact q
 | brk=>exact q
 | cont=>exact q
theorem vF {t:TSX} (h1:PSX X st t):iH X [st] t:=by
 intro pins s σ H D W xe I h hx
 refine GC (thn (h1 pins s σ H D W xe I h hx) fun f s1 q=>?_)
 cases f with
 | next=>exact FQ q
 | ret v=>exact q
 | brk=>exact q
 | cont=>exact q
theorem Av {c:Expr}{a b:List Stmt}{tc:TT}{t u:TSX} (hc:PT X.nox c tc) (ha:iH X a t) (hb:iH X b u):PSX X (.If c a b pos) (fun D W σ H=>tc σ H fun b H1=>if b=true then t D W σ H1 else u D W σ H1):=by
 intro pins s σ H D W xe I h hx
 refine wpAny_If (Eo (hc pins s σ H _ (I.wish _) h) (fun d s1 zz137_0=>?_) fun _ _ z=>False.elim z)
 obtain ⟨H1,I1,q1⟩:=zz137_0
 cases d with
 | true=>exact ha pins s1 σ H1 D W xe I1.unwish q1 hx
 | false=>exact hb pins s1 σ H1 D W xe I1.unwish q1 hx
end
section
variable {X:Cx}{k:Nat}{f:Addr}{fd:FuncData}{ps:List Str}{sp:Sp}{x:Str}{p pos:Pos}{e:Expr}{es:List Expr}{t:TA}
theorem vT (F:br X.prog X.w X.K X.mg X.base (CX1 X.prog X.w) k f fd ps sp) (hr:cW k X.A) (hg:Gl X x) (hm:X.mg x=some (.ref f)) (hk:PySem.W.keepIn X.K (.ref f)=true) (hb:bz X.K fd ps [])
  (ha:PA X.nox (e :: es) t) (hdb:(x == ("__debug__" : Str))=false:=by decide) (he:starEach (e :: es) X.env=(false,eval e X.env) :: starEach es X.env:=by rfl) (hpl:(backTo pos (starEach es X.env)).any (·.1)=false:=by rfl) :
  PEX X (.Call (.Name x p) (e :: es) [] pos) (fun σ H Q W=>t σ H fun vs H1=>∃ E:XK,sp vs H1 Q E∧∀ c d H',E c d H'→W σ c d H'):=by
 intro pins s σ H Q W xe I h hx
 refine Fg (im I hg hm ?_ hdb)
 refine GG (h₀:=X.base) I.ok.mod.kin hk (Eo (ha pos pins s σ H _ (I.wish _) h) (fun us s1 ⟨vs,H1,I1,r,q⟩=>⟨I1.unwish.kIn,?_⟩) fun _ _ z=>False.elim z) he hpl
 have I1:=I1.unwish
 obtain ⟨E,h1,hE⟩:=q
 have hl:us.length=ps.length:=by rw [← r.length]; exact F.len _ _ _ _ h1
 have hb':=hb s1 us I1.kIn (by rw [Fb]; exact hl)
 rw [Fb] at hb'
 refine GS (Fw (F.run X.A X.stack s1 H1 ⟨us,[]⟩ us vs Q E hr I1.env0 hb' r h1) fun r s' hq=>?_)
 cases r with
 | error e=>exact hx e s' (I1.raised hq hE)
 | ok fl =>
  cases fl with
  | ret u=>exact I1.after hq
  | next=>exact False.elim hq
  | brk=>exact False.elim hq
  | cont=>exact False.elim hq
end
theorem Bl {P:Program}{w:World}{K:PySem.W.Frag}{mg:Str→Option Value}{base:Heap}{k:Nat}{f:Addr}{name qual:Str}{params:Arguments}{body:List Stmt}{scope:Scope}{dV kV doc pm cdv ct oc:Value}{an od:Option Addr}
  {osl:Array (Option Value)} {N ps:List Str}{sp:Sp} (lk:K.lookup f=some ⟨oc,od,.func (PySem.W.fnOf name qual params body scope dV kV doc pm an cdv ct),osl⟩) (hcd:PySem.W.codeIn K cdv qual=true) (S:aL N ps scope)
  (len:∀ vs H Q E,sp vs H Q E→vs.length=ps.length)
  (hbody:∀ (A:Around) (outer:List Env) (s:Shared) (H:Hp) (vs:List V) (Q:VK) (E:XK),cW k (A.deeper (envOfC qual scope s.heap.objs.size f cdv))→sp vs H Q E →
   ∃ t,iH (jv (CX1 P w) P w K mg base N qual scope f cdv A outer s H E) body t∧t { nx:=fun _ H'=>Q .non H',rt:=Q } (fun _ c d H'=>E c d H') (start N vs) H) :
  br P w K mg base (CX1 P w) (k + 1) f (PySem.W.fnOf name qual params body scope dV kV doc pm an cdv ct) ps sp:=by
 refine zL lk hcd S len fun A outer s H vs Q E hr hs=>?_
 obtain ⟨t,h1,h2⟩:=hbody A outer s H vs Q E hr hs
 exact ⟨fun D σ H'=>t D (fun _ c d H'=>E c d H') σ H',fun pins s' σ H' D I h=>h1 pins s' σ H' D _ _ I h fun e s'' x=>uv x,h2⟩
structure kZ (K:PySem.W.Frag) (C:Addr) (cd:ClassData):Prop where
 cls:PySem.W.clsIn K C=some cd
 pass:∀ self,refuseLoop self "__setattr__" cd.mro=pure ()
 obj:cd.mro.contains (.type "object")=true
 exc:cd.mro.contains (.type "BaseException")=true
 hd:cd.hasDict=true
 sa:PySem.W.findIn K (.ref C) "__setattr__" = some (some (.builtin "object.__setattr__"))
 ga:PySem.W.findIn K (.ref C) "__getattribute__" = some (some (.builtin "BaseException.__getattribute__"))
 gt:PySem.W.findIn K (.ref C) "__getattr__" = some none
def er0 (e C t:Addr) (h:Heap):Prop:=h.get? e=some (d7 C t)
def er1 (e C t dx:Addr) (h:Heap):Prop:=h.get? e=some { d7 C t with dict:=some dx }
section
variable {X:Cx}{o value:Expr}{ta tv:TE}{f:Str}{pos pos':Pos}
def sXf (K:PySem.W.Frag) (ta tv:TE) (f:Str):TS:=fun D σ H=>tv σ H fun y H1=>ta σ H1 fun x H2=>∃ e C t cd,x=.ref e∧H2 e=some (.ext (er0 e C t))∧kZ K C cd∧PySem.W.findIn K (.ref C) f=some none ∧
 ∀ dx,H2 dx=none→dx ≠ e→D.nx σ (upd (upd H2 e (.ext (er1 e C t dx))) dx (.xd [(f,y)]))
theorem Ck (ha:PE X o ta) (hv:PE X value tv) (hs:swapsWith value (some (.Attribute o f pos')) pos.line X.env=pure false):PS X (.Assign [.Attribute o f pos'] value pos) (sXf X.K ta tv f):=by
 intro pins s σ H D I h
 refine plainObj_wpAny_Assign_Attribute (thn (hv pins s σ H _ I h) fun u s1 ⟨y,H1,I1,ry,q⟩=>thn (ha pins s1 σ H1 _ I1 q) fun ov s2 zz140_0=>?_) hs
 obtain ⟨x,H2,I2,rx,e,C,t,cd,ex,ee,c,hn,q2⟩:=zz140_0
 subst ex
 obtain rfl:ov=Value.ref e:=rx
 have he:s2.heap.get? e=some (d7 C t):=(I2.hok e _ ee).1
 have hI:s2.heap.Inst e C (fun _=>none):=⟨_,he,rfl,fun c z=>(by cases z),.inl ⟨rfl,fun _=>rfl⟩⟩
 refine ut (ns:=[]) I2.kIn hI c.cls c.pass c.obj c.hd c.sa hn Within.nil (by simp) fun h' tk' i1 i2 i3=>?_
 obtain ⟨dx,e1,e2⟩:=i3 _ he
 have hdz:s2.heap.objs.size≤dx:=by
  rcases e2 with z | ⟨_,z⟩
  ·cases z
  ·exact z
 have hdH:H2 dx=none:=I2.hok.fresh hdz
 have hde:dx ≠ e:=fun z=>absurd (DV he) (by rw [← z]; exact Nat.not_lt.mpr hdz)
 have kp:∀ b ob,b ≠ e→s2.heap.get? b=some ob→h'.get? b=some ob:=fun b ob hb z=>i2 b ob hb (fun o0 d0 z1 z2=>by rw [he] at z1; cases z1; cases z2) z
 have hns:h'.Ns1 dx (fun g=>if g=f then some u else none):=by
  obtain ⟨o',a1,a2,a3,a4⟩:=i1
  rw [e1] at a1; cases a1
  rcases a4 with ⟨z,_⟩ | ⟨d',z1,z2,z3⟩
  ·cases z
  ·cases z1; exact z3
 have nd:∀ b ob,H2 b=some ob→b ≠ dx:=fun b ob z w=>by rw [w,hdH] at z; cases z
 have I3:Inv X pins σ (upd (upd H2 e (.ext (er1 e C t dx))) dx (.xd [(f,y)])) { s2 with heap:=h',toks:=tk' }:=by
  refine I2.un ⟨fun b ob z n _ _=>?_,fun b ob z n _ _=>?_,fun b ob z n _=>?_,fun b ob z _=>?_,fun b xs z=>?_,fun b ob xs z=>?_,fun b ps z=>?_⟩ fun b u' z=>?_
  ·exact kp b ob (fun w=>by rw [w,ee] at n; cases n) z
  ·exact ⟨ob.slots,kp b ob (fun w=>by rw [w,ee] at n; cases n) z⟩
  ·rw [am (D5 (D7 (DV z) hdz)),am (fun w=>by rw [w,ee] at n; cases n)]; exact n
  ·by_cases hb:b=e
   ·rw [hb]; exact ⟨_,e1⟩
   ·exact ⟨ob,kp b ob hb z⟩
  ·rw [am (nd b _ z),am (fun w=>by rw [w,ee] at z; cases z)]; exact z
  ·rw [am (nd b _ z),am (fun w=>by rw [w,ee] at z; cases z)]; exact z
  ·exact ⟨#[],by rw [am (nd b _ z),am (fun w=>by rw [w,ee] at z; cases z),z]; simp⟩
  ·by_cases hb:b=dx
   ·subst hb
    rw [ar] at z
    cases z
    refine ⟨_,hns,fun g=>?_⟩
    show d9 (List.lookup g [(f,y)]) (if g=f then some u else none)
    by_cases hg:g=f
    ·subst hg; rw [if_pos rfl]; simp [d9,ry]
    ·rw [if_neg hg]
     have:(g == f)=false:=by simpa using hg
     simp [List.lookup,this,d9]
   ·rw [am hb] at z
    by_cases hb2:b=e
    ·subst hb2
     rw [ar] at z
     cases z
     exact ⟨e1,⟨_,e1⟩,fun h1 h2 z1 z2=>z2 _ z1⟩
    ·rw [am hb2] at z
     refine (I2.hok b u' z).stay (fun c v hc w=>kp c v (fun z3=>?_) w) (fun c w=>?_) fun c xs w=>?_
     ·rcases hc with rfl | hc
      ·exact hb2 z3
      ·rw [z3,ee] at hc; cases hc
     ·rw [am (nd c _ w),am (fun z3=>by rw [z3,ee] at w; cases w)]; exact w
     ·rw [am (nd c _ w),am (fun z3=>by rw [z3,ee] at w; cases w)]; exact w
 exact ⟨σ,_,I3,q2 dx hdH hde⟩
end
def bmV:List Value:=[.type "ValueError",.type "Exception",.type "BaseException",.type "object"]
def li (K:PySem.W.Frag) (C fI:Addr):Bool:=match K.lookup C with
 | some ⟨.type "type",_,.cls cd,sl⟩=>(match cd.mro,sl.toList with
  | .ref C' :: bm,[_,_,_,_,some (.builtin n),_]=>C' == C && (n == "ValueError.__new__" && (!cd.hasDel && (PySem.W.tailIn K bmV bm && (PySem.W.nsOkIn K cd.ns && PySem.W.nsIn K cd.ns "__init__" == some (some (.ref fI))))))
  | _,_=>false)
 | _=>false
theorem yI {K:PySem.W.Frag}{h:Heap}{N:Addr}{m:Str→Option Value}{n:Str}{v:Value} (X:K.In h) (G:h.Ns N m) (z:PySem.W.nsIn K N n=some (some v)):m n=some v:=by
 obtain ⟨ob,es,ep,hob,hdt,_,hfind⟩:=G
 unfold PySem.W.nsIn at z
 split at z
 ·rename_i c d es' n' sl q
  have w:=X _ _ q
  rw [hob] at w
  cases w
  cases hdt
  split at z
  ·rename_i en hen
   cases z
   rw [← hfind]
   unfold nsFind findBy
   rw [← Array.find?_toList,hen]; rfl
  ·split at z <;> cases z
 ·cases z
theorem nh {K:PySem.W.Frag}{h:Heap}{C fI:Addr} (X:K.In h) (q:li K C fI=true):∃ nm qn N bs bm hdct sn sub ab col dd k0 k1 k2 k3 k5 mN,h.get? C=some (excClassObj nm qn C N bs bm hdct sn sub ab col dd k0 k1 k2 k3 k5 "ValueError.__new__")∧h.Ns N mN∧mN "__init__" = some (.ref fI)∧OwnTail h bmV bm:=by
 unfold li at q
 split at q
 ·rename_i dd cd sl ho
  split at q
  ·rename_i C' bm k0 k1 k2 k3 n k5 hm hs
   simp only [D8,beq_iff_eq,Gi] at q
   obtain ⟨q1,q2,hdel,ht,hok,hni⟩:=q
   subst q1 q2
   obtain ⟨nm,bs,mro,ns,qn,hd,sn,sub,ab,col,del⟩:=cd
   dsimp only at hm hdel hok hni
   subst hm hdel
   have hsl:sl=#[k0,k1,k2,k3,some (.builtin "ValueError.__new__"),k5]:=by
    obtain ⟨l⟩:=sl
    simp only at hs
    rw [hs]
   subst hsl
   have hN:h.Ns ns (h.nsMap ns):=.of_isNs (PySem.W.isNs_of_in X hok)
   exact ⟨nm,qn,ns,bs,bm,hd,sn,sub,ab,col,dd,k0,k1,k2,k3,k5,_,X _ _ ho,hN,yI X hN hni,PySem.W.tail_of_in X ht⟩
  ·cases q
 ·cases q
section
variable {M:Model}{A:Around}{E:Value→Shared→Prop}{env:Env}{s:Shared}
variable {nm q:Str}{C N:Addr}{bs bm:List Value}{hdct:Bool}{sn:List Str}{sub:List Value}{ab:Bool}{col:Option Bool}{dd:Option Addr}{k0 k1 k2 k3 k5:Option Value}{newId:String}
theorem qa {x:Sem Value}{Q:Flow→Shared→Prop} (hbase:bm.contains (.type "BaseException")=true) (hh:A.handled=none)
  (h:wpAny M A x (fun v s1=>∃ e o vs,v=.ref e∧s1.heap.get? C=some (excClassObj nm q C N bs bm hdct sn sub ab col dd k0 k1 k2 k3 k5 newId)∧s1.heap.get? e=some o∧o.cls=.ref C∧o.data=.fields vs∧vs[1]? = some .none∧E (.ref e) s1) E s) :
  wpAny M A (raiseStmt env (some x) none) Q E s:=by
 have hcB:(Value.ref C :: bm).contains (.type "BaseException")=true:=by rw [List.contains_cons,hbase,GA]
 unfold raiseStmt
 refine DP (Eo h (fun v s1 z=>?_) fun _ _ z=>z)
 obtain ⟨e,o,vs,rfl,hC,he,hcl,hd,h1,hE⟩:=z
 obtain ⟨hp,g,d,tk,os⟩:=s1
 repeat (first | (with_reducible refine EG he ?_; rw [hcl]) | with_reducible refine EG hC ?_ | (with_reducible refine wpAny_isSubtype_exc hC ?_; rw [hcB]) | with_reducible refine EK he hd h1 ?_ | wp_step)
 exact wpAny_raiseNew_none hh hE
end
def rmH (H:Hp) (e:Addr):Hp:=fun b=>if b=e then none else H b
theorem cC {H:Hp}{e b:Addr} (h:b ≠ e):rmH H e b=H b:=if_neg h
theorem dZ {H:Hp}{e:Addr}:rmH H e e=none:=if_pos rfl
theorem Inv.untrack {X:Cx}{pins:List (Addr×Obj)} {σ:St}{H:Hp}{s:Shared}{e:Addr} {φ:Heap→Prop} (I:Inv X pins σ H s) (he:H e=some (.ext φ)):Inv X pins σ (rmH H e) s:=by
 have ne:∀ b u,H b=some u→(∀ ψ,u ≠ .ext ψ)→b ≠ e:=fun b u z n w=>by rw [w,he] at z; cases z; exact n φ rfl
 have J:=I.un (t':=s.toks) (H':=rmH H e) (h':=s.heap) ⟨fun b o z _ _ _=>z,fun b o z _ _ _=>⟨o.slots,z⟩,fun b o z n _=>?_,fun b o z _=>⟨o,z⟩,fun b xs z=>?_,fun b o xs z=>?_,fun b ps z=>?_⟩ fun b u z=>?_
 ·exact J
 ·by_cases hb:b=e
  ·rw [hb]; exact dZ
  ·rw [cC hb]; exact n
 ·rw [cC (ne b _ z fun ψ w=>by cases w)]; exact z
 ·rw [cC (ne b _ z fun ψ w=>by cases w)]; exact z
 ·exact ⟨#[],by rw [cC (ne b _ z fun ψ w=>by cases w),z]; simp⟩
 ·have hb:b ≠ e:=fun w=>by rw [w,dZ] at z; cases z
  rw [cC hb] at z
  refine (I.hok b u z).stay (fun c v _ w=>w) (fun c w=>?_) fun c xs w=>?_
  ·rw [cC (ne c _ w fun ψ z=>by cases z)]; exact w
  ·rw [cC (ne c _ w fun ψ z=>by cases z)]; exact w
def spI (C:Addr) (f:Str):Sp:=fun vs H Q _=>∃ e t v,vs=[V.ref e,v]∧H e=some (.ext (er0 e C t))∧∀ dx,H dx=none→dx ≠ e→Q .non (upd (upd H e (.ext (er1 e C t dx))) dx (.xd [(f,v)]))
theorem yZ {K:PySem.W.Frag}{C fI:Addr} (q:li K C fI=true):∃ o,K.lookup C=some o:=by
 unfold li at q
 split at q
 ·rename_i z; exact ⟨_,z⟩
 ·cases q
section
variable {X:Cx}{k:Nat}{fI C:Addr}{fd:FuncData}{f p x:Str}{np cpos pos:Pos}{arg:Expr}{t:TA}
theorem tD (hq:li X.K C fI=true) (F:br X.prog X.w X.K X.mg X.base CX0 k fI fd ["self",p] (spI C f)) (hb:bz X.K fd ["self",p] []) (hfn:PySem.W.isFn X.K (.ref fI)=true) (hr:cW (k + 1) X.A) (hc:X.calm=true)
  (hg:Gl X x) (hm:X.mg x=some (.ref C)) (hk:PySem.W.keepIn X.K (.ref C)=true) (ha:PA X.nox [arg] t) (hdb:(x == ("__debug__" : Str))=false:=by decide) (he:starEach [arg] X.env=(false,eval arg X.env) :: starEach [] X.env:=by rfl) (hpl:(backTo cpos (starEach [] X.env)).any (·.1)=false:=by rfl) :
  PSX X (.Raise (some (.Call (.Name x np) [arg] [] cpos)) none pos) (fun D W σ H=>t σ H fun vs H1=>∃ v,vs=[v]∧∀ dx,H1 dx=none→W σ (.ref C) (some dx) (upd H1 dx (.xd [(f,v)]))):=by
 intro pins s σ H D W xe I h hx
 obtain ⟨nm,qn,N,bs,bm,hdct,sn,sub,ab,col,dd,k0,k1,k2,k3,k5,mN0,hC0,_,_,T0⟩:=nh I.kIn hq
 have hbase:bm.contains (.type "BaseException")=true:=T0.hasType (F8).hasBase
 rw [arm_exec_Raise]
 refine DP (FP (qa (C:=C) (nm:=nm) (q:=qn) (N:=N) (bs:=bs) (bm:=bm) (hdct:=hdct) (sn:=sn) (sub:=sub) (ab:=ab) (col:=col) (dd:=dd) (k0:=k0) (k1:=k1) (k2:=k2) (k3:=k3) (k5:=k5) (newId := "ValueError.__new__") hbase (I.ok.hd hc) ?_))
 refine DP (Eo (Fg (im I hg hm ?_ hdb)) (fun v s3 z=>DP (FP (DS z))) fun _ _ z=>z)
 refine GG (h₀:=X.base) I.ok.mod.kin hk (Eo (ha cpos pins s σ H _ (I.wish _) h) (fun us s1 ⟨vs,H1,I1,r,v,hvs,q⟩=>⟨I1.unwish.kIn,?_⟩) fun _ _ z=>False.elim z) he hpl
 have I1:=I1.unwish
 subst hvs
 obtain ⟨u,rv,rfl⟩:∃ u,aX v u∧us=[u]:=by
  cases r with
  | cons a b=>cases b; exact ⟨_,a,rfl⟩
 obtain ⟨oC,hoC⟩:=yZ hq
 have sameC:∀ s':Shared,X.K.In s'.heap→s'.heap.get? C=s.heap.get? C:=fun s' z=>(z _ _ hoC).trans (I.kIn _ _ hoC).symm
 obtain ⟨nm1,qn1,N1,bs1,bm1,hdct1,sn1,sub1,ab1,col1,dd1,j0,j1,j2,j3,j5,mN1,hC1,hN1,hi1,T1⟩:=nh I1.kIn hq
 obtain ⟨oI,hoI,hclI⟩:∃ oI,s1.heap.get? fI=some oI∧oI.cls=.type "function" := by
  have z:PySem.W.typeIn X.K (.ref fI)=some (.type "function"):=beq_iff_eq.mp hfn
  obtain ⟨o,w1,w2⟩:=Option.map_eq_some_iff.mp z
  exact ⟨o,I1.kIn _ _ w1,w2⟩
 have hz:X.s₀.heap.objs.size≤s1.heap.objs.size:=I1.sz
 have hpin:∀ p ∈ X.pn ++ pins,p.1 < s1.heap.objs.size:=fun p hp=>DV (I1.pin p hp).1
 have hHe:H1 (s1.heap.objs.size + 1)=none:=I1.hok.fresh (F7 _)
 obtain ⟨hh,g,dr,tk,os⟩:=s1
 show wpAny _ _ (call (.ref C) [u]) _ _ _
 refine wS (F8) T1 hC1 hN1 hi1 hoI hclI ?_ (by rw [Gc]; simp)
 have he2:((hh.push { cls:=.type "tuple",data:=.seq [u].toArray }).push (d7 C hh.objs.size)).get? (hh.objs.size + 1)=some (d7 C hh.objs.size):=by heap_get
 have I2:Inv X pins σ (upd H1 (hh.objs.size + 1) (.ext (er0 (hh.objs.size + 1) C hh.objs.size))) ⟨(hh.push { cls:=.type "tuple",data:=.seq [u].toArray }).push (d7 C hh.objs.size),g,dr,tk,os⟩ :=
  I1.laid (t':=tk) (fun b o z=>DQ _ (DQ _ z)) (F7 _) ⟨he2,⟨_,he2⟩,fun h1 h2 z1 z2=>z2 _ z1⟩
 have hsp:spI C f [V.ref (hh.objs.size + 1),v] (upd H1 (hh.objs.size + 1) (.ext (er0 (hh.objs.size + 1) C hh.objs.size))) (fun r H'=>r=.non∧∃ dx,H1 dx=none∧dx ≠ hh.objs.size + 1∧H'=upd (upd (upd H1 (hh.objs.size + 1) (.ext (er0 (hh.objs.size + 1) C hh.objs.size))) (hh.objs.size + 1) (.ext (er1 (hh.objs.size + 1) C hh.objs.size dx))) dx (.xd [(f,v)])) E0 :=
  ⟨_,_,v,rfl,ar,fun dx z1 z2=>⟨rfl,dx,by rw [am z2] at z1; exact z1,z2,rfl⟩⟩
 have hb':=hb ⟨(hh.push { cls:=.type "tuple",data:=.seq [u].toArray }).push (d7 C hh.objs.size),g,dr,tk,os⟩ [.ref (hh.objs.size + 1),u] I2.kIn rfl
 refine GS (Fw (F.run _ X.stack _ _ ⟨[.ref (hh.objs.size + 1),u],[]⟩ [.ref (hh.objs.size + 1),u] [V.ref (hh.objs.size + 1),v] _ E0 (hr.make C [u] []) (I2.env0.make C [u] []) hb' (.cons rfl (.cons rv .nil)) hsp) fun r s' hq'=>?_)
 cases r with
 | error e=>exact False.elim hq'
 | ok fl =>
  cases fl with
  | ret w =>
   obtain ⟨v',H',I3,rv',ev,dx,d1,d2,eH⟩:=I2.after hq'
   subst ev
   have hHe':H' (hh.objs.size + 1)=some (.ext (er1 (hh.objs.size + 1) C hh.objs.size dx)):=by rw [eH,am (Ne.symm d2),ar]
   have hobj:s'.heap.get? (hh.objs.size + 1)=some { d7 C hh.objs.size with dict:=some dx }:=(I3.hok _ _ hHe').1
   have I4:=I3.untrack hHe'
   have eR:rmH H' (hh.objs.size + 1)=upd H1 dx (.xd [(f,v)]):=by
    funext b
    by_cases hb0:b=hh.objs.size + 1
    ·rw [hb0,dZ,am (Ne.symm d2)]; exact hHe.symm
    ·rw [cC hb0,eH]
     by_cases hb1:b=dx
     ·rw [hb1,ar,ar]
     ·rw [am hb1,am hb1,am hb0,am hb0]
   rw [eR] at I4
   refine ⟨rv',hh.objs.size + 1,_,_,rfl,(sameC s' I3.kIn).trans hC0,hobj,rfl,rfl,rfl,hx _ _ ⟨σ,hh.objs.size + 1,C,dx,{ d7 C hh.objs.size with dict:=some dx },_,rfl,I4,.inl ⟨_,hobj,rfl⟩,⟨rfl,rfl,d2,?_,D1 hz (F7 _)⟩,fun p hp z=>?_,q dx d1⟩⟩
   ·rw [am (Ne.symm d2)]; exact hHe
   ·have:=hpin p hp
    rw [z] at this
    exact absurd this (Nat.not_lt.mpr (F7 _))
  | next=>exact False.elim hq'
  | brk=>exact False.elim hq'
  | cont=>exact False.elim hq'
end
def Cx.hnd (X:Cx) (a:Addr) (oe:Obj):Cx:={ X with A:=X.A.mark (some (.ref a)),calm:=false,pn:=(a,oe) :: X.pn,xe:=fun _ _=>False }
def Cx.hnd2 (X:Cx) (a:Addr) (oe:Obj) (dx:Addr) (od:Obj):Cx:={ X.hnd a oe with pn:=(a,oe) :: (dx,od) :: X.pn }
def iN (dx:Addr) (od:Obj) (vs:List (Str×V)):Prop:=∃ mA,(∀ h:Heap,h.get? dx=some od→h.Ns1 dx mA)∧∀ f,d9 (vs.lookup f) (mA f)
section
variable {X:Cx}{pins:List (Addr×Obj)} {σ:St}{H:Hp}{s:Shared}{a:Addr}{oe:Obj}
theorem Inv.untrackX {e:Addr}{vs:List (Str×V)} (I:Inv X pins σ H s) (he:H e=some (.xd vs)):Inv X pins σ (rmH H e) s:=by
 have ne:∀ b u,H b=some u→(∀ ψ,u ≠ .xd ψ)→b ≠ e:=fun b u z n w=>by rw [w,he] at z; cases z; exact n vs rfl
 have J:=I.un (t':=s.toks) (H':=rmH H e) (h':=s.heap) ⟨fun b o z _ _ _=>z,fun b o z _ _ _=>⟨o.slots,z⟩,fun b o z n _=>?_,fun b o z _=>⟨o,z⟩,fun b xs z=>?_,fun b o xs z=>?_,fun b ps z=>?_⟩ fun b u z=>?_
 ·exact J
 ·by_cases hb:b=e
  ·rw [hb]; exact dZ
  ·rw [cC hb]; exact n
 ·rw [cC (ne b _ z fun ψ w=>by cases w)]; exact z
 ·rw [cC (ne b _ z fun ψ w=>by cases w)]; exact z
 ·exact ⟨#[],by rw [cC (ne b _ z fun ψ w=>by cases w),z]; simp⟩
 ·have hb:b ≠ e:=fun w=>by rw [w,dZ] at z; cases z
  rw [cC hb] at z
  refine (I.hok b u z).stay (fun c v _ w=>w) (fun c w=>?_) fun c xs w=>?_
  ·rw [cC (ne c _ w fun ψ z=>by cases z)]; exact w
  ·rw [cC (ne c _ w fun ψ z=>by cases z)]; exact w
theorem Inv.hnd (I:Inv X pins σ H s) {vs:Array Value} (he:s.heap.get? a=some oe) (hd:oe.data=.fields vs) (hH:H a=none):Inv (X.hnd a oe) pins σ H s:=by
 obtain ⟨q1,q2,q3⟩:=I.recd he hd
 have nf:a ∉ X.fs:=fun z=>by
  obtain ⟨_,o',ho,hnf⟩:=I.funs.mem z
  rw [he] at ho; cases ho
  exact hnf vs hd
 refine ⟨⟨I.ok.mod,I.ok.kind,I.ok.glob,I.ok.blt,I.ok.above,I.ok.inj,I.ok.has,I.ok.cab,fun z=>(by cases z),I.ok.frames,I.ok.stk,I.ok.exf,I.ok.bs,I.ok.bsz,I.ok.noex,I.ok.exfs,I.ok.funs,I.ok.frf⟩,I.os,I.bare,I.base,I.loc,I.cell,I.free,I.freeC,fun p hp=>?_,I.hok,I.len⟩
 rcases List.mem_cons.mp hp with rfl | hp
 ·exact ⟨he,hH,q1,nf,fun v z=>by rw [hd] at z; cases z⟩
 ·exact I.pin p hp
theorem Inv.hnd2 (I:Inv X pins σ H s) {vs:Array Value}{dx:Addr}{fs:List (Str×V)} (he:s.heap.get? a=some oe) (hd:oe.data=.fields vs) (hH:H a=none) (hx:H dx=some (.xd fs)):∃ od,iN dx od fs∧Inv (X.hnd2 a oe dx od) pins σ (rmH H dx) s:=by
 obtain ⟨mA,⟨od,es,ep,e1,e2⟩,hr⟩:=I.hok dx _ hx
 have I2:=I.untrackX hx
 obtain ⟨q1,q2,q3⟩:=I.recd he hd
 have nf:a ∉ X.fs:=fun z=>by
  obtain ⟨_,o',ho,hnf⟩:=I.funs.mem z
  rw [he] at ho; cases ho
  exact hnf vs hd
 have ndx:dx ∉ X.fs:=fun z=>by
  obtain ⟨_,o',ho,_⟩:=I.ok.funs.mem z
  have w:=I.base.free dx o' ho (I.ok.frf dx z) fun y=>I.ok.exfs dx y z
  rw [hx] at w; cases w
 have hane:a ≠ dx:=fun z=>by rw [← z,hH] at hx; cases hx
 refine ⟨od,⟨mA,fun h z=>⟨od,es,ep,z,e2⟩,hr⟩,?_⟩
 refine ⟨⟨I.ok.mod,I.ok.kind,I.ok.glob,I.ok.blt,I.ok.above,I.ok.inj,I.ok.has,I.ok.cab,fun z=>(by cases z),I.ok.frames,I.ok.stk,I.ok.exf,I.ok.bs,I.ok.bsz,I.ok.noex,I.ok.exfs,I.ok.funs,I.ok.frf⟩,I2.os,I2.bare,I2.base,I2.loc,I2.cell,I2.free,I2.freeC,fun p hp=>?_,I2.hok,I2.len⟩
 rcases List.mem_cons.mp hp with rfl | hp
 ·exact ⟨he,by rw [cC hane]; exact hH,q1,nf,fun v z=>by rw [hd] at z; cases z⟩
 ·rcases List.mem_cons.mp hp with rfl | hp
  ·exact ⟨e1,dZ,fun z=>(by rw [show dx=X.env.locals from z,I.free] at hx; cases hx),ndx,fun v z=>by rw [e2.1] at z; cases z⟩
  ·exact I2.pin p hp
theorem Inv.unhnd2 {dx:Addr}{od:Obj} (ok:X.Ok) (I:Inv (X.hnd2 a oe dx od) pins σ H s):Inv X pins σ H s :=
 ⟨ok,I.os,I.bare,I.base,I.loc,I.cell,I.free,I.freeC,fun p hp=>I.pin p (D0 _ (D0 _ hp)),I.hok,I.len⟩
theorem gq {M:Model}{A:Around}{E:Value→Shared→Prop}{i:Nat}{x:Str}{pos:Pos}{Q:Unit→Shared→Prop} (I:Inv X pins σ H s) (hN:X.N.Nodup) (hi:X.N[i]? = some x) (hx:X.env.scope.names.lookup x=some .local)
  (h:∀ s',Inv X pins (σ.set i none) H s'→Q () s'):wpAny M A (do bindName X.env x .none; unbindBehindTheSuite X.env x pos) Q E s:=by
 obtain ⟨m,hn,hl⟩:=id I.loc
 have hcls:(X.env.scope.kind == .class || (X.env.scope.kind == .module && X.env.locals != X.env.globals))=false:=by rw [I.ok.kind]; rfl
 obtain ⟨oL,_,_,hoL,_⟩:=id hn
 refine wpAny_nameGoes_keeps hx hn hcls fun h' v hn' hs=>h _ ?_
 have lt:∀ b o,X.s₀.heap.get? b=some o→b ≠ X.env.locals:=fun b o e=>D5 (D7 (DV e) I.ok.above)
 refine ⟨I.ok,I.os,I.bare,⟨fun b o e n hb hx=>(hs.2 b (lt b o e)).trans (I.base.keep b o e n hb hx),fun b o e n hb hx=>?_,I.base.free,fun b o e hx=>?_,I.base.tups,I.base.frzs,I.base.tbls⟩,⟨_,hn',fun j y v' e1 e2 e3=>?_⟩,fun y c e=>?_,I.free,I.freeC,fun p hp=>?_,fun b ob e=>?_,by simpa using I.len⟩
 ·obtain ⟨sl,e1⟩:=I.base.slot b o e n hb hx
  exact ⟨sl,(hs.2 b (lt b o e)).trans e1⟩
 ·obtain ⟨o',e1⟩:=I.base.there b o e hx
  exact ⟨o',(hs.2 b (lt b o e)).trans e1⟩
 ·have hj:j ≠ i:=fun z=>by
   subst z
   have hlt:j < σ.length:=by rw [I.len]; exact (List.getElem?_eq_some_iff.mp e1).1
   rw [FM hlt] at e2
   cases e2
  rw [D2 (Ne.symm hj)] at e2
  obtain ⟨u',r',q⟩:=hl j y v' e1 e2 e3
  refine ⟨u',r',?_⟩
  rcases q with ⟨k,e⟩ | ⟨k,c,e,z⟩
  ·refine .inl ⟨k,?_⟩
   have:y ≠ x:=fun e=>hj (ko hN e1 (e ▸ hi))
   simp [this,e]
  ·exact .inr ⟨k,c,e,z.sameBut hs (I.cne y c e)⟩
 ·obtain ⟨w',z⟩:=I.cell y c e
  exact ⟨w',z.sameBut hs (I.cne y c e)⟩
 ·obtain ⟨e,n,ne,nf,d⟩:=I.pin p hp
  exact ⟨(hs.2 p.1 ne).trans e,n,ne,nf,d⟩
 ·refine (I.hok b ob e).stay (fun c w' hc q=>(hs.2 c ?_).trans q) (fun _ q=>q) fun _ _ q=>q
  intro z
  subst z
  rcases hc with hc | hc
  ·rw [← hc,I.free] at e; cases e
  ·rw [I.free] at hc; cases hc
end
section
variable {X:Cx}{body suite:List Stmt}{b₀:Stmt}{cn en:Str}{C fI:Addr}{i:Nat}{np hpos pos:Pos}{tb:TSX}{th:Addr→List (Str×V)→TS}
def iM (i:Nat) (D:d_):d_:=⟨fun σ H=>D.nx (σ.set i none) H,D.rt,fun σ H=>D.bk (σ.set i none) H,fun σ H=>D.ct (σ.set i none) H⟩
theorem SP.gone {M:Model}{A:Around}{E:Value→Shared→Prop}{pins:List (Addr×Obj)} {a dx:Addr}{oe od:Obj}{D:d_}{f:Flow}{s:Shared} (ok:X.Ok) (hN:X.N.Nodup) (hi:X.N[i]? = some en) (hl:X.env.scope.names.lookup en=some .local)
  (h:SP (X.hnd2 a oe dx od) pins (iM i D) f s):wpAny M A (do bindName X.env en .none; unbindBehindTheSuite X.env en pos) (fun _ s5=>SP X pins D f s5) E s:=by
 cases f with
 | next=>obtain ⟨σ',H',I,q⟩:=h; exact gq (I.unhnd2 ok) hN hi hl fun s' J=>⟨_,H',J,q⟩
 | brk=>obtain ⟨σ',H',I,q⟩:=h; exact gq (I.unhnd2 ok) hN hi hl fun s' J=>⟨_,H',J,q⟩
 | cont=>obtain ⟨σ',H',I,q⟩:=h; exact gq (I.unhnd2 ok) hN hi hl fun s' J=>⟨_,H',J,q⟩
 | ret u=>obtain ⟨v,σ',H',I,r,q⟩:=h; exact gq (I.unhnd2 ok) hN hi hl fun s' J=>⟨v,_,H',J,r,q⟩
def WH (C:Addr) (i:Nat) (th:Addr→List (Str×V)→TS) (D:d_):XW:=fun σ c d H=>∃ dx fs,c=.ref C∧d=some dx∧H dx=some (.xd fs)∧∀ a,H a=none→th a fs (iM i D) (σ.set i (some (.ref a))) (rmH H dx)
theorem Aw (hb:iH X body tb) (hst:X.stack=X.env :: X.outer) (hfr:X.env.frame=some X.env.locals) (hq:li X.K C fI=true) (hg:Gl X cn) (hm:X.mg cn=some (.ref C)) (hN:X.N.Nodup) (hi:X.N[i]? = some en) (hl:X.env.scope.names.lookup en=some .local)
  (hs:∀ (a dx:Addr) (oe od:Obj) (vs:Array Value) (fs:List (Str×V)),oe.cls=.ref C→oe.dict=some dx→oe.data=.fields vs→dx ≠ a→iN dx od fs→PSs (X.hnd2 a oe dx od) (b₀ :: suite) (th a fs)) (hf:X.fn en=true∨X.env.scope.names.lookup en=some .local:=by exact .inr (by assumption)) (hdb:(cn == ("__debug__" : Str))=false:=by decide) :
  PS X (.Try body [.ExceptHandler (some (.Name cn np)) (some en) (b₀ :: suite) hpos] [] [] pos) (fun D σ H=>tb D (WH C i th D) σ H):=by
 intro pins s σ H D I h
 have ok:=I.ok
 have pass:∀ (f:Flow) (s1:Shared),SP X pins D f s1→(match f with | .next=>wpAny (model X.prog X.w) X.A (execs [] X.env) (SP X pins D) X.xe s1 | f=>SP X pins D f s1):=fun f s1 q=>by
  cases f with
  | next=>exact FQ q
  | ret v=>exact q
  | brk=>exact q
  | cont=>exact q
 refine wpAny_Try_except (Eo (hb pins s σ H D (WH C i th D) _ I h fun e s' x=>x) pass fun e s1 x=>?_)
 obtain ⟨σ1,a,C',dx,o0,H1,rfl,I1,er,eo,hp,dx',fs,hc,hd,hxd,hw⟩:=x
 cases hc
 cases hd
 have landed:∀ (h4:Heap) (T:Addr),Inv X pins σ1 H1 { s1 with heap:=h4 }→Fly h4 o0 a T (rawInt X.env.locals)→H1 T=none→X.s₀.heap.objs.size≤T→(∀ p ∈ X.pn ++ pins,p.1 ≠ T) →
   wpAny (model X.prog X.w) X.A (setFlight (.ref a) none) (fun _ s3=>wpAny (model X.prog X.w) X.A (handleBy (.ref a) X.env [.ExceptHandler (some (.Name cn np)) (some en) (b₀ :: suite) hpos]) (SP X pins D) X.xe s3) X.xe { s1 with heap:=h4 }:=by
  intro h4 T I4 f4 hT1 hT2 hT3
  refine dh (s:={ s1 with heap:=h4 }) f4 fun h5 k5 _ f5=>?_
  have I5:Inv X pins σ1 H1 { s1 with heap:=h5 }:=Inv.kp (s:={ s1 with heap:=h4 }) (ch:=[T]) I4 (k5.wide (fun _ z=>by cases z) fun _ z=>z) fun b hb=>by
   rw [List.mem_singleton.mp hb]
   exact ⟨hT2,f4.recd.2,hT3,hT1⟩
  obtain ⟨vs5,oT5,ts5,g1,g2,g3,g4,g5,g6⟩:=id f5
  have Ih:=I5.hnd (a:=a) g1 rfl eo.free
  refine wpAny_handleBy_cons (codeAny_handlers_test (im (X:=X.hnd a _) Ih hg hm ?_ hdb)) (by intro q; cases q)
  obtain ⟨nm,qn,N,bs,bm,hdct,sn,sub,ab,col,dd,k0,k1,k2,k3,k5',mN,hC,_,_,T0⟩:=nh I5.kIn hq
  have hbase:bm.contains (.type "BaseException")=true:=T0.hasType (F8).hasBase
  obtain ⟨hh1,gg,dr,tk,os⟩:=s1
  refine wpAny_excMatches_sub_self hC g1 eo.cls hbase ?_
  refine codeAny_handlers_suite_as (dh (s:=⟨h5,gg,dr,tk,os⟩) f5 fun h6 k6 _ f6=>?_)
  have I6:Inv X pins σ1 H1 ⟨h6,gg,dr,tk,os⟩:=Inv.kp (s:=⟨h5,gg,dr,tk,os⟩) (ch:=[T]) I5 (k6.wide (fun _ z=>by cases z) fun _ z=>z) fun b hb=>by
   rw [List.mem_singleton.mp hb]
   exact ⟨hT2,f5.recd.2,hT3,hT1⟩
  obtain ⟨vs6,oT6,ts6,r1,_⟩:=id f6
  obtain ⟨od,hdh,Ih6⟩:=I6.hnd2 (a:=a) r1 rfl eo.free hxd
  refine dW (X:=X.hnd2 a _ dx od) Ih6 hN hi (.inl hl) (v:=V.ref a) rfl (fun s7 I7=>?_) hf
  exact Eo (hs a dx { o0 with data:=.fields vs6 } od vs6 fs eo.cls eo.dict rfl eo.ne hdh pins s7 _ _ (iM i D) I7 (hw a eo.free)) (fun f s8 q=>q.gone ok hN hi hl) fun _ _ z=>False.elim z
 have hA:X.A.frames=some (X.env :: X.outer):=by rw [← hst]; exact ok.frames
 have hF:s1.heap.FunFrames X.base (X.env :: X.outer):=by rw [← hst]; exact I1.stack
 have hz:=I1.sz
 have pinT:∀ T,s1.heap.objs.size≤T→∀ p ∈ X.pn ++ pins,p.1 ≠ T:=fun T hT p hp z=>absurd (DV (I1.pin p hp).1) (by rw [z]; exact Nat.not_lt.mpr hT)
 rcases er with ⟨vs,q1,q2⟩ | ⟨T,fl,hf1,rfl | rfl,hT,hTz,hTp⟩
 ·refine gY (base:=X.base) hA hF hfr q1 q2 fun h4 T k4 z4 f4=>?_
  have I4:Inv X pins σ1 H1 { s1 with heap:=h4 }:=I1.kp (ch:=[a]) (by unfold frs; rw [hst]; exact k4) fun b hb=>by
   rw [List.mem_singleton.mp hb]
   exact ⟨eo.new,⟨_,vs,q1,rfl⟩,hp,eo.free⟩
  exact landed h4 T I4 f4 (I1.hok.fresh z4) (D1 hz z4) (pinT T z4)
 ·refine iU (base:=X.base) hA hF hfr hf1 fun h4 T' k4 z4 f4=>?_
  have I4:Inv X pins σ1 H1 { s1 with heap:=h4 }:=I1.kp (ch:=[a,T]) (by unfold frs; rw [hst]; exact k4) fun b hb=>by
   rcases List.mem_cons.mp hb with rfl | hb
   ·exact ⟨eo.new,hf1.recd.1,hp,eo.free⟩
   ·rw [List.mem_singleton.mp hb]
    exact ⟨hTz,hf1.recd.2,hTp,hT⟩
  exact landed h4 T' I4 f4 (I1.hok.fresh z4) (D1 hz z4) (pinT T' z4)
 ·exact km hfr hf1 (landed s1.heap T I1 hf1 hT hTz hTp)
end
section
variable {X:Cx}{a dx C:Addr}{oe od:Obj}{vs:Array Value}{fs:List (Str×V)} {cd:ClassData}{e:Expr}{f:Str}{ta:TE}{pos:Pos}
theorem yu (hc:oe.cls=.ref C) (hd:oe.dict=some dx) (hdata:oe.data=.fields vs) (hne:dx ≠ a) (xc:kZ X.K C cd) (hn:PySem.W.findIn X.K (.ref C) f=some none) (hdh:iN dx od fs) (he:PE (X.hnd2 a oe dx od) e ta) (hb:attributeBase e f X.env (eval e X.env)=eval e X.env:=by rfl) :
  PE (X.hnd2 a oe dx od) (.Attribute e f pos) (fun σ H Q=>ta σ H fun x H1=>x=.ref a∧∃ v,fs.lookup f=some v∧Q v H1):=by
 intro pins s σ H Q I h
 refine zg hb (thn (he pins s σ H _ I h) fun u s1 z=>?_)
 obtain ⟨x,H1,I1,rx,ex,v,hl,q⟩:=z
 subst ex
 obtain rfl:u=Value.ref a:=rx
 have hp:=(I1.pin (a,oe) (D3 ..)).1
 obtain ⟨mA,hns,hr⟩:=hdh
 have hns:=hns s1.heap (I1.pin (dx,od) (D0 _ (D3 ..))).1
 obtain ⟨u',hu,ru⟩:=d9.some_of (v:=v) (o:=mA f) (by rw [← hl]; exact hr f)
 have hI:s1.heap.Inst a C mA:=⟨oe,hp,hc,fun c z=>(by rw [hdata] at z; cases z),.inr ⟨dx,hd,hne,hns⟩⟩
 have hk:=I1.kIn
 have hfin:∀ tk,EP (X.hnd2 a oe dx od) pins σ Q u' { s1 with toks:=tk }:=fun tk=>⟨v,H1,I1.tok tk,ru,q⟩
 obtain ⟨hh,g,dr,tk,os⟩:=s1
 exact wR hk hI xc.cls xc.hd xc.exc xc.ga xc.gt hn hu (PySem.W.handedOut_of (uq ru)) (hfin _)
end
section
variable {prog:Program}{w:World}{A:Around}{E:Value→Shared→Prop}{h:Heap}{g:Array GenState}{dr:Drawn}{t:Nat}{os:OsState}{K:PySem.W.Frag}{a C:Addr}{o:Obj}{cd:ClassData}
theorem lkS {M:Model}{base:Value}{r:Bool}{Q:Bool→Shared→Prop} (X:K.In h) (e:PySem.W.mroIn K C base=some r) (q:Q r ⟨h,g,dr,t,os⟩):wpAny M A (isSubtype (.ref C) base) Q E ⟨h,g,dr,t,os⟩:=PySem.W.looks_mroIn X e _ _ _ _ (fun _ _ z=>z) q
theorem uY {R:Result→Shared→Prop} (X:K.In h) (hx:h.get? a=some o) (hcl:o.cls=.ref C) (ho:PySem.W.mroIn K C (.type "object")=some true) (q:R (.ok (.ret (.ref C))) ⟨h,g,dr,t,os⟩) :
  codeAny (model prog w) A (.call (.builtin "getset_descriptor.__get__") ⟨[.builtin "object.__class__",.ref a,.ref C],[]⟩) R ⟨h,g,dr,t,os⟩:=by
 have hT5:(⟨h,g,dr,t,os⟩:Shared).TypeIs (.builtin "object.__class__") "getset_descriptor" := GI
 have hs:PySem.W.mroIn K C (.type (".".intercalate ("object.__class__".cutAt '.').dropLast))=some true:=by rw [F.owner_object_class]; exact ho
 refine FF F.slot_gs_get.plain F.entry_gs_get (F.slot_gs_get.check _ _ _ _ _ _ _ _ hT5 (F.args_gs_get _ _ _) ?_)
 repeat (any_goals (first | assumption | (with_reducible refine EG hx ?_; rw [hcl]) | with_reducible refine lkS X hs ?_ | wp_step))
 refine ⟨FW _ (by decide +kernel),EV F.entry_object_class ?_⟩
 repeat (any_goals (first | assumption | (with_reducible refine EG hx ?_; rw [hcl]) | wp_step))
theorem pQ {Q:Fin→Shared→Prop}{tk:Tok} (X:K.In h) (hx:h.get? a=some o) (hcl:o.cls=.ref C) (ho:PySem.W.mroIn K C (.type "object")=some true) (hc:PySem.W.findIn K (.ref C) "__class__" = some (some (.builtin "object.__class__")))
  (q:Q (.done (.ret (.ref C))) ⟨h,g,dr,t,os⟩):wpAny (model prog w) A (Builtin.«object.__getattribute__» ⟨[.ref a,.str "__class__" tk],[]⟩) Q E ⟨h,g,dr,t,os⟩:=by
 have hT5:(⟨h,g,dr,t,os⟩:Shared).TypeIs (.builtin "object.__class__") "getset_descriptor" := GI
 have c5:=GI
 have c6:=F.slot_gs_get.lookup
 have c7:=F.slot_gs_set.lookup
 repeat (any_goals (first | assumption | (with_reducible refine EG hx ?_; rw [hcl]) | with_reducible refine lkF X hc ?_ | wp_step))
 refine uY X hx hcl ho ?_
 repeat (any_goals (first | assumption | wp_step))
theorem xL {Q:Value→Shared→Prop}{tk:Tok}{fill expr:Bool} (X:K.In h) (hx:h.get? a=some o) (hcl:o.cls=.ref C) (ho:PySem.W.mroIn K C (.type "object")=some true) (hb:PySem.W.mroIn K C (.type "BaseException")=some true)
  (hc:PySem.W.findIn K (.ref C) "__class__" = some (some (.builtin "object.__class__"))) (hga:PySem.W.findIn K (.ref C) "__getattribute__" = some (some (.builtin "BaseException.__getattribute__"))) (hgt:PySem.W.findIn K (.ref C) "__getattr__" = some none)
  (q:Q (.ref C) ⟨h,g,dr,t,os⟩):wpAny (model prog w) A (getAttrBy (.ref a) (.str "__class__" tk) fill expr) Q E ⟨h,g,dr,t,os⟩:=by
 have hx0:(expr && onTheHeap (Value.builtin "BaseException.__getattribute__"))=false:=by cases expr <;> rfl
 have hx1:(onTheHeap (Value.ref C) && Value.builtin "BaseException.__getattribute__" == Value.builtin "object.__getattribute__")=false:=by
  rw [show (Value.builtin "BaseException.__getattribute__" == Value.builtin "object.__getattribute__")=false by decide +kernel]; rfl
 have hbs:bindSpecial (.builtin "BaseException.__getattribute__") (.ref a)=pure (.builtin "BaseException.__getattribute__",[.ref a]):=(Fu).ga.bind (.ref a)
 have IA:PySem.W.Looks (model prog w) h (typeOf (.ref a)) (.ref C):=(PySem.W.Looks.ld (part:=none) hx).andThen (by rw [hcl]; exact .now)
 have sub:PySem.W.Looks (model prog w) h (isInstance (.ref a) (.type "BaseException")) true:=IA.andThen (PySem.W.looks_mroIn X hb)
 have hk:builtinKind "BaseException.__getattribute__" = some .slot:=by decide +kernel
 have hsp:splitId "BaseException.__getattribute__" = some ("BaseException","__getattribute__"):=by decide +kernel
 repeat (any_goals (first | assumption | (with_reducible refine EG hx ?_; rw [hcl]) | with_reducible refine lkF X hga ?_ | with_reducible refine lkF X hgt ?_ | wp_step))
 refine FF (Fu).ga.plain PySem.F.entry_bexc_ga (@PySem.W.check_slot (model prog w) _ _ ⟨h,g,dr,t,os⟩ "BaseException.__getattribute__" "BaseException" "__getattribute__" (.ref a) [.str "__class__" tk] [] _ hk hsp sub (PySem.F.args_bexc_ga (.ref a) (.str "__class__" tk)) ?_)
 refine pQ X hx hcl ho hc ?_
 repeat (any_goals (first | assumption | wp_step))
theorem sS {Q:Option Value→Shared→Prop} (X:K.In h) (hx:h.get? a=some o) (hcl:o.cls=.ref C) (ho:PySem.W.mroIn K C (.type "object")=some true) (hb:PySem.W.mroIn K C (.type "BaseException")=some true)
  (hc:PySem.W.findIn K (.ref C) "__class__" = some (some (.builtin "object.__class__"))) (hga:PySem.W.findIn K (.ref C) "__getattribute__" = some (some (.builtin "BaseException.__getattribute__"))) (hgt:PySem.W.findIn K (.ref C) "__getattr__" = some none)
  (q:Q (some (.ref C)) ⟨h,g,dr,t + 1,os⟩):wpAny (model prog w) A (getAttr? (.ref a) "__class__") Q E ⟨h,g,dr,t,os⟩:=by
 unfold getAttr? getAttrBy?
 repeat (any_goals (first | assumption | with_reducible apply xL X hx hcl ho hb hc hga hgt | wp_step))
theorem oS (xc:kZ K C cd) (hc:PySem.W.findIn K (.ref C) "__class__" = some (some (.builtin "object.__class__"))):PySem.W.KitX K (.ref a) (.ref C) (fun h=>∃ o,h.get? a=some o∧o.cls=.ref C):=by
 have ne0:cd.mro.isEmpty=false:=by
  cases z:cd.mro with
  | nil=>have w:=xc.obj; rw [z] at w; cases w
  | cons _ _=>rfl
 have ho:PySem.W.mroIn K C (.type "object")=some true:=by unfold PySem.W.mroIn; rw [xc.cls,DC,if_neg (by rw [ne0]; decide),xc.obj]
 have hb:PySem.W.mroIn K C (.type "BaseException")=some true:=by unfold PySem.W.mroIn; rw [xc.cls,DC,if_neg (by rw [ne0]; decide),xc.exc]
 have lk:∃ c' d' sl',K.lookup C=some ⟨c',d',.cls cd,sl'⟩:=by
  have z:=xc.cls
  unfold PySem.W.clsIn at z
  split at z
  ·rename_i hl
   cases z
   exact ⟨_,_,_,hl⟩
  ·cases z
 obtain ⟨c',d',sl',hl⟩:=lk
 refine ⟨fun M h X p=>?_,fun M h X p=>?_,fun h tp dd its n sl X htp=>?_,fun {prog w A E Q s} X p k=>?_⟩
 ·obtain ⟨o,z1,z2⟩:=p
  exact (PySem.W.Looks.ld (part:=none) z1).andThen (by rw [z2]; exact .now)
 ·intro A' Q' E' s' k q
  unfold isType loadHead
  exact DP (wpAny_loadPart (k _ _ (X _ _ hl)) (DS q))
 ·refine Bool.eq_false_iff.mpr fun q=>?_
  have e:C=tp:=Value.ref.inj (beq_iff_eq.mp q)
  subst e
  have z:=(X _ _ hl).symm.trans htp
  cases z
 ·obtain ⟨o,z1,z2⟩:=p
  obtain ⟨hh,gg,d,tt,oss⟩:=s
  exact sS X z1 z2 ho hb hc xc.ga xc.gt k
end
section
variable {X:Cx}{a C dx:Addr}{oe od:Obj}{cd:ClassData}
theorem nD (hcl:oe.cls=.ref C) (xc:kZ X.K C cd) (hc:PySem.W.findIn X.K (.ref C) "__class__" = some (some (.builtin "object.__class__"))) :
  cI (X.hnd2 a oe dx od) (.builtin "isinstance") (fun xs H Q=>∃ (tp:Addr) (Cs:List Addr) (b:Bool),xs=[.ref a,.ref tp]∧H tp=some (.tup (Cs.map V.ref))∧PySem.W.kitAny X.K (.ref C) (Cs.map Value.ref)=some b∧Q (.bl b) H):=by
 intro pins s σ H xs us Q I r h
 obtain ⟨tp,Cs,b,rfl,htp,e,q⟩:=h
 obtain ⟨u,w',rfl,ru,rw'⟩:=aT.two r
 obtain rfl:u=Value.ref a:=ru
 obtain rfl:w'=Value.ref tp:=rw'
 have hp:=(I.pin (a,oe) (D3 ..)).1
 obtain ⟨_,its,rv,⟨c,dd,dt,sl⟩,g,g2,n,g3⟩:=I.hok tp _ htp
 cases g2
 cases g3
 have hits:∀ (Cs:List Addr) (its:List Value),aT (Cs.map V.ref) its→its=Cs.map Value.ref:=fun Cs=>by
  induction Cs with
  | nil=>intro its z; cases z; rfl
  | cons d Cs ih =>
   intro its z
   cases z with
   | cons z1 z2=>rw [ih _ z2,DK]; congr 1
 have e2:=hits Cs its rv
 subst e2
 exact PySem.W.kia_tup (oS xc hc) I.kIn ⟨_,hp,hcl⟩ g e (fun z=>nomatch z) fun tk=>⟨.bl b,H,I.tok tk,rfl,q⟩
theorem ln (hcl:oe.cls=.ref C) (xc:kZ X.K C cd) (hc:PySem.W.findIn X.K (.ref C) "__class__" = some (some (.builtin "object.__class__"))) :
  cI (X.hnd2 a oe dx od) (.builtin "isinstance") (fun xs H Q=>∃ (y:V) (c:Value) (b:Bool),xs=[.ref a,y]∧(∀ u,aX y u→u=c)∧PySem.W.kitOne X.K (.ref C) c=some b∧Q (.bl b) H):=by
 intro pins s σ H xs us Q I r h
 obtain ⟨y,c,b,rfl,hy,e,q⟩:=h
 obtain ⟨u,w',rfl,ru,rw'⟩:=aT.two r
 obtain rfl:u=Value.ref a:=ru
 obtain rfl:=hy w' rw'
 have hp:=(I.pin (a,oe) (D3 ..)).1
 exact EH (oS xc hc) I.kIn ⟨_,hp,hcl⟩ e (fun z=>nomatch z) fun tk=>⟨.bl b,H,I.tok tk,rfl,q⟩
end
end L2
namespace L2.Cu
open PySem PySem.Spec PyProof.Rows
def jt:D→Bool
 | .non=>true
 | .bl _=>true
 | .int _=>true
 | .str _=>true
 | _=>false
def scV:D→V
 | .bl b=>.bl b
 | .int i=>.int i
 | .str x=>.str x
 | _=>.non
theorem Ab {F:Hp}{v:V}{d:D} (r:Rep F v d) (h:jt d=true):v=scV d:=by cases r <;> first | rfl | cases h
theorem z_ {F:Hp}{d:D} (h:jt d=true):Rep F (scV d) d:=by cases d <;> first | exact .non | exact .bl _ | exact .int _ | exact .str _ | cases h
abbrev scF (fs:List (Str×D)):List (Str×V):=fs.map fun p=>(p.1,scV p.2)
inductive cJ where
 | ok (r:Out) | xc (n:Nat) (fs:List (Str×D)) (E:DE)
def jq (cl:Nat→Addr) (B:Hp×Hp) (F:Hp) (Z:d_) (W:XW):cJ→Prop
 | .ok r=>lq B F Z r
 | .xc n fs E=>∀ σ F' H dx,Ok B F' H σ E→Fr F F'→H dx=none→W σ (.ref (cl n)) (some dx) (upd H dx (.xd (scF fs)))
theorem jq.mono {cl:Nat→Addr}{B:Hp×Hp}{F F1:Hp}{Z:d_}{W:XW}{r:cJ} (h:jq cl B F Z W r) (x:Fr F F1):jq cl B F1 Z W r:=by
 cases r with
 | ok r=>exact lq.mono h x
 | xc n fs E=>exact fun σ F' H dx k y=>h σ F' H dx k fun a o e=>y a o (x a o e)
def tSX (cl:Nat→Addr) (f:DE→Option cJ):TSX:=fun Z W σ H=>∃ B F E r,Ok B F H σ E∧f E=some r∧jq cl B F Z W r
structure EsX (X:Cx) (cl:Nat→Addr) (st:Stmt) (f:DE→Option cJ):Prop where
 h:PSX X st (tSX cl f)
structure lr (X:Cx) (cl:Nat→Addr) (st:List Stmt) (f:DE→Option cJ):Prop where
 h:iH X st (tSX cl f)
section
variable {X:Cx}{cl:Nat→Addr}{st:Stmt}{cg:List Stmt}{pos:Pos}
theorem PSX.by {t:TSX}{f:DE→Option cJ} (h:PSX X st t) (w:∀ Z W σ H,tSX cl f Z W σ H→t Z W σ H):EsX X cl st f:=⟨fun pins s σ H Z W xe I q=>h pins s σ H Z W xe I (w Z W σ H q)⟩
theorem iH.by {t:TSX}{f:DE→Option cJ} (h:iH X cg t) (w:∀ Z W σ H,tSX cl f Z W σ H→t Z W σ H):lr X cl cg f:=⟨fun pins s σ H Z W xe I q=>h pins s σ H Z W xe I (w Z W σ H q)⟩
def okX (f:DE→Option Out) (E:DE):Option cJ:=(f E).map cJ.ok
theorem oj {f:DE→Option Out}{Z:d_}{W:XW} {σ:St}{H:Hp} (h:tSX cl (okX f) Z W σ H):tS f Z σ H:=by
 obtain ⟨B,F,E,r,k,q,w⟩:=h
 unfold okX at q
 cases hf:f E with
 | none=>rw [hf] at q; cases q
 | some r1=>rw [hf] at q; cases q; exact ⟨B,F,E,r1,k,hf,w⟩
theorem iY {f:DE→Option Out} (h:Es X.nox st f):EsX X cl st (okX f):=PSX.by (Au h.h) fun _ _ _ _ q=>oj q
theorem sk {f:DE→Option Out} (h:Ess X.nox cg f):lr X cl cg (okX f):=iH.by (ye h.h) fun _ _ _ _ q=>oj q
def eF (f g:DE→Option cJ) (E:DE):Option cJ:=(f E).bind fun r=>match r with
 | .ok (.nx E')=>g E'
 | r=>some r
theorem dk {f g:DE→Option cJ} (h:EsX X cl st f) (h2:lr X cl cg g):lr X cl (st :: cg) (eF f g):=iH.by (tz h.h h2.h) fun Z W σ H z=>by
 obtain ⟨B,F,E,r,k,q,w⟩:=z
 unfold eF at q
 cases hf:f E with
 | none=>rw [hf] at q; cases q
 | some r1 =>
  rw [hf] at q
  cases r1 with
  | xc n fs E'=>cases q; exact ⟨B,F,E,_,k,hf,w⟩
  | ok r1 =>
   cases r1 with
   | nx E'=>exact ⟨B,F,E,_,k,hf,fun σ' F' H' k' y=>⟨B,F',E',r,k',q,w.mono y⟩⟩
   | rt d=>cases q; exact ⟨B,F,E,_,k,hf,w⟩
   | bk E'=>cases q; exact ⟨B,F,E,_,k,hf,w⟩
   | ct E'=>cases q; exact ⟨B,F,E,_,k,hf,w⟩
theorem gi {f:DE→Option cJ} (h:EsX X cl st f):lr X cl [st] f:=⟨vF h.h⟩
def ifX (c:DE→Option Bool) (f g:DE→Option cJ) (E:DE):Option cJ:=(c E).bind fun b=>if b=true then f E else g E
theorem wY {c:Expr}{a b:List Stmt}{cf:DE→Option Bool}{f g:DE→Option cJ} (hc:Et X.nox c cf) (ha:lr X cl a f) (hb:lr X cl b g):EsX X cl (.If c a b pos) (ifX cf f g):=PSX.by (Av hc.h ha.h hb.h) fun Z W σ H z=>by
 obtain ⟨B,F,E,r,k,q,w⟩:=z
 unfold ifX at q
 cases hf:cf E with
 | none=>rw [hf] at q; cases q
 | some x =>
  rw [hf] at q
  refine ⟨B,F,E,x,k,hf,fun F1 H1 x1=>?_⟩
  cases x with
  | true=>exact oV ⟨B,F1,E,r,k.ext x1,q,w.mono x1.fr⟩
  | false=>exact oW ⟨B,F1,E,r,k.ext x1,q,w.mono x1.fr⟩
def ft (n:Nat) (fld:Str) (f:DE→Option D) (E:DE):Option cJ:=(f E).bind fun d=>if jt d=true then some (.xc n [(fld,d)] E) else none
theorem l8 {k:Nat}{fI C:Addr}{fd:FuncData}{fld p x:Str}{np cpos:Pos}{arg:Expr}{f:DE→Option D}{n:Nat} (hn:cl n=C) (hq:li X.K C fI=true) (F:br X.prog X.w X.K X.mg X.base CX0 k fI fd ["self",p] (spI C fld)) (hb:bz X.K fd ["self",p] [])
  (hfn:PySem.W.isFn X.K (.ref fI)=true) (hr:cW (k + 1) X.A) (hc:X.calm=true) (hg:Gl X x) (hm:X.mg x=some (.ref C)) (hk:PySem.W.keepIn X.K (.ref C)=true) (ha:Ev X.nox .V arg f) (hdb:(x == ("__debug__" : Str))=false:=by decide) (hs:be arg=true:=by rfl) :
  EsX X cl (.Raise (some (.Call (.Name x np) [arg] [] cpos)) none pos) (ft n fld f) :=
 PSX.by (tD hq F hb hfn hr hc hg hm hk (ac ha ai (by first | assumption | rfl)).h hdb (aH arg [] X.env hs) rfl) fun Z W σ H z=>by
  obtain ⟨B,G,E,r,k,q,w⟩:=z
  unfold ft at q
  cases hf:f E with
  | none=>rw [hf] at q; cases q
  | some d =>
   rw [hf] at q
   by_cases hd:jt d=true
   ·have q':some (cJ.xc n [(fld,d)] E)=some r:=by
     rw [← q]
     show _=if jt d=true then _ else _
     rw [if_pos hd]
    cases q'
    refine ⟨B,G,E,[d],k,?_,fun vs F' H' x r=>?_⟩
    ·unfold aa ag
     rw [hf]; rfl
    ·obtain ⟨v,ws,rfl,r1,r2⟩:=r.c1
     obtain rfl:=r2.c0
     subst hn
     obtain rfl:=Ab r1 hd
     exact ⟨_,rfl,fun dx hdx=>w σ F' H' dx (k.ext x) x.fr hdx⟩
   ·have:(none:Option cJ)=some r:=by
     rw [← q]
     show _=if jt d=true then _ else _
     rw [if_neg hd]
    cases this
end
def zX (cl:Nat→Addr) (n:Nat) (g:List D→Option (Option (Nat×List (Str×D)))):Sp:=fun vs H Q E=>∃ F ds r,(∀ a o,F a=some o→H a=some o)∧Reps F vs ds∧ds.length=n∧g ds=some r ∧
 match r with
 | none=>∀ v F' H',Ext F H F' H'→Q v H'
 | some (m,fs)=>∀ F' H' dx,Ext F H F' H'→H' dx=none→E (.ref (cl m)) (some dx) (upd H' dx (.xd (scF fs)))
def rC (n m:Nat) (b:DE→Option cJ) (ds:List D):Option (Option (Nat×List (Str×D))):=if ds.length=n then (b (ds.map Sl.val ++ List.replicate (m - n) Sl.no)).bind fun r=>match r with
 | .ok (.nx _)=>some none
 | .ok (.rt _)=>some none
 | .xc k fs _=>some (some (k,fs))
 | _=>none else none
theorem Dw {P:Program}{w:World}{K:PySem.W.Frag}{mg:Str→Option Value}{base:Heap}{x qual:Str}{st:Stmt}{f:Addr}{fd:FuncData}{N ps:List Str}{k:Nat}{cl:Nat→Addr}{b:DE→Option cJ} (Fn:Fun K x qual st f fd) (S:aL N ps (ak st))
  (hbody:∀ (cdv:Value) (A:Around) (outer:List Env) (s:Shared) (H:Hp) (E:XK),cW k (A.deeper (envOfC qual (ak st) s.heap.objs.size f cdv)) →
   lr (jv (CX1 P w) P w K mg base N qual (ak st) f cdv A outer s H E) cl (dO st) b):br P w K mg base (CX1 P w) (k + 1) f fd ps (zX cl ps.length (rC ps.length N.length b)):=by
 obtain ⟨oc,od,kV,doc,pm,an,cdv,ct,osl,rfl,lk,hcd⟩:=Fn.ex
 refine Bl lk hcd S (fun vs H Q E h=>?_) fun A outer s H vs Q E hr h=>?_
 ·obtain ⟨F,ds,d,_,r,hl,_⟩:=h
  rw [r.length,hl]
 ·obtain ⟨F,ds,r0,hs,r,hl,hg,q⟩:=h
  refine ⟨_,(hbody cdv A outer s H E hr).h,?_⟩
  unfold rC at hg
  rw [if_pos hl] at hg
  cases hb:b (ds.map Sl.val ++ List.replicate (N.length - ps.length) Sl.no) with
  | none=>rw [hb] at hg; cases hg
  | some rr =>
   rw [hb] at hg
   have k0:=oh (N:=N) hs r
   rw [hl] at k0
   refine ⟨(F,H),F,_,rr,k0,hb,?_⟩
   cases rr with
   | xc m fs E'=>cases hg; exact fun σ' F' H' dx k' _ hd=>q F' H' dx k'.ent hd
   | ok rr =>
    cases rr with
    | rt d'=>cases hg; exact fun v F' H' x r'=>q v F' H' x
    | nx E'=>cases hg; exact fun σ' F' H' k' _=>q .non F' H' k'.ent
    | bk E'=>cases hg
    | ct E'=>cases hg
def wK (i:Nat):Out→Out
 | .nx E=>.nx (E.set i .no)
 | .bk E=>.bk (E.set i .no)
 | .ct E=>.ct (E.set i .no)
 | .rt d=>.rt d
def pW (n i:Nat) (fb:DE→Option cJ) (fh:Addr→List (Str×D)→DE→Option Out) (E:DE):Option Out:=(fb E).bind fun r=>match r with
 | .ok r=>some r
 | .xc m fs E'=>@ite _ (m=n∧gl E') (Classical.propDecidable _) (uO fun a=>(fh a fs (E'.set i (ic a))).map (wK i)) none
theorem ur {B:Hp×Hp}{F:Hp}{D:d_}{i:Nat}{r:Out} (w:lq B F D (wK i r)):lq B F (iM i D) r:=by
 cases r with
 | nx E=>exact fun σ F' H k x=>w (σ.set i none) F' H (k.noS i) x
 | bk E=>exact fun σ F' H k x=>w (σ.set i none) F' H (k.noS i) x
 | ct E=>exact fun σ F' H k x=>w (σ.set i none) F' H (k.noS i) x
 | rt d=>exact w
theorem x8 {H:Hp}{dx:Addr}{o:HO} (h:H dx=none):rmH (upd H dx o) dx=H:=by
 funext b
 by_cases hb:b=dx
 ·rw [hb,dZ,h]
 ·rw [cC hb,am hb]
theorem Br {X:Cx}{cl:Nat→Addr}{body suite:List Stmt}{b₀:Stmt}{cn en:Str}{fI:Addr}{i n:Nat}{np hpos pos:Pos}{fb:DE→Option cJ}{fh:Addr→List (Str×D)→DE→Option Out} (hb:lr X cl body fb) (hst:X.stack=X.env :: X.outer) (hfr:X.env.frame=some X.env.locals) (hq:li X.K (cl n) fI=true)
  (hg:Gl X cn) (hm:X.mg cn=some (.ref (cl n))) (hN:X.N.Nodup) (hi:X.N[i]? = some en) (hl:X.env.scope.names.lookup en=some .local)
  (hs:∀ (a dx:Addr) (oe od:Obj) (vs:Array Value) (fs:List (Str×D)),oe.cls=.ref (cl n)→oe.dict=some dx→oe.data=.fields vs→dx ≠ a→iN dx od (scF fs)→Ess (X.hnd2 a oe dx od) (b₀ :: suite) (fh a fs)) (hdb:(cn == ("__debug__" : Str))=false:=by decide) :
  Es X (.Try body [.ExceptHandler (some (.Name cn np)) (some en) (b₀ :: suite) hpos] [] [] pos) (pW n i fb fh) :=
 PS.by (Aw (th:=fun a vs D σ H=>∃ fs,vs=scF fs∧tS (fh a fs) D σ H) hb.h hst hfr hq hg hm hN hi hl (fun a dx oe od vs fsV h1 h2 h3 h4 h5=>fun pins s σ H D I z=>by
  obtain ⟨fs,e,q⟩:=z
  subst e
  exact (hs a dx oe od vs fs h1 h2 h3 h4 h5).h pins s σ H D I q) (.inr hl) hdb) fun Z σ H z=>by
  obtain ⟨B,F,E,r,k,q,w⟩:=z
  unfold pW at q
  cases hf:fb E with
  | none=>rw [hf] at q; cases q
  | some r1 =>
   rw [hf] at q
   refine ⟨B,F,E,r1,k,hf,?_⟩
   cases r1 with
   | ok r1=>cases q; exact w
   | xc m fs E' =>
    have q2:@ite _ (m=n∧gl E') (Classical.propDecidable _) (uO fun a=>(fh a fs (E'.set i (ic a))).map (wK i)) none=some r:=q
    by_cases hc:m=n∧gl E'
    ·rw [if_pos hc] at q2
     obtain ⟨hmn,hno⟩:=hc
     subst hmn
     refine fun σ' F' H' dx k' x hd=>⟨dx,scF fs,rfl,rfl,ar,fun a _=>?_⟩
     obtain ⟨r2,e1,e2⟩:=Option.map_eq_some_iff.mp (uN q2 a)
     subst e2
     refine ⟨fs,rfl,B,F',_,r2,?_,e1,ur (w.mono x)⟩
     rw [x8 hd]
     exact k'.set_raw hno i a
    ·rw [if_neg hc] at q2; cases q2
def xF (i:Nat) (a:Addr) (d:D) (E:DE):Option D:=(E[i]?).bind fun s=>match s with
 | .rob o=>if o.ia=some a then some d else none
 | _=>none
theorem mr {i:Nat}{a:Addr}{d d':D}{B:Hp×Hp}{F H:Hp} {σ:St}{E:DE} (k:Ok B F H σ E) (h:xF i a d E=some d'):d'=d∧σ[i]? = some (some (.ref a)):=by
 unfold xF at h
 cases he:E[i]? with
 | none=>rw [he] at h; cases h
 | some s =>
  rw [he] at h
  cases s with
  | rob o =>
   have h:(if o.ia=some a then some d else none)=some d':=h
   by_cases ho:o.ia=some a
   ·rw [if_pos ho] at h
    cases h
    refine ⟨rfl,?_⟩
    obtain ⟨fp,q⟩:=k.ob
    rcases q.rob i _ he with ⟨b,ps,q1,q2⟩ | ⟨_,b,q1,q2⟩
    ·obtain ⟨b',ps',dx,fs,e1,e2,e3,_⟩:=q2
     have e4:=e2 a ho
     cases e1
     rw [e4] at q1; exact q1
    ·rw [ho] at q1; cases q1; exact q2
   ·rw [if_neg ho] at h; cases h
  | no=>cases h
  | val _=>cases h
  | own _=>cases h
  | obj _=>cases h
section
variable {X:Cx}{a C dx:Addr}{oe od:Obj}{cd:ClassData}{i:Nat}{p pos np:Pos}{en:Str}
def u3 (i:Nat) (a:Addr) (f:Str) (fs:List (Str×D)) (E:DE):Option D:=(fs.lookup f).bind fun d=>if jt d=true then xF i a d E else none
theorem y0 {f:Str}{vs:Array Value}{fs:List (Str×D)} (hc:oe.cls=.ref C) (hd:oe.dict=some dx) (hdata:oe.data=.fields vs) (hne:dx ≠ a) (xc:kZ X.K C cd) (hn:PySem.W.findIn X.K (.ref C) f=some none) (hdh:iN dx od (scF fs)) (hv:PE (X.hnd2 a oe dx od) (.Name en p) (my i))
  (hb:attributeBase (.Name en p) f X.env (eval (.Name en p) X.env)=eval (.Name en p) X.env:=by rfl):Ev (X.hnd2 a oe dx od) .V (.Attribute (.Name en p) f pos) (u3 i a f fs) :=
 PE.by (yu hc hd hdata hne xc hn hdh hv hb) fun σ H Q z=>by
  obtain ⟨B,F,E,d',k,q,w⟩:=z
  unfold u3 at q
  obtain ⟨d,hl,q⟩:=Option.bind_eq_some_iff.mp q
  by_cases hsc:jt d=true
  ·rw [if_pos hsc] at q
   obtain ⟨rfl,e⟩:=mr k q
   refine ⟨_,e,rfl,scV d',?_,w _ F H (Ext.refl k.sub) (z_ hsc)⟩
   have:∀ l:List (Str×D),l.lookup f=some d'→(scF l).lookup f=some (scV d'):=fun l=>by
    induction l with
    | nil=>intro z; cases z
    | cons y l ih =>
     intro z
     obtain ⟨g,x⟩:=y
     rw [EM] at z
     show List.lookup f ((g,scV x) :: scF l)=_
     rw [EM]
     cases hg:f == g with
     | true=>rw [hg] at z; cases z; rfl
     | false=>rw [hg] at z; exact ih z
   exact this fs hl
  ·rw [if_neg hsc] at q; cases q
def BS (Cs:List Addr):TA:=fun _ H Q=>Q (Cs.map V.ref) H
def vL:Expr→Pos
 | .Name _ p=>p
 | _=>⟨0,0,0,0⟩
theorem rO {X:Cx}{ad:Str→Addr}:∀ {as:List Str}{es:List Expr},es=List.zipWith Expr.Name as (es.map vL)→(∀ y ∈ as,X.mg y=some (.ref (ad y)))→as.map X.env.kindOf=(as.map fun _=>some NameKind.globalImplicit)→as.all (fun y => !(y == ("__debug__" : Str)))=true→as.length=es.length→PA X es (BS (as.map ad))
 | [],[],_,_,_,_,_=>eI
 | y :: as,e :: es,h,m,g,d,l=>by
  rw [DK,List.zipWith_cons_cons] at h
  rw [DK,DK] at g
  rw [EY] at d
  injection h with h1 h2
  injection g with g1 g2
  obtain ⟨d1,d2⟩:=Bool.and_eq_true_iff.mp d
  have h3:=cr (jF (v:=.ref (ad y)) (pos:=vL e) g1 (m y (.head _)) rfl (by simpa using d1)) (rO (X:=X) (ad:=ad) h2 (fun z hz=>m z (.tail _ hz)) g2 d2 (Nat.succ.inj l)) rfl
  rw [← h1] at h3
  exact h3
theorem wU {as:List Str}{ad:Str→Addr}{es:List Expr}{x1}{tpos:Pos}{b:Bool} (hcl:oe.cls=.ref C) (xc:kZ X.K C cd) (hc:PySem.W.findIn X.K (.ref C) "__class__" = some (some (.builtin "object.__class__"))) (hg:Gl (X.hnd2 a oe dx od) "isinstance") (hm:X.mg "isinstance" = none) (hbi:bootBuiltins "isinstance" = some (.builtin "isinstance")) (hv:PE (X.hnd2 a oe dx od) (.Name en p) (my i))
  (hm2:∀ y ∈ as,X.mg y=some (.ref (ad y))) (hk:PySem.W.kitAny X.K (.ref C) (as.map fun y=>.ref (ad y))=some b) (hz:as.length≤9:=by decide) (hes:es=List.zipWith Expr.Name as (es.map vL):=by rfl) (hgl:as.map X.env.kindOf=(as.map fun _=>some NameKind.globalImplicit):=by rfl) (hdb:as.all (fun y => !(y == ("__debug__" : Str)))=true:=by decide)
  (hln:as.length=es.length:=by rfl):Ev (X.hnd2 a oe dx od) .V (.Call (.Name "isinstance" np) [.Name en p,.Tuple es x1 tpos] [] pos) (xF i a (.bl b)) :=
 PE.by (fU (nD hcl xc hc) hg hm hbi (cr hv (cr (qd (rO (X:=X.hnd2 a oe dx od) hes hm2 hgl hdb hln)) eI rfl) rfl)) fun σ H Q z=>by
  obtain ⟨B,F,E,d',k,q,w⟩:=z
  obtain ⟨rfl,e⟩:=mr k q
  refine ⟨_,e,?_,fun tp htp=>⟨tp,as.map ad,b,rfl,ar,by rw [Gx]; exact hk,w _ F _ ⟨fun c o z=>?_,fun c o z=>z,fun c o z=>?_,fun c z _=>z⟩ (.bl b)⟩⟩
  ·rw [DU,DU]; exact D1 hz (by decide)
  ·rw [am (fun z1=>by rw [z1,htp] at z; cases z)]; exact z
  ·rw [am (fun z1=>by rw [z1] at z; rw [k.sub _ _ z] at htp; cases htp)]; exact k.sub _ _ z
theorem ni {e:Expr}{c:Value}{y:V}{b:Bool} (hcl:oe.cls=.ref C) (xc:kZ X.K C cd) (hc:PySem.W.findIn X.K (.ref C) "__class__" = some (some (.builtin "object.__class__"))) (hg:Gl (X.hnd2 a oe dx od) "isinstance") (hm:X.mg "isinstance" = none) (hbi:bootBuiltins "isinstance" = some (.builtin "isinstance")) (hv:PE (X.hnd2 a oe dx od) (.Name en p) (my i))
  (he:PE (X.hnd2 a oe dx od) e (tC y)) (hy:∀ u,aX y u→u=c) (hk:PySem.W.kitOne X.K (.ref C) c=some b) (hs:be e=true:=by rfl) :
  Ev (X.hnd2 a oe dx od) .V (.Call (.Name "isinstance" np) [.Name en p,e] [] pos) (xF i a (.bl b)) :=
 PE.by (fU (ln hcl xc hc) hg hm hbi (cr hv (cr he eI (aH e [] X.env hs)) rfl) (by decide) (by decide) rfl (dQ pos X.env [e] (by simp [hs]))) fun σ H Q z=>by
  obtain ⟨B,F,E,d',k,q,w⟩:=z
  obtain ⟨rfl,e⟩:=mr k q
  exact ⟨_,e,y,c,b,rfl,hy,hk,w _ F H (Ext.refl k.sub) (.bl b)⟩
end
theorem br.wide {P:Program}{w:World}{K:PySem.W.Frag}{mg:Str→Option Value}{base:Heap}{CX:CXT}{k:Nat}{f:Addr}{fd:FuncData}{ps:List Str}{sp:Sp} (F:br P w K mg base CX0 k f fd ps sp):br P w K mg base CX k f fd ps sp :=
 ⟨F.len,fun A outer s H args us vs Q E hr he hb hv hs=>Fw (F.run A outer s H args us vs Q E hr he hb hv hs) fun r s' z=>by
  cases r with
  | error e=>exact False.elim z
  | ok fl=>cases fl <;> exact z⟩
theorem br.or {P:Program}{w:World}{K:PySem.W.Frag}{mg:Str→Option Value}{base:Heap}{CX:CXT}{k:Nat}{f:Addr}{fd:FuncData}{ps:List Str}{sp sp' sp2:Sp} (F:br P w K mg base CX k f fd ps sp) (F':br P w K mg base CX k f fd ps sp')
  (h:∀ vs H Q E,sp2 vs H Q E→sp vs H Q E∨sp' vs H Q E):br P w K mg base CX k f fd ps sp2 :=
 ⟨fun vs H Q E q=>(h _ _ _ _ q).elim (F.len vs H Q E) (F'.len vs H Q E),fun A outer s H args us vs Q E hr he hb hv hs=>(h _ _ _ _ hs).elim (fun z=>F.run A outer s H args us vs Q E hr he hb hv z) fun z=>F'.run A outer s H args us vs Q E hr he hb hv z⟩
open PySem PySem.Spec PyProof.Rows PySem.W
def iz:List Value→List Value
 | .ref _ :: r=>iz r
 | l=>l
theorem jg (self:Value):∀ l:List Value,refuseLoop self "__setattr__" l=refuseLoop self "__setattr__" (iz l)
 | []=>rfl
 | v :: r=>by
  cases v with
  | ref c=>rw [refuseLoop_ref]; exact jg self r
  | _=>rfl
theorem kQ {x:Value}:∀ l:List Value,(iz l).contains x=true→l.contains x=true
 | [],h=>h
 | v :: r,h=>by
  cases v with
  | ref c=>rw [List.contains_cons,kQ r h,GA]
  | _=>exact h
def uZ (K:Frag) (C:Addr):Bool:=match clsIn K C with
 | some cd=>iz cd.mro == bmV && (cd.hasDict && (findIn K (.ref C) "__setattr__" == some (some (.builtin "object.__setattr__")) && (findIn K (.ref C) "__getattribute__" == some (some (.builtin "BaseException.__getattribute__")) && findIn K (.ref C) "__getattr__" == some none)))
 | none=>false
theorem xK {K:Frag}{C:Addr} (h:uZ K C=true):∃ cd,kZ K C cd:=by
 unfold uZ at h
 split at h
 ·rename_i cd hc
  simp only [D8,beq_iff_eq] at h
  obtain ⟨h1,h2,h3,h4,h5⟩:=h
  exact ⟨cd,hc,fun self=>by rw [jg,h1]; exact PySem.F.store_ValueError.passes self,kQ _ (by rw [h1]; decide +kernel),kQ _ (by rw [h1]; decide +kernel),h2,h3,h4,h5⟩
 ·cases h
def cj (K:Frag) (x:Str):Addr:=match nsIn K mainGlobals x with
 | some (some (.ref a))=>a
 | _=>0
def kH (K:Frag) (C:Addr):Addr:=match findIn K (.ref C) "__init__" with
 | some (some (.ref a))=>a
 | _=>0
def BC (K:Frag) (x:Str):Bool:=nsIn K mainGlobals x == some (some (.ref (cj K x)))
def Bu (K:Frag) (x f:Str):Bool:=BC K x && (li K (cj K x) (kH K (cj K x)) && (isFn K (.ref (kH K (cj K x))) && (keepIn K (.ref (cj K x)) && (uZ K (cj K x) && (findIn K (.ref (cj K x)) f == some none && findIn K (.ref (cj K x)) "__class__" == some (some (.builtin "object.__class__")))))))
structure zQ (K:Frag) (x f:Str):Prop where
 ns:nsIn K mainGlobals x=some (some (.ref (cj K x)))
 q:li K (cj K x) (kH K (cj K x))=true
 fn:isFn K (.ref (kH K (cj K x)))=true
 kp:keepIn K (.ref (cj K x))=true
 xc:∃ cd,kZ K (cj K x) cd
 nf:findIn K (.ref (cj K x)) f=some none
 cl:findIn K (.ref (cj K x)) "__class__" = some (some (.builtin "object.__class__"))
theorem Bt {K:Frag}{x f:Str} (h:Bu K x f=true):zQ K x f:=by
 unfold Bu BC at h
 simp only [D8,beq_iff_eq] at h
 obtain ⟨h1,h2,h3,h4,h5,h6,h7⟩:=h
 exact ⟨h1,h2,h3,h4,xK h5,h6,h7⟩
theorem yG {P:Program}{w:World}{K:Frag}{mg:Str→Option Value}{base:Heap}{qual:Str}{st:Stmt}{C fI:Addr}{fd:FuncData}{f p:Str}{cd:ClassData}{p1 p2 p3 p4:Pos} (F:Fun K "__init__" qual st fI fd) (S:aL ["self",p] ["self",p] (ak st)) (xc:kZ K C cd) (hn:findIn K (.ref C) f=some none)
  (hb:dO st=[.Assign [.Attribute (.Name "self" p1) f p2] (.Name p p3) p4]) (hv0:Vis (ak st) "self") (hv1:Vis (ak st) p) (hd:(p == ("__debug__" : Str))=false) (hcd:(p == ("__classdict__" : Str))=false)
  (hsw:∀ (env:Env),swapsWith (.Name p p3) (some (.Attribute (.Name "self" p1) f p2)) p4.line env=pure false):br P w K mg base CX0 1 fI fd ["self",p] (spI C f):=by
 refine Fun.ok (k:=0) F S (fun vs H Q E z=>?_) fun cdv A outer s H vs Q E hr z=>?_
 ·obtain ⟨e,t,v,rfl,_⟩:=z; rfl
 ·rw [hb]
  refine ⟨_,rK (Ck (ki (i:=0) rfl hv0) (ki (i:=1) rfl hv1 hd hcd) (hsw _)),?_⟩
  obtain ⟨e,t,v,rfl,he,hq⟩:=z
  exact ⟨v,rfl,V.ref e,rfl,e,C,t,cd,rfl,he,xc,hn,fun dx h1 h2=>hq dx h1 h2⟩
abbrev rH (K:Frag) (as:List Str):List Value:=as.map fun y=>.ref (cj K y)
abbrev w4 (K:Frag) (x f qual:Str) (as bs:List Str) (c d:Str):=(yY K qual (kH K (cj K x)),Bu K x f && (as ++ bs ++ [c,d]).all (BC K),kitAny K (.ref (cj K x)) (rH K as),kitAny K (.ref (cj K x)) (rH K bs),kitOne K (.ref (cj K x)) (.ref (cj K c)),kitOne K (.ref (cj K x)) (.ref (cj K d)),kitOne K (.ref (cj K x)) (.type "ValueError"))
abbrev w5 (qual:Str) (st:Stmt):=(wP "__init__" qual st,true,some false,some false,some false,some true,some true)
structure zP (K:Frag) (mg:Str→Option Value) (x f qual:Str) (st:Stmt) (as bs:List Str) (c d:Str):Prop where
 fn:∃ fd,Fun K "__init__" qual st (kH K (cj K x)) fd
 er:zQ K x f
 mx:mg x=some (.ref (cj K x))
 ms:∀ y ∈ as ++ bs ++ [c,d],mg y=some (.ref (cj K y))
 ka:kitAny K (.ref (cj K x)) (rH K as)=some false
 kb:kitAny K (.ref (cj K x)) (rH K bs)=some false
 kc:kitOne K (.ref (cj K x)) (.ref (cj K c))=some false
 kd:kitOne K (.ref (cj K x)) (.ref (cj K d))=some true
 kv:kitOne K (.ref (cj K x)) (.type "ValueError")=some true
theorem wC {K:Frag}{mg:Str→Option Value}{x f qual:Str}{st:Stmt}{as bs:List Str}{c d:Str} (h:w4 K x f qual as bs c d=w5 qual st) (g:∀ (x:Str) (v:Value),nsIn K mainGlobals x=some (some v)→mg x=some v):zP K mg x f qual st as bs c d:=by
 obtain ⟨h1,h⟩:=E4 h
 obtain ⟨h2,h⟩:=E4 h
 obtain ⟨h3,h⟩:=E4 h
 obtain ⟨h4,h⟩:=E4 h
 obtain ⟨h5,h⟩:=E4 h
 obtain ⟨h6,h7⟩:=E4 h
 obtain ⟨e1,e2⟩:=Bool.and_eq_true_iff.mp h2
 have er:=Bt e1
 exact ⟨zM h1,er,g _ _ er.ns,fun y hy=>g _ _ (beq_iff_eq.mp (List.all_eq_true.mp e2 y hy)),h3,h4,h5,h6,h7⟩
end L2.Cu
namespace L2
open PySem PySem.Spec PyProof.Rows
section
variable {X:Cx}{pins:List (Addr×Obj)} {W:XW}
theorem uu (hst:X.stack=X.env :: X.outer) (hfr:X.env.frame=some X.env.locals):PassesOwn (model X.prog X.w) X.A X.env (EX X pins W):=by
 intro e s1 x
 obtain ⟨σ,a,C,dx,o0,H,rfl,I,er,eo,hp,hw⟩:=x
 have ok:=I.ok
 have back:∀ (h4:Heap) (T:Addr),Inv X pins σ H { s1 with heap:=h4 }→Fly h4 o0 a T (rawInt X.env.locals)→H T=none→X.s₀.heap.objs.size≤T→(∀ p ∈ X.pn ++ pins,p.1 ≠ T)→cameBackBy (model X.prog X.w) X.A X.env (EX X pins W) (.ref a) { s1 with heap:=h4 }:=by
  intro h4 T I4 f4 t1 t2 t3
  obtain ⟨vs,oT,ts,q1,q2,hTe,q3,q4,q5⟩:=id f4
  unfold cameBackBy
  refine DP (EK (s:={ s1 with heap:=h4 }) q1 rfl q2 ?_)
  rw [if_neg (by simp)]
  rw [hfr]
  refine dh (s:={ s1 with heap:=h4 }) f4 fun h5 k5 _ f5=>?_
  have I5:Inv X pins σ H { s1 with heap:=h5 }:=Inv.kp (s:={ s1 with heap:=h4 }) (ch:=[T]) I4 (k5.wide (fun _ z=>by cases z) fun _ z=>z) fun b hb=>by
   rw [List.mem_singleton.mp hb]
   exact ⟨t2,f4.recd.2,t3,t1⟩
  exact ⟨σ,a,C,dx,o0,H,rfl,I5,.inr ⟨T,_,f5,.inr rfl,t1,t2,t3⟩,eo,hp,hw⟩
 have hA:X.A.frames=some (X.env :: X.outer):=by rw [← hst]; exact ok.frames
 have hF:s1.heap.FunFrames X.base (X.env :: X.outer):=by rw [← hst]; exact I.stack
 have hz:=I.sz
 have pinT:∀ T,s1.heap.objs.size≤T→∀ p ∈ X.pn ++ pins,p.1 ≠ T:=fun T hT p hp z=>absurd (DV (I.pin p hp).1) (by rw [z]; exact Nat.not_lt.mpr hT)
 show wpAny _ _ (noteFrame (.ref a) X.env) _ _ _
 rcases er with ⟨vs,q1,q2⟩ | ⟨T,fl,hf1,rfl | rfl,hT,hTz,hTp⟩
 ·refine gY (base:=X.base) hA hF hfr q1 q2 fun h4 T k4 z4 f4=>?_
  have I4:Inv X pins σ H { s1 with heap:=h4 }:=I.kp (ch:=[a]) (by unfold frs; rw [hst]; exact k4) fun b hb=>by
   rw [List.mem_singleton.mp hb]
   exact ⟨eo.new,⟨_,vs,q1,rfl⟩,hp,eo.free⟩
  exact back h4 T I4 f4 (I.hok.fresh z4) (D1 hz z4) (pinT T z4)
 ·refine iU (base:=X.base) hA hF hfr hf1 fun h4 T' k4 z4 f4=>?_
  have I4:Inv X pins σ H { s1 with heap:=h4 }:=I.kp (ch:=[a,T]) (by unfold frs; rw [hst]; exact k4) fun b hb=>by
   rcases List.mem_cons.mp hb with rfl | hb
   ·exact ⟨eo.new,hf1.recd.1,hp,eo.free⟩
   ·rw [List.mem_singleton.mp hb]
    exact ⟨hTz,hf1.recd.2,hTp,hT⟩
  exact back h4 T' I4 f4 (I.hok.fresh z4) (D1 hz z4) (pinT T' z4)
 ·exact km hfr hf1 (back s1.heap T I hf1 hT hTz hTp)
end
section
variable {X:Cx}{tg:Expr}
def BX (wi:TI) (g:TG) (tb:TSX):TSX:=fun D V σ H=>wi σ H fun J H1=>∃ W:Nat→Nat→St→Hp→Prop,(∃ m,W 0 m σ H1)∧∀ i m σ H,W i m σ H →
 (J.stop i H∧D.nx σ H)∨(J.go i H∧∃ N:St→Hp→Prop,(∀ σ' H',N σ' H'→∃ m',m' < m∧W (i + 1) m' σ' H')∧∀ x H',J.yld i H x H'→g x σ H' fun σ2 H2=>tb { D with nx:=N,ct:=N,bk:=D.nx } V σ2 H2)
theorem yg {iter:Expr}{body:List Stmt}{wi:TI}{g:TG}{tb:TSX}{pos:Pos} (hst:X.stack=X.env :: X.outer) (hfr:X.env.frame=some X.env.locals) (hc:X.calm=true) (hi:PI X.nox tg iter wi) (hg:PG X.nox tg g) (hb:iH X body tb)
  (hs:∀ x,foldedSetIterable iter X.env x=pure x:=by intro _; rfl):PSX X (.For tg iter body [] pos) (BX wi g tb):=by
 intro pins s σ H D V xe I h hx
 have hp:PassesOwn (model X.prog X.w) X.A X.env (EX X pins V):=uu hst hfr
 refine Eo (E:=EX X pins V) ?_ (fun _ _ q=>q) hx
 refine wpAny_For (Eo (hi pins s σ H _ (I.wish _) h) (fun v s1 h1=>Eo h1 (fun itv s2 h2=>?_) fun _ _ z=>False.elim z) fun _ _ z=>False.elim z) hs
 obtain ⟨it,fp,tn,J,H2,e,I2,T,st2,f2,Wn,⟨m0,w0⟩,turn⟩:=h2
 subst e
 have stat:∀ {H':Hp},(∀ b ∈ fp,H' b=none)→∀ b ∈ fp,gH X pins H' b:=fun hn b hb=>⟨hn b hb,(f2 b hb).2⟩
 refine codeAny_forLoop_any (fun n s'=>∃ i σ' H',Inv X pins σ' H' s'∧tn i s'.heap∧(∀ b ∈ fp,H' b=none)∧Wn i n σ' H') ?_ m0 ⟨0,σ,H2,I2.unwish,st2,fun b hb=>(f2 b hb).1,w0⟩
 rintro n s3 ⟨i,σ3,H3,I3,st3,fr3,w3⟩
 rcases turn i n σ3 H3 w3 with ⟨stop,qn⟩ | ⟨go,N,hN,step⟩
 ·refine E7 hp (thn (T.done X rfl rfl rfl hc i pins s3 σ3 H3 _ I3 (stat fr3) st3 stop) fun r s4 zz142_0=>?_)
  obtain ⟨hr,I4⟩:=zz142_0
  subst hr
  exact FQ ⟨σ3,H3,I4,qn⟩
 ·refine E7 hp (thn (T.item X rfl rfl rfl hc i pins s3 σ3 H3 _ I3 (stat fr3) st3 go) fun r s4 zz143_0=>?_)
  obtain ⟨u,hr,h4⟩:=zz143_0
  subst hr
  refine E7 hp (thn h4 fun _ s5 zz144_0=>?_)
  obtain ⟨x,H5,I5,r5,y5,st5,fr5⟩:=zz144_0
  have I5':=I5.pinned (stat fr5) (T.obj _ _ st5)
  refine E7 hp (Eo (hg _ s5 σ3 H5 x u _ (I5'.wish _) r5 (step x H5 y5)) (fun _ s6 zz145_0=>?_) fun _ _ z=>False.elim z)
  obtain ⟨σ6,H6,I6,q6⟩:=zz145_0
  have I6:=I6.unwish
  refine E7 hp (thn (hb _ s6 σ6 H6 _ V (EX X pins V) I6 q6 fun e s' ⟨σ',a,C,dx,o0,H',e1,I',er,eo,hp',hw⟩=>?_) fun f s7 q7=>?_)
  ·refine ⟨σ',a,C,dx,o0,H',e1,I'.unpinned,?_,eo,fun p hm=>hp' p ?_,hw⟩
   ·rcases er with z | ⟨T',fl,z1,z2,z3,z4,z5⟩
    ·exact .inl z
    ·refine .inr ⟨T',fl,z1,z2,z3,z4,fun p hm=>z5 p ?_⟩
     rcases List.mem_append.mp hm with m | m
     ·exact EL _ m
     ·exact D4 _ (EL _ m)
   ·rcases List.mem_append.mp hm with m | m
    ·exact EL _ m
    ·exact D4 _ (EL _ m)
  have again:∀ {σ7:St}{H7:Hp},Inv X (pins ++ iT fp s5.heap) σ7 H7 s7→N σ7 H7→∃ m,m < n∧∃ i σ' H',Inv X pins σ' H' s7∧tn i s7.heap∧(∀ b ∈ fp,H' b=none)∧Wn i m σ' H':=fun {σ7 H7} I7 n7=>by
   obtain ⟨m',hm,w7⟩:=hN σ7 H7 n7
   refine ⟨m',hm,i + 1,σ7,H7,I7.unpinned,T.keep _ _ _ st5 fun b hb o e=>(I7.pin (b,o) (D4 _ (D4 _ (dj hb e)))).1,fun b hb=>?_,w7⟩
   obtain ⟨o,e,d⟩:=T.obj _ _ st5 b hb
   exact (I7.pin (b,o) (D4 _ (D4 _ (dj hb e)))).2.1
  cases f with
  | next=>obtain ⟨σ7,H7,I7,n7⟩:=q7; exact again I7 n7
  | cont=>obtain ⟨σ7,H7,I7,n7⟩:=q7; exact again I7 n7
  | brk=>obtain ⟨σ7,H7,I7,q7⟩:=q7; exact ⟨σ7,H7,I7.unpinned,q7⟩
  | ret v=>obtain ⟨x7,σ7,H7,I7,r7,q7⟩:=q7; exact ⟨x7,σ7,H7,I7.unpinned,r7,q7⟩
end
theorem yf {X:Cx}{i:Nat}{x:Str}{e:Expr}{te:TEX}{pos pos':Pos} (hN:X.N.Nodup) (hi:X.N[i]? = some x) (hx:Loc X.env.scope x) (he:PEX X e te) (hs:swapsWith e (some (.Name x pos')) pos.line X.env=pure false:=by rfl) (hf:X.fn x=true∨X.env.scope.names.lookup x=some .local:=by first | exact .inl rfl | exact .inr rfl | assumption) :
  PSX X (.Assign [.Name x pos'] e pos) (fun D W σ H=>te σ H (fun v H1=>D.nx (σ.set i (some v)) H1) W):=by
 intro pins s σ H D W xe I h hw
 refine wpAny_Assign_Name (thn (he pins s σ H _ W xe I h hw) fun v s1 zz147_0=>?_) hs
 obtain ⟨y,H1,I1,r1,q1⟩:=zz147_0
 exact dW I1 hN hi hx r1 (fun s2 I2=>⟨_,H1,I2,q1⟩) hf
end L2
namespace L2.Cu
open PySem PySem.Spec PyProof.Rows
def fW (f:D→DE→Option cJ):List D→DE→Option cJ
 | [],E=>some (.ok (.nx E))
 | x :: xs,E=>(f x E).bind fun r=>match r with
  | .ok (.nx E')=>fW f xs E'
  | .ok (.ct E')=>fW f xs E'
  | .ok (.bk E')=>some (.ok (.nx E'))
  | r=>some r
def wN (fi:DE→Option (List D)) (gf:D→DE→Option DE) (fb:DE→Option cJ) (E:DE):Option cJ:=(fi E).bind fun xs=>fW (fun x E1=>(gf x E1).bind fb) xs E
theorem y_ {X:Cx}{cl:Nat→Addr}{pos:Pos}{tg iter:Expr}{body:List Stmt}{fi:DE→Option (List D)} {gf:D→DE→Option DE}{fb:DE→Option cJ} (hst:X.stack=X.env :: X.outer) (hfr:X.env.frame=some X.env.locals) (hc:X.calm=true) (hi:Ei X.nox tg iter fi) (hg:Eg X.nox tg gf) (hb:lr X cl body fb)
  (hs:∀ x,foldedSetIterable iter X.env x=pure x:=by intro _; rfl):EsX X cl (.For tg iter body [] pos) (wN fi gf fb):=PSX.by (yg hst hfr hc hi.h hg.h hb.h hs) fun Z W σ H z=>by
 obtain ⟨B,F,E,r,k,q,w⟩:=z
 unfold wN at q
 cases hf:fi E with
 | none=>rw [hf] at q; cases q
 | some xs =>
  rw [hf,DC] at q
  refine ⟨B,F,E,xs,k,hf,fun J F1 H1 x1 it=>?_⟩
  refine ⟨fun i m σ' H'=>∃ F' E',Ok B F' H' σ' E'∧Fr F1 F'∧i≤xs.length∧m=xs.length - i∧fW (fun x E1=>(gf x E1).bind fb) (xs.drop i) E'=some r,⟨_,F1,E,k.ext x1,fun _ _ e=>e,E_ _,rfl,q⟩,?_⟩
  rintro i m σ' H' ⟨F',E',k',y,hi,rfl,ql⟩
  have fitF:jq cl B F' Z W r:=w.mono fun a o e=>y a o (x1.fr a o e)
  obtain ⟨st,gn⟩:=it i F' H' y k'.sub
  by_cases hlt:i < xs.length
  ·right
   have hx:xs[i]? = some xs[i]:=by simp [hlt]
   obtain ⟨go,yl⟩:=gn _ hx
   rw [Ff hlt] at ql
   unfold fW at ql
   refine ⟨go,fun σ2 H2=>∃ F2 E2,Ok B F2 H2 σ2 E2∧Fr F1 F2∧fW (fun x E1=>(gf x E1).bind fb) (xs.drop (i + 1)) E2=some r,?_,?_⟩
   ·rintro σ2 H2 ⟨F2,E2,k2,y2,q2⟩
    exact ⟨xs.length - (i + 1),by omega,F2,E2,k2,y2,hlt,rfl,q2⟩
   ·intro x H2 hy
    obtain ⟨F3,x3,r3⟩:=yl x H2 hy
    cases hgf:gf xs[i] E' with
    | none=>simp [hgf] at ql
    | some E3 =>
     cases hfb:fb E3 with
     | none=>simp [hgf,hfb] at ql
     | some r1 =>
      simp only [hgf,hfb,DC] at ql
      have k3:=k'.ext x3
      refine ⟨B,F3,E',xs[i],E3,k3,r3,hgf,fun σ4 F4 H4 k4 x4=>⟨B,F4,E3,r1,k4,hfb,?_⟩⟩
      have y4:Fr F1 F4:=fun a o e=>x4.fr a o (x3.fr a o (y a o e))
      have f4:Fr F' F4:=fun a o e=>x4.fr a o (x3.fr a o e)
      cases r1 with
      | xc n fs E5 =>
       simp only at ql
       cases ql
       exact jq.mono fitF f4
      | ok r1 =>
       cases r1 with
       | nx E5=>exact fun σ5 F5 H5 k5 y5=>⟨F5,E5,k5,fun a o e=>y5 a o (y4 a o e),ql⟩
       | ct E5=>exact fun σ5 F5 H5 k5 y5=>⟨F5,E5,k5,fun a o e=>y5 a o (y4 a o e),ql⟩
       | bk E5 =>
        simp only at ql
        cases ql
        exact fun σ5 F5 H5 k5 y5=>fitF σ5 F5 H5 k5 fun a o e=>y5 a o (f4 a o e)
       | rt d =>
        simp only at ql
        cases ql
        exact (jq.mono (r:=.ok (.rt d)) fitF f4)
  ·left
   have e:i=xs.length:=by omega
   subst e
   refine ⟨st rfl,?_⟩
   rw [Gn] at ql
   cases ql
   exact fitF σ' F' H' k' fun _ _ e=>e
def spV (cl:Nat→Addr) (n:Nat) (g:List D→Option D) (gx:List D→Option (Option (Nat×List (Str×D)))):Sp:=fun vs H Q E=>∃ F ds,(∀ a o,F a=some o→H a=some o)∧Reps F vs ds∧ds.length=n ∧
 ((∃ d,g ds=some d∧∀ v F' H',Ext F H F' H'→Rep F' v d→Q v H')∨∃ m fs,gx ds=some (some (m,fs))∧∀ F' H' dx,Ext F H F' H'→H' dx=none→E (.ref (cl m)) (some dx) (upd H' dx (.xd (scF fs))))
theorem Dj {P:Program}{w:World}{K:PySem.W.Frag}{mg:Str→Option Value}{base:Heap}{k n:Nat}{f:Addr}{fd:FuncData}{ps:List Str}{cl:Nat→Addr}{g:List D→Option D}{gx:List D→Option (Option (Nat×List (Str×D)))} (F:br P w K mg base CX0 k f fd ps (spD n g))
  (F':br P w K mg base (CX1 P w) k f fd ps (zX cl n gx)):br P w K mg base (CX1 P w) k f fd ps (spV cl n g gx) :=
 br.or (br.wide F) F' fun vs H Q E h=>by
  obtain ⟨G,ds,h1,h2,h3,⟨d,h4,h5⟩ | ⟨m,fs,h4,h5⟩⟩:=h
  ·exact .inl ⟨G,ds,d,h1,h2,h3,h4,h5⟩
  ·exact .inr ⟨G,ds,some (m,fs),h1,h2,h3,h4,h5⟩
def kW (n:Nat) (g:List D→Option D) (gx:List D→Option (Option (Nat×List (Str×D)))) (ok:D→DE→Out) (f:DE→Option (List D)) (E:DE):Option cJ:=(f E).bind fun ds=>if ds.length=n then match g ds with
  | some d=>some (.ok (ok d E))
  | none=>(gx ds).bind fun r=>r.map fun m=>.xc m.1 m.2 E
 else none
theorem qR {cl:Nat→Addr}{n:Nat}{g:List D→Option D}{gx:List D→Option (Option (Nat×List (Str×D)))} {ok:D→DE→Out}{f:DE→Option (List D)} {B:Hp×Hp}{F H:Hp} {σ:St}{E:DE}{r:cJ}{Z:d_}{W:XW}{Q:VK} (k:Ok B F H σ E) (q:kW n g gx ok f E=some r) (w:jq cl B F Z W r)
  (hq:∀ d v F' H',lq B F Z (ok d E)→Ext F H F' H'→Rep F' v d→Q v H'):tL f σ H fun vs H1=>∃ X':XK,spV cl n g gx vs H1 Q X'∧∀ c d H',X' c d H'→W σ c d H':=by
 unfold kW at q
 cases hf:f E with
 | none=>rw [hf] at q; cases q
 | some ds =>
  rw [hf,DC] at q
  by_cases hn:ds.length=n
  ·rw [if_pos hn] at q
   refine ⟨B,F,E,ds,k,hf,fun vs F1 H1 x1 r1=>⟨fun c d H'=>W σ c d H',⟨F1,ds,x1.sub,r1,hn,?_⟩,fun _ _ _ z=>z⟩⟩
   cases hg:g ds with
   | some d =>
    rw [hg] at q
    cases q
    exact .inl ⟨d,rfl,fun v F' H' x r=>hq d v F' H' w (x1.trans x) r⟩
   | none =>
    rw [hg] at q
    obtain ⟨y,h1,h2⟩:=Option.bind_eq_some_iff.mp q
    obtain ⟨⟨m,fs⟩,rfl,rfl⟩:=Option.map_eq_some_iff.mp h2
    exact .inr ⟨m,fs,h1,fun F' H' dx x hd=>w σ F' H' dx (k.ext (x1.trans x)) (x1.trans x).fr hd⟩
  ·rw [if_neg hn] at q; cases q
section
variable {X:Cx}{cl:Nat→Addr}{kk:Nat}{fa:Addr}{fd:FuncData}{ps:List Str}{y:Str}{p cpos pos:Pos}{e:Expr}{es:List Expr}{n:Nat}{g:List D→Option D}{gx:List D→Option (Option (Nat×List (Str×D)))} {f:DE→Option (List D)}
theorem wX {i:Nat}{x:Str}{pos':Pos} (Fn:br X.prog X.w X.K X.mg X.base (CX1 X.prog X.w) kk fa fd ps (spV cl n g gx)) (hr:cW kk X.A) (hg:Gl X y) (hm:X.mg y=some (.ref fa)) (hk:PySem.W.keepIn X.K (.ref fa)=true) (hb:bz X.K fd ps []) (ha:Ea X.nox (e :: es) f)
  (hN:X.N.Nodup) (hi:X.N[i]? = some x) (hx:Loc X.env.scope x) (hdb:(y == ("__debug__" : Str))=false:=by decide) (he:be e=true:=by rfl) (hpl:es.all be=true:=by rfl) (hs:swapsWith (.Call (.Name y p) (e :: es) [] cpos) (some (.Name x pos')) pos.line X.env=pure false:=by rfl)
  (hf:X.fn x=true∨X.env.scope.names.lookup x=some .local:=by first | exact .inl rfl | exact .inr rfl | assumption):EsX X cl (.Assign [.Name x pos'] (.Call (.Name y p) (e :: es) [] cpos) pos) (kW n g gx (fun d E=>.nx (E.set i (.val d))) f) :=
 PSX.by (yf hN hi hx (vT Fn hr hg hm hk hb ha.h hdb (aH e es X.env he) (dQ cpos X.env es hpl)) hs hf) fun Z W σ H z=>by
  obtain ⟨B,F,E,r,k,q,w⟩:=z
  exact qR k q w fun d v F' H' w' x r=>w' _ F' H' ((k.ext x).set_val r i) x.fr
end
end L2.Cu
namespace L2.Cu.Sh
open PySem PySem.Spec PyProof.Rows
def b__Lmixed:DE→Option Out :=
 (aw (bin ci (bin ou (ae 0) (cst (.int 271828182845904523536028747135266249775724709369995957496697))) (bin n5 (cst (.int 10)) (cst (.int 60)))))
def g__Lmixed:List D→Option D:=bF 1 1 b__Lmixed
def b__Lcell:DE→Option Out :=
 (ay (ifS (tst (bin ltD (ae 1) (un bx (ae 0))))
 (aw (al 1 g__Lmixed (aa (bin ixE (ae 0) (ae 1)) ag)))
 aQ)
 (aw (cst (.int 0))))
def g__Lcell:List D→Option D:=bF 2 2 b__Lcell
def b__Ltexts:DE→Option Out :=
 (ay (aB 3 (cst (.str "abcdefghijklmnopqrstuvwxyz")))
 (ay (aB 4 (bin ci (ae 0) (cst (.int 3))))
 (ay (aB 5 (bin ci (bin bM (ae 0) (cst (.int 3))) (ae 2)))
 (ay (aB 6 (bin ci (bin bM (ae 0) (cst (.int 40))) (bin cv (ae 5) (cst (.int 1)))))
 (ay (aB 0 (bin bM (ae 0) (cst (.int 600))))
 (ay (aB 7 (cst (.str "")))
 (ay (fD (eQ (aa (var 2) ag)) (nmG 8)
 (ay (aB 7 (bin cv (ae 7) (bin ixE (ae 3) (bin ci (ae 0) (cst (.int 26))))))
 (aB 0 (bin bM (ae 0) (cst (.int 26))))))
 (ay (ifS (tst (bin eqO (ae 4) (cst (.int 0))))
 (aw (aE [8] (eQ (aa (var 1) ag)) (nmG 8) noT (bJ (ae 7) noP (cc (bin cv (cst (.int 1)) (ae 8))))))
 aQ)
 (ay (ifS (tst (bin eqO (ae 4) (cst (.int 1))))
 (aw (aE [8] (eQ (aa (var 1) ag)) (nmG 8) noT (bin cv (bin cv (bJ (ae 7) noP (cc (var 6))) (bin ixE (ae 3) (bin ci (bin cv (ae 0) (ae 8)) (cst (.int 26))))) (bJ (ae 7) (cc (var 6)) (cc (var 5))))))
 aQ)
 (aw (aE [8] (eQ (aa (var 1) ag)) (nmG 8) noT (bin ou (bin ixE (ae 3) (bin ci (bin cv (ae 0) (ae 8)) (cst (.int 26)))) (bin cv (cst (.int 1)) (ae 5))))))))))))))
def g__Ltexts:List D→Option D:=bF 3 9 b__Ltexts
def b__Lplay:DE→Option Out :=
 (ay (dF 3 (bB ag))
 (ay (aB 4 (bE ag))
 (ay (fD (bW aN (var 0)) (nmG 5)
 (ay (aB 5 (al 1 g__Lmixed (aa (var 5) ag)))
 (ay (aB 6 (aE [8] (bW aN (var 1)) (nmG 8) (tst (bin t0 (ae 8) (ae 4))) (var 8)))
 (ay (dF 7 (bB ag))
 (ay (fD (bW aN (var 6)) (nmG 8)
 (ay (ifS (tst (bin eqO (bin ci (ae 5) (cst (.int 3))) (cst (.int 0))))
 (eK 7 (var 8))
 aQ)
 (aB 5 (bin bM (ae 5) (cst (.int 3))))))
 (ay (ifS (orT (tst (bin eqO (ae 7) (bB ag))) (tst (bin eqO (un bx (ae 7)) (un bx (ae 1)))))
 (dF 7 (bB (aa (bin ixE (ae 6) (bin ci (ae 5) (un bx (ae 6)))) ag)))
 aQ)
 (ay (aB 5 (bin bM (ae 5) (cst (.int 5))))
 (ay (dF 9 (bB ag))
 (ay (fD (eQ (aa (bin cv (cst (.int 1)) (bin ci (ae 5) (cst (.int 5)))) ag)) (nmG 10)
 (ay (aB 5 (bin bM (ae 5) (cst (.int 7))))
 (eK 9 (bin ixE (ae 2) (bin ci (ae 5) (un bx (ae 2)))))))
 (ay (aB 4 (un aW (un eM (ae 7))))
 (eK 3 (bE (aa (var 4) (aa (un aW (ae 9)) ag))))))))))))))
 (aw (un aW (ae 3))))))
def g__Lplay:List D→Option D:=bF 3 11 b__Lplay
def b__Lsame (gIH:List D→Option D):DE→Option Out :=
 (ay (ifS (tst (isF "tuple" (ae 1)))
 (ay (ifS (orT (bq (tst (isF "tuple" (ae 0)))) (tst (bin neO (un bx (ae 0)) (un bx (ae 1)))))
 (aw (cst (.bl false)))
 aQ)
 (aw (un cV (aE [2] (eQ (aa (un bx (ae 1)) ag)) (nmG 2) noT (al 2 gIH (aa (bin ixE (ae 0) (ae 2)) (aa (bin ixE (ae 1) (ae 2)) ag)))))))
 aQ)
 (ay (ifS (tst (isF "str" (ae 1)))
 (aw (bS (isF "str" (ae 0)) (bin eqO (ae 0) (ae 1))))
 aQ)
 (aw (bS (isF "int" (ae 0)) (bS (kn (isF "bool" (ae 0))) (bin eqO (ae 0) (ae 1)))))))
def g__Lsame:Nat→List D→Option D
 | 0=>fun _=>none
 | k + 1=>bF 2 3 (b__Lsame (g__Lsame k))
end L2.Cu.Sh
namespace L2.Cu
open PySem PySem.Spec PyProof.Rows
theorem om {α:Type} (f:Nat→α) (m:Nat) (h:∀ i j,i < m→j < m→f i=f j→i=j):((List.range m).map f).Nodup:=by
 induction m with
 | zero=>exact List.nodup_nil
 | succ m ih =>
  rw [List.range_succ,Fp,List.nodup_append]
  refine ⟨ih fun i j hi hj e=>h i j (by omega) (by omega) e,FH _ _,fun a ha b hb=>?_⟩
  obtain ⟨i,hi,rfl⟩:=List.mem_map.mp ha
  obtain ⟨j,hj,rfl⟩:=List.mem_map.mp hb
  rw [GD] at hi
  rw [EE] at hj
  subst hj
  intro e
  have:=h i j (by omega) (by omega) e
  omega
def zj (l:List Nat):Prop:=∀ c ∈ l,97≤c∧c≤122
structure Wd (M:Nat) (x:Str):Prop where
 pos:1≤x.length
 le:x.length≤M
 low:zj x.cps.toList
theorem Wd.mk' {M:Nat}{l:List Nat} (h1:1≤l.length) (h2:l.length≤M) (h3:zj l):Wd M (L2.Cu.mk l):=⟨by rw [d5]; exact h1,by rw [d5]; exact h2,by rw [dy]; exact h3⟩
theorem xy:Str.ofString "abcdefghijklmnopqrstuvwxyz" = mk (List.range' 97 26):=by decide
theorem xf:Str.ofString "" = mk []:=by decide
theorem uM {i:Int} (h:0≤i) (h2:i < 26):(List.range' 97 26).getD i.toNat 0=97 + i.toNat:=by
 have hlt:i.toNat < 26:=by omega
 rw [F_,List.getElem?_range' hlt]
 simp
theorem iV {i:Int} (h:0≤i) (h2:i < 26):ixE (.str (mk (List.range' 97 26))) (.int i)=some (.str (mk [97 + i.toNat])):=by
 rw [Ba (by decide) h (by simpa using h2),uM h h2]
namespace Sh
theorem wg {c:Int} (h:Builtin.Int.intBits c≤2 ^ 20):g__Lmixed [.int c]=some (.int (c * 271828182845904523536028747135266249775724709369995957496697 % 10 ^ 60)):=by
 have hb:Builtin.Int.intBits 271828182845904523536028747135266249775724709369995957496697≤2 ^ 20:=by decide
 refine aJ ?_
 simp only [g__Lmixed,b__Lmixed,af,az,aq,aw,bin,cst,ae,a_,gv,DC,DF,DK,DL,DM,DN,DI,DJ,on,List.replicate,Nat.reduceAdd,Nat.reduceSub,Int.reduceLT,Int.reduceLE,Int.reducePow,Int.reduceToNat,Int.reduceAbs,Nat.reducePow,Nat.reduceLT,wf h hb]
theorem oz {c:Int} (h:Builtin.Int.intBits c≤2 ^ 20):wp (g__Lmixed [.int c]) fun d=>∃ e:Int,d=.int e∧0≤e:=by
 rw [wg h]
 exact ⟨_,rfl,Er _ (by decide)⟩
theorem sH {ns:List Int} (hb:∀ i ∈ ns,Builtin.Int.intBits i≤2 ^ 20) (k:Nat):wp (g__Lcell [.scr ns,.int k]) fun d=>∃ e:Int,d=.int e∧0≤e:=by
 simp only [g__Lcell,b__Lcell,af,az,ax,aS,bin,un,ae,tst,asB,ik,DC,DK,DL,DM,DN,DI,DJ,on,DD,List.replicate,Nat.reduceAdd,Nat.reduceSub,kC]
 refine fB (fun h=>?_) fun h=>?_
 ·have hk:k < ns.length:=by omega
  simp only [bY,aV,aq,aw,bin,ae,al,aa,ag,DC,DF,DI,DJ,on,DD,reduceIte,Nat.reduceAdd,m8,iE,DT hk]
  exact oz (hb _ (EI hk))
 ·simp only [af,av,aq,aw,aQ,cst,DF,D.int.injEq]
  exact ⟨0,rfl,Int.le_refl 0⟩
theorem xg {c:Int}{i j:Nat} (hi:i < 26) (hj:j < 26) (e:97 + ((c + i) % 26).toNat=97 + ((c + j) % 26).toNat):i=j:=by omega
theorem qN (c:Int):97≤97 + (c % 26).toNat∧97 + (c % 26).toNat≤122:=by omega
theorem nN (c mI MI:Int) (m M:Nat) (hmI:mI=m) (hMI:MI=M) (hm:m≤M) (hM:M≤12) (hM1:1≤M):wp (g__Ltexts [.int c,.int mI,.int MI]) fun d=>∃ ss:List Str,d=.lst (ss.map D.str)∧ss.length=m∧ss.Nodup∧∀ x ∈ ss,Wd M x:=by
 have hM0:(0:Int) < MI:=by omega
 have h26:m≤26:=D1 hm (D1 hM (by decide))
 have fin:∀ f:Nat→List Nat,(∀ i j,i < m→j < m→f i=f j→i=j)→(∀ i,i < m→1≤(f i).length∧(f i).length≤M∧zj (f i))→∃ ss:List Str,D.lst ((List.range m).map fun k=>D.str (mk (f k)))=.lst (ss.map D.str)∧ss.length=m∧ss.Nodup∧∀ x ∈ ss,Wd M x:=fun f h1 h2 =>
  ⟨(List.range m).map fun k=>mk (f k),by rw [Gx]; rfl,by simp,om _ m fun i j hi hj e=>h1 i j hi hj (AZ.mp e),fun x hx=>by
   obtain ⟨k,hk,rfl⟩:=List.mem_map.mp hx
   obtain ⟨a,b,c⟩:=h2 k (List.mem_range.mp hk)
   exact Wd.mk' a b c⟩
 have hs0:0≤c / 3 % MI:=Er _ (by omega)
 have hs1:c / 3 % MI < MI:=Eu _ hM0
 generalize hsI:c / 3 % MI=sI at hs0 hs1
 have hszp:(0:Int) < sI + 1:=by omega
 have ha0:0≤c / 40 % (sI + 1):=Er _ (by omega)
 have ha1:c / 40 % (sI + 1) < sI + 1:=Eu _ hszp
 generalize haI:c / 40 % (sI + 1)=aI at ha0 ha1
 obtain ⟨sz,hsz⟩:∃ sz:Nat,sI=sz:=⟨sI.toNat,by omega⟩
 obtain ⟨at',hat⟩:∃ at':Nat,aI=at':=⟨aI.toNat,by omega⟩
 have hat1:at'≤sz:=by omega
 simp only [g__Ltexts,b__Ltexts,af,az,ax,av,aB,e9,bin,cst,var,ae,aa,ag,cX,a_,bd,DC,DF,DK,DL,DM,DN,DI,DJ,DG,DH,on,DD,List.replicate,Nat.reduceAdd,Nat.reduceSub,Int.reduceLT,Int.reduceLE,Int.reducePow,c8,a_ hM0,xy,xf,hsI,a_ hszp,haI]
 rw [cS (by omega) (by omega),show MI.toNat=M by omega]
 simp only [af]
 refine hV (fun i:Nat=>D.int (0 + i)) (List.range M) (fun pre E=>∃ (c':Int) (l:List Nat) (sl:Sl),E=[Sl.val (D.int c'),Sl.val (D.int mI),Sl.val (D.int MI),Sl.val (D.str (mk (List.range' 97 26))),Sl.val (D.int (c % 3)),Sl.val (D.int sI),Sl.val (D.int aI),Sl.val (D.str (mk l)),sl]∧l.length=pre.length∧zj l) ?_ ?_ ?_ ?_
 ·rfl
 ·exact ⟨c / 600,[],Sl.no,rfl,rfl,fun c h=>by cases h⟩
 ·rintro pre k post E hs ⟨c',l,sl,rfl,hl,hlow⟩
  have hl':pre.length < 12:=by
   have:=ER List.length hs
   simp at this
   omega
  have h0:0≤c' % 26:=Er _ (by decide)
  have h1:c' % 26 < 26:=Eu _ (by decide)
  simp only [af,aZ,bY,ax,av,aB,bin,cst,ae,nmG,a_,bd,DC,DG,DH,on,DD,Int.reduceLT,Int.reduceLE,Int.reducePow,iV h0 h1]
  rw [nJ (by simp; omega)]
  simp only [af]
  refine ⟨_,_,_,rfl,by simp [hl],fun x hx=>?_⟩
  rcases List.mem_append.mp hx with h | h
  ·exact hlow x h
  ·rw [List.mem_singleton.mp h]; exact qN _
 ·rintro E ⟨c',l,sl,rfl,hl,hlow⟩
  rw [FO] at hl
  have hz:l.length≤16777216:=by omega
  simp only [af,ax,av,aS,bin,cst,ae,tst,asB,DC,on,DD,c4]
  refine fB (fun h=>?_) fun h=>?_
  ·simp only [aZ,bY,aV,aq,aw,var,aa,ag,cX,aU,aE,DC,DF,DG,DH,on,DD,DO,Eb]
   rw [cS (by omega) (by omega),show mI.toNat=m by omega]
   simp only [af]
   refine gR (rm (by simp [dE]; omega)) ?_
   rw [show dE 0 m=(List.range m).map (fun i:Nat=>D.int (0 + i)) from rfl,bp (fun i:Nat=>D.int (0 + i)) (fun k=>D.str (mk (l.take (1 + k)))) (List.range m) fun k hk=>?_]
   ·simp only [af,DF]
    have ht:∀ i,i < m→(l.take (1 + i)).length=1 + i:=fun i hi=>Gr (by omega)
    refine fin _ (fun i j hi hj e=>?_) fun i hi=>⟨by rw [ht i hi]; exact Nat.le_add_right 1 i,by rw [ht i hi]; omega,fun c hc=>hlow c (Fv hc)⟩
    have:=ER List.length e
    rw [ht i hi,ht j hj] at this
    exact Nat.add_left_cancel this
   ·refine aJ ?_
    simp only [af,bin,cst,ae,noP,cc,bJ,DC,DG,DH,on,DD,c8,vn hz]
    rw [show (1:Int) + (0 + (k:Nat))=((1 + k:Nat):Int) by omega,xm]
  ·simp only [af,ax,av,aS,aQ,bin,cst,ae,tst,asB,DC,on,DD,c4]
   refine fB (fun h2=>?_) fun h2=>?_
   ·simp only [aZ,bY,aV,aq,aw,var,aa,ag,cX,aU,aE,DC,DF,DG,DH,on,DD,DO,Eb]
    rw [cS (by omega) (by omega),show mI.toNat=m by omega]
    simp only [af]
    refine gR (rm (by simp [dE]; omega)) ?_
    rw [show dE 0 m=(List.range m).map (fun i:Nat=>D.int (0 + i)) from rfl,bp (fun i:Nat=>D.int (0 + i)) (fun k:Nat=>D.str (mk (l.take at' ++ [97 + ((c' + k) % 26).toNat] ++ (l.take sz).drop at'))) (List.range m) fun k hk=>?_]
    ·simp only [af,DF]
     have ht:∀ y:Nat,(l.take at' ++ [y] ++ (l.take sz).drop at').length=sz + 1:=fun y=>by
      rw [D9,D9,Fz,Gr (by omega),Gr (by omega),FX]; omega
     refine fin _ (fun i j hi hj e=>?_) fun i hi=>⟨by rw [ht]; exact Nat.le_add_left 1 sz,by rw [ht]; omega,fun c hc=>?_⟩
     ·have e1:=List.append_cancel_right e
      have e2:=List.append_cancel_left e1
      injection e2 with e3
      exact xg (D7 hi h26) (D7 hj h26) e3
     ·simp only [List.mem_append] at hc
      rcases hc with (hc | hc) | hc
      ·exact hlow c (Fv hc)
      ·rw [List.mem_singleton.mp hc]; exact qN _
      ·exact hlow c (Fv (F0 hc))
    ·refine aJ ?_
     have h0:0≤(c' + (0 + (k:Nat))) % 26:=Er _ (by decide)
     have h1:(c' + (0 + (k:Nat))) % 26 < 26:=Eu _ (by decide)
     simp only [aZ,bin,cst,var,ae,noP,cc,bJ,a_,DC,DG,DH,on,DD,Int.reduceLT,c8,vn hz,iV h0 h1]
     rw [hat,hsz,xm,sE]
     have hx:(l.take at').length≤l.length:=List.length_take_le' ..
     have hy:((l.take sz).drop at').length≤l.length:=D1 (by rw [Fz]; exact Nat.sub_le _ _) (List.length_take_le' sz l)
     have hlm:l.length≤12:=by omega
     rw [nJ (D1 (Nat.add_le_add (D1 hx hlm) (DZ _)) (by simp only [FX]; decide))]
     simp only [af]
     rw [nJ (D1 (Nat.add_le_add (by rw [D9]; exact Nat.add_le_add (D1 hx hlm) (DZ _)) (D1 hy hlm)) (by simp only [FX]; decide))]
     simp only [af]
     rw [show c' + (0 + (k:Int))=c' + k by omega]
   ·simp only [af,aZ,bY,av,aq,aw,aQ,var,aa,ag,cX,aU,aE,DC,DF,DG,DH,on,DD,DO,Eb]
    rw [cS (by omega) (by omega),show mI.toNat=m by omega]
    simp only [af]
    refine gR (rm (by simp [dE]; omega)) ?_
    rw [show dE 0 m=(List.range m).map (fun i:Nat=>D.int (0 + i)) from rfl,bp (fun i:Nat=>D.int (0 + i)) (fun k:Nat=>D.str (mk (List.replicate (1 + sz) [97 + ((c' + k) % 26).toNat]).flatten)) (List.range m) fun k hk=>?_]
    ·simp only [af,DF]
     refine fin _ (fun i j hi hj e=>?_) fun i hi=>⟨by simp,by simp; omega,fun c hc=>?_⟩
     ·rw [Nat.add_comm 1 sz,FC,FC,Gh,Gh] at e
      injection e with e3
      exact xg (D7 hi h26) (D7 hj h26) e3
     ·obtain ⟨y,hy,hcy⟩:=List.mem_flatten.mp hc
      rw [(List.mem_replicate.mp hy).2] at hcy
      rw [List.mem_singleton.mp hcy]; exact qN _
    ·refine aJ ?_
     have h0:0≤(c' + (0 + (k:Nat))) % 26:=Er _ (by decide)
     have h1:(c' + (0 + (k:Nat))) % 26 < 26:=Eu _ (by decide)
     simp only [bin,cst,ae,a_,DC,DG,DH,on,DD,Int.reduceLT,c8,iV h0 h1]
     rw [yK (by omega) (by omega) (by simp; omega)]
     simp only [af]
     rw [show c' + (0 + (k:Int))=c' + k by omega,show ((1:Int) + sI).toNat=1 + sz by omega]
end Sh
abbrev Sp:=List Str×List Str
def g8 (ss:List Str):D:=.tup (ss.map D.str)
def bH (s:Sp):D:=.tup [g8 s.1,g8 s.2]
def d8 (p:List Sp):D:=.tup (p.map bH)
def ltS (a b:Str):Prop:=a.cps.toList < b.cps.toList
structure qZ (names words:List Str) (s:Sp):Prop where
 ne:s.1 ≠ []
 le:s.1.length≤names.length
 lt:s.1.length < names.length∨names.length≤1
 sub:∀ n ∈ s.1,n ∈ names
 ris:s.1.Pairwise ltS
 wne:s.2 ≠ []
 wle:s.2.length≤5
 wsub:∀ w ∈ s.2,w ∈ words
def xI (a b:Sp):Prop:=∀ n ∈ a.1,n ∉ b.1
def mn:List Sp→Prop
 | a :: b :: r=>xI a b∧mn (b :: r)
 | _=>True
theorem mn.snoc:∀ {p:List Sp}{s:Sp},mn p→(∀ a,p.getLast? = some a→xI a s)→mn (p ++ [s])
 | [],_,_,_=>trivial
 | [a],s,_,h=>⟨h a rfl,trivial⟩
 | a :: b :: r,s,h,hl=>⟨h.1,mn.snoc (p:=b :: r) h.2 fun x hx=>hl x (by rw [List.getLast?_cons_cons]; exact hx)⟩
structure zk (names words:List Str) (p:List Sp):Prop where
 each:∀ s ∈ p,qZ names words s
 apart:mn p
def cH (p:List Sp):List Str:=(p.getLast?.map (·.1)).getD []
theorem kD (p:List Sp) (s:Sp):cH (p ++ [s])=s.1:=by simp [cH]
theorem nQ {ss:List Str} (h:ss.Nodup):(bb ss).Pairwise ltS:=by
 have h1:=gS ss
 have h2:(bb ss).Nodup:=(aM ss).nodup_iff.mpr h
 refine List.Pairwise.imp₂ (fun a b hab hne=>?_) h1 h2
 unfold leS at hab
 simp only [Gi,FG] at hab
 rcases List.le_iff_lt_or_eq.mp (List.not_lt.mp hab) with z | z
 ·exact z
 ·exact absurd (mz z) hne
theorem Wd.lowS {M:Nat}{x:Str} (h:Wd M x):qX x:=fun c hc=>(h.low c hc).2
theorem gz {α:Type} [DecidableEq α]:∀ {l m:List α},l.Nodup→(∀ x ∈ l,x ∈ m)→l.length≤m.length
 | [],_,_,_=>E_ _
 | x :: l,m,h,hs=>by
  obtain ⟨hx,hn⟩:=List.nodup_cons.mp h
  have hm:=hs x D3
  have:=gz (l:=l) (m:=m.erase x) hn fun y hy=>(List.mem_erase_of_ne (fun z=>hx (by rw [← z]; exact hy))).mpr (hs y (D0 _ hy))
  rw [List.length_erase_of_mem hm] at this
  have:=List.length_pos_of_mem hm
  rw [DI]
  omega
namespace Sh
theorem yn (cells:List Int) (names words:List Str) (hb:∀ i ∈ cells,Builtin.Int.intBits i≤2 ^ 20) (hc:cells.length≤61) (hn:names.Nodup) (hn2:2≤names.length) (hn8:names.length≤8) (hnw:∀ x ∈ names,qX x) (hw:1≤words.length) :
  wp (g__Lplay [.lst (cells.map D.int),.lst (names.map D.str),.lst (words.map D.str)]) fun d=>∃ p,d=d8 p∧p.length=cells.length∧zk names words p:=by
 simp only [g__Lplay,b__Lplay,af,az,ax,av,aB,dF,e9,var,ag,bE,bB,bW,aN,DC,DF,DK,DL,DM,DN,DI,DJ,DG,DH,on,List.replicate,reduceIte,Nat.reduceAdd,Nat.reduceSub,Nat.reduceLeDiff,bj]
 refine hV D.int cells (fun pre E=>∃ (p:List Sp) (s5 s6 s7 s8 s9 s10:Sl),E=[Sl.val (D.lst (cells.map D.int)),Sl.val (D.lst (names.map D.str)),Sl.val (D.lst (words.map D.str)),Sl.own (D.lst (p.map bH)),Sl.val (D.tup ((cH p).map D.str)),s5,s6,s7,s8,s9,s10] ∧
  p.length=pre.length∧zk names words p∧(cH p).length < names.length) rfl ?_ ?_ ?_
 ·exact ⟨[],_,_,_,_,_,_,rfl,rfl,⟨fun _ h=>(by cases h),trivial⟩,by show 0 < _; omega⟩
 ·rintro pre c post E hs ⟨p,s5,s6,s7,s8,s9,s10,rfl,hpl,hgood,hlast⟩
  have hcm:c ∈ cells:=by rw [hs]; simp
  have hpre:pre.length < cells.length:=by rw [hs]; simp
  try simp only [af,aZ,bY,ax,av,aB,dF,e9,var,al,aa,ag,bB,bW,nmG,aU,aE,aN,DC,DF,DI,DJ,DG,DH,on,DD,DO,Eb,reduceIte,Nat.reduceAdd,Nat.reduceLeDiff,bj]
  refine e8 (oz (hb c hcm)) ?_
  rintro _ ⟨e,rfl,he⟩
  try simp only [af,aZ,bY,az,ax,av,aV,aq,rD,aB,dF,aS,aF,aP,e9,aw,B9,aQ,bin,un,dI,cst,var,ae,tst,asB,bq,kY,orT,bS,orV,kn,ifV,al,aa,ag,bE,bB,bW,cX,nX,noP,cc,bJ,nmG,dJ,bh,dc,isF,uD,uC,noT,aU,aE,jV,a_,bd,gv,CB,ik,mX,jK,mY,fC,r9,cV,jy,c3,aN,tyN,DC,DF,E6,Option.map_none,DK,DL,DM,DN,DI,DJ,DG,DH,on,DD,List.replicate,DO,Eb,reduceIte,Nat.reduceAdd,Nat.reduceSub,Int.reduceLT,Int.reduceLE,Int.reducePow,Int.reduceToNat,Int.reduceAdd,Int.reduceSub,Int.reduceMul,Int.reduceNeg,Int.reduceAbs,Nat.reducePow,Nat.reduceLT,Nat.reduceLeDiff,Nat.reduceMul,and_true,GB,and_self,Ee,Eh,DR,Ej,Ex,FN,D.int.injEq,D.bl.injEq,bX,String.reduceBEq,Ed,Bool.true_or,GA,Bool.false_or,EB,Bool.and_true,EF,Em,ED,Bool.or_self,Bool.and_self,reduceCtorEq,c8,rW,rT,rV,oQ,oO,oP,mG,hY,mF,c4,nv,qL,cB,rQ,m_,ot,bj,zt,fY,cO,dM,m8,dB,cZ,kC,oN,eK,CL,CU,BN,cA,zK,eO,b_,jU,lV,gA,CV,CG,zH,zI,dN,dz]
  refine gR (rm (by simp; omega)) ?_
  rw [iC D.str (fun n => !decide (n ∈ cH p)) D.str names fun x hx=>?_]
  ·try simp only [af,DF]
   generalize hfr:names.filter (fun n => !decide (n ∈ cH p))=free
   have hfsub:∀ n ∈ free,n ∈ names∧n ∉ cH p:=fun n hn=>by
    rw [← hfr,List.mem_filter] at hn
    exact ⟨hn.1,by simpa using hn.2⟩
   have hfnd:free.Nodup:=by rw [← hfr]; exact hn.filter _
   have hfl:free.length≤8:=by rw [← hfr]; exact D1 (List.length_filter_le _ _) hn8
   have hfne:0 < free.length:=by
    rcases Nat.eq_zero_or_pos free.length with h0 | h0
    ·exfalso
     have hall:∀ n ∈ names,n ∈ cH p:=fun n hn'=>by
      by_cases hm:n ∈ cH p
      ·exact hm
      ·have:n ∈ free:=by rw [← hfr,List.mem_filter]; exact ⟨hn',by simpa using hm⟩
       rw [List.length_eq_zero_iff.mp h0] at this
       cases this
     have:=gz hn hall
     omega
    ·exact h0
   refine hV D.str free (fun pr E=>∃ (some':List Str) (e':Int) (sl:Sl),E=[Sl.val (D.lst (cells.map D.int)),Sl.val (D.lst (names.map D.str)),Sl.val (D.lst (words.map D.str)),Sl.own (D.lst (p.map bH)),Sl.val (D.tup ((cH p).map D.str)),Sl.val (D.int e'),Sl.val (D.lst (free.map D.str)),Sl.own (D.lst (some'.map D.str)),sl,s9,s10]∧some'.Sublist pr) rfl ⟨[],_,_,rfl,.slnil⟩ ?_ ?_
   ·rintro pr x po E hsx ⟨so,e',sl,rfl,hsub⟩
    have hl:so.length≤8:=D1 hsub.length_le (by rw [hsx] at hfl; simp at hfl; omega)
    try simp only [af,aZ,ax,aS,bin,cst,ae,tst,asB,nmG,a_,DC,DG,DH,on,DD,Int.reduceLT,c4]
    refine fB (fun h=>?_) fun h=>?_
    ·try simp only [var,DC,DG,DH,on,DD,eK]
     refine gR (vh (by simp; omega)) ?_
     try simp only [af,av,aB,bin,cst,ae,bd,DC,DF,DG,DH,on,DD,Int.reduceLT,Int.reduceLE,Int.reducePow]
     exact ⟨so ++ [x],_,_,by rw [Fp]; rfl,hsub.append (List.Sublist.refl _)⟩
    ·try simp only [af,av,aB,aQ,bin,cst,ae,bd,DC,DF,DG,DH,on,DD,Int.reduceLT,Int.reduceLE,Int.reducePow]
     exact ⟨so,_,_,rfl,hsub.trans (List.sublist_append_left _ _)⟩
   ·rintro E ⟨so,e',sl,rfl,hsub⟩
    have hsl:so.length≤8:=D1 hsub.length_le hfl
    have hsmem:∀ n ∈ so,n ∈ free:=fun n hn'=>hsub.subset hn'
    have hsnd:so.Nodup:=hsub.nodup hfnd
    have hslow:∀ x ∈ so,qX x:=fun x hx=>hnw x (hfsub x (hsmem x hx)).1
    have hfl0:(0:Int) < (free.length:Int):=by omega
    have key:∀ (so':List Str),so'.Nodup→so' ≠ []→so'.length < names.length→(∀ n ∈ so',n ∈ free)→wp ((ay (aB 5 (bin bM (ae 5) (cst (.int 5)))) (ay (dF 9 (bB ag)) (ay (fD (eQ (aa (bin cv (cst (.int 1)) (bin ci (ae 5) (cst (.int 5)))) ag)) (nmG 10) (ay (aB 5 (bin bM (ae 5) (cst (.int 7)))) (eK 9 (bin ixE (ae 2) (bin ci (ae 5) (un bx (ae 2))))))) (ay (aB 4 (un aW (un eM (ae 7)))) (eK 3 (bE (aa (var 4) (aa (un aW (ae 9)) ag)))))))) [Sl.val (D.lst (cells.map D.int)),Sl.val (D.lst (names.map D.str)),Sl.val (D.lst (words.map D.str)),Sl.own (D.lst (p.map bH)),Sl.val (D.tup ((cH p).map D.str)),Sl.val (D.int e'),Sl.val (D.lst (free.map D.str)),Sl.own (D.lst (so'.map D.str)),sl,s9,s10])
      (fun r=>match r with | .nx E'=>∃ (p:List Sp) (s5 s6 s7 s8 s9 s10:Sl),E'=[Sl.val (D.lst (cells.map D.int)),Sl.val (D.lst (names.map D.str)),Sl.val (D.lst (words.map D.str)),Sl.own (D.lst (p.map bH)),Sl.val (D.tup ((cH p).map D.str)),s5,s6,s7,s8,s9,s10]∧p.length=(pre ++ [c]).length∧zk names words p∧(cH p).length < names.length | .ct E'=>∃ (p:List Sp) (s5 s6 s7 s8 s9 s10:Sl),E'=[Sl.val (D.lst (cells.map D.int)),Sl.val (D.lst (names.map D.str)),Sl.val (D.lst (words.map D.str)),Sl.own (D.lst (p.map bH)),Sl.val (D.tup ((cH p).map D.str)),s5,s6,s7,s8,s9,s10]∧p.length=(pre ++ [c]).length∧zk names words p∧(cH p).length < names.length | _=>False):=by
     intro so' h1 h2 h3 h4
     try simp only [af,ax,av,aB,dF,e9,bin,cst,ae,aa,ag,bB,cX,a_,bd,DC,DF,DJ,DG,DH,on,DD,reduceIte,Int.reduceLT,Int.reduceLE,Int.reducePow,Nat.reduceLeDiff,c8,bj]
     have hr:1≤1 + e' / 5 % 5∧1 + e' / 5 % 5≤5:=by omega
     rw [cS (by omega) (by omega)]
     try simp only [af]
     refine hV (fun i:Nat=>D.int (0 + i)) (List.range (1 + e' / 5 % 5).toNat) (fun pr E=>∃ (ws:List Str) (e':Int) (sl2:Sl),E=[Sl.val (D.lst (cells.map D.int)),Sl.val (D.lst (names.map D.str)),Sl.val (D.lst (words.map D.str)),Sl.own (D.lst (p.map bH)),Sl.val (D.tup ((cH p).map D.str)),Sl.val (D.int e'),Sl.val (D.lst (free.map D.str)),Sl.own (D.lst (so'.map D.str)),sl,Sl.own (D.lst (ws.map D.str)),sl2]∧ws.length=pr.length∧∀ w ∈ ws,w ∈ words) rfl ⟨[],_,_,rfl,rfl,fun _ h=>by cases h⟩ ?_ ?_
     ·rintro pr k po E hk ⟨ws,e2,sl2,rfl,hwl,hws⟩
      have hwp:(0:Int) < ((words.map D.str).length:Int):=by simp; omega
      have hpl':pr.length < 5:=by
       have:=ER List.length hk
       simp at this
       omega
      simp only [af,aZ,bY,ax,av,aB,bin,un,cst,ae,nmG,a_,bd,DC,DG,DH,on,DD,Int.reduceLT,Int.reduceLE,Int.reducePow,cO,dB,eK,a_ hwp]
      refine pR (Er _ (by omega)) (Eu _ hwp) fun d hd=>?_
      obtain ⟨x,hx,rfl⟩:=List.mem_map.mp hd
      refine gR (vh (by simp; omega)) ?_
      try simp only [af]
      exact ⟨ws ++ [x],_,_,by rw [Fp]; rfl,by simp [hwl],fun w hw'=>by
       rcases List.mem_append.mp hw' with z | z
       ·exact hws w z
       ·rw [List.mem_singleton.mp z]; exact hx⟩
     ·rintro E ⟨ws,e2,sl2,rfl,hwl,hws⟩
      rw [FO] at hwl
      simp only [af,ax,av,aB,un,var,ae,aa,ag,bE,DC,DF,DI,DJ,DG,DH,on,DD,reduceIte,Nat.reduceAdd,Nat.reduceLeDiff,bj,eK,b_,lD (show so'.length < 64 by omega)]
      refine gR (vh (by simp; omega)) ?_
      try simp only [af]
      have hperm:=aM so'
      have hdisj:∀ n ∈ cH p,n ∉ bb so':=fun n hn' hm=>(hfsub n (h4 n (hperm.mem_iff.mp hm))).2 hn'
      refine ⟨p ++ [(bb so',ws)],Sl.val (D.int e2),Sl.val (D.lst (free.map D.str)),Sl.own (D.lst (so'.map D.str)),sl,Sl.own (D.lst (ws.map D.str)),sl2,?_,by simp [hpl],⟨fun s hs'=>?_,?_⟩,?_⟩
      ·rw [kD,Fp]; rfl
      ·rcases List.mem_append.mp hs' with z | z
       ·exact hgood.each s z
       ·rw [List.mem_singleton.mp z]
        refine ⟨fun z=>h2 (List.length_eq_zero_iff.mp (by rw [← hperm.length_eq,show bb so'=[] from z]; rfl)),by rw [hperm.length_eq]; omega,.inl (by rw [hperm.length_eq]; exact h3),fun n hn'=>(hfsub n (h4 n (hperm.mem_iff.mp hn'))).1,nQ h1,fun z=>?_,by simp only; omega,hws⟩
        rw [show ws=[] from z] at hwl
        simp at hwl
        omega
      ·refine hgood.apart.snoc fun a ha n hn'=>?_
       have:cH p=a.1:=by unfold cH; rw [ha]; rfl
       exact hdisj n (by rw [this]; exact hn')
      ·rw [kD]
       show (bb so').length < _
       rw [hperm.length_eq]; exact h3
    have one:wp ((dF 7 (bB (aa (bin ixE (ae 6) (bin ci (ae 5) (un bx (ae 6)))) ag))) [Sl.val (D.lst (cells.map D.int)),Sl.val (D.lst (names.map D.str)),Sl.val (D.lst (words.map D.str)),Sl.own (D.lst (p.map bH)),Sl.val (D.tup ((cH p).map D.str)),Sl.val (D.int e'),Sl.val (D.lst (free.map D.str)),Sl.own (D.lst (so.map D.str)),sl,s9,s10]) (fun r=>∃ x,x ∈ free∧r=.nx [Sl.val (D.lst (cells.map D.int)),Sl.val (D.lst (names.map D.str)),Sl.val (D.lst (words.map D.str)),Sl.own (D.lst (p.map bH)),Sl.val (D.tup ((cH p).map D.str)),Sl.val (D.int e'),Sl.val (D.lst (free.map D.str)),Sl.own (D.lst ([x].map D.str)),sl,s9,s10]):=by
     have hfp:(0:Int) < ((free.map D.str).length:Int):=by simp; omega
     simp only [af,aZ,bY,dF,bin,un,ae,aa,ag,bB,a_,DC,DF,DK,DL,DI,DJ,DG,DH,on,DD,reduceIte,Nat.reduceAdd,Nat.reduceLeDiff,bj,cO,dB,a_ hfp]
     refine pR (Er _ (by omega)) (Eu _ hfp) fun d hd=>?_
     obtain ⟨x,hx,rfl⟩:=List.mem_map.mp hd
     skip
     try simp only [af,aZ,bY,az,ax,av,aV,aq,rD,aB,dF,aS,aF,aP,e9,aw,B9,aQ,bin,un,dI,cst,var,ae,tst,asB,bq,kY,orT,bS,orV,kn,ifV,al,aa,ag,bE,bB,bW,cX,nX,noP,cc,bJ,nmG,dJ,bh,dc,isF,uD,uC,noT,aU,aE,jV,a_,bd,gv,CB,ik,mX,jK,mY,fC,r9,cV,jy,c3,aN,tyN,DC,DF,E6,Option.map_none,DK,DL,DM,DN,DI,DJ,DG,DH,on,DD,List.replicate,DO,Eb,reduceIte,Nat.reduceAdd,Nat.reduceSub,Int.reduceLT,Int.reduceLE,Int.reducePow,Int.reduceToNat,Int.reduceAdd,Int.reduceSub,Int.reduceMul,Int.reduceNeg,Int.reduceAbs,Nat.reducePow,Nat.reduceLT,Nat.reduceLeDiff,Nat.reduceMul,and_true,GB,and_self,Ee,Eh,DR,Ej,Ex,FN,D.int.injEq,D.bl.injEq,bX,String.reduceBEq,Ed,Bool.true_or,GA,Bool.false_or,EB,Bool.and_true,EF,Em,ED,Bool.or_self,Bool.and_self,reduceCtorEq,c8,rW,rT,rV,oQ,oO,oP,mG,hY,mF,c4,nv,qL,cB,rQ,m_,ot,bj,zt,fY,cO,dM,m8,dB,cZ,kC,oN,eK,CL,CU,BN,cA,zK,eO,b_,jU,lV,gA,CV,CG,zH,zI,dN,dz]
     exact ⟨x,hx,rfl⟩
    have single:∀ x,x ∈ free→([x]:List Str).Nodup∧([x]:List Str) ≠ []∧([x]:List Str).length < names.length∧∀ n ∈ [x],n ∈ free:=fun x hx=>⟨FH _ _,by simp,by simp; omega,fun n hn'=>by rw [List.mem_singleton.mp hn']; exact hx⟩
    have hcond:orT (tst (bin eqO (ae 7) (bB ag))) (tst (bin eqO (un bx (ae 7)) (un bx (ae 1)))) [Sl.val (D.lst (cells.map D.int)),Sl.val (D.lst (names.map D.str)),Sl.val (D.lst (words.map D.str)),Sl.own (D.lst (p.map bH)),Sl.val (D.tup ((cH p).map D.str)),Sl.val (D.int e'),Sl.val (D.lst (free.map D.str)),Sl.own (D.lst (so.map D.str)),sl,s9,s10]=some (decide (so=[]) || decide (so.length=names.length)):=by
     refine aJ ?_
     simp only [bin,un,ae,tst,asB,orT,ag,bB,DC,DJ,on,DD,reduceIte,Nat.reduceLeDiff,c4,bj,dB,ux hslow]
     by_cases hso:so=[]
     ·simp only [hso,af,DL,DJ,reduceIte,Ej,Bool.true_or]
     ·simp only [hso,af,reduceIte,DR,Ex,Bool.false_or,DU]
      congr 1
      exact propext ⟨fun h=>by omega,fun h=>by omega⟩
    rw [av,ax,aS,hcond,af]
    refine wI (fun h=>?_) fun h=>?_
    ·refine e8 one ?_
     rintro _ ⟨x,hx,rfl⟩
     obtain ⟨a1,a2,a3,a4⟩:=single x hx
     rw [av]
     exact key [x] a1 a2 a3 a4
    ·simp only [Bool.or_eq_false_iff,FG] at h
     rw [show aQ _=some (Out.nx _) from rfl,af,av]
     refine key so hsnd h.1 ?_ hsmem
     have h1:so.length ≠ names.length:=h.2
     have h2:so.length≤names.length:=D1 hsub.length_le (by rw [← hfr]; exact List.length_filter_le _ _)
     omega
  ·simp only [af,bin,var,ae,tst,asB,nmG,DC,DG,DH,on,DD,GB,EF,v9]
   exact fun _=>trivial
 ·rintro E ⟨p,s5,s6,s7,s8,s9,s10,rfl,hpl,hgood,hlast⟩
  try simp only [af,av,aq,aw,un,ae,DC,DF,on,DD,b_]
  exact ⟨p,rfl,hpl,hgood⟩
end Sh
theorem nW (n:Nat):dE 0 n=(List.range n).map (fun i:Nat=>D.int (0 + i)):=rfl
theorem nF {α:Type}{xs:List α}{i:Nat}:atI xs (0 + (i:Int))=xs[i]?:=by rw [Int.zero_add]; exact iE
theorem nI {α:Type} [DecidableEq α] (xs ys:List α) (h:xs.length=ys.length):((List.range ys.length).map fun i=>decide (xs[i]? = ys[i]?)).all id=decide (xs=ys):=by
 rw [Fe]
 by_cases e:xs=ys
 ·subst e
  rw [Ec rfl,Fk]
  intro i _
  simp
 ·rw [Ek e]
  rw [Bool.eq_false_iff]
  intro hall
  rw [Fk] at hall
  refine e (List.ext_getElem? fun i=>?_)
  rcases Nat.lt_or_ge i ys.length with hi | hi
  ·have:=hall i (List.mem_range.mpr hi)
   simpa using this
  ·rw [Gz (by omega),Gz hi]
namespace Sh
theorem vw (k:Nat) (a b:Str):g__Lsame (k + 1) [.str a,.str b]=some (.bl (decide (a=b))):=by
 refine aJ ?_
 simp only [g__Lsame,b__Lsame,af,az,ax,av,aV,aq,aS,aF,aP,aw,aQ,bin,ae,tst,asB,bS,isF,tyN,DC,DF,DK,DL,DM,DN,DI,DJ,on,DD,List.replicate,reduceIte,Nat.reduceAdd,Nat.reduceSub,bX,String.reduceBEq,Ed,EB,Em,nv]
theorem vx {α:Type} [DecidableEq α] (enc:α→D) (k:Nat) (h:∀ a b,g__Lsame k [enc a,enc b]=some (.bl (decide (a=b)))) (xs ys:List α) (hx:xs.length≤4000000) (hy:ys.length≤4000000):g__Lsame (k + 1) [.tup (xs.map enc),.tup (ys.map enc)]=some (.bl (decide (xs=ys))):=by
 have hylen:(ys.map enc).length=ys.length:=DU ..
 have hxlen:(xs.map enc).length=xs.length:=DU ..
 by_cases hl:xs.length=ys.length
 ·have hc:bO (nmG 2) noT (al 2 (g__Lsame k) (aa (bin ixE (ae 0) (ae 2)) (aa (bin ixE (ae 1) (ae 2)) ag))) [Sl.val (D.tup (xs.map enc)),Sl.val (D.tup (ys.map enc)),Sl.no] (dE 0 ys.length)=some ((List.range ys.length).map fun i=>D.bl (decide (xs[i]? = ys[i]?))):=by
   rw [nW]
   refine bp _ _ _ fun i hi=>?_
   rw [GD] at hi
   have hi':i < xs.length:=by omega
   refine aJ ?_
   simp only [af,bin,ae,al,aa,ag,DC,DF,DI,DJ,DG,DH,on,DD,reduceIte,Nat.reduceAdd,FN,dM,nF,EQ,DT hi,DT hi',h]
  have e0:decide ((xs.length:Int)=(ys.length:Int))=true:=by simp [hl]
  have hz:(dE 0 ys.length).length≤16777216:=by simp [dE]; omega
  have hr:je [D.int (ys.length:Int)]=some (dE 0 ys.length):=by rw [cS (by omega) (by omega),Fi]
  refine aJ ?_
  simp only [g__Lsame,b__Lsame,af,az,ax,av,aV,aq,aS,aF,aP,aw,aQ,bin,un,ae,tst,asB,bq,orT,aa,ag,cX,isF,aU,aE,cV,tyN,DC,DF,DK,DL,DM,DN,DI,DJ,DG,DH,on,DD,List.replicate,DO,Eb,reduceIte,Nat.reduceAdd,Nat.reduceSub,Ee,DR,D.bl.injEq,bX,String.reduceBEq,Ed,EB,Em,cB,bj,cZ,hylen,hxlen,e0,hr,hc,bj hz,bU]
  rw [nI xs ys hl]
 ·have e0:decide ((xs.length:Int)=(ys.length:Int))=false:=by simp; omega
  have hne:xs ≠ ys:=fun z=>hl (by rw [z])
  refine aJ ?_
  simp only [g__Lsame,b__Lsame,af,az,ax,aV,aq,aS,aF,aw,bin,un,cst,ae,tst,asB,bq,orT,isF,tyN,DC,DF,DK,DL,DM,DN,DI,DJ,on,DD,List.replicate,reduceIte,Nat.reduceAdd,Nat.reduceSub,Ee,Eh,DR,bX,String.reduceBEq,Ed,EB,Em,cB,cZ,hylen,hxlen,e0,Ek hne]
theorem lG (k:Nat) (ss ts:List Str) (hx:ss.length≤4000000) (hy:ts.length≤4000000):g__Lsame (k + 2) [.tup (ss.map D.str),.tup (ts.map D.str)]=some (.bl (decide (ss=ts))):=vx D.str (k + 1) (vw k) ss ts hx hy
end Sh
end L2.Cu
namespace L2.Cu.Sh
open PySem PySem.Spec PyProof.Rows
def b_is_letters:DE→Option Out :=
 (aw (bS (isF "str" (ae 0)) (bS (dI leD leD (cst (.int 1)) (un bx (ae 0)) (ae 1)) (un cV (aE [2] (bW aN (var 0)) (nmG 2) noT (dI leD leD (cst (.str "a")) (ae 2) (cst (.str "z"))))))))
def g_is_letters:List D→Option D:=bF 2 3 b_is_letters
def b_is_name:DE→Option Out :=
 (aw (al 2 g_is_letters (aa (var 0) (aa (cst (.int 8)) ag))))
def g_is_name:List D→Option D:=bF 1 1 b_is_name
def b_is_word:DE→Option Out :=
 (aw (al 2 g_is_letters (aa (var 0) (aa (cst (.int 12)) ag))))
def g_is_word:List D→Option D:=bF 1 1 b_is_word
def b_are_names:DE→Option Out :=
 (aw (un cV (aE [1] (bW aN (var 0)) (nmG 1) noT (al 1 g_is_name (aa (var 1) ag)))))
def g_are_names:List D→Option D:=bF 1 2 b_are_names
def b_are_words:DE→Option Out :=
 (aw (un cV (aE [1] (bW aN (var 0)) (nmG 1) noT (al 1 g_is_word (aa (var 1) ag)))))
def g_are_words:List D→Option D:=bF 1 2 b_are_words
def b_is_rising:DE→Option Out :=
 (aw (un cV (aE [1,2] (mq (aa (var 0) (aa (bJ (ae 0) (cc (cst (.int 1))) noP) ag))) (dJ 2 (bh (nmG 1) (bh (nmG 2) dc))) noT (bin ltD (ae 1) (ae 2)))))
def g_is_rising:List D→Option D:=bF 1 3 b_is_rising
def b_is_speech_names:DE→Option Out :=
 (aw (bS (isF "tuple" (ae 0)) (bS (dI leD leD (cst (.int 1)) (un bx (ae 0)) (cst (.int 8))) (bS (al 1 g_are_names (aa (var 0) ag)) (al 1 g_is_rising (aa (var 0) ag))))))
def g_is_speech_names:List D→Option D:=bF 1 1 b_is_speech_names
def b_is_speech_words:DE→Option Out :=
 (aw (bS (isF "tuple" (ae 0)) (bS (bin gtD (un bx (ae 0)) (cst (.int 0))) (al 1 g_are_words (aa (var 0) ag)))))
def g_is_speech_words:List D→Option D:=bF 1 1 b_is_speech_words
def b_is_speech:DE→Option Out :=
 (aw (bS (isF "tuple" (ae 0)) (bS (bin eqO (un bx (ae 0)) (cst (.int 2))) (bS (al 1 g_is_speech_names (aa (bin ixE (ae 0) (cst (.int 0))) ag)) (al 1 g_is_speech_words (aa (bin ixE (ae 0) (cst (.int 1))) ag))))))
def g_is_speech:List D→Option D:=bF 1 1 b_is_speech
def b_have_common:DE→Option Out :=
 (aw (un jy (aE [2] (bW aN (var 0)) (nmG 2) noT (bin inE (ae 2) (ae 1)))))
def g_have_common:List D→Option D:=bF 2 3 b_have_common
def b_is_play:DE→Option Out :=
 (ay (ifS (orT (bq (tst (isF "tuple" (ae 0)))) (bq (tst (un cV (aE [1] (bW aN (var 0)) (nmG 1) noT (al 1 g_is_speech (aa (var 1) ag)))))))
 (aw (cst (.bl false)))
 aQ)
 (aw (kn (un jy (aE [2,3] (mq (aa (var 0) (aa (bJ (ae 0) (cc (cst (.int 1))) noP) ag))) (dJ 2 (bh (nmG 2) (bh (nmG 3) dc))) noT (al 2 g_have_common (aa (bin ixE (ae 2) (cst (.int 0))) (aa (bin ixE (ae 3) (cst (.int 0))) ag))))))))
def g_is_play:List D→Option D:=bF 1 4 b_is_play
def b__Llettered:DE→Option Out :=
 (ay (ifS (orT (bq (tst (isF "str" (ae 0)))) (orT (tst (bin ltD (un bx (ae 0)) (cst (.int 1)))) (tst (bin gtD (un bx (ae 0)) (ae 1)))))
 (aw (cst (.bl false)))
 aQ)
 (aw (un cV (aE [2] (bW aN (var 0)) (nmG 2) noT (bin inE (ae 2) (cst (.str "abcdefghijklmnopqrstuvwxyz")))))))
def g__Llettered:List D→Option D:=bF 2 3 b__Llettered
end L2.Cu.Sh
namespace L2.Cu
open PySem PySem.Spec PyProof.Rows
theorem oM {x:Str} (h:x.length≤16777216):bx (.str x)=some (.int x.length):=by
 have:=yO (l:=x.cps.toList) (by rw [← gr]; exact h)
 rw [CC,← gr] at this
 exact this
theorem yW {c:Nat}{z:Str}:inE (.str ⟨#[c]⟩) (.str z)=some (.bl (decide (c ∈ z.cps.toList))):=m_
theorem uL (c:Nat):decide (c ∈ (Str.ofString "abcdefghijklmnopqrstuvwxyz").cps.toList)=(decide (97≤c) && decide (c≤122)):=by
 have e:(Str.ofString "abcdefghijklmnopqrstuvwxyz").cps.toList=List.range' 97 26:=by decide
 rw [e,← Bool.decide_and]
 simp only [List.mem_range'_1]
 congr 1
 apply propext
 omega
theorem wo (a b:Nat):decide ([a] < [b])=decide (a < b):=by
 congr 1
 apply propext
 rw [List.cons_lt_cons_iff]
 simp
theorem Dn (c:Nat):(!decide ([c] < (Str.ofString "a").cps.toList))=decide (97≤c):=by
 have e:(Str.ofString "a").cps.toList=[97]:=by decide
 rw [e,wo]
 by_cases h:97≤c
 ·simp [h]
 ·simp [h]; omega
theorem Dl (c:Nat):(!decide ((Str.ofString "z").cps.toList < [c]))=decide (c≤122):=by
 have e:(Str.ofString "z").cps.toList=[122]:=by decide
 rw [e,wo]
 by_cases h:c≤122
 ·simp [h]
 ·simp [h]; omega
def yM (x:Str):Bool:=x.cps.toList.all fun c=>decide (97≤c) && decide (c≤122)
def isT (M:Int) (x:Str):Bool:=decide (1≤(x.length:Int)) && (decide ((x.length:Int)≤M) && yM x)
def isL (M:Int):D→Bool
 | .str x=>isT M x
 | _=>false
theorem Bi {M:Int}{d:D} (h:isL M d=true):∃ x,d=.str x∧isT M x=true:=by
 cases d <;> first | exact ⟨_,rfl,h⟩ | cases h
def o5:D→Bool
 | .str _=>true
 | _=>false
def o4:D→Bool
 | .tup _=>true
 | _=>false
theorem rj (d:D) (h:o5 d=false):bX (tyN d) "str" = false:=by
 cases d <;> first | rfl | cases h
theorem jA (d:D) (h:o4 d=false):bX (tyN d) "tuple" = false:=by
 cases d <;> first | rfl | cases h
namespace Sh
theorem oG {x:Str}{m:Int} (hx:x.length≤16777216):g_is_letters [.str x,.int m]=some (.bl (isT m x)):=by
 have hs:(dX x).length≤16777216:=by
  unfold dX
  rw [DU,← gr]; exact hx
 have hc:bO (nmG 2) noT (dI leD leD (cst (D.str (Str.ofString "a"))) (ae 2) (cst (D.str (Str.ofString "z")))) [Sl.val (D.str x),Sl.val (D.int m),Sl.no] (dX x)=some (x.cps.toList.map fun c=>D.bl (decide (97≤c) && decide (c≤122))):=by
  refine dR (fun c:Nat=>D.str ⟨#[c]⟩) (fun c=>D.bl (decide (97≤c) && decide (c≤122))) x.cps.toList fun c _=>?_
  simp only [af,dI,cst,ae,asB,nmG,noT,mY,DC,DG,DH,on,DD,GB,EF]
  rw [Dn]
  by_cases h:97≤c
  ·simp only [h,reduceIte,Ej,FN,D.bl.injEq,EF]; rw [Dl]
  ·simp only [h,reduceIte,DR,Ex,ED]
 refine aJ ?_
 simp only [g_is_letters,b_is_letters,aZ,bY,az,aq,aw,un,dI,cst,var,ae,asB,bS,bW,isF,aU,aE,jK,aN,tyN,DC,DF,DK,DL,DM,DN,DI,DJ,DG,DH,on,DD,List.replicate,DO,Eb,reduceIte,Nat.reduceAdd,Nat.reduceSub,bX,String.reduceBEq,Ed,EB,Em,oM hx,isT]
 by_cases h1:1≤(x.length:Int)
 ·by_cases h2:(x.length:Int)≤m
  ·simp only [h1,h2,af,cV,DC,DF,reduceIte,Ej,D.bl.injEq,EF,bj,hs,hc,bU,Fe,yM]
   rfl
  ·simp only [h1,h2,af,reduceIte,DR,Ej,Ex,Em,ED]
 ·simp only [h1,af,reduceIte,DR,Ex,ED]
theorem qt {d:D}{m:Int} (h:o5 d=false):g_is_letters [d,.int m]=some (.bl false):=by
 refine aJ ?_
 simp only [g_is_letters,b_is_letters,az,af,aZ,bY,aw,bS,isF,rj d h,ae,DI,DJ,Nat.reduceAdd,Nat.reduceSub,DK,DL,DM,DN,on,asB,DR,reduceIte,aq]
def SmS (d:D):Prop:=∀ x,d=.str x→x.length≤1000
theorem kx {d:D}{m:Int} (hd:SmS d):g_is_letters [d,.int m]=some (.bl (isL m d)):=by
 cases h:o5 d with
 | true =>
  cases d with
  | str x=>exact oG (D1 (hd x rfl) (by decide))
  | _=>cases h
 | false =>
  rw [qt h]
  cases d <;> first | rfl | cases h
theorem oH {d:D}{m:Int} (hd:SmS d):g__Llettered [d,.int m]=some (.bl (isL m d)):=by
 cases h:o5 d with
 | true =>
  cases d with
  | str x =>
   have hx:x.length≤16777216:=D1 (hd x rfl) (by decide)
   have hs:(dX x).length≤16777216:=by
    unfold dX
    rw [DU,← gr]; exact hx
   have hc:bO (nmG 2) noT (bin inE (ae 2) (cst (D.str (Str.ofString "abcdefghijklmnopqrstuvwxyz")))) [Sl.val (D.str x),Sl.val (D.int m),Sl.no] (dX x)=some (x.cps.toList.map fun c=>D.bl (decide (97≤c) && decide (c≤122))):=by
    refine dR (fun c:Nat=>D.str ⟨#[c]⟩) (fun c=>D.bl (decide (97≤c) && decide (c≤122))) x.cps.toList fun c _=>?_
    simp only [af,bin,cst,ae,nmG,noT,DC,DG,DH,on,DD,GB,FN,D.bl.injEq,EF,yW]
    rw [uL]
   refine aJ ?_
   simp only [g__Llettered,b__Llettered,az,ax,aS,bin,un,cst,ae,tst,asB,bq,orT,isF,ik,fC,tyN,DC,DF,DK,DL,DM,DN,DI,DJ,on,DD,List.replicate,reduceIte,Nat.reduceAdd,Nat.reduceSub,Ee,DR,bX,String.reduceBEq,Ed,EB,Em,oM hx,isL,isT]
   by_cases h1:1≤(x.length:Int)
   ·by_cases h2:(x.length:Int)≤m
    ·have h1':¬ ((x.length:Int) < 1):=by omega
     have h2':¬ (m < (x.length:Int)):=by omega
     simp only [h1,h2,h1',h2',af,av,aq,aP,aw,aQ,un,var,bW,aU,aE,cV,aN,DC,DF,DG,DH,on,DO,Eb,reduceIte,DR,Ej,Ex,D.bl.injEq,EF,bj,hs,hc,bU,Fe,yM]
     rfl
    ·have h2':m < (x.length:Int):=by omega
     have h1':¬ ((x.length:Int) < 1):=by omega
     simp only [h1,h2,h1',h2',af,aV,aq,aF,aw,cst,DF,reduceIte,DR,Ej,Ex,Em,ED]
   ·have h1':(x.length:Int) < 1:=by omega
    simp only [h1,h1',af,aV,aq,aF,aw,cst,DF,reduceIte,Ej,Ex,ED]
  | _=>cases h
 | false =>
  have e:g__Llettered [d,.int m]=some (.bl false):=by
   refine aJ ?_
   simp only [g__Llettered,b__Llettered,az,ax,aS,orT,bq,tst,isF,rj d h,ae,DI,DJ,Nat.reduceAdd,Nat.reduceSub,DK,DL,DM,DN,on,asB,DR,reduceIte,DF,DC,Eh,af,aF,aw,cst,aV,aq]
  rw [e]
  cases d <;> first | rfl | cases h
theorem qB {d:D} (hd:SmS d):g_is_word [d]=some (.bl (isL 12 d)):=by
 refine aJ ?_
 simp only [g_is_word,b_is_word,af,az,aq,aw,cst,var,al,aa,ag,DC,DF,DK,DL,DM,DN,DI,DJ,on,List.replicate,reduceIte,Nat.reduceAdd,Nat.reduceSub,kx hd]
theorem kE {d:D} (hd:SmS d):g_is_name [d]=some (.bl (isL 8 d)):=by
 refine aJ ?_
 simp only [g_is_name,b_is_name,af,az,aq,aw,cst,var,al,aa,ag,DC,DF,DK,DL,DM,DN,DI,DJ,on,List.replicate,reduceIte,Nat.reduceAdd,Nat.reduceSub,kx hd]
theorem iF {ds:List D} (hl:ds.length≤1000) (hd:∀ d ∈ ds,SmS d):g_are_names [.tup ds]=some (.bl (ds.all (isL 8))):=by
 have hc:bO (nmG 1) noT (al 1 g_is_name (aa (var 1) ag)) [Sl.val (D.tup ds),Sl.no] ds=some (ds.map fun d=>D.bl (isL 8 d)):=by
  have:=bp (fun d:D=>d) (fun d=>D.bl (isL 8 d)) (i:=1) (ef:=al 1 g_is_name (aa (var 1) ag)) (E:=[Sl.val (D.tup ds),Sl.no]) ds fun d hd'=>by
   refine aJ ?_
   simp only [af,var,al,aa,ag,DC,DF,DI,DJ,DG,DH,on,DD,reduceIte,Nat.reduceAdd,kE (hd d hd')]
  rwa [Fo] at this
 have hs:ds.length≤16777216:=by omega
 refine aJ ?_
 simp only [g_are_names,b_are_names,af,az,aq,aw,un,var,bW,aU,aE,cV,aN,DC,DF,DK,DL,DM,DN,DI,DJ,DG,DH,on,List.replicate,DO,Eb,reduceIte,Nat.reduceAdd,Nat.reduceSub,D.bl.injEq,bj,hs,hc,bU,Fe]
 rfl
theorem nH {ds:List D} (hl:ds.length≤1000) (hd:∀ d ∈ ds,SmS d):g_are_words [.tup ds]=some (.bl (ds.all (isL 12))):=by
 have hc:bO (nmG 1) noT (al 1 g_is_word (aa (var 1) ag)) [Sl.val (D.tup ds),Sl.no] ds=some (ds.map fun d=>D.bl (isL 12 d)):=by
  have:=bp (fun d:D=>d) (fun d=>D.bl (isL 12 d)) (i:=1) (ef:=al 1 g_is_word (aa (var 1) ag)) (E:=[Sl.val (D.tup ds),Sl.no]) ds fun d hd'=>by
   refine aJ ?_
   simp only [af,var,al,aa,ag,DC,DF,DI,DJ,DG,DH,on,DD,reduceIte,Nat.reduceAdd,qB (hd d hd')]
  rwa [Fo] at this
 have hs:ds.length≤16777216:=by omega
 refine aJ ?_
 simp only [g_are_words,b_are_words,af,az,aq,aw,un,var,bW,aU,aE,cV,aN,DC,DF,DK,DL,DM,DN,DI,DJ,DG,DH,on,List.replicate,DO,Eb,reduceIte,Nat.reduceAdd,Nat.reduceSub,D.bl.injEq,bj,hs,hc,bU,Fe]
 rfl
end Sh
theorem qq (a:Str):¬ ltS a a:=List.lt_irrefl _
theorem ua {a b c:Str} (h:ltS a b) (h':ltS b c):ltS a c:=List.lt_trans h h'
def jr (ss:List Str):Bool:=((ss.zip (ss.drop 1)).map fun q=>decide (q.1.cps.toList < q.2.cps.toList)).all id
theorem ke:∀ ss:List Str,jr ss=true ↔ ss.Pairwise ltS
 | []=>by simp [jr]
 | [a]=>by simp [jr]
 | a :: b :: r=>by
  have ih:=ke (b :: r)
  have e:jr (a :: b :: r)=(decide (a.cps.toList < b.cps.toList) && jr (b :: r)):=by simp [jr]
  rw [e,D8,ih,Gb]
  constructor
  ·rintro ⟨h1,h2⟩
   refine List.pairwise_cons.mpr ⟨fun x hx=>?_,h2⟩
   rcases List.mem_cons.mp hx with z | z
   ·rw [z]; exact h1
   ·exact ua h1 ((List.pairwise_cons.mp h2).1 x z)
  ·intro h
   obtain ⟨h1,h2⟩:=List.pairwise_cons.mp h
   exact ⟨h1 b D3,h2⟩
def rn:D→Option Str
 | .str x=>some x
 | _=>none
def cb (ds:List D):List Str:=ds.filterMap rn
theorem ca (ss:List Str):cb (ss.map D.str)=ss:=by
 unfold cb
 induction ss with
 | nil=>rfl
 | cons a r ih=>rw [DK,Fa]; simp only [rn]; rw [ih]
theorem cM {M:Int}:∀ {ds:List D},ds.all (isL M)=true→ds=(cb ds).map D.str
 | [],_=>rfl
 | d :: ds,h=>by
  rw [EY,D8] at h
  obtain ⟨x,rfl,_⟩:=Bi h.1
  have:=cM h.2
  show _ :: _=(List.filterMap rn (D.str x :: ds)).map D.str
  rw [Fa]
  simp only [rn,DK]
  exact ER _ this
def o6:D→Bool
 | .tup ds=>decide (1≤(ds.length:Int)) && (decide ((ds.length:Int)≤8) && (ds.all (isL 8) && jr (cb ds)))
 | _=>false
def o3:D→Bool
 | .tup ds=>decide (0 < (ds.length:Int)) && ds.all (isL 12)
 | _=>false
def fZ:D→Bool
 | .tup [a,b]=>o6 a && o3 b
 | _=>false
def SmT (P:D→Prop) (d:D):Prop:=∀ ds,d=.tup ds→ds.length≤1000∧∀ x ∈ ds,P x
namespace Sh
abbrev Sm1:=SmT SmS
abbrev Sm2:=SmT Sm1
abbrev Sm3:=SmT Sm2
theorem uX (ss:List Str):List.zipWith (fun a b=>D.tup [a,b]) (ss.map D.str) (b5 (ss.map D.str) (some 1) none)=(ss.zip (ss.drop 1)).map fun q=>D.tup [D.str q.1,D.str q.2]:=by
 have e:b5 (ss.map D.str) (some 1) none=(ss.drop 1).map D.str:=by
  have:=pC (ss.map D.str) 1
  rw [List.map_drop]; exact this
 rw [e,List.zipWith_map,List.zip,List.map_zipWith]
theorem m9 (ss:List Str) (hl:ss.length≤1000):g_is_rising [.tup (ss.map D.str)]=some (.bl (jr ss)):=by
 have hc:bO (dJ 2 (bh (nmG 1) (bh (nmG 2) dc))) noT (bin ltD (ae 1) (ae 2)) [Sl.val (D.tup (ss.map D.str)),Sl.no,Sl.no] ((ss.zip (ss.drop 1)).map fun q=>D.tup [D.str q.1,D.str q.2])=some ((ss.zip (ss.drop 1)).map fun q=>D.bl (decide (q.1.cps.toList < q.2.cps.toList))):=by
  refine dR (fun q:Str×Str=>D.tup [D.str q.1,D.str q.2]) (fun q=>D.bl (decide (q.1.cps.toList < q.2.cps.toList))) _ fun q _=>?_
  simp only [af,bin,ae,nmG,dJ,bh,dc,noT,mX,DC,DI,DJ,DG,DH,on,DD,reduceIte,Nat.reduceAdd,GB,EF]
 have hs:((ss.zip (ss.drop 1)).map fun q:Str×Str=>D.tup [D.str q.1,D.str q.2]).length≤16777216:=by simp; omega
 refine aJ ?_
 simp only [g_is_rising,b_is_rising,mq,sR,af,az,aq,aw,un,cst,var,ae,aa,ag,noP,cc,bJ,aU,aE,cV,c3,DC,DF,DK,DL,DM,DN,DI,DJ,DG,DH,on,List.replicate,DO,Eb,reduceIte,Nat.reduceAdd,Nat.reduceSub,hY,bj,uX,hs,hc,bU,Fe,jr]
theorem wc {d:D} (hd:Sm1 d):g_is_speech_names [d]=some (.bl (o6 d)):=by
 cases h:o4 d with
 | true =>
  cases d with
  | tup ds =>
   obtain ⟨hl,hx⟩:=hd ds rfl
   refine aJ ?_
   simp only [g_is_speech_names,b_is_speech_names,aZ,bY,az,aq,aw,un,dI,cst,var,ae,asB,bS,al,aa,ag,isF,jK,tyN,DC,DF,DK,DL,DM,DN,DI,DJ,on,List.replicate,reduceIte,Nat.reduceAdd,Nat.reduceSub,bX,String.reduceBEq,Ed,EB,Em,cZ,o6]
   by_cases h1:1≤(ds.length:Int)
   ·by_cases h2:(ds.length:Int)≤8
    ·simp only [h1,h2,af,DC,reduceIte,Ej,EF,iF hl hx]
     cases h3:ds.all (isL 8) with
     | true =>
      have hr:g_is_rising [.tup ds]=some (.bl (jr (cb ds))):=by
       have e:=cM h3
       conv=>lhs; rw [e]
       exact m9 _ (by
        have:=ER List.length e
        simp at this
        omega)
      simp only [af,reduceIte,EF,hr]
     | false=>simp only [af,reduceIte,DR,ED]
    ·simp only [h1,h2,af,reduceIte,DR,Ej,Ex,Em,ED]
   ·simp only [h1,af,reduceIte,DR,Ex,ED]
  | _=>cases h
 | false =>
  have e:g_is_speech_names [d]=some (.bl false):=by
   refine aJ ?_
   simp only [g_is_speech_names,b_is_speech_names,az,af,aZ,bY,aw,bS,isF,jA d h,ae,DI,DJ,Nat.reduceAdd,Nat.reduceSub,DK,DL,DM,DN,on,asB,DR,reduceIte,aq]
  rw [e]
  cases d <;> first | rfl | cases h
theorem u7 {d:D} (hd:Sm1 d):g_is_speech_words [d]=some (.bl (o3 d)):=by
 cases h:o4 d with
 | true =>
  cases d with
  | tup ds =>
   obtain ⟨hl,hx⟩:=hd ds rfl
   refine aJ ?_
   simp only [g_is_speech_words,b_is_speech_words,bY,az,aq,aw,bin,un,cst,var,ae,asB,bS,al,aa,ag,isF,fC,tyN,DC,DF,DK,DL,DM,DN,DI,DJ,on,List.replicate,reduceIte,Nat.reduceAdd,Nat.reduceSub,bX,String.reduceBEq,Ed,EB,Em,cZ,o3]
   by_cases h1:0 < (ds.length:Int)
   ·simp only [h1,af,reduceIte,Ej,EF,nH hl hx]
   ·simp only [h1,af,reduceIte,DR,Ex,ED]
  | _=>cases h
 | false =>
  have e:g_is_speech_words [d]=some (.bl false):=by
   refine aJ ?_
   simp only [g_is_speech_words,b_is_speech_words,az,af,aZ,bY,aw,bS,isF,jA d h,ae,DI,DJ,Nat.reduceAdd,Nat.reduceSub,DK,DL,DM,DN,on,asB,DR,reduceIte,aq]
  rw [e]
  cases d <;> first | rfl | cases h
theorem wG {ds:List D} (h:ds.length ≠ 2):fZ (.tup ds)=false:=by
 match ds,h with
 | [],_=>rfl
 | [_],_=>rfl
 | [_,_],h=>exact absurd rfl h
 | _ :: _ :: _ :: _,_=>rfl
theorem lC {d:D} (hd:Sm2 d):g_is_speech [d]=some (.bl (fZ d)):=by
 cases h:o4 d with
 | true =>
  cases d with
  | tup ds =>
   obtain ⟨hl,hx⟩:=hd ds rfl
   by_cases h2:ds.length=2
   ·match ds,h2 with
    | [a,b],_ =>
     have i0:atI [a,b] 0=some a:=rfl
     have i1:atI [a,b] 1=some b:=rfl
     refine aJ ?_
     simp only [g_is_speech,b_is_speech,bY,az,aq,aw,bin,un,cst,ae,asB,bS,al,aa,ag,isF,tyN,DC,DF,DK,DL,DM,DN,DI,DJ,on,List.replicate,reduceIte,Nat.reduceAdd,Nat.reduceSub,bX,String.reduceBEq,Ed,EB,Em,c4,dM,cZ,fZ,i0,i1,wc (hx a (by simp)),u7 (hx b (by simp))]
     have e:decide ((((0 + 1 + 1:Nat)):Int)=2)=true:=by decide
     simp only [e,reduceIte]
     cases o6 a with
     | true=>simp only [af,reduceIte,EF]
     | false=>simp only [af,reduceIte,DR,ED]
   ·have e:decide ((ds.length:Int)=2)=false:=Ek (by omega)
    refine aJ ?_
    simp only [g_is_speech,b_is_speech,af,az,aq,aw,bin,un,cst,ae,asB,bS,al,aa,ag,isF,tyN,DC,DF,DK,DL,DM,DN,DI,DJ,on,List.replicate,reduceIte,Nat.reduceAdd,Nat.reduceSub,DR,bX,String.reduceBEq,Ed,EB,Em,c4,dM,cZ,e,wG h2]
  | _=>cases h
 | false =>
  have e:g_is_speech [d]=some (.bl false):=by
   refine aJ ?_
   simp only [g_is_speech,b_is_speech,az,af,aZ,bY,aw,bS,isF,jA d h,ae,DI,DJ,Nat.reduceAdd,Nat.reduceSub,DK,DL,DM,DN,on,asB,DR,reduceIte,aq]
  rw [e]
  cases d <;> first | rfl | cases h
end Sh
theorem rX {M:Int}{x:Str} (h:isT M x=true):qX x:=by
 unfold isT at h
 rw [D8,D8] at h
 intro c hc
 have:=List.all_eq_true.mp h.2.2 c hc
 rw [D8] at this
 exact EO this.2
def jI:D→List Str
 | .tup [.tup as,_]=>cb as
 | _=>[]
def lj (a b:D):Bool:=(jI a).any fun n=>decide (n ∈ jI b)
theorem uG (a b:D):lj a b=lj b a:=by
 rw [FJ]
 unfold lj
 rw [FZ,FZ]
 exact ⟨fun zz148_0=>by obtain ⟨x,h1,h2⟩:=zz148_0; exact ⟨x,EO h2,Ec h1⟩,fun zz149_0=>by obtain ⟨x,h1,h2⟩:=zz149_0; exact ⟨x,EO h2,Ec h1⟩⟩
theorem rY {d:D} (h:fZ d=true):∃ ss b,d=.tup [.tup (ss.map D.str),b]∧jI d=ss∧ss.length≤8:=by
 match d,h with
 | .tup [a,b],h =>
  have h':(o6 a && o3 b)=true:=h
  rw [D8] at h'
  cases a with
  | tup as =>
   have hn:(decide (1≤(as.length:Int)) && (decide ((as.length:Int)≤8) && (as.all (isL 8) && jr (cb as))))=true:=h'.1
   rw [D8,D8,D8] at hn
   have e:=cM hn.2.2.1
   have hl:(as.length:Int)≤8:=EO hn.2.1
   refine ⟨cb as,b,by rw [← e],rfl,?_⟩
   have:=ER List.length e
   rw [DU] at this
   omega
  | _=>cases h'.1
def nb (ds:List D):Bool:=((ds.zip (ds.drop 1)).map fun q=>lj q.1 q.2).any id
theorem AY (ds:List D):nb ds=true ↔ ∃ (i:Nat) (h:i + 1 < ds.length),lj ds[i] ds[i + 1]=true:=by
 unfold nb
 rw [FZ]
 constructor
 ·rintro ⟨b,hb,hi⟩
  obtain ⟨q,hq,rfl⟩:=List.mem_map.mp hb
  obtain ⟨i,hil,rfl⟩:=List.mem_iff_getElem.mp hq
  have hl:i + 1 < ds.length:=by
   simp at hil
   omega
  refine ⟨i,hl,?_⟩
  have:=hi
  simp only [List.getElem_zip,List.getElem_drop,id] at this
  have e:1 + i=i + 1:=Nat.add_comm ..
  simp only [e] at this
  exact this
 ·rintro ⟨i,hl,h⟩
  have hil:i < (ds.zip (ds.drop 1)).length:=by simp; omega
  refine ⟨_,List.mem_map.mpr ⟨(ds.zip (ds.drop 1))[i],EI hil,rfl⟩,?_⟩
  have e:1 + i=i + 1:=Nat.add_comm ..
  simp only [List.getElem_zip,List.getElem_drop,id,e]
  exact h
def yU:D→Bool
 | .tup ds=>ds.all fZ && !nb ds
 | _=>false
theorem pI {ds:List D} (h:ds.all fZ=true) {d:D} (hd:d ∈ ds):fZ d=true:=List.all_eq_true.mp h d hd
theorem tq {n x:Nat}{pre post:List Nat} (h:List.range n=pre ++ x :: post):x=pre.length∧x < n:=by
 have h1:(List.range n)[pre.length]? = some x:=by rw [h]; simp
 obtain ⟨h2,h3⟩:=List.getElem?_eq_some_iff.mp h1
 rw [List.getElem_range] at h3
 rw [FO] at h2
 exact ⟨h3.symm,by omega⟩
namespace Sh
theorem f9 (ss ts:List Str) (hl:ss.length≤1000):g_have_common [.tup (ss.map D.str),.tup (ts.map D.str)]=some (.bl (ss.any fun n=>decide (n ∈ ts))):=by
 have hc:bO (nmG 2) noT (bin inE (ae 2) (ae 1)) [Sl.val (.tup (ss.map D.str)),Sl.val (.tup (ts.map D.str)),Sl.no] (ss.map D.str)=some (ss.map fun n=>D.bl (decide (n ∈ ts))):=by
  refine bp D.str _ ss fun n _=>?_
  refine aJ ?_
  simp only [af,bin,ae,DC,DG,DH,on,DD,yV]
 have hs:(ss.map D.str).length≤16777216:=by rw [DU]; omega
 refine aJ ?_
 simp only [g_have_common,b_have_common,af,az,aq,aw,un,var,bW,aU,aE,jy,aN,DC,DF,DK,DL,DM,DN,DI,DJ,DG,DH,on,List.replicate,DO,Eb,reduceIte,Nat.reduceAdd,Nat.reduceSub,D.bl.injEq,bj,hs,hc,bU,List.any_map]
 rfl
theorem qC {d:D} (hd:Sm3 d):g_is_play [d]=some (.bl (yU d)):=by
 cases h:o4 d with
 | false =>
  have e:g_is_play [d]=some (.bl false):=by
   refine aJ ?_
   simp only [g_is_play,b_is_play,az,ax,aS,orT,bq,tst,isF,jA d h,ae,DI,DJ,Nat.reduceAdd,Nat.reduceSub,DK,DL,DM,DN,on,asB,DR,reduceIte,DF,DC,Eh,af,aF,aw,cst,aV,aq]
  rw [e]
  cases d <;> first | rfl | cases h
 | true =>
  cases d with
  | tup ds =>
   obtain ⟨hl,hx⟩:=hd ds rfl
   have hs:ds.length≤16777216:=by omega
   have hc:bO (nmG 1) noT (al 1 g_is_speech (aa (var 1) ag)) [Sl.val (D.tup ds),Sl.no,Sl.no,Sl.no] ds=some (ds.map fun d=>D.bl (fZ d)):=by
    have:=bp (fun d:D=>d) (fun d=>D.bl (fZ d)) (i:=1) (ef:=al 1 g_is_speech (aa (var 1) ag)) (E:=[Sl.val (D.tup ds),Sl.no,Sl.no,Sl.no]) ds fun d hd'=>by
     refine aJ ?_
     simp only [af,var,al,aa,ag,DC,DF,DI,DJ,DG,DH,on,DD,reduceIte,Nat.reduceAdd,lC (hx d hd')]
    rwa [Fo] at this
   have a1:(ds.map fun d=>fZ d).all id=ds.all fZ:=by rw [Fe]; rfl
   have hcut:b5 ds (some 1) none=ds.drop 1:=pC ds 1
   have hzip:List.zipWith (fun a b=>D.tup [a,b]) ds (ds.drop 1)=(ds.zip (ds.drop 1)).map fun q=>D.tup [q.1,q.2]:=by rw [List.zip,List.map_zipWith]
   have hs2:((ds.zip (ds.drop 1)).map fun q:D×D=>D.tup [q.1,q.2]).length≤16777216:=by simp; omega
   refine aJ ?_
   simp only [g_is_play,b_is_play,mq,sR,af,az,ax,aS,un,var,ae,tst,asB,bq,orT,bW,isF,aU,aE,cV,aN,tyN,DC,DF,DK,DL,DM,DN,DI,DJ,DG,DH,on,List.replicate,DO,Eb,reduceIte,Nat.reduceAdd,Nat.reduceSub,Ee,DR,bX,String.reduceBEq,Ed,EB,Em,bj,hs,hc,bU,a1,yU]
   cases k:ds.all fZ with
   | false=>simp only [af,aV,aq,aF,aw,cst,DF,Eh,ED]
   | true =>
    have hc2:bO (dJ 2 (bh (nmG 2) (bh (nmG 3) dc))) noT (al 2 g_have_common (aa (bin ixE (ae 2) (cst (.int 0))) (aa (bin ixE (ae 3) (cst (.int 0))) ag))) [Sl.val (D.tup ds),Sl.no,Sl.no,Sl.no] ((ds.zip (ds.drop 1)).map fun q=>D.tup [q.1,q.2])=some ((ds.zip (ds.drop 1)).map fun q=>D.bl (lj q.1 q.2)):=by
     refine dR (fun q:D×D=>D.tup [q.1,q.2]) (fun q=>D.bl (lj q.1 q.2)) _ fun q hq=>?_
     obtain ⟨h1,h2⟩:=Gw (a:=q.1) (b:=q.2) hq
     obtain ⟨s1,b1,e1,n1,l1⟩:=rY (pI k h1)
     obtain ⟨s2,b2,e2,n2,l2⟩:=rY (pI k (F0 h2))
     have i1:ixE q.1 (.int 0)=some (.tup (s1.map D.str)):=by rw [e1]; rfl
     have i2:ixE q.2 (.int 0)=some (.tup (s2.map D.str)):=by rw [e2]; rfl
     simp only [af,bin,cst,ae,al,aa,ag,nmG,dJ,bh,dc,noT,DC,DF,DI,DJ,DG,DH,on,DD,reduceIte,Nat.reduceAdd,GB,EF,i1,i2,f9 s1 s2 (by omega),lj,n1,n2]
    simp only [mq,sR,af,av,aq,aP,aw,aQ,un,cst,var,ae,asB,kn,aa,ag,noP,cc,bJ,aU,aE,jy,c3,DC,DF,DG,DH,on,DO,Eb,reduceIte,Ee,EF,hY,bj,hcut,hzip,hs2,hc2,bU,nb]
  | _=>cases h
end Sh
theorem Wd.isT {M:Nat}{x:Str} (h:Wd M x):isT M x=true:=by
 unfold L2.Cu.isT yM
 have h1:=h.pos
 have h2:=h.le
 rw [Ec (by omega),Ec (by omega),List.all_eq_true.mpr fun c hc=>by
  have:=h.low c hc
  rw [Ec this.1,Ec this.2]; rfl]
 rfl
theorem jL {M:Int}{x:Str} (h:isT M x=true):(x.length:Int)≤M:=by
 unfold isT at h
 rw [D8,D8] at h
 exact EO h.2.1
structure gm (s:Sp):Prop where
 ne:s.1 ≠ []
 le:s.1.length≤8
 nm:∀ n ∈ s.1,isT 8 n=true
 ris:s.1.Pairwise ltS
 wne:s.2 ≠ []
 wle:s.2.length≤8
 wd:∀ w ∈ s.2,isT 12 w=true
theorem sL {M:Int}{ss:List Str} (h:∀ x ∈ ss,isT M x=true):(ss.map D.str).all (isL M)=true:=by
 rw [Fe,Fk]; exact h
theorem il {α:Type}{l:List α} (h:l ≠ []):1≤l.length:=by
 cases l with
 | nil=>exact absurd rfl h
 | cons _ _=>simp
theorem jj (s:Sp):jI (bH s)=s.1:=ca s.1
theorem xq (s t:Sp):lj (bH s) (bH t)=s.1.any fun n=>decide (n ∈ t.1):=by unfold lj; rw [jj,jj]
namespace Sh
theorem jC {x:Str} (h:x.length≤1000):SmS (.str x):=fun y e=>by cases e; exact h
theorem zr {ss:List Str} (hl:ss.length≤1000) (h:∀ x ∈ ss,x.length≤1000):Sm1 (.tup (ss.map D.str)):=fun ds e=>by
 cases e
 refine ⟨by rw [DU]; exact hl,fun x hx=>?_⟩
 obtain ⟨y,hy,rfl⟩:=List.mem_map.mp hx
 exact jC (h y hy)
theorem mD {P:D→Prop}{l:List D} (hl:l.length≤1000) (h:∀ x ∈ l,P x):SmT P (.tup l):=fun ds e=>by cases e; exact ⟨hl,h⟩
theorem rA {P:D→Prop}{a b:D} (ha:P a) (hb:P b):SmT P (.tup [a,b]):=mD (by simp) fun x hx=>by
 rcases List.mem_cons.mp hx with z | z
 ·rw [z]; exact ha
 ·rw [List.mem_singleton.mp z]; exact hb
end Sh
theorem qZ.fine {names words:List Str}{s:Sp} (h:qZ names words s) (hn:∀ x ∈ names,Wd 8 x) (hw:∀ x ∈ words,Wd 12 x) (hl:names.length≤8):gm s :=
 ⟨h.ne,D1 h.le hl,fun n hx=>(hn n (h.sub n hx)).isT,h.ris,h.wne,D1 h.wle (by decide),fun w hx=>(hw w (h.wsub w hx)).isT⟩
theorem jP {α:Type} (l:List α) (a b:Option Int):(b5 l a b).length≤l.length:=by
 unfold b5
 rw [FY,Fz]; omega
theorem jO {α:Type}{l:List α}{a b:Option Int}{x:α} (h:x ∈ b5 l a b):x ∈ l:=by
 unfold b5 at h
 exact F0 (Fv h)
end L2.Cu
namespace L2.Cu.Wk
open PySem PySem.Spec PyProof.Rows
def cU (i:Nat):Stmt:=PySem.Challenge.pw_cuebook_k02_a_play_made.main.body.getD i (.Pass ⟨0,0,0,0⟩)
abbrev lM:Stmt:=cU 31
abbrev uU:List Str:=["_law_cell_here"]
theorem p6:aL uU ["_law_cell_here"] (ak lM):=⟨rfl,rfl,rfl,by decide +kernel,rfl,by decide +kernel,by decide +kernel⟩
abbrev nU:Stmt:=cU 32
abbrev xG:List Str:=["_law_script","_law_k"]
theorem s_:aL xG ["_law_script","_law_k"] (ak nU):=⟨rfl,rfl,rfl,by decide +kernel,rfl,by decide +kernel,by decide +kernel⟩
abbrev eP:Stmt:=cU 33
abbrev gF:List Str:=["_law_cell_here","_law_many","_law_most","_law_letters","_law_way","_law_size","_law_at","_law_stem","_law_k"]
theorem bA:aL gF ["_law_cell_here","_law_many","_law_most"] (ak eP):=⟨rfl,rfl,rfl,by decide +kernel,rfl,by decide +kernel,by decide +kernel⟩
abbrev j_:Stmt:=cU 34
abbrev pO:List Str:=["_law_cells","_law_names","_law_words","_law_play_here","_law_ahead","_law_cell_here","_law_free","_law_some","_law_name","_law_row","_law_k"]
theorem bo:aL pO ["_law_cells","_law_names","_law_words"] (ak j_):=⟨rfl,rfl,rfl,by decide +kernel,rfl,by decide +kernel,by decide +kernel⟩
abbrev j8:Stmt:=cU 38
abbrev qW:List Str:=["_law_pair","_law_ahead","_law_cell_here","_law_names","_law_words","_law_at","_law_odd","_law_some"]
theorem ck:aL qW ["_law_pair","_law_ahead","_law_cell_here"] (ak j8):=⟨rfl,rfl,rfl,by decide +kernel,rfl,by decide +kernel,by decide +kernel⟩
abbrev fj:Stmt:=cU 36
abbrev iL:List Str:=["_law_thing","_law_most","_law_sign"]
theorem gJ:aL iL ["_law_thing","_law_most"] (ak fj):=⟨rfl,rfl,rfl,by decide +kernel,rfl,by decide +kernel,by decide +kernel⟩
abbrev dA:Stmt:=cU 37
abbrev eE:List Str:=["_law_pair","_law_ahead","_law_names","_law_words","_law_name","_law_word"]
theorem cF:aL eE ["_law_pair","_law_ahead"] (ak dA):=⟨rfl,rfl,rfl,by decide +kernel,rfl,by decide +kernel,by decide +kernel⟩
abbrev jd:Stmt:=cU 16
abbrev pM:List Str:=["thing"]
theorem mK:aL pM ["thing"] (ak jd):=⟨rfl,rfl,rfl,by decide +kernel,rfl,by decide +kernel,by decide +kernel⟩
abbrev fg:Stmt:=cU 17
abbrev iK:List Str:=["thing","most","sign"]
theorem gI:aL iK ["thing","most"] (ak fg):=⟨rfl,rfl,rfl,by decide +kernel,rfl,by decide +kernel,by decide +kernel⟩
abbrev lK:Stmt:=cU 19
abbrev uS:List Str:=["thing"]
theorem p0:aL uS ["thing"] (ak lK):=⟨rfl,rfl,rfl,by decide +kernel,rfl,by decide +kernel,by decide +kernel⟩
abbrev fT:Stmt:=cU 20
abbrev jp:List Str:=["things","thing"]
theorem ib:aL jp ["things"] (ak fT):=⟨rfl,rfl,rfl,by decide +kernel,rfl,by decide +kernel,by decide +kernel⟩
abbrev fR:Stmt:=cU 22
abbrev jn:List Str:=["names","early","late"]
theorem fc:aL jn ["names"] (ak fR):=⟨rfl,rfl,rfl,by decide +kernel,rfl,by decide +kernel,by decide +kernel⟩
abbrev em:Stmt:=cU 23
abbrev iJ:List Str:=["thing"]
theorem gU:aL iJ ["thing"] (ak em):=⟨rfl,rfl,rfl,by decide +kernel,rfl,by decide +kernel,by decide +kernel⟩
abbrev lJ:Stmt:=cU 18
abbrev uR:List Str:=["thing"]
theorem pZ:aL uR ["thing"] (ak lJ):=⟨rfl,rfl,rfl,by decide +kernel,rfl,by decide +kernel,by decide +kernel⟩
abbrev fS:Stmt:=cU 21
abbrev jo:List Str:=["things","thing"]
theorem h_:aL jo ["things"] (ak fS):=⟨rfl,rfl,rfl,by decide +kernel,rfl,by decide +kernel,by decide +kernel⟩
abbrev el:Stmt:=cU 24
abbrev iI:List Str:=["thing"]
theorem gT:aL iI ["thing"] (ak el):=⟨rfl,rfl,rfl,by decide +kernel,rfl,by decide +kernel,by decide +kernel⟩
abbrev jc:Stmt:=cU 25
abbrev pL:List Str:=["thing"]
theorem mJ:aL pL ["thing"] (ak jc):=⟨rfl,rfl,rfl,by decide +kernel,rfl,by decide +kernel,by decide +kernel⟩
abbrev jb:Stmt:=cU 28
abbrev pK:List Str:=["pair","speech"]
theorem hZ:aL pK ["pair"] (ak jb):=⟨rfl,rfl,rfl,by decide +kernel,rfl,by decide +kernel,by decide +kernel⟩
abbrev eG:Stmt:=cU 26
abbrev gP:List Str:=["names","others","name"]
theorem fQ:aL gP ["names","others"] (ak eG):=⟨rfl,rfl,rfl,by decide +kernel,rfl,by decide +kernel,by decide +kernel⟩
abbrev lI:Stmt:=cU 29
abbrev uQ:List Str:=["pairs","speeches","names_ahead","place","pair","speech"]
theorem bn:aL uQ ["pairs"] (ak lI):=⟨rfl,rfl,rfl,by decide +kernel,rfl,by decide +kernel,by decide +kernel⟩
abbrev nT:Stmt:=cU 39
abbrev xE:List Str:=["_law_pairs","_law_refused","_law_found","e","_law_kinds"]
theorem di:aL xE ["_law_pairs"] (ak nT):=⟨rfl,rfl,rfl,by decide +kernel,rfl,by decide +kernel,by decide +kernel⟩
abbrev fm:Stmt:=cU 41
abbrev hJ:List Str:=["_law_thing","_law_part"]
theorem ek:aL hJ ["_law_thing"] (ak fm):=⟨rfl,rfl,rfl,by decide +kernel,rfl,by decide +kernel,by decide +kernel⟩
abbrev j9:Stmt:=cU 35
abbrev pN:List Str:=["_law_found","_law_due","_law_k"]
theorem iQ:aL pN ["_law_found","_law_due"] (ak j9):=⟨rfl,rfl,rfl,by decide +kernel,rfl,by decide +kernel,by decide +kernel⟩
abbrev lL:Stmt:=cU 40
abbrev uT:List Str:=["_law_found","_law_due"]
theorem p5:aL uT ["_law_found","_law_due"] (ak lL):=⟨rfl,rfl,rfl,by decide +kernel,rfl,by decide +kernel,by decide +kernel⟩
abbrev gu:Stmt:=cU 27
abbrev i9:List Str:=["thing","part","early","late"]
theorem ff:aL i9 ["thing"] (ak gu):=⟨rfl,rfl,rfl,by decide +kernel,rfl,by decide +kernel,by decide +kernel⟩
abbrev lO:Stmt:=cU 42
abbrev uV:List Str:=["_law_pairs","_law_due","_law_names","_law_words"]
theorem p7:aL uV ["_law_pairs","_law_due","_law_names","_law_words"] (ak lO):=⟨rfl,rfl,rfl,by decide +kernel,rfl,by decide +kernel,by decide +kernel⟩
abbrev nS:Stmt:=cU 43
abbrev sO:List Str:=["_law_script","_law_cell_here","_law_names","_law_words","_law_play_here","_law_turn","_law_pairs","_law_at","_law_ahead","_law_wrong","_law_k","_law_kept","_law_found","_law_refused","_law_due","_law_one"]
theorem bK:aL sO ["_law_script"] (ak nS):=⟨rfl,rfl,rfl,by decide +kernel,rfl,by decide +kernel,by decide +kernel⟩
abbrev kA:List Str:=["Apart","Meets","NoBooks","NoCast","NoCounts"]
abbrev kB:List Str:=["NoLine","NoText","TooFew"]
abbrev moK (K:PySem.W.Frag):=w4 K "NoPlay" "place" "NoPlay.__init__" kA kB "Unknown" "CueError"
abbrev moB:=w5 "NoPlay.__init__" (na (cU 2) 0)
abbrev ds:List Nat:=[31,32,33,34,38,36,37,16,17,19,20,22,23,18,21,24,25,28,26,29,39,41,35,40,27,42,43]
abbrev zs:List Str:=["ValueError","all","any","bool","enumerate","int","isinstance","len","list","range","set","sorted","str","tuple","zip"]
abbrev cs:List (Str×Int):=[("NAME_LETTERS",8),("SPEECH_NAMES",8),("WORD_LETTERS",12)]
abbrev TX (K:PySem.W.Frag) (mg:Str→Option Value):=TT PySem.Challenge.pw_cuebook_k02_a_play_made ds zs cs moK moB K mg
section
variable {K:PySem.W.Frag}{mg:Str→Option Value} (T:TX K mg)
abbrev TX.f__Lmixed:=T.f 31
abbrev TX.fd__Lmixed:=T.fd 31
theorem TX.F__Lmixed:Fun K "_law_mixed" "_law_mixed" lM T.f__Lmixed T.fd__Lmixed:=T.F 31 (by decide)
theorem TX.m__Lmixed:mg "_law_mixed" = some (.ref T.f__Lmixed):=T.m 31 (by decide)
theorem TX.b__Lmixed:bz K T.fd__Lmixed ["_law_cell_here"] []:=T.F__Lmixed.binds fun _ _ _ _ _ _ us hl=>by obtain ⟨u0,rfl⟩:=ul1 hl; rfl
abbrev TX.f__Lcell:=T.f 32
abbrev TX.fd__Lcell:=T.fd 32
theorem TX.F__Lcell:Fun K "_law_cell" "_law_cell" nU T.f__Lcell T.fd__Lcell:=T.F 32 (by decide)
theorem TX.m__Lcell:mg "_law_cell" = some (.ref T.f__Lcell):=T.m 32 (by decide)
theorem TX.b__Lcell:bz K T.fd__Lcell ["_law_script","_law_k"] []:=T.F__Lcell.binds fun _ _ _ _ _ _ us hl=>by obtain ⟨u0,u1,rfl⟩:=ul2 hl; rfl
abbrev TX.f__Ltexts:=T.f 33
abbrev TX.fd__Ltexts:=T.fd 33
theorem TX.F__Ltexts:Fun K "_law_texts" "_law_texts" eP T.f__Ltexts T.fd__Ltexts:=T.F 33 (by decide)
theorem TX.m__Ltexts:mg "_law_texts" = some (.ref T.f__Ltexts):=T.m 33 (by decide)
theorem TX.b__Ltexts:bz K T.fd__Ltexts ["_law_cell_here","_law_many","_law_most"] []:=T.F__Ltexts.binds fun _ _ _ _ _ _ us hl=>by obtain ⟨u0,u1,u2,rfl⟩:=ul3 hl; rfl
abbrev TX.f__Lplay:=T.f 34
abbrev TX.fd__Lplay:=T.fd 34
theorem TX.F__Lplay:Fun K "_law_play" "_law_play" j_ T.f__Lplay T.fd__Lplay:=T.F 34 (by decide)
theorem TX.m__Lplay:mg "_law_play" = some (.ref T.f__Lplay):=T.m 34 (by decide)
theorem TX.b__Lplay:bz K T.fd__Lplay ["_law_cells","_law_names","_law_words"] []:=T.F__Lplay.binds fun _ _ _ _ _ _ us hl=>by obtain ⟨u0,u1,u2,rfl⟩:=ul3 hl; rfl
abbrev TX.f__Lspoilt:=T.f 38
abbrev TX.fd__Lspoilt:=T.fd 38
theorem TX.F__Lspoilt:Fun K "_law_spoilt" "_law_spoilt" j8 T.f__Lspoilt T.fd__Lspoilt:=T.F 38 (by decide)
theorem TX.m__Lspoilt:mg "_law_spoilt" = some (.ref T.f__Lspoilt):=T.m 38 (by decide)
theorem TX.b__Lspoilt:bz K T.fd__Lspoilt ["_law_pair","_law_ahead","_law_cell_here"] []:=T.F__Lspoilt.binds fun _ _ _ _ _ _ us hl=>by obtain ⟨u0,u1,u2,rfl⟩:=ul3 hl; rfl
abbrev TX.f__Llettered:=T.f 36
abbrev TX.fd__Llettered:=T.fd 36
theorem TX.F__Llettered:Fun K "_law_lettered" "_law_lettered" fj T.f__Llettered T.fd__Llettered:=T.F 36 (by decide)
theorem TX.m__Llettered:mg "_law_lettered" = some (.ref T.f__Llettered):=T.m 36 (by decide)
theorem TX.b__Llettered:bz K T.fd__Llettered ["_law_thing","_law_most"] []:=T.F__Llettered.binds fun _ _ _ _ _ _ us hl=>by obtain ⟨u0,u1,rfl⟩:=ul2 hl; rfl
abbrev TX.f__Lis_pair:=T.f 37
abbrev TX.fd__Lis_pair:=T.fd 37
theorem TX.F__Lis_pair:Fun K "_law_is_pair" "_law_is_pair" dA T.f__Lis_pair T.fd__Lis_pair:=T.F 37 (by decide)
theorem TX.m__Lis_pair:mg "_law_is_pair" = some (.ref T.f__Lis_pair):=T.m 37 (by decide)
theorem TX.b__Lis_pair:bz K T.fd__Lis_pair ["_law_pair","_law_ahead"] []:=T.F__Lis_pair.binds fun _ _ _ _ _ _ us hl=>by obtain ⟨u0,u1,rfl⟩:=ul2 hl; rfl
abbrev TX.f_is_series:=T.f 16
abbrev TX.fd_is_series:=T.fd 16
theorem TX.F_is_series:Fun K "is_series" "is_series" jd T.f_is_series T.fd_is_series:=T.F 16 (by decide)
theorem TX.m_is_series:mg "is_series" = some (.ref T.f_is_series):=T.m 16 (by decide)
theorem TX.b_is_series:bz K T.fd_is_series ["thing"] []:=T.F_is_series.binds fun _ _ _ _ _ _ us hl=>by obtain ⟨u0,rfl⟩:=ul1 hl; rfl
abbrev TX.f_is_letters:=T.f 17
abbrev TX.fd_is_letters:=T.fd 17
theorem TX.F_is_letters:Fun K "is_letters" "is_letters" fg T.f_is_letters T.fd_is_letters:=T.F 17 (by decide)
theorem TX.m_is_letters:mg "is_letters" = some (.ref T.f_is_letters):=T.m 17 (by decide)
theorem TX.b_is_letters:bz K T.fd_is_letters ["thing","most"] []:=T.F_is_letters.binds fun _ _ _ _ _ _ us hl=>by obtain ⟨u0,u1,rfl⟩:=ul2 hl; rfl
abbrev TX.f_is_name:=T.f 19
abbrev TX.fd_is_name:=T.fd 19
theorem TX.F_is_name:Fun K "is_name" "is_name" lK T.f_is_name T.fd_is_name:=T.F 19 (by decide)
theorem TX.m_is_name:mg "is_name" = some (.ref T.f_is_name):=T.m 19 (by decide)
theorem TX.b_is_name:bz K T.fd_is_name ["thing"] []:=T.F_is_name.binds fun _ _ _ _ _ _ us hl=>by obtain ⟨u0,rfl⟩:=ul1 hl; rfl
abbrev TX.f_are_names:=T.f 20
abbrev TX.fd_are_names:=T.fd 20
theorem TX.F_are_names:Fun K "are_names" "are_names" fT T.f_are_names T.fd_are_names:=T.F 20 (by decide)
theorem TX.m_are_names:mg "are_names" = some (.ref T.f_are_names):=T.m 20 (by decide)
theorem TX.b_are_names:bz K T.fd_are_names ["things"] []:=T.F_are_names.binds fun _ _ _ _ _ _ us hl=>by obtain ⟨u0,rfl⟩:=ul1 hl; rfl
abbrev TX.f_is_rising:=T.f 22
abbrev TX.fd_is_rising:=T.fd 22
theorem TX.F_is_rising:Fun K "is_rising" "is_rising" fR T.f_is_rising T.fd_is_rising:=T.F 22 (by decide)
theorem TX.m_is_rising:mg "is_rising" = some (.ref T.f_is_rising):=T.m 22 (by decide)
theorem TX.b_is_rising:bz K T.fd_is_rising ["names"] []:=T.F_is_rising.binds fun _ _ _ _ _ _ us hl=>by obtain ⟨u0,rfl⟩:=ul1 hl; rfl
abbrev TX.f_is_speech_names:=T.f 23
abbrev TX.fd_is_speech_names:=T.fd 23
theorem TX.F_is_speech_names:Fun K "is_speech_names" "is_speech_names" em T.f_is_speech_names T.fd_is_speech_names:=T.F 23 (by decide)
theorem TX.m_is_speech_names:mg "is_speech_names" = some (.ref T.f_is_speech_names):=T.m 23 (by decide)
theorem TX.b_is_speech_names:bz K T.fd_is_speech_names ["thing"] []:=T.F_is_speech_names.binds fun _ _ _ _ _ _ us hl=>by obtain ⟨u0,rfl⟩:=ul1 hl; rfl
abbrev TX.f_is_word:=T.f 18
abbrev TX.fd_is_word:=T.fd 18
theorem TX.F_is_word:Fun K "is_word" "is_word" lJ T.f_is_word T.fd_is_word:=T.F 18 (by decide)
theorem TX.m_is_word:mg "is_word" = some (.ref T.f_is_word):=T.m 18 (by decide)
theorem TX.b_is_word:bz K T.fd_is_word ["thing"] []:=T.F_is_word.binds fun _ _ _ _ _ _ us hl=>by obtain ⟨u0,rfl⟩:=ul1 hl; rfl
abbrev TX.f_are_words:=T.f 21
abbrev TX.fd_are_words:=T.fd 21
theorem TX.F_are_words:Fun K "are_words" "are_words" fS T.f_are_words T.fd_are_words:=T.F 21 (by decide)
theorem TX.m_are_words:mg "are_words" = some (.ref T.f_are_words):=T.m 21 (by decide)
theorem TX.b_are_words:bz K T.fd_are_words ["things"] []:=T.F_are_words.binds fun _ _ _ _ _ _ us hl=>by obtain ⟨u0,rfl⟩:=ul1 hl; rfl
abbrev TX.f_is_speech_words:=T.f 24
abbrev TX.fd_is_speech_words:=T.fd 24
theorem TX.F_is_speech_words:Fun K "is_speech_words" "is_speech_words" el T.f_is_speech_words T.fd_is_speech_words:=T.F 24 (by decide)
theorem TX.m_is_speech_words:mg "is_speech_words" = some (.ref T.f_is_speech_words):=T.m 24 (by decide)
theorem TX.b_is_speech_words:bz K T.fd_is_speech_words ["thing"] []:=T.F_is_speech_words.binds fun _ _ _ _ _ _ us hl=>by obtain ⟨u0,rfl⟩:=ul1 hl; rfl
abbrev TX.f_is_speech:=T.f 25
abbrev TX.fd_is_speech:=T.fd 25
theorem TX.F_is_speech:Fun K "is_speech" "is_speech" jc T.f_is_speech T.fd_is_speech:=T.F 25 (by decide)
theorem TX.m_is_speech:mg "is_speech" = some (.ref T.f_is_speech):=T.m 25 (by decide)
theorem TX.b_is_speech:bz K T.fd_is_speech ["thing"] []:=T.F_is_speech.binds fun _ _ _ _ _ _ us hl=>by obtain ⟨u0,rfl⟩:=ul1 hl; rfl
abbrev TX.f_speech_of:=T.f 28
abbrev TX.fd_speech_of:=T.fd 28
theorem TX.F_speech_of:Fun K "speech_of" "speech_of" jb T.f_speech_of T.fd_speech_of:=T.F 28 (by decide)
theorem TX.m_speech_of:mg "speech_of" = some (.ref T.f_speech_of):=T.m 28 (by decide)
theorem TX.b_speech_of:bz K T.fd_speech_of ["pair"] []:=T.F_speech_of.binds fun _ _ _ _ _ _ us hl=>by obtain ⟨u0,rfl⟩:=ul1 hl; rfl
abbrev TX.f_have_common:=T.f 26
abbrev TX.fd_have_common:=T.fd 26
theorem TX.F_have_common:Fun K "have_common" "have_common" eG T.f_have_common T.fd_have_common:=T.F 26 (by decide)
theorem TX.m_have_common:mg "have_common" = some (.ref T.f_have_common):=T.m 26 (by decide)
theorem TX.b_have_common:bz K T.fd_have_common ["names","others"] []:=T.F_have_common.binds fun _ _ _ _ _ _ us hl=>by obtain ⟨u0,u1,rfl⟩:=ul2 hl; rfl
abbrev TX.f_play_of:=T.f 29
abbrev TX.fd_play_of:=T.fd 29
theorem TX.F_play_of:Fun K "play_of" "play_of" lI T.f_play_of T.fd_play_of:=T.F 29 (by decide)
theorem TX.m_play_of:mg "play_of" = some (.ref T.f_play_of):=T.m 29 (by decide)
theorem TX.b_play_of:bz K T.fd_play_of ["pairs"] []:=T.F_play_of.binds fun _ _ _ _ _ _ us hl=>by obtain ⟨u0,rfl⟩:=ul1 hl; rfl
abbrev TX.f__Ltold:=T.f 39
abbrev TX.fd__Ltold:=T.fd 39
theorem TX.F__Ltold:Fun K "_law_told" "_law_told" nT T.f__Ltold T.fd__Ltold:=T.F 39 (by decide)
theorem TX.m__Ltold:mg "_law_told" = some (.ref T.f__Ltold):=T.m 39 (by decide)
theorem TX.b__Ltold:bz K T.fd__Ltold ["_law_pairs"] []:=T.F__Ltold.binds fun _ _ _ _ _ _ us hl=>by obtain ⟨u0,rfl⟩:=ul1 hl; rfl
abbrev TX.f__Lcopied:=T.f 41
abbrev TX.fd__Lcopied:=T.fd 41
theorem TX.F__Lcopied:Fun K "_law_copied" "_law_copied" fm T.f__Lcopied T.fd__Lcopied:=T.F 41 (by decide)
theorem TX.m__Lcopied:mg "_law_copied" = some (.ref T.f__Lcopied):=T.m 41 (by decide)
theorem TX.b__Lcopied:bz K T.fd__Lcopied ["_law_thing"] []:=T.F__Lcopied.binds fun _ _ _ _ _ _ us hl=>by obtain ⟨u0,rfl⟩:=ul1 hl; rfl
abbrev TX.f__Lsame:=T.f 35
abbrev TX.fd__Lsame:=T.fd 35
theorem TX.F__Lsame:Fun K "_law_same" "_law_same" j9 T.f__Lsame T.fd__Lsame:=T.F 35 (by decide)
theorem TX.m__Lsame:mg "_law_same" = some (.ref T.f__Lsame):=T.m 35 (by decide)
theorem TX.b__Lsame:bz K T.fd__Lsame ["_law_found","_law_due"] []:=T.F__Lsame.binds fun _ _ _ _ _ _ us hl=>by obtain ⟨u0,u1,rfl⟩:=ul2 hl; rfl
abbrev TX.f__Ltruth:=T.f 40
abbrev TX.fd__Ltruth:=T.fd 40
theorem TX.F__Ltruth:Fun K "_law_truth" "_law_truth" lL T.f__Ltruth T.fd__Ltruth:=T.F 40 (by decide)
theorem TX.m__Ltruth:mg "_law_truth" = some (.ref T.f__Ltruth):=T.m 40 (by decide)
theorem TX.b__Ltruth:bz K T.fd__Ltruth ["_law_found","_law_due"] []:=T.F__Ltruth.binds fun _ _ _ _ _ _ us hl=>by obtain ⟨u0,u1,rfl⟩:=ul2 hl; rfl
abbrev TX.f_is_play:=T.f 27
abbrev TX.fd_is_play:=T.fd 27
theorem TX.F_is_play:Fun K "is_play" "is_play" gu T.f_is_play T.fd_is_play:=T.F 27 (by decide)
theorem TX.m_is_play:mg "is_play" = some (.ref T.f_is_play):=T.m 27 (by decide)
theorem TX.b_is_play:bz K T.fd_is_play ["thing"] []:=T.F_is_play.binds fun _ _ _ _ _ _ us hl=>by obtain ⟨u0,rfl⟩:=ul1 hl; rfl
abbrev TX.f__Lagain:=T.f 42
abbrev TX.fd__Lagain:=T.fd 42
theorem TX.F__Lagain:Fun K "_law_again" "_law_again" lO T.f__Lagain T.fd__Lagain:=T.F 42 (by decide)
theorem TX.m__Lagain:mg "_law_again" = some (.ref T.f__Lagain):=T.m 42 (by decide)
theorem TX.b__Lagain:bz K T.fd__Lagain ["_law_pairs","_law_due","_law_names","_law_words"] []:=T.F__Lagain.binds fun _ _ _ _ _ _ us hl=>match us,hl with | [_,_,_,_],_=>rfl
abbrev TX.f_law:=T.f 43
abbrev TX.fd_law:=T.fd 43
theorem TX.F_law:Fun K "law" "law" nS T.f_law T.fd_law:=T.F 43 (by decide)
theorem TX.m_NAME_LETTERS:mg "NAME_LETTERS" = some (.int 8 (T.t "NAME_LETTERS")):=T.c ("NAME_LETTERS",8) (.head _)
theorem TX.m_SPEECH_NAMES:mg "SPEECH_NAMES" = some (.int 8 (T.t "SPEECH_NAMES")):=T.c ("SPEECH_NAMES",8) (.tail _ (.head _))
theorem TX.m_WORD_LETTERS:mg "WORD_LETTERS" = some (.int 12 (T.t "WORD_LETTERS")):=T.c ("WORD_LETTERS",12) (.tail _ (.tail _ (.head _)))
theorem TX.n_ValueError (T:TX K mg):mg "ValueError" = none:=T.z _ (.head _)
theorem TX.n_all (T:TX K mg):mg "all" = none:=T.z _ (.tail _ (.head _))
theorem TX.n_any (T:TX K mg):mg "any" = none:=T.z _ (.tail _ (.tail _ (.head _)))
theorem TX.n_bool (T:TX K mg):mg "bool" = none:=T.z _ (.tail _ (.tail _ (.tail _ (.head _))))
theorem TX.n_enumerate (T:TX K mg):mg "enumerate" = none:=T.z _ (.tail _ (.tail _ (.tail _ (.tail _ (.head _)))))
theorem TX.n_int (T:TX K mg):mg "int" = none:=T.z _ (.tail _ (.tail _ (.tail _ (.tail _ (.tail _ (.head _))))))
theorem TX.n_isinstance (T:TX K mg):mg "isinstance" = none:=T.z _ (.tail _ (.tail _ (.tail _ (.tail _ (.tail _ (.tail _ (.head _)))))))
theorem TX.n_len (T:TX K mg):mg "len" = none:=T.z _ (.tail _ (.tail _ (.tail _ (.tail _ (.tail _ (.tail _ (.tail _ (.head _))))))))
theorem TX.n_list (T:TX K mg):mg "list" = none:=T.z _ (.tail _ (.tail _ (.tail _ (.tail _ (.tail _ (.tail _ (.tail _ (.tail _ (.head _)))))))))
theorem TX.n_range (T:TX K mg):mg "range" = none:=T.z _ (.tail _ (.tail _ (.tail _ (.tail _ (.tail _ (.tail _ (.tail _ (.tail _ (.tail _ (.head _))))))))))
theorem TX.n_set (T:TX K mg):mg "set" = none:=T.z _ (.tail _ (.tail _ (.tail _ (.tail _ (.tail _ (.tail _ (.tail _ (.tail _ (.tail _ (.tail _ (.head _)))))))))))
theorem TX.n_sorted (T:TX K mg):mg "sorted" = none:=T.z _ (.tail _ (.tail _ (.tail _ (.tail _ (.tail _ (.tail _ (.tail _ (.tail _ (.tail _ (.tail _ (.tail _ (.head _))))))))))))
theorem TX.n_str (T:TX K mg):mg "str" = none:=T.z _ (.tail _ (.tail _ (.tail _ (.tail _ (.tail _ (.tail _ (.tail _ (.tail _ (.tail _ (.tail _ (.tail _ (.tail _ (.head _)))))))))))))
theorem TX.n_tuple (T:TX K mg):mg "tuple" = none:=T.z _ (.tail _ (.tail _ (.tail _ (.tail _ (.tail _ (.tail _ (.tail _ (.tail _ (.tail _ (.tail _ (.tail _ (.tail _ (.tail _ (.head _))))))))))))))
theorem TX.n_zip (T:TX K mg):mg "zip" = none:=T.z _ (.tail _ (.tail _ (.tail _ (.tail _ (.tail _ (.tail _ (.tail _ (.tail _ (.tail _ (.tail _ (.tail _ (.tail _ (.tail _ (.tail _ (.head _)))))))))))))))
end
section
variable {P:Program}{w:World}{K:PySem.W.Frag}{mg:Str→Option Value}{base:Heap}
theorem TX.kd (T:TX K mg):zP K mg "NoPlay" "place" "NoPlay.__init__" (na (cU 2) 0) kA kB "Unknown" "CueError" := wC T.o T.g
abbrev clN (K:PySem.W.Frag):Nat→Addr:=fun _=>cj K "NoPlay"
theorem xZ:aL ["self","place"] ["self","place"] (ak (na (cU 2) 0)):=⟨rfl,rfl,rfl,by decide +kernel,rfl,by decide +kernel,by decide +kernel⟩
theorem TX.init (T:TX K mg):∃ fd,br P w K mg base CX0 1 (kH K (cj K "NoPlay")) fd ["self","place"] (spI (cj K "NoPlay") "place")∧bz K fd ["self","place"] []:=by
 obtain ⟨fd,F⟩:=T.kd.fn
 obtain ⟨cd,xc⟩:=T.kd.er.xc
 exact ⟨fd,yG F xZ xc T.kd.er.nf rfl (Or.inl rfl) (Or.inl rfl) (by decide) (by decide) fun _=>rfl,F.binds fun _ _ _ _ _ _ us hl=>by obtain ⟨u0,u1,rfl⟩:=ul2 hl; rfl⟩
end
section
variable {P:Program}{w:World}{K:PySem.W.Frag}{mg:Str→Option Value}{base:Heap}
def b__Lmixed:DE→Option Out :=
 (aw (bin ci (bin ou (ae 0) (cst (.int 271828182845904523536028747135266249775724709369995957496697))) (bin n5 (cst (.int 10)) (cst (.int 60)))))
def g__Lmixed:List D→Option D:=bF 1 1 b__Lmixed
theorem kl (T:TX K mg):br P w K mg base CX0 2 T.f__Lmixed T.fd__Lmixed ["_law_cell_here"] (spD 1 g__Lmixed) :=
 fnG (k:=1) (b:=b__Lmixed) T.F__Lmixed p6 rfl rfl rfl rfl fun cdv A outer s H E hr =>
   (ap (aD (bQ (Ev.obs (sh (ao 0) (Ev.obs aj))) (Ev.obs (nj (Ev.obs aj) (Ev.obs aj))))))
def b__Lcell:DE→Option Out :=
 (ay (ifS (tst (bin ltD (ae 1) (un bx (ae 0))))
 (aw (al 1 g__Lmixed (aa (bin ixE (ae 0) (ae 1)) ag)))
 aQ)
 (aw (cst (.int 0))))
def g__Lcell:List D→Option D:=bF 2 2 b__Lcell
theorem lR (T:TX K mg):br P w K mg base CX0 3 T.f__Lcell T.fd__Lcell ["_law_script","_law_k"] (spD 2 g__Lcell) :=
 fnG (k:=2) (b:=b__Lcell) T.F__Lcell s_ rfl rfl rfl rfl fun cdv A outer s H E hr =>
   (ah (bT (si  (ao 1) (Ev.obs (bf rfl T.n_len (ao 0))))
   (ap (aD (aA (kl T) (hr.mono (by decide)) rfl T.m__Lmixed T.F__Lmixed.kp T.b__Lmixed (ac (aO hr.units (ao 0) (ao 1) (fun _ _=>rfl)) ai))))
   aR)
   (ap (aD aj)))
def b__Ltexts:DE→Option Out :=
 (ay (aB 3 (cst (.str "abcdefghijklmnopqrstuvwxyz")))
 (ay (aB 4 (bin ci (ae 0) (cst (.int 3))))
 (ay (aB 5 (bin ci (bin bM (ae 0) (cst (.int 3))) (ae 2)))
 (ay (aB 6 (bin ci (bin bM (ae 0) (cst (.int 40))) (bin cv (ae 5) (cst (.int 1)))))
 (ay (aB 0 (bin bM (ae 0) (cst (.int 600))))
 (ay (aB 7 (cst (.str "")))
 (ay (fD (eQ (aa (var 2) ag)) (nmG 8)
 (ay (aB 7 (bin cv (ae 7) (bin ixE (ae 3) (bin ci (ae 0) (cst (.int 26))))))
 (aB 0 (bin bM (ae 0) (cst (.int 26))))))
 (ay (ifS (tst (bin eqO (ae 4) (cst (.int 0))))
 (aw (aE [8] (eQ (aa (var 1) ag)) (nmG 8) noT (bJ (ae 7) noP (cc (bin cv (cst (.int 1)) (ae 8))))))
 aQ)
 (ay (ifS (tst (bin eqO (ae 4) (cst (.int 1))))
 (aw (aE [8] (eQ (aa (var 1) ag)) (nmG 8) noT (bin cv (bin cv (bJ (ae 7) noP (cc (var 6))) (bin ixE (ae 3) (bin ci (bin cv (ae 0) (ae 8)) (cst (.int 26))))) (bJ (ae 7) (cc (var 6)) (cc (var 5))))))
 aQ)
 (aw (aE [8] (eQ (aa (var 1) ag)) (nmG 8) noT (bin ou (bin ixE (ae 3) (bin ci (bin cv (ae 0) (ae 8)) (cst (.int 26)))) (bin cv (cst (.int 1)) (ae 5))))))))))))))
def g__Ltexts:List D→Option D:=bF 3 9 b__Ltexts
theorem kj (T:TX K mg):br P w K mg base CX0 2 T.f__Ltexts T.fd__Ltexts ["_law_cell_here","_law_many","_law_most"] (spD 3 g__Ltexts) :=
 fnG (k:=1) (b:=b__Ltexts) T.F__Ltexts bA rfl rfl rfl rfl fun cdv A outer s H E hr =>
   (ah (aG (i:=3) bA.nd rfl (Or.inr rfl) bZ)
   (ah (aG (i:=4) bA.nd rfl (Or.inl rfl) (bQ (ao 0) (Ev.obs aj)))
   (ah (aG (i:=5) bA.nd rfl (Or.inr rfl) (bQ (Ev.obs (bI (ao 0) (Ev.obs aj))) (ao 2)))
   (ah (aG (i:=6) bA.nd rfl (Or.inr rfl) (bQ (Ev.obs (bI (ao 0) (Ev.obs aj))) (Ev.obs (b4 (ao 5) (Ev.obs aj)))))
   (ah (aG (i:=0) bA.nd rfl (Or.inr rfl) (bI (ao 0) (Ev.obs aj)))
   (ah (aG (i:=7) bA.nd rfl (Or.inr rfl) bZ)
   (ah (i4 FT rfl (dm rfl T.n_range (ac (aC 2) ai)) (aK (i:=8) bA.nd rfl (Or.inl rfl))
   (ah (aG (i:=7) bA.nd rfl (Or.inr rfl) (b4 (ao 7) (Ev.obs (aO hr.units (ao 3) (Ev.obs (bQ (ao 0) (Ev.obs aj))) (fun _ _=>rfl)))))
   (ap (aG (i:=0) bA.nd rfl (Or.inr rfl) (bI (ao 0) (Ev.obs aj))))))
   (ah (bT (kL hr.units (ao 4) (Ev.obs aj))
   (ap (aD (Ev.frz (bV (js:=[8]) (Blk.of (sc:=ak eP) (N:=gF) (by decide +kernel) rfl rfl) rfl (dm rfl T.n_range (ac (aC 1) ai)) bc (fun _ _ _ _=>(aK (i:=8) bA.nd rfl (Or.inl rfl))) (fun _ _ _ _=>bg) (fun _ _ _ _=>(cL (ao 7) eB (cP (b4 (Ev.obs aj) (ao 8)))))))))
   aR)
   (ah (bT (kL hr.units (ao 4) (Ev.obs aj))
   (ap (aD (Ev.frz (bV (js:=[8]) (Blk.of (sc:=ak eP) (N:=gF) (by decide +kernel) rfl rfl) rfl (dm rfl T.n_range (ac (aC 1) ai)) bc (fun _ _ _ _=>(aK (i:=8) bA.nd rfl (Or.inl rfl))) (fun _ _ _ _=>bg) (fun _ _ _ _=>(b4 (Ev.obs (b4 (Ev.obs (cL (ao 7) eB (cP (aC 6)))) (Ev.obs (aO hr.units (ao 3) (Ev.obs (bQ (Ev.obs (b4 (ao 0) (ao 8))) (Ev.obs aj))) (fun _ _=>rfl))))) (Ev.obs (cL (ao 7) (cP (aC 6)) (cP (aC 5))))))))))
   aR)
   (ap (aD (Ev.frz (bV (js:=[8]) (Blk.of (sc:=ak eP) (N:=gF) (by decide +kernel) rfl rfl) rfl (dm rfl T.n_range (ac (aC 1) ai)) bc (fun _ _ _ _=>(aK (i:=8) bA.nd rfl (Or.inl rfl))) (fun _ _ _ _=>bg) (fun _ _ _ _=>(sh (Ev.obs (aO hr.units (ao 3) (Ev.obs (bQ (Ev.obs (b4 (ao 0) (ao 8))) (Ev.obs aj))) (fun _ _=>rfl))) (Ev.obs (b4 (Ev.obs aj) (ao 5))))))))))))))))))
def b__Lplay:DE→Option Out :=
 (ay (dF 3 (bB ag))
 (ay (aB 4 (bE ag))
 (ay (fD (bW aN (var 0)) (nmG 5)
 (ay (aB 5 (al 1 g__Lmixed (aa (var 5) ag)))
 (ay (aB 6 (aE [8] (bW aN (var 1)) (nmG 8) (tst (bin t0 (ae 8) (ae 4))) (var 8)))
 (ay (dF 7 (bB ag))
 (ay (fD (bW aN (var 6)) (nmG 8)
 (ay (ifS (tst (bin eqO (bin ci (ae 5) (cst (.int 3))) (cst (.int 0))))
 (eK 7 (var 8))
 aQ)
 (aB 5 (bin bM (ae 5) (cst (.int 3))))))
 (ay (ifS (orT (tst (bin eqO (ae 7) (bB ag))) (tst (bin eqO (un bx (ae 7)) (un bx (ae 1)))))
 (dF 7 (bB (aa (bin ixE (ae 6) (bin ci (ae 5) (un bx (ae 6)))) ag)))
 aQ)
 (ay (aB 5 (bin bM (ae 5) (cst (.int 5))))
 (ay (dF 9 (bB ag))
 (ay (fD (eQ (aa (bin cv (cst (.int 1)) (bin ci (ae 5) (cst (.int 5)))) ag)) (nmG 10)
 (ay (aB 5 (bin bM (ae 5) (cst (.int 7))))
 (eK 9 (bin ixE (ae 2) (bin ci (ae 5) (un bx (ae 2)))))))
 (ay (aB 4 (un aW (un eM (ae 7))))
 (eK 3 (bE (aa (var 4) (aa (un aW (ae 9)) ag))))))))))))))
 (aw (un aW (ae 3))))))
def g__Lplay:List D→Option D:=bF 3 11 b__Lplay
theorem tV (T:TX K mg):br P w K mg base CX0 3 T.f__Lplay T.fd__Lplay ["_law_cells","_law_names","_law_words"] (spD 3 g__Lplay) :=
 fnG (k:=2) (b:=b__Lplay) T.F__Lplay bo rfl rfl rfl rfl fun cdv A outer s H E hr =>
   (ah (iZ (i:=3) bo.nd rfl (Or.inl rfl) (bv ai))
   (ah (aG (i:=4) bo.nd rfl (Or.inr rfl) (bu ai))
   (ah (i4 FT rfl (b8 (aC 0)) (aK (i:=5) bo.nd rfl (Or.inl rfl))
   (ah (aG (i:=5) bo.nd rfl (Or.inl rfl) (aA (kl T) (hr.mono (by decide)) rfl T.m__Lmixed T.F__Lmixed.kp T.b__Lmixed (ac (aC 5) ai)))
   (ah (wZ (i:=6) bo.nd rfl (Or.inl rfl) (js:=[8]) (Blk.of (sc:=ak j_) (N:=pO) (by decide +kernel) rfl rfl) rfl (b8 (aC 1)) bc (fun _ _ _ _=>(aK (i:=8) bo.nd rfl (Or.inl rfl))) (fun _ _ _ _=>(xh (y9 hr.units (ao 8) (ao 4) rfl))) (fun _ _ _ _=>(aC 8)) rfl)
   (ah (iZ (i:=7) bo.nd rfl (Or.inl rfl) (bv ai))
   (ah (i4 FT rfl (b8 (aC 6)) (aK (i:=8) bo.nd rfl (Or.inl rfl))
   (ah (bT (kL hr.units (Ev.obs (bQ (ao 5) (Ev.obs aj))) (Ev.obs aj))
   (ap (eZ (i:=7) (pv 7) (aC 8)))
   aR)
   (ap (aG (i:=5) bo.nd rfl (Or.inl rfl) (bI (ao 5) (Ev.obs aj))))))
   (ah (bT (Ew.et (dC (kL hr.units (ao 7) (Ev.obs (bv ai))) (dG (kL hr.units (Ev.obs (bf rfl T.n_len (ao 7))) (Ev.obs (bf rfl T.n_len (ao 1)))))))
   (ap (iZ (i:=7) bo.nd rfl (Or.inl rfl) (bv (ac (aO hr.units (ao 6) (Ev.obs (bQ (ao 5) (Ev.obs (bf rfl T.n_len (ao 6))))) (fun _ _=>rfl)) ai))))
   aR)
   (ah (aG (i:=5) bo.nd rfl (Or.inl rfl) (bI (ao 5) (Ev.obs aj)))
   (ah (iZ (i:=9) bo.nd rfl (Or.inl rfl) (bv ai))
   (ah (i4 FT rfl (dm rfl T.n_range (ac (b4 (Ev.obs aj) (Ev.obs (bQ (ao 5) (Ev.obs aj)))) ai)) (aK (i:=10) bo.nd rfl (Or.inl rfl))
   (ah (aG (i:=5) bo.nd rfl (Or.inl rfl) (bI (ao 5) (Ev.obs aj)))
   (ap (eZ (i:=9) (pv 9) (aO hr.units (ao 2) (Ev.obs (bQ (ao 5) (Ev.obs (bf rfl T.n_len (ao 2))))) (fun _ _=>rfl))))))
   (ah (aG (i:=4) bo.nd rfl (Or.inr rfl) (bN rfl T.n_tuple rfl (Ev.obs (iw rfl rfl T.n_sorted rfl (ao 7)))))
   (ap (eZ (i:=3) (pv 3) (bu (ac (aC 4) (ac (bN rfl T.n_tuple rfl (ao 9)) ai)))))))))))))))
   (ap (aD (bN rfl T.n_tuple rfl (ao 3)))))))
def b__Lspoilt:DE→Option Out :=
 (ay (yB 3 4 (aa (un eT (bin ixE (ae 0) (cst (.int 0)))) (aa (un eT (bin ixE (ae 0) (cst (.int 1)))) ag)))
 (ay (aB 5 (bin ci (bin bM (ae 2) (cst (.int 13))) (un bx (ae 4))))
 (ay (aB 6 (bin ixE (bB (aa (cst (.str "")) (aa (cst (.str "Abel")) (aa (cst (.str "a b")) (aa (cst (.str "abcdefghijklm")) (aa (cst (.int 5)) (aa (cst .non) (aa (cst (.bl true)) (aa (bB (aa (cst (.str "a")) ag)) ag))))))))) (bin ci (bin bM (ae 2) (cst (.int 200))) (cst (.int 8)))))
 (ay (aB 7 (bB (aa (bE (aa (bB ag) (aa (var 4) ag))) (aa (bE (aa (bin cv (ae 3) (bJ (ae 3) noP (cc (cst (.int 1))))) (aa (var 4) ag))) (aa (bE (aa (bB (aa (cst (.str "a")) (aa (cst (.str "b")) (aa (cst (.str "c")) (aa (cst (.str "d")) (aa (cst (.str "e")) (aa (cst (.str "f")) (aa (cst (.str "g")) (aa (cst (.str "h")) (aa (cst (.str "i")) ag)))))))))) (aa (var 4) ag))) ag)))))
 (ay (aB 7 (bin cv (ae 7) (bB (aa (bE (aa (bin cv (ae 3) (un eT (bJ (ae 1) noP (cc (cst (.int 1)))))) (aa (var 4) ag))) (aa (bE (aa (var 3) (aa (bB ag) ag))) (aa (bE (aa (var 3) (aa (bin cv (bin cv (bJ (ae 4) noP (cc (var 5))) (bB (aa (var 6) ag))) (bJ (ae 4) (cc (var 5)) noP)) ag))) ag))))))
 (ay (aB 7 (bin cv (ae 7) (bB (aa (bE (aa (bin cv (bB (aa (var 6) ag)) (ae 3)) (aa (var 4) ag))) (aa (bE (aa (bin ixE (ae 3) (cst (.int 0))) (aa (var 4) ag))) (aa (bE (aa (var 3) (aa (bin ixE (ae 4) (cst (.int 0))) ag))) (aa (cst .non) (aa (uC (cst (.str "a")) (bB (aa (cst (.str "b")) ag))) ag))))))))
 (ay (aB 7 (bin cv (ae 7) (bB (aa (bE (aa (var 3) ag)) (aa (bE (aa (var 3) (aa (var 4) (aa (var 4) ag)))) ag)))))
 (aw (bin ixE (ae 7) (bin ci (ae 2) (cst (.int 13))))))))))))
def cQ:List D→Option D:=bF 3 8 b__Lspoilt
theorem jh (T:TX K mg):br P w K mg base CX0 2 T.f__Lspoilt T.fd__Lspoilt ["_law_pair","_law_ahead","_law_cell_here"] (spD 3 cQ) :=
 fnG (k:=1) (b:=b__Lspoilt) T.F__Lspoilt ck rfl rfl rfl rfl fun cdv A outer s H E hr =>
   (ah (Bs (i:=3) (j:=4) ck.nd rfl rfl (by decide) rfl rfl rfl (ac (Ev.frz (ix rfl T.n_list rfl (Ev.obs (aO hr.units (ao 0) (Ev.obs aj) (fun _ _=>rfl))))) (ac (Ev.frz (ix rfl T.n_list rfl (Ev.obs (aO hr.units (ao 0) (Ev.obs aj) (fun _ _=>rfl))))) ai)))
   (ah (aG (i:=5) ck.nd rfl (Or.inl rfl) (bQ (Ev.obs (bI (ao 2) (Ev.obs aj))) (Ev.obs (bf rfl T.n_len (ao 4)))))
   (ah (aG (i:=6) ck.nd rfl (Or.inl rfl) (aO hr.units (Ev.obs (bv (ac bZ (ac bZ (ac bZ (ac bZ (ac aj (ac fE (ac cD (ac (Ev.frz (bv (ac bZ ai))) ai)))))))))) (Ev.obs (bQ (Ev.obs (bI (ao 2) (Ev.obs aj))) (Ev.obs aj))) (fun _ _=>rfl)))
   (ah (aG (i:=7) ck.nd rfl (Or.inl rfl) (Ev.frz (bv (ac (bu (ac (Ev.frz (bv ai)) (ac (aC 4) ai))) (ac (bu (ac (b4 (ao 3) (Ev.obs (cL (ao 3) eB (cP aj)))) (ac (aC 4) ai))) (ac (bu (ac (Ev.frz (bv (ac bZ (ac bZ (ac bZ (ac bZ (ac bZ (ac bZ (ac bZ (ac bZ (ac bZ ai))))))))))) (ac (aC 4) ai))) ai))))))
   (ah (aG (i:=7) ck.nd rfl (Or.inl rfl) (b4 (ao 7) (Ev.obs (bv (ac (bu (ac (b4 (ao 3) (Ev.obs (ix rfl T.n_list rfl (Ev.obs (cL (ao 1) eB (cP aj)))))) (ac (aC 4) ai))) (ac (bu (ac (aC 3) (ac (Ev.frz (bv ai)) ai))) (ac (bu (ac (aC 3) (ac (b4 (Ev.obs (b4 (Ev.obs (cL (ao 4) eB (cP (aC 5)))) (Ev.obs (bv (ac (aC 6) ai))))) (Ev.obs (cL (ao 4) (cP (aC 5)) eB))) ai))) ai)))))))
   (ah (aG (i:=7) ck.nd rfl (Or.inl rfl) (b4 (ao 7) (Ev.obs (bv (ac (bu (ac (b4 (Ev.obs (bv (ac (aC 6) ai))) (ao 3)) (ac (aC 4) ai))) (ac (bu (ac (aO hr.units (ao 3) (Ev.obs aj) (fun _ _=>rfl)) (ac (aC 4) ai))) (ac (bu (ac (aC 3) (ac (aO hr.units (ao 4) (Ev.obs aj) (fun _ _=>rfl)) ai))) (ac fE (ac (Ev.frz (y7 bZ (Ev.frz (bv (ac bZ ai))))) ai)))))))))
   (ah (aG (i:=7) ck.nd rfl (Or.inl rfl) (b4 (ao 7) (Ev.obs (bv (ac (bu (ac (aC 3) ai)) (ac (bu (ac (aC 3) (ac (aC 4) (ac (aC 4) ai)))) ai))))))
   (ap (aD (aO hr.units (ao 7) (Ev.obs (bQ (ao 2) (Ev.obs aj))) (fun _ _=>rfl)))))))))))
def b__Llettered:DE→Option Out :=
 (ay (ifS (orT (bq (tst (isF "str" (ae 0)))) (orT (tst (bin ltD (un bx (ae 0)) (cst (.int 1)))) (tst (bin gtD (un bx (ae 0)) (ae 1)))))
 (aw (cst (.bl false)))
 aQ)
 (aw (un cV (aE [2] (bW aN (var 0)) (nmG 2) noT (bin inE (ae 2) (cst (.str "abcdefghijklmnopqrstuvwxyz")))))))
def g__Llettered:List D→Option D:=bF 2 3 b__Llettered
theorem gL (T:TX K mg):br P w K mg base CX0 2 T.f__Llettered T.fd__Llettered ["_law_thing","_law_most"] (spD 2 g__Llettered) :=
 fnG (k:=1) (b:=b__Llettered) T.F__Llettered gJ rfl rfl rfl rfl fun cdv A outer s H E hr =>
   (ah (bT (Ew.et (dC (cu (bG (bD (T := "str") rfl rfl T.n_isinstance rfl rfl T.n_str rfl (ao 0)))) (dC (si  (Ev.obs (bf rfl T.n_len (ao 0))) (Ev.obs aj)) (dG (sj  (Ev.obs (bf rfl T.n_len (ao 0))) (ao 1))))))
   (ap (aD cD))
   aR)
   (ap (aD (fG rfl rfl T.n_all rfl (Ev.obs (bV (js:=[2]) (Blk.of (sc:=ak fj) (N:=iL) (by decide +kernel) rfl rfl) rfl (b8 (aC 0)) bc (fun _ _ _ _=>(aK (i:=2) gJ.nd rfl (Or.inl rfl))) (fun _ _ _ _=>bg) (fun _ _ _ _=>(qI hr.units (ao 2) (Ev.obs bZ) rfl))))))))
def b__Lis_pair:DE→Option Out :=
 (ay (ifS (orT (bq (tst (qE "list" "tuple" (ae 0)))) (tst (bin neO (un bx (ae 0)) (cst (.int 2)))))
 (aw (cst (.bl false)))
 aQ)
 (ay (cA (var 0) (xM (bh (nmG 2) (bh (nmG 3) dc))))
 (ay (ifS (orT (bq (tst (qE "list" "tuple" (ae 2)))) (bq (tst (qE "list" "tuple" (ae 3)))))
 (aw (cst (.bl false)))
 aQ)
 (ay (ifS (orT (tst (bin ltD (un bx (ae 2)) (cst (.int 1)))) (orT (tst (bin gtD (un bx (ae 2)) (cst (.int 8)))) (tst (bin ltD (un bx (ae 3)) (cst (.int 1))))))
 (aw (cst (.bl false)))
 aQ)
 (ay (ifS (orT (bq (tst (un cV (aE [4] (bW aN (var 2)) (nmG 4) noT (al 2 g__Llettered (aa (var 4) (aa (cst (.int 8)) ag))))))) (bq (tst (un cV (aE [5] (bW aN (var 3)) (nmG 5) noT (al 2 g__Llettered (aa (var 5) (aa (cst (.int 12)) ag))))))))
 (aw (cst (.bl false)))
 aQ)
 (aw (bS (bin eqO (un kz (ae 2)) (un bx (ae 2))) (kn (un jy (aE [4] (bW aN (var 2)) (nmG 4) noT (bin inE (ae 4) (ae 1))))))))))))
def b7:List D→Option D:=bF 2 6 b__Lis_pair
theorem mV (T:TX K mg):br P w K mg base CX0 3 T.f__Lis_pair T.fd__Lis_pair ["_law_pair","_law_ahead"] (spD 2 b7) :=
 fnG (k:=2) (b:=b__Lis_pair) T.F__Lis_pair cF rfl rfl rfl rfl fun cdv A outer s H E hr =>
   (ah (bT (Ew.et (dC (cu (bG (fF (T := "list") (U := "tuple") rfl rfl rfl T.n_isinstance rfl rfl T.n_list rfl rfl T.n_tuple rfl (ao 0)))) (dG (pe hr.units (Ev.obs (bf rfl T.n_len (ao 0))) (Ev.obs aj)))))
   (ap (aD cD))
   aR)
   (ah (l_ (aC 0) (Bw rfl (cw (aK (i:=2) cF.nd rfl (Or.inl rfl)) (cw (aK (i:=3) cF.nd rfl (Or.inl rfl)) gD))))
   (ah (bT (Ew.et (dC (cu (bG (fF (T := "list") (U := "tuple") rfl rfl rfl T.n_isinstance rfl rfl T.n_list rfl rfl T.n_tuple rfl (ao 2)))) (dG (cu (bG (fF (T := "list") (U := "tuple") rfl rfl rfl T.n_isinstance rfl rfl T.n_list rfl rfl T.n_tuple rfl (ao 3)))))))
   (ap (aD cD))
   aR)
   (ah (bT (Ew.et (dC (si  (Ev.obs (bf rfl T.n_len (ao 2))) (Ev.obs aj)) (dC (sj  (Ev.obs (bf rfl T.n_len (ao 2))) (Ev.obs aj)) (dG (si  (Ev.obs (bf rfl T.n_len (ao 3))) (Ev.obs aj))))))
   (ap (aD cD))
   aR)
   (ah (bT (Ew.et (dC (cu (bG (fG rfl rfl T.n_all rfl (Ev.obs (bV (js:=[4]) (Blk.of (sc:=ak dA) (N:=eE) (by decide +kernel) rfl rfl) rfl (b8 (aC 2)) bc (fun _ _ _ _=>(aK (i:=4) cF.nd rfl (Or.inl rfl))) (fun _ _ _ _=>bg) (fun _ _ _ _=>(aA (gL T) (hr.mono (by decide)) rfl T.m__Llettered T.F__Llettered.kp T.b__Llettered (ac (aC 4) (ac aj ai))))))))) (dG (cu (bG (fG rfl rfl T.n_all rfl (Ev.obs (bV (js:=[5]) (Blk.of (sc:=ak dA) (N:=eE) (by decide +kernel) rfl rfl) rfl (b8 (aC 3)) bc (fun _ _ _ _=>(aK (i:=5) cF.nd rfl (Or.inl rfl))) (fun _ _ _ _=>bg) (fun _ _ _ _=>(aA (gL T) (hr.mono (by decide)) rfl T.m__Llettered T.F__Llettered.kp T.b__Llettered (ac (aC 5) (ac aj ai))))))))))))
   (ap (aD cD))
   aR)
   (ap (aD (cE (l6 hr.units (Ev.obs (uw rfl rfl T.n_len rfl rfl T.n_set rfl (ao 2))) (Ev.obs (bf rfl T.n_len (ao 2)))) (eJ (qH (qK rfl rfl T.n_any rfl (Ev.obs (bV (js:=[4]) (Blk.of (sc:=ak dA) (N:=eE) (by decide +kernel) rfl rfl) rfl (b8 (aC 2)) bc (fun _ _ _ _=>(aK (i:=4) cF.nd rfl (Or.inl rfl))) (fun _ _ _ _=>bg) (fun _ _ _ _=>(qI hr.units (ao 4) (ao 1) rfl)))))))))))))))
def b_is_series:DE→Option Out :=
 (aw (qE "list" "tuple" (ae 0)))
def b6:List D→Option D:=bF 1 1 b_is_series
theorem cY (T:TX K mg):br P w K mg base CX0 2 T.f_is_series T.fd_is_series ["thing"] (spD 1 b6) :=
 fnG (k:=1) (b:=b_is_series) T.F_is_series mK rfl rfl rfl rfl fun cdv A outer s H E hr =>
   (ap (aD (fF (T := "list") (U := "tuple") rfl rfl rfl T.n_isinstance rfl rfl T.n_list rfl rfl T.n_tuple rfl (ao 0))))
def b_is_letters:DE→Option Out :=
 (aw (bS (isF "str" (ae 0)) (bS (dI leD leD (cst (.int 1)) (un bx (ae 0)) (ae 1)) (un cV (aE [2] (bW aN (var 0)) (nmG 2) noT (dI leD leD (cst (.str "a")) (ae 2) (cst (.str "z"))))))))
def g_is_letters:List D→Option D:=bF 2 3 b_is_letters
theorem gK (T:TX K mg):br P w K mg base CX0 2 T.f_is_letters T.fd_is_letters ["thing","most"] (spD 2 g_is_letters) :=
 fnG (k:=1) (b:=b_is_letters) T.F_is_letters gI rfl rfl rfl rfl fun cdv A outer s H E hr =>
   (ap (aD (cE (bD (T := "str") rfl rfl T.n_isinstance rfl rfl T.n_str rfl (ao 0)) (cE (nk (Ev.obs aj) (Ev.obs (bf rfl T.n_len (ao 0))) (ao 1)) (eJ (fG rfl rfl T.n_all rfl (Ev.obs (bV (js:=[2]) (Blk.of (sc:=ak fg) (N:=iK) (by decide +kernel) rfl rfl) rfl (b8 (aC 0)) bc (fun _ _ _ _=>(aK (i:=2) gI.nd rfl (Or.inl rfl))) (fun _ _ _ _=>bg) (fun _ _ _ _=>(nk (Ev.obs bZ) (ao 2) (Ev.obs bZ)))))))))))
def b_is_name:DE→Option Out :=
 (aw (al 2 g_is_letters (aa (var 0) (aa (cst (.int 8)) ag))))
def g_is_name:List D→Option D:=bF 1 1 b_is_name
theorem qi (T:TX K mg):br P w K mg base CX0 3 T.f_is_name T.fd_is_name ["thing"] (spD 1 g_is_name) :=
 fnG (k:=2) (b:=b_is_name) T.F_is_name p0 rfl rfl rfl rfl fun cdv A outer s H E hr =>
   (ap (aD (aA (gK T) (hr.mono (by decide)) rfl T.m_is_letters T.F_is_letters.kp T.b_is_letters (ac (aC 0) (ac (nq (v:=.int 8) rfl T.m_NAME_LETTERS ⟨_,rfl⟩ fun _=>.int _) ai)))))
def b_are_names:DE→Option Out :=
 (aw (un cV (aE [1] (bW aN (var 0)) (nmG 1) noT (al 1 g_is_name (aa (var 1) ag)))))
def g_are_names:List D→Option D:=bF 1 2 b_are_names
theorem ij (T:TX K mg):br P w K mg base CX0 4 T.f_are_names T.fd_are_names ["things"] (spD 1 g_are_names) :=
 fnG (k:=3) (b:=b_are_names) T.F_are_names ib rfl rfl rfl rfl fun cdv A outer s H E hr =>
   (ap (aD (fG rfl rfl T.n_all rfl (Ev.obs (bV (js:=[1]) (Blk.of (sc:=ak fT) (N:=jp) (by decide +kernel) rfl rfl) rfl (b8 (aC 0)) bc (fun _ _ _ _=>(aK (i:=1) ib.nd rfl (Or.inl rfl))) (fun _ _ _ _=>bg) (fun _ _ _ _=>(aA (qi T) (hr.mono (by decide)) rfl T.m_is_name T.F_is_name.kp T.b_is_name (ac (aC 1) ai))))))))
def b_is_rising:DE→Option Out :=
 (aw (un cV (aE [1,2] (mq (aa (var 0) (aa (bJ (ae 0) (cc (cst (.int 1))) noP) ag))) (dJ 2 (bh (nmG 1) (bh (nmG 2) dc))) noT (bin ltD (ae 1) (ae 2)))))
def g_is_rising:List D→Option D:=bF 1 3 b_is_rising
theorem mT (T:TX K mg):br P w K mg base CX0 2 T.f_is_rising T.fd_is_rising ["names"] (spD 1 g_is_rising) :=
 fnG (k:=1) (b:=b_is_rising) T.F_is_rising fc rfl rfl rfl rfl fun cdv A outer s H E hr =>
   (ap (aD (fG rfl rfl T.n_all rfl (Ev.obs (bV (js:=[1,2]) (Blk.of (sc:=ak fR) (N:=jn) (by decide +kernel) rfl rfl) rfl (sx rfl T.n_zip (ac (aC 0) (ac (cL (ao 0) (cP aj) eB) ai))) (hG.js (n_ (gy (jH (by decide)) (gy (jH (by decide)) oa)))) (fun _ _ _ _=>(kP rfl (cw (aK (i:=1) fc.nd rfl (Or.inl rfl)) (cw (aK (i:=2) fc.nd rfl (Or.inl rfl)) gD)))) (fun _ _ _ _=>bg) (fun _ _ _ _=>(CM  (ao 1) (ao 2))))))))
def b_is_speech_names:DE→Option Out :=
 (aw (bS (isF "tuple" (ae 0)) (bS (dI leD leD (cst (.int 1)) (un bx (ae 0)) (cst (.int 8))) (bS (al 1 g_are_names (aa (var 0) ag)) (al 1 g_is_rising (aa (var 0) ag))))))
def g_is_speech_names:List D→Option D:=bF 1 1 b_is_speech_names
theorem gX (T:TX K mg):br P w K mg base CX0 5 T.f_is_speech_names T.fd_is_speech_names ["thing"] (spD 1 g_is_speech_names) :=
 fnG (k:=4) (b:=b_is_speech_names) T.F_is_speech_names gU rfl rfl rfl rfl fun cdv A outer s H E hr =>
   (ap (aD (cE (bD (T := "tuple") rfl rfl T.n_isinstance rfl rfl T.n_tuple rfl (ao 0)) (cE (nk (Ev.obs aj) (Ev.obs (bf rfl T.n_len (ao 0))) (Ev.obs (nq (v:=.int 8) rfl T.m_SPEECH_NAMES ⟨_,rfl⟩ fun _=>.int _))) (cE (aA (ij T) (hr.mono (by decide)) rfl T.m_are_names T.F_are_names.kp T.b_are_names (ac (aC 0) ai)) (eJ (aA (mT T) (hr.mono (by decide)) rfl T.m_is_rising T.F_is_rising.kp T.b_is_rising (ac (aC 0) ai))))))))
def b_is_word:DE→Option Out :=
 (aw (al 2 g_is_letters (aa (var 0) (aa (cst (.int 12)) ag))))
def g_is_word:List D→Option D:=bF 1 1 b_is_word
theorem qg (T:TX K mg):br P w K mg base CX0 3 T.f_is_word T.fd_is_word ["thing"] (spD 1 g_is_word) :=
 fnG (k:=2) (b:=b_is_word) T.F_is_word pZ rfl rfl rfl rfl fun cdv A outer s H E hr =>
   (ap (aD (aA (gK T) (hr.mono (by decide)) rfl T.m_is_letters T.F_is_letters.kp T.b_is_letters (ac (aC 0) (ac (nq (v:=.int 12) rfl T.m_WORD_LETTERS ⟨_,rfl⟩ fun _=>.int _) ai)))))
def b_are_words:DE→Option Out :=
 (aw (un cV (aE [1] (bW aN (var 0)) (nmG 1) noT (al 1 g_is_word (aa (var 1) ag)))))
def g_are_words:List D→Option D:=bF 1 2 b_are_words
theorem mU (T:TX K mg):br P w K mg base CX0 4 T.f_are_words T.fd_are_words ["things"] (spD 1 g_are_words) :=
 fnG (k:=3) (b:=b_are_words) T.F_are_words h_ rfl rfl rfl rfl fun cdv A outer s H E hr =>
   (ap (aD (fG rfl rfl T.n_all rfl (Ev.obs (bV (js:=[1]) (Blk.of (sc:=ak fS) (N:=jo) (by decide +kernel) rfl rfl) rfl (b8 (aC 0)) bc (fun _ _ _ _=>(aK (i:=1) h_.nd rfl (Or.inl rfl))) (fun _ _ _ _=>bg) (fun _ _ _ _=>(aA (qg T) (hr.mono (by decide)) rfl T.m_is_word T.F_is_word.kp T.b_is_word (ac (aC 1) ai))))))))
def b_is_speech_words:DE→Option Out :=
 (aw (bS (isF "tuple" (ae 0)) (bS (bin gtD (un bx (ae 0)) (cst (.int 0))) (al 1 g_are_words (aa (var 0) ag)))))
def g_is_speech_words:List D→Option D:=bF 1 1 b_is_speech_words
theorem gW (T:TX K mg):br P w K mg base CX0 5 T.f_is_speech_words T.fd_is_speech_words ["thing"] (spD 1 g_is_speech_words) :=
 fnG (k:=4) (b:=b_is_speech_words) T.F_is_speech_words gT rfl rfl rfl rfl fun cdv A outer s H E hr =>
   (ap (aD (cE (bD (T := "tuple") rfl rfl T.n_isinstance rfl rfl T.n_tuple rfl (ao 0)) (cE (CO  (Ev.obs (bf rfl T.n_len (ao 0))) (Ev.obs aj)) (eJ (aA (mU T) (hr.mono (by decide)) rfl T.m_are_words T.F_are_words.kp T.b_are_words (ac (aC 0) ai)))))))
def b_is_speech:DE→Option Out :=
 (aw (bS (isF "tuple" (ae 0)) (bS (bin eqO (un bx (ae 0)) (cst (.int 2))) (bS (al 1 g_is_speech_names (aa (bin ixE (ae 0) (cst (.int 0))) ag)) (al 1 g_is_speech_words (aa (bin ixE (ae 0) (cst (.int 1))) ag))))))
def g_is_speech:List D→Option D:=bF 1 1 b_is_speech
theorem ii (T:TX K mg):br P w K mg base CX0 6 T.f_is_speech T.fd_is_speech ["thing"] (spD 1 g_is_speech) :=
 fnG (k:=5) (b:=b_is_speech) T.F_is_speech mJ rfl rfl rfl rfl fun cdv A outer s H E hr =>
   (ap (aD (cE (bD (T := "tuple") rfl rfl T.n_isinstance rfl rfl T.n_tuple rfl (ao 0)) (cE (l6 hr.units (Ev.obs (bf rfl T.n_len (ao 0))) (Ev.obs aj)) (cE (aA (gX T) (hr.mono (by decide)) rfl T.m_is_speech_names T.F_is_speech_names.kp T.b_is_speech_names (ac (aO hr.units (ao 0) (Ev.obs aj) (fun _ _=>rfl)) ai)) (eJ (aA (gW T) (hr.mono (by decide)) rfl T.m_is_speech_words T.F_is_speech_words.kp T.b_is_speech_words (ac (aO hr.units (ao 0) (Ev.obs aj) (fun _ _=>rfl)) ai))))))))
def b_speech_of:DE→Option Out :=
 (ay (ifS (orT (bq (tst (al 1 b6 (aa (var 0) ag)))) (orT (tst (bin neO (un bx (ae 0)) (cst (.int 2)))) (orT (bq (tst (al 1 b6 (aa (bin ixE (ae 0) (cst (.int 0))) ag)))) (bq (tst (al 1 b6 (aa (bin ixE (ae 0) (cst (.int 1))) ag)))))))
 (aw (cst .non))
 aQ)
 (ay (ifS (bq (tst (al 1 g_are_names (aa (bin ixE (ae 0) (cst (.int 0))) ag))))
 (aw (cst .non))
 aQ)
 (ay (aB 1 (bE (aa (un aW (un eM (bin ixE (ae 0) (cst (.int 0))))) (aa (un aW (bin ixE (ae 0) (cst (.int 1)))) ag))))
 (aw (ifV (tst (al 1 g_is_speech (aa (var 1) ag))) (var 1) (cst .non))))))
def bt:List D→Option D:=bF 1 2 b_speech_of
theorem ig (T:TX K mg):br P w K mg base CX0 7 T.f_speech_of T.fd_speech_of ["pair"] (spD 1 bt) :=
 fnG (k:=6) (b:=b_speech_of) T.F_speech_of hZ rfl rfl rfl rfl fun cdv A outer s H E hr =>
   (ah (bT (Ew.et (dC (cu (bG (aA (cY T) (hr.mono (by decide)) rfl T.m_is_series T.F_is_series.kp T.b_is_series (ac (aC 0) ai)))) (dC (pe hr.units (Ev.obs (bf rfl T.n_len (ao 0))) (Ev.obs aj)) (dC (cu (bG (aA (cY T) (hr.mono (by decide)) rfl T.m_is_series T.F_is_series.kp T.b_is_series (ac (aO hr.units (ao 0) (Ev.obs aj) (fun _ _=>rfl)) ai)))) (dG (cu (bG (aA (cY T) (hr.mono (by decide)) rfl T.m_is_series T.F_is_series.kp T.b_is_series (ac (aO hr.units (ao 0) (Ev.obs aj) (fun _ _=>rfl)) ai)))))))))
   (ap (aD fE))
   aR)
   (ah (bT (cu (bG (aA (ij T) (hr.mono (by decide)) rfl T.m_are_names T.F_are_names.kp T.b_are_names (ac (aO hr.units (ao 0) (Ev.obs aj) (fun _ _=>rfl)) ai))))
   (ap (aD fE))
   aR)
   (ah (aG (i:=1) hZ.nd rfl (Or.inl rfl) (bu (ac (bN rfl T.n_tuple rfl (Ev.obs (iw rfl rfl T.n_sorted rfl (Ev.obs (aO hr.units (ao 0) (Ev.obs aj) (fun _ _=>rfl)))))) (ac (bN rfl T.n_tuple rfl (Ev.obs (aO hr.units (ao 0) (Ev.obs aj) (fun _ _=>rfl)))) ai))))
   (ap (aD (CN (bG (aA (ii T) (hr.mono (by decide)) rfl T.m_is_speech T.F_is_speech.kp T.b_is_speech (ac (aC 1) ai))) (aC 1) fE))))))
def b_have_common:DE→Option Out :=
 (aw (un jy (aE [2] (bW aN (var 0)) (nmG 2) noT (bin inE (ae 2) (ae 1)))))
def g_have_common:List D→Option D:=bF 2 3 b_have_common
theorem d3 (T:TX K mg):br P w K mg base CX0 2 T.f_have_common T.fd_have_common ["names","others"] (spD 2 g_have_common) :=
 fnG (k:=1) (b:=b_have_common) T.F_have_common fQ rfl rfl rfl rfl fun cdv A outer s H E hr =>
   (ap (aD (qK rfl rfl T.n_any rfl (Ev.obs (bV (js:=[2]) (Blk.of (sc:=ak eG) (N:=gP) (by decide +kernel) rfl rfl) rfl (b8 (aC 0)) bc (fun _ _ _ _=>(aK (i:=2) fQ.nd rfl (Or.inl rfl))) (fun _ _ _ _=>bg) (fun _ _ _ _=>(qI hr.units (ao 2) (ao 1) rfl)))))))
def b_play_of:DE→Option Out :=
 (ay (ifS (bq (tst (al 1 b6 (aa (var 0) ag))))
 noS
 aQ)
 (ay (dF 1 (bB ag))
 (ay (aB 2 (bE ag))
 (ay (fD (jk (aa (var 0) ag)) (dJ 2 (bh (nmG 3) (bh (nmG 4) dc)))
 (ay (aB 5 (al 1 bt (aa (var 4) ag)))
 (ay (ifS (orT (tst (un dN (var 5))) (tst (al 2 g_have_common (aa (bin ixE (ae 5) (cst (.int 0))) (aa (var 2) ag)))))
 noS
 aQ)
 (ay (eK 1 (var 5))
 (aB 2 (bin ixE (ae 5) (cst (.int 0))))))))
 (aw (un aW (ae 1)))))))
def bC:List D→Option D:=bF 1 6 b_play_of
theorem fu (T:TX K mg):br P w K mg base CX0 8 T.f_play_of T.fd_play_of ["pairs"] (spD 1 bC) :=
 fnG (k:=7) (b:=b_play_of) T.F_play_of bn rfl rfl rfl rfl fun cdv A outer s H E hr =>
   (ah (bT (cu (bG (aA (cY T) (hr.mono (by decide)) rfl T.m_is_series T.F_is_series.kp T.b_is_series (ac (aC 0) ai))))
   (ap pf)
   aR)
   (ah (iZ (i:=1) bn.nd rfl (Or.inl rfl) (bv ai))
   (ah (aG (i:=2) bn.nd rfl (Or.inl rfl) (bu ai))
   (ah (i4 FT rfl (sy rfl T.n_enumerate (ac (aC 0) ai)) (kP rfl (cw (aK (i:=3) bn.nd rfl (Or.inl rfl)) (cw (aK (i:=4) bn.nd rfl (Or.inl rfl)) gD)))
   (ah (aG (i:=5) bn.nd rfl (Or.inl rfl) (aA (ig T) (hr.mono (by decide)) rfl T.m_speech_of T.F_speech_of.kp T.b_speech_of (ac (aC 4) ai)))
   (ah (bT (Ew.et (dC (nr (aC 5)) (dG (bG (aA (d3 T) (hr.mono (by decide)) rfl T.m_have_common T.F_have_common.kp T.b_have_common (ac (aO hr.units (ao 5) (Ev.obs aj) (fun _ _=>rfl)) (ac (aC 2) ai)))))))
   (ap pf)
   aR)
   (ah (eZ (i:=1) (pv 1) (aC 5))
   (ap (aG (i:=2) bn.nd rfl (Or.inl rfl) (aO hr.units (ao 5) (Ev.obs aj) (fun _ _=>rfl))))))))
   (ap (aD (bN rfl T.n_tuple rfl (ao 1))))))))
def cR:DE→Option cJ :=
 (eF (ifX (bq (tst (al 1 b6 (aa (var 0) ag))))
 (ft 0 "place" (cst (.int 0)))
 (okX aQ))
 (eF (okX (dF 1 (bB ag)))
 (eF (okX (aB 2 (bE ag)))
 (eF (wN (jk (aa (var 0) ag)) (dJ 2 (bh (nmG 3) (bh (nmG 4) dc)))
 (eF (okX (aB 5 (al 1 bt (aa (var 4) ag))))
 (eF (ifX (orT (tst (un dN (var 5))) (tst (al 2 g_have_common (aa (bin ixE (ae 5) (cst (.int 0))) (aa (var 2) ag)))))
 (ft 0 "place" (var 3))
 (okX aQ))
 (eF (okX (eK 1 (var 5)))
 (okX (aB 2 (bin ixE (ae 5) (cst (.int 0)))))))))
 (okX (aw (un aW (ae 1))))))))
theorem og (T:TX K mg):br P w K mg base (CX1 P w) 8 T.f_play_of T.fd_play_of ["pairs"] (zX (clN K) 1 (rC 1 6 cR)):=by
 obtain ⟨fdI,oi,bi⟩:=T.init (P:=P) (w:=w) (base:=base)
 exact Dw (k:=7) T.F_play_of bn fun cdv A outer s H E hr =>
   (dk (wY (cu (bG (aA (cY T) (hr.mono (by decide)) rfl T.m_is_series T.F_is_series.kp T.b_is_series (ac (aC 0) ai))))
   (gi (l8 rfl T.kd.er.q oi bi T.kd.er.fn (hr.mono (by decide)) rfl rfl T.kd.mx T.kd.er.kp aj))
   (sk aR))
   (dk (iY (iZ (i:=1) bn.nd rfl (Or.inl rfl) (bv ai)))
   (dk (iY (aG (i:=2) bn.nd rfl (Or.inl rfl) (bu ai)))
   (dk (y_ rfl rfl rfl (sy rfl T.n_enumerate (ac (aC 0) ai)) (kP rfl (cw (aK (i:=3) bn.nd rfl (Or.inl rfl)) (cw (aK (i:=4) bn.nd rfl (Or.inl rfl)) gD)))
   (dk (iY (aG (i:=5) bn.nd rfl (Or.inl rfl) (aA (ig T) (hr.mono (by decide)) rfl T.m_speech_of T.F_speech_of.kp T.b_speech_of (ac (aC 4) ai))))
   (dk (wY (Ew.et (dC (nr (aC 5)) (dG (bG (aA (d3 T) (hr.mono (by decide)) rfl T.m_have_common T.F_have_common.kp T.b_have_common (ac (aO hr.units (ao 5) (Ev.obs aj) (fun _ _=>rfl)) (ac (aC 2) ai)))))))
   (gi (l8 rfl T.kd.er.q oi bi T.kd.er.fn (hr.mono (by decide)) rfl rfl T.kd.mx T.kd.er.kp (aC 3)))
   (sk aR))
   (dk (iY (eZ (i:=1) (pv 1) (aC 5)))
   (gi (iY (aG (i:=2) bn.nd rfl (Or.inl rfl) (aO hr.units (ao 5) (Ev.obs aj) (fun _ _=>rfl)))))))))
   (gi (iY (aD (bN rfl T.n_tuple rfl (ao 1)))))))))
section
variable {P:Program}{w:World}{K:PySem.W.Frag}{mg:Str→Option Value}{base:Heap}
def d6:List D→Option (Option (Nat×List (Str×D))):=rC 1 6 cR
def f_ (a:Addr) (fs:List (Str×D)):DE→Option Out:=ay (aB 4 (bB (aa (xF 3 a (.bl false)) (aa (xF 3 a (.bl false)) ag))))
 (aB 1 (bE (aa (u3 3 a "place" fs) (aa (bin cv (ae 4) (bB (aa (xF 3 a (.bl false)) (aa (xF 3 a (.bl true)) (aa (xF 3 a (.bl true)) ag))))) ag))))
def b__Ltold:DE→Option Out:=ay (aB 1 (cst .non)) (ay (aB 2 (cst .non)) (ay (pW 0 3 (kW 1 bC d6 (fun d E=>.nx (E.set 2 (.val d))) (aa (var 0) ag)) f_) (aw (bE (aa (var 2) (aa (var 1) ag))))))
def cK:List D→Option D:=bF 1 5 b__Ltold
theorem lQ (T:TX K mg):br P w K mg base CX0 9 T.f__Ltold T.fd__Ltold ["_law_pairs"] (spD 1 cK):=by
 obtain ⟨cd,xc⟩:=T.kd.er.xc
 have ms:=T.kd.ms
 exact fnG (k:=8) (b:=b__Ltold) T.F__Ltold di rfl rfl rfl rfl fun cdv A outer s H E hr =>
  (ah (aG (i:=1) di.nd rfl (Or.inl rfl) fE)
  (ah (aG (i:=2) di.nd rfl (Or.inl rfl) fE)
  (ah (Br (n:=0) (cl:=clN K) (gi (wX (i:=2) (Dj (fu T) (og T)) (hr.mono (by decide)) rfl T.m_play_of T.F_play_of.kp T.b_play_of (ac (aC 0) ai) di.nd rfl (Or.inl rfl))) rfl rfl T.kd.er.q rfl T.kd.mx di.nd rfl rfl
   fun a dx oe od vs fs h1 h2 h3 h4 h5=>ah (aG (i:=4) di.nd rfl (Or.inl rfl) (Ev.frz (bv (ac
    (wU (as:=kA) h1 xc T.kd.er.cl rfl T.n_isinstance rfl (pv 3) (fun y hy=>ms y (EL _ (EL _ hy))) T.kd.ka) (ac
    (wU (as:=kB) h1 xc T.kd.er.cl rfl T.n_isinstance rfl (pv 3) (fun y hy=>ms y (EL _ (D4 _ hy))) T.kd.kb) ai)))))
    (ap (aG (i:=1) di.nd rfl (Or.inl rfl) (bu (ac (y0 h1 h2 h3 h4 xc T.kd.er.nf h5 (pv 3)) (ac (b4 (ao 4) (Ev.obs (bv (ac
     (ni h1 xc T.kd.er.cl rfl T.n_isinstance rfl (pv 3) (jF rfl (ms "Unknown" (by decide)) (v:=.ref (cj K "Unknown")) rfl) (fun u hu=>hu) T.kd.kc) (ac
     (ni h1 xc T.kd.er.cl rfl T.n_isinstance rfl (pv 3) (jF rfl (ms "CueError" (by decide)) (v:=.ref (cj K "CueError")) rfl) (fun u hu=>hu) T.kd.kd) (ac
     (ni h1 xc T.kd.er.cl rfl T.n_isinstance rfl (pv 3) (jG rfl T.n_ValueError rfl (v:=.ty "ValueError") rfl) (fun u hu=>hu) T.kd.kv) ai)))))) ai))))))
  (ap (aD (bu (ac (aC 2) (ac (aC 1) ai))))))))
end
def b__Lcopied (gIH:List D→Option D):DE→Option Out :=
 (ay (ifS (tst (isF "list" (ae 0)))
 (aw (aE [1] (bW aN (var 0)) (nmG 1) noT (al 1 gIH (aa (var 1) ag))))
 aQ)
 (ay (ifS (tst (isF "tuple" (ae 0)))
 (aw (un aW (aE [1] (bW aN (var 0)) (nmG 1) noT (al 1 gIH (aa (var 1) ag)))))
 aQ)
 (aw (var 0))))
def aY:Nat→List D→Option D
 | 0=>fun _=>none
 | k + 1=>bF 1 2 (b__Lcopied (aY k))
theorem ji (T:TX K mg):∀ k:Nat,br P w K mg base CX0 (2 + k) T.f__Lcopied T.fd__Lcopied ["_law_thing"] (spD 1 (aY k))
 | 0=>fnG (k:=1) (b:=noS) T.F__Lcopied ek rfl rfl rfl (by funext ds; unfold bF; split <;> rfl) fun cdv A outer s H E hr=>l9
 | k + 1=>fnG (k:=2 + k) (b:=b__Lcopied (aY k)) T.F__Lcopied ek rfl rfl (by omega) rfl fun cdv A outer s H E hr=>have IH:=ji T k
   (ah (bT (bG (bD (T := "list") rfl rfl T.n_isinstance rfl rfl T.n_list rfl (ao 0)))
   (ap (aD (Ev.frz (bV (js:=[1]) (Blk.of (sc:=ak fm) (N:=hJ) (by decide +kernel) rfl rfl) rfl (b8 (aC 0)) bc (fun _ _ _ _=>(aK (i:=1) ek.nd rfl (Or.inl rfl))) (fun _ _ _ _=>bg) (fun _ _ _ _=>(aA IH (hr.mono (by omega)) rfl T.m__Lcopied T.F__Lcopied.kp T.b__Lcopied (ac (aC 1) ai)))))))
   aR)
   (ah (bT (bG (bD (T := "tuple") rfl rfl T.n_isinstance rfl rfl T.n_tuple rfl (ao 0)))
   (ap (aD (bN rfl T.n_tuple rfl (Ev.obs (bV (js:=[1]) (Blk.of (sc:=ak fm) (N:=hJ) (by decide +kernel) rfl rfl) rfl (b8 (aC 0)) bc (fun _ _ _ _=>(aK (i:=1) ek.nd rfl (Or.inl rfl))) (fun _ _ _ _=>bg) (fun _ _ _ _=>(aA IH (hr.mono (by omega)) rfl T.m__Lcopied T.F__Lcopied.kp T.b__Lcopied (ac (aC 1) ai))))))))
   aR)
   (ap (aD (aC 0)))))
def b__Lsame (gIH:List D→Option D):DE→Option Out :=
 (ay (ifS (tst (isF "tuple" (ae 1)))
 (ay (ifS (orT (bq (tst (isF "tuple" (ae 0)))) (tst (bin neO (un bx (ae 0)) (un bx (ae 1)))))
 (aw (cst (.bl false)))
 aQ)
 (aw (un cV (aE [2] (eQ (aa (un bx (ae 1)) ag)) (nmG 2) noT (al 2 gIH (aa (bin ixE (ae 0) (ae 2)) (aa (bin ixE (ae 1) (ae 2)) ag)))))))
 aQ)
 (ay (ifS (tst (isF "str" (ae 1)))
 (aw (bS (isF "str" (ae 0)) (bin eqO (ae 0) (ae 1))))
 aQ)
 (aw (bS (isF "int" (ae 0)) (bS (kn (isF "bool" (ae 0))) (bin eqO (ae 0) (ae 1)))))))
def g__Lsame:Nat→List D→Option D
 | 0=>fun _=>none
 | k + 1=>bF 2 3 (b__Lsame (g__Lsame k))
theorem eS (T:TX K mg):∀ k:Nat,br P w K mg base CX0 (2 + k) T.f__Lsame T.fd__Lsame ["_law_found","_law_due"] (spD 2 (g__Lsame k))
 | 0=>fnG (k:=1) (b:=noS) T.F__Lsame iQ rfl rfl rfl (by funext ds; unfold bF; split <;> rfl) fun cdv A outer s H E hr=>l9
 | k + 1=>fnG (k:=2 + k) (b:=b__Lsame (g__Lsame k)) T.F__Lsame iQ rfl rfl (by omega) rfl fun cdv A outer s H E hr=>have IH:=eS T k
   (ah (bT (bG (bD (T := "tuple") rfl rfl T.n_isinstance rfl rfl T.n_tuple rfl (ao 1)))
   (ah (bT (Ew.et (dC (cu (bG (bD (T := "tuple") rfl rfl T.n_isinstance rfl rfl T.n_tuple rfl (ao 0)))) (dG (pe hr.units (Ev.obs (bf rfl T.n_len (ao 0))) (Ev.obs (bf rfl T.n_len (ao 1)))))))
   (ap (aD cD))
   aR)
   (ap (aD (fG rfl rfl T.n_all rfl (Ev.obs (bV (js:=[2]) (Blk.of (sc:=ak j9) (N:=pN) (by decide +kernel) rfl rfl) rfl (dm rfl T.n_range (ac (bf rfl T.n_len (ao 1)) ai)) bc (fun _ _ _ _=>(aK (i:=2) iQ.nd rfl (Or.inl rfl))) (fun _ _ _ _=>bg) (fun _ _ _ _=>(aA IH (hr.mono (by omega)) rfl T.m__Lsame T.F__Lsame.kp T.b__Lsame (ac (aO hr.units (ao 0) (ao 2) (fun _ _=>rfl)) (ac (aO hr.units (ao 1) (ao 2) (fun _ _=>rfl)) ai))))))))))
   aR)
   (ah (bT (bG (bD (T := "str") rfl rfl T.n_isinstance rfl rfl T.n_str rfl (ao 1)))
   (ap (aD (cE (bD (T := "str") rfl rfl T.n_isinstance rfl rfl T.n_str rfl (ao 0)) (eJ (l6 hr.units (ao 0) (ao 1))))))
   aR)
   (ap (aD (cE (bD (T := "int") rfl rfl T.n_isinstance rfl rfl T.n_int rfl (ao 0)) (cE (qH (bD (T := "bool") rfl rfl T.n_isinstance rfl rfl T.n_bool rfl (ao 0))) (eJ (l6 hr.units (ao 0) (ao 1)))))))))
def b__Ltruth:DE→Option Out :=
 (aw (bS (isF "bool" (ae 0)) (bin eqO (ae 0) (ae 1))))
def gC:List D→Option D:=bF 2 2 b__Ltruth
theorem qj (T:TX K mg):br P w K mg base CX0 2 T.f__Ltruth T.fd__Ltruth ["_law_found","_law_due"] (spD 2 gC) :=
 fnG (k:=1) (b:=b__Ltruth) T.F__Ltruth p5 rfl rfl rfl rfl fun cdv A outer s H E hr =>
   (ap (aD (cE (bD (T := "bool") rfl rfl T.n_isinstance rfl rfl T.n_bool rfl (ao 0)) (eJ (l6 hr.units (ao 0) (ao 1))))))
def b_is_play:DE→Option Out :=
 (ay (ifS (orT (bq (tst (isF "tuple" (ae 0)))) (bq (tst (un cV (aE [1] (bW aN (var 0)) (nmG 1) noT (al 1 g_is_speech (aa (var 1) ag)))))))
 (aw (cst (.bl false)))
 aQ)
 (aw (kn (un jy (aE [2,3] (mq (aa (var 0) (aa (bJ (ae 0) (cc (cst (.int 1))) noP) ag))) (dJ 2 (bh (nmG 2) (bh (nmG 3) dc))) noT (al 2 g_have_common (aa (bin ixE (ae 2) (cst (.int 0))) (aa (bin ixE (ae 3) (cst (.int 0))) ag))))))))
def g_is_play:List D→Option D:=bF 1 4 b_is_play
theorem qh (T:TX K mg):br P w K mg base CX0 7 T.f_is_play T.fd_is_play ["thing"] (spD 1 g_is_play) :=
 fnG (k:=6) (b:=b_is_play) T.F_is_play ff rfl rfl rfl rfl fun cdv A outer s H E hr =>
   (ah (bT (Ew.et (dC (cu (bG (bD (T := "tuple") rfl rfl T.n_isinstance rfl rfl T.n_tuple rfl (ao 0)))) (dG (cu (bG (fG rfl rfl T.n_all rfl (Ev.obs (bV (js:=[1]) (Blk.of (sc:=ak gu) (N:=i9) (by decide +kernel) rfl rfl) rfl (b8 (aC 0)) bc (fun _ _ _ _=>(aK (i:=1) ff.nd rfl (Or.inl rfl))) (fun _ _ _ _=>bg) (fun _ _ _ _=>(aA (ii T) (hr.mono (by decide)) rfl T.m_is_speech T.F_is_speech.kp T.b_is_speech (ac (aC 1) ai)))))))))))
   (ap (aD cD))
   aR)
   (ap (aD (qH (qK rfl rfl T.n_any rfl (Ev.obs (bV (js:=[2,3]) (Blk.of (sc:=ak gu) (N:=i9) (by decide +kernel) rfl rfl) rfl (sx rfl T.n_zip (ac (aC 0) (ac (cL (ao 0) (cP aj) eB) ai))) (hG.js (n_ (gy (jH (by decide)) (gy (jH (by decide)) oa)))) (fun _ _ _ _=>(kP rfl (cw (aK (i:=2) ff.nd rfl (Or.inl rfl)) (cw (aK (i:=3) ff.nd rfl (Or.inl rfl)) gD)))) (fun _ _ _ _=>bg) (fun _ _ _ _=>(aA (d3 T) (hr.mono (by decide)) rfl T.m_have_common T.F_have_common.kp T.b_have_common (ac (aO hr.units (ao 2) (Ev.obs aj) (fun _ _=>rfl)) (ac (aO hr.units (ao 3) (Ev.obs aj) (fun _ _=>rfl)) ai)))))))))))
def b__Lagain:DE→Option Out :=
 (ay (ifS (bq (tst (al 2 (g__Lsame 6) (aa (al 1 bC (aa (bB (aa (bE (aa (var 2) (aa (var 3) ag))) ag)) ag)) (aa (bE (aa (bE (aa (un aW (un eM (ae 2))) (aa (un aW (ae 3)) ag))) ag)) ag)))))
 (aw (cst (.bl false)))
 aQ)
 (aw (bS (al 2 (g__Lsame 6) (aa (al 1 bC (aa (un aW (ae 0)) ag)) (aa (var 1) ag))) (al 2 (g__Lsame 6) (aa (al 1 bC (aa (var 1) ag)) (aa (var 1) ag))))))
def eV:List D→Option D:=bF 4 4 b__Lagain
theorem qk (T:TX K mg):br P w K mg base CX0 9 T.f__Lagain T.fd__Lagain ["_law_pairs","_law_due","_law_names","_law_words"] (spD 4 eV) :=
 fnG (k:=8) (b:=b__Lagain) T.F__Lagain p7 rfl rfl rfl rfl fun cdv A outer s H E hr =>
   (ah (bT (cu (bG (aA (eS T 6) (hr.mono (by decide)) rfl T.m__Lsame T.F__Lsame.kp T.b__Lsame (ac (aA (fu T) (hr.mono (by decide)) rfl T.m_play_of T.F_play_of.kp T.b_play_of (ac (Ev.frz (bv (ac (bu (ac (aC 2) (ac (aC 3) ai))) ai))) ai)) (ac (bu (ac (bu (ac (bN rfl T.n_tuple rfl (Ev.obs (iw rfl rfl T.n_sorted rfl (ao 2)))) (ac (bN rfl T.n_tuple rfl (ao 3)) ai))) ai)) ai)))))
   (ap (aD cD))
   aR)
   (ap (aD (cE (aA (eS T 6) (hr.mono (by decide)) rfl T.m__Lsame T.F__Lsame.kp T.b__Lsame (ac (aA (fu T) (hr.mono (by decide)) rfl T.m_play_of T.F_play_of.kp T.b_play_of (ac (bN rfl T.n_tuple rfl (ao 0)) ai)) (ac (aC 1) ai))) (eJ (aA (eS T 6) (hr.mono (by decide)) rfl T.m__Lsame T.F__Lsame.kp T.b__Lsame (ac (aA (fu T) (hr.mono (by decide)) rfl T.m_play_of T.F_play_of.kp T.b_play_of (ac (aC 1) ai)) (ac (aC 1) ai))))))))
def xv:DE→Option Out :=
 (ay (aB 1 (al 2 g__Lcell (aa (var 0) (aa (cst (.int 0)) ag))))
 (ay (aB 2 (al 3 g__Ltexts (aa (al 2 g__Lcell (aa (var 0) (aa (cst (.int 1)) ag))) (aa (bin cv (cst (.int 2)) (bin ci (ae 1) (cst (.int 7)))) (aa (cst (.int 8)) ag)))))
 (ay (aB 3 (al 3 g__Ltexts (aa (bin bM (ae 1) (cst (.int 100))) (aa (bin cv (cst (.int 1)) (bin ci (bin bM (ae 1) (cst (.int 4))) (cst (.int 4)))) (aa (cst (.int 12)) ag)))))
 (ay (aB 4 (al 3 g__Lplay (aa (bJ (ae 0) (cc (cst (.int 2))) (cc (cst (.int 42)))) (aa (var 2) (aa (var 3) ag)))))
 (ay (aB 5 (bin ixE (bB (aa (cst (.int 1)) (aa (cst (.int (-1))) ag))) (bin ci (bin bM (ae 1) (cst (.int 16))) (cst (.int 2)))))
 (ay (dF 6 (aE [15] (bW aN (var 4)) (nmG 15) noT (bE (aa (bin lx (un eT (bin ixE (ae 15) (cst (.int 0)))) (var 5)) (aa (un eT (bin ixE (ae 15) (cst (.int 1)))) ag)))))
 (ay (ifS (tst (bin eqO (bin ci (bin bM (ae 1) (cst (.int 32))) (cst (.int 2))) (cst (.int 1))))
 (fun E=>(dF 6 (aE [15] (bW aN (var 6)) (nmG 15) noT (bB (aa (un aW (bin ixE (ae 15) (cst (.int 0)))) (aa (un aW (bin ixE (ae 15) (cst (.int 1)))) ag))))) (fzE 6 E))
 aQ)
 (ay (aB 1 (bin bM (ae 1) (bin n5 (cst (.int 10)) (cst (.int 40)))))
 (ay (ifS (kY (tst (bin gtD (bin ci (ae 1) (cst (.int 3))) (cst (.int 0)))) (tst (bin neO (ae 6) (bB ag))))
 (ay (aB 7 (bin ci (bin bM (ae 1) (cst (.int 3))) (un bx (ae 6))))
 (ay (aB 8 (bE ag))
 (ay (ifS (tst (bin gtD (ae 7) (cst (.int 0))))
 (aB 8 (bin ixE (bin ixE (ae 4) (bin xS (ae 7) (cst (.int 1)))) (cst (.int 0))))
 aQ)
 (ay (kg 6 (var 7) (al 3 cQ (aa (bin ixE (ae 4) (ae 7)) (aa (var 8) (aa (bin bM (ae 1) (cst (.int 180))) ag)))))
 (ifS (tst (bin eqO (bin ci (bin bM (ae 1) (cst (.int 9))) (cst (.int 2))) (cst (.int 1))))
 (ay (aB 7 (bin ci (bin cv (bin cv (ae 7) (cst (.int 1))) (bin ci (bin bM (ae 1) (bin n5 (cst (.int 10)) (cst (.int 9)))) (un bx (ae 6)))) (un bx (ae 6))))
 (kg 6 (var 7) (al 3 cQ (aa (bin ixE (ae 4) (ae 7)) (aa (bE ag) (aa (bin bM (ae 1) (bin n5 (cst (.int 10)) (cst (.int 12)))) ag))))))
 aQ)))))
 aQ)
 (ay (aB 9 (cst .non))
 (ay (aB 8 (bE ag))
 (ay (fD (eQ (aa (un bx (ae 6)) ag)) (nmG 10)
 (ay (ifS (kY (tst (un dN (var 9))) (bq (tst (al 2 b7 (aa (bin ixE (ae 6) (ae 10)) (aa (var 8) ag))))))
 (aB 9 (var 10))
 aQ)
 (ifS (tst (un dN (var 9)))
 (aB 8 (bin ixE (bin ixE (ae 6) (ae 10)) (cst (.int 0))))
 aQ)))
 (ay (ifS (tst (bin neO (bin ixE (al 1 cK (aa (bin ixE (bB (aa (cst (.str "nothing")) (aa (cst .non) (aa (cst (.int 5)) (aa uD ag))))) (bin ci (bin bM (ae 1) (cst (.int 4))) (cst (.int 4)))) ag)) (cst (.int 1))) (bE (aa (cst (.int 0)) (aa (bB (aa (cst (.bl false)) (aa (cst (.bl false)) (aa (cst (.bl false)) (aa (cst (.bl true)) (aa (cst (.bl true)) ag)))))) ag)))))
 (aw (cst (.bl false)))
 aQ)
 (ay (fun E=>(aB 11 (al 1 (aY 6) (aa (var 6) ag))) (fzE 6 E))
 (ay (fun E=>(cA (al 1 cK (aa (var 6) ag)) (dJ 2 (bh (nmG 12) (bh (nmG 13) dc)))) (fzE 6 E))
 (ay (ifS (tst (bin neL (ae 6) (ae 11)))
 (aw (cst (.bl false)))
 aQ)
 (ay (ifS (tst (un dz (var 9)))
 (aw (bS (un dN (var 12)) (bin eqO (ae 13) (bE (aa (var 9) (aa (bB (aa (cst (.bl false)) (aa (cst (.bl false)) (aa (cst (.bl false)) (aa (cst (.bl true)) (aa (cst (.bl true)) ag)))))) ag))))))
 aQ)
 (ay (fun E=>(aB 14 (un aW (aE [15] (bW aN (var 6)) (nmG 15) noT (bE (aa (un aW (un eM (bin ixE (ae 15) (cst (.int 0))))) (aa (un aW (bin ixE (ae 15) (cst (.int 1)))) ag)))))) (fzE 6 E))
 (ay (ifS (orT (tst (un dz (var 13))) (orT (bq (tst (al 2 (g__Lsame 6) (aa (var 12) (aa (var 14) ag))))) (bq (tst (al 2 gC (aa (al 1 g_is_play (aa (var 12) ag)) (aa (cst (.bl true)) ag)))))))
 (aw (cst (.bl false)))
 aQ)
 (fun E=>(aw (al 4 eV (aa (var 6) (aa (var 14) (aa (bin lx (ae 2) (var 5)) (aa (var 3) ag)))))) (fzE 6 E)))))))))))))))))))))
def o_:List D→Option D:=bF 1 16 xv
theorem AU (T:TX K mg):br P w K mg base CX0 10 T.f_law T.fd_law ["_law_script"] (spD 1 o_) :=
 fnG (k:=9) (b:=xv) T.F_law bK rfl rfl rfl rfl fun cdv A outer s H E hr =>
   (ah (aG (i:=1) bK.nd rfl (Or.inl rfl) (aA (lR T) (hr.mono (by decide)) rfl T.m__Lcell T.F__Lcell.kp T.b__Lcell (ac (aC 0) (ac aj ai))))
   (ah (aG (i:=2) bK.nd rfl (Or.inl rfl) (aA (kj T) (hr.mono (by decide)) rfl T.m__Ltexts T.F__Ltexts.kp T.b__Ltexts (ac (aA (lR T) (hr.mono (by decide)) rfl T.m__Lcell T.F__Lcell.kp T.b__Lcell (ac (aC 0) (ac aj ai))) (ac (b4 (Ev.obs aj) (Ev.obs (bQ (ao 1) (Ev.obs aj)))) (ac aj ai)))))
   (ah (aG (i:=3) bK.nd rfl (Or.inl rfl) (aA (kj T) (hr.mono (by decide)) rfl T.m__Ltexts T.F__Ltexts.kp T.b__Ltexts (ac (bI (ao 1) (Ev.obs aj)) (ac (b4 (Ev.obs aj) (Ev.obs (bQ (Ev.obs (bI (ao 1) (Ev.obs aj))) (Ev.obs aj)))) (ac aj ai)))))
   (ah (aG (i:=4) bK.nd rfl (Or.inl rfl) (aA (tV T) (hr.mono (by decide)) rfl T.m__Lplay T.F__Lplay.kp T.b__Lplay (ac (cL (ao 0) (cP aj) (cP aj)) (ac (aC 2) (ac (aC 3) ai)))))
   (ah (aG (i:=5) bK.nd rfl (Or.inr rfl) (aO hr.units (Ev.obs (bv (ac aj (ac Bo ai)))) (Ev.obs (bQ (Ev.obs (bI (ao 1) (Ev.obs aj))) (Ev.obs aj))) (fun _ _=>rfl)))
   (ah (sv (i:=6) bK.nd rfl (Or.inl rfl) (js:=[15]) (Blk.of (sc:=ak nS) (N:=sO) (by decide +kernel) rfl rfl) rfl (b8 (aC 4)) bc (fun _ _ _ _=>(aK (i:=15) bK.nd rfl (Or.inl rfl))) (fun _ _ _ _=>bg) (fun _ _ _ _=>(bu (ac (sg (Ev.obs (ix rfl T.n_list rfl (Ev.obs (aO hr.units (ao 15) (Ev.obs aj) (fun _ _=>rfl))))) (aC 5)) (ac (Ev.frz (ix rfl T.n_list rfl (Ev.obs (aO hr.units (ao 15) (Ev.obs aj) (fun _ _=>rfl))))) ai)))) rfl)
   (ah (bT (kL hr.units (Ev.obs (bQ (Ev.obs (bI (ao 1) (Ev.obs aj))) (Ev.obs aj))) (Ev.obs aj))
   (ap (ph 6 (sv (i:=6) bK.nd rfl (Or.inl rfl) (js:=[15]) (Blk.of (sc:=ak nS) (N:=sO) (by decide +kernel) rfl rfl) rfl (b8 (aC 6)) bc (fun _ _ _ _=>(aK (i:=15) bK.nd rfl (Or.inl rfl))) (fun _ _ _ _=>bg) (fun _ _ _ _=>(Ev.frz (bv (ac (bN rfl T.n_tuple rfl (Ev.obs (aO hr.units (ao 15) (Ev.obs aj) (fun _ _=>rfl)))) (ac (bN rfl T.n_tuple rfl (Ev.obs (aO hr.units (ao 15) (Ev.obs aj) (fun _ _=>rfl)))) ai))))) rfl)))
   aR)
   (ah (aG (i:=1) bK.nd rfl (Or.inl rfl) (bI (ao 1) (Ev.obs (nj (Ev.obs aj) (Ev.obs aj)))))
   (ah (bT (Ew.et (wT (sj  (Ev.obs (bQ (ao 1) (Ev.obs aj))) (Ev.obs aj)) (sf (pe hr.units (ao 6) (Ev.obs (bv ai))))))
   (ah (aG (i:=7) bK.nd rfl (Or.inl rfl) (bQ (Ev.obs (bI (ao 1) (Ev.obs aj))) (Ev.obs (bf rfl T.n_len (ao 6)))))
   (ah (aG (i:=8) bK.nd rfl (Or.inl rfl) (bu ai))
   (ah (bT (sj  (ao 7) (Ev.obs aj))
   (ap (aG (i:=8) bK.nd rfl (Or.inl rfl) (aO hr.units (Ev.obs (aO hr.units (ao 4) (Ev.obs (Bn (ao 7) (Ev.obs aj))) (fun _ _=>rfl))) (Ev.obs aj) (fun _ _=>rfl))))
   aR)
   (ah (su (i:=6) (pv 6) (aC 7) (aA (jh T) (hr.mono (by decide)) rfl T.m__Lspoilt T.F__Lspoilt.kp T.b__Lspoilt (ac (aO hr.units (ao 4) (ao 7) (fun _ _=>rfl)) (ac (aC 8) (ac (bI (ao 1) (Ev.obs aj)) ai)))))
   (ap (bT (kL hr.units (Ev.obs (bQ (Ev.obs (bI (ao 1) (Ev.obs aj))) (Ev.obs aj))) (Ev.obs aj))
   (ah (aG (i:=7) bK.nd rfl (Or.inl rfl) (bQ (Ev.obs (b4 (Ev.obs (b4 (ao 7) (Ev.obs aj))) (Ev.obs (bQ (Ev.obs (bI (ao 1) (Ev.obs (nj (Ev.obs aj) (Ev.obs aj))))) (Ev.obs (bf rfl T.n_len (ao 6))))))) (Ev.obs (bf rfl T.n_len (ao 6)))))
   (ap (su (i:=6) (pv 6) (aC 7) (aA (jh T) (hr.mono (by decide)) rfl T.m__Lspoilt T.F__Lspoilt.kp T.b__Lspoilt (ac (aO hr.units (ao 4) (ao 7) (fun _ _=>rfl)) (ac (bu ai) (ac (bI (ao 1) (Ev.obs (nj (Ev.obs aj) (Ev.obs aj)))) ai)))))))
   aR))))))
   aR)
   (ah (aG (i:=9) bK.nd rfl (Or.inl rfl) fE)
   (ah (aG (i:=8) bK.nd rfl (Or.inl rfl) (bu ai))
   (ah (i4 FT rfl (dm rfl T.n_range (ac (bf rfl T.n_len (ao 6)) ai)) (aK (i:=10) bK.nd rfl (Or.inl rfl))
   (ah (bT (Ew.et (wT (nr (aC 9)) (sf (cu (bG (aA (mV T) (hr.mono (by decide)) rfl T.m__Lis_pair T.F__Lis_pair.kp T.b__Lis_pair (ac (aO hr.units (ao 6) (ao 10) (fun _ _=>rfl)) (ac (aC 8) ai))))))))
   (ap (aG (i:=9) bK.nd rfl (Or.inl rfl) (aC 10)))
   aR)
   (ap (bT (nr (aC 9))
   (ap (aG (i:=8) bK.nd rfl (Or.inl rfl) (aO hr.units (Ev.obs (aO hr.units (ao 6) (ao 10) (fun _ _=>rfl))) (Ev.obs aj) (fun _ _=>rfl))))
   aR))))
   (ah (bT (pe hr.units (Ev.obs (aO hr.units (Ev.obs (aA (lQ T) (hr.mono (by decide)) rfl T.m__Ltold T.F__Ltold.kp T.b__Ltold (ac (aO hr.units (Ev.obs (bv (ac bZ (ac fE (ac aj (ac (Ev.frz y8) ai)))))) (Ev.obs (bQ (Ev.obs (bI (ao 1) (Ev.obs aj))) (Ev.obs aj))) (fun _ _=>rfl)) ai))) (Ev.obs aj) (fun _ _=>rfl))) (Ev.obs (bu (ac aj (ac (Ev.frz (bv (ac cD (ac cD (ac cD (ac cD (ac cD ai))))))) ai)))))
   (ap (aD cD))
   aR)
   (ah (ph 6 (aG (i:=11) bK.nd rfl (Or.inl rfl) (aA (ji T 6) (hr.mono (by decide)) rfl T.m__Lcopied T.F__Lcopied.kp T.b__Lcopied (ac (aC 6) ai))))
   (ah (ph 6 (l_ (aA (lQ T) (hr.mono (by decide)) rfl T.m__Ltold T.F__Ltold.kp T.b__Ltold (ac (aC 6) ai)) (kP rfl (cw (aK (i:=12) bK.nd rfl (Or.inl rfl)) (cw (aK (i:=13) bK.nd rfl (Or.inl rfl)) gD)))))
   (ah (bT (Bq hr.units (ao 6) (ao 11))
   (ap (aD cD))
   aR)
   (ah (bT (l7 (aC 9))
   (ap (aD (cE (Bp (aC 12)) (eJ (l6 hr.units (ao 13) (Ev.obs (bu (ac (aC 9) (ac (Ev.frz (bv (ac cD (ac cD (ac cD (ac cD (ac cD ai))))))) ai)))))))))
   aR)
   (ah (ph 6 (aG (i:=14) bK.nd rfl (Or.inl rfl) (bN rfl T.n_tuple rfl (Ev.obs (bV (js:=[15]) (Blk.of (sc:=ak nS) (N:=sO) (by decide +kernel) rfl rfl) rfl (b8 (aC 6)) bc (fun _ _ _ _=>(aK (i:=15) bK.nd rfl (Or.inl rfl))) (fun _ _ _ _=>bg) (fun _ _ _ _=>(bu (ac (bN rfl T.n_tuple rfl (Ev.obs (iw rfl rfl T.n_sorted rfl (Ev.obs (aO hr.units (ao 15) (Ev.obs aj) (fun _ _=>rfl)))))) (ac (bN rfl T.n_tuple rfl (Ev.obs (aO hr.units (ao 15) (Ev.obs aj) (fun _ _=>rfl)))) ai)))))))))
   (ah (bT (Ew.et (dC (l7 (aC 13)) (dC (cu (bG (aA (eS T 6) (hr.mono (by decide)) rfl T.m__Lsame T.F__Lsame.kp T.b__Lsame (ac (aC 12) (ac (aC 14) ai))))) (dG (cu (bG (aA (qj T) (hr.mono (by decide)) rfl T.m__Ltruth T.F__Ltruth.kp T.b__Ltruth (ac (aA (qh T) (hr.mono (by decide)) rfl T.m_is_play T.F_is_play.kp T.b_is_play (ac (aC 12) ai)) (ac cD ai)))))))))
   (ap (aD cD))
   aR)
   (ap (ph 6 (aD (aA (qk T) (hr.mono (by decide)) rfl T.m__Lagain T.F__Lagain.kp T.b__Lagain (ac (aC 6) (ac (aC 14) (ac (sg (ao 2) (aC 5)) (ac (aC 3) ai)))))))))))))))))))))))))))
end
end L2.Cu.Wk
namespace L2.Cu
open PySem PySem.Spec PyProof.Rows
def sr (t:Bool) (xs:List D):D:=if t=true then .tup xs else .lst xs
def gN (d:D):Bool:=bX (tyN d) "list" || bX (tyN d) "tuple"
theorem dY (t:Bool) (xs:List D):gN (sr t xs)=true:=by cases t <;> rfl
theorem jJ (t:Bool) (xs:List D):bx (sr t xs)=some (.int xs.length):=by cases t <;> rfl
theorem g7 (t:Bool) (xs:List D) (i:Int):ixE (sr t xs) (.int i)=atI xs i:=by cases t <;> rfl
theorem iW (t:Bool) (xs:List D):aN (sr t xs)=some xs:=by cases t <;> rfl
theorem eN (t:Bool) (xs:List D):eO (sr t xs)=some xs:=by cases t <;> rfl
theorem iO (t:Bool) (xs:List D):aW (sr t xs)=some (.tup xs):=by cases t <;> rfl
theorem jZ (t:Bool) {ss:List Str} (h:ss.length < 64):eM (sr t (ss.map D.str))=some (.lst ((bb ss).map D.str)):=by cases t <;> exact lD h
theorem Bj (t:Bool) {x:Str}{ss:List Str}:inE (.str x) (sr t (ss.map D.str))=some (.bl (decide (x ∈ ss))):=by cases t <;> exact r8
theorem fA (t:Bool) (a b:D):bx (sr t [a,b])=some (.int 2):=by cases t <;> rfl
theorem at0 (a b:D):atI [a,b] 0=some a:=rfl
theorem at1 (a b:D):atI [a,b] 1=some b:=rfl
theorem mH {d:D} (h:gN d=false):eO d=none:=by cases d <;> first | rfl | cases h
def SmQ (P:D→Prop) (d:D):Prop:=gN d=false∨∃ t xs,d=sr t xs∧xs.length≤60∧∀ x ∈ xs,P x
abbrev SmP:=SmQ (SmQ Sh.SmS)
def df (ns ws:List D):Bool:=ns.all (isL 8) && (o6 (.tup ((bb (cb ns)).map D.str)) && o3 (.tup ws))
def bw (d:D):Option Sp:=match eO d with
 | some [a,b]=>match eO a with
  | some ns=>match eO b with
   | some ws=>if df ns ws=true then some (bb (cb ns),cb ws) else none
   | none=>none
  | none=>none
 | _=>none
theorem fO {t:Bool}{xs:List D} (h:xs.length ≠ 2):bw (sr t xs)=none:=by
 unfold bw
 rw [eN]
 match xs,h with
 | [],_=>rfl
 | [_],_=>rfl
 | [_,_],h=>exact absurd rfl h
 | _ :: _ :: _ :: _,_=>rfl
theorem jY {t:Bool}{a b:D} (h:gN a=false):bw (sr t [a,b])=none:=by
 unfold bw
 rw [eN]
 simp only [mH h]
theorem jX {t:Bool}{a b:D} (h:gN b=false):bw (sr t [a,b])=none:=by
 unfold bw
 rw [eN]
 simp only [mH h]
 cases eO a <;> rfl
theorem eh {t t1 t2:Bool}{ns ws:List D}:bw (sr t [sr t1 ns,sr t2 ws])=if df ns ws=true then some (bb (cb ns),cb ws) else none:=by
 unfold bw
 rw [eN]
 simp only [eN]
theorem fN {d:D} (h:gN d=false):bw d=none:=by
 unfold bw
 rw [mH h]
theorem two {xs:List D} (h:xs.length=2):∃ a b,xs=[a,b]:=by
 match xs,h with
 | [a,b],_=>exact ⟨a,b,rfl⟩
def gG (d:D):D:=match bw d with
 | some s=>bH s
 | none=>.non
namespace Wk
theorem zc:g_are_names=Sh.g_are_names:=rfl
theorem xi:g_is_speech=Sh.g_is_speech:=rfl
theorem xj:g_have_common=Sh.g_have_common:=rfl
theorem qP:g__Llettered=Sh.g__Llettered:=rfl
theorem cz (d:D):b6 [d]=some (.bl (gN d)):=rfl
theorem qS (t:Bool) {ds:List D} (hl:ds.length≤1000) (hd:∀ d ∈ ds,Sh.SmS d):g_are_names [sr t ds]=some (.bl (ds.all (isL 8))):=by
 cases t with
 | true=>exact Sh.iF hl hd
 | false =>
  show g_are_names [.lst ds]=_
  have hc:bO (nmG 1) noT (al 1 Sh.g_is_name (aa (var 1) ag)) [Sl.val (D.lst ds),Sl.no] ds=some (ds.map fun d=>D.bl (isL 8 d)):=by
   have:=bp (fun d:D=>d) (fun d=>D.bl (isL 8 d)) (i:=1) (ef:=al 1 Sh.g_is_name (aa (var 1) ag)) (E:=[Sl.val (D.lst ds),Sl.no]) ds fun d hd'=>by
    refine aJ ?_
    simp only [af,var,al,aa,ag,DC,DF,DI,DJ,DG,DH,on,DD,reduceIte,Nat.reduceAdd,Sh.kE (hd d hd')]
   rwa [Fo] at this
  have hs:ds.length≤16777216:=by omega
  rw [zc]
  refine aJ ?_
  simp only [Sh.g_are_names,Sh.b_are_names,af,az,aq,aw,un,var,bW,aU,aE,cV,aN,DC,DF,DK,DL,DM,DN,DI,DJ,DG,DH,on,List.replicate,DO,Eb,reduceIte,Nat.reduceAdd,Nat.reduceSub,D.bl.injEq,bj,hs,hc,bU,Fe]
  rfl
theorem rz {ss:List Str}{ws:List D} (h:(ss.map D.str).all (isL 8)=true):fZ (.tup [.tup ((bb ss).map D.str),.tup ws])=df (ss.map D.str) ws:=by
 show (o6 _ && o3 _)=_
 unfold df
 rw [h,ca]; rfl
theorem dL {d:D} (h:SmP d):bt [d]=some (gG d):=by
 rcases h with h | ⟨t,xs,rfl,hl,hx⟩
 ·refine aJ ?_
  simp only [bt,b_speech_of,af,az,ax,aV,aq,aS,aF,aw,bin,un,cst,var,ae,tst,asB,bq,orT,al,aa,ag,DC,DF,DK,DL,DM,DN,DI,DJ,on,List.replicate,reduceIte,Nat.reduceAdd,Nat.reduceSub,Eh,cz,h]
  unfold gG
  rw [fN h]
 ·by_cases h2:xs.length=2
  ·obtain ⟨a,b,rfl⟩:=two h2
   rcases hx a (by simp) with h3 | ⟨t1,ns,rfl,hln,hns⟩
   ·refine aJ ?_
    simp only [bt,b_speech_of,af,az,ax,aV,aq,aS,aF,aw,bin,un,cst,var,ae,tst,asB,bq,orT,al,aa,ag,DC,DF,DK,DL,DM,DN,DI,DJ,on,List.replicate,reduceIte,Nat.reduceAdd,Nat.reduceSub,Ee,Eh,DR,Ej,cB,cz,dY,fA,g7,h3,at0,at1]
    unfold gG
    rw [jY h3]
   ·rcases hx b (by simp) with h3 | ⟨t2,ws,rfl,hlw,hws⟩
    ·refine aJ ?_
     simp only [bt,b_speech_of,af,az,ax,aV,aq,aS,aF,aw,bin,un,cst,var,ae,tst,asB,bq,orT,al,aa,ag,DC,DF,DK,DL,DM,DN,DI,DJ,on,List.replicate,reduceIte,Nat.reduceAdd,Nat.reduceSub,Ee,Eh,DR,Ej,cB,cz,dY,fA,g7,h3,at0,at1]
     unfold gG
     rw [jX h3]
    ·have hn:=qS t1 (ds:=ns) (by omega) hns
     cases ha:ns.all (isL 8) with
     | false =>
      rw [ha] at hn
      refine aJ ?_
      simp only [bt,b_speech_of,af,az,ax,av,aV,aq,aS,aF,aP,aw,aQ,bin,un,cst,var,ae,tst,asB,bq,orT,al,aa,ag,DC,DF,DK,DL,DM,DN,DI,DJ,on,List.replicate,reduceIte,Nat.reduceAdd,Nat.reduceSub,Ee,Eh,DR,Ej,cB,cz,dY,fA,g7,at0,at1,hn]
      unfold gG
      rw [eh]
      unfold df
      rw [ha]; rfl
     | true =>
      rw [ha] at hn
      have e:=cM ha
      generalize cb ns=ss at e
      subst e
      have h64:ss.length < 64:=by rw [DU] at hln; omega
      have hsp:g_is_speech [.tup [.tup ((bb ss).map D.str),.tup ws]]=some (.bl (df (ss.map D.str) ws)):=by
       rw [xi,← rz ha]
       refine Sh.lC (Sh.rA (Sh.mD ?_ ?_) (Sh.mD (by omega) hws))
       ·rw [DU,(aM ss).length_eq]; omega
       ·intro x hx
        obtain ⟨y,hy,rfl⟩:=List.mem_map.mp hx
        exact hns _ (List.mem_map.mpr ⟨y,(aM ss).mem_iff.mp hy,rfl⟩)
      refine aJ ?_
      simp only [bt,b_speech_of,af,bY,az,ax,av,aq,aB,aS,aP,aw,aQ,bin,un,cst,var,ae,tst,asB,bq,orT,ifV,al,aa,ag,bE,DC,DF,DK,DL,DM,DN,DI,DJ,DG,DH,on,DD,List.replicate,reduceIte,Nat.reduceAdd,Nat.reduceSub,Nat.reduceLeDiff,Ee,DR,Ej,cB,bj,b_,cz,dY,fA,g7,at0,at1,hn,jZ t1 h64,iO,hsp]
      unfold gG
      rw [eh]
      cases hg:df (ss.map D.str) ws with
      | true =>
       have hw:ws.all (isL 12)=true:=by
        unfold df o3 at hg
        simp only [D8] at hg
        exact hg.2.2.2
       have e2:=cM hw
       simp only [af,reduceIte,ca]
       unfold bH g8
       rw [← e2]
      | false=>simp only [af,reduceIte,DR]
  ·refine aJ ?_
   have:¬ ((xs.length:Int)=2):=by omega
   simp only [bt,b_speech_of,af,az,ax,aV,aq,aS,aF,aw,bin,un,cst,var,ae,tst,asB,bq,orT,al,aa,ag,DC,DF,DK,DL,DM,DN,DI,DJ,on,List.replicate,reduceIte,Nat.reduceAdd,Nat.reduceSub,Ee,Eh,DR,Ex,cB,cz,dY,jJ,this]
   unfold gG
   rw [fO h2]
end Wk
theorem jl (ss:List Str):(ded ss).length=ss.length ↔ ss.Nodup :=
  ⟨fun h=>(qc (i5 ss) (fun k hk=>(nz ss k).mp hk) h.symm).nodup_iff.mpr (i5 ss),
   fun h=>Nat.le_antisymm (gz (i5 ss) fun k hk=>(nz ss k).mp hk) (gz h fun k hk=>(nz ss k).mpr hk)⟩
theorem f8 (f:DE→Option D) (E:DE):qE "list" "tuple" f E=(f E).map fun d=>.bl (gN d):=rfl
theorem pT (t:Bool) (a b:D) (gs:List D→DE→Option DE) (E:DE):xM gs (sr t [a,b]) E=gs [a,b] E:=by cases t <;> rfl
theorem ud (t:Bool) {ss:List Str} (h:ss.length≤60):kz (sr t (ss.map D.str))=some (.int ((ded ss).length:Int)):=by
 unfold kz
 rw [eN,DC,lz,DC,if_pos (by omega)]
theorem tj (ss:List Str):jr (bb ss)=decide ss.Nodup:=by
 by_cases h:ss.Nodup
 ·rw [Ec h]
  exact (ke _).mpr (nQ h)
 ·rw [Ek h]
  refine Bool.eq_false_iff.mpr fun z=>h ?_
  have:=(ke _).mp z
  refine (aM ss).nodup_iff.mp (this.imp fun hab e=>?_)
  rw [e] at hab
  exact qq _ hab
theorem pH {ss:List Str}{p:D→Bool} (h:(ss.map D.str).all p=true):((bb ss).map D.str).all p=true:=by
 rw [Fk] at h ⊢
 intro x hx
 obtain ⟨y,hy,rfl⟩:=List.mem_map.mp hx
 exact h _ (List.mem_map.mpr ⟨y,(aM ss).mem_iff.mp hy,rfl⟩)
theorem gc {ss:List Str}{ws:List D} (h:(ss.map D.str).all (isL 8)=true):df (ss.map D.str) ws=(decide (1≤(ss.length:Int)) && (decide ((ss.length:Int)≤8) && (decide ss.Nodup && (decide (0 < (ws.length:Int)) && ws.all (isL 12))))):=by
 unfold df o6 o3
 simp only [h,ca,pH h,tj,DU,(aM ss).length_eq,EF,Bool.and_assoc]
theorem xw (ss:List Str) (p:Str→Bool):(bb ss).any p=ss.any p:=by
 rw [FJ,FZ,FZ]
 exact ⟨fun zz150_0=>by obtain ⟨x,h,q⟩:=zz150_0; exact ⟨x,(aM ss).mem_iff.mp h,q⟩,fun zz151_0=>by obtain ⟨x,h,q⟩:=zz151_0; exact ⟨x,(aM ss).mem_iff.mpr h,q⟩⟩
theorem gb {ns ws:List D} (h:df ns ws=true):ns.all (isL 8)=true∧1≤ns.length∧ns.length≤8∧(cb ns).Nodup∧1≤ws.length∧ws.all (isL 12)=true:=by
 have ha:ns.all (isL 8)=true:=by
  unfold df at h
  exact (Bool.and_eq_true_iff.mp h).1
 have e:=cM ha
 rw [e] at h ha
 rw [gc ha] at h
 simp only [D8,Gb] at h
 obtain ⟨h1,h2,h3,h4,h5⟩:=h
 have hl:ns.length=(cb ns).length:=by have:=ER List.length e; rwa [DU] at this
 exact ⟨by rw [e]; exact ha,by omega,by omega,h3,by omega,h5⟩
theorem eU {ns ws:List D} (h:¬ (ns.all (isL 8)=true∧1≤ns.length∧ns.length≤8∧(cb ns).Nodup∧1≤ws.length∧ws.all (isL 12)=true)):¬ (df ns ws=true):=fun z=>h (gb z)
theorem xz {xs:List D}{n:Int}{E:DE}{i:Nat}{g:List D→Option D} (hg:∀ d,Sh.SmS d→g [d,.int n]=some (.bl (isL n d))) (hi:∀ v,(E.set i v)[i]? = some v) (hx:∀ x ∈ xs,Sh.SmS x) :
  bO (nmG i) noT (al 2 g (aa (var i) (aa (cst (.int n)) ag))) E xs=some (xs.map fun d=>D.bl (isL n d)):=by
 have:=bp (fun d:D=>d) (fun d=>D.bl (isL n d)) (i:=i) (ef:=al 2 g (aa (var i) (aa (cst (.int n)) ag))) (E:=E) xs fun d hd=>by
  refine aJ ?_
  simp only [al,aa,var,cst,ag,hi,DC,DF,DI,DJ,Nat.reduceAdd,reduceIte,hg d (hx d hd),af]
 rwa [Fo] at this
def apB (as:List Str) (o:Option Sp):Bool:=match o with
 | some s => !(s.1.any fun n=>decide (n ∈ as))
 | none=>false
namespace Wk
theorem oJ (n:Int) (d:D) (h:Sh.SmS d):g__Llettered [d,.int n]=some (.bl (isL n d)):=by rw [qP]; exact Sh.oH h
theorem qD {d:D} (h:SmP d) (ta:Bool) (as:List Str):b7 [d,sr ta (as.map D.str)]=some (.bl (apB as (bw d))):=by
 rcases h with h | ⟨t,xs,rfl,hl,hx⟩
 ·refine aJ ?_
  simp only [b7,b__Lis_pair,f8,h,af,az,ax,aV,aq,aS,aF,aw,bin,un,cst,ae,tst,asB,bq,orT,DC,DF,DK,DL,DM,DN,DI,DJ,on,List.replicate,reduceIte,Nat.reduceAdd,Nat.reduceSub,Eh,fN h,apB]
 ·by_cases h2:xs.length=2
  ·obtain ⟨a,b,rfl⟩:=two h2
   rcases hx a (by simp) with h3 | ⟨t1,ns,rfl,hln,hns⟩
   ·refine aJ ?_
    simp only [b7,b__Lis_pair,f8,dY,h3,cA,pT,fA,af,az,ax,av,aV,aq,aS,aF,aP,aw,aQ,bin,un,cst,var,ae,tst,asB,bq,orT,nmG,bh,dc,DC,DF,DK,DL,DM,DN,DI,DJ,DG,DH,on,DD,List.replicate,reduceIte,Nat.reduceAdd,Nat.reduceSub,Ee,Eh,DR,Ej,cB,cA,jY h3,apB]
   ·rcases hx b (by simp) with h3 | ⟨t2,ws,rfl,hlw,hws⟩
    ·refine aJ ?_
     simp only [b7,b__Lis_pair,f8,dY,h3,cA,pT,fA,af,az,ax,av,aV,aq,aS,aF,aP,aw,aQ,bin,un,cst,var,ae,tst,asB,bq,orT,nmG,bh,dc,DC,DF,DK,DL,DM,DN,DI,DJ,DG,DH,on,DD,List.replicate,reduceIte,Nat.reduceAdd,Nat.reduceSub,Ee,Eh,DR,Ej,cB,cA,jX h3,apB]
    ·have hn:=fun e0 e1 e2 e3 e4 e5:Sl=>xz (n:=8) (E:=[e0,e1,e2,e3,e4,e5]) (i:=4) (oJ 8) (fun _=>rfl) hns
     have hw:=fun e0 e1 e2 e3 e4 e5:Sl=>xz (n:=12) (E:=[e0,e1,e2,e3,e4,e5]) (i:=5) (oJ 12) (fun _=>rfl) hws
     have zn:ns.length≤16777216:=by omega
     have zw:ws.length≤16777216:=by omega
     rw [eh]
     refine aJ ?_
     simp only [b7,b__Lis_pair,f8,dY,cA,pT,↓fA,↓iW,jJ,af,az,ax,av,aS,aP,aQ,bin,un,cst,var,ae,tst,asB,bq,orT,nmG,bh,dc,ik,fC,DC,DF,DK,DL,DM,DN,DI,DJ,DG,DH,on,DD,List.replicate,reduceIte,Nat.reduceAdd,Nat.reduceSub,Ee,DR,Ej,cB,cA]
     by_cases h1:(ns.length:Int) < 1
     ·rw [if_neg (eU fun z=>by omega)]
      simp only [h1,af,aV,aq,aF,aw,cst,DF,reduceIte,Ej,apB]
     ·by_cases h2:8 < (ns.length:Int)
      ·rw [if_neg (eU fun z=>by omega)]
       simp only [h1,h2,af,aV,aq,aF,aw,cst,DF,reduceIte,DR,Ej,Ex,apB]
      ·by_cases h3:(ws.length:Int) < 1
       ·rw [if_neg (eU fun z=>by omega)]
        simp only [h1,h2,h3,af,aV,aq,aF,aw,cst,DF,reduceIte,DR,Ej,Ex,apB]
       ·simp only [h1,h2,h3,↓iW,af,ax,av,aS,aP,aQ,un,var,tst,asB,bq,orT,bW,aU,aE,cV,DC,DF,DG,DH,on,DD,DO,Eb,reduceIte,DR,Ex,bj,zn,zw,hn,hw,bU,Fe]
        have c1:ns.all (id ∘ isL 8)=ns.all (isL 8):=rfl
        have c2:ws.all (id ∘ isL 12)=ws.all (isL 12):=rfl
        simp only [c1,c2]
        cases ha:ns.all (isL 8) with
        | false =>
         rw [if_neg (eU fun z=>by rw [z.1] at ha; cases ha)]
         simp only [af,aV,aq,aF,aw,cst,DF,reduceIte,Eh,apB]
        | true =>
         cases hb:ws.all (isL 12) with
         | false =>
          rw [if_neg (eU fun z=>by rw [z.2.2.2.2.2] at hb; cases hb)]
          simp only [af,aV,aq,aF,aw,cst,DF,reduceIte,Ee,Eh,DR,apB]
         | true =>
          have e:=cM ha
          generalize cb ns=ss at e ⊢
          subst e
          rw [DU] at hln
          have hi:∀ e0 e2 e3 e4 e5:Sl,bO (nmG 4) noT (bin inE (ae 4) (ae 1)) [e0,.val (sr ta (as.map D.str)),e2,e3,e4,e5] (ss.map D.str)=some (ss.map fun s=>D.bl (decide (s ∈ as))):=fun e0 e2 e3 e4 e5 =>
           bp D.str (fun s=>D.bl (decide (s ∈ as))) ss fun s _=>by
            refine aJ ?_
            simp only [af,bin,ae,DC,DG,DH,on,DD,Bj]
          simp only [af,bY,av,aq,aP,aw,aQ,bin,un,var,ae,asB,bS,kn,bW,aU,aE,DC,DF,DG,DH,on,DD,DO,Eb,reduceIte,Ee,DR,c4,↓iW,zn,hi,ud t1 hln,jJ,bU,List.any_map,DU]
          have zs:ss.length≤sizeLine:=by show _≤16777216; omega
          rw [DU] at h1 h2
          by_cases hd:ss.Nodup
          ·have hg:df (ss.map D.str) ws=true:=by
            rw [gc ha,Ec (show 1≤(ss.length:Int) by omega),Ec (show (ss.length:Int)≤8 by omega),Ec hd,Ec (show 0 < (ws.length:Int) by omega),hb]; rfl
           have he:((ded ss).length:Int)=ss.length:=by rw [(jl ss).mpr hd]
           simp only [he,hg,zs,af,jy,DC,DF,reduceIte,Ej,D.bl.injEq,bU,apB,xw,List.any_map]
           rfl
          ·have hg:¬ df (ss.map D.str) ws=true:=eU fun z=>hd (by rw [ca] at z; exact z.2.2.2.1)
           have he:¬ ((ded ss).length:Int)=ss.length:=fun z=>hd ((jl ss).mp (by omega))
           simp only [he,hg,af,reduceIte,DR,Ex,apB]
  ·refine aJ ?_
   have:¬ ((xs.length:Int)=2):=by omega
   simp only [b7,b__Lis_pair,f8,dY,jJ,this,af,az,ax,aV,aq,aS,aF,aw,bin,un,cst,ae,tst,asB,bq,orT,DC,DF,DK,DL,DM,DN,DI,DJ,on,List.replicate,reduceIte,Nat.reduceAdd,Nat.reduceSub,Ee,Eh,DR,Ex,cB,fO h2,apB]
end Wk
inductive Made where
 | ok (p:List Sp) | bad (k:Nat)
def Made.add (s:Sp):Made→Made
 | .ok p=>.ok (s :: p)
 | .bad k=>.bad k
def c_:List Str→Nat→List D→Made
 | _,_,[]=>.ok []
 | as,k,d :: ds=>match bw d with
  | some s=>if apB as (some s)=true then (c_ s.1 (k + 1) ds).add s else .bad k
  | none=>.bad k
namespace Wk
def stF:DE→Option Out :=
 (ay (aB 5 (al 1 bt (aa (var 4) ag)))
 (ay (ifS (orT (tst (un dN (var 5))) (tst (al 2 g_have_common (aa (bin ixE (ae 5) (cst (.int 0))) (aa (var 2) ag)))))
 noS
 aQ)
 (ay (eK 1 (var 5))
 (aB 2 (bin ixE (ae 5) (cst (.int 0)))))))
def stX:DE→Option cJ :=
 (eF (okX (aB 5 (al 1 bt (aa (var 4) ag))))
 (eF (ifX (orT (tst (un dN (var 5))) (tst (al 2 g_have_common (aa (bin ixE (ae 5) (cst (.int 0))) (aa (var 2) ag)))))
 (ft 0 "place" (var 3))
 (okX aQ))
 (eF (okX (eK 1 (var 5)))
 (okX (aB 2 (bin ixE (ae 5) (cst (.int 0))))))))
abbrev gPr:D→DE→Option DE:=dJ 2 (bh (nmG 3) (bh (nmG 4) dc))
def En (P:D) (acc:List Sp) (as:List Str) (e3 e4 e5:Sl):DE:=[.val P,.own (.lst (acc.map bH)),.val (g8 as),e3,e4,e5]
theorem iq (s:Sp):dN (bH s)=some (.bl false):=rfl
theorem m7 (s:Sp):ixE (bH s) (.int 0)=some (g8 s.1):=rfl
theorem gE {s:Sp}{as:List Str} (h:s.1.length≤1000):g_have_common [g8 s.1,g8 as]=some (.bl (s.1.any fun n=>decide (n ∈ as))):=by
 rw [xj]; exact Sh.f9 s.1 as h
theorem jB {d:D}{s:Sp} (h:SmP d) (e:bw d=some s):s.1.length≤1000:=by
 rcases h with h | ⟨t,xs,rfl,hl,hx⟩
 ·rw [fN h] at e; cases e
 ·by_cases h2:xs.length=2
  ·obtain ⟨a,b,rfl⟩:=two h2
   rcases hx a (by simp) with h3 | ⟨t1,ns,rfl,hln,hns⟩
   ·rw [jY h3] at e; cases e
   ·rcases hx b (by simp) with h3 | ⟨t2,ws,rfl,hlw,hws⟩
    ·rw [jX h3] at e; cases e
    ·rw [eh] at e
     split at e
     ·cases e
      rw [(aM _).length_eq]
      have:(cb ns).length≤ns.length:=FE _ _
      omega
     ·cases e
  ·rw [fO h2] at e; cases e
theorem xT {P d:D}{acc:List Sp}{as:List Str}{e3 e4 e5:Sl}{k:Int}{s:Sp} (h:SmP d) (e:bw d=some s) (ha:apB as (some s)=true) (hl:acc.length≤1000) :
  (gPr (.tup [.int k,d]) (En P acc as e3 e4 e5)).bind stF=some (.nx (En P (acc ++ [s]) s.1 (.val (.int k)) (.val d) (.val (bH s)))):=by
 have h1:=dL h
 unfold gG at h1
 rw [e] at h1
 have h2:=gE (as:=as) (jB h e)
 have h3:(s.1.any fun n=>decide (n ∈ as))=false:=by
  unfold apB at ha
  simpa using ha
 rw [h3] at h2
 have hz:acc.length < sizeLine:=by show _ < 16777216; omega
 refine aJ ?_
 unfold stF En
 simp only [gPr,af,ax,av,aB,aS,aP,aQ,bin,un,cst,var,ae,tst,asB,orT,al,aa,ag,nmG,dJ,bh,dc,DC,DF,DK,DL,DI,DJ,DG,DH,on,DD,reduceIte,Nat.reduceAdd,DR,eK,h1,↓iq,m7,h2,DU,hz,Fp]
theorem xU {P d:D}{acc:List Sp}{as:List Str}{e3 e4 e5:Sl}{k:Int} (h:SmP d) (e:apB as (bw d)=false) :
  (gPr (.tup [.int k,d]) (En P acc as e3 e4 e5)).bind stF=none:=by
 have h1:=dL h
 unfold gG at h1
 unfold stF En
 cases hs:bw d with
 | none =>
  rw [hs] at h1
  have h5:dN .non=some (.bl true):=rfl
  simp only [gPr,dJ,bh,nmG,dc,ay,aB,ifS,noS,orT,tst,asB,un,al,aa,ag,var,h1,h5,DI,DJ,DG,DH,on,DD,DC,DF,E6,reduceIte,Nat.reduceAdd]
 | some s =>
  rw [hs] at h1 e
  have h2:=gE (as:=as) (jB h hs)
  have h3:(s.1.any fun n=>decide (n ∈ as))=true:=by
   unfold apB at e
   simpa using e
  rw [h3] at h2
  simp only [gPr,dJ,bh,nmG,dc,ay,aB,ifS,noS,orT,tst,asB,un,bin,ae,cst,al,aa,ag,var,h1,iq,m7,h2,DI,DJ,DG,DH,on,DD,DC,DF,E6,reduceIte,Nat.reduceAdd,DR]
theorem vi {P d:D}{acc:List Sp}{as:List Str}{e3 e4 e5:Sl}{k:Int}{s:Sp} (h:SmP d) (e:bw d=some s) (ha:apB as (some s)=true) (hl:acc.length≤1000) :
  (gPr (.tup [.int k,d]) (En P acc as e3 e4 e5)).bind stX=some (.ok (.nx (En P (acc ++ [s]) s.1 (.val (.int k)) (.val d) (.val (bH s))))):=by
 have h1:=dL h
 unfold gG at h1
 rw [e] at h1
 have h2:=gE (as:=as) (jB h e)
 have h3:(s.1.any fun n=>decide (n ∈ as))=false:=by
  unfold apB at ha
  simpa using ha
 rw [h3] at h2
 have hz:acc.length < sizeLine:=by show _ < 16777216; omega
 unfold stX En
 simp only [gPr,dJ,bh,nmG,dc,eF,okX,ifX,aB,aQ,eK,orT,tst,asB,un,bin,ae,cst,al,aa,ag,var,h1,iq,m7,h2,hz,DU,Fp,DK,DL,DI,DJ,DG,DH,on,DD,DC,DF,E6,reduceIte,Nat.reduceAdd,DR]
theorem vj {P d:D}{acc:List Sp}{as:List Str}{e3 e4 e5:Sl}{k:Int} (h:SmP d) (e:apB as (bw d)=false) :
  ∃ E',(gPr (.tup [.int k,d]) (En P acc as e3 e4 e5)).bind stX=some (.xc 0 [("place",.int k)] E'):=by
 have h1:=dL h
 have hc:jt (.int k)=true:=rfl
 unfold gG at h1
 unfold stX En
 cases hs:bw d with
 | none =>
  rw [hs] at h1
  have h5:dN .non=some (.bl true):=rfl
  simp only [gPr,dJ,bh,nmG,dc,eF,okX,ifX,ft,hc,aB,orT,tst,asB,un,al,aa,ag,var,h1,h5,DI,DJ,DG,DH,on,DD,DC,DF,E6,reduceIte,Nat.reduceAdd]
  exact ⟨_,rfl⟩
 | some s =>
  rw [hs] at h1 e
  have h2:=gE (as:=as) (jB h hs)
  have h3:(s.1.any fun n=>decide (n ∈ as))=true:=by
   unfold apB at e
   simpa using e
  rw [h3] at h2
  simp only [gPr,dJ,bh,nmG,dc,eF,okX,ifX,ft,hc,aB,orT,tst,asB,un,bin,ae,cst,al,aa,ag,var,h1,iq,m7,h2,DI,DJ,DG,DH,on,DD,DC,DF,E6,reduceIte,Nat.reduceAdd,DR]
  exact ⟨_,rfl⟩
def wq (P:D) (acc:List Sp) (ds:List D) (k:Nat) (E:DE):Made→Prop
 | .ok p=>∃ as' e3' e4' e5',eA (fun x E1=>(gPr x E1).bind stF) (cT ds (k:Int)) E=some (.nx (En P (acc ++ p) as' e3' e4' e5'))
 | .bad j=>eA (fun x E1=>(gPr x E1).bind stF) (cT ds (k:Int)) E=none∧∃ E',fW (fun x E1=>(gPr x E1).bind stX) (cT ds (k:Int)) E=some (.xc 0 [("place",.int (j:Int))] E')
theorem rR {P:D}:∀ (ds:List D) (k:Nat) (acc:List Sp) (as:List Str) (e3 e4 e5:Sl),(∀ d ∈ ds,SmP d)→acc.length + ds.length≤1000→wq P acc ds k (En P acc as e3 e4 e5) (c_ as k ds)
 | [],k,acc,as,e3,e4,e5,_,_=>⟨as,e3,e4,e5,by rw [Fb]; rfl⟩
 | d :: ds,k,acc,as,e3,e4,e5,hs,hl=>by
  have hd:=hs d (by simp)
  have cons:cT (d :: ds) (k:Int)=.tup [.int (k:Int),d] :: cT ds ((k + 1:Nat):Int):=rfl
  rw [DI] at hl
  have no:apB as (bw d)=false→wq P acc (d :: ds) k (En P acc as e3 e4 e5) (.bad k):=fun h=>by
   obtain ⟨E',hx⟩:=vj (P:=P) (acc:=acc) (as:=as) (e3:=e3) (e4:=e4) (e5:=e5) (k:=k) hd h
   refine ⟨?_,E',?_⟩
   ·rw [cons,eA,xU hd h]; rfl
   ·rw [cons,fW,hx]; rfl
  unfold c_
  cases e:bw d with
  | none=>exact no (by rw [e]; rfl)
  | some s =>
   by_cases ha:apB as (some s)=true
   ·have ih:=rR (P:=P) ds (k + 1) (acc ++ [s]) s.1 (.val (.int k)) (.val d) (.val (bH s)) (fun d hd=>hs d (D0 _ hd)) (by rw [D9]; simp; omega)
    have c1:=xT (P:=P) (e3:=e3) (e4:=e4) (e5:=e5) (k:=k) hd e ha (show acc.length≤1000 by omega)
    have c2:=vi (P:=P) (e3:=e3) (e4:=e4) (e5:=e5) (k:=k) hd e ha (show acc.length≤1000 by omega)
    simp only [ha,if_true]
    cases hw:c_ s.1 (k + 1) ds with
    | ok p =>
     rw [hw] at ih
     obtain ⟨as',a,b,c,q⟩:=ih
     refine ⟨as',a,b,c,?_⟩
     rw [cons,eA,c1]
     rw [List.append_assoc] at q
     exact q
    | bad j =>
     rw [hw] at ih
     obtain ⟨q1,E',q2⟩:=ih
     refine ⟨?_,E',?_⟩
     ·rw [cons,eA,c1]; exact q1
     ·rw [cons,fW,c2]; exact q2
   ·simp only [ha]
    exact no (by rw [e]; exact Bool.eq_false_iff.mpr ha)
end Wk
theorem pk (t:Bool) (ds:List D):mf [sr t ds]=some (cT ds ((0:Nat):Int)):=by cases t <;> rfl
namespace Wk
theorem Bk {t:Bool}{ds:List D}{e3 e4 e5:Sl} (E:DE) (hE:E=En (sr t ds) [] [] e3 e4 e5):fD (jk (aa (var 0) ag)) gPr stF E=eA (fun x E1=>(gPr x E1).bind stF) (cT ds ((0:Nat):Int)) E:=by
 subst hE
 show ((some [sr t ds]).bind mf).bind _=_
 rw [DC,pk]; rfl
theorem yX {t:Bool}{ds:List D}{e3 e4 e5:Sl} (E:DE) (hE:E=En (sr t ds) [] [] e3 e4 e5):wN (jk (aa (var 0) ag)) gPr stX E=fW (fun x E1=>(gPr x E1).bind stX) (cT ds ((0:Nat):Int)) E:=by
 subst hE
 show ((some [sr t ds]).bind mf).bind _=_
 rw [DC,pk]; rfl
theorem kh {t:Bool}{ds:List D} (hs:∀ d ∈ ds,SmP d) (hl:ds.length≤1000):match c_ [] 0 ds with
  | .ok p=>bC [sr t ds]=some (d8 p)
  | .bad j=>bC [sr t ds]=none∧d6 [sr t ds]=some (some (0,[(("place" : Str),D.int (j:Int))])):=by
 have h:=rR (P:=sr t ds) ds 0 [] [] .no .no .no hs (by simpa using hl)
 have hb:b_play_of [.val (sr t ds),.no,.no,.no,.no,.no]=(eA (fun x E1=>(gPr x E1).bind stF) (cT ds ((0:Nat):Int)) (En (sr t ds) [] [] .no .no .no)).bind fun r=>match r with
   | .nx E'=>aw (un aW (ae 1)) E'
   | r=>some r:=by
  have hf:=Bk (t:=t) (ds:=ds) (e3:=.no) (e4:=.no) (e5:=.no) _ rfl
  have h0:ifS (bq (tst (al 1 b6 (aa (var 0) ag)))) noS aQ [.val (sr t ds),.no,.no,.no,.no,.no]=some (.nx [.val (sr t ds),.no,.no,.no,.no,.no]):=by
   simp only [ifS,bq,tst,al,aa,ag,var,cz,dY,asB,aQ,DI,DJ,on,DC,DF,reduceIte,Nat.reduceAdd,Ee,DR]
  show (ay _ (ay _ (ay _ (ay (fD (jk (aa (var 0) ag)) gPr stF) _)))) _=_
  rw [← hf]
  unfold ay
  rw [h0]; rfl
 have hx:cR [.val (sr t ds),.no,.no,.no,.no,.no]=(fW (fun x E1=>(gPr x E1).bind stX) (cT ds ((0:Nat):Int)) (En (sr t ds) [] [] .no .no .no)).bind fun r=>match r with
   | .ok (.nx E')=>okX (aw (un aW (ae 1))) E'
   | r=>some r:=by
  have hf:=yX (t:=t) (ds:=ds) (e3:=.no) (e4:=.no) (e5:=.no) _ rfl
  have h0:ifX (bq (tst (al 1 b6 (aa (var 0) ag)))) (ft 0 "place" (cst (.int 0))) (okX aQ) [.val (sr t ds),.no,.no,.no,.no,.no]=some (.ok (.nx [.val (sr t ds),.no,.no,.no,.no,.no])):=by
   simp only [ifX,bq,tst,al,aa,ag,var,cz,dY,asB,aQ,okX,DI,DJ,on,DC,DF,reduceIte,Nat.reduceAdd,Ee,DR]
  show (eF _ (eF _ (eF _ (eF (wN (jk (aa (var 0) ag)) gPr stX) _)))) _=_
  rw [← hf]
  unfold eF
  rw [h0]; rfl
 cases hw:c_ [] 0 ds with
 | ok p =>
  rw [hw] at h
  obtain ⟨as',a,b,c,q⟩:=h
  show (if 1=1 then (b_play_of [.val (sr t ds),.no,.no,.no,.no,.no]).bind _ else none)=_
  rw [hb,q]; rfl
 | bad j =>
  rw [hw] at h
  obtain ⟨q,E',q'⟩:=h
  constructor
  ·show (if 1=1 then (b_play_of [.val (sr t ds),.no,.no,.no,.no,.no]).bind _ else none)=_
   rw [hb,q]; rfl
  ·show (if 1=1 then (cR [.val (sr t ds),.no,.no,.no,.no,.no]).bind _ else none)=_
   rw [hx,q']; rfl
theorem vM {d:D} (h:gN d=false):bC [d]=none∧d6 [d]=some (some (0,[(("place" : Str),D.int 0)])):=by
 constructor
 ·show (if 1=1 then (b_play_of [.val d,.no,.no,.no,.no,.no]).bind _ else none)=_
  have h0:b_play_of [.val d,.no,.no,.no,.no,.no]=none:=by
   simp only [b_play_of,ay,ifS,bq,tst,al,aa,ag,var,cz,h,asB,noS,DI,DJ,on,DC,DF,E6,reduceIte,Nat.reduceAdd,Eh]
  rw [h0]; rfl
 ·show (if 1=1 then (cR [.val d,.no,.no,.no,.no,.no]).bind _ else none)=_
  have h0:cR [.val d,.no,.no,.no,.no,.no]=some (.xc 0 [(("place" : Str),D.int 0)] [.val d,.no,.no,.no,.no,.no]):=by
   simp only [cR,eF,ifX,ft,jt,cst,bq,tst,al,aa,ag,var,cz,h,asB,DI,DJ,on,DC,DF,E6,reduceIte,Nat.reduceAdd,Eh]
  rw [h0]; rfl
abbrev lg:D:=.lst [.bl false,.bl false,.bl false,.bl true,.bl true]
theorem AW (a b c:D):gl [Sl.val a,Sl.val b,Sl.val c,Sl.no,Sl.no]:=v7 fun z hz=>by
 simp only [EJ,Ey,Fy] at hz
 rcases hz with rfl | rfl | rfl | rfl | rfl <;> constructor <;> intro _ e <;> cases e
abbrev sV:DE→Option cJ:=kW 1 bC d6 (fun d E=>.nx (E.set 2 (.val d))) (aa (var 0) ag)
theorem xN {d v:D} (h:bC [d]=some v):cK [d]=some (.tup [v,.non]):=by
 have ht:pW 0 3 sV f_ [Sl.val d,Sl.val .non,Sl.val .non,Sl.no,Sl.no]=some (.nx [Sl.val d,Sl.val .non,Sl.val v,Sl.no,Sl.no]):=by
  have hd:sV [Sl.val d,Sl.val .non,Sl.val .non,Sl.no,Sl.no]=some (.ok (.nx [Sl.val d,Sl.val .non,Sl.val v,Sl.no,Sl.no])):=by
   simp [sV,kW,aa,ag,var,h]
  unfold pW
  rw [hd]; rfl
 refine aJ ?_
 simp only [cK,b__Ltold,af,az,ax,av,aq,aB,aw,cst,var,aa,ag,bE,DC,DF,DK,DL,DM,DN,DI,DJ,DG,DH,on,DD,List.replicate,reduceIte,Nat.reduceAdd,Nat.reduceSub,Nat.reduceLeDiff,bj,ht]
theorem rh {d:D}{k:Int} (h:bC [d]=none) (h':d6 [d]=some (some (0,[(("place" : Str),D.int k)]))):cK [d]=some (.tup [.non,.tup [.int k,lg]]):=by
 have ht:pW 0 3 sV f_ [Sl.val d,Sl.val .non,Sl.val .non,Sl.no,Sl.no]=some (.nx [Sl.val d,Sl.val (.tup [.int k,lg]),Sl.val .non,Sl.no,Sl.val (.lst [.bl false,.bl false])]):=by
  have hd:sV [Sl.val d,Sl.val .non,Sl.val .non,Sl.no,Sl.no]=some (.xc 0 [(("place" : Str),D.int k)] [Sl.val d,Sl.val .non,Sl.val .non,Sl.no,Sl.no]):=by
   simp [sV,kW,aa,ag,var,h,h']
  unfold pW
  rw [hd]
  show @ite _ _ (Classical.propDecidable _) _ _=_
  rw [if_pos ⟨rfl,AW _ _ _⟩]
  have hall:∀ a,f_ a [(("place" : Str),D.int k)] ([Sl.val d,Sl.val .non,Sl.val .non,Sl.no,Sl.no].set 3 (ic a))=some (.nx [Sl.val d,Sl.val (.tup [.int k,lg]),Sl.val .non,ic a,Sl.val (.lst [.bl false,.bl false])]):=fun a=>by
   have xx:∀ (e0 e1 e2 e4:Sl) (z:D),xF 3 a z [e0,e1,e2,ic a,e4]=some z:=fun e0 e1 e2 e4 z=>if_pos rfl
   have xl:∀ (e0 e1 e2 e4:Sl),u3 3 a "place" [(("place" : Str),D.int k)] [e0,e1,e2,ic a,e4]=some (.int k):=fun e0 e1 e2 e4=>by
    unfold u3
    rw [EM,Ed]
    show (some (D.int k)).bind (fun z=>if jt z=true then xF 3 a z _ else none)=_
    rw [DC,if_pos (show jt (D.int k)=true from rfl),xx]
   refine aJ ?_
   simp only [f_,af,ax,av,aB,bin,ae,aa,ag,bE,bB,DC,DF,DM,DN,DI,DJ,DG,DH,on,DD,reduceIte,Nat.reduceAdd,Nat.reduceLeDiff,bj,xx,xl,cv]
  exact zi fun a=>by rw [hall a]; rfl
 refine aJ ?_
 simp only [cK,b__Ltold,af,az,ax,av,aq,aB,aw,cst,var,aa,ag,bE,DC,DF,DK,DL,DM,DN,DI,DJ,DG,DH,on,DD,List.replicate,reduceIte,Nat.reduceAdd,Nat.reduceSub,Nat.reduceLeDiff,bj,ht]
end Wk
theorem ie {α:Type} (l:List α) (i:Int) (h0:0≤i) (h1:i < l.length):∃ x ∈ l,atI l i=some x:=by
 obtain ⟨n,rfl⟩:∃ n:Nat,i=n:=⟨i.toNat,by omega⟩
 exact ⟨l[n]'(by omega),EI _,by rw [iE,DT]⟩
theorem ng {n:Nat} (t:Bool) (xs:List D) (h:∀ x ∈ xs,c9 n x):c9 (n + 1) (sr t xs):=by
 cases t with
 | true=>exact l5 xs h
 | false=>exact eY xs h
namespace Wk
def scal:D→Bool
 | .non | .bl _ | .int _ | .str _ | .dic _=>true
 | _=>false
theorem eC {d:D} (h:scal d=true) (k:Nat):aY (k + 1) [d]=some d:=by
 have h1:bX (tyN d) "list" = false:=by cases d <;> first | rfl | cases h
 have h2:bX (tyN d) "tuple" = false:=by cases d <;> first | rfl | cases h
 refine aJ ?_
 simp only [aY,b__Lcopied,az,ax,aS,af,aZ,bY,tst,isF,h1,h2,ae,var,asB,aw,aQ,aP,av,DI,DJ,Nat.reduceAdd,Nat.reduceSub,DK,DL,DM,DN,List.replicate,on,aq]
theorem sF (t:Bool) {xs:List D}{k:Nat} (h:∀ x ∈ xs,aY k [x]=some x) (hl:xs.length≤1000):aY (k + 1) [sr t xs]=some (sr t xs):=by
 have hz:xs.length≤16777216:=by omega
 have hc:∀ (e0 e1:Sl),bO (nmG 1) noT (al 1 (aY k) (aa (var 1) ag)) [e0,e1] xs=some xs:=fun e0 e1=>by
  have:=bp (fun d:D=>d) (fun d=>d) (i:=1) (ef:=al 1 (aY k) (aa (var 1) ag)) (E:=[e0,e1]) xs fun d hd=>by
   refine aJ ?_
   simp only [af,var,al,aa,ag,DC,DF,DI,DJ,DG,DH,on,DD,reduceIte,Nat.reduceAdd,h d hd]
  rwa [Fo] at this
 refine aJ ?_
 cases t with
 | true =>
  show wp (aY (k + 1) [.tup xs]) fun b=>b=.tup xs
  simp only [aY,b__Lcopied,af,az,ax,av,aV,aq,aS,aF,aP,aw,aQ,un,var,ae,tst,asB,bW,isF,aU,aE,aN,tyN,DC,DF,DK,DL,DM,DN,DI,DJ,DG,DH,on,List.replicate,DO,Eb,reduceIte,Nat.reduceAdd,Nat.reduceSub,bX,String.reduceBEq,Ed,EB,Em,bj,b_,hz,hc]
 | false =>
  show wp (aY (k + 1) [.lst xs]) fun b=>b=.lst xs
  simp only [aY,b__Lcopied,af,az,ax,aV,aq,aS,aF,aw,var,ae,tst,asB,bW,isF,aU,aE,aN,tyN,DC,DF,DK,DL,DM,DN,DI,DJ,DG,DH,on,List.replicate,DO,Eb,reduceIte,Nat.reduceAdd,Nat.reduceSub,bX,String.reduceBEq,Ed,EB,Em,bj,hz,hc]
structure R0 (d:D):Prop where
 sm:Sh.SmS d
 cp:aY 3 [d]=some d
 fn:c9 1 d
structure R1 (d:D):Prop where
 sm:SmQ Sh.SmS d
 cp:aY 4 [d]=some d
 fn:c9 2 d
structure Gd (d:D):Prop where
 sm:SmP d
 cp:aY 5 [d]=some d
 ok:fP d=true
theorem jD {d:D} (h:o5 d=false):Sh.SmS d:=fun x e=>by rw [e] at h; cases h
theorem R0.str {x:Str} (h:x.length≤1000) (hc:∀ c ∈ x.cps.toList,c≤122):R0 (.str x):=⟨Sh.jC h,eC rfl 2,(eX hc).le (by decide)⟩
theorem R1.sr (t:Bool) {xs:List D} (h:∀ x ∈ xs,R0 x) (hl:xs.length≤60):R1 (sr t xs):=⟨.inr ⟨t,xs,rfl,hl,fun x hx=>(h x hx).sm⟩,sF t (fun x hx=>(h x hx).cp) (by omega),ng t xs fun x hx=>(h x hx).fn⟩
theorem R1.str {x:Str} (h:x.length≤1000) (hc:∀ c ∈ x.cps.toList,c≤122):R1 (.str x):=⟨.inl rfl,eC rfl 3,(eX hc).le (by decide)⟩
theorem Gd.sr (t:Bool) {xs:List D} (h:∀ x ∈ xs,R1 x) (hl:xs.length≤60):Gd (sr t xs):=⟨.inr ⟨t,xs,rfl,hl,fun x hx=>(h x hx).sm⟩,sF t (fun x hx=>(h x hx).cp) (by omega),by
 unfold fP
 rw [(ng t xs fun x hx=>(h x hx).fn).ok (by decide)]; rfl⟩
theorem Gd.non:Gd .non:=⟨.inl rfl,eC rfl 4,by unfold fP; rw [(pc).ok (by decide)]; rfl⟩
end Wk
namespace Wk
theorem dD {i j:List D} (h:i.length + j.length≤1000):cv (.lst i) (.lst j)=some (.lst (i ++ j)):=if_pos (D1 h (by decide))
theorem Gd.dic {k:Key}{x:Str} (hc:∀ c ∈ x.cps.toList,c≤122):Gd (.dic [(k,.lst [.str x])]):=⟨.inl rfl,eC rfl 4,by
 have hf:c9 1 (.lst [.str x]):=eY [.str x] fun y hy=>by rw [EE] at hy; subst hy; exact eX hc
 unfold fP
 refine Bool.or_eq_true_iff.mpr (.inr (Bool.and_eq_true_iff.mpr ⟨?_,?_⟩))
 ·rw [EY,hf.ok (by decide)]; rfl
 ·rw [EY]
  have e:dS [(k,D.lst [.str x])] k=some (.lst [.str x]):=by unfold dS; rw [Fq,Ec rfl]; rfl
  have e2:o9 [(k,D.lst [.str x])] (k,D.lst [.str x])=true:=by unfold o9; rw [e]; exact SeqAt.eqv_refl _ hf.lay
  rw [e2]; rfl⟩
theorem AV {o:D} (h:o ∈ [D.str "",D.str "Abel",D.str "a b",D.str "abcdefghijklm",.int 5,.non,.bl true,.lst [.str "a"]]):R0 o:=by
 simp only [EJ,Ey,Fy] at h
 rcases h with rfl | rfl | rfl | rfl | rfl | rfl | rfl | rfl
 ·exact R0.str (by decide) (by decide)
 ·exact R0.str (by decide) (by decide)
 ·exact R0.str (by decide) (by decide)
 ·exact R0.str (by decide) (by decide)
 ·exact ⟨jD rfl,eC rfl 2,(pd _).le (by decide)⟩
 ·exact ⟨jD rfl,eC rfl 2,pc.le (by decide)⟩
 ·exact ⟨jD rfl,eC rfl 2,(se _).le (by decide)⟩
 ·exact ⟨jD rfl,sF false (xs:=[.str "a"]) (fun x hx=>by rw [EE] at hx; subst hx; exact eC rfl 1) (by decide),eY [.str "a"] fun y hy=>by rw [EE] at hy; subst hy; exact eX (by decide)⟩
theorem Gd.two {a b:D} (ha:R1 a) (hb:R1 b):Gd (.tup [a,b]):=Gd.sr true (xs:=[a,b]) (fun x hx=>by
 simp only [EJ,Ey,Fy] at hx
 rcases hx with rfl | rfl
 ·exact ha
 ·exact hb) (by decide:2≤60)
theorem R1.lst {xs:List D} (h:∀ x ∈ xs,R0 x) (hl:xs.length≤60):R1 (.lst xs):=R1.sr false h hl
theorem sX {ss ws as:List Str}{c:Int} (hs:ss ≠ []) (hw:ws ≠ []) (ls:ss.length≤8) (lw:ws.length≤20) (la:as.length≤8) (fs:∀ x ∈ ss,R0 (.str x)∧R1 (.str x)) (fw:∀ x ∈ ws,R0 (.str x)∧R1 (.str x)) (fa:∀ x ∈ as,R0 (.str x)) :
  ∃ d,cQ [bH (ss,ws),g8 as,.int c]=some d∧Gd d:=by
 have pw:0 < (ws.length:Int):=by have:=il hw; omega
 have a0:0≤c / 200 % 8:=Er _ (by decide)
 have a1:c / 200 % 8 < 8:=Eu _ (by decide)
 have b0:0≤c % 13:=Er _ (by decide)
 have b1:c % 13 < 13:=Eu _ (by decide)
 obtain ⟨o,ho,eo⟩:=ie [D.str "",D.str "Abel",D.str "a b",D.str "abcdefghijklm",.int 5,.non,.bl true,.lst [.str "a"]] (c / 200 % 8) a0 (by simpa using a1)
 refine fK.mp ?_
 simp only [cQ,b__Lspoilt,yB,bH,g8,af,aZ,bY,az,ax,av,aq,aB,aw,bin,un,cst,var,ae,aa,ag,bE,bB,noP,cc,bJ,uC,a_,bd,DC,DF,DK,DL,DM,DN,DI,DJ,DG,DH,on,DD,List.replicate,reduceIte,Nat.reduceAdd,Nat.reduceSub,Int.reduceLT,Int.reduceLE,Int.reducePow,Nat.reduceLeDiff,mG,hY,bj,fY,cO,dM,dB,gA,pw,DU,eo,at0,at1]
 have ro:=AV ho
 have hN:∀ x ∈ ss.map D.str,R0 x:=fun x hx=>by obtain ⟨y,hy,rfl⟩:=List.mem_map.mp hx; exact (fs y hy).1
 have hW:∀ x ∈ ws.map D.str,R0 x:=fun x hx=>by obtain ⟨y,hy,rfl⟩:=List.mem_map.mp hx; exact (fw y hy).1
 have hA:∀ x ∈ as.map D.str,R0 x:=fun x hx=>by obtain ⟨y,hy,rfl⟩:=List.mem_map.mp hx; exact fa y hy
 obtain ⟨x5,h5,e5⟩:=ie (ss.map D.str) 0 (by decide) (by rw [DU]; have:=il hs; omega)
 obtain ⟨x6,h6,e6⟩:=ie (ws.map D.str) 0 (by decide) (by rw [DU]; exact pw)
 have r5:R1 x5:=by obtain ⟨y,hy,rfl⟩:=List.mem_map.mp h5; exact (fs y hy).2
 have r6:R1 x6:=by obtain ⟨y,hy,rfl⟩:=List.mem_map.mp h6; exact (fw y hy).2
 have lN:(ss.map D.str).length≤8:=by rw [DU]; exact ls
 have lW:(ws.map D.str).length≤20:=by rw [DU]; exact lw
 have lA:(as.map D.str).length≤8:=by rw [DU]; exact la
 generalize ss.map D.str=N at *
 generalize ws.map D.str=W at *
 generalize as.map D.str=A at *
 have k1:=jP N none (some 1)
 have k2:=jP A none (some 1)
 have k3:=jP W none (some (c / 13 % (ws.length:Int)))
 have k4:=jP W (some (c / 13 % (ws.length:Int))) none
 have m1:∀ x ∈ b5 N none (some 1),R0 x:=fun x hx=>hN x (jO hx)
 have m2:∀ x ∈ b5 A none (some 1),R0 x:=fun x hx=>hA x (jO hx)
 have m3:∀ x ∈ b5 W none (some (c / 13 % (ws.length:Int))),R0 x:=fun x hx=>hW x (jO hx)
 have m4:∀ x ∈ b5 W (some (c / 13 % (ws.length:Int))) none,R0 x:=fun x hx=>hW x (jO hx)
 generalize b5 N none (some 1)=C1 at *
 generalize b5 A none (some 1)=C2 at *
 generalize b5 W none (some (c / 13 % (ws.length:Int)))=C3 at *
 generalize b5 W (some (c / 13 % (ws.length:Int))) none=C4 at *
 have app:∀ {xs ys:List D},(∀ x ∈ xs,R0 x)→(∀ x ∈ ys,R0 x)→∀ x ∈ xs ++ ys,R0 x:=fun h1 h2 x hx=>(List.mem_append.mp hx).elim (h1 x) (h2 x)
 have one:∀ x ∈ [o],R0 x:=fun x hx=>by rw [EE] at hx; subst hx; exact ro
 rw [dD (by omega),af,dD (by omega),af,dD (by simp; omega),af,dD (by simp; omega),af,dD (by simp),af,dD (by simp; omega),af,e5,af,e6,af,dD (by simp),af,dD (by simp),af,cO]
 have w1:R1 (.lst W):=R1.lst hW (by omega)
 have n1:R1 (.lst N):=R1.lst hN (by omega)
 have z1:R1 (.lst []):=R1.lst (fun x hx=>by cases hx) (by decide)
 refine pR b0 (by simpa using b1) fun d hd=>?_
 simp only [DM,DN,EJ,Ey,Fy] at hd
 rcases hd with rfl | rfl | rfl | rfl | rfl | rfl | rfl | rfl | rfl | rfl | rfl | rfl | rfl
 ·exact Gd.two z1 w1
 ·exact Gd.two (R1.lst (app hN m1) (by rw [D9]; omega)) w1
 ·refine Gd.two (R1.lst (fun x hx=>?_) (by decide)) w1
  simp only [EJ,Ey,Fy] at hx
  rcases hx with rfl | rfl | rfl | rfl | rfl | rfl | rfl | rfl | rfl <;> exact R0.str (by decide) (by decide)
 ·exact Gd.two (R1.lst (app hN m2) (by rw [D9]; omega)) w1
 ·exact Gd.two n1 z1
 ·exact Gd.two n1 (R1.lst (app (app m3 one) m4) (by simp only [D9,DI,DJ]; omega))
 ·exact Gd.two (R1.lst (app one hN) (by simp only [D9,DI,DJ]; omega)) w1
 ·exact Gd.two r5 w1
 ·exact Gd.two n1 r6
 ·exact Gd.non
 ·exact Gd.dic (by decide)
 ·exact Gd.sr true (xs:=[.lst N]) (fun x hx=>by rw [EE] at hx; subst hx; exact n1) (by decide:1≤60)
 ·exact Gd.sr true (xs:=[.lst N,.lst W,.lst W]) (fun x hx=>by
   simp only [EJ,Ey,Fy] at hx
   rcases hx with rfl | rfl | rfl
   ·exact n1
   ·exact w1
   ·exact w1) (by decide:3≤60)
end Wk
def iD:Made→Option Nat
 | .ok _=>none
 | .bad j=>some j
theorem uJ (s:Sp) (m:Made):iD (m.add s)=iD m:=by cases m <;> rfl
theorem uK {as bs:List Str} (h:∀ x,x ∈ as ↔ x ∈ bs) (o:Option Sp):apB as o=apB bs o:=by
 have e:(fun n:Str=>decide (n ∈ as))=fun n=>decide (n ∈ bs):=by funext n; simp [h n]
 unfold apB
 rw [e]
theorem pS {as bs:List Str} (h:∀ x,x ∈ as ↔ x ∈ bs) (k:Nat) (ds:List D):c_ as k ds=c_ bs k ds:=by
 cases ds with
 | nil=>rfl
 | cons d ds =>
  unfold c_
  cases bw d with
  | none=>rfl
  | some s=>simp only [uK h]
theorem q_ {as:List Str}{k:Nat}{d:D}{ds:List D} (h:apB as (bw d)=false):c_ as k (d :: ds)=.bad k:=by
 unfold c_
 cases e:bw d with
 | none=>rfl
 | some s=>rw [e] at h; simp only [h]; rfl
theorem jR {as:List Str}{k:Nat}{d:D}{ds:List D}{s:Sp} (e:bw d=some s) (h:apB as (bw d)=true):c_ as k (d :: ds)=(c_ s.1 (k + 1) ds).add s:=by
 rw [e] at h
 conv=>lhs; unfold c_
 simp only [e,h,if_true]
theorem CF {d:D}{s:Sp} (h:SmP d) (e:bw d=some s):∃ t1 ss,ixE d (.int 0)=some (sr t1 (ss.map D.str))∧s.1=bb ss:=by
 rcases h with h | ⟨t,xs,rfl,hl,hx⟩
 ·rw [fN h] at e; cases e
 ·by_cases h2:xs.length=2
  ·obtain ⟨a,b,rfl⟩:=two h2
   rcases hx a (by simp) with h3 | ⟨t1,ns,rfl,hln,hns⟩
   ·rw [jY h3] at e; cases e
   ·rcases hx b (by simp) with h3 | ⟨t2,ws,rfl,hlw,hws⟩
    ·rw [jX h3] at e; cases e
    ·rw [eh] at e
     split at e
     ·rename_i hg
      cases e
      refine ⟨t1,cb ns,?_,rfl⟩
      rw [g7,at0,← cM (gb hg).1]
     ·cases e
  ·rw [fO h2] at e; cases e
namespace Wk
def stW:DE→Option Out :=
 (ay (ifS (kY (tst (un dN (var 9))) (bq (tst (al 2 b7 (aa (bin ixE (ae 6) (ae 10)) (aa (var 8) ag))))))
 (aB 9 (var 10))
 aQ)
 (ifS (tst (un dN (var 9)))
 (aB 8 (bin ixE (bin ixE (ae 6) (ae 10)) (cst (.int 0))))
 aQ))
def EW (L:List D) (a:_root_.Fin 13→Sl) (s8 s9 s10:Sl):DE:=[a 0,a 1,a 2,a 3,a 4,a 5,.own (.lst L),a 6,s8,s9,s10,a 7,a 8,a 9,a 10,a 11]
def mv:Option Nat→D
 | none=>.non
 | some j=>.int (0 + (j:Int))
theorem kG (i:Int):dN (.int i)=some (.bl false):=rfl
theorem f7:dN .non=some (.bl true):=rfl
theorem u4 {L:List D} (hL:∀ d ∈ L,SmP d) (hl:L.length≤1000) (a:_root_.Fin 13→Sl) (s10:Sl):wp (fD (eQ (aa (un bx (ae 6)) ag)) (nmG 10) stW (EW L a (.val (.tup [])) (.val .non) s10)) fun r=>∃ s8 s10',r=.nx (EW L a s8 (.val (mv (iD (c_ [] 0 L)))) s10'):=by
 rw [e9]
 have hr:eQ (aa (un bx (ae 6)) ag) (EW L a (.val (.tup [])) (.val .non) s10)=some (dE 0 L.length):=by
  have h1:je [.int (L.length:Int)]=some (dE 0 L.length):=by rw [cS (by omega) (by omega),Fi]
  exact h1
 rw [hr,af]
 refine hV (fun i:Nat=>D.int (0 + (i:Int))) (List.range L.length) (fun pre E=>∃ s8 s9 s10',E=EW L a s8 s9 s10' ∧
  ((∃ as ta,s8=.val (sr ta (as.map D.str))∧s9=.val .non∧iD (c_ [] 0 L)=iD (c_ as pre.length (L.drop pre.length)))∨∃ j:Nat,s9=.val (.int (0 + (j:Int)))∧iD (c_ [] 0 L)=some j)) rfl ⟨_,_,_,rfl,.inl ⟨[],true,rfl,rfl,rfl⟩⟩ ?_ ?_
 ·rintro pre x post E hy ⟨s8,s9,s10',rfl,hi⟩
  obtain ⟨rfl,hx⟩:=tq hy
  have hd:L.drop pre.length=L[pre.length] :: L.drop (pre.length + 1):=Ff hx
  have ha:atI L (0 + (pre.length:Int))=some L[pre.length]:=by rw [nF]; exact DT hx
  have hs:=hL _ (EI hx)
  generalize L[pre.length]=d at hd ha hs
  have hpl:(pre ++ [pre.length]).length=pre.length + 1:=by simp
  rcases hi with ⟨as,ta,rfl,rfl,hb⟩ | ⟨j,rfl,hb⟩
  ·have hp:=qD hs ta as
   cases hv:apB as (bw d) with
   | false =>
    rw [hv] at hp
    unfold stW EW
    simp only [af,aZ,ax,av,aB,aS,aF,aP,aQ,bin,un,var,ae,tst,asB,bq,kY,al,aa,ag,nmG,DC,DF,DI,DJ,DG,DH,on,DD,reduceIte,Nat.reduceAdd,Eh,cO,dN,↓f7,↓kG,ha,hp]
    refine ⟨_,_,_,rfl,.inr ⟨pre.length,rfl,?_⟩⟩
    rw [hb,hd,q_ hv]; rfl
   | true =>
    rw [hv] at hp
    obtain ⟨s,e⟩:∃ s,bw d=some s:=by
     cases e:bw d with
     | none=>rw [e] at hv; cases hv
     | some s=>exact ⟨s,rfl⟩
    obtain ⟨t1,ss,h0,h1⟩:=CF hs e
    unfold stW EW
    simp only [af,aZ,ax,av,aB,aS,aF,aP,aQ,bin,un,cst,var,ae,tst,asB,bq,kY,al,aa,ag,nmG,DC,DF,DI,DJ,DG,DH,on,DD,reduceIte,Nat.reduceAdd,Ee,cO,dN,↓f7,↓kG,ha,hp,h0]
    refine ⟨_,_,_,rfl,.inl ⟨ss,t1,rfl,rfl,?_⟩⟩
    rw [hpl,hb,hd,jR e hv,uJ,h1]
    rw [pS (fun x=>(aM ss).mem_iff)]
  ·unfold stW EW
   simp only [af,aZ,ax,av,aS,aP,aQ,bin,un,var,ae,tst,asB,bq,kY,al,aa,ag,nmG,DC,DF,DG,DH,on,DD,reduceIte,DR,cO,dN,↓f7,↓kG]
   exact ⟨_,_,_,rfl,.inr ⟨j,rfl,hb⟩⟩
 ·rintro E ⟨s8,s9,s10',rfl,⟨as,ta,rfl,rfl,hb⟩ | ⟨j,rfl,hb⟩⟩
  ·rw [FO,Gn] at hb
   rw [hb]
   exact ⟨_,_,rfl⟩
  ·rw [hb]
   exact ⟨_,_,rfl⟩
end Wk
def ApS:List Str→List Sp→Prop
 | _,[]=>True
 | as,s :: q=>apB as (some s)=true∧ApS s.1 q
theorem e_:∀ (ds:List D) (as:List Str) (k:Nat) (q:List Sp),c_ as k ds=.ok q→ds.map bw=q.map some∧ApS as q
 | [],as,k,q,h=>by cases h; exact ⟨rfl,trivial⟩
 | d :: ds,as,k,q,h=>by
  cases hv:apB as (bw d) with
  | false=>rw [q_ hv] at h; cases h
  | true =>
   cases e:bw d with
   | none=>rw [e] at hv; cases hv
   | some s =>
    rw [jR e hv] at h
    cases hw:c_ s.1 (k + 1) ds with
    | bad j=>rw [hw] at h; cases h
    | ok q' =>
     rw [hw] at h
     cases h
     obtain ⟨h1,h2⟩:=e_ ds s.1 (k + 1) q' hw
     rw [e] at hv
     exact ⟨by rw [DK,DK,h1,e],hv,h2⟩
theorem mw:∀ (q:List Sp) (as:List Str) (k:Nat) (ds:List D),ds.map bw=q.map some→ApS as q→c_ as k ds=.ok q
 | [],as,k,[],_,_=>rfl
 | s :: q,as,k,d :: ds,h,ha=>by
  rw [DK,DK] at h
  injection h with h1 h2
  rw [jR h1 (by rw [h1]; exact ha.1),mw q s.1 (k + 1) ds h2 ha.2]; rfl
 | [],_,_,_ :: _,h,_=>by cases h
 | _ :: _,_,_,[],h,_=>by cases h
theorem jS {ds:List D}{as:List Str}{k:Nat}{q:List Sp} (h:c_ as k ds=.ok q):ds.length=q.length:=by
 have:=ER List.length (e_ ds as k q h).1
 simpa using this
theorem rq {d:D}{s:Sp} (h:SmP d) (e:bw d=some s):∃ t1 t2 ss,ixE d (.int 0)=some (sr t1 (ss.map D.str))∧ixE d (.int 1)=some (sr t2 (s.2.map D.str))∧s.1=bb ss∧ss.length≤8∧df (ss.map D.str) (s.2.map D.str)=true∧s.2.length≤60 ∧
  (∀ x ∈ ss.map D.str,Sh.SmS x)∧∀ x ∈ s.2.map D.str,Sh.SmS x:=by
 rcases h with h | ⟨t,xs,rfl,hl,hx⟩
 ·rw [fN h] at e; cases e
 ·by_cases h2:xs.length=2
  ·obtain ⟨a,b,rfl⟩:=two h2
   rcases hx a (by simp) with h3 | ⟨t1,ns,rfl,hln,hns⟩
   ·rw [jY h3] at e; cases e
   ·rcases hx b (by simp) with h3 | ⟨t2,ws,rfl,hlw,hws⟩
    ·rw [jX h3] at e; cases e
    ·rw [eh] at e
     split at e
     ·rename_i hg
      cases e
      obtain ⟨g1,g2,g3,g4,g5,g6⟩:=gb hg
      have e1:=cM g1
      have e2:=cM g6
      refine ⟨t1,t2,cb ns,?_,?_,rfl,?_,?_,?_,?_,?_⟩
      ·rw [g7,at0,← e1]
      ·rw [g7,at1,← e2]
      ·exact D1 (FE _ _) g3
      ·rw [← e1,← e2]; exact hg
      ·exact D1 (FE _ _) hlw
      ·rw [← e1]; exact hns
      ·rw [← e2]; exact hws
     ·cases e
  ·rw [fO h2] at e; cases e
theorem sY (ss:List Str):bb (bb ss)=bb ss:=k9 (aM ss)
theorem nP {d:D}{s:Sp} (h:SmP d) (e:bw d=some s):SmP (bH s)∧bw (bH s)=some s:=by
 obtain ⟨t1,t2,ss,_,_,h3,h4,h5,h6,h7,h8⟩:=rq h e
 obtain ⟨s1,s2⟩:=s
 simp only at h3 h5 h6 h8
 subst h3
 obtain ⟨g1,g2,g3,g4,g5,g6⟩:=gb h5
 rw [ca] at g4
 rw [DU] at g2 g3
 have ea:bH (bb ss,s2)=sr true [sr true ((bb ss).map D.str),sr true (s2.map D.str)]:=rfl
 have sm:∀ x ∈ (bb ss).map D.str,Sh.SmS x:=fun x hx=>by
  obtain ⟨y,hy,rfl⟩:=List.mem_map.mp hx
  exact h7 _ (List.mem_map.mpr ⟨y,(aM ss).mem_iff.mp hy,rfl⟩)
 refine ⟨.inr ⟨true,_,ea,(by decide:2≤60),fun x hx=>?_⟩,?_⟩
 ·simp only [EJ,Ey,Fy] at hx
  rcases hx with rfl | rfl
  ·exact .inr ⟨true,_,rfl,by rw [DU,(aM ss).length_eq]; omega,sm⟩
  ·exact .inr ⟨true,_,rfl,by rw [DU]; exact h6,h8⟩
 ·have hg:df ((bb ss).map D.str) (s2.map D.str)=true:=by
   rw [gc g1] at h5
   rw [gc (pH g1),(aM ss).length_eq,show decide (bb ss).Nodup=decide ss.Nodup by simp only [(aM ss).nodup_iff]]
   exact h5
  rw [ea,eh,if_pos hg,ca,ca,sY]
theorem ApS.at:∀ {q:List Sp}{as:List Str},ApS as q→∀ (i:Nat) (h:i + 1 < q.length),apB q[i].1 (some q[i + 1])=true
 | _ :: _ :: _,_,h,0,_=>h.2.1
 | _ :: b :: q,_,h,i + 1,hi=>ApS.at (q:=b :: q) h.2 i (by simpa using hi)
 | [],_,_,_,hi=>by simp at hi
 | [_],_,_,_,hi=>by simp at hi
theorem Dk {q:List Sp}{as:List Str} (h:ApS as q):nb (q.map bH)=false:=by
 refine Bool.eq_false_iff.mpr fun z=>?_
 obtain ⟨i,hi,hc⟩:=(AY _).mp z
 rw [DU] at hi
 have:=h.at i hi
 rw [List.getElem_map,List.getElem_map,uG,xq] at hc
 have this:(!(q[i + 1].1.any fun n=>decide (n ∈ q[i].1)))=true:=this
 rw [hc] at this
 cases this
theorem Bh {q:List Sp}{as:List Str} (hq:∀ s ∈ q,fZ (bH s)=true) (h:ApS as q):yU (.tup (q.map bH))=true:=by
 show ((q.map bH).all fZ && !nb (q.map bH))=true
 rw [Dk h,List.all_eq_true.mpr fun x hx=>by obtain ⟨s,hs,rfl⟩:=List.mem_map.mp hx; exact hq s hs]; rfl
theorem yT {d:D}{s:Sp} (h:SmP d) (e:bw d=some s):fZ (bH s)=true:=by
 obtain ⟨t1,t2,ss,_,_,h3,h4,h5,_⟩:=rq h e
 obtain ⟨s1,s2⟩:=s
 simp only at h3 h5
 subst h3
 have g1:=(gb h5).1
 show fZ (.tup [.tup ((bb ss).map D.str),.tup (s2.map D.str)])=true
 rw [Wk.rz g1]; exact h5
theorem iy {ds:List D}{q:List Sp} (h:ds.map bw=q.map some) {s:Sp} (hs:s ∈ q):∃ d ∈ ds,bw d=some s:=by
 have:some s ∈ ds.map bw:=by rw [h]; exact List.mem_map.mpr ⟨s,hs,rfl⟩
 obtain ⟨d,hd,e⟩:=List.mem_map.mp this
 exact ⟨d,hd,e⟩
theorem uz {ds:List D}{q:List Sp} (hs:∀ d ∈ ds,SmP d) (h:ds.map bw=q.map some):(∀ x ∈ q.map bH,SmP x)∧(q.map bH).map bw=q.map some:=by
 refine ⟨fun x hx=>?_,?_⟩
 ·obtain ⟨s,hq,rfl⟩:=List.mem_map.mp hx
  obtain ⟨d,hd,e⟩:=iy h hq
  exact (nP (hs d hd) e).1
 ·rw [Gx]
  refine List.map_congr_left fun s hq=>?_
  obtain ⟨d,hd,e⟩:=iy h hq
  exact (nP (hs d hd) e).2
namespace Wk
theorem gZ {ds:List D}{q:List Sp}{t:Bool} (hs:∀ d ∈ ds,SmP d) (hl:ds.length≤1000) (h:c_ [] 0 ds=.ok q):bC [sr t ds]=some (d8 q)∧bC [d8 q]=some (d8 q):=by
 obtain ⟨h1,h2⟩:=e_ ds [] 0 q h
 obtain ⟨e1,e2⟩:=uz hs h1
 have a:=kh (t:=t) hs hl
 have hl2:(q.map bH).length≤1000:=by rw [DU,← jS h]; exact hl
 have b:=kh (t:=true) e1 hl2
 rw [h] at a
 rw [mw q [] 0 _ e2 h2] at b
 exact ⟨a,b⟩
theorem uA:g_is_play=Sh.g_is_play:=rfl
theorem yL {ds:List D}{q:List Sp} (hs:∀ d ∈ ds,SmP d) (hl:ds.length≤1000) (h:c_ [] 0 ds=.ok q) (h3:Sh.Sm3 (d8 q)):g_is_play [d8 q]=some (.bl true):=by
 obtain ⟨h1,h2⟩:=e_ ds [] 0 q h
 rw [uA,Sh.qC h3]
 rw [show yU (d8 q)=true from Bh (fun s hq=>by obtain ⟨d,hd,e⟩:=iy h1 hq; exact yT (hs d hd) e) h2]
end Wk
namespace Sh
theorem lH (k:Nat) (ds:List D) (h:∀ d ∈ ds,g__Lsame k [d,d]=some (.bl true)) (hx:ds.length≤4000000):g__Lsame (k + 1) [.tup ds,.tup ds]=some (.bl true):=by
 have hc:bO (nmG 2) noT (al 2 (g__Lsame k) (aa (bin ixE (ae 0) (ae 2)) (aa (bin ixE (ae 1) (ae 2)) ag))) [Sl.val (D.tup ds),Sl.val (D.tup ds),Sl.no] (dE 0 ds.length)=some ((List.range ds.length).map fun _=>D.bl true):=by
  rw [nW]
  refine bp _ _ _ fun i hi=>?_
  rw [GD] at hi
  refine aJ ?_
  simp only [af,bin,ae,al,aa,ag,DC,DF,DI,DJ,DG,DH,on,DD,reduceIte,Nat.reduceAdd,dM,nF,DT hi,h _ (EI hi)]
 have hz:(dE 0 ds.length).length≤16777216:=by simp [dE]; omega
 have hr:je [D.int (ds.length:Int)]=some (dE 0 ds.length):=by rw [cS (by omega) (by omega),Fi]
 have hb:((List.range ds.length).map fun _=>true).all id=true:=by simp
 refine aJ ?_
 simp only [g__Lsame,b__Lsame,af,az,ax,av,aV,aq,aS,aF,aP,aw,aQ,bin,un,ae,tst,asB,bq,orT,aa,ag,cX,isF,aU,aE,cV,tyN,DC,DF,DK,DL,DM,DN,DI,DJ,DG,DH,on,DD,List.replicate,DO,Eb,reduceIte,Nat.reduceAdd,Nat.reduceSub,Ee,DR,Ej,bX,String.reduceBEq,Ed,EB,Em,cB,bj,cZ,hr,hc,bj hz,bU (fun _:Nat=>true),hb]
end Sh
theorem wm {ds:List D}{q:List Sp} (h:ds.map bw=q.map some):ds.map gG=q.map bH:=by
 have e:ds.map gG=(ds.map bw).map fun o=>match o with | some s=>bH s | none=>.non:=by rw [Gx]; rfl
 rw [e,h,Gx]; rfl
theorem Bz {d:D}{s:Sp} (h:SmP d) (e:bw d=some s) {E:DE} (hE:E[15]? = some (.val d)) :
  bE (aa (un aW (un eM (bin ixE (ae 15) (cst (.int 0))))) (aa (un aW (bin ixE (ae 15) (cst (.int 1)))) ag)) E=some (gG d):=by
 obtain ⟨t1,t2,ss,h1,h2,h3,h4,_⟩:=rq h e
 have h6:ss.length < 64:=by omega
 unfold gG
 rw [e]
 simp only [bE,aa,ag,un,bin,ae,cst,hE,h1,h2,jZ t1 h6,iO,b_,DC,DF]
 unfold bH g8
 rw [h3]
 exact if_pos (by decide:2≤16777216)
theorem xp {ds:List D}{q:List Sp} (hs:∀ d ∈ ds,SmP d) (h:ds.map bw=q.map some) {E:DE} (hE:∀ v,(E.set 15 v)[15]? = some v) :
  bO (nmG 15) noT (bE (aa (un aW (un eM (bin ixE (ae 15) (cst (.int 0))))) (aa (un aW (bin ixE (ae 15) (cst (.int 1)))) ag))) E ds=some (q.map bH):=by
 have:=bp (fun d:D=>d) gG (i:=15) (ef:=bE (aa (un aW (un eM (bin ixE (ae 15) (cst (.int 0))))) (aa (un aW (bin ixE (ae 15) (cst (.int 1)))) ag))) (E:=E) ds fun d hd=>by
  have:some (bw d) ∈ (ds.map bw).map some:=List.mem_map.mpr ⟨_,List.mem_map.mpr ⟨d,hd,rfl⟩,rfl⟩
  obtain ⟨s,e⟩:∃ s,bw d=some s:=by
   have:bw d ∈ q.map some:=by rw [← h]; exact List.mem_map.mpr ⟨d,hd,rfl⟩
   obtain ⟨s,_,e⟩:=List.mem_map.mp this
   exact ⟨s,e.symm⟩
  exact Bz (hs d hd) e (hE _)
 rw [Fo,wm h] at this
 exact this
theorem sw {d:D}{s:Sp} (h:SmP d) (e:bw d=some s):s.1.length≤8∧s.2.length≤60∧(∀ x ∈ s.1,x.length≤1000)∧∀ x ∈ s.2,x.length≤1000:=by
 obtain ⟨t1,t2,ss,_,_,h3,h4,_,h6,h7,h8⟩:=rq h e
 refine ⟨by rw [h3,(aM ss).length_eq]; exact h4,h6,fun x hx=>?_,fun x hx=>h8 (.str x) (List.mem_map.mpr ⟨x,hx,rfl⟩) x rfl⟩
 rw [h3] at hx
 exact h7 (.str x) (List.mem_map.mpr ⟨x,(aM ss).mem_iff.mp hx,rfl⟩) x rfl
theorem B6 {ds:List D}{q:List Sp} (hs:∀ d ∈ ds,SmP d) (hl:q.length≤1000) (h:ds.map bw=q.map some):Sh.Sm3 (d8 q):=Sh.mD (by rw [DU]; exact hl) fun x hx=>by
 obtain ⟨s,hq,rfl⟩:=List.mem_map.mp hx
 obtain ⟨d,hd,e⟩:=iy h hq
 obtain ⟨a,b,c,f⟩:=sw (hs d hd) e
 exact Sh.rA (Sh.zr (by omega) c) (Sh.zr (by omega) f)
theorem iR {ds:List D}{q:List Sp} (hs:∀ d ∈ ds,SmP d) (hl:q.length≤1000) (h:ds.map bw=q.map some):Sh.g__Lsame 6 [d8 q,d8 q]=some (.bl true):=by
 refine Sh.lH 5 _ (fun x hx=>?_) (by rw [DU]; omega)
 obtain ⟨s,hq,rfl⟩:=List.mem_map.mp hx
 obtain ⟨d,hd,e⟩:=iy h hq
 obtain ⟨a,b,_⟩:=sw (hs d hd) e
 refine Sh.lH 4 [g8 s.1,g8 s.2] (fun x hx=>?_) (by decide:2≤4000000)
 simp only [EJ,Ey,Fy] at hx
 rcases hx with rfl | rfl
 ·have:=Sh.lG 2 s.1 s.1 (by omega) (by omega)
  rw [Ec rfl] at this; exact this
 ·have:=Sh.lG 2 s.2 s.2 (by omega) (by omega)
  rw [Ec rfl] at this; exact this
namespace Wk
theorem qO:∀ k,g__Lsame k=Sh.g__Lsame k
 | 0=>rfl
 | k + 1=>by
  show bF 2 3 (b__Lsame (g__Lsame k))=bF 2 3 (Sh.b__Lsame (Sh.g__Lsame k))
  rw [qO k]; rfl
theorem xA {L:List D}{q:List Sp}{tn tw:Bool}{nn ww:List Str} (hs:∀ d ∈ L,SmP d) (hl:L.length≤1000) (h:c_ [] 0 L=.ok q)
  (n1:nn ≠ []) (n8:nn.length≤8) (nd:nn.Nodup) (nt:∀ x ∈ nn,isT 8 x=true) (w1:ww ≠ []) (w8:ww.length≤60) (wt:∀ x ∈ ww,isT 12 x=true) :
  eV [.lst L,d8 q,sr tn (nn.map D.str),sr tw (ww.map D.str)]=some (.bl true):=by
 obtain ⟨h1,h2⟩:=e_ L [] 0 q h
 have ql:q.length≤1000:=by rw [← jS h]; exact hl
 have m1:=(gZ (t:=true) hs hl h).1
 have m2:=(gZ (t:=true) hs hl h).2
 have sq:=iR hs ql h1
 have hsm:SmP (.tup [sr tn (nn.map D.str),sr tw (ww.map D.str)]):=.inr ⟨true,_,rfl,(by decide:2≤60),fun x hx=>by
  simp only [EJ,Ey,Fy] at hx
  rcases hx with rfl | rfl
  ·refine .inr ⟨tn,_,rfl,by rw [DU]; omega,fun x hx=>?_⟩
   obtain ⟨y,hy,rfl⟩:=List.mem_map.mp hx
   exact Sh.jC (by have:=jL (nt y hy); omega)
  ·refine .inr ⟨tw,_,rfl,by rw [DU]; omega,fun x hx=>?_⟩
   obtain ⟨y,hy,rfl⟩:=List.mem_map.mp hx
   exact Sh.jC (by have:=jL (wt y hy); omega)⟩
 have hg:df (nn.map D.str) (ww.map D.str)=true:=by
  have p1:=il n1
  have p2:=il w1
  rw [gc (sL nt),Ec (show 1≤(nn.length:Int) by omega),Ec (show (nn.length:Int)≤8 by omega),Ec nd,DU,Ec (show 0 < (ww.length:Int) by omega),sL wt]; rfl
 have hsp:bw (.tup [sr tn (nn.map D.str),sr tw (ww.map D.str)])=some (bb nn,ww):=by
  have:=eh (t:=true) (t1:=tn) (t2:=tw) (ns:=nn.map D.str) (ws:=ww.map D.str)
  rw [if_pos hg,ca,ca] at this
  exact this
 have s1:∀ d ∈ [D.tup [sr tn (nn.map D.str),sr tw (ww.map D.str)]],SmP d:=fun d hd=>by rw [EE] at hd; subst hd; exact hsm
 have hw:c_ [] 0 [D.tup [sr tn (nn.map D.str),sr tw (ww.map D.str)]]=.ok [(bb nn,ww)]:=by
  refine mw [(bb nn,ww)] [] 0 _ (by rw [DK,hsp]; rfl) ⟨?_,trivial⟩
  show (!((bb nn).any fun n=>decide (n ∈ ([]:List Str))))=true
  simp
 have m3:=(gZ (t:=false) s1 (by decide:1≤1000) hw).1
 have sn:=iR (q:=[(bb nn,ww)]) s1 (by decide:1≤1000) (e_ _ [] 0 _ hw).1
 have m3':bC [.lst [D.tup [sr tn (nn.map D.str),sr tw (ww.map D.str)]]]=some (d8 [(bb nn,ww)]):=m3
 have n64:nn.length < 64:=by omega
 have ed:D.tup [D.tup [D.tup ((bb nn).map D.str),D.tup (ww.map D.str)]]=d8 [(bb nn,ww)]:=rfl
 have m1':bC [.tup L]=some (d8 q):=m1
 rw [← qO] at sq sn
 refine aJ ?_
 simp only [eV,b__Lagain,af,az,ax,av,aq,aS,aP,aw,aQ,un,var,ae,tst,asB,bq,bS,al,aa,ag,bE,bB,DC,DF,DK,DL,DM,DN,DI,DJ,on,DD,List.replicate,reduceIte,Nat.reduceAdd,Nat.reduceSub,Nat.reduceLeDiff,Ee,bj,b_,m3',jZ tn n64,iO,ed,sn,m1',m2,sq]
end Wk
theorem xb {n:Nat}{x:D} (h:c9 n x) (hn:n≤60) (hs:scD x x=none):eqO x x=some (.bl true):=by
 rw [pj h h hn hs]
 unfold nu
 rw [PySem.SeqAt.eqv_refl _ h.lay]
def rv {α:Type} (n:Int) (l:List α):List α:=if n = -1 then l.reverse else l
theorem rg {n:Int} (h:n=1∨n = -1) (z:List D):lx (.lst z) (.int n)=some (.lst (rv n z)):=by
 rcases h with rfl | rfl <;> rfl
theorem wj {α:Type}{n:Int}{l:List α}{x:α}:x ∈ rv n l ↔ x ∈ l:=by
 unfold rv
 split
 ·exact List.mem_reverse
 ·exact Iff.rfl
theorem qu {α:Type}{n:Int}{l:List α}:(rv n l).length=l.length:=by
 unfold rv
 split
 ·exact GE
 ·rfl
theorem wn {α β:Type}{n:Int}{l:List α} (f:α→β):(rv n l).map f=rv n (l.map f):=by
 unfold rv
 split
 ·exact List.map_reverse
 ·rfl
theorem v6 {α:Type}{n:Int}{l:List α} (h:l.Nodup):(rv n l).Nodup:=by
 unfold rv
 split
 ·exact (List.reverse_perm l).nodup_iff.mpr h
 ·exact h
def prD (b:Bool) (n:Int) (s:Sp):D:=sr (!b) [sr b ((rv n s.1).map D.str),sr b (s.2.map D.str)]
theorem el1 {s:Sp}{n:Int} (hn:n=1∨n = -1) {E:DE} (hE:E[15]? = some (.val (bH s))) (h5:E[5]? = some (.val (.int n))) :
  bE (aa (bin lx (un eT (bin ixE (ae 15) (cst (.int 0)))) (var 5)) (aa (un eT (bin ixE (ae 15) (cst (.int 1)))) ag)) E=some (prD false n s):=by
 have e0:ixE (bH s) (.int 0)=some (.tup (s.1.map D.str)):=rfl
 have e1:ixE (bH s) (.int 1)=some (.tup (s.2.map D.str)):=rfl
 simp only [bE,aa,ag,un,bin,ae,var,cst,hE,h5,e0,e1,gA,rg hn,DC,DF]
 unfold prD
 rw [wn]
 exact if_pos (by decide:2≤16777216)
theorem CT {p:List Sp}{n:Int} (hn:n=1∨n = -1) {E:DE} (hE:∀ v,(E.set 15 v)[15]? = some v) (h5:∀ v,(E.set 15 v)[5]? = some (.val (.int n))) :
  bO (nmG 15) noT (bE (aa (bin lx (un eT (bin ixE (ae 15) (cst (.int 0)))) (var 5)) (aa (un eT (bin ixE (ae 15) (cst (.int 1)))) ag))) E (p.map bH)=some (p.map (prD false n)) :=
 bp bH (prD false n) (i:=15) (E:=E) p fun s _=>el1 hn (hE _) (h5 _)
theorem el2 {s:Sp}{n:Int}{E:DE} (hE:E[15]? = some (.val (prD false n s))) :
  bB (aa (un aW (bin ixE (ae 15) (cst (.int 0)))) (aa (un aW (bin ixE (ae 15) (cst (.int 1)))) ag)) E=some (prD true n s):=by
 have e0:ixE (prD false n s) (.int 0)=some (.lst ((rv n s.1).map D.str)):=rfl
 have e1:ixE (prD false n s) (.int 1)=some (.lst (s.2.map D.str)):=rfl
 simp only [bB,aa,ag,un,bin,ae,var,cst,hE,e0,e1,b_,DC,DF]
 exact if_pos (by decide:2≤16777216)
theorem CS {p:List Sp}{n:Int}{E:DE} (hE:∀ v,(E.set 15 v)[15]? = some v) :
  bO (nmG 15) noT (bB (aa (un aW (bin ixE (ae 15) (cst (.int 0)))) (aa (un aW (bin ixE (ae 15) (cst (.int 1)))) ag))) E (p.map (prD false n))=some (p.map (prD true n)) :=
 bp (prD false n) (prD true n) (i:=15) (E:=E) p fun s _=>el2 (hE _)
theorem vE {i:Nat}{k f:DE→Option D}{E:DE}{ds:List D}{v:D}{j:Nat} (h6:E[i]? = some (.own (.lst ds))) (hv:f E=some v) (hk:k E=some (.int (j:Int))) (hj:j < ds.length):kg i k f E=some (.nx (E.set i (.own (.lst (ds.set j v))))):=by
 unfold kg
 have e:ixN ds.length (j:Int)=some j:=by
  unfold ixN
  rw [if_pos (by omega),if_pos (by omega),Fi]
 simp only [h6,hv,hk,e,DC,DF]
theorem qA (p:List Sp):aN (d8 p)=some (p.map bH):=rfl
theorem m6 {p:List Sp}{j:Nat} (h:j < p.length):ixE (d8 p) (.int (j:Int))=some (bH p[j]):=by
 show atI (p.map bH) (j:Int)=_
 rw [iE,EQ,DT h]; rfl
theorem wF (s:Sp):ixE (bH s) (.int 0)=some (g8 s.1):=rfl
theorem rB {i:Nat}{f:DE→Option D}{d:D}{E:DE}{g:DE→Option Out}{Q:Out→Prop} (h:f E=some d):wp (ay (aB i f) g E) Q=wp (g (E.set i (.val d))) Q:=by
 rw [ax]
 unfold aB
 rw [h]; rfl
theorem yJ {n:Nat}{xs:List D} (h:∀ x ∈ xs,c9 n x) (hn:n < 60):neO (.lst xs) (.lst [])=some (.bl (!decide (xs=[]))):=by
 rw [wb (n:=n + 1) (eY xs h) ((eY (n:=0) [] fun _ z=>by cases z).le (by omega)) (by omega) rfl]
 cases xs with
 | nil=>rfl
 | cons x xs=>simp [nu,toP,toPs,PyData.eqv,PyData.eqvAll]
theorem oZ (i:Int):dz (.int i)=some (.bl true):=rfl
theorem oY:dz .non=some (.bl false):=rfl
namespace Wk
theorem xD {M:Int}{x:Str} (h:isT M x=true) (hM:M≤12):R0 (.str x):=R0.str (by have:=jL h; omega) (rX h)
theorem CW {M:Int}{x:Str} (h:isT M x=true) (hM:M≤12):R1 (.str x):=R1.str (by have:=jL h; omega) (rX h)
theorem vD {s:Sp} (h:gm s) (b:Bool) (n:Int):R1 (sr b ((rv n s.1).map D.str)):=R1.sr b (fun x hx=>by
 obtain ⟨y,hy,rfl⟩:=List.mem_map.mp hx
 exact xD (h.nm y (wj.mp hy)) (by decide)) (by rw [DU,qu]; have:=h.le; omega)
theorem vC {s:Sp} (h:gm s) (b:Bool):R1 (sr b (s.2.map D.str)):=R1.sr b (fun x hx=>by
 obtain ⟨y,hy,rfl⟩:=List.mem_map.mp hx
 exact xD (h.wd y hy) (by decide)) (by rw [DU]; have:=h.wle; omega)
theorem zE {s:Sp} (h:gm s) (b:Bool) (n:Int):∀ x ∈ [sr b ((rv n s.1).map D.str),sr b (s.2.map D.str)],R1 x:=fun x hx=>by
 simp only [EJ,Ey,Fy] at hx
 rcases hx with rfl | rfl
 ·exact vD h b n
 ·exact vC h b
theorem Cm {s:Sp} (h:gm s) (b:Bool) (n:Int):Gd (prD b n s):=Gd.sr _ (zE h b n) (by decide:2≤60)
theorem yj {s:Sp} (h:gm s) (b:Bool) (n:Int):c9 3 (prD b n s):=ng _ _ fun x hx=>(zE h b n x hx).fn
theorem lB {s:Sp}{as:List Str}{c:Int} (h:gm s) (la:as.length≤8) (fa:∀ x ∈ as,isT 8 x=true):∃ d,cQ [bH s,g8 as,.int c]=some d∧Gd d :=
 sX (ss:=s.1) (ws:=s.2) h.ne h.wne h.le (by have:=h.wle; omega) la (fun x hx=>⟨xD (h.nm x hx) (by decide),CW (h.nm x hx) (by decide)⟩) (fun x hx=>⟨xD (h.wd x hx) (by decide),CW (h.wd x hx) (by decide)⟩) fun x hx=>xD (fa x hx) (by decide)
theorem u5 {L:List D} (hL:∀ d ∈ L,SmP d) (hl:L.length≤1000) (a0 a1 a2 a3 a4 a5 a7 s10 a11 a12 a13 a14 a15:Sl) :
  wp (fD (eQ (aa (un bx (ae 6)) ag)) (nmG 10) stW [a0,a1,a2,a3,a4,a5,.own (.lst L),a7,.val (.tup []),.val .non,s10,a11,a12,a13,a14,a15]) fun r=>∃ s8 s10',r=.nx [a0,a1,a2,a3,a4,a5,.own (.lst L),a7,s8,.val (mv (iD (c_ [] 0 L))),s10',a11,a12,a13,a14,a15] :=
 u4 hL hl (fun i=>List.get [a0,a1,a2,a3,a4,a5,a7,a11,a12,a13,a14,a15,a15] i) s10
theorem wA (k:Int):eqO (.tup [.int k,lg]) (.tup [.int k,lg])=some (.bl true):=by
 refine xb (n:=2) (l5 _ fun x hx=>?_) (by decide) rfl
 simp only [EJ,Ey,Fy] at hx
 rcases hx with rfl | rfl
 ·exact (pd _).le (by decide)
 ·exact ir D.bl [false,false,false,true,true] fun x _=>se x
theorem A2 (k:Int):neO (.tup [.int k,lg]) (.tup [.int k,lg])=some (.bl false):=by
 have h:=wA k
 unfold eqO at h
 unfold neO
 cases e:eqD (.tup [.int k,lg]) (.tup [.int k,lg]) with
 | none=>rw [e] at h; cases h
 | some b=>rw [e] at h; cases h; rfl
theorem uj (i:Int) (h0:0≤i) (h1:i < 4):∃ x,atI [D.str "nothing",.non,.int 5,.dic []] i=some x∧cK [x]=some (.tup [.non,.tup [.int 0,lg]]):=by
 obtain ⟨x,hx,e⟩:=ie [D.str "nothing",.non,.int 5,.dic []] i h0 (by simpa using h1)
 refine ⟨x,e,?_⟩
 have hs:gN x=false:=by
  simp only [EJ,Ey,Fy] at hx
  rcases hx with rfl | rfl | rfl | rfl <;> rfl
 obtain ⟨a,b⟩:=vM hs
 exact rh a b
theorem BB {L:List D} (hL:∀ d ∈ L,Gd d) (hl:L.length≤1000):aY 6 [.lst L]=some (.lst L):=sF false (k:=5) (fun x hx=>(hL x hx).cp) hl
theorem AX {L:List D} (hL:∀ d ∈ L,Gd d):neL (.lst L) (.lst L)=some (.bl false):=by
 unfold neL
 exact if_pos ⟨rfl,L,rfl,List.all_eq_true.mpr fun x hx=>(hL x hx).ok⟩
theorem vb:gC [.bl true,.bl true]=some (.bl true):=by
 refine aJ ?_
 simp only [gC,b__Ltruth,af,az,aq,aw,bin,ae,asB,bS,isF,tyN,DC,DF,DK,DL,DM,DN,DI,DJ,on,DD,List.replicate,reduceIte,Nat.reduceAdd,Nat.reduceSub,Ej,bX,String.reduceBEq,Ed,EB,Em,qL]
end Wk
theorem xn {α:Type}{l:List α}{a b:Option Int}{x:α} (h:x ∈ b5 l a b):x ∈ l:=by
 unfold b5 at h
 exact F0 (Fv h)
namespace Wk
theorem By:g__Lcell=Sh.g__Lcell:=rfl
theorem zb:g__Ltexts=Sh.g__Ltexts:=rfl
theorem Bx:g__Lplay=Sh.g__Lplay:=rfl
theorem yQ {ns:List Int}{c c1:Int}{names words:List Str}{p:List Sp}{cs:List D} (k0:Sh.g__Lcell [.scr ns,.int 0]=some (.int c)) (k1:Sh.g__Lcell [.scr ns,.int 1]=some (.int c1))
  (hnm:Sh.g__Ltexts [.int c1,.int (2 + c % 7),.int 8]=some (.lst (names.map D.str))) (hwd:Sh.g__Ltexts [.int (c / 100),.int (1 + c / 4 % 4),.int 12]=some (.lst (words.map D.str))) (hcs:(b5 ns (some 2) (some 42)).map D.int=cs)
  (hpl:Sh.g__Lplay [.lst cs,.lst (names.map D.str),.lst (words.map D.str)]=some (d8 p)) (hl:p.length≤60) (hp:∀ s ∈ p,gm s)
  (n1:names ≠ []) (n8:names.length≤8) (nd:names.Nodup) (nt:∀ x ∈ names,isT 8 x=true) (w1:words ≠ []) (w8:words.length≤60) (wt:∀ x ∈ words,isT 12 x=true):o_ [.scr ns]=some (.bl true):=by
 obtain ⟨n,hn,en⟩:∃ n:Int,(n=1∨n = -1)∧atI [D.int 1,.int (-1)] (c / 16 % 2)=some (.int n):=by
  rcases (show c / 16 % 2=0∨c / 16 % 2=1 by omega) with h | h
  ·exact ⟨1,.inl rfl,by rw [h]; rfl⟩
  ·exact ⟨-1,.inr rfl,by rw [h]; rfl⟩
 refine aJ ?_
 simp only [o_,xv,By,zb,Bx]
 generalize hK1:ay (aB 9 (cst .non)) _=K1
 have tail:∀ (L:List D) (c:Int) (s7 s8:Sl),(∀ d ∈ L,Gd d)→L.length≤60→wp (K1 [.val (.scr ns),.val (.int c),.val (.lst (names.map D.str)),.val (.lst (words.map D.str)),.val (d8 p),.val (.int n),.own (.lst L),s7,s8,.no,.no,.no,.no,.no,.no,.no]) (tf fun d=>d=.bl true):=fun L c s7 s8 hL hLl=>by
  rw [← hK1,rB (d:=.non) rfl,rB (d:=.tup []) rfl,ax]
  have hs:∀ d ∈ L,SmP d:=fun d hd=>(hL d hd).sm
  have hl':L.length≤1000:=by omega
  refine e8 (u5 hs hl' ..) ?_
  rintro _ ⟨s8',s10',rfl⟩
  rw [av]
  obtain ⟨x,hx,hj⟩:=uj (c / 4 % 4) (by omega) (by omega)
  have hcp:=BB hL hl'
  have hne:=AX hL
  have hz:L.length≤16777216:=by omega
  have hk0:=A2 0
  have hpa:=kh (t:=false) hs hl'
  cases hw:c_ [] 0 L with
  | bad j =>
   rw [hw] at hpa
   have ht:cK [.lst L]=_:=rh hpa.1 hpa.2
   have hkj:=wA (j:Int)
   simp only [iD,mv,Int.zero_add]
   simp only [af,ax,av,aV,aq,aB,aS,aF,aP,aw,aQ,bin,un,cst,var,ae,tst,asB,bS,al,aa,ag,bE,bB,bW,nmG,dJ,bh,dc,uD,aU,aE,a_,bd,DC,DF,DI,DJ,DG,DH,on,DD,DO,Eb,reduceIte,Nat.reduceAdd,Int.reduceLT,Int.reduceLE,Int.reducePow,Nat.reduceLeDiff,bj,cO,dM,cA,↓f7,↓oZ,fzE,hx,hj,at1,hk0,hcp,ht,hne,hkj]
  | ok q =>
   rw [hw] at hpa
   have ht:cK [.lst L]=_:=xN hpa
   obtain ⟨h1,h2⟩:=e_ L [] 0 q hw
   have ql:q.length≤1000:=by rw [← jS hw]; exact hl'
   have hdue:∀ E:DE,(∀ v,(E.set 15 v)[15]? = some v)→_:=fun E=>xp (E:=E) hs h1
   have hd':∀ a0 a1 a2 a3 a4 a5 a6 a7 a8 a9 a10 a11 a12 a13 a14 a15:Sl,_:=fun a0 a1 a2 a3 a4 a5 a6 a7 a8 a9 a10 a11 a12 a13 a14 a15=>hdue [a0,a1,a2,a3,a4,a5,a6,a7,a8,a9,a10,a11,a12,a13,a14,a15] fun _=>rfl
   have hsm:=iR hs ql h1
   rw [← qO] at hsm
   have hip:=yL hs hl' hw (B6 hs ql h1)
   have hag:eV [.lst L,d8 q,.lst (rv n (names.map D.str)),.lst (words.map D.str)]=some (.bl true):=by
    have:=xA (tn:=false) (tw:=false) (nn:=rv n names) (ww:=words) hs hl' hw (fun z=>n1 (List.length_eq_zero_iff.mp (by rw [← qu (n:=n),z]; rfl))) (by rw [qu]; exact n8) (v6 nd) (fun x hx=>nt x (wj.mp hx)) w1 w8 wt
    rw [wn] at this
    exact this
   have ed:D.tup (q.map bH)=d8 q:=rfl
   simp only [iD,mv]
   simp only [af,ax,av,aq,aB,aS,aP,aw,aQ,bin,un,cst,var,ae,tst,asB,bq,orT,al,aa,ag,bE,bB,bW,nmG,dJ,bh,dc,uD,aU,aE,a_,bd,aN,DC,DF,DI,DJ,DG,DH,on,DD,DO,Eb,reduceIte,Nat.reduceAdd,Int.reduceLT,Int.reduceLE,Int.reducePow,Nat.reduceLeDiff,Ee,DR,bj,cO,dM,cA,b_,↓f7,↓oY,fzE,hx,hj,at1,hk0,hcp,ht,hne,hz,hd',ed,hsm,hip,vb,rg hn,hag]
 generalize hK0:ay (aB 1 (bin bM _ _)) _=K0
 have cg:∀ b:Bool,wp (K0 [.val (.scr ns),.val (.int c),.val (.lst (names.map D.str)),.val (.lst (words.map D.str)),.val (d8 p),.val (.int n),.own (.lst (p.map (prD b n))),.no,.no,.no,.no,.no,.no,.no,.no,.no]) (tf fun d=>d=.bl true):=fun b=>by
  rw [← hK0]
  generalize hK3:ay (kg 6 (var 7) _) _=K3
  have hg:∀ d ∈ p.map (prD b n),Gd d:=fun d hd=>by
   obtain ⟨s,hs,rfl⟩:=List.mem_map.mp hd
   exact Cm (hp s hs) b n
  have hgl:(p.map (prD b n)).length=p.length:=DU _
  have hne:=yJ (n:=3) (xs:=p.map (prD b n)) (fun d hd=>by
   obtain ⟨s,hs,rfl⟩:=List.mem_map.mp hd
   exact yj (hp s hs) b n) (by decide)
  have key:∀ (L:List D) (d:D) (k:Nat),(∀ d ∈ L,Gd d)→Gd d→∀ x ∈ L.set k d,Gd x:=fun L d k h1 h2 x hx=>(List.mem_or_eq_of_mem_set hx).elim (h1 x) fun e=>e ▸ h2
  generalize p.map (prD b n)=L at hg hgl hne
  simp only [af,ax,av,aB,aS,bin,cst,ae,tst,asB,kY,ag,bB,a_,bd,gv,fC,DC,DF,DJ,DG,DH,on,DD,reduceIte,Int.reduceLT,Int.reduceLE,Int.reducePow,Int.reduceToNat,Int.reduceAbs,Nat.reducePow,Nat.reduceLT,Nat.reduceLeDiff,bj]
  generalize c / 10000000000000000000000000000000000000000=c'
  by_cases h3:0 < c' % 3
  ·by_cases hnil:L=[]
   ·simp only [h3,hne,hnil,aZ,asB,reduceIte,Ej]
    exact tail [] c' _ _ (fun d hd=>by cases hd) (by decide)
   ·have hpos:0 < (L.length:Int):=by have:=il hnil; omega
    have hpp:0 < (p.length:Int):=by omega
    simp only [h3,hne,hnil,hgl,af,ax,av,aB,aS,aF,bin,un,cst,ae,tst,asB,ag,bE,a_,bd,fC,DC,DF,DJ,DG,DH,on,DD,reduceIte,Int.reduceLT,Int.reduceLE,Int.reducePow,Nat.reduceLeDiff,Eh,Ej,Ex,bj,dB,hpp]
    obtain ⟨j,hj,ej⟩:∃ j:Nat,j < p.length∧c' / 3 % (p.length:Int)=(j:Int):=⟨(c' / 3 % (p.length:Int)).toNat,by have:=Eu (c' / 3) hpp; have:=Er (c' / 3) (show (p.length:Int) ≠ 0 by omega); omega,by have:=Er (c' / 3) (show (p.length:Int) ≠ 0 by omega); omega⟩
    rw [ej]
    have spoil:∀ as:List Str,as.length≤8→(∀ x ∈ as,isT 8 x=true)→wp (K3 [.val (.scr ns),.val (.int c'),.val (.lst (names.map D.str)),.val (.lst (words.map D.str)),.val (d8 p),.val (.int n),.own (.lst L),.val (.int (j:Int)),.val (g8 as),.no,.no,.no,.no,.no,.no,.no]) (xY K1 (tf fun d=>d=.bl true)):=fun as la fa=>by
     rw [← hK3,ax]
     obtain ⟨d,hd,gd⟩:=lB (c:=c' / 180) (hp _ (EI hj)) la fa
     rw [vE (ds:=L) (v:=d) (j:=j) rfl (by refine aJ ?_; simp only [af,bin,cst,var,ae,al,aa,ag,bd,DC,DF,DI,DJ,on,DD,reduceIte,Nat.reduceAdd,Int.reduceLT,Int.reduceLE,Int.reducePow,m6 hj,hd]) rfl (by omega),af,av]
     simp only [af,aS,bin,cst,ae,tst,asB,a_,bd,DC,DG,DH,on,DD,Int.reduceLT,Int.reduceLE,Int.reducePow,c4,El,hgl,hpp]
     refine fB (fun h9=>?_) fun h9=>?_
     ·simp only [af,ax,av,aB,bin,un,cst,ae,a_,bd,gv,DC,DF,DG,DH,on,DD,Int.reduceLT,Int.reduceLE,Int.reducePow,Int.reduceToNat,Int.reduceAbs,Nat.reducePow,Nat.reduceLT,c8,dB,El,hgl,hpp]
      obtain ⟨j2,hj2,ej2⟩:∃ j2:Nat,j2 < p.length∧((j:Int) + 1 + c' / 1000000000 % (p.length:Int)) % (p.length:Int)=(j2:Int):=⟨(((j:Int) + 1 + c' / 1000000000 % (p.length:Int)) % (p.length:Int)).toNat,by have:=Eu ((j:Int) + 1 + c' / 1000000000 % (p.length:Int)) hpp; have:=Er ((j:Int) + 1 + c' / 1000000000 % (p.length:Int)) (show (p.length:Int) ≠ 0 by omega); omega,by have:=Er ((j:Int) + 1 + c' / 1000000000 % (p.length:Int)) (show (p.length:Int) ≠ 0 by omega); omega⟩
      rw [ej2]
      obtain ⟨d2,hd2,gd2⟩:=lB (as:=[]) (c:=c' / 1000000000000) (hp _ (EI hj2)) (by decide) (fun _ h=>by cases h)
      have hd2':cQ [bH p[j2],.tup [],.int (c' / 1000000000000)]=some d2:=hd2
      rw [vE (ds:=L.set j d) (v:=d2) (j:=j2) rfl (by refine aJ ?_; simp only [af,bin,cst,ae,al,aa,ag,bE,bd,gv,DC,DF,DI,DJ,on,DD,reduceIte,Nat.reduceAdd,Int.reduceLT,Int.reduceLE,Int.reducePow,Int.reduceToNat,Int.reduceAbs,Nat.reducePow,Nat.reduceLT,Nat.reduceLeDiff,bj,m6 hj2,hd2']) rfl (by rw [El]; omega),af,av]
      exact tail ((L.set j d).set j2 d2) c' _ _ (key _ _ _ (key _ _ _ hg gd) gd2) (by rw [El,El]; omega)
     ·simp only [af,av,aQ]
      exact tail (L.set j d) c' _ _ (key _ _ _ hg gd) (by rw [El]; omega)
    refine fB (fun h0=>?_) fun h0=>?_
    ·obtain ⟨i,rfl⟩:∃ i,j=i + 1:=⟨j - 1,by omega⟩
     have ei:((i + 1:Nat):Int) - 1=(i:Int):=by omega
     have hi:i < p.length:=by omega
     simp only [af,av,aB,bin,cst,ae,jV,DC,DF,DG,DH,on,DD,ei,m6 hi,wF]
     exact spoil _ (hp _ (EI hi)).le (hp _ (EI hi)).nm
    ·simp only [af,av,aQ]
     exact spoil [] (by decide) (fun _ h=>by cases h)
  ·simp only [h3,af,av,aP,aQ,reduceIte,DR,Ex]
   exact tail L c' _ _ hg (by omega)
 have zz:(p.map bH).length≤16777216:=by rw [DU]; omega
 have zy:(p.map (prD false n)).length≤16777216:=by rw [DU]; omega
 have hc1:∀ a0 a1 a2 a3 a4 a6 a7 a8 a9 a10 a11 a12 a13 a14 a15:Sl,_:=fun a0 a1 a2 a3 a4 a6 a7 a8 a9 a10 a11 a12 a13 a14 a15=>CT (p:=p) hn (E:=[a0,a1,a2,a3,a4,.val (.int n),a6,a7,a8,a9,a10,a11,a12,a13,a14,a15]) (fun _=>rfl) fun _=>rfl
 have hc2:∀ a0 a1 a2 a3 a4 a5 a6 a7 a8 a9 a10 a11 a12 a13 a14 a15:Sl,_:=fun a0 a1 a2 a3 a4 a5 a6 a7 a8 a9 a10 a11 a12 a13 a14 a15=>CS (p:=p) (n:=n) (E:=[a0,a1,a2,a3,a4,a5,a6,a7,a8,a9,a10,a11,a12,a13,a14,a15]) fun _=>rfl
 simp only [af,az,ax,av,aB,dF,aS,bin,cst,var,ae,tst,asB,al,aa,ag,bB,bW,cc,bJ,aU,aE,a_,bd,DC,DF,DK,DL,DM,DN,DI,DJ,DG,DH,on,DD,List.replicate,DO,Eb,reduceIte,Nat.reduceAdd,Nat.reduceSub,Int.reduceLT,Int.reduceLE,Int.reducePow,Int.reduceNeg,Nat.reduceLeDiff,c8,mF,c4,bj,cO,↓qA,k0,k1,hnm,hwd,hcs,hpl,en,bj zz,hc1]
 refine fB (fun h=>?_) fun h=>?_
 ·simp only [af,av,aN,DC,DF,DG,DH,on,DD,reduceIte,bj,fzE,bj zy,hc2]
  exact cg true
 ·simp only [af,av,aQ]
  exact cg false
theorem wy (ns:List Int) (hn:ns.length≤63) (hb:∀ i ∈ ns,Builtin.Int.intBits i≤2 ^ 20):o_ [.scr ns]=some (.bl true):=by
 obtain ⟨_,k0,c,rfl,hc⟩:=fK.mp (Sh.sH hb 0)
 obtain ⟨_,k1,c1,rfl,hc1⟩:=fK.mp (Sh.sH hb 1)
 have a0:0≤c % 7:=Er _ (by decide)
 have a1:c % 7 < 7:=Eu _ (by decide)
 have b0:0≤c / 4 % 4:=Er _ (by decide)
 have b1:c / 4 % 4 < 4:=Eu _ (by decide)
 obtain ⟨_,hnm,names,rfl,nl,nd,nw⟩:=fK.mp (Sh.nN c1 (2 + c % 7) 8 (2 + (c % 7).toNat) 8 (by omega) rfl (by omega) (by omega) (by omega))
 obtain ⟨_,hwd,words,rfl,wl,wd,ww⟩:=fK.mp (Sh.nN (c / 100) (1 + c / 4 % 4) 12 (1 + (c / 4 % 4).toNat) 12 (by omega) rfl (by omega) (by omega) (by omega))
 have n8:names.length≤8:=by omega
 obtain ⟨cs,hcs⟩:∃ cs,cs=b5 ns (some 2) (some 42):=⟨_,rfl⟩
 have hcl:cs.length≤60:=by
  have e:b5 ns (some 2) (some 42)=(ns.take 42).drop 2:=sE ns 2 42
  rw [hcs,e,Fz,FY]; omega
 have hcm:∀ i ∈ cs,Builtin.Int.intBits i≤2 ^ 20:=fun i hi=>hb i (by rw [hcs] at hi; exact xn hi)
 obtain ⟨_,hpl,p,rfl,plen,pgood⟩:=fK.mp (Sh.yn cs names words hcm (by omega) nd (by omega) n8 (fun x hx=>(nw x hx).lowS) (by omega))
 exact yQ k0 k1 hnm hwd (by rw [hcs]) hpl (by omega) (fun s hs=>(pgood.each s hs).fine nw ww n8) (fun z=>by rw [z] at nl; simp at nl; omega) n8 nd (fun x hx=>(nw x hx).isT) (fun z=>by rw [z] at wl; simp at wl; omega) (by omega) fun x hx=>(ww x hx).isT
end Wk
end L2.Cu
namespace L2.Cu.Wk
open PySem PySem.W PyProof.Rows
set_option maxRecDepth 100000
set_option maxHeartbeats 0
theorem Df:qV PySem.Challenge.pw_cuebook_k02_a_play_made (view PySem.Challenge.pw_cuebook_k02_a_play_made [43]) (gV PySem.Challenge.pw_cuebook_k02_a_play_made) (fun s=>xlAt (view PySem.Challenge.pw_cuebook_k02_a_play_made [43]) [] s && recOk [] s) (fun s=>iu PySem.Challenge.pw_cuebook_k02_a_play_made ds zs cs moK (KH s.heap)) (pq PySem.Challenge.pw_cuebook_k02_a_play_made ds zs cs moB) 20000:=fun w os=>by kernel_rfl
theorem B7:PySem.W.Fast.tw9446332074065402090 PySem.Challenge.rw_cuebook_k02_a_play_made=true:=by kernel_rfl
theorem CD (hw:PySem.Challenge.rw_cuebook_k02_a_play_made.row.toRowW.promised):PySem.Challenge.rw_cuebook_k02_a_play_made.Holds :=
  Cv (l:=PySem.Challenge.rw_cuebook_k02_a_play_made) (n:=63) (k:=10) (x := "_law_script") (g:=o_) Df B7 (by kernel_rfl) rfl (fun s=>by kernel_rfl) rfl rfl rfl (by decide +kernel) ⟨rfl,rfl,rfl,rfl,rfl,by decide +kernel⟩ hw rfl (by decide) rfl ⟨rfl,by decide,by decide⟩ rfl (by decide) (fun T base kb nb=>AU T) (fun _ _ _ _ _ _ _=>rfl) wy
end L2.Cu.Wk
open PySem PySem.W PyProof.Rows
set_option maxRecDepth 100000 in
set_option maxHeartbeats 0 in
theorem PySem.Challenge.cw_cuebook_k02_a_play_made_holds : PySem.Challenge.rw_cuebook_k02_a_play_made.Holds := by
  refine L2.Cu.Wk.CD ?hw
  case hw=>w_witness2
