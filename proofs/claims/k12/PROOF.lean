import PyProof.Rows.All
import Wide.All
import OpenK.AllK
import Wide.FinOn
import Lean
import PyProof.EqAt
import PyProof.EqKinds
import PyProof.TupleCall
import PyProof.Rows.SetFrom
import PyProof.SetRoads
import PyProof.TableTree
import PyProof.FactsTree
import KE.KDictSum
import PyProof.WalksMore
import PyProof.Rows.SortStr
import PyProof.DictUpdate
import PyProof.ZipIter
import PyProof.Draws
import PyProof.Rows.FactsT2
import PyProof.EnumMake
import PyProof.Rows.EnumRows
import PyProof.DictItemsLoops
import KE.KPairComp
import KE.KEqDict
import PyProof.Rows.Range3
import PyProof.TupleOfSeq
import PyProof.AttrMissSeq
import KE.KDictOf
import PySem.Challenge.RW_cuebook_k12_books_cut
set_option Elab.async false
set_option linter.all false
set_option maxRecDepth 100000
universe u v
theorem on{α:Type u}{a:α}{l:List α}:(a::l)[0]?=some a:=rfl
theorem Ef{α:Type u}{β:Type v}(a:α)(f:α→Option β):(some a).bind f=f a:=rfl
theorem Eh{α:Type u}{a:α}{i:Nat}{l:List α}:(a::l)[i+1]?=l[i]?:=rfl
theorem Ej{α:Type u}{β:Type v}(a:α)(f:α→β):(some a).map f=some (f a):=rfl
theorem Ek{α:Type u}{x:α}{xs:List α}{a:α}:(x::xs).set 0 a=a::xs:=rfl
theorem El{α:Type u}{x:α}{xs:List α}{i:Nat}{a:α}:(x::xs).set (i+1) a=x::xs.set i a:=rfl
theorem Em{α:Type u}{a:α}{as:List α}:(a::as).length=as.length+1:=rfl
theorem En{α:Type u}:([]:List α).length=0:=rfl
theorem Eo{α:Type u}{β:Type v}{f:α→β}{a:α}{l:List α}:(a::l).map f=f a::l.map f:=rfl
theorem Er{α:Type u}{β:Type v}{f:α→β}:[].map f=([]:List β):=rfl
theorem Eu{α:Type u}{a:α}{as bs:List α}:a::as++bs=a::(as++bs):=rfl
theorem Ex{α:Type u}(as:List α):[]++as=as:=rfl
theorem Ey{α:Type u}{β:Type v}{a:α}{l:List α}{f:β→α→β}{b:β}:(a::l).foldl f b=l.foldl f (f b a):=rfl
namespace L2
open PySem PySem.Spec PyProof.Rows
noncomputable abbrev Key:=Sum (Option Int) Str
noncomputable def gT:Key→Value→Bool
 | .inl (some k),v=>Value.isInt k v
 | .inl none,v=>match v with | .none=>true | _=>false
 | .inr x,v=>Value.isStrOf x v
noncomputable def DZ (w:World):Key→Int
 | .inl (some k)=>hashInt k
 | .inl none=>reduceHash 0xFCA86420
 | .inr x=>hashStr w x
theorem bA:∀ {k:Key}{v:Value},gT k v=true→(∃ i t,k=Sum.inl (some i)∧v=Value.int i t)∨(∃ x t,k=Sum.inr x∧v=Value.str x t)∨(k=Sum.inl none∧v=Value.none)
 | .inl (some i),v,h=>by
  obtain ⟨t,e⟩:=Value.isInt_shape (k:=i) (v:=v) h
  exact .inl ⟨i,t,rfl,e⟩
 | .inl none,v,h=>by
  cases v <;> first | exact .inr (.inr ⟨rfl,rfl⟩) | exact absurd h (by decide) | (simp [gT] at h)
 | .inr x,v,h=>by
  obtain ⟨t,e⟩:=Value.isStrOf_shape (x:=x) (v:=v) h
  exact .inr (.inl ⟨x,t,rfl,e⟩)
theorem uT (i:Int) (t:Tok):gT (.inl (some i)) (.int i t)=true:=by simp [gT,Value.isInt]
theorem uR (x:Str) (t:Tok):gT (.inr x) (.str x t)=true:=by simp [gT,Value.isStrOf]
theorem uS:gT (.inl none) .none=true:=rfl
theorem BH (a b:Int):decide ((Sum.inl (some a):Key)=Sum.inl (some b))=(a == b):=by
 by_cases e:a=b
 ·subst e; simp
 ·have h:¬ (Sum.inl (some a):Key)=Sum.inl (some b):=fun q=>e (Option.some.inj (Sum.inl.inj q))
  rw [decide_eq_false h]
  exact (beq_eq_false_iff_ne.mpr e).symm
theorem BE (a b:Str):decide ((Sum.inr a:Key)=Sum.inr b)=decide (a=b):=by
 by_cases e:a=b
 ·subst e; simp
 ·have h:¬ (Sum.inr a:Key)=Sum.inr b:=fun q=>e (Sum.inr.inj q)
  rw [decide_eq_false h,decide_eq_false e]
theorem xj (a:Option Int) (b:Str):decide ((Sum.inl a:Key)=Sum.inr b)=false:=decide_eq_false (fun q=>nomatch q)
theorem xi (a:Str) (b:Option Int):decide ((Sum.inr a:Key)=Sum.inl b)=false:=decide_eq_false (fun q=>nomatch q)
theorem BG (a:Int):decide ((Sum.inl (some a):Key)=Sum.inl none)=false:=decide_eq_false (fun q=>nomatch q)
theorem BF (a:Int):decide ((Sum.inl none:Key)=Sum.inl (some a))=false:=decide_eq_false (fun q=>nomatch q)
theorem u3 {prog:Program}{w:World}{A:Around}{E:Value→Shared→Prop}{s:Shared}{Q:Int→Shared→Prop} (h:Q (reduceHash 0xFCA86420) { s with toks:=s.toks + 1 }):wpAny (model prog w) A (pyHash .none) Q E s:=by
 exact PySem.W.pyHash_slot (T := "NoneType") rfl F.slot_NoneType_hash F.entry_NoneType_hash (F.args_NoneType_hash_1 _) (PySem.beq_builtin_none _) (.inl rfl) (wpAny_bind (wpAny_pure (wpAny_bind (wpAny_mkInt (wpAny_pure ⟨_,_,rfl,h⟩)))))
noncomputable def aL (prog:Program) (w:World):PySem.KeyKind prog w Key where
 is:=gT
 hash:=DZ w
 inj:=fun v a b ha hb=>by
  rcases bA ha with ⟨i,t,rfl,rfl⟩ | ⟨x,t,rfl,rfl⟩ | ⟨rfl,rfl⟩ <;> rcases bA hb with ⟨j,u,rfl,e⟩ | ⟨y,u,rfl,e⟩ | ⟨rfl,e⟩ <;> first | rfl | (injection e with e1 _; rw [e1]; done) | (cases e; done)
 byValue:=fun k v h=>by
  rcases bA h with ⟨i,t,rfl,rfl⟩ | ⟨x,t,rfl,rfl⟩ | ⟨rfl,rfl⟩ <;> rfl
 pyHash:=fun hv h=>by
  rcases bA hv with ⟨i,t,rfl,rfl⟩ | ⟨x,t,rfl,rfl⟩ | ⟨rfl,rfl⟩
  ·exact wpAny_pyHash_int h
  ·exact wpAny_pyHash_str h
  ·exact u3 h
 eqBool:=fun hu hv h=>by
  rcases bA hu with ⟨i,t,rfl,rfl⟩ | ⟨x,t,rfl,rfl⟩ | ⟨rfl,rfl⟩
  ·rcases bA hv with ⟨j,u,rfl,rfl⟩ | ⟨y,u,rfl,rfl⟩ | ⟨rfl,rfl⟩
   ·rw [BH] at h; exact wpAny_eqBool_int h
   ·rw [xj] at h; exact SeqAt.EqAt.int_str i t y u _ _ _ _ h
   ·rw [BG] at h; exact SeqAt.EqAt.int_none i t _ _ _ _ h
  ·rcases bA hv with ⟨j,u,rfl,rfl⟩ | ⟨y,u,rfl,rfl⟩ | ⟨rfl,rfl⟩
   ·rw [xi] at h; exact SeqAt.EqAt.str_int x t j u _ _ _ _ h
   ·rw [BE] at h; exact wpAny_eqBool_str h
   ·rw [xi] at h; exact SeqAt.EqAt.str_none x t _ _ _ _ h
  ·rcases bA hv with ⟨j,u,rfl,rfl⟩ | ⟨y,u,rfl,rfl⟩ | ⟨rfl,rfl⟩
   ·rw [BF] at h; exact SeqAt.EqAt.none_int j u _ _ _ _ h
   ·rw [xj] at h; exact SeqAt.EqAt.none_str y u _ _ _ _ h
   ·rw [decide_eq_true rfl] at h; exact SeqAt.EqAt.same _ _ _ _ _ h
 «strs»:=fun k x t v h=>by
  rcases bA h with ⟨i,u,rfl,e⟩ | ⟨y,u,rfl,e⟩ | ⟨rfl,e⟩
  ·exact nomatch e
  ·injection e with e1 _
   subst e1
   cases v <;> rfl
  ·exact nomatch e
theorem pG (prog:Program) (w:World) (i:Int) (t:Tok):(aL prog w).is (.inl (some i)) (.int i t)=true:=uT i t
theorem pF (prog:Program) (w:World) (x:Str) (t:Tok):(aL prog w).is (.inr x) (.str x t)=true:=uR x t
inductive V where
 | non | bl (b:Bool) | int (i:Int) | str (x:Str) | byt (b:Array UInt8) | flt (b:UInt64) | ref (a:Addr) | ty (n:String)
 deriving DecidableEq
noncomputable def aW:V→Value→Prop
 | .non,u=>u=Value.none
 | .bl b,u=>u=Value.bool b
 | .int i,u=>∃ t,u=Value.int i t
 | .str x,u=>∃ t,u=Value.str x t
 | .byt b,u=>∃ t,u=Value.bytes b t
 | .flt b,u=>∃ t,u=Value.float b t
 | .ref a,u=>u=Value.ref a
 | .ty n,u=>u=Value.type n
noncomputable abbrev aZ:List V→List Value→Prop:=Paired aW
theorem aZ.length {xs:List V}{us:List Value} (r:aZ xs us):xs.length=us.length:=Paired.length r
theorem aZ.get:∀ {xs:List V}{us:List Value}{i:Nat}{x:V},aZ xs us→xs[i]? = some x→∃ u,us[i]? = some u∧aW x u
 := fun {xs us i x} r e=>by
  cases r with
  | nil=>cases e
  | cons r t =>
   cases i with
   | zero=>cases e; exact ⟨_,rfl,r⟩
   | succ i=>exact aZ.get (i:=i) t e
theorem aZ.append:∀ {xs ys:List V}{us ws:List Value},aZ xs us→aZ ys ws→aZ (xs ++ ys) (us ++ ws)
 := fun r s=>by
  cases r with
  | nil=>exact s
  | cons r t=>exact .cons r (aZ.append t s)
theorem aZ.take:∀ {xs:List V}{us:List Value} (n:Nat),aZ xs us→aZ (xs.take n) (us.take n)
 := fun n r=>by
  cases n with
  | zero=>exact .nil
  | succ n =>
   cases r with
   | nil=>exact .nil
   | cons r t=>exact .cons r (aZ.take n t)
theorem aZ.drop:∀ {xs:List V}{us:List Value} (n:Nat),aZ xs us→aZ (xs.drop n) (us.drop n)
 := fun n r=>by
  cases n with
  | zero=>exact r
  | succ n =>
   cases r with
   | nil=>exact .nil
   | cons _ t=>exact aZ.drop n t
noncomputable def fS:Option V→Option Value→Prop
 | some v,some u=>aW v u
 | none,none=>True
 | _,_=>False
noncomputable def KV {κ:Type}:List (κ×V)→List (κ×Value)→Prop:=Paired fun (p:κ×V) (q:κ×Value)=>p.1=q.1∧aW p.2 q.2
noncomputable def kV:Key→V
 | .inl (some i)=>.int i
 | .inl none=>.non
 | .inr x=>.str x
inductive HO where
 | lst (xs:List V)
 | tup (xs:List V)
 | dK (kvs:List (Key×V)) | dT (kvs:List (List Key×V))
 | set (S:Int→Bool) (n:Nat)
 | ins (C dx:Addr) (fs:List (Str×V))
 | own (x:Addr)
 | xd (fs:List (Str×V))
 | met (f x:Addr)
 | rng (lo hi:Int)
 | frz (o:Obj) (u:HO)
 | tbl (ps:Array Value)
 | ext (φ:Heap→Prop)
noncomputable abbrev Hp:=Addr→Option HO
noncomputable def upd (H:Hp) (a:Addr) (o:HO):Hp:=fun b=>if b=a then some o else H b
theorem ap {H:Hp}{a:Addr}{o:HO}:upd H a o a=some o:=by unfold upd; rw [if_pos rfl]
theorem ah {H:Hp}{a b:Addr}{o:HO} (h:b ≠ a):upd H a o b=H b:=by unfold upd; rw [if_neg h]
theorem Dh {H:Hp}{a b:Addr}{o u:HO} (h:H a=some o) (h':H b=some u) (d:o ≠ u):a ≠ b:=by
 intro e; subst e; rw [h] at h'; exact d (Option.some.inj h')
theorem bG {H:Hp}{a b:Addr}{o:HO} (h:H a=some o) (h':H b=none):a ≠ b:=by
 intro e; subst e; rw [h] at h'; cases h'
section
variable (P:Program) (w:World)
noncomputable def b6 (H:Hp) (h:Heap) (a:Addr):HO→Prop
 | .lst xs=>xs.length≤sizeLine∧∃ (its:List Value) (n:Nat),aZ xs its∧h.get? a=some { cls:=.type "list",data:=.seq its.toArray n }
 | .tup xs=>xs.length≤sizeLine∧∃ its:List Value,aZ xs its∧IsTup h a its.toArray
 | .dK kvs=>kvs.length≤sizeLine∧(a == sysModules)=false∧∃ vs,KV kvs vs∧h.DictOf (aL P w) a vs
 | .dT kvs=>kvs.length≤sizeLine∧(a == sysModules)=false∧∃ xs:List (List Key×Addr×Value),
   Paired (fun (p:List Key×V) (q:List Key×Addr×Value)=>p.1=q.1∧H q.2.1=some (.tup (p.1.map kV))∧aW p.2 q.2.2) kvs xs ∧
   ∃ o es ep,h.get? a=some o∧o.ExactDict∧o.data=.dict es ep∧es.toList=xs.map (entryOfKey (tupleKind (aL P w)))∧(xs.map (·.1)).Nodup
 | .set S n=>h.SetOf (intKind P w) a S n
 | .ins C dx fs=>H dx=some (.own a)∧fs.length≤1000∧dx ≠ a∧h.get? a=some (PySem.W.instObj C dx) ∧
   ∃ mA,h.Ns1 dx mA∧(∀ f,fS (fs.lookup f) (mA f))∧PySem.Within mA (fs.map (·.1))
 | .own _=>∃ o,h.get? a=some o
 | .xd fs=>∃ mA,h.Ns1 a mA∧∀ f,fS (fs.lookup f) (mA f)
 | .rng lo hi=>∃ t u v,h.get? a=some { cls:=.type "range",data:=.fields #[.int lo t,.int hi u,.int 1 v] }
 | .frz o u=>h.get? a=some o∧b6 H h a u
 | .tbl ps=>h.get? a=some { cls:=.none,data:=.fields ps }
 | .met f x=>h.get? a=some (PySem.W.methodObj (.ref f) (.ref x))
 | .ext φ=>φ h∧(∃ o,h.get? a=some o)∧∀ h1 h2:Heap,φ h1→(∀ o,h1.get? a=some o→h2.get? a=some o)→φ h2
noncomputable def HOk (H:Hp) (h:Heap):Prop:=∀ a o,H a=some o→b6 P w H h a o
end
section
variable {P:Program}{w:World}{H H':Hp}{h h':Heap}{a:Addr}{o:HO}
theorem b6.lt (x:b6 P w H h a o):a < h.objs.size:=by
 cases o with
 | lst xs=>obtain ⟨_,_,_,_,e⟩:=x; exact Heap.lt_size e
 | tup xs=>obtain ⟨_,_,_,p⟩:=x; exact p.lt
 | dK kvs=>obtain ⟨_,_,_,_,o,_,_,e,_⟩:=x; exact Heap.lt_size e
 | dT kvs=>obtain ⟨_,_,_,_,o,_,_,e,_⟩:=x; exact Heap.lt_size e
 | set S n=>obtain ⟨o,_,_,_,e,_⟩:=x; exact Heap.lt_size e
 | ins C dx fs=>obtain ⟨_,_,_,e,_⟩:=x; exact Heap.lt_size e
 | own y=>obtain ⟨_,e⟩:=x; exact Heap.lt_size e
 | xd fs=>obtain ⟨_,⟨_,_,_,e,_⟩,_⟩:=x; exact Heap.lt_size e
 | rng lo hi=>obtain ⟨_,_,_,e⟩:=x; exact Heap.lt_size e
 | frz ob u=>obtain ⟨e,_⟩:=x; exact Heap.lt_size e
 | tbl ps=>exact Heap.lt_size (show h.get? a=some _ from x)
 | met f y=>exact Heap.lt_size (show h.get? a=some _ from x)
 | ext φ=>obtain ⟨_,⟨_,e⟩,_⟩:=x; exact Heap.lt_size e
theorem Paired.mapP {α β:Type}{F G:α→β→Prop}:∀ {l₁:List α}{l₂:List β},Paired F l₁ l₂→(∀ a b,F a b→G a b)→Paired G l₁ l₂
 := fun r f=>by
  cases r with
  | nil=>exact .nil
  | cons r t=>exact .cons (f _ _ r) (Paired.mapP t f)
theorem b6.stay (x:b6 P w H h a o) (k:∀ b u,(b=a∨H b=some (.own a))→h.get? b=some u→h'.get? b=some u)
  (ho:∀ b,H b=some (.own a)→H' b=some (.own a)) (ht:∀ b xs,H b=some (.tup xs)→H' b=some (.tup xs)):b6 P w H' h' a o:=by
 induction o with
 | lst xs=>obtain ⟨z,its,n,r,e⟩:=x; exact ⟨z,its,n,r,k _ _ (.inl rfl) e⟩
 | tup xs=>obtain ⟨z,its,r,ob,e,c⟩:=x; exact ⟨z,its,r,ob,k _ _ (.inl rfl) e,c⟩
 | dK kvs=>obtain ⟨z,y,vs,r,ob,es,ep,e,c⟩:=x; exact ⟨z,y,vs,r,ob,es,ep,k _ _ (.inl rfl) e,c⟩
 | dT kvs =>
  obtain ⟨z,y,xs,r,ob,es,ep,e,c⟩:=x
  exact ⟨z,y,xs,Paired.mapP r fun p q z=>⟨z.1,ht _ _ z.2.1,z.2.2⟩,ob,es,ep,k _ _ (.inl rfl) e,c⟩
 | set S n=>obtain ⟨ob,es,ep,t,e,c⟩:=x; exact ⟨ob,es,ep,t,k _ _ (.inl rfl) e,c⟩
 | ins C dx fs =>
  obtain ⟨d,z,ne,e,mA,⟨od,es,ep,e2,c⟩,r⟩:=x
  exact ⟨ho _ d,z,ne,k _ _ (.inl rfl) e,mA,⟨od,es,ep,k _ _ (.inr d) e2,c⟩,r⟩
 | own y=>obtain ⟨ob,e⟩:=x; exact ⟨ob,k _ _ (.inl rfl) e⟩
 | xd fs=>obtain ⟨mA,⟨od,es,ep,e,c⟩,r⟩:=x; exact ⟨mA,⟨od,es,ep,k _ _ (.inl rfl) e,c⟩,r⟩
 | rng lo hi=>obtain ⟨t,u,v,e⟩:=x; exact ⟨t,u,v,k _ _ (.inl rfl) e⟩
 | frz ob u ih=>obtain ⟨e,q⟩:=x; exact ⟨k _ _ (.inl rfl) e,ih q⟩
 | tbl ps =>
  have e:h.get? a=some { cls:=.none,data:=.fields ps }:=x
  show h'.get? a=some { cls:=.none,data:=.fields ps }
  exact k a _ (.inl rfl) e
 | met f y =>
  have e:h.get? a=some (PySem.W.methodObj (.ref f) (.ref y)):=x
  show h'.get? a=some (PySem.W.methodObj (.ref f) (.ref y))
  exact k a _ (.inl rfl) e
 | ext φ=>obtain ⟨p,⟨o,e⟩,st⟩:=x; exact ⟨st _ _ p fun o q=>k _ _ (.inl rfl) q,⟨o,k _ _ (.inl rfl) e⟩,st⟩
theorem HOk.lt (x:HOk P w H h) (e:H a=some o):a < h.objs.size:=(x a o e).lt
theorem HOk.fresh (x:HOk P w H h) (e:h.objs.size≤a):H a=none:=by
 cases q:H a with
 | none=>rfl
 | some u=>exact absurd (Nat.lt_of_lt_of_le (x.lt q) e) (Nat.lt_irrefl _)
theorem HOk.kept (x:HOk P w H h) (k:∀ b u,h.get? b=some u→h'.get? b=some u):HOk P w H h':=fun a o e =>
 (x a o e).stay (fun b u _ q=>k b u q) (fun _ q=>q) fun _ _ q=>q
theorem HOk.laid (x:HOk P w H h) (k:∀ b u,h.get? b=some u→h'.get? b=some u) (hp:h.objs.size≤a) (new:b6 P w (upd H a o) h' a o):HOk P w (upd H a o) h':=fun b u e=>by
 have hn:=x.fresh hp
 by_cases hb:b=a
 ·subst hb; rw [ap] at e; cases e; exact new
 ·rw [ah hb] at e
  exact (x b u e).stay (fun c v _ q=>k c v q) (fun c q=>by rw [ah (bG q hn)]; exact q) fun c xs q=>by rw [ah (bG q hn)]; exact q
end
noncomputable def Rd (H:Hp) (a:Addr) (u:HO):Prop:=H a=some u∨∃ o,H a=some (.frz o u)
theorem Rd.ok {P:Program}{w:World}{H:Hp}{h:Heap}{a:Addr}{u:HO} (r:Rd H a u) (x:HOk P w H h):b6 P w H h a u:=by
 rcases r with r | ⟨o,r⟩
 ·exact x a u r
 ·obtain ⟨_,q⟩:=x a _ r
  exact q
noncomputable def Mut:Option HO→Prop
 | some (.lst _)=>True
 | some (.dK _)=>True
 | some (.dT _)=>True
 | some (.set _ _)=>True
 | some (.ins _ _ _)=>True
 | some (.ext _)=>True
 | _=>False
section
variable {P:Program}{w:World}{H:Hp}{h h':Heap}{x e:Addr}{o':HO}
theorem HOk.write (ok:HOk P w H h) (mu:Mut (H x)) (he:e=x∨H e=some (.own x)) (k:∀ b u,b ≠ e→h.get? b=some u→h'.get? b=some u) (heo:∃ u,h'.get? e=some u)
  (new:b6 P w (upd H x o') h' x o'):HOk P w (upd H x o') h':=fun b u q=>by
 have nown:∀ c y,H c=some (.own y)→c ≠ x:=fun c y r z=>by subst z; rw [r] at mu; exact mu
 have ntup:∀ c xs,H c=some (.tup xs)→c ≠ x:=fun c xs r z=>by subst z; rw [r] at mu; exact mu
 by_cases hb:b=x
 ·subst hb; rw [ap] at q; cases q; exact new
 ·rw [ah hb] at q
  by_cases hbe:b=e
  ·have q':H b=some (.own x):=by
    rcases he with z | z
    ·exact absurd (hbe.trans z) hb
    ·rw [hbe]; exact z
   rw [q] at q'; cases q'
   obtain ⟨v,hv⟩:=heo
   exact ⟨v,by rw [hbe]; exact hv⟩
  ·refine (ok b u q).stay (fun c v hc r=>k c v ?_ r) (fun c r=>by rw [ah (nown c b r)]; exact r) fun c xs r=>by rw [ah (ntup c xs r)]; exact r
   rcases hc with rfl | hc
   ·exact hbe
   ·rintro rfl
    rcases he with z | z
    ·exact nown c b hc z
    ·rw [hc] at z; cases z; exact hb rfl
end
structure Un (fs ex:List Addr) (H H':Hp) (h h':Heap):Prop where
 keep:∀ b o,h.get? b=some o→H b=none→b ∉ fs→b ∉ ex→h'.get? b=some o
 slot:∀ b o,h.get? b=some o→H b=none→b ∈ fs→b ∉ ex→∃ sl,h'.get? b=some { o with slots:=sl }
 free:∀ b o,h.get? b=some o→H b=none→b ∉ ex→H' b=none
 there:∀ b o,h.get? b=some o→b ∉ ex→∃ o',h'.get? b=some o'
 tups:∀ b xs,H b=some (.tup xs)→H' b=some (.tup xs)
 frzs:∀ b o u,H b=some (.frz o u)→H' b=some (.frz o u)
 tbls:∀ b ps,H b=some (.tbl ps)→∃ more,H' b=some (.tbl (ps ++ more))
section
variable {fs fs' ex ex':List Addr}{H H1 H2:Hp}{h h1 h2 h':Heap}{a x e:Addr}{o:HO}
theorem Un.any (u:Un fs ex H H1 h h1) {b:Addr}{ob:Obj} (q:h.get? b=some ob) (n:H b=none) (hx:b ∉ ex):∃ sl,h1.get? b=some { ob with slots:=sl }:=by
 by_cases hb:b ∈ fs
 ·exact u.slot b ob q n hb hx
 ·exact ⟨ob.slots,u.keep b ob q n hb hx⟩
theorem Un.kept (k:∀ b u,h.get? b=some u→h'.get? b=some u):Un fs ex H H h h' :=
 ⟨fun b ob q _ _ _=>k b ob q,fun b ob q _ _ _=>⟨ob.slots,k b ob q⟩,fun _ _ _ n _=>n,fun b ob q _=>⟨ob,k b ob q⟩,fun _ _ q=>q,fun _ _ _ q=>q,fun _ ps q=>⟨#[],by rw [q]; simp⟩⟩
theorem Un.refl:Un fs ex H H h h:=Un.kept fun _ _ q=>q
theorem Un.laid (k:∀ b u,h.get? b=some u→h'.get? b=some u) (hp:h.objs.size≤a) (hn:H a=none):Un fs ex H (upd H a o) h h' where
 keep:=fun b u q _ _ _=>k b u q
 slot:=fun b u q _ _ _=>⟨u.slots,k b u q⟩
 free:=fun b u q n _=>by rw [ah (Nat.ne_of_lt (Nat.lt_of_lt_of_le (Heap.lt_size q) hp))]; exact n
 there:=fun b u q _=>⟨u,k b u q⟩
 tups:=fun b xs q=>by rw [ah (bG q hn)]; exact q
 frzs:=fun b u xs q=>by rw [ah (bG q hn)]; exact q
 tbls:=fun b ps q=>⟨#[],by rw [ah (bG q hn),q]; simp⟩
theorem Un.write (mu:Mut (H x)) (he:e=x∨H e=some (.own x)) (k:∀ b u,b ≠ e→h.get? b=some u→h'.get? b=some u) (heo:∃ u,h'.get? e=some u):Un fs ex H (upd H x o) h h':=by
 have hx:∀ b,H b=none→b ≠ x:=fun b n z=>by subst z; rw [n] at mu; exact mu
 have hb:∀ b,H b=none→b ≠ e:=fun b n z=>by
  subst z
  rcases he with r | r
  ·exact hx b n r
  ·rw [n] at r; cases r
 have hm:∀ b u,H b=some u→¬ Mut (some u)→b ≠ x:=fun b u q nm z=>by subst z; rw [q] at mu; exact nm mu
 refine ⟨fun b u q n _ _=>k b u (hb b n) q,fun b u q n _ _=>⟨u.slots,k b u (hb b n) q⟩,fun b u q n _=>by rw [ah (hx b n)]; exact n,fun b u q _=>?_,
  fun b xs q=>by rw [ah (hm b _ q fun z=>z)]; exact q,fun b u xs q=>by rw [ah (hm b _ q fun z=>z)]; exact q,fun b ps q=>⟨#[],by rw [ah (hm b _ q fun z=>z),q]; simp⟩⟩
 by_cases hbe:b=e
 ·subst hbe; exact heo
 ·exact ⟨u,k b u hbe q⟩
end
noncomputable def trk (h:Heap) (H:Hp):List Addr:=(List.range h.objs.size).filter fun a=>(H a).isSome
noncomputable def nH (h:Heap) (H:Hp):Heap:=PySem.W.hideAll h (trk h H)
theorem uZ (h:Heap) (H:Hp):(nH h H).objs.size=h.objs.size:=PySem.W.hideAll_size _ _
theorem xw {h:Heap}{H:Hp}{b:Addr}{o:Obj} (e:h.get? b=some o) (n:H b=none):(nH h H).get? b=some o :=
 PySem.W.hideAll_get _ e fun hm=>by
  have q:(H b).isSome=true:=(List.mem_filter.mp hm).2
  rw [n] at q; simp at q
theorem zn {h:Heap}{H:Hp}{b:Addr}{o:Obj} (e:(nH h H).get? b=some o):h.get? b=some o∧H b=none:=by
 have e':h.get? b=some o:=PySem.W.of_hideAll (trk h H) e
 refine ⟨e',?_⟩
 cases q:H b with
 | none=>rfl
 | some x =>
  have hm:b ∈ trk h H:=List.mem_filter.mpr ⟨List.mem_range.mpr (Heap.lt_size e'),by simp [q]⟩
  have z:(nH h H).get? b=none:=PySem.W.hideAll_none (trk h H) hm
  rw [z] at e; cases e
noncomputable def Ad (g h:Heap) (L:Addr):List (Addr×Obj):=(List.range h.objs.size).filterMap fun a=>if a=L∨(g.get? a).isSome=true then none else (h.get? a).map fun o=>(a,o)
noncomputable def bO (g h:Heap) (L d:Addr):List (Addr×Obj):=(Ad g h L).filter fun p=>decide (p.1 ≠ d)
structure Mod (K:PySem.W.Frag) (mg:Str→Option Value) (base:Heap):Prop where
 kin:K.In base
 glob:base.Ns mainGlobals mg
 blt:∃ mb,base.Ns builtinsNs mb∧∀ x:Str,x ≠ "__name__"→mb x=bootBuiltins x
 nolimit:base.NoLimit
structure Cx where
 prog:Program
 w:World
 K:PySem.W.Frag
 mg:Str→Option Value
 base:Heap
 A:Around
 N:List Str
 s₀:Shared
 H₀:Hp
 env:Env
 outer:List Env
 stack:List Env
 ex:List Addr
 fn:Str→Bool
 calm:Bool
 pn:List (Addr×Obj)
 xe:Value→Shared→Prop
noncomputable def frs (l:List Env):List Addr:=l.filterMap (·.frame)
noncomputable abbrev Cx.fs (X:Cx):List Addr:=frs X.outer
noncomputable def Vis (sc:Scope) (x:Str):Prop:=sc.names.lookup x=some .local∨sc.names.lookup x=some .cell∨sc.names.lookup x=some .free
noncomputable def Loc (sc:Scope) (x:Str):Prop:=sc.names.lookup x=some .local∨sc.names.lookup x=some .cell
noncomputable def Ed (env:Env) (h:Heap) (m:Str→Option Value) (x:Str) (u:Value):Prop :=
 (env.kindOf x=some .local∧m x=some u)∨((env.kindOf x=some .cell∨env.kindOf x=some .free)∧∃ c,env.cells.lookup x=some c∧h.IsCell c (some u))
structure Cx.Ok (X:Cx):Prop where
 mod:Mod X.K X.mg X.base
 kind:X.env.scope.kind=.function
 glob:X.env.globals=mainGlobals
 blt:X.env.builtins=builtinsNs
 above:X.s₀.heap.objs.size≤X.env.locals
 inj:∀ x y c,X.env.cells.lookup x=some c→X.env.cells.lookup y=some c→x=y
 has:∀ x,(X.env.kindOf x=some .cell∨X.env.kindOf x=some .free)→∃ c,X.env.cells.lookup x=some c
 cab:∀ x c,X.fn x=true→X.env.cells.lookup x=some c→X.s₀.heap.objs.size≤c
 hd:X.calm=true→X.A.handled=none
 frames:X.A.frames=some X.stack
 stk:X.stack=X.outer∨(X.stack=X.env :: X.outer∧X.env.frame=some X.env.locals)
 exf:∀ b ∈ X.ex,b ≠ X.env.locals∧∀ x c,X.env.cells.lookup x=some c→c ≠ b
 bs:∀ b o,X.base.get? b=some o→X.s₀.heap.get? b=some o∧X.H₀ b=none
 bsz:X.base.objs.size≤X.s₀.heap.objs.size
 noex:∀ b o,X.base.get? b=some o→b ∉ X.ex
 exfs:∀ b ∈ X.ex,b ∉ X.fs
 funs:X.s₀.heap.FunFrames X.base X.outer
 frf:∀ b ∈ X.fs,X.H₀ b=none
structure Inv (X:Cx) (pins:List (Addr×Obj)) (σ:List (Option V)) (H:Hp) (s:Shared):Prop where
 ok:X.Ok
 os:s.os=X.s₀.os
 bare:AllBare s.gens
 base:Un X.fs X.ex X.H₀ H X.s₀.heap s.heap
 loc:∃ m,s.heap.Ns X.env.locals m∧∀ (i:Nat) (x:Str) (v:V),X.N[i]? = some x→σ[i]? = some (some v)→Vis X.env.scope x→∃ u,aW v u∧Ed X.env s.heap m x u
 cell:∀ x c,X.env.cells.lookup x=some c→∃ v,s.heap.IsCell c v
 free:H X.env.locals=none
 freeC:∀ x c,X.env.cells.lookup x=some c→H c=none
 pin:∀ p ∈ X.pn ++ pins,s.heap.get? p.1=some p.2∧H p.1=none∧p.1 ≠ X.env.locals∧p.1 ∉ X.fs∧∀ v,p.2.data ≠ .cell v
 hok:HOk X.prog X.w H s.heap
 len:σ.length=X.N.length
section
variable {X:Cx}{pins:List (Addr×Obj)} {σ:List (Option V)} {H H':Hp}{s:Shared}{h':Heap}
theorem Cx.Ok.nofr (ok:X.Ok) {b:Addr}{o:Obj} (e:X.base.get? b=some o):b ∉ X.fs:=fun hb=>by
 have:=(ok.funs.mem hb).1
 rw [e] at this; cases this
theorem Inv.bs (I:Inv X pins σ H s):∀ b o,X.base.get? b=some o→s.heap.get? b=some o∧H b=none:=fun b o e =>
 ⟨I.base.keep b o (I.ok.bs b o e).1 (I.ok.bs b o e).2 (I.ok.nofr e) (I.ok.noex b o e),I.base.free b o (I.ok.bs b o e).1 (I.ok.bs b o e).2 (I.ok.noex b o e)⟩
theorem Inv.bk (I:Inv X pins σ H s):∀ b o,X.base.get? b=some o→s.heap.get? b=some o:=fun b o e=>(I.bs b o e).1
theorem Inv.mod (I:Inv X pins σ H s):Mod X.K X.mg X.base:=I.ok.mod
theorem Inv.kIn (I:Inv X pins σ H s):X.K.In s.heap:=I.ok.mod.kin.keeps I.bk
theorem Inv.lt (I:Inv X pins σ H s):X.env.locals < s.heap.objs.size:=let ⟨_,hn,_⟩:=I.loc; hn.lt
theorem Inv.sz (I:Inv X pins σ H s):X.s₀.heap.objs.size≤s.heap.objs.size:=Nat.le_trans I.ok.above (Nat.le_of_lt I.lt)
theorem Inv.nofs (I:Inv X pins σ H s) {a:Addr} (h:s.heap.objs.size≤a):a ∉ X.fs:=fun hb=>by
 obtain ⟨_,o,ho,_⟩:=I.ok.funs.mem hb
 exact absurd (Nat.lt_of_lt_of_le (Heap.lt_size ho) (Nat.le_trans I.sz h)) (Nat.lt_irrefl _)
theorem Inv.cne (I:Inv X pins σ H s):∀ x c,X.env.cells.lookup x=some c→c ≠ X.env.locals:=fun x c e z=>by
 obtain ⟨v,o,ho,hd⟩:=I.cell x c e
 obtain ⟨m,⟨o',es,ep,ho',hd',_⟩,_⟩:=I.loc
 rw [z,ho'] at ho; cases ho; rw [hd'] at hd; cases hd
theorem Inv.funs (I:Inv X pins σ H s):s.heap.FunFrames X.base X.outer:=by
 have all:∀ (l:List Env),(∀ b ∈ frs l,b ∈ X.fs)→X.s₀.heap.FunFrames X.base l→s.heap.FunFrames X.base l:=by
  intro l
  induction l with
  | nil=>intro _ _; trivial
  | cons env r ih =>
   intro hs hl
   obtain ⟨hk,⟨L,o,hf,hn,ho,hd⟩,hr⟩:=hl
   have hL:L ∈ X.fs:=hs L (by unfold frs; rw [List.filterMap_cons,hf]; exact List.mem_cons_self)
   obtain ⟨sl,e⟩:=I.base.slot L o ho (I.ok.frf L hL) hL fun z=>I.ok.exfs L z hL
   exact ⟨hk,⟨L,_,hf,hn,e,hd⟩,ih (fun b hb=>hs b (by unfold frs; rw [List.filterMap_cons,hf]; exact List.mem_cons_of_mem _ hb)) hr⟩
 exact all X.outer (fun _ hb=>hb) I.ok.funs
theorem Inv.stack (I:Inv X pins σ H s):s.heap.FunFrames X.base X.stack:=by
 rcases I.ok.stk with e | ⟨e,hf⟩
 ·rw [e]; exact I.funs
 ·rw [e]
  obtain ⟨m,hn,_⟩:=I.loc
  refine .cons (by rw [I.ok.kind]; decide) hf hn ?_ I.funs
  exact Heap.get?_none_of_le (Nat.le_trans I.ok.bsz I.ok.above)
theorem Inv.stkSub (I:Inv X pins σ H s):∀ b ∈ frs X.stack,b ∈ X.env.locals :: X.fs:=fun b hb=>by
 rcases I.ok.stk with e | ⟨e,hf⟩
 ·rw [e] at hb; exact List.mem_cons_of_mem _ hb
 ·rw [e] at hb
  unfold frs at hb
  rw [List.filterMap_cons,hf] at hb
  exact hb
theorem Inv.stkFree (I:Inv X pins σ H s):∀ b ∈ frs X.stack,H b=none:=fun b hb=>by
 rcases List.mem_cons.mp (I.stkSub b hb) with e | hb
 ·rw [e]; exact I.free
 ·obtain ⟨_,o,ho,_⟩:=I.ok.funs.mem hb
  exact I.base.free b o ho (I.ok.frf b hb) fun z=>I.ok.exfs b z hb
theorem Inv.step {g':Array GenState}{t':Nat}{d':Drawn}{ch:List Addr} (I:Inv X pins σ H s)
  (hch:∀ b ∈ ch,(b ∈ X.ex∨X.s₀.heap.objs.size≤b)∧b ≠ X.env.locals∧(∀ x c,X.env.cells.lookup x=some c→c ≠ b)∧∀ p ∈ X.pn ++ pins,p.1 ≠ b)
  (keep:∀ b o,b ≠ X.env.locals→b ∉ X.fs→b ∉ ch→s.heap.get? b=some o→H b=none→h'.get? b=some o)
  (slot:∀ b o,b ≠ X.env.locals→b ∈ X.fs→b ∉ ch→s.heap.get? b=some o→H b=none→∃ sl,h'.get? b=some { o with slots:=sl }) (free:∀ b o,b ∉ ch→s.heap.get? b=some o→H b=none→H' b=none)
  (there:∀ b o,b ∉ ch→s.heap.get? b=some o→∃ o',h'.get? b=some o')
  (tups:∀ b xs,H b=some (.tup xs)→H' b=some (.tup xs)) (frzs:∀ b o u,H b=some (.frz o u)→H' b=some (.frz o u)) (tbls:∀ b ps,H b=some (.tbl ps)→∃ more,H' b=some (.tbl (ps ++ more)))
  (ns:∀ m,s.heap.Ns X.env.locals m→h'.Ns X.env.locals m) (hok:HOk X.prog X.w H' h') (hg:AllBare g') :
  Inv X pins σ H' { s with heap:=h',gens:=g',drawn:=d',toks:=t' }:=by
 have neL:∀ b o,X.s₀.heap.get? b=some o→b ≠ X.env.locals:=fun b o e=>Nat.ne_of_lt (Nat.lt_of_lt_of_le (Heap.lt_size e) I.ok.above)
 have neC:∀ b o,X.s₀.heap.get? b=some o→b ∉ X.ex→b ∉ ch:=fun b o e hx hb=>by
  rcases (hch b hb).1 with z | z
  ·exact hx z
  ·exact absurd (Nat.lt_of_lt_of_le (Heap.lt_size e) z) (Nat.lt_irrefl _)
 have cellK:∀ x c,X.env.cells.lookup x=some c→∀ v,s.heap.IsCell c v→h'.IsCell c v:=fun x c e v zz1_0=>by
  obtain ⟨o,ho,hd⟩:=zz1_0
  have nch:c ∉ ch:=fun z=>(hch c z).2.2.1 x c e rfl
  by_cases hc:c ∈ X.fs
  ·obtain ⟨sl,q⟩:=slot c o (I.cne x c e) hc nch ho (I.freeC x c e)
   exact ⟨_,q,hd⟩
  ·exact ⟨o,keep c o (I.cne x c e) hc nch ho (I.freeC x c e),hd⟩
 refine ⟨I.ok,I.os,hg,⟨fun b o e n hb hx=>?_,fun b o e n hb hx=>?_,fun b o e n hx=>?_,fun b o e hx=>?_,fun b xs e=>tups b xs (I.base.tups b xs e),fun b o xs e=>frzs b o xs (I.base.frzs b o xs e),fun b ps e=>?_⟩,?_,fun x c e=>?_,?_,fun x c e=>?_,fun p hp=>?_,hok,I.len⟩
 ·exact keep b o (neL b o e) hb (neC b o e hx) (I.base.keep b o e n hb hx) (I.base.free b o e n hx)
 ·obtain ⟨sl,e1⟩:=I.base.slot b o e n hb hx
  obtain ⟨sl',e2⟩:=slot b _ (neL b o e) hb (neC b o e hx) e1 (I.base.free b o e n hx)
  exact ⟨sl',e2⟩
 ·obtain ⟨o',e1⟩:=I.base.there b o e hx
  exact free b o' (neC b o e hx) e1 (I.base.free b o e n hx)
 ·obtain ⟨o',e1⟩:=I.base.there b o e hx
  exact there b o' (neC b o e hx) e1
 ·obtain ⟨m1,e1⟩:=I.base.tbls b ps e
  obtain ⟨m2,e2⟩:=tbls b _ e1
  exact ⟨m1 ++ m2,by rw [e2,Array.append_assoc]⟩
 ·obtain ⟨m,hn,hl⟩:=I.loc
  refine ⟨m,ns m hn,fun i x v e1 e2 e3=>?_⟩
  obtain ⟨u,r,l⟩:=hl i x v e1 e2 e3
  refine ⟨u,r,?_⟩
  rcases l with l | ⟨k,c,e,z⟩
  ·exact .inl l
  ·exact .inr ⟨k,c,e,cellK x c e _ z⟩
 ·obtain ⟨v,z⟩:=I.cell x c e
  exact ⟨v,cellK x c e v z⟩
 ·obtain ⟨m,⟨o,_,_,ho,_⟩,_⟩:=I.loc
  exact free _ o (fun z=>(hch _ z).2.1 rfl) ho I.free
 ·obtain ⟨v,o,ho,hd⟩:=I.cell x c e
  exact free c o (fun z=>(hch c z).2.2.1 x c e rfl) ho (I.freeC x c e)
 ·obtain ⟨e,n,ne,nf,d⟩:=I.pin p hp
  have nch:p.1 ∉ ch:=fun z=>(hch p.1 z).2.2.2 p hp rfl
  exact ⟨keep p.1 p.2 ne nf nch e n,free p.1 p.2 nch e n,ne,nf,d⟩
theorem Inv.un {t':Nat} (I:Inv X pins σ H s) (u:Un X.fs [] H H' s.heap h') (hok:HOk X.prog X.w H' h'):Inv X pins σ H' { s with heap:=h',toks:=t' }:=by
 obtain ⟨m,⟨o,es,ep,ho,r⟩,_⟩:=id I.loc
 obtain ⟨sl,hL⟩:=u.any ho I.free (by simp)
 exact I.step (g':=s.gens) (d':=s.drawn) (ch:=[]) (fun _ z=>nomatch z) (fun b o _ hb _ e n=>u.keep b o e n hb (by simp)) (fun b o _ hb _ e n=>u.slot b o e n hb (by simp)) (fun b o _ e n=>u.free b o e n (by simp)) (fun b o _ e=>u.there b o e (by simp)) u.tups u.frzs u.tbls (fun m' hm=>by
  obtain ⟨o',es',ep',ho',r'⟩:=hm
  rw [ho] at ho'; cases ho'
  exact ⟨_,es',ep',hL,r'⟩) hok I.bare
theorem Inv.call {g':Array GenState}{t':Nat}{d':Drawn}{ch:List Addr} (I:Inv X pins σ H s) (u:Un (frs X.stack) ch H H' s.heap h') (hok:HOk X.prog X.w H' h') (hg:AllBare g')
  (hch:∀ b ∈ ch,(b ∈ X.ex∨X.s₀.heap.objs.size≤b)∧b ≠ X.env.locals∧(∀ x c,X.env.cells.lookup x=some c→c ≠ b)∧∀ p ∈ X.pn ++ pins,p.1 ≠ b) :
  Inv X pins σ H' { s with heap:=h',gens:=g',drawn:=d',toks:=t' }:=by
 obtain ⟨m,⟨o,es,ep,ho,r⟩,_⟩:=id I.loc
 obtain ⟨sl,hL⟩:=u.any ho I.free fun z=>(hch _ z).2.1 rfl
 exact I.step (ch:=ch) hch (fun b o hL hb hc e n=>u.keep b o e n (fun z=>(List.mem_cons.mp (I.stkSub b z)).elim hL hb) hc) (fun b o _ _ hc e n=>u.any e n hc) (fun b o hc e n=>u.free b o e n hc) (fun b o hc e=>u.there b o e hc) u.tups u.frzs u.tbls (fun m' hm=>by
  obtain ⟨o',es',ep',ho',r'⟩:=hm
  rw [ho] at ho'; cases ho'
  exact ⟨_,es',ep',hL,r'⟩) hok hg
theorem Inv.turned {t':Nat}{it:Addr} (I:Inv X pins σ H s) (k:∀ b o,b ≠ it→s.heap.get? b=some o→h'.get? b=some o) (hn:H it=none) (hL:it ≠ X.env.locals)
  (h1:it ∈ X.ex∨X.s₀.heap.objs.size≤it) (h2:∀ x c,X.env.cells.lookup x=some c→c ≠ it) (h3:∀ p ∈ X.pn ++ pins,p.1 ≠ it):Inv X pins σ H { s with heap:=h',toks:=t' }:=by
 have nit:∀ b u,H b=some u→b ≠ it:=fun b u e z=>by rw [z,hn] at e; cases e
 refine I.step (g':=s.gens) (d':=s.drawn) (ch:=[it]) (fun b hb=>?_) (fun b o _ _ hc e _=>k b o (fun z=>hc (by simp [z])) e) (fun b o _ _ hc e _=>⟨o.slots,k b o (fun z=>hc (by simp [z])) e⟩) (fun _ _ _ _ n=>n)
  (fun b o hc e=>⟨o,k b o (fun z=>hc (by simp [z])) e⟩) (fun _ _ e=>e) (fun _ _ _ e=>e) (fun b ps e=>⟨#[],by rw [e]; simp⟩) (fun m hm=>?_) (fun b u e=>?_) I.bare
 ·have e:b=it:=by simpa using hb
  subst e
  exact ⟨h1,hL,h2,h3⟩
 ·obtain ⟨o,es,ep,ho,r⟩:=hm
  exact ⟨o,es,ep,k _ o (Ne.symm hL) ho,r⟩
 ·refine (I.hok b u e).stay (fun c v hc q=>k c v ?_ q) (fun _ q=>q) fun _ _ q=>q
  rcases hc with z | z
  ·rw [z]; exact nit b u e
  ·exact nit c _ z
theorem Inv.tok (I:Inv X pins σ H s) (t:Nat):Inv X pins σ H { s with toks:=t }:=I.un (h':=s.heap) (t':=t) Un.refl I.hok
theorem Inv.kept {t':Nat} (I:Inv X pins σ H s) (k:∀ b u,s.heap.get? b=some u→h'.get? b=some u):Inv X pins σ H { s with heap:=h',toks:=t' }:=I.un (Un.kept k) (I.hok.kept k)
theorem Inv.laid {a:Addr}{o:HO}{t':Nat} (I:Inv X pins σ H s) (k:∀ b u,s.heap.get? b=some u→h'.get? b=some u) (hp:s.heap.objs.size≤a) (new:b6 X.prog X.w (upd H a o) h' a o) :
  Inv X pins σ (upd H a o) { s with heap:=h',toks:=t' }:=I.un (Un.laid k hp (I.hok.fresh hp)) (I.hok.laid k hp new)
theorem Inv.write {x e:Addr}{o:HO}{t':Nat} (I:Inv X pins σ H s) (mu:Mut (H x)) (he:e=x∨H e=some (.own x)) (k:∀ b u,b ≠ e→s.heap.get? b=some u→h'.get? b=some u) (heo:∃ u,h'.get? e=some u)
  (new:b6 X.prog X.w (upd H x o) h' x o):Inv X pins σ (upd H x o) { s with heap:=h',toks:=t' }:=I.un (Un.write mu he k heo) (I.hok.write mu he k heo new)
theorem Inv.pins_of {pins':List (Addr×Obj)} (I:Inv X pins σ H s) (h:∀ p ∈ pins',s.heap.get? p.1=some p.2∧H p.1=none∧p.1 ≠ X.env.locals∧p.1 ∉ X.fs∧∀ v,p.2.data ≠ .cell v):Inv X pins' σ H s :=
 ⟨I.ok,I.os,I.bare,I.base,I.loc,I.cell,I.free,I.freeC,fun p hp=>(List.mem_append.mp hp).elim (fun z=>I.pin p (List.mem_append_left _ z)) (h p),I.hok,I.len⟩
theorem pt {N:List Str} (hN:N.Nodup) {i j:Nat}{x:Str} (a:N[i]? = some x) (b:N[j]? = some x):i=j:=by
 obtain ⟨h1,e1⟩:=List.getElem?_eq_some_iff.mp a
 obtain ⟨h2,e2⟩:=List.getElem?_eq_some_iff.mp b
 exact (List.getElem_inj hN).mp (e1.trans e2.symm)
theorem tV {M:Model}{A:Around}{E:Value→Shared→Prop}{i:Nat}{x:Str}{v:V}{u:Value}{Q:Unit→Shared→Prop} (I:Inv X pins σ H s) (hN:X.N.Nodup) (hi:X.N[i]? = some x) (hx:Loc X.env.scope x) (r:aW v u)
  (h:∀ s',Inv X pins (σ.set i (some v)) H s'→(∃ a,Heap.SameBut a s.heap s'.heap∧(a=X.env.locals∨X.env.cells.lookup x=some a))→Q () s') (hf:X.fn x=true∨X.env.scope.names.lookup x=some .local:=by first | exact .inl rfl | exact .inr rfl | assumption):wpAny M A (storeName X.env x u) Q E s:=by
 obtain ⟨m,hn,hl⟩:=id I.loc
 have hcls:(X.env.scope.kind == .class || (X.env.scope.kind == .module && X.env.locals != X.env.globals))=false:=by rw [I.ok.kind]; rfl
 have hiσ:i < σ.length:=by rw [I.len]; exact (List.getElem?_eq_some_iff.mp hi).1
 have cne:=I.cne
 have tracked:∀ {a:Addr}{h':Heap},(∃ o,s.heap.get? a=some o∧H a=none)→Heap.SameBut a s.heap h'→HOk X.prog X.w H h':=fun {a h'} ha hs b ob e=>by
  obtain ⟨_,_,hfree⟩:=ha
  refine (I.hok b ob e).stay (fun c w' hc q=>(hs.2 c ?_).trans q) (fun _ q=>q) fun _ _ q=>q
  rintro rfl
  rcases hc with rfl | hc
  ·rw [hfree] at e; cases e
  ·rw [hfree] at hc; cases hc
 rcases hx with hk | hk
 ·refine wpAny_storeName_local hk hn (fun h' hn' hs=>?_) hcls
  obtain ⟨oL,_,_,hoL,_⟩:=id hn
  refine h _ ⟨I.ok,I.os,I.bare,⟨fun b o e n hb hx=>?_,fun b o e n hb hx=>?_,I.base.free,fun b o e hx=>?_,I.base.tups,I.base.frzs,I.base.tbls⟩,⟨_,hn',fun j y v' e1 e2 e3=>?_⟩,fun y c e=>?_,I.free,I.freeC,fun p hp=>?_,tracked ⟨oL,hoL,I.free⟩ hs,by simpa using I.len⟩ ⟨_,hs,.inl rfl⟩
  ·exact (hs.2 b (Nat.ne_of_lt (Nat.lt_of_lt_of_le (Heap.lt_size e) I.ok.above))).trans (I.base.keep b o e n hb hx)
  ·obtain ⟨sl,e1⟩:=I.base.slot b o e n hb hx
   exact ⟨sl,(hs.2 b (Nat.ne_of_lt (Nat.lt_of_lt_of_le (Heap.lt_size e) I.ok.above))).trans e1⟩
  ·obtain ⟨o',e1⟩:=I.base.there b o e hx
   exact ⟨o',(hs.2 b (Nat.ne_of_lt (Nat.lt_of_lt_of_le (Heap.lt_size e) I.ok.above))).trans e1⟩
  ·by_cases hj:j=i
   ·subst hj
    rw [hi] at e1; cases e1
    rw [List.getElem?_set_self hiσ] at e2
    cases e2
    exact ⟨u,r,.inl ⟨hk,by simp⟩⟩
   ·rw [List.getElem?_set_ne (Ne.symm hj)] at e2
    obtain ⟨u',r',q⟩:=hl j y v' e1 e2 e3
    refine ⟨u',r',?_⟩
    rcases q with ⟨k,e⟩ | ⟨k,c,e,z⟩
    ·refine .inl ⟨k,?_⟩
     have:y ≠ x:=fun e=>hj (pt hN e1 (e ▸ hi))
     simp [this,e]
    ·exact .inr ⟨k,c,e,z.sameBut hs (cne y c e)⟩
  ·obtain ⟨w',z⟩:=I.cell y c e
   exact ⟨w',z.sameBut hs (cne y c e)⟩
  ·obtain ⟨e,n,ne,nf,d⟩:=I.pin p hp
   exact ⟨(hs.2 p.1 ne).trans e,n,ne,nf,d⟩
 ·have hfn:X.fn x=true:=by
   rcases hf with z | z
   ·exact z
   ·rw [z] at hk; cases hk
  obtain ⟨c,hc⟩:=I.ok.has x (.inl hk)
  obtain ⟨w',z⟩:=I.cell x c hc
  refine wpAny_storeName_cell I.ok.kind hk hc z (fun h' hc' hs=>?_)
  obtain ⟨oc,hoc,hocd⟩:=id z
  refine h { s with heap:=h' } ⟨I.ok,I.os,I.bare,⟨fun b o e n hb hx=>?_,fun b o e n hb hx=>?_,I.base.free,fun b o e hx=>?_,I.base.tups,I.base.frzs,I.base.tbls⟩,⟨m,hn.sameBut hs (Ne.symm (cne x c hc)),fun j y v' e1 e2 e3=>?_⟩,fun y c' e=>?_,I.free,I.freeC,fun p hp=>?_,tracked ⟨oc,hoc,I.freeC x c hc⟩ hs,by simpa using I.len⟩ ⟨c,hs,.inr hc⟩
  ·exact (hs.2 b (Nat.ne_of_lt (Nat.lt_of_lt_of_le (Heap.lt_size e) (I.ok.cab x c hfn hc)))).trans (I.base.keep b o e n hb hx)
  ·obtain ⟨sl,e1⟩:=I.base.slot b o e n hb hx
   exact ⟨sl,(hs.2 b (Nat.ne_of_lt (Nat.lt_of_lt_of_le (Heap.lt_size e) (I.ok.cab x c hfn hc)))).trans e1⟩
  ·obtain ⟨o',e1⟩:=I.base.there b o e hx
   exact ⟨o',(hs.2 b (Nat.ne_of_lt (Nat.lt_of_lt_of_le (Heap.lt_size e) (I.ok.cab x c hfn hc)))).trans e1⟩
  ·by_cases hj:j=i
   ·subst hj
    rw [hi] at e1; cases e1
    rw [List.getElem?_set_self hiσ] at e2
    cases e2
    exact ⟨u,r,.inr ⟨.inl hk,c,hc,hc'⟩⟩
   ·rw [List.getElem?_set_ne (Ne.symm hj)] at e2
    obtain ⟨u',r',q⟩:=hl j y v' e1 e2 e3
    refine ⟨u',r',?_⟩
    rcases q with q | ⟨k,c',e,z'⟩
    ·exact .inl q
    ·refine .inr ⟨k,c',e,z'.sameBut hs ?_⟩
     rintro rfl
     exact hj (pt hN e1 (I.ok.inj _ _ _ e hc ▸ hi))
  ·by_cases hcc:c'=c
   ·subst hcc; exact ⟨_,hc'⟩
   ·obtain ⟨w2,z2⟩:=I.cell y c' e
    exact ⟨w2,z2.sameBut hs hcc⟩
  ·obtain ⟨e,n,ne,nf,d⟩:=I.pin p hp
   refine ⟨(hs.2 p.1 ?_).trans e,n,ne,nf,d⟩
   intro q
   rw [q,hoc] at e
   have q':oc=p.2:=Option.some.inj e
   exact d w' (by rw [← q']; exact hocd)
theorem iy {M:Model}{A:Around}{E:Value→Shared→Prop}{i:Nat}{x:Str}{v:V}{u:Value}{Q:Unit→Shared→Prop} (I:Inv X pins σ H s) (hN:X.N.Nodup) (hi:X.N[i]? = some x) (hx:Loc X.env.scope x) (r:aW v u)
  (h:∀ s',Inv X pins (σ.set i (some v)) H s'→Q () s') (hf:X.fn x=true∨X.env.scope.names.lookup x=some .local:=by first | exact .inl rfl | exact .inr rfl | assumption):wpAny M A (storeName X.env x u) Q E s :=
 tV I hN hi hx r (fun s' I' _=>h s' I') hf
theorem Inv.call' {s':Shared}{ch:List Addr} (I:Inv X pins σ H s) (ho:s'.os=s.os) (u:Un (frs X.stack) ch H H' s.heap s'.heap) (hok:HOk X.prog X.w H' s'.heap) (hg:AllBare s'.gens)
  (hch:∀ b ∈ ch,(b ∈ X.ex∨X.s₀.heap.objs.size≤b)∧b ≠ X.env.locals∧(∀ x c,X.env.cells.lookup x=some c→c ≠ b)∧∀ p ∈ X.pn ++ pins,p.1 ≠ b):Inv X pins σ H' s':=by
 obtain ⟨h',g',d',t',o'⟩:=s'
 have e:o'=s.os:=ho
 subst e
 exact I.call (g':=g') (t':=t') (d':=d') u hok hg hch
end
noncomputable abbrev XK:=Value→Option Addr→Hp→Prop
noncomputable abbrev St:=List (Option V)
noncomputable abbrev VK:=V→Hp→Prop
noncomputable abbrev TE:=St→Hp→VK→Prop
noncomputable abbrev TT:=St→Hp→(Bool→Hp→Prop)→Prop
noncomputable abbrev TA:=St→Hp→(List V→Hp→Prop)→Prop
structure lG where
 nx:St→Hp→Prop
 rt:VK
 bk:St→Hp→Prop:=fun _ _=>False
 ct:St→Hp→Prop:=fun _ _=>False
noncomputable abbrev TS:=lG→St→Hp→Prop
noncomputable def EP (X:Cx) (pins:List (Addr×Obj)) (σ:St) (Q:VK) (u:Value) (s':Shared):Prop:=∃ v H',Inv X pins σ H' s'∧aW v u∧Q v H'
noncomputable def TP (X:Cx) (pins:List (Addr×Obj)) (σ:St) (Q:Bool→Hp→Prop) (b:Bool) (s':Shared):Prop:=∃ H',Inv X pins σ H' s'∧Q b H'
noncomputable def AP (X:Cx) (pins:List (Addr×Obj)) (σ:St) (Q:List V→Hp→Prop) (us:List Value) (s':Shared):Prop:=∃ vs H',Inv X pins σ H' s'∧aZ vs us∧Q vs H'
noncomputable def SP (X:Cx) (pins:List (Addr×Obj)) (D:lG) (f:Flow) (s':Shared):Prop :=
 match f with
 | .next=>∃ σ' H',Inv X pins σ' H' s'∧D.nx σ' H'
 | .brk=>∃ σ' H',Inv X pins σ' H' s'∧D.bk σ' H'
 | .cont=>∃ σ' H',Inv X pins σ' H' s'∧D.ct σ' H'
 | .ret u=>∃ v σ' H',Inv X pins σ' H' s'∧aW v u∧D.rt v H'
noncomputable def PE (X:Cx) (e:Expr) (t:TE):Prop :=
 ∀ (pins:List (Addr×Obj)) (s:Shared) (σ:St) (H:Hp) (Q:VK),Inv X pins σ H s→t σ H Q→wpAny (model X.prog X.w) X.A (eval e X.env) (EP X pins σ Q) X.xe s
noncomputable def PT (X:Cx) (e:Expr) (t:TT):Prop :=
 ∀ (pins:List (Addr×Obj)) (s:Shared) (σ:St) (H:Hp) (Q:Bool→Hp→Prop),Inv X pins σ H s→t σ H Q→wpAny (model X.prog X.w) X.A (isTrue e X.env (eval e X.env)) (TP X pins σ Q) X.xe s
noncomputable def PW (X:Cx) (e:Expr) (t:TT):Prop :=
 ∀ (whole:Sem Value) (pins:List (Addr×Obj)) (s:Shared) (σ:St) (H:Hp) (Q:Bool→Hp→Prop),Inv X pins σ H s→t σ H Q→wpAny (model X.prog X.w) X.A (isTrue e X.env whole) (TP X pins σ Q) X.xe s
noncomputable def PA (X:Cx) (es:List Expr) (t:TA):Prop :=
 ∀ (pos:Pos) (pins:List (Addr×Obj)) (s:Shared) (σ:St) (H:Hp) (Q:List V→Hp→Prop),Inv X pins σ H s→t σ H Q→wpAny (model X.prog X.w) X.A (spliced (backTo pos (starEach es X.env))) (AP X pins σ Q) X.xe s
noncomputable def PS (X:Cx) (st:Stmt) (t:TS):Prop :=
 ∀ (pins:List (Addr×Obj)) (s:Shared) (σ:St) (H:Hp) (D:lG),Inv X pins σ H s→t D σ H→wpAny (model X.prog X.w) X.A (exec st X.env) (SP X pins D) X.xe s
noncomputable def PSs (X:Cx) (st:List Stmt) (t:TS):Prop :=
 ∀ (pins:List (Addr×Obj)) (s:Shared) (σ:St) (H:Hp) (D:lG),Inv X pins σ H s→t D σ H→wpAny (model X.prog X.w) X.A (execs st X.env) (SP X pins D) X.xe s
theorem thn {α:Type}{t:Sem α}{Q Q':α→Shared→Prop}{M:Model}{A:Around}{E:Value→Shared→Prop}{s:Shared} (h:wpAny M A t Q E s) (hQ:∀ a s,Q a s→Q' a s):wpAny M A t Q' E s:=wpAny_mono h hQ fun _ _ x=>x
section
variable {X:Cx}
noncomputable def fT (i:Nat):TE:=fun σ H Q=>∃ v,σ[i]? = some (some v)∧Q v H
noncomputable def tC (v:V):TE:=fun _ H Q=>Q v H
theorem qO {i:Nat}{x:Str}{pos:Pos} (hN:X.N[i]? = some x) (hv:Vis X.env.scope x) (hd:(x == ("__debug__" : Str))=false:=by decide) (hcd:(x == ("__classdict__" : Str))=false:=by decide):PE X (.Name x pos) (fT i):=by
 intro pins s σ H Q I h
 obtain ⟨v,e,h⟩:=h
 obtain ⟨m,hn,hl⟩:=I.loc
 obtain ⟨u,r,l⟩:=hl i x v hN e hv
 have fin:EP X pins σ Q u s:=⟨v,H,I,r,h⟩
 rcases l with ⟨hk,hm⟩ | ⟨hk,c,hc,hcell⟩
 ·exact wpAny_Name (wpAny_loadName_local I.ok.kind hk hn hm fin) hd
 ·rcases hk with hk | hk
  ·exact wpAny_Name (wpAny_loadName_cell I.ok.kind hk hc hcell fin) hd
  ·exact wpAny_Name (wpAny_loadName_free I.ok.kind hk hc hcell fin hcd) hd
theorem wE {i j pos}:PE X (.Constant (.int i) j pos) (tC (.int i)):=fun _ _ _ H _ I h=>wpAny_Constant_int ⟨.int i,H,I.tok _,⟨_,rfl⟩,h⟩
theorem Db {b j pos}:PE X (.Constant (.bool b) j pos) (tC (.bl b)):=fun _ _ _ H _ I h=>Constant_bool ⟨.bl b,H,I,rfl,h⟩
theorem wD {j pos}:PE X (.Constant .none j pos) (tC .non):=fun _ _ _ H _ I h=>Constant_none ⟨.non,H,I,rfl,h⟩
theorem Bk {x j pos}:PE X (.Constant (.str x) j pos) (tC (.str x)):=fun _ _ _ H _ I h=>Calls.Constant_str ⟨.str x,H,I.tok _,⟨_,rfl⟩,h⟩
noncomputable def Gl (X:Cx) (x:Str):Prop:=X.env.kindOf x=some .globalImplicit
theorem sG {E:Value→Shared→Prop}{pins:List (Addr×Obj)} {s:Shared} {σ:St}{H:Hp}{x:Str}{u:Value}{pos:Pos}{Q:Value→Shared→Prop} (I:Inv X pins σ H s) (hg:Gl X x) (hm:X.mg x=some u) (h:Q u s)
  (hd:(x == ("__debug__" : Str))=false:=by decide):wpAny (model X.prog X.w) X.A (eval (.Name x pos) X.env) Q E s :=
 Calls.Name_function_global I.ok.kind hg (Calls.loadGlobal_global (by rw [I.ok.glob]; exact I.mod.glob.keeps I.bk) hm h) hd
theorem eM {E:Value→Shared→Prop}{pins:List (Addr×Obj)} {s:Shared} {σ:St}{H:Hp}{x:Str}{u:Value}{pos:Pos}{Q:Value→Shared→Prop} (I:Inv X pins σ H s) (hg:Gl X x) (hm:X.mg x=none) (hv:bootBuiltins x=some u) (h:Q u s)
  (hn:x ≠ "__name__" := by decide) (hd:(x == ("__debug__" : Str))=false:=by decide):wpAny (model X.prog X.w) X.A (eval (.Name x pos) X.env) Q E s:=by
 obtain ⟨mb,h1,h2⟩:=I.mod.blt
 exact Calls.Name_function_global I.ok.kind hg (Calls.loadGlobal_builtin (by rw [I.ok.glob]; exact I.mod.glob.keeps I.bk) hm (by rw [I.ok.blt]; exact h1.keeps I.bk) ((h2 x hn).trans hv) h) hd
theorem ze {x:Str}{v:V}{u:Value}{pos:Pos} (hg:Gl X x) (hm:X.mg x=some u) (r:aW v u) (hd:(x == ("__debug__" : Str))=false:=by decide):PE X (.Name x pos) (tC v) :=
 fun _ _ _ H _ I h=>sG I hg hm ⟨v,H,I,r,h⟩ hd
theorem zh {x:Str}{v:V}{u:Value}{pos:Pos} (hg:Gl X x) (hm:X.mg x=none) (hv:bootBuiltins x=some u) (r:aW v u) (hn:x ≠ "__name__" := by decide) (hd:(x == ("__debug__" : Str))=false:=by decide):PE X (.Name x pos) (tC v) :=
 fun _ _ _ H _ I h=>eM I hg hm hv ⟨v,H,I,r,h⟩ hn hd
variable {a b:Expr}{ta tb:TE}{pos:Pos}
noncomputable def PC (X:Cx) (op:CmpOp) (a b:Expr) (t:TE):Prop :=
 ∀ (pins:List (Addr×Obj)) (s:Shared) (σ:St) (H:Hp) (Q:VK),Inv X pins σ H s→t σ H Q →
  wpAny (model X.prog X.w) X.A (eval a X.env) (fun v s₁=>wpAny (model X.prog X.w) X.A (eval b X.env) (fun u s₂=>wpAny (model X.prog X.w) X.A (compareOp op v u) (EP X pins σ Q) X.xe s₂) X.xe s₁) X.xe s
theorem pw (b:Expr) {op:CmpOp} (h:op ≠ .In) (h2:op ≠ .NotIn):behindInMarks op b=false:=by
 have e1:(op == CmpOp.In)=false:=by cases op <;> first | rfl | exact absurd rfl h
 have e2:(op == CmpOp.NotIn)=false:=by cases op <;> first | rfl | exact absurd rfl h2
 cases b <;> simp [behindInMarks,e1,e2]
noncomputable def tB (t:TE):TT:=fun σ H Q=>t σ H fun x H1=>∃ c,x=.bl c∧Q c H1
theorem Bo {op:CmpOp}{t:TE} (h:PC X op a b t) (h1:behindInMarks op b=false:=by first | exact pw _ (by decide) (by decide) | rfl):PE X (.Compare a [op] [b] pos) t:=fun pins s σ H Q I hw=>wpAny_Compare1 (h pins s σ H Q I hw) h1
theorem Be {op:CmpOp}{t:TE} (h:PC X op a b t) (h1:behindInMarks op b=false:=by first | exact pw _ (by decide) (by decide) | rfl):PT X (.Compare a [op] [b] pos) (tB t):=by
 intro pins s σ H Q I hw
 refine wpAny_isTrue_Compare1 (thn (h pins s σ H _ I hw) fun v s1 h1=>thn h1 fun u s2 h2=>thn h2 fun c s3 zz2_0=>?_) h1
 obtain ⟨x,H1,I1,r1,q1⟩:=zz2_0
 obtain ⟨d,rfl,q⟩:=q1
 cases r1
 exact wpAny_truthy_bool ⟨H1,I1,q⟩
theorem Bc {e:Expr}{t:TE} (h:PE X e t) (he:∀ whole,isTrue e X.env whole=(do let v ← whole; standAt e.pos; holding [v] (truthy v)):=by intro _; rfl):PT X e (tB t):=by
 intro pins s σ H Q I hw
 refine isTrue_plain (thn (h pins s σ H _ I hw) fun v s1 zz3_0=>?_) (he _)
 obtain ⟨x,H1,I1,r1,q1⟩:=zz3_0
 obtain ⟨d,rfl,q⟩:=q1
 cases r1
 exact wpAny_truthy_bool ⟨H1,I1,q⟩
variable {tA tB':TT}{bO:List Expr}
noncomputable def tOr (t u:TT):TT:=fun σ H Q=>t σ H fun c H1=>if c=true then Q true H1 else u σ H1 Q
noncomputable def DQ (t:TT):TT:=fun σ H Q=>t σ H fun c H1=>Q (!c) H1
theorem Ba (ha:PT X a tA):PW X (.BoolOp .Or [a] pos) tA:=by
 intro wh pins s σ H Q I h
 refine isTrue_or (thn (ha pins s σ H Q I h) fun c s1 e=>?_)
 cases c with
 | false=>exact isTrue_or_nil e
 | true=>exact e
theorem C6 (ha:PT X a tA) (hb:PW X (.BoolOp .Or (b :: bO) pos) tB'):PW X (.BoolOp .Or (a :: b :: bO) pos) (tOr tA tB'):=by
 intro wh pins s σ H Q I h
 refine isTrue_or (thn (ha pins s σ H _ I h) fun c s1 zz4_0=>?_)
 obtain ⟨H1,I1,q1⟩:=zz4_0
 cases c with
 | true=>exact ⟨H1,I1,q1⟩
 | false=>exact hb wh pins s1 σ H1 Q I1 q1
theorem Bd (ha:PT X a tA):PT X (.UnaryOp .Not a pos) (DQ tA):=by
 intro pins s σ H Q I h
 exact isTrue_not (ha pins s σ H (fun c H1=>Q (!c) H1) I h)
noncomputable def CL (ta tb:TE):TE:=fun σ H Q=>ta σ H fun x H1=>∃ c,x=.bl c∧if c=true then tb σ H1 Q else Q (.bl false) H1
noncomputable def CC (ta:TE):TE:=fun σ H Q=>ta σ H fun x H1=>∃ c,x=.bl c∧Q (.bl (!c)) H1
theorem Bl {op}{t:TE} (h:PE X a t):PE X (.BoolOp op [a] pos) t:=fun pins s σ H Q I hw=>BoolOp_one (h pins s σ H Q I hw)
theorem Bp (ha:PE X a ta) (hb:PE X (.BoolOp .And (b :: bO) pos) tb):PE X (.BoolOp .And (a :: b :: bO) pos) (CL ta tb):=by
 intro pins s σ H Q I h
 refine BoolOp_and (thn (ha pins s σ H _ I h) fun v s1 zz5_0=>?_)
 obtain ⟨x,H1,I1,r1,q1⟩:=zz5_0
 obtain ⟨c,rfl,q1⟩:=q1
 cases r1
 refine wpAny_truthy_bool ?_
 cases c with
 | true=>exact hb pins s1 σ H1 Q I1 q1
 | false=>exact ⟨.bl false,H1,I1,rfl,q1⟩
theorem Bm (ha:PE X a ta):PE X (.UnaryOp .Not a pos) (CC ta):=by
 intro pins s σ H Q I h
 refine UnaryOp_ (thn (ha pins s σ H _ I h) fun v s1 zz6_0=>?_)
 obtain ⟨x,H1,I1,r1,q1⟩:=zz6_0
 obtain ⟨c,rfl,q1⟩:=q1
 cases r1
 exact not_of (wpAny_truthy_bool ⟨.bl (!c),H1,I1,rfl,q1⟩)
noncomputable def tIf (t:TT) (ta tb:TE):TE:=fun σ H Q=>t σ H fun c H1=>if c=true then ta σ H1 Q else tb σ H1 Q
theorem wF {c:Expr} (hc:PT X c tA) (ha:PE X a ta) (hb:PE X b tb):PE X (.IfExp c a b pos) (tIf tA ta tb):=by
 intro pins s σ H Q I h
 refine wpAny_IfExp (thn (hc pins s σ H _ I h) fun d s1 zz7_0=>?_)
 obtain ⟨H1,I1,q1⟩:=zz7_0
 cases d with
 | true=>exact ha pins s1 σ H1 Q I1 q1
 | false=>exact hb pins s1 σ H1 Q I1 q1
end
noncomputable def SqL (K:PySem.W.Frag) (H:Hp) (a:Addr) (xs:List V):Prop :=
 Rd H a (.lst xs) ∨
  ∃ (o:Obj) (its:Array Value) (n:Nat),K.lookup a=some o∧o.cls=.type "list"∧o.dict=none∧o.data=.seq its n∧its.size≤sizeLine∧aZ xs its.toList
noncomputable def SqT (K:PySem.W.Frag) (H:Hp) (a:Addr) (xs:List V):Prop :=
 Rd H a (.tup xs) ∨
  ∃ (o:Obj) (its:Array Value) (n:Nat),K.lookup a=some o∧o.cls=.type "tuple"∧o.data=.seq its n∧its.size≤sizeLine∧aZ xs its.toList
noncomputable def Eb:Value→Option V
 | .none=>some .non
 | .bool b=>some (.bl b)
 | .int i _=>some (.int i)
 | .str x _=>some (.str x)
 | .bytes b _=>some (.byt b)
 | .float b _=>some (.flt b)
 | .ref a=>some (.ref a)
 | .type n=>some (.ty n)
 | _=>none
theorem aW.abs {x:V}{u:Value} (r:aW x u):Eb u=some x:=by
 cases x with
 | non=>cases r; rfl
 | bl _=>cases r; rfl
 | int _=>obtain ⟨t,rfl⟩:=r; rfl
 | str _=>obtain ⟨t,rfl⟩:=r; rfl
 | byt _=>obtain ⟨t,rfl⟩:=r; rfl
 | flt _=>obtain ⟨t,rfl⟩:=r; rfl
 | ref _=>cases r; rfl
 | ty _=>cases r; rfl
theorem aW.inj {x y:V}{u:Value} (r:aW x u) (q:aW y u):x=y:=Option.some.inj (r.abs.symm.trans q.abs)
theorem aZ.inj:∀ {xs ys:List V}{us:List Value},aZ xs us→aZ ys us→xs=ys
 := by
  intro xs ys us h
  revert ys
  induction h with
  | nil =>
   intro ys k
   cases k
   rfl
  | cons r t ih =>
   intro ys k
   cases k with
   | cons r' t'=>rw [r.inj r',ih t']
section
variable {X:Cx}{pins:List (Addr×Obj)} {σ:St}{H:Hp}{s:Shared}{a:Addr}{xs ys:List V}
theorem SqL.of {K:PySem.W.Frag} (h:H a=some (.lst xs)):SqL K H a xs:=.inl (.inl h)
theorem SqT.of {K:PySem.W.Frag} (h:H a=some (.tup xs)):SqT K H a xs:=.inl (.inl h)
theorem Inv.list (I:Inv X pins σ H s) (h:SqL X.K H a xs):∃ its:List Value,aZ xs its∧PlainL s.heap a its.toArray∧xs.length≤sizeLine:=by
 rcases h with h | ⟨o,its,n,hk,hc,hd,hs,hz,r⟩
 ·obtain ⟨z,its,n,r,e⟩:=h.ok I.hok
  exact ⟨its,r,⟨_,n,e,rfl,rfl,rfl⟩,z⟩
 ·refine ⟨its.toList,r,⟨o,n,I.kIn a o hk,hc,hd,by simpa using hs⟩,?_⟩
  have e:=r.length
  simp only [Array.length_toList] at e
  omega
theorem Inv.tuple (I:Inv X pins σ H s) (h:SqT X.K H a xs):∃ its:List Value,aZ xs its∧IsTup s.heap a its.toArray∧xs.length≤sizeLine:=by
 rcases h with h | ⟨o,its,n,hk,hc,hs,hz,r⟩
 ·obtain ⟨z,its,r,p⟩:=h.ok I.hok
  exact ⟨its,r,p,z⟩
 ·refine ⟨its.toList,r,⟨o,I.kIn a o hk,hc,n,by simpa using hs⟩,?_⟩
  have e:=r.length
  simp only [Array.length_toList] at e
  omega
theorem Inv.list_inj (I:Inv X pins σ H s) (h:SqL X.K H a xs) (h':SqL X.K H a ys):xs=ys:=by
 obtain ⟨its,r,⟨o,n,e,_,_,d⟩,_⟩:=I.list h
 obtain ⟨its',r',⟨o',n',e',_,_,d'⟩,_⟩:=I.list h'
 rw [e] at e'; cases e'
 rw [d] at d'
 injection d' with d1 _
 have:its=its':=by simpa using congrArg Array.toList d1
 subst this
 exact r.inj r'
theorem Inv.tuple_inj (I:Inv X pins σ H s) (h:SqT X.K H a xs) (h':SqT X.K H a ys):xs=ys:=by
 obtain ⟨its,r,⟨o,e,_,n,d⟩,_⟩:=I.tuple h
 obtain ⟨its',r',⟨o',e',_,n',d'⟩,_⟩:=I.tuple h'
 rw [e] at e'; cases e'
 rw [d] at d'
 injection d' with d1 _
 have:its=its':=by simpa using congrArg Array.toList d1
 subst this
 exact r.inj r'
end
noncomputable abbrev Cx.wish (X:Cx) (E:Value→Shared→Prop):Cx:={ X with xe:=E }
noncomputable abbrev Cx.nox (X:Cx):Cx:=X.wish fun _ _=>False
theorem Cx.Ok.wish {X:Cx} (ok:X.Ok) (E:Value→Shared→Prop):(X.wish E).Ok :=
 ⟨ok.mod,ok.kind,ok.glob,ok.blt,ok.above,ok.inj,ok.has,ok.cab,ok.hd,ok.frames,ok.stk,ok.exf,ok.bs,ok.bsz,ok.noex,ok.exfs,ok.funs,ok.frf⟩
theorem Cx.Ok.unwish {X:Cx}{E:Value→Shared→Prop} (ok:(X.wish E).Ok):X.Ok :=
 ⟨ok.mod,ok.kind,ok.glob,ok.blt,ok.above,ok.inj,ok.has,ok.cab,ok.hd,ok.frames,ok.stk,ok.exf,ok.bs,ok.bsz,ok.noex,ok.exfs,ok.funs,ok.frf⟩
section
variable {X:Cx}{pins:List (Addr×Obj)} {σ:St}{H:Hp}{s:Shared}{E:Value→Shared→Prop}
theorem Inv.wish (I:Inv X pins σ H s) (E:Value→Shared→Prop):Inv (X.wish E) pins σ H s:=⟨I.ok.wish E,I.os,I.bare,I.base,I.loc,I.cell,I.free,I.freeC,I.pin,I.hok,I.len⟩
theorem Inv.unwish (I:Inv (X.wish E) pins σ H s):Inv X pins σ H s:=⟨I.ok.unwish,I.os,I.bare,I.base,I.loc,I.cell,I.free,I.freeC,I.pin,I.hok,I.len⟩
theorem SP.unwish {D:lG}{f:Flow}{s':Shared} (h:SP (X.wish E) pins D f s'):SP X pins D f s':=by
 cases f with
 | next=>obtain ⟨σ',H',I,q⟩:=h; exact ⟨σ',H',I.unwish,q⟩
 | brk=>obtain ⟨σ',H',I,q⟩:=h; exact ⟨σ',H',I.unwish,q⟩
 | cont=>obtain ⟨σ',H',I,q⟩:=h; exact ⟨σ',H',I.unwish,q⟩
 | ret u=>obtain ⟨v,σ',H',I,r,q⟩:=h; exact ⟨v,σ',H',I.unwish,r,q⟩
theorem PSs.nox {st:List Stmt}{t:TS} (h:PSs X.nox st t):PSs X st t:=fun pins s σ H D I hw =>
 wpAny_mono (h pins s σ H D (I.wish _) hw) (fun _ _ q=>q.unwish) fun _ _ z=>False.elim z
end
section
variable {X:Cx}{st:Stmt}{bO:List Stmt}{t u:TS}{e:Expr}{te:TE}{pos:Pos}
noncomputable def CF:TS:=fun D σ H=>D.nx σ H
noncomputable def Cz (t u:TS):TS:=fun D σ H=>t { D with nx:=u D } σ H
theorem yX:PSs X [] CF:=fun _ _ σ H _ I h=>wpAny_execs_nil ⟨σ,H,I,h⟩
theorem iE (h1:PS X st t) (h2:PSs X bO u):PSs X (st :: bO) (Cz t u):=by
 intro pins s σ H D I h
 refine wpAny_execs_cons (thn (h1 pins s σ H { D with nx:=u D } I h) fun f s1 q=>?_)
 cases f with
 | next =>
  obtain ⟨σ',H',I',q⟩:=q
  exact h2 pins s1 σ' H' D I' q
 | ret v=>exact q
 | brk=>exact q
 | cont=>exact q
theorem nc (h1:PS X st t):PSs X [st] t:=by
 intro pins s σ H D I h
 refine wpAny_execs_cons (thn (h1 pins s σ H D I h) fun f s1 q=>?_)
 cases f with
 | next=>exact wpAny_execs_nil q
 | ret v=>exact q
 | brk=>exact q
 | cont=>exact q
theorem Inv.quiet {pins:List (Addr×Obj)} {σ:St}{H:Hp}{s:Shared} (I:Inv X pins σ H s):interactive X.env=false:=by simp [interactive,I.ok.kind]
noncomputable def CG (te:TE):TS:=fun D σ H=>te σ H fun _ H1=>D.nx σ H1
theorem fC (he:PE X e te) (hs:swapsWith e none pos.line X.env=pure false:=by rfl):PS X (.Expr e pos) (CG te):=by
 intro pins s σ H D I h
 exact wpAny_Expr_any (thn (he pins s σ H _ I h) fun v s1 zz8_0=>by obtain ⟨x,H1,I1,r1,q1⟩:=zz8_0; exact ⟨σ,H1,I1,q1⟩) I.quiet hs
noncomputable def DP (te:TE):TS:=fun D σ H=>te σ H D.rt
theorem wn (he:PE X e te):PS X (.Return (some e) pos) (DP te):=by
 intro pins s σ H D I h
 exact wpAny_Return_some (thn (he pins s σ H _ I h) fun v s1 zz9_0=>by obtain ⟨x,H1,I1,r1,q1⟩:=zz9_0; exact ⟨x,σ,H1,I1,r1,q1⟩)
noncomputable def DS (c:TT) (t u:TS):TS:=fun D σ H=>c σ H fun b H1=>if b=true then t D σ H1 else u D σ H1
theorem C7 {c:Expr}{a b:List Stmt}{tc:TT} (hc:PT X c tc) (ha:PSs X a t) (hb:PSs X b u):PS X (.If c a b pos) (DS tc t u):=by
 intro pins s σ H D I h
 refine wpAny_If (thn (hc pins s σ H _ I h) fun d s1 zz10_0=>?_)
 obtain ⟨H1,I1,q1⟩:=zz10_0
 cases d with
 | true=>exact ha pins s1 σ H1 D I1 q1
 | false=>exact hb pins s1 σ H1 D I1 q1
noncomputable def vR:TS:=fun _ _ _=>False
theorem wo:PS X st vR:=fun _ _ _ _ _ _ h=>h.elim
theorem ug {sts:List Stmt}:PSs X sts vR:=fun _ _ _ _ _ _ h=>h.elim
end
noncomputable abbrev TG:=V→St→Hp→(St→Hp→Prop)→Prop
noncomputable abbrev TGs:=List V→St→Hp→(St→Hp→Prop)→Prop
noncomputable def PG (X:Cx) (target:Expr) (t:TG):Prop :=
 ∀ (pins:List (Addr×Obj)) (s:Shared) (σ:St) (H:Hp) (v:V) (u:Value) (Q:St→Hp→Prop),Inv X pins σ H s→aW v u→t v σ H Q →
  wpAny (model X.prog X.w) X.A (assign target X.env u) (fun _ s'=>∃ σ' H',Inv X pins σ' H' s'∧Q σ' H') X.xe s
noncomputable def PGs (X:Cx) (ts:List Expr) (t:TGs):Prop :=
 ∀ (pins:List (Addr×Obj)) (s:Shared) (σ:St) (H:Hp) (vs:List V) (us:List Value) (Q:St→Hp→Prop),Inv X pins σ H s→aZ vs us→t vs σ H Q →
  wpAny (model X.prog X.w) X.A (assignInOrder ((assignEach ts X.env).map (·.2)) us) (fun _ s'=>∃ σ' H',Inv X pins σ' H' s'∧Q σ' H') X.xe s
noncomputable abbrev TIp:=V→V→Hp→VK→Prop
noncomputable def PIp (X:Cx) (op:Operator) (t:TIp):Prop :=
 ∀ (pins:List (Addr×Obj)) (s:Shared) (σ:St) (H:Hp) (x y:V) (v u:Value) (Q:VK),Inv X pins σ H s→aW x v→aW y u→t x y H Q →
  wpAny (model X.prog X.w) X.A (inplaceOp op v u) (EP X pins σ Q) X.xe s
section
variable {X:Cx}{pos:Pos}
noncomputable def ms (i:Nat):TG:=fun v σ H Q=>Q (σ.set i (some v)) H
theorem zc {i:Nat}{x:Str} (hN:X.N.Nodup) (hi:X.N[i]? = some x) (hx:Loc X.env.scope x) (hf:X.fn x=true∨X.env.scope.names.lookup x=some .local:=by first | exact .inl rfl | exact .inr rfl | assumption):PG X (.Name x pos) (ms i):=by
 intro pins s σ H v u Q I r h
 exact wpAny_assign_Name (iy I hN hi hx r (fun s' I'=>⟨_,H,I',h⟩) hf)
noncomputable def D4:TGs:=fun vs σ H Q=>vs=[]∧Q σ H
noncomputable def Dx (t:TG) (u:TGs):TGs:=fun vs σ H Q=>∃ v r,vs=v :: r∧t v σ H fun σ' H'=>u r σ' H' Q
theorem zb:PGs X [] D4:=by
 intro pins s σ H vs us Q I r h
 obtain ⟨e,h⟩:=h
 subst e
 cases r
 exact assignInOrder_nil ⟨σ,H,I,h⟩
theorem wB {e:Expr}{es:List Expr}{t:TG}{u:TGs} (h1:PG X e t) (h2:PGs X es u)
  (hs:(assignEach (e :: es) X.env).map (·.2)=assign e X.env :: (assignEach es X.env).map (·.2):=by rfl):PGs X (e :: es) (Dx t u):=by
 intro pins s σ H vs us Q I r h
 obtain ⟨v,vr,e1,h⟩:=h
 subst e1
 cases r with
 | cons r rr =>
  rw [hs]
  refine assignInOrder_cons (thn (h1 pins s σ H _ _ _ I r h) fun _ s1 zz11_0=>?_)
  obtain ⟨σ1,H1,I1,q1⟩:=zz11_0
  exact h2 pins s1 σ1 H1 _ _ Q I1 rr q1
noncomputable def D3 (K:PySem.W.Frag) (n:Nat) (t:TGs):TG:=fun v σ H Q=>∃ a xs,v=.ref a∧SqT K H a xs∧xs.length=n∧t xs σ H Q
theorem Bi {es:List Expr}{k:Nat}{t:TGs}{n:Nat} (hc:X.calm=true) (h:PGs X es t)
  (hn:(assignEach es X.env).length=n:=by rfl) (hst:(assignEach es X.env).findIdx? (·.1)=none:=by rfl):PG X (.Tuple es k pos) (D3 X.K n t):=by
 intro pins s σ H v u Q I r hw
 obtain ⟨a,xs,e1,hq,hl,hw⟩:=hw
 subst e1
 cases r
 obtain ⟨its,rv,ht,hz⟩:=I.tuple hq
 refine assign_Tuple_tuple (I.ok.hd hc) ht (by simp [hn,← hl,rv.length]) hst fun h' hx=>?_
 have I1:Inv X pins σ H { s with heap:=h' }:=I.kept (t':=s.toks) fun b o e=>hx b o (Nat.ne_of_lt (Heap.lt_size e)) e
 exact h pins _ σ H xs _ Q I1 (by simpa using rv) hw
noncomputable def vU (te:TE) (g:TG):TS:=fun D σ H=>te σ H fun x H1=>g x σ H1 D.nx
theorem Bg {tg e:Expr}{te:TE}{g:TG} (he:PE X e te) (hg:PG X tg g) (hs:swapsWithSole [tg] e pos.line X.env=pure false:=by rfl) (hw:swappedStores [tg] e X.env=pure none:=by rfl)
  (h1:(assignEach [tg] X.env).map (·.2)=[assign tg X.env]:=by rfl):PS X (.Assign [tg] e pos) (vU te g):=by
 intro pins s σ H D I h
 refine wpAny_Assign_stores (thn (he pins s σ H _ I h) fun v s1 zz12_0=>?_) hs hw
 obtain ⟨x,H1,I1,r1,q1⟩:=zz12_0
 rw [h1]
 exact thn (hg pins s1 σ H1 x v _ I1 r1 q1) fun _ s2 q=>q
theorem ng {i:Nat}{x:Str}{e:Expr}{te:TE}{pos':Pos} (hN:X.N.Nodup) (hi:X.N[i]? = some x) (hx:Loc X.env.scope x) (he:PE X e te) (hs:swapsWith e (some (.Name x pos')) pos.line X.env=pure false:=by rfl) (hf:X.fn x=true∨X.env.scope.names.lookup x=some .local:=by first | exact .inl rfl | exact .inr rfl | assumption) :
  PS X (.Assign [.Name x pos'] e pos) (vU te (ms i)):=by
 intro pins s σ H D I h
 refine wpAny_Assign_Name (thn (he pins s σ H _ I h) fun v s1 zz13_0=>?_) hs
 obtain ⟨y,H1,I1,r1,q1⟩:=zz13_0
 exact iy I1 hN hi hx r1 (fun s2 I2=>⟨_,H1,I2,q1⟩) hf
noncomputable def DU (i:Nat) (te:TE) (ti:TIp):TS:=fun D σ H=>∃ x,σ[i]? = some (some x)∧te σ H fun y H1=>ti x y H1 fun z H2=>D.nx (σ.set i (some z)) H2
theorem Bf {i:Nat}{x:Str}{e:Expr}{te:TE}{op:Operator}{ti:TIp}{pos':Pos} (hN:X.N.Nodup) (hi:X.N[i]? = some x) (hx:Loc X.env.scope x) (he:PE X e te) (ho:PIp X op ti) (hf:X.fn x=true∨X.env.scope.names.lookup x=some .local:=by first | exact .inl rfl | exact .inr rfl | assumption) :
  PS X (.AugAssign (.Name x pos') op e pos) (DU i te ti):=by
 intro pins s σ H D I h
 obtain ⟨v,e1,h⟩:=h
 obtain ⟨m,hn,hl⟩:=I.loc
 have vis:Vis X.env.scope x:=by rcases hx with k | k; exact .inl k; exact .inr (.inl k)
 obtain ⟨u,r,l⟩:=hl i x v hi e1 vis
 refine wpAny_AugAssign_Name ?_
 have go:wpAny (model X.prog X.w) X.A (eval e X.env) (fun w s₂=>wpAny (model X.prog X.w) X.A (inplaceOp op u w) (fun r s₃=>wpAny (model X.prog X.w) X.A (storeName X.env x r) (fun _=>SP X pins D .next) X.xe s₃) X.xe s₂) X.xe s:=by
  refine thn (he pins s σ H _ I h) fun w s1 zz14_0=>?_
  obtain ⟨y,H1,I1,r1,q1⟩:=zz14_0
  refine thn (ho pins s1 σ H1 v y u w _ I1 r r1 q1) fun z s2 zz15_0=>?_
  obtain ⟨zv,H2,I2,r2,q2⟩:=zz15_0
  exact iy I2 hN hi hx r2 (fun s3 I3=>⟨_,H2,I3,q2⟩) hf
 rcases l with ⟨hk,hm⟩ | ⟨hk,c,hc,hcell⟩
 ·exact wpAny_loadName_local I.ok.kind hk hn hm go
 ·rcases hk with hk | hk
  ·exact wpAny_loadName_cell I.ok.kind hk hc hcell go
  ·rcases hx with k | k
   ·have:X.env.scope.names.lookup x=some .free:=hk
    rw [k] at this; cases this
   ·have:X.env.scope.names.lookup x=some .free:=hk
    rw [k] at this; cases this
noncomputable def ipI (f:Int→Int→Int):TIp:=fun x y H Q=>∃ i j,x=.int i∧y=.int j∧Q (.int (f i j)) H
theorem BR:PIp X .Add (ipI fun i j=>i + j):=by
 intro pins s σ H x y v u Q I r1 r2 h
 obtain ⟨i,j,e1,e2,q⟩:=h
 subst e1; subst e2
 obtain ⟨t,rfl⟩:=r1
 obtain ⟨t',rfl⟩:=r2
 exact iadd_int ⟨.int _,H,I.tok _,⟨_,rfl⟩,q⟩
end
structure It where
 go:Nat→Hp→Prop
 yld:Nat→Hp→V→Hp→Prop
 stop:Nat→Hp→Prop
noncomputable def gP (X:Cx) (pins:List (Addr×Obj)) (H:Hp) (b:Addr):Prop :=
 H b=none∧b ≠ X.env.locals∧b ∉ X.fs∧(b ∈ X.ex∨X.s₀.heap.objs.size≤b)∧(∀ x c,X.env.cells.lookup x=some c→c ≠ b)∧∀ p ∈ X.pn ++ pins,p.1 ≠ b
theorem Inv.fpOk {X:Cx}{pins:List (Addr×Obj)} {σ:St}{H H':Hp}{s:Shared}{b:Addr} (I:Inv X pins σ H s) (hb:s.heap.objs.size≤b) (hn:H' b=none):gP X pins H' b:=by
 refine ⟨hn,Nat.ne_of_gt (Nat.lt_of_lt_of_le I.lt hb),I.nofs hb,.inr (Nat.le_trans I.sz hb),fun x c e z=>?_,fun p hp z=>?_⟩
 ·obtain ⟨v,q⟩:=I.cell x c e
  exact absurd (Nat.lt_of_lt_of_le q.lt (by rw [z]; exact hb)) (Nat.lt_irrefl _)
 ·exact absurd (Nat.lt_of_lt_of_le (Heap.lt_size (I.pin p hp).1) (by rw [z]; exact hb)) (Nat.lt_irrefl _)
structure lD (P:Program) (w:World) (K:PySem.W.Frag) (tg:Expr) (J:It) (fp:List Addr) (it:Addr) (tn:Nat→Heap→Prop):Prop where
 mem:it ∈ fp
 obj:∀ i h,tn i h→∀ b ∈ fp,∃ o,h.get? b=some o∧∀ v,o.data ≠ .cell v
 keep:∀ i h h',tn i h→(∀ b ∈ fp,∀ o,h.get? b=some o→h'.get? b=some o)→tn i h'
 item:∀ (X:Cx),X.prog=P→X.w=w→X.K=K→X.calm=true→∀ (i:Nat) (pins:List (Addr×Obj)) (s:Shared) (σ:St) (H:Hp) (E:Value→Shared→Prop),Inv X pins σ H s→(∀ b ∈ fp,gP X pins H b)→tn i s.heap→J.go i H →
  wpAny (model P w) X.A (pyNext (.ref it)) (fun r s1=>∃ u,r=some u ∧
   wpAny (model P w) X.A (letOwnedTupleGo tg (.ref it) u) (fun _ s2=>∃ x H',Inv X pins σ H' s2∧aW x u∧J.yld i H x H'∧tn (i + 1) s2.heap∧∀ b ∈ fp,H' b=none) E s1) E s
 done:∀ (X:Cx),X.prog=P→X.w=w→X.K=K→X.calm=true→∀ (i:Nat) (pins:List (Addr×Obj)) (s:Shared) (σ:St) (H:Hp) (E:Value→Shared→Prop),Inv X pins σ H s→(∀ b ∈ fp,gP X pins H b)→tn i s.heap→J.stop i H →
  wpAny (model P w) X.A (pyNext (.ref it)) (fun r s1=>r=none∧Inv X pins σ H s1) E s
 self:∀ (A:Around) (i:Nat) (s:Shared) (Q:Value→Shared→Prop) (E:Value→Shared→Prop),tn i s.heap→Q (.ref it) s→wpAny (model P w) A (pyIter (.ref it)) Q E s
noncomputable abbrev TI:=St→Hp→(It→Hp→Prop)→Prop
noncomputable def PIE (X:Cx) (pins:List (Addr×Obj)) (σ:St) (tg:Expr) (R:It→Hp→Prop) (itv:Value) (s2:Shared):Prop :=
 ∃ (it:Addr) (fp:List Addr) (tn:Nat→Heap→Prop) (J:It) (H':Hp),itv=.ref it∧Inv X pins σ H' s2∧lD X.prog X.w X.K tg J fp it tn∧tn 0 s2.heap∧(∀ b ∈ fp,gP X pins H' b)∧R J H'
noncomputable def PI (X:Cx) (tg iter:Expr) (wi:TI):Prop :=
 ∀ (pins:List (Addr×Obj)) (s:Shared) (σ:St) (H:Hp) (R:It→Hp→Prop),Inv X pins σ H s→wi σ H R →
  wpAny (model X.prog X.w) X.A (eval iter X.env) (fun v s1=>wpAny (model X.prog X.w) X.A (pyIter v) (PIE X pins σ tg R) X.xe s1) X.xe s
theorem sQ {M:Model}{A:Around}{E:Value→Shared→Prop}{s:Shared}{tg:Expr}{it:Addr}{u:Value}{o:Obj}{n:String}{vs:Array Value}{Q:Unit→Shared→Prop} (ho:s.heap.get? it=some o) (hc:o.cls=.type n) (hd:o.data=.fields vs)
    (hn:["enumerate","zip","dict_itemiterator","dict_reverseitemiterator","odict_iterator","itertools.zip_longest","itertools.pairwise"].contains n=false) (hQ:Q () s):wpAny M A (letOwnedTupleGo tg (.ref it) u) Q E s:=by
  unfold letOwnedTupleGo
  cases tg <;> first
    | exact wpAny_pure hQ
    | (cases u <;> first
        | exact wpAny_pure hQ
        | (refine wpAny_bind (wpAny_load ho ?_)
           rw [hc,hd]
           show wpAny M A (if (["enumerate","zip","dict_itemiterator","dict_reverseitemiterator","odict_iterator","itertools.zip_longest","itertools.pairwise"].contains n && vs[0]? == some (rawInt _))=true then _ else _) Q E s
           rw [if_neg (by intro h; rw [hn,Bool.false_and] at h; cases h)]
           exact wpAny_pure hQ))
noncomputable def Itl (K:PySem.W.Frag) (a:Addr):It :=
 ⟨fun i H=>∃ xs x,SqL K H a xs∧xs[i]? = some x,fun i H x H'=>H'=H∧∀ xs,SqL K H a xs→xs[i]? = some x,fun i H=>∃ xs,SqL K H a xs∧xs.length≤i⟩
noncomputable def Itt (K:PySem.W.Frag) (a:Addr):It :=
 ⟨fun i H=>∃ xs x,SqT K H a xs∧xs[i]? = some x,fun i H x H'=>H'=H∧∀ xs,SqT K H a xs→xs[i]? = some x,fun i H=>∃ xs,SqT K H a xs∧xs.length≤i⟩
noncomputable def Itr (lo:Int) (n:Nat):It:=⟨fun i _=>i < n,fun i H x H'=>H'=H∧x=.int (lo + i),fun i _=>n≤i⟩
theorem tR {P:Program}{w:World}{K:PySem.W.Frag}{tg:Expr} (a it:Addr):lD P w K tg (Itl K a) [it] it (fun i h=>h.IsListIter it a i) where
 mem:=by simp
 obj:=fun i h st b hb=>by
  have e:b=it:=by simpa using hb
  subst e
  obtain ⟨o,e,c,d⟩:=st
  exact ⟨o,e,fun v z=>by rw [d] at z; cases z⟩
 keep:=fun i h h' st k=>st.at fun o e=>k it (by simp) o e
 item:=by
  intro X hP hw hK hc i pins s σ H E I hf st hg
  subst hP hw hK
  obtain ⟨xs,x,hq,hx⟩:=hg
  obtain ⟨its,rv,p,hz⟩:=I.list hq
  obtain ⟨u,hu,ru⟩:=rv.get hx
  obtain ⟨f0,f1,f2,f3,f4,f5⟩:=hf it (by simp)
  refine wpAny_pyNext_list_item st p.isList (x:=u) (by simpa using hu) fun h' st' sb=>?_
  have I1:Inv X pins σ H { s with heap:=h' }:=I.turned (t':=s.toks) (fun b o hb e=>(sb.2 b hb).trans e) f0 f1 f3 f4 f5
  obtain ⟨o,e,c,d⟩:=id st'
  exact ⟨u,rfl,sQ (s:={ s with heap:=h' }) e c d (by decide) ⟨x,H,I1,ru,⟨rfl,fun ys hy=>by rw [I.list_inj hy hq]; exact hx⟩,st',fun b hb=>(hf b hb).1⟩⟩
 done:=by
  intro X hP hw hK hc i pins s σ H E I hf st hg
  subst hP hw hK
  obtain ⟨xs,hq,hx⟩:=hg
  obtain ⟨its,rv,p,hz⟩:=I.list hq
  obtain ⟨f0,f1,f2,f3,f4,f5⟩:=hf it (by simp)
  have hl:=rv.length
  exact wpAny_pyNext_list_end (I.ok.hd hc) st p.isList (by simp; omega) fun h' eb=>⟨rfl,I.turned (t':=s.toks) (fun b o hb e=>eb b o hb e) f0 f1 f3 f4 f5⟩
 self:=fun _ _ _ _ _ st h=>wpAny_pyIter_listiter st h
theorem qv {P:Program}{w:World}{K:PySem.W.Frag}{tg:Expr} (a it:Addr):lD P w K tg (Itt K a) [it] it (fun i h=>h.IsTupleIter it a i) where
 mem:=by simp
 obj:=fun i h st b hb=>by
  have e:b=it:=by simpa using hb
  subst e
  obtain ⟨o,e,c,d⟩:=st
  exact ⟨o,e,fun v z=>by rw [d] at z; cases z⟩
 keep:=fun i h h' st k=>st.at fun o e=>k it (by simp) o e
 item:=by
  intro X hP hw hK hc i pins s σ H E I hf st hg
  subst hP hw hK
  obtain ⟨xs,x,hq,hx⟩:=hg
  obtain ⟨its,rv,p,hz⟩:=I.tuple hq
  obtain ⟨u,hu,ru⟩:=rv.get hx
  obtain ⟨f0,f1,f2,f3,f4,f5⟩:=hf it (by simp)
  refine wpAny_pyNext_tuple_item st (show s.heap.IsTuple a its.toArray from p) (x:=u) (by simpa using hu) fun h' st' sb=>?_
  have I1:Inv X pins σ H { s with heap:=h' }:=I.turned (t':=s.toks) (fun b o hb e=>(sb.2 b hb).trans e) f0 f1 f3 f4 f5
  obtain ⟨o,e,c,d⟩:=id st'
  exact ⟨u,rfl,sQ (s:={ s with heap:=h' }) e c d (by decide) ⟨x,H,I1,ru,⟨rfl,fun ys hy=>by rw [I.tuple_inj hy hq]; exact hx⟩,st',fun b hb=>(hf b hb).1⟩⟩
 done:=by
  intro X hP hw hK hc i pins s σ H E I hf st hg
  subst hP hw hK
  obtain ⟨xs,hq,hx⟩:=hg
  obtain ⟨its,rv,p,hz⟩:=I.tuple hq
  obtain ⟨f0,f1,f2,f3,f4,f5⟩:=hf it (by simp)
  have hl:=rv.length
  exact wpAny_pyNext_tuple_end (I.ok.hd hc) st (show s.heap.IsTuple a its.toArray from p) (by simp; omega) fun h' eb=>⟨rfl,I.turned (t':=s.toks) (fun b o hb e=>eb b o hb e) f0 f1 f3 f4 f5⟩
 self:=fun _ _ _ _ _ st h=>wpAny_pyIter_tupleiter st h
theorem qw {P:Program}{w:World}{K:PySem.W.Frag}{tg:Expr} (it:Addr) (lo:Int) (n:Nat):lD P w K tg (Itr lo n) [it] it (fun i h=>IsRangeIter h it (lo + (i:Nat) * 1) ((n:Int) - (i:Nat)) 1) where
 mem:=by simp
 obj:=fun i h st b hb=>by
  have e:b=it:=by simpa using hb
  subst e
  exact ⟨_,st,fun v z=>by
   have z':Data.fields _=Data.cell v:=z
   cases z'⟩
 keep:=fun i h h' st k=>k it (by simp) _ st
 item:=by
  intro X hP hw hK hc i pins s σ H E I hf st hg
  subst hP hw hK
  obtain ⟨f0,f1,f2,f3,f4,f5⟩:=hf it (by simp)
  have W:=Walks.range (prog:=X.prog) (w:=X.w) (I.ok.hd hc) it lo 1 n
  refine W.item i s _ _ hg st fun v h' tk hv st' kk=>?_
  obtain ⟨t,rfl⟩:=hv
  have I1:Inv X pins σ H { s with heap:=h',toks:=tk }:=I.turned (fun b o hb e=>kk b o (by simpa using hb) e) f0 f1 f3 f4 f5
  refine ⟨_,rfl,sQ (s:={ s with heap:=h',toks:=tk }) (n := "range_iterator") st' rfl rfl (by decide) ⟨.int (lo + i),H,I1,⟨t,?_⟩,⟨rfl,rfl⟩,st',fun b hb=>(hf b hb).1⟩⟩
  rw [Int.mul_one]
 done:=by
  intro X hP hw hK hc i pins s σ H E I hf st hg
  subst hP hw hK
  obtain ⟨f0,f1,f2,f3,f4,f5⟩:=hf it (by simp)
  exact wpAny_pyNext_range_end (I.ok.hd hc) st (by have:n≤i:=hg; omega) fun h' eb=>⟨rfl,I.turned (t':=s.toks) (fun b o hb e=>eb b o hb e) f0 f1 f3 f4 f5⟩
 self:=fun _ _ _ _ _ st h=>wpAny_pyIter_rangeiter st h
section
variable {X:Cx}{tg:Expr}
noncomputable def Dt (K:PySem.W.Frag) (tl:TE):TI:=fun σ H R=>tl σ H fun x H1=>∃ a,x=.ref a∧(∃ xs,SqL K H1 a xs)∧R (Itl K a) H1
noncomputable def D1 (K:PySem.W.Frag) (tl:TE):TI:=fun σ H R=>tl σ H fun x H1=>∃ a,x=.ref a∧(∃ xs,SqT K H1 a xs)∧R (Itt K a) H1
theorem sr {l:Expr}{tl:TE} (hl:PE X l tl):PI X tg l (Dt X.K tl):=by
 intro pins s σ H R I h
 refine thn (hl pins s σ H _ I h) fun v s1 zz16_0=>?_
 obtain ⟨x,H1,I1,r1,q1⟩:=zz16_0
 obtain ⟨a,e,⟨xs,hq⟩,q⟩:=q1
 subst e
 cases r1
 obtain ⟨its,rv,p,hz⟩:=I1.list hq
 refine wpAny_pyIter_list p.isList ?_
 refine ⟨s1.heap.objs.size,[s1.heap.objs.size],_,_,H1,rfl,I1.kept (t':=s1.toks) fun b o e=>Heap.get?_push_of_some _ e,tR a _,⟨_,Heap.get?_push_size _ rfl,rfl,rfl⟩,fun b hb=>?_,q⟩
 have e:b=s1.heap.objs.size:=by simpa using hb
 subst e
 exact I1.fpOk (Nat.le_refl _) (I1.hok.fresh (Nat.le_refl _))
theorem wz {l:Expr}{tl:TE} (hl:PE X l tl):PI X tg l (D1 X.K tl):=by
 intro pins s σ H R I h
 refine thn (hl pins s σ H _ I h) fun v s1 zz17_0=>?_
 obtain ⟨x,H1,I1,r1,q1⟩:=zz17_0
 obtain ⟨a,e,⟨xs,hq⟩,q⟩:=q1
 subst e
 cases r1
 obtain ⟨its,rv,p,hz⟩:=I1.tuple hq
 refine wpAny_pyIter_tuple (show s1.heap.IsTuple a its.toArray from p) ?_
 refine ⟨s1.heap.objs.size,[s1.heap.objs.size],_,_,H1,rfl,I1.kept (t':=s1.toks) fun b o e=>Heap.get?_push_of_some _ e,qv a _,⟨_,Heap.get?_push_size _ rfl,rfl,rfl⟩,fun b hb=>?_,q⟩
 have e:b=s1.heap.objs.size:=by simpa using hb
 subst e
 exact I1.fpOk (Nat.le_refl _) (I1.hok.fresh (Nat.le_refl _))
theorem o0 {pins:List (Addr×Obj)} {σ:St}{H:Hp}{s:Shared}{R:It→Hp→Prop}{E:Value→Shared→Prop}{lo hi:Int}{t u v:Tok}{tk:Nat} (I:Inv X pins σ H s) (h1 : -(2 ^ 62)≤lo) (h2:lo < 2 ^ 62) (h3 : -(2 ^ 62)≤hi) (h4:hi < 2 ^ 62)
  (q:R (Itr lo (hi - lo).toNat) H):wpAny (model X.prog X.w) X.A (pyIter (.ref s.heap.objs.size)) (PIE X pins σ tg R) E { s with heap:=s.heap.push { cls:=.type "range",data:=.fields #[.int lo t,.int hi u,.int 1 v] },toks:=tk }:=by
 refine wpAny_pyIter_range (IsRange.new ..) (small_one h1 h2 h3 h4) ?_
 have I1:Inv X pins σ H { s with heap:=s.heap.push { cls:=.type "range",data:=.fields #[.int lo t,.int hi u,.int 1 v] },toks:=tk }:=I.kept fun b o e=>Heap.get?_push_of_some _ e
 refine ⟨(s.heap.push { cls:=.type "range",data:=.fields #[.int lo t,.int hi u,.int 1 v] }).objs.size,[(s.heap.push { cls:=.type "range",data:=.fields #[.int lo t,.int hi u,.int 1 v] }).objs.size],_,_,H,rfl,
  I1.kept (t':=tk) fun b o e=>Heap.get?_push_of_some _ e,qw _ lo (hi - lo).toNat,?_,fun b hb=>?_,q⟩
 ·have e1:lo + ((0:Nat):Int) * 1=lo:=by simp
  have e2:(((hi - lo).toNat:Nat):Int) - ((0:Nat):Int)=Builtin.Range.rangeSize lo hi 1:=by rw [rangeSize_one]; split <;> omega
  show IsRangeIter _ _ (lo + ((0:Nat):Int) * 1) ((((hi - lo).toNat:Nat):Int) - ((0:Nat):Int)) 1
  rw [e1,e2]
  exact Heap.get?_push_size _ rfl
 ·have e:b=(s.heap.push { cls:=.type "range",data:=.fields #[.int lo t,.int hi u,.int 1 v] }).objs.size:=by simpa using hb
  subst e
  exact I1.fpOk (Nat.le_refl _) (I1.hok.fresh (Nat.le_refl _))
noncomputable def Ds (ta:TA):TI:=fun σ H R=>ta σ H fun vs H1=>∃ j:Int,vs=[.int j]∧-(2 ^ 62)≤j∧j < 2 ^ 62∧R (Itr 0 j.toNat) H1
noncomputable def Dr (ta:TA):TI:=fun σ H R=>ta σ H fun vs H1=>∃ i j:Int,vs=[.int i,.int j]∧(-(2 ^ 62)≤i∧i < 2 ^ 62∧-(2 ^ 62)≤j∧j < 2 ^ 62)∧R (Itr i (j - i).toNat) H1
theorem uk {a:Expr}{ta:TA}{p pos:Pos} (hg:Gl X "range") (hm:X.mg "range" = none) (ha:PA X [a] ta) (hs:starEach [a] X.env=[(false,eval a X.env)]:=by rfl):PI X tg (.Call (.Name "range" p) [a] [] pos) (Ds ta):=by
 intro pins s σ H R I h
 refine Call_ (eM I hg hm boot_range (PyProof.Rows.callWith_type1 (thn (ha pos pins s σ H _ I h) fun us s1 zz18_0=>?_) hs rfl))
 obtain ⟨vs,H1,I1,r1,q1⟩:=zz18_0
 obtain ⟨j,e,q1,q2,q⟩:=q1
 subst e
 cases r1 with
 | cons r rr =>
  cases rr
  obtain ⟨t,rfl⟩:=r
  exact call_range_1 (o0 I1 (by omega) (by omega) q1 q2 (by simpa using q))
theorem uj {a b:Expr}{ta:TA}{p pos:Pos} (hg:Gl X "range") (hm:X.mg "range" = none) (ha:PA X [a,b] ta) (hs:starEach [a,b] X.env=[(false,eval a X.env),(false,eval b X.env)]:=by rfl) (hs2:starEach [b] X.env=[(false,eval b X.env)]:=by rfl) :
  PI X tg (.Call (.Name "range" p) [a,b] [] pos) (Dr ta):=by
 intro pins s σ H R I h
 refine Call_ (eM I hg hm boot_range (PyProof.Rows.callWith_type1 (thn (ha pos pins s σ H _ I h) fun us s1 zz19_0=>?_) (by rw [hs,hs2]) (by rw [hs2]; rfl)))
 obtain ⟨vs,H1,I1,r1,q1⟩:=zz19_0
 obtain ⟨i,j,e,⟨q1,q2,q3,q4⟩,q⟩:=q1
 subst e
 cases r1 with
 | cons r rr =>
  cases rr with
  | cons r' rr =>
   cases rr
   obtain ⟨t,rfl⟩:=r
   obtain ⟨t',rfl⟩:=r'
   exact call_range_2 (o0 I1 q1 q2 q3 q4 q)
noncomputable def DT (wi:TI) (g:TG) (tb:TS):TS:=fun D σ H=>wi σ H fun J H1=>∃ W:Nat→Nat→St→Hp→Prop,(∃ m,W 0 m σ H1)∧∀ i m σ H,W i m σ H →
 (J.stop i H∧D.nx σ H)∨(J.go i H∧∃ N:St→Hp→Prop,(∀ σ' H',N σ' H'→∃ m',m' < m∧W (i + 1) m' σ' H')∧∀ x H',J.yld i H x H'→g x σ H' fun σ2 H2=>tb { D with nx:=N,ct:=N,bk:=D.nx } σ2 H2)
noncomputable def kr (fp:List Addr) (h:Heap):List (Addr×Obj):=fp.filterMap fun b=>(h.get? b).map fun o=>(b,o)
theorem fD {fp:List Addr}{h:Heap}{b:Addr}{o:Obj} (hb:b ∈ fp) (e:h.get? b=some o):(b,o) ∈ kr fp h:=List.mem_filterMap.mpr ⟨b,hb,by rw [e]; rfl⟩
theorem uz {fp:List Addr}{h:Heap}{p:Addr×Obj} (hp:p ∈ kr fp h):p.1 ∈ fp∧h.get? p.1=some p.2:=by
 obtain ⟨b,hb,e⟩:=List.mem_filterMap.mp hp
 cases q:h.get? b with
 | none=>rw [q] at e; cases e
 | some o =>
  rw [q] at e
  have e':(b,o)=p:=Option.some.inj e
  subst e'
  exact ⟨hb,q⟩
theorem Inv.pinned {pins:List (Addr×Obj)} {σ:St}{H:Hp}{s:Shared}{fp:List Addr} (I:Inv X pins σ H s) (hf:∀ b ∈ fp,gP X pins H b) (ho:∀ b ∈ fp,∃ o,s.heap.get? b=some o∧∀ v,o.data ≠ .cell v):Inv X (pins ++ kr fp s.heap) σ H s :=
 I.pins_of fun p hp=>(List.mem_append.mp hp).elim (fun z=>I.pin p (List.mem_append_right _ z)) fun z=>by
  obtain ⟨hb,e⟩:=uz z
  obtain ⟨f0,f1,f2,_⟩:=hf p.1 hb
  obtain ⟨o,e',d⟩:=ho p.1 hb
  rw [e] at e'; cases e'
  exact ⟨e,f0,f1,f2,d⟩
theorem Inv.unpinned {pins pl:List (Addr×Obj)} {σ:St}{H:Hp}{s:Shared} (I:Inv X (pins ++ pl) σ H s):Inv X pins σ H s:=I.pins_of fun p hp=>I.pin p (List.mem_append_right _ (List.mem_append_left _ hp))
theorem wq {iter:Expr}{body:List Stmt}{wi:TI}{g:TG}{tb:TS}{pos:Pos} (hp:PassesOwn (model X.prog X.w) X.A X.env X.xe) (hc:X.calm=true) (hi:PI X tg iter wi) (hg:PG X tg g) (hb:PSs X body tb)
  (hs:∀ x,foldedSetIterable iter X.env x=pure x:=by intro _; rfl):PS X (.For tg iter body [] pos) (DT wi g tb):=by
 intro pins s σ H D I h
 refine wpAny_For (thn (hi pins s σ H _ I h) fun v s1 h1=>thn h1 fun itv s2 h2=>?_) hs
 obtain ⟨it,fp,tn,J,H2,e,I2,T,st2,f2,W,⟨m0,w0⟩,turn⟩:=h2
 subst e
 have stat:∀ {H':Hp},(∀ b ∈ fp,H' b=none)→∀ b ∈ fp,gP X pins H' b:=fun hn b hb=>⟨hn b hb,(f2 b hb).2⟩
 refine codeAny_forLoop_any (fun n s'=>∃ i σ' H',Inv X pins σ' H' s'∧tn i s'.heap∧(∀ b ∈ fp,H' b=none)∧W i n σ' H') ?_ m0 ⟨0,σ,H2,I2,st2,fun b hb=>(f2 b hb).1,w0⟩
 rintro n s3 ⟨i,σ3,H3,I3,st3,fr3,w3⟩
 rcases turn i n σ3 H3 w3 with ⟨stop,qn⟩ | ⟨go,N,hN,step⟩
 ·refine wpAny_passesOwn hp (thn (T.done X rfl rfl rfl hc i pins s3 σ3 H3 X.xe I3 (stat fr3) st3 stop) fun r s4 zz20_0=>?_)
  obtain ⟨hr,I4⟩:=zz20_0
  subst hr
  exact wpAny_execs_nil ⟨σ3,H3,I4,qn⟩
 ·refine wpAny_passesOwn hp (thn (T.item X rfl rfl rfl hc i pins s3 σ3 H3 X.xe I3 (stat fr3) st3 go) fun r s4 zz21_0=>?_)
  obtain ⟨u,hr,h4⟩:=zz21_0
  subst hr
  refine wpAny_passesOwn hp (thn h4 fun _ s5 zz22_0=>?_)
  obtain ⟨x,H5,I5,r5,y5,st5,fr5⟩:=zz22_0
  have I5':=I5.pinned (stat fr5) (T.obj _ _ st5)
  refine wpAny_passesOwn hp (thn (hg _ s5 σ3 H5 x u _ I5' r5 (step x H5 y5)) fun _ s6 zz23_0=>?_)
  obtain ⟨σ6,H6,I6,q6⟩:=zz23_0
  refine wpAny_passesOwn hp (thn (hb _ s6 σ6 H6 _ I6 q6) fun f s7 q7=>?_)
  have again:∀ {σ7:St}{H7:Hp},Inv X (pins ++ kr fp s5.heap) σ7 H7 s7→N σ7 H7→∃ m,m < n∧∃ i σ' H',Inv X pins σ' H' s7∧tn i s7.heap∧(∀ b ∈ fp,H' b=none)∧W i m σ' H':=fun {σ7 H7} I7 n7=>by
   obtain ⟨m',hm,w7⟩:=hN σ7 H7 n7
   refine ⟨m',hm,i + 1,σ7,H7,I7.unpinned,T.keep _ _ _ st5 fun b hb o e=>(I7.pin (b,o) (List.mem_append_right _ (List.mem_append_right _ (fD hb e)))).1,fun b hb=>?_,w7⟩
   obtain ⟨o,e,d⟩:=T.obj _ _ st5 b hb
   exact (I7.pin (b,o) (List.mem_append_right _ (List.mem_append_right _ (fD hb e)))).2.1
  cases f with
  | next=>obtain ⟨σ7,H7,I7,n7⟩:=q7; exact again I7 n7
  | cont=>obtain ⟨σ7,H7,I7,n7⟩:=q7; exact again I7 n7
  | brk=>obtain ⟨σ7,H7,I7,q7⟩:=q7; exact ⟨σ7,H7,I7.unpinned,q7⟩
  | ret v=>obtain ⟨x7,σ7,H7,I7,r7,q7⟩:=q7; exact ⟨x7,σ7,H7,I7.unpinned,r7,q7⟩
end
noncomputable abbrev R2:=V→V→Hp→VK→Prop
noncomputable def OpR (X:Cx) (f:Value→Value→Sem Value) (r:R2):Prop :=
 ∀ (pins:List (Addr×Obj)) (s:Shared) (σ:St) (H:Hp) (x y:V) (v u:Value) (Q:VK),Inv X pins σ H s→aW x v→aW y u→r x y H Q →
  wpAny (model X.prog X.w) X.A (f v u) (EP X pins σ Q) X.xe s
noncomputable def UnR (X:Cx) (f:Value→Sem Value) (r:V→Hp→VK→Prop):Prop :=
 ∀ (pins:List (Addr×Obj)) (s:Shared) (σ:St) (H:Hp) (x:V) (v:Value) (Q:VK),Inv X pins σ H s→aW x v→r x H Q →
  wpAny (model X.prog X.w) X.A (f v) (EP X pins σ Q) X.xe s
noncomputable def dj (X:Cx) (f:Value) (r:List V→Hp→VK→Prop):Prop :=
 ∀ (pins:List (Addr×Obj)) (s:Shared) (σ:St) (H:Hp) (xs:List V) (us:List Value) (Q:VK),Inv X pins σ H s→aZ xs us→r xs H Q →
  wpAny (model X.prog X.w) X.A (call f us) (EP X pins σ Q) X.xe s
noncomputable def tOp (r:R2) (ta tb:TE):TE:=fun σ H Q=>ta σ H fun x H1=>tb σ H1 fun y H2=>r x y H2 Q
noncomputable def tUn (r:V→Hp→VK→Prop) (ta:TE):TE:=fun σ H Q=>ta σ H fun x H1=>r x H1 Q
noncomputable def rI (C:Int→Int→Prop) (g:Int→Int→V):R2:=fun x y H Q=>∃ i j,x=.int i∧y=.int j∧C i j∧Q (g i j) H
noncomputable def rI0 (g:Int→Int→V):R2:=fun x y H Q=>∃ i j,x=.int i∧y=.int j∧Q (g i j) H
noncomputable def rU (g:Int→V):V→Hp→VK→Prop:=fun x H Q=>∃ i,x=.int i∧Q (g i) H
section
variable {X:Cx}{a b c:Expr}{ta tb tc:TE}{pos:Pos}
theorem Cc (ha:PE X a ta) (hb:PE X b tb) {pins:List (Addr×Obj)} {s:Shared} {σ:St}{H:Hp}{R:V→V→Hp→Prop} (I:Inv X pins σ H s)
  (h:ta σ H fun x H1=>tb σ H1 fun y H2=>R x y H2) {Q:Value→Shared→Prop}{f:Value→Value→Sem Value}
  (hf:∀ v u s2 x y H2,Inv X pins σ H2 s2→aW x v→aW y u→R x y H2→wpAny (model X.prog X.w) X.A (f v u) Q X.xe s2) :
  wpAny (model X.prog X.w) X.A (eval a X.env) (fun v s₁=>wpAny (model X.prog X.w) X.A (eval b X.env) (fun u s₂=>wpAny (model X.prog X.w) X.A (f v u) Q X.xe s₂) X.xe s₁) X.xe s:=by
 refine thn (ha pins s σ H _ I h) fun v s1 zz24_0=>?_
 obtain ⟨x,H1,I1,r1,q1⟩:=zz24_0
 refine thn (hb pins s1 σ H1 _ I1 q1) fun u s2 zz25_0=>?_
 obtain ⟨y,H2,I2,r2,q2⟩:=zz25_0
 exact hf v u s2 x y H2 I2 r1 r2 q2
theorem C_ {op:Operator}{r:R2} (ho:OpR X (binaryOp op) r) (ha:PE X a ta) (hb:PE X b tb):PE X (.BinOp a op b pos) (tOp r ta tb):=by
 intro pins s σ H Q I h
 exact wpAny_BinOp (Cc ha hb I h fun v u s2 x y H2 I2 rx ry q=>ho pins s2 σ H2 x y v u Q I2 rx ry q)
theorem C9 {op:UnaryOp}{r:V→Hp→VK→Prop} (ho:UnR X (unaryOp op) r) (ha:PE X a ta):PE X (.UnaryOp op a pos) (tUn r ta):=by
 intro pins s σ H Q I h
 exact UnaryOp_ (thn (ha pins s σ H _ I h) fun v s1 zz26_0=>by obtain ⟨x,H1,I1,r1,q1⟩:=zz26_0; exact ho pins s1 σ H1 x v Q I1 r1 q1)
theorem opI {f:Value→Value→Sem Value}{C:Int→Int→Prop}{g:Int→Int→Int}
  (rule:∀ (i j:Int) (t u:Tok) (s:Shared) (Q:Value→Shared→Prop) (E:Value→Shared→Prop),C i j→Q (.int (g i j) s.toks) { s with toks:=s.toks + 1 }→wpAny (model X.prog X.w) X.A (f (.int i t) (.int j u)) Q E s) :
  OpR X f (rI C fun i j=>.int (g i j)):=by
 intro pins s σ H x y v u Q I rx ry h
 obtain ⟨i,j,rfl,rfl,hc,q⟩:=h
 obtain ⟨t,rfl⟩:=rx
 obtain ⟨t',rfl⟩:=ry
 exact rule i j t t' s _ _ hc ⟨.int (g i j),H,I.tok _,⟨_,rfl⟩,q⟩
theorem Dg {f:Value→Value→Sem Value}{g:Int→Int→Int}
  (rule:∀ (i j:Int) (t u:Tok) (s:Shared) (Q:Value→Shared→Prop) (E:Value→Shared→Prop),Q (.int (g i j) s.toks) { s with toks:=s.toks + 1 }→wpAny (model X.prog X.w) X.A (f (.int i t) (.int j u)) Q E s) :
  OpR X f (rI0 fun i j=>.int (g i j)):=by
 intro pins s σ H x y v u Q I rx ry h
 obtain ⟨i,j,rfl,rfl,q⟩:=h
 obtain ⟨t,rfl⟩:=rx
 obtain ⟨t',rfl⟩:=ry
 exact rule i j t t' s _ _ ⟨.int (g i j),H,I.tok _,⟨_,rfl⟩,q⟩
theorem Bx {f:Value→Value→Sem Value}{g:Int→Int→Bool}
  (rule:∀ (i j:Int) (t u:Tok) (s:Shared) (Q:Value→Shared→Prop) (E:Value→Shared→Prop),Q (.bool (g i j)) s→wpAny (model X.prog X.w) X.A (f (.int i t) (.int j u)) Q E s) :
  OpR X f (rI0 fun i j=>.bl (g i j)):=by
 intro pins s σ H x y v u Q I rx ry h
 obtain ⟨i,j,rfl,rfl,q⟩:=h
 obtain ⟨t,rfl⟩:=rx
 obtain ⟨t',rfl⟩:=ry
 exact rule i j t t' s _ _ ⟨.bl (g i j),H,I,rfl,q⟩
noncomputable def DM (i j:Int):Prop:=0≤j∧j≤1000000∧i.natAbs < 2 ^ 64
theorem Bw:OpR X (binaryOp .Add) (rI0 fun i j=>.int (i + j)):=Dg fun _ _ _ _ _ _ _ q=>add_int q
theorem Bs:OpR X (binaryOp .Sub) (rI0 fun i j=>.int (i - j)):=Dg fun _ _ _ _ _ _ _ q=>sub_int q
theorem Bu:OpR X (binaryOp .Mod) (rI (fun _ j=>0 < j) fun i j=>.int (i % j)):=opI fun i j _ _ _ _ _ hc q=>by
 have h1:(0:Int) < j:=hc
 exact mod_int' (by omega) (by rw [Int.fmod_eq_emod_of_nonneg i (by omega)]; exact q)
theorem Bt:OpR X (binaryOp .Pow) (rI DM fun i j=>.int (i ^ j.toNat)):=opI fun _ _ _ _ _ _ _ hc q=>pow_int_small hc.1 hc.2.1 hc.2.2 q
theorem unI {f:Value→Sem Value}{g:Int→Int}
  (rule:∀ (i:Int) (t:Tok) (s:Shared) (Q:Value→Shared→Prop) (E:Value→Shared→Prop),Q (.int (g i) s.toks) { s with toks:=s.toks + 1 }→wpAny (model X.prog X.w) X.A (f (.int i t)) Q E s) :
  UnR X f (rU fun i=>.int (g i)):=by
 intro pins s σ H x v Q I rx h
 obtain ⟨i,rfl,q⟩:=h
 obtain ⟨t,rfl⟩:=rx
 exact rule i t s _ _ ⟨.int (g i),H,I.tok _,⟨_,rfl⟩,q⟩
theorem AL:UnR X (unaryOp .USub) (rU fun i=>.int (-i)):=unI fun _ _ _ _ _ q=>neg_int q
end
noncomputable def CM:V→V→Bool
 | .non,.non=>true | .non,.int _=>true | .int _,.non=>true | .non,.bl _=>true | .bl _,.non=>true | .non,.str _=>true | .str _,.non=>true
 | .int _,.int _=>true | .bl _,.bl _=>true | .str _,.str _=>true | .byt _,.byt _=>true
 | .int _,.str _=>true | .str _,.int _=>true | .bl _,.str _=>true | .str _,.bl _=>true
 | _,_=>false
noncomputable def rEq:R2:=fun x y H Q=>CM x y=true∧Q (.bl (decide (x=y))) H
noncomputable def rNe:R2:=fun x y H Q=>CM x y=true∧Q (.bl (!decide (x=y))) H
theorem sY {i j:Int}:decide (V.int i=V.int j)=(i == j):=by
 rw [Bool.eq_iff_iff]
 simp
theorem x8 {i j:Bool}:decide (V.bl i=V.bl j)=(i == j):=by
 rw [Bool.eq_iff_iff]
 simp
theorem sX {i j:Str}:decide (V.str i=V.str j)=(i == j):=by
 rw [Bool.eq_iff_iff]
 simp
theorem sZ {i j:Array UInt8}:decide (V.byt i=V.byt j)=(i.toList == j.toList):=by
 rw [Bool.eq_iff_iff]
 cases i
 cases j
 simp
section
variable {X:Cx}{a b c:Expr}{ta tb tc:TE}{pos:Pos}
theorem a_ {pins:List (Addr×Obj)} {σ:St}{H:Hp}{s:Shared}{Q:VK}{k k':Bool} (I:Inv X pins σ H s) (q:Q (.bl k) H) (e:k=k'):EP X pins σ Q (.bool k') s:=by
 subst e
 exact ⟨.bl k,H,I,rfl,q⟩
theorem Au:OpR X (compareOp .Eq) rEq:=by
 intro pins s σ H x y v u Q I rx ry h
 obtain ⟨hs,q⟩:=h
 cases x with
 | non =>
  cases rx
  cases y with
  | non=>cases ry; exact PySem.EqNone.eq_none_none (a_ I q (by simp))
  | bl j=>cases ry; exact PySem.EqNone.eq_none_bool (a_ I q (by simp))
  | int j=>obtain ⟨t',rfl⟩:=ry; exact PySem.EqNone.eq_none_int (a_ I q (by simp))
  | str j=>obtain ⟨t',rfl⟩:=ry; exact PySem.EqNone.eq_none_str (a_ I q (by simp))
  | _=>exact absurd (show false=true from hs) Bool.false_ne_true
 | bl i =>
  cases rx
  cases y with
  | non=>cases ry; exact PySem.EqNone.eq_bool_none (a_ I q (by simp))
  | bl j=>cases ry; exact eq_bool (a_ I q x8)
  | str j=>obtain ⟨t',rfl⟩:=ry; exact PySem.EqMixed.eq_bool_str (a_ I q (by simp))
  | _=>exact absurd (show false=true from hs) Bool.false_ne_true
 | int i =>
  obtain ⟨t,rfl⟩:=rx
  cases y with
  | non=>cases ry; exact PySem.EqNone.eq_int_none (a_ I q (by simp))
  | int j=>obtain ⟨t',rfl⟩:=ry; exact eq_int (a_ I q sY)
  | str j=>obtain ⟨t',rfl⟩:=ry; exact PySem.EqMixed.eq_int_str (a_ I q (by simp))
  | _=>exact absurd (show false=true from hs) Bool.false_ne_true
 | str i =>
  obtain ⟨t,rfl⟩:=rx
  cases y with
  | non=>cases ry; exact PySem.EqNone.eq_str_none (a_ I q (by simp))
  | bl j=>cases ry; exact PySem.EqMixed.eq_str_bool (a_ I q (by simp))
  | int j=>obtain ⟨t',rfl⟩:=ry; exact PySem.EqMixed.eq_str_int (a_ I q (by simp))
  | str j=>obtain ⟨t',rfl⟩:=ry; exact eq_str (a_ I q sX)
  | _=>exact absurd (show false=true from hs) Bool.false_ne_true
 | byt i =>
  obtain ⟨t,rfl⟩:=rx
  cases y with
  | byt j=>obtain ⟨t',rfl⟩:=ry; exact PySem.W.eq_bytes (a_ I q sZ)
  | _=>exact absurd (show false=true from hs) Bool.false_ne_true
 | _=>cases y <;> exact absurd (show false=true from hs) Bool.false_ne_true
theorem At:OpR X (compareOp .NotEq) rNe:=by
 intro pins s σ H x y v u Q I rx ry h
 obtain ⟨hs,q⟩:=h
 cases x with
 | non =>
  cases rx
  cases y with
  | non=>cases ry; exact PySem.EqNone.ne_none_none (a_ I q (by simp))
  | bl j=>cases ry; exact PySem.EqNone.ne_none_bool (a_ I q (by simp))
  | int j=>obtain ⟨t',rfl⟩:=ry; exact PySem.EqNone.ne_none_int (a_ I q (by simp))
  | str j=>obtain ⟨t',rfl⟩:=ry; exact PySem.EqNone.ne_none_str (a_ I q (by simp))
  | _=>exact absurd (show false=true from hs) Bool.false_ne_true
 | bl i =>
  cases rx
  cases y with
  | non=>cases ry; exact PySem.EqNone.ne_bool_none (a_ I q (by simp))
  | bl j=>cases ry; exact ne_bool (a_ I q (congrArg not x8))
  | str j=>obtain ⟨t',rfl⟩:=ry; exact PySem.EqMixed.ne_bool_str (a_ I q (by simp))
  | _=>exact absurd (show false=true from hs) Bool.false_ne_true
 | int i =>
  obtain ⟨t,rfl⟩:=rx
  cases y with
  | non=>cases ry; exact PySem.EqNone.ne_int_none (a_ I q (by simp))
  | int j=>obtain ⟨t',rfl⟩:=ry; exact ne_int (a_ I q (congrArg not sY))
  | str j=>obtain ⟨t',rfl⟩:=ry; exact PySem.EqMixed.ne_int_str (a_ I q (by simp))
  | _=>exact absurd (show false=true from hs) Bool.false_ne_true
 | str i =>
  obtain ⟨t,rfl⟩:=rx
  cases y with
  | non=>cases ry; exact PySem.EqNone.ne_str_none (a_ I q (by simp))
  | bl j=>cases ry; exact PySem.EqMixed.ne_str_bool (a_ I q (by simp))
  | int j=>obtain ⟨t',rfl⟩:=ry; exact PySem.EqMixed.ne_str_int (a_ I q (by simp))
  | str j=>obtain ⟨t',rfl⟩:=ry; exact ne_str (a_ I q (congrArg not sX))
  | _=>exact absurd (show false=true from hs) Bool.false_ne_true
 | byt i =>
  obtain ⟨t,rfl⟩:=rx
  cases y with
  | byt j=>obtain ⟨t',rfl⟩:=ry; exact PySem.W.ne_bytes (a_ I q (congrArg not sZ))
  | _=>exact absurd (show false=true from hs) Bool.false_ne_true
 | _=>cases y <;> exact absurd (show false=true from hs) Bool.false_ne_true
theorem Dd:OpR X (compareOp .Lt) (rI0 fun i j=>.bl (decide (i < j))):=Bx fun _ _ _ _ _ _ _ q=>lt_int q
theorem De:OpR X (compareOp .LtE) (rI0 fun i j=>.bl (decide (i≤j))):=Bx fun _ _ _ _ _ _ _ q=>le_int q
theorem Df:OpR X (compareOp .Gt) (rI0 fun i j=>.bl (decide (j < i))):=Bx fun _ _ _ _ _ _ _ q=>gt_int q
theorem ur:OpR X (compareOp .Lt) (fun x y H Q=>∃ i j,x=.str i∧y=.str j∧Q (.bl (decide (i.cps.toList < j.cps.toList))) H):=by
 intro pins s σ H x y v u Q I rx ry h
 obtain ⟨i,j,rfl,rfl,q⟩:=h
 obtain ⟨t,rfl⟩:=rx
 obtain ⟨t',rfl⟩:=ry
 exact lt_str (a_ I q rfl)
theorem uu:OpR X (compareOp .In) (fun x y H Q=>∃ i j,x=.str i∧y=.str j∧Q (.bl (!(Builtin.Str.occurrences j i 0 j.length 1).isEmpty)) H):=by
 intro pins s σ H x y v u Q I rx ry h
 obtain ⟨i,j,rfl,rfl,q⟩:=h
 obtain ⟨t,rfl⟩:=rx
 obtain ⟨t',rfl⟩:=ry
 exact in_str (a_ I q rfl)
theorem zi:OpR X (compareOp .IsNot) (fun x y H Q=>y=.non∧Q (.bl (!decide (x=.non))) H):=by
 intro pins s σ H x y v u Q I rx ry h
 obtain ⟨rfl,q⟩:=h
 cases ry
 refine isnot_none_gen (a_ I q ?_)
 cases x <;> first
  | (cases rx; rfl)
  | (obtain ⟨t,rfl⟩:=rx; rfl)
theorem ni:OpR X (compareOp .NotIn) (fun x y H Q=>∃ i j,x=.str i∧y=.str j∧Q (.bl (!(!(Builtin.Str.occurrences j i 0 j.length 1).isEmpty))) H):=by
 intro pins s σ H x y v u Q I rx ry h
 obtain ⟨i,j,rfl,rfl,q⟩:=h
 obtain ⟨t,rfl⟩:=rx
 obtain ⟨t',rfl⟩:=ry
 exact notIn_str (a_ I q rfl)
theorem OpR.or {f:Value→Value→Sem Value}{r r':R2} (h:OpR X f r) (h':OpR X f r'):OpR X f (fun x y H Q=>r x y H Q∨r' x y H Q):=by
 intro pins s σ H x y v u Q I rx ry q
 rcases q with q | q
 ·exact h pins s σ H x y v u Q I rx ry q
 ·exact h' pins s σ H x y v u Q I rx ry q
theorem gh (b:Expr) {op:CmpOp} (h:op ≠ .In:=by decide) (h2:op ≠ .NotIn:=by decide):behindInMarks op b=false:=by
 have e1:(op == CmpOp.In)=false:=by cases op <;> first | rfl | exact absurd rfl h
 have e2:(op == CmpOp.NotIn)=false:=by cases op <;> first | rfl | exact absurd rfl h2
 cases b <;> simp [behindInMarks,e1,e2]
theorem sv {op:CmpOp}{r:R2} (ho:OpR X (compareOp op) r) (ha:PE X a ta) (hb:PE X b tb) (hm:behindInMarks op b=false):PE X (.Compare a [op] [b] pos) (tOp r ta tb):=by
 intro pins s σ H Q I h
 exact wpAny_Compare1 (Cc ha hb I h fun v u s2 x y H2 I2 rx ry q=>ho pins s2 σ H2 x y v u Q I2 rx ry q) hm
noncomputable def Cy (t:TE):TT:=fun σ H Q=>t σ H fun x H'=>∃ k,x=.bl k∧Q k H'
theorem na {op:CmpOp}{r:R2} (ho:OpR X (compareOp op) r) (ha:PE X a ta) (hb:PE X b tb) (hm:behindInMarks op b=false):PT X (.Compare a [op] [b] pos) (Cy (tOp r ta tb)):=by
 intro pins s σ H Q I h
 refine wpAny_isTrue_Compare1 (thn (ha pins s σ H _ I h) fun v s1 ⟨x,H1,I1,r1,q1⟩=>thn (hb pins s1 σ H1 _ I1 q1) fun u s2 ⟨y,H2,I2,r2,q2⟩ =>
  thn (ho pins s2 σ H2 x y v u _ I2 r1 r2 q2) fun c s3 ⟨z,H3,I3,r3,k,e,q3⟩=>?_) hm
 subst e
 cases r3
 exact wpAny_truthy_bool ⟨H3,I3,q3⟩
noncomputable def vT (r r':R2) (ta tb tc:TE):TE:=fun σ H Q=>ta σ H fun x H1=>tb σ H1 fun y H2=>r x y H2 fun z H3=>∃ k,z=.bl k ∧
 (if k=true then tc σ H3 fun w' H4=>r' y w' H4 Q else Q (.bl false) H3)
theorem wJ {op op':CmpOp}{r r':R2} (ho:OpR X (compareOp op) r) (ho':OpR X (compareOp op') r') (ha:PE X a ta) (hb:PE X b tb) (hc:PE X c tc)
  (hm:lastMarks [op,op'] [b,c]=false:=by with_unfolding_all rfl):PE X (.Compare a [op,op'] [b,c] pos) (vT r r' ta tb tc):=by
 intro pins s σ H Q I h
 refine Compare_chain (thn (ha pins s σ H _ I h) fun v s1 ⟨x,H1,I1,r1,q1⟩=>chain_link (thn (hb pins s1 σ H1 _ I1 q1) fun u s2 ⟨y,H2,I2,r2,q2⟩ =>
  thn (ho pins s2 σ H2 x y v u _ I2 r1 r2 q2) fun d s3 ⟨z,H3,I3,r3,k,e,q3⟩=>?_)) hm
 subst e
 cases r3
 refine wpAny_truthy_bool ?_
 cases k with
 | false=>exact ite_ff ⟨.bl false,H3,I3,rfl,q3⟩
 | true=>exact ite_tt (chain_last (thn (hc pins s3 σ H3 _ I3 q3) fun w' s4 zz33_0=>by obtain ⟨z',H4,I4,r4,q4⟩:=zz33_0; exact ho' pins s4 σ H4 y z' u w' Q I4 r2 r4 q4))
theorem nC:(sizeLine:Nat) < 2 ^ 63:=by rw [sizeLine_eq]; decide
theorem qQ:OpR X (binaryOp .Add) (fun x y H Q=>∃ i j,x=.str i∧y=.str j∧i.length + j.length≤sizeLine∧Q (.str (i ++ j)) H):=by
 intro pins s σ H x y v u Q I rx ry h
 obtain ⟨i,j,rfl,rfl,hz,q⟩:=h
 obtain ⟨t,rfl⟩:=rx
 obtain ⟨t',rfl⟩:=ry
 exact add_str (fun t' tk=>⟨.str (i ++ j),H,I.tok _,⟨_,rfl⟩,q⟩) hz
theorem jZ {x:V}{us:List Value} (r:aZ [x] us):∃ u,us=[u]∧aW x u:=by
 cases r with
 | cons r1 r2=>cases r2; exact ⟨_,rfl,r1⟩
theorem Ai {x y:V}{us:List Value} (r:aZ [x,y] us):∃ u w',us=[u,w']∧aW x u∧aW y w':=by
 cases r with
 | cons r1 r2 =>
  cases r2 with
  | cons r3 r4=>cases r4; exact ⟨_,_,rfl,r1,r3⟩
theorem vp (hc:X.calm=true):dj X (.builtin "min") (fun xs H Q=>∃ i j,xs=[.int i,.int j]∧Q (.int (if j < i then j else i)) H):=by
 intro pins s σ H xs us Q I r h
 obtain ⟨i,j,rfl,q⟩:=h
 obtain ⟨u,w',rfl,⟨t,rfl⟩,⟨t',rfl⟩⟩:=Ai r
 refine min_two_ints (I.ok.hd hc) fun h' tk k=>⟨_,H,I.kept k,?_,q⟩
 by_cases hj:j < i
 ·rw [if_pos hj,if_pos hj]; exact ⟨_,rfl⟩
 ·rw [if_neg hj,if_neg hj]; exact ⟨_,rfl⟩
noncomputable def Cm (K:PySem.W.Frag) (x:V) (H:Hp) (n:Nat):Prop :=
 match x with
 | .str y=>y.length≤sizeLine∧n=y.length
 | .byt y=>y.size≤sizeLine∧n=y.size
 | .ref p=>(∃ xs,SqL K H p xs∧n=xs.length)∨∃ xs,SqT K H p xs∧n=xs.length
 | _=>False
theorem yc:dj X (.builtin "len") (fun xs H Q=>∃ x n,xs=[x]∧Cm X.K x H n∧Q (.int n) H):=by
 intro pins s σ H xs us Q I r h
 obtain ⟨x,n,rfl,e,q⟩:=h
 obtain ⟨u,rfl,rx⟩:=jZ r
 have hl:=nC
 have hs:sizeLine=16777216:=sizeLine_eq
 cases x with
 | str y =>
  obtain ⟨t,rfl⟩:=rx
  obtain ⟨hy,e'⟩:y.length≤sizeLine∧n=y.length:=e
  subst e'
  exact len_str (by omega) ⟨.int _,H,I.tok _,⟨_,rfl⟩,q⟩
 | byt y =>
  obtain ⟨t,rfl⟩:=rx
  obtain ⟨hy,e'⟩:y.size≤sizeLine∧n=y.size:=e
  subst e'
  exact PySem.W.len_bytes (by omega) ⟨.int _,H,I.tok _,⟨_,rfl⟩,q⟩
 | ref p =>
  cases rx
  have e':(∃ xs,SqL X.K H p xs∧n=xs.length)∨∃ xs,SqT X.K H p xs∧n=xs.length:=e
  rcases e' with ⟨xs,hx,e'⟩ | ⟨xs,hx,e'⟩
  ·subst e'
   obtain ⟨its,r',pl,hz⟩:=I.list hx
   have hlen:=r'.length
   exact Calls.call_len_list pl.isList (by simp only [List.size_toArray]; omega) ⟨.int xs.length,H,I.tok _,⟨_,by simp only [List.size_toArray]; rw [hlen]⟩,q⟩
  ·subst e'
   obtain ⟨its,r',pl,hz⟩:=I.tuple hx
   have hlen:=r'.length
   exact len_tuple pl (by simp only [List.size_toArray]; omega) ⟨.int xs.length,H,I.tok _,⟨_,by simp only [List.size_toArray]; rw [hlen]⟩,q⟩
 | _=>exact (show False from e).elim
end
structure Cl (h:Heap) (x dx C:Addr) (mA:Str→Option Value):Prop where
 obj:h.get? x=some (PySem.W.instObj C dx)
 ns:h.Ns1 dx mA
 ne:dx ≠ x
theorem uM {h:Heap}{dx:Addr}{mA:Str→Option Value} (n:h.Ns1 dx mA):∃ od,h.get? dx=some od∧∀ name,PySem.W.lookIn name od=some (mA name):=by
 obtain ⟨o,es,ep,ho,hd,hk,_,hm⟩:=n
 refine ⟨o,ho,fun name=>?_⟩
 have e:=hm name
 unfold nsFind findBy at e
 rw [← Array.find?_toList] at e
 unfold PySem.W.lookIn
 rw [hd]
 dsimp only
 split
 ·rename_i y q
  rw [q] at e
  exact congrArg some e
 ·rename_i q
  rw [q] at e
  have a:es.toList.any (·.refKey)=false:=by
   rw [List.any_eq_false]
   intro y hy
   obtain ⟨z,t,hkey⟩:=hk y (Array.mem_toList_iff.mp hy)
   simp [DictEntry.refKey,hkey]
  have a':¬ es.toList.any (·.refKey)=true:=by rw [a]; exact Bool.false_ne_true
  rw [if_neg a']
  exact congrArg some e
theorem Cl.look {h:Heap}{x dx C:Addr}{mA:Str→Option Value} (I:Cl h x dx C mA):∃ od,PySem.W.InstAt h x (PySem.W.instObj C dx) C (some od)∧∀ name,PySem.W.lookIn name od=some (mA name) :=
 let ⟨od,ho,hl⟩:=uM I.ns
 ⟨od,⟨I.obj,rfl,rfl,ho⟩,hl⟩
theorem fS.some_of {v:V}{o:Option Value} (r:fS (some v) o):∃ u,o=some u∧aW v u:=by
 cases o with
 | none=>exact (show False from r).elim
 | some u=>exact ⟨u,rfl,r⟩
theorem fS.none_of {o:Option Value} (r:fS none o):o=none:=by
 cases o with
 | none=>rfl
 | some u=>exact (show False from r).elim
section
variable {P:Program}{w:World}{H H':Hp}{h h':Heap}{a C dx:Addr}{fs fs':List (Str×V)}
theorem zC (hok:HOk P w H h) (e:H a=some (.ins C dx fs)):∃ mA,Cl h a dx C mA∧(∀ f,fS (fs.lookup f) (mA f))∧PySem.Within mA (fs.map (·.1))∧fs.length≤1000∧H dx=some (.own a):=by
 obtain ⟨d,z,ne,ob,mA,n,r,q⟩:=(show b6 P w H h a (.ins C dx fs) from hok a _ e)
 exact ⟨mA,⟨ob,n,ne⟩,r,q,z,d⟩
end
structure Cls (K:PySem.W.Frag) (C:Addr):Prop where
 pg:PySem.W.plainGet K C Str.empty=true
 hd:PySem.W.hasDictIn K C=true
 po:PySem.W.plainOver K C=true
 sa:PySem.W.findIn K (.ref C) "__setattr__" = some (some (.builtin "object.__setattr__"))
theorem Cls.get {K:PySem.W.Frag}{C:Addr} (c:Cls K C) (f:Str):PySem.W.plainGet K C f=true:=c.pg
section
variable {X:Cx}{pins:List (Addr×Obj)} {σ:St}{H:Hp}{s:Shared}{A:Around}{E:Value→Shared→Prop}{Q:Value→Shared→Prop}{c:Value}{b:Bool}
inductive ik (K:PySem.W.Frag) (H:Hp):V→Value→Prop where
 | non:ik K H .non (.type "NoneType")
 | bl (x:Bool):ik K H (.bl x) (.type "bool")
 | int (i:Int):ik K H (.int i) (.type "int")
 | str (x:Str):ik K H (.str x) (.type "str")
 | flt (x:UInt64):ik K H (.flt x) (.type "float")
 | lst {a:Addr}{xs:List V} (e:H a=some (.lst xs)):ik K H (.ref a) (.type "list")
 | frz {a:Addr}{o:Obj}{xs:List V} (e:H a=some (.frz o (.lst xs))):ik K H (.ref a) (.type "list")
 | tup {a:Addr}{xs:List V} (e:H a=some (.tup xs)):ik K H (.ref a) (.type "tuple")
 | dK {a:Addr}{kvs:List (Key×V)} (e:H a=some (.dK kvs)):ik K H (.ref a) (.type "dict")
 | dT {a:Addr}{kvs:List (List Key×V)} (e:H a=some (.dT kvs)):ik K H (.ref a) (.type "dict")
 | frzD {a:Addr}{o:Obj}{kvs:List (Key×V)} (e:H a=some (.frz o (.dK kvs))):ik K H (.ref a) (.type "dict")
 | ins {a C dx:Addr}{fs:List (Str×V)} (e:H a=some (.ins C dx fs)) (cl:Cls K C) (ha:PySem.W.findIn K (.ref C) "__class__" = some (some (.builtin "object.__class__")))
   (hn:PySem.W.specialIn K (.builtin "object.__class__") "__get__" = some (some (.builtin "getset_descriptor.__get__"))) (htk:PySem.W.takesIn K (.builtin "object.__class__")=some true)
   (hm:PySem.W.mroIn K C (.type "object")=some true):ik K H (.ref a) (.ref C)
theorem uW {x:V}{u t:Value} (I:Inv X pins σ H s) (rx:aW x u) (ty:ik X.K H x t) (e:PySem.W.kitOne X.K t c=some b) (h:∀ tk,Q (.bool b) { s with toks:=tk }) :
  wpAny (model X.prog X.w) A (call (.builtin "isinstance") [u,c]) Q E s:=by
 cases ty with
 | non=>cases (show u=Value.none from rx); exact PySem.W.kia_one PySem.W.kitx_none I.kIn True.intro e (fun z=>nomatch z) h
 | bl y=>cases (show u=Value.bool y from rx); exact PySem.W.kia_one PySem.W.kitx_bool I.kIn True.intro e (fun z=>nomatch z) h
 | int i=>obtain ⟨t,q⟩:=(show ∃ t,u=Value.int i t from rx); cases q; exact PySem.W.kia_one PySem.W.kitx_int I.kIn True.intro e (fun z=>nomatch z) h
 | str y=>obtain ⟨t,q⟩:=(show ∃ t,u=Value.str y t from rx); cases q; exact PySem.W.kia_one PySem.W.kitx_str I.kIn True.intro e (fun z=>nomatch z) h
 | flt y=>obtain ⟨t,q⟩:=(show ∃ t,u=Value.float y t from rx); cases q; exact PySem.W.kia_one PySem.W.kitx_float I.kIn True.intro e (fun z=>nomatch z) h
 | @lst a xs ea =>
  cases (show u=Value.ref a from rx)
  obtain ⟨_,_,n,_,h1⟩:=(show b6 X.prog X.w H s.heap a (.lst xs) from I.hok a _ ea)
  exact PySem.W.kia_one PySem.W.kitx_list I.kIn ⟨_,h1,rfl⟩ e (fun z=>nomatch z) h
 | @frz a ob xs ea =>
  cases (show u=Value.ref a from rx)
  obtain ⟨_,_,_,n,_,h1⟩:=(show b6 X.prog X.w H s.heap a (.frz ob (.lst xs)) from I.hok a _ ea)
  exact PySem.W.kia_one PySem.W.kitx_list I.kIn ⟨_,h1,rfl⟩ e (fun z=>nomatch z) h
 | @tup a xs ea =>
  cases (show u=Value.ref a from rx)
  obtain ⟨_,_,_,p⟩:=(show b6 X.prog X.w H s.heap a (.tup xs) from I.hok a _ ea)
  obtain ⟨o,h1,h2,_⟩:=p
  exact PySem.W.kia_one PySem.W.kitx_tuple I.kIn ⟨o,h1,h2⟩ e (fun z=>nomatch z) h
 | @dK a kvs ea =>
  cases (show u=Value.ref a from rx)
  obtain ⟨_,_,vs,_,p⟩:=(show b6 X.prog X.w H s.heap a (.dK kvs) from I.hok a _ ea)
  obtain ⟨o,es,ep,h1,h2,_⟩:=p
  exact PySem.W.kia_one PySem.W.kitx_dict I.kIn ⟨o,h1,h2.1⟩ e (fun z=>nomatch z) h
 | @frzD a ob kvs ea =>
  cases (show u=Value.ref a from rx)
  obtain ⟨_,_,_,vs,_,p⟩:=(show b6 X.prog X.w H s.heap a (.frz ob (.dK kvs)) from I.hok a _ ea)
  obtain ⟨o,es,ep,h1,h2,_⟩:=p
  exact PySem.W.kia_one PySem.W.kitx_dict I.kIn ⟨o,h1,h2.1⟩ e (fun z=>nomatch z) h
 | @dT a kvs ea =>
  cases (show u=Value.ref a from rx)
  obtain ⟨_,_,xs,_,o,es,ep,h1,h2,_⟩:=(show b6 X.prog X.w H s.heap a (.dT kvs) from I.hok a _ ea)
  exact PySem.W.kia_one PySem.W.kitx_dict I.kIn ⟨o,h1,h2.1⟩ e (fun z=>nomatch z) h
 | @ins a C dx fs ea cl ha hn htk hm =>
  cases (show u=Value.ref a from rx)
  obtain ⟨mA,O,_⟩:=zC I.hok ea
  obtain ⟨od,J,_⟩:=O.look
  exact PySem.W.kia_one (PySem.W.kitx_own (cl.get _) cl.hd ha hn htk hm) I.kIn J e (fun z=>nomatch z) h
end
structure dM (k:Nat) (A:Around):Prop where
 hd:A.handled=none
 dp:A.depth + 3 * k + 5 < recursionLimit
 un:A.units + 16 * k + 200 < cLine
theorem dM.mono {j k:Nat}{A:Around} (r:dM k A) (h:j≤k):dM j A:=⟨r.hd,by have:=r.dp; omega,by have:=r.un; omega⟩
theorem dM.deeper {k:Nat}{A:Around} (r:dM (k + 1) A) (env:Env):dM k (A.deeper env) :=
 ⟨r.hd,by have:=r.dp; show A.depth + 1 + 3 * k + 5 < _; omega,by have:=r.un; show A.units + 3 + 16 * k + 200 < _; omega⟩
theorem dM.depth {k:Nat}{A:Around} (r:dM k A):A.depth < recursionLimit:=by have:=r.dp; omega
theorem dM.units {k:Nat}{A:Around} (r:dM k A):A.units + 64 < cLine:=by have:=r.un; omega
noncomputable def CD:TA:=fun _ H Q=>Q [] H
noncomputable def Ak (ta:TE) (tr:TA):TA:=fun σ H Q=>ta σ H fun x H1=>tr σ H1 fun xs H2=>Q (x :: xs) H2
section
variable {X:Cx}{e:Expr}{es:List Expr}{te:TE}{t:TA}{pos:Pos}
theorem gg:PA X [] CD:=fun _ _ _ _ H Q I h=>Calls.spliced_nil ⟨[],H,I,.nil,h⟩
theorem c_ (ha:PE X e te) (hr:PA X es t) (hs:starEach (e :: es) X.env=(false,eval e X.env) :: starEach es X.env:=by rfl):PA X (e :: es) (Ak te t):=by
 intro pos pins s σ H Q I h
 rw [hs]
 show wpAny _ _ (spliced ((false,eval e X.env) :: backTo pos (starEach es X.env))) _ _ s
 refine Calls.spliced_cons (thn (ha pins s σ H _ I h) fun u s1 zz34_0=>?_)
 obtain ⟨x,H1,I1,r1,q1⟩:=zz34_0
 exact thn (hr pos pins s1 σ H1 _ I1 q1) fun us s2 zz35_0=>by obtain ⟨xs,H2,I2,r2,q2⟩:=zz35_0; exact ⟨x :: xs,H2,I2,.cons r1 r2,q2⟩
noncomputable def DO (t:TA):TE:=fun σ H Q=>t σ H fun xs H1=>xs.length≤sizeLine∧∀ p,H1 p=none→Q (.ref p) (upd H1 p (.tup xs))
noncomputable def DR (t:TA):TE:=fun σ H Q=>t σ H fun xs H1=>xs.length≤sizeLine∧∀ p,H1 p=none→Q (.ref p) (upd H1 p (.lst xs))
theorem Bj {x1} (h:PA X es t):PE X (.Tuple es x1 pos) (DO t):=by
 intro pins s σ H Q I hq
 refine wpAny_Tuple_spliced (thn (h pos pins s σ H _ I hq) fun us s1 ⟨xs,H1,I1,r,z,q⟩=>⟨by rw [← r.length]; exact z,?_⟩)
 have hf:H1 s1.heap.objs.size=none:=I1.hok.fresh (Nat.le_refl _)
 refine ⟨.ref s1.heap.objs.size,upd H1 s1.heap.objs.size (.tup xs),I1.laid (t':=s1.toks) (fun b u e=>Heap.get?_push_of_some _ e) (Nat.le_refl _) ?_,rfl,q _ hf⟩
 exact ⟨z,us,r,⟨_,Heap.get?_push_size _ rfl,rfl,_,rfl⟩⟩
theorem Bn (h:PA X es t):PE X (.List es pos) (DR t):=by
 intro pins s σ H Q I hq
 refine wpAny_List_spliced (thn (h pos pins s σ H _ I hq) fun us s1 ⟨xs,H1,I1,r,z,q⟩=>⟨by rw [← r.length]; exact z,?_⟩)
 have hf:H1 s1.heap.objs.size=none:=I1.hok.fresh (Nat.le_refl _)
 refine ⟨.ref s1.heap.objs.size,upd H1 s1.heap.objs.size (.lst xs),I1.laid (t':=s1.toks) (fun b u e=>Heap.get?_push_of_some _ e) (Nat.le_refl _) ?_,rfl,q _ hf⟩
 exact ⟨z,us,0,r,Heap.get?_push_size _ rfl⟩
end
noncomputable abbrev Sp:=List V→Hp→VK→XK→Prop
noncomputable abbrev CXT:=List Env→Hp→Shared→XK→Value→Shared→Prop
structure yr (P:Program) (w:World) (K:PySem.W.Frag) (mg:Str→Option Value) (base:Heap) (A:Around) (outer:List Env) (s:Shared) (H:Hp):Prop where
 frames:A.frames=some outer
 mod:Mod K mg base
 bs:∀ b o,base.get? b=some o→s.heap.get? b=some o∧H b=none
 bsz:base.objs.size≤s.heap.objs.size
 funs:s.heap.FunFrames base outer
 frf:∀ b ∈ frs outer,H b=none
 hok:HOk P w H s.heap
 bare:AllBare s.gens
noncomputable def CE (outer:List Env) (P:Program) (w:World) (H:Hp) (s:Shared) (Q:VK) (u:Value) (s':Shared):Prop :=
 ∃ v H',s'.os=s.os∧AllBare s'.gens∧Un (frs outer) [] H H' s.heap s'.heap∧HOk P w H' s'.heap∧aW v u∧Q v H'
noncomputable def CR (CX:CXT) (outer:List Env) (P:Program) (w:World) (H:Hp) (s:Shared) (Q:VK) (E:XK) (r:Result) (s':Shared):Prop :=
 match r with
 | .ok (.ret u)=>CE outer P w H s Q u s'
 | .ok _=>False
 | .error e=>CX outer H s E e s'
structure bC (P:Program) (w:World) (K:PySem.W.Frag) (mg:Str→Option Value) (base:Heap) (CX:CXT) (k:Nat) (f:Addr) (fd:FuncData) (ps:List Str) (sp:Sp):Prop where
 len:∀ vs H Q E,sp vs H Q E→vs.length=ps.length
 run:∀ (A:Around) (outer:List Env) (s:Shared) (H:Hp) (args:Args) (us:List Value) (vs:List V) (Q:VK) (E:XK),dM k A→yr P w K mg base A outer s H→BindsTo s fd args (ps.zip us)→aZ vs us→sp vs H Q E →
  codeAny (model P w) A (.call (.ref f) args) (CR CX outer P w H s Q E) s
section
variable {X:Cx}{pins:List (Addr×Obj)} {σ:St}{H:Hp}{s s':Shared}
theorem Inv.env0 (I:Inv X pins σ H s):yr X.prog X.w X.K X.mg X.base X.A X.stack s H :=
 ⟨I.ok.frames,I.ok.mod,I.bs,Nat.le_trans I.ok.bsz I.sz,I.stack,I.stkFree,I.hok,I.bare⟩
theorem Inv.after {Q:VK}{u:Value} (I:Inv X pins σ H s) (h:CE X.stack X.prog X.w H s Q u s'):EP X pins σ Q u s':=by
 obtain ⟨v,H',os,bare,un,hok,r,q⟩:=h
 obtain ⟨hh,g,d,t,os'⟩:=s'
 obtain rfl:os'=s.os:=os
 exact ⟨v,H',I.call (h':=hh) (g':=g) (d':=d) (t':=t) (ch:=[]) un hok bare (fun b z=>absurd z (by simp)),r,q⟩
end
noncomputable def CK (sp:Sp) (dvs:List V) (E:XK) (t:TA):TE:=fun σ H Q=>t σ H fun vs H1=>sp (vs ++ dvs) H1 Q E
noncomputable def bc (K:PySem.W.Frag) (fd:FuncData) (ps:List Str) (ds:List Value):Prop :=
 ∀ (s:Shared) (us:List Value),K.In s.heap→(us ++ ds).length=ps.length→BindsTo s fd ⟨us,[]⟩ (ps.zip (us ++ ds))
theorem bc.all {K:PySem.W.Frag}{fd:FuncData}{ps:List Str} (h:∀ us:List Value,us.length=ps.length→bindArgs fd ⟨us,[]⟩=pure (ps.zip us)):bc K fd ps []:=fun s us _ hl=>by
 rw [List.append_nil] at hl ⊢
 exact .of_eq (h us hl)
noncomputable def rJ (CX:CXT) (X:Cx) (E:XK):Prop:=∀ (pins:List (Addr×Obj)) (σ:St) (H:Hp) (s:Shared) (e:Value) (s':Shared),Inv X pins σ H s→CX X.stack H s E e s'→X.xe e s'
section
variable {X:Cx}{CX:CXT}{k:Nat}{f C:Addr}{fd:FuncData}{ps:List Str}{sp:Sp}{dvs:List V}{ds:List Value}{E:XK}{x m:Str}{p pos apos:Pos}{e o:Expr}{es:List Expr}{ta:TE}{t:TA}
theorem AY {pins:List (Addr×Obj)} {σ:St}{H:Hp}{s:Shared}{Q:VK}{us:List Value}{vs:List V} (F:bC X.prog X.w X.K X.mg X.base CX k f fd ps sp) (hr:dM k X.A) (hb:bc X.K fd ps ds) (hd:aZ dvs ds) (hx:rJ CX X E)
  (I:Inv X pins σ H s) (r:aZ vs us) (h:sp (vs ++ dvs) H Q E):wpAny (model X.prog X.w) X.A (call (.ref f) us) (EP X pins σ Q) X.xe s:=by
 have r2:aZ (vs ++ dvs) (us ++ ds):=r.append hd
 have hl:(us ++ ds).length=ps.length:=by rw [← r2.length]; exact F.len _ _ _ _ h
 refine wpAny_call (codeAny_mono (F.run X.A X.stack s H ⟨us,[]⟩ (us ++ ds) (vs ++ dvs) Q E hr I.env0 (hb s us I.kIn hl) r2 h) fun r s' hq=>?_)
 cases r with
 | error e=>exact hx pins σ H s e s' I hq
 | ok fl =>
  cases fl with
  | ret u=>exact I.after hq
  | next=>exact False.elim hq
  | brk=>exact False.elim hq
  | cont=>exact False.elim hq
theorem jQ (F:bC X.prog X.w X.K X.mg X.base CX k f fd ps sp) (hr:dM k X.A) (hg:Gl X x) (hm:X.mg x=some (.ref f)) (hk:PySem.W.keepIn X.K (.ref f)=true) (hb:bc X.K fd ps ds) (hd:aZ dvs ds) (hx:rJ CX X E)
  (ha:PA X (e :: es) t) (hdb:(x == ("__debug__" : Str))=false:=by decide) (he:starEach (e :: es) X.env=(false,eval e X.env) :: starEach es X.env:=by rfl) (hpl:(backTo pos (starEach es X.env)).any (·.1)=false:=by rfl) :
  PE X (.Call (.Name x p) (e :: es) [] pos) (CK sp dvs E t):=by
 intro pins s σ H Q I h
 refine wpAny_Call_Name_kw (sG I hg hm ?_ hdb)
 refine PySem.W.callWith_K (h₀:=X.base) I.ok.mod.kin hk (thn (ha pos pins s σ H _ I h) fun us s1 ⟨vs,H1,I1,r,q⟩=>⟨I1.kIn,?_⟩) he hpl
 exact AY F hr hb hd hx I1 r q
end
structure aF (N P:List Str) (sc:Scope):Prop where
 kind:sc.kind=.function
 co:sc.isCoroutine=false
 gen:sc.isGenerator=false
 nd:N.Nodup
 pre:N.take P.length=P
 par:∀ x ∈ P,sc.names.lookup x=some .local∨sc.names.lookup x=some .cell
 nofree:∀ y ∈ sc.names,y.2 ≠ .free
theorem mH {kindOf:Str→Option NameKind}{x:Str}:∀ {binds:List (Str×Value)} {m:Str→Option Value},(∀ v,(x,v) ∉ binds)→bindL kindOf binds m x=m x
 | [],_,_=>rfl
 | (n,v) :: r,m,h=>by
  unfold bindL
  rw [mH fun w hw=>h w (List.mem_cons_of_mem _ hw)]
  split
  ·have:x ≠ n:=by rintro rfl; exact h v List.mem_cons_self
   simp [this]
  ·rfl
theorem mK {kindOf:Str→Option NameKind}{x:Str}:∀ {binds:List (Str×Value)} {m:Str→Option Value},(∀ v,(x,v) ∉ binds)→bindC kindOf binds m x=m x
 | [],_,_=>rfl
 | (n,v) :: r,m,h=>by
  unfold bindC
  rw [mK fun w hw=>h w (List.mem_cons_of_mem _ hw)]
  split
  ·rfl
  ·have:x ≠ n:=by rintro rfl; exact h v List.mem_cons_self
   simp [this]
theorem mJ {kindOf:Str→Option NameKind}{x:Str}{v:Value}:∀ {P:List Str}{vs:List Value}{i:Nat}{m:Str→Option Value},P.Nodup→P[i]? = some x→vs[i]? = some v→kindOf x=some .local →
  bindL kindOf (P.zip vs) m x=some v
 | [],_,_,_,_,h,_,_=>by simp at h
 | _ :: _,[],_,_,_,_,h,_=>by simp at h
 | p :: P,w :: vs,0,m,nd,h1,h2,hk=>by
  simp at h1 h2; subst h1; subst h2
  show bindL kindOf ((p,w) :: P.zip vs) m p=_
  unfold bindL
  rw [mH fun v hv=>(List.nodup_cons.mp nd).1 (List.of_mem_zip hv).1,if_pos hk]
  simp
 | p :: P,w :: vs,i + 1,m,nd,h1,h2,hk=>by
  show bindL kindOf ((p,w) :: P.zip vs) m x=_
  unfold bindL
  exact mJ (i:=i) (List.nodup_cons.mp nd).2 (by simpa using h1) (by simpa using h2) hk
theorem mL {kindOf:Str→Option NameKind}{x:Str}{v:Value}:∀ {P:List Str}{vs:List Value}{i:Nat}{m:Str→Option Value},P.Nodup→P[i]? = some x→vs[i]? = some v→kindOf x ≠ some .local →
  bindC kindOf (P.zip vs) m x=some v
 | [],_,_,_,_,h,_,_=>by simp at h
 | _ :: _,[],_,_,_,_,h,_=>by simp at h
 | p :: P,w :: vs,0,m,nd,h1,h2,hk=>by
  simp at h1 h2; subst h1; subst h2
  show bindC kindOf ((p,w) :: P.zip vs) m p=_
  unfold bindC
  rw [mK fun v hv=>(List.nodup_cons.mp nd).1 (List.of_mem_zip hv).1,if_neg hk]
  simp
 | p :: P,w :: vs,i + 1,m,nd,h1,h2,hk=>by
  show bindC kindOf ((p,w) :: P.zip vs) m x=_
  unfold bindC
  exact mL (i:=i) (List.nodup_cons.mp nd).2 (by simpa using h1) (by simpa using h2) hk
noncomputable def start (N:List Str) (vs:List V):St:=vs.map some ++ List.replicate (N.length - vs.length) none
noncomputable def nS (CX:CXT) (P:Program) (w:World) (K:PySem.W.Frag) (mg:Str→Option Value) (base:Heap) (N:List Str) (qual:Str) (scope:Scope) (f:Addr) (cd:Value) (A:Around) (outer:List Env) (s:Shared) (H:Hp) (E:XK):Cx where
 prog:=P
 w:=w
 K:=K
 mg:=mg
 base:=base
 A:=A.deeper (envOfC qual scope s.heap.objs.size f cd)
 N:=N
 s₀:=s
 H₀:=H
 env:=envOfC qual scope s.heap.objs.size f cd
 outer:=outer
 stack:=envOfC qual scope s.heap.objs.size f cd :: outer
 ex:=[]
 calm:=true
 fn:=fun _=>true
 pn:=[]
 xe:=fun e s'=>wpAny (model P w) (A.deeper (envOfC qual scope s.heap.objs.size f cd)) (leaving (envOfC qual scope s.heap.objs.size f cd) e) (fun _ s''=>CX outer H s E e s'') (fun e' s''=>CX outer H s E e' s'') s'
theorem qb {sc:Scope}{n:Nat}{x:Str} (h:sc.names.lookup x=some .cell):∃ c,(cellsFrom n sc.names []).lookup x=some c:=by
 have q:=PySem.W.cellsFrom_some sc.names n [] (.inl h)
 exact Option.isSome_iff_exists.mp q
theorem uY {CX:CXT}{P:Program}{w:World}{K:PySem.W.Frag}{mg:Str→Option Value}{base:Heap}{N ps:List Str}{qual:Str}{scope:Scope}{f:Addr}{cd:Value}{A:Around}{outer:List Env}{s s1:Shared}{H:Hp}{E:XK}{us:List Value}{vs:List V}
  (S:aF N ps scope) (hd:A.handled=none) (e0:yr P w K mg base A outer s H) (hl:vs.length=ps.length) (r:aZ vs us)
  (x:InCallC s s.heap.objs.size (bindL (envOfC qual scope s.heap.objs.size f cd).kindOf (ps.zip us) fun _=>none) (cellsFrom (s.heap.objs.size + 1) scope.names []) (bindC (envOfC qual scope s.heap.objs.size f cd).kindOf (ps.zip us) fun _=>none) s1) :
  Inv (nS CX P w K mg base N qual scope f cd A outer s H E) [] (start N vs) H s1:=by
 have hpl:ps.length≤N.length:=by have:=congrArg List.length S.pre; rw [List.length_take] at this; omega
 obtain ⟨h1,tk,rfl,hk⟩:=x.done
 have noA:∀ b:Addr,b ∉ (nS CX P w K mg base N qual scope f cd A outer s H E).ex:=fun b z=>absurd (show b ∈ ([]:List Addr) from z) (by simp)
 refine ⟨⟨e0.mod,S.kind,rfl,rfl,Nat.le_refl _,fun y z c h1 h2=>?_,fun y hy=>?_,fun y c _ h=>?_,fun _=>hd,Around.frames_deeper e0.frames,.inr ⟨rfl,rfl⟩,fun b z=>absurd z (noA b),e0.bs,e0.bsz,fun b _ _=>noA b,fun b z=>absurd z (noA b),e0.funs,e0.frf⟩,
  rfl,e0.bare,Un.kept hk,⟨_,x.toInCall.ns,fun i y v h1 h2 h3=>?_⟩,fun y c h=>⟨_,x.cell y c h⟩,e0.hok.fresh (Nat.le_refl _),fun y c h=>?_,fun p hp=>absurd (show p ∈ ([]:List (Addr×Obj)) from hp) (by simp),e0.hok.kept hk,?_⟩
 ·exact name_of_addr x.apart (PySem.mem_of_lookup h1) (PySem.mem_of_lookup h2)
 ·have hy:scope.names.lookup y=some .cell∨scope.names.lookup y=some .free:=hy
  rcases hy with hy | hy
  ·exact qb hy
  ·exact absurd rfl (S.nofree _ (PySem.mem_of_lookup hy))
 ·exact Nat.le_of_lt (x.above y c (PySem.mem_of_lookup h))
 ·have hi:i < vs.length:=by
   unfold start at h2
   by_cases hi:i < vs.length
   ·exact hi
   ·rw [List.getElem?_append_right (by simpa using hi)] at h2
    rw [List.getElem?_replicate] at h2
    split at h2 <;> cases h2
  have ha:vs[i]? = some v:=by
   unfold start at h2
   rw [List.getElem?_append_left (by simpa using hi),List.getElem?_map] at h2
   cases e:vs[i]? with
   | none=>rw [e] at h2; cases h2
   | some a=>rw [e] at h2; cases h2; rfl
  obtain ⟨u,hu,rv⟩:=r.get ha
  have hp:ps[i]? = some y:=by
   rw [← S.pre,List.getElem?_take_of_lt (by omega)]; exact h1
  have ndP:ps.Nodup:=by rw [← S.pre]; exact S.nd.sublist (List.take_sublist _ _)
  refine ⟨u,rv,?_⟩
  rcases S.par y (List.mem_of_getElem? hp) with k | k
  ·exact .inl ⟨k,mJ ndP hp hu k⟩
  ·obtain ⟨c,e⟩:=qb (n:=s.heap.objs.size + 1) k
   refine .inr ⟨.inl k,c,e,?_⟩
   have q:=x.cell y c e
   rw [mL ndP hp hu (by show scope.names.lookup y ≠ _; rw [k]; decide)] at q
   exact q
 ·exact e0.hok.fresh (Nat.le_of_lt (x.above y c (PySem.mem_of_lookup h)))
 ·unfold start
  show _=N.length
  rw [List.length_append,List.length_map,List.length_replicate]
  omega
theorem Dy {CX:CXT}{P:Program}{w:World}{K:PySem.W.Frag}{mg:Str→Option Value}{base:Heap}{k:Nat}{f:Addr}{name qual:Str}{params:Arguments}{body:List Stmt}{scope:Scope}{dV kV doc pm cdv ct oc:Value}{an od:Option Addr}
  {osl:Array (Option Value)} {N ps:List Str}{sp:Sp} (lk:K.lookup f=some ⟨oc,od,.func (PySem.W.fnOf name qual params body scope dV kV doc pm an cdv ct),osl⟩) (hcd:PySem.W.codeIn K cdv qual=true) (S:aF N ps scope)
  (len:∀ vs H Q E,sp vs H Q E→vs.length=ps.length)
  (hbody:∀ (A:Around) (outer:List Env) (s:Shared) (H:Hp) (vs:List V) (Q:VK) (E:XK),dM k (A.deeper (envOfC qual scope s.heap.objs.size f cdv))→sp vs H Q E →
   ∃ t,PSs (nS CX P w K mg base N qual scope f cdv A outer s H E) body t∧t { nx:=fun _ H'=>Q .non H',rt:=Q } (start N vs) H) :
  bC P w K mg base CX (k + 1) f (PySem.W.fnOf name qual params body scope dV kV doc pm an cdv ct) ps sp:=by
 refine ⟨len,fun A outer s H args us vs Q E hr e0 hb r hsp=>?_⟩
 have hl:=len _ _ _ _ hsp
 have KX:K.In s.heap:=e0.mod.kin.keeps fun b o e=>(e0.bs b o e).1
 have lim:s.heap.NoLimit:=e0.mod.nolimit.keeps fun b o e=>(e0.bs b o e).1
 have hkind:∀ y ∈ ps.zip us,scope.names.lookup y.1=some .local∨(scope.names.lookup y.1=some .cell∧((cellsFrom (s.heap.objs.size + 1) scope.names []).lookup y.1).isSome=true):=fun zz39_0 hy=>by
  obtain ⟨n,v⟩:=zz39_0
  rcases S.par n (List.of_mem_zip hy).1 with q | q
  ·exact .inl q
  ·exact .inr ⟨q,PySem.W.cellsFrom_some _ _ _ (.inl q)⟩
 refine codeAny_call_function hr.depth (KX _ _ lk) rfl S.co S.gen rfl (PySem.W.codeRec_of KX hcd) (hb _ _ _ _ ?_)
 refine wpAny_newFunctionEnv_cells S.kind hkind fun env he s1 x=>?_
 subst he
 refine ⟨lim.keeps x.toInCall.keep,codeAny_func ?_⟩
 obtain ⟨t,ht,hq⟩:=hbody A outer s H vs Q E (hr.deeper _) hsp
 have I:Inv (nS CX P w K mg base N qual scope f cdv A outer s H E) [] (start N vs) H s1:=uY S hr.hd e0 hl r x
 refine wpAny_mono (ht [] s1 (start N vs) H _ I hq) (fun fl s' hs=>?_) fun e s' hs=>hs
 have fin:∀ {σ':St}{H':Hp}{v:V}{u:Value},Inv (nS CX P w K mg base N qual scope f cdv A outer s H E) [] σ' H' s'→aW v u→Q v H'→CE outer P w H s Q u s' :=
  fun {σ' H' v u} J rv q=>⟨v,H',J.os,J.bare,J.base,J.hok,rv,q⟩
 cases fl with
 | ret u =>
  obtain ⟨v,σ',H',J,rv,q⟩:=hs
  exact fin J rv q
 | next =>
  obtain ⟨σ',H',J,q⟩:=hs
  exact fin (v:=V.non) (u:=Value.none) J rfl q
 | brk =>
  obtain ⟨_,_,_,q⟩:=hs
  exact False.elim q
 | cont =>
  obtain ⟨_,_,_,q⟩:=hs
  exact False.elim q
section
variable {X:Cx}{x:Str}{p pos:Pos}{e:Expr}{es:List Expr}{t:TA}{id T:String}{r:List V→Hp→VK→Prop}
noncomputable def tCB (r:List V→Hp→VK→Prop) (t:TA):TE:=fun σ H Q=>t σ H fun vs H1=>r vs H1 Q
theorem kt (hc:dj X (.builtin id) r) (hg:Gl X x) (hm:X.mg x=none) (hv:bootBuiltins x=some (.builtin id)) (ha:PA X (e :: es) t) (hn:x ≠ "__name__" := by decide) (hdb:(x == ("__debug__" : Str))=false:=by decide)
  (he:starEach (e :: es) X.env=(false,eval e X.env) :: starEach es X.env:=by rfl) (hpl:(backTo pos (starEach es X.env)).any (·.1)=false:=by rfl):PE X (.Call (.Name x p) (e :: es) [] pos) (tCB r t):=by
 intro pins s σ H Q I h
 refine wpAny_Call_Name_kw (eM I hg hm hv ?_ hn hdb)
 exact PyProof.Rows.callWith_builtin1 (thn (ha pos pins s σ H _ I h) fun us s1 zz40_0=>by obtain ⟨vs,H1,I1,r1,q1⟩:=zz40_0; exact hc pins s1 σ H1 vs us Q I1 r1 q1) he hpl
theorem um (hc:dj X (.type T) r) (hg:Gl X x) (hm:X.mg x=none) (hv:bootBuiltins x=some (.type T)) (ha:PA X (e :: es) t) (hn:x ≠ "__name__" := by decide) (hdb:(x == ("__debug__" : Str))=false:=by decide)
  (he:starEach (e :: es) X.env=(false,eval e X.env) :: starEach es X.env:=by rfl) (hpl:(backTo pos (starEach es X.env)).any (·.1)=false:=by rfl):PE X (.Call (.Name x p) (e :: es) [] pos) (tCB r t):=by
 intro pins s σ H Q I h
 refine wpAny_Call_Name_kw (eM I hg hm hv ?_ hn hdb)
 exact PyProof.Rows.callWith_type1 (thn (ha pos pins s σ H _ I h) fun us s1 zz41_0=>by obtain ⟨vs,H1,I1,r1,q1⟩:=zz41_0; exact hc pins s1 σ H1 vs us Q I1 r1 q1) he hpl
end
end L2
namespace HT
open PySem PyProof.Rows
section
open PySem.SeqAt
open PySem.AutoSeq1 (wpAny_loadPart')
open PySem.MeetsSeq PySem.MeetsSeq2 PySem.MeetsSeq3
end
section
variable {prog:Program}{w:World}{A:Around}{E:Value→Shared→Prop}{s:Shared}
theorem cat_tup {t b:Addr}{vs ws:List Value}{Q:Value→Shared→Prop} (ht:IsTup s.heap t vs.toArray) (hb:IsTup s.heap b ws.toArray) (hv:vs ≠ [])
  (h1:ws=[]→Q (.ref t) s) (h2:ws ≠ []→Q (.ref s.heap.objs.size) { s with heap:=s.heap.push { cls:=.type "tuple",data:=.seq (vs ++ ws).toArray } })
  (hsz:vs.length + ws.length≤sizeLine):wpAny (model prog w) A (binaryOp .Add (.ref t) (.ref b)) Q E s:=by
 obtain ⟨⟨cls,dd,data,sl⟩,ho,hc,n,hd⟩:=id ht
 obtain ⟨⟨cls2,dd2,data2,sl2⟩,ho2,hc2,n2,hd2⟩:=id hb
 simp only at hc hd hc2 hd2
 subst hc hd hc2 hd2
 have e:vs.toArray ++ ws.toArray=(vs ++ ws).toArray:=by simp
 by_cases hw:ws=[]
 ·exact concat_meets ⟨_,ho,rfl⟩ ⟨_,ho2,rfl⟩ noFill_tuple_add seq_tuple_add PySem.F.slot_tuple_add PySem.F.entry_tuple_add (PySem.F.args_tuple_add_2 _ _)
   (tuple_addW1 t b vs.toArray ws.toArray n n2 dd dd2 sl sl2 (by simpa using hv) (by simp [hw])) ⟨ho,ho2,h1 hw⟩
 ·refine concat_meets ⟨_,ho,rfl⟩ ⟨_,ho2,rfl⟩ noFill_tuple_add seq_tuple_add PySem.F.slot_tuple_add PySem.F.entry_tuple_add (PySem.F.args_tuple_add_2 _ _)
   (tuple_addW2 t b vs.toArray ws.toArray n n2 dd dd2 sl sl2 (by simpa using hv) (by simpa using hw) (by rw [List.size_toArray,List.size_toArray]; exact hsz)) ⟨ho,ho2,?_⟩
  rw [e]
  exact h2 hw
noncomputable def sIx (n d:Nat):Option Int→Nat
 | none=>d
 | some v=>if v < 0 then (v + (n:Int)).toNat else min v.toNat n
theorem sIx_none (n d:Nat):sIx n d none=d:=rfl
theorem sIx_nat (n d k:Nat):sIx n d (some (k:Int))=min k n:=by
 show (if (k:Int) < 0 then ((k:Int) + (n:Int)).toNat else min (k:Int).toNat n)=min k n
 rw [if_neg (by omega),Int.toNat_natCast]
theorem sIx_le (n d:Nat) (hd:d≤n) (o:Option Int):sIx n d o≤n:=by
 cases o with
 | none=>exact hd
 | some v =>
  show (if v < 0 then (v + (n:Int)).toNat else min v.toNat n)≤n
  by_cases hv:v < 0
  ·rw [if_pos hv]; omega
  ·rw [if_neg hv]; exact Nat.min_le_right _ _
theorem clip_eq (v:Int) (n d:Nat):(if v < 0 then max (v + (n:Int)) 0 else min v (n:Int))=((sIx n d (some v):Nat):Int):=by
 show (if v < 0 then max (v + (n:Int)) 0 else min v (n:Int))=(((if v < 0 then (v + (n:Int)).toNat else min v.toNat n):Nat):Int)
 by_cases hv:v < 0
 ·simp only [if_pos hv]; omega
 ·simp only [if_neg hv]; omega
theorem rF (lo hi:Option Int) (n:Nat):Builtin.Slice.sliceAdjust lo hi 1 (n:Int)=(((sIx n 0 lo:Nat):Int),((sIx n n hi:Nat):Int)):=by
 have h1:¬ ((1:Int) < 0):=by omega
 unfold Builtin.Slice.sliceAdjust
 simp only [h1,if_false]
 refine Prod.ext ?_ ?_
 ·cases lo with
  | none=>rfl
  | some v=>exact clip_eq v n 0
 ·cases hi with
  | none=>rfl
  | some v=>exact clip_eq v n n
theorem qM (i j:Nat):Builtin.Slice.slicePlaces (i:Int) (j:Int) 1=j - i:=by
 unfold Builtin.Slice.slicePlaces
 have h1:(1:Int) > 0:=by omega
 simp only [h1,if_true,Int.ediv_one]
 split <;> omega
theorem j4 {v:Value}{o:Option Int}{Q:Option Int→Shared→Prop} (p:IsPart v o) (h:Q o s):wpAny (model prog w) A (Builtin.Slice.slicePartIndex v) Q E s:=by
 cases p with
 | none=>exact slicePart_none h
 | int i t=>exact slicePart_int h
theorem sliceApplied_gen {sl:Addr}{vl vu:Value}{lo hi:Option Int}{n:Nat}{Q:Int×Int×Nat→Shared→Prop} (hs:s.heap.IsSliceOf sl vl vu .none) (pl:IsPart vl lo) (pu:IsPart vu hi)
  (h:Q (((sIx n 0 lo:Nat):Int),1,sIx n n hi - sIx n 0 lo) s):wpAny (model prog w) A (Builtin.Slice.sliceApplied (.ref sl) (pure (n:Int))) Q E s:=by
 obtain ⟨os,hos,hcs,hds⟩:=id hs
 unfold Builtin.Slice.sliceApplied Builtin.Slice.sliceFields
 refine wpAny_bind (wpAny_bind (wpAny_field hos hds (x:=vl) rfl (wpAny_bind (wpAny_field hos hds (x:=vu) rfl (wpAny_bind (wpAny_field hos hds (x:=.none) rfl (wpAny_pure ?_)))))))
 refine wpAny_bind (slicePart_none ?_)
 show wpAny _ _ (if ((1:Int) == 0)=true then _ else _) _ _ s
 rw [if_neg (by decide)]
 refine wpAny_bind (j4 pl (wpAny_bind (j4 pu (wpAny_bind (wpAny_pure ?_)))))
 show wpAny _ _ (match Builtin.Slice.sliceAdjust lo hi 1 (n:Int) with | (lo,hi)=>pure (lo,(1:Int),Builtin.Slice.slicePlaces lo hi 1)) _ _ s
 rw [rF lo hi n]
 show wpAny _ _ (pure (((sIx n 0 lo:Nat):Int),(1:Int),Builtin.Slice.slicePlaces ((sIx n 0 lo:Nat):Int) ((sIx n n hi:Nat):Int) 1)) _ _ s
 rw [qM]
 exact wpAny_pure h
theorem wy (xs:Array Value) (i k:Nat):((List.range k).filterMap fun (m:Nat)=>xs[((i:Int) + (m:Int) * 1).toNat]?).toArray=((xs.toList.drop i).take k).toArray:=by
 have e:(fun (m:Nat)=>xs[((i:Int) + (m:Int) * 1).toNat]?)=fun m=>xs[i + m]?:=by
  funext m
  have:((i:Int) + (m:Int) * 1).toNat=i + m:=by omega
  rw [this]
 rw [e]
 have:=pick_run xs i k
 rw [List.filterMap_map] at this
 have e2:((fun x=>xs[x]?) ∘ fun x=>i + x)=fun m=>xs[i + m]?:=rfl
 rw [e2] at this
 rw [this]
theorem getItem_tuple_cut {t sl:Addr}{items:Array Value}{vl vu:Value}{lo hi:Option Int}{Q:Value→Shared→Prop} (ht:IsTup s.heap t items) (hs:s.heap.IsSliceOf sl vl vu .none) (pl:IsPart vl lo) (pu:IsPart vu hi)
  (hw:¬ (sIx items.size 0 lo=0∧sIx items.size items.size hi=items.size))
  (h:Q (.ref s.heap.objs.size) { s with heap:=s.heap.push { cls:=.type "tuple",data:=.seq ((items.toList.drop (sIx items.size 0 lo)).take (sIx items.size items.size hi - sIx items.size 0 lo)).toArray } })
  (hsz:items.size≤sizeLine):wpAny (model prog w) A (getItem (.ref t) (.ref sl)) Q E s:=by
 have htake:sizeOk (.seq ((items.toList.drop (sIx items.size 0 lo)).take (sIx items.size items.size hi - sIx items.size 0 lo)).toArray):=by
  show ((items.toList.drop (sIx items.size 0 lo)).take (sIx items.size items.size hi - sIx items.size 0 lo)).toArray.size≤sizeLine
  rw [List.size_toArray,List.length_take,List.length_drop,Array.length_toList]
  omega
 have hj:sIx items.size items.size hi≤items.size:=sIx_le _ _ (Nat.le_refl _) hi
 obtain ⟨os,hos,hcs,hds⟩:=id hs
 have hTs:s.TypeIs (.ref sl) "slice" := ⟨os,hos,hcs⟩
 unfold getItem
 try with_reducible refine wpAny_holding ?_
 first | refine wpAny_bind (wpAny_pure ?_) | skip
 refine wpAny_bind (wpAny_sequenceKey ht.typeIs (by decide) ?_)
 refine wpAny_bind (wpAny_callSpecial?_slot (name:=Str.ofString "__getitem__") ht.typeIs PyProof.Rows.slot_tuple_getitem
  (wpAny_call_entry PyProof.Rows.slot_tuple_getitem ht.typeIs entry_tuple_getitem ?_ (args_tuple_getitem _ _)))
 show wpAny _ _ (Builtin.Tuple.tupleItemsOf (.ref t) >>= _) _ _ s
 refine wpAny_bind (tupleItemsOf_ ht ?_)
 refine wpAny_bind (wpAny_typeOf hTs ?_)
 rw [if_pos (by decide)]
 refine wpAny_bind (sliceApplied_gen hs pl pu ?_)
 have hno:¬ ((((sIx items.size 0 lo:Nat):Int) == 0 && (1:Int) == 1 && (sIx items.size items.size hi - sIx items.size 0 lo) == items.size)=true):=by
  intro q
  rw [Bool.and_eq_true,Bool.and_eq_true] at q
  have q1:((sIx items.size 0 lo:Nat):Int)=0:=eq_of_beq q.1.1
  have q2:sIx items.size items.size hi - sIx items.size 0 lo=items.size:=eq_of_beq q.2
  exact hw ⟨by omega,by omega⟩
 show wpAny _ _ (if (((sIx items.size 0 lo:Nat):Int) == 0 && (1:Int) == 1 && (sIx items.size items.size hi - sIx items.size 0 lo) == items.size)=true then _ else _) _ _ s
 rw [if_neg hno,wy]
 first
  | exact wpAny_bind (m:=Builtin.Tuple.tupleExact _) (wpAny_newObj_type (wpAny_pure ⟨_,rfl,wpAny_pure h⟩) htake)
  | exact wpAny_bind (m:=Builtin.Tuple.tupleExact _) (wpAny_newObj_type (wpAny_bind (wpAny_pure (wpAny_pure ⟨_,rfl,wpAny_pure h⟩))) htake)
  | exact wpAny_bind (wpAny_bind (m:=Builtin.Tuple.tupleExact _) (wpAny_newObj_type (wpAny_pure (wpAny_pure ⟨_,rfl,wpAny_pure h⟩)) htake))
  | exact wpAny_bind (wpAny_bind (m:=Builtin.Tuple.tupleExact _) (wpAny_newObj_type (wpAny_pure ⟨_,rfl,wpAny_pure h⟩) htake))
end
end HT
namespace L2
open PySem PySem.Spec PyProof.Rows
noncomputable abbrev TO:=St→Hp→(Option Int→Hp→Prop)→Prop
noncomputable def PO (X:Cx) (e:Option Expr) (t:TO):Prop :=
 ∀ (pins:List (Addr×Obj)) (s:Shared) (σ:St) (H:Hp) (Q:Option Int→Hp→Prop),Inv X pins σ H s→t σ H Q →
  wpAny (model X.prog X.w) X.A (evalPart e X.env) (fun u s'=>∃ o H',Inv X pins σ H' s'∧IsPart u o∧Q o H') X.xe s
noncomputable def yE:TO:=fun _ H Q=>Q none H
noncomputable def CB (t:TE):TO:=fun σ H Q=>t σ H fun x H1=>∃ i,x=.int i∧Q (some i) H1
section
variable {X:Cx}{e:Expr}{te:TE}{lo hi:Option Expr}{tl th:TO}{pos p2:Pos}
theorem y6:PO X none yE:=by
 intro pins s σ H Q I h
 rw [evalPart_none]
 exact wpAny_pure ⟨none,H,I,.none,h⟩
theorem sn (h:PE X e te):PO X (some e) (CB te):=by
 intro pins s σ H Q I hw
 rw [evalPart_some]
 refine thn (h pins s σ H _ I hw) fun u s1 zz42_0=>?_
 obtain ⟨x,H1,I1,r1,q1⟩:=zz42_0
 obtain ⟨i,rfl,q⟩:=q1
 obtain ⟨t,rfl⟩:=r1
 exact ⟨some i,H1,I1,.int i t,q⟩
noncomputable def SlR (X:Cx) (r:V→Option Int→Option Int→Hp→VK→Prop):Prop :=
 ∀ (pins:List (Addr×Obj)) (s:Shared) (σ:St) (H:Hp) (x:V) (v vl vu:Value) (lo hi:Option Int) (sl:Addr) (Q:VK),Inv X pins σ H s→aW x v→s.heap.IsSliceOf sl vl vu .none→IsPart vl lo→IsPart vu hi→r x lo hi H Q →
  ∃ T id,typeLookup (.type T) "__getitem__" = pure (some (.builtin id))∧s.TypeIs v T∧wpAny (model X.prog X.w) X.A (getItem v (.ref sl)) (EP X pins σ Q) X.xe s
theorem SlR.or {r r':V→Option Int→Option Int→Hp→VK→Prop} (h:SlR X r) (h':SlR X r'):SlR X (fun x lo hi H Q=>r x lo hi H Q∨r' x lo hi H Q):=by
 intro pins s σ H x v vl vu lo hi sl Q I rx hs pl pu q
 rcases q with q | q
 ·exact h pins s σ H x v vl vu lo hi sl Q I rx hs pl pu q
 ·exact h' pins s σ H x v vl vu lo hi sl Q I rx hs pl pu q
noncomputable def tSl (r:V→Option Int→Option Int→Hp→VK→Prop) (te:TE) (tl th:TO):TE:=fun σ H Q=>te σ H fun x H1=>tl σ H1 fun l H2=>th σ H2 fun u H3=>r x l u H3 Q
theorem wC {r:V→Option Int→Option Int→Hp→VK→Prop} (hr:SlR X r) (he:PE X e te) (hl:PO X lo tl) (hu:PO X hi th):PE X (.Subscript e (.Slice lo hi none p2) pos) (tSl r te tl th):=by
 intro pins s σ H Q I h
 refine Subscript_ (thn (he pins s σ H _ I h) fun v s1 zz43_0=>?_)
 obtain ⟨x,H1,I1,r1,q1⟩:=zz43_0
 refine wpAny_Slice (thn (hl pins s1 σ H1 _ I1 q1) fun vl s2 ⟨l,H2,I2,pl,q2⟩=>thn (hu pins s2 σ H2 _ I2 q2) fun vu s3 zz45_0=>?_)
 obtain ⟨u,H3,I3,pu,q3⟩:=zz45_0
 rw [evalPart_none]
 refine wpAny_pure ?_
 have I4:Inv X pins σ H3 { s3 with heap:=s3.heap.push { cls:=.type "slice",data:=.fields #[vl,vu,.none] } }:=I3.kept (t':=s3.toks) fun b ob q=>Heap.get?_push_of_some _ q
 obtain ⟨T,id,hT,ht,hg⟩:=hr pins { s3 with heap:=s3.heap.push { cls:=.type "slice",data:=.fields #[vl,vu,.none] } } σ H3 x v vl vu l u s3.heap.objs.size Q I4 r1 (Heap.IsSliceOf.new ..) pl pu q3
 show wpAny (model X.prog X.w) X.A (subscriptTail e (.Slice lo hi none p2) v (.ref s3.heap.objs.size)) (EP X pins σ Q) X.xe { s3 with heap:=s3.heap.push { cls:=.type "slice",data:=.fields #[vl,vu,.none] } }
 exact tail_any (ops:=[.ref s3.heap.objs.size,v]) ht hT hg (by with_unfolding_all rfl)
noncomputable def jK (xs:List V) (lo hi:Option Int):List V:=(xs.drop (HT.sIx xs.length 0 lo)).take (HT.sIx xs.length xs.length hi - HT.sIx xs.length 0 lo)
theorem jx (xs:List V) (lo hi:Option Int):(jK xs lo hi).length≤xs.length:=by
 unfold jK
 rw [List.length_take,List.length_drop]
 omega
noncomputable def CZ (K:PySem.W.Frag):V→Option Int→Option Int→Hp→VK→Prop:=fun x lo hi H Q=>∃ a xs,x=.ref a∧SqT K H a xs ∧
 ¬ (HT.sIx xs.length 0 lo=0∧HT.sIx xs.length xs.length hi=xs.length)∧∀ p,H p=none→Q (.ref p) (upd H p (.tup (jK xs lo hi)))
theorem AT:SlR X (CZ X.K):=by
 intro pins s σ H x v vl vu lo hi sl Q I rx hs pl pu h
 obtain ⟨a,xs,rfl,hx,hw,q⟩:=h
 cases rx
 obtain ⟨its,r,ht,hz⟩:=I.tuple hx
 have hlen:its.toArray.size=xs.length:=by rw [List.size_toArray]; exact r.length.symm
 refine ⟨"tuple",_,PyProof.Rows.slot_tuple_getitem.lookup,ht.typeIs,?_⟩
 refine HT.getItem_tuple_cut ht hs pl pu (by rw [hlen]; exact hw) ?_ (by rw [hlen]; exact hz)
 rw [hlen]
 refine ⟨.ref s.heap.objs.size,_,I.laid (t':=s.toks) (o:=.tup (jK xs lo hi)) (fun b ob q=>Heap.get?_push_of_some _ q) (Nat.le_refl _) ?_,rfl,q _ (I.hok.fresh (Nat.le_refl _))⟩
 exact ⟨Nat.le_trans (jx xs lo hi) hz,_,(r.drop (HT.sIx xs.length 0 lo)).take (HT.sIx xs.length xs.length hi - HT.sIx xs.length 0 lo),IsTup.new _ _⟩
noncomputable def Ar (K:PySem.W.Frag):R2:=fun x y H Q=>∃ a b xs ys,x=.ref a∧y=.ref b∧SqT K H a xs∧SqT K H b ys∧xs ≠ []∧xs.length + ys.length≤sizeLine ∧
 (ys=[]→Q (.ref a) H)∧(ys ≠ []→∀ p,H p=none→Q (.ref p) (upd H p (.tup (xs ++ ys))))
theorem aZ.nil_iff {xs:List V}{us:List Value} (r:aZ xs us):us=[] ↔ xs=[]:=by
 cases r with
 | nil=>simp
 | cons _ _=>simp
theorem zk:OpR X (binaryOp .Add) (Ar X.K):=by
 intro pins s σ H x y v u Q I rx ry h
 obtain ⟨a,b,xs,ys,rfl,rfl,ha,hb,hx,hz,q1,q2⟩:=h
 cases rx
 cases ry
 obtain ⟨its,r1,p1,_⟩:=I.tuple ha
 obtain ⟨its2,r2,p2,_⟩:=I.tuple hb
 refine HT.cat_tup p1 p2 (fun z=>hx (r1.nil_iff.mp z)) (fun z=>⟨.ref a,H,I,rfl,q1 (r2.nil_iff.mp z)⟩) (fun z=>?_) (by rw [← r1.length,← r2.length]; exact hz)
 refine ⟨.ref s.heap.objs.size,_,I.laid (t':=s.toks) (o:=.tup (xs ++ ys)) (fun b ob q=>Heap.get?_push_of_some _ q) (Nat.le_refl _) ?_,rfl,q2 (fun w=>z (r2.nil_iff.mpr w)) _ (I.hok.fresh (Nat.le_refl _))⟩
 exact ⟨by rw [List.length_append]; exact hz,_,r1.append r2,IsTup.new _ _⟩
end
noncomputable def ixN (n:Nat) (i:Int):Option Nat:=if 0≤i then (if i < n then some i.toNat else none) else if -(n:Int)≤i then some (i + n).toNat else none
noncomputable def atI {α:Type} (xs:List α) (i:Int):Option α:=(ixN xs.length i).bind fun j=>xs[j]?
theorem zy {n:Nat}{i:Int}{j:Nat} (h:ixN n i=some j):seqIndex? i n=some j∧j < n∧-(n:Int)≤i∧i < n:=by
 unfold ixN at h
 by_cases h0:0≤i
 ·rw [if_pos h0] at h
  by_cases h1:i < n
  ·rw [if_pos h1] at h
   have e:i.toNat=j:=Option.some.inj h
   exact ⟨by rw [seqIndex_of h0 h1,e],by omega,by omega,h1⟩
  ·rw [if_neg h1] at h; cases h
 ·rw [if_neg h0] at h
  by_cases h1 : -(n:Int)≤i
  ·rw [if_pos h1] at h
   have e:(i + n).toNat=j:=Option.some.inj h
   exact ⟨by rw [seqIndex_neg (by omega) h1,e],by omega,h1,by omega⟩
  ·rw [if_neg h1] at h; cases h
theorem nZ {α:Type}{xs:List α}{i:Int}{v:α} (h:atI xs i=some v):∃ j,seqIndex? i xs.length=some j∧xs[j]? = some v∧j < xs.length∧-(xs.length:Int)≤i∧i < xs.length:=by
 unfold atI at h
 cases e:ixN xs.length i with
 | none=>rw [e] at h; cases h
 | some j =>
  rw [e] at h
  obtain ⟨h1,h2,h3,h4⟩:=zy e
  exact ⟨j,h1,h,h2,h3,h4⟩
noncomputable def tF (b:Expr):Prop:=∀ o i,subscripted b false o i=operate [o,i] (getItem o i)
noncomputable def IxR (X:Cx) (r:R2):Prop :=
 ∀ (value slice:Expr) (pins:List (Addr×Obj)) (s:Shared) (σ:St) (H:Hp) (x y:V) (v u:Value) (Q:VK),Inv X pins σ H s→aW x v→aW y u→r x y H Q →
  subscripted slice false v u=operate [v,u] (getItem v u)→wpAny (model X.prog X.w) X.A (subscriptTail value slice v u) (EP X pins σ Q) X.xe s
noncomputable def MtR (X:Cx) (id:String) (r:V→List V→Hp→VK→Prop):Prop :=
 ∀ (pins:List (Addr×Obj)) (s:Shared) (σ:St) (H:Hp) (x:V) (xs:List V) (v:Value) (us:List Value) (Q:VK),Inv X pins σ H s→aW x v→aZ xs us→r x xs H Q →
  wpAny (model X.prog X.w) X.A (call (.builtin id) (v :: us)) (EP X pins σ Q) X.xe s
section
variable {X:Cx}{a b:Expr}{ta tb:TE}{pos:Pos}
theorem IxR.or {r r':R2} (h:IxR X r) (h':IxR X r'):IxR X (fun x y H Q=>r x y H Q∨r' x y H Q):=by
 intro value slice pins s σ H x y v u Q I rx ry q hs
 rcases q with q | q
 ·exact h value slice pins s σ H x y v u Q I rx ry q hs
 ·exact h' value slice pins s σ H x y v u Q I rx ry q hs
theorem Da {r:R2} (hr:IxR X r) (ha:PE X a ta) (hb:PE X b tb) (hs:tF b):PE X (.Subscript a b pos) (tOp r ta tb):=by
 intro pins s σ H Q I h
 exact Subscript_ (Cc ha hb I h fun v u s2 x y H2 I2 rx ry q=>hr a b pins s2 σ H2 x y v u Q I2 rx ry q (hs _ _))
noncomputable def C4 (K:PySem.W.Frag):R2:=fun x y H Q=>∃ p xs i v,x=.ref p∧y=.int i∧SqL K H p xs∧atI xs i=some v∧Q v H
noncomputable def C2 (K:PySem.W.Frag):R2:=fun x y H Q=>∃ p xs i v,x=.ref p∧y=.int i∧SqT K H p xs∧atI xs i=some v∧Q v H
noncomputable def C3:R2:=fun x y H Q=>∃ z i c,x=.str z∧y=.int i∧z.length≤sizeLine∧atI z.cps.toList i=some c∧Q (.str ⟨#[c]⟩) H
theorem zx:IxR X (C4 X.K):=by
 intro value slice pins s σ H x y v u Q I rx ry h hs
 obtain ⟨p,xs,i,z,rfl,rfl,hq,he,q⟩:=h
 cases rx
 obtain ⟨t,rfl⟩:=ry
 obtain ⟨its,r,pl,hz⟩:=I.list hq
 obtain ⟨j,h1,h2,h3,h4,h5⟩:=nZ he
 obtain ⟨w,ew,rw'⟩:=r.get h2
 have hl:=r.length
 have hn:=nC
 have fin:EP X pins σ Q w s:=⟨z,H,I,rw',q⟩
 by_cases h0:0≤i
 ·have hj:i.toNat=j:=by
   rw [seqIndex_of h0 h5] at h1
   exact Option.some.inj h1
  exact item_listR pl.isList h0 (by omega) (by rw [hj]; simpa using ew) fin hs
 ·have hj:(i + (its.toArray.size:Int)).toNat=j:=by
   rw [seqIndex_neg (by omega) h4] at h1
   rw [List.size_toArray,← hl]
   exact Option.some.inj h1
  exact subscriptTail_builtinR (x:=w) pl.isList.typeIs slot_list_getitem.lookup
   (wpAny_getItem_list_neg (Q:=fun r s'=>r=w∧EP X pins σ Q r s') pl.isList (by omega) (by rw [List.size_toArray] <;> omega) (by omega) (by rw [hj]; simpa using ew) ⟨rfl,fin⟩) hs
theorem BI:IxR X (C2 X.K):=by
 intro value slice pins s σ H x y v u Q I rx ry h hs
 obtain ⟨p,xs,i,z,rfl,rfl,hq,he,q⟩:=h
 cases rx
 obtain ⟨t,rfl⟩:=ry
 obtain ⟨its,r,pl,hz⟩:=I.tuple hq
 obtain ⟨j,h1,h2,h3,h4,h5⟩:=nZ he
 obtain ⟨w,ew,rw'⟩:=r.get h2
 have hl:=r.length
 have hn:=nC
 have fin:EP X pins σ Q w s:=⟨z,H,I,rw',q⟩
 exact subscriptTail_builtinR (x:=w) pl.typeIs slot_tuple_getitem.lookup
  (getItem_tuple (j:=j) (Q:=fun r s'=>r=w∧EP X pins σ Q r s') pl (by omega) (by omega) (by rw [List.size_toArray,← hl]; exact h1) (by simpa using ew) ⟨rfl,fin⟩) hs
theorem BJ:IxR X C3:=by
 intro value slice pins s σ H x y v u Q I rx ry h hs
 obtain ⟨z,i,c,rfl,rfl,hz,he,q⟩:=h
 obtain ⟨t,rfl⟩:=rx
 obtain ⟨t',rfl⟩:=ry
 obtain ⟨j,h1,h2,h3,h4,h5⟩:=nZ he
 have hl:z.cps.toList.length=z.length:=by simp [Str.length]
 rw [hl] at h1 h4 h5
 have hn:=nC
 exact tail_any (typeIs_str s z t) slot_str_getitem.lookup (getItem_str (c:=c) (by
  have e1:decide (i < -(2 ^ 63:Int))=false:=decide_eq_false (by omega)
  have e2:decide (i ≥ 2 ^ 63)=false:=decide_eq_false (by omega)
  rw [e1,e2,Bool.or_false]) (by rw [h1]; simpa using h2) ⟨.str ⟨#[c]⟩,H,I.tok _,⟨_,rfl⟩,q⟩) hs
noncomputable def rIx (K:PySem.W.Frag):R2:=fun x y H Q=>C4 K x y H Q∨C2 K x y H Q∨C3 x y H Q
theorem BK:IxR X (rIx X.K):=zx.or (BI.or BJ)
theorem Inv.lst {pins:List (Addr×Obj)} {σ:St}{H:Hp}{s:Shared}{p:Addr}{xs:List V} (I:Inv X pins σ H s) (h:H p=some (.lst xs)) :
  ∃ (its:List Value) (n:Nat),aZ xs its∧s.heap.get? p=some { cls:=.type "list",data:=.seq its.toArray n }∧xs.length≤sizeLine:=by
 obtain ⟨z,its,n,r,e⟩:=I.hok p _ h
 exact ⟨its,n,r,e,z⟩
theorem mZ (lo hi:Option Int) (n:Nat):(sliceBounds lo hi none n).1=((HT.sIx n 0 lo:Nat):Int)∧(sliceBounds lo hi none n).2.1=((HT.sIx n n hi:Nat):Int)∧(sliceBounds lo hi none n).2.2=1:=by
 refine ⟨?_,?_,rfl⟩
 ·cases lo with
  | none=>simp [sliceBounds,HT.sIx]
  | some i =>
   simp only [sliceBounds,HT.sIx,Option.getD_none,show (1:Int) > 0 by decide,if_true]
   by_cases h:i < 0
   ·simp only [h,if_true] <;> omega
   ·simp only [h,if_false] <;> omega
 ·cases hi with
  | none=>simp [sliceBounds,HT.sIx]
  | some i =>
   simp only [sliceBounds,HT.sIx,Option.getD_none,show (1:Int) > 0 by decide,if_true]
   by_cases h:i < 0
   ·simp only [h,if_true] <;> omega
   ·simp only [h,if_false] <;> omega
theorem lm (its:List Value) (lo hi:Option Int):slicePick its.toArray lo hi none=((its.drop (HT.sIx its.length 0 lo)).take (HT.sIx its.length its.length hi - HT.sIx its.length 0 lo)).toArray:=by
 obtain ⟨h1,h2,h3⟩:=mZ lo hi its.toArray.size
 unfold slicePick
 rw [h1,h2,h3]
 simp only [sliceRange_one,pick_run,List.size_toArray] <;> rfl
noncomputable def C0 (K:PySem.W.Frag):V→Option Int→Option Int→Hp→VK→Prop:=fun x lo hi H Q=>∃ a xs,x=.ref a∧SqL K H a xs∧∀ p,H p=none→Q (.ref p) (upd H p (.lst (jK xs lo hi)))
theorem yJ:SlR X (C0 X.K):=by
 intro pins s σ H x v vl vu lo hi sl Q I rx hs pl pu h
 obtain ⟨a,xs,rfl,hx,q⟩:=h
 cases rx
 obtain ⟨its,r,ht,hz⟩:=I.list hx
 have hlen:=r.length
 refine ⟨"list",_,slot_list_getitem.lookup,ht.isList.typeIs,?_⟩
 refine wpAny_getItem_list_slice ht.isList hs pl pu .none (by simp) ?_ (by rw [List.size_toArray] <;> omega)
 rw [lm,← hlen]
 refine ⟨.ref s.heap.objs.size,_,I.laid (t':=s.toks) (o:=.lst (jK xs lo hi)) (fun b ob q=>Heap.get?_push_of_some _ q) (Nat.le_refl _) ?_,rfl,q _ (I.hok.fresh (Nat.le_refl _))⟩
 exact ⟨Nat.le_trans (jx xs lo hi) hz,_,0,(r.drop (HT.sIx xs.length 0 lo)).take (HT.sIx xs.length xs.length hi - HT.sIx xs.length 0 lo),Heap.get?_push_size _ rfl⟩
noncomputable def gm:V→Bool
 | .non=>true
 | .bl _=>true
 | .int _=>true
 | .str _=>true
 | _=>false
noncomputable def eqV:V→V→Bool
 | .non,.non=>true
 | .bl a,.bl b=>a == b
 | .bl a,.int b=>(if a then 1 else 0) == b
 | .int a,.bl b=>a == (if b then 1 else 0)
 | .int a,.int b=>a == b
 | .str a,.str b=>a == b
 | _,_=>false
theorem B3 {A:Around}{s:Shared}{y x:V}{u v:Value} (ry:aW y u) (rx:aW x v) (fy:gm y=true) (fx:gm x=true):SeqAt.EqAt A s u v (eqV y x):=by
 cases y with
 | non =>
  cases ry
  cases x with
  | non=>cases rx; exact SeqAt.EqAt.same _
  | bl b=>cases rx; exact SeqAt.EqAt.none_bool b
  | int b=>obtain ⟨t,rfl⟩:=rx; exact SeqAt.EqAt.none_int b t
  | str b=>obtain ⟨t,rfl⟩:=rx; exact SeqAt.EqAt.none_str b t
  | _=>exact absurd (show false=true from fx) Bool.false_ne_true
 | bl a =>
  cases ry
  cases x with
  | non=>cases rx; exact SeqAt.EqAt.bool_none a
  | bl b=>cases rx; exact SeqAt.EqAt.bool_bool a b
  | int b=>obtain ⟨t,rfl⟩:=rx; exact SeqAt.EqAt.bool_int a b t
  | str b=>obtain ⟨t,rfl⟩:=rx; exact SeqAt.EqAt.bool_str a b t
  | _=>exact absurd (show false=true from fx) Bool.false_ne_true
 | int a =>
  obtain ⟨t',rfl⟩:=ry
  cases x with
  | non=>cases rx; exact SeqAt.EqAt.int_none a t'
  | bl b=>cases rx; exact SeqAt.EqAt.int_bool a t' b
  | int b=>obtain ⟨t,rfl⟩:=rx; exact SeqAt.EqAt.int_int a t' b t
  | str b=>obtain ⟨t,rfl⟩:=rx; exact SeqAt.EqAt.int_str a t' b t
  | _=>exact absurd (show false=true from fx) Bool.false_ne_true
 | str a =>
  obtain ⟨t',rfl⟩:=ry
  cases x with
  | non=>cases rx; exact SeqAt.EqAt.str_none a t'
  | bl b=>cases rx; exact SeqAt.EqAt.str_bool a t' b
  | int b=>obtain ⟨t,rfl⟩:=rx; exact SeqAt.EqAt.str_int a t' b t
  | str b=>obtain ⟨t,rfl⟩:=rx; exact SeqAt.EqAt.str_str a t' b t
  | _=>exact absurd (show false=true from fx) Bool.false_ne_true
 | _=>exact absurd (show false=true from fy) Bool.false_ne_true
noncomputable def eqU (x:V) (u:Value):Bool:=match u with
 | .none=>eqV .non x
 | .bool b=>eqV (.bl b) x
 | .int i _=>eqV (.int i) x
 | .str z _=>eqV (.str z) x
 | _=>false
theorem xO {x y:V}{u:Value} (r:aW y u) (f:gm y=true):eqU x u=eqV y x:=by
 cases y with
 | non=>cases r; rfl
 | bl b=>cases r; rfl
 | int i=>obtain ⟨t,rfl⟩:=r; rfl
 | str z=>obtain ⟨t,rfl⟩:=r; rfl
 | _=>exact absurd (show false=true from f) Bool.false_ne_true
theorem iV {x:V}:∀ {xs:List V}{us:List Value},aZ xs us→xs.all gm=true→us.any (eqU x)=xs.any fun y=>eqV y x
 | _,_,.nil,_=>rfl
 | y :: xs,u :: us,.cons r t,f=>by
  rw [List.all_cons,Bool.and_eq_true] at f
  rw [List.any_cons,List.any_cons,xO r f.1,iV t f.2]
theorem gi {A:Around}{s:Shared}{x:V}{v:Value} (rx:aW x v) (fx:gm x=true):∀ {xs:List V}{us:List Value},aZ xs us→xs.all gm=true→∀ u ∈ us,SeqAt.EqAt A s u v (eqU x u)
 | _,_,.nil,_=>fun u hu=>by cases hu
 | y :: xs,u :: us,.cons r t,f=>fun u' hu=>by
  rw [List.all_cons,Bool.and_eq_true] at f
  rcases List.mem_cons.mp hu with rfl | hu
  ·rw [xO r f.1]; exact B3 r rx f.1 fx
  ·exact gi rx fx t f.2 u' hu
noncomputable def inV (x:V) (xs:List V):Bool:=xs.any fun y=>eqV y x
noncomputable def rIn (K:PySem.W.Frag) (neg:Bool):R2:=fun x y H Q=>∃ p xs,y=.ref p∧(SqL K H p xs∨SqT K H p xs)∧gm x=true∧xs.all gm=true∧Q (.bl (if neg then !inV x xs else inV x xs)) H
theorem uv:OpR X (compareOp .In) (rIn X.K false):=by
 intro pins s σ H x y v u Q I rx ry h
 obtain ⟨p,xs,rfl,hq,fx,fs,q⟩:=h
 cases ry
 rcases hq with hq | hq
 ·obtain ⟨its,r,pl,hz⟩:=I.list hq
  refine SeqAt.in_listAt (eqU x) pl.isList (fun w hw=>gi rx fx r fs w (by simpa using hw)) ⟨.bl _,H,I,rfl,?_⟩
  rw [show its.toArray.any (eqU x)=its.any (eqU x) by simp,iV r fs]
  exact q
 ·obtain ⟨its,r,pl,hz⟩:=I.tuple hq
  refine SeqAt.in_tupleAt (eqU x) pl (fun w hw=>gi rx fx r fs w (by simpa using hw)) ⟨.bl _,H,I,rfl,?_⟩
  rw [show its.toArray.any (eqU x)=its.any (eqU x) by simp,iV r fs]
  exact q
theorem nj:OpR X (compareOp .NotIn) (rIn X.K true):=by
 intro pins s σ H x y v u Q I rx ry h
 obtain ⟨p,xs,rfl,hq,fx,fs,q⟩:=h
 cases ry
 rcases hq with hq | hq
 ·obtain ⟨its,r,pl,hz⟩:=I.list hq
  refine SeqAt.notIn_listAt (eqU x) pl.isList (fun w hw=>gi rx fx r fs w (by simpa using hw)) ⟨.bl _,H,I,rfl,?_⟩
  rw [show its.toArray.any (eqU x)=its.any (eqU x) by simp,iV r fs]
  exact q
 ·obtain ⟨its,r,pl,hz⟩:=I.tuple hq
  refine SeqAt.notIn_tupleAt (eqU x) pl (fun w hw=>gi rx fx r fs w (by simpa using hw)) ⟨.bl _,H,I,rfl,?_⟩
  rw [show its.toArray.any (eqU x)=its.any (eqU x) by simp,iV r fs]
  exact q
theorem lA:dj X (.type "tuple") (fun xs H Q=>∃ p ys,xs=[.ref p]∧((SqL X.K H p ys∧∀ l,H l=none→Q (.ref l) (upd H l (.tup ys)))∨(SqT X.K H p ys∧Q (.ref p) H))):=by
 intro pins s σ H xs us Q I r h
 obtain ⟨p,ys,rfl,h⟩:=h
 obtain ⟨u,rfl,rx⟩:=jZ r
 cases rx
 rcases h with ⟨hq,q⟩ | ⟨hq,q⟩
 ·obtain ⟨its,r',pl,hz⟩:=I.list hq
  have hlen:=r'.length
  refine call_tuple_list pl.isList (fun h' kp=>?_) (by simp only [List.size_toArray] <;> omega)
  have I1:Inv X pins σ H { s with heap:=h' }:=I.kept (t':=s.toks) kp
  have I2:Inv X pins σ (upd H h'.objs.size (.tup ys)) { s with heap:=h'.push { cls:=.type "tuple",data:=.seq its.toArray } } :=
   I1.laid (t':=s.toks) (fun b o e=>Heap.get?_push_of_some _ e) (Nat.le_refl _) (show b6 X.prog X.w _ _ _ (.tup ys) from ⟨hz,its,r',IsTup.new _ _⟩)
  exact ⟨.ref h'.objs.size,_,I2,rfl,q _ (I1.hok.fresh (Nat.le_refl _))⟩
 ·obtain ⟨its,r',pl,hz⟩:=I.tuple hq
  exact call_tuple_same pl ⟨.ref p,H,I,rfl,q⟩
noncomputable def tyV (K:PySem.W.Frag) (T:String) (x:V) (H:Hp):Prop:=match x with
 | .str _=>T = "str"
 | .int _=>T = "int"
 | .ref p=>(T = "list"∧∃ xs,SqL K H p xs)∨(T = "tuple"∧∃ o,K.lookup p=some o∧o.cls=.type "tuple"∧o.dict=none) ∨
   (T = "dict"∧((∃ kvs,H p=some (.dK kvs))∨∃ kvs,H p=some (.dT kvs)))∨(T = "set"∧∃ S n,H p=some (.set S n))
 | _=>False
theorem AM {pins:List (Addr×Obj)} {σ:St}{H:Hp}{s:Shared}{T:String}{x:V}{v:Value} (I:Inv X pins σ H s) (r:aW x v) (ty:tyV X.K T x H) :
  s.TypeIs v T∧∀ a,v=.ref a→∃ ob,s.heap.get? a=some ob∧ob.dict=none:=by
 cases x with
 | str z =>
  obtain ⟨t,rfl⟩:=r
  cases (show T = "str" from ty)
  exact ⟨typeIs_str s z t,fun _ e=>nomatch e⟩
 | int i =>
  obtain ⟨t,rfl⟩:=r
  cases (show T = "int" from ty)
  exact ⟨typeIs_int s i t,fun _ e=>nomatch e⟩
 | ref p =>
  cases r
  rcases ty with ⟨rfl,xs,hq⟩ | ⟨rfl,o,hk,hc,hd⟩ | ⟨rfl,hk⟩ | ⟨rfl,S,n,hk⟩
  ·obtain ⟨its,_,pl,_⟩:=I.list hq
   refine ⟨pl.isList.typeIs,fun a e=>?_⟩
   cases e
   obtain ⟨o,n,e,c,hd,_⟩:=pl
   exact ⟨o,e,hd⟩
  ·refine ⟨⟨o,I.kIn p o hk,hc⟩,fun a e=>?_⟩
   cases e
   exact ⟨o,I.kIn _ o hk,hd⟩
  ·have z:∃ o,s.heap.get? p=some o∧o.ExactDict:=by
    rcases hk with ⟨kvs,hk⟩ | ⟨kvs,hk⟩
    ·obtain ⟨_,_,_,_,o,_,_,e,ex,_⟩:=I.hok p _ hk
     exact ⟨o,e,ex⟩
    ·obtain ⟨_,_,_,_,o,_,_,e,ex,_⟩:=I.hok p _ hk
     exact ⟨o,e,ex⟩
   obtain ⟨o,e,ex⟩:=z
   refine ⟨⟨o,e,ex.1⟩,fun a e2=>?_⟩
   cases e2
   exact ⟨o,e,ex.2.1⟩
  ·obtain ⟨o,_,_,_,e,ex,_⟩:=I.hok p _ hk
   refine ⟨⟨o,e,ex.1⟩,fun a e2=>?_⟩
   cases e2
   exact ⟨o,e,ex.2.1⟩
 | _=>exact False.elim ty
noncomputable def tBM (K:PySem.W.Frag) (T:String) (r:V→List V→Hp→VK→Prop) (to:TE) (t:TA):TE:=fun σ H Q=>to σ H fun x H1=>tyV K T x H1∧t σ H1 fun xs H2=>r x xs H2 Q
variable {o e:Expr}{es:List Expr}{to:TE}{t:TA}{name:Str}{apos cpos:Pos}{T id:String}{r:V→List V→Hp→VK→Prop}
theorem sw (pa:PlainAttrs T) (slot:Slot T name id) (hty:typeOf (.builtin id)=pure (.type "method_descriptor")) (hm:MtR X id r) (ho:PE X o to) (ha:PA X (e :: es) t)
  (hbase:attributeBase o name X.env (eval o X.env)=eval o X.env:=by rfl)
  (hfew:((backTo cpos (starEach (e :: es) X.env)).all (fun x => !x.1) && (backToKw cpos (keywordEach [] X.env)).all (fun x=>x.1.isSome)
   && decide ((e :: es).length + ([]:List Keyword).length + (if ([]:List Keyword).isEmpty then 0 else 1) < 30))=true:=by rfl)
  (hline:(apos.endLine == cpos.line)=true:=by rfl) (hs:starEach (e :: es) X.env=(false,eval e X.env) :: starEach es X.env:=by rfl) (hplain:(backTo cpos (starEach es X.env)).any (·.1)=false:=by rfl) :
  PE X (.Call (.Attribute o name apos) (e :: es) [] cpos) (tBM X.K T r to t):=by
 intro pins s σ H Q I h
 refine wpAny_Call_method_late hbase hfew hline rfl (thn (ho pins s σ H _ I h) fun v s1 zz46_0=>?_)
 obtain ⟨x,H1,I1,r1,ty,q1⟩:=zz46_0
 obtain ⟨h1,h2⟩:=AM I1 r1 ty
 refine ⟨T,id,pa,slot,hty,h1,h2,?_⟩
 have hA:=ha cpos pins s1 σ H1 _ I1 q1
 rw [hs] at hA ⊢
 refine Calls.callWith_builtin (by show (false || (backTo cpos (starEach es X.env)).any (·.1))=false; rw [hplain] <;> rfl) (Calls.evalArgs_plain ?_)
 exact thn hA fun us s2 zz47_0=>by obtain ⟨vs,H2,I2,r2,q2⟩:=zz47_0; exact hm pins s2 σ H2 x vs v us Q I2 r1 r2 q2
end
noncomputable def MtM (X:Cx) (id:String) (r:V→List V→Hp→VK→Prop):Prop :=
 ∀ (pins:List (Addr×Obj)) (s:Shared) (σ:St) (H:Hp) (x:V) (xs:List V) (v:Value) (us:List Value) (Q:VK),Inv X pins σ H s→aW x v→aZ xs us→r x xs H Q →
  wpAny (model X.prog X.w) X.A (call (.builtin id) (v :: us)) (EP X pins σ Q) X.xe s
theorem aZ.one:∀ {x:V}{us:List Value},aZ [x] us→∃ u,us=[u]∧aW x u:=by
 intro x us h
 cases h with
 | cons r h=>cases h; exact ⟨_,rfl,r⟩
theorem aZ.two:∀ {x y:V}{us:List Value},aZ [x,y] us→∃ u v,us=[u,v]∧aW x u∧aW y v:=by
 intro x y us h
 cases h with
 | cons r h=>cases h with
  | cons q h=>cases h; exact ⟨_,_,rfl,r,q⟩
theorem aZ.zero:∀ {us:List Value},aZ [] us→us=[]
 | _,.nil=>rfl
theorem aZ.reverse {xs:List V}{us:List Value} (h:aZ xs us):aZ xs.reverse us.reverse:=by
 induction h with
 | nil=>exact .nil
 | cons r t ih=>rw [List.reverse_cons,List.reverse_cons]; exact aZ.append ih (.cons r .nil)
section
variable {X:Cx}{pins:List (Addr×Obj)} {σ:St}{H:Hp}{s:Shared}{l b:Addr}{xs ys zs:List V}
theorem Inv.lset {its its':List Value}{n:Nat}{f:Array Value→Array Value}{t':Nat} (I:Inv X pins σ H s) (hH:H l=some (.lst xs))
  (e:s.heap.get? l=some { cls:=.type "list",data:=.seq its.toArray n }) (hf:f its.toArray=its'.toArray) (hv:aZ ys its') (hz:ys.length≤sizeLine) :
  Inv X pins σ (upd H l (.lst ys)) { s with heap:=s.heap.update l (Obj.mapSeq f),toks:=t' }:=by
 have q:=PySem.IsL.update e f
 rw [hf] at q
 refine I.write (x:=l) (e:=l) (by rw [hH]; exact trivial) (.inl rfl) (fun b' u hb hu=>(Heap.get?_update_other s.heap (Obj.mapSeq f) (Ne.symm hb)).trans hu) ⟨_,q⟩ ?_
 exact ⟨hz,its',_,hv,q⟩
theorem Inv.lnew {its:List Value}{t':Nat} (I:Inv X pins σ H s) (hv:aZ ys its) (hz:ys.length≤sizeLine) :
  Inv X pins σ (upd H s.heap.objs.size (.lst ys)) { s with heap:=s.heap.push { cls:=.type "list",data:=.seq its.toArray },toks:=t' } :=
 I.laid (fun _ _ q=>Heap.get?_push_of_some _ q) (Nat.le_refl _) ⟨hz,its,0,hv,Heap.get?_push_size _ rfl⟩
theorem Inv.fresh (I:Inv X pins σ H s):H s.heap.objs.size=none:=I.hok.fresh (Nat.le_refl _)
theorem Inv.lstM (I:Inv X pins σ H s) (hH:H l=some (.lst xs)):xs.length≤sizeLine∧∃ (its:List Value) (n:Nat),aZ xs its∧xs.length=its.length∧s.heap.get? l=some { cls:=.type "list",data:=.seq its.toArray n }:=by
 obtain ⟨z,its,n,r,e⟩:=I.hok l _ hH
 exact ⟨z,its,n,r,r.length,e⟩
theorem pk {n:Nat} (h:n≤sizeLine):Builtin.List.listTooLong n=false:=by
 unfold Builtin.List.listTooLong
 exact decide_eq_false (by omega)
end
section
variable {X:Cx}
noncomputable def yV:V→List V→Hp→VK→Prop:=fun x vs H Q=>∃ l xs y,x=.ref l∧vs=[y]∧H l=some (.lst xs)∧xs.length < sizeLine∧Q .non (upd H l (.lst (xs ++ [y])))
theorem jb:MtM X "list.append" yV:=by
 intro pins s σ H x vs v us Q I rx rv h
 obtain ⟨l,xs,y,rfl,rfl,hH,hz,q⟩:=h
 cases rx
 obtain ⟨u,rfl,ru⟩:=rv.one
 obtain ⟨z,its,n,r,hl,e⟩:=I.lstM hH
 refine call_meets F.slot_list_append ⟨_,e,rfl⟩ F.entry_list_append (F.args_list_append_2 _ _) (PySem.list_append l its.toArray n u (by rw [List.size_toArray]; omega)) ⟨e,?_⟩
 refine ⟨.non,_,I.lset (its':=its ++ [u]) hH e (by simp) (r.append (.cons ru .nil)) ?_,rfl,q⟩
 rw [List.length_append,List.length_singleton]
 omega
noncomputable def yU:V→List V→Hp→VK→Prop:=fun x vs H Q=>∃ l b xs zs,x=.ref l∧vs=[.ref b]∧H l=some (.lst xs)∧H b=some (.lst zs)∧xs.length + zs.length≤sizeLine∧Q .non (upd H l (.lst (xs ++ zs)))
theorem uI:MtM X "list.extend" yU:=by
 intro pins s σ H x vs v us Q I rx rv h
 obtain ⟨l,b,xs,zs,rfl,rfl,hH,hB,hz,q⟩:=h
 cases rx
 obtain ⟨u,rfl,ru⟩:=rv.one
 cases ru
 obtain ⟨z,its,n,r,hl,e⟩:=I.lstM hH
 obtain ⟨z2,its2,n2,r2,hl2,e2⟩:=I.lstM hB
 have hsz:its.toArray.size + its2.toArray.size≤sizeLine:=by rw [List.size_toArray,List.size_toArray]; omega
 have hlong:¬ (!its.toArray.isEmpty && Builtin.List.listTooLong (its.toArray.size + its2.toArray.size))=true:=by
  rw [pk hsz,Bool.and_false]
  exact Bool.false_ne_true
 refine call_meets F.slot_list_extend ⟨_,e,rfl⟩ F.entry_list_extend (F.args_list_extend_2 _ _)
  (AutoSeq1.list_extend_list_list_0 l its.toArray n b its2.toArray n2 hlong (by rw [List.size_toArray]; omega) (by omega)) ⟨e,e2,?_⟩
 refine ⟨.non,_,I.lset (its':=its ++ its2) hH e (by simp) (r.append r2) ?_,rfl,q⟩
 rw [List.length_append]
 omega
noncomputable def C5:R2:=fun x y H Q=>∃ l b xs zs,x=.ref l∧y=.ref b∧H l=some (.lst xs)∧H b=some (.lst zs)∧xs.length + zs.length≤sizeLine∧∀ p,H p=none→Q (.ref p) (upd H p (.lst (xs ++ zs)))
theorem Bv:OpR X (binaryOp .Add) C5:=by
 intro pins s σ H x y v u Q I rx ry h
 obtain ⟨l,b,xs,zs,rfl,rfl,hH,hB,hz,q⟩:=h
 cases rx
 cases ry
 obtain ⟨z,its,n,r,hl,e⟩:=I.lstM hH
 obtain ⟨z2,its2,n2,r2,hl2,e2⟩:=I.lstM hB
 refine PySem.P.add_list e e2 ?_ (by rw [List.size_toArray,List.size_toArray]; omega)
 have ea:its.toArray ++ its2.toArray=(its ++ its2).toArray:=by simp
 rw [ea]
 exact ⟨.ref _,_,I.lnew (t':=s.toks) (r.append r2) (by rw [List.length_append]; omega),rfl,q _ I.fresh⟩
theorem zq {α:Type} (xs:List α) (k:Nat):(List.replicate k xs).flatten.length=k * xs.length:=by
 induction k with
 | zero=>simp
 | succ k ih=>rw [List.replicate_succ,List.flatten_cons,List.length_append,ih,Nat.succ_mul,Nat.add_comm]
end
end L2
namespace Att
open PySem PySem.W PySem.Calls PyProof.Rows
theorem jJ {P:Params}{h:Heap}:∀ (ns:List Int) (vs:List Value),WellAll P h vs (ns.map WData.int)→IntsAre vs ns:=by
 intro ns
 induction ns with
 | nil =>
  intro vs w
  rw [Er] at w
  cases w
  exact .nil
 | cons n ns ih =>
  intro vs w
  rw [Eo] at w
  cases w with
  | cons a b =>
   cases a
   exact .cons _ _ (ih _ b)
theorem tZ {l:OpenLaw}{n:Nat} (hn:l.most=some n) {P:Params}{h:Heap}{args:List WData}{vals:List Value}
  (hpre:l.row.toRowW.claim.pre args=true) (hwl:WellAll P h vals args) :
  ∃ a vs ns,vals=[Value.ref a]∧args=[WData.list (ns.map WData.int)]∧h.get? a=some { cls:=.type "list",data:=.seq vs.toArray }∧IntsAre vs ns∧ns.length≤n:=by
 have hsh:WShape.hasAll [] args [.list .int]=true:=(pre_splitW hpre).1
 have hc:l.pre.holds [] { args:=args }=true:=(pre_splitW hpre).2
 obtain ⟨d,r,rfl,h1,h2⟩:=hasAllW_cons hsh
 obtain rfl:=hasAllW_nil h2
 obtain ⟨xs,rfl,h3⟩:=hasW_list h1
 obtain ⟨ns,rfl⟩:=items_int h3
 have hlen:ns.length≤n:=by
  unfold OpenLaw.pre at hc
  have h4:(WTm.not (.lt (.lit (.int (n:Int))) (.len (.arg 0)))).holds [] { args:=[.list (ns.map .int)] }=true:=by
   have h4:=(holds_andW hc).1
   rw [hn] at h4
   exact h4
  have h5:=condW_of h4 (w_not (w_lt w_lit (w_len_list (w_arg rfl))))
  rw [List.length_map] at h5
  refine Nat.le_of_not_lt fun q=>?_
  have q':(n:Int) < ((ns.length:Nat):Int):=by omega
  first
   | (rw [decide_eq_true q'] at h5; exact absurd h5 (by decide))
   | (simp at h5; omega)
 cases hwl with
 | cons w1 w2 =>
  cases w2
  cases w1 with
  | list ho hall=>exact ⟨_,_,ns,rfl,rfl,ho,jJ ns _ hall,hlen⟩
theorem ui (l:OpenLaw) (args:List WData):l.row.toRowW.claim.post args (.bool true) args=true :=
 postW_of (r:=l.row.toRowW) (X:=(true == true))
  (show WShape.has [] (.bool true) .bool=true by first | rfl | decide | simp [WShape.has,WShape.arms,WShape.armsAll])
  (show (WTm.eq .res (.lit (.bool true))).value [] { args:=args,res:=some (.bool true),after:=args }=some (.bool (true == true)) from w_eq_bool (w_res rfl) w_lit) rfl
end Att
namespace L2
open PySem PySem.Spec PyProof.Rows
theorem lM:∀ {vs:List Value}{ns:List Int},IntsAre vs ns→aZ (ns.map V.int) vs
 | _,_,.nil=>.nil
 | _,_,.cons n t h=>.cons ⟨t,rfl⟩ (lM h)
noncomputable def Cj (H:Hp):Prop:=∀ b,H b=none∨∃ o xs,H b=some (.frz o (.lst xs))
theorem xg {P:Program}{w:World}{K:PySem.W.Frag}{mg mb:Str→Option Value}{CX:CXT}{k:Nat}{fa a:Addr}{fd:FuncData}{x:Str}{sp:Sp}{s₁:Shared}{vs:List Value}{ns:List Int}
  (KX:K.In s₁.heap) (hns:s₁.heap.Ns mainGlobals mg) (hb:s₁.heap.Ns builtinsNs mb) (hbb:∀ x:Str,x ≠ "__name__"→mb x=bootBuiltins x) (hlim:s₁.heap.NoLimit) (hg:s₁.gens=#[])
  (ha:s₁.heap.get? a=some { cls:=.type "list",data:=.seq vs.toArray }) (hi:IntsAre vs ns) (hl:ns.length≤sizeLine) (hr:dM k callerA)
  (F:∀ base:Heap,K.In base→base.Ns mainGlobals mg→bC P w K mg base CX k fa fd [x] sp) (hbind:∀ (s:Shared) (u:Value),BindsTo s fd ⟨[u],[]⟩ [(x,u)])
  (hsp:∀ H:Hp,Cj H→SqL K H a (ns.map V.int)→sp [.ref a] H (fun v _=>v=.bl true) fun _ _ _=>False)
  (hCX:∀ H e s',CX [] H s₁ (fun _ _ _=>False) e s'→False) :
  codeAny (model P w) callerA (.call (.ref fa) ⟨[.ref a],[]⟩) (fun r s'=>r=.ok (.ret (.bool true))∧OldK s₁.heap s'.heap∧s'.os=s₁.os∧AllBare s'.gens) s₁:=by
 have rv:=lM hi
 have lenV:=hi.length
 have core:∀ H:Hp,Cj H→SqL K H a (ns.map V.int)→HOk P w H s₁.heap→(∀ b,H b ≠ none→b=a)→(H a ≠ none→K.lookup a=none) →
   codeAny (model P w) callerA (.call (.ref fa) ⟨[.ref a],[]⟩) (fun r s'=>r=.ok (.ret (.bool true))∧OldK s₁.heap s'.heap∧s'.os=s₁.os∧AllBare s'.gens) s₁:=by
  intro H hO hS hok hA hK
  have base_of:∀ {b:Addr}{o:Obj},s₁.heap.get? b=some o→H b=none→(nH s₁.heap H).get? b=some o:=fun e n=>xw e n
  have noA:∀ {b:Addr}{o:Obj}{es:Array DictEntry}{ep:Nat},s₁.heap.get? b=some o→o.data=.dict es ep→H b=none:=fun {b o es ep} e d=>by
   cases q:H b with
   | none=>rfl
   | some u =>
    have e':b=a:=hA b (by rw [q]; simp)
    subst e'
    rw [ha] at e; cases e
    have d':Data.seq vs.toArray _=Data.dict es ep:=d
    cases d'
  have nsK:∀ {b:Addr}{m:Str→Option Value},s₁.heap.Ns b m→(nH s₁.heap H).Ns b m:=fun {b m} zz48_0=>by obtain ⟨o,es,ep,e,d,r⟩:=zz48_0; exact ⟨o,es,ep,base_of e (noA e d),d,r⟩
  have hKb:K.In (nH s₁.heap H):=fun b o e=>base_of (KX b o e) (by
   cases q:H b with
   | none=>rfl
   | some u =>
    have e':b=a:=hA b (by rw [q]; simp)
    subst e'
    rw [hK (by rw [q]; simp)] at e; cases e)
  have hM:Mod K mg (nH s₁.heap H):=⟨hKb,nsK hns,⟨mb,nsK hb,hbb⟩,let ⟨mc,h1,h2⟩:=hlim; ⟨mc,nsK h1,h2⟩⟩
  have e0:yr P w K mg (nH s₁.heap H) callerA [] s₁ H:=⟨rfl,hM,fun b o e=>zn e,Nat.le_of_eq (uZ _ _),trivial,fun b hb=>absurd (show b ∈ ([]:List Addr) from hb) (by simp),hok,.of_eq hg⟩
  refine codeAny_mono ((F _ hKb (nsK hns)).run callerA [] s₁ H ⟨[.ref a],[]⟩ [.ref a] [.ref a] _ _ hr e0 (hbind s₁ (.ref a)) (.cons rfl .nil) (hsp H hO hS)) fun r s' h=>?_
  cases r with
  | error e=>exact (hCX H e s' h).elim
  | ok fl =>
   cases fl with
   | next=>exact False.elim h
   | brk=>exact False.elim h
   | cont=>exact False.elim h
   | ret u =>
    obtain ⟨v,H',os,bare,un,hok',r',q⟩:=h
    have q':v=.bl true:=q
    subst q'
    obtain rfl:u=Value.bool true:=r'
    refine ⟨rfl,OldK.of_keep fun b o e=>?_,os,bare⟩
    cases q:H b with
    | none=>exact un.keep b o e q (by intro z; exact absurd (show b ∈ ([]:List Addr) from z) (by simp)) (by simp)
    | some u =>
     rcases hO b with z | ⟨ob,xs,z⟩
     ·rw [q] at z; cases z
     ·have z2:=un.frzs b ob _ z
      obtain ⟨e1,_⟩:=hok b _ z
      obtain ⟨e2,_⟩:=hok' b _ z2
      rw [e] at e1; cases e1
      exact e2
 cases hk:K.lookup a with
 | some o =>
  have e:=KX a o hk
  rw [ha] at e
  cases e
  refine core (fun _=>none) (fun _=>.inl rfl) (.inr ⟨_,vs.toArray,_,hk,rfl,rfl,rfl,by rw [List.size_toArray,lenV]; exact hl,by simpa using rv⟩) (fun b u z=>by have z':(none:Option HO)=some u:=z; cases z') (fun b z=>absurd rfl z) fun z=>absurd rfl z
 | none =>
  refine core (fun b=>if b=a then some (.frz { cls:=.type "list",data:=.seq vs.toArray } (.lst (ns.map V.int))) else none) (fun b=>?_) (.inl (.inr ⟨{ cls:=.type "list",data:=.seq vs.toArray },if_pos rfl⟩)) (fun b u z=>?_) (fun b z=>?_) fun _=>hk
  ·by_cases hb:b=a
   ·exact .inr ⟨_,_,if_pos hb⟩
   ·exact .inl (if_neg hb)
  ·by_cases hb:b=a
   ·have z':=(if_pos hb).symm.trans z
    cases z'
    subst hb
    exact ⟨ha,by rw [List.length_map]; exact hl,vs,_,rv,ha⟩
   ·have z':=(if_neg hb).symm.trans z
    cases z'
  ·by_cases hb:b=a
   ·exact hb
   ·exact absurd (if_neg hb) z
noncomputable def jW (s:Stmt):Arguments:=match s with
 | .FunctionDef _ a _ _ _ _ _ _ _ _=>a
 | _=>{ posonlyargs:=[],args:=[],vararg:=none,kwonlyargs:=[],kw_defaults:=[],kwarg:=none,defaults:=[] }
noncomputable def eE (s:Stmt):List Stmt:=match s with
 | .FunctionDef _ _ b _ _ _ _ _ _ _=>b
 | _=>[]
noncomputable def ag (s:Stmt):Scope:=match s with
 | .FunctionDef _ _ _ _ _ _ sc _ _ _=>sc
 | _=>{ kind:=.function,names:=[],isGenerator:=false,isCoroutine:=false }
noncomputable abbrev CX0:CXT:=fun _ _ _ _ _ _=>False
noncomputable abbrev E0:XK:=fun _ _ _=>False
theorem sx {X:Cx}:rJ CX0 X E0:=fun _ _ _ _ _ _ _ h=>h.elim
structure Fun (K:PySem.W.Frag) (x qual:Str) (st:Stmt) (f:Addr) (fd:FuncData):Prop where
 ex:∃ (oc:Value) (od:Option Addr) (kV doc pm:Value) (an:Option Addr) (cdv ct:Value) (osl:Array (Option Value)),
  fd=PySem.W.fnOf x qual (jW st) (eE st) (ag st) .none kV doc pm an cdv ct∧K.lookup f=some ⟨oc,od,.func fd,osl⟩∧PySem.W.codeIn K cdv qual=true
 kp:PySem.W.keepIn K (.ref f)=true
section
variable {P:Program}{w:World}{K:PySem.W.Frag}{mg:Str→Option Value}{base:Heap}
theorem Fun.ok {x qual:Str}{st:Stmt}{f:Addr}{fd:FuncData}{N ps:List Str}{k:Nat}{sp:Sp} (F:Fun K x qual st f fd) (S:aF N ps (ag st)) (len:∀ vs H Q E,sp vs H Q E→vs.length=ps.length)
  (hbody:∀ (cdv:Value) (A:Around) (outer:List Env) (s:Shared) (H:Hp) (vs:List V) (Q:VK) (E:XK),dM k (A.deeper (envOfC qual (ag st) s.heap.objs.size f cdv))→sp vs H Q E →
   ∃ t,PSs (nS CX0 P w K mg base N qual (ag st) f cdv A outer s H E).nox (eE st) t∧t { nx:=fun _ H'=>Q .non H',rt:=Q } (start N vs) H):bC P w K mg base CX0 (k + 1) f fd ps sp:=by
 obtain ⟨oc,od,kV,doc,pm,an,cdv,ct,osl,rfl,lk,hcd⟩:=F.ex
 refine Dy lk hcd S len fun A outer s H vs Q E hr hsp=>?_
 obtain ⟨t,h,q⟩:=hbody cdv A outer s H vs Q E hr hsp
 exact ⟨t,h.nox,q⟩
theorem Fun.binds {x qual:Str}{st:Stmt}{f:Addr}{fd:FuncData}{ps:List Str} (F:Fun K x qual st f fd)
  (h:∀ (kV doc pm:Value) (an:Option Addr) (cdv ct:Value) (us:List Value),us.length=ps.length→bindArgs (PySem.W.fnOf x qual (jW st) (eE st) (ag st) .none kV doc pm an cdv ct) ⟨us,[]⟩=pure (ps.zip us)):bc K fd ps []:=by
 obtain ⟨oc,od,kV,doc,pm,an,cdv,ct,osl,rfl,lk,hcd⟩:=F.ex
 exact .all (h kV doc pm an cdv ct)
end
section
variable {X:Cx}
theorem pv (i:Nat) {x:Str}{pos:Pos} (hN:X.N[i]? = some x:=by rfl) (hv:Vis X.env.scope x:=by first | exact Or.inl rfl | exact Or.inr (Or.inl rfl) | exact Or.inr (Or.inr rfl)) (hd:(x == ("__debug__" : Str))=false:=by decide)
  (hcd:(x == ("__classdict__" : Str))=false:=by decide):PE X (.Name x pos) (fT i):=qO hN hv hd hcd
end
theorem uV {A B:Prop} (h:B):if false=true then A else B:=by
 rw [if_neg Bool.false_ne_true]
 exact h
theorem uU {A B:Prop} (h:A):if true=true then A else B:=by
 rw [if_pos rfl]
 exact h
noncomputable def DJ (H H':Hp):Prop:=∀ b o,H b=some o→H' b=some o
theorem DJ.seq {K:PySem.W.Frag}{H H':Hp}{a:Addr}{xs:List V} (e:DJ H H') (h:SqL K H a xs):SqL K H' a xs:=by
 rcases h with (h | ⟨o,h⟩) | h
 ·exact .inl (.inl (e _ _ h))
 ·exact .inl (.inr ⟨o,e _ _ h⟩)
 ·exact .inr h
section
variable {κ:Type} [DecidableEq κ]
noncomputable def c6 (kvs:List (κ×V)) (k:κ):Option V:=(kvs.find? fun kv=>decide (kv.1=k)).map (·.2)
noncomputable def eJ (kvs:List (κ×V)) (k:κ) (v:V):List (κ×V) :=
 if (kvs.any fun kv=>decide (kv.1=k))=true then kvs.map (fun kv=>if kv.1=k then (kv.1,v) else kv) else kvs ++ [(k,v)]
noncomputable def e8 (kvs:List (κ×V)) (k:κ):List (κ×V):=kvs.filter fun kv=>decide (kv.1 ≠ k)
theorem ip {p:κ×V}{r:List (κ×V)} {k:κ} (e:p.1=k):c6 (p :: r) k=some p.2:=by simp [c6,List.find?_cons,e]
theorem iq {p:κ×V}{r:List (κ×V)} {k:κ} (e:¬ p.1=k):c6 (p :: r) k=c6 r k:=by simp [c6,List.find?_cons,e]
theorem ir (k:κ):∀ kvs:List (κ×V),(kvs.any fun kv=>decide (kv.1=k))=(c6 kvs k).isSome
 | []=>rfl
 | p :: r=>by
  rw [List.any_cons]
  by_cases e:p.1=k
  ·simp only [ip e,decide_eq_true e,Bool.true_or,Option.isSome_some]
  ·rw [iq e,decide_eq_false e,Bool.false_or]; exact ir k r
theorem gj (kvs:List (κ×V)) (k:κ) (v:V):(eJ kvs k v).length≤kvs.length + 1:=by
 unfold eJ
 split
 ·rw [List.length_map]; omega
 ·rw [List.length_append,Em,En]; omega
theorem wm {kvs:List (κ×V)} {k:κ} (v:V) (h:c6 kvs k=none):eJ kvs k v=kvs ++ [(k,v)]:=by
 unfold eJ
 rw [ir,h]
 exact if_neg (by decide)
theorem fS.isSome_eq {o:Option V}{u:Option Value} (r:fS o u):o.isSome=u.isSome:=by
 cases o with
 | none=>cases u with
  | none=>rfl
  | some _=>exact (show False from r).elim
 | some _=>cases u with
  | none=>exact (show False from r).elim
  | some _=>rfl
theorem fS.getD {o:Option V}{u:Option Value}{d:V}{d':Value} (r:fS o u) (rd:aW d d'):aW (o.getD d) (u.getD d'):=by
 cases o with
 | none=>cases u with
  | none=>exact rd
  | some _=>exact (show False from r).elim
 | some _=>cases u with
  | none=>exact (show False from r).elim
  | some _=>exact r
theorem KV.val {kvs:List (κ×V)} {vs:List (κ×Value)} (r:KV kvs vs) (k:κ):fS (c6 kvs k) (valueAt vs k):=by
 unfold KV at r
 induction r with
 | nil=>exact True.intro
 | @cons p q ps qs h t ih =>
  obtain ⟨h1,h2⟩:=h
  by_cases e:p.1=k
  ·have e':q.1=k:=h1.symm.trans e
   have b:valueAt (q :: qs) k=some q.2:=by simp [valueAt,List.find?_cons,e']
   rw [ip e,b]; exact h2
  ·have e':¬ q.1=k:=fun z=>e (h1.trans z)
   have b:valueAt (q :: qs) k=valueAt qs k:=by simp [valueAt,List.find?_cons,e']
   rw [iq e,b]; exact ih
theorem KV.any {kvs:List (κ×V)} {vs:List (κ×Value)} (r:KV kvs vs) (k:κ):(kvs.any fun kv=>decide (kv.1=k))=vs.any fun kv=>decide (kv.1=k):=by
 unfold KV at r
 induction r with
 | nil=>rfl
 | cons h t ih=>rw [List.any_cons,List.any_cons,ih,h.1]
theorem KV.repl {kvs:List (κ×V)} {vs:List (κ×Value)} (r:KV kvs vs) (k:κ) {y:V}{u:Value} (ry:aW y u) :
  KV (kvs.map fun kv=>if kv.1=k then (kv.1,y) else kv) (vs.map fun kv=>if kv.1=k then (kv.1,u) else kv):=by
 unfold KV at r ⊢
 induction r with
 | nil=>exact .nil
 | @cons p q ps qs h t ih =>
  rw [Eo,Eo]
  refine .cons ?_ ih
  obtain ⟨h1,h2⟩:=h
  by_cases e:p.1=k
  ·rw [if_pos e,if_pos (h1.symm.trans e)]; exact ⟨h1,ry⟩
  ·rw [if_neg e,if_neg (fun z=>e (h1.trans z))]; exact ⟨h1,h2⟩
theorem KV.put {kvs:List (κ×V)} {vs:List (κ×Value)} (r:KV kvs vs) (k:κ) {y:V}{u:Value} (ry:aW y u):KV (eJ kvs k y) (stored vs k u):=by
 unfold eJ stored
 rw [r.any k]
 by_cases e:(vs.any fun kv=>decide (kv.1=k))=true
 ·rw [if_pos e,if_pos e]; exact r.repl k ry
 ·rw [if_neg e,if_neg e]; exact Paired.snoc r ⟨rfl,ry⟩
theorem KV.drop {kvs:List (κ×V)} {vs:List (κ×Value)} (r:KV kvs vs) (k:κ):KV (e8 kvs k) (without vs k):=by
 unfold KV at r ⊢
 unfold e8 without
 induction r with
 | nil=>exact .nil
 | @cons p q ps qs h t ih =>
  obtain ⟨h1,h2⟩:=h
  rw [List.filter_cons,List.filter_cons]
  by_cases e:p.1=k
  ·have a:¬ decide (p.1 ≠ k)=true:=by simp [e]
   have b:¬ decide (q.1 ≠ k)=true:=by simp [h1.symm.trans e]
   rw [if_neg a,if_neg b]; exact ih
  ·have e':¬ q.1=k:=fun z=>e (h1.trans z)
   have a:decide (p.1 ≠ k)=true:=by simp [e]
   have b:decide (q.1 ≠ k)=true:=by simp [e']
   rw [if_pos a,if_pos b]; exact .cons ⟨h1,h2⟩ ih
theorem KV.keys {kvs:List (κ×V)} {vs:List (κ×Value)} (r:KV kvs vs):kvs.map (·.1)=vs.map (·.1):=by
 unfold KV at r
 induction r with
 | nil=>rfl
 | cons h t ih=>rw [Eo,Eo,ih,h.1]
theorem KV.length {kvs:List (κ×V)} {vs:List (κ×Value)} (r:KV kvs vs):kvs.length=vs.length:=Paired.length r
theorem xX (kvs:List (κ×V)) (k:κ):(e8 kvs k).length≤kvs.length:=List.length_filter_le _ _
end
theorem iI {P:Program}{w:World}{k:Key}{u:Value} (r:aW (kV k) u):(aL P w).is k u=true:=by
 match k,r with
 | .inl (some i),r=>obtain ⟨t,e⟩:=(show ∃ t,u=Value.int i t from r); subst e; exact pG P w i t
 | .inl none,r=>cases (show u=Value.none from r); exact uS
 | .inr x,r=>obtain ⟨t,e⟩:=(show ∃ t,u=Value.str x t from r); subst e; exact pF P w x t
theorem mn {P:Program}{w:World}:∀ {ks:List Key}{us:List Value},aZ (ks.map kV) us→ItemsAre (aL P w) ks us
 | [],_,r=>by rw [Er] at r; cases r; exact .nil
 | k :: ks,_,r=>by
  rw [Eo] at r
  cases r with
  | cons h t=>exact .cons (iI h) (mn t)
noncomputable abbrev KT (H:Hp):List (List Key×V)→List (List Key×Addr×Value)→Prop:=Paired fun p q=>p.1=q.1∧H q.2.1=some (.tup (p.1.map kV))∧aW p.2 q.2.2
theorem KT.val {H:Hp}{kvs:List (List Key×V)} {xs:List (List Key×Addr×Value)} (r:KT H kvs xs) (k:List Key):fS (c6 kvs k) ((atKey xs k).map (·.2)):=by
 induction r with
 | nil=>exact True.intro
 | @cons p q ps qs h t ih =>
  obtain ⟨h1,_,h2⟩:=h
  by_cases e:p.1=k
  ·have e':q.1=k:=h1.symm.trans e
   have b:atKey (q :: qs) k=some q.2:=by simp [atKey,List.find?_cons,e']
   rw [ip e,b]; exact h2
  ·have e':¬ q.1=k:=fun z=>e (h1.trans z)
   have b:atKey (q :: qs) k=atKey qs k:=by simp [atKey,List.find?_cons,e']
   rw [iq e,b]; exact ih
theorem KT.repl {H:Hp}{kvs:List (List Key×V)} {xs:List (List Key×Addr×Value)} (r:KT H kvs xs) (k:List Key) {y:V}{u:Value} (ry:aW y u) :
  KT H (kvs.map fun kv=>if kv.1=k then (kv.1,y) else kv) (xs.map (putAt k u)):=by
 induction r with
 | nil=>exact .nil
 | @cons p q ps qs h t ih =>
  rw [Eo,Eo]
  refine .cons ?_ ih
  obtain ⟨h1,h2,h3⟩:=h
  unfold putAt
  by_cases e:p.1=k
  ·rw [if_pos e,if_pos (h1.symm.trans e)]; exact ⟨h1,h2,ry⟩
  ·rw [if_neg e,if_neg (fun z=>e (h1.trans z))]; exact ⟨h1,h2,h3⟩
theorem KT.put {H:Hp}{kvs:List (List Key×V)} {xs:List (List Key×Addr×Value)} (r:KT H kvs xs) (k:List Key) {b:Addr}{y:V}{u:Value} (hb:H b=some (.tup (k.map kV))) (ry:aW y u) :
  KT H (eJ kvs k y) (storedH xs k b u):=by
 have e:(kvs.any fun kv=>decide (kv.1=k))=(atKey xs k).isSome:=by
  rw [ir,(r.val k).isSome_eq,Option.isSome_map]
 unfold eJ storedH
 rw [e]
 by_cases q:(atKey xs k).isSome=true
 ·rw [if_pos q,if_pos q]; exact r.repl k ry
 ·rw [if_neg q,if_neg q]; exact Paired.snoc r ⟨rfl,hb,ry⟩
theorem KT.keeps {H H':Hp}{kvs:List (List Key×V)} {xs:List (List Key×Addr×Value)} (r:KT H kvs xs) (ht:∀ b ys,H b=some (.tup ys)→H' b=some (.tup ys)):KT H' kvs xs :=
 Paired.mapP r fun _ _ z=>⟨z.1,ht _ _ z.2.1,z.2.2⟩
section
variable {P:Program}{w:World}{H:Hp}{h:Heap}{a:Addr}
theorem Am {u:HO} (ok:HOk P w H h) (e:Rd H a u):b6 P w H h a u:=e.ok ok
theorem gr {kvs:List (Key×V)} (ok:HOk P w H h) (e:Rd H a (.dK kvs)):kvs.length≤sizeLine∧(a == sysModules)=false∧∃ vs,KV kvs vs∧h.DictOf (aL P w) a vs :=
 show b6 P w H h a (.dK kvs) from Am ok e
theorem mC {kvs:List (Key×V)} (ok:HOk P w H h) (e:H a=some (.dK kvs)):kvs.length≤sizeLine∧(a == sysModules)=false∧∃ vs,KV kvs vs∧h.DictOf (aL P w) a vs:=gr ok (.inl e)
theorem jd {ks:List Key} (ok:HOk P w H h) (e:H a=some (.tup (ks.map kV))):(tupleKind (aL P w)).is h ks a:=by
 obtain ⟨_,its,r,o,h1,h2,n,h3⟩:=(show b6 P w H h a (.tup (ks.map kV)) from ok a _ e)
 exact ⟨o,its.toArray,n,h1,h2,h3,by simpa using mn r⟩
theorem kW {kvs:List (List Key×V)} (ok:HOk P w H h) (e:Rd H a (.dT kvs)):kvs.length≤sizeLine∧(a == sysModules)=false ∧
  ∃ xs,KT H kvs xs∧h.DictOfH (tupleKind (aL P w)) a xs:=by
 obtain ⟨z,y,xs,r,o,es,ep,h1,h2,h3,h4,h5⟩:=(show b6 P w H h a (.dT kvs) from Am ok e)
 refine ⟨z,y,xs,r,o,es,ep,h1,h2,h3,h4,fun x hx=>?_,h5⟩
 have all:∀ {l:List (List Key×V)} {m:List (List Key×Addr×Value)},KT H l m→∀ x ∈ m,(tupleKind (aL P w)).is h x.1 x.2.1:=by
  intro l m q
  induction q with
  | nil=>intro x hx; exact nomatch hx
  | @cons p q ps qs hq t ih =>
   intro x hx
   rcases List.mem_cons.mp hx with e | hx
   ·subst e
    exact jd ok (by rw [← hq.1]; exact hq.2.1)
   ·exact ih x hx
 exact all r x hx
theorem DC {kvs:List (List Key×V)} (ok:HOk P w H h) (e:H a=some (.dT kvs)):kvs.length≤sizeLine∧(a == sysModules)=false ∧
  ∃ xs,KT H kvs xs∧h.DictOfH (tupleKind (aL P w)) a xs:=kW ok (.inl e)
end
noncomputable def jp (H:Hp) (a:Addr) (y:V) (r:Option V):Prop :=
 (∃ kvs k,Rd H a (.dK kvs)∧y=kV k∧r=c6 kvs k)∨∃ kvs k b,Rd H a (.dT kvs)∧y=.ref b∧H b=some (.tup (k.map kV))∧r=c6 kvs k
noncomputable def vD (H:Hp) (a:Addr) (y v:V) (H':Hp):Prop :=
 (∃ kvs k,H a=some (.dK kvs)∧y=kV k∧kvs.length < sizeLine∧H'=upd H a (.dK (eJ kvs k v))) ∨
 ∃ kvs k b,H a=some (.dT kvs)∧y=.ref b∧H b=some (.tup (k.map kV))∧kvs.length < sizeLine∧H'=upd H a (.dT (eJ kvs k v))
theorem jp.k {H:Hp}{a:Addr}{kvs:List (Key×V)} {k:Key} (e:H a=some (.dK kvs)):jp H a (kV k) (c6 kvs k):=.inl ⟨kvs,k,.inl e,rfl,rfl⟩
theorem vD.k {H:Hp}{a:Addr}{kvs:List (Key×V)} {k:Key}{v:V} (e:H a=some (.dK kvs)) (hl:kvs.length < sizeLine):vD H a (kV k) v (upd H a (.dK (eJ kvs k v))):=.inl ⟨kvs,k,e,rfl,hl,rfl⟩
section
variable {X:Cx}{pins:List (Addr×Obj)} {σ:St}{H:Hp}{s:Shared}{a:Addr}{y v:V}{u r:Value}{o:Option V}{A:Around}{E:Value→Shared→Prop}
theorem Inv.big (I:Inv X pins σ H s):sysModules < s.heap.objs.size:=by
 have h:mainGlobals < s.heap.objs.size:=(I.mod.glob.keeps I.bk).lt
 exact Nat.lt_trans (by decide) h
theorem vj {Q:Value→Shared→Prop} (hu:A.units + 1 < cLine) (I:Inv X pins σ H s) (g:jp H a y (some v)) (ry:aW y u) (h:∀ w' s',Inv X pins σ H s'→aW v w'→Q w' s') :
  wpAny (model X.prog X.w) A (getItem (.ref a) u) Q E s:=by
 rcases g with ⟨kvs,k,e,ey,l⟩ | ⟨kvs,k,b,e,ey,eb,l⟩
 ·subst ey
  obtain ⟨z,hd,vs,rel,dd⟩:=gr I.hok e
  obtain ⟨w',hw,rw'⟩:=fS.some_of (v:=v) (o:=valueAt vs k) (by rw [l]; exact rel.val k)
  exact wpAny_getItem_of (iI ry) dd.mapOf hw (h w' _ (I.tok _) rw')
 ·subst ey
  cases (show u=Value.ref b from ry)
  obtain ⟨z,hd,xs,rel,dd⟩:=kW I.hok e
  obtain ⟨w',hw,rw'⟩:=fS.some_of (v:=v) (o:=(atKey xs k).map (·.2)) (by rw [l]; exact rel.val k)
  obtain ⟨p,hp,hp2⟩:=Option.map_eq_some_iff.mp hw
  refine wpAny_getItem_heap (tupleKind_room_in1 hu) (jd I.hok eb) dd hp ?_
  rw [hp2]
  exact h w' _ (I.tok _) rw'
theorem D9 {Q:Value→Shared→Prop} (hu:A.units + 1 < cLine) (I:Inv X pins σ H s) (g:jp H a y o) (ry:aW y u) (h:∀ s',Inv X pins σ H s'→Q (.bool o.isSome) s') :
  wpAny (model X.prog X.w) A (compareOp .In u (.ref a)) Q E s:=by
 rcases g with ⟨kvs,k,e,ey,l⟩ | ⟨kvs,k,b,e,ey,eb,l⟩
 ·subst ey
  obtain ⟨z,hd,vs,rel,dd⟩:=gr I.hok e
  refine wpAny_in_of (iI ry) hd dd.mapOf ?_
  rw [← (rel.val k).isSome_eq,← l]
  exact h _ (I.tok _)
 ·subst ey
  cases (show u=Value.ref b from ry)
  obtain ⟨z,hd,xs,rel,dd⟩:=kW I.hok e
  refine wpAny_in_heap (tupleKind_room_in1 hu) (jd I.hok eb) hd dd ?_
  have q:=(rel.val k).isSome_eq
  rw [Option.isSome_map] at q
  rw [← q,← l]
  exact h _ (I.tok _)
theorem zW {Q:Value→Shared→Prop} (hu:A.units + 1 < cLine) (I:Inv X pins σ H s) (g:jp H a y o) (ry:aW y u) (h:∀ s',Inv X pins σ H s'→Q (.bool (!o.isSome)) s') :
  wpAny (model X.prog X.w) A (compareOp .NotIn u (.ref a)) Q E s:=by
 rcases g with ⟨kvs,k,e,ey,l⟩ | ⟨kvs,k,b,e,ey,eb,l⟩
 ·subst ey
  obtain ⟨z,hd,vs,rel,dd⟩:=gr I.hok e
  refine wpAny_notIn_of (iI ry) hd dd.mapOf ?_
  rw [← (rel.val k).isSome_eq,← l]
  exact h _ (I.tok _)
 ·subst ey
  cases (show u=Value.ref b from ry)
  obtain ⟨z,hd,xs,rel,dd⟩:=kW I.hok e
  refine wpAny_notIn_heap (tupleKind_room_in1 hu) (jd I.hok eb) hd dd ?_
  have q:=(rel.val k).isSome_eq
  rw [Option.isSome_map] at q
  rw [← q,← l]
  exact h _ (I.tok _)
theorem gN {h':Heap}{t':Nat}{ob:HO} (I:Inv X pins σ H s) (mu:Mut (H a)) (hs:Heap.SameBut a s.heap h') (he:∃ q,h'.get? a=some q) (new:b6 X.prog X.w (upd H a ob) h' a ob) :
  Inv X pins σ (upd H a ob) { s with heap:=h',toks:=t' } :=
 I.write (x:=a) (e:=a) mu (.inl rfl) (fun b q hb z=>(hs.2 b hb).trans z) he new
theorem jk {P:Program}{w:World}{H':Hp}{h':Heap}{kvs:List (Key×V)} {vs:List (Key×Value)} (z:kvs.length≤sizeLine) (hd:(a == sysModules)=false) (rel:KV kvs vs) (dd:h'.DictOf (aL P w) a vs) :
  b6 P w H' h' a (.dK kvs):=⟨z,hd,vs,rel,dd⟩
theorem vi {H':Hp}{Q:Unit→Shared→Prop} (hu:A.units + 1 < cLine) (I:Inv X pins σ H s) (g:vD H a y v H') (ry:aW y u) (rv:aW v r) (h:∀ s',Inv X pins σ H' s'→Q () s') :
  wpAny (model X.prog X.w) A (setItem (.ref a) u r) Q E s:=by
 rcases g with ⟨kvs,k,e,ey,l,eH⟩ | ⟨kvs,k,b,e,ey,eb,l,eH⟩
 ·subst ey eH
  obtain ⟨z,hd,vs,rel,dd⟩:=mC I.hok e
  have hz:vs.length≤sizeLine:=by rw [← rel.length]; exact z
  have hl:(eJ kvs k v).length≤sizeLine:=by have:=gj kvs k v; omega
  refine wpAny_setItem_pairs (hsz:=hz) (iI ry) dd fun h' dd' hs=>h _ ?_
  have he:∃ q,h'.get? a=some q:=let ⟨q,_,_,hq,_⟩:=dd'; ⟨q,hq⟩
  exact gN I (by rw [e]; exact True.intro) hs he (jk hl hd (rel.put k rv) dd')
 ·subst ey eH
  cases (show u=Value.ref b from ry)
  obtain ⟨z,hd,xs,rel,dd⟩:=DC I.hok e
  have hz:xs.length≤sizeLine:=by rw [← Paired.length rel]; exact z
  have hl:(eJ kvs k v).length≤sizeLine:=by have:=gj kvs k v; omega
  refine wpAny_setItem_heap (hsz:=hz) (tupleKind_room_in1 hu) (jd I.hok eb) dd fun h' dd' hs=>h _ ?_
  obtain ⟨q,es,ep,hq,h2,h3,h4,_,h5⟩:=dd'
  refine gN I (by rw [e]; exact True.intro) hs ⟨q,hq⟩ ⟨hl,hd,_,(rel.put k eb rv).keeps fun c ys ec=>?_,q,es,ep,hq,h2,h3,h4,h5⟩
  rw [ah (Dh ec e (fun z=>nomatch z))]
  exact ec
end
section
variable {X:Cx}{pins:List (Addr×Obj)} {σ:St}{H:Hp}{s:Shared}{a:Addr}{kvs:List (Key×V)} {k:Key}{u:Value}{A:Around}{E:Value→Shared→Prop}
theorem DD {v:V}{more:List Value}{Q:Value→Shared→Prop} (I:Inv X pins σ H s) (e:H a=some (.dK kvs)) (ry:aW (kV k) u) (l:c6 kvs k=some v) (hm:more=[]∨∃ x,more=[x])
  (h:∀ w' s',Inv X pins σ (upd H a (.dK (e8 kvs k))) s'→aW v w'→Q w' s'):wpAny (model X.prog X.w) A (call (.builtin "dict.pop") (.ref a :: u :: more)) Q E s:=by
 obtain ⟨z,hd,vs,rel,dd⟩:=mC I.hok e
 obtain ⟨w',hw,rw'⟩:=fS.some_of (v:=v) (o:=valueAt vs k) (by rw [← l]; exact rel.val k)
 have hp:(keyPart u).isSome=true:=by
  match k,ry with
  | .inl (some i),ry=>obtain ⟨t,q⟩:=(show ∃ t,u=Value.int i t from ry); subst q; rfl
  | .inl none,ry=>cases (show u=Value.none from ry); rfl
  | .inr x,ry=>obtain ⟨t,q⟩:=(show ∃ t,u=Value.str x t from ry); subst q; rfl
 have ha:argsOk "dict.pop" ⟨.ref a :: u :: more,[]⟩:=by
  rcases hm with q | ⟨x,q⟩
  ·subst q; exact PySem.F.args_dict_pop_2 _ _
  ·subst q; exact PySem.F.args_dict_pop_3 _ _ _
 refine call_meetsIn PySem.F.slot_dict_pop dd.typeIs PySem.F.entry_dict_pop ha (meets_dict_pop_there (aL X.prog X.w) a (iI ry) more hm hp)
  ⟨vs,w',dd,by rw [← rel.length]; exact z,hw,fun h' dd' hs=>h w' _ ?_ rw'⟩
 have he:∃ q,h'.get? a=some q:=let ⟨q,_,_,hq,_⟩:=dd'; ⟨q,hq⟩
 exact gN I (by rw [e]; exact True.intro) hs he (jk (Nat.le_trans (xX kvs k) z) hd (rel.drop k) dd')
theorem zX {Q:Value→Shared→Prop} (I:Inv X pins σ H s) (e:H a=some (.dK kvs)) (h:∀ s',Inv X pins σ (upd H a (.dK [])) s'→Q .none s'):wpAny (model X.prog X.w) A (call (.builtin "dict.clear") [.ref a]) Q E s:=by
 obtain ⟨z,hd,vs,rel,dd⟩:=mC I.hok e
 refine call_meetsIn PySem.F.slot_dict_clear dd.typeIs PySem.F.entry_dict_clear (PySem.F.args_dict_clear_1 _) (meets_dict_clear (aL X.prog X.w) a) ⟨vs,dd,by rw [← rel.length]; exact z,fun h' dd' hs=>h _ ?_⟩
 have he:∃ q,h'.get? a=some q:=let ⟨q,_,_,hq,_⟩:=dd'; ⟨q,hq⟩
 exact gN (t':=s.toks) I (by rw [e]; exact True.intro) hs he (jk (Nat.zero_le _) hd .nil dd')
theorem DF {Q:Value→Shared→Prop} (I:Inv X pins σ H s) (e:Rd H a (.dK kvs)) (h:∀ t s',Inv X pins σ H s'→Q (.int kvs.length t) s'):wpAny (model X.prog X.w) A (call (.builtin "len") [.ref a]) Q E s:=by
 obtain ⟨z,hd,vs,rel,dd⟩:=gr I.hok e
 refine call_len_dict hd dd (by rw [← rel.length]; rw [sizeLine_eq] at z; omega) ?_
 rw [← rel.length]
 exact h _ _ (I.tok _)
end
noncomputable def Af (i:Expr):Prop:=∀ ov iv,subscripted i false ov iv=operate [ov,iv] (getItem ov iv)
theorem yG {prog:Program}{w:World}{A:Around}{E:Value→Shared→Prop}{s:Shared}{env:Env}{value slice:Expr}{pos:Pos}{T id:String}{Q:Value→Shared→Prop}
  (hl:typeLookup (.type T) "__getitem__" = pure (some (.builtin id))) (hs:Af slice)
  (h:wpAny (model prog w) A (eval value env) (fun o s₁=>wpAny (model prog w) A (eval slice env) (fun i s₂=>s₂.TypeIs o T∧wpAny (model prog w) A (getItem o i) Q E s₂) E s₁) E s) :
  wpAny (model prog w) A (eval (.Subscript value slice pos) env) Q E s:=by
 refine Subscript_ (wpAny_mono h (fun o s₁ h₁=>wpAny_mono h₁ (fun i s₂ h₂=>?_) fun _ _ x=>x) fun _ _ x=>x)
 obtain ⟨hT,h₂⟩:=h₂
 unfold subscriptTail
 refine wpAny_bind ?_
 rw [getitemInPython_of_ne hT.not_modules]
 refine wpAny_bind (wpAny_specialOf hT hl ?_)
 have fin:wpAny (model prog w) A (subscripted slice false o i) (fun r s₃=>wpAny (model prog w) A (letTemporaryGo value o r >>= fun _=>pure r) Q E s₃) E s₂:=by
  rw [hs o i]
  exact wpAny_operating (wpAny_mono h₂ (fun r s₃ h₃=>wpAny_bind (wpAny_letTemporaryGo (wpAny_pure h₃))) fun _ _ x=>x)
 first
  | exact wpAny_pure (wpAny_bind fin)
  | exact wpAny_bind (wpAny_pure (wpAny_bind fin))
  | exact wpAny_bind fin
theorem p7 {X:Cx}{pins:List (Addr×Obj)} {σ:St}{H:Hp}{s:Shared}{a:Addr}{y:V}{o:Option V} (I:Inv X pins σ H s) (g:jp H a y o):s.TypeIs (.ref a) "dict" := by
 rcases g with ⟨kvs,k,e,_,_⟩ | ⟨kvs,k,b,e,_,_,_⟩
 ·obtain ⟨_,_,vs,_,dd⟩:=gr I.hok e
  exact dd.typeIs
 ·obtain ⟨_,_,xs,_,dd⟩:=kW I.hok e
  exact dd.typeIs
noncomputable def CJ (td ty:TE):TE:=fun σ H Q=>td σ H fun x H1=>ty σ H1 fun y H2=>∃ a v,x=.ref a∧jp H2 a y (some v)∧Q v H2
noncomputable def CI (ty td:TE):TE:=fun σ H Q=>ty σ H fun y H1=>td σ H1 fun x H2=>∃ a o,x=.ref a∧jp H2 a y o∧Q (.bl o.isSome) H2
noncomputable def se (ty td:TE):TE:=fun σ H Q=>ty σ H fun y H1=>td σ H1 fun x H2=>∃ a o,x=.ref a∧jp H2 a y o∧Q (.bl (!o.isSome)) H2
noncomputable def CO (td ty tv:TE):TS:=fun D σ H=>tv σ H fun v H1=>td σ H1 fun x H2=>ty σ H2 fun y H3=>∃ a H4,x=.ref a∧vD H3 a y v H4∧D.nx σ H4
section
variable {X:Cx}{o i e value:Expr}{pos pos' tpos:Pos}{td ty tv:TE}
theorem su (hu:X.A.units + 1 < cLine) (ho:PE X o td) (hi:PE X i ty) (hs:Af i):PE X (.Subscript o i pos) (CJ td ty):=by
 intro pins s σ H Q I h
 refine yG PySem.F.slot_dict_getitem.lookup hs (thn (ho pins s σ H _ I h) fun u s1 ⟨x,H1,I1,rx,q1⟩=>thn (hi pins s1 σ H1 _ I1 q1) fun iv s2 zz50_0=>?_)
 obtain ⟨y,H2,I2,ry,a,v,ex,g,q2⟩:=zz50_0
 subst ex
 obtain rfl:u=Value.ref a:=rx
 exact ⟨p7 I2 g,vj hu I2 g ry fun w' s3 I3 rw'=>⟨v,H2,I3,rw',q2⟩⟩
theorem Bq (hu:X.A.units + 1 < cLine) (hi:PE X i ty) (ho:PE X o td):PC X .In i o (CI ty td):=by
 intro pins s σ H Q I h
 refine thn (hi pins s σ H _ I h) fun iv s1 ⟨y,H1,I1,ry,q1⟩=>thn (ho pins s1 σ H1 _ I1 q1) fun u s2 zz52_0=>?_
 obtain ⟨x,H2,I2,rx,a,ov,ex,g,q2⟩:=zz52_0
 subst ex
 obtain rfl:u=Value.ref a:=rx
 exact D9 hu I2 g ry fun s3 I3=>⟨.bl ov.isSome,H2,I3,rfl,q2⟩
theorem uo (hu:X.A.units + 1 < cLine) (hi:PE X i ty) (ho:PE X o td):PC X .NotIn i o (se ty td):=by
 intro pins s σ H Q I h
 refine thn (hi pins s σ H _ I h) fun iv s1 ⟨y,H1,I1,ry,q1⟩=>thn (ho pins s1 σ H1 _ I1 q1) fun u s2 zz54_0=>?_
 obtain ⟨x,H2,I2,rx,a,ov,ex,g,q2⟩:=zz54_0
 subst ex
 obtain rfl:u=Value.ref a:=rx
 exact zW hu I2 g ry fun s3 I3=>⟨.bl (!ov.isSome),H2,I3,rfl,q2⟩
theorem sk (hu:X.A.units + 1 < cLine) (ho:PE X o td) (hi:PE X i ty) (hv:PE X value tv) (hs:swapsWith value (some (.Subscript o i pos')) pos.line X.env=pure false) :
  PS X (.Assign [.Subscript o i pos'] value pos) (CO td ty tv):=by
 intro pins s σ H D I h
 refine wpAny_Assign_Subscript (thn (hv pins s σ H _ I h) fun r s1 ⟨v,H1,I1,rv,q1⟩=>thn (ho pins s1 σ H1 _ I1 q1) fun u s2 ⟨x,H2,I2,rx,q2⟩=>thn (hi pins s2 σ H2 _ I2 q2) fun iv s3 zz57_0=>?_) hs
 obtain ⟨y,H3,I3,ry,a,H4,ex,g,q3⟩:=zz57_0
 subst ex
 obtain rfl:u=Value.ref a:=rx
 exact vi hu I3 g ry rv fun s4 I4=>⟨σ,H4,I4,q3⟩
end
theorem p5 {P:Program}{w:World}{H:Hp} (h:Heap) (hb:sysModules < h.objs.size):b6 P w H (h.push { cls:=.type "dict",data:=.dict #[] }) h.objs.size (.dK []) :=
 ⟨Nat.zero_le _,beq_eq_false_iff_ne.mpr (Ne.symm (Nat.ne_of_lt hb)),[],.nil,Heap.DictOf.new h⟩
noncomputable def AQ:TE:=fun _ H Q=>∀ p,H p=none→Q (.ref p) (upd H p (.dK []))
section
variable {X:Cx}{pos:Pos}
theorem wH:PE X (.Dict [] [] pos) AQ:=fun pins s σ H Q I h =>
 wpAny_Dict_empty ⟨.ref s.heap.objs.size,_,I.laid (a:=s.heap.objs.size) (o:=.dK []) (t':=s.toks) (fun _ _ q=>Heap.get?_push_of_some _ q) (Nat.le_refl _) (p5 s.heap I.big),rfl,h _ (I.hok.fresh (Nat.le_refl _))⟩
end
noncomputable def qz:List (TE×TE)→St→Hp→(List (V×V)→Hp→Prop)→Prop
 | [],_,H,Q=>Q [] H
 | (tk,tv) :: r,σ,H,Q=>tk σ H fun x H1=>tv σ H1 fun y H2=>qz r σ H2 fun ps H3=>Q ((x,y) :: ps) H3
noncomputable abbrev VV:List (V×V)→List (Value×Value)→Prop:=Paired fun p q=>aW p.1 q.1∧aW p.2 q.2
noncomputable def PPs (X:Cx) (pos:Pos) (keys:List (Option Expr)) (values:List Expr) (trs:List (TE×TE)):Prop :=
 ∀ (pins:List (Addr×Obj)) (s:Shared) (σ:St) (H:Hp) (Q:List (V×V)→Hp→Prop),Inv X pins σ H s→qz trs σ H Q →
  wpAny (model X.prog X.w) X.A (evalPairs (pairTrees keys values X.env pos)) (fun vs s'=>∃ ps H',Inv X pins σ H' s'∧VV ps vs∧Q ps H') X.xe s
theorem yZ {X:Cx}{pos:Pos}:PPs X pos [] [] []:=fun pins s σ H Q I h=>pairTrees_nil_walk ⟨[],H,I,.nil,h⟩
theorem wt {X:Cx}{pos:Pos}{k v:Expr}{ks:List (Option Expr)} {vs:List Expr}{tk tv:TE}{trs:List (TE×TE)} (hk:PE X k tk) (hv:PE X v tv) (hr:PPs X pos ks vs trs) :
  PPs X pos (some k :: ks) (v :: vs) ((tk,tv) :: trs):=fun pins s σ H Q I h =>
 pairTrees_cons_walk (thn (hk pins s σ H _ I h) fun u s1 ⟨x,H1,I1,rx,q1⟩=>thn (hv pins s1 σ H1 _ I1 q1) fun w2 s2 ⟨y,H2,I2,ry,q2⟩ =>
  thn (hr pins s2 σ H2 _ I2 q2) fun ws s3 zz60_0=>by obtain ⟨ps,H3,I3,rel,q3⟩:=zz60_0; exact ⟨(x,y) :: ps,H3,I3,.cons ⟨rx,ry⟩ rel,q3⟩)
noncomputable def hY (kvs more:List (Key×V)):List (Key×V):=more.foldl (fun acc kv=>eJ acc kv.1 kv.2) kvs
theorem KV.merge:∀ {more:List (Key×V)} {rs:List (Key×Value)} {kvs:List (Key×V)} {vs:List (Key×Value)},KV more rs→KV kvs vs→KV (hY kvs more) (merged vs rs):=by
 intro more rs kvs vs r
 unfold KV at r
 induction r generalizing kvs vs with
 | nil=>intro q; exact q
 | @cons p q ps qs h t ih =>
  intro r0
  have e:KV (eJ kvs p.1 p.2) (stored vs q.1 q.2):=by
   have:=r0.put p.1 h.2
   rw [← h.1]; exact this
  exact ih e
theorem eL:∀ (more kvs:List (Key×V)),(hY kvs more).length≤kvs.length + more.length
 | [],kvs=>by show kvs.length≤kvs.length + 0; omega
 | p :: r,kvs=>by
  have h1:=eL r (eJ kvs p.1 p.2)
  have h2:=gj kvs p.1 p.2
  show (hY (eJ kvs p.1 p.2) r).length≤_
  rw [Em]; omega
theorem k8 {P:Program}{w:World}:∀ {kvs:List (Key×V)} {ws:List (Value×Value)},VV (kvs.map fun kv=>(kV kv.1,kv.2)) ws→∃ rs,Carries (aL P w) ws rs∧KV kvs rs
 | [],_,r=>by rw [Er] at r; cases r; exact ⟨[],True.intro,.nil⟩
 | p :: kvs,_,r=>by
  rw [Eo] at r
  cases r with
  | @cons a b as bs h t =>
   obtain ⟨rs,c,q⟩:=k8 (P:=P) (w:=w) t
   obtain ⟨b1,b2⟩:=b
   exact ⟨(p.1,b2) :: rs,⟨iI h.1,rfl,c⟩,.cons ⟨rfl,h.2⟩ q⟩
noncomputable def CH (trs:List (TE×TE)):TE:=fun σ H Q=>∀ p,H p=none→qz trs σ (upd H p (.dK [])) fun ps H2=>H2 p=some (.dK [])∧∃ kvs:List (Key×V),ps=kvs.map (fun kv=>(kV kv.1,kv.2))∧kvs.length≤15∧Q (.ref p) (upd H2 p (.dK (hY [] kvs)))
theorem zf {X:Cx}{pos:Pos}{keys:List (Option Expr)} {values:List Expr}{trs:List (TE×TE)} (h:PPs X pos keys values trs) (hall:keys.all (·.isSome)=true) (hl:keys.length=values.length) (h0:keys ≠ [])
  (h15:keys.length≤15):PE X (.Dict keys values pos) (CH trs):=by
 intro pins s σ H Q I q
 have hn:=I.hok.fresh (Nat.le_refl s.heap.objs.size)
 have I1:=I.laid (a:=s.heap.objs.size) (o:=.dK []) (h':=s.heap.push { cls:=.type "dict",data:=.dict #[] }) (t':=s.toks) (fun _ _ q=>Heap.get?_push_of_some _ q) (Nat.le_refl _) (p5 s.heap I.big)
 refine wpAny_Dict_walk (knd:=aL X.prog X.w) hall hl h0 h15 (thn (h pins _ σ _ _ I1 (q _ hn)) fun ws s2 zz61_0=>?_)
 obtain ⟨ps,H2,I2,rel,e,kvs,ep,lk,q2⟩:=zz61_0
 subst ep
 obtain ⟨rs,c,rk⟩:=k8 (P:=X.prog) (w:=X.w) rel
 obtain ⟨z,hd,vs0,r0,dd⟩:=mC I2.hok e
 cases r0
 refine ⟨rs,c,dd,fun h' dd' hs=>⟨.ref s.heap.objs.size,_,?_,rfl,q2⟩⟩
 have hz:(hY [] kvs).length≤sizeLine:=by
  have h1:=eL kvs []
  rw [En] at h1
  rw [sizeLine_eq]; omega
 have he:∃ q,h'.get? s.heap.objs.size=some q:=let ⟨q,_,_,hq,_⟩:=dd'; ⟨q,hq⟩
 exact gN I2 (by rw [e]; exact True.intro) hs he (jk hz hd (rk.merge .nil) dd')
structure M1 (X:Cx) (o:Expr) (m:Str) (apos:Pos) (e:Expr) (cpos:Pos):Prop where
 base:attributeBase o m X.env (eval o X.env)=eval o X.env
 few:((backTo cpos (starEach [e] X.env)).all (fun x => !x.1) && (backToKw cpos (keywordEach [] X.env)).all (fun x=>x.1.isSome)
  && decide (([e]:List Expr).length + ([]:List Keyword).length + (if ([]:List Keyword).isEmpty then 0 else 1) < 30))=true
 line:(apos.endLine == cpos.line)=true
 trees:backTo cpos (starEach [e] X.env)=[(false,eval e X.env)]
structure M2 (X:Cx) (o:Expr) (m:Str) (apos:Pos) (e f:Expr) (cpos:Pos):Prop where
 base:attributeBase o m X.env (eval o X.env)=eval o X.env
 few:((backTo cpos (starEach [e,f] X.env)).all (fun x => !x.1) && (backToKw cpos (keywordEach [] X.env)).all (fun x=>x.1.isSome)
  && decide (([e,f]:List Expr).length + ([]:List Keyword).length + (if ([]:List Keyword).isEmpty then 0 else 1) < 30))=true
 line:(apos.endLine == cpos.line)=true
 trees:backTo cpos (starEach [e,f] X.env)=[(false,eval e X.env),(false,eval f X.env)]
noncomputable def IsD (H:Hp) (a:Addr):Prop:=(∃ kvs,Rd H a (.dK kvs))∨∃ kvs,Rd H a (.dT kvs)
theorem re {X:Cx}{pins:List (Addr×Obj)} {σ:St}{H:Hp}{s:Shared}{a:Addr} (I:Inv X pins σ H s) (d:IsD H a) :
  s.TypeIs (.ref a) "dict"∧(∀ b,Value.ref a=.ref b→∃ ob,s.heap.get? b=some ob∧ob.dict=none)∧(a == sysModules)=false:=by
 rcases d with ⟨kvs,e⟩ | ⟨kvs,e⟩
 ·obtain ⟨_,hd,vs,_,dd⟩:=gr I.hok e
  refine ⟨dd.typeIs,fun b q=>?_,hd⟩
  cases q
  obtain ⟨ob,_,_,h1,h2,_⟩:=dd
  exact ⟨ob,h1,h2.2.1⟩
 ·obtain ⟨_,hd,xs,_,dd⟩:=kW I.hok e
  refine ⟨dd.typeIs,fun b q=>?_,hd⟩
  cases q
  obtain ⟨ob,_,_,h1,h2,_⟩:=dd
  exact ⟨ob,h1,h2.2.1⟩
section
variable {X:Cx}{pins:List (Addr×Obj)} {σ:St}{H:Hp}{s:Shared}{a:Addr}{y d:V}{u r:Value}{o:Option V}{A:Around}{E:Value→Shared→Prop}
theorem B9 {Q:Value→Shared→Prop} (hu:A.units + 1 < cLine) (I:Inv X pins σ H s) (g:jp H a y o) (ry:aW y u) (rd:aW d r) (h:∀ w' s',Inv X pins σ H s'→aW (o.getD d) w'→Q w' s') :
  wpAny (model X.prog X.w) A (call (.builtin "dict.get") [.ref a,u,r]) Q E s:=by
 rcases g with ⟨kvs,k,e,ey,l⟩ | ⟨kvs,k,b,e,ey,eb,l⟩
 ·subst ey
  obtain ⟨z,hd,vs,rel,dd⟩:=gr I.hok e
  refine call_meetsIn PySem.F.slot_dict_get dd.typeIs PySem.F.entry_dict_get (PySem.F.args_dict_get_3 _ _ _) (meets_dict_get_default (aL X.prog X.w) a (iI ry) hd r) ⟨_,dd.mapOf,h _ _ (I.tok _) ?_⟩
  rw [l]
  exact (rel.val k).getD rd
 ·subst ey
  cases (show u=Value.ref b from ry)
  obtain ⟨z,hd,xs,rel,dd⟩:=kW I.hok e
  refine call_meetsIn PySem.F.slot_dict_get dd.typeIs PySem.F.entry_dict_get (PySem.F.args_dict_get_3 _ _ _) (meetsH_dict_get_default (tupleKind (aL X.prog X.w)) a b hd r) ⟨tupleKind_room_in1 hu,k,xs,jd I.hok eb,dd,h _ _ (I.tok _) ?_⟩
  rw [l]
  exact (rel.val k).getD rd
end
noncomputable def AR (td ty tx:TE):TE:=fun σ H Q=>td σ H fun x H1=>∃ a,x=.ref a∧IsD H1 a∧ty σ H1 fun y H2=>tx σ H2 fun z H3=>∃ o,jp H3 a y o∧Q (o.getD z) H3
noncomputable def AO (td ty:TE):TE:=fun σ H Q=>td σ H fun x H1=>∃ a,x=.ref a∧IsD H1 a∧ty σ H1 fun y H2=>∃ kvs k v,H2 a=some (.dK kvs)∧y=kV k∧c6 kvs k=some v∧Q v (upd H2 a (.dK (e8 kvs k)))
section
variable {X:Cx}{o e f:Expr}{apos cpos:Pos}{td ty tx:TE}
theorem wI (hu:X.A.units + 1 < cLine) (ho:PE X o td) (he:PE X e ty) (hf:PE X f tx) (m:M2 X o "get" apos e f cpos):PE X (.Call (.Attribute o "get" apos) [e,f] [] cpos) (AR td ty tx):=by
 intro pins s σ H Q I h
 refine wpAny_Call_method m.base m.few m.line PySem.F.plainAttrs_dict PySem.F.slot_dict_get PySem.F.type_dict_get (thn (ho pins s σ H _ I h) fun u s1 zz62_0=>?_)
 obtain ⟨x,H1,I1,rx,a,ex,d,q1⟩:=zz62_0
 subst ex
 obtain rfl:u=Value.ref a:=rx
 obtain ⟨t1,t2,_⟩:=re I1 d
 refine ⟨t1,t2,?_⟩
 rw [m.trees]
 refine Calls.callWith_builtin rfl (Calls.evalArgs_plain (Calls.spliced_cons (thn (he pins s1 σ H1 _ I1 q1) fun iv s2 ⟨y,H2,I2,ry,q2⟩ =>
  Calls.spliced_cons (thn (hf pins s2 σ H2 _ I2 q2) fun fv s3 ⟨z,H3,I3,rz,ov,g,q3⟩=>Calls.spliced_nil ?_))))
 exact B9 hu I3 g ry rz fun w' s4 I4 rw'=>⟨_,H3,I4,rw',q3⟩
theorem wG (ho:PE X o td) (he:PE X e ty) (m:M1 X o "pop" apos e cpos):PE X (.Call (.Attribute o "pop" apos) [e] [] cpos) (AO td ty):=by
 intro pins s σ H Q I h
 refine wpAny_Call_method m.base m.few m.line PySem.F.plainAttrs_dict PySem.F.slot_dict_pop PySem.F.type_dict_pop (thn (ho pins s σ H _ I h) fun u s1 zz65_0=>?_)
 obtain ⟨x,H1,I1,rx,a,ex,d,q1⟩:=zz65_0
 subst ex
 obtain rfl:u=Value.ref a:=rx
 obtain ⟨t1,t2,_⟩:=re I1 d
 refine ⟨t1,t2,?_⟩
 rw [m.trees]
 refine Calls.callWith_builtin rfl (Calls.evalArgs_plain (Calls.spliced_cons (thn (he pins s1 σ H1 _ I1 q1) fun iv s2 ⟨y,H2,I2,ry,kvs,k,v,ea,ey,l,q2⟩=>Calls.spliced_nil ?_)))
 subst ey
 exact DD I2 ea ry l (.inl rfl) fun w' s3 I3 rw'=>⟨v,_,I3,rw',q2⟩
end
section
variable {κ:Type} [DecidableEq κ]
theorem yA {kvs:List (κ×V)} {k:κ}{v:V} (h:c6 kvs k=some v):k ∈ kvs.map (·.1):=by
 have q:(kvs.any fun kv=>decide (kv.1=k))=true:=by
  rw [ir,h]
  all_goals rfl
 obtain ⟨p,hp,e⟩:=List.any_eq_true.mp q
 exact List.mem_map.mpr ⟨p,hp,of_decide_eq_true e⟩
theorem ve {p:κ×V}{r:List (κ×V)} {k:κ} (e:p.1=k):e8 (p :: r) k=e8 r k:=by
 unfold e8
 rw [List.filter_cons,if_neg (by simp [e])]
theorem vf {p:κ×V}{r:List (κ×V)} {k:κ} (e:¬ p.1=k):e8 (p :: r) k=p :: e8 r k:=by
 unfold e8
 rw [List.filter_cons,if_pos (by simp [e])]
end
end L2
set_option maxHeartbeats 4000000
namespace L2
open PySem PySem.Spec PyProof.Rows
noncomputable def gW (env:Env):List (Str×NameKind)→List (Str×Addr)→List (Str×Addr)
 | [],acc=>acc
 | p :: r,acc=>gW env r (if p.2=NameKind.free then (p.1,(env.cells.lookup p.1).getD 0) :: acc else acc)
theorem kZ {env:Env} (body:Str×NameKind→List (Str×Addr)→Sem (ForInStep (List (Str×Addr))))
  (hb:∀ x cs,(x.2=NameKind.free→(env.cells.lookup x.1).isSome=true)→body x cs=pure (ForInStep.yield (if x.2=NameKind.free then (x.1,(env.cells.lookup x.1).getD 0) :: cs else cs))) :
  ∀ (l:List (Str×NameKind)) (acc:List (Str×Addr)),(∀ x ∈ l,x.2=NameKind.free→(env.cells.lookup x.1).isSome=true)→(forIn l acc body:Sem (List (Str×Addr)))=pure (gW env l acc)
 | [],acc,_=>by rw [List.forIn_nil]; rfl
 | x :: l,acc,h=>by
  rw [List.forIn_cons,hb x acc (h x List.mem_cons_self),pure_bind]
  exact kZ body hb l _ fun y hy=>h y (List.mem_cons_of_mem _ hy)
theorem tj {scope:Scope}{env:Env} (h:∀ x ∈ scope.names,x.2=NameKind.free→(env.cells.lookup x.1).isSome=true):closureFor scope env=pure (gW env scope.names []):=by
 simp only [closureFor]
 rw [kZ (env:=env) _ ?_ scope.names [] h]
 ·rfl
 ·intro x cs hx
  obtain ⟨n,k⟩:=x
  by_cases hk:k=NameKind.free
  ·subst hk
   obtain ⟨c,hc⟩:=Option.isSome_iff_exists.mp (hx rfl)
   have hc':env.cells.lookup n=some c:=hc
   simp [cellOf,hc']
  ·have e:(k == NameKind.free)=false:=by simpa using hk
   simp [e,hk]
theorem k6 {env:Env}:∀ (l:List (Str×NameKind)) (acc:List (Str×Addr)) (x:Str) (c:Addr),(∀ y ∈ l,y.2=NameKind.free→(env.cells.lookup y.1).isSome=true) →
  (gW env l acc).lookup x=some c→acc.lookup x=some c∨env.cells.lookup x=some c
 | [],acc,x,c,_,h=>.inl h
 | p :: l,acc,x,c,hs,h=>by
  rcases k6 l _ x c (fun y hy=>hs y (List.mem_cons_of_mem _ hy)) h with q | q
  ·by_cases hk:p.2=NameKind.free
   ·rw [if_pos hk,List.lookup_cons] at q
    cases hx:x == p.1 with
    | false=>rw [hx] at q; exact .inl q
    | true =>
     rw [hx] at q
     have ex:x=p.1:=by simpa using hx
     obtain ⟨c',hc⟩:=Option.isSome_iff_exists.mp (hs p List.mem_cons_self hk)
     rw [hc] at q
     right
     rw [ex,hc]
     exact q
   ·rw [if_neg hk] at q; exact .inl q
  ·exact .inr q
theorem k7 {env:Env}:∀ (l:List (Str×NameKind)) (acc:List (Str×Addr)) (x:Str),(acc.lookup x).isSome=true→((gW env l acc).lookup x).isSome=true
 | [],acc,x,h=>h
 | p :: l,acc,x,h=>by
  refine k7 l _ x ?_
  by_cases hk:p.2=NameKind.free
  ·rw [if_pos hk,List.lookup_cons]
   cases x == p.1
   ·exact h
   ·rfl
  ·rw [if_neg hk]; exact h
theorem ii {env:Env}:∀ (l:List (Str×NameKind)) (acc:List (Str×Addr)) (x:Str),(x,NameKind.free) ∈ l→((gW env l acc).lookup x).isSome=true
 | p :: l,acc,x,h=>by
  rcases List.mem_cons.mp h with e | h
  ·refine k7 l _ x ?_
   subst e
   simp [List.lookup_cons]
  ·exact ii l _ x h
theorem dD {env:Env}{x:Str}:∀ {l:List (Str×NameKind)},(l.map fun (p:Str×NameKind)=>match p with | (n,k)=>if (k == NameKind.free && env.scope.kind == .function && env.kindOf n == some .cell)=true then (n,NameKind.cell) else (n,k)).lookup x=some NameKind.local→l.lookup x=some NameKind.local
 | [],h=>by simp at h
 | (n,k) :: r,h=>by
  rw [Eo,List.lookup_cons] at h
  rw [List.lookup_cons]
  by_cases hc:(k == NameKind.free && env.scope.kind == .function && env.kindOf n == some .cell)=true
  ·simp only [hc,if_true] at h
   cases hx:x == n with
   | true=>rw [hx] at h; simp at h
   | false=>rw [hx] at h; exact dD h
  ·simp only [hc,Bool.false_eq_true,if_false] at h
   cases hx:x == n with
   | true=>rw [hx] at h; simpa using h
   | false=>rw [hx] at h; exact dD (by simpa using h)
theorem dC {env:Env}{x:Str}:∀ {l:List (Str×NameKind)},(∀ y ∈ l,y.2 ≠ NameKind.cell) →
    ((l.map fun (p:Str×NameKind)=>match p with | (n,k)=>if (k == NameKind.free && env.scope.kind == .function && env.kindOf n == some .cell)=true then (n,NameKind.cell) else (n,k)).lookup x=some NameKind.cell ∨
     (l.map fun (p:Str×NameKind)=>match p with | (n,k)=>if (k == NameKind.free && env.scope.kind == .function && env.kindOf n == some .cell)=true then (n,NameKind.cell) else (n,k)).lookup x=some NameKind.free)→(x,NameKind.free) ∈ l
  | [],_,h=>by simp at h
  | (n,k) :: r,hn,h=>by
    rw [Eo,List.lookup_cons] at h
    by_cases hc:(k == NameKind.free && env.scope.kind == .function && env.kindOf n == some .cell)=true
    · simp only [hc,if_true] at h
      have hk:k=NameKind.free:=by
        have:=(Bool.and_eq_true_iff.mp (Bool.and_eq_true_iff.mp hc).1).1
        simpa using this
      cases hx:x == n with
      | true =>
        have ex:x=n:=by simpa using hx
        rw [ex,hk]; exact List.mem_cons_self
      | false=>rw [hx] at h; exact List.mem_cons_of_mem _ (dC (fun y hy=>hn y (List.mem_cons_of_mem _ hy)) h)
    · simp only [hc,Bool.false_eq_true,if_false] at h
      cases hx:x == n with
      | true =>
        have ex:x=n:=by simpa using hx
        rw [hx] at h
        have h':k=NameKind.cell∨k=NameKind.free:=by simpa using h
        rcases h' with e | e
        · exact absurd e (hn (n,k) List.mem_cons_self)
        · rw [ex,e]; exact List.mem_cons_self
      | false=>rw [hx] at h; exact List.mem_cons_of_mem _ (dC (fun y hy=>hn y (List.mem_cons_of_mem _ hy)) (by simpa using h))
noncomputable def maskS (js:List Nat) (σ:St):St:=js.foldl (fun a j=>a.set j none) σ
theorem uJ (js:List Nat):∀ σ:St,(maskS js σ).length=σ.length:=by
 induction js with
 | nil=>intro σ; rfl
 | cons j r ih=>intro σ; show (maskS r (σ.set j none)).length=_; rw [ih,List.length_set]
theorem uK (js:List Nat):∀ (σ:St) (i:Nat) (v:V),(maskS js σ)[i]? = some (some v)→σ[i]? = some (some v)∧i ∉ js:=by
 induction js with
 | nil=>intro σ i v h; exact ⟨h,by simp⟩
 | cons j r ih =>
  intro σ i v h
  obtain ⟨h1,h2⟩:=ih (σ.set j none) i v h
  have nij:i ≠ j:=by
   rintro rfl
   rw [List.getElem?_set] at h1
   split at h1
   ·split at h1 <;> simp at h1
   ·contradiction
  rw [List.getElem?_set_ne (Ne.symm nij)] at h1
  exact ⟨h1,by simp [nij,h2]⟩
structure Blk (X:Cx) (scope:Scope) (js:List Nat):Prop where
 kind:scope.kind=.function
 nocell:∀ y ∈ scope.names,y.2 ≠ NameKind.cell
 names:∀ y ∈ scope.names,y.2=NameKind.local→scope.names.lookup y.1=some .local
 free:∀ y ∈ scope.names,y.2=NameKind.free→X.env.kindOf y.1=some .cell∨X.env.kindOf y.1=some .free
 own:∀ (i:Nat) x,X.N[i]? = some x→scope.names.lookup x=some .local→i ∈ js
noncomputable def bY (X:Cx) (scope:Scope) (C:Addr) (fp:List Addr) (s₂:Shared) (H₂:Hp):Cx :=
 { X with s₀:=s₂,H₀:=H₂,env:=compEnvC scope (gW X.env scope.names []) C X.env,outer:=X.stack,ex:=fp,fn:=fun _=>false,pn:=[],xe:=fun _ _=>False }
section
variable {X:Cx}{scope:Scope}{js:List Nat}{pins:List (Addr×Obj)} {σ:St}{H:Hp}{s:Shared}
theorem Blk.has (b:Blk X scope js) (ok:X.Ok):∀ y ∈ scope.names,y.2=NameKind.free→(X.env.cells.lookup y.1).isSome=true:=fun y hy hk=>by
 obtain ⟨c,e⟩:=ok.has y.1 (b.free y hy hk)
 rw [e]; rfl
theorem Blk.cell (b:Blk X scope js) (ok:X.Ok) {x:Str}{c:Addr} (h:(gW X.env scope.names []).lookup x=some c):X.env.cells.lookup x=some c:=by
 rcases k6 scope.names [] x c (b.has ok) h with q | q
 ·simp at q
 ·exact q
theorem Blk.start (b:Blk X scope js) (I:Inv X pins σ H s) {fp:List Addr} (hf:∀ a ∈ fp,gP X pins H a) {h₁:Heap}{tk:Nat} (hn:h₁.Ns s.heap.objs.size fun _=>none)
  (hk:∀ a o,s.heap.get? a=some o→h₁.get? a=some o) (hfs:∀ a ∈ fp,a < s.heap.objs.size):Inv (bY X scope s.heap.objs.size fp s H) [] (maskS js σ) H { s with heap:=h₁,toks:=tk }:=by
 have ok:=I.ok
 have hC:H s.heap.objs.size=none:=I.hok.fresh (Nat.le_refl _)
 refine ⟨⟨ok.mod,b.kind,ok.glob,ok.blt,Nat.le_refl _,fun x y c h1 h2=>ok.inj x y c (b.cell ok h1) (b.cell ok h2),fun x hx=>?_,fun x c hx _=>Bool.noConfusion hx,ok.hd,ok.frames,.inl rfl,fun a ha=>⟨Nat.ne_of_lt (hfs a ha),fun x c h=>(hf a ha).2.2.2.2.1 x c (b.cell ok h)⟩,
  I.bs,Nat.le_trans ok.bsz I.sz,fun a o e ha=>?_,fun a ha hx=>?_,I.stack,I.stkFree⟩,rfl,I.bare,Un.kept hk,⟨_,hn,fun i x v h1 h2 h3=>?_⟩,fun x c h=>?_,hC,fun x c h=>I.freeC x c (b.cell ok h),fun p hp=>absurd hp (by simp [bY]),I.hok.kept hk,?_⟩
 ·exact Option.isSome_iff_exists.mp (ii scope.names [] x (dC b.nocell hx))
 ·rcases (hf a ha).2.2.2.1 with q | q
  ·exact ok.noex a o e q
  ·exact absurd (Nat.lt_of_lt_of_le (Heap.lt_size e) (Nat.le_trans ok.bsz q)) (Nat.lt_irrefl _)
 ·rcases List.mem_cons.mp (I.stkSub a hx) with q | q
  ·exact (hf a ha).2.1 q
  ·exact (hf a ha).2.2.1 q
 ·obtain ⟨h2,h4⟩:=uK js σ i v h2
  have hfr:(x,NameKind.free) ∈ scope.names:=by
   rcases h3 with q | q
   ·exact absurd (b.own i x h1 (dD q)) h4
   ·exact dC b.nocell q
  obtain ⟨c,hc⟩:=Option.isSome_iff_exists.mp (ii (env:=X.env) scope.names [] x hfr)
  have hc':=b.cell ok hc
  have hv:=b.free _ hfr rfl
  obtain ⟨m,_,hl⟩:=I.loc
  obtain ⟨u,r,lk⟩:=hl i x v h1 h2 (.inr hv)
  refine ⟨u,r,.inr ⟨?_,c,hc,?_⟩⟩
  ·rcases h3 with q | q
   ·exact absurd (b.own i x h1 (dD q)) h4
   ·exact q
  ·rcases lk with ⟨z,_⟩ | ⟨_,c2,e2,o,ho,hd⟩
   ·have hv':X.env.kindOf x=some .cell∨X.env.kindOf x=some .free:=hv
    rw [z] at hv'
    rcases hv' with q | q <;> cases q
   ·rw [hc'] at e2
    cases e2
    exact ⟨o,hk _ _ ho,hd⟩
 ·obtain ⟨v,o,ho,hd⟩:=I.cell x c (b.cell ok h)
  exact ⟨v,o,hk _ _ ho,hd⟩
 ·rw [uJ]; exact I.len
theorem Blk.back (I:Inv X pins σ H s) {fp:List Addr} (hf:∀ a ∈ fp,gP X pins H a) {σ':St}{H':Hp}{s':Shared} (J:Inv (bY X scope s.heap.objs.size fp s H) [] σ' H' s') {h':Heap}
  (hs:Heap.SameBut s.heap.objs.size s'.heap h'):Inv X pins σ H' { s' with heap:=h' }:=by
 have hC:H' s.heap.objs.size=none:=J.free
 refine I.call' (ch:=fp) J.os ?_ ?_ J.bare fun a ha=>⟨(hf a ha).2.2.2.1,(hf a ha).2.1,(hf a ha).2.2.2.2.1,(hf a ha).2.2.2.2.2⟩
 ·have u:Un (frs X.stack) fp H H' s.heap s'.heap:=J.base
  have ne:∀ a o,s.heap.get? a=some o→a ≠ s.heap.objs.size:=fun a o e=>Nat.ne_of_lt (Heap.lt_size e)
  exact ⟨fun a o e n h1 h2=>hs.extBut a _ (ne a o e) (u.keep a o e n h1 h2),fun a o e n h1 h2=>(let ⟨sl,q⟩:=u.slot a o e n h1 h2; ⟨sl,hs.extBut a _ (ne a o e) q⟩),u.free,fun a o e h=>(let ⟨o',q⟩:=u.there a o e h; ⟨o',hs.extBut a _ (ne a o e) q⟩),u.tups,u.frzs,u.tbls⟩
 ·intro a o e
  refine (J.hok a o e).stay (fun b u hb q=>hs.extBut b u ?_ q) (fun _ q=>q) fun _ _ q=>q
  rintro rfl
  rcases hb with q | q
  ·rw [q,e] at hC; cases hC
  ·rw [q] at hC; cases hC
end
noncomputable def vS (js:List Nat) (wi:TI) (g:TG) (tc:TT) (te:TE):TE:=fun σ H Q=>wi σ H fun J H1=>∀ D,H1 D=none →
 ∃ W:Nat→Nat→St→Hp→Prop,(∃ m,W 0 m (maskS js σ) (upd H1 D (.lst [])))∧∀ i m σ' H',W i m σ' H' →
  (J.stop i H'∧Q (.ref D) H')∨(J.go i H'∧∀ x H2,J.yld i H' x H2→g x σ' H2 fun σ3 H3=>tc σ3 H3 fun c H4 =>
   if c=true then te σ3 H4 fun v H5=>∃ vs,H5 D=some (.lst vs)∧vs.length < sizeLine∧∃ m',m' < m∧W (i + 1) m' σ3 (upd H5 D (.lst (vs ++ [v]))) else ∃ m',m' < m∧W (i + 1) m' σ3 H4)
noncomputable def vx (X:Cx) (ifs:List Expr) (tc:TT):Prop :=
 ∀ (pins:List (Addr×Obj)) (s:Shared) (σ:St) (H:Hp) (Q:Bool→Hp→Prop),Inv X pins σ H s→tc σ H Q →
  wpAny (model X.prog X.w) X.A (forIn ifs true fun c r=>if r=true then do let ok ← isTrue c X.env (eval c X.env); pure (ForInStep.yield ok) else pure (ForInStep.yield r)) (TP X pins σ Q) X.xe s
noncomputable def Aj:TT:=fun _ H Q=>Q true H
theorem wv {X:Cx}:vx X [] Aj:=fun _ _ _ H _ I h=>wpAny_tests_nil ⟨H,I,h⟩
theorem wu {X:Cx}{c:Expr}{tc:TT} (h:PT X c tc):vx X [c] tc:=fun pins s σ H Q I q=>wpAny_tests_one (h pins s σ H Q I q)
theorem nU {prog:Program}{w:World}{A:Around}{R:Result→Shared→Prop}{s:Shared}{elt tg iter:Expr}{ifs:List Expr}{scope:Scope}{pos:Pos}{it acc:Value}{env:Env} (Iv:Nat→Shared→Prop)
  (turn:∀ n s,Iv n s→wpAny (model prog w) A (pyNext it) (fun r s1=>match r with
   | none=>R (.ok .next) s1
   | some v=>wpAny (model prog w) A (letOwnedTupleGo tg it v) (fun _ s2=>wpAny (model prog w) A (assign tg env v) (fun _ s3 =>
     wpAny (model prog w) A (forIn ifs true fun c r=>if r=true then do let ok ← isTrue c env (eval c env); pure (ForInStep.yield ok) else pure (ForInStep.yield r)) (fun ok s4 =>
      if ok=true then wpAny (model prog w) A (eval elt env) (fun x s5=>wpAny (model prog w) A (call (.builtin "list.append") [acc,x]) (fun _ s6=>∃ m,m < n∧Iv m s6) (fun _ _=>False) s5) (fun _ _=>False) s4
      else ∃ m,m < n∧Iv m s4) (fun _ _=>False) s3) (fun _ _=>False) s2) (fun _ _=>False) s1) (fun _ _=>False) s)
  (n:Nat) (h:Iv n s):codeAny (model prog w) A (.compLoop (.ListComp elt [⟨tg,iter,ifs,0⟩] scope pos) 0 it acc env) R s:=by
 refine codeAny_loop rfl Iv (fun k t hI=>?_) n h
 show wpAny _ A ((compTurn (.ListComp elt [⟨tg,iter,ifs,0⟩] scope pos) 0 it acc env).onRaise _) _ _ t
 refine wpAny_noted ?_
 rw [compTurn_list]
 have no:∀ {E:Value→Shared→Prop} (e:Value) (z:Shared),(fun (_:Value) (_:Shared)=>False) e z→E e z:=fun _ _ f=>f.elim
 refine wpAny_bind (wpAny_standAt (wpAny_bind (wpAny_mono (turn k t hI) (fun r s1 q1=>?_) no)))
 cases r with
 | none=>exact wpAny_pure q1
 | some v =>
  refine wpAny_bind (wpAny_mono q1 (fun _ s2 q2=>?_) no)
  refine wpAny_bind (wpAny_mono q2 (fun _ s3 q3=>?_) no)
  refine wpAny_bind (wpAny_mono q3 (fun ok s4 q4=>?_) no)
  cases ok with
  | false=>exact wpAny_pure ⟨rfl,by simpa using q4⟩
  | true =>
   have q4':=q4
   simp only [if_true] at q4'
   refine wpAny_bind (wpAny_bind (wpAny_mono q4' (fun x s5 q5=>?_) no))
   exact wpAny_bind (wpAny_mono q5 (fun _ s6 q6=>wpAny_pure (wpAny_pure ⟨rfl,q6⟩)) no)
section
variable {X:Cx}{scope:Scope}{js:List Nat}{elt tg iter:Expr}{ifs:List Expr}{pos:Pos}{wi:TI}{g:TG}{tc:TT}{te:TE}
theorem tq (b:Blk X scope js) (hc:X.calm=true) {pins:List (Addr×Obj)} {σ:St}{H2:Hp}{s2:Shared}{Q:VK}{it:Addr}{fp:List Addr}{tn:Nat→Heap→Prop}{J:It}
  (I2:Inv X pins σ H2 s2) (T:lD X.prog X.w X.K tg J fp it tn) (st:tn 0 s2.heap) (hf:∀ a ∈ fp,gP X pins H2 a)
  (hg:∀ C fp s0 H0,PG (bY X scope C fp s0 H0) tg g) (hi:∀ C fp s0 H0,vx (bY X scope C fp s0 H0) ifs tc) (he:∀ C fp s0 H0,PE (bY X scope C fp s0 H0) elt te)
  (hq:∀ D,H2 D=none→∃ W:Nat→Nat→St→Hp→Prop,(∃ m,W 0 m (maskS js σ) (upd H2 D (.lst [])))∧∀ i m σ' H',W i m σ' H' →
   (J.stop i H'∧Q (.ref D) H')∨(J.go i H'∧∀ x H3,J.yld i H' x H3→g x σ' H3 fun σ3 H3=>tc σ3 H3 fun c H4 =>
    if c=true then te σ3 H4 fun v H5=>∃ vs,H5 D=some (.lst vs)∧vs.length < sizeLine∧∃ m',m' < m∧W (i + 1) m' σ3 (upd H5 D (.lst (vs ++ [v]))) else ∃ m',m' < m∧W (i + 1) m' σ3 H4))
  {E:Value→Shared→Prop}{RR:Value→Addr→Result→Shared→Prop}
  (hR:∀ (D C:Addr) (s3:Shared) (H3:Hp) (σ':St) (H':Hp) (s':Shared),C=s3.heap.objs.size→Inv X pins σ H3 s3→(∀ a ∈ fp,gP X pins H3 a)→Inv (bY X scope C fp s3 H3) [] σ' H' s'→Q (.ref D) H'→RR (.ref D) C (.ok .next) s') :
  wpAny (model X.prog X.w) X.A (newList []) (fun acc s3=>wpAny (model X.prog X.w) X.A (newFunctionEnv scope X.env.globals (gW X.env scope.names []) [] X.env.qual none .none (some X.env)) (fun cenv s4 =>
   codeAny (model X.prog X.w) X.A (.compStart (.ListComp elt [⟨tg,iter,ifs,0⟩] scope pos) 0 (.ref it) acc { cenv with scope:=relabel scope X.env }) (RR acc cenv.locals) s4) E s3) E s2:=by
 refine wpAny_newObj_type ?_
 have hD:H2 s2.heap.objs.size=none:=I2.hok.fresh (Nat.le_refl _)
 have I3:=I2.lnew (ys:=[]) (its:=[]) (t':=s2.toks) .nil (Nat.zero_le _)
 obtain ⟨W,⟨m0,w0⟩,turn⟩:=hq _ hD
 have fpLt:∀ a ∈ fp,a < s2.heap.objs.size:=fun a ha=>by
  obtain ⟨o,e,_⟩:=T.obj _ _ st a ha
  exact Heap.lt_size e
 generalize hs3:({ s2 with heap:=s2.heap.push { cls:=.type "list",dict:=none,data:=.seq ([]:List Value).toArray } }:Shared)=s3
 have I3':Inv X pins σ (upd H2 s2.heap.objs.size (.lst [])) s3:=by rw [← hs3]; exact I3
 have st3:tn 0 s3.heap:=T.keep _ _ _ st fun a _ o e=>by rw [← hs3]; exact Heap.get?_push_of_some _ e
 have sz3:s3.heap.objs.size=s2.heap.objs.size + 1:=by rw [← hs3]; exact Heap.size_push ..
 have hf3:∀ a ∈ fp,gP X pins (upd H2 s2.heap.objs.size (.lst [])) a:=fun a ha=>⟨by rw [ah (Nat.ne_of_lt (fpLt a ha))]; exact (hf a ha).1,(hf a ha).2⟩
 refine wpAny_newFunctionEnv b.nocell (by intro y hy; simp at hy) (fun h₁ hns hsb=>?_) b.kind
 have keep:∀ a o,s3.heap.get? a=some o→h₁.get? a=some o:=fun a o e=>hsb.extBut a o (Nat.ne_of_lt (Heap.lt_size e)) (Heap.get?_push_of_some _ e)
 have J0:=b.start I3' hf3 (tk:=s3.toks + ([]:List (Str×Value)).length) (by simpa using hns) keep fun a ha=>by rw [sz3]; exact Nat.lt_succ_of_lt (fpLt a ha)
 have st4:tn 0 h₁:=T.keep _ _ _ st3 fun a _ o e=>keep a o e
 have loop:∀ s4:Shared,s4={ s3 with heap:=h₁,toks:=s3.toks + ([]:List (Str×Value)).length }→codeAny (model X.prog X.w) X.A (.compLoop (.ListComp elt [⟨tg,iter,ifs,0⟩] scope pos) 0 (.ref it) (.ref s2.heap.objs.size) (compEnvC scope (gW X.env scope.names []) s3.heap.objs.size X.env))
   (RR (.ref s2.heap.objs.size) s3.heap.objs.size) s4:=by
  rintro s4 rfl
  refine nU (fun n t=>∃ i σ' H',Inv (bY X scope s3.heap.objs.size fp s3 (upd H2 s2.heap.objs.size (.lst []))) [] σ' H' t∧tn i t.heap∧(∀ a ∈ fp,H' a=none)∧W i n σ' H') ?_ m0 ⟨0,_,_,J0,st4,fun a ha=>(hf3 a ha).1,w0⟩
  rintro n t ⟨i,σ',H',J1,st',fr,w'⟩
  have stat:∀ {H':Hp},(∀ a ∈ fp,H' a=none)→∀ a ∈ fp,gP (bY X scope s3.heap.objs.size fp s3 (upd H2 s2.heap.objs.size (.lst []))) [] H' a:=fun hn a ha =>
   ⟨hn a ha,Nat.ne_of_lt (by rw [sz3]; exact Nat.lt_succ_of_lt (fpLt a ha)),fun hx=>(by
    rcases List.mem_cons.mp (I2.stkSub a hx) with q | q
    ·exact (hf a ha).2.1 q
    ·exact (hf a ha).2.2.1 q),.inl ha,fun x c h=>(hf a ha).2.2.2.2.1 x c (b.cell I2.ok h),fun p hp=>absurd hp (by simp [bY])⟩
  rcases turn i n σ' H' w' with ⟨stop,qn⟩ | ⟨go,step⟩
  ·refine thn (T.done (bY X scope s3.heap.objs.size fp s3 (upd H2 s2.heap.objs.size (.lst []))) rfl rfl rfl hc i [] t σ' H' _ J1 (stat fr) st' stop) fun r t1 zz67_0=>?_
   obtain ⟨hr,J2⟩:=zz67_0
   subst hr
   exact hR _ _ s3 _ σ' H' t1 rfl I3' hf3 J2 qn
  ·refine thn (T.item (bY X scope s3.heap.objs.size fp s3 (upd H2 s2.heap.objs.size (.lst []))) rfl rfl rfl hc i [] t σ' H' _ J1 (stat fr) st' go) fun r t1 zz68_0=>?_
   obtain ⟨u,hr,q1⟩:=zz68_0
   subst hr
   refine thn q1 fun _ t2 zz69_0=>?_
   obtain ⟨x,H3,J3,r3,y3,st3',fr3⟩:=zz69_0
   have J3':=J3.pinned (stat fr3) (T.obj _ _ st3')
   have again:∀ {σ7:St}{H7:Hp}{t7:Shared},Inv (bY X scope s3.heap.objs.size fp s3 (upd H2 s2.heap.objs.size (.lst []))) ([] ++ kr fp t2.heap) σ7 H7 t7→(∃ m',m' < n∧W (i + 1) m' σ7 H7) →
     ∃ m,m < n∧∃ i σ' H',Inv (bY X scope s3.heap.objs.size fp s3 (upd H2 s2.heap.objs.size (.lst []))) [] σ' H' t7∧tn i t7.heap∧(∀ a ∈ fp,H' a=none)∧W i m σ' H':=fun {σ7 H7 t7} J7 w7=>by
    obtain ⟨m',hm,w7⟩:=w7
    refine ⟨m',hm,i + 1,σ7,H7,J7.unpinned,T.keep _ _ _ st3' fun a ha o e=>(J7.pin (a,o) (List.mem_append_right _ (List.mem_append_right _ (fD ha e)))).1,fun a ha=>?_,w7⟩
    obtain ⟨o,e,_⟩:=T.obj _ _ st3' a ha
    exact (J7.pin (a,o) (List.mem_append_right _ (List.mem_append_right _ (fD ha e)))).2.1
   refine thn (hg _ _ _ _ _ t2 σ' H3 x u _ J3' r3 (step x H3 y3)) fun _ t3 zz70_0=>?_
   obtain ⟨σ4,H4,J4,q4⟩:=zz70_0
   refine thn (hi _ _ _ _ _ t3 σ4 H4 _ J4 q4) fun ok t4 zz71_0=>?_
   obtain ⟨H5,J5,q5⟩:=zz71_0
   cases ok with
   | false=>exact again J5 (by simpa using q5)
   | true =>
    simp only [if_true] at q5 ⊢
    refine thn (he _ _ _ _ _ t4 σ4 H5 _ J5 q5) fun y t5 zz72_0=>?_
    obtain ⟨v,H6,J6,r6,vs,hl,hz,q6⟩:=zz72_0
    refine thn (jb _ t5 σ4 H6 (.ref s2.heap.objs.size) [v] (.ref s2.heap.objs.size) [y] (fun _ H7=>∃ m',m' < n∧W (i + 1) m' σ4 H7) J6 rfl (.cons r6 .nil) ⟨_,vs,v,rfl,rfl,hl,hz,q6⟩) fun _ t6 zz73_0=>?_
    obtain ⟨_,H7,J7,_,q7⟩:=zz73_0
    exact again J7 q7
 refine codeAny_compStart_list (loop _ rfl) (T.self _ 0 _ _ _ st4 (loop _ rfl))
theorem zg (b:Blk X scope js) (hc:X.calm=true) (hI:PI X tg iter wi)
  (hg:∀ C fp s0 H0,PG (bY X scope C fp s0 H0) tg g) (hi:∀ C fp s0 H0,vx (bY X scope C fp s0 H0) ifs tc) (he:∀ C fp s0 H0,PE (bY X scope C fp s0 H0) elt te)
  (hs:∀ x,foldedSetIterable iter X.env x=pure x:=by intro _; rfl):PE X (.ListComp elt [⟨tg,iter,ifs,0⟩] scope pos) (vS js wi g tc te):=by
 intro pins s σ H Q I h
 rw [eval_ListComp]
 refine wpAny_comprehension_free (use:=none) rfl hs (tj (b.has I.ok)) b.kind b.names (thn (hI pins s σ H _ I h) fun v s1 q1=>thn q1 fun itv s2 q2=>?_)
 obtain ⟨it,fp,tn,J,H2,rfl,I2,T,st,hf,hq⟩:=q2
 refine tq b hc I2 T st hf hg hi he hq fun D C s3 H3 σ' H' s' hC I3 hf3 J3 q3=>?_
 subst hC
 obtain ⟨m,hn,_⟩:=J3.loc
 exact ⟨m,hn,fun h' hs'=>⟨.ref D,H',Blk.back I3 hf3 J3 hs',rfl,q3⟩⟩
theorem yY {i:Nat}{x:Str}{px:Pos}{spos:Pos} (hN:X.N.Nodup) (hix:X.N[i]? = some x) (hx:Loc X.env.scope x) (b:Blk X scope js) (hc:X.calm=true) (hI:PI X tg iter wi)
  (hg:∀ C fp s0 H0,PG (bY X scope C fp s0 H0) tg g) (hi:∀ C fp s0 H0,vx (bY X scope C fp s0 H0) ifs tc) (he:∀ C fp s0 H0,PE (bY X scope C fp s0 H0) elt te)
  (hsw:swapsWith (.ListComp elt [⟨tg,iter,ifs,0⟩] scope pos) (some (.Name x px)) spos.line X.env=pure true)
  (hfn:X.fn x=true∨X.env.scope.names.lookup x=some .local:=by first | exact .inl rfl | exact .inr rfl | assumption) (hs:∀ x,foldedSetIterable iter X.env x=pure x:=by intro _; rfl) :
  PS X (.Assign [.Name x px] (.ListComp elt [⟨tg,iter,ifs,0⟩] scope pos) spos) (vU (vS js wi g tc te) (ms i)):=by
 intro pins s σ H D I h
 rw [exec_Assign_Name_used _ _ _ _ hsw]
 refine wpAny_bind (wpAny_standAt (wpAny_bind ?_))
 show wpAny _ _ (do let _ ← comprehension (.ListComp elt [⟨tg,iter,ifs,0⟩] scope pos) scope X.env _ (newList []) false (eval iter X.env) (some (assign (.Name x px) X.env))) _ _ s
 refine wpAny_bind (wpAny_mono (wpAny_comprehension_free (use:=some (assign (.Name x px) X.env)) (Q:=fun _ s'=>SP X pins D .next s') rfl hs (tj (b.has I.ok)) b.kind b.names
  (thn (hI pins s σ H _ I h) fun v s1 q1=>thn q1 fun itv s2 q2=>?_)) (fun _ s' q=>wpAny_pure (wpAny_pure q)) fun _ _ e=>e)
 obtain ⟨it,fp,tn,J,H2,rfl,I2,T,st,hf,hq⟩:=q2
 refine tq (Q:=fun y H1=>ms i y σ H1 D.nx) b hc I2 T st hf hg hi he hq fun A C s3 H3 σ' H' s' hC I3 hf3 J3 q3=>?_
 subst hC
 obtain ⟨m,hn,_⟩:=J3.loc
 obtain ⟨oC,es,ep,hoC,hdC,hrC⟩:=id hn
 have hJf:H' s3.heap.objs.size=none:=J3.free
 have I4:Inv X pins σ H' s':=Blk.back I3 hf3 J3 (Heap.SameBut.refl _ _)
 have neL:s3.heap.objs.size ≠ X.env.locals:=Nat.ne_of_gt I3.lt
 have nfs:s3.heap.objs.size ∉ X.fs:=I3.nofs (Nat.le_refl _)
 have ncell:∀ y c,X.env.cells.lookup y=some c→c ≠ s3.heap.objs.size:=fun y c e z=>by
  obtain ⟨v,o,ho,_⟩:=I3.cell y c e
  rw [z] at ho
  exact absurd (Heap.lt_size ho) (Nat.lt_irrefl _)
 have npin:∀ p ∈ X.pn ++ pins,p.1 ≠ s3.heap.objs.size:=fun p hp z=>by
  have ho:=(I3.pin p hp).1
  rw [z] at ho
  exact absurd (Heap.lt_size ho) (Nat.lt_irrefl _)
 have I5:Inv X (pins ++ [(s3.heap.objs.size,oC)]) σ H' s':=I4.pins_of fun p hp=>(List.mem_append.mp hp).elim (fun z=>I4.pin p (List.mem_append_right _ z)) fun z=>by
  have e:p=(s3.heap.objs.size,oC):=by simpa using z
  subst e
  exact ⟨hoC,hJf,neL,nfs,fun v z=>by rw [hdC] at z; cases z⟩
 show wpAny _ _ (assign (.Name x px) X.env (.ref A)) _ _ s'
 refine wpAny_assign_Name (iy (i:=i) (v:=.ref A) I5 hN hix hx rfl (fun s5 I6=>?_) hfn)
 obtain ⟨p1,p2,_⟩:=I6.pin (s3.heap.objs.size,oC) (List.mem_append_right _ (List.mem_append_right _ (by simp)))
 refine ⟨m,⟨oC,es,ep,p1,hdC,hrC⟩,fun h' hs'=>?_⟩
 have I7:Inv X pins (σ.set i (some (.ref A))) H' { s5 with heap:=h',toks:=s5.toks }:=Inv.turned (it:=s3.heap.objs.size) I6.unpinned (fun a o ha e=>hs'.extBut a o ha e) p2 neL (.inr (Nat.le_trans I3.sz (Nat.le_refl _))) ncell npin
 exact ⟨_,H',I7,q3⟩
end
end L2
namespace L2.Cu
open PySem PySem.Spec PyProof.Rows
inductive D where
 | non | bl (b:Bool) | int (i:Int) | str (x:Str) | tup (xs:List D) | lst (xs:List D) | dic (kvs:List (Key×D)) | scr (ns:List Int)
mutual
inductive Rep (F:Hp):V→D→Prop
 | non:Rep F .non .non
 | bl (b:Bool):Rep F (.bl b) (.bl b)
 | int (i:Int):Rep F (.int i) (.int i)
 | str (x:Str):Rep F (.str x) (.str x)
 | tup {a:Addr}{vs:List V}{ds:List D}:F a=some (.tup vs)→Reps F vs ds→Rep F (.ref a) (.tup ds)
 | lst {a:Addr}{vs:List V}{ds:List D}:F a=some (.lst vs)→Reps F vs ds→Rep F (.ref a) (.lst ds)
 | dic {a:Addr}{ob:Obj}{vs:List (Key×V)} {ds:List (Key×D)}:F a=some (.frz ob (.dK vs))→RepK F vs ds→Rep F (.ref a) (.dic ds)
 | scr {a:Addr}{o:Obj}{ns:List Int}:F a=some (.frz o (.lst (ns.map V.int)))→Rep F (.ref a) (.scr ns)
inductive Reps (F:Hp):List V→List D→Prop
 | nil:Reps F [] []
 | cons {v:V}{d:D}{vs:List V}{ds:List D}:Rep F v d→Reps F vs ds→Reps F (v :: vs) (d :: ds)
inductive RepK (F:Hp):List (Key×V)→List (Key×D)→Prop
 | nil:RepK F [] []
 | cons {k:Key}{v:V}{d:D}{vs:List (Key×V)} {ds:List (Key×D)}:Rep F v d→RepK F vs ds→RepK F ((k,v) :: vs) ((k,d) :: ds)
end
section
variable {F F':Hp}
mutual
theorem Rep.mono (h:∀ a o,F a=some o→F' a=some o):∀ {v:V}{d:D},Rep F v d→Rep F' v d
 := fun r=>by
  cases r with
  | non=>exact .non
  | bl b=>exact .bl b
  | int i=>exact .int i
  | str x=>exact .str x
  | tup e r=>exact .tup (h _ _ e) (Reps.mono h r)
  | lst e r=>exact .lst (h _ _ e) (Reps.mono h r)
  | dic e r=>exact .dic (h _ _ e) (RepK.mono h r)
  | scr e=>exact .scr (h _ _ e)
theorem Reps.mono (h:∀ a o,F a=some o→F' a=some o):∀ {vs:List V}{ds:List D},Reps F vs ds→Reps F' vs ds:=fun r=>by
 cases r with
 | nil=>exact .nil
 | cons r t=>exact .cons (Rep.mono h r) (Reps.mono h t)
theorem RepK.mono (h:∀ a o,F a=some o→F' a=some o):∀ {vs:List (Key×V)} {ds:List (Key×D)},RepK F vs ds→RepK F' vs ds
 := fun r=>by
  cases r with
  | nil=>exact .nil
  | cons r t=>exact .cons (Rep.mono h r) (RepK.mono h t)
end
theorem Reps.c1 {vs:List V}{d:D}{ds:List D} (r:Reps F vs (d :: ds)):∃ v ws,vs=v :: ws∧Rep F v d∧Reps F ws ds:=by
 cases r with
 | cons a b=>exact ⟨_,_,rfl,a,b⟩
theorem Reps.c0 {vs:List V} (r:Reps F vs []):vs=[]:=by
 cases r
 rfl
theorem Reps.length:∀ {vs:List V}{ds:List D},Reps F vs ds→vs.length=ds.length:=fun r=>by
 cases r with
 | nil=>rfl
 | cons _ t=>exact congrArg Nat.succ (Reps.length t)
theorem Reps.append:∀ {vs ws:List V}{ds es:List D},Reps F vs ds→Reps F ws es→Reps F (vs ++ ws) (ds ++ es)
 := fun r s=>by
  cases r with
  | nil=>exact s
  | cons r t=>exact .cons r (Reps.append t s)
theorem Reps.get:∀ {vs:List V}{ds:List D}{i:Nat}{d:D},Reps F vs ds→ds[i]? = some d→∃ v,vs[i]? = some v∧Rep F v d
 := fun {vs ds i d} r e=>by
  cases r with
  | nil=>cases e
  | cons r t =>
   cases i with
   | zero=>cases e; exact ⟨_,rfl,r⟩
   | succ i=>exact Reps.get (i:=i) t e
theorem Reps.drop:∀ {vs:List V}{ds:List D} (n:Nat),Reps F vs ds→Reps F (vs.drop n) (ds.drop n)
 := fun n r=>by
  cases n with
  | zero=>exact r
  | succ n =>
   cases r with
   | nil=>exact .nil
   | cons _ t=>exact Reps.drop n t
theorem Reps.take:∀ {vs:List V}{ds:List D} (n:Nat),Reps F vs ds→Reps F (vs.take n) (ds.take n)
 := fun n r=>by
  cases n with
  | zero=>exact .nil
  | succ n =>
   cases r with
   | nil=>exact .nil
   | cons r t=>exact .cons r (Reps.take n t)
theorem Reps.reverse {vs:List V}{ds:List D} (h:Reps F vs ds):Reps F vs.reverse ds.reverse:=by
 induction vs generalizing ds with
 | nil=>cases h; exact .nil
 | cons v vs ih =>
  cases h with
  | cons r t=>rw [List.reverse_cons,List.reverse_cons]; exact (ih t).append (.cons r .nil)
theorem Reps.ints:∀ (ns:List Int),Reps F (ns.map V.int) (ns.map D.int)
 | []=>.nil
 | n :: ns=>.cons (.int n) (Reps.ints ns)
theorem Reps.bls:∀ {vs:List V}{bs:List Bool},Reps F vs (bs.map D.bl)→vs=bs.map V.bl
 := fun {vs bs} r=>by
  cases bs with
  | nil=>cases r; rfl
  | cons b bs =>
   cases r with
   | cons r t=>cases r; rw [Reps.bls t]; rfl
end
inductive FS where
 | v (d:D) | l (d:D)
structure OSt where
 C:Addr
 ia:Option Addr
 fs:List (Str×FS)
inductive Sl where
 | no | val (d:D) | own (d:D) | obj (s:OSt) | rob (s:OSt)
noncomputable abbrev DE:=List Sl
noncomputable def fP (F:Hp):HO→D→Prop
 | .lst vs,.lst ds=>Reps F vs ds
 | .dK vs,.dic ds=>RepK F vs ds
 | _,_=>False
theorem fP.mono {F F':Hp} (h:∀ a o,F a=some o→F' a=some o) {o:HO}{d:D} (r:fP F o d):fP F' o d:=by
 cases o <;> cases d <;> first | exact Reps.mono h r | exact RepK.mono h r | exact r
noncomputable def fzO (ob:Obj):HO→HO
 | .dK vs=>.frz ob (.dK vs)
 | o=>o
theorem fP.rep {F:Hp}{a:Addr}{ob:Obj}{o:HO}{d:D} (r:fP F o d) (h:F a=some (fzO ob o)):Rep F (.ref a) d:=by
 cases o <;> cases d <;> first | exact .lst h r | exact .dic h r | exact False.elim r
theorem AK {H:Hp}{a:Addr}{o:HO} (h:H a=some o):upd H a o=H:=by
 funext b
 by_cases hb:b=a
 ·subst hb; rw [ap,h]
 ·rw [ah hb]
theorem xu {X:Cx}{pins:List (Addr×Obj)} {σ:St}{H:Hp}{s:Shared}{a:Addr}{o:HO} (I:Inv X pins σ H s) (e:H a=some o):∃ ob,Inv X pins σ (upd H a (fzO ob o)) s:=by
 cases o with
 | dK vs =>
  have z:=I.hok a _ e
  obtain ⟨h1,h2,us,h3,h4⟩:=id z
  obtain ⟨ob,es,ep,h5,h6⟩:=id h4
  exact ⟨ob,I.write (t':=s.toks) (x:=a) (e:=a) (h':=s.heap) (by rw [e]; exact trivial) (.inl rfl) (fun _ _ _ q=>q) ⟨ob,h5⟩ ⟨h5,h1,h2,us,h3,h4⟩⟩
 | _=>exact ⟨default,by
   unfold fzO
   rw [AK e]; exact I⟩
inductive gz (F H:Hp):List (Str×V)→List (Str×FS)→List Addr→Prop
 | nil:gz F H [] [] []
 | val {f:Str}{v:V}{d:D}{vs:List (Str×V)} {xs:List (Str×FS)} {ps:List Addr}:Rep F v d→gz F H vs xs ps→gz F H ((f,v) :: vs) ((f,.v d) :: xs) ps
 | own {f:Str}{p:Addr}{o:HO}{d:D}{vs:List (Str×V)} {xs:List (Str×FS)} {ps:List Addr}:H p=some o→fP F o d→gz F H vs xs ps→gz F H ((f,.ref p) :: vs) ((f,.l d) :: xs) (p :: ps)
noncomputable def ld (F H:Hp) (s:OSt) (fp:List Addr):Prop:=∃ a ps dx fs,fp=a :: ps∧(∀ b,s.ia=some b→a=b)∧H a=some (.ins s.C dx fs)∧gz F H fs s.fs ps
theorem gz.move {F H F' H':Hp} (hf:∀ a o,F a=some o→F' a=some o):∀ {vs:List (Str×V)} {xs:List (Str×FS)} {ps:List Addr},gz F H vs xs ps→(∀ p ∈ ps,∀ o,H p=some o→H' p=some o)→gz F' H' vs xs ps
 := fun r=>by
  induction r with
  | nil=>exact fun _=>.nil
  | val r t ih=>exact fun h=>.val (Rep.mono hf r) (ih h)
  | own e r t ih=>exact fun h=>.own (h _ List.mem_cons_self _ e) (r.mono hf) (ih fun q hq=>h q (List.mem_cons_of_mem _ hq))
theorem gz.dom {F H:Hp}:∀ {vs:List (Str×V)} {xs:List (Str×FS)} {ps:List Addr},gz F H vs xs ps→∀ p ∈ ps,H p ≠ none
 := fun r=>by
  induction r with
  | nil=>exact fun p h=>nomatch h
  | val r t ih=>exact ih
  | own e r t ih=>exact fun p h=>(List.mem_cons.mp h).elim (fun z q=>by rw [z,e] at q; cases q) (ih p)
theorem ld.move {F H F' H':Hp}{s:OSt}{fp:List Addr} (hf:∀ a o,F a=some o→F' a=some o) (h:∀ p ∈ fp,∀ o,H p=some o→H' p=some o) (r:ld F H s fp):ld F' H' s fp:=by
 obtain ⟨a,ps,dx,fs,rfl,h0,h1,h2⟩:=r
 exact ⟨a,ps,dx,fs,rfl,h0,h a List.mem_cons_self _ h1,h2.move hf fun p hp=>h p (List.mem_cons_of_mem _ hp)⟩
theorem ld.dom {F H:Hp}{s:OSt}{fp:List Addr} (r:ld F H s fp):∀ p ∈ fp,H p ≠ none:=by
 obtain ⟨a,ps,dx,fs,rfl,h0,h1,h2⟩:=r
 intro p hp
 rcases List.mem_cons.mp hp with z | z
 ·rw [z,h1]; simp
 ·exact h2.dom p z
structure Ext (F H F' H':Hp):Prop where
 same:∀ a o,H a=some o→H' a=some o
 fr:∀ a o,F a=some o→F' a=some o
 sub:∀ a o,F' a=some o→H' a=some o
 new:∀ a,F a=none→H a ≠ none→F' a=none
theorem Ext.refl {F H:Hp} (h:∀ a o,F a=some o→H a=some o):Ext F H F H:=⟨fun _ _ e=>e,fun _ _ e=>e,h,fun _ e _=>e⟩
theorem Ext.trans {F H F1 H1 F2 H2:Hp} (a:Ext F H F1 H1) (b:Ext F1 H1 F2 H2):Ext F H F2 H2 :=
 ⟨fun c o e=>b.same c o (a.same c o e),fun c o e=>b.fr c o (a.fr c o e),b.sub,fun c e n=>b.new c (a.new c e n) fun z=>n (by
  cases q:H c with
  | none=>rfl
  | some o=>rw [a.same c o q] at z; cases z)⟩
theorem Ext.freeze {F H:Hp}{p:Addr}{o:HO} (h:∀ a o,F a=some o→H a=some o) (hp:H p=none):Ext F H (upd F p o) (upd H p o) where
 same:=fun a u e=>by rw [ah (bG e hp)]; exact e
 fr:=fun a u e=>by rw [ah (bG (h a u e) hp)]; exact e
 sub:=fun a u e=>by
  by_cases ha:a=p
  ·subst ha; rw [ap] at e ⊢; exact e
  ·rw [ah ha] at e ⊢; exact h a u e
 new:=fun a e n=>by
  have ha:a ≠ p:=fun z=>n (by rw [z]; exact hp)
  rw [ah ha]; exact e
theorem Ext.lay {F H:Hp}{p:Addr}{o:HO} (h:∀ a o,F a=some o→H a=some o) (hp:H p=none):Ext F H F (upd H p o) where
 same:=fun a u e=>by rw [ah (bG e hp)]; exact e
 fr:=fun _ _ e=>e
 sub:=fun a u e=>by rw [ah (bG (h a u e) hp)]; exact h a u e
 new:=fun _ e _=>e
theorem Ext.nofree {F H F' H':Hp} (x:Ext F H F' H') {p:Addr} (h:H' p=none):H p=none:=by
 cases q:H p with
 | none=>rfl
 | some o=>rw [x.same p o q] at h; cases h
theorem nofr {F H:Hp} (h:∀ a o,F a=some o→H a=some o) {p:Addr} (hp:H p=none):F p=none:=by
 cases q:F p with
 | none=>rfl
 | some o=>rw [h p o q] at hp; cases hp
structure OkF (fp:Nat→List Addr) (B:Hp×Hp) (F H:Hp) (σ:St) (E:DE):Prop where
 at_:∀ (i:Nat) s,E[i]? = some (.obj s)→(∃ a,(fp i).head? = some a∧σ[i]? = some (some (.ref a)))∧ld F H s (fp i)∧(fp i).Nodup∧∀ x ∈ fp i,F x=none∧B.2 x=none
 sep:∀ (i j:Nat) s d b,E[i]? = some (.obj s)→E[j]? = some (.own d)→σ[j]? = some (some (.ref b))→b ∉ fp i
 two:∀ (i j:Nat) s t,i ≠ j→E[i]? = some (.obj s)→E[j]? = some (.obj t)→∀ x ∈ fp i,x ∉ fp j
 rob:∀ (i:Nat) s,E[i]? = some (.rob s)→(∃ a ps,σ[i]? = some (some (.ref a))∧ld F F s (a :: ps))∨(s.fs=[]∧∃ a,s.ia=some a∧σ[i]? = some (some (.ref a)))
noncomputable def DK (B:Hp×Hp) (F H:Hp) (σ:St) (E:DE):Prop:=∃ fp,OkF fp B F H σ E
theorem OkF.to {fp:Nat→List Addr}{B B':Hp×Hp}{F H F' H':Hp} {σ σ':St}{E E':DE} (k:OkF fp B F H σ E) (hf:∀ a o,F a=some o→F' a=some o) (ho:∀ (i:Nat) s,E'[i]? = some (.obj s)→E[i]? = some (.obj s)∧σ'[i]? = σ[i]?)
  (hr:∀ (i:Nat) s,E'[i]? = some (.rob s)→E[i]? = some (.rob s)∧σ'[i]? = σ[i]?)
  (hp:∀ (i:Nat) s,E'[i]? = some (.obj s)→∀ x ∈ fp i,(∀ o,H x=some o→H' x=some o)∧F' x=none∧B'.2 x=none)
  (hs:∀ (i j:Nat) s d b,E'[i]? = some (.obj s)→E'[j]? = some (.own d)→σ'[j]? = some (some (.ref b))→b ∉ fp i):OkF fp B' F' H' σ' E' where
 at_:=fun i s h=>by
  obtain ⟨h1,h2⟩:=ho i s h
  obtain ⟨a1,a2,a3,a4⟩:=k.at_ i s h1
  exact ⟨by rw [h2]; exact a1,a2.move hf fun p hpp=>(hp i s h p hpp).1,a3,fun x hx=>(hp i s h x hx).2⟩
 sep:=hs
 two:=fun i j s t hij h1 h2=>k.two i j s t hij (ho i s h1).1 (ho j t h2).1
 rob:=fun i s h=>by
  obtain ⟨h1,h2⟩:=hr i s h
  rcases k.rob i s h1 with ⟨a,ps,q1,q2⟩ | ⟨q0,a,q1,q2⟩
  ·exact .inl ⟨a,ps,by rw [h2]; exact q1,q2.move hf fun p _ o e=>hf p o e⟩
  ·exact .inr ⟨q0,a,q1,by rw [h2]; exact q2⟩
theorem OkF.ext {fp:Nat→List Addr}{B:Hp×Hp}{F H F' H':Hp} {σ:St}{E:DE} (q:OkF fp B F H σ E) (x:Ext F H F' H'):OkF fp B F' H' σ E :=
 q.to x.fr (fun i s h=>⟨h,rfl⟩) (fun i s h=>⟨h,rfl⟩) (fun i s h y hy=>⟨fun o e=>x.same y o e,x.new y ((q.at_ i s h).2.2.2 y hy).1 ((q.at_ i s h).2.1.dom y hy),((q.at_ i s h).2.2.2 y hy).2⟩) q.sep
structure Ok (B:Hp×Hp) (F H:Hp) (σ:St) (E:DE):Prop where
 ent:Ext B.1 B.2 F H
 len:σ.length=E.length
 val:∀ (i:Nat) d,E[i]? = some (.val d)→∃ v,σ[i]? = some (some v)∧Rep F v d
 own:∀ (i:Nat) d,E[i]? = some (.own d)→∃ a o,σ[i]? = some (some (.ref a))∧H a=some o∧F a=none∧B.2 a=none∧fP F o d
 sep:∀ (i j:Nat) d e a,i ≠ j→E[i]? = some (.own d)→E[j]? = some (.own e)→σ[i]? = some (some (.ref a))→σ[j]? ≠ some (some (.ref a))
 ob:DK B F H σ E
section
variable {B:Hp×Hp}{F H F' H':Hp} {σ:St}{E:DE}
theorem Ok.sub (k:Ok B F H σ E):∀ a o,F a=some o→H a=some o:=k.ent.sub
theorem Ok.ext (k:Ok B F H σ E) (x:Ext F H F' H'):Ok B F' H' σ E :=
 ⟨k.ent.trans x,k.len,fun i d e=>(let ⟨v,h1,h2⟩:=k.val i d e; ⟨v,h1,h2.mono x.fr⟩),
  fun i d e=>(let ⟨a,o,h1,h2,h3,h4,h5⟩:=k.own i d e; ⟨a,o,h1,x.same a o h2,x.new a h3 (by rw [h2]; simp),h4,h5.mono x.fr⟩),k.sep,
  let ⟨fp,q⟩:=k.ob; ⟨fp,q.ext x⟩⟩
theorem Ok.set_val (k:Ok B F H σ E) {v:V}{d:D} (r:Rep F v d) (i:Nat):Ok B F H (σ.set i (some v)) (E.set i (.val d)):=by
 have hl:=k.len
 have nown:∀ (j:Nat) e,(E.set i (.val d))[j]? = some (.own e)→i ≠ j∧E[j]? = some (.own e):=fun j e h=>by
  rw [List.getElem?_set] at h
  split at h
  ·split at h <;> simp at h
  ·exact ⟨by assumption,h⟩
 refine ⟨k.ent,by rw [List.length_set,List.length_set]; exact hl,fun j e h=>?_,fun j e h=>?_,fun j l d' e' a hjl h1 h2 h3 h4=>?_,?_⟩
 ·rw [List.getElem?_set] at h
  rw [List.getElem?_set]
  split at h
  ·subst_vars
   split at h
   ·simp at h; subst h
    rename_i hlt
    exact ⟨v,by simp [hl,hlt],r⟩
   ·simp at h
  ·rename_i hne
   rw [if_neg hne]
   exact k.val j e h
 ·obtain ⟨hne,h⟩:=nown j e h
  rw [List.getElem?_set_ne hne]
  exact k.own j e h
 ·obtain ⟨n1,h1⟩:=nown j d' h1
  obtain ⟨n2,h2⟩:=nown l e' h2
  rw [List.getElem?_set_ne n1] at h3
  rw [List.getElem?_set_ne n2] at h4
  exact k.sep j l d' e' a hjl h1 h2 h3 h4
 ·have bk:∀ (j:Nat) z,(∀ q,z ≠ Sl.val q)→(E.set i (.val d))[j]? = some z→i ≠ j∧E[j]? = some z:=fun j z hz h=>by
   rw [List.getElem?_set] at h
   split at h
   ·split at h
    ·simp at h; exact absurd h.symm (hz d)
    ·simp at h
   ·exact ⟨by assumption,h⟩
  obtain ⟨fp,q⟩:=k.ob
  exact ⟨fp,q.to (fun _ _ e=>e) (fun j s h=>⟨(bk j _ (by simp) h).2,List.getElem?_set_ne (bk j _ (by simp) h).1⟩) (fun j s h=>⟨(bk j _ (by simp) h).2,List.getElem?_set_ne (bk j _ (by simp) h).1⟩)
   (fun j s h x hx=>⟨fun _ e=>e,(q.at_ j s (bk j _ (by simp) h).2).2.2.2 x hx⟩) (fun j l s e b h1 h2 h3=>by
    obtain ⟨n2,h2⟩:=bk l _ (by simp) h2
    rw [List.getElem?_set_ne n2] at h3
    exact q.sep j l s e b (bk j _ (by simp) h1).2 h2 h3)⟩
theorem Ok.put_own (k:Ok B F H σ E) {a:Addr}{o:HO}{d:D} (i:Nat) (hn:F a=none) (hb:B.2 a=none) (r:fP F o d)
  (hfree:∀ (j:Nat) e,j ≠ i→E[j]? = some (.own e)→σ[j]? ≠ some (some (.ref a))) (hobj:∃ fp,OkF fp B F H σ E∧∀ (j:Nat) s,E[j]? = some (.obj s)→a ∉ fp j):Ok B F (upd H a o) (σ.set i (some (.ref a))) (E.set i (.own d)):=by
 have hl:=k.len
 have oth:∀ (j:Nat) s,i ≠ j→(E.set i (.own d))[j]? = some s→E[j]? = some s:=fun j s hne h=>by rw [List.getElem?_set_ne hne] at h; exact h
 refine ⟨⟨fun b u e=>?_,k.ent.fr,fun b u e=>?_,k.ent.new⟩,by rw [List.length_set,List.length_set]; exact hl,fun j e h=>?_,fun j e h=>?_,fun j l d' e' b hjl h1 h2 h3 h4=>?_,?_⟩
 ·have:b ≠ a:=fun z=>by rw [z,hb] at e; cases e
  rw [ah this]; exact k.ent.same b u e
 ·have:b ≠ a:=fun z=>by rw [z,hn] at e; cases e
  rw [ah this]; exact k.sub b u e
 ·rw [List.getElem?_set] at h
  split at h
  ·split at h <;> simp at h
  ·rename_i hne
   rw [List.getElem?_set_ne hne]
   exact k.val j e h
 ·rw [List.getElem?_set] at h
  rw [List.getElem?_set]
  split at h
  ·rename_i hij
   subst hij
   split at h
   ·rename_i hlt
    simp at h; subst h
    exact ⟨a,o,by simp [hl,hlt],ap,hn,hb,r⟩
   ·simp at h
  ·rename_i hne
   rw [if_neg hne]
   obtain ⟨b,u,h1,h2,h3,h4,h5⟩:=k.own j e h
   have nba:b ≠ a:=fun z=>hfree j e (Ne.symm hne) h (by rw [h1,z])
   exact ⟨b,u,h1,by rw [ah nba]; exact h2,h3,h4,h5⟩
 ·have key:∀ (p q:Nat) (dp dq:D),p ≠ q→(E.set i (.own d))[p]? = some (.own dp)→(E.set i (.own d))[q]? = some (.own dq)→(σ.set i (some (.ref a)))[p]? = some (some (.ref b))→(σ.set i (some (.ref a)))[q]? = some (some (.ref b))→i ≠ p→False:=by
   intro p q dp dq hpq g1 g2 g3 g4 hip
   rw [List.getElem?_set_ne hip] at g3
   have g1':=oth p _ hip g1
   by_cases hiq:i=q
   ·subst hiq
    rw [List.getElem?_set] at g4
    rw [if_pos rfl] at g4
    split at g4
    ·simp at g4; subst g4
     exact hfree p dp (Ne.symm hip) g1' g3
    ·simp at g4
   ·rw [List.getElem?_set_ne hiq] at g4
    exact k.sep p q dp dq b hpq g1' (oth q _ hiq g2) g3 g4
  by_cases hij:i=j
  ·exact key l j e' d' (Ne.symm hjl) h2 h1 h4 h3 (fun z=>hjl (by rw [← hij,z]))
  ·exact key j l d' e' hjl h1 h2 h3 h4 hij
 ·have bk:∀ (j:Nat) z,(∀ q,z ≠ Sl.own q)→(E.set i (.own d))[j]? = some z→i ≠ j∧E[j]? = some z:=fun j z hz h=>by
   rw [List.getElem?_set] at h
   split at h
   ·split at h
    ·simp at h; exact absurd h.symm (hz d)
    ·simp at h
   ·exact ⟨by assumption,h⟩
  obtain ⟨fp,q,hobj⟩:=hobj
  refine ⟨fp,q.to (fun _ _ e=>e) (fun j s h=>⟨(bk j _ (by simp) h).2,List.getElem?_set_ne (bk j _ (by simp) h).1⟩) (fun j s h=>⟨(bk j _ (by simp) h).2,List.getElem?_set_ne (bk j _ (by simp) h).1⟩)
   (fun j s h x hx=>⟨fun _ e=>?_,(q.at_ j s (bk j _ (by simp) h).2).2.2.2 x hx⟩) (fun j l s e c h1 h2 h3=>?_)⟩
  ·rw [ah (fun z=>hobj j s (bk j _ (by simp) h).2 (by rw [← z]; exact hx))]; exact e
  ·have h1':=(bk j _ (by simp) h1).2
   by_cases hil:i=l
   ·subst hil
    rw [List.getElem?_set,if_pos rfl] at h3
    split at h3
    ·simp at h3; subst h3; exact hobj j s h1'
    ·simp at h3
   ·rw [List.getElem?_set_ne hil] at h2 h3
    exact q.sep j l s e c h1' h2 h3
end
noncomputable def fzE (i:Nat) (E:DE):DE:=match E[i]? with
 | some (.own d)=>E.set i (.val d)
 | _=>E
theorem Ok.fzG {B:Hp×Hp}{F H:Hp} {σ:St}{E:DE} (k:Ok B F H σ E) {i:Nat}{d:D}{a:Addr}{o':HO} (h:E[i]? = some (.own d)) (h1:σ[i]? = some (some (.ref a))) (h3:F a=none) (h4:B.2 a=none) (hr:Rep (upd F a o') (.ref a) d):Ok B (upd F a o') (upd H a o') σ (E.set i (.val d)):=by
 have up:∀ b u,F b=some u→(upd F a o') b=some u:=fun b u e=>by rw [ah (fun z=>by rw [z,h3] at e; cases e)]; exact e
 have nown:∀ (j:Nat) e,(E.set i (.val d))[j]? = some (.own e)→i ≠ j∧E[j]? = some (.own e):=fun j e q=>by
  rw [List.getElem?_set] at q
  split at q
  ·split at q <;> simp at q
  ·exact ⟨by assumption,q⟩
 refine ⟨⟨fun b u e=>?_,fun b u e=>up b u (k.ent.fr b u e),fun b u e=>?_,fun b e n=>?_⟩,by rw [List.length_set]; exact k.len,fun j e q=>?_,fun j e q=>?_,fun j l d' e' b hjl g1 g2=>k.sep j l d' e' b hjl (nown j d' g1).2 (nown l e' g2).2,?_⟩
 ·have:b ≠ a:=fun z=>by rw [z,h4] at e; cases e
  rw [ah this]; exact k.ent.same b u e
 ·by_cases hb:b=a
  ·subst hb; rw [ap] at e ⊢; exact e
  ·rw [ah hb] at e ⊢; exact k.sub b u e
 ·have hb:b ≠ a:=fun z=>n (by rw [z]; exact h4)
  rw [ah hb]; exact k.ent.new b e n
 ·rw [List.getElem?_set] at q
  split at q
  ·rename_i hij
   subst hij
   split at q
   ·simp at q; subst q
    exact ⟨_,h1,hr⟩
   ·simp at q
  ·obtain ⟨v,r1,r2⟩:=k.val j e q
   exact ⟨v,r1,r2.mono up⟩
 ·obtain ⟨hne,q⟩:=nown j e q
  obtain ⟨b,u,r1,r2,r3,r4,r5⟩:=k.own j e q
  have nba:b ≠ a:=fun z=>k.sep j i e d a (Ne.symm hne) q h (by rw [r1,z]) h1
  exact ⟨b,u,r1,by rw [ah nba]; exact r2,by rw [ah nba]; exact r3,r4,r5.mono up⟩
 ·have bk:∀ (j:Nat) z,(∀ q,z ≠ Sl.val q)→(E.set i (.val d))[j]? = some z→i ≠ j∧E[j]? = some z:=fun j z hz h=>by
   rw [List.getElem?_set] at h
   split at h
   ·split at h
    ·simp at h; exact absurd h.symm (hz d)
    ·simp at h
   ·exact ⟨by assumption,h⟩
  obtain ⟨fp,m⟩:=k.ob
  have nfp:∀ (j:Nat) s,(E.set i (.val d))[j]? = some (.obj s)→∀ x ∈ fp j,x ≠ a:=fun j s q x hx z=>m.sep j i s d a (bk j _ (by simp) q).2 h h1 (by rw [← z]; exact hx)
  refine ⟨fp,m.to up (fun j s q=>⟨(bk j _ (by simp) q).2,rfl⟩) (fun j s q=>⟨(bk j _ (by simp) q).2,rfl⟩) (fun j s q x hx=>⟨fun _ e=>?_,?_,((m.at_ j s (bk j _ (by simp) q).2).2.2.2 x hx).2⟩) (fun j l s e c g1 g2=>m.sep j l s e c (bk j _ (by simp) g1).2 (bk l _ (by simp) g2).2)⟩
  ·rw [ah (nfp j s q x hx)]; exact e
  ·rw [ah (nfp j s q x hx)]
   exact ((m.at_ j s (bk j _ (by simp) q).2).2.2.2 x hx).1
theorem Ok.fz {X:Cx}{pins:List (Addr×Obj)} {s:Shared}{B:Hp×Hp}{F H:Hp} {σ:St}{E:DE} (I:Inv X pins σ H s) (k:Ok B F H σ E) (i:Nat):∃ F' H',Inv X pins σ H' s∧Ok B F' H' σ (fzE i E)∧∀ a o,F a=some o→F' a=some o:=by
 unfold fzE
 cases h:E[i]? with
 | none=>exact ⟨F,H,I,k,fun _ _ e=>e⟩
 | some z =>
  cases z with
  | no=>exact ⟨F,H,I,k,fun _ _ e=>e⟩
  | val d=>exact ⟨F,H,I,k,fun _ _ e=>e⟩
  | obj z=>exact ⟨F,H,I,k,fun _ _ e=>e⟩
  | rob z=>exact ⟨F,H,I,k,fun _ _ e=>e⟩
  | own d =>
   obtain ⟨a,o,h1,h2,h3,h4,h5⟩:=k.own i d h
   obtain ⟨ob,I'⟩:=xu I h2
   have up:∀ b u,F b=some u→(upd F a (fzO ob o)) b=some u:=fun b u e=>by rw [ah (fun z=>by rw [z,h3] at e; cases e)]; exact e
   exact ⟨upd F a (fzO ob o),_,I',k.fzG h h1 h3 h4 ((h5.mono up).rep ap),up⟩
inductive Md where
 | V | O | F
noncomputable def rM:Md→Hp→Hp→Hp→V→D→Prop
 | .V,_,F,_,v,d=>Rep F v d
 | .O,_,F,H,v,d=>Rep F v d∨∃ a o,v=.ref a∧H a=some o∧fP F o d
 | .F,H0,F,H,v,d=>∃ a o,v=.ref a∧H0 a=none∧H a=some o∧F a=none∧fP F o d
noncomputable abbrev OB (F H:Hp) (v:V) (d:D):Prop:=Rep F v d∨∃ a o,v=.ref a∧H a=some o∧fP F o d
theorem OB.ext {F H F' H':Hp}{v:V}{d:D} (x:Ext F H F' H') (r:OB F H v d):OB F' H' v d:=by
 rcases r with r | ⟨a,o,h1,h2,h3⟩
 ·exact .inl (r.mono x.fr)
 ·exact .inr ⟨a,o,h1,x.same a o h2,h3.mono x.fr⟩
theorem rM.anti {m:Md}{H0 H1 F H:Hp}{v:V}{d:D} (h:∀ p,H1 p=none→H0 p=none) (r:rM m H1 F H v d):rM m H0 F H v d:=by
 cases m with
 | V=>exact r
 | O=>exact r
 | F=>obtain ⟨a,o,h1,h2,h3,h4,h5⟩:=r; exact ⟨a,o,h1,h a h2,h3,h4,h5⟩
theorem rM.ob {m:Md}{H0 F H:Hp}{v:V}{d:D} (r:rM m H0 F H v d):OB F H v d:=by
 cases m with
 | V=>exact .inl r
 | O=>exact r
 | F=>obtain ⟨a,o,h1,h2,h3,h4,h5⟩:=r; exact .inr ⟨a,o,h1,h3,h5⟩
noncomputable def tM (m:Md) (f:DE→Option D):TE:=fun σ H Q=>∃ B F E d,Ok B F H σ E∧f E=some d∧∀ v F' H',Ext F H F' H'→rM m H F' H' v d→Q v H'
noncomputable def tT (f:DE→Option Bool):TT:=fun σ H Q=>∃ B F E b,Ok B F H σ E∧f E=some b∧∀ F' H',Ext F H F' H'→Q b H'
noncomputable def tL (f:DE→Option (List D)):TA:=fun σ H Q=>∃ B F E ds,Ok B F H σ E∧f E=some ds∧∀ vs F' H',Ext F H F' H'→Reps F' vs ds→Q vs H'
structure Ev (X:Cx) (m:Md) (e:Expr) (f:DE→Option D):Prop where
 h:PE X e (tM m f)
structure Et (X:Cx) (e:Expr) (f:DE→Option Bool):Prop where
 h:PT X e (tT f)
structure Ea (X:Cx) (es:List Expr) (f:DE→Option (List D)):Prop where
 h:PA X es (tL f)
inductive Out where
 | nx (E:DE) | rt (d:D) | bk (E:DE) | ct (E:DE)
noncomputable abbrev Fr (F F':Hp):Prop:=∀ a o,F a=some o→F' a=some o
noncomputable def yq (B:Hp×Hp) (F:Hp) (Z:lG):Out→Prop
 | .nx E=>∀ σ F' H,Ok B F' H σ E→Fr F F'→Z.nx σ H
 | .rt d=>∀ v F' H,Ext B.1 B.2 F' H→Rep F' v d→Z.rt v H
 | .bk E=>∀ σ F' H,Ok B F' H σ E→Fr F F'→Z.bk σ H
 | .ct E=>∀ σ F' H,Ok B F' H σ E→Fr F F'→Z.ct σ H
theorem yq.mono {B:Hp×Hp}{F F1:Hp}{Z:lG}{r:Out} (h:yq B F Z r) (x:Fr F F1):yq B F1 Z r:=by
 cases r with
 | nx E=>exact fun σ F' H k y=>h σ F' H k fun a o e=>y a o (x a o e)
 | rt d=>exact h
 | bk E=>exact fun σ F' H k y=>h σ F' H k fun a o e=>y a o (x a o e)
 | ct E=>exact fun σ F' H k y=>h σ F' H k fun a o e=>y a o (x a o e)
noncomputable def tS (f:DE→Option Out):TS:=fun Z σ H=>∃ B F E r,Ok B F H σ E∧f E=some r∧yq B F Z r
structure Es (X:Cx) (st:Stmt) (f:DE→Option Out):Prop where
 h:PS X st (tS f)
structure Ess (X:Cx) (st:List Stmt) (f:DE→Option Out):Prop where
 h:PSs X st (tS f)
section
variable {X:Cx}{e a b c:Expr}{pos:Pos}
theorem PE.by {t:TE}{m:Md}{f:DE→Option D} (h:PE X e t) (w:∀ σ H Q,tM m f σ H Q→t σ H Q):Ev X m e f:=⟨fun pins s σ H Q I q=>h pins s σ H Q I (w σ H Q q)⟩
theorem PT.by {t:TT}{f:DE→Option Bool} (h:PT X e t) (w:∀ σ H Q,tT f σ H Q→t σ H Q):Et X e f:=⟨fun pins s σ H Q I q=>h pins s σ H Q I (w σ H Q q)⟩
theorem PA.by {es:List Expr}{t:TA}{f:DE→Option (List D)} (h:PA X es t) (w:∀ σ H Q,tL f σ H Q→t σ H Q):Ea X es f:=⟨fun pos pins s σ H Q I q=>h pos pins s σ H Q I (w σ H Q q)⟩
theorem PS.by {st:Stmt}{t:TS}{f:DE→Option Out} (h:PS X st t) (w:∀ Z σ H,tS f Z σ H→t Z σ H):Es X st f:=⟨fun pins s σ H Z I q=>h pins s σ H Z I (w Z σ H q)⟩
theorem PSs.by {st:List Stmt}{t:TS}{f:DE→Option Out} (h:PSs X st t) (w:∀ Z σ H,tS f Z σ H→t Z σ H):Ess X st f:=⟨fun pins s σ H Z I q=>h pins s σ H Z I (w Z σ H q)⟩
theorem Ev.frz {f:DE→Option D} (h:Ev X .F e f):Ev X .V e f:=⟨fun pins s σ H Q I zz74_0=>by
 obtain ⟨B,F,E,d,k,q,w⟩:=zz74_0
 refine thn (h.h pins s σ H (fun v H1=>∃ a o,v=.ref a∧H1 a=some o∧∀ ob,Q v (upd H1 a (fzO ob o))) I ⟨B,F,E,d,k,q,fun v F' H' x r=>?_⟩) fun u s1 ⟨x,H1,I1,r1,a,o,e1,e2,q1⟩=>?_
 ·obtain ⟨p,o,h1,h2,h3,h4,h5⟩:=r
  subst h1
  refine ⟨p,o,rfl,h3,fun ob=>?_⟩
  have up:∀ c u,F' c=some u→(upd F' p (fzO ob o)) c=some u:=fun c u z=>by rw [ah (fun y=>by rw [y,h4] at z; cases z)]; exact z
  refine w _ (upd F' p (fzO ob o)) _ ⟨fun c u z=>?_,fun c u z=>up c u (x.fr c u z),fun c u z=>?_,fun c z n=>?_⟩ ((h5.mono up).rep ap)
  ·have hc:c ≠ p:=fun y=>by rw [y,h2] at z; cases z
   rw [ah hc]; exact x.same c u z
  ·by_cases hc:c=p
   ·subst hc; rw [ap] at z ⊢; exact z
   ·rw [ah hc] at z ⊢; exact x.sub c u z
  ·have hc:c ≠ p:=fun y=>n (by rw [y]; exact h2)
   rw [ah hc]; exact x.new c z n
 ·obtain ⟨ob,I2⟩:=xu I1 e2
  exact ⟨x,_,I2,r1,q1 ob⟩⟩
theorem Ev.obs {m:Md}{f:DE→Option D} (h:Ev X m e f):Ev X .O e f:=PE.by h.h fun σ H Q zz76_0=>by obtain ⟨B,F,E,d,k,q,w⟩:=zz76_0; exact ⟨B,F,E,d,k,q,fun v F' H' x r=>w v F' H' x r.ob⟩
noncomputable def var (i:Nat) (E:DE):Option D:=match E[i]? with
 | some (.val d)=>some d
 | _=>none
noncomputable def aa (i:Nat) (E:DE):Option D:=match E[i]? with
 | some (.val d)=>some d
 | some (.own d)=>some d
 | _=>none
theorem BX (i:Nat) (h:PE X e (fT i)):Ev X .V e (var i):=PE.by h fun σ H Q zz77_0=>by
 obtain ⟨B,F,E,d,k,q,w⟩:=zz77_0
 unfold var at q
 split at q
 ·rename_i d' hd
  cases q
  obtain ⟨v,h1,h2⟩:=k.val i d hd
  exact ⟨v,h1,w v F H (Ext.refl k.sub) h2⟩
 ·cases q
theorem zF (i:Nat) (h:PE X e (fT i)):Ev X .O e (aa i):=PE.by h fun σ H Q zz78_0=>by
 obtain ⟨B,F,E,d,k,q,w⟩:=zz78_0
 unfold aa at q
 split at q
 ·rename_i d' hd
  cases q
  obtain ⟨v,h1,h2⟩:=k.val i d hd
  exact ⟨v,h1,w v F H (Ext.refl k.sub) (.inl h2)⟩
 ·rename_i d' hd
  cases q
  obtain ⟨p,o,h1,h2,h3,h4,h5⟩:=k.own i d hd
  exact ⟨_,h1,w _ F H (Ext.refl k.sub) (.inr ⟨p,o,rfl,h2,h5⟩)⟩
 ·cases q
noncomputable def cst (d:D) (_:DE):Option D:=some d
theorem kS {v:V}{d:D} (h:PE X e (tC v)) (r:∀ F,Rep F v d):Ev X .V e (cst d):=PE.by h fun σ H Q zz79_0=>by
 obtain ⟨B,F,E,d',k,q,w⟩:=zz79_0
 cases q
 exact w v F H (Ext.refl k.sub) (r F)
theorem ar {i:Int}{j pos}:Ev X .V (.Constant (.int i) j pos) (cst (.int i)):=kS wE fun _=>.int i
theorem iN {i:Bool}{j pos}:Ev X .V (.Constant (.bool i) j pos) (cst (.bl i)):=kS Db fun _=>.bl i
theorem BY {j pos}:Ev X .V (.Constant .none j pos) (cst .non):=kS wD fun _=>.non
theorem kQ {i:Str}{j pos}:Ev X .V (.Constant (.str i) j pos) (cst (.str i)):=kS Bk fun _=>.str i
noncomputable def dP (m:Md) (r:R2) (o:D→D→Option D):Prop:=∀ (F H:Hp) (v w:V) (x y d:D) (Q:VK),(∀ a u,F a=some u→H a=some u)→OB F H v x→OB F H w y→o x y=some d →
 (∀ u F' H',Ext F H F' H'→rM m H F' H' u d→Q u H')→r v w H Q
noncomputable def bin (o:D→D→Option D) (f g:DE→Option D) (E:DE):Option D:=(f E).bind fun x=>(g E).bind fun y=>o x y
theorem fc {m:Md}{r:R2}{o:D→D→Option D}{f g:DE→Option D} (hr:dP m r o) (σ:St) (H:Hp) (Q:VK) (h:tM m (bin o f g) σ H Q):tOp r (tM .O f) (tM .O g) σ H Q:=by
 obtain ⟨B,F,E,d,k,q,w⟩:=h
 unfold bin at q
 cases hf:f E with
 | none=>rw [hf] at q; cases q
 | some x =>
  rw [hf] at q
  cases hg:g E with
  | none=>rw [hg] at q; cases q
  | some y =>
   rw [hg] at q
   refine ⟨B,F,E,x,k,hf,fun v F1 H1 x1 r1=>⟨B,F1,E,y,k.ext x1,hg,fun u F2 H2 x2 r2=>?_⟩⟩
   exact hr F2 H2 v u x y d Q x2.sub (OB.ext x2 r1) r2 q fun z F3 H3 x3 r3=>w z F3 H3 ((x1.trans x2).trans x3) (rM.anti (fun p hp=>(x1.trans x2).nofree hp) r3)
theorem jg {m:Md}{op:Operator}{r:R2}{o:D→D→Option D}{f g:DE→Option D} (ho:OpR X (binaryOp op) r) (hr:dP m r o) (ha:Ev X .O a f) (hb:Ev X .O b g):Ev X m (.BinOp a op b pos) (bin o f g) :=
 PE.by (C_ ho ha.h hb.h) (fc hr)
theorem ri {op:CmpOp}{r:R2}{o:D→D→Option D}{f g:DE→Option D} (ho:OpR X (compareOp op) r) (hr:dP .V r o) (ha:Ev X .O a f) (hb:Ev X .O b g) (hm:behindInMarks op b=false):Ev X .V (.Compare a [op] [b] pos) (bin o f g) :=
 PE.by (sv ho ha.h hb.h hm) (fc hr)
noncomputable def asB:D→Option Bool
 | .bl b=>some b
 | _=>none
noncomputable def tst (f:DE→Option D) (E:DE):Option Bool:=(f E).bind asB
theorem iu {f:DE→Option D} (σ:St) (H:Hp) (Q:Bool→Hp→Prop) (h:tT (tst f) σ H Q):tM .V f σ H fun x H'=>∃ k,x=.bl k∧Q k H':=by
 obtain ⟨B,F,E,b,k,q,w⟩:=h
 unfold tst at q
 cases hf:f E with
 | none=>rw [hf] at q; cases q
 | some x =>
  rw [hf] at q
  refine ⟨B,F,E,x,k,hf,fun v F' H' x1 r1=>?_⟩
  cases x with
  | bl c =>
   cases q
   cases (show Rep F' v (.bl b) from r1)
   exact ⟨b,rfl,w F' H' x1⟩
  | _=>cases q
theorem nO {op:CmpOp}{r:R2}{o:D→D→Option D}{f g:DE→Option D} (ho:OpR X (compareOp op) r) (hr:dP .V r o) (ha:Ev X .O a f) (hb:Ev X .O b g) (hm:behindInMarks op b=false):Et X (.Compare a [op] [b] pos) (tst (bin o f g)) :=
 PT.by (na ho ha.h hb.h hm) fun σ H Q h=>fc hr σ H _ (iu σ H Q h)
theorem cW {f:DE→Option D} (h:Ev X .V e f) (he:∀ whole,isTrue e X.env whole=(do let v ← whole; standAt e.pos; holding [v] (truthy v)):=by intro _; rfl):Et X e (tst f) :=
 PT.by (Bc h.h he) fun σ H Q q=>iu σ H Q q
noncomputable def cw (f:DE→Option Bool) (E:DE):Option Bool:=(f E).map (!·)
theorem dw {f:DE→Option Bool} (h:Et X a f):Et X (.UnaryOp .Not a pos) (cw f):=PT.by (Bd h.h) fun σ H Q zz80_0=>by
 obtain ⟨B,F,E,b,k,q,w⟩:=zz80_0
 unfold cw at q
 cases hf:f E with
 | none=>rw [hf] at q; cases q
 | some c =>
  rw [hf] at q
  cases q
  exact ⟨B,F,E,c,k,hf,w⟩
noncomputable def DI (f g:DE→Option Bool) (E:DE):Option Bool:=(f E).bind fun c=>if c=true then g E else some false
noncomputable def orT (f g:DE→Option Bool) (E:DE):Option Bool:=(f E).bind fun c=>if c=true then some true else g E
structure Ew (X:Cx) (e:Expr) (f:DE→Option Bool):Prop where
 h:PW X e (tT f)
theorem PW.by {t:TT}{f:DE→Option Bool} (h:PW X e t) (w:∀ σ H Q,tT f σ H Q→t σ H Q):Ew X e f:=⟨fun whole pins s σ H Q I q=>h whole pins s σ H Q I (w σ H Q q)⟩
theorem fG {f:DE→Option Bool} (h:Et X a f):Ew X (.BoolOp .Or [a] pos) f:=⟨Ba h.h⟩
theorem gV {bO:List Expr}{f g:DE→Option Bool} (h:Et X a f) (h2:Ew X (.BoolOp .Or (b :: bO) pos) g):Ew X (.BoolOp .Or (a :: b :: bO) pos) (orT f g):=PW.by (C6 h.h h2.h) fun σ H Q zz81_0=>by
 obtain ⟨B,F,E,d,k,q,w⟩:=zz81_0
 unfold orT at q
 cases hf:f E with
 | none=>rw [hf] at q; cases q
 | some c =>
  rw [hf] at q
  refine ⟨B,F,E,c,k,hf,fun F1 H1 x1=>?_⟩
  cases c with
  | true=>cases q; exact uU (w F1 H1 x1)
  | false=>exact uV ⟨B,F1,E,d,k.ext x1,q,fun F2 H2 x2=>w F2 H2 (x1.trans x2)⟩
theorem Ew.et {f:DE→Option Bool} (h:Ew X e f):Et X e f:=⟨h.h _⟩
noncomputable def bI (f g:DE→Option D) (E:DE):Option D:=(f E).bind fun x=>(asB x).bind fun c=>if c=true then g E else some (.bl false)
noncomputable def orV (f g:DE→Option D) (E:DE):Option D:=(f E).bind fun x=>(asB x).bind fun c=>if c=true then some (.bl true) else g E
noncomputable def ny (f:DE→Option D) (E:DE):Option D:=(f E).bind fun x=>(asB x).map fun c=>.bl (!c)
theorem k_ {x:D}{c:Bool} (h:asB x=some c):x=.bl c:=by cases x <;> simp [asB] at h; rw [h]
theorem dL {op}{f:DE→Option D} (h:Ev X .V a f):Ev X .V (.BoolOp op [a] pos) f:=⟨Bl h.h⟩
theorem cg {bO:List Expr}{f g:DE→Option D} (h:Ev X .V a f) (h2:Ev X .V (.BoolOp .And (b :: bO) pos) g):Ev X .V (.BoolOp .And (a :: b :: bO) pos) (bI f g):=PE.by (Bp h.h h2.h) fun σ H Q zz82_0=>by
 obtain ⟨B,F,E,d,k,q,w⟩:=zz82_0
 unfold bI at q
 cases hf:f E with
 | none=>rw [hf] at q; cases q
 | some x =>
  rw [hf] at q
  refine ⟨B,F,E,x,k,hf,fun v F1 H1 x1 r1=>?_⟩
  cases hx:asB x with
  | none=>simp [hx] at q
  | some c =>
   have ex:=k_ hx
   subst ex
   simp only [Ef,hx] at q
   cases (show Rep F1 v (.bl c) from r1)
   refine ⟨c,rfl,?_⟩
   cases c with
   | false=>cases q; exact uV (w _ F1 H1 x1 (.bl false))
   | true=>exact uU ⟨B,F1,E,d,k.ext x1,q,fun u F2 H2 x2 r2=>w u F2 H2 (x1.trans x2) r2⟩
theorem xD {f:DE→Option D} (h:Ev X .V a f):Ev X .V (.UnaryOp .Not a pos) (ny f):=PE.by (L2.Bm h.h) fun σ H Q zz83_0=>by
 obtain ⟨B,F,E,d,k,q,w⟩:=zz83_0
 unfold ny at q
 cases hf:f E with
 | none=>rw [hf] at q; cases q
 | some x =>
  rw [hf] at q
  refine ⟨B,F,E,x,k,hf,fun v F1 H1 x1 r1=>?_⟩
  cases hx:asB x with
  | none=>simp [hx] at q
  | some c =>
   have ex:=k_ hx
   subst ex
   simp only [Ef,hx,Ej] at q
   cases q
   cases (show Rep F1 v (.bl c) from r1)
   exact ⟨c,rfl,w _ F1 H1 x1 (.bl _)⟩
noncomputable def ifV (c:DE→Option Bool) (f g:DE→Option D) (E:DE):Option D:=(c E).bind fun b=>if b=true then f E else g E
theorem DB {m:Md}{cf:DE→Option Bool}{f g:DE→Option D} (hc:Et X c cf) (ha:Ev X m a f) (hb:Ev X m b g):Ev X m (.IfExp c a b pos) (ifV cf f g):=PE.by (wF hc.h ha.h hb.h) fun σ H Q zz84_0=>by
 obtain ⟨B,F,E,d,k,q,w⟩:=zz84_0
 unfold ifV at q
 cases hf:cf E with
 | none=>rw [hf] at q; cases q
 | some x =>
  rw [hf] at q
  refine ⟨B,F,E,x,k,hf,fun F1 H1 x1=>?_⟩
  cases x with
  | true=>exact uU ⟨B,F1,E,d,k.ext x1,q,fun u F2 H2 x2 r2=>w u F2 H2 (x1.trans x2) (rM.anti (fun p hp=>x1.nofree hp) r2)⟩
  | false=>exact uV ⟨B,F1,E,d,k.ext x1,q,fun u F2 H2 x2 r2=>w u F2 H2 (x1.trans x2) (rM.anti (fun p hp=>x1.nofree hp) r2)⟩
noncomputable def dr (o o':D→D→Option D) (f g h:DE→Option D) (E:DE):Option D:=(f E).bind fun x=>(g E).bind fun y=>(o x y).bind fun z=>(asB z).bind fun k=>if k=true then (h E).bind fun w=>o' y w else some (.bl false)
theorem rB {r r':R2}{o o':D→D→Option D}{f g h:DE→Option D} (hr:dP .V r o) (hr':dP .V r' o') (σ:St) (H:Hp) (Q:VK) (q:tM .V (dr o o' f g h) σ H Q):vT r r' (tM .O f) (tM .O g) (tM .O h) σ H Q:=by
 obtain ⟨B,F,E,d,k,q,w⟩:=q
 unfold dr at q
 cases hf:f E with
 | none=>simp [hf] at q
 | some x =>
  cases hg:g E with
  | none=>simp [hf,hg] at q
  | some y =>
   cases ho:o x y with
   | none=>simp [hf,hg,ho] at q
   | some z =>
    cases hz:asB z with
    | none=>simp [hf,hg,ho,hz] at q
    | some c =>
     simp only [hf,hg,ho,hz,Ef] at q
     refine ⟨B,F,E,x,k,hf,fun v F1 H1 x1 r1=>⟨B,F1,E,y,k.ext x1,hg,fun u F2 H2 x2 r2=>?_⟩⟩
     refine hr F2 H2 v u x y z _ x2.sub (OB.ext x2 r1) r2 ho fun t F3 H3 x3 r3=>?_
     have ez:=k_ hz
     subst ez
     cases (show Rep F3 t (.bl c) from r3)
     refine ⟨c,rfl,?_⟩
     have x13:=(x1.trans x2).trans x3
     cases c with
     | false=>cases q; exact uV (w _ F3 H3 x13 (.bl false))
     | true =>
      refine uU ?_
      cases hh:h E with
      | none=>simp [hh] at q
      | some e =>
       simp only [hh,Ef,if_true] at q
       refine ⟨B,F3,E,e,k.ext x13,hh,fun p F4 H4 x4 r4=>?_⟩
       exact hr' F4 H4 u p y e d Q x4.sub (OB.ext (x3.trans x4) r2) r4 q fun t F5 H5 x5 r5=>w t F5 H5 ((x13.trans x4).trans x5) r5
theorem xH {op op':CmpOp}{r r':R2}{o o':D→D→Option D}{f g h:DE→Option D} (ho:OpR X (compareOp op) r) (hr:dP .V r o) (ho':OpR X (compareOp op') r') (hr':dP .V r' o') (ha:Ev X .O a f) (hb:Ev X .O b g) (hc:Ev X .O c h)
  (hm:lastMarks [op,op'] [b,c]=false:=by with_unfolding_all rfl):Ev X .V (.Compare a [op,op'] [b,c] pos) (dr o o' f g h):=PE.by (wJ ho ho' ha.h hb.h hc.h hm) (rB hr hr')
noncomputable def aO:Expr→Bool
 | .Starred _ _=>false
 | _=>true
theorem aA (e:Expr) (es:List Expr) (env:Env) (h:aO e=true):starEach (e :: es) env=(false,eval e env) :: starEach es env:=by
 cases e <;> first | rfl | cases h
theorem du (pos:Pos) (env:Env):∀ es:List Expr,es.all aO=true→(backTo pos (starEach es env)).any (·.1)=false
 | [],_=>rfl
 | e :: es,h=>by
  rw [List.all_cons,Bool.and_eq_true] at h
  rw [aA e es env h.1]
  show (false || (backTo pos (starEach es env)).any (·.1))=false
  rw [du pos env es h.2]; rfl
noncomputable def ai (_:DE):Option (List D):=some []
noncomputable def ac (f:DE→Option D) (g:DE→Option (List D)) (E:DE):Option (List D):=(f E).bind fun x=>(g E).map fun xs=>x :: xs
theorem ak:Ea X [] ai:=PA.by gg fun σ H Q ⟨B,F,E,d,k,q,w⟩=>by cases q; exact w [] F H (Ext.refl k.sub) .nil
theorem ae {es:List Expr}{f:DE→Option D}{g:DE→Option (List D)} (h:Ev X .V e f) (h2:Ea X es g) (hs:aO e=true:=by rfl):Ea X (e :: es) (ac f g) :=
 PA.by (c_ h.h h2.h (aA e es X.env hs)) fun σ H Q zz86_0=>by
  obtain ⟨B,F,E,d,k,q,w⟩:=zz86_0
  unfold ac at q
  cases hf:f E with
  | none=>simp [hf] at q
  | some x =>
   cases hg:g E with
   | none=>simp [hf,hg] at q
   | some xs =>
    simp only [hf,hg,Ef,Ej] at q
    cases q
    exact ⟨B,F,E,x,k,hf,fun v F1 H1 x1 r1=>⟨B,F1,E,xs,k.ext x1,hg,fun vs F2 H2 x2 r2=>w _ F2 H2 (x1.trans x2) (.cons (r1.mono x2.fr) r2)⟩⟩
noncomputable def c8 (f:DE→Option (List D)) (E:DE):Option D:=(f E).bind fun xs=>if xs.length≤sizeLine then some (.tup xs) else none
noncomputable def bS (f:DE→Option (List D)) (E:DE):Option D:=(f E).bind fun xs=>if xs.length≤sizeLine then some (.lst xs) else none
theorem eN {es:List Expr}{x1}{f:DE→Option (List D)} (h:Ea X es f):Ev X .V (.Tuple es x1 pos) (c8 f):=PE.by (Bj h.h) fun σ H Q zz87_0=>by
 obtain ⟨B,F,E,d,k,q,w⟩:=zz87_0
 unfold c8 at q
 cases hf:f E with
 | none=>simp [hf] at q
 | some xs =>
  simp only [hf,Ef] at q
  split at q
  ·rename_i hz
   cases q
   refine ⟨B,F,E,xs,k,hf,fun vs F1 H1 x1 r1=>⟨by rw [r1.length]; exact hz,fun p hp=>?_⟩⟩
   have x2:=Ext.freeze (o:=HO.tup vs) x1.sub hp
   exact w _ _ _ (x1.trans x2) (.tup ap (r1.mono x2.fr))
  ·cases q
theorem dh {es:List Expr}{f:DE→Option (List D)} (h:Ea X es f):Ev X .F (.List es pos) (bS f):=PE.by (Bn h.h) fun σ H Q zz88_0=>by
 obtain ⟨B,F,E,d,k,q,w⟩:=zz88_0
 unfold bS at q
 cases hf:f E with
 | none=>simp [hf] at q
 | some xs =>
  simp only [hf,Ef] at q
  split at q
  ·rename_i hz
   cases q
   refine ⟨B,F,E,xs,k,hf,fun vs F1 H1 x1 r1=>⟨by rw [r1.length]; exact hz,fun p hp=>?_⟩⟩
   have x2:=Ext.lay (o:=HO.lst vs) x1.sub hp
   exact w _ _ _ (x1.trans x2) ⟨p,_,rfl,x1.nofree hp,ap,nofr x1.sub hp,r1⟩
  ·cases q
noncomputable def spD (n:Nat) (g:List D→Option D):Sp:=fun vs H Q _=>∃ F ds d,(∀ a o,F a=some o→H a=some o)∧Reps F vs ds∧ds.length=n∧g ds=some d∧∀ v F' H',Ext F H F' H'→Rep F' v d→Q v H'
noncomputable def ao (n:Nat) (g:List D→Option D) (f:DE→Option (List D)) (E:DE):Option D:=(f E).bind fun ds=>if ds.length=n then g ds else none
theorem aE {k:Nat}{fa:Addr}{fd:FuncData}{ps:List Str}{x:Str}{p:Pos}{es:List Expr}{n:Nat}{g:List D→Option D}{f:DE→Option (List D)} (Fn:bC X.prog X.w X.K X.mg X.base CX0 k fa fd ps (spD n g)) (hr:dM k X.A) (hg:Gl X x)
  (hm:X.mg x=some (.ref fa)) (hk:PySem.W.keepIn X.K (.ref fa)=true) (hb:bc X.K fd ps []) (ha:Ea X (e :: es) f) (hdb:(x == ("__debug__" : Str))=false:=by decide)
  (he:aO e=true:=by rfl) (hpl:es.all aO=true:=by rfl):Ev X .V (.Call (.Name x p) (e :: es) [] pos) (ao n g f) :=
 PE.by (jQ Fn hr hg hm hk hb .nil sx ha.h hdb (aA e es X.env he) (du pos X.env es hpl)) fun σ H Q zz89_0=>by
  obtain ⟨B,F,E,d,k,q,w⟩:=zz89_0
  unfold ao at q
  cases hf:f E with
  | none=>simp [hf] at q
  | some ds =>
   simp only [hf,Ef] at q
   split at q
   ·rename_i hn
    refine ⟨B,F,E,ds,k,hf,fun vs F1 H1 x1 r1=>⟨F1,ds,d,x1.sub,by rw [List.append_nil]; exact r1,hn,q,fun v F2 H2 x2 r2=>w v F2 H2 (x1.trans x2) r2⟩⟩
   ·cases q
noncomputable def RdC (m:Md) (r:List V→Hp→VK→Prop) (o:List D→Option D):Prop:=∀ (F H:Hp) (vs:List V) (ds:List D) (d:D) (Q:VK),(∀ a u,F a=some u→H a=some u)→Reps F vs ds→o ds=some d →
 (∀ u F' H',Ext F H F' H'→rM m H F' H' u d→Q u H')→r vs H Q
noncomputable def ff (o:List D→Option D) (f:DE→Option (List D)) (E:DE):Option D:=(f E).bind o
theorem yi {m:Md}{r:List V→Hp→VK→Prop}{o:List D→Option D}{f:DE→Option (List D)} (hr:RdC m r o) (σ:St) (H:Hp) (Q:VK) (h:tM m (ff o f) σ H Q):tCB r (tL f) σ H Q:=by
 obtain ⟨B,F,E,d,k,q,w⟩:=h
 unfold ff at q
 cases hf:f E with
 | none=>simp [hf] at q
 | some ds =>
  simp only [hf,Ef] at q
  exact ⟨B,F,E,ds,k,hf,fun vs F1 H1 x1 r1=>hr F1 H1 vs ds d Q x1.sub r1 q fun u F2 H2 x2 r2=>w u F2 H2 (x1.trans x2) (rM.anti (fun p hp=>x1.nofree hp) r2)⟩
noncomputable def lE (m:Md) (r:List V→Hp→VK→Prop) (o:D→Option D):Prop:=∀ (F H:Hp) (v:V) (x:D) (d:D) (Q:VK),(∀ a u,F a=some u→H a=some u)→OB F H v x→o x=some d →
 (∀ u F' H',Ext F H F' H'→rM m H F' H' u d→Q u H')→r [v] H Q
noncomputable def un (o:D→Option D) (f:DE→Option D) (E:DE):Option D:=(f E).bind o
theorem r_ {m:Md}{r:List V→Hp→VK→Prop}{o:D→Option D}{f:DE→Option D} (hr:lE m r o) (σ:St) (H:Hp) (Q:VK) (h:tM m (un o f) σ H Q):tCB r (Ak (tM .O f) CD) σ H Q:=by
 obtain ⟨B,F,E,d,k,q,w⟩:=h
 unfold un at q
 cases hf:f E with
 | none=>simp [hf] at q
 | some x =>
  simp only [hf,Ef] at q
  exact ⟨B,F,E,x,k,hf,fun v F1 H1 x1 r1=>hr F1 H1 v x d Q x1.sub r1 q fun u F2 H2 x2 r2=>w u F2 H2 (x1.trans x2) (rM.anti (fun p hp=>x1.nofree hp) r2)⟩
theorem nN {m:Md}{x:Str}{p:Pos}{id:String}{r:List V→Hp→VK→Prop}{o:D→Option D}{f:DE→Option D} (hc:dj X (.builtin id) r) (hr:lE m r o) (hg:Gl X x) (hm:X.mg x=none) (hv:bootBuiltins x=some (.builtin id))
  (ha:Ev X .O e f) (hn:x ≠ "__name__" := by decide) (hdb:(x == ("__debug__" : Str))=false:=by decide) (he:aO e=true:=by rfl):Ev X m (.Call (.Name x p) [e] [] pos) (un o f) :=
 PE.by (kt hc hg hm hv (c_ ha.h gg (aA e [] X.env he)) hn hdb (aA e [] X.env he) rfl) (r_ hr)
theorem xB {m:Md}{x:Str}{p:Pos}{T:String}{r:List V→Hp→VK→Prop}{o:D→Option D}{f:DE→Option D} (hc:dj X (.type T) r) (hr:lE m r o) (hg:Gl X x) (hm:X.mg x=none) (hv:bootBuiltins x=some (.type T))
  (ha:Ev X .O e f) (hn:x ≠ "__name__" := by decide) (hdb:(x == ("__debug__" : Str))=false:=by decide) (he:aO e=true:=by rfl):Ev X m (.Call (.Name x p) [e] [] pos) (un o f) :=
 PE.by (um hc hg hm hv (c_ ha.h gg (aA e [] X.env he)) hn hdb (aA e [] X.env he) rfl) (r_ hr)
end
section
variable {X:Cx}{e:Expr}{pos:Pos}{st:Stmt}{bO:List Stmt}
noncomputable def bp (E:DE):Option Out:=some (.nx E)
noncomputable def av (f g:DE→Option Out) (E:DE):Option Out:=(f E).bind fun r=>match r with
 | .nx E'=>g E'
 | r=>some r
theorem bE:Ess X [] bp:=PSs.by yX fun Z σ H ⟨B,F,E,r,k,q,w⟩=>by cases q; exact w σ F H k fun _ _ e=>e
theorem am {f:DE→Option Out} (h:Es X st f):Ess X [st] f:=⟨nc h.h⟩
theorem af {f g:DE→Option Out} (h:Es X st f) (h2:Ess X bO g):Ess X (st :: bO) (av f g):=PSs.by (iE h.h h2.h) fun Z σ H zz91_0=>by
 obtain ⟨B,F,E,r,k,q,w⟩:=zz91_0
 unfold av at q
 cases hf:f E with
 | none=>simp [hf] at q
 | some r1 =>
  rw [hf] at q
  cases r1 with
  | nx E'=>exact ⟨B,F,E,.nx E',k,hf,fun σ' F' H' k' y=>⟨B,F',E',r,k',q,w.mono y⟩⟩
  | rt d=>cases q; exact ⟨B,F,E,.rt d,k,hf,w⟩
  | bk E'=>cases q; exact ⟨B,F,E,.bk E',k,hf,w⟩
  | ct E'=>cases q; exact ⟨B,F,E,.ct E',k,hf,w⟩
theorem AE {f:DE→Option Out} (i:Nat) (h:Es X st f):Es X st (fun E=>f (fzE i E)):=⟨fun pins s σ H Z I zz92_0=>by
 obtain ⟨B,F,E,r,k,q,w⟩:=zz92_0
 obtain ⟨F',H',I',k',y⟩:=Ok.fz I k i
 exact h.h pins s σ H' Z I' ⟨B,F',fzE i E,r,k',q,w.mono y⟩⟩
noncomputable def ay (f:DE→Option D) (E:DE):Option Out:=(f E).map Out.rt
theorem aK {f:DE→Option D} (h:Ev X .V e f):Es X (.Return (some e) pos) (ay f):=PS.by (wn h.h) fun Z σ H zz93_0=>by
 obtain ⟨B,F,E,r,k,q,w⟩:=zz93_0
 unfold ay at q
 cases hf:f E with
 | none=>simp [hf] at q
 | some d =>
  simp only [hf,Ej] at q
  cases q
  exact ⟨B,F,E,d,k,hf,fun v F' H' x r=>w v F' H' (k.ent.trans x) r⟩
noncomputable def CT (_:DE):Option Out:=some (.rt .non)
noncomputable def ifS (c:DE→Option Bool) (f g:DE→Option Out) (E:DE):Option Out:=(c E).bind fun b=>if b=true then f E else g E
theorem c4 {c:Expr}{a b:List Stmt}{cf:DE→Option Bool}{f g:DE→Option Out} (hc:Et X c cf) (ha:Ess X a f) (hb:Ess X b g):Es X (.If c a b pos) (ifS cf f g):=PS.by (C7 hc.h ha.h hb.h) fun Z σ H zz94_0=>by
 obtain ⟨B,F,E,r,k,q,w⟩:=zz94_0
 unfold ifS at q
 cases hf:cf E with
 | none=>simp [hf] at q
 | some x =>
  rw [hf] at q
  refine ⟨B,F,E,x,k,hf,fun F1 H1 x1=>?_⟩
  cases x with
  | true=>exact uU ⟨B,F1,E,r,k.ext x1,q,w.mono x1.fr⟩
  | false=>exact uV ⟨B,F1,E,r,k.ext x1,q,w.mono x1.fr⟩
noncomputable def aS (i:Nat) (f:DE→Option D) (E:DE):Option Out:=(f E).map fun d=>.nx (E.set i (.val d))
noncomputable def bL (i:Nat) (f:DE→Option D) (E:DE):Option Out:=(f E).map fun d=>.nx (E.set i (.own d))
theorem oK {i:Nat}{f:DE→Option D} (Z:lG) (σ:St) (H:Hp) (h:tS (aS i f) Z σ H):vU (tM .V f) (ms i) Z σ H:=by
 obtain ⟨B,F,E,r,k,q,w⟩:=h
 unfold aS at q
 cases hf:f E with
 | none=>simp [hf] at q
 | some d =>
  simp only [hf,Ej] at q
  cases q
  exact ⟨B,F,E,d,k,hf,fun v F' H' x r=>w _ F' H' ((k.ext x).set_val r i) x.fr⟩
theorem wK {i:Nat}{f:DE→Option D} (Z:lG) (σ:St) (H:Hp) (h:tS (bL i f) Z σ H):vU (tM .F f) (ms i) Z σ H:=by
 obtain ⟨B,F,E,r,k,q,w⟩:=h
 unfold bL at q
 cases hf:f E with
 | none=>simp [hf] at q
 | some d =>
  simp only [hf,Ej] at q
  cases q
  refine ⟨B,F,E,d,k,hf,fun v F' H' x r=>?_⟩
  obtain ⟨a,o,rfl,h2,h3,h4,h5⟩:=r
  have k':=k.ext x
  have hb:B.2 a=none:=k.ent.nofree h2
  have hfr:∃ fp,OkF fp B F' H' σ E∧∀ (j:Nat) s,E[j]? = some (.obj s)→a ∉ fp j:=by
   obtain ⟨fp,m⟩:=k.ob
   exact ⟨fp,m.ext x,fun j t hj hm=>(m.at_ j t hj).2.1.dom a hm h2⟩
  have z:=k'.put_own (a:=a) (o:=o) i h4 hb h5 fun j e hj he hs=>by
   obtain ⟨b,u,g1,g2,_⟩:=k.own j e he
   rw [g1] at hs
   cases hs
   rw [h2] at g2
   cases g2
  have z:=z hfr
  have eu:upd H' a o=H':=by
   funext c
   unfold upd
   split
   ·rename_i hc; rw [hc,h3]
   ·rfl
  rw [eu] at z
  exact w _ F' H' z x.fr
theorem bb {i:Nat}{x:Str}{pos':Pos}{f:DE→Option D} (hN:X.N.Nodup) (hi:X.N[i]? = some x) (hx:Loc X.env.scope x) (he:Ev X .V e f) (hs:swapsWith e (some (.Name x pos')) pos.line X.env=pure false:=by rfl)
  (hf:X.fn x=true∨X.env.scope.names.lookup x=some .local:=by first | exact .inl rfl | exact .inr rfl | assumption):Es X (.Assign [.Name x pos'] e pos) (aS i f):=PS.by (ng hN hi hx he.h hs hf) oK
theorem cq {i:Nat}{x:Str}{pos':Pos}{f:DE→Option D} (hN:X.N.Nodup) (hi:X.N[i]? = some x) (hx:Loc X.env.scope x) (he:Ev X .F e f) (hs:swapsWith e (some (.Name x pos')) pos.line X.env=pure false:=by rfl)
  (hf:X.fn x=true∨X.env.scope.names.lookup x=some .local:=by first | exact .inl rfl | exact .inr rfl | assumption):Es X (.Assign [.Name x pos'] e pos) (bL i f):=PS.by (ng hN hi hx he.h hs hf) wK
noncomputable def sW (f:DE→Option D) (E:DE):Option Out:=(f E).map fun _=>.nx E
theorem zK {f:DE→Option D} (he:Ev X .V e f) (hs:swapsWith e none pos.line X.env=pure false:=by rfl):Es X (.Expr e pos) (sW f):=PS.by (fC he.h hs) fun Z σ H zz95_0=>by
 obtain ⟨B,F,E,r,k,q,w⟩:=zz95_0
 unfold sW at q
 cases hf:f E with
 | none=>simp [hf] at q
 | some d =>
  simp only [hf,Ej] at q
  cases q
  exact ⟨B,F,E,d,k,hf,fun v F' H' x r=>w σ F' H' (k.ext x) x.fr⟩
end
noncomputable def oa (F:Hp) (J:It) (xs:List D):Prop:=∀ (i:Nat) (F2 H2:Hp),Fr F F2→(∀ a o,F2 a=some o→H2 a=some o) →
 (xs.length=i→J.stop i H2)∧∀ d,xs[i]? = some d→J.go i H2∧∀ x H',J.yld i H2 x H'→∃ F3,Ext F2 H2 F3 H'∧Rep F3 x d
noncomputable def tIt (f:DE→Option (List D)):TI:=fun σ H R=>∃ B F E xs,Ok B F H σ E∧f E=some xs∧∀ J F' H',Ext F H F' H'→oa F' J xs→R J H'
structure Ei (X:Cx) (tg iter:Expr) (f:DE→Option (List D)):Prop where
 h:PI X tg iter (tIt f)
noncomputable def tG (gf:D→DE→Option DE):TG:=fun v σ H Q=>∃ B F E d E',Ok B F H σ E∧Rep F v d∧gf d E=some E'∧∀ σ' F' H',Ok B F' H' σ' E'→Ext F H F' H'→Q σ' H'
structure Eg (X:Cx) (tg:Expr) (gf:D→DE→Option DE):Prop where
 h:PG X tg (tG gf)
section
variable {X:Cx}{pos:Pos}
theorem PI.by {tg iter:Expr}{wi:TI}{f:DE→Option (List D)} (h:PI X tg iter wi) (w:∀ σ H R,tIt f σ H R→wi σ H R):Ei X tg iter f:=⟨fun pins s σ H R I q=>h pins s σ H R I (w σ H R q)⟩
theorem PI.or {tg iter:Expr}{wi wi':TI} (h:PI X tg iter wi) (h':PI X tg iter wi'):PI X tg iter (fun σ H R=>wi σ H R∨wi' σ H R):=fun pins s σ H R I q=>q.elim (h pins s σ H R I) (h' pins s σ H R I)
theorem PG.by {tg:Expr}{t:TG}{gf:D→DE→Option DE} (h:PG X tg t) (w:∀ v σ H Q,tG gf v σ H Q→t v σ H Q):Eg X tg gf:=⟨fun pins s σ H v u Q I r q=>h pins s σ H v u Q I r (w v σ H Q q)⟩
noncomputable def nmG (i:Nat) (d:D) (E:DE):Option DE:=some (E.set i (.val d))
theorem au {i:Nat}{x:Str} (hN:X.N.Nodup) (hi:X.N[i]? = some x) (hx:Loc X.env.scope x) (hf:X.fn x=true∨X.env.scope.names.lookup x=some .local:=by first | exact .inl rfl | exact .inr rfl | assumption):Eg X (.Name x pos) (nmG i) :=
 PG.by (zc hN hi hx hf) fun v σ H Q ⟨B,F,E,d,E',k,r,q,w⟩=>by cases q; exact w _ F H (k.set_val r i) (Ext.refl k.sub)
noncomputable def tGs (gf:List D→DE→Option DE):TGs:=fun vs σ H Q=>∃ B F E ds E',Ok B F H σ E∧Reps F vs ds∧gf ds E=some E'∧∀ σ' F' H',Ok B F' H' σ' E'→Ext F H F' H'→Q σ' H'
structure Egs (X:Cx) (ts:List Expr) (gf:List D→DE→Option DE):Prop where
 h:PGs X ts (tGs gf)
noncomputable def ck (ds:List D) (E:DE):Option DE:=match ds with
 | []=>some E
 | _=>none
noncomputable def aN (g:D→DE→Option DE) (gs:List D→DE→Option DE) (ds:List D) (E:DE):Option DE:=match ds with
 | d :: r=>(g d E).bind fun E'=>gs r E'
 | _=>none
theorem cI:Egs X [] ck:=⟨fun pins s σ H vs us Q I r zz97_0=>by
 obtain ⟨B,F,E,ds,E',k,rd,q,w⟩:=zz97_0
 cases ds with
 | nil=>cases q; cases rd; exact zb pins s σ H [] us Q I r ⟨rfl,w σ F H k (Ext.refl k.sub)⟩
 | cons _ _=>cases q⟩
theorem aU {e:Expr}{es:List Expr}{g:D→DE→Option DE}{gs:List D→DE→Option DE} (h1:Eg X e g) (h2:Egs X es gs)
  (he:(assignEach (e :: es) X.env).map (·.2)=assign e X.env :: (assignEach es X.env).map (·.2):=by rfl):Egs X (e :: es) (aN g gs):=⟨fun pins s σ H vs us Q I r zz98_0=>by
 obtain ⟨B,F,E,ds,E',k,rd,q,w⟩:=zz98_0
 cases ds with
 | nil=>cases q
 | cons d ds =>
  cases rd with
  | @cons v _ vs _ r1 r2 =>
   unfold aN at q
   cases hg:g d E with
   | none=>simp [hg] at q
   | some E1 =>
    simp only [hg,Ef] at q
    refine wB h1.h h2.h he pins s σ H _ us Q I r ⟨v,vs,rfl,B,F,E,d,E1,k,r1,hg,fun σ1 F1 H1 k1 x1=>⟨B,F1,E1,ds,E',k1,r2.mono x1.fr,q,fun σ2 F2 H2 k2 x2=>w σ2 F2 H2 k2 (x1.trans x2)⟩⟩⟩
noncomputable def ci (n:Nat) (gs:List D→DE→Option DE) (d:D) (E:DE):Option DE:=match d with
 | .tup ds=>if ds.length=n then gs ds E else none
 | _=>none
theorem dy {es:List Expr}{kk:Nat}{gs:List D→DE→Option DE}{n:Nat} (hc:X.calm=true) (h:Egs X es gs) (hn:(assignEach es X.env).length=n:=by rfl) (hst:(assignEach es X.env).findIdx? (·.1)=none:=by rfl) :
  Eg X (.Tuple es kk pos) (ci n gs):=PG.by (Bi hc h.h hn hst) fun v σ H Q zz99_0=>by
 obtain ⟨B,F,E,d,E',k,r,q,w⟩:=zz99_0
 cases d with
 | tup ds =>
  have q':(if ds.length=n then gs ds E else none)=some E':=q
  by_cases hl:ds.length=n
  ·rw [if_pos hl] at q'
   cases r with
   | @tup a vs _ e rs=>exact ⟨a,vs,rfl,SqT.of (k.sub _ _ e),by rw [rs.length]; exact hl,B,F,E,ds,E',k,rs,q',w⟩
  ·rw [if_neg hl] at q'; cases q'
 | _=>cases q
end
noncomputable def kG (body:D→DE→Option Out):List D→DE→Option Out
 | [],E=>some (.nx E)
 | x :: xs,E=>(body x E).bind fun r=>match r with
  | .nx E'=>kG body xs E'
  | .ct E'=>kG body xs E'
  | .bk E'=>some (.nx E')
  | .rt d=>some (.rt d)
noncomputable def cR (fi:DE→Option (List D)) (gf:D→DE→Option DE) (fb:DE→Option Out) (E:DE):Option Out:=(fi E).bind fun xs=>kG (fun x E1=>(gf x E1).bind fb) xs E
section
variable {X:Cx}{pos:Pos}
theorem cr {tg iter:Expr}{body:List Stmt}{fi:DE→Option (List D)} {gf:D→DE→Option DE}{fb:DE→Option Out} (hp:PassesOwn (model X.prog X.w) X.A X.env X.xe) (hc:X.calm=true) (hi:Ei X tg iter fi) (hg:Eg X tg gf) (hb:Ess X body fb)
  (hs:∀ x,foldedSetIterable iter X.env x=pure x:=by intro _; rfl):Es X (.For tg iter body [] pos) (cR fi gf fb):=PS.by (wq hp hc hi.h hg.h hb.h hs) fun Z σ H zz100_0=>by
 obtain ⟨B,F,E,r,k,q,w⟩:=zz100_0
 unfold cR at q
 cases hf:fi E with
 | none=>simp [hf] at q
 | some xs =>
  simp only [hf,Ef] at q
  refine ⟨B,F,E,xs,k,hf,fun J F1 H1 x1 it=>?_⟩
  refine ⟨fun i m σ' H'=>∃ F' E',Ok B F' H' σ' E'∧Fr F1 F'∧i≤xs.length∧m=xs.length - i∧kG (fun x E1=>(gf x E1).bind fb) (xs.drop i) E'=some r,⟨_,F1,E,k.ext x1,fun _ _ e=>e,Nat.zero_le _,rfl,q⟩,?_⟩
  rintro i m σ' H' ⟨F',E',k',y,hi,rfl,ql⟩
  have fitF:yq B F' Z r:=w.mono fun a o e=>y a o (x1.fr a o e)
  obtain ⟨st,gn⟩:=it i F' H' y k'.sub
  by_cases hlt:i < xs.length
  ·right
   have hx:xs[i]? = some xs[i]:=by simp [hlt]
   obtain ⟨go,yl⟩:=gn _ hx
   rw [List.drop_eq_getElem_cons hlt] at ql
   unfold kG at ql
   refine ⟨go,fun σ2 H2=>∃ F2 E2,Ok B F2 H2 σ2 E2∧Fr F1 F2∧kG (fun x E1=>(gf x E1).bind fb) (xs.drop (i + 1)) E2=some r,?_,?_⟩
   ·rintro σ2 H2 ⟨F2,E2,k2,y2,q2⟩
    exact ⟨xs.length - (i + 1),by omega,F2,E2,k2,y2,hlt,rfl,q2⟩
   ·intro x H2 hy
    obtain ⟨F3,x3,r3⟩:=yl x H2 hy
    cases hgf:gf xs[i] E' with
    | none=>simp [hgf] at ql
    | some E3 =>
     cases hfb:fb E3 with
     | none=>simp [hgf,hfb] at ql
     | some r1 =>
      simp only [hgf,hfb,Ef] at ql
      have k3:=k'.ext x3
      refine ⟨B,F3,E',xs[i],E3,k3,r3,hgf,fun σ4 F4 H4 k4 x4=>⟨B,F4,E3,r1,k4,hfb,?_⟩⟩
      have y4:Fr F1 F4:=fun a o e=>x4.fr a o (x3.fr a o (y a o e))
      have f4:Fr F' F4:=fun a o e=>x4.fr a o (x3.fr a o e)
      cases r1 with
      | nx E5=>exact fun σ5 F5 H5 k5 y5=>⟨F5,E5,k5,fun a o e=>y5 a o (y4 a o e),ql⟩
      | ct E5=>exact fun σ5 F5 H5 k5 y5=>⟨F5,E5,k5,fun a o e=>y5 a o (y4 a o e),ql⟩
      | bk E5 =>
       simp only at ql
       cases ql
       exact fun σ5 F5 H5 k5 y5=>fitF σ5 F5 H5 k5 fun a o e=>y5 a o (f4 a o e)
      | rt d =>
       simp only at ql
       cases ql
       exact fitF
  ·left
   have e:i=xs.length:=by omega
   subst e
   refine ⟨st rfl,?_⟩
   rw [List.drop_length] at ql
   cases ql
   exact fitF σ' F' H' k' fun _ _ e=>e
end
noncomputable def aQ (js:List Nat) (E:DE):DE:=js.foldl (fun a j=>a.set j .no) E
theorem Ok.no {B:Hp×Hp}{F H:Hp} {σ:St}{E:DE} (k:Ok B F H σ E) (i:Nat):Ok B F H σ (E.set i .no):=by
 have bk:∀ (j:Nat) s,s ≠ Sl.no→(E.set i .no)[j]? = some s→E[j]? = some s:=fun j s hs h=>by
  rw [List.getElem?_set] at h
  split at h
  ·split at h
   ·simp at h; exact absurd h.symm hs
   ·simp at h
  ·exact h
 exact ⟨k.ent,by rw [List.length_set]; exact k.len,fun j d h=>k.val j d (bk j _ (by simp) h),fun j d h=>k.own j d (bk j _ (by simp) h),fun j l d e a hjl h1 h2=>k.sep j l d e a hjl (bk j _ (by simp) h1) (bk l _ (by simp) h2),
  let ⟨fp,q⟩:=k.ob; ⟨fp,q.to (fun _ _ e=>e) (fun j s h=>⟨bk j _ (by simp) h,rfl⟩) (fun j s h=>⟨bk j _ (by simp) h,rfl⟩) (fun j s h x hx=>⟨fun _ e=>e,(q.at_ j s (bk j _ (by simp) h)).2.2.2 x hx⟩) (fun j l s d b h1 h2=>q.sep j l s d b (bk j _ (by simp) h1) (bk l _ (by simp) h2))⟩⟩
theorem Ok.noS {B:Hp×Hp}{F H:Hp} {σ:St}{E:DE} (k:Ok B F H σ E) (i:Nat):Ok B F H (σ.set i none) (E.set i .no):=by
 have bk:∀ (j:Nat) s,s ≠ Sl.no→(E.set i .no)[j]? = some s→i ≠ j∧E[j]? = some s:=fun j s hs h=>by
  rw [List.getElem?_set] at h
  split at h
  ·split at h
   ·simp at h; exact absurd h.symm hs
   ·simp at h
  ·exact ⟨by assumption,h⟩
 refine ⟨k.ent,by rw [List.length_set,List.length_set]; exact k.len,fun j d h=>?_,fun j d h=>?_,fun j l d e a hjl h1 h2 h3 h4=>?_,?_⟩
 ·obtain ⟨n,h⟩:=bk j _ (by simp) h
  rw [List.getElem?_set_ne n]; exact k.val j d h
 ·obtain ⟨n,h⟩:=bk j _ (by simp) h
  rw [List.getElem?_set_ne n]; exact k.own j d h
 ·obtain ⟨n1,h1⟩:=bk j _ (by simp) h1
  obtain ⟨n2,h2⟩:=bk l _ (by simp) h2
  rw [List.getElem?_set_ne n1] at h3
  rw [List.getElem?_set_ne n2] at h4
  exact k.sep j l d e a hjl h1 h2 h3 h4
 ·obtain ⟨fp,q⟩:=k.ob
  exact ⟨fp,q.to (fun _ _ e=>e) (fun j s h=>⟨(bk j _ (by simp) h).2,List.getElem?_set_ne (bk j _ (by simp) h).1⟩) (fun j s h=>⟨(bk j _ (by simp) h).2,List.getElem?_set_ne (bk j _ (by simp) h).1⟩)
   (fun j s h x hx=>⟨fun _ e=>e,(q.at_ j s (bk j _ (by simp) h).2).2.2.2 x hx⟩) (fun j l s e b h1 h2 h3=>by
    obtain ⟨n2,h2⟩:=bk l _ (by simp) h2
    rw [List.getElem?_set_ne n2] at h3
    exact q.sep j l s e b (bk j _ (by simp) h1).2 h2 h3)⟩
theorem Ok.mask {B:Hp×Hp}{F H:Hp} {σ:St} (js:List Nat):∀ {E:DE},Ok B F H σ E→Ok B F H σ (aQ js E):=by
 induction js with
 | nil=>intro E k; exact k
 | cons j r ih=>intro E k; exact ih (k.no j)
theorem Ok.maskS {B:Hp×Hp}{F H:Hp} (js:List Nat):∀ {σ:St}{E:DE},Ok B F H σ E→Ok B F H (L2.maskS js σ) (aQ js E):=by
 induction js with
 | nil=>intro σ E k; exact k
 | cons j r ih=>intro σ E k; exact ih (k.noS j)
theorem Ok.withD {B:Hp×Hp}{F H:Hp} {σ:St}{E:DE} (k:Ok B F H σ E) {p:Addr}{o:HO} (hp:H p=none):Ok (B.1,upd B.2 p o) F (upd H p o) σ E:=by
 have nb:∀ a u,B.2 a=some u→a ≠ p:=fun a u e z=>by rw [z] at e; rw [k.ent.same p u e] at hp; cases hp
 obtain ⟨fp,m⟩:=k.ob
 have np:∀ (i:Nat) s,E[i]? = some (.obj s)→∀ x ∈ fp i,x ≠ p:=fun i s h x hx z=>(m.at_ i s h).2.1.dom x hx (by rw [z]; exact hp)
 refine ⟨⟨fun a u e=>?_,k.ent.fr,fun a u e=>?_,fun a e n=>?_⟩,k.len,k.val,fun i d h=>?_,k.sep,
  fp,m.to (fun _ _ e=>e) (fun i s h=>⟨h,rfl⟩) (fun i s h=>⟨h,rfl⟩) (fun i s h x hx=>⟨fun u e=>by rw [ah (np i s h x hx)]; exact e,((m.at_ i s h).2.2.2 x hx).1,by show upd B.2 p o x=none; rw [ah (np i s h x hx)]; exact ((m.at_ i s h).2.2.2 x hx).2⟩) m.sep⟩
 ·by_cases ha:a=p
  ·subst ha
   have e':upd B.2 a o a=some u:=e
   rw [ap] at e' ⊢; exact e'
  ·have e':upd B.2 p o a=some u:=e
   rw [ah ha] at e' ⊢; exact k.ent.same a u e'
 ·rw [ah (bG (k.sub a u e) hp)]; exact k.sub a u e
 ·by_cases ha:a=p
  ·subst ha; exact nofr k.sub hp
  ·refine k.ent.new a e fun z=>n ?_
   show upd B.2 p o a=none
   rw [ah ha]; exact z
 ·obtain ⟨a,u,h1,h2,h3,h4,h5⟩:=k.own i d h
  have ha:a ≠ p:=bG h2 hp
  exact ⟨a,u,h1,by rw [ah ha]; exact h2,h3,by show upd B.2 p o a=none; rw [ah ha]; exact h4,h5⟩
theorem Ok.stepD {B1 B2 F H:Hp} {σ:St}{E:DE}{p:Addr}{o o':HO} (k:Ok (B1,upd B2 p o) F H σ E) (hb:B1 p=none):Ok (B1,upd B2 p o') F (upd H p o') σ E:=by
 have fp:F p=none:=k.ent.new p hb (by show upd B2 p o p ≠ none; rw [ap]; simp)
 obtain ⟨fq,m⟩:=k.ob
 have np:∀ (i:Nat) s,E[i]? = some (.obj s)→∀ x ∈ fq i,x ≠ p:=fun i s h x hx z=>by
  have q:upd B2 p o x=none:=((m.at_ i s h).2.2.2 x hx).2
  rw [z,ap] at q; cases q
 refine ⟨⟨fun a u e=>?_,k.ent.fr,fun a u e=>?_,fun a e n=>?_⟩,k.len,k.val,fun i d h=>?_,k.sep,
  fq,m.to (fun _ _ e=>e) (fun i s h=>⟨h,rfl⟩) (fun i s h=>⟨h,rfl⟩) (fun i s h x hx=>⟨fun u e=>by rw [ah (np i s h x hx)]; exact e,((m.at_ i s h).2.2.2 x hx).1,by
   have q:upd B2 p o x=none:=((m.at_ i s h).2.2.2 x hx).2
   rw [ah (np i s h x hx)] at q
   show upd B2 p o' x=none
   rw [ah (np i s h x hx)]; exact q⟩) m.sep⟩
 ·by_cases ha:a=p
  ·subst ha
   have e':upd B2 a o' a=some u:=e
   rw [ap] at e' ⊢; exact e'
  ·have e':upd B2 p o' a=some u:=e
   rw [ah ha] at e' ⊢
   exact k.ent.same a u (by show upd B2 p o a=some u; rw [ah ha]; exact e')
 ·rw [ah (fun z=>by rw [z,fp] at e; cases e)]; exact k.sub a u e
 ·by_cases ha:a=p
  ·subst ha; exact fp
  ·have n':upd B2 p o' a ≠ none:=n
   rw [ah ha] at n'
   exact k.ent.new a e (by show upd B2 p o a ≠ none; rw [ah ha]; exact n')
 ·obtain ⟨a,u,h1,h2,h3,h4,h5⟩:=k.own i d h
  have ha:a ≠ p:=fun z=>by
   have h4':upd B2 p o a=none:=h4
   rw [z,ap] at h4'; cases h4'
  have h4':upd B2 p o a=none:=h4
  rw [ah ha] at h4'
  exact ⟨a,u,h1,by rw [ah ha]; exact h2,h3,by show upd B2 p o' a=none; rw [ah ha]; exact h4',h5⟩
theorem Ext.stepD {F H F' H':Hp}{p:Addr}{o o':HO} (x:Ext F (upd H p o) F' H') (hf:F p=none):Ext F (upd H p o') F' (upd H' p o'):=by
 have fp:F' p=none:=x.new p hf (by rw [ap]; simp)
 refine ⟨fun a u e=>?_,x.fr,fun a u e=>?_,fun a e n=>?_⟩
 ·by_cases ha:a=p
  ·subst ha; rw [ap] at e ⊢; exact e
  ·rw [ah ha] at e ⊢; exact x.same a u (by rw [ah ha]; exact e)
 ·rw [ah (fun z=>by rw [z,fp] at e; cases e)]; exact x.sub a u e
 ·by_cases ha:a=p
  ·subst ha; exact fp
  ·rw [ah ha] at n
   exact x.new a e (by rw [ah ha]; exact n)
noncomputable def bu (gf:D→DE→Option DE) (cf:DE→Option Bool) (ef:DE→Option D) (E:DE):List D→Option (List D)
 | []=>some []
 | x :: xs=>(gf x E).bind fun E1=>(cf E1).bind fun b=>if b=true then (ef E1).bind fun y=>(bu gf cf ef E xs).map fun ys=>y :: ys else bu gf cf ef E xs
noncomputable def aD (js:List Nat) (fi:DE→Option (List D)) (gf:D→DE→Option DE) (cf:DE→Option Bool) (ef:DE→Option D) (E:DE):Option D :=
 (fi E).bind fun xs=>if xs.length≤sizeLine then (bu gf cf ef (aQ js E) xs).map D.lst else none
noncomputable def lc (js:List Nat) (gf:D→DE→Option DE):Prop:=∀ d E E1,gf d (aQ js E)=some E1→aQ js E1=aQ js E
theorem mE {js:List Nat}{fi:DE→Option (List D)} {gf:D→DE→Option DE}{cf:DE→Option Bool}{ef:DE→Option D} (hj:lc js gf) (σ:St) (H:Hp) (Q:VK)
  (h:tM .F (aD js fi gf cf ef) σ H Q):vS js (tIt fi) (tG gf) (tT cf) (tM .V ef) σ H Q:=by
 refine Classical.byContradiction fun hn=>?_
 obtain ⟨B,F,E,d,k,q,w⟩:=h
 unfold aD at q
 cases hf:fi E with
 | none=>simp [hf] at q
 | some xs =>
  simp only [hf,Ef] at q
  split at q
  ·rename_i hz
   cases hq:bu gf cf ef (aQ js E) xs with
   | none=>simp [hq] at q
   | some ys =>
    rw [hq] at q
    cases q
    refine hn ⟨B,F,E,xs,k,hf,fun J F1 H1 x1 it p hp=>?_⟩
    have k1:=k.ext x1
    have f1p:F1 p=none:=nofr x1.sub hp
    have b1p:B.1 p=none:=by
     cases z:B.1 p with
     | none=>rfl
     | some u=>rw [k1.ent.fr p u z] at f1p; cases f1p
    refine ⟨fun i m σ' H'=>∃ F' vs dn rs,Ok (B.1,upd B.2 p (.lst vs)) F' H' σ' (aQ js E)∧Ext F1 (upd H1 p (.lst vs)) F' H'∧Reps F' vs dn∧i≤xs.length∧m=xs.length - i∧vs.length≤i∧bu gf cf ef (aQ js E) (xs.drop i)=some rs∧ys=dn ++ rs,
     ⟨_,F1,[],[],ys,((k1.maskS js).withD hp),Ext.refl fun a o e=>by rw [ah (bG (x1.sub a o e) hp)]; exact x1.sub a o e,.nil,Nat.zero_le _,rfl,Nat.le_refl _,hq,rfl⟩,?_⟩
    intro i m σ' H' hw
    refine Classical.byContradiction fun hn=>?_
    obtain ⟨F',vs,dn,rs,k',x',rp,hi,rfl,hvi,hl,rfl⟩:=hw
    obtain ⟨st,gn⟩:=it i F' H' x'.fr x'.sub
    have hHp:H' p=some (.lst vs):=x'.same p _ ap
    by_cases hlt:i < xs.length
    ·have hx:xs[i]? = some xs[i]:=by simp [hlt]
     obtain ⟨go,yl⟩:=gn _ hx
     refine hn (.inr ⟨go,fun x H2 hy=>?_⟩)
     clear hn
     refine Classical.byContradiction fun hn=>?_
     obtain ⟨F3,x3,r3⟩:=yl x H2 hy
     rw [List.drop_eq_getElem_cons hlt] at hl
     unfold bu at hl
     cases h1:gf xs[i] (aQ js E) with
     | none=>simp [h1] at hl
     | some E1 =>
      cases h2:cf E1 with
      | none=>simp [h1,h2] at hl
      | some b =>
       simp only [h1,h2,Ef] at hl
       refine hn ⟨_,F3,_,xs[i],E1,k'.ext x3,r3,h1,fun σ4 F4 H4 k4 x4=>⟨_,F4,E1,b,k4,h2,fun F5 H5 x5=>?_⟩⟩
       clear hn
       refine Classical.byContradiction fun hn=>?_
       have x45:=(x3.trans x4).trans x5
       cases b with
       | false =>
        simp only [Bool.false_eq_true,if_false] at hl
        refine hn (uV ⟨xs.length - (i + 1),by omega,F5,vs,dn,rs,?_,x'.trans x45,rp.mono x45.fr,hlt,rfl,by omega,hl,rfl⟩)
        have kk:=(k4.ext x5).mask js
        rw [hj _ _ _ h1] at kk
        exact kk
       | true =>
        cases h3:ef E1 with
        | none=>simp [h3] at hl
        | some y =>
         cases h4:bu gf cf ef (aQ js E) (xs.drop (i + 1)) with
         | none=>simp [h3,h4] at hl
         | some zs =>
          simp only [h3,h4,Ef,if_true,Ej] at hl
          cases hl
          refine hn (uU ⟨_,F5,E1,y,k4.ext x5,h3,fun v F6 H6 x6 r6=>⟨vs,(x45.trans x6).same p _ hHp,by omega,xs.length - (i + 1),by omega,F6,vs ++ [v],dn ++ [y],zs,?_,?_,?_,hlt,rfl,by rw [List.length_append]; simp; omega,h4,by simp⟩⟩)
          ·have kk:=((k4.ext x5).ext x6).mask js
           rw [hj _ _ _ h1] at kk
           exact kk.stepD b1p
          ·exact (x'.trans (x45.trans x6)).stepD f1p
          ·exact (rp.mono (x45.trans x6).fr).append (.cons r6 .nil)
    ·have e:i=xs.length:=by omega
     subst e
     refine hn (.inl ⟨st rfl,?_⟩)
     rw [List.drop_length] at hl
     cases hl
     refine w _ F' H' (x1.trans ((Ext.lay x1.sub hp).trans x')) ⟨p,_,rfl,x1.nofree hp,hHp,x'.new p f1p (by rw [ap]; simp),?_⟩
     rw [List.append_nil]
     exact rp
  ·cases q
noncomputable def noT (_:DE):Option Bool:=some true
theorem uB (σ:St) (H:Hp) (Q:Bool→Hp→Prop) (h:tT noT σ H Q):Aj σ H Q:=by
 obtain ⟨B,F,E,b,k,q,w⟩:=h
 cases q
 exact w F H (Ext.refl k.sub)
structure Ah (X:Cx) (ifs:List Expr) (f:DE→Option Bool):Prop where
 h:vx X ifs (tT f)
theorem a9 {X:Cx}:Ah X [] noT:=⟨fun pins s σ H Q I h=>wv pins s σ H Q I (uB σ H Q h)⟩
theorem xV {X:Cx}{c:Expr}{f:DE→Option Bool} (h:Et X c f):Ah X [c] f:=⟨wu h.h⟩
section
variable {X:Cx}{scope:Scope}{js:List Nat}{elt tg iter:Expr}{ifs:List Expr}{pos:Pos}{fi:DE→Option (List D)} {gf:D→DE→Option DE}{cf:DE→Option Bool}{ef:DE→Option D}
theorem bj (b:Blk X scope js) (hc:X.calm=true) (hI:Ei X tg iter fi) (hj:lc js gf) (hg:∀ C fp s0 H0,Eg (bY X scope C fp s0 H0) tg gf) (hi:∀ C fp s0 H0,Ah (bY X scope C fp s0 H0) ifs cf)
  (he:∀ C fp s0 H0,Ev (bY X scope C fp s0 H0) .V elt ef) (hs:∀ x,foldedSetIterable iter X.env x=pure x:=by intro _; rfl):Ev X .F (.ListComp elt [⟨tg,iter,ifs,0⟩] scope pos) (aD js fi gf cf ef) :=
 PE.by (zg b hc hI.h (fun C fp s0 H0=>(hg C fp s0 H0).h) (fun C fp s0 H0=>(hi C fp s0 H0).h) (fun C fp s0 H0=>(he C fp s0 H0).h) hs) (mE hj)
end
noncomputable def yg (sc:Scope) (N:List Str) (scope:Scope) (js:List Nat):Bool :=
 decide (scope.kind=.function) && scope.names.all (fun y=>decide (y.2 ≠ NameKind.cell)) && scope.names.all (fun y=>decide (y.2=NameKind.local→scope.names.lookup y.1=some NameKind.local)) &&
 scope.names.all (fun y=>decide (y.2=NameKind.free→sc.names.lookup y.1=some NameKind.cell∨sc.names.lookup y.1=some NameKind.free)) &&
 (List.range N.length).all (fun i=>decide (((N[i]?).bind fun x=>scope.names.lookup x)=some NameKind.local→i ∈ js))
theorem Blk.of {X:Cx}{sc:Scope}{N:List Str}{scope:Scope}{js:List Nat} (h:yg sc N scope js=true) (h1:X.env.scope=sc) (h2:X.N=N):Blk X scope js:=by
 unfold yg at h
 simp only [Bool.and_eq_true,List.all_eq_true,decide_eq_true_eq] at h
 obtain ⟨⟨⟨⟨a,b⟩,c⟩,d⟩,e⟩:=h
 refine ⟨a,b,c,fun y hy hk=>?_,fun i x hi hx=>?_⟩
 ·show X.env.scope.names.lookup y.1=_∨X.env.scope.names.lookup y.1=_
  rw [h1]; exact d y hy hk
 ·rw [h2] at hi
  refine e i (List.mem_range.mpr (List.getElem?_eq_some_iff.mp hi).1) ?_
  rw [hi]; exact hx
theorem aY {i:Nat}:lc [i] (nmG i):=fun d E E1 h=>by
 cases h
 show (((E.set i .no).set i (.val d)).set i .no)=E.set i .no
 rw [List.set_set,List.set_set]
end L2.Cu
namespace L2
open PySem PySem.Spec PyProof.Rows
noncomputable def Its (x:Str):It:=⟨fun i _=>i < x.cps.size,fun i H v H'=>H'=H∧∃ c,x.cps[i]? = some c∧v=.str ⟨#[c]⟩,fun i _=>i=x.cps.size⟩
theorem ou {P:Program}{w:World}{K:PySem.W.Frag}{y:Str}{py:Pos}{x:Str}{t:Tok}{ty:String}{it:Addr}
  (W:∀ A:Around,A.handled=none→Walks P w A it [it] [it] x.cps.size (SignAt x) (fun i h=>h.IsStrIter it ty x t i)) (hself:∀ (A:Around) (i:Nat) (s:Shared) (Q:Value→Shared→Prop) (E:Value→Shared→Prop),s.heap.IsStrIter it ty x t i→Q (.ref it) s→wpAny (model P w) A (pyIter (.ref it)) Q E s) :
  lD P w K (.Name y py) (Its x) [it] it (fun i h=>h.IsStrIter it ty x t i) where
 mem:=by simp
 obj:=fun i h st b hb=>by
  have e:b=it:=by simpa using hb
  subst e
  obtain ⟨o,ho,_,hd⟩:=st
  exact ⟨o,ho,fun v z=>by rw [hd] at z; cases z⟩
 keep:=fun i h h' st k=>by
  obtain ⟨o,ho,r⟩:=st
  exact ⟨o,k it (by simp) o ho,r⟩
 item:=by
  intro X hP hw hK hc i pins s σ H E I hf st hg
  subst hP hw hK
  obtain ⟨f0,f1,f2,f3,f4,f5⟩:=hf it (by simp)
  refine (W _ (I.ok.hd hc)).item i s _ _ hg st fun v h' tk hv st' kk=>?_
  obtain ⟨c,u,hcc,rfl⟩:=hv
  have I1:Inv X pins σ H { s with heap:=h',toks:=tk }:=I.turned (fun b o hb e=>kk b o (by simpa using hb) e) f0 f1 f3 f4 f5
  exact ⟨_,rfl,wpAny_pure ⟨.str ⟨#[c]⟩,H,I1,⟨u,rfl⟩,⟨rfl,c,hcc,rfl⟩,st',fun b hb=>(hf b hb).1⟩⟩
 done:=by
  intro X hP hw hK hc i pins s σ H E I hf st hg
  subst hP hw hK
  obtain ⟨f0,f1,f2,f3,f4,f5⟩:=hf it (by simp)
  have hi:i=x.cps.size:=hg
  subst hi
  exact (W _ (I.ok.hd hc)).done s _ _ st fun h' tk kk=>⟨rfl,I.turned (fun b o hb e=>kk b o (by simpa using hb) e) f0 f1 f3 f4 f5⟩
 self:=hself
noncomputable def D2 (tl:TE):TI:=fun σ H R=>tl σ H fun v H1=>∃ x,v=.str x∧R (Its x) H1
theorem Bh {X:Cx}{y:Str}{py:Pos}{l:Expr}{tl:TE} (hl:PE X l tl):PI X (.Name y py) l (D2 tl):=by
 intro pins s σ H R I h
 refine thn (hl pins s σ H _ I h) fun u s1 zz101_0=>?_
 obtain ⟨v,H1,I1,r1,x,e,q⟩:=zz101_0
 subst e
 obtain ⟨t,rfl⟩:=r1
 have ht:H1 s1.heap.objs.size=none:=I1.hok.fresh (Nat.le_refl _)
 cases ha:x.cps.all (· < 128)
 ·refine wpAny_pyIter_wide ha ?_
  refine ⟨s1.heap.objs.size,[s1.heap.objs.size],_,Its x,H1,rfl,I1.kept (t':=s1.toks) fun b o e=>Heap.get?_push_of_some _ e,ou (t:=t) (ty := "str_iterator") (fun A hA=>Walks.strWide hA _ x t) (fun A i s Q E st hQ=>wpAny_pyIter_striter_wide st hQ),⟨_,Heap.get?_push_size _ rfl,rfl,rfl⟩,fun b hb=>?_,q⟩
  have e:b=s1.heap.objs.size:=by simpa using hb
  subst e
  exact I1.fpOk (Nat.le_refl _) ht
 ·refine wpAny_pyIter_ascii ha ?_
  refine ⟨s1.heap.objs.size,[s1.heap.objs.size],_,Its x,H1,rfl,I1.kept (t':=s1.toks) fun b o e=>Heap.get?_push_of_some _ e,ou (t:=t) (ty := "str_ascii_iterator") (fun A hA=>Walks.strAscii hA _ x t) (fun A i s Q E st hQ=>wpAny_pyIter_striter_ascii st hQ),⟨_,Heap.get?_push_size _ rfl,rfl,rfl⟩,fun b hb=>?_,q⟩
  have e:b=s1.heap.objs.size:=by simpa using hb
  subst e
  exact I1.fpOk (Nat.le_refl _) ht
section
variable {X:Cx}
theorem zj:OpR X (binaryOp .Mult) (rI (fun i j=>Builtin.Int.intBits i≤2 ^ 20∧Builtin.Int.intBits j≤2 ^ 20) fun i j=>.int (i * j)):=opI fun _ _ _ _ _ _ _ hc q=>mul_int q (IntMulOk.of_bits hc.1 hc.2)
theorem wN:OpR X (binaryOp .FloorDiv) (rI (fun _ j=>0 < j∧j.natAbs.log2 < 9000) fun i j=>.int (i / j)):=opI fun i j _ _ _ _ _ hc q=>by
 refine floordiv_int (by omega) ?_ (.inl (PyProof.noPylong_of_log2 hc.2))
 rw [Int.fdiv_eq_ediv_of_nonneg _ (by omega)]
 exact q
theorem ut:OpR X (compareOp .LtE) (fun x y H Q=>∃ i j,x=.str i∧y=.str j∧Q (.bl (!decide (j.cps.toList < i.cps.toList))) H):=by
 intro pins s σ H x y v u Q I rx ry h
 obtain ⟨i,j,rfl,rfl,q⟩:=h
 obtain ⟨t,rfl⟩:=rx
 obtain ⟨t',rfl⟩:=ry
 exact PySem.P.le_str ⟨.bl _,H,I,rfl,q⟩
theorem AU:SlR X (fun x lo hi H Q=>∃ z,x=.str z∧z.length≤sizeLine∧Q (.str (Txt.slice z lo hi)) H):=by
 intro pins s σ H x v vl vu lo hi sl Q I rx hs pl pu h
 obtain ⟨z,rfl,hz,q⟩:=h
 obtain ⟨t,rfl⟩:=rx
 refine ⟨"str",_,F.slot_str_getitem.lookup,typeIs_str _ _ _,?_⟩
 have fin:∀ (l u:Option (Int×Tok)),l.map (·.1)=lo→u.map (·.1)=hi→s.heap.IsSlice sl l u none→wpAny (model X.prog X.w) X.A (getItem (.str z t) (.ref sl)) (EP X pins σ Q) X.xe s:=by
  intro l u hl hu hsl
  refine wpAny_getItem_str_slice hsl rfl ?_
  unfold sliceMade slicePicked
  rw [hl,hu]
  have e:Txt.slice z lo hi=if ((1:Int) == 1 && (Builtin.Str.strSliceIndices lo hi 1 z.length).length == z.length)=true then z else ⟨((Builtin.Str.strSliceIndices lo hi 1 z.length).filterMap (z.cps[·]?)).toArray⟩:=rfl
  rw [e] at q
  show (if ((1:Int) == 1 && (Builtin.Str.strSliceIndices lo hi 1 z.length).length == z.length)=true then Made.val (.str z t) else Made.str ⟨((Builtin.Str.strSliceIndices lo hi 1 z.length).filterMap (z.cps[·]?)).toArray⟩).post _ s
  by_cases hc:((1:Int) == 1 && (Builtin.Str.strSliceIndices lo hi 1 z.length).length == z.length)=true
  ·rw [if_pos hc] at q ⊢
   exact ⟨.str z,H,I,⟨t,rfl⟩,q⟩
  ·rw [if_neg hc] at q ⊢
   have hlen:(⟨((Builtin.Str.strSliceIndices lo hi 1 z.length).filterMap (z.cps[·]?)).toArray⟩:Str).length≤sizeLine:=by
    show ((Builtin.Str.strSliceIndices lo hi 1 z.length).filterMap (z.cps[·]?)).toArray.size≤sizeLine
    rw [List.size_toArray]
    exact Nat.le_trans (List.length_filterMap_le _ _) (Nat.le_trans (sliceIndices_le lo hi z.length) hz)
   refine ⟨hlen,?_⟩
   exact ⟨.str _,H,I.tok _,⟨_,rfl⟩,q⟩
 obtain ⟨o,ho,hc,hd⟩:=hs
 cases pl with
 | none =>
  cases pu with
  | none=>exact fin none none rfl rfl ⟨o,ho,hc,hd⟩
  | int j u=>exact fin none (some (j,u)) rfl rfl ⟨o,ho,hc,hd⟩
 | int i t' =>
  cases pu with
  | none=>exact fin (some (i,t')) none rfl rfl ⟨o,ho,hc,hd⟩
  | int j u=>exact fin (some (i,t')) (some (j,u)) rfl rfl ⟨o,ho,hc,hd⟩
theorem AN (A:Around) (its:Array Value) (bs:List Bool) (h:its.toList=bs.map Value.bool) (prog:Program) (w:World):TruthOf prog w A (fun i v=>its[i]? = some v) (fun i=>bs.getD i false):=by
 intro i v s Q E hv hq
 have e:its.toList[i]? = some v:=by simpa using hv
 rw [h,List.getElem?_map] at e
 cases hb:bs[i]? with
 | none=>rw [hb] at e; cases e
 | some b =>
  rw [hb] at e
  cases e
  have:bs.getD i false=b:=by rw [List.getD_eq_getElem?_getD,hb]; rfl
  have hq':Q (bs.getD i false) s:=hq
  rw [this] at hq'
  exact wpAny_truthy_bool hq'
theorem uf (bs:List Bool):(List.range bs.length).all (fun i=>bs.getD i false)=bs.all id:=by
 have e:(List.range bs.length).map (fun i=>bs.getD i false)=bs:=by
  refine List.ext_getElem (by simp) fun i h1 h2=>?_
  simp [List.getElem?_eq_getElem h2]
 have:=congrArg (fun l=>l.all id) e
 simpa [List.all_map,Function.comp_def] using this
theorem om:∀ {bs:List Bool}{its:List Value},aZ (bs.map V.bl) its→its=bs.map Value.bool
 := fun {bs its} z=>by
  cases bs with
  | nil=>cases z; rfl
  | cons b bs =>
   cases z with
   | cons r t =>
    have e:_=Value.bool b:=r
    rw [e,om t]; rfl
theorem yd (hc:X.calm=true):dj X (.builtin "all") (fun xs H Q=>∃ (a:Addr) (bs:List Bool),xs=[.ref a]∧H a=some (.lst (bs.map V.bl))∧Q (.bl (bs.all id)) H):=by
 intro pins s σ H xs us Q I r h
 obtain ⟨a,bs,rfl,ha,q⟩:=h
 obtain ⟨u,rfl,ru⟩:=jZ r
 obtain rfl:u=Value.ref a:=ru
 obtain ⟨z,its,n,rv,hl,e⟩:=I.lstM ha
 have hit:=om rv
 have hL:s.heap.IsList a its.toArray:=⟨_,e,rfl,n,rfl⟩
 have hlt:a < s.heap.objs.size:=Heap.lt_size e
 have hh:X.A.in1.handled=none:=I.ok.hd hc
 have st0:(s.heap.push { cls:=.type "list_iterator",data:=.fields #[.ref a,.int 0 0] }).IsListIter s.heap.objs.size a 0∧(s.heap.push { cls:=.type "list_iterator",data:=.fields #[.ref a,.int 0 0] }).IsList a its.toArray:=⟨⟨_,Heap.get?_push_size _ rfl,rfl,rfl⟩,⟨_,Heap.get?_push_of_some _ e,rfl,n,rfl⟩⟩
 refine call_all_walk (wpAny_pyIter_list hL ⟨_,_,_,_,_,_,_,rfl,Walks.list (A:=X.A.in1) hh _ a (Nat.ne_of_lt hlt) its.toArray,st0,AN _ its.toArray bs (by simpa using hit) _ _,fun h' tk hk=>?_⟩)
 have hn:its.toArray.size=bs.length:=by rw [List.size_toArray,← hl,List.length_map]
 rw [hn,uf]
 exact ⟨.bl _,H,I.kept (t':=tk) fun b o eo=>hk b o (by simpa using Nat.ne_of_lt (Heap.lt_size eo)) (Heap.get?_push_of_some _ eo),rfl,q⟩
theorem qd:dj X (.builtin "isinstance") (fun xs H Q=>∃ x T t b,xs=[x,.ty T]∧ik X.K H x t∧PySem.W.kitOne X.K t (.type T)=some b∧Q (.bl b) H):=by
 intro pins s σ H xs us Q I r h
 obtain ⟨x,T,t,b,rfl,ty,e,q⟩:=h
 obtain ⟨u,w',rfl,ru,rw'⟩:=Ai r
 obtain rfl:w'=Value.type T:=rw'
 exact uW I ru ty e fun tk=>⟨.bl b,H,I.tok tk,rfl,q⟩
end
end L2
namespace L2.Cu
open PySem PySem.Spec PyProof.Rows
section
variable {F H:Hp}{v:V}
theorem OB.int {i:Int} (r:OB F H v (.int i)):v=.int i:=by
 rcases r with r | ⟨a,o,h1,h2,h3⟩
 ·cases r; rfl
 ·cases o <;> exact False.elim h3
theorem OB.bl {i:Bool} (r:OB F H v (.bl i)):v=.bl i:=by
 rcases r with r | ⟨a,o,h1,h2,h3⟩
 ·cases r; rfl
 ·cases o <;> exact False.elim h3
theorem OB.str {i:Str} (r:OB F H v (.str i)):v=.str i:=by
 rcases r with r | ⟨a,o,h1,h2,h3⟩
 ·cases r; rfl
 ·cases o <;> exact False.elim h3
theorem OB.non (r:OB F H v .non):v=.non:=by
 rcases r with r | ⟨a,o,h1,h2,h3⟩
 ·cases r; rfl
 ·cases o <;> exact False.elim h3
theorem OB.lst {ds:List D} (s:∀ a u,F a=some u→H a=some u) (r:OB F H v (.lst ds)):∃ a vs,v=.ref a∧H a=some (.lst vs)∧Reps F vs ds:=by
 rcases r with r | ⟨a,o,h1,h2,h3⟩
 ·cases r with
  | lst e rs=>exact ⟨_,_,rfl,s _ _ e,rs⟩
 ·cases o with
  | lst vs=>exact ⟨a,vs,h1,h2,h3⟩
  | _=>exact False.elim h3
theorem qK {H H':Hp}{a:Addr}{u:HO} (h:∀ a o,H a=some o→H' a=some o) (r:Rd H a u):Rd H' a u:=r.elim (fun e=>.inl (h _ _ e)) fun zz102_0=>by obtain ⟨o,e⟩:=zz102_0; exact .inr ⟨o,h _ _ e⟩
theorem jV {H:Hp}{a:Addr}{kvs:List (Key×V)} {k:Key} (e:Rd H a (.dK kvs)):jp H a (kV k) (c6 kvs k):=.inl ⟨kvs,k,e,rfl,rfl⟩
theorem OB.dic {ds:List (Key×D)} (s:∀ a u,F a=some u→H a=some u) (r:OB F H v (.dic ds)):∃ a vs,v=.ref a∧Rd H a (.dK vs)∧RepK F vs ds:=by
 rcases r with r | ⟨a,o,h1,h2,h3⟩
 ·cases r with
  | dic e rs=>exact ⟨_,_,rfl,.inr ⟨_,s _ _ e⟩,rs⟩
 ·cases o with
  | dK vs=>exact ⟨a,vs,h1,.inl h2,h3⟩
  | _=>exact False.elim h3
theorem OB.tup {ds:List D} (r:OB F H v (.tup ds)):∃ a vs,v=.ref a∧F a=some (.tup vs)∧Reps F vs ds:=by
 rcases r with r | ⟨a,o,h1,h2,h3⟩
 ·cases r with
  | tup e rs=>exact ⟨_,_,rfl,e,rs⟩
 ·cases o <;> exact False.elim h3
theorem OB.scr {ns:List Int} (r:OB F H v (.scr ns)):∃ a o,v=.ref a∧F a=some (.frz o (.lst (ns.map V.int))):=by
 rcases r with r | ⟨a,o,h1,h2,h3⟩
 ·cases r with
  | scr e=>exact ⟨_,_,rfl,e⟩
 ·cases o <;> exact False.elim h3
end
noncomputable def a5:D→Option (List D)
 | .lst xs=>some xs
 | .tup xs=>some xs
 | _=>none
noncomputable def fY (x:Str):List D:=x.cps.toList.map fun c=>.str ⟨#[c]⟩
noncomputable def aX:D→Option (List D)
 | .lst xs=>some xs
 | .tup xs=>some xs
 | .str x=>some (fY x)
 | _=>none
noncomputable def aP (o:D→Option (List D)) (f:DE→Option D) (E:DE):Option (List D):=(f E).bind o
section
variable {X:Cx}{e:Expr}{pos:Pos}
theorem xn {K:PySem.W.Frag}{F:Hp}{a:Addr}{vs:List V}{ds:List D} (h:F a=some (.lst vs)) (r:Reps F vs ds):oa F (Itl K a) ds:=by
 intro i F2 H2 y s
 have q:SqL K H2 a vs:=SqL.of (s _ _ (y _ _ h))
 refine ⟨fun hl=>⟨vs,q,by rw [r.length,hl]; exact Nat.le_refl _⟩,fun d hd=>?_⟩
 obtain ⟨v,hv,rv⟩:=r.get hd
 refine ⟨⟨vs,v,q,hv⟩,fun x H' yl=>?_⟩
 obtain ⟨rfl,yl⟩:=yl
 have e2:=yl vs q
 rw [hv] at e2
 cases e2
 exact ⟨F2,Ext.refl s,rv.mono y⟩
theorem xl {K:PySem.W.Frag}{F:Hp}{a:Addr}{vs:List V}{ds:List D} (h:F a=some (.tup vs)) (r:Reps F vs ds):oa F (Itt K a) ds:=by
 intro i F2 H2 y s
 have q:SqT K H2 a vs:=SqT.of (s _ _ (y _ _ h))
 refine ⟨fun hl=>⟨vs,q,by rw [r.length,hl]; exact Nat.le_refl _⟩,fun d hd=>?_⟩
 obtain ⟨v,hv,rv⟩:=r.get hd
 refine ⟨⟨vs,v,q,hv⟩,fun x H' yl=>?_⟩
 obtain ⟨rfl,yl⟩:=yl
 have e2:=yl vs q
 rw [hv] at e2
 cases e2
 exact ⟨F2,Ext.refl s,rv.mono y⟩
theorem BM {F:Hp} (x:Str):oa F (Its x) (fY x):=by
 intro i F2 H2 y s
 have hl:(fY x).length=x.cps.size:=by simp [fY]
 refine ⟨fun h=>by rw [hl] at h; exact h.symm,fun d hd=>?_⟩
 unfold fY at hd
 rw [List.getElem?_map] at hd
 cases hc:x.cps.toList[i]? with
 | none=>rw [hc] at hd; cases hd
 | some c =>
  rw [hc] at hd
  cases hd
  have hlt:i < x.cps.size:=by
   have:=(List.getElem?_eq_some_iff.mp hc).1
   simpa using this
  have hc':x.cps[i]? = some c:=by simpa using hc
  refine ⟨hlt,fun z H' yl=>?_⟩
  obtain ⟨rfl,c',h1,h2⟩:=yl
  rw [hc'] at h1
  cases h1
  subst h2
  exact ⟨F2,Ext.refl s,.str _⟩
theorem kU {tg:Expr}{f:DE→Option D} (h:Ev X .V e f):Ei X tg e (aP a5 f):=PI.by (PI.or (sr h.h) (wz h.h)) fun σ H R zz103_0=>by
 obtain ⟨B,F,E,xs,k,q,w⟩:=zz103_0
 unfold aP at q
 cases hf:f E with
 | none=>simp [hf] at q
 | some d =>
  simp only [hf,Ef] at q
  cases d with
  | lst ds =>
   cases q
   refine .inl ⟨B,F,E,_,k,hf,fun v F' H' x r=>?_⟩
   cases r with
   | lst e rs=>exact ⟨_,rfl,⟨_,SqL.of (x.sub _ _ e)⟩,w _ F' H' x (xn e rs)⟩
  | tup ds =>
   cases q
   refine .inr ⟨B,F,E,_,k,hf,fun v F' H' x r=>?_⟩
   cases r with
   | tup e rs=>exact ⟨_,rfl,⟨_,SqT.of (x.sub _ _ e)⟩,w _ F' H' x (xl e rs)⟩
  | _=>cases q
theorem bW {y:Str}{py:Pos}{f:DE→Option D} (h:Ev X .V e f):Ei X (.Name y py) e (aP aX f):=PI.by (PI.or (Bh h.h) (PI.or (sr h.h) (wz h.h))) fun σ H R zz104_0=>by
 obtain ⟨B,F,E,xs,k,q,w⟩:=zz104_0
 unfold aP at q
 cases hf:f E with
 | none=>simp [hf] at q
 | some d =>
  simp only [hf,Ef] at q
  cases d with
  | str z =>
   cases q
   refine .inl ⟨B,F,E,_,k,hf,fun v F' H' x r=>?_⟩
   cases r with
   | str=>exact ⟨z,rfl,w _ F' H' x (BM z)⟩
  | lst ds =>
   cases q
   refine .inr (.inl ⟨B,F,E,_,k,hf,fun v F' H' x r=>?_⟩)
   cases r with
   | lst e rs=>exact ⟨_,rfl,⟨_,SqL.of (x.sub _ _ e)⟩,w _ F' H' x (xn e rs)⟩
  | tup ds =>
   cases q
   refine .inr (.inr ⟨B,F,E,_,k,hf,fun v F' H' x r=>?_⟩)
   cases r with
   | tup e rs=>exact ⟨_,rfl,⟨_,SqT.of (x.sub _ _ e)⟩,w _ F' H' x (xl e rs)⟩
  | _=>cases q
noncomputable def cV (lo:Int) (n:Nat):List D:=(List.range n).map fun i=>.int (lo + (i:Nat))
noncomputable def jt (ds:List D):Option (List D):=match ds with
 | [.int j]=>@ite _ (-(2 ^ 62)≤j∧j < 2 ^ 62) (Classical.propDecidable _) (some (cV 0 j.toNat)) none
 | _=>none
noncomputable def l0 (ds:List D):Option (List D):=match ds with
 | [.int i,.int j]=>@ite _ ((-(2 ^ 62)≤i∧i < 2 ^ 62)∧(-(2 ^ 62)≤j∧j < 2 ^ 62)) (Classical.propDecidable _) (some (cV i (j - i).toNat)) none
 | _=>none
noncomputable def eU (f:DE→Option (List D)) (E:DE):Option (List D):=(f E).bind jt
noncomputable def v_ (f:DE→Option (List D)) (E:DE):Option (List D):=(f E).bind l0
theorem qJ {ds xs:List D} (h:jt ds=some xs):∃ j,ds=[.int j]:=by
 unfold jt at h
 split at h
 ·exact ⟨_,rfl⟩
 ·cases h
theorem qI {ds xs:List D} (h:l0 ds=some xs):∃ i j,ds=[.int i,.int j]:=by
 unfold l0 at h
 split at h
 ·exact ⟨_,_,rfl⟩
 ·cases h
theorem xm {F:Hp} (lo:Int) (n:Nat):oa F (Itr lo n) (cV lo n):=by
 intro i F2 H2 y s
 have hl:(cV lo n).length=n:=by simp [cV]
 refine ⟨fun h=>by rw [hl] at h; exact Nat.le_of_eq h,fun d hd=>?_⟩
 unfold cV at hd
 rw [List.getElem?_map] at hd
 cases hc:(List.range n)[i]? with
 | none=>rw [hc] at hd; cases hd
 | some c =>
  rw [hc] at hd
  cases hd
  obtain ⟨hlt,rfl⟩:=List.getElem?_eq_some_iff.mp hc
  rw [List.length_range] at hlt
  refine ⟨hlt,fun z H' yl=>?_⟩
  obtain ⟨rfl,rfl⟩:=yl
  rw [List.getElem_range]
  exact ⟨F2,Ext.refl s,.int _⟩
theorem cH {tg a:Expr}{f:DE→Option (List D)} {p:Pos} (hg:Gl X "range") (hm:X.mg "range" = none) (ha:Ea X [a] f) (hs:aO a=true:=by rfl):Ei X tg (.Call (.Name "range" p) [a] [] pos) (eU f) :=
 PI.by (uk hg hm ha.h (aA a [] X.env hs)) fun σ H R zz105_0=>by
  obtain ⟨B,F,E,xs,k,q,w⟩:=zz105_0
  unfold eU at q
  cases hf:f E with
  | none=>simp [hf] at q
  | some ds =>
   rw [hf] at q
   refine ⟨B,F,E,ds,k,hf,fun vs F' H' x r=>?_⟩
   obtain ⟨j,rfl⟩:=qJ q
   obtain ⟨v1,ws,rfl,r1,r⟩:=r.c1
   obtain rfl:=r.c0
   cases r1
   ·have q':@ite _ (-(2 ^ 62)≤j∧j < 2 ^ 62) (Classical.propDecidable _) (some (cV 0 j.toNat)) none=some xs:=q
    by_cases hj : -(2 ^ 62)≤j∧j < 2 ^ 62
    ·rw [if_pos hj] at q'
     cases q'
     exact ⟨j,rfl,hj.1,hj.2,w _ F' H' x (xm 0 _)⟩
    ·rw [if_neg hj] at q'; cases q'
theorem vd {tg a b:Expr}{f:DE→Option (List D)} {p:Pos} (hg:Gl X "range") (hm:X.mg "range" = none) (ha:Ea X [a,b] f) (hs:aO a=true:=by rfl) (hs2:aO b=true:=by rfl):Ei X tg (.Call (.Name "range" p) [a,b] [] pos) (v_ f) :=
 PI.by (uj hg hm ha.h (by rw [aA a [b] X.env hs,aA b [] X.env hs2]; rfl) (aA b [] X.env hs2)) fun σ H R zz106_0=>by
  obtain ⟨B,F,E,xs,k,q,w⟩:=zz106_0
  unfold v_ at q
  cases hf:f E with
  | none=>simp [hf] at q
  | some ds =>
   rw [hf] at q
   refine ⟨B,F,E,ds,k,hf,fun vs F' H' x r=>?_⟩
   obtain ⟨i,j,rfl⟩:=qI q
   obtain ⟨v1,ws,rfl,r1,r⟩:=r.c1
   obtain ⟨v2,ws,rfl,r2,r⟩:=r.c1
   obtain rfl:=r.c0
   cases r1
   cases r2
   ·have q':@ite _ ((-(2 ^ 62)≤i∧i < 2 ^ 62)∧(-(2 ^ 62)≤j∧j < 2 ^ 62)) (Classical.propDecidable _) (some (cV i (j - i).toNat)) none=some xs:=q
    by_cases hj:(-(2 ^ 62)≤i∧i < 2 ^ 62)∧(-(2 ^ 62)≤j∧j < 2 ^ 62)
    ·rw [if_pos hj] at q'
     cases q'
     exact ⟨i,j,rfl,⟨hj.1.1,hj.1.2,hj.2.1,hj.2.2⟩,w _ F' H' x (xm i _)⟩
    ·rw [if_neg hj] at q'; cases q'
end
noncomputable def i2 (g:Int→Int→Option D):D→D→Option D
 | .int i,.int j=>g i j
 | _,_=>none
theorem gL {g:Int→Int→Option D}{x y d:D} (h:i2 g x y=some d):∃ i j,x=.int i∧y=.int j∧g i j=some d:=by
 cases x <;> cases y <;> simp [i2] at h
 exact ⟨_,_,rfl,rfl,h⟩
noncomputable def qA:D→D→Option D:=i2 fun i j=>some (.int (i - j))
theorem A1:dP .V (rI0 fun i j=>.int (i - j)) qA:=fun F H v w x y d Q s rx ry h q=>by
 obtain ⟨i,j,rfl,rfl,h'⟩:=gL h
 cases h'
 exact ⟨i,j,rx.int,ry.int,q _ F H (Ext.refl s) (.int _)⟩
noncomputable def wX:D→D→Option D:=i2 fun i j=>if Builtin.Int.intBits i≤2 ^ 20∧Builtin.Int.intBits j≤2 ^ 20 then some (.int (i * j)) else none
theorem A5:dP .V (rI (fun i j=>Builtin.Int.intBits i≤2 ^ 20∧Builtin.Int.intBits j≤2 ^ 20) fun i j=>.int (i * j)) wX:=fun F H v w x y d Q s rx ry h q=>by
 obtain ⟨i,j,rfl,rfl,h'⟩:=gL h
 split at h'
 ·rename_i hc
  cases h'
  exact ⟨i,j,rx.int,ry.int,hc,q _ F H (Ext.refl s) (.int _)⟩
 ·cases h'
noncomputable def cz:D→D→Option D:=i2 fun i j=>if 0 < j then some (.int (i % j)) else none
theorem A6:dP .V (rI (fun _ j=>0 < j) fun i j=>.int (i % j)) cz:=fun F H v w x y d Q s rx ry h q=>by
 obtain ⟨i,j,rfl,rfl,h'⟩:=gL h
 split at h'
 ·rename_i hc
  cases h'
  exact ⟨i,j,rx.int,ry.int,hc,q _ F H (Ext.refl s) (.int _)⟩
 ·cases h'
noncomputable def bX:D→D→Option D:=i2 fun i j=>if 0 < j∧j.natAbs.log2 < 9000 then some (.int (i / j)) else none
theorem yS:dP .V (rI (fun _ j=>0 < j∧j.natAbs.log2 < 9000) fun i j=>.int (i / j)) bX:=fun F H v w x y d Q s rx ry h q=>by
 obtain ⟨i,j,rfl,rfl,h'⟩:=gL h
 split at h'
 ·rename_i hc
  cases h'
  exact ⟨i,j,rx.int,ry.int,hc,q _ F H (Ext.refl s) (.int _)⟩
 ·cases h'
noncomputable def o6:D→D→Option D:=i2 fun i j=>if 0≤j∧j≤1000000∧i.natAbs < 2 ^ 64 then some (.int (i ^ j.toNat)) else none
theorem A2:dP .V (rI DM fun i j=>.int (i ^ j.toNat)) o6:=fun F H v w x y d Q s rx ry h q=>by
 obtain ⟨i,j,rfl,rfl,h'⟩:=gL h
 split at h'
 ·rename_i hc
  cases h'
  exact ⟨i,j,rx.int,ry.int,hc,q _ F H (Ext.refl s) (.int _)⟩
 ·cases h'
noncomputable def Br (pi:Int→Int→Bool) (ps:List Nat→List Nat→Bool):D→D→Option D
 | .int i,.int j=>some (.bl (pi i j))
 | .str i,.str j=>some (.bl (ps i.cps.toList j.cps.toList))
 | _,_=>none
noncomputable def ltD:D→D→Option D:=Br (fun i j=>decide (i < j)) fun i j=>decide (i < j)
noncomputable def leD:D→D→Option D:=Br (fun i j=>decide (i≤j)) fun i j => !decide (j < i)
noncomputable def gtD:D→D→Option D:=i2 fun i j=>some (.bl (decide (j < i)))
noncomputable def geD:D→D→Option D:=i2 fun i j=>some (.bl (decide (j≤i)))
theorem o8 {pi:Int→Int→Bool}{ps:List Nat→List Nat→Bool}{x y d:D} (h:Br pi ps x y=some d) :
  (∃ i j,x=.int i∧y=.int j∧d=.bl (pi i j))∨∃ i j,x=.str i∧y=.str j∧d=.bl (ps i.cps.toList j.cps.toList):=by
 match x,y,h with
 | .int i,.int j,h=>exact .inl ⟨i,j,rfl,rfl,(Option.some.inj h).symm⟩
 | .str i,.str j,h=>exact .inr ⟨i,j,rfl,rfl,(Option.some.inj h).symm⟩
theorem An:dP .V (fun x y H Q=>(rI0 fun i j=>.bl (decide (i < j))) x y H Q∨∃ i j,x=.str i∧y=.str j∧Q (.bl (decide (i.cps.toList < j.cps.toList))) H) ltD:=fun F H v w x y d Q s rx ry h q=>by
 rcases o8 h with ⟨i,j,rfl,rfl,rfl⟩ | ⟨i,j,rfl,rfl,rfl⟩
 ·exact .inl ⟨_,_,rx.int,ry.int,q _ F H (Ext.refl s) (.bl _)⟩
 ·exact .inr ⟨_,_,rx.str,ry.str,q _ F H (Ext.refl s) (.bl _)⟩
theorem Ao:dP .V (fun x y H Q=>(rI0 fun i j=>.bl (decide (i≤j))) x y H Q∨∃ i j,x=.str i∧y=.str j∧Q (.bl (!decide (j.cps.toList < i.cps.toList))) H) leD:=fun F H v w x y d Q s rx ry h q=>by
 rcases o8 h with ⟨i,j,rfl,rfl,rfl⟩ | ⟨i,j,rfl,rfl,rfl⟩
 ·exact .inl ⟨_,_,rx.int,ry.int,q _ F H (Ext.refl s) (.bl _)⟩
 ·exact .inr ⟨_,_,rx.str,ry.str,q _ F H (Ext.refl s) (.bl _)⟩
theorem CY:dP .V (rI0 fun i j=>.bl (decide (j < i))) gtD:=fun F H v w x y d Q s rx ry h q=>by
 obtain ⟨i,j,rfl,rfl,h'⟩:=gL h
 cases h'
 exact ⟨i,j,rx.int,ry.int,q _ F H (Ext.refl s) (.bl _)⟩
section
variable {X:Cx}{a b:Expr}{pos:Pos}{f g:DE→Option D}
theorem rh (ha:Ev X .O a f) (hb:Ev X .O b g):Ev X .V (.BinOp a .Sub b pos) (bin qA f g):=jg Bs A1 ha hb
theorem cL (ha:Ev X .O a f) (hb:Ev X .O b g):Ev X .V (.BinOp a .Mod b pos) (bin cz f g):=jg Bu A6 ha hb
theorem cT (ha:Ev X .O a f) (hb:Ev X .O b g):Ev X .V (.BinOp a .FloorDiv b pos) (bin bX f g):=jg wN yS ha hb
theorem xC (ha:Ev X .O a f) (hb:Ev X .O b g):Ev X .V (.BinOp a .Pow b pos) (bin o6 f g):=jg Bt A2 ha hb
theorem wL:OpR X (compareOp .Lt) (fun x y H Q=>(rI0 fun i j=>.bl (decide (i < j))) x y H Q∨∃ i j,x=.str i∧y=.str j∧Q (.bl (decide (i.cps.toList < j.cps.toList))) H):=OpR.or Dd ur
theorem wM:OpR X (compareOp .LtE) (fun x y H Q=>(rI0 fun i j=>.bl (decide (i≤j))) x y H Q∨∃ i j,x=.str i∧y=.str j∧Q (.bl (!decide (j.cps.toList < i.cps.toList))) H):=OpR.or De ut
end
mutual
def toP:D→PyData
 | .non=>.none
 | .bl b=>.bool b
 | .int i=>.int i
 | .str x=>.str x
 | .tup xs=>.tuple (toPs xs)
 | .lst xs=>.list (toPs xs)
 | .dic _=>.dict []
 | .scr _=>.dict []
def toPs:List D→List PyData
 | []=>[]
 | x :: xs=>toP x :: toPs xs
end
section
variable {X:Cx}{pins:List (Addr×Obj)} {σ:St}{F H:Hp}{s:Shared}
mutual
theorem Rep.reads (I:Inv X pins σ H s) (hs:∀ a o,F a=some o→H a=some o):∀ {v:V}{d:D}{u:Value},Rep F v d→aW v u→(toP d).canLay0=true→∃ as,Reads s.heap u (toP d) as
 := fun {v d u} q r c=>by
  refine Classical.byContradiction fun hn=>?_
  cases q with
  | non=>cases r; exact hn ⟨_,.none⟩
  | bl b=>cases r; exact hn ⟨_,.bool b⟩
  | int i=>obtain ⟨t,rfl⟩:=r; exact hn ⟨_,.int i t⟩
  | str x=>obtain ⟨t,rfl⟩:=r; exact hn ⟨_,.str x t⟩
  | @tup a vs ds e rs =>
   cases r
   obtain ⟨its,rv,ht,hz⟩:=I.tuple (SqT.of (hs _ _ e))
   obtain ⟨o,ho,hc,n,hd⟩:=ht
   have c':PyData.canLayAll0 (toPs ds)=true:=by simpa [toP,PyData.canLay0] using c
   obtain ⟨as,ra⟩:=Reps.reads I hs rs rv c'
   exact hn ⟨_,by rw [toP]; exact .tuple ho hc hd (by simpa using ra)⟩
  | @lst a vs ds e rs =>
   cases r
   obtain ⟨z,its,n,rv,hl,ho⟩:=I.lstM (hs _ _ e)
   have c':PyData.canLayAll0 (toPs ds)=true:=by simpa [toP,PyData.canLay0] using c
   obtain ⟨as,ra⟩:=Reps.reads I hs rs rv c'
   exact hn ⟨_,by rw [toP]; exact .list ho rfl rfl (by simpa using ra)⟩
  | dic _ _=>simp [toP,PyData.canLay0] at c
  | scr _=>simp [toP,PyData.canLay0] at c
theorem Reps.reads (I:Inv X pins σ H s) (hs:∀ a o,F a=some o→H a=some o):∀ {vs:List V}{ds:List D}{us:List Value},Reps F vs ds→aZ vs us→PyData.canLayAll0 (toPs ds)=true→∃ as,ReadsAll s.heap us (toPs ds) as
 := fun {vs ds us} z w c=>by
  refine Classical.byContradiction fun hn=>?_
  cases z with
  | nil=>cases w; exact hn ⟨_,.nil⟩
  | @cons v d vs ds r rs =>
   cases w with
   | cons q qs =>
    have c':(toP d).canLay0=true∧PyData.canLayAll0 (toPs ds)=true:=by simpa [toPs,PyData.canLayAll0] using c
    obtain ⟨as,h1⟩:=Rep.reads I hs r q c'.1
    obtain ⟨bs,h2⟩:=Reps.reads I hs rs qs c'.2
    exact hn ⟨_,by rw [toPs]; exact .cons h1 h2⟩
end
theorem OB.reads (I:Inv X pins σ H s) (hs:∀ a o,F a=some o→H a=some o) {v:V}{d:D}{u:Value} (r:OB F H v d) (q:aW v u) (c:(toP d).canLay0=true):∃ as,Reads s.heap u (toP d) as:=by
 rcases r with r | ⟨a,o,rfl,h2,h3⟩
 ·exact Rep.reads I hs r q c
 ·cases q
  cases o with
  | lst vs =>
   cases d with
   | lst ds =>
    obtain ⟨z,its,n,rv,hl,ho⟩:=I.lstM h2
    have c':PyData.canLayAll0 (toPs ds)=true:=by simpa [toP,PyData.canLay0] using c
    obtain ⟨as,ra⟩:=Reps.reads I hs (show Reps F vs ds from h3) rv c'
    exact ⟨_,by rw [toP]; exact .list ho rfl rfl (by simpa using ra)⟩
   | _=>exact False.elim h3
  | dK vs =>
   cases d with
   | dic ds=>simp [toP,PyData.canLay0] at c
   | _=>exact False.elim h3
  | _=>exact False.elim h3
end
noncomputable def o4 (neg:Bool) (u:Nat):R2:=fun v w H Q=>∃ F x y,(∀ a o,F a=some o→H a=some o)∧OB F H v x∧OB F H w y∧(toP x).canLay0=true∧(toP y).canLay0=true∧u + min (toP x).depth (toP y).depth < cLine ∧
 Q (.bl (if neg then !PyData.eqv (toP x) (toP y) else PyData.eqv (toP x) (toP y))) H
section
variable {X:Cx}
theorem l8:OpR X (compareOp .Eq) (o4 false X.A.units):=by
 intro pins s σ H v w u z Q I rv rw h
 obtain ⟨F,x,y,hs,ox,oy,cx,cy,hu,q⟩:=h
 obtain ⟨as,ra⟩:=ox.reads I hs rv cx
 obtain ⟨bs,rb⟩:=oy.reads I hs rw cy
 exact SeqAt.rcAt_reads ra rb cx cy hu X.prog X.w X.xe _ ⟨.bl _,H,I,rfl,q⟩
theorem l7:OpR X (compareOp .NotEq) (o4 true X.A.units):=by
 intro pins s σ H v w u z Q I rv rw h
 obtain ⟨F,x,y,hs,ox,oy,cx,cy,hu,q⟩:=h
 obtain ⟨as,ra⟩:=ox.reads I hs rv cx
 obtain ⟨bs,rb⟩:=oy.reads I hs rw cy
 exact SeqAt.compareNe_reads ra rb cx cy hu ⟨.bl _,H,I,rfl,q⟩
end
noncomputable def scD:D→D→Option Bool
 | .str x,.str y=>some (decide (x=y))
 | .int x,.int y=>some (decide (x=y))
 | .bl x,.bl y=>some (decide (x=y))
 | _,_=>none
noncomputable def cO (x:D):Bool:=(toP x).canLay0 && decide ((toP x).depth≤60)
noncomputable def eqD (x y:D):Option Bool:=match scD x y with
 | some b=>some b
 | none=>if cO x && cO y then some (PyData.eqv (toP x) (toP y)) else none
noncomputable def eqO (x y:D):Option D:=(eqD x y).map D.bl
noncomputable def neO (x y:D):Option D:=(eqD x y).map fun b=>.bl (!b)
theorem mx {x y:D}{b:Bool} (h:eqD x y=some b):(∃ i j,x=.str i∧y=.str j∧b=decide (i=j))∨(∃ i j,x=.int i∧y=.int j∧b=decide (i=j))∨(∃ i j,x=.bl i∧y=.bl j∧b=decide (i=j)) ∨
  (cO x=true∧cO y=true∧b=PyData.eqv (toP x) (toP y)):=by
 unfold eqD at h
 cases hs:scD x y with
 | some c =>
  rw [hs] at h
  cases h
  match x,y,hs with
  | .str i,.str j,hs=>exact .inl ⟨i,j,rfl,rfl,(Option.some.inj hs).symm⟩
  | .int i,.int j,hs=>exact .inr (.inl ⟨i,j,rfl,rfl,(Option.some.inj hs).symm⟩)
  | .bl i,.bl j,hs=>exact .inr (.inr (.inl ⟨i,j,rfl,rfl,(Option.some.inj hs).symm⟩))
 | none =>
  rw [hs] at h
  have h':(if (cO x && cO y)=true then some (PyData.eqv (toP x) (toP y)) else none)=some b:=h
  split at h'
  ·rename_i hc
   obtain ⟨h1,h2⟩:=Bool.and_eq_true_iff.mp hc
   exact .inr (.inr (.inr ⟨h1,h2,(Option.some.inj h').symm⟩))
  ·cases h'
theorem wf (u:Nat) (hu:u + 64 < cLine):dP .V (fun x y H Q=>rEq x y H Q∨o4 false u x y H Q) eqO:=fun F H v w x y d Q s rx ry h q=>by
 unfold eqO at h
 cases he:eqD x y with
 | none=>rw [he] at h; cases h
 | some b =>
  rw [he] at h
  cases h
  have fin:=q (.bl b) F H (Ext.refl s) (.bl b)
  rcases mx he with ⟨i,j,rfl,rfl,rfl⟩ | ⟨i,j,rfl,rfl,rfl⟩ | ⟨i,j,rfl,rfl,rfl⟩ | ⟨h1,h2,rfl⟩
  ·left; cases rx.str; cases ry.str; exact ⟨rfl,by simpa using fin⟩
  ·left; cases rx.int; cases ry.int; exact ⟨rfl,by simpa using fin⟩
  ·left; cases rx.bl; cases ry.bl; exact ⟨rfl,by simpa using fin⟩
  ·right
   obtain ⟨a1,a2⟩:=Bool.and_eq_true_iff.mp h1
   obtain ⟨b1,b2⟩:=Bool.and_eq_true_iff.mp h2
   have:=of_decide_eq_true a2
   exact ⟨F,x,y,s,rx,ry,a1,b1,by omega,fin⟩
theorem we (u:Nat) (hu:u + 64 < cLine):dP .V (fun x y H Q=>rNe x y H Q∨o4 true u x y H Q) neO:=fun F H v w x y d Q s rx ry h q=>by
 unfold neO at h
 cases he:eqD x y with
 | none=>rw [he] at h; cases h
 | some b =>
  rw [he] at h
  cases h
  have fin:=q (.bl (!b)) F H (Ext.refl s) (.bl (!b))
  rcases mx he with ⟨i,j,rfl,rfl,rfl⟩ | ⟨i,j,rfl,rfl,rfl⟩ | ⟨i,j,rfl,rfl,rfl⟩ | ⟨h1,h2,rfl⟩
  ·left; cases rx.str; cases ry.str; exact ⟨rfl,by simpa using fin⟩
  ·left; cases rx.int; cases ry.int; exact ⟨rfl,by simpa using fin⟩
  ·left; cases rx.bl; cases ry.bl; exact ⟨rfl,by simpa using fin⟩
  ·right
   obtain ⟨a1,a2⟩:=Bool.and_eq_true_iff.mp h1
   obtain ⟨b1,b2⟩:=Bool.and_eq_true_iff.mp h2
   have:=of_decide_eq_true a2
   exact ⟨F,x,y,s,rx,ry,a1,b1,by omega,fin⟩
noncomputable def bV:D→Bool
 | .non | .bl _ | .int _ | .str _=>true
 | _=>false
noncomputable def toV:D→V
 | .bl b=>.bl b
 | .int i=>.int i
 | .str x=>.str x
 | _=>.non
theorem pU {F:Hp}{v:V}{d:D} (r:Rep F v d) (h:bV d=true):v=toV d∧gm v=true:=by
 cases r <;> first | exact ⟨rfl,rfl⟩ | cases h
theorem eY {F:Hp}:∀ {vs:List V}{ds:List D},Reps F vs ds→ds.all bV=true→vs=ds.map toV∧vs.all gm=true
 := fun z h=>by
  cases z with
  | nil=>exact ⟨rfl,rfl⟩
  | cons r t =>
   rw [List.all_cons,Bool.and_eq_true] at h
   obtain ⟨e1,f1⟩:=pU r h.1
   obtain ⟨e2,f2⟩:=eY t h.2
   subst e1 e2
   exact ⟨rfl,by rw [List.all_cons,f1,f2]; rfl⟩
noncomputable def inD (x y:D):Option Bool:=match x,y with
 | .str i,.str j=>some (!(Builtin.Str.occurrences j i 0 j.length 1).isEmpty)
 | x,.tup ds=>if bV x && ds.all bV then some (inV (toV x) (ds.map toV)) else none
 | x,.lst ds=>if bV x && ds.all bV then some (inV (toV x) (ds.map toV)) else none
 | _,_=>none
theorem mr {x y:D}{b:Bool} (h:inD x y=some b):(∃ i j,x=.str i∧y=.str j∧b = !(Builtin.Str.occurrences j i 0 j.length 1).isEmpty) ∨
  (∃ ds,(y=.tup ds∨y=.lst ds)∧bV x=true∧ds.all bV=true∧b=inV (toV x) (ds.map toV)):=by
 cases y with
 | str j =>
  cases x with
  | str i=>exact .inl ⟨i,j,rfl,rfl,(Option.some.inj h).symm⟩
  | _=>cases h
 | tup ds =>
  have h':(if bV x && ds.all bV then some (inV (toV x) (ds.map toV)) else none)=some b:=by cases x <;> exact h
  split at h'
  ·rename_i hc
   obtain ⟨h1,h2⟩:=Bool.and_eq_true_iff.mp hc
   exact .inr ⟨ds,.inl rfl,h1,h2,(Option.some.inj h').symm⟩
  ·cases h'
 | lst ds =>
  have h':(if bV x && ds.all bV then some (inV (toV x) (ds.map toV)) else none)=some b:=by cases x <;> exact h
  split at h'
  ·rename_i hc
   obtain ⟨h1,h2⟩:=Bool.and_eq_true_iff.mp hc
   exact .inr ⟨ds,.inr rfl,h1,h2,(Option.some.inj h').symm⟩
  ·cases h'
 | _=>cases x <;> cases h
theorem sS {F H:Hp}{v:V}{d:D} (r:OB F H v d) (h:bV d=true):v=toV d∧gm v=true:=by
 rcases r with r | ⟨a,o,h1,h2,h3⟩
 ·exact pU r h
 ·cases o <;> cases d <;> first | exact False.elim h3 | cases h
noncomputable def inO (x y:D):Option D:=(inD x y).map D.bl
noncomputable def wS (x y:D):Option D:=(inD x y).map fun b=>.bl (!b)
theorem CW {K:PySem.W.Frag}:dP .V (fun x y H Q=>(∃ i j,x=.str i∧y=.str j∧Q (.bl (!(Builtin.Str.occurrences j i 0 j.length 1).isEmpty)) H)∨rIn K false x y H Q) inO:=fun F H v w x y d Q s rx ry h q=>by
 unfold inO at h
 cases he:inD x y with
 | none=>rw [he] at h; cases h
 | some b =>
  rw [he] at h
  cases h
  have fin:=q (.bl b) F H (Ext.refl s) (.bl b)
  rcases mr he with ⟨i,j,rfl,rfl,rfl⟩ | ⟨ds,hy,h1,h2,rfl⟩
  ·exact .inl ⟨i,j,rx.str,ry.str,fin⟩
  ·right
   obtain ⟨ex,fx⟩:=sS rx h1
   rcases hy with rfl | rfl
   ·obtain ⟨a,vs,rfl,ha,rs⟩:=ry.tup
    obtain ⟨e2,f2⟩:=eY rs h2
    subst e2
    exact ⟨a,_,rfl,.inr (SqT.of (s _ _ ha)),fx,f2,by rw [ex]; exact fin⟩
   ·obtain ⟨a,vs,rfl,ha,rs⟩:=OB.lst s ry
    obtain ⟨e2,f2⟩:=eY rs h2
    subst e2
    exact ⟨a,_,rfl,.inl (SqL.of ha),fx,f2,by rw [ex]; exact fin⟩
theorem A3 {K:PySem.W.Frag}:dP .V (fun x y H Q=>(∃ i j,x=.str i∧y=.str j∧Q (.bl (!(!(Builtin.Str.occurrences j i 0 j.length 1).isEmpty))) H)∨rIn K true x y H Q) wS:=fun F H v w x y d Q s rx ry h q=>by
 unfold wS at h
 cases he:inD x y with
 | none=>rw [he] at h; cases h
 | some b =>
  rw [he] at h
  cases h
  have fin:=q (.bl (!b)) F H (Ext.refl s) (.bl (!b))
  rcases mr he with ⟨i,j,rfl,rfl,rfl⟩ | ⟨ds,hy,h1,h2,rfl⟩
  ·exact .inl ⟨i,j,rx.str,ry.str,fin⟩
  ·right
   obtain ⟨ex,fx⟩:=sS rx h1
   rcases hy with rfl | rfl
   ·obtain ⟨a,vs,rfl,ha,rs⟩:=ry.tup
    obtain ⟨e2,f2⟩:=eY rs h2
    subst e2
    exact ⟨a,_,rfl,.inr (SqT.of (s _ _ ha)),fx,f2,by rw [ex]; exact fin⟩
   ·obtain ⟨a,vs,rfl,ha,rs⟩:=OB.lst s ry
    obtain ⟨e2,f2⟩:=eY rs h2
    subst e2
    exact ⟨a,_,rfl,.inl (SqL.of ha),fx,f2,by rw [ex]; exact fin⟩
noncomputable def ixD (x y:D):Option D:=match x,y with
 | .lst xs,.int i=>atI xs i
 | .tup xs,.int i=>atI xs i
 | .str z,.int i=>if z.length≤sizeLine then (atI z.cps.toList i).map fun c=>.str ⟨#[c]⟩ else none
 | .scr ns,.int i=>(atI ns i).map D.int
 | _,_=>none
theorem Reps.atI {F:Hp}{vs:List V}{ds:List D} (r:Reps F vs ds) {i:Int}{d:D} (h:L2.atI ds i=some d):∃ v,L2.atI vs i=some v∧Rep F v d:=by
 unfold L2.atI at h ⊢
 rw [r.length]
 cases hx:ixN ds.length i with
 | none=>rw [hx] at h; cases h
 | some j=>rw [hx] at h; exact r.get h
theorem CV {K:PySem.W.Frag}:dP .V (rIx K) ixD:=fun F H v w x y d Q s rx ry h q=>by
 cases y with
 | int i =>
  cases ry.int
  cases x with
  | lst xs =>
   obtain ⟨a,vs,rfl,ha,rs⟩:=OB.lst s rx
   obtain ⟨u,hu,ru⟩:=rs.atI (show atI xs i=some d from h)
   exact .inl ⟨a,vs,i,u,rfl,rfl,SqL.of ha,hu,q u F H (Ext.refl s) ru⟩
  | tup xs =>
   obtain ⟨a,vs,rfl,ha,rs⟩:=rx.tup
   obtain ⟨u,hu,ru⟩:=rs.atI (show atI xs i=some d from h)
   exact .inr (.inl ⟨a,vs,i,u,rfl,rfl,SqT.of (s _ _ ha),hu,q u F H (Ext.refl s) ru⟩)
  | str z =>
   cases rx.str
   have h':(if z.length≤sizeLine then (atI z.cps.toList i).map (fun c=>D.str ⟨#[c]⟩) else none)=some d:=h
   split at h'
   ·rename_i hz
    cases hc:atI z.cps.toList i with
    | none=>rw [hc] at h'; cases h'
    | some c =>
     rw [hc] at h'
     cases h'
     exact .inr (.inr ⟨z,i,c,rfl,rfl,hz,hc,q _ F H (Ext.refl s) (.str _)⟩)
   ·cases h'
  | scr ns =>
   obtain ⟨a,o,rfl,ha⟩:=rx.scr
   have h':(atI ns i).map D.int=some d:=h
   cases hc:atI ns i with
   | none=>rw [hc] at h'; cases h'
   | some c =>
    rw [hc] at h'
    cases h'
    refine .inl ⟨a,_,i,.int c,rfl,rfl,.inl (.inr ⟨o,s _ _ ha⟩),?_,q _ F H (Ext.refl s) (.int _)⟩
    unfold atI at hc ⊢
    rw [List.length_map]
    cases hx:ixN ns.length i with
    | none=>rw [hx] at hc; cases hc
    | some j =>
     rw [hx] at hc
     show (ns.map V.int)[j]? = _
     have hc':ns[j]? = some c:=hc
     rw [List.getElem?_map,hc']; rfl
  | _=>cases h
 | _=>cases x <;> cases h
noncomputable def cA {α:Type} (xs:List α) (lo hi:Option Int):List α:=(xs.drop (HT.sIx xs.length 0 lo)).take (HT.sIx xs.length xs.length hi - HT.sIx xs.length 0 lo)
noncomputable def noP (_:DE):Option (Option Int):=some none
noncomputable def bQ (f:DE→Option D) (E:DE):Option (Option Int):=(f E).bind fun d=>match d with
 | .int i=>some (some i)
 | _=>none
noncomputable def tP (f:DE→Option (Option Int)):TO:=fun σ H Q=>∃ B F E o,Ok B F H σ E∧f E=some o∧∀ F' H',Ext F H F' H'→Q o H'
structure Ep (X:Cx) (e:Option Expr) (f:DE→Option (Option Int)):Prop where
 h:PO X e (tP f)
theorem PO.by {X:Cx}{e:Option Expr}{t:TO}{f:DE→Option (Option Int)} (h:PO X e t) (w:∀ σ H Q,tP f σ H Q→t σ H Q):Ep X e f:=⟨fun pins s σ H Q I q=>h pins s σ H Q I (w σ H Q q)⟩
theorem iP {X:Cx}:Ep X none noP:=PO.by y6 fun σ H Q ⟨B,F,E,o,k,q,w⟩=>by cases q; exact w F H (Ext.refl k.sub)
theorem cG {X:Cx}{e:Expr}{f:DE→Option D} (h:Ev X .V e f):Ep X (some e) (bQ f):=PO.by (sn h.h) fun σ H Q zz108_0=>by
 obtain ⟨B,F,E,o,k,q,w⟩:=zz108_0
 unfold bQ at q
 cases hf:f E with
 | none=>simp [hf] at q
 | some d =>
  rw [hf] at q
  cases d with
  | int i =>
   cases q
   exact ⟨B,F,E,_,k,hf,fun v F' H' x r=>⟨i,by cases r; rfl,w F' H' x⟩⟩
  | _=>cases q
noncomputable def slD (x:D) (lo hi:Option Int):Option D:=match x with
 | .lst xs=>some (.lst (cA xs lo hi))
 | .scr ns=>some (.lst ((cA ns lo hi).map D.int))
 | .tup xs=>some (.tup (cA xs lo hi))
 | .str z=>if z.length≤sizeLine then some (.str (Txt.slice z lo hi)) else none
 | _=>none
noncomputable def bJ (f:DE→Option D) (l h:DE→Option (Option Int)) (E:DE):Option D:=(f E).bind fun x=>(l E).bind fun lo=>(h E).bind fun hi=>slD x lo hi
theorem x_ {α β:Type} (g:α→β) (xs:List α) (lo hi:Option Int):cA (xs.map g) lo hi=(cA xs lo hi).map g:=by
 unfold cA
 rw [List.length_map,List.map_take,List.map_drop]
theorem qB {X:Cx}:SlR X (fun x lo hi H Q=>∃ a xs,x=.ref a∧SqT X.K H a xs∧(HT.sIx xs.length 0 lo=0∧HT.sIx xs.length xs.length hi=xs.length)∧Q (.ref a) H):=by
 intro pins s σ H x v vl vu lo hi sl Q I rx hs pl pu h
 obtain ⟨a,xs,rfl,hx,⟨hw1,hw2⟩,q⟩:=h
 cases rx
 obtain ⟨its,r,ht,hz⟩:=I.tuple hx
 have hlen:its.toArray.size=xs.length:=by rw [List.size_toArray]; exact r.length.symm
 refine ⟨"tuple",_,PyProof.Rows.slot_tuple_getitem.lookup,ht.typeIs,?_⟩
 obtain ⟨os,hos,hcs,hds⟩:=id hs
 have hTs:s.TypeIs (.ref sl) "slice" := ⟨os,hos,hcs⟩
 unfold getItem
 try with_reducible refine wpAny_holding ?_
 first | refine wpAny_bind (wpAny_pure ?_) | skip
 refine wpAny_bind (wpAny_sequenceKey ht.typeIs (by decide) ?_)
 refine wpAny_bind (wpAny_callSpecial?_slot (name:=Str.ofString "__getitem__") ht.typeIs PyProof.Rows.slot_tuple_getitem (wpAny_call_entry PyProof.Rows.slot_tuple_getitem ht.typeIs entry_tuple_getitem ?_ (args_tuple_getitem _ _)))
 show wpAny _ _ (Builtin.Tuple.tupleItemsOf (.ref a) >>= _) _ _ s
 refine wpAny_bind (tupleItemsOf_ ht ?_)
 refine wpAny_bind (wpAny_typeOf hTs ?_)
 rw [if_pos (by decide)]
 refine wpAny_bind (HT.sliceApplied_gen hs pl pu ?_)
 rw [hlen,hw1,hw2]
 dsimp only
 rw [if_pos (by simp)]
 refine wpAny_bind (m:=Builtin.Tuple.tupleIsExact (.ref a)) ?_
 unfold Builtin.Tuple.tupleIsExact
 refine wpAny_bind (wpAny_typeOf ht.typeIs (wpAny_pure ?_))
 rw [if_pos (by decide)]
 exact wpAny_bind (wpAny_rule (wpAny_pure ⟨_,rfl,wpAny_pure ⟨.ref a,H,I,rfl,q⟩⟩))
end L2.Cu
namespace L2
open PySem PySem.Spec PyProof.Rows
theorem wO {X:Cx}:OpR X (binaryOp .Add) (fun x y H Q=>∃ a b ys,x=.ref a∧y=.ref b∧SqT X.K H a []∧SqT X.K H b ys∧Q (.ref b) H):=by
 intro pins s σ H x y v u Q I rx ry h
 obtain ⟨a,b,ys,rfl,rfl,ha,hb,q⟩:=h
 cases rx
 cases ry
 obtain ⟨its,r1,p1,_⟩:=I.tuple ha
 obtain ⟨its2,r2,p2,_⟩:=I.tuple hb
 have e0:its=[]:=r1.nil_iff.mpr rfl
 subst e0
 obtain ⟨⟨cls,dd,data,sl⟩,ho,hc,n,hd⟩:=id p1
 obtain ⟨⟨cls2,dd2,data2,sl2⟩,ho2,hc2,n2,hd2⟩:=id p2
 simp only at hc hd hc2 hd2
 subst hc hd hc2 hd2
 exact concat_meets ⟨_,ho,rfl⟩ ⟨_,ho2,rfl⟩ noFill_tuple_add seq_tuple_add PySem.F.slot_tuple_add PySem.F.entry_tuple_add (PySem.F.args_tuple_add_2 _ _)
  (tuple_addW0 a b [].toArray its2.toArray n n2 dd dd2 sl sl2 (by simp)) ⟨ho,ho2,⟨.ref b,H,I,rfl,q⟩⟩
end L2
namespace L2.Cu
open PySem PySem.Spec PyProof.Rows
section
variable {X:Cx}{a b e:Expr}{pos p2:Pos}{f g:DE→Option D}
noncomputable def cB (x y:D):Option D:=match x,y with
 | .int i,.int j=>some (.int (i + j))
 | .str i,.str j=>if i.length + j.length≤sizeLine then some (.str (i ++ j)) else none
 | .tup i,.tup j=>if i.length + j.length≤sizeLine then some (.tup (i ++ j)) else none
 | .lst i,.lst j=>if i.length + j.length≤sizeLine then some (.lst (i ++ j)) else none
 | _,_=>none
noncomputable def As (K:PySem.W.Frag):R2:=fun x y H Q=>(((rI0 fun i j=>.int (i + j)) x y H Q∨∃ i j,x=.str i∧y=.str j∧i.length + j.length≤sizeLine∧Q (.str (i ++ j)) H)∨(Ar K x y H Q∨∃ a b ys,x=.ref a∧y=.ref b∧SqT K H a []∧SqT K H b ys∧Q (.ref b) H))∨C5 x y H Q
theorem zl:OpR X (binaryOp .Add) (As X.K):=OpR.or (OpR.or (OpR.or Bw qQ) (OpR.or zk wO)) Bv
theorem A_ {K:PySem.W.Frag}:dP .V (As K) cB:=fun F H v w x y d Q s rx ry h q=>by
 match x,y,h with
 | .int i,.int j,h =>
  cases Option.some.inj h
  exact .inl (.inl (.inl ⟨i,j,rx.int,ry.int,q _ F H (Ext.refl s) (.int _)⟩))
 | .str i,.str j,h =>
  have h':(if i.length + j.length≤sizeLine then some (D.str (i ++ j)) else none)=some d:=h
  split at h'
  ·rename_i hz
   cases Option.some.inj h'
   exact .inl (.inl (.inr ⟨i,j,rx.str,ry.str,hz,q _ F H (Ext.refl s) (.str _)⟩))
  ·cases h'
 | .tup i,.tup j,h =>
  have h':(if i.length + j.length≤sizeLine then some (D.tup (i ++ j)) else none)=some d:=h
  split at h'
  ·rename_i hz
   cases Option.some.inj h'
   obtain ⟨p,vs,rfl,hp,rp⟩:=rx.tup
   obtain ⟨r,ws,rfl,hr,rr⟩:=ry.tup
   by_cases he:vs=[]
   ·subst he
    cases rp
    exact .inl (.inr (.inr ⟨p,r,ws,rfl,rfl,SqT.of (s _ _ hp),SqT.of (s _ _ hr),q _ F H (Ext.refl s) (.tup hr rr)⟩))
   ·refine .inl (.inr (.inl ⟨p,r,vs,ws,rfl,rfl,SqT.of (s _ _ hp),SqT.of (s _ _ hr),he,by rw [rp.length,rr.length]; exact hz,fun hw=>?_,fun _ c hc=>?_⟩))
    ·subst hw
     cases rr
     exact q _ F H (Ext.refl s) (.tup hp (by rw [List.append_nil]; exact rp))
    ·have x2:=Ext.freeze (o:=HO.tup (vs ++ ws)) s hc
     exact q _ _ _ x2 (.tup ap ((rp.append rr).mono x2.fr))
  ·cases h'
 | .lst i,.lst j,h =>
  have h':(if i.length + j.length≤sizeLine then some (D.lst (i ++ j)) else none)=some d:=h
  split at h'
  ·rename_i hz
   cases Option.some.inj h'
   obtain ⟨p,vs,rfl,hp,rp⟩:=OB.lst s rx
   obtain ⟨r,ws,rfl,hr,rr⟩:=OB.lst s ry
   refine .inr ⟨p,r,vs,ws,rfl,rfl,hp,hr,by rw [rp.length,rr.length]; exact hz,fun c hc=>?_⟩
   have x2:=Ext.freeze (o:=HO.lst (vs ++ ws)) s hc
   exact q _ _ _ x2 (.lst ap ((rp.append rr).mono x2.fr))
  ·cases h'
theorem cM (ha:Ev X .O a f) (hb:Ev X .O b g):Ev X .V (.BinOp a .Add b pos) (bin cB f g):=jg zl A_ ha hb
theorem xF (hr:X.A.units + 64 < cLine) (ha:Ev X .O a f) (hb:Ev X .O b g):Ev X .V (.Compare a [.Eq] [b] pos) (bin eqO f g):=ri (OpR.or Au l8) (wf _ hr) ha hb (gh _)
theorem jw (hr:X.A.units + 64 < cLine) (ha:Ev X .O a f) (hb:Ev X .O b g):Et X (.Compare a [.Eq] [b] pos) (tst (bin eqO f g)):=nO (OpR.or Au l8) (wf _ hr) ha hb (gh _)
theorem xJ (hr:X.A.units + 64 < cLine) (ha:Ev X .O a f) (hb:Ev X .O b g):Et X (.Compare a [.NotEq] [b] pos) (tst (bin neO f g)):=nO (OpR.or At l7) (we _ hr) ha hb (gh _)
theorem DA (ha:Ev X .O a f) (hb:Ev X .O b g):Ev X .V (.Compare a [.Lt] [b] pos) (bin ltD f g):=ri wL An ha hb (gh _)
theorem AD (ha:Ev X .O a f) (hb:Ev X .O b g):Et X (.Compare a [.Lt] [b] pos) (tst (bin ltD f g)):=nO wL An ha hb (gh _)
theorem AC (ha:Ev X .O a f) (hb:Ev X .O b g):Ev X .V (.Compare a [.Gt] [b] pos) (bin gtD f g):=ri Df CY ha hb (gh _)
theorem jU {c:Expr}{h:DE→Option D} (ha:Ev X .O a f) (hb:Ev X .O b g) (hc:Ev X .O c h) (hm:lastMarks [.LtE,.LtE] [b,c]=false:=by with_unfolding_all rfl):Ev X .V (.Compare a [.LtE,.LtE] [b,c] pos) (dr leD leD f g h):=xH wM Ao wM Ao ha hb hc hm
noncomputable def DW (K:PySem.W.Frag):V→Option Int→Option Int→Hp→VK→Prop:=fun x lo hi H Q=>(C0 K x lo hi H Q∨∃ z,x=.str z∧z.length≤sizeLine∧Q (.str (Txt.slice z lo hi)) H) ∨
 (CZ K x lo hi H Q∨∃ a xs,x=.ref a∧SqT K H a xs∧(HT.sIx xs.length 0 lo=0∧HT.sIx xs.length xs.length hi=xs.length)∧Q (.ref a) H)
theorem AV:SlR X (DW X.K):=SlR.or (SlR.or yJ AU) (SlR.or AT qB)
theorem Reps.cut {F:Hp}{vs:List V}{ds:List D} (r:Reps F vs ds) (lo hi:Option Int):Reps F (jK vs lo hi) (cA ds lo hi):=by
 unfold jK cA
 rw [r.length]
 exact (r.drop _).take _
theorem dg {lo hi:Option Expr}{l h:DE→Option (Option Int)} (ha:Ev X .O e f) (hl:Ep X lo l) (hh:Ep X hi h):Ev X .V (.Subscript e (.Slice lo hi none p2) pos) (bJ f l h):=PE.by (wC AV ha.h hl.h hh.h) fun σ H Q zz109_0=>by
 obtain ⟨B,F,E,d,k,q,w⟩:=zz109_0
 unfold bJ at q
 cases h1:f E with
 | none=>simp [h1] at q
 | some x =>
  cases h2:l E with
  | none=>simp [h1,h2] at q
  | some lo =>
   cases h3:h E with
   | none=>simp [h1,h2,h3] at q
   | some hi =>
    simp only [h1,h2,h3,Ef] at q
    refine ⟨B,F,E,x,k,h1,fun v F1 H1 x1 r1=>⟨B,F1,E,lo,k.ext x1,h2,fun F2 H2 x2=>⟨B,F2,E,hi,(k.ext x1).ext x2,h3,fun F3 H3 x3=>?_⟩⟩⟩
    have x13:=(x1.trans x2).trans x3
    have r3:OB F3 H3 v x:=OB.ext (x2.trans x3) r1
    have s:=x3.sub
    cases x with
    | lst xs =>
     cases Option.some.inj q
     obtain ⟨p,vs,rfl,hp,rp⟩:=OB.lst s r3
     refine .inl (.inl ⟨p,vs,rfl,SqL.of hp,fun c hc=>?_⟩)
     have x4:=Ext.freeze (o:=HO.lst (jK vs lo hi)) s hc
     exact w _ _ _ (x13.trans x4) (.lst ap ((rp.cut lo hi).mono x4.fr))
    | scr ns =>
     cases Option.some.inj q
     obtain ⟨p,o,rfl,hp⟩:=r3.scr
     refine .inl (.inl ⟨p,_,rfl,.inl (.inr ⟨o,s _ _ hp⟩),fun c hc=>?_⟩)
     have x4:=Ext.freeze (o:=HO.lst (jK (ns.map V.int) lo hi)) s hc
     refine w _ _ _ (x13.trans x4) (.lst ap ?_)
     have e1:jK (ns.map V.int) lo hi=(cA ns lo hi).map V.int:=x_ V.int ns lo hi
     rw [e1]
     exact Reps.ints _
    | tup xs =>
     cases Option.some.inj q
     obtain ⟨p,vs,rfl,hp,rp⟩:=r3.tup
     by_cases hw:HT.sIx vs.length 0 lo=0∧HT.sIx vs.length vs.length hi=vs.length
     ·refine .inr (.inr ⟨p,vs,rfl,SqT.of (s _ _ hp),hw,?_⟩)
      refine w _ F3 H3 x13 ?_
      have:cA xs lo hi=xs:=by
       unfold cA
       rw [← rp.length,hw.1,hw.2,rp.length]
       simp
      rw [this]
      exact .tup hp rp
     ·refine .inr (.inl ⟨p,vs,rfl,SqT.of (s _ _ hp),hw,fun c hc=>?_⟩)
      have x4:=Ext.freeze (o:=HO.tup (jK vs lo hi)) s hc
      exact w _ _ _ (x13.trans x4) (.tup ap ((rp.cut lo hi).mono x4.fr))
    | str z =>
     have q':(if z.length≤sizeLine then some (D.str (Txt.slice z lo hi)) else none)=some d:=q
     split at q'
     ·rename_i hz
      cases Option.some.inj q'
      exact .inl (.inr ⟨z,r3.str,hz,w _ F3 H3 x13 (.str _)⟩)
     ·cases q'
    | _=>cases q
noncomputable def uO:D→Option D
 | .lst xs=>some (.int xs.length)
 | .tup xs=>some (.int xs.length)
 | .scr xs=>some (.int xs.length)
 | .str x=>if x.length≤sizeLine then some (.int x.length) else none
 | _=>none
theorem A8 {K:PySem.W.Frag}:lE .V (fun xs H Q=>∃ x n,xs=[x]∧Cm K x H n∧Q (.int n) H) uO:=fun F H v x d Q s rx h q=>by
 match x,h with
 | .lst xs,h =>
  cases Option.some.inj h
  obtain ⟨p,vs,rfl,hp,rp⟩:=OB.lst s rx
  exact ⟨_,xs.length,rfl,.inl ⟨vs,SqL.of hp,rp.length.symm⟩,q _ F H (Ext.refl s) (.int _)⟩
 | .tup xs,h =>
  cases Option.some.inj h
  obtain ⟨p,vs,rfl,hp,rp⟩:=rx.tup
  exact ⟨_,xs.length,rfl,.inr ⟨vs,SqT.of (s _ _ hp),rp.length.symm⟩,q _ F H (Ext.refl s) (.int _)⟩
 | .scr ns,h =>
  cases Option.some.inj h
  obtain ⟨p,o,rfl,hp⟩:=rx.scr
  exact ⟨_,ns.length,rfl,.inl ⟨_,.inl (.inr ⟨o,s _ _ hp⟩),by rw [List.length_map]⟩,q _ F H (Ext.refl s) (.int _)⟩
 | .str z,h =>
  have h':(if z.length≤sizeLine then some (D.int z.length) else none)=some d:=h
  split at h'
  ·rename_i hz
   cases Option.some.inj h'
   cases rx.str
   exact ⟨_,z.length,rfl,⟨hz,rfl⟩,q _ F H (Ext.refl s) (.int _)⟩
  ·cases h'
noncomputable def lB:List D→Option (List Bool)
 | []=>some []
 | .bl b :: r=>(lB r).map fun bs=>b :: bs
 | _=>none
theorem mG:∀ {ds:List D}{bs:List Bool},lB ds=some bs→ds=bs.map D.bl
 | [],bs,h=>by cases h; rfl
 | .bl b :: r,bs,h=>by
  unfold lB at h
  cases hr:lB r with
  | none=>rw [hr] at h; cases h
  | some cs =>
   rw [hr] at h
   cases h
   rw [mG hr]; rfl
noncomputable def c7:D→Option D
 | .lst xs=>(lB xs).map fun bs=>.bl (bs.all id)
 | _=>none
noncomputable def DH:D→Option D
 | .lst xs=>(lB xs).map fun bs=>.bl (bs.any id)
 | _=>none
theorem A9:lE .V (fun xs H Q=>∃ (a:Addr) (bs:List Bool),xs=[.ref a]∧H a=some (.lst (bs.map V.bl))∧Q (.bl (bs.all id)) H) c7:=fun F H v x d Q s rx h q=>by
 match x,h with
 | .lst xs,h =>
  have h':((lB xs).map fun bs=>D.bl (bs.all id))=some d:=h
  cases hb:lB xs with
  | none=>rw [hb] at h'; cases h'
  | some bs =>
   rw [hb] at h'
   cases h'
   obtain ⟨p,vs,rfl,hp,rp⟩:=OB.lst s rx
   rw [mG hb] at rp
   rw [Reps.bls rp] at hp
   exact ⟨p,bs,rfl,hp,q _ F H (Ext.refl s) (.bl _)⟩
theorem eO {p:Pos} (hc:X.calm=true) (hg:Gl X "all") (hm:X.mg "all" = none) (hv:bootBuiltins "all" = some (.builtin "all")) (ha:Ev X .O e f) (he:aO e=true:=by rfl):Ev X .V (.Call (.Name "all" p) [e] [] pos) (un c7 f) :=
 nN (yd hc) A9 hg hm hv ha (by decide) (by decide) he
noncomputable def tyN:D→String
 | .non => "NoneType" | .bl _ => "bool" | .int _ => "int" | .str _ => "str" | .tup _ => "tuple" | .lst _ => "list" | .dic _ => "dict" | .scr _ => "list"
noncomputable def b9 (t T:String):Bool:=t == T || (t == "bool" && T == "int")
noncomputable def q9 (T:String):Bool:=T == "str" || T == "int" || T == "bool" || T == "tuple" || T == "list" || T == "dict"
theorem Cs {K:PySem.W.Frag}{F H:Hp}{v:V}{d:D} (s:∀ a u,F a=some u→H a=some u) (r:OB F H v d):ik K H v (.type (tyN d)):=by
 cases d with
 | non=>rw [r.non]; exact .non
 | bl b=>rw [r.bl]; exact .bl b
 | int i=>rw [r.int]; exact .int i
 | str x=>rw [r.str]; exact .str x
 | tup xs=>obtain ⟨p,vs,rfl,hp,_⟩:=r.tup; exact .tup (s _ _ hp)
 | lst xs=>obtain ⟨p,vs,rfl,hp,_⟩:=OB.lst s r; exact .lst hp
 | dic xs=>obtain ⟨p,vs,rfl,hp,_⟩:=OB.dic s r; exact hp.elim (fun h=>.dK h) fun zz110_0=>by obtain ⟨_,h⟩:=zz110_0; exact .frzD h
 | scr ns=>obtain ⟨p,o,rfl,hp⟩:=r.scr; exact .frz (s _ _ hp)
theorem zw (K:PySem.W.Frag) (d:D) {T:String} (h:q9 T=true):PySem.W.kitOne K (.type (tyN d)) (.type T)=some (b9 (tyN d) T):=by
 have hT:T = "str"∨T = "int"∨T = "bool"∨T = "tuple"∨T = "list"∨T = "dict" := by simpa [q9,or_assoc] using h
 rcases hT with rfl | rfl | rfl | rfl | rfl | rfl <;> cases d <;> rfl
noncomputable def isF (T:String) (f:DE→Option D) (E:DE):Option D:=(f E).map fun d=>.bl (b9 (tyN d) T)
theorem ba {p px:Pos}{x:Str}{T:String} (hT:q9 T=true) (hg:Gl X "isinstance") (hm:X.mg "isinstance" = none) (hv:bootBuiltins "isinstance" = some (.builtin "isinstance")) (hgx:Gl X x) (hmx:X.mg x=none) (hvx:bootBuiltins x=some (.type T))
  (ha:Ev X .O e f) (hn:x ≠ "__name__" := by decide) (hd:(x == ("__debug__" : Str))=false:=by decide) (he:aO e=true:=by rfl):Ev X .V (.Call (.Name "isinstance" p) [e,.Name x px] [] pos) (isF T f) :=
 PE.by (kt qd hg hm hv (c_ ha.h (c_ (zh hgx hmx hvx (v:=.ty T) rfl hn hd) gg (aA _ [] X.env rfl)) (aA e [.Name x px] X.env he)) (by decide) (by decide) (aA e [.Name x px] X.env he) (du pos X.env [.Name x px] rfl)) fun σ H Q zz111_0=>by
  obtain ⟨B,F,E,d,k,q,w⟩:=zz111_0
  unfold isF at q
  cases hf:f E with
  | none=>simp [hf] at q
  | some x =>
   simp only [hf,Ej] at q
   cases q
   exact ⟨B,F,E,x,k,hf,fun v F' H' x1 r1=>⟨v,T,_,_,rfl,Cs x1.sub r1,zw X.K x hT,w _ F' H' x1 (.bl _)⟩⟩
noncomputable def aT:D→Option D
 | .lst xs=>some (.tup xs)
 | .tup xs=>some (.tup xs)
 | _=>none
noncomputable def Ax:D→Option D
 | .lst xs=>some (.lst xs)
 | .tup xs=>some (.lst xs)
 | _=>none
theorem wb {K:PySem.W.Frag}:lE .V (fun xs H Q=>∃ p ys,xs=[.ref p]∧((SqL K H p ys∧∀ l,H l=none→Q (.ref l) (upd H l (.tup ys)))∨(SqT K H p ys∧Q (.ref p) H))) aT:=fun F H v x d Q s rx h q=>by
 match x,h with
 | .lst xs,h =>
  cases Option.some.inj h
  obtain ⟨p,vs,rfl,hp,rp⟩:=OB.lst s rx
  refine ⟨p,vs,rfl,.inl ⟨SqL.of hp,fun c hc=>?_⟩⟩
  have x4:=Ext.freeze (o:=HO.tup vs) s hc
  exact q _ _ _ x4 (.tup ap (rp.mono x4.fr))
 | .tup xs,h =>
  cases Option.some.inj h
  obtain ⟨p,vs,rfl,hp,rp⟩:=rx.tup
  exact ⟨p,vs,rfl,.inr ⟨SqT.of (s _ _ hp),q _ F H (Ext.refl s) (.tup hp rp)⟩⟩
theorem bt {p:Pos} (hg:Gl X "tuple") (hm:X.mg "tuple" = none) (hv:bootBuiltins "tuple" = some (.type "tuple")) (ha:Ev X .O e f) (he:aO e=true:=by rfl):Ev X .V (.Call (.Name "tuple" p) [e] [] pos) (un aT f) :=
 xB lA wb hg hm hv ha (by decide) (by decide) he
end
theorem vn {js:List Nat}{fi:DE→Option (List D)} {gf:D→DE→Option DE}{cf:DE→Option Bool}{ef:DE→Option D}:∀ E d,aD js fi gf cf ef E=some d→∃ xs,d=.lst xs:=fun E d h=>by
 unfold aD at h
 cases h1:fi E with
 | none=>rw [h1] at h; cases h
 | some xs =>
  rw [h1] at h
  have h':(if xs.length≤sizeLine then (bu gf cf ef (aQ js E) xs).map D.lst else none)=some d:=h
  split at h'
  ·cases h2:bu gf cf ef (aQ js E) xs with
   | none=>rw [h2] at h'; cases h'
   | some ys=>rw [h2] at h'; cases h'; exact ⟨_,rfl⟩
  ·cases h'
theorem xy {f:DE→Option D} (hl:∀ E d,f E=some d→∃ xs,d=.lst xs) (σ:St) (H:Hp) (Q:VK) (h:tM .V f σ H Q):tM .F f σ H Q:=by
 obtain ⟨B,F,E,d,k,q,w⟩:=h
 refine ⟨B,F,E,d,k,q,fun v F' H' x r=>?_⟩
 obtain ⟨p,o,h1,h2,h3,h4,h5⟩:=r
 have up:∀ c u,F' c=some u→(upd F' p o) c=some u:=fun c u z=>by rw [ah (fun y=>by rw [y,h4] at z; cases z)]; exact z
 subst h1
 obtain ⟨xs,rfl⟩:=hl E d q
 have hfz:fzO default o=o:=by
  cases o <;> first | rfl | exact False.elim h5
 refine w _ (upd F' p o) H' ⟨x.same,fun c u z=>up c u (x.fr c u z),fun c u z=>?_,fun c z n=>?_⟩ ((h5.mono up).rep (ob:=default) (by rw [hfz]; exact ap))
 ·by_cases hc:c=p
  ·subst hc; rw [ap] at z; cases z; exact h3
  ·rw [ah hc] at z; exact x.sub c u z
 ·have hc:c ≠ p:=fun y=>n (by rw [y]; exact h2)
  rw [ah hc]; exact x.new c z n
theorem xL {X:Cx}{scope:Scope}{js:List Nat}{elt tg iter:Expr}{ifs:List Expr}{pos:Pos}{fi:DE→Option (List D)} {gf:D→DE→Option DE}{cf:DE→Option Bool}{ef:DE→Option D}{i:Nat}{x:Str}{px:Pos}{spos:Pos} (hN:X.N.Nodup) (hix:X.N[i]? = some x) (hx:Loc X.env.scope x) (b:Blk X scope js) (hc:X.calm=true) (hI:Ei X tg iter fi) (hj:lc js gf)
  (hg:∀ C fp s0 H0,Eg (bY X scope C fp s0 H0) tg gf) (hi:∀ C fp s0 H0,Ah (bY X scope C fp s0 H0) ifs cf) (he:∀ C fp s0 H0,Ev (bY X scope C fp s0 H0) .V elt ef)
  (hsw:swapsWith (.ListComp elt [⟨tg,iter,ifs,0⟩] scope pos) (some (.Name x px)) spos.line X.env=pure true)
  (hfn:X.fn x=true∨X.env.scope.names.lookup x=some .local:=by first | exact .inl rfl | exact .inr rfl | assumption) (hs:∀ x,foldedSetIterable iter X.env x=pure x:=by intro _; rfl) :
  Es X (.Assign [.Name x px] (.ListComp elt [⟨tg,iter,ifs,0⟩] scope pos) spos) (aS i (aD js fi gf cf ef)):=PS.by (yY hN hix hx b hc hI.h (fun C fp s0 H0=>(hg C fp s0 H0).h) (fun C fp s0 H0=>(hi C fp s0 H0).h) (fun C fp s0 H0=>(he C fp s0 H0).h) hsw hfn hs) fun Z σ H h=>mE hj σ H _ (xy vn σ H _ (oK Z σ H h))
theorem nL {X:Cx}{x:Str}{v:V}{d:D}{u:Value}{pos:Pos} (hg:Gl X x) (hm:X.mg x=some u) (r:aW v u) (rd:∀ F,Rep F v d) (hd:(x == ("__debug__" : Str))=false:=by decide):Ev X .V (.Name x pos) (cst d):=kS (ze hg hm r hd) rd
noncomputable def bi (n m:Nat) (b:DE→Option Out) (ds:List D):Option D:=if ds.length=n then (b (ds.map Sl.val ++ List.replicate (m - n) Sl.no)).bind fun r=>match r with
 | .rt d=>some d
 | .nx _=>some .non
 | _=>none
 else none
theorem o_ {F H:Hp}{vs:List V}{ds:List D}{N:List Str} (s:∀ a o,F a=some o→H a=some o) (r:Reps F vs ds):Ok (F,H) F H (start N vs) (ds.map Sl.val ++ List.replicate (N.length - ds.length) Sl.no):=by
 have noown:∀ (i:Nat) d,(ds.map Sl.val ++ List.replicate (N.length - ds.length) Sl.no)[i]? = some (.own d)→False:=fun i d h=>by
  have:=List.mem_of_getElem? h
  rcases List.mem_append.mp this with q | q
  ·obtain ⟨x,_,e⟩:=List.mem_map.mp q; cases e
  ·have:=(List.mem_replicate.mp q).2; cases this
 refine ⟨Ext.refl s,?_,fun i d h=>?_,fun i d h=>(noown i d h).elim,fun i j d e a _ h=>(noown i d h).elim,?_⟩
 ·unfold start
  rw [List.length_append,List.length_append,List.length_map,List.length_map,List.length_replicate,List.length_replicate,r.length]
 ·have hl:=r.length
  by_cases hi:i < ds.length
  ·rw [List.getElem?_append_left (by simpa using hi),List.getElem?_map] at h
   cases hd:ds[i]? with
   | none=>rw [hd] at h; cases h
   | some d' =>
    rw [hd] at h
    cases h
    obtain ⟨v,h1,h2⟩:=r.get hd
    refine ⟨v,?_,h2⟩
    unfold start
    rw [List.getElem?_append_left (by simpa [hl] using hi),List.getElem?_map,h1]; rfl
  ·rw [List.getElem?_append_right (by simpa using hi)] at h
   have:=List.mem_of_getElem? h
   have:=(List.mem_replicate.mp this).2
   cases this
 ·have no:∀ (i:Nat) z,(ds.map Sl.val ++ List.replicate (N.length - ds.length) Sl.no)[i]? = some z→(∃ d,z=.val d)∨z=.no:=fun i z h=>by
   rcases List.mem_append.mp (List.mem_of_getElem? h) with q | q
   ·obtain ⟨x,_,e⟩:=List.mem_map.mp q; exact .inl ⟨x,e.symm⟩
   ·exact .inr (List.mem_replicate.mp q).2
  have n1:∀ (i:Nat) t,(ds.map Sl.val ++ List.replicate (N.length - ds.length) Sl.no)[i]? = some (.obj t)→False:=fun i t h=>by rcases no i _ h with ⟨d,e⟩ | e <;> cases e
  exact ⟨fun _=>[],fun i t h=>(n1 i t h).elim,fun i j t d b h=>(n1 i t h).elim,fun i j t u _ h=>(n1 i t h).elim,fun i t h=>by rcases no i _ h with ⟨d,e⟩ | e <;> cases e⟩
theorem fnD {P:Program}{w:World}{K:PySem.W.Frag}{mg:Str→Option Value}{base:Heap}{x qual:Str}{st:Stmt}{f:Addr}{fd:FuncData}{N ps:List Str}{k:Nat}{b:DE→Option Out} (Fn:Fun K x qual st f fd) (S:aF N ps (ag st))
  (hbody:∀ (cdv:Value) (A:Around) (outer:List Env) (s:Shared) (H:Hp) (E:XK),dM k (A.deeper (envOfC qual (ag st) s.heap.objs.size f cdv)) →
   Ess (nS CX0 P w K mg base N qual (ag st) f cdv A outer s H E).nox (eE st) b):bC P w K mg base CX0 (k + 1) f fd ps (spD ps.length (bi ps.length N.length b)):=by
 refine Fn.ok S (fun vs H Q E h=>?_) (fun cdv A outer s H vs Q E hr h=>?_)
 ·obtain ⟨F,ds,d,_,r,hl,_⟩:=h
  rw [r.length,hl]
 ·obtain ⟨F,ds,d,hs,r,hl,hg,q⟩:=h
  refine ⟨_,(hbody cdv A outer s H E hr).h,?_⟩
  unfold bi at hg
  rw [if_pos hl] at hg
  cases hb:b (ds.map Sl.val ++ List.replicate (N.length - ps.length) Sl.no) with
  | none=>rw [hb] at hg; cases hg
  | some rr =>
   rw [hb] at hg
   have k0:=o_ (N:=N) hs r
   rw [hl] at k0
   refine ⟨(F,H),F,_,rr,k0,hb,?_⟩
   cases rr with
   | rt d'=>cases hg; exact fun v F' H' x r'=>q v F' H' x r'
   | nx E'=>cases hg; exact fun σ' F' H' k' _=>q .non F' H' k'.ent .non
   | bk E'=>cases hg
   | ct E'=>cases hg
open PySem.W in
theorem z_ {ns:List Int} (h:WData.layableAll [WData.list (ns.map WData.int)]=true):∀ n ∈ ns,Builtin.Int.intBits n≤2 ^ 20:=by
 have h1:(WData.list (ns.map WData.int)).layable=true:=by
  have:=h
  simp only [WData.layableAll,List.all_cons,List.all_nil,Bool.and_true] at this
  exact this
 intro n hn
 have h2:=layableW_item h1 (WData.int n) (List.mem_map.mpr ⟨n,hn,rfl⟩)
 have h3:=(layableW_iff.mp h2).2.2
 exact h3
noncomputable def nz (K:PySem.W.Frag):Bool:=K.all fun p => !(p.2.cls == Value.type "list")
theorem pz {K:PySem.W.Frag} (h:nz K=true) {a:Addr}{o:Obj} (e:K.lookup a=some o):o.cls ≠ Value.type "list" := by
 intro hc
 have hm:(a,o) ∈ K:=by
  clear h
  induction K with
  | nil=>cases e
  | cons p r ih =>
   obtain ⟨b,u⟩:=p
   rw [List.lookup_cons] at e
   cases hb:a == b with
   | true =>
    rw [hb] at e
    have e1:a=b:=by simpa using hb
    have e2:u=o:=by simpa using e
    rw [e1,e2]; exact List.mem_cons_self
   | false=>rw [hb] at e; exact List.mem_cons_of_mem _ (ih e)
 have:=List.all_eq_true.mp h (a,o) hm
 rw [hc] at this
 simp at this
theorem BD {K:PySem.W.Frag}{H:Hp}{a:Addr}{ns:List Int}{g:List D→Option D} (hK:∀ o,K.lookup a=some o→o.cls ≠ Value.type "list") (hS:SqL K H a (ns.map V.int)) (hO:Cj H) (law:g [.scr ns]=some (.bl true)) :
  spD 1 g [.ref a] H (fun v _=>v=.bl true) fun _ _ _=>False:=by
 rcases hS with hS | ⟨o,its,n,hl,hc,_⟩
 ·have e:∃ o,H a=some (.frz o (.lst (ns.map V.int))):=by
   rcases hS with hS | hS
   ·rcases hO a with z | ⟨o,xs,z⟩
    ·rw [hS] at z; cases z
    ·rw [hS] at z; cases z
   ·exact hS
  obtain ⟨o,e⟩:=e
  refine ⟨H,[.scr ns],.bl true,fun _ _ q=>q,.cons (.scr e) .nil,rfl,law,fun v F' H' x r=>?_⟩
  cases r
  rfl
 ·exact absurd hc (hK o hl)
section
variable {X:Cx}{a b e:Expr}{pos:Pos}{f g:DE→Option D}
noncomputable def bT:D→Option Key
 | .int i=>some (.inl (some i))
 | .non=>some (.inl none)
 | .str x=>some (.inr x)
 | _=>none
theorem cQ {F H:Hp}{v:V}{d:D}{k:Key} (h:bT d=some k) (r:OB F H v d):v=kV k:=by
 match d,h with
 | .int i,h=>cases h; rw [r.int]; rfl
 | .non,h=>cases h; rw [r.non]; rfl
 | .str x,h=>cases h; rw [r.str]; rfl
noncomputable def jl (_:DE):Option D:=some (.dic [])
theorem gM:Ev X .F (.Dict [] [] pos) jl:=PE.by wH fun σ H Q zz112_0=>by
 obtain ⟨B,F,E,d,k,q,w⟩:=zz112_0
 cases q
 intro p hp
 exact w _ F _ (Ext.lay k.sub hp) ⟨p,_,rfl,hp,ap,nofr k.sub hp,RepK.nil⟩
noncomputable def xZ (f g:DE→Option D) (E:DE):Option D:=(f E).bind fun x=>(bT x).bind fun k=>(g E).map fun v=>.dic [(k,v)]
theorem zH (ha:Ev X .V a f) (hb:Ev X .V b g):Ev X .F (.Dict [some a] [b] pos) (xZ f g):=PE.by (zf (wt ha.h hb.h yZ) rfl rfl (by simp) (by simp)) fun σ H Q zz113_0=>by
 obtain ⟨B,F,E,d,k,q,w⟩:=zz113_0
 unfold xZ at q
 cases h1:f E with
 | none=>simp [h1] at q
 | some x =>
  cases h2:bT x with
  | none=>simp [h1,h2] at q
  | some ky =>
   cases h3:g E with
   | none=>simp [h1,h2,h3] at q
   | some y =>
    simp only [h1,h2,h3,Ef,Ej] at q
    cases q
    intro p hp
    have x0:Ext F H F (upd H p (.dK [])):=Ext.lay k.sub hp
    have fp:F p=none:=nofr k.sub hp
    refine ⟨B,F,E,x,k.ext x0,h1,fun v F1 H1 x1 r1=>⟨B,F1,E,y,(k.ext x0).ext x1,h3,fun u F2 H2 x2 r2=>?_⟩⟩
    have x12:=x1.trans x2
    have hHp:H2 p=some (.dK []):=x12.same p _ ap
    have f2p:F2 p=none:=x12.new p fp (by rw [ap]; simp)
    refine ⟨hHp,[(ky,u)],?_,by simp,?_⟩
    ·rw [cQ (F:=F1) (H:=H1) h2 (.inl r1)]; rfl
    ·have x3:Ext F (upd H p (.dK [(ky,u)])) F2 (upd H2 p (.dK [(ky,u)])):=x12.stepD fp
     refine w _ F2 _ ((Ext.lay k.sub hp).trans x3) ⟨p,_,rfl,hp,ap,f2p,?_⟩
     exact RepK.cons r2 .nil
end
noncomputable abbrev Di:=wX
theorem fnG {P:Program}{w:World}{K:PySem.W.Frag}{mg:Str→Option Value}{base:Heap}{x qual:Str}{st:Stmt}{f:Addr}{fd:FuncData}{N ps:List Str}{k k1 n m:Nat}{b:DE→Option Out}{g:List D→Option D} (Fn:Fun K x qual st f fd) (S:aF N ps (ag st))
  (hn:ps.length=n) (hm:N.length=m) (hk:k + 1=k1) (hg:g=bi n m b)
  (hbody:∀ (cdv:Value) (A:Around) (outer:List Env) (s:Shared) (H:Hp) (E:XK),dM k (A.deeper (envOfC qual (ag st) s.heap.objs.size f cdv)) →
   Ess (nS CX0 P w K mg base N qual (ag st) f cdv A outer s H E).nox (eE st) b):bC P w K mg base CX0 k1 f fd ps (spD n g):=by
 subst hn hm hk hg
 exact fnD Fn S hbody
section
variable {X:Cx}
theorem aC (i:Nat) {x:Str}{pos:Pos} (hN:X.N[i]? = some x:=by rfl) (hv:Vis X.env.scope x:=by first | exact Or.inl rfl | exact Or.inr (Or.inl rfl) | exact Or.inr (Or.inr rfl)) (hd:(x == ("__debug__" : Str))=false:=by decide)
  (hcd:(x == ("__classdict__" : Str))=false:=by decide):Ev X .V (.Name x pos) (var i):=BX i (qO hN hv hd hcd)
theorem al (i:Nat) {x:Str}{pos:Pos} (hN:X.N[i]? = some x:=by rfl) (hv:Vis X.env.scope x:=by first | exact Or.inl rfl | exact Or.inr (Or.inl rfl) | exact Or.inr (Or.inr rfl)) (hd:(x == ("__debug__" : Str))=false:=by decide)
  (hcd:(x == ("__classdict__" : Str))=false:=by decide):Ev X .O (.Name x pos) (aa i):=zF i (qO hN hv hd hcd)
end
section
variable {X:Cx}{a b e:Expr}{pos apos cpos spos:Pos}{f g:DE→Option D}
theorem v4 {α:Type}{l:List α}{i:Nat}{x:α} (h:l[i]? = some x):l.set i x=l:=by
 obtain ⟨hi,rfl⟩:=List.getElem?_eq_some_iff.mp h
 exact List.set_getElem_self hi
theorem Ok.rewrite {B:Hp×Hp}{F H:Hp} {σ:St}{E:DE} (k:Ok B F H σ E) {i:Nat}{d d':D}{p:Addr}{o':HO} (h:E[i]? = some (.own d)) (hs:σ[i]? = some (some (.ref p))) (r:fP F o' d'):Ok B F (upd H p o') σ (E.set i (.own d')):=by
 obtain ⟨q,o,h1,h2,h3,h4,h5⟩:=k.own i d h
 have e:p=q:=by rw [hs] at h1; cases h1; rfl
 subst e
 have z:=k.put_own i h3 h4 r (fun j e' hj he hq=>k.sep j i e' d p hj he h hq hs) (let ⟨fp,m⟩:=k.ob; ⟨fp,m,fun j t hb=>m.sep j i t d p hb h hs⟩)
 rwa [v4 hs] at z
noncomputable def dk (i:Nat) (f:DE→Option D) (E:DE):Option Out:=match E[i]? with
 | some (.own (.lst ds))=>(f E).bind fun d=>if ds.length < sizeLine then some (.nx (E.set i (.own (.lst (ds ++ [d]))))) else none
 | _=>none
theorem sy {B:Hp×Hp}{F H:Hp} {σ:St}{E:DE} (k:Ok B F H σ E) {i:Nat}{ds:List D} (h:E[i]? = some (.own (.lst ds))):∃ p vs,σ[i]? = some (some (.ref p))∧H p=some (.lst vs)∧F p=none∧Reps F vs ds:=by
 obtain ⟨q,o,h1,h2,h3,h4,h5⟩:=k.own i _ h
 cases o with
 | lst vs=>exact ⟨q,vs,h1,h2,h3,h5⟩
 | _=>exact False.elim h5
theorem gF {B:Hp×Hp}{F H:Hp} {σ:St}{E:DE} (k:Ok B F H σ E) {i:Nat}{ds:List (Key×D)} (h:E[i]? = some (.own (.dic ds))):∃ p vs,σ[i]? = some (some (.ref p))∧H p=some (.dK vs)∧F p=none∧RepK F vs ds:=by
 obtain ⟨q,o,h1,h2,h3,h4,h5⟩:=k.own i _ h
 cases o with
 | dK vs=>exact ⟨q,vs,h1,h2,h3,h5⟩
 | _=>exact False.elim h5
theorem c5 {i:Nat}{o:Expr} (ho:PE X o (fT i)) (he:Ev X .V e f) (hbase:attributeBase o "append" X.env (eval o X.env)=eval o X.env:=by rfl)
  (hfew:((backTo cpos (starEach [e] X.env)).all (fun x => !x.1) && (backToKw cpos (keywordEach [] X.env)).all (fun x=>x.1.isSome) && decide (([e]:List Expr).length + ([]:List Keyword).length + (if ([]:List Keyword).isEmpty then 0 else 1) < 30))=true:=by rfl)
  (hline:(apos.endLine == cpos.line)=true:=by rfl) (hns:aO e=true:=by rfl) (hs:swapsWith (.Call (.Attribute o "append" apos) [e] [] cpos) none spos.line X.env=pure false:=by rfl) :
  Es X (.Expr (.Call (.Attribute o "append" apos) [e] [] cpos) spos) (dk i f) :=
 PS.by (fC (sw PySem.F.plainAttrs_list PySem.F.slot_list_append PySem.F.type_list_append jb ho (c_ he.h gg (aA e [] X.env hns)) hbase hfew hline (aA e [] X.env hns) rfl) hs) fun Z σ H zz114_0=>by
  obtain ⟨B,F,E,r,k,q,w⟩:=zz114_0
  unfold dk at q
  split at q
  ·rename_i ds hd
   cases hf:f E with
   | none=>simp [hf] at q
   | some d =>
    simp only [hf,Ef] at q
    split at q
    ·rename_i hz
     cases q
     obtain ⟨p,vs,h1,h2,h3,h4⟩:=sy k hd
     refine ⟨.ref p,h1,.inl ⟨rfl,vs,SqL.of h2⟩,B,F,E,d,k,hf,fun v F' H' x rv=>⟨p,vs,v,rfl,rfl,x.same _ _ h2,by rw [h4.length]; exact hz,?_⟩⟩
     exact w σ F' _ ((k.ext x).rewrite hd h1 (o':=.lst (vs ++ [v])) ((h4.mono x.fr).append (.cons rv .nil))) x.fr
    ·cases q
  ·cases q
noncomputable def Ap (K:PySem.W.Frag):V→List V→Hp→VK→Prop:=fun x vs H Q=>∃ l b xs zs,x=.ref l∧vs=[.ref b]∧H l=some (.lst xs)∧(H b=some (.lst zs)∨SqT K H b zs)∧xs.length + zs.length≤sizeLine∧Q .non (upd H l (.lst (xs ++ zs)))
theorem qV:MtM X "list.extend" (Ap X.K):=by
 intro pins s σ H x vs v us Q I rx rv h
 obtain ⟨l,b,xs,zs,rfl,rfl,hH,hB,hz,q⟩:=h
 rcases hB with hB | hB
 ·exact uI pins s σ H _ _ v us Q I rx rv ⟨l,b,xs,zs,rfl,rfl,hH,hB,hz,q⟩
 cases rx
 obtain ⟨u,rfl,ru⟩:=rv.one
 cases ru
 obtain ⟨z,its,n,r,hl,e⟩:=I.lstM hH
 obtain ⟨its2,r2,ht,hz2⟩:=I.tuple hB
 obtain ⟨o2,ho2,hc2,n2,hd2⟩:=id ht
 have hsz:its.toArray.size + its2.toArray.size≤sizeLine:=by rw [List.size_toArray,List.size_toArray,← r2.length]; omega
 have hlong:¬ (!its.toArray.isEmpty && Builtin.List.listTooLong (its.toArray.size + its2.toArray.size))=true:=by
  rw [pk hsz,Bool.and_false]
  exact Bool.false_ne_true
 refine wpAny_call_entry F.slot_list_extend ⟨_,e,rfl⟩ F.entry_list_extend ?_ (F.args_list_extend_2 _ _)
 show wpAny _ _ (Builtin.List.listExtendWith (.ref l) (.ref b) .none) _ _ s
 unfold Builtin.List.listExtendWith
 refine wpAny_bind (wpAny_typeOf (T := "tuple") ⟨o2,ho2,hc2⟩ ?_)
 rw [if_pos (by rw [show (Value.type "tuple" == Value.type "tuple")=true from rfl]; simp)]
 refine wpAny_bind (listItems_at ho2 hd2 ?_)
 refine wpAny_bind (listItems_at e rfl ?_)
 rw [if_neg hlong]
 refine wpAny_bind (listUpdate_at e rfl ?_ (by rw [List.size_toArray]; omega) (by simp only [Array.size_append]; omega))
 refine wpAny_pure ⟨_,rfl,?_⟩
 refine ⟨.non,_,I.lset (t':=s.toks) (its':=its ++ its2) hH e (by simp) (r.append r2) ?_,rfl,q⟩
 rw [List.length_append]
 omega
noncomputable def fZ:D→Option (List D)
 | .lst xs=>some xs
 | .tup xs=>some xs
 | _=>none
noncomputable def ly (i:Nat) (f:DE→Option D) (E:DE):Option Out:=match E[i]? with
 | some (.own (.lst ds))=>(f E).bind fun d=>(fZ d).bind fun es=>if ds.length + es.length≤sizeLine then some (.nx (E.set i (.own (.lst (ds ++ es))))) else none
 | _=>none
theorem mw {i:Nat}{o:Expr} (ho:PE X o (fT i)) (he:Ev X .O e f) (hbase:attributeBase o "extend" X.env (eval o X.env)=eval o X.env:=by rfl)
  (hfew:((backTo cpos (starEach [e] X.env)).all (fun x => !x.1) && (backToKw cpos (keywordEach [] X.env)).all (fun x=>x.1.isSome) && decide (([e]:List Expr).length + ([]:List Keyword).length + (if ([]:List Keyword).isEmpty then 0 else 1) < 30))=true:=by rfl)
  (hline:(apos.endLine == cpos.line)=true:=by rfl) (hns:aO e=true:=by rfl) (hs:swapsWith (.Call (.Attribute o "extend" apos) [e] [] cpos) none spos.line X.env=pure false:=by rfl) :
  Es X (.Expr (.Call (.Attribute o "extend" apos) [e] [] cpos) spos) (ly i f) :=
 PS.by (fC (sw PySem.F.plainAttrs_list PySem.F.slot_list_extend PySem.F.type_list_extend qV ho (c_ he.h gg (aA e [] X.env hns)) hbase hfew hline (aA e [] X.env hns) rfl) hs) fun Z σ H zz115_0=>by
  obtain ⟨B,F,E,r,k,q,w⟩:=zz115_0
  unfold ly at q
  split at q
  ·rename_i ds hd
   cases hf:f E with
   | none=>simp [hf] at q
   | some d =>
    simp only [hf,Ef] at q
    cases hq:fZ d with
    | none=>simp [hq] at q
    | some es =>
    simp only [hq,Ef] at q
    split at q
    ·rename_i hz
     cases q
     obtain ⟨p,vs,h1,h2,h3,h4⟩:=sy k hd
     refine ⟨.ref p,h1,.inl ⟨rfl,vs,SqL.of h2⟩,B,F,E,d,k,hf,fun v F' H' x rv=>?_⟩
     have fin:∀ (c:Addr) (zs:List V),(H' c=some (.lst zs)∨SqT X.K H' c zs)→Reps F' zs es→Ap X.K (.ref p) [.ref c] H' fun _ H1=>Z.nx σ H1:=fun c zs hc rz =>
      ⟨p,c,vs,zs,rfl,rfl,x.same _ _ h2,hc,by rw [h4.length,rz.length]; exact hz,w σ F' _ ((k.ext x).rewrite hd h1 (o':=.lst (vs ++ zs)) ((h4.mono x.fr).append rz)) x.fr⟩
     cases d with
     | lst xs =>
      cases hq
      obtain ⟨c,zs,rfl,hc,rz⟩:=OB.lst x.sub rv
      exact fin c zs (.inl hc) rz
     | tup xs =>
      cases hq
      obtain ⟨c,zs,rfl,hc,rz⟩:=OB.tup rv
      exact fin c zs (.inr (SqT.of (x.sub _ _ hc))) rz
     | _=>cases hq
    ·cases q
  ·cases q
noncomputable def nY (i:Nat) (f:DE→Option D) (E:DE):Option Out:=match E[i]? with
 | some (.val (.int n))=>(f E).bind fun d=>match d with
  | .int m=>some (.nx (E.set i (.val (.int (n + m)))))
  | _=>none
 | _=>none
theorem xM {i:Nat}{x:Str}{pos':Pos} (hN:X.N.Nodup) (hi:X.N[i]? = some x) (hx:Loc X.env.scope x) (he:Ev X .V e f) (hf:X.fn x=true∨X.env.scope.names.lookup x=some .local:=by first | exact .inl rfl | exact .inr rfl | assumption) :
  Es X (.AugAssign (.Name x pos') .Add e pos) (nY i f):=PS.by (Bf hN hi hx he.h BR hf) fun Z σ H zz116_0=>by
 obtain ⟨B,F,E,r,k,q,w⟩:=zz116_0
 unfold nY at q
 split at q
 ·rename_i n hn
  cases hf:f E with
  | none=>simp [hf] at q
  | some d =>
   rw [hf] at q
   cases d with
   | int m =>
    cases q
    obtain ⟨v,h1,h2⟩:=k.val i _ hn
    cases h2
    refine ⟨_,h1,B,F,E,.int m,k,hf,fun u F' H' x r=>?_⟩
    cases r
    exact ⟨n,m,rfl,rfl,w _ F' H' ((k.ext x).set_val (.int _) i) x.fr⟩
   | _=>cases q
 ·cases q
noncomputable def gA (f:DE→Option D) (gf:D→DE→Option DE) (E:DE):Option Out:=(f E).bind fun d=>(gf d E).map Out.nx
theorem u9 {tg:Expr}{gf:D→DE→Option DE} (he:Ev X .V e f) (hg:Eg X tg gf) (hs:swapsWithSole [tg] e pos.line X.env=pure false:=by rfl) (hw:swappedStores [tg] e X.env=pure none:=by rfl)
  (h1:(assignEach [tg] X.env).map (·.2)=[assign tg X.env]:=by rfl):Es X (.Assign [tg] e pos) (gA f gf):=PS.by (Bg he.h hg.h hs hw h1) fun Z σ H zz117_0=>by
 obtain ⟨B,F,E,r,k,q,w⟩:=zz117_0
 unfold gA at q
 cases hf:f E with
 | none=>simp [hf] at q
 | some d =>
  simp only [hf,Ef] at q
  cases hg:gf d E with
  | none=>simp [hg] at q
  | some E' =>
   simp only [hg,Ej] at q
   cases q
   exact ⟨B,F,E,d,k,hf,fun v F1 H1 x1 r1=>⟨B,F1,E,d,E',k.ext x1,r1,hg,fun σ2 F2 H2 k2 x2=>w σ2 F2 H2 k2 fun a o e=>x2.fr a o (x1.fr a o e)⟩⟩
noncomputable def cF (kvs:List (Key×D)) (k:Key):Option D:=(kvs.find? fun p=>decide (p.1=k)).map (·.2)
noncomputable def gl (fo fk fe:DE→Option D) (E:DE):Option D:=(fo E).bind fun d=>match d with
 | .dic kvs=>(fk E).bind fun x=>(bT x).bind fun k=>(fe E).map fun y=>(cF kvs k).getD y
 | _=>none
theorem RepK.val {F:Hp}{k:Key}:∀ {vs:List (Key×V)} {ds:List (Key×D)},RepK F vs ds→(∀ d,cF ds k=some d→∃ v,c6 vs k=some v∧Rep F v d)∧(cF ds k=none→c6 vs k=none)
 | _,_,.nil=>⟨fun d h=>(by cases h),fun _=>rfl⟩
 | _,_,@RepK.cons _ k' v d vs ds r t=>by
  obtain ⟨h1,h2⟩:=RepK.val (k:=k) t
  by_cases e:k'=k
  ·have e1:cF ((k',d) :: ds) k=some d:=by simp [cF,e]
   have e2:c6 ((k',v) :: vs) k=some v:=by simp [c6,e]
   refine ⟨fun d' h=>?_,fun h=>?_⟩
   ·rw [e1] at h; cases h; exact ⟨v,e2,r⟩
   ·rw [e1] at h; cases h
  ·have e1:cF ((k',d) :: ds) k=cF ds k:=by simp [cF,e]
   have e2:c6 ((k',v) :: vs) k=c6 vs k:=by simp [c6,e]
   rw [e1,e2]
   exact ⟨h1,h2⟩
theorem RepK.length {F:Hp}:∀ {vs:List (Key×V)} {ds:List (Key×D)},RepK F vs ds→vs.length=ds.length
 | _,_,.nil=>rfl
 | _,_,.cons _ t=>by simp [RepK.length t]
theorem ib (h:X.A.units + 64 < cLine):X.A.units + 1 < cLine:=by omega
theorem nM {o:Expr}{fo fk fe:DE→Option D} (hu:X.A.units + 64 < cLine) (ho:Ev X .O o fo) (ha:Ev X .V a fk) (hb:Ev X .V b fe) (hbase:attributeBase o "get" X.env (eval o X.env)=eval o X.env:=by rfl)
  (hfew:((backTo cpos (starEach [a,b] X.env)).all (fun x => !x.1) && (backToKw cpos (keywordEach [] X.env)).all (fun x=>x.1.isSome) && decide (([a,b]:List Expr).length + ([]:List Keyword).length + (if ([]:List Keyword).isEmpty then 0 else 1) < 30))=true:=by rfl)
  (hline:(apos.endLine == cpos.line)=true:=by rfl) (htr:backTo cpos (starEach [a,b] X.env)=[(false,eval a X.env),(false,eval b X.env)]:=by rfl):Ev X .V (.Call (.Attribute o "get" apos) [a,b] [] cpos) (gl fo fk fe) :=
 PE.by (wI (ib hu) ho.h ha.h hb.h ⟨hbase,hfew,hline,htr⟩) fun σ H Q zz118_0=>by
  obtain ⟨B,F,E,d,k,q,w⟩:=zz118_0
  unfold gl at q
  cases h1:fo E with
  | none=>simp [h1] at q
  | some dd =>
   rw [h1] at q
   cases dd with
   | dic kvs =>
    simp only [Ef] at q
    cases h2:fk E with
    | none=>simp [h2] at q
    | some x =>
     cases h3:bT x with
     | none=>simp [h2,h3] at q
     | some ky =>
      cases h4:fe E with
      | none=>simp [h2,h3,h4] at q
      | some y =>
       simp only [h2,h3,h4,Ef,Ej] at q
       cases q
       refine ⟨B,F,E,_,k,h1,fun v F1 H1 x1 r1=>?_⟩
       obtain ⟨p,vs,rfl,hp,rk⟩:=OB.dic x1.sub r1
       refine ⟨p,rfl,.inl ⟨vs,hp⟩,B,F1,E,x,k.ext x1,h2,fun u F2 H2 x2 r2=>⟨B,F2,E,y,(k.ext x1).ext x2,h4,fun z F3 H3 x3 r3=>?_⟩⟩
       have e2:=cQ (F:=F2) (H:=H2) h3 (.inl r2)
       have hp3:Rd H3 p (.dK vs):=qK x3.same (qK x2.same hp)
       refine ⟨c6 vs ky,by rw [e2]; exact jV hp3,?_⟩
       have x13:=(x1.trans x2).trans x3
       obtain ⟨v1,v2⟩:=RepK.val (k:=ky) (rk.mono (x2.trans x3).fr)
       cases hv:cF kvs ky with
       | some d' =>
        obtain ⟨v',e',r'⟩:=v1 d' hv
        rw [e']
        rw [hv] at w
        exact w v' F3 H3 x13 r'
       | none =>
        rw [v2 hv]
        rw [hv] at w
        exact w z F3 H3 x13 r3
   | _=>cases q
noncomputable def zB:D→Option D
 | .non=>some (.bl true)
 | _=>some (.bl false)
noncomputable def eB:D→Option D
 | .non=>some (.bl false)
 | _=>some (.bl true)
theorem yO {F:Hp}{v:V}{d:D} (r:Rep F v d):zB d=some (.bl (decide (v=.non)))∧eB d=some (.bl (!decide (v=.non))):=by
 cases r <;> exact ⟨by simp [zB],by simp [eB]⟩
theorem pQ (σ:St) (H:Hp) (Q:VK) (h:tM .V (un eB f) σ H Q):tOp (fun x y H Q=>y=.non∧Q (.bl (!decide (x=.non))) H) (tM .V f) (tC .non) σ H Q:=by
 obtain ⟨B,F,E,d,k,q,w⟩:=h
 unfold un at q
 cases hf:f E with
 | none=>simp [hf] at q
 | some x =>
  simp only [hf,Ef] at q
  refine ⟨B,F,E,x,k,hf,fun v F1 H1 x1 r1=>⟨rfl,?_⟩⟩
  rw [(yO r1).2] at q
  cases q
  exact w _ F1 H1 x1 (.bl _)
theorem u7 {j p} (h:Ev X .V e f):Et X (.Compare e [.IsNot] [.Constant .none j p] pos) (tst (un eB f)):=PT.by (na zi h.h wD (gh _)) fun σ H Q q=>pQ σ H _ (iu σ H Q q)
noncomputable def cP:List D→Option D
 | [.int i,.int j]=>some (.int (if j < i then j else i))
 | _=>none
noncomputable def Aw:List D→Option D
 | [.int i,.int j]=>some (.int (if i < j then j else i))
 | _=>none
theorem qW {ds:List D}{d:D} (h:cP ds=some d):∃ i j,ds=[.int i,.int j]∧d=.int (if j < i then j else i):=by
 unfold cP at h
 split at h
 ·cases h
  exact ⟨_,_,rfl,rfl⟩
 ·cases h
theorem A7:RdC .V (fun xs H Q=>∃ i j,xs=[V.int i,.int j]∧Q (.int (if j < i then j else i)) H) cP:=fun F H vs ds d Q s r h q=>by
 obtain ⟨i,j,rfl,rfl⟩:=qW h
 obtain ⟨v1,ws,rfl,r1,r⟩:=r.c1
 obtain ⟨v2,ws,rfl,r2,r⟩:=r.c1
 obtain rfl:=r.c0
 cases r1
 cases r2
 exact ⟨i,j,rfl,q _ F H (Ext.refl s) (.int _)⟩
theorem nJ {p:Pos}{f:DE→Option (List D)} (hc:X.calm=true) (hg:Gl X "min") (hm:X.mg "min" = none) (hv:bootBuiltins "min" = some (.builtin "min")) (ha:Ea X [a,b] f) (h1:aO a=true:=by rfl) (h2:aO b=true:=by rfl) :
  Ev X .V (.Call (.Name "min" p) [a,b] [] pos) (ff cP f) :=
 PE.by (kt (vp hc) hg hm hv ha.h (by decide) (by decide) (aA a [b] X.env h1) (du pos X.env [b] (by rw [List.all_cons,h2]; rfl))) (yi A7)
noncomputable def Do:D→Option D
 | .int i=>some (.int i)
 | .bl k=>some (.int (if k then 1 else 0))
 | _=>none
theorem BZ {n:Int}{j p pos}:Ev X .V (.UnaryOp .USub (.Constant (.int n) j p) pos) (cst (.int (-n))):=PE.by (C9 AL wE) fun σ H Q zz119_0=>by
 obtain ⟨B,F,E,d,k,q,w⟩:=zz119_0
 cases q
 exact ⟨n,rfl,w _ F H (Ext.refl k.sub) (.int _)⟩
end
noncomputable def noS (_:DE):Option Out:=none
theorem xK {X:Cx}{st:Stmt}:Es X st noS:=PS.by wo fun Z σ H ⟨B,F,E,r,k,q,w⟩=>by cases q
theorem u8 {X:Cx}{sts:List Stmt}:Ess X sts noS:=PSs.by ug fun Z σ H ⟨B,F,E,r,k,q,w⟩=>by cases q
theorem md {js:List Nat}{i:Nat}{s:Sl} (hi:i ∈ js):∀ E:DE,aQ js (E.set i s)=aQ js E:=by
 induction js with
 | nil=>cases hi
 | cons j r ih =>
  intro E
  show aQ r ((E.set i s).set j .no)=aQ r (E.set j .no)
  by_cases h:i=j
  ·subst h; rw [List.set_set]
  ·rw [List.set_comm _ _ h]
   rcases List.mem_cons.mp hi with e | e
   ·exact absurd e h
   ·exact ih e _
theorem pH (js:List Nat) (E:DE):aQ js (aQ js E)=aQ js E:=by
 have key:∀ (ks:List Nat) (E:DE),(∀ k ∈ ks,k ∈ js)→aQ js (aQ ks E)=aQ js E:=by
  intro ks
  induction ks with
  | nil=>intro E _; rfl
  | cons k r ih =>
   intro E h
   show aQ js (aQ r (E.set k .no))=_
   rw [ih _ fun x hx=>h x (List.mem_cons_of_mem _ hx),md (h k List.mem_cons_self)]
 exact key js E fun _ h=>h
noncomputable def gx (js:List Nat) (gf:D→DE→Option DE):Prop:=∀ d E E1,gf d E=some E1→aQ js E1=aQ js E
theorem gx.js {js:List Nat}{gf:D→DE→Option DE} (h:gx js gf):lc js gf:=fun d E E1 e=>by rw [h d _ E1 e,pH]
theorem gG {js:List Nat}{i:Nat} (h:i ∈ js):gx js (nmG i):=fun d E E1 e=>by
 cases e; exact md h E
noncomputable def jX (js:List Nat) (gf:List D→DE→Option DE):Prop:=∀ ds E E1,gf ds E=some E1→aQ js E1=aQ js E
theorem kx {js:List Nat}:jX js ck:=fun ds E E1 e=>by
 cases ds with
 | nil=>cases e; rfl
 | cons _ _=>cases e
theorem dR {js:List Nat}{g:D→DE→Option DE}{gs:List D→DE→Option DE} (h1:gx js g) (h2:jX js gs):jX js (aN g gs):=fun ds E E1 e=>by
 cases ds with
 | nil=>cases e
 | cons d r =>
  have e':(g d E).bind (fun E'=>gs r E')=some E1:=e
  cases hg:g d E with
  | none=>rw [hg] at e'; cases e'
  | some E2 =>
   rw [hg] at e'
   rw [h2 r E2 E1 e',h1 d E E2 hg]
theorem kw {js:List Nat}{n:Nat}{gs:List D→DE→Option DE} (h:jX js gs):gx js (ci n gs):=fun d E E1 e=>by
 cases d with
 | tup ds =>
  have e':(if ds.length=n then gs ds E else none)=some E1:=e
  split at e'
  ·exact h ds E E1 e'
  ·cases e'
 | _=>cases e
theorem ul1 {us:List Value} (hl:us.length=1):∃ a,us=[a]:=List.length_eq_one_iff.mp hl
theorem ul2 {us:List Value} (hl:us.length=2):∃ a b,us=[a,b]:=by
 cases us with
 | nil=>cases hl
 | cons a us =>
  obtain ⟨b,rfl⟩:=ul1 (Nat.succ.inj hl)
  exact ⟨a,b,rfl⟩
theorem ul3 {us:List Value} (hl:us.length=3):∃ a b c,us=[a,b,c]:=by
 cases us with
 | nil=>cases hl
 | cons a us =>
  obtain ⟨b,c,rfl⟩:=ul2 (Nat.succ.inj hl)
  exact ⟨a,b,c,rfl⟩
end L2.Cu
namespace L2
open PySem PySem.Spec PyProof.Rows
namespace SF
theorem slot_set_iter:Slot "set" "__iter__" "set.__iter__" :=
 .of (owner := "set") (n := "__iter__") (by rw [typeLookup_type,builtinLookup_eq_fast]; kernel_rfl) (by decide +kernel) (by decide +kernel) (by decide +kernel)
  (by first | exact .inl (by decide +kernel) | exact .inr (by decide +kernel)) (by rw [isSubtype_type]; kernel_rfl)
theorem entry_set_iter:entryFor table "set.__iter__" = some Builtin.«frozenset.__iter__» :=
 entryFor_alias (id' := "frozenset.__iter__") (by kernel_rfl) rfl (by decide +kernel) (by kernel_rfl)
theorem args_set_iter_1 (a:Value):argsOk "set.__iter__" ⟨[a],[]⟩:=by unfold argsOk; kernel_rfl
theorem slot_setit_next:Slot "set_iterator" "__next__" "set_iterator.__next__" :=
 .of (owner := "set_iterator") (n := "__next__") (by rw [typeLookup_type,builtinLookup_eq_fast]; kernel_rfl) (by decide +kernel) (by decide +kernel) (by decide +kernel)
  (by first | exact .inl (by decide +kernel) | exact .inr (by decide +kernel)) (by rw [isSubtype_type]; kernel_rfl)
theorem entry_setit_next:entryFor table "set_iterator.__next__" = some Builtin.«set_iterator.__next__»:=entryFor_of_tree (by kernel_rfl)
theorem args_setit_next_1 (a:Value):argsOk "set_iterator.__next__" ⟨[a],[]⟩:=by unfold argsOk; kernel_rfl
end SF
noncomputable abbrev dz (w:World):Bool:=w.params.followText "set-order"
noncomputable def jM (prog:Program) (w:World) (h:Heap) (a:Addr) (S:Str→Bool) (n:Nat):Prop :=
 ∃ o es ep t,h.get? a=some o∧o.ExactSet∧o.data=.set es ep t∧ElemsOf (strKind prog w) es.toList∧(∀ k,S k=true ↔ ∃ e ∈ es.toList,(strKind prog w).is k e.2=true)
 ∧es.size < scanBound∧t.fits es.size=true∧es.size=n∧t.led=(!dz w)∧(es.size ≠ 0→t.plain=false)
theorem ln (t:SetTable) (n:Nat):(t.orStandIn n).led=t.led∧(t.plain=false→(t.orStandIn n).plain=false):=by
 unfold SetTable.orStandIn
 split
 ·exact ⟨rfl,fun h=>h⟩
 ·exact ⟨rfl,fun _=>rfl⟩
theorem q8 (t:SetTable) (es:Array (Int×Value)) (h:Int) (x:Value):(layNew t es h x).2.1.led=t.led∧(t.plain=false→(layNew t es h x).2.1.plain=false):=by
 unfold layNew
 split
 ·exact ln _ _
 ·exact ⟨rfl,fun _=>rfl⟩
theorem m9 (t:SetTable) (es:Array (Int×Value)) (wanted:Nat):(relayAll t es wanted).2.1.led=t.led∧(t.plain=false→(relayAll t es wanted).2.1.plain=false):=by
 unfold relayAll
 split
 ·rename_i t' order hr
  have e:t'.led=t.led∧t'.plain=t.plain:=by
   unfold SetTable.relaid SetTable.laid at hr
   cases hl:SetTable.layClean (SetTable.sizeAbove wanted - 1) (es.map (·.1)) with
   | none=>rw [hl] at hr; cases hr
   | some ow=>rw [hl] at hr; cases hr; exact ⟨rfl,rfl⟩
  dsimp only
  split
  ·exact ⟨e.1,fun h=>by rw [e.2]; exact h⟩
  ·exact ⟨rfl,fun _=>rfl⟩
 ·exact ⟨rfl,fun _=>rfl⟩
section
variable {prog:Program}{w:World}{A:Around}{E:Value→Shared→Prop}{s:Shared}
theorem j8 {h:Heap}{a:Addr}{o:Obj}{es es':Array (Int×Value)} {ep:Nat}{t t':SetTable}{S':Str→Bool} (ho:h.get? a=some o) (hx:o.ExactSet) (hd:o.data=.set es ep t)
  (h1:ElemsOf (strKind prog w) es'.toList) (h2:∀ k,S' k=true ↔ ∃ e ∈ es'.toList,(strKind prog w).is k e.2=true) (h3:es'.size < scanBound) (h4:t'.fits es'.size=true) (h5:t'.led=(!dz w)) (h6:t'.plain=false) :
  (h.update a (Obj.putSet es' t')).get? a=some { o with data:=.set es' (ep + 1) t' }∧jM prog w (h.update a (Obj.putSet es' t')) a S' es'.size:=by
 obtain ⟨hg,_⟩:=SetOf_store (knd:=strKind prog w) ho hx hd h1 h2 h3 h4
 exact ⟨hg,_,es',ep + 1,t',hg,hx,rfl,h1,h2,h3,h4,rfl,h5,fun _=>h6⟩
theorem lS {g:Bool→Sem Unit} (hg:∀ (b:Bool) (s1:Shared) (Q':Unit→Shared→Prop),Q' () s1→wpAny (model prog w) A (g b) Q' E s1) {a:Addr}{o:Obj}{es es1:Array (Int×Value)} {ep:Nat}{t t2:SetTable}{S':Str→Bool}{wasDummy:Bool}{R:Option Bool→Shared→Prop}
  (ho:s.heap.get? a=some o) (hx:o.ExactSet) (hd:o.data=.set es ep t) (h1:ElemsOf (strKind prog w) es1.toList) (h2:∀ k,S' k=true ↔ ∃ e ∈ es1.toList,(strKind prog w).is k e.2=true) (h3:es1.size < scanBound)
  (h4:t2.fits es1.size=true) (h5:t2.led=(!dz w)) (h6:t2.plain=false) (h:∀ h',Heap.SameBut a s.heap h'→jM prog w h' a S' es1.size→R (some true) { s with heap:=h' }) :
  wpAny (model prog w) A (do
   storeSet a es1 t2
   if (!wasDummy && t2.tooFull)=true then do
    g (relayAll t2 es1 (SetTable.grown es1.size)).2.2
    storeSet a (relayAll t2 es1 (SetTable.grown es1.size)).1 (relayAll t2 es1 (SetTable.grown es1.size)).2.1
    pure (some true)
   else pure (some true)) R E s:=by
 refine wpAny_bind (wpAny_storeSet_of ho hd ?_ (fits_of_scanBound h3))
 obtain ⟨q1,q2⟩:=j8 ho hx hd h1 h2 h3 h4 h5 h6
 have sb:=Heap.SameBut.update s.heap a (Obj.putSet es1 t2)
 split
 ·have p1:=relayAll_perm t2 es1 (SetTable.grown es1.size)
  have p2:=relayAll_fits t2 es1 (SetTable.grown es1.size)
  obtain ⟨p3,p4⟩:=m9 t2 es1 (SetTable.grown es1.size)
  generalize relayAll t2 es1 (SetTable.grown es1.size)=r at p1 p2 p3 p4 ⊢
  obtain ⟨es2,t3,gave⟩:=r
  dsimp only at p1 p2 p3 p4 ⊢
  have sz:es2.size=es1.size:=by rw [← Array.length_toList,p1.length_eq,Array.length_toList]
  refine wpAny_bind (hg _ _ _ (wpAny_bind (wpAny_storeSet_of q1 rfl ?_ (fits_of_scanBound (by rw [sz]; exact h3)))))
  obtain ⟨_,q3⟩:=j8 (prog:=prog) (w:=w) (S':=S') q1 hx rfl (h1.perm p1) (fun k=>(h2 k).trans ⟨fun zz122_0=>by obtain ⟨e,m,z⟩:=zz122_0; exact ⟨e,p1.mem_iff.mpr m,z⟩,fun zz123_0=>by obtain ⟨e,m,z⟩:=zz123_0; exact ⟨e,p1.mem_iff.mp m,z⟩⟩) (by rw [sz]; exact h3) p2 (p3.trans h5) (p4 h6)
  rw [sz] at q3
  exact wpAny_pure (h _ (sb.trans (Heap.SameBut.update _ a _)) q3)
 ·exact wpAny_pure (h _ sb q2)
theorem uA (x:Str) (t:Tok):hashByValue 8 (.str x t)=pure false:=rfl
theorem v5 {a:Addr}{S:Str→Bool}{n:Nat}{k:Str}{tk:Tok}{Q:Bool→Shared→Prop} (hS:jM prog w s.heap a S n) (hroom:n + 1 < scanBound)
  (h:∀ h',Heap.SameBut a s.heap h'→jM prog w h' a (fun k'=>S k' || decide (k'=k)) (if S k then n else n + 1)→Q (!S k) { s with heap:=h' }) :
  wpAny (model prog w) A (setAddHashed a (.str k tk) ((strKind prog w).hash k)) Q E s:=by
 have hkey:(strKind prog w).is k (.str k tk)=true:=by show Value.isStrOf k (.str k tk)=true; simp [Value.isStrOf]
 have hsc:(Value.str k tk).scannable=true:=rfl
 obtain ⟨o,es,ep,t,ho,hx,hd,hel,hmem,hb,hf,hn,hled,hpl⟩:=hS
 unfold setAddHashed setAddHashedIn
 refine wpAny_holding (wpAny_bind (wpAny_setState_of ho hd hf ?_))
 dsimp only
 rw [byScan_of hsc hb hel]
 simp only [↓reduceIte]
 unfold setAddByScan
 refine wpAny_bind (wpAny_bind (wpAny_rule (wpAny_bind (wpAny_setScan_of hkey ho hd hf hel ?_))))
 cases hr:List.findIdx? (fun e=>(strKind prog w).is k e.2) es.toList with
 | some j =>
  dsimp only
  obtain ⟨hj,hpj,_⟩:=List.findIdx?_eq_some_iff_getElem.mp hr
  have hSk:S k=true:=(hmem k).mpr ⟨es.toList[j],List.getElem_mem hj,hpj⟩
  refine wpAny_pure (wpAny_pure ?_)
  have q:=h s.heap (Heap.SameBut.refl a s.heap) ⟨o,es,ep,t,ho,hx,hd,hel,fun k'=>by
   rw [Bool.or_eq_true,decide_eq_true_eq,← hmem k']
   exact ⟨fun z=>z.elim id (fun e=>e ▸ hSk),.inl⟩,hb,hf,by rw [hSk]; exact hn,hled,hpl⟩
  rw [hSk] at q
  exact q
 | none =>
  dsimp only
  have hSk:S k=false:=by
   cases hk:S k with
   | false=>rfl
   | true =>
    obtain ⟨e,he,hp⟩:=(hmem k).mp hk
    have z:=List.findIdx?_eq_none_iff.mp hr e he
    rw [hp] at z; cases z
  have gw:∀ (b:Bool) (s1:Shared) (Q':Unit→Shared→Prop),Q' () s1→wpAny (model prog w) A (match b with | true=>rule "set.scan.the-table-gave-way" | false=>pure ()) Q' E s1 :=
   fun b s1 Q' hq=>by cases b <;> first | exact wpAny_pure hq | exact wpAny_rule hq
  have p1:=layNew_perm t es ((strKind prog w).hash k) (.str k tk)
  have p2:=layNew_fits t es ((strKind prog w).hash k) (.str k tk)
  obtain ⟨p3,p4⟩:=q8 t es ((strKind prog w).hash k) (.str k tk)
  generalize layNew t es ((strKind prog w).hash k) (.str k tk)=L at p1 p2 p3 p4 ⊢
  obtain ⟨es1,t1,wasDummy,gave⟩:=L
  dsimp only at p1 p2 p3 p4 ⊢
  rw [Array.toList_push] at p1
  have hel1:=(hel.push hkey hsc).perm p1
  have hmem1:=fun k'=>mem_push_iff (knd:=strKind prog w) hkey hmem p1 k'
  have sz:es1.size=n + 1:=by
   rw [← Array.length_toList,p1.length_eq,List.length_append,Array.length_toList,hn]; rfl
  refine wpAny_bind (gw _ _ _ ?_)
  have fin:∀ h',Heap.SameBut a s.heap h'→jM prog w h' a (fun k'=>S k' || decide (k'=k)) es1.size→Q true { s with heap:=h' }:=fun h' sb q=>by
   have z:=h h' sb
   rw [hSk] at z
   rw [sz] at q
   exact z q
  split
  ·refine wpAny_bind ?_
   rw [uA]
   refine wpAny_pure ?_
   refine lS gw ho hx hd hel1 hmem1 (by rw [sz]; exact hroom) ?_ ?_ ?_ ?_
   ·exact SetTable.fits_plain_off p2
   ·exact p3.trans hled
   ·rfl
   ·intro h' sb q; exact wpAny_pure (fin h' sb q)
  ·rename_i hp
   refine wpAny_bind (wpAny_pure ?_)
   simp only [↓reduceIte]
   refine lS gw ho hx hd hel1 hmem1 (by rw [sz]; exact hroom) p2 (p3.trans hled) (by simpa using hp) ?_
   intro h' sb q; exact wpAny_pure (fin h' sb q)
end
noncomputable def ded (xs:List Str):List Str:=xs.foldl (fun acc x=>if x ∈ acc then acc else acc ++ [x]) []
theorem kX (xs:List Str) (x:Str):ded (xs ++ [x])=if x ∈ ded xs then ded xs else ded xs ++ [x]:=by
 unfold ded; rw [List.foldl_append]; rfl
theorem iR (xs:List Str):∀ i,(ded (xs.take i)).length≤i
 | 0=>by simp [ded]
 | i + 1=>by
  have ih:=iR xs i
  by_cases h:i < xs.length
  ·rw [List.take_add_one,List.getElem?_eq_getElem h]
   show (ded (xs.take i ++ [xs[i]])).length≤i + 1
   rw [kX]
   split
   ·omega
   ·rw [List.length_append]; show _ + 1≤_; omega
  ·rw [List.take_of_length_le (by omega)] at *
   omega
theorem jM.at {prog:Program}{w:World}{h h':Heap}{a:Addr}{S:Str→Bool}{n:Nat} (q:jM prog w h a S n) (e:∀ o,h.get? a=some o→h'.get? a=some o):jM prog w h' a S n :=
 let ⟨o,es,ep,t,ho,r⟩:=q; ⟨o,es,ep,t,e o ho,r⟩
theorem jM.congr {prog:Program}{w:World}{h:Heap}{a:Addr}{S S':Str→Bool}{n n':Nat} (q:jM prog w h a S n) (e:∀ k,S k=S' k) (en:n=n'):jM prog w h a S' n':=by
 have z:S=S':=funext e
 subst z en; exact q
noncomputable def jn (prog:Program) (w:World) (h:Heap) (a:Addr) (xs:List Str):Prop:=jM prog w h a (fun k=>decide (k ∈ ded xs)) (ded xs).length
section
variable {prog:Program}{w:World}{A:Around}{R:Result→Shared→Prop}{I:Addr}{fp wr:List Addr}{G:Array GenState→Array GenState→Prop}{n:Nat}{P:Nat→Value→Prop}{St:Nat→Shared→Prop}
theorem lR (W:WalksS prog w A.in1 I fp wr G n P St) (S:Addr) (hSf:S ∉ fp) (xs:List Str) (hn:xs.length=n) (hval:∀ i v,P i v→∃ x t,xs[i]? = some x∧v=.str x t) (hb:n + 1 < scanBound) :
  ∀ (k i:Nat) (s:Shared),n - i=k→i≤n→St i s→jn prog w s.heap S (xs.take i)→(∀ s',Moved (S :: wr) G s s'→jn prog w s'.heap S xs→R (.ok (.ret .none)) s') →
   codeAny (model prog w) A (.builtin "set.update.loop" ⟨[.ref S,.ref I],[]⟩) R s:=by
 have hSw:S ∉ wr:=fun h=>hSf (W.sub _ h)
 have hsub:∀ b ∈ wr,b ∈ S :: wr:=fun b hb=>List.mem_cons_of_mem _ hb
 intro k
 induction k with
 | zero =>
  intro i s hk hi hst hS hR
  obtain rfl:i=n:=by omega
  refine codeAny_builtin F.entry_set_update_loop ?_
  rw [Around.under_plainId F.plain_set_update_loop _]
  show wpAny _ A.in1 (pyNext (.ref I) >>= _) _ _ s
  refine wpAny_bind (W.done s _ _ hst fun s' hm=>?_)
  show wpAny _ A.in1 (ret Value.none) _ _ s'
  rw [List.take_of_length_le (by omega)] at hS
  exact wpAny_pure (hR s' (hm.mono hsub) (hS.at fun o e=>hm.heap S o hSw e))
 | succ k ih =>
  intro i s hk hi hst hS hR
  have hlt:i < n:=by omega
  refine codeAny_builtin F.entry_set_update_loop ?_
  rw [Around.under_plainId F.plain_set_update_loop _]
  show wpAny _ A.in1 (pyNext (.ref I) >>= _) _ _ s
  refine wpAny_bind (W.item i s _ _ hlt hst fun v s' hP hst' hm=>?_)
  obtain ⟨x,t,hx,rfl⟩:=hval i v hP
  have hS':jn prog w s'.heap S (xs.take i):=hS.at fun o e=>hm.heap S o hSw e
  show wpAny _ A.in1 (holding [Value.str x t] (setAdd S (.str x t)) >>= _) _ _ s'
  refine wpAny_bind (wpAny_holding ?_)
  unfold setAdd
  refine wpAny_holding (wpAny_bind ((strKind prog w).pyHash (k:=x) (by show Value.isStrOf x (.str x t)=true; simp [Value.isStrOf]) ?_))
  have hroom:(ded (xs.take i)).length + 1 < scanBound:=by have:=iR xs i; omega
  refine v5 (s:={ s' with toks:=s'.toks + 1 }) hS' hroom fun h' sb q=>?_
  have e1:xs.take (i + 1)=xs.take i ++ [x]:=by rw [List.take_add_one,hx]; rfl
  have q':jn prog w h' S (xs.take (i + 1)):=by
   unfold jn
   rw [e1,kX]
   refine q.congr (fun k'=>?_) ?_
   ·by_cases hm:x ∈ ded (xs.take i)
    ·rw [if_pos hm]
     by_cases he:k'=x
     ·subst he; simp [hm]
     ·simp [he]
    ·rw [if_neg hm]
     simp [List.mem_append]
   ·by_cases hm:x ∈ ded (xs.take i)
    ·simp [hm]
    ·simp [hm]
  refine wpAny_pure ⟨plainId_quiet F.plain_set_update_loop _,ih (i + 1) _ (by omega) hlt (W.frame _ s' _ _ hst' (Nat.le_succ _) fun b hb o e=>?_) q' fun s'' hm'' hS''=>?_⟩
  ·rw [sb.2 b (fun h:b=S=>hSf (by rw [← h]; exact hb))]; exact e
  ·refine hR s'' (Moved.trans W.gtrans ((hm.mono hsub).then_heap (Nat.le_succ _) fun b o hb e=>?_) hm'') hS''
   rw [sb.2 b (fun h:b=S=>hb (by rw [h]; exact List.mem_cons_self))]; exact e
end
section
variable {prog:Program}{w:World}{A:Around}{E:Value→Shared→Prop}{s:Shared}
theorem lz (a:Value) {Q₁:Value→Shared→Prop} (h:Q₁ (.ref s.heap.objs.size) { s with heap:=s.heap.push { cls:=.type "set",dict:=none,data:=.set #[] 0 (.fresh 0 0 (!dz w)) } }) :
  codeAny (model prog w) A (.call (.builtin "set.__new__") ⟨[.type "set",a],[]⟩) (wants Q₁ E) s:=by
 refine codeAny_of_tree ?_
 show wpAny _ A.in1 (do checkBuiltinCall "set.__new__" ⟨[.type "set",a],[]⟩; again (.builtin "set.__new__" ⟨[.type "set",a],[]⟩)) _ _ s
 refine wpAny_bind (wpAny_of_eq (PySem.F.newCall_set_1 a) (wpAny_pure ⟨plainId_quiet PySem.F.plain_set_new _,codeAny_builtin PySem.F.entry_set_new ?_⟩))
 rw [Around.under_plainId PySem.F.plain_set_new _]
 unfold Builtin.«set.__new__» Builtin.Frozenset.newClass
 have hsub:=sub_set_self
 obtain ⟨hp,g,d,tk,os⟩:=s
 dsimp only
 wp_walk
 refine wpAny_askSetting (wpAny_pure ?_)
 dsimp only
 simp only [newObj]
 refine wpAny_bind (wpAny_alloc (wpAny_pure ?_))
 exact wpAny_pure h
theorem j7 {h:Heap}{a:Addr} (hg:h.get? a=some { cls:=.type "set",dict:=none,data:=.set #[] 0 (.fresh 0 0 (!dz w)) }):jn prog w h a [] :=
 ⟨_,#[],0,_,hg,⟨rfl,rfl,rfl⟩,rfl,fun e he=>by simp at he,fun k=>by simp [ded],by decide,by rfl,rfl,rfl,fun z=>absurd rfl z⟩
set_option maxHeartbeats 8000000 in
theorem vo {T:String}{l:Addr}{ol:Obj}{items:Array Value}{nl:Nat}{xs:List Str}{Q:Value→Shared→Prop} (hh:A.handled=none) (hol:s.heap.get? l=some ol) (hcl:ol.cls=.type T) (hdl:ol.data=.seq items nl) (hT:T = "list"∨T = "tuple")
  (hx:∀ (i:Nat) v,items[i]? = some v→∃ x t,xs[i]? = some x∧v=.str x t) (hlen:xs.length=items.size) (hb:items.size + 1 < scanBound)
  (h:∀ (h':Heap) (tk:Nat),jn prog w h' s.heap.objs.size xs→(∀ b o,b < s.heap.objs.size→s.heap.get? b=some o→h'.get? b=some o)→Q (.ref s.heap.objs.size) { s with heap:=h',toks:=tk }) :
  wpAny (model prog w) A (call (.type "set") [.ref l]) Q E s:=by
 obtain ⟨c,tl,hmro⟩:=PySem.F.called_set.mro
 have hmade:=PySem.F.called_set.made
 have hsub:=PySem.F.called_set.sub
 refine wpAny_call (codeAny_of_tree ?_)
 show wpAny _ _ (callAny (.type "set") _) _ _ _
 refine wpAny_pure ⟨Code.quiet_builtin _ (by decide +kernel),codeAny_builtin PySem.F.entry_type_call ?_⟩
 rw [Around.under_plain (weight_type_call_type "set" [.ref l] []) rfl]
 have h1:=PySem.F.called_set.notType
 have h2:=PySem.F.called_set.canCreate
 have hct:=PySem.F.typeCall_set_1 (.ref l)
 repeat (any_goals (first | assumption | wp_step))
 refine codeAny_mono (lz (.ref l) (E:=E) (Q₁:=fun obj s₁=>obj=.ref s.heap.objs.size∧s₁={ s with heap:=s.heap.push { cls:=.type "set",dict:=none,data:=.set #[] 0 (.fresh 0 0 (!dz w)) } }) ⟨rfl,rfl⟩) fun r s₁ hr=>?_
 cases r with
 | error e=>exact hr
 | ok fl =>
  cases fl with
  | ret obj =>
   obtain ⟨rfl,rfl⟩:=hr
   have hS:(s.heap.push { cls:=.type "set",dict:=none,data:=.set #[] 0 (.fresh 0 0 (!dz w)) }).get? s.heap.objs.size=some { cls:=.type "set",dict:=none,data:=.set #[] 0 (.fresh 0 0 (!dz w)) }:=Heap.get?_push_size _ rfl
   have hTs:Shared.TypeIs { s with heap:=s.heap.push { cls:=.type "set",dict:=none,data:=.set #[] 0 (.fresh 0 0 (!dz w)) } } (.ref s.heap.objs.size) "set" := ⟨_,hS,rfl⟩
   have hli:=PySem.F.called_set.init.lookup
   have hbi:=PySem.F.called_set.init.bind (.ref s.heap.objs.size)
   repeat (any_goals (first | assumption | wp_step))
   refine codeAny_mono (codeAny_call_builtin (R:=wants (fun r s₂=>r=.none∧∃ h' tk,s₂={ s with heap:=h',toks:=tk }∧jn prog w h' s.heap.objs.size xs∧(∀ b o,b < s.heap.objs.size→s.heap.get? b=some o→h'.get? b=some o)) E) PySem.F.called_set.init.plain PySem.F.entry_set_init (check_set_init_1 hTs ?_)) fun r₂ s₂ hr₂=>?_
   ·obtain ⟨ocls,odict,odata,oslots⟩:=ol
    simp only at hcl hdl
    subst hcl; subst hdl
    have hol':(s.heap.push { cls:=.type "set",dict:=none,data:=.set #[] 0 (.fresh 0 0 (!dz w)) }).get? l=some { cls:=.type T,dict:=odict,data:=.seq items nl,slots:=oslots }:=Heap.get?_push_of_some _ hol
    have hlS:l < s.heap.objs.size:=Heap.lt_size hol
    have hh3:A.in1.in1.in1.handled=none:=by simp [hh]
    have hneI:l ≠ (s.heap.push { cls:=.type "set",dict:=none,data:=.set #[] 0 (.fresh 0 0 (!dz w)) }).objs.size:=by
     rw [Heap.size_push]; exact Nat.ne_of_lt (Nat.lt_succ_of_lt hlS)
    have hSf:s.heap.objs.size ∉ [(s.heap.push { cls:=.type "set",dict:=none,data:=.set #[] 0 (.fresh 0 0 (!dz w)) }).objs.size,l]:=by
     rw [Heap.size_push]; simp only [List.mem_cons,List.mem_singleton,List.not_mem_nil,or_false,not_or]
     exact ⟨Nat.ne_of_lt (Nat.lt_succ_self _),Nat.ne_of_gt hlS⟩
    have fin:∀ (k:String) (s':Shared),Moved [s.heap.objs.size,(s.heap.push { cls:=.type "set",dict:=none,data:=.set #[] 0 (.fresh 0 0 (!dz w)) }).objs.size] (fun g g'=>g'=g) { s with heap:=(s.heap.push { cls:=.type "set",dict:=none,data:=.set #[] 0 (.fresh 0 0 (!dz w)) }).push { cls:=.type k,data:=.fields #[.ref l,.int 0 0] } } s'→jn prog w s'.heap s.heap.objs.size xs →
      ∃ h' tk,s'={ s with heap:=h',toks:=tk }∧jn prog w h' s.heap.objs.size xs∧(∀ b o,b < s.heap.objs.size→s.heap.get? b=some o→h'.get? b=some o):=by
     intro k s' hm hS'
     obtain ⟨h',g',d',tk',os'⟩:=s'
     have eg:g'=s.gens:=hm.gens
     have ed:d'=s.drawn:=hm.drawn
     have eo:os'=s.os:=hm.os
     subst eg; subst ed; subst eo
     refine ⟨h',tk',rfl,hS',fun b o hb e=>?_⟩
     have hb1:b ≠ s.heap.objs.size:=Nat.ne_of_lt hb
     have hb2:b ≠ (s.heap.push { cls:=.type "set",dict:=none,data:=.set #[] 0 (.fresh 0 0 (!dz w)) }).objs.size:=by
      rw [Heap.size_push]; exact Nat.ne_of_lt (Nat.lt_succ_of_lt hb)
     exact hm.heap b o (by simp only [List.mem_cons,List.mem_singleton,List.not_mem_nil,or_false,not_or]; exact ⟨hb1,hb2⟩) (Heap.get?_push_of_some _ (Heap.get?_push_of_some _ e))
    unfold Builtin.«set.__init__» noKeywords Builtin.Frozenset.updateFrom
    rcases hT with rfl | rfl
    ·have hsls:=PySem.F.sub_list_set
     have hslf:=PySem.F.sub_list_frozenset
     have hne:(Value.type "list" == Value.type "dict")=false:=by decide
     have hl1:(s.heap.push { cls:=.type "set",dict:=none,data:=.set #[] 0 (.fresh 0 0 (!dz w)) }).IsList l items:=⟨_,hol',rfl,nl,rfl⟩
     generalize hPI:pyIter=PI
     wp_walk
     subst hPI
     refine wpAny_pyIter_list hl1 (wpAny_bind (wpAny_runValue ?_))
     refine lR ((Walks.list hh3 _ l hneI items).toS) s.heap.objs.size hSf xs hlen hx hb (items.size - 0) 0 _ (by omega) (Nat.zero_le _)
      ⟨⟨_,Heap.get?_push_size _ rfl,rfl,rfl⟩,(hl1.push _)⟩ (j7 (Heap.get?_push_of_some _ hS)) fun s' hm hS'=>?_
     obtain ⟨h',tk',rfl,q1,q2⟩:=fin "list_iterator" s' hm hS'
     show wpAny _ _ _ _ _ _
     refine wpAny_pure ?_
     show wpAny _ _ (ret Value.none) _ _ _
     exact wpAny_pure ⟨rfl,h',tk',rfl,q1,q2⟩
    ·have hsls:isSubtype (.type "tuple") (.type "set")=pure false:=by rw [isSubtype_type]; kernel_rfl
     have hslf:isSubtype (.type "tuple") (.type "frozenset")=pure false:=by rw [isSubtype_type]; kernel_rfl
     have hne:(Value.type "tuple" == Value.type "dict")=false:=by decide
     have hl1:(s.heap.push { cls:=.type "set",dict:=none,data:=.set #[] 0 (.fresh 0 0 (!dz w)) }).IsTuple l items:=⟨_,hol',rfl,nl,rfl⟩
     generalize hPI:pyIter=PI
     wp_walk
     subst hPI
     refine wpAny_pyIter_tuple hl1 (wpAny_bind (wpAny_runValue ?_))
     refine lR ((Walks.tuple hh3 _ l hneI items).toS) s.heap.objs.size hSf xs hlen hx hb (items.size - 0) 0 _ (by omega) (Nat.zero_le _)
      ⟨⟨_,Heap.get?_push_size _ rfl,rfl,rfl⟩,⟨_,Heap.get?_push_of_some _ hol',rfl,nl,rfl⟩⟩ (j7 (Heap.get?_push_of_some _ hS)) fun s' hm hS'=>?_
     obtain ⟨h',tk',rfl,q1,q2⟩:=fin "tuple_iterator" s' hm hS'
     show wpAny _ _ _ _ _ _
     refine wpAny_pure ?_
     show wpAny _ _ (ret Value.none) _ _ _
     exact wpAny_pure ⟨rfl,h',tk',rfl,q1,q2⟩
   ·cases r₂ with
    | error e=>exact hr₂
    | ok fl₂ =>
     cases fl₂ with
     | ret r =>
      obtain ⟨rfl,h',tk,rfl,hS',hk'⟩:=hr₂
      repeat (any_goals (first | assumption | wp_step))
      exact h _ _ hS' hk'
     | _=>exact hr₂.elim
  | _=>exact hr.elim
end
section
variable {prog:Program}{w:World}{A:Around}{E:Value→Shared→Prop}{s:Shared}
theorem mS {src:Source}{n:Nat}{Q:Nat→Shared→Prop} (hn:n ≠ 0) (h:∀ k d',k < n→Q k { s with drawn:=d' }):wpAny (model prog w) A (choose src n) Q E s:=by
 intro G p hG
 show PySem.Sem.wp _ _ (Sem.choose src n .pure) _ _ p s
 rw [Sem.wp_choose]
 refine ⟨hn,?_⟩
 rw [show (Sem.pure ((model prog w).w.draws src (s.drawn.get src) % n):Sem Nat)=Pure.pure ((model prog w).w.draws src (s.drawn.get src) % n) from rfl,Sem.wp_pure']
 exact h _ _ (Nat.mod_lt _ (Nat.pos_of_ne_zero hn))
theorem g_ {α:Type}:∀ (xs:List α) (i:Nat) (x:α),xs[i]? = some x→(x :: xs.eraseIdx i).Perm xs
 | y :: xs,0,x,h=>by simp at h; subst h; exact .refl _
 | y :: xs,i + 1,x,h=>by
  have ih:=g_ xs i x (by simpa using h)
  rw [List.eraseIdx_cons_succ]
  exact (List.Perm.swap y x _).trans (ih.cons y)
theorem jD {α:Type} (n:Nat):∀ (xs:List α) (s:Shared) (Q:List α→Shared→Prop),xs.length=n→(∀ ys d',ys.Perm xs→Q ys { s with drawn:=d' })→wpAny (model prog w) A (drawOrder n xs) Q E s:=by
 induction n with
 | zero =>
  intro xs s Q hn h
  have e:xs=[]:=List.length_eq_zero_iff.mp hn
  subst e
  exact wpAny_pure (h [] s.drawn (.refl _))
 | succ n ih =>
  intro xs s Q hn h
  cases xs with
  | nil=>cases hn
  | cons x xs =>
   show wpAny _ _ (choose .order (x :: xs).length >>= fun i=>match (x :: xs)[i]? with | some y=>(do return y :: (← drawOrder n ((x :: xs).eraseIdx i))) | none=>unsupported "internal:drawOrder") _ _ s
   refine wpAny_bind (mS (by simp) fun k d' hk=>?_)
   obtain ⟨y,hy⟩:∃ y,(x :: xs)[k]? = some y:=⟨_,List.getElem?_eq_getElem hk⟩
   rw [hy]
   show wpAny _ _ (drawOrder n ((x :: xs).eraseIdx k) >>= fun r=>pure (y :: r)) _ _ _
   have hl:((x :: xs).eraseIdx k).length=n:=by rw [List.length_eraseIdx_of_lt hk,hn]; rfl
   refine wpAny_bind (ih _ _ _ hl fun ys d2 hp=>wpAny_pure ?_)
   exact h (y :: ys) d2 ((hp.cons y).trans (g_ _ _ _ hy))
theorem l4 {α:Type} (next:Nat→Nat):∀ (fuel k:Nat) (left:List α) (out:Array α),left.length=fuel→(pickOrder.go next fuel k left out).toList.Perm (out.toList ++ left)
 | 0,k,left,out,h=>by
  have e:left=[]:=List.length_eq_zero_iff.mp h
  subst e
  show out.toList.Perm _
  rw [List.append_nil]
 | fuel + 1,k,left,out,h=>by
  have hlt:next k % left.length < left.length:=Nat.mod_lt _ (by omega)
  obtain ⟨x,hx⟩:∃ x,left[next k % left.length]? = some x:=⟨_,List.getElem?_eq_getElem hlt⟩
  unfold pickOrder.go
  rw [hx]
  show (pickOrder.go next fuel (k + 1) (left.eraseIdx (next k % left.length)) (out.push x)).toList.Perm _
  refine (l4 next fuel (k + 1) _ _ (by rw [List.length_eraseIdx_of_lt hlt]; omega)).trans ?_
  rw [Array.toList_push,List.append_assoc]
  exact List.Perm.append_left _ (g_ _ _ _ hx)
theorem dY {α:Type} (next:Nat→Nat) (xs:Array α):(pickOrder next xs).toList.Perm xs.toList:=by
 have:=l4 next xs.size 0 xs.toList #[] (by simp)
 unfold pickOrder
 simpa using this
noncomputable def bN (h:Heap) (it S:Addr) (first:Value) (i n ep:Nat):Prop:=∃ o,h.get? it=some o∧o.cls=.type "set_iterator"∧o.data=.fields #[first,.int i 0,.ref S,.int n 0,.int ep 0]
theorem bN.typeIs {it S:Addr}{first:Value}{i n ep:Nat} (h:bN s.heap it S first i n ep):s.TypeIs (.ref it) "set_iterator" := let ⟨o,ho,hc,_⟩:=h; ⟨o,ho,hc⟩
theorem jG:isSubtype (.type "StopIteration") (.type "StopIteration")=pure true:=by rw [isSubtype_type]; kernel_rfl
theorem j5 {it:Addr}{o:Obj}{fs:Array Value}{Q:Option Value→Shared→Prop} (hh:A.handled=none) (ho:s.heap.get? it=some o) (hd:o.data=.fields fs) (hsz:2 < fs.size)
  (hQ:∀ h',Heap.ExtBut it s.heap h'→Q none { s with heap:=h' }) :
  wpAny (model prog w) A.in1 (do setField (.ref it) 2 .none; raiseNew (← newExc (.type "StopIteration") []):Sem Fin) (fun fin s'=>∃ r,fin=.done (.ret r)∧Q (some r) s')
   (fun e s'=>wpAny (model prog w) A (isInstance e (.type "StopIteration")) (fun b s2=>b=true∧Q none s2) (fun _ _=>False) s') s:=by
 refine wpAny_bind (wpAny_setField ho hd hsz ?_)
 refine wpAny_bind ?_
 simp only [newExc,newTuple]
 refine wpAny_bind (wpAny_newObj_type ?_ (by size_fits))
 refine wpAny_bind (m:=firstArgMember _ _) (wpAny_of_eq (a:=Value.none) (by first | rfl | (simp only [firstArgMember]; rfl)) ?_)
 refine wpAny_newObj_type ?_ (by size_fits)
 simp only [raiseNew]
 refine wpAny_bind (wpAny_handled ?_)
 rw [show A.in1.handled=none from hh]
 refine wpAny_bind (wpAny_pure (wpAny_throw ?_))
 refine wpAny_isInstance (T := "StopIteration") (b:=true) ⟨_,Heap.get?_push_size _ rfl,rfl⟩ jG ⟨rfl,?_⟩
 exact hQ _ (((Heap.SameBut.update ..).extBut.push _).push _)
theorem ft {it:Addr}{Q:Option Value→Shared→Prop} (hT:s.TypeIs (.ref it) "set_iterator")
  (body:wpAny (model prog w) A.in1 (Builtin.«set_iterator.__next__» ⟨[.ref it],[]⟩) (fun fin s'=>∃ r,fin=.done (.ret r)∧Q (some r) s')
   (fun e s'=>wpAny (model prog w) A (isInstance e (.type "StopIteration")) (fun b s2=>b=true∧Q none s2) (fun _ _=>False) s') s):wpAny (model prog w) A (pyNext (.ref it)) Q E s:=by
 unfold pyNext
 refine wpAny_bind (wpAny_attempt (wpAny_callSpecial?_slot (name:=Str.ofString "__next__") hT SF.slot_setit_next (wpAny_call_entry SF.slot_setit_next hT SF.entry_setit_next ?_ (SF.args_setit_next_1 _))))
 refine wpAny_mono body (fun fin s' zz124_0=>by obtain ⟨r,e,q⟩:=zz124_0; exact ⟨r,e,wpAny_pure q⟩) fun e s' q=>?_
 refine wpAny_bind (wpAny_mono q (fun b s2 zz125_0=>?_) fun _ _ f=>f.elim)
 obtain ⟨hb,q2⟩:=zz125_0
 subst hb
 exact wpAny_pure q2
structure eh (h:Heap) (S:Addr) (es:Array (Int×Value)) (ep:Nat) (t:SetTable):Prop where
 ex:∃ o,h.get? S=some o∧o.data=.set es ep t
 fits:t.fits es.size=true
theorem eh.keep {h h':Heap}{S:Addr}{es:Array (Int×Value)} {ep:Nat}{t:SetTable} (q:eh h S es ep t) (k:∀ o,h.get? S=some o→h'.get? S=some o):eh h' S es ep t :=
 ⟨let ⟨o,ho,hd⟩:=q.ex; ⟨o,k o ho,hd⟩,q.fits⟩
theorem gQ {S:Addr}{es:Array (Int×Value)} {ep:Nat}{t:SetTable}{Q:Array (Int×Value)→Shared→Prop} (q:eh s.heap S es ep t) (h:Q es s):wpAny (model prog w) A (setEntries S) Q E s:=by
 obtain ⟨o,ho,hd⟩:=q.ex
 exact wpAny_setEntries_of ho hd q.fits h
theorem dG {S:Addr}{es:Array (Int×Value)} {ep:Nat}{t:SetTable}{Q:(Array (Int×Value)×Nat×SetTable)→Shared→Prop} (q:eh s.heap S es ep t) (h:Q (es,ep,t) s):wpAny (model prog w) A (setState S) Q E s:=by
 obtain ⟨o,ho,hd⟩:=q.ex
 exact wpAny_setState_of ho hd q.fits h
theorem fm {it S:Addr}{first:Value}{i ep:Nat}{es:Array (Int×Value)} {t:SetTable}{Q:Fin→Shared→Prop} (hit:bN s.heap it S first i es.size ep) (hS:eh s.heap S es ep t)
  (h:wpAny (model prog w) A (if let .int slot _:=first then do
    match ← setNext S slot.toNat i ep with
    | some (x,next) =>
     setField (.ref it) 0 (rawInt next)
     setField (.ref it) 1 (rawInt (i + 1))
     ret x
    | none=>setField (.ref it) 2 .none; raiseNew (← newExc (.type "StopIteration") [])
   else do
    let some places ← seqItems? first | unsupported "internal:set_iterator"
    match places[i]? with
    | some (.int place _) =>
     let x ← setNextDrawn S place.toNat ep
     setField (.ref it) 1 (rawInt (i + 1))
     ret x
    | some _=>unsupported "internal:set_iterator"
    | none=>setField (.ref it) 0 (rawInt 0); setField (.ref it) 2 .none; raiseNew (← newExc (.type "StopIteration") [])) Q E s) :
  wpAny (model prog w) A (Builtin.«set_iterator.__next__» ⟨[.ref it],[]⟩) Q E s:=by
 obtain ⟨o,ho,hc,hd⟩:=hit
 unfold Builtin.«set_iterator.__next__»
 refine wpAny_bind (wpAny_pure ?_)
 refine wpAny_bind (wpAny_fieldsOf ho hd ?_)
 dsimp only
 refine wpAny_bind (gQ hS ?_)
 rw [if_neg (by simp)]
 exact h
theorem bN.keep {h h':Heap}{it S:Addr}{first:Value}{i n ep:Nat} (q:bN h it S first i n ep) (k:∀ o,h.get? it=some o→h'.get? it=some o):bN h' it S first i n ep :=
 let ⟨o,ho,r⟩:=q; ⟨o,k o ho,r⟩
theorem h_ {h h':Heap}{a:Addr}{its:Array Value} (q:IsTup h a its) (k:∀ o,h.get? a=some o→h'.get? a=some o):IsTup h' a its:=by
 obtain ⟨o,ho,r⟩:=q
 exact ⟨o,k o ho,r⟩
theorem j6 {h:Heap}{it S:Addr}{first:Value}{i n ep:Nat} (q:bN h it S first i n ep):bN (h.update it (Obj.mapFields (·.setIfInBounds 1 (rawInt ((i:Int) + 1))))) it S first (i + 1) n ep:=by
 obtain ⟨o,ho,hc,hd⟩:=q
 exact ⟨_,Heap.get?_update_self _ ho (Obj.isFreed_of_fields (Obj.data_mapFields hd _)),(Obj.cls_mapFields ..).trans hc,by rw [Obj.data_mapFields hd]; simp [rawInt]⟩
theorem fB {it S:Addr}{first:Value}{i n ep:Nat}{Q:Value→Shared→Prop} (h:bN s.heap it S first i n ep) (hQ:Q (.ref it) s):wpAny (model prog w) A (pyIter (.ref it)) Q E s:=by
 have slot:Slot "set_iterator" "__iter__" "set_iterator.__iter__" :=
  .of (owner := "set_iterator") (n := "__iter__") (by rw [typeLookup_type,builtinLookup_eq_fast]; kernel_rfl) (by decide +kernel) (by decide +kernel) (by decide +kernel)
   (by first | exact .inl (by decide +kernel) | exact .inr (by decide +kernel)) (by rw [isSubtype_type]; kernel_rfl)
 have entry:entryFor table "set_iterator.__iter__" = some Builtin.«dict_keyiterator.__iter__»:=entryFor_alias (id' := "dict_keyiterator.__iter__") (by kernel_rfl) rfl (by decide +kernel) (by kernel_rfl)
 refine wpAny_pyIter_slot h.typeIs slot (wpAny_call_entry slot h.typeIs entry ?_ (by unfold argsOk; kernel_rfl))
 show wpAny _ _ (ret (.ref it)) _ _ s
 exact wpAny_pure ⟨_,rfl,"set_iterator",_,h.typeIs,SF.slot_setit_next.lookup,hQ⟩
theorem qu (hh:A.handled=none) {it S tp:Addr}{ord:List Nat}{es:Array (Int×Value)} {ep:Nat}{t:SetTable} (n1:S ≠ it) (n2:tp ≠ it) (hlt:∀ j ∈ ord,j < es.size) (hlen:ord.length=es.size) :
  Walks prog w A it [it,S,tp] [it] es.size (fun i v=>∃ j hv,ord[i]? = some j∧es[j]? = some (hv,v)) (fun i h=>bN h it S (.ref tp) i es.size ep∧eh h S es ep t∧IsTup h tp (ord.map fun j:Nat=>rawInt j).toArray) where
 sub:=fun b hb=>by simp at hb; simp [hb]
 frame:=fun _ _ _ st hk=>⟨st.1.keep fun o e=>hk it (by simp) o e,st.2.1.keep fun o e=>hk S (by simp) o e,h_ st.2.2 fun o e=>hk tp (by simp) o e⟩
 item:=fun i s Q E hi zz126_0 hQ=>by
  obtain ⟨hit,hS,htp⟩:=zz126_0
  refine ft hit.typeIs (fm hit hS ?_)
  obtain ⟨ot,hot,hct,nt,hdt⟩:=id htp
  have hio:i < ord.length:=by omega
  have hj:(ord.map fun j:Nat=>rawInt j).toArray[i]? = some (.int (ord[i]:Nat) 0):=by simp [hio,rawInt]
  have hje:ord[i] < es.size:=hlt _ (List.getElem_mem hio)
  obtain ⟨hv,x⟩:Int×Value:=es[ord[i]]
  obtain ⟨o,ho,hc,hd⟩:=id hit
  show wpAny _ _ (seqItems? (.ref tp) >>= _) _ _ s
  refine wpAny_bind (wpAny_seqItems hot hdt ?_)
  dsimp only
  rw [hj]
  dsimp only
  refine wpAny_bind ?_
  unfold setNextDrawn
  refine wpAny_bind (dG hS ?_)
  dsimp only
  rw [if_neg (by simp),Int.toNat_natCast,Array.getElem?_eq_getElem hje]
  refine wpAny_bind (wpAny_pure (wpAny_pure ?_))
  refine wpAny_bind (wpAny_setField ho hd (by simp) ?_)
  refine wpAny_pure ⟨_,rfl,?_⟩
  have kp:∀ b o,b ≠ it→s.heap.get? b=some o→(s.heap.update it (Obj.mapFields (·.setIfInBounds 1 (rawInt ((i:Int) + 1))))).get? b=some o:=fun b o hb e=>(Heap.get?_update_other _ _ (Ne.symm hb)).trans e
  exact hQ _ _ s.toks ⟨ord[i],es[ord[i]].1,List.getElem?_eq_getElem hio,Array.getElem?_eq_getElem hje⟩ ⟨j6 hit,hS.keep fun o e=>kp S o n1 e,h_ htp fun o e=>kp tp o n2 e⟩ fun b o hb e=>kp b o (fun z=>hb (by simp [z])) e
 done:=fun s Q E zz127_0 hQ=>by
  obtain ⟨hit,hS,htp⟩:=zz127_0
  refine ft hit.typeIs (fm hit hS ?_)
  obtain ⟨ot,hot,hct,nt,hdt⟩:=id htp
  obtain ⟨o,ho,hc,hd⟩:=id hit
  have hj:(ord.map fun j:Nat=>rawInt j).toArray[es.size]? = none:=by simp [hlen]
  show wpAny _ _ (seqItems? (.ref tp) >>= _) _ _ s
  refine wpAny_bind (wpAny_seqItems hot hdt ?_)
  dsimp only
  rw [hj]
  dsimp only
  refine wpAny_bind (wpAny_setField ho hd (by simp) ?_)
  refine j5 hh (Heap.get?_update_self _ ho (Obj.isFreed_of_fields (Obj.data_mapFields hd _))) (Obj.data_mapFields hd _) (by simp) fun h' hx=>?_
  exact hQ h' s.toks fun b o hb e=>hx b o (fun z=>hb (by simp [z])) ((Heap.get?_update_other _ _ (fun z=>hb (by simp [z]))).trans e)
 self:=fun _ _ _ _ st hQ=>fB st.1 hQ
theorem dN {Q:Bool→Shared→Prop} (h:Q (dz w) s):wpAny (model prog w) A setsByText Q E s:=by
 unfold setsByText
 exact wpAny_bind (wpAny_askSetting (wpAny_pure h))
noncomputable abbrev dB (w:World) (S:Addr) (ep:Nat) (es:Array (Int×Value)):Array (Int×Value):=pickOrder (w.params.setOrder S ep) es
theorem ma {S:Addr}{es:Array (Int×Value)} {ep:Nat}{t:SetTable}{slot i:Nat}{Q:Option (Value×Nat)→Shared→Prop} (hb:dz w=true) (hS:eh s.heap S es ep t)
  (h:Q (((dB w S ep es)[i]?).map fun e=>(e.2,slot)) s):wpAny (model prog w) A (setNext S slot i ep) Q E s:=by
 unfold setNext
 refine wpAny_bind (dG hS ?_)
 dsimp only
 refine wpAny_bind (dN ?_)
 rw [if_pos hb,if_neg (by simp)]
 refine wpAny_bind ?_
 unfold setWalk
 refine wpAny_bind (dG hS ?_)
 dsimp only
 refine wpAny_bind (dN ?_)
 rw [if_pos hb]
 exact wpAny_bind (wpAny_askSetting (wpAny_pure (wpAny_pure h)))
theorem qC {h:Heap}{it S:Addr}{first:Value}{i n ep nx:Nat} (q:bN h it S first i n ep) :
  bN ((h.update it (Obj.mapFields (·.setIfInBounds 0 (rawInt nx)))).update it (Obj.mapFields (·.setIfInBounds 1 (rawInt ((i:Int) + 1))))) it S (.int nx 0) (i + 1) n ep:=by
 obtain ⟨o,ho,hc,hd⟩:=q
 have q1:bN (h.update it (Obj.mapFields (·.setIfInBounds 0 (rawInt nx)))) it S (.int nx 0) i n ep:=⟨_,Heap.get?_update_self _ ho (Obj.isFreed_of_fields (Obj.data_mapFields hd _)),(Obj.cls_mapFields ..).trans hc,by rw [Obj.data_mapFields hd]; simp [rawInt]⟩
 exact j6 q1
theorem lP {it S:Addr}{slot i ep:Nat}{es:Array (Int×Value)} {t:SetTable}{x:Value}{nx:Nat}{Q:Option Value→Shared→Prop} (hit:bN s.heap it S (.int slot 0) i es.size ep) (hS:eh s.heap S es ep t)
  (hnx:∀ (A:Around) (E:Value→Shared→Prop) (Q:Option (Value×Nat)→Shared→Prop),Q (some (x,nx)) s→wpAny (model prog w) A (setNext S slot i ep) Q E s)
  (hQ:∀ h',bN h' it S (.int nx 0) (i + 1) es.size ep→(∀ b o,b ≠ it→s.heap.get? b=some o→h'.get? b=some o)→Q (some x) { s with heap:=h' }):wpAny (model prog w) A (pyNext (.ref it)) Q E s:=by
 refine ft hit.typeIs (fm hit hS ?_)
 obtain ⟨o,ho,hc,hd⟩:=id hit
 show wpAny _ _ (setNext S ((slot:Int)).toNat i ep >>= _) _ _ s
 rw [Int.toNat_natCast]
 refine wpAny_bind (hnx _ _ _ ?_)
 dsimp only
 refine wpAny_bind (wpAny_setField ho hd (by simp) ?_)
 refine wpAny_bind (wpAny_setField (Heap.get?_update_self _ ho (Obj.isFreed_of_fields (Obj.data_mapFields hd _))) (Obj.data_mapFields hd _) (by simp) ?_)
 refine wpAny_pure ⟨_,rfl,hQ _ (qC hit) fun b o hb e=>?_⟩
 exact (Heap.get?_update_other _ _ (Ne.symm hb)).trans ((Heap.get?_update_other _ _ (Ne.symm hb)).trans e)
theorem lQ {it S:Addr}{slot i ep:Nat}{es:Array (Int×Value)} {t:SetTable}{Q:Option Value→Shared→Prop} (hh:A.handled=none) (hit:bN s.heap it S (.int slot 0) i es.size ep) (hS:eh s.heap S es ep t)
  (hnx:∀ (A:Around) (E:Value→Shared→Prop) (Q:Option (Value×Nat)→Shared→Prop),Q none s→wpAny (model prog w) A (setNext S slot i ep) Q E s)
  (hQ:∀ h',Heap.ExtBut it s.heap h'→Q none { s with heap:=h' }):wpAny (model prog w) A (pyNext (.ref it)) Q E s:=by
 refine ft hit.typeIs (fm hit hS ?_)
 obtain ⟨o,ho,hc,hd⟩:=id hit
 show wpAny _ _ (setNext S ((slot:Int)).toNat i ep >>= _) _ _ s
 rw [Int.toNat_natCast]
 refine wpAny_bind (hnx _ _ _ ?_)
 exact j5 hh ho hd (by simp) hQ
theorem tQ (hh:A.handled=none) (hb:dz w=true) {it S:Addr}{es:Array (Int×Value)} {ep:Nat}{t:SetTable} (n1:S ≠ it) :
  Walks prog w A it [it,S] [it] es.size (fun i v=>∃ hv,(dB w S ep es)[i]? = some (hv,v)) (fun i h=>bN h it S (.int (0:Nat) 0) i es.size ep∧eh h S es ep t) where
 sub:=fun b hb=>by simp at hb; simp [hb]
 frame:=fun _ _ _ st hk=>⟨st.1.keep fun o e=>hk it (by simp) o e,st.2.keep fun o e=>hk S (by simp) o e⟩
 item:=fun i s Q E hi zz128_0 hQ=>by
  obtain ⟨hit,hS⟩:=zz128_0
  have hsz:(dB w S ep es).size=es.size:=by
   have:=(dY (w.params.setOrder S ep) es).length_eq
   simpa using this
  have hi':i < (dB w S ep es).size:=by omega
  have hx:(dB w S ep es)[i]? = some (dB w S ep es)[i]:=Array.getElem?_eq_getElem hi'
  refine lP (x:=(dB w S ep es)[i].2) (nx:=0) hit hS (fun A E Q q=>ma hb hS ?_) fun h' q1 q2=>?_
  ·rw [hx]; exact q
  ·exact hQ _ h' s.toks ⟨(dB w S ep es)[i].1,hx⟩ ⟨q1,hS.keep fun o e=>q2 S o n1 e⟩ fun b o hb e=>q2 b o (fun z=>hb (by simp [z])) e
 done:=fun s Q E zz129_0 hQ=>by
  obtain ⟨hit,hS⟩:=zz129_0
  have hsz:(dB w S ep es).size=es.size:=by
   have:=(dY (w.params.setOrder S ep) es).length_eq
   simpa using this
  refine lQ hh hit hS (fun A E Q q=>ma hb hS ?_) fun h' hx=>hQ h' s.toks fun b o hb e=>hx b o (fun z=>hb (by simp [z])) e
  rw [Array.getElem?_eq_none (by omega)]; exact q
 self:=fun _ _ _ _ st hQ=>fB st.1 hQ
theorem kD {S:Addr}{es:Array (Int×Value)} {ep:Nat}{t:SetTable}{slot i:Nat}{Q:Option (Value×Nat)→Shared→Prop} (hb:dz w=false) (hS:eh s.heap S es ep t) (hled:t.led=true) (hsm:es.size≤1)
  (h:Q (match es[SetTable.below t.place slot]?,t.place[SetTable.below t.place slot]? with | some (_,x),some j=>some (x,j + 1) | _,_=>none) s):wpAny (model prog w) A (setNext S slot i ep) Q E s:=by
 unfold setNext
 refine wpAny_bind (dG hS ?_)
 dsimp only
 refine wpAny_bind (dN ?_)
 rw [if_neg (by rw [hb]; simp)]
 refine wpAny_ite_split (fun z=>?_) fun _=>?_
 ·have z':(!t.plain && decide (es.size > 1))=true:=z
  simp at z'
  omega
 ·refine wpAny_bind (m:=if (!t.led && !es.isEmpty)=true then unsupported "set:maker-not-led" else pure ()) ?_
  rw [hled]
  exact wpAny_pure (wpAny_pure h)
noncomputable def mY (t:SetTable):Nat→Nat
 | 0=>0
 | _=>(t.place.getD 0 0) + 1
theorem mM (p:Nat):SetTable.below #[p] 0=0∧SetTable.below #[p] (p + 1)=1:=by
 constructor
 ·simp [SetTable.below,SetTable.below.go]
 ·simp [SetTable.below,SetTable.below.go]
theorem qt (hh:A.handled=none) (hb:dz w=false) {it S:Addr}{es:Array (Int×Value)} {ep:Nat}{t:SetTable} (n1:S ≠ it) (hled:t.led=true) (hsm:es.size≤1) :
  Walks prog w A it [it,S] [it] es.size (fun i v=>∃ hv,es[i]? = some (hv,v)) (fun i h=>bN h it S (.int (mY t i:Nat) 0) i es.size ep∧eh h S es ep t) where
 sub:=fun b hb=>by simp at hb; simp [hb]
 frame:=fun _ _ _ st hk=>⟨st.1.keep fun o e=>hk it (by simp) o e,st.2.keep fun o e=>hk S (by simp) o e⟩
 item:=fun i s Q E hi zz130_0 hQ=>by
  obtain ⟨hit,hS⟩:=zz130_0
  obtain rfl:i=0:=by omega
  have h1:es.size=1:=by omega
  have hp:t.place.size=1:=by
   have:=hS.fits
   simp only [SetTable.fits,Bool.and_eq_true,beq_iff_eq] at this
   rw [this.1,h1]
  obtain ⟨p,hpp⟩:∃ p,t.place=#[p]:=by
   match hq:t.place,hp with
   | ⟨[p]⟩,_=>exact ⟨p,rfl⟩
  have hx:es[0]? = some es[0]:=Array.getElem?_eq_getElem (by omega)
  refine lP (x:=es[0].2) (nx:=p + 1) hit hS (fun A E Q q=>kD hb hS hled hsm ?_) fun h' q1 q2=>?_
  ·show Q (match es[SetTable.below t.place 0]?,t.place[SetTable.below t.place 0]? with | some (_,x),some j=>some (x,j + 1) | _,_=>none) s
   rw [hpp,(mM p).1,hx]
   exact q
  ·refine hQ _ h' s.toks ⟨es[0].1,hx⟩ ⟨?_,hS.keep fun o e=>q2 S o n1 e⟩ fun b o hb e=>q2 b o (fun z=>hb (by simp [z])) e
   have e:mY t (0 + 1)=p + 1:=by show t.place.getD 0 0 + 1=p + 1; rw [hpp]; rfl
   rw [e]; exact q1
 done:=fun s Q E zz131_0 hQ=>by
  obtain ⟨hit,hS⟩:=zz131_0
  refine lQ hh hit hS (fun A E Q q=>kD hb hS hled hsm ?_) fun h' hx=>hQ h' s.toks fun b o hb e=>hx b o (fun z=>hb (by simp [z])) e
  have hp:t.place.size=es.size:=by
   have:=hS.fits
   simp only [SetTable.fits,Bool.and_eq_true,beq_iff_eq] at this
   exact this.1
  rcases Nat.lt_or_ge 0 es.size with h0 | h0
  ·have h1:es.size=1:=by omega
   obtain ⟨p,hpp⟩:∃ p,t.place=#[p]:=by
    match hq:t.place,(hp.trans h1:t.place.size=1) with
    | ⟨[p]⟩,_=>exact ⟨p,rfl⟩
   have e:mY t es.size=p + 1:=by rw [h1]; show t.place.getD 0 0 + 1=p + 1; rw [hpp]; rfl
   rw [e,hpp,(mM p).2,Array.getElem?_eq_none (by omega)]
   exact q
  ·have e:es[SetTable.below t.place (mY t es.size)]? = none:=Array.getElem?_eq_none (by omega)
   rw [e]; exact q
 self:=fun _ _ _ _ st hQ=>fB st.1 hQ
theorem qN {d:List Str}:∀ {l:List Str},d.Nodup→(∀ k ∈ d,k ∈ l)→l.length=d.length→l.Perm d:=by
 induction d with
 | nil=>intro l _ _ hl; rw [List.length_eq_zero_iff.mp hl]
 | cons k d ih =>
  intro l hn hc hl
  have hk:k ∈ l:=hc k List.mem_cons_self
  obtain ⟨hkd,hn'⟩:=List.nodup_cons.mp hn
  refine (List.perm_cons_erase hk).trans ((ih hn' (fun x hx=>?_) ?_).cons k)
  ·exact (List.mem_erase_of_ne (fun z=>hkd (by rw [← z]; exact hx))).mpr (hc x (List.mem_cons_of_mem _ hx))
  ·rw [List.length_erase_of_mem hk,hl]; rfl
theorem mD (xs:List Str):(ded xs).Nodup:=by
 have key:∀ (ys acc:List Str),acc.Nodup→(ys.foldl (fun acc x=>if x ∈ acc then acc else acc ++ [x]) acc).Nodup:=by
  intro ys
  induction ys with
  | nil=>intro acc h; exact h
  | cons y ys ih =>
   intro acc h
   rw [Ey]
   refine ih _ ?_
   split
   ·exact h
   ·rename_i hy
    rw [List.nodup_append]
    exact ⟨h,List.pairwise_singleton _ _,fun a ha b hb=>by rw [List.mem_singleton] at hb; subst hb; exact fun z=>hy (by rw [← z]; exact ha)⟩
 exact key xs [] List.nodup_nil
theorem zU (xs:List Str) (k:Str):k ∈ ded xs ↔ k ∈ xs:=by
 have key:∀ (ys acc:List Str),k ∈ ys.foldl (fun acc x=>if x ∈ acc then acc else acc ++ [x]) acc ↔ k ∈ acc∨k ∈ ys:=by
  intro ys
  induction ys with
  | nil=>intro acc; simp
  | cons y ys ih =>
   intro acc
   rw [Ey,ih]
   split
   ·rename_i hy
    constructor
    ·rintro (h | h)
     ·exact .inl h
     ·exact .inr (List.mem_cons_of_mem _ h)
    ·rintro (h | h)
     ·exact .inl h
     ·rcases List.mem_cons.mp h with e | e
      ·exact .inl (by rw [e]; exact hy)
      ·exact .inr e
   ·rw [List.mem_append,List.mem_singleton,List.mem_cons]
    constructor
    ·rintro ((h | h) | h)
     ·exact .inl h
     ·exact .inr (.inl h)
     ·exact .inr (.inr h)
    ·rintro (h | h | h)
     ·exact .inl (.inl h)
     ·exact .inl (.inr h)
     ·exact .inr h
 have:=key xs []
 simpa [ded] using this
end
section
variable {prog:Program}{w:World}{A:Around}{E:Value→Shared→Prop}{s:Shared}
theorem oJ {h:Heap}{S:Addr}{xs:List Str} (q:jn prog w h S xs):∃ o es ep t,h.get? S=some o∧o.cls=.type "set"∧eh h S es ep t∧o.data=.set es ep t∧t.led=(!dz w)∧(es.size ≠ 0→t.plain=false) ∧
  es.size≤4096∧es.size=(ded xs).length∧∀ vs:List Value,vs.Perm (es.toList.map (·.2))→∃ ss,StrsAre vs ss∧ss.Perm (ded xs):=by
 obtain ⟨o,es,ep,t,ho,hx,hd,hel,hmem,hb,hf,hn,hled,hpl⟩:=q
 refine ⟨o,es,ep,t,ho,hx.1,⟨⟨o,ho,hd⟩,hf⟩,hd,hled,hpl,Nat.le_of_lt hb,hn,fun vs hp=>?_⟩
 have all:∀ v ∈ vs,∃ x t,v=.str x t:=fun v hv=>by
  obtain ⟨e,he,rfl⟩:=List.mem_map.mp (hp.mem_iff.mp hv)
  obtain ⟨⟨k,hk,_⟩,_⟩:=hel e he
  obtain ⟨t',e'⟩:=Value.isStrOf_shape (show Value.isStrOf k e.2=true from hk)
  exact ⟨k,t',e'⟩
 refine ⟨vs.map strOf,strsAre_map vs all,(hp.map strOf).trans ?_⟩
 refine qN (mD xs) (fun k hk=>?_) ?_
 ·obtain ⟨e,he,hke⟩:=(hmem k).mp (by simpa using hk)
  obtain ⟨t',e'⟩:=Value.isStrOf_shape (show Value.isStrOf k e.2=true from hke)
  refine List.mem_map.mpr ⟨e.2,List.mem_map.mpr ⟨e,he,rfl⟩,?_⟩
  rw [e']; rfl
 ·rw [List.length_map,List.length_map,Array.length_toList,hn]
noncomputable def Ae (prog:Program) (w:World) (s:Shared) (S:Addr) (xs:List Str) (itv:Value) (s1:Shared):Prop :=
 ∃ (it:Addr) (fp:List Addr) (n:Nat) (P:Nat→Value→Prop) (St:Nat→Heap→Prop) (h1:Heap) (d1:Drawn),itv=.ref it∧s1={ s with heap:=h1,drawn:=d1 }∧(∀ b o,s.heap.get? b=some o→h1.get? b=some o) ∧
  (∀ b ∈ fp,b=S∨s.heap.objs.size≤b)∧s.heap.objs.size≤it∧(∀ A:Around,A.handled=none→Walks prog w A it fp [it] n P St)∧St 0 h1∧n≤sizeLine∧∀ acc:Array Value,ItemsOf P acc n→∃ ss,StrsAre acc.toList ss∧ss.Perm (ded xs)
theorem hZ {α:Type}{acc:Array Value}{n:Nat}{P:Nat→Value→Prop} (ys:List α) (f:α→Value) (h:ItemsOf P acc n) (hn:ys.length=n) (hP:∀ i v,P i v→∃ y,ys[i]? = some y∧v=f y):acc.toList=ys.map f:=by
 obtain ⟨h1,h2⟩:=h
 refine List.ext_getElem? fun i=>?_
 rw [Array.getElem?_toList,List.getElem?_map]
 rcases Nat.lt_or_ge i n with hi | hi
 ·have e:acc[i]? = some acc[i]:=Array.getElem?_eq_getElem (by omega)
  obtain ⟨y,h3,h4⟩:=hP i _ (h2 i _ e)
  rw [e,h3,h4]; rfl
 ·rw [Array.getElem?_eq_none (by omega),List.getElem?_eq_none (by omega)]; rfl
theorem BV (es:Array (Int×Value)) (ord:List Nat) (h:∀ j ∈ ord,j < es.size):ord.map (fun j=>((es[j]?).map (·.2)).getD .none)=(ord.filterMap (fun j=>es[j]?)).map (·.2):=by
 induction ord with
 | nil=>rfl
 | cons j r ih =>
  have hj:=h j List.mem_cons_self
  rw [Eo,ih fun k hk=>h k (List.mem_cons_of_mem _ hk),List.filterMap_cons,Array.getElem?_eq_getElem hj]
  rfl
theorem tX {S:Addr}{xs:List Str}{Q:Value→Shared→Prop} (q:jn prog w s.heap S xs) (h:∀ itv s1,Ae prog w s S xs itv s1→Q itv s1):wpAny (model prog w) A (pyIter (.ref S)) Q E s:=by
 obtain ⟨o,es,ep,t,ho,hc,hS,hd,hled,hpl,hsz,hn,hall⟩:=oJ q
 have hT:s.TypeIs (.ref S) "set" := ⟨o,ho,hc⟩
 have hSlt:S < s.heap.objs.size:=Heap.lt_size ho
 refine wpAny_pyIter_slot hT SF.slot_set_iter (wpAny_call_entry SF.slot_set_iter hT SF.entry_set_iter ?_ (SF.args_set_iter_1 _))
 unfold Builtin.«frozenset.__iter__»
 refine wpAny_bind (m:=Builtin.Frozenset.slot0 _ _) (wpAny_pure ?_)
 refine wpAny_bind (m:=Builtin.Frozenset.sizeOf S) ?_
 unfold Builtin.Frozenset.sizeOf
 refine wpAny_bind (gQ hS (wpAny_pure ?_))
 refine wpAny_bind (m:=setDrawn S) ?_
 unfold setDrawn
 refine wpAny_bind (dG hS ?_)
 dsimp only
 refine wpAny_bind (dN (wpAny_pure ?_))
 have hzl:es.size≤sizeLine:=Nat.le_trans hsz (by decide)
 refine wpAny_ite_split (fun z=>?_) fun z=>?_
 ·have hdr:(!dz w && (!t.plain && decide (es.size > 1)))=true:=z
  refine wpAny_bind (jD es.size (List.range es.size) s _ (by simp) fun ord d1 hp=>?_)
  have hlen:ord.length=es.size:=by rw [hp.length_eq,List.length_range]
  have hlt:∀ j ∈ ord,j < es.size:=fun j hj=>List.mem_range.mp (hp.mem_iff.mp hj)
  refine wpAny_bind (wpAny_newTuple ?_ (by rw [List.length_map,hlen]; exact hzl))
  refine wpAny_bind ?_
  have hS1:eh (s.heap.push { cls:=.type "tuple",data:=.seq (ord.map fun j:Nat=>rawInt j).toArray }) S es ep t:=hS.keep fun o e=>Heap.get?_push_of_some _ e
  obtain ⟨o1,ho1,hd1⟩:=hS1.ex
  refine wpAny_setEpoch_of (s:={ s with heap:=s.heap.push { cls:=.type "tuple",data:=.seq (ord.map fun j:Nat=>rawInt j).toArray },drawn:=d1 }) ho1 hd1 hS.fits ?_
  refine wpAny_bind (wpAny_newObj_type (wpAny_pure ⟨_,rfl,"set_iterator",_,⟨_,Heap.get?_push_size _ rfl,rfl⟩,SF.slot_setit_next.lookup,?_⟩))
  have sz1:(s.heap.push { cls:=.type "tuple",data:=.seq (ord.map fun j:Nat=>rawInt j).toArray }).objs.size=s.heap.objs.size + 1:=Heap.size_push ..
  refine h _ _ ⟨_,[_,S,s.heap.objs.size],es.size,_,_,_,d1,rfl,rfl,fun b o e=>Heap.get?_push_of_some _ (Heap.get?_push_of_some _ e),?_,?_,fun A hA=>qu (ep:=ep) (t:=t) hA ?_ ?_ hlt hlen,⟨⟨_,Heap.get?_push_size _ rfl,rfl,rfl⟩,hS1.keep fun o e=>Heap.get?_push_of_some _ e,?_⟩,hzl,?_⟩
  ·intro b hb
   rcases List.mem_cons.mp hb with rfl | hb
   ·right; rw [sz1]; omega
   ·rcases List.mem_cons.mp hb with rfl | hb
    ·left; rfl
    ·right; rw [List.mem_singleton.mp hb]; exact Nat.le_refl _
  ·rw [sz1]; exact Nat.le_succ _
  ·rw [sz1]; exact Nat.ne_of_lt (Nat.lt_succ_of_lt hSlt)
  ·rw [sz1]; exact Nat.ne_of_lt (Nat.lt_succ_self _)
  ·exact h_ (IsTup.new _ _) fun o e=>Heap.get?_push_of_some _ e
  ·intro acc hacc
   refine hall _ ?_
   rw [hZ ord (fun j=>((es[j]?).map (·.2)).getD .none) hacc hlen fun i v ⟨j,hv,e1,e2⟩=>⟨j,e1,by rw [e2]; rfl⟩,BV es ord hlt]
   refine List.Perm.map _ ((hp.filterMap _).trans ?_)
   rw [filterMap_getElem?_range]
 ·have hdr:¬ (!dz w && (!t.plain && decide (es.size > 1)))=true:=z
  have hdr':(!dz w && (!t.plain && decide (es.size > 1)))=false:=by simpa using hdr
  refine wpAny_bind (wpAny_pure ?_)
  refine wpAny_bind ?_
  obtain ⟨o1,ho1,hd1⟩:=hS.ex
  refine wpAny_setEpoch_of ho1 hd1 hS.fits ?_
  refine wpAny_bind (wpAny_newObj_type (wpAny_pure ⟨_,rfl,"set_iterator",_,⟨_,Heap.get?_push_size _ rfl,rfl⟩,SF.slot_setit_next.lookup,?_⟩))
  have hfp:∀ b ∈ [s.heap.objs.size,S],b=S∨s.heap.objs.size≤b:=fun b hb=>by
   rcases List.mem_cons.mp hb with rfl | hb
   ·exact .inr (Nat.le_refl _)
   ·exact .inl (List.mem_singleton.mp hb)
  have hne:S ≠ s.heap.objs.size:=Nat.ne_of_lt hSlt
  cases hbt:dz w with
  | true =>
   refine h _ _ ⟨_,[_,S],es.size,_,_,_,s.drawn,rfl,rfl,fun b o e=>Heap.get?_push_of_some _ e,hfp,Nat.le_refl _,fun A hA=>tQ (ep:=ep) (t:=t) hA hbt hne,⟨⟨_,Heap.get?_push_size _ rfl,rfl,rfl⟩,hS.keep fun o e=>Heap.get?_push_of_some _ e⟩,hzl,fun acc hacc=>?_⟩
   refine hall _ ?_
   have hp:=dY (w.params.setOrder S ep) es
   rw [hZ (dB w S ep es).toList (·.2) hacc (by rw [hp.length_eq]; simp) fun i v ⟨hv,e⟩=>⟨_,by rw [Array.getElem?_toList]; exact e,rfl⟩]
   exact hp.map _
  | false =>
   rw [hbt] at hdr' hled
   have hsm:es.size≤1:=by
    rcases Nat.lt_or_ge 1 es.size with h1 | h1
    ·rw [hpl (by omega)] at hdr'
     simp at hdr'
     omega
    ·exact h1
   refine h _ _ ⟨_,[_,S],es.size,_,_,_,s.drawn,rfl,rfl,fun b o e=>Heap.get?_push_of_some _ e,hfp,Nat.le_refl _,fun A hA=>qt (ep:=ep) (t:=t) hA hbt hne hled hsm,⟨⟨_,Heap.get?_push_size _ rfl,rfl,rfl⟩,hS.keep fun o e=>Heap.get?_push_of_some _ e⟩,hzl,fun acc hacc=>?_⟩
   refine hall _ ?_
   rw [hZ es.toList (·.2) hacc (by simp) fun i v ⟨hv,e⟩=>⟨_,by rw [Array.getElem?_toList]; exact e,rfl⟩]
theorem tY {r:Addr}{Q:Bool→Shared→Prop} (hT:s.TypeIs (.ref r) "set") (h:Q false s):wpAny (model prog w) A (Builtin.List.listLengthHint (.ref r)) Q E s:=by
 unfold Builtin.List.listLengthHint
 refine wpAny_bind (wpAny_specialOf hT PySem.F.slot_set_len.lookup ?_)
 generalize hid:("set.__len__" : String)=id0
 wp_delta
 rw [show splitId id0=some ("set","__len__") from by subst hid; decide +kernel]
 subst hid
 refine wpAny_bind (wpAny_isInstance (T := "set") (b:=true) hT (by rw [isSubtype_type]; kernel_rfl) ?_)
 refine wpAny_ite_split (fun hab=>absurd hab (by decide)) (fun _=>?_)
 refine wpAny_ite_split (fun _=>?_) (fun hab=>absurd (by decide +kernel) hab)
 refine wpAny_bind (wpAny_typeOf hT ?_)
 exact wpAny_pure h
noncomputable def tz (prog:Program) (w:World) (s:Shared) (S:Addr) (Pv:List Value→Prop) (itv:Value) (s1:Shared):Prop :=
 ∃ (it:Addr) (fp:List Addr) (n:Nat) (P:Nat→Value→Prop) (St:Nat→Heap→Prop) (h1:Heap) (d1:Drawn),itv=.ref it∧s1={ s with heap:=h1,drawn:=d1 }∧(∀ b o,s.heap.get? b=some o→h1.get? b=some o) ∧
  (∀ b ∈ fp,b=S∨s.heap.objs.size≤b)∧s.heap.objs.size≤it∧(∀ A:Around,A.handled=none→Walks prog w A it fp [it] n P St)∧St 0 h1∧n≤sizeLine∧∀ acc:Array Value,ItemsOf P acc n→Pv acc.toList
theorem jq {T:String}{S:Addr}{o:Obj}{Pv:List Value→Prop}{R:List Value→Shared→Prop} (hh:A.handled=none) (ho:s.heap.get? S=some o) (hc:o.cls=.type T) (hT1:(Value.type T == Value.type "list")=false) (hT2:(Value.type T == Value.type "tuple")=false)
  (hint:∀ (A:Around) (E:Value→Shared→Prop) (s':Shared) (Q:Bool→Shared→Prop),s'.TypeIs (.ref S) T→Q false s'→wpAny (model prog w) A (Builtin.List.listLengthHint (.ref S)) Q E s')
  (iter:∀ (A:Around) (E:Value→Shared→Prop) (s':Shared) (Q:Value→Shared→Prop),(∀ o,s.heap.get? S=some o→s'.heap.get? S=some o)→(∀ itv s1,tz prog w s' S Pv itv s1→Q itv s1)→wpAny (model prog w) A (pyIter (.ref S)) Q E s')
  (h:∀ (h':Heap) (d':Drawn) (tk:Nat) (vs:List Value),(∀ b o,s.heap.get? b=some o→h'.get? b=some o)→s.heap.objs.size≤h'.objs.size→Pv vs→R vs { s with heap:=h',drawn:=d',toks:=tk }) :
  wpAny (model prog w) A (collect (.ref S)) R E s:=by
 have hSlt:S < s.heap.objs.size:=Heap.lt_size ho
 let RR:Result→Shared→Prop:=fun r s'=>∃ (h':Heap) (d':Drawn) (tk:Nat) (acc:Array Value) (c:Nat),r=.ok (.ret (.ref s.heap.objs.size))∧s'={ s with heap:=h',drawn:=d',toks:=tk } ∧
  (∀ b o,s.heap.get? b=some o→h'.get? b=some o)∧h'.get? s.heap.objs.size=some { cls:=.type "list",dict:=none,data:=.seq acc c,slots:=#[] }∧Pv acc.toList
 have ext:wpAny (model prog w) A.in1 (Builtin.List.listExtendWith (.ref s.heap.objs.size) (.ref S) (.ref s.heap.objs.size))
   (fun fin s'=>match fin with | .done f=>RR (.ok f) s' | .again c'=>c'.quiet=true∧codeAny (model prog w) A c' RR s') (fun e s'=>RR (.error e) s') { s with heap:=s.heap.push { cls:=.type "list",data:=.seq ([]:List Value).toArray } }:=by
  have hL1:(s.heap.push { cls:=.type "list",data:=.seq ([]:List Value).toArray }).get? s.heap.objs.size=some { cls:=.type "list",data:=.seq #[] }:=Heap.get?_push_size _ rfl
  have sz1:(s.heap.push { cls:=.type "list",data:=.seq ([]:List Value).toArray }).objs.size=s.heap.objs.size + 1:=Heap.size_push ..
  have hSL:s.heap.objs.size ≠ S:=Nat.ne_of_gt hSlt
  unfold Builtin.List.listExtendWith
  refine wpAny_bind (wpAny_typeOf (T:=T) ⟨o,Heap.get?_push_of_some _ ho,hc⟩ ?_)
  have e1:Builtin.List.listSameRef (.ref s.heap.objs.size) (.ref S)=false:=by simp [Builtin.List.listSameRef,hSL]
  rw [if_neg (by rw [e1,hT1,hT2]; decide)]
  refine wpAny_bind (iter _ _ _ _ (fun o e=>Heap.get?_push_of_some _ e) fun itv s2 came=>?_)
  obtain ⟨it,fp,n,P,St,h1,d1,rfl,rfl,kp,hfp,hit,hW,hst,hn,hacc⟩:=came
  have hL2:h1.get? s.heap.objs.size=some { cls:=.type "list",data:=.seq #[] }:=kp _ _ hL1
  have hLf:s.heap.objs.size ∉ fp:=fun hb=>by
   rcases hfp _ hb with e | e
   ·exact hSL e
   ·have e':s.heap.objs.size + 1≤s.heap.objs.size:=by rw [← sz1]; exact e
    exact absurd e' (Nat.not_succ_le_self _)
  refine wpAny_bind (wpAny_holding (hint _ _ _ _ ⟨o,kp _ _ (Heap.get?_push_of_some _ ho),hc⟩ ?_))
  have key:∀ (h:Heap) (c₁:Nat),St 0 h→(∀ b o,b ≠ s.heap.objs.size→h1.get? b=some o→h.get? b=some o)→h.get? s.heap.objs.size=some { cls:=.type "list",data:=.seq #[] c₁ } →
    codeAny (model prog w) A (.builtin "list.extend.loop" ⟨[.ref s.heap.objs.size,.ref it,.ref s.heap.objs.size],[]⟩) RR { s with heap:=h,drawn:=d1 }:=by
   intro h c₁ st hk hL
   refine codeAny_extend_loopS (hW A.in1 hh).toS hn s.heap.objs.size hLf _ n 0 _ #[] c₁ rfl (Nat.zero_le _) st hL (ItemsOf.nil _) fun s' acc' c' hm hS' hacc'=>?_
   refine ⟨s'.heap,d1,s'.toks,acc',c',rfl,Moved.eq_with hm,fun b o' e=>?_,hS',hacc acc' hacc'⟩
   have hb:b < s.heap.objs.size:=Heap.lt_size e
   refine hm.heap b o' (fun hmem=>?_) (hk b o' (Nat.ne_of_lt hb) (kp b o' (Heap.get?_push_of_some _ e)))
   rcases List.mem_cons.mp hmem with e' | hmem
   ·exact absurd e' (Nat.ne_of_lt hb)
   ·have e2:=List.mem_singleton.mp hmem
    have e3:s.heap.objs.size + 1≤it:=by rw [← sz1]; exact hit
    rw [e2] at hb
    exact absurd e3 (Nat.not_le.mpr (Nat.lt_succ_of_lt hb))
  refine wpAny_ite_split (fun _=>?_) (fun _=>wpAny_pure ⟨plainId_quiet PySem.F.plain_extend_loop _,key h1 0 hst (fun _ _ _ e=>e) hL2⟩)
  refine wpAny_bind (wpAny_rule ?_)
  refine wpAny_bind ?_
  show wpAny _ _ (updateSeq s.heap.objs.size (·.push .none) >>= fun _=>updateSeq s.heap.objs.size (·.pop)) _ _ _
  refine wpAny_bind (wpAny_updateSeq hL2 rfl ?_)
  have hS2:=Heap.get?_update_self (Obj.mapSeq (·.push Value.none)) hL2 rfl
  refine wpAny_updateSeq (hz:=by seq_fits) hS2 rfl ?_
  have hS3:=Heap.get?_update_self (Obj.mapSeq (·.pop)) hS2 rfl
  have oth:∀ b o,b ≠ s.heap.objs.size→h1.get? b=some o→((h1.update s.heap.objs.size (Obj.mapSeq (·.push Value.none))).update s.heap.objs.size (Obj.mapSeq (·.pop))).get? b=some o:=fun b o hb e=>(Heap.get?_update_other _ _ (Ne.symm hb)).trans ((Heap.get?_update_other _ _ (Ne.symm hb)).trans e)
  exact wpAny_pure ⟨plainId_quiet PySem.F.plain_extend_loop _,key _ _ ((hW A.in1 hh).frame 0 _ _ hst fun b hb o e=>oth b o (fun z=>hLf (by rw [← z]; exact hb)) e) oth hS3⟩
 unfold collect
 refine wpAny_bind (wpAny_runValue (codeAny_builtin entry_proto_collect' ?_))
 rw [Around.under_plainId PySem.F.plain_proto_collect _]
 show wpAny _ A.in1 (newList [] >>= fun l=>again (.builtin "list.__iadd__" ⟨[l,.ref S],[]⟩)) _ _ s
 refine wpAny_bind (wpAny_newObj_type ?_)
 refine wpAny_pure ⟨plainId_quiet PySem.F.plain_list_iadd _,codeAny_builtin entry_list_iadd' ?_⟩
 rw [Around.under_plainId PySem.F.plain_list_iadd _]
 show wpAny _ A.in1 (Builtin.List.listExtendWith (.ref s.heap.objs.size) (.ref S) (.ref s.heap.objs.size)) _ _ _
 refine wpAny_mono ext (fun fin s' x=>?_) fun e s' x=>?_
 ·cases fin with
  | done f =>
   obtain ⟨h',d',tk,acc',c',e,rfl,hk,hS',a1⟩:=x
   cases e
   show wpAny _ A (load s.heap.objs.size >>= _) _ _ _
   refine wpAny_bind (wpAny_load hS' ?_)
   exact wpAny_pure (h h' d' tk _ hk (Nat.le_of_lt (Heap.lt_size hS')) a1)
  | again c₁ =>
   refine ⟨x.1,codeAny_mono x.2 fun q s₂ y=>?_⟩
   obtain ⟨h',d',tk,acc',c',rfl,rfl,hk,hS',a1⟩:=y
   show wpAny _ A (load s.heap.objs.size >>= _) _ _ _
   refine wpAny_bind (wpAny_load hS' ?_)
   exact wpAny_pure (h h' d' tk _ hk (Nat.le_of_lt (Heap.lt_size hS')) a1)
 ·obtain ⟨_,_,_,_,_,e',_⟩:=x
  cases e'
theorem m4 {S:Addr}{xs:List Str}{R:List Value→Shared→Prop} (hh:A.handled=none) (q:jn prog w s.heap S xs)
  (h:∀ (h':Heap) (d':Drawn) (tk:Nat) (vs:List Value) (ss:List Str),(∀ b o,s.heap.get? b=some o→h'.get? b=some o)→s.heap.objs.size≤h'.objs.size→StrsAre vs ss→ss.Perm (ded xs)→R vs { s with heap:=h',drawn:=d',toks:=tk }) :
  wpAny (model prog w) A (collect (.ref S)) R E s:=by
 obtain ⟨o,es,ep,t,ho,hc,_⟩:=oJ q
 refine jq (Pv:=fun vs=>∃ ss,StrsAre vs ss∧ss.Perm (ded xs)) hh ho hc (by decide) (by decide) (fun A E s' Q hT hq=>tY hT hq) (fun A E s' Q kp hq=>tX (q.at kp) hq) fun h' d' tk vs kp hz zz135_0=>by obtain ⟨ss,a1,a2⟩:=zz135_0; exact h h' d' tk vs ss kp hz a1 a2
end
noncomputable def leS (a b:Str):Bool:=!decide (b.cps.toList < a.cps.toList)
noncomputable def b7 (ss:List Str):List Str:=ss.mergeSort leS
theorem uN {a b c:List Nat} (h1:¬ b < a) (h2:¬ c < b):¬ c < a:=by
 have h1':a≤b:=List.not_lt.mp h1
 have h2':b≤c:=List.not_lt.mp h2
 exact List.not_lt.mpr (List.le_trans h1' h2')
theorem mh (a b c:Str) (h1:leS a b=true) (h2:leS b c=true):leS a c=true:=by
 unfold leS at *
 simp only [Bool.not_eq_true',decide_eq_false_iff_not] at *
 exact uN h1 h2
theorem uP (a b:Str):(leS a b || leS b a)=true:=by
 unfold leS
 rcases List.le_total a.cps.toList b.cps.toList with h | h
 ·rw [decide_eq_false (List.not_lt.mpr h)]; rfl
 ·rw [decide_eq_false (p:=a.cps.toList < b.cps.toList) (List.not_lt.mpr h)]; simp
theorem mU {a b:Str} (h:a.cps.toList=b.cps.toList):a=b:=by
 cases a; cases b
 congr 1
 exact Array.toList_inj.mp h
theorem xc {a b:Str} (h1:leS a b=true) (h2:leS b a=true):a=b:=by
 unfold leS at *
 simp only [Bool.not_eq_true',decide_eq_false_iff_not] at *
 exact mU (List.le_antisymm (List.not_lt.mp h1) (List.not_lt.mp h2))
theorem bg (ss:List Str):(b7 ss).Perm ss:=List.mergeSort_perm ss leS
theorem gX (ss:List Str):(b7 ss).Pairwise (fun a b=>leS a b=true):=List.pairwise_mergeSort mh uP ss
theorem iz {ss ts:List Str} (hp:ts.Perm ss) (hs:ts.Pairwise (fun a b=>leS a b=true)):ts=b7 ss :=
 List.Perm.eq_of_pairwise (fun a b _ _ h1 h2=>xc h1 h2) hs (gX ss) (hp.trans (bg ss).symm)
theorem lj {ss ts:List Str} (hp:ts.Perm ss):b7 ts=b7 ss:=iz ((bg ts).trans hp) (gX ts)
theorem jv:∀ (p:Str) (l:List Str),risingS p l=true→(p :: l).Pairwise (fun a b=>leS a b=true)
 | p,[],_=>List.pairwise_singleton _ _
 | p,x :: r,h=>by
  have h':(!ltCps x.cps.toList p.cps.toList && risingS x r)=true:=h
  rw [Bool.and_eq_true] at h'
  have ih:=jv x r h'.2
  have hpx:leS p x=true:=by unfold leS; rw [← ltCps_eq]; exact h'.1
  refine List.pairwise_cons.mpr ⟨fun y hy=>?_,ih⟩
  rcases List.mem_cons.mp hy with rfl | hy
  ·exact hpx
  ·exact mh _ _ _ hpx ((List.pairwise_cons.mp ih).1 y hy)
theorem mW:∀ (l:List Str),sortedS l=true→l.Pairwise (fun a b=>leS a b=true)
 | [],_=>.nil
 | x :: r,h=>jv x r h
section
variable {prog:Program}{w:World}{A:Around}{E:Value→Shared→Prop}{s:Shared}
theorem qa {T:String}{l:Addr}{o:Obj}{vs:List Value}{n:Nat}{Q:List Value→Shared→Prop} (ho:s.heap.get? l=some o) (hc:o.cls=.type T) (hd:o.data=.seq vs.toArray n) (hT:T = "list"∨T = "tuple") (hsz:vs.length≤sizeLine)
  (h:∀ h',(∀ b o,s.heap.get? b=some o→h'.get? b=some o)→s.heap.objs.size≤h'.objs.size→Q vs { s with heap:=h' }):wpAny (model prog w) A (collect (.ref l)) Q E s:=by
 unfold collect
 refine wpAny_bind (wpAny_runValue (codeAny_builtin entry_proto_collect' ?_))
 show wpAny _ _ (do again (.builtin "list.__iadd__" ⟨[← newList [],.ref l],[]⟩)) _ _ s
 refine wpAny_bind (wpAny_newList (wpAny_pure ⟨Code.quiet_builtin _ (by decide +kernel),codeAny_builtin entry_list_iadd' ?_⟩))
 show wpAny _ _ (Builtin.List.listExtendWith (.ref s.heap.objs.size) (.ref l) (.ref s.heap.objs.size)) _ _ { s with heap:=s.heap.push (seqObj "list" #[] 0) }
 unfold Builtin.List.listExtendWith
 have ho':(s.heap.push (seqObj "list" #[] 0)).get? l=some o:=Heap.get?_push_of_some _ ho
 refine wpAny_bind (wpAny_typeOf (T:=T) ⟨o,ho',hc⟩ ?_)
 rw [if_pos (by rcases hT with rfl | rfl <;> simp)]
 refine wpAny_bind (listItems_at ho' hd ?_)
 refine wpAny_bind (listItems_at (xs:=#[]) (n:=0) (Heap.get?_push_size _ rfl) rfl ?_)
 rw [if_neg (by simp)]
 refine wpAny_bind (listUpdate_at (xs:=#[]) (n:=0) (Heap.get?_push_size _ rfl) rfl ?_ (Nat.zero_le _) (by show (#[] ++ vs.toArray).size≤sizeLine + 1; simp only [Array.size_append,List.size_toArray,En]; omega))
 refine wpAny_pure ?_
 show wpAny (model prog w) A (do
   let o ← load s.heap.objs.size
   match o.data with
   | .seq xs _=>pure xs.toList
   | _=>unsupported "internal:collect") Q E { s with heap:=(s.heap.push (seqObj "list" #[] 0)).update s.heap.objs.size (Obj.mapSeq (· ++ vs.toArray)) }
 refine wpAny_bind (wpAny_load (get?_update_seq (Heap.get?_push_size _ rfl) _) ?_)
 show wpAny _ _ (pure ((#[]:Array Value) ++ vs.toArray).toList) Q E _
 rw [show ((#[]:Array Value) ++ vs.toArray).toList=vs by simp]
 exact wpAny_pure (h _ (fun b o e=>(Heap.get?_update_other _ _ (Nat.ne_of_gt (Heap.lt_size e))).trans (Heap.get?_push_of_some _ e)) (by rw [Heap.size_update,size_push']; exact Nat.le_succ _))
theorem fX {r:Addr}{ss0:List Str}{Q:Value→Shared→Prop} (h64:ss0.length < 64)
  (hc:∀ R:List Value→Shared→Prop,(∀ (h':Heap) (d':Drawn) (tk:Nat) (vs:List Value) (ss:List Str),(∀ b o,s.heap.get? b=some o→h'.get? b=some o)→s.heap.objs.size≤h'.objs.size→StrsAre vs ss→ss.Perm ss0→R vs { s with heap:=h',drawn:=d',toks:=tk })→wpAny (model prog w) A.in1 (collect (.ref r)) R E s)
  (h:∀ (D:Addr) (h':Heap) (d':Drawn) (tk:Nat) (its:List Value) (e:Nat),(∀ b o,s.heap.get? b=some o→h'.get? b=some o)→s.heap.objs.size≤D→h'.get? D=some { cls:=.type "list",data:=.seq its.toArray e }→StrsAre its (b7 ss0)→Q (.ref D) { s with heap:=h',drawn:=d',toks:=tk }) :
  wpAny (model prog w) A (call (.builtin "sorted") [.ref r]) Q E s:=by
 refine Calls.call_function_entry kind_sorted plain_sorted entry_sorted (args_sorted1 _) ?_
 unfold Builtin.«sorted»
 refine wpAny_bind (m:=checkCount "sorted" 1 1 _) (wpAny_pure ?_)
 refine wpAny_bind (hc _ fun h' d' tk vs ss kp hD hS hp=>?_)
 have hlen:vs.length=ss0.length:=by rw [StrsAre.length hS,hp.length_eq]
 refine wpAny_bind (wpAny_newList ?_ (by rw [hlen]; exact Nat.le_trans (Nat.le_of_lt h64) (by decide)))
 have hoL:(h'.push (seqObj "list" vs.toArray 0)).get? h'.objs.size=some (seqObj "list" vs.toArray 0):=Heap.get?_push_size _ rfl
 show wpAny _ _ _ _ _ { s with heap:=h'.push (seqObj "list" vs.toArray 0),drawn:=d',toks:=tk }
 refine wpAny_bind (wpAny_holding (wpAny_call_entry slot_list_sort ⟨_,hoL,rfl⟩ entry_list_sort (list_sort_treeK strKind_oneLt hoL hS.keysOf (fun v₁ v₂ bO e=>keyKind_strs (by rw [← e]; exact hS)) (by rw [hlen]; exact h64) fun st' a1 a2=>⟨_,rfl,?_⟩) (args_list_sort _)))
 obtain ⟨ss',b1,b2,b3⟩:=sorted_out_str hS a1 a2
 obtain ⟨e,he⟩:=sortedHeap_at (out:=(arrOf st').map (·.2)) hoL
 have hlt:∀ b o,s.heap.get? b=some o→(sortedHeap (h'.push (seqObj "list" vs.toArray 0)) h'.objs.size vs ((arrOf st').map (·.2))).get? b=some o:=fun b o eb=>by
  have e1:=kp b o eb
  have e2:=Heap.lt_size e1
  rw [sortedHeap_old (Nat.ne_of_lt e2) (by rw [size_push']; exact Nat.lt_succ_of_lt e2)]
  exact Heap.get?_push_of_some _ e1
 refine wpAny_pure ⟨_,rfl,h _ _ d' tk ((arrOf st').map (·.2)).toList e hlt hD (by rw [Array.toArray_toList]; exact he) ?_⟩
 rw [← iz (b2.trans hp) (mW ss' b3)]
 exact b1
end
theorem lL:∀ {ss:List Str}{its:List Value},StrsAre its ss→aZ (ss.map V.str) its
 := fun h=>by
  cases h with
  | nil=>exact .nil
  | cons _ t h=>exact .cons ⟨t,rfl⟩ (lL h)
theorem i5:∀ {ss:List Str}{its:List Value},aZ (ss.map V.str) its→StrsAre its ss
 := fun {ss its} z=>by
  cases ss with
  | nil=>cases z; exact .nil
  | cons x ss =>
   cases z with
   | cons r h=>obtain ⟨t,e⟩:=r; subst e; exact .cons x t (i5 h)
section
variable {X:Cx}
theorem Inv.laidS {pins:List (Addr×Obj)} {σ:St}{H:Hp}{s:Shared} (I:Inv X pins σ H s) {h':Heap}{d':Drawn}{tk:Nat}{D:Addr}{its:List Value}{e:Nat}{ss:List Str} (kp:∀ b o,s.heap.get? b=some o→h'.get? b=some o) (hD:s.heap.objs.size≤D)
  (hl:h'.get? D=some { cls:=.type "list",data:=.seq its.toArray e }) (hS:StrsAre its ss) (hz:ss.length≤sizeLine):Inv X pins σ (upd H D (.lst (ss.map V.str))) { s with heap:=h',drawn:=d',toks:=tk }:=by
 have I1:Inv X pins σ (upd H D (.lst (ss.map V.str))) { s with heap:=h',toks:=tk }:=I.laid kp hD ⟨by rw [List.length_map]; exact hz,its,e,lL hS,hl⟩
 exact ⟨I1.ok,I1.os,I1.bare,I1.base,I1.loc,I1.cell,I1.free,I1.freeC,I1.pin,I1.hok,I1.len⟩
noncomputable def m_ (K:PySem.W.Frag):List V→Hp→VK→Prop:=fun xs H Q=>∃ p ss,xs=[.ref p]∧(SqL K H p (ss.map V.str)∨SqT K H p (ss.map V.str))∧ss.length < 64∧∀ l,H l=none→Q (.ref l) (upd H l (.lst ((b7 ss).map V.str)))
theorem qc:dj X (.builtin "sorted") (m_ X.K):=by
 intro pins s σ H xs us Q I r h
 obtain ⟨p,ss,rfl,hq,h64,q⟩:=h
 obtain ⟨u,rfl,ru⟩:=jZ r
 cases ru
 have hz:ss.length≤sizeLine:=Nat.le_trans (Nat.le_of_lt h64) (by decide)
 obtain ⟨T,o,its,n,ho,hc,hd,hT,rv⟩:∃ T o its n,s.heap.get? p=some o∧o.cls=.type T∧o.data=.seq (List.toArray its) n∧(T = "list"∨T = "tuple")∧aZ (ss.map V.str) its:=by
  rcases hq with hq | hq
  ·obtain ⟨its,rv,pl,_⟩:=I.list hq
   obtain ⟨o,n,e,c,hd,hdata⟩:=pl
   exact ⟨"list",o,its,_,e,c,hdata,.inl rfl,rv⟩
  ·obtain ⟨its,rv,⟨o,e,c,n,hd⟩,_⟩:=I.tuple hq
   exact ⟨"tuple",o,its,n,e,c,hd,.inr rfl,rv⟩
 have hS:=i5 rv
 refine fX (ss0:=ss) h64 (fun R hR=>qa ho hc hd hT (by rw [StrsAre.length hS]; exact hz) fun h' kp hsz=>?_) fun D h' d' tk its' e kp hD hl hS'=>?_
 ·have z:=hR h' s.drawn s.toks its ss kp hsz hS (.refl _)
  exact z
 ·exact ⟨.ref D,_,I.laidS kp hD hl hS' (by rw [(bg ss).length_eq]; exact hz),rfl,q D (I.hok.fresh hD)⟩
end
section
variable {X:Cx}{e:Expr}{p p2 pos pos2:Pos}{te:TE}
noncomputable def qy (K:PySem.W.Frag) (te:TE):TE:=fun σ H Q=>te σ H fun x H1=>∃ a ss,x=.ref a∧(SqL K H1 a (ss.map V.str)∨SqT K H1 a (ss.map V.str))∧ss.length + 1 < 4096∧(ded ss).length < 64∧∀ l,H1 l=none→Q (.ref l) (upd H1 l (.lst ((b7 (ded ss)).map V.str)))
theorem nh (hc:X.calm=true) (hg:Gl X "sorted") (hm:X.mg "sorted" = none) (hv:bootBuiltins "sorted" = some (.builtin "sorted")) (hg2:Gl X "set") (hm2:X.mg "set" = none) (hv2:bootBuiltins "set" = some (.type "set")) (he:PE X e te)
  (hs:starEach [e] X.env=[(false,eval e X.env)]:=by rfl):PE X (.Call (.Name "sorted" p) [.Call (.Name "set" p2) [e] [] pos2] [] pos) (qy X.K te):=by
 intro pins s σ H Q I h
 refine wpAny_Call_Name_kw (eM I hg hm hv ?_ (by decide) (by decide))
 refine PyProof.Rows.callWith_builtin1 ?_ rfl rfl
 show wpAny _ _ (spliced [(false,eval (.Call (.Name "set" p2) [e] [] pos2) X.env)]) _ _ s
 refine Calls.spliced_cons ?_
 refine wpAny_Call_Name_kw (eM I hg2 hm2 hv2 ?_ (by decide) (by decide))
 refine PyProof.Rows.callWith_type1 ?_ hs rfl
 rw [hs]
 show wpAny _ _ (spliced [(false,eval e X.env)]) _ _ s
 refine Calls.spliced_cons (thn (he pins s σ H _ I h) fun u s1 ⟨x,H1,I1,r1,a,ss,ex,hq,hb,h64,q⟩=>Calls.spliced_nil ?_)
 subst ex
 cases r1
 obtain ⟨T,o,its,n,ho,hcl,hd,hT,rv⟩:∃ T o its n,s1.heap.get? a=some o∧o.cls=.type T∧o.data=.seq (List.toArray its) n∧(T = "list"∨T = "tuple")∧aZ (ss.map V.str) its:=by
  rcases hq with hq | hq
  ·obtain ⟨its,rv,pl,_⟩:=I1.list hq
   obtain ⟨o,n,e,c,hd,hdata⟩:=pl
   exact ⟨"list",o,its,_,e,c,hdata,.inl rfl,rv⟩
  ·obtain ⟨its,rv,⟨o,e,c,n,hd⟩,_⟩:=I1.tuple hq
   exact ⟨"tuple",o,its,n,e,c,hd,.inr rfl,rv⟩
 have hS:=i5 rv
 have hl:=StrsAre.length hS
 refine vo (xs:=ss) (I1.ok.hd hc) ho hcl hd hT (fun i v hi=>?_) (by rw [List.size_toArray,hl]) (by rw [List.size_toArray,hl]; exact hb) fun h' tk hset kp=>?_
 ·have hi':its[i]? = some v:=by simpa using hi
  obtain ⟨y,t,e⟩:=hS.all v (List.mem_of_getElem? hi')
  refine ⟨y,t,?_,e⟩
  rw [← hS.strs,List.getElem?_map,hi',e]; rfl
 ·have kp':∀ b o,s1.heap.get? b=some o→h'.get? b=some o:=fun b o e=>kp b o (Heap.lt_size e) e
  have I2:Inv X pins σ H1 { s1 with heap:=h',toks:=tk }:=I1.kept kp'
  refine Calls.spliced_nil ?_
  refine fX (ss0:=ded ss) h64 (fun R hR=>m4 (show X.A.in1.handled=none from I1.ok.hd hc) hset hR) fun D h2 d' tk2 its' e2 kp2 hD hl2 hS2=>?_
  refine ⟨.ref D,_,I2.laidS kp2 hD hl2 hS2 ?_,rfl,q D (I2.hok.fresh hD)⟩
  rw [(bg _).length_eq]
  exact Nat.le_trans (Nat.le_of_lt h64) (by decide)
end
end L2
namespace L2.Cu
open PySem PySem.Spec PyProof.Rows
noncomputable def eR:List D→Option (List Str)
 | []=>some []
 | .str x :: r=>(eR r).map fun xs=>x :: xs
 | _=>none
theorem j2:∀ {ds:List D}{ss:List Str},eR ds=some ss→ds=ss.map D.str
 | [],ss,h=>by cases h; rfl
 | .str x :: r,ss,h=>by
  unfold eR at h
  cases hr:eR r with
  | none=>rw [hr] at h; cases h
  | some cs =>
   rw [hr] at h
   cases h
   rw [j2 hr]; rfl
theorem lO (ss:List Str):eR (ss.map D.str)=some ss:=by
 induction ss with
 | nil=>rfl
 | cons x r ih=>show (eR (r.map D.str)).map _=_; rw [ih]; rfl
theorem Reps.strs {F:Hp}:∀ {vs:List V}{ss:List Str},Reps F vs (ss.map D.str)→vs=ss.map V.str
 := fun {vs ss} z=>by
  cases ss with
  | nil=>cases z; rfl
  | cons x ss =>
   cases z with
   | cons r t=>cases r; rw [Reps.strs t]; rfl
theorem Reps.ofStrs {F:Hp}:∀ (ss:List Str),Reps F (ss.map V.str) (ss.map D.str)
 | []=>.nil
 | x :: ss=>.cons (.str x) (Reps.ofStrs ss)
noncomputable def vW (d:D):Option D:=(fZ d).bind fun ds=>(eR ds).bind fun ss=>if ss.length < 64 then some (.lst ((b7 ss).map D.str)) else none
noncomputable def fW (d:D):Option D:=(fZ d).bind fun ds=>(eR ds).bind fun ss=>if ss.length + 1 < 4096∧(ded ss).length < 64 then some (.lst ((b7 (ded ss)).map D.str)) else none
section
variable {X:Cx}{e:Expr}{p p2 pos pos2:Pos}{f:DE→Option D}
theorem v6 {K:PySem.W.Frag}{F H:Hp}{v:V}{d:D}{ds:List D}{ss:List Str} (s:∀ a u,F a=some u→H a=some u) (r:OB F H v d) (h:fZ d=some ds) (h2:eR ds=some ss):∃ a,v=.ref a∧(SqL K H a (ss.map V.str)∨SqT K H a (ss.map V.str)):=by
 have e2:=j2 h2
 subst e2
 cases d with
 | lst xs =>
  cases h
  obtain ⟨a,vs,rfl,ha,rs⟩:=OB.lst s r
  rw [Reps.strs rs] at ha
  exact ⟨a,rfl,.inl (SqL.of ha)⟩
 | tup xs =>
  cases h
  obtain ⟨a,vs,rfl,ha,rs⟩:=r.tup
  rw [Reps.strs rs] at ha
  exact ⟨a,rfl,.inr (SqT.of (s _ _ ha))⟩
 | _=>cases h
theorem ue {K:PySem.W.Frag}:lE .F (m_ K) vW:=fun F H v x d Q s rx h q=>by
 unfold vW at h
 cases h1:fZ x with
 | none=>simp [h1] at h
 | some ds =>
  cases h2:eR ds with
  | none=>simp [h1,h2] at h
  | some ss =>
   simp only [h1,h2,Ef] at h
   split at h
   ·rename_i h64
    cases h
    obtain ⟨a,rfl,hq⟩:=v6 (K:=K) s rx h1 h2
    exact ⟨a,ss,rfl,hq,h64,fun l hl=>q _ F _ (Ext.lay s hl) ⟨l,_,rfl,hl,ap,nofr s hl,Reps.ofStrs _⟩⟩
   ·cases h
theorem nI (hu:X.A.units + 64 < cLine) (hc:X.calm=true) (hg:Gl X "sorted") (hm:X.mg "sorted" = none) (hv:bootBuiltins "sorted" = some (.builtin "sorted")) (hg2:Gl X "set") (hm2:X.mg "set" = none) (hv2:bootBuiltins "set" = some (.type "set"))
  (ha:Ev X .O e f) (he:aO e=true:=by rfl):Ev X .F (.Call (.Name "sorted" p) [.Call (.Name "set" p2) [e] [] pos2] [] pos) (un fW f) :=
 PE.by (nh hc hg hm hv hg2 hm2 hv2 ha.h (aA e [] X.env he)) fun σ H Q zz137_0=>by
  obtain ⟨B,F,E,d,k,q,w⟩:=zz137_0
  unfold un at q
  cases hf:f E with
  | none=>simp [hf] at q
  | some x =>
   simp only [hf,Ef] at q
   unfold fW at q
   cases h1:fZ x with
   | none=>simp [h1] at q
   | some ds =>
    cases h2:eR ds with
    | none=>simp [h1,h2] at q
    | some ss =>
     simp only [h1,h2,Ef] at q
     split at q
     ·rename_i hz
      cases q
      refine ⟨B,F,E,x,k,hf,fun v F1 H1 x1 r1=>?_⟩
      obtain ⟨a,rfl,hq⟩:=v6 (K:=X.K) x1.sub r1 h1 h2
      exact ⟨a,ss,rfl,hq,hz.1,hz.2,fun l hl=>w _ F1 _ (x1.trans (Ext.lay x1.sub hl)) ⟨l,_,rfl,x1.nofree hl,ap,nofr x1.sub hl,Reps.ofStrs _⟩⟩
     ·cases q
end
end L2.Cu
namespace L2
open PySem PySem.Spec PyProof.Rows
section
variable {X:Cx}
noncomputable def yT:V→List V→Hp→VK→Prop:=fun x vs H Q=>∃ a b kvs more,x=.ref a∧vs=[.ref b]∧a ≠ b∧H a=some (.dK kvs)∧H b=some (.dK more)∧kvs.length + more.length≤sizeLine∧Q .non (upd H a (.dK (hY kvs more)))
theorem uH:MtM X "dict.update" yT:=by
 intro pins s σ H x vs v us Q I rx rv h
 obtain ⟨a,b,kvs,more,rfl,rfl,hab,ha,hb,hz,q⟩:=h
 cases rx
 obtain ⟨u,rfl,ru⟩:=rv.one
 cases ru
 obtain ⟨z1,hd1,vs1,rel1,dd1⟩:=mC I.hok ha
 obtain ⟨z2,hd2,vs2,rel2,dd2⟩:=mC I.hok hb
 refine call_meetsIn PySem.F.slot_dict_update dd1.typeIs PySem.F.entry_dict_update (PySem.F.args_dict_update_2 _ _) (meets_dict_update (aL X.prog X.w) a b hab hd2) ⟨vs1,vs2,dd1,dd2,by rw [← rel1.length,← rel2.length]; exact hz,fun h' d1 d2 hs=>?_⟩
 have he:∃ q,h'.get? a=some q:=let ⟨q,_,_,hq,_⟩:=d1; ⟨q,hq⟩
 have hl:(hY kvs more).length≤sizeLine:=Nat.le_trans (eL more kvs) hz
 exact ⟨.non,_,gN (t':=s.toks) I (by rw [ha]; exact True.intro) hs he (jk hl hd1 (rel2.merge rel1) d1),rfl,q⟩
noncomputable def kn (x:Str) (n:Int):Str:=⟨(List.replicate n.toNat x.cps.toList).flatten.toArray⟩
theorem oY (a:List Nat):∀ (k:Nat) (acc:List Nat),List.foldl (fun x1 x2=>x1 ++ x2) acc.toArray (List.replicate k a.toArray)=(acc ++ (List.replicate k a).flatten).toArray
 | 0,acc=>by simp
 | k + 1,acc=>by
  have e:acc.toArray ++ a.toArray=(acc ++ a).toArray:=by simp
  have e2:(acc ++ a) ++ (List.replicate k a).flatten=acc ++ (List.replicate (k + 1) a).flatten:=by rw [List.replicate_succ,List.flatten_cons,List.append_assoc]
  rw [List.replicate_succ,Ey,e,oY a k (acc ++ a),e2]
theorem qP:OpR X (binaryOp .Mult) (fun x y H Q=>∃ z n,x=.str z∧y=.int n∧0≤n∧n < 2 ^ 20∧z.length * n.toNat≤sizeLine∧Q (.str (kn z n)) H):=by
 intro pins s σ H x y v u Q I rx ry h
 obtain ⟨z,n,rfl,rfl,h0,h1,hz,q⟩:=h
 obtain ⟨t,rfl⟩:=rx
 obtain ⟨t',rfl⟩:=ry
 have hzl:z.length * n.toNat≤2 ^ 24:=hz
 refine PySem.P.mul_str ?_ (fun hn hb=>?_) (fun hn hb=>?_) ?_
 ·rw [decide_eq_false (by omega),decide_eq_false (by omega)]; rfl
 ·have hn1:1≤n:=by omega
  have hzn:(z.length:Int)≤2 ^ 24:=by
   have h2:z.length * 1≤z.length * n.toNat:=Nat.mul_le_mul_left _ (by omega)
   omega
  have hdiv:(2 ^ 63 - 1) / 2 ^ 20≤(2 ^ 63 - 1) / n:=by
   refine Int.le_ediv_of_mul_le (by omega) ?_
   have h3:(2 ^ 63 - 1) / 2 ^ 20 * n≤(2 ^ 63 - 1) / 2 ^ 20 * 2 ^ 20:=Int.mul_le_mul_of_nonneg_left (by omega) (by decide)
   omega
  omega
 ·unfold Builtin.Str.tooLong
  exact decide_eq_false (by have:sizeLine=2 ^ 24:=rfl; omega)
 ·have e0:(List.replicate n.toNat z.cps).foldl (· ++ ·) #[]=(List.replicate n.toNat z.cps.toList).flatten.toArray:=by
   have:=oY z.cps.toList n.toNat []
   simpa using this
  by_cases hn:n < 1
  ·rw [if_pos hn]
   refine ⟨by decide,?_⟩
   have e:kn z n=Str.empty:=by
    have:n.toNat=0:=by omega
    unfold kn; rw [this]; rfl
   rw [e] at q
   exact ⟨.str _,H,I.tok _,⟨_,rfl⟩,q⟩
  ·rw [if_neg hn]
   by_cases hb:(n == 1 || z.length == 0)=true
   ·rw [if_pos hb]
    have e:kn z n=z:=by
     unfold kn
     rcases Bool.or_eq_true_iff.mp hb with hb | hb
     ·have:n=1:=by simpa using hb
      subst this
      simp
     ·have hl:z.cps.size=0:=(by simpa using hb:z.length=0)
      have:z.cps=#[]:=Array.eq_empty_of_size_eq_zero hl
      cases z
      simp only at this
      subst this
      simp
    rw [e] at q
    exact ⟨.str z,H,I,⟨t,rfl⟩,q⟩
   ·rw [if_neg hb,e0]
    refine ⟨?_,⟨.str _,H,I.tok _,⟨_,rfl⟩,q⟩⟩
    show ((List.replicate n.toNat z.cps.toList).flatten.toArray).size≤sizeLine
    rw [List.size_toArray,zq,Array.length_toList,Nat.mul_comm]
    exact hz
end
end L2
namespace L2.Cu
open PySem PySem.Spec PyProof.Rows
section
variable {X:Cx}{a b e:Expr}{pos apos cpos spos dpos pos':Pos}{f g:DE→Option D}
theorem PE.or {e:Expr}{t t':TE} (h:PE X e t) (h':PE X e t'):PE X e (fun σ H Q=>t σ H Q∨t' σ H Q):=fun pins s σ H Q I q=>q.elim (h pins s σ H Q I) (h' pins s σ H Q I)
theorem PT.or {e:Expr}{t t':TT} (h:PT X e t) (h':PT X e t'):PT X e (fun σ H Q=>t σ H Q∨t' σ H Q):=fun pins s σ H Q I q=>q.elim (h pins s σ H Q I) (h' pins s σ H Q I)
noncomputable def pE (x y:D):Option D:=match x,y with
 | .str z,.int n=>if 0≤n∧n < 2 ^ 20∧z.length * n.toNat≤sizeLine then some (.str (kn z n)) else none
 | x,y=>wX x y
theorem yQ:dP .V (fun x y H Q=>(rI (fun i j=>Builtin.Int.intBits i≤2 ^ 20∧Builtin.Int.intBits j≤2 ^ 20) fun i j=>.int (i * j)) x y H Q∨∃ z n,x=V.str z∧y=V.int n∧0≤n∧n < 2 ^ 20∧z.length * n.toNat≤sizeLine∧Q (.str (kn z n)) H) pE:=fun F H v w x y d Q s rx ry h q=>by
 have onI:wX x y=some d→(rI (fun i j=>Builtin.Int.intBits i≤2 ^ 20∧Builtin.Int.intBits j≤2 ^ 20) fun i j=>V.int (i * j)) v w H Q:=fun h=>A5 F H v w x y d Q s rx ry h q
 cases x with
 | str z =>
  cases y with
  | int n =>
   have h':(if 0≤n∧n < 2 ^ 20∧z.length * n.toNat≤sizeLine then some (D.str (kn z n)) else none)=some d:=h
   split at h'
   ·rename_i hc
    cases h'
    exact .inr ⟨z,n,rx.str,ry.int,hc.1,hc.2.1,hc.2.2,q _ F H (Ext.refl s) (.str _)⟩
   ·cases h'
  | _=>exact .inl (onI h)
 | _=>exact .inl (onI h)
theorem sT (ha:Ev X .O a f) (hb:Ev X .O b g):Ev X .V (.BinOp a .Mult b pos) (bin pE f g):=jg (OpR.or zj qP) yQ ha hb
noncomputable def iD (kvs:List (Key×D)) (k:Key) (v:D):List (Key×D):=if (kvs.any fun kv=>decide (kv.1=k))=true then kvs.map (fun kv=>if kv.1=k then (kv.1,v) else kv) else kvs ++ [(k,v)]
theorem RepK.any {F:Hp}{k:Key}:∀ {vs:List (Key×V)} {ds:List (Key×D)},RepK F vs ds→(vs.any fun kv=>decide (kv.1=k))=ds.any fun kv=>decide (kv.1=k)
 := fun r=>by
  cases r with
  | nil=>rfl
  | cons _ t=>rw [List.any_cons,List.any_cons,RepK.any t]
theorem RepK.map1 {F:Hp}{k:Key}{v:V}{d:D} (r:Rep F v d):∀ {vs:List (Key×V)} {ds:List (Key×D)},RepK F vs ds→RepK F (vs.map (fun kv=>if kv.1=k then (kv.1,v) else kv)) (ds.map (fun kv=>if kv.1=k then (kv.1,d) else kv))
 := fun q=>by
  cases q with
  | nil=>exact .nil
  | @cons k' v' d' vs ds r' t =>
   rw [Eo,Eo]
   by_cases e:k'=k
   ·rw [if_pos e,if_pos e]; exact .cons r (RepK.map1 r t)
   ·rw [if_neg e,if_neg e]; exact .cons r' (RepK.map1 r t)
theorem RepK.snoc {F:Hp}{k:Key}{v:V}{d:D} (r:Rep F v d):∀ {vs:List (Key×V)} {ds:List (Key×D)},RepK F vs ds→RepK F (vs ++ [(k,v)]) (ds ++ [(k,d)])
 := fun q=>by
  cases q with
  | nil=>exact .cons r .nil
  | cons r' t=>exact .cons r' (RepK.snoc r t)
theorem RepK.put {F:Hp}{k:Key}{v:V}{d:D} (r:Rep F v d) {vs:List (Key×V)} {ds:List (Key×D)} (h:RepK F vs ds):RepK F (eJ vs k v) (iD ds k d):=by
 unfold eJ iD
 rw [h.any]
 split
 ·exact h.map1 r
 ·exact h.snoc r
noncomputable def fj (i:Nat) (fk fv:DE→Option D) (E:DE):Option Out:=match E[i]? with
 | some (.own (.dic kvs))=>(fk E).bind fun x=>(bT x).bind fun k=>(fv E).bind fun v=>if kvs.length < sizeLine then some (.nx (E.set i (.own (.dic (iD kvs k v))))) else none
 | _=>none
theorem jh (hu:X.A.units + 64 < cLine) {i:Nat}{o:Expr} (ho:PE X o (fT i)) (ha:Ev X .V a f) (hb:Ev X .V b g) (hbase:attributeBase o "update" X.env (eval o X.env)=eval o X.env:=by rfl)
  (hfew:((backTo cpos (starEach [.Dict [some a] [b] dpos] X.env)).all (fun x => !x.1) && (backToKw cpos (keywordEach [] X.env)).all (fun x=>x.1.isSome) && decide (([.Dict [some a] [b] dpos]:List Expr).length + ([]:List Keyword).length + (if ([]:List Keyword).isEmpty then 0 else 1) < 30))=true:=by rfl)
  (hline:(apos.endLine == cpos.line)=true:=by rfl) (hs:swapsWith (.Call (.Attribute o "update" apos) [.Dict [some a] [b] dpos] [] cpos) none spos.line X.env=pure false:=by rfl) :
  Es X (.Expr (.Call (.Attribute o "update" apos) [.Dict [some a] [b] dpos] [] cpos) spos) (fj i f g) :=
 PS.by (fC (sw PySem.F.plainAttrs_dict PySem.F.slot_dict_update PySem.F.type_dict_update uH ho (c_ (zH (pos:=dpos) ha hb).h gg) hbase hfew hline rfl rfl) hs) fun Z σ H zz138_0=>by
  obtain ⟨B,F,E,r,k,q,w⟩:=zz138_0
  unfold fj at q
  split at q
  ·rename_i kvs hd
   cases hf:f E with
   | none=>simp [hf] at q
   | some x =>
    cases hk:bT x with
    | none=>simp [hf,hk] at q
    | some ky =>
     cases hg:g E with
     | none=>simp [hf,hk,hg] at q
     | some y =>
      simp only [hf,hk,hg,Ef] at q
      split at q
      ·rename_i hz
       cases q
       obtain ⟨p,vs,h1,h2,h3,h4⟩:=gF k hd
       refine ⟨.ref p,h1,.inr (.inr (.inl ⟨rfl,.inl ⟨vs,h2⟩⟩)),B,F,E,.dic [(ky,y)],k,by simp [xZ,hf,hk,hg],fun v F' H' x' rv=>?_⟩
       obtain ⟨c,o',rfl,hc0,hc,hcF,hor⟩:=rv
       cases o' with
       | dK ws =>
        cases (show RepK F' ws [(ky,y)] from hor) with
        | @cons _ u _ _ _ ru tl =>
         cases tl
         refine ⟨p,c,vs,[(ky,u)],rfl,rfl,fun z=>?_,x'.same _ _ h2,hc,by rw [h4.length]; exact hz,?_⟩
         ·rw [z,hc0] at h2; cases h2
         ·have z:=(k.ext x').rewrite hd h1 (o':=.dK (eJ vs ky u)) (d':=.dic (iD kvs ky y)) ((h4.mono x'.fr).put ru)
          exact w σ F' _ z x'.fr
       | _=>exact False.elim hor
      ·cases q
  ·cases q
theorem nP (hu:X.A.units + 64 < cLine) {i:Nat}{o:Expr} (ho:PE X o (fT i)) (ha:Ev X .V a f) (hb:Ev X .V b g) (hs:swapsWith b (some (.Subscript o a pos')) pos.line X.env=pure false:=by rfl) :
  Es X (.Assign [.Subscript o a pos'] b pos) (fj i f g):=PS.by (sk (ib hu) ho ha.h hb.h hs) fun Z σ H zz139_0=>by
 obtain ⟨B,F,E,r,k,q,w⟩:=zz139_0
 unfold fj at q
 split at q
 ·rename_i kvs hd
  cases hf:f E with
  | none=>simp [hf] at q
  | some x =>
   cases hk:bT x with
   | none=>simp [hf,hk] at q
   | some ky =>
    cases hg:g E with
    | none=>simp [hf,hk,hg] at q
    | some y =>
     simp only [hf,hk,hg,Ef] at q
     split at q
     ·rename_i hz
      cases q
      obtain ⟨p,vs,h1,h2,h3,h4⟩:=gF k hd
      refine ⟨B,F,E,y,k,hg,fun v F1 H1 x1 r1=>⟨.ref p,h1,B,F1,E,x,k.ext x1,hf,fun u F2 H2 x2 r2=>?_⟩⟩
      have ek:=cQ (F:=F2) (H:=H2) hk (.inl r2)
      subst ek
      refine ⟨p,_,rfl,vD.k (x2.same _ _ (x1.same _ _ h2)) (by rw [h4.length]; exact hz),?_⟩
      have z:=((k.ext x1).ext x2).rewrite hd h1 (o':=.dK (eJ vs ky v)) (d':=.dic (iD kvs ky y)) ((h4.mono (x1.trans x2).fr).put (r1.mono x2.fr))
      exact w σ F2 _ z (x1.trans x2).fr
     ·cases q
 ·cases q
noncomputable def ixE (x y:D):Option D:=match x with
 | .dic kvs=>(bT y).bind fun k=>cF kvs k
 | x=>ixD x y
theorem a6 (hu:X.A.units + 64 < cLine) (ha:Ev X .O a f) (hb:Ev X .O b g) (hs:tF b):Ev X .V (.Subscript a b pos) (bin ixE f g) :=
 PE.by (PE.or (Da BK ha.h hb.h hs) (su (ib hu) ha.h hb.h hs)) fun σ H Q h=>by
  obtain ⟨B,F,E,d,k,q,w⟩:=h
  have q0:=q
  unfold bin at q
  cases hf:f E with
  | none=>rw [hf] at q; cases q
  | some x =>
   rw [hf] at q
   cases hg:g E with
   | none=>rw [hg] at q; cases q
   | some y =>
    rw [hg] at q
    have seq:ixD x y=some d→tOp (rIx X.K) (tM .O f) (tM .O g) σ H Q:=fun hq=>fc (m:=.V) CV σ H Q ⟨B,F,E,d,k,by unfold bin; rw [hf,hg]; exact hq,w⟩
    cases x with
    | dic kvs =>
     right
     have q':(bT y).bind (fun k=>cF kvs k)=some d:=q
     cases hk:bT y with
     | none=>rw [hk] at q'; cases q'
     | some ky =>
      rw [hk] at q'
      have q2:cF kvs ky=some d:=q'
      refine ⟨B,F,E,_,k,hf,fun v F1 H1 x1 r1=>⟨B,F1,E,y,k.ext x1,hg,fun u F2 H2 x2 r2=>?_⟩⟩
      obtain ⟨p,vs,rfl,hp,rk⟩:=OB.dic x1.sub r1
      have eu:u=kV ky:=cQ hk r2
      obtain ⟨v',e',r'⟩:=(RepK.val (k:=ky) (rk.mono x2.fr)).1 d q2
      refine ⟨p,v',rfl,?_,w v' F2 H2 (x1.trans x2) r'⟩
      rw [eu,← e']
      exact jV (qK x2.same hp)
    | _=>exact .inl (seq q)
noncomputable def inE (x y:D):Option D:=match y with
 | .dic kvs=>(bT x).map fun k=>.bl (cF kvs k).isSome
 | y=>inO x y
noncomputable def uD (x y:D):Option D:=match y with
 | .dic kvs=>(bT x).map fun k=>.bl (!(cF kvs k).isSome)
 | y=>wS x y
theorem kN {F:Hp}{vs:List (Key×V)} {ds:List (Key×D)} {k:Key} (r:RepK F vs ds):(c6 vs k).isSome=(cF ds k).isSome:=by
 obtain ⟨h1,h2⟩:=RepK.val (k:=k) r
 cases h:cF ds k with
 | some d=>obtain ⟨v,e,_⟩:=h1 d h; rw [e]; rfl
 | none=>rw [h2 h]; rfl
theorem xv {K:PySem.W.Frag} (σ:St) (H:Hp) (Q:VK) (h:tM .V (bin inE f g) σ H Q):tOp (fun x y H Q=>(∃ i j,x=V.str i∧y=V.str j∧Q (.bl (!(Builtin.Str.occurrences j i 0 j.length 1).isEmpty)) H)∨rIn K false x y H Q) (tM .O f) (tM .O g) σ H Q∨CI (tM .O f) (tM .O g) σ H Q:=by
 obtain ⟨B,F,E,d,k,q,w⟩:=h
 unfold bin at q
 cases hf:f E with
 | none=>rw [hf] at q; cases q
 | some x =>
  rw [hf] at q
  cases hg:g E with
  | none=>rw [hg] at q; cases q
  | some y =>
   rw [hg] at q
   have seq:inO x y=some d→tOp (fun x y H Q=>(∃ i j,x=V.str i∧y=V.str j∧Q (.bl (!(Builtin.Str.occurrences j i 0 j.length 1).isEmpty)) H)∨rIn K false x y H Q) (tM .O f) (tM .O g) σ H Q:=fun hq=>fc (m:=.V) CW σ H Q ⟨B,F,E,d,k,by unfold bin; rw [hf,hg]; exact hq,w⟩
   cases y with
   | dic kvs =>
    right
    have q':(bT x).map (fun k=>D.bl (cF kvs k).isSome)=some d:=q
    cases hk:bT x with
    | none=>rw [hk] at q'; cases q'
    | some ky =>
     rw [hk] at q'
     cases q'
     refine ⟨B,F,E,x,k,hf,fun v F1 H1 x1 r1=>⟨B,F1,E,_,k.ext x1,hg,fun u F2 H2 x2 r2=>?_⟩⟩
     obtain ⟨p,vs,rfl,hp,rk⟩:=OB.dic x2.sub r2
     have eu:v=kV ky:=cQ hk r1
     refine ⟨p,c6 vs ky,rfl,by rw [eu]; exact jV hp,?_⟩
     rw [kN rk]
     exact w _ F2 H2 (x1.trans x2) (.bl _)
   | _=>exact .inl (seq q)
theorem uC {K:PySem.W.Frag} (σ:St) (H:Hp) (Q:VK) (h:tM .V (bin uD f g) σ H Q):tOp (fun x y H Q=>(∃ i j,x=V.str i∧y=V.str j∧Q (.bl (!(!(Builtin.Str.occurrences j i 0 j.length 1).isEmpty))) H)∨rIn K true x y H Q) (tM .O f) (tM .O g) σ H Q∨se (tM .O f) (tM .O g) σ H Q:=by
 obtain ⟨B,F,E,d,k,q,w⟩:=h
 unfold bin at q
 cases hf:f E with
 | none=>rw [hf] at q; cases q
 | some x =>
  rw [hf] at q
  cases hg:g E with
  | none=>rw [hg] at q; cases q
  | some y =>
   rw [hg] at q
   have seq:wS x y=some d→tOp (fun x y H Q=>(∃ i j,x=V.str i∧y=V.str j∧Q (.bl (!(!(Builtin.Str.occurrences j i 0 j.length 1).isEmpty))) H)∨rIn K true x y H Q) (tM .O f) (tM .O g) σ H Q:=fun hq=>fc (m:=.V) A3 σ H Q ⟨B,F,E,d,k,by unfold bin; rw [hf,hg]; exact hq,w⟩
   cases y with
   | dic kvs =>
    right
    have q':(bT x).map (fun k=>D.bl (!(cF kvs k).isSome))=some d:=q
    cases hk:bT x with
    | none=>rw [hk] at q'; cases q'
    | some ky =>
     rw [hk] at q'
     cases q'
     refine ⟨B,F,E,x,k,hf,fun v F1 H1 x1 r1=>⟨B,F1,E,_,k.ext x1,hg,fun u F2 H2 x2 r2=>?_⟩⟩
     obtain ⟨p,vs,rfl,hp,rk⟩:=OB.dic x2.sub r2
     have eu:v=kV ky:=cQ hk r1
     refine ⟨p,c6 vs ky,rfl,by rw [eu]; exact jV hp,?_⟩
     rw [kN rk]
     exact w _ F2 H2 (x1.trans x2) (.bl _)
   | _=>exact .inl (seq q)
theorem B0 (hu:X.A.units + 64 < cLine) (ha:Ev X .O a f) (hb:Ev X .O b g) (hm:behindInMarks .In b=false):Ev X .V (.Compare a [.In] [b] pos) (bin inE f g) :=
 PE.by (PE.or (sv (OpR.or uu uv) ha.h hb.h hm) (Bo (Bq (ib hu) ha.h hb.h) hm)) xv
theorem zI (hu:X.A.units + 64 < cLine) (ha:Ev X .O a f) (hb:Ev X .O b g) (hm:behindInMarks .NotIn b=false):Et X (.Compare a [.NotIn] [b] pos) (tst (bin uD f g)) :=
 PT.by (PT.or (na (OpR.or ni nj) ha.h hb.h hm) (Be (uo (ib hu) ha.h hb.h) hm)) fun σ H Q q=>uC σ H _ (iu σ H Q q)
noncomputable def aV (x:D):Option D:=match x with
 | .dic kvs=>some (.int kvs.length)
 | x=>uO x
theorem dj.or {f:Value}{r r':List V→Hp→VK→Prop} (h:dj X f r) (h':dj X f r'):dj X f (fun xs H Q=>r xs H Q∨r' xs H Q):=fun pins s σ H xs us Q I rv q=>q.elim (h pins s σ H xs us Q I rv) (h' pins s σ H xs us Q I rv)
theorem yR {K:PySem.W.Frag}:lE .V (fun xs H Q=>(∃ x n,xs=[x]∧Cm K x H n∧Q (.int n) H)∨∃ a kvs,xs=[V.ref a]∧Rd H a (.dK kvs)∧Q (.int kvs.length) H) aV:=fun F H v x d Q s rx h q=>by
 cases x with
 | dic kvs =>
  cases Option.some.inj h
  obtain ⟨p,vs,rfl,hp,rk⟩:=OB.dic s rx
  refine .inr ⟨p,vs,rfl,hp,?_⟩
  rw [rk.length]
  exact q _ F H (Ext.refl s) (.int _)
 | _=>exact .inl (A8 F H v _ d Q s rx h q)
theorem vq:dj X (.builtin "len") (fun xs H Q=>∃ a kvs,xs=[V.ref a]∧Rd H a (.dK kvs)∧Q (.int kvs.length) H):=by
 intro pins s σ H xs us Q I r h
 obtain ⟨a,kvs,rfl,ha,q⟩:=h
 obtain ⟨u,rfl,ru⟩:=jZ r
 cases ru
 exact DF I ha fun t s' I'=>⟨.int kvs.length,H,I',⟨t,rfl⟩,q⟩
theorem aR {p:Pos} (hg:Gl X "len") (hm:X.mg "len" = none) (ha:Ev X .O e f) (he:aO e=true:=by rfl):Ev X .V (.Call (.Name "len" p) [e] [] pos) (un aV f) :=
 nN (dj.or yc vq) yR hg hm PySem.boot_len ha (by decide) (by decide) he
noncomputable def lr:List (Key×D)→Option (List Str)
 | []=>some []
 | (.inr x,_) :: r=>(lr r).map fun xs=>x :: xs
 | _=>none
noncomputable def o3:List V→Hp→VK→Prop:=fun xs H Q=>∃ p kvs ss,xs=[.ref p]∧Rd H p (.dK kvs)∧kvs.map (·.1)=ss.map (Sum.inr:Str→Key)∧ss.length < 64∧∀ l,H l=none→Q (.ref l) (upd H l (.lst ((b7 ss).map V.str)))
theorem mi:∀ {ds:List (Key×D)} {ss:List Str},lr ds=some ss→ds.map (·.1)=ss.map (Sum.inr:Str→Key)
 | [],ss,h=>by cases h; rfl
 | (.inr x,d) :: r,ss,h=>by
  unfold lr at h
  cases hr:lr r with
  | none=>rw [hr] at h; cases h
  | some xs=>rw [hr] at h; cases h; rw [Eo,mi hr]; rfl
theorem RepK.keys {F:Hp}:∀ {vs:List (Key×V)} {ds:List (Key×D)},RepK F vs ds→vs.map (·.1)=ds.map (·.1)
 := fun r=>by
  cases r with
  | nil=>rfl
  | cons _ t=>rw [Eo,Eo,RepK.keys t]
end
end L2.Cu
namespace L2
open PySem PySem.Spec PyProof.Rows
theorem vh {prog:Program}{w:World}{A:Around}{E:Value→Shared→Prop}{s:Shared}{d:Addr}{kvs:List (Key×Value)} {ep:Nat}{Pv:List Value→Prop}{Q:Value→Shared→Prop} (lo:(d == sysModules)=false) (hm:s.heap.DictAt (aL prog w) d kvs ep) (hz:kvs.length≤sizeLine)
  (hP:∀ vs:List Value,vs.length=kvs.length→(∀ (i:Nat) v,vs[i]? = some v→∃ k x,kvs[i]? = some (k,x)∧(aL prog w).is k v=true)→Pv vs) (h:∀ itv s1,tz prog w s d Pv itv s1→Q itv s1):wpAny (model prog w) A (pyIter (.ref d)) Q E s:=by
 refine wpAny_pyIter_dict lo hm (h _ _ ⟨_,[s.heap.objs.size,d],kvs.length,_,_,_,s.drawn,rfl,rfl,fun b o e=>Heap.get?_push_of_some _ e,fun b hb=>?_,Nat.le_refl _,fun A hA=>Walks.dictKeys (knd:=aL prog w) hA _ d (Nat.ne_of_lt hm.lt_size) kvs ep,⟨⟨_,Heap.get?_push_size _ rfl,rfl,rfl⟩,hm.push _⟩,hz,fun acc hacc=>?_⟩)
 ·rcases List.mem_cons.mp hb with rfl | hb
  ·exact .inr (Nat.le_refl _)
  ·exact .inl (List.mem_singleton.mp hb)
 ·exact hP _ (by rw [Array.length_toList]; exact hacc.1) fun i v e=>hacc.2 i v (by rw [← Array.getElem?_toList]; exact e)
theorem lN {P:Program}{w:World}:∀ {ss:List Str}{kvs:List (Key×Value)} {vs:List Value},kvs.map (·.1)=ss.map (Sum.inr:Str→Key)→vs.length=kvs.length→(∀ (i:Nat) v,vs[i]? = some v→∃ k x,kvs[i]? = some (k,x)∧(aL P w).is k v=true)→StrsAre vs ss
 | [],kvs,vs,hk,hl,h=>by
  have e1:kvs=[]:=List.map_eq_nil_iff.mp hk
  subst e1
  have e2:vs=[]:=List.length_eq_zero_iff.mp hl
  subst e2
  exact .nil
 | x :: ss,[],vs,hk,hl,h=>by simp at hk
 | x :: ss,(k,y) :: kvs,[],hk,hl,h=>by simp at hl
 | x :: ss,(k,y) :: kvs,v :: vs,hk,hl,h=>by
  rw [Eo,Eo] at hk
  injection hk with hk1 hk2
  obtain ⟨k',x',e,hi⟩:=h 0 v rfl
  cases e
  have hk1':k=Sum.inr x:=hk1
  subst hk1'
  rcases bA (show gT (Sum.inr x) v=true from hi) with ⟨i,t,e,_⟩ | ⟨z,t,e,rfl⟩ | ⟨e,_⟩
  ·cases e
  rotate_left
  ·cases e
  ·cases e
   exact .cons x t (lN hk2 (by simpa using hl) fun i v hv=>by simpa using h (i + 1) v (by simpa using hv))
theorem nV {X:Cx} (hc:X.calm=true):dj X (.builtin "sorted") Cu.o3:=by
 intro pins s σ H xs us Q I r h
 obtain ⟨p,kvs,ss,rfl,hp,hk,h64,q⟩:=h
 obtain ⟨u,rfl,ru⟩:=jZ r
 cases ru
 obtain ⟨z,hd,vs,rel,dd⟩:=gr I.hok hp
 obtain ⟨ep,hat⟩:=dd.dictAt
 have hz:ss.length≤sizeLine:=Nat.le_trans (Nat.le_of_lt h64) (by decide)
 have hks:=rel.keys.symm.trans hk
 obtain ⟨o,es,ho,hx,_⟩:=id hat
 refine fX (ss0:=ss) h64 (fun R hR=>?_) fun D h' d' tk its' e kp hD hl hS'=>?_
 ·refine jq (T := "dict") (Pv:=fun us=>StrsAre us ss) (show X.A.in1.handled=none from I.ok.hd hc) ho hx.1 (by decide) (by decide) (fun A E s' Q hT hq=>PySem.W.kdl_hint_dict hT hq) (fun A E s' Q kp hq=>vh hd (hat.at' kp) (by rw [← rel.length]; exact z) (fun us h1 h2=>lN hks h1 h2) hq) fun h' d' tk us kp hsz hS=>hR h' d' tk us ss kp hsz hS (.refl _)
 ·exact ⟨.ref D,_,I.laidS kp hD hl hS' (by rw [(bg ss).length_eq]; exact hz),rfl,q D (I.hok.fresh hD)⟩
end L2
namespace L2.Cu
open PySem PySem.Spec PyProof.Rows
section
variable {X:Cx}{a b e:Expr}{p pos:Pos}{f g:DE→Option D}
noncomputable def eS (x:D):Option D:=match x with
 | .dic kvs=>(lr kvs).bind fun ss=>if ss.length < 64 then some (.lst ((b7 ss).map D.str)) else none
 | x=>vW x
theorem wc {K:PySem.W.Frag}:lE .F (fun xs H Q=>m_ K xs H Q∨o3 xs H Q) eS:=fun F H v x d Q s rx h q=>by
 cases x with
 | dic kvs =>
  have h':(lr kvs).bind (fun ss=>if ss.length < 64 then some (D.lst ((b7 ss).map D.str)) else none)=some d:=h
  cases hk:lr kvs with
  | none=>rw [hk] at h'; cases h'
  | some ss =>
   simp only [hk,Ef] at h'
   split at h'
   ·rename_i h64
    cases h'
    obtain ⟨c,vs,rfl,hc,rk⟩:=OB.dic s rx
    exact .inr ⟨c,vs,ss,rfl,hc,rk.keys.trans (mi hk),h64,fun l hl=>q _ F _ (Ext.lay s hl) ⟨l,_,rfl,hl,ap,nofr s hl,Reps.ofStrs _⟩⟩
   ·cases h'
 | _=>exact .inl (ue F H v _ d Q s rx h q)
theorem kR (hc:X.calm=true) (hg:Gl X "sorted") (hm:X.mg "sorted" = none) (hv:bootBuiltins "sorted" = some (.builtin "sorted")) (ha:Ev X .O e f) (he:aO e=true:=by rfl):Ev X .F (.Call (.Name "sorted" p) [e] [] pos) (un eS f) :=
 nN (dj.or qc (nV hc)) wc hg hm hv ha (by decide) (by decide) he
end
end L2.Cu
namespace L2
open PySem PySem.Spec PyProof.Rows
noncomputable def RIt (b:Bool) (h:Heap) (it a:Addr) (i:Nat):Prop:=match b with
 | true=>h.IsListIter it a i
 | false=>h.IsTupleIter it a i
noncomputable def RSq (b:Bool) (h:Heap) (a:Addr) (vs:Array Value):Prop:=match b with
 | true=>h.IsList a vs
 | false=>h.IsTuple a vs
theorem RIt.keep {b:Bool}{h h':Heap}{it a:Addr}{i:Nat} (x:RIt b h it a i) (k:∀ o,h.get? it=some o→h'.get? it=some o):RIt b h' it a i:=by
 cases b <;> exact let ⟨o,e,r⟩:=x; ⟨o,k o e,r⟩
theorem RSq.keep {b:Bool}{h h':Heap}{a:Addr}{vs:Array Value} (x:RSq b h a vs) (k:∀ o,h.get? a=some o→h'.get? a=some o):RSq b h' a vs:=by
 cases b <;> exact let ⟨o,e,r⟩:=x; ⟨o,k o e,r⟩
theorem RIt.obj {b:Bool}{h:Heap}{it a:Addr}{i:Nat} (x:RIt b h it a i):∃ o,h.get? it=some o∧∃ vs,o.data=.fields vs:=by
 cases b <;> exact let ⟨o,e,_,r⟩:=x; ⟨o,e,_,r⟩
section
variable {prog:Program}{w:World}{A:Around}{E:Value→Shared→Prop}{s:Shared}
theorem vQ {it t:Addr}{i:Nat}{vs:Array Value}{x:Value}{Q:Value→Shared→Prop} (st:s.heap.IsTupleIter it t i) (ht:s.heap.IsTuple t vs) (hx:vs[i]? = some x)
  (q:∀ h',h'.IsTupleIter it t (i + 1)→Heap.SameBut it s.heap h'→Q x { s with heap:=h' }):wpAny (model prog w) A (Builtin.SmallTypes.nextOf (.ref it)) Q E s:=by
 obtain ⟨o,ho,hc,hd⟩:=id st
 obtain ⟨p,hp,_,n,hn⟩:=ht
 unfold Builtin.SmallTypes.nextOf
 refine wpAny_bind (wpAny_callSpecial?_slot (name:=Str.ofString "__next__") st.typeIs F.slot_tuple_iterator_next (wpAny_call_entry F.slot_tuple_iterator_next st.typeIs F.entry_tuple_iterator_next ?_ (F.args_tuple_iterator_next_1 _)))
 show wpAny _ _ (field (.ref it) 0 >>= _) _ _ s
 refine wpAny_bind (wpAny_field ho hd (x:=.ref t) rfl ?_)
 show wpAny _ _ (if (Value.ref t == Value.none)=true then _ else field (.ref it) 1 >>= _) _ _ s
 rw [if_neg (show ¬ (Value.ref t == Value.none)=true from Bool.false_ne_true)]
 refine wpAny_bind (wpAny_field ho hd (x:=.int i 0) rfl (wpAny_bind (wpAny_seqItems hp hn ?_)))
 simp only [Int.toNat_natCast,hx]
 exact wpAny_bind (wpAny_setField ho hd (by simp) (wpAny_pure ⟨x,rfl,wpAny_pure (q _ ⟨_,Heap.get?_update_self _ ho (Obj.isFreed_of_fields (Obj.data_mapFields hd _)),(Obj.cls_mapFields ..).trans hc,by rw [Obj.data_mapFields hd]; simp [rawInt]⟩ (Heap.SameBut.update ..))⟩))
theorem yB {it t:Addr}{i:Nat}{vs:Array Value}{Q:Value→Shared→Prop} (hh:A.handled=none) (st:s.heap.IsTupleIter it t i) (ht:s.heap.IsTuple t vs) (hx:vs[i]? = none)
  (q:∀ h' e,Heap.ExtBut it s.heap h'→(∃ o,h'.get? e=some o∧o.cls=.type "StopIteration")→E (.ref e) { s with heap:=h' }):wpAny (model prog w) A (Builtin.SmallTypes.nextOf (.ref it)) Q E s:=by
 obtain ⟨o,ho,hc,hd⟩:=id st
 obtain ⟨p,hp,_,n,hn⟩:=ht
 unfold Builtin.SmallTypes.nextOf
 refine wpAny_bind (wpAny_callSpecial?_slot (name:=Str.ofString "__next__") st.typeIs F.slot_tuple_iterator_next (wpAny_call_entry F.slot_tuple_iterator_next st.typeIs F.entry_tuple_iterator_next ?_ (F.args_tuple_iterator_next_1 _)))
 show wpAny _ _ (field (.ref it) 0 >>= _) _ _ s
 refine wpAny_bind (wpAny_field ho hd (x:=.ref t) rfl ?_)
 show wpAny _ _ (if (Value.ref t == Value.none)=true then _ else field (.ref it) 1 >>= _) _ _ s
 rw [if_neg (show ¬ (Value.ref t == Value.none)=true from Bool.false_ne_true)]
 refine wpAny_bind (wpAny_field ho hd (x:=.int i 0) rfl (wpAny_bind (wpAny_seqItems hp hn ?_)))
 simp only [Int.toNat_natCast,hx]
 refine wpAny_bind (wpAny_rule (wpAny_bind (wpAny_setField ho hd (by simp) ?_)))
 show wpAny _ _ (newExc (.type "StopIteration") [] >>= _) _ _ _
 refine wpAny_bind ?_
 simp only [newExc,newTuple]
 refine wpAny_bind (wpAny_newObj_type (wpAny_bind (m:=firstArgMember _ _) (wpAny_of_eq (a:=Value.none) (by first | rfl | (simp only [firstArgMember]; rfl)) (wpAny_newObj_type ?_ (by size_fits)))) (by size_fits))
 simp only [raiseNew]
 refine wpAny_bind (wpAny_handled ?_)
 rw [show A.in1.handled=none from hh]
 exact wpAny_bind (wpAny_pure (wpAny_throw (q _ _ (((Heap.SameBut.update ..).extBut.push _).push _) ⟨_,Heap.get?_push_size _ rfl,rfl⟩)))
theorem oU {b:Bool}{it t:Addr}{i:Nat}{vs:Array Value}{x:Value}{Q:Value→Shared→Prop} (st:RIt b s.heap it t i) (ht:RSq b s.heap t vs) (hx:vs[i]? = some x)
  (q:∀ h',RIt b h' it t (i + 1)→Heap.SameBut it s.heap h'→Q x { s with heap:=h' }):wpAny (model prog w) A (Builtin.SmallTypes.nextOf (.ref it)) Q E s:=by
 cases b with
 | true=>exact wpAny_nextOf_list_item st ht hx q
 | false=>exact vQ st ht hx q
theorem sh {b:Bool}{it t:Addr}{i:Nat}{vs:Array Value}{Q:Value→Shared→Prop} (hh:A.handled=none) (st:RIt b s.heap it t i) (ht:RSq b s.heap t vs) (hx:vs[i]? = none)
  (q:∀ h' e,Heap.ExtBut it s.heap h'→(∃ o,h'.get? e=some o∧o.cls=.type "StopIteration")→E (.ref e) { s with heap:=h' }):wpAny (model prog w) A (Builtin.SmallTypes.nextOf (.ref it)) Q E s:=by
 cases b with
 | true=>exact wpAny_nextOf_list_end hh st ht hx q
 | false=>exact yB hh st ht hx q
noncomputable def bf (b:Bool) (a:Addr):Obj:=match b with
 | true=>{ cls:=.type "list_iterator",data:=.fields #[.ref a,.int 0 0] }
 | false=>{ cls:=.type "tuple_iterator",data:=.fields #[.ref a,.int 0 0] }
theorem gD {b:Bool}{a it:Addr}{h:Heap} (e:h.get? it=some (bf b a)):RIt b h it a 0:=by
 cases b <;> exact ⟨_,e,rfl,rfl⟩
theorem ju {b:Bool}{a:Addr}{vs:Array Value}{Q:Value→Shared→Prop} (h:RSq b s.heap a vs) (q:Q (.ref s.heap.objs.size) { s with heap:=s.heap.push (bf b a) }):wpAny (model prog w) A (pyIter (.ref a)) Q E s:=by
 cases b with
 | true=>exact wpAny_pyIter_list h q
 | false=>exact wpAny_pyIter_tuple h q
end
theorem b8 {a b:Nat} (h:a ≠ b):@Ne Addr a b:=h
structure ZSt (so:List (Bool×Addr)) (m:Nat) (f0:Value) (i:Nat→Nat) (ws:List Value) (h:Heap):Prop where
 its:∀ (k:Nat) (b:Bool) (a:Addr),so[k]? = some (b,a)→RIt b h (m + k) a (i k)
 ti:h.get? (m + so.length)=some { cls:=.type "tuple",data:=.seq ((List.range so.length).map fun k=>Value.ref (m + k)).toArray }
 to:h.get? (m + so.length + 1)=some { cls:=.type "tuple",data:=.seq ws.toArray }
 lw:ws.length=so.length
 z:IsZip h (m + so.length + 2) (m + so.length) (m + so.length + 1) f0
section
variable {prog:Program}{w:World}{A:Around}{E:Value→Shared→Prop}{s:Shared}
theorem yL {T:Addr}{ws:List Value}{x:Value}{k:Nat}{Q:Unit→Shared→Prop} (hn:ws.length≤sizeLine) (hT:s.heap.get? T=some { cls:=.type "tuple",data:=.seq ws.toArray })
  (h:∀ h',h'.get? T=some { cls:=.type "tuple",data:=.seq (ws.set k x).toArray }→Heap.SameBut T s.heap h'→Q () { s with heap:=h' }) :
  wpAny (model prog w) A (updateSeq T (·.setIfInBounds k x)) Q E s:=by
 refine wpAny_updateSeq hT rfl (h _ ?_ (Heap.SameBut.update ..)) (by simpa using hn) (by simp; omega)
 rw [Heap.get?_update_self _ hT rfl]
 simp [Obj.mapSeq]
theorem vZ {α:Type _} (xs ws:List α) (k:Nat) (x:α) (hx:xs[k]? = some x) (hk:k < ws.length):(xs.take k ++ ws.drop k).set k x=xs.take (k + 1) ++ ws.drop (k + 1):=by
 have hk':k < xs.length:=(List.getElem?_eq_some_iff.mp hx).1
 rw [List.set_append_right _ _ (by simp; omega)]
 have e:k - (xs.take k).length=0:=by simp; omega
 rw [e,List.drop_eq_getElem_cons hk,Ek,List.take_succ,hx]
 simp
theorem yv {so:List (Bool×Addr)} {m:Nat}{i K:Nat}{ws xs:List Value}{Q:Value→Shared→Prop} (hh:A.handled=none) (hn:so.length≤sizeLine) (h0:so ≠ []) (hlt:∀ p ∈ so,p.2 < m) (st:ZSt so m .none (fun _=>i) ws s.heap)
  (hl:xs.length=K) (hK:K≤so.length) (hv:∀ (k:Nat) (b:Bool) (a:Addr),so[k]? = some (b,a)→∃ vs,RSq b s.heap a vs∧(k < K→vs[i]? = xs[k]?)∧(k=K→vs[i]? = none))
  (hQ:K=so.length→∀ h',ZSt so m (rawInt s.heap.objs.size) (fun _=>i + 1) xs h'→h'.get? s.heap.objs.size=some { cls:=.type "tuple",data:=.seq xs.toArray }→h'.objs.size=s.heap.objs.size + 1 →
   (∀ (c:Nat) o,(c < m∨m + so.length + 2 < c)→s.heap.get? c=some o→h'.get? c=some o)→Q (.ref s.heap.objs.size) { s with heap:=h' })
  (hE:K < so.length→∀ h' e,(∀ (c:Nat) o,(c < m∨m + so.length + 2 < c)→s.heap.get? c=some o→h'.get? c=some o)→(∃ o,h'.get? e=some o∧o.cls=.type "StopIteration")→E (.ref e) { s with heap:=h' }) :
  wpAny (model prog w) A (Builtin.«zip.__next__» ⟨[.ref (m + so.length + 2)],[]⟩) (fun fin s'=>∃ v,fin=.done (.ret v)∧Q v s') E s:=by
 have hz:=st.z
 show wpAny _ _ (field (.ref _) 2 >>= _) _ _ _
 refine wpAny_bind (wpAny_field hz rfl (x:=.bool false) rfl ?_)
 show wpAny _ _ (field (.ref _) 3 >>= _) _ _ _
 refine wpAny_bind (wpAny_field hz rfl (x:=.ref (m + so.length)) rfl ?_)
 refine wpAny_bind (wpAny_seqItems st.ti rfl ?_)
 have he:((List.range so.length).map fun k=>Value.ref (m + k)).toArray.isEmpty=false:=by
  cases so with
  | nil=>exact absurd rfl h0
  | cons _ _=>simp
 simp only [he,Bool.false_eq_true,if_false]
 refine wpAny_bind ?_
 unfold Builtin.SmallTypes.ownedTupleIsFree
 refine wpAny_bind (wpAny_field hz rfl (x:=.none) rfl (wpAny_pure ?_))
 simp only [if_true]
 refine wpAny_bind (wpAny_rule ?_)
 refine wpAny_bind (wpAny_field hz rfl (x:=.ref (m + so.length + 1)) rfl ?_)
 refine wpAny_bind (wpAny_setField_rec hz (by simp) fun h₁ hz₁ hs₁=>?_)
 replace hz₁:IsZip h₁ (m + so.length + 2) (m + so.length) (m + so.length + 1) .ellipsis:=hz₁
 have k₁:∀ c o,c ≠ m + so.length + 2→s.heap.get? c=some o→h₁.get? c=some o:=fun c o hc e=>hs₁.extBut _ _ hc e
 refine wpAny_bind (wpAny_forIn_list _ (fun bO b s'=>∃ k h',k≤K∧bO=(((List.range so.length).map fun k=>Value.ref (m + k)).toArray.toList.zipIdx).drop k∧b=(none,())∧s'={ s with heap:=h' } ∧
  ZSt so m .ellipsis (fun j=>if j < k then i + 1 else i) (xs.take k ++ ws.drop k) h'∧h'.objs.size=s.heap.objs.size∧∀ (c:Nat) o,(c < m∨m + so.length + 2 < c)→s.heap.get? c=some o→h'.get? c=some o) _ ?_ ?_ _ _ ?_)
 ·intro x bO b s' hI
  refine Classical.byContradiction fun hno=>?_
  obtain ⟨k,h',hk,hr,hb,hs,Z,hz',kk⟩:=hI
  subst hb hs
  apply hno
  clear hno
  have hkn:k < so.length:=by
   have:=congrArg List.length hr
   simp at this
   omega
  have hx0:(((List.range so.length).map fun k=>Value.ref (m + k)).toArray.toList.zipIdx)[k]? = some x:=by
   have:=congrArg (fun l=>l[0]?) hr
   simpa using this.symm
  have hx1:x=(.ref (m + k),k):=by
   simp [List.getElem?_zipIdx,hkn] at hx0
   exact hx0.symm
  have hr1:bO=(((List.range so.length).map fun k=>Value.ref (m + k)).toArray.toList.zipIdx).drop (k + 1):=by
   have:=congrArg List.tail hr
   simpa [List.tail_drop] using this
  subst hx1
  obtain ⟨⟨b,a⟩,hba⟩:∃ p,so[k]? = some p:=⟨so[k],List.getElem?_eq_getElem hkn⟩
  have ham:(a:Nat) < m:=hlt (b,a) (List.mem_of_getElem? hba)
  obtain ⟨vs,r0,v1,v2⟩:=hv k b a hba
  have r1:RSq b h' a vs:=r0.keep fun o e=>kk a o (.inl ham) e
  have i1:RIt b h' (m + k) a i:=by have:=Z.its k b a hba; simpa using this
  refine wpAny_bind (wpAny_onRaise ?_)
  show wpAny _ _ (Builtin.SmallTypes.nextOf (.ref (m + k)) >>= _) _ _ _
  rcases Nat.lt_or_ge k K with hlk | hge
  ·have hxk:vs[i]? = some xs[k]:=by rw [v1 hlk]; exact List.getElem?_eq_getElem (by omega)
   refine wpAny_bind (oU (s:={ s with heap:=h' }) i1 r1 hxk fun h2 i2 s2=>wpAny_pure ?_)
   have t2:=s2.extBut _ _ (show m + so.length + 1 ≠ m + k by first | omega | exact b8 (by omega)) Z.to
   refine wpAny_bind (wpAny_seqItems t2 rfl ?_)
   refine wpAny_bind (yL (s:={ s with heap:=h2 }) (by rw [Z.lw]; exact hn) t2 fun h3 t3 s3=>?_)
   refine wpAny_bind (wpAny_letGo (wpAny_pure ?_))
   refine ⟨k + 1,h3,by omega,hr1,rfl,rfl,⟨?_,?_,?_,?_,?_⟩,?_,?_⟩
   ·intro j b' a' hj
    have hjn:j < so.length:=(List.getElem?_eq_some_iff.mp hj).1
    have up:∀ c o,c ≠ m + k→c ≠ m + so.length + 1→h'.get? c=some o→h3.get? c=some o:=fun c o c1 c2 e=>s3.extBut _ _ c2 (s2.extBut _ _ c1 e)
    by_cases ejk:j=k
    ·subst ejk
     rw [hba] at hj
     cases hj
     rw [if_pos (Nat.lt_succ_self _)]
     exact i2.keep fun o e=>s3.extBut _ _ (by first | omega | exact b8 (by omega)) e
    ·have q:=Z.its j b' a' hj
     have ee:(if j < k + 1 then i + 1 else i)=if j < k then i + 1 else i:=by
      by_cases h:j < k
      ·rw [if_pos h,if_pos (by omega)]
      ·rw [if_neg h,if_neg (by omega)]
     show RIt b' h3 (m + j) a' (if j < k + 1 then i + 1 else i)
     rw [ee]
     exact q.keep fun o e=>up _ o (by first | omega | exact b8 (by omega)) (by first | omega | exact b8 (by omega)) e
   ·exact s3.extBut _ _ (by first | omega | exact b8 (by omega)) (s2.extBut _ _ (by first | omega | exact b8 (by omega)) Z.ti)
   ·rw [← vZ xs ws k xs[k] (List.getElem?_eq_getElem (by omega)) (by rw [st.lw]; exact hkn)]
    exact t3
   ·have:=st.lw
    simp
    omega
   ·exact s3.extBut _ _ (by first | omega | exact b8 (by omega)) (s2.extBut _ _ (by first | omega | exact b8 (by omega)) Z.z)
   ·rw [s3.1,s2.1]; exact hz'
   ·exact fun c o hc e=>s3.extBut _ _ (by first | omega | exact b8 (by omega)) (s2.extBut _ _ (by first | omega | exact b8 (by omega)) (kk c o hc e))
  ·have hkK:k=K:=by omega
   refine wpAny_bind (sh (s:={ s with heap:=h' }) hh i1 r1 (v2 hkK) fun h2 e s2 he=>?_)
   obtain ⟨oe,hoe,hce⟩:=he
   have hz2:IsZip h2 (m + so.length + 2) (m + so.length) (m + so.length + 1) .ellipsis:=s2 _ _ (by first | omega | exact b8 (by omega)) Z.z
   have hez:e ≠ m + so.length + 2:=fun x=>by subst x; rw [hz2] at hoe; cases hoe; simp at hce
   exact wpAny_setField_rec (s:={ s with heap:=h2 }) hz2 (by simp) fun h3 _ s3=>hE (by omega) h3 e (fun c o hc x=>s3.extBut _ _ (by first | omega | exact b8 (by omega)) (s2 _ _ (by first | omega | exact b8 (by omega)) (kk c o hc x))) ⟨oe,s3.extBut _ _ hez hoe,hce⟩
 ·intro b s' hI
  refine Classical.byContradiction fun hno=>?_
  obtain ⟨k,h',hk,hr,hb,hs,Z,hz',kk⟩:=hI
  subst hb hs
  apply hno
  clear hno
  have hkn:so.length≤k:=by
   have:=congrArg List.length hr
   simp at this
   omega
  have hKn:K=so.length:=by omega
  have e1:xs.take k ++ ws.drop k=xs:=by rw [List.take_of_length_le (by omega),List.drop_eq_nil_of_le (by rw [st.lw]; exact hkn),List.append_nil]
  have e2:∀ (j:Nat) (b:Bool) (a:Addr),so[j]? = some (b,a)→RIt b h' (m + j) a (i + 1):=fun j b a hj=>by
   have hjn:j < so.length:=(List.getElem?_eq_some_iff.mp hj).1
   have:=Z.its j b a hj
   rwa [if_pos (show j < k by omega)] at this
  have t1:=Z.to
  rw [e1] at t1
  refine wpAny_bind (wpAny_seqItems t1 rfl ?_)
  refine wpAny_bind (wpAny_newTuple ?_ (by simp; omega))
  show wpAny _ _ (Builtin.SmallTypes.ownedTupleHandOut _ (.ref h'.objs.size) >>= _) _ _ _
  refine wpAny_bind ?_
  unfold Builtin.SmallTypes.ownedTupleHandOut
  have z3:=Heap.get?_push_of_some { cls:=.type "tuple",data:=.seq xs.toArray } Z.z
  refine wpAny_bind (wpAny_setField_rec (s:={ s with heap:=h'.push { cls:=.type "tuple",data:=.seq xs.toArray } }) z3 (by simp) fun h4 z4 s4=>?_)
  replace z4:IsZip h4 (m + so.length + 2) (m + so.length) (m + so.length + 1) (rawInt h'.objs.size):=z4
  refine wpAny_setField_rec (s:={ s with heap:=h4 }) z4 (by simp) fun h5 z5 s5=>?_
  replace z5:IsZip h5 (m + so.length + 2) (m + so.length) (m + so.length + 1) (rawInt h'.objs.size):=z5
  have up:∀ (c:Nat) o,c ≠ m + so.length + 2→h'.get? c=some o→h5.get? c=some o:=fun c o hc e=>s5.extBut _ _ hc (s4.extBut _ _ hc (Heap.get?_push_of_some _ e))
  have hzl:m + so.length + 2 < h'.objs.size:=Heap.lt_size Z.z
  have t5:=s5.extBut _ _ (show h'.objs.size ≠ m + so.length + 2 by first | omega | exact b8 (by omega)) (s4.extBut _ _ (show h'.objs.size ≠ m + so.length + 2 by first | omega | exact b8 (by omega)) (Heap.get?_push_size _ rfl))
  have z8:h5.objs.size=h'.objs.size + 1:=by rw [s5.1,s4.1,Heap.size_push]
  refine wpAny_pure ⟨_,rfl,?_⟩
  show Q (.ref h'.objs.size) _
  rw [hz'] at z5 t5 z8 ⊢
  exact hQ hKn h5 ⟨fun j b a hj=>(e2 j b a hj).keep fun o e=>by
   have hjn:j < so.length:=(List.getElem?_eq_some_iff.mp hj).1
   exact up _ o (by first | omega | exact b8 (by omega)) e,up _ _ (by first | omega | exact b8 (by omega)) Z.ti,up _ _ (by first | omega | exact b8 (by omega)) t1,by omega,z5⟩ (by simpa using t5) z8 fun c o hc e=>up c o (by first | omega | exact b8 (by omega)) (kk c o hc e)
 ·refine ⟨0,h₁,Nat.zero_le _,rfl,rfl,rfl,⟨?_,?_,?_,?_,?_⟩,hs₁.1,fun c o hc e=>k₁ c o (by first | omega | exact b8 (by omega)) e⟩
  ·intro j b a hj
   have hjn:j < so.length:=(List.getElem?_eq_some_iff.mp hj).1
   exact (st.its j b a hj).keep fun o e=>k₁ _ o (by first | omega | exact b8 (by omega)) e
  ·exact k₁ _ _ (by first | omega | exact b8 (by omega)) st.ti
  ·exact k₁ _ _ (by first | omega | exact b8 (by omega)) st.to
  ·exact st.lw
  ·exact hz₁
theorem Cp {so:List (Bool×Addr)} {m:Nat}{T:Addr}{i:Nat→Nat}{ws:List Value}{elts:List Expr}{x1}{pos:Pos}{Q:Unit→Shared→Prop} (st:ZSt so m (rawInt T) i ws s.heap)
  (q:∀ h',ZSt so m .none i ws h'→Heap.SameBut (m + so.length + 2) s.heap h'→Q () { s with heap:=h' }):wpAny (model prog w) A (letOwnedTupleGo (.Tuple elts x1 pos) (.ref (m + so.length + 2)) (.ref T)) Q E s :=
 wpAny_letOwnedTupleGo_zip st.z fun h' z' s'=>q h' ⟨fun j b a hj=>(st.its j b a hj).keep fun o e=>by
  have hjn:j < so.length:=(List.getElem?_eq_some_iff.mp hj).1
  exact s'.extBut _ _ (by first | omega | exact b8 (by omega)) e,s'.extBut _ _ (by first | omega | exact b8 (by omega)) st.ti,s'.extBut _ _ (by first | omega | exact b8 (by omega)) st.to,st.lw,z'⟩ s'
theorem rW {so:List (Bool×Addr)} {m:Nat}{i K:Nat}{ws xs:List Value}{Q:Option Value→Shared→Prop} (hh:A.handled=none) (hn:so.length≤sizeLine) (h0:so ≠ []) (hlt:∀ p ∈ so,p.2 < m) (st:ZSt so m .none (fun _=>i) ws s.heap)
  (hl:xs.length=K) (hK:K≤so.length) (hv:∀ (k:Nat) (b:Bool) (a:Addr),so[k]? = some (b,a)→∃ vs,RSq b s.heap a vs∧(k < K→vs[i]? = xs[k]?)∧(k=K→vs[i]? = none))
  (hQ:K=so.length→∀ h',ZSt so m (rawInt s.heap.objs.size) (fun _=>i + 1) xs h'→h'.get? s.heap.objs.size=some { cls:=.type "tuple",data:=.seq xs.toArray }→h'.objs.size=s.heap.objs.size + 1 →
   (∀ (c:Nat) o,(c < m∨m + so.length + 2 < c)→s.heap.get? c=some o→h'.get? c=some o)→Q (some (.ref s.heap.objs.size)) { s with heap:=h' })
  (hE:K < so.length→∀ h',(∀ (c:Nat) o,(c < m∨m + so.length + 2 < c)→s.heap.get? c=some o→h'.get? c=some o)→Q none { s with heap:=h' }) :
  wpAny (model prog w) A (pyNext (.ref (m + so.length + 2))) Q E s:=by
 have hT:s.TypeIs (.ref (m + so.length + 2)) "zip" := ⟨_,st.z,rfl⟩
 unfold pyNext
 refine wpAny_bind (wpAny_attempt (wpAny_callSpecial?_slot (name:=Str.ofString "__next__") hT F.slot_zip_next (wpAny_call_entry F.slot_zip_next hT F.entry_zip_next
  (yv (A:=A.in1) hh hn h0 hlt st hl hK hv (fun e h' a1 a2 a3 a4=>wpAny_pure (hQ e h' a1 a2 a3 a4)) fun e h' x kk hx=>?_) (F.args_zip_next_1 _))))
 obtain ⟨o,ho,hc⟩:=hx
 exact wpAny_bind (wpAny_isInstance (T := "StopIteration") (b:=true) ⟨o,ho,hc⟩ isSubtype_stop (wpAny_pure (hE e h' kk)))
end
noncomputable def SqB (K:PySem.W.Frag) (b:Bool) (H:Hp) (a:Addr) (xs:List V):Prop:=match b with
 | true=>SqL K H a xs
 | false=>SqT K H a xs
theorem Inv.sqB {X:Cx}{pins:List (Addr×Obj)} {σ:St}{H:Hp}{s:Shared}{b:Bool}{a:Addr}{xs:List V} (I:Inv X pins σ H s) (h:SqB X.K b H a xs):∃ its:List Value,aZ xs its∧RSq b s.heap a its.toArray:=by
 cases b with
 | true=>obtain ⟨its,r,p,_⟩:=I.list h; exact ⟨its,r,p.isList⟩
 | false=>obtain ⟨its,r,p,_⟩:=I.tuple h; exact ⟨its,r,p⟩
theorem Inv.sqB_inj {X:Cx}{pins:List (Addr×Obj)} {σ:St}{H:Hp}{s:Shared}{b:Bool}{a:Addr}{xs ys:List V} (I:Inv X pins σ H s) (h:SqB X.K b H a xs) (h':SqB X.K b H a ys):xs=ys:=by
 cases b with
 | true=>exact I.list_inj h h'
 | false=>exact I.tuple_inj h h'
theorem Inv.turnedN {X:Cx}{pins:List (Addr×Obj)} {σ:St}{H:Hp}{s:Shared}{h':Heap}{t':Nat}{fp:List Addr} (I:Inv X pins σ H s) (k:∀ b o,b ∉ fp→s.heap.get? b=some o→h'.get? b=some o) (hf:∀ b ∈ fp,gP X pins H b):Inv X pins σ H { s with heap:=h',toks:=t' }:=by
 have nit:∀ b u,H b=some u→b ∉ fp:=fun b u e z=>by rw [(hf b z).1] at e; cases e
 refine I.step (g':=s.gens) (d':=s.drawn) (ch:=fp) (fun b hb=>?_) (fun b o _ _ hc e _=>k b o hc e) (fun b o _ _ hc e _=>⟨o.slots,k b o hc e⟩) (fun _ _ _ _ n=>n)
  (fun b o hc e=>⟨o,k b o hc e⟩) (fun _ _ e=>e) (fun _ _ _ e=>e) (fun b ps e=>⟨#[],by rw [e]; simp⟩) (fun m hm=>?_) (fun b u e=>?_) I.bare
 ·obtain ⟨_,f1,_,f3,f4,f5⟩:=hf b hb
  exact ⟨f3,f1,f4,f5⟩
 ·obtain ⟨o,es,ep,ho,r⟩:=hm
  exact ⟨o,es,ep,k _ o (fun z=>(hf _ z).2.1 rfl) ho,r⟩
 ·refine (I.hok b u e).stay (fun c v hc q=>k c v ?_ q) (fun _ q=>q) fun _ _ q=>q
  rcases hc with z | z
  ·rw [z]; exact nit b u e
  ·exact nit c _ z
noncomputable def Itz (K:PySem.W.Frag) (so:List (Bool×Addr)):It :=
  ⟨fun i H=>∃ xs:List V,xs.length=so.length∧∀ (k:Nat) (b:Bool) (a:Addr),so[k]? = some (b,a)→∃ ys,SqB K b H a ys∧ys[i]? = xs[k]?,
   fun i H x H'=>∃ (T:Addr) (xs:List V),x=.ref T∧H T=none∧H'=upd H T (.tup xs)∧xs.length=so.length∧∀ (k:Nat) (b:Bool) (a:Addr),so[k]? = some (b,a)→∀ ys,SqB K b H a ys→ys[i]? = xs[k]?,
   fun i H=>∃ k0,k0 < so.length∧∀ (k:Nat) (b:Bool) (a:Addr),so[k]? = some (b,a)→∃ ys,SqB K b H a ys∧(k < k0→i < ys.length)∧(k=k0→ys.length≤i)⟩
theorem eF {α:Type _}{P:Nat→α→Prop}:∀ (n:Nat),(∀ k,k < n→∃ u,P k u)→∃ us:List α,us.length=n∧∀ (k:Nat) u,us[k]? = some u→P k u
 | 0,_=>⟨[],rfl,fun k u e=>by simp at e⟩
 | n + 1,h=>by
  obtain ⟨us,hl,hp⟩:=eF n fun k hk=>h k (by omega)
  obtain ⟨u,hu⟩:=h n (by omega)
  refine ⟨us ++ [u],by simp [hl],fun k v e=>?_⟩
  by_cases hk:k < us.length
  ·rw [List.getElem?_append_left hk] at e; exact hp k v e
  ·rw [List.getElem?_append_right (by omega)] at e
   have:k - us.length=0:=by
    have:=(List.getElem?_eq_some_iff.mp e).1
    simp at this
    omega
   rw [this] at e
   cases e
   have:k=n:=by omega
   subst this
   exact hu
theorem r9:∀ {xs:List V}{us:List Value},xs.length=us.length→(∀ (k:Nat) x u,xs[k]? = some x→us[k]? = some u→aW x u)→aZ xs us
 | [],[],_,_=>.nil
 | x :: xs,u :: us,hl,h=>.cons (h 0 x u rfl rfl) (r9 (by simpa using hl) fun k a b e1 e2=>h (k + 1) a b (by simpa using e1) (by simpa using e2))
 | [],_ :: _,hl,_=>by simp at hl
 | _ :: _,[],hl,_=>by simp at hl
noncomputable abbrev zfp (so:List (Bool×Addr)) (m:Nat):List Addr:=(List.range (so.length + 3)).map (m + ·)
theorem cu {so:List (Bool×Addr)} {m:Nat}{b:Nat}:b ∈ zfp so m ↔ m≤b∧b≤m + so.length + 2:=by
 simp only [List.mem_map,List.mem_range]
 exact ⟨fun ⟨k,h,e⟩=>by subst e; omega,fun h=>⟨b - m,by omega,by omega⟩⟩
theorem oq {P:Program}{w:World}{K:PySem.W.Frag}{elts:List Expr}{x1}{pos:Pos} (so:List (Bool×Addr)) (m:Nat) (hn:so.length≤sizeLine) (h0:so ≠ []) (hlt:∀ p ∈ so,p.2 < m) :
  lD P w K (.Tuple elts x1 pos) (Itz K so) (zfp so m) (m + so.length + 2) (fun i h=>∃ ws,ZSt so m .none (fun _=>i) ws h) where
 mem:=cu.mpr (by omega)
 obj:=fun i h zz141_0 (b:Nat) hb=>by
  obtain ⟨ws,st⟩:=zz141_0
  have hb:m≤b∧b≤m + so.length + 2:=cu.mp hb
  by_cases h1:b < m + so.length
  ·obtain ⟨k,hk⟩:∃ k,b=m + k:=⟨b - m,by omega⟩
   subst hk
   obtain ⟨o,e,vs,d⟩:=(st.its k (so[k]'(by omega)).1 (so[k]'(by omega)).2 (List.getElem?_eq_getElem _)).obj
   exact ⟨o,e,fun v z=>by rw [d] at z; cases z⟩
  ·by_cases h2:b=m + so.length
   ·subst h2; exact ⟨_,st.ti,fun v z=>by have z':Data.seq _ _=Data.cell v:=z; cases z'⟩
   ·by_cases h3:b=m + so.length + 1
    ·subst h3; exact ⟨_,st.to,fun v z=>by have z':Data.seq _ _=Data.cell v:=z; cases z'⟩
    ·have h4:b=m + so.length + 2:=by omega
     subst h4; exact ⟨_,st.z,fun v z=>by have z':Data.fields _=Data.cell v:=z; cases z'⟩
 keep:=fun i h h' ⟨ws,st⟩ k=>⟨ws,fun j b a hj=>(st.its j b a hj).keep fun o e=>by
  have hjn:j < so.length:=(List.getElem?_eq_some_iff.mp hj).1
  exact k _ (cu.mpr (by omega)) o e,k _ (cu.mpr (by omega)) _ st.ti,k _ (cu.mpr (by omega)) _ st.to,st.lw,k _ (cu.mpr (by omega)) _ st.z⟩
 item:=by
  intro X hP hw hK hc i pins s σ H E I hf ⟨ws,st⟩ hg
  subst hP hw hK
  obtain ⟨xs,hxl,hx⟩:=hg
  obtain ⟨us,hul,hu⟩:=eF (P:=fun k u=>∃ x,xs[k]? = some x∧aW x u∧∀ b a,so[k]? = some (b,a)→∃ vs:Array Value,RSq b s.heap a vs∧vs[i]? = some u) so.length fun k hk=>by
   obtain ⟨ys,q,e⟩:=hx k (so[k]'hk).1 (so[k]'hk).2 (List.getElem?_eq_getElem hk)
   obtain ⟨its,rv,p⟩:=I.sqB q
   have e2:xs[k]? = some (xs[k]'(by omega)):=List.getElem?_eq_getElem _
   obtain ⟨u,hu,ru⟩:=rv.get (e.trans e2)
   refine ⟨u,_,e2,ru,fun b a hba=>⟨its.toArray,?_,by simpa using hu⟩⟩
   have e3:=(List.getElem?_eq_getElem hk).symm.trans hba
   rw [Option.some.inj e3] at p
   exact p
  have hvals:aZ xs us:=r9 (by omega) fun k x u e1 e2=>by
   obtain ⟨x',e3,r,_⟩:=hu k u e2
   rw [e1] at e3; cases e3; exact r
  refine rW (xs:=us) (K:=so.length) (I.ok.hd hc) hn h0 hlt st hul (Nat.le_refl _) (fun k b a hba=>?_) (fun _ h' st' t' z' kk=>?_) (fun hlt=>absurd hlt (Nat.lt_irrefl _))
  ·have hk:k < so.length:=(List.getElem?_eq_some_iff.mp hba).1
   have e2:us[k]? = some (us[k]'(by omega)):=List.getElem?_eq_getElem _
   obtain ⟨x,_,_,q⟩:=hu k _ e2
   obtain ⟨vs,r,e⟩:=q b a hba
   exact ⟨vs,r,fun _=>by rw [e,e2],fun z=>by omega⟩
  ·refine ⟨_,rfl,Cp (s:={ s with heap:=h' }) st' fun h2 st2 s2=>?_⟩
   have hT:H s.heap.objs.size=none:=I.fresh
   have hfl:∀ b ∈ zfp so m,b < s.heap.objs.size:=fun b hb=>Nat.lt_of_le_of_lt (cu.mp hb).2 (Heap.lt_size st.z)
   have hf1:∀ b ∈ zfp so m,gP X pins (upd H s.heap.objs.size (.tup xs)) b:=fun b hb=>⟨by rw [ah (Nat.ne_of_lt (hfl b hb))]; exact (hf b hb).1,(hf b hb).2⟩
   have I1:Inv X pins σ (upd H s.heap.objs.size (.tup xs)) { s with heap:=s.heap.push { cls:=.type "tuple",data:=.seq us.toArray } }:=I.laid (t':=s.toks) (fun b u e=>Heap.get?_push_of_some _ e) (Nat.le_refl _)
    ⟨by omega,us,hvals,⟨_,Heap.get?_push_size _ rfl,rfl,_,rfl⟩⟩
   have I2:Inv X pins σ (upd H s.heap.objs.size (.tup xs)) { s with heap:=h2 }:=I1.turnedN (t':=s.toks) (h':=h2) (fun (b:Nat) o hb e=>by
    have hbz:b ≠ m + so.length + 2:=fun z=>hb (cu.mpr (by omega))
    refine s2.extBut _ _ hbz ?_
    rcases Heap.get?_push_cases e with ⟨e1,e2⟩ | e'
    ·subst e1 e2
     exact t'
    ·exact kk b o (by have:¬ (m≤b∧b≤m + so.length + 2):=mt cu.mpr hb; omega) e') hf1
   refine ⟨.ref s.heap.objs.size,_,I2,rfl,⟨_,xs,rfl,hT,rfl,hxl,fun k b a hba ys hy=>?_⟩,⟨_,st2⟩,fun b hb=>(hf1 b hb).1⟩
   obtain ⟨ys',q,e⟩:=hx k b a hba
   rw [I.sqB_inj hy q]
   exact e
 done:=by
  intro X hP hw hK hc i pins s σ H E I hf ⟨ws,st⟩ hg
  subst hP hw hK
  obtain ⟨k0,hk0,hx⟩:=hg
  obtain ⟨us,hul,hu⟩:=eF (P:=fun k u=>∀ b a,so[k]? = some (b,a)→∃ vs:Array Value,RSq b s.heap a vs∧vs[i]? = some u) k0 fun k hk=>by
   obtain ⟨ys,q,e,_⟩:=hx k (so[k]'(by omega)).1 (so[k]'(by omega)).2 (List.getElem?_eq_getElem _)
   obtain ⟨its,rv,p⟩:=I.sqB q
   obtain ⟨u,hu,ru⟩:=rv.get (List.getElem?_eq_getElem (e hk))
   refine ⟨u,fun b a hba=>⟨its.toArray,?_,by simpa using hu⟩⟩
   have e3:=(List.getElem?_eq_getElem (show k < so.length by omega)).symm.trans hba
   rw [Option.some.inj e3] at p
   exact p
  refine rW (xs:=us) (K:=k0) (I.ok.hd hc) hn h0 hlt st hul (Nat.le_of_lt hk0) (fun k b a hba=>?_) (fun z=>by omega) (fun _ h' kk=>⟨rfl,I.turnedN (t':=s.toks) (fun (b:Nat) o hb e=>kk b o (by have:¬ (m≤b∧b≤m + so.length + 2):=mt cu.mpr hb; omega) e) hf⟩)
  have hk:k < so.length:=(List.getElem?_eq_some_iff.mp hba).1
  by_cases hkk:k < k0
  ·have e2:us[k]? = some (us[k]'(by omega)):=List.getElem?_eq_getElem _
   obtain ⟨vs,r,e⟩:=hu k _ e2 b a hba
   exact ⟨vs,r,fun _=>by rw [e,e2],fun z=>by omega⟩
  ·obtain ⟨ys,q,_,e⟩:=hx k b a hba
   obtain ⟨its,rv,p⟩:=I.sqB q
   exact ⟨_,p,fun z=>absurd z hkk,fun z=>by
    have:=e z
    have:=rv.length
    simp
    omega⟩
 self:=fun A i s Q E zz143_0 h=>by obtain ⟨ws,st⟩:=zz143_0; exact wpAny_pyIter_zip st.z h
noncomputable def yu (a b:Addr):Obj:={ cls:=.type "zip",data:=.fields #[.none,.bool false,.bool false,.ref a,.ref b] }
noncomputable def li (vs:List Value):Obj:={ cls:=.type "tuple",data:=.seq vs.toArray }
noncomputable abbrev zn2 (h:Heap) (b1 b2:Bool) (l1 l2:Addr):Heap:=((((h.push (bf b1 l1)).push (bf b2 l2)).push (li [.ref h.objs.size,.ref (h.push (bf b1 l1)).objs.size])).push (li [.none,.none]))
noncomputable abbrev zl2 (h:Heap) (b1 b2:Bool) (l1 l2:Addr):Heap:=(zn2 h b1 b2 l1 l2).push (yu ((h.push (bf b1 l1)).push (bf b2 l2)).objs.size (((h.push (bf b1 l1)).push (bf b2 l2)).push (li [.ref h.objs.size,.ref (h.push (bf b1 l1)).objs.size])).objs.size)
theorem Co (b1 b2:Bool) (l1 l2:Addr) (xs ys:Array Value) :
  Meets (Builtin.«zip.__new__» ⟨[.type "zip",.ref l1,.ref l2],[]⟩) (fun _ R s=>RSq b1 s.heap l1 xs∧RSq b2 s.heap l2 ys ∧
   R (.ok (.ret (.ref (zn2 s.heap b1 b2 l1 l2).objs.size))) { s with heap:=zl2 s.heap b1 b2 l1 l2 }) :=
 .of_wp fun prog w A R s h=>by
  obtain ⟨hp,g,d,tk,os⟩:=s; obtain ⟨hl1,hl2,h⟩:=h
  have hsub:=sub_zip
  have hL1:RSq b1 (Shared.heap ⟨hp,g,d,tk,os⟩) l1 xs:=hl1
  have hL2:RSq b2 (Shared.heap ⟨hp.push (bf b1 l1),g,d,tk,os⟩) l2 ys:=hl2.keep fun o e=>Heap.get?_push_of_some _ e
  wp_walk using ju hL1,ju hL2
  exact ⟨_,rfl,h⟩
section
variable {prog:Program}{w:World}{A:Around}{E:Value→Shared→Prop}{s:Shared}
theorem AI {b1 b2:Bool}{l1 l2:Addr}{xs ys:Array Value}{Q:Value→Shared→Prop} (hl1:RSq b1 s.heap l1 xs) (hl2:RSq b2 s.heap l2 ys)
  (h:∀ h',ZSt [(b1,l1),(b2,l2)] s.heap.objs.size .none (fun _=>0) [.none,.none] h'→(∀ c o,s.heap.get? c=some o→h'.get? c=some o)→Q (.ref (s.heap.objs.size + 2 + 2)) { s with heap:=h' }) :
  wpAny (model prog w) A (call (.type "zip") [.ref l1,.ref l2]) Q E s:=by
 refine callType_new F.called_zip (by decide) (F.typeCall_zip_2 _ _) (F.newCall_zip_2 _ _) (fun obj=>F.args_object_init_3 obj _ _) F.entry_zip_new (Co b1 b2 l1 l2 xs ys) ⟨hl1,hl2,?_⟩
 have up:∀ {hp:Heap}{c:Addr}{o u:Obj},hp.get? c=some u→(hp.push o).get? c=some u:=fun e=>Heap.get?_push_of_some _ e
 have z1:(s.heap.push (bf b1 l1)).objs.size=s.heap.objs.size + 1:=Heap.size_push ..
 have z2:((s.heap.push (bf b1 l1)).push (bf b2 l2)).objs.size=s.heap.objs.size + 2:=by rw [Heap.size_push,z1]
 have z3:(((s.heap.push (bf b1 l1)).push (bf b2 l2)).push (li [.ref s.heap.objs.size,.ref (s.heap.push (bf b1 l1)).objs.size])).objs.size=s.heap.objs.size + 3:=by rw [Heap.size_push,z2]
 have z4:(zn2 s.heap b1 b2 l1 l2).objs.size=s.heap.objs.size + 4:=by rw [Heap.size_push,z3]
 have f1:∀ b l,(bf b l).isFreed=false:=fun b l=>by cases b <;> rfl
 have g1:(zl2 s.heap b1 b2 l1 l2).get? s.heap.objs.size=some (bf b1 l1):=up (up (up (up (Heap.get?_push_size _ (f1 _ _)))))
 have g2:(zl2 s.heap b1 b2 l1 l2).get? (s.heap.objs.size + 1)=some (bf b2 l2):=by rw [← z1]; exact up (up (up (Heap.get?_push_size _ (f1 _ _))))
 have g3:(zl2 s.heap b1 b2 l1 l2).get? (s.heap.objs.size + 2)=some (li [.ref s.heap.objs.size,.ref (s.heap.objs.size + 1)]):=by rw [← z2,← z1]; exact up (up (Heap.get?_push_size _ rfl))
 have g4:(zl2 s.heap b1 b2 l1 l2).get? (s.heap.objs.size + 3)=some (li [.none,.none]):=by rw [← z3]; exact up (Heap.get?_push_size _ rfl)
 have g5:(zl2 s.heap b1 b2 l1 l2).get? (s.heap.objs.size + 4)=some (yu (s.heap.objs.size + 2) (s.heap.objs.size + 3)):=by rw [← z4,← z3,← z2]; exact Heap.get?_push_size _ rfl
 show _∧_
 rw [z4]
 refine ⟨⟨_,g5,rfl⟩,h _ ⟨fun k b a hk=>?_,?_,g4,rfl,g5⟩ fun c o e=>up (up (up (up (up e))))⟩
 ·match k,hk with
  | 0,hk=>cases hk; exact gD g1
  | 1,hk=>cases hk; exact gD g2
 ·exact g3
end
noncomputable def sqI (K:PySem.W.Frag) (H:Hp) (p:Bool×Addr):Prop:=∃ ys,SqB K p.1 H p.2 ys
noncomputable def Dq (K:PySem.W.Frag) (n:Nat) (ta:TA):TI:=fun σ H R=>ta σ H fun vs H1=>∃ so:List (Bool×Addr),so.length=n∧vs=so.map (fun p=>V.ref p.2)∧(∀ p ∈ so,sqI K H1 p)∧R (Itz K so) H1
theorem i_ {b:Bool}{h:Heap}{a:Addr}{vs:Array Value} (x:RSq b h a vs):a < h.objs.size:=by
 cases b <;> exact let ⟨o,e,_⟩:=x; Heap.lt_size e
theorem y9 {X:Cx}{elts:List Expr}{x1}{tp:Pos}{a b:Expr}{ta:TA}{p pos:Pos} (hg:Gl X "zip") (hm:X.mg "zip" = none) (ha:PA X [a,b] ta) (hs:starEach [a,b] X.env=[(false,eval a X.env),(false,eval b X.env)]:=by rfl) (hs2:starEach [b] X.env=[(false,eval b X.env)]:=by rfl) :
  PI X (.Tuple elts x1 tp) (.Call (.Name "zip" p) [a,b] [] pos) (Dq X.K 2 ta):=by
 intro pins s σ H R I h
 refine Call_ (eM I hg hm boot_zip (PyProof.Rows.callWith_type1 (thn (ha pos pins s σ H _ I h) fun us s1 zz144_0=>?_) (by rw [hs,hs2]) (by rw [hs2]; rfl)))
 obtain ⟨vs,H1,I1,r1,q1⟩:=zz144_0
 obtain ⟨so,hl,e,hq,q⟩:=q1
 match so,hl with
 | [(b1,l1),(b2,l2)],_ =>
  subst e
  obtain ⟨ys1,y1⟩:=hq (b1,l1) (by simp)
  obtain ⟨ys2,y2⟩:=hq (b2,l2) (by simp)
  obtain ⟨i1,_,p1⟩:=I1.sqB y1
  obtain ⟨i2,_,p2⟩:=I1.sqB y2
  obtain ⟨u,v,e,ru,rv⟩:=aZ.two r1
  subst e
  cases ru
  cases rv
  refine AI p1 p2 fun h' st kk=>wpAny_pyIter_zip (s:={ s1 with heap:=h' }) st.z ?_
  refine ⟨_,zfp [(b1,l1),(b2,l2)] s1.heap.objs.size,_,_,H1,rfl,I1.kept (t':=s1.toks) kk,oq _ _ (by show 2≤sizeLine; decide) (by simp) (fun p hp=>?_),⟨_,st⟩,fun c hc=>I1.fpOk (cu.mp hc).1 (I1.hok.fresh (cu.mp hc).1),q⟩
  rcases List.mem_cons.mp hp with z | hp
  ·rw [z]; exact i_ p1
  ·have z:p=(b2,l2):=by simpa using hp
   rw [z]; exact i_ p2
end L2
namespace L2.Cu
open PySem PySem.Spec PyProof.Rows
noncomputable def RpB (F:Hp) (p:Bool×Addr) (ds:List D):Prop:=∃ vs,F p.2=some (bif p.1 then .lst vs else .tup vs)∧Reps F vs ds
theorem RpB.sq {K:PySem.W.Frag}{F H:Hp}{p:Bool×Addr}{ds:List D} (h:RpB F p ds) (s:∀ a o,F a=some o→H a=some o):∃ vs,SqB K p.1 H p.2 vs∧Reps F vs ds:=by
 obtain ⟨vs,e,r⟩:=h
 obtain ⟨b,a⟩:=p
 cases b with
 | true=>exact ⟨vs,SqL.of (s _ _ e),r⟩
 | false=>exact ⟨vs,SqT.of (s _ _ e),r⟩
theorem RpB.mono {F F':Hp}{p:Bool×Addr}{ds:List D} (h:RpB F p ds) (y:Fr F F'):RpB F' p ds:=by
 obtain ⟨vs,e,r⟩:=h
 exact ⟨vs,y _ _ e,r.mono y⟩
theorem ja {F:Hp}{v:V}{d:D}{ds:List D} (r:Rep F v d) (h:a5 d=some ds):∃ b a,v=.ref a∧RpB F (b,a) ds:=by
 cases d with
 | lst xs=>cases h; cases r with | lst e rs=>exact ⟨true,_,rfl,_,e,rs⟩
 | tup xs=>cases h; cases r with | tup e rs=>exact ⟨false,_,rfl,_,e,rs⟩
 | _=>cases h
theorem si {F:Hp}:∀ {vs:List V}{ds:List D},vs.length=ds.length→(∀ (k:Nat) v d,vs[k]? = some v→ds[k]? = some d→Rep F v d)→Reps F vs ds
 | [],[],_,_=>.nil
 | x :: xs,u :: us,hl,h=>.cons (h 0 x u rfl rfl) (si (by simpa using hl) fun k a b e1 e2=>h (k + 1) a b (by simpa using e1) (by simpa using e2))
 | [],_ :: _,hl,_=>by simp at hl
 | _ :: _,[],hl,_=>by simp at hl
noncomputable def rG (srcs:List (List D)) (xs:List D):Prop:=∀ i:Nat,
 (xs.length=i→∃ k0,k0 < srcs.length∧∀ (k:Nat) ds,srcs[k]? = some ds→(k < k0→i < ds.length)∧(k=k0→ds.length≤i)) ∧
 ∀ d,xs[i]? = some d→∃ row,d=.tup row∧row.length=srcs.length∧∀ (k:Nat) ds,srcs[k]? = some ds→ds[i]? = row[k]?
theorem xk {K:PySem.W.Frag}{F:Hp}{so:List (Bool×Addr)} {srcs:List (List D)} {xs:List D} (hl:so.length=srcs.length) (hr:∀ (k:Nat) p ds,so[k]? = some p→srcs[k]? = some ds→RpB F p ds) (ok:rG srcs xs):oa F (Itz K so) xs:=by
 intro i F2 H2 y s
 have src:∀ {k:Nat}{p:Bool×Addr},so[k]? = some p→∃ ds,srcs[k]? = some ds:=fun {k p} e=>⟨srcs[k]'(by have:=(List.getElem?_eq_some_iff.mp e).1; omega),List.getElem?_eq_getElem _⟩
 refine ⟨fun hx=>?_,fun d hd=>?_⟩
 ·obtain ⟨k0,h0,q⟩:=(ok i).1 hx
  refine ⟨k0,by omega,fun k b a e=>?_⟩
  obtain ⟨ds,e2⟩:=src e
  obtain ⟨vs,sq,rs⟩:=((hr k _ ds e e2).mono y).sq (K:=K) s
  have:=rs.length
  have q:=q k ds e2
  exact ⟨vs,sq,fun z=>by have:=q.1 z; omega,fun z=>by have:=q.2 z; omega⟩
 ·obtain ⟨row,rfl,hrl,q⟩:=(ok i).2 d hd
  refine ⟨?_,fun x H' yl=>?_⟩
  ·obtain ⟨ws,hwl,hw⟩:=eF (P:=fun k v=>∀ b a,so[k]? = some (b,a)→∃ ys,SqB K b H2 a ys∧ys[i]? = some v) so.length fun k hk=>by
    have e:so[k]? = some so[k]:=List.getElem?_eq_getElem hk
    obtain ⟨ds,e2⟩:=src e
    obtain ⟨vs,sq,rs⟩:=((hr k _ ds e e2).mono y).sq (K:=K) s
    have e3:=q k ds e2
    rw [List.getElem?_eq_getElem (show k < row.length by omega)] at e3
    obtain ⟨v,hv,_⟩:=rs.get e3
    refine ⟨v,fun b a hba=>?_⟩
    have e4:=e.symm.trans hba
    rw [Option.some.inj e4] at sq
    exact ⟨vs,sq,hv⟩
   refine ⟨ws,hwl,fun k b a e=>?_⟩
   have hk:k < so.length:=(List.getElem?_eq_some_iff.mp e).1
   have e5:ws[k]? = some (ws[k]'(by omega)):=List.getElem?_eq_getElem _
   obtain ⟨ys,sq,z⟩:=hw k _ e5 b a e
   exact ⟨ys,sq,by rw [z,e5]⟩
  ·obtain ⟨T,ws,rfl,hT,rfl,hwl,hw⟩:=yl
   refine ⟨upd F2 T (.tup ws),Ext.freeze s hT,?_⟩
   have X:=Ext.freeze (o:=.tup ws) s hT
   refine Rep.tup ap (si (by omega) fun k v d ev ed=>?_)
   have hk:k < so.length:=by have:=(List.getElem?_eq_some_iff.mp ev).1; omega
   have e:so[k]? = some so[k]:=List.getElem?_eq_getElem hk
   obtain ⟨ds,e2⟩:=src e
   obtain ⟨vs,sq,rs⟩:=((hr k _ ds e e2).mono y).sq (K:=K) s
   have e3:=q k ds e2
   rw [ed] at e3
   obtain ⟨v',hv',rv⟩:=rs.get e3
   have e6:=hw k _ _ e vs sq
   rw [hv',ev] at e6
   cases e6
   exact rv.mono X.fr
theorem CQ (xs ys:List D):rG [xs,ys] (List.zipWith (fun a b=>D.tup [a,b]) xs ys):=by
 intro i
 refine ⟨fun h=>?_,fun d hd=>?_⟩
 ·rw [List.length_zipWith] at h
  by_cases hx:xs.length≤i
  ·exact ⟨0,by simp,fun k ds e=>⟨fun z=>by omega,fun z=>by subst z; cases e; exact hx⟩⟩
  ·refine ⟨1,by simp,fun k ds e=>⟨fun z=>?_,fun z=>?_⟩⟩
   ·have:k=0:=by omega
    subst this; cases e; omega
   ·subst z; cases e; omega
 ·rw [List.getElem?_zipWith] at hd
  cases hx:xs[i]? with
  | none=>rw [hx] at hd; cases hd
  | some x =>
   cases hy:ys[i]? with
   | none=>rw [hx,hy] at hd; cases hd
   | some y =>
    rw [hx,hy] at hd
    cases hd
    refine ⟨[x,y],rfl,rfl,fun k ds e=>?_⟩
    match k,e with
    | 0,e=>cases e; exact hx
    | 1,e=>cases e; exact hy
noncomputable def tK (ds:List D):Option (List D):=match ds with
 | [a,b]=>(a5 a).bind fun xs=>(a5 b).bind fun ys=>some (List.zipWith (fun a b=>D.tup [a,b]) xs ys)
 | _=>none
theorem tJ {ds xs:List D} (h:tK ds=some xs):∃ a b,ds=[a,b]:=by
 unfold tK at h
 split at h
 ·exact ⟨_,_,rfl⟩
 ·cases h
noncomputable def mR (f:DE→Option (List D)) (E:DE):Option (List D):=(f E).bind tK
section
variable {X:Cx}{pos:Pos}
theorem nR {elts:List Expr}{x1}{tp:Pos}{a b:Expr}{f:DE→Option (List D)} {p:Pos} (hg:Gl X "zip") (hm:X.mg "zip" = none) (ha:Ea X [a,b] f) (hs:aO a=true:=by rfl) (hs2:aO b=true:=by rfl):Ei X (.Tuple elts x1 tp) (.Call (.Name "zip" p) [a,b] [] pos) (mR f) :=
 PI.by (y9 hg hm ha.h (by rw [aA a [b] X.env hs,aA b [] X.env hs2]; rfl) (aA b [] X.env hs2)) fun σ H R zz145_0=>by
  obtain ⟨B,F,E,xs,k,q,w⟩:=zz145_0
  unfold mR at q
  cases hf:f E with
  | none=>simp [hf] at q
  | some ds =>
   rw [hf] at q
   refine ⟨B,F,E,ds,k,hf,fun vs F' H' x r=>?_⟩
   obtain ⟨d1,d2,rfl⟩:=tJ q
   obtain ⟨v1,ws,rfl,r1,r⟩:=r.c1
   obtain ⟨v2,ws,rfl,r2,r⟩:=r.c1
   obtain rfl:=r.c0
   ·have q':((a5 d1).bind fun xs=>(a5 d2).bind fun ys=>some (List.zipWith (fun a b=>D.tup [a,b]) xs ys))=some xs:=q
    cases h1:a5 d1 with
    | none=>rw [h1] at q'; cases q'
    | some s1 =>
     cases h2:a5 d2 with
     | none=>rw [h1,h2] at q'; cases q'
     | some s2 =>
      rw [h1,h2] at q'
      cases q'
      obtain ⟨b1,l1,rfl,p1⟩:=ja r1 h1
      obtain ⟨b2,l2,rfl,p2⟩:=ja r2 h2
      refine ⟨[(b1,l1),(b2,l2)],rfl,rfl,fun p hp=>?_,w _ F' H' x (xk (srcs:=[s1,s2]) rfl (fun k p ds e1 e2=>?_) (CQ s1 s2))⟩
      ·rcases List.mem_cons.mp hp with z | hp
       ·rw [z]; obtain ⟨vs,sq,_⟩:=p1.sq (K:=X.K) x.sub; exact ⟨vs,sq⟩
       ·have z:p=(b2,l2):=by simpa using hp
        rw [z]; obtain ⟨vs,sq,_⟩:=p2.sq (K:=X.K) x.sub; exact ⟨vs,sq⟩
      ·match k,e1,e2 with
       | 0,e1,e2=>cases e1; cases e2; exact p1
       | 1,e1,e2=>cases e1; cases e2; exact p2
end
end L2.Cu
namespace L2
open PySem PySem.Spec PyProof.Rows
theorem mB {prog:Program}{w:World}{A:Around} (hh:A.handled=none) (b:Bool) (it a:Addr) (hne:a ≠ it) (vs:Array Value) :
  Draws prog w A it [it,a] vs.size (fun i v=>vs[i]? = some v) (fun i h=>RIt b h it a i∧RSq b h a vs) where
 live:=fun _ _ st=>let ⟨o,e,_⟩:=st.1.obj; ⟨o,e⟩
 frame:=fun _ _ _ st k=>⟨st.1.keep fun o e=>k it (by simp) o e,st.2.keep fun o e=>k a (by simp) o e⟩
 item:=fun i s Q E hi st q=>oU st.1 st.2 (x:=vs[i]) (Array.getElem?_eq_getElem hi) fun h' st' sb=>q _ h' s.toks (Array.getElem?_eq_getElem hi) ⟨st',st.2.keep fun o e=>sb.extBut _ _ hne e⟩ sb
 done:=fun s Q E st q=>sh hh st.1 st.2 (Array.getElem?_eq_none (Nat.le_refl _)) q
theorem D5 (b:Bool) (l:Addr) (xs:Array Value) :
  Meets (Builtin.«enumerate.__new__» ⟨[.type "enumerate",.ref l],[]⟩) (fun _ R s=>RSq b s.heap l xs ∧
   R (.ok (.ret (.ref (s.heap.push (bf b l)).objs.size))) { s with heap:=(s.heap.push (bf b l)).push { cls:=.type "enumerate",data:=.fields #[.none,.bool false,.ref s.heap.objs.size,rawInt 0,.none,.none] } }) :=
 .of_wp fun prog w A R s h=>by
  obtain ⟨hp,g,d,tk,os⟩:=s; obtain ⟨hl,h⟩:=h
  have hsub:=sub_enumerate
  have hL:RSq b (Shared.heap ⟨hp,g,d,tk,os⟩) l xs:=hl
  obtain ⟨o,ho⟩:∃ o,(Shared.heap ⟨hp,g,d,tk,os⟩).get? l=some o:=by
   cases b <;> exact let ⟨o,e,_⟩:=hL; ⟨o,e⟩
  wp_walk using AutoSeq1.wpAny_loadPart' ho
  refine wpAny_stack_any fun st=>wpAny_pure ?_
  split
  ·rename_i c _ _ _ _ _
   cases (c == Value.type "enumerate")
   ·wp_walk using AutoSeq1.wpAny_loadPart' ho,ju hL
    exact ⟨_,rfl,h⟩
   ·wp_walk using AutoSeq1.wpAny_loadPart' ho,ju hL
    exact ⟨_,rfl,h⟩
  ·wp_walk using AutoSeq1.wpAny_loadPart' ho,ju hL
   exact ⟨_,rfl,h⟩
noncomputable def Ee (b:Bool) (a m:Addr) (i:Nat) (h:Heap):Prop:=(∃ old,IsEnum h (m + 1) m i old)∧RIt b h m a i
noncomputable def Ite (K:PySem.W.Frag) (b:Bool) (a:Addr):It :=
  ⟨fun i H=>∃ ys y,SqB K b H a ys∧ys[i]? = some y,
   fun i H x H'=>∃ (T:Addr) (y:V),x=.ref T∧H T=none∧H'=upd H T (.tup [.int i,y])∧∀ ys,SqB K b H a ys→ys[i]? = some y,
   fun i H=>∃ ys,SqB K b H a ys∧ys.length=i⟩
theorem tU {P:Program}{w:World}{K:PySem.W.Frag}{elts:List Expr}{x1}{pos:Pos} (b:Bool) (a m:Nat) (hlt:a < m) :
  lD P w K (.Tuple elts x1 pos) (Ite K b a) [m,m + 1] (m + 1) (fun i h=>Ee b a m i h) where
 mem:=by simp
 obj:=fun i h zz146_0 c hc=>by
  obtain ⟨⟨old,st⟩,it⟩:=zz146_0
  have hc:c=m∨c=m + 1:=by simpa using hc
  rcases hc with z | z
  ·subst z
   obtain ⟨o,e,vs,d⟩:=it.obj
   exact ⟨o,e,fun v z=>by rw [d] at z; cases z⟩
  ·subst z; exact ⟨_,st,fun v z=>by have z':Data.fields _=Data.cell v:=z; cases z'⟩
 keep:=fun i h h' ⟨⟨old,st⟩,it⟩ k=>⟨⟨old,k (m + 1) (by simp) _ st⟩,it.keep fun o e=>k m (by simp) o e⟩
 item:=by
  intro X hP hw hK hc i pins s σ H E I hf st hg
  subst hP hw hK
  obtain ⟨⟨old,he⟩,hit⟩:=st
  obtain ⟨ys,y,hq,hy⟩:=hg
  obtain ⟨its,rv,p⟩:=I.sqB hq
  obtain ⟨u,hu,ru⟩:=rv.get hy
  have hul:i < its.toArray.size:=by
   have:=(List.getElem?_eq_some_iff.mp hu).1
   simpa using this
  have hh:X.A.in1.handled=none:=I.ok.hd hc
  refine wpAny_pyNext_enum_itemD (mB hh b m a (Nat.ne_of_lt hlt) its.toArray) he ⟨hit,p⟩ hul (show (m + 1:Nat) ≠ m by omega) (fun z=>by have z:(m + 1:Nat)=m∨(m + 1:Nat)=a:=(by simpa using z); omega) fun x h' tk hP ho st' hT hsz kk=>?_
  have hxu:x=u:=by
   have e2:its.toArray[i]? = some u:=by simpa using hu
   rw [e2] at hP; cases hP; rfl
  subst hxu
  refine ⟨_,rfl,wpAny_letOwnedTupleGo_enum (s:={ s with heap:=h',toks:=tk + 1 }) ho fun h2 he2 s2=>?_⟩
  have hT0:H s.heap.objs.size=none:=I.fresh
  have hml:m + 1 < s.heap.objs.size:=Heap.lt_size he
  have hf1:∀ c ∈ [m,m + 1],gP X pins (upd H s.heap.objs.size (.tup [.int i,y])) c:=fun c hcm=>by
   have hcc:c=m∨c=m + 1:=by simpa using hcm
   refine ⟨?_,(hf c hcm).2⟩
   rw [ah (by rcases hcc with z | z <;> (subst z; exact Nat.ne_of_lt (by omega)))]
   exact (hf c hcm).1
  have I1:Inv X pins σ (upd H s.heap.objs.size (.tup [.int i,y])) { s with heap:=s.heap.push { cls:=.type "tuple",data:=.seq #[.int i tk,x] },toks:=tk + 1 }:=I.laid (t':=tk + 1) (fun c v e=>Heap.get?_push_of_some _ e) (Nat.le_refl _)
   ⟨by show 2≤sizeLine; decide,[.int i tk,x],.cons ⟨tk,rfl⟩ (.cons ru .nil),⟨_,Heap.get?_push_size _ rfl,rfl,_,rfl⟩⟩
  have I2:Inv X pins σ (upd H s.heap.objs.size (.tup [.int i,y])) { s with heap:=h2,toks:=tk + 1 }:=I1.turnedN (t':=tk + 1) (h':=h2) (fun (c:Nat) o hcn e=>by
   have h1:¬ (c=m∨c=m + 1):=by simpa using hcn
   refine s2.extBut _ _ (show (c:Nat) ≠ m + 1 by omega) ?_
   rcases Heap.get?_push_cases e with ⟨e1,e2⟩ | e'
   ·subst e1 e2; exact hT
   ·exact kk c o (show (c:Nat) ≠ m + 1 by omega) (show (c:Nat) ≠ m by omega) e') hf1
  refine ⟨.ref s.heap.objs.size,_,I2,rfl,⟨_,y,rfl,hT0,rfl,fun zs hz=>by rw [I.sqB_inj hz hq]; exact hy⟩,⟨⟨_,by simpa using he2⟩,st'.1.keep fun o e=>s2.extBut _ _ (show (m:Nat) ≠ m + 1 by omega) e⟩,fun c hcm=>(hf1 c hcm).1⟩
 done:=by
  intro X hP hw hK hc i pins s σ H E I hf st hg
  subst hP hw hK
  obtain ⟨⟨old,he⟩,hit⟩:=st
  obtain ⟨ys,hq,hy⟩:=hg
  obtain ⟨its,rv,p⟩:=I.sqB hq
  have hl:i=its.toArray.size:=by rw [← hy,rv.length]; simp
  have hh:X.A.in1.handled=none:=I.ok.hd hc
  subst hl
  exact wpAny_pyNext_enum_endD (mB hh b m a (Nat.ne_of_lt hlt) its.toArray) he ⟨hit,p⟩ fun h' kk=>⟨rfl,I.turnedN (t':=s.toks) (fun c o hcn e=>kk c o (fun z=>hcn (by simp [z])) e) hf⟩
 self:=fun A i s Q E zz148_0 h=>by obtain ⟨⟨old,st⟩,_⟩:=zz148_0; exact wpAny_pyIter_enum st h
noncomputable def Du (K:PySem.W.Frag) (ta:TA):TI:=fun σ H R=>ta σ H fun vs H1=>∃ b a,vs=[.ref a]∧sqI K H1 (b,a)∧R (Ite K b a) H1
theorem y_ {X:Cx}{elts:List Expr}{x1}{tp:Pos}{e:Expr}{ta:TA}{p pos:Pos} (hg:Gl X "enumerate") (hm:X.mg "enumerate" = none) (ha:PA X [e] ta) (hs:starEach [e] X.env=[(false,eval e X.env)]:=by rfl) :
  PI X (.Tuple elts x1 tp) (.Call (.Name "enumerate" p) [e] [] pos) (Du X.K ta):=by
 intro pins s σ H R I h
 refine Call_ (eM I hg hm boot_enumerate (PyProof.Rows.callWith_type1 (thn (ha pos pins s σ H _ I h) fun us s1 zz149_0=>?_) hs rfl))
 obtain ⟨vs,H1,I1,r1,q1⟩:=zz149_0
 obtain ⟨b,a,rfl,⟨ys,hy⟩,q⟩:=q1
 obtain ⟨u,rfl,ru⟩:=aZ.one r1
 cases ru
 obtain ⟨its,_,p1⟩:=I1.sqB hy
 refine callType_new F.called_enumerate (by decide) (F.typeCall_enumerate_1 _) (F.newCall_enumerate_1 _) (fun obj=>F.args_object_init_2 obj _) F.entry_enumerate_new (D5 b a its.toArray) ⟨p1,?_⟩
 have hz:(s1.heap.push (bf b a)).objs.size=s1.heap.objs.size + 1:=Heap.size_push ..
 have f1:(bf b a).isFreed=false:=by cases b <;> rfl
 have he:IsEnum ((s1.heap.push (bf b a)).push { cls:=.type "enumerate",data:=.fields #[.none,.bool false,.ref s1.heap.objs.size,rawInt 0,.none,.none] }) (s1.heap.objs.size + 1) s1.heap.objs.size 0 .none:=by
  rw [← hz]; exact Heap.get?_push_size _ rfl
 show _∧_
 rw [hz]
 refine ⟨⟨_,he,rfl⟩,wpAny_pyIter_enum (s:={ s1 with heap:=(s1.heap.push (bf b a)).push { cls:=.type "enumerate",data:=.fields #[.none,.bool false,.ref s1.heap.objs.size,rawInt 0,.none,.none] } }) he ?_⟩
 exact ⟨_,[s1.heap.objs.size,s1.heap.objs.size + 1],_,_,H1,rfl,I1.kept (t':=s1.toks) fun c o e=>Heap.get?_push_of_some _ (Heap.get?_push_of_some _ e),tU b a s1.heap.objs.size (i_ p1),⟨⟨_,he⟩,gD (Heap.get?_push_of_some _ (Heap.get?_push_size _ f1))⟩,fun c hc=>by
  have hcc:c=s1.heap.objs.size∨c=s1.heap.objs.size + 1:=by simpa using hc
  have hle:s1.heap.objs.size≤c:=by rcases hcc with z | z <;> (subst z; omega)
  exact I1.fpOk hle (I1.hok.fresh hle),q⟩
end L2
namespace L2.Cu
open PySem PySem.Spec PyProof.Rows
noncomputable def fO:List D→Int→List D
 | [],_=>[]
 | x :: r,i=>.tup [.int i,x] :: fO r (i + 1)
theorem my:∀ (xs:List D) (i:Int),(fO xs i).length=xs.length
 | [],_=>rfl
 | _ :: r,i=>by rw [fO,Em,my r,Em]
theorem ji:∀ (xs:List D) (k:Int) (i:Nat),(fO xs k)[i]? = xs[i]?.map fun x=>.tup [.int (k + i),x]
 | [],_,_=>by simp [fO]
 | x :: r,k,0=>by simp [fO]
 | x :: r,k,i + 1=>by
  rw [fO,Eh,Eh,ji r (k + 1) i]
  congr 1
  funext y
  have:k + 1 + (i:Int)=k + ((i + 1:Nat):Int):=by omega
  rw [this]
theorem BO {K:PySem.W.Frag}{F:Hp}{p:Bool×Addr}{ds:List D} (h:RpB F p ds):oa F (Ite K p.1 p.2) (fO ds 0):=by
 intro i F2 H2 y s
 obtain ⟨vs,sq,rs⟩:=(h.mono y).sq (K:=K) s
 refine ⟨fun hl=>⟨vs,sq,by rw [rs.length,← hl,my]⟩,fun d hd=>?_⟩
 rw [ji] at hd
 cases hx:ds[i]? with
 | none=>rw [hx] at hd; cases hd
 | some x =>
  rw [hx] at hd
  cases hd
  obtain ⟨v,hv,rv⟩:=rs.get hx
  refine ⟨⟨vs,v,sq,hv⟩,fun z H' yl=>?_⟩
  obtain ⟨T,w,rfl,hT,rfl,hw⟩:=yl
  have e:=hw vs sq
  rw [hv] at e
  cases e
  have X:=Ext.freeze (o:=.tup [.int i,v]) s hT
  refine ⟨upd F2 T (.tup [.int i,v]),X,Rep.tup ap (.cons ?_ (.cons (rv.mono X.fr) .nil))⟩
  rw [Int.zero_add]; exact .int _
noncomputable def sV (ds:List D):Option (List D):=match ds with
 | [a]=>(a5 a).map fun xs=>fO xs 0
 | _=>none
theorem rn {ds xs:List D} (h:sV ds=some xs):∃ a,ds=[a]:=by
 unfold sV at h
 split at h
 ·exact ⟨_,rfl⟩
 ·cases h
noncomputable def sU (f:DE→Option (List D)) (E:DE):Option (List D):=(f E).bind sV
theorem zN {X:Cx}{pos:Pos}{elts:List Expr}{x1}{tp:Pos}{a:Expr}{f:DE→Option (List D)} {p:Pos} (hg:Gl X "enumerate") (hm:X.mg "enumerate" = none) (ha:Ea X [a] f) (hs:aO a=true:=by rfl):Ei X (.Tuple elts x1 tp) (.Call (.Name "enumerate" p) [a] [] pos) (sU f) :=
 PI.by (y_ hg hm ha.h (aA a [] X.env hs)) fun σ H R zz150_0=>by
  obtain ⟨B,F,E,xs,k,q,w⟩:=zz150_0
  unfold sU at q
  cases hf:f E with
  | none=>simp [hf] at q
  | some ds =>
   rw [hf] at q
   refine ⟨B,F,E,ds,k,hf,fun vs F' H' x r=>?_⟩
   obtain ⟨d1,rfl⟩:=rn q
   obtain ⟨v1,ws,rfl,r1,r⟩:=r.c1
   obtain rfl:=r.c0
   ·have q':(a5 d1).map (fun xs=>fO xs 0)=some xs:=q
    cases h1:a5 d1 with
    | none=>rw [h1] at q'; cases q'
    | some s1 =>
     rw [h1] at q'
     cases q'
     obtain ⟨b1,l1,rfl,p1⟩:=ja r1 h1
     refine ⟨b1,l1,rfl,?_,w _ F' H' x (BO (p:=(b1,l1)) p1)⟩
     obtain ⟨vs,sq,_⟩:=p1.sq (K:=X.K) x.sub
     exact ⟨vs,sq⟩
end L2.Cu
namespace L2
open PySem PySem.Spec PyProof.Rows
theorem tN (a b c:Value):checkTypeCall "zip" ⟨[a,b,c],[]⟩=pure ():=by kernel_rfl
theorem vF (a b c:Value):checkBuiltinCall "zip.__new__" ⟨[.type "zip",a,b,c],[]⟩=pure ():=by kernel_rfl
theorem Dp (a b c d:Value):argsOk "object.__init__" ⟨[a,b,c,d],[]⟩:=by
 unfold argsOk; rw [signature?_of (id := "object.__init__") (n:=['_','_','t','i','n','i','_','_']) (o:=['t','c','e','j','b','o']) (by kernel_rfl) F.owner_object]; kernel_rfl
noncomputable abbrev zi3 (h:Heap) (b1 b2 b3:Bool) (l1 l2 l3:Addr):Heap:=((h.push (bf b1 l1)).push (bf b2 l2)).push (bf b3 l3)
noncomputable abbrev zt3 (h:Heap) (b1 b2 b3:Bool) (l1 l2 l3:Addr):Heap:=(zi3 h b1 b2 b3 l1 l2 l3).push (li [.ref h.objs.size,.ref (h.push (bf b1 l1)).objs.size,.ref ((h.push (bf b1 l1)).push (bf b2 l2)).objs.size])
noncomputable abbrev zn3 (h:Heap) (b1 b2 b3:Bool) (l1 l2 l3:Addr):Heap:=(zt3 h b1 b2 b3 l1 l2 l3).push (li [.none,.none,.none])
noncomputable abbrev zl3 (h:Heap) (b1 b2 b3:Bool) (l1 l2 l3:Addr):Heap:=(zn3 h b1 b2 b3 l1 l2 l3).push (yu (zi3 h b1 b2 b3 l1 l2 l3).objs.size (zt3 h b1 b2 b3 l1 l2 l3).objs.size)
theorem Cn (b1 b2 b3:Bool) (l1 l2 l3:Addr) (xs ys zs:Array Value) :
  Meets (Builtin.«zip.__new__» ⟨[.type "zip",.ref l1,.ref l2,.ref l3],[]⟩) (fun _ R s=>RSq b1 s.heap l1 xs∧RSq b2 s.heap l2 ys∧RSq b3 s.heap l3 zs ∧
   R (.ok (.ret (.ref (zn3 s.heap b1 b2 b3 l1 l2 l3).objs.size))) { s with heap:=zl3 s.heap b1 b2 b3 l1 l2 l3 }) :=
 .of_wp fun prog w A R s h=>by
  obtain ⟨hp,g,d,tk,os⟩:=s; obtain ⟨hl1,hl2,hl3,h⟩:=h
  have hsub:=sub_zip
  have hL1:RSq b1 (Shared.heap ⟨hp,g,d,tk,os⟩) l1 xs:=hl1
  have hL2:RSq b2 (Shared.heap ⟨hp.push (bf b1 l1),g,d,tk,os⟩) l2 ys:=hl2.keep fun o e=>Heap.get?_push_of_some _ e
  have hL3:RSq b3 (Shared.heap ⟨(hp.push (bf b1 l1)).push (bf b2 l2),g,d,tk,os⟩) l3 zs:=hl3.keep fun o e=>Heap.get?_push_of_some _ (Heap.get?_push_of_some _ e)
  wp_walk using ju hL1,ju hL2,ju hL3
  exact ⟨_,rfl,h⟩
section
variable {prog:Program}{w:World}{A:Around}{E:Value→Shared→Prop}{s:Shared}
theorem AH {b1 b2 b3:Bool}{l1 l2 l3:Addr}{xs ys zs:Array Value}{Q:Value→Shared→Prop} (hl1:RSq b1 s.heap l1 xs) (hl2:RSq b2 s.heap l2 ys) (hl3:RSq b3 s.heap l3 zs)
  (h:∀ h',ZSt [(b1,l1),(b2,l2),(b3,l3)] s.heap.objs.size .none (fun _=>0) [.none,.none,.none] h'→(∀ c o,s.heap.get? c=some o→h'.get? c=some o)→Q (.ref (s.heap.objs.size + 3 + 2)) { s with heap:=h' }) :
  wpAny (model prog w) A (call (.type "zip") [.ref l1,.ref l2,.ref l3]) Q E s:=by
 refine callType_new F.called_zip (by decide) (tN _ _ _) (vF _ _ _) (fun obj=>Dp obj _ _ _) F.entry_zip_new (Cn b1 b2 b3 l1 l2 l3 xs ys zs) ⟨hl1,hl2,hl3,?_⟩
 have up:∀ {hp:Heap}{c:Addr}{o u:Obj},hp.get? c=some u→(hp.push o).get? c=some u:=fun e=>Heap.get?_push_of_some _ e
 have z1:(s.heap.push (bf b1 l1)).objs.size=s.heap.objs.size + 1:=Heap.size_push ..
 have z2:((s.heap.push (bf b1 l1)).push (bf b2 l2)).objs.size=s.heap.objs.size + 2:=by rw [Heap.size_push,z1]
 have z3:(zi3 s.heap b1 b2 b3 l1 l2 l3).objs.size=s.heap.objs.size + 3:=by rw [Heap.size_push,z2]
 have z4:(zt3 s.heap b1 b2 b3 l1 l2 l3).objs.size=s.heap.objs.size + 4:=by rw [Heap.size_push,z3]
 have z5:(zn3 s.heap b1 b2 b3 l1 l2 l3).objs.size=s.heap.objs.size + 5:=by rw [Heap.size_push,z4]
 have f1:∀ b l,(bf b l).isFreed=false:=fun b l=>by cases b <;> rfl
 have g1:(zl3 s.heap b1 b2 b3 l1 l2 l3).get? s.heap.objs.size=some (bf b1 l1):=up (up (up (up (up (Heap.get?_push_size _ (f1 _ _))))))
 have g2:(zl3 s.heap b1 b2 b3 l1 l2 l3).get? (s.heap.objs.size + 1)=some (bf b2 l2):=by rw [← z1]; exact up (up (up (up (Heap.get?_push_size _ (f1 _ _)))))
 have g2':(zl3 s.heap b1 b2 b3 l1 l2 l3).get? (s.heap.objs.size + 2)=some (bf b3 l3):=by rw [← z2]; exact up (up (up (Heap.get?_push_size _ (f1 _ _))))
 have g3:(zl3 s.heap b1 b2 b3 l1 l2 l3).get? (s.heap.objs.size + 3)=some (li [.ref s.heap.objs.size,.ref (s.heap.objs.size + 1),.ref (s.heap.objs.size + 2)]):=by rw [← z3,← z2,← z1]; exact up (up (Heap.get?_push_size _ rfl))
 have g4:(zl3 s.heap b1 b2 b3 l1 l2 l3).get? (s.heap.objs.size + 4)=some (li [.none,.none,.none]):=by rw [← z4]; exact up (Heap.get?_push_size _ rfl)
 have g5:(zl3 s.heap b1 b2 b3 l1 l2 l3).get? (s.heap.objs.size + 5)=some (yu (s.heap.objs.size + 3) (s.heap.objs.size + 4)):=by rw [← z5,← z4,← z3]; exact Heap.get?_push_size _ rfl
 show _∧_
 rw [z5]
 refine ⟨⟨_,g5,rfl⟩,h _ ⟨fun k b a hk=>?_,?_,g4,rfl,g5⟩ fun c o e=>up (up (up (up (up (up e)))))⟩
 ·match k,hk with
  | 0,hk=>cases hk; exact gD g1
  | 1,hk=>cases hk; exact gD g2
  | 2,hk=>cases hk; exact gD g2'
 ·exact g3
end
theorem aZ.three:∀ {x y z:V}{us:List Value},aZ [x,y,z] us→∃ u v t,us=[u,v,t]∧aW x u∧aW y v∧aW z t:=by
 intro x y z us h
 cases h with
 | cons a h=>cases h with
  | cons b h=>cases h with
   | cons c h=>cases h; exact ⟨_,_,_,rfl,a,b,c⟩
theorem y8 {X:Cx}{elts:List Expr}{x1}{tp:Pos}{a b c:Expr}{ta:TA}{p pos:Pos} (hg:Gl X "zip") (hm:X.mg "zip" = none) (ha:PA X [a,b,c] ta) (hs:starEach [a,b,c] X.env=(false,eval a X.env) :: starEach [b,c] X.env:=by rfl) (hs2:(backTo pos (starEach [b,c] X.env)).any (·.1)=false:=by rfl) :
  PI X (.Tuple elts x1 tp) (.Call (.Name "zip" p) [a,b,c] [] pos) (Dq X.K 3 ta):=by
 intro pins s σ H R I h
 refine Call_ (eM I hg hm boot_zip (PyProof.Rows.callWith_type1 (thn (ha pos pins s σ H _ I h) fun us s1 zz151_0=>?_) hs hs2))
 obtain ⟨vs,H1,I1,r1,q1⟩:=zz151_0
 obtain ⟨so,hl,e,hq,q⟩:=q1
 match so,hl with
 | [(b1,l1),(b2,l2),(b3,l3)],_ =>
  subst e
  obtain ⟨ys1,y1⟩:=hq (b1,l1) (by simp)
  obtain ⟨ys2,y2⟩:=hq (b2,l2) (by simp)
  obtain ⟨ys3,y3⟩:=hq (b3,l3) (by simp)
  obtain ⟨i1,_,p1⟩:=I1.sqB y1
  obtain ⟨i2,_,p2⟩:=I1.sqB y2
  obtain ⟨i3,_,p3⟩:=I1.sqB y3
  obtain ⟨u,v,t,e,ru,rv,rt⟩:=aZ.three r1
  subst e
  cases ru
  cases rv
  cases rt
  refine AH p1 p2 p3 fun h' st kk=>wpAny_pyIter_zip (s:={ s1 with heap:=h' }) st.z ?_
  refine ⟨_,zfp [(b1,l1),(b2,l2),(b3,l3)] s1.heap.objs.size,_,_,H1,rfl,I1.kept (t':=s1.toks) kk,oq _ _ (by show 3≤sizeLine; decide) (by simp) (fun p hp=>?_),⟨_,st⟩,fun c hc=>I1.fpOk (cu.mp hc).1 (I1.hok.fresh (cu.mp hc).1),q⟩
  have z:p=(b1,l1)∨p=(b2,l2)∨p=(b3,l3):=by simpa using hp
  rcases z with z | z | z
  ·rw [z]; exact i_ p1
  ·rw [z]; exact i_ p2
  ·rw [z]; exact i_ p3
end L2
namespace L2.Cu
open PySem PySem.Spec PyProof.Rows
noncomputable def dl:List D→List D→List D→List D
 | a :: as,b :: bs,c :: cs=>.tup [a,b,c] :: dl as bs cs
 | _,_,_=>[]
theorem lI:∀ xs ys zs:List D,(dl xs ys zs).length=min xs.length (min ys.length zs.length)
 | [],_,_=>by simp [dl]
 | _ :: _,[],_=>by simp [dl]
 | _ :: _,_ :: _,[]=>by simp [dl]
 | a :: as,b :: bs,c :: cs=>by
  rw [dl,Em,lI as bs cs,Em,Em,Em,Nat.add_min_add_right,Nat.add_min_add_right]
theorem lJ:∀ (xs ys zs:List D) (i:Nat) (d:D),(dl xs ys zs)[i]? = some d→∃ x y z,d=.tup [x,y,z]∧xs[i]? = some x∧ys[i]? = some y∧zs[i]? = some z
 | [],_,_,_,_,h=>by simp [dl] at h
 | _ :: _,[],_,_,_,h=>by simp [dl] at h
 | _ :: _,_ :: _,[],_,_,h=>by simp [dl] at h
 | a :: as,b :: bs,c :: cs,0,d,h=>by
  rw [dl,on] at h
  cases h
  exact ⟨a,b,c,rfl,rfl,rfl,rfl⟩
 | a :: as,b :: bs,c :: cs,i + 1,d,h=>by
  rw [dl,Eh] at h
  obtain ⟨x,y,z,e,h1,h2,h3⟩:=lJ as bs cs i d h
  exact ⟨x,y,z,e,by simpa using h1,by simpa using h2,by simpa using h3⟩
theorem CP (xs ys zs:List D):rG [xs,ys,zs] (dl xs ys zs):=by
 intro i
 refine ⟨fun h=>?_,fun d hd=>?_⟩
 ·rw [lI] at h
  by_cases hx:xs.length≤i
  ·exact ⟨0,by simp,fun k ds e=>⟨fun z=>by omega,fun z=>by subst z; cases e; exact hx⟩⟩
  ·by_cases hy:ys.length≤i
   ·refine ⟨1,by simp,fun k ds e=>⟨fun z=>?_,fun z=>?_⟩⟩
    ·have:k=0:=by omega
     subst this; cases e; omega
    ·subst z; cases e; exact hy
   ·refine ⟨2,by simp,fun k ds e=>⟨fun z=>?_,fun z=>?_⟩⟩
    ·match k,z,e with
     | 0,_,e=>cases e; omega
     | 1,_,e=>cases e; omega
    ·subst z; cases e; omega
 ·obtain ⟨x,y,z,e,h1,h2,h3⟩:=lJ xs ys zs i d hd
  subst e
  refine ⟨[x,y,z],rfl,rfl,fun k ds e=>?_⟩
  match k,e with
  | 0,e=>cases e; exact h1
  | 1,e=>cases e; exact h2
  | 2,e=>cases e; exact h3
noncomputable def rY (ds:List D):Option (List D):=match ds with
 | [a,b,c]=>(a5 a).bind fun xs=>(a5 b).bind fun ys=>(a5 c).map fun zs=>dl xs ys zs
 | _=>none
theorem qp {ds xs:List D} (h:rY ds=some xs):∃ a b c,ds=[a,b,c]:=by
 unfold rY at h
 split at h
 ·exact ⟨_,_,_,rfl⟩
 ·cases h
noncomputable def rX (f:DE→Option (List D)) (E:DE):Option (List D):=(f E).bind rY
theorem zM {X:Cx}{pos:Pos}{elts:List Expr}{x1}{tp:Pos}{a b c:Expr}{f:DE→Option (List D)} {p:Pos} (hg:Gl X "zip") (hm:X.mg "zip" = none) (ha:Ea X [a,b,c] f) (hs:aO a=true:=by rfl) (hs2:aO b=true:=by rfl) (hs3:aO c=true:=by rfl):Ei X (.Tuple elts x1 tp) (.Call (.Name "zip" p) [a,b,c] [] pos) (rX f) :=
 PI.by (y8 hg hm ha.h (aA a [b,c] X.env hs) (by rw [aA b [c] X.env hs2,aA c [] X.env hs3]; rfl)) fun σ H R zz152_0=>by
  obtain ⟨B,F,E,xs,k,q,w⟩:=zz152_0
  unfold rX at q
  cases hf:f E with
  | none=>simp [hf] at q
  | some ds =>
   rw [hf] at q
   refine ⟨B,F,E,ds,k,hf,fun vs F' H' x r=>?_⟩
   obtain ⟨d1,d2,d3,rfl⟩:=qp q
   obtain ⟨v1,ws,rfl,r1,r⟩:=r.c1
   obtain ⟨v2,ws,rfl,r2,r⟩:=r.c1
   obtain ⟨v3,ws,rfl,r3,r⟩:=r.c1
   obtain rfl:=r.c0
   ·have q':((a5 d1).bind fun xs=>(a5 d2).bind fun ys=>(a5 d3).map fun zs=>dl xs ys zs)=some xs:=q
    cases h1:a5 d1 with
    | none=>rw [h1] at q'; cases q'
    | some s1 =>
     cases h2:a5 d2 with
     | none=>rw [h1,h2] at q'; cases q'
     | some s2 =>
      cases h3:a5 d3 with
      | none=>rw [h1,h2,h3] at q'; cases q'
      | some s3 =>
       rw [h1,h2,h3] at q'
       cases q'
       obtain ⟨b1,l1,rfl,p1⟩:=ja r1 h1
       obtain ⟨b2,l2,rfl,p2⟩:=ja r2 h2
       obtain ⟨b3,l3,rfl,p3⟩:=ja r3 h3
       refine ⟨[(b1,l1),(b2,l2),(b3,l3)],rfl,rfl,fun p hp=>?_,w _ F' H' x (xk (srcs:=[s1,s2,s3]) rfl (fun k p ds e1 e2=>?_) (CP s1 s2 s3))⟩
       ·have z:p=(b1,l1)∨p=(b2,l2)∨p=(b3,l3):=by simpa using hp
        rcases z with z | z | z
        ·rw [z]; obtain ⟨vs,sq,_⟩:=p1.sq (K:=X.K) x.sub; exact ⟨vs,sq⟩
        ·rw [z]; obtain ⟨vs,sq,_⟩:=p2.sq (K:=X.K) x.sub; exact ⟨vs,sq⟩
        ·rw [z]; obtain ⟨vs,sq,_⟩:=p3.sq (K:=X.K) x.sub; exact ⟨vs,sq⟩
       ·match k,e1,e2 with
        | 0,e1,e2=>cases e1; cases e2; exact p1
        | 1,e1,e2=>cases e1; cases e2; exact p2
        | 2,e1,e2=>cases e1; cases e2; exact p3
end L2.Cu
namespace L2
open PySem PySem.Spec PyProof.Rows
section
variable {prog:Program}{w:World}{A:Around}{E:Value→Shared→Prop}{s:Shared}
theorem wx (xs:List Value):((List.range xs.toArray.size).filterMap fun (k:Nat)=>xs.toArray[(((xs.toArray.size:Nat):Int) - 1 + (k:Int) * (-1)).toNat]?)=xs.reverse:=by
 have h1:∀ ys:List Value,(List.range ys.length).filterMap (fun k=>ys[k]?)=ys:=fun ys=>by
  have h:=pick_run ys.toArray 0 ys.length
  simpa using h
 have h2:∀ (l:List Nat) (f g:Nat→Option Value),(∀ k ∈ l,f k=g k)→l.filterMap f=l.filterMap g:=fun l f g h=>by
  induction l with
  | nil=>rfl
  | cons x l ih=>rw [List.filterMap_cons,List.filterMap_cons,h x (List.mem_cons_self ..),ih fun k hk=>h k (List.mem_cons_of_mem _ hk)]
 have h3:=h1 xs.reverse
 rw [List.length_reverse] at h3
 rw [List.size_toArray,← h3]
 refine h2 _ _ _ fun k hk=>?_
 have hk:=List.mem_range.mp hk
 rw [List.getElem?_reverse hk]
 have e:((xs.length:Int) - 1 + (k:Int) * (-1)).toNat=xs.length - 1 - k:=by omega
 rw [e]
 simp
end
end L2
namespace L2.Cu
open PySem PySem.Spec PyProof.Rows
noncomputable def CU (sc scope:Scope):Scope :=
 { scope with names:=scope.names.map fun p=>if (p.2 == NameKind.free && sc.kind == .function && sc.names.lookup p.1 == some .cell) then (p.1,NameKind.cell) else p }
theorem yP (scope:Scope) (env:Env):relabel scope env=CU env.scope scope:=rfl
theorem Blk.of2 {X:Cx}{sc scope scope':Scope}{C:Addr}{fp:List Addr}{s0:Shared}{H0:Hp}{N:List Str}{js:List Nat} (h:yg (CU sc scope) N scope' js=true) (h1:X.env.scope=sc) (h2:X.N=N):Blk (bY X scope C fp s0 H0) scope' js :=
 Blk.of h (by show relabel scope X.env=_; rw [yP,h1]) h2
end L2.Cu
namespace L2
open PySem PySem.Spec PyProof.Rows
theorem sH {k:Key}{u:Value} (h:gT k u=true):aW (kV k) u:=by
 rcases bA h with ⟨i,t,rfl,rfl⟩ | ⟨x,t,rfl,rfl⟩ | ⟨rfl,rfl⟩
 ·exact ⟨t,rfl⟩
 ·exact ⟨t,rfl⟩
 ·rfl
theorem eX {X:Cx}{pins:List (Addr×Obj)} {σ:St}{H:Hp}{s:Shared}{d:Addr}{ob:Obj}{kvs:List (Key×V)} (I:Inv X pins σ H s) (e:H d=some (.frz ob (.dK kvs))) :
  ∃ vs,KV kvs vs∧(d == sysModules)=false∧kvs.length≤sizeLine∧(∃ es ep,ob.data=.dict es ep)∧∀ es ep,ob.data=.dict es ep→s.heap.DictAt (aL X.prog X.w) d vs ep:=by
 obtain ⟨h0,hz,hd,vs,rel,dd⟩:=I.hok d _ e
 obtain ⟨o,es',ep',h1,h2,h3,h4⟩:=dd
 rw [h0] at h1; cases h1
 refine ⟨vs,rel,hd,hz,⟨es',ep',h3⟩,fun es ep he=>?_⟩
 obtain ⟨rfl,rfl⟩:es=es'∧ep=ep':=by rw [he] at h3; cases h3; exact ⟨rfl,rfl⟩
 exact ⟨ob,es,h0,h2,he,h4⟩
theorem KV.at {kvs:List (Key×V)} {vs:List (Key×Value)} (r:KV kvs vs) {i:Nat}{k:Key}{u:Value} (h:vs[i]? = some (k,u)):∃ v,kvs[i]? = some (k,v)∧aW v u:=by
 induction r generalizing i with
 | nil=>simp at h
 | @cons p q _ _ h1 t ih =>
  cases i with
  | zero =>
   simp at h
   subst h
   have h3:p.1=k:=h1.1
   exact ⟨p.2,by rw [← h3]; rfl,h1.2⟩
  | succ j =>
   simp at h
   obtain ⟨v,e1,e2⟩:=ih h
   exact ⟨v,by simpa using e1,e2⟩
noncomputable def Itd (d:Addr) (ob:Obj) (kvs:List (Key×V)):It :=
 ⟨fun i H=>H d=some (.frz ob (.dK kvs))∧i < kvs.length,fun i H x H'=>H'=H∧∃ k v,kvs[i]? = some (k,v)∧x=kV k,fun i H=>H d=some (.frz ob (.dK kvs))∧kvs.length=i⟩
theorem qx {P:Program}{w:World}{K:PySem.W.Frag}{tg:Expr} (d it:Addr) (ob:Obj) (kvs:List (Key×V)) (es:Array DictEntry) (ep:Nat) (he:ob.data=.dict es ep):lD P w K tg (Itd d ob kvs) [it] it (fun i h=>h.IsKeyIter it d i kvs.length ep) where
 mem:=by simp
 obj:=fun i h st b hb=>by
  have e:b=it:=by simpa using hb
  subst e
  obtain ⟨o,e,c,d⟩:=st
  exact ⟨o,e,fun v z=>by rw [d] at z; cases z⟩
 keep:=fun i h h' st k=>st.at fun o e=>k it (by simp) o e
 item:=by
  intro X hP hw hK hc i pins s σ H E I hf st hg
  subst hP hw hK
  obtain ⟨e,hi⟩:=hg
  obtain ⟨vs,rel,hd,hz,_,at_⟩:=eX I e
  have hm:=at_ es ep he
  have hl:=rel.length
  obtain ⟨⟨k,u⟩,hx⟩:∃ p,vs[i]? = some p:=⟨vs[i]'(by omega),List.getElem?_eq_getElem _⟩
  obtain ⟨v,hkv,_⟩:=rel.at hx
  obtain ⟨f0,f1,f2,f3,f4,f5⟩:=hf it (by simp)
  refine wpAny_pyNext_dict_item (knd:=aL X.prog X.w) (by rw [← hl]; exact st) hm hx fun key h' hkey st' sb=>?_
  have I1:Inv X pins σ H { s with heap:=h' }:=I.turned (t':=s.toks) (fun b o hb e=>(sb.2 b hb).trans e) f0 f1 f3 f4 f5
  obtain ⟨o,e,c,d⟩:=id st'
  exact ⟨key,rfl,sQ (s:={ s with heap:=h' }) e c d (by decide) ⟨kV k,H,I1,sH hkey,⟨rfl,k,v,hkv,rfl⟩,by rw [hl]; exact st',fun b hb=>(hf b hb).1⟩⟩
 done:=by
  intro X hP hw hK hc i pins s σ H E I hf st hg
  subst hP hw hK
  obtain ⟨e,hi⟩:=hg
  obtain ⟨vs,rel,hd,hz,_,at_⟩:=eX I e
  have hm:=at_ es ep he
  have hl:=rel.length
  obtain ⟨f0,f1,f2,f3,f4,f5⟩:=hf it (by simp)
  exact wpAny_pyNext_dict_end (knd:=aL X.prog X.w) (I.ok.hd hc) (by rw [← hl]; exact st) hm (List.getElem?_eq_none (by omega)) fun h' eb=>⟨rfl,I.turned (t':=s.toks) (fun b o hb e=>eb b o hb e) f0 f1 f3 f4 f5⟩
 self:=fun _ _ _ _ _ st h=>wpAny_pyIter_keyiter st h
noncomputable def Dv (tl:TE):TI:=fun σ H R=>tl σ H fun x H1=>∃ d ob kvs,x=.ref d∧H1 d=some (.frz ob (.dK kvs))∧R (Itd d ob kvs) H1
theorem za {X:Cx}{tg l:Expr}{tl:TE} (hl:PE X l tl):PI X tg l (Dv tl):=by
 intro pins s σ H R I h
 refine thn (hl pins s σ H _ I h) fun v s1 zz153_0=>?_
 obtain ⟨x,H1,I1,r1,q1⟩:=zz153_0
 obtain ⟨d,ob,kvs,e,hq,q⟩:=q1
 subst e
 cases r1
 obtain ⟨vs,rel,hd,hz,⟨es,ep,he⟩,at_⟩:=eX I1 hq
 have hm:=at_ es ep he
 refine wpAny_pyIter_dict (knd:=aL X.prog X.w) hd hm ?_
 refine ⟨s1.heap.objs.size,[s1.heap.objs.size],_,_,H1,rfl,I1.kept (t':=s1.toks) fun b o e=>Heap.get?_push_of_some _ e,qx d _ ob kvs es ep he,⟨_,Heap.get?_push_size _ rfl,rfl,by rw [rel.length]; rfl⟩,fun b hb=>?_,q⟩
 have e:b=s1.heap.objs.size:=by simpa using hb
 subst e
 exact I1.fpOk (Nat.le_refl _) (I1.hok.fresh (Nat.le_refl _))
noncomputable def Iti (d:Addr) (ob:Obj) (kvs:List (Key×V)):It :=
  ⟨fun i H=>H d=some (.frz ob (.dK kvs))∧i < kvs.length,
   fun i H x H'=>∃ (T:Addr) (k:Key) (v:V),x=.ref T∧H T=none∧H'=upd H T (.tup [kV k,v])∧kvs[i]? = some (k,v),
   fun i H=>H d=some (.frz ob (.dK kvs))∧kvs.length=i⟩
theorem oz {P:Program}{w:World}{K:PySem.W.Frag}{elts:List Expr}{x1}{pos:Pos} (d it:Addr) (ob:Obj) (kvs:List (Key×V)) (es:Array DictEntry) (ep:Nat) (he:ob.data=.dict es ep) :
  lD P w K (.Tuple elts x1 pos) (Iti d ob kvs) [it] it (fun i h=>∃ ok ov,IsItemIter h it d i kvs.length ep ok ov) where
 mem:=by simp
 obj:=fun i h zz154_0 b hb=>by
  obtain ⟨ok,ov,st⟩:=zz154_0
  have e:b=it:=by simpa using hb
  subst e
  exact ⟨_,st,fun v z=>by have z':Data.fields _=Data.cell v:=z; cases z'⟩
 keep:=fun i h h' ⟨ok,ov,st⟩ k=>⟨ok,ov,k it (by simp) _ st⟩
 item:=by
  intro X hP hw hK hc i pins s σ H E I hf st hg
  subst hP hw hK
  obtain ⟨ok,ov,st⟩:=st
  obtain ⟨e,hi⟩:=hg
  obtain ⟨vs,rel,hd,hz,_,at_⟩:=eX I e
  have hm:=at_ es ep he
  have hl:=rel.length
  obtain ⟨⟨k,u⟩,hx⟩:∃ p,vs[i]? = some p:=⟨vs[i]'(by omega),List.getElem?_eq_getElem _⟩
  obtain ⟨v,hkv,ru⟩:=rel.at hx
  refine wpAny_pyNext_items_item (knd:=aL X.prog X.w) (by rw [← hl]; exact st) hm hx fun key h' hkey ho hT hsz kk=>?_
  refine ⟨_,rfl,wpAny_letOwnedTupleGo_items (s:={ s with heap:=h' }) ho fun h2 he2 s2=>?_⟩
  have hT0:H s.heap.objs.size=none:=I.fresh
  have hml:it < s.heap.objs.size:=Heap.lt_size st
  have hf1:∀ c ∈ [it],gP X pins (upd H s.heap.objs.size (.tup [kV k,v])) c:=fun c hcm=>by
   have hcc:c=it:=by simpa using hcm
   refine ⟨?_,(hf c hcm).2⟩
   rw [ah (by rw [hcc]; exact Nat.ne_of_lt hml)]
   exact (hf c hcm).1
  have I1:Inv X pins σ (upd H s.heap.objs.size (.tup [kV k,v])) { s with heap:=s.heap.push { cls:=.type "tuple",data:=.seq #[key,u] },toks:=s.toks }:=I.laid (t':=s.toks) (fun c v e=>Heap.get?_push_of_some _ e) (Nat.le_refl _)
   ⟨by show 2≤sizeLine; decide,[key,u],.cons (sH hkey) (.cons ru .nil),⟨_,Heap.get?_push_size _ rfl,rfl,_,rfl⟩⟩
  have I2:Inv X pins σ (upd H s.heap.objs.size (.tup [kV k,v])) { s with heap:=h2,toks:=s.toks }:=I1.turnedN (t':=s.toks) (h':=h2) (fun (c:Nat) o hcn e=>by
   have h1:¬ c=it:=by simpa using hcn
   refine s2.extBut _ _ h1 ?_
   rcases Heap.get?_push_cases e with ⟨e1,e2⟩ | e'
   ·subst e1 e2; exact hT
   ·exact kk c o h1 e') hf1
  exact ⟨.ref s.heap.objs.size,_,I2,rfl,⟨_,k,v,rfl,hT0,rfl,hkv⟩,⟨_,_,by rw [hl]; exact he2⟩,fun c hcm=>(hf1 c hcm).1⟩
 done:=by
  intro X hP hw hK hc i pins s σ H E I hf st hg
  subst hP hw hK
  obtain ⟨ok,ov,st⟩:=st
  obtain ⟨e,hi⟩:=hg
  obtain ⟨vs,rel,hd,hz,_,at_⟩:=eX I e
  have hm:=at_ es ep he
  have hl:=rel.length
  obtain ⟨f0,f1,f2,f3,f4,f5⟩:=hf it (by simp)
  exact wpAny_pyNext_items_end (knd:=aL X.prog X.w) (I.ok.hd hc) (by rw [← hl]; exact st) hm (List.getElem?_eq_none (by omega)) fun h' eb=>⟨rfl,I.turned (t':=s.toks) (fun b o hb e=>eb b o hb e) f0 f1 f3 f4 f5⟩
 self:=fun A i s Q E zz156_0 h=>by
  obtain ⟨ok,ov,st⟩:=zz156_0
  have hT:s.TypeIs (.ref it) "dict_itemiterator" := ⟨_,st,rfl⟩
  refine wpAny_pyIter_slot hT PySem.F.slot_dict_itemiterator_iter (wpAny_call_entry PySem.F.slot_dict_itemiterator_iter hT PySem.W.kcp_entry ?_ (PySem.F.args_dict_itemiterator_iter_1 _))
  show wpAny _ _ (ret (.ref it)) _ _ s
  exact wpAny_pure ⟨_,rfl,"dict_itemiterator",_,hT,F.slot_dict_itemiterator_next.lookup,h⟩
noncomputable def BT (tl:TE):TI:=fun σ H R=>tl σ H fun x H1=>∃ d ob kvs,x=.ref d∧H1 d=some (.frz ob (.dK kvs))∧R (Iti d ob kvs) H1
theorem wA {X:Cx}{elts:List Expr}{x1}{tp:Pos}{o:Expr}{apos cpos:Pos}{tl:TE} (hl:PE X o tl) (hbase:attributeBase o "items" X.env (eval o X.env)=eval o X.env:=by rfl) (hline:(apos.endLine == cpos.line)=true:=by rfl) :
  PI X (.Tuple elts x1 tp) (.Call (.Attribute o "items" apos) [] [] cpos) (BT tl):=by
 intro pins s σ H R I h
 refine wpAny_Call_method (T := "dict") (id := "dict.items") hbase rfl hline F.plainAttrs_dict F.slot_dict_items F.type_dict_items (thn (hl pins s σ H _ I h) fun v s1 zz157_0=>?_)
 obtain ⟨x,H1,I1,r1,q1⟩:=zz157_0
 obtain ⟨d,ob,kvs,e,hq,q⟩:=q1
 subst e
 cases r1
 obtain ⟨vs,rel,hd,hz,⟨es,ep,he⟩,at_⟩:=eX I1 hq
 have hm:=at_ es ep he
 refine ⟨hm.dictOf.typeIs,hm.dictOf.mapOf.noDict,?_⟩
 show wpAny _ _ (callWith cpos (.builtin "dict.items") [.ref d] [] []) _ _ s1
 refine method_meetsIn F.slot_dict_items F.entry_dict_items rfl (PySem.evalArgs_none ⟨rfl,hm.dictOf.typeIs,F.args_dict_items_1 _,_,meets_dict_items (aL X.prog X.w) d hd,⟨vs,hm.dictOf⟩,?_⟩)
 refine wpAny_pyIter_items (knd:=aL X.prog X.w) (d:=d) (kvs:=vs) (ep:=ep) ⟨_,Heap.get?_push_size _ rfl,rfl,rfl⟩ (hm.push _) ?_
 have hsz:(s1.heap.push { cls:=.type "dict_items",data:=.fields #[.ref d] }).objs.size=s1.heap.objs.size + 1:=Heap.size_push ..
 refine ⟨_,[(s1.heap.push { cls:=.type "dict_items",data:=.fields #[.ref d] }).objs.size],_,_,H1,rfl,I1.kept (t':=s1.toks) fun b o e=>Heap.get?_push_of_some _ (Heap.get?_push_of_some _ e),oz d _ ob kvs es ep he,⟨.none,.none,by rw [rel.length]; exact Heap.get?_push_size _ rfl⟩,fun b hb=>?_,q⟩
 have e:b=(s1.heap.push { cls:=.type "dict_items",data:=.fields #[.ref d] }).objs.size:=by simpa using hb
 have hle:s1.heap.objs.size≤b:=by rw [e,hsz]; exact Nat.le_succ _
 exact I1.fpOk hle (I1.hok.fresh hle)
end L2
namespace L2.Cu
open PySem PySem.Spec PyProof.Rows
noncomputable def cD:Key→D
 | .inl (some i)=>.int i
 | .inl none=>.non
 | .inr x=>.str x
theorem sj {F:Hp}:∀ k:Key,Rep F (kV k) (cD k)
 | .inl (some i)=>.int i
 | .inl none=>.non
 | .inr x=>.str x
theorem RepK.at {F:Hp}:∀ {vs:List (Key×V)} {ds:List (Key×D)} {i:Nat}{k:Key}{v:V},RepK F vs ds→vs[i]? = some (k,v)→∃ d,ds[i]? = some (k,d)∧Rep F v d
 := fun {vs ds i k v} r e=>by
  cases r with
  | nil=>cases e
  | cons r t =>
   cases i with
   | zero=>cases e; exact ⟨_,rfl,r⟩
   | succ i=>exact RepK.at (i:=i) t e
noncomputable def bH:D→Option (List D)
 | .dic kvs=>some (kvs.map fun p=>cD p.1)
 | d=>aX d
theorem BP {F:Hp}{a:Addr}{ob:Obj}{vs:List (Key×V)} {ds:List (Key×D)} (h:F a=some (.frz ob (.dK vs))) (r:RepK F vs ds):oa F (Itd a ob vs) (ds.map fun p=>cD p.1):=by
 intro i F2 H2 y s
 have q:H2 a=some (.frz ob (.dK vs)):=s _ _ (y _ _ h)
 refine ⟨fun hl=>⟨q,by rw [r.length,← hl,List.length_map]⟩,fun d hd=>?_⟩
 rw [List.getElem?_map] at hd
 cases hx:ds[i]? with
 | none=>rw [hx] at hd; cases hd
 | some p =>
  rw [hx] at hd
  cases hd
  have hlt:i < vs.length:=by rw [r.length]; exact (List.getElem?_eq_some_iff.mp hx).1
  refine ⟨⟨q,hlt⟩,fun x H' yl=>?_⟩
  obtain ⟨rfl,k,v,hk,rfl⟩:=yl
  obtain ⟨d',e1,_⟩:=r.at hk
  rw [hx] at e1
  cases e1
  exact ⟨F2,Ext.refl s,sj k⟩
theorem BN {F:Hp}{a:Addr}{ob:Obj}{vs:List (Key×V)} {ds:List (Key×D)} (h:F a=some (.frz ob (.dK vs))) (r:RepK F vs ds):oa F (Iti a ob vs) (ds.map fun p=>D.tup [cD p.1,p.2]):=by
 intro i F2 H2 y s
 have q:H2 a=some (.frz ob (.dK vs)):=s _ _ (y _ _ h)
 refine ⟨fun hl=>⟨q,by rw [r.length,← hl,List.length_map]⟩,fun d hd=>?_⟩
 rw [List.getElem?_map] at hd
 cases hx:ds[i]? with
 | none=>rw [hx] at hd; cases hd
 | some p =>
  rw [hx] at hd
  cases hd
  have hlt:i < vs.length:=by rw [r.length]; exact (List.getElem?_eq_some_iff.mp hx).1
  refine ⟨⟨q,hlt⟩,fun x H' yl=>?_⟩
  obtain ⟨T,k,v,rfl,hT,rfl,hk⟩:=yl
  obtain ⟨d',e1,e2⟩:=(r.mono y).at hk
  rw [hx] at e1
  cases e1
  have X:=Ext.freeze (o:=.tup [kV k,v]) s hT
  exact ⟨upd F2 T (.tup [kV k,v]),X,Rep.tup ap (.cons (sj k) (.cons (e2.mono X.fr) .nil))⟩
theorem eD {X:Cx}{e:Expr}{y:Str}{py:Pos}{f:DE→Option D} (h:Ev X .V e f):Ei X (.Name y py) e (aP bH f):=PI.by (PI.or (za h.h) (bW (y:=y) (py:=py) h).h) fun σ H R zz158_0=>by
 obtain ⟨B,F,E,xs,k,q,w⟩:=zz158_0
 unfold aP at q
 cases hf:f E with
 | none=>simp [hf] at q
 | some d =>
  simp only [hf,Ef] at q
  cases d with
  | dic ds =>
   cases q
   refine .inl ⟨B,F,E,_,k,hf,fun v F' H' x r=>?_⟩
   cases r with
   | dic e rs=>exact ⟨_,_,_,rfl,x.sub _ _ e,w _ F' H' x (BP e rs)⟩
  | _=>exact .inr ⟨B,F,E,xs,k,by unfold aP; rw [hf]; exact q,w⟩
noncomputable def kL:D→Option (List D)
 | .dic kvs=>some (kvs.map fun p=>D.tup [cD p.1,p.2])
 | _=>none
theorem pZ {X:Cx}{elts:List Expr}{x1}{tp:Pos}{o:Expr}{apos cpos:Pos}{f:DE→Option D} (h:Ev X .V o f) (hbase:attributeBase o "items" X.env (eval o X.env)=eval o X.env:=by rfl) (hline:(apos.endLine == cpos.line)=true:=by rfl) :
  Ei X (.Tuple elts x1 tp) (.Call (.Attribute o "items" apos) [] [] cpos) (aP kL f):=PI.by (wA h.h hbase hline) fun σ H R zz159_0=>by
 obtain ⟨B,F,E,xs,k,q,w⟩:=zz159_0
 unfold aP at q
 cases hf:f E with
 | none=>simp [hf] at q
 | some d =>
  simp only [hf,Ef] at q
  cases d with
  | dic ds =>
   cases q
   refine ⟨B,F,E,_,k,hf,fun v F' H' x r=>?_⟩
   cases r with
   | dic e rs=>exact ⟨_,_,_,rfl,x.sub _ _ e,w _ F' H' x (BN e rs)⟩
  | _=>cases q
section
variable {X:Cx}{a b e:Expr}{p pos:Pos}{f g:DE→Option D}
noncomputable def DN (x:D):Option D:=match x with
 | .dic kvs=>some (.tup (kvs.map fun p=>cD p.1))
 | x=>aT x
noncomputable def pS (es:List (Key×D)) (p:Key×D):Bool:=match cF es p.1 with
 | some y=>PyData.eqv (toP p.2) (toP y)
 | none=>false
noncomputable def eqK (x y:D):Option Bool:=match x,y with
 | .dic ds,.dic es=>if ds.all (fun p=>cO p.2) && es.all (fun p=>cO p.2) then some ((ds.length == es.length) && ds.all (pS es)) else none
 | _,_=>none
theorem vO {es:List (Key×D)} {k:Key}{y:D} (h:cF es k=some y):∃ p ∈ es,p.2=y:=by
 unfold cF at h
 cases hf:es.find? fun p=>decide (p.1=k) with
 | none=>rw [hf] at h; cases h
 | some p=>rw [hf] at h; cases h; exact ⟨p,List.mem_of_find?_eq_some hf,rfl⟩
theorem Dw {X:Cx}{pins:List (Addr×Obj)} {σ:St}{F H:Hp}{s:Shared}{A:Around} (I:Inv X pins σ H s) (hs:∀ a o,F a=some o→H a=some o) (hu:A.units + 62 < cLine) {ws:List (Key×V)} {es:List (Key×D)} {kb:List (Key×Value)} (r2:RepK F ws es) (q2:KV ws kb) (d2:∀ p ∈ es,cO p.2=true) :
  ∀ {vs:List (Key×V)} {ds:List (Key×D)} {ka:List (Key×Value)},RepK F vs ds→KV vs ka→(∀ p ∈ ds,cO p.2=true)→PySem.W.KeqHits A s kb ka (ds.all (pS es))
 := fun {vs ds ka} z0 z1 d1=>by
  cases z0 with
  | nil=>cases z1; exact .nil
  | @cons k v d vs ds r t =>
   cases z1 with
   | @cons _ q _ _ h q1 =>
    have ih:=Dw I hs hu r2 q2 d2 t q1 fun p hp=>d1 p (.tail _ hp)
    obtain ⟨k',u⟩:=q
    obtain ⟨e1,e2⟩:=h
    have e1':k=k':=e1
    subst e1'
    have e2':aW v u:=e2
    obtain ⟨v1,v2⟩:=RepK.val (k:=k) r2
    have rel:=q2.val k
    cases hv:cF es k with
    | none =>
     have hn:=v2 hv
     rw [hn] at rel
     have hb:pS es (k,d)=false:=by unfold pS; rw [hv]
     rw [List.all_cons,hb,Bool.false_and]
     exact .miss (fS.none_of rel)
    | some y =>
     obtain ⟨w,hw,rw'⟩:=v1 y hv
     rw [hw] at rel
     obtain ⟨u',hu',ru'⟩:=fS.some_of rel
     have hb:pS es (k,d)=PyData.eqv (toP d) (toP y):=by unfold pS; rw [hv]
     rw [List.all_cons,hb]
     obtain ⟨a1,a2⟩:=Bool.and_eq_true_iff.mp (d1 (k,d) (.head _))
     obtain ⟨pp,hpm,hpe⟩:=vO hv
     obtain ⟨b1,b2⟩:=Bool.and_eq_true_iff.mp (hpe ▸ d2 pp hpm)
     obtain ⟨as,ra⟩:=Rep.reads I hs r e2' a1
     obtain ⟨bs,rb⟩:=Rep.reads I hs rw' ru' b1
     have a2':(toP d).depth≤60:=of_decide_eq_true a2
     exact .hit hu' (SeqAt.eqAt_reads (toP d) (toP y) A s u u' as bs ra rb a1 b1 (by omega)) ih
noncomputable def Aq (neg:Bool) (u:Nat):R2:=fun v w H Q=>∃ F ds es b,(∀ a o,F a=some o→H a=some o)∧OB F H v (.dic ds)∧OB F H w (.dic es)∧eqK (.dic ds) (.dic es)=some b∧u + 64 < cLine∧Q (.bl (if neg then !b else b)) H
theorem xR {ds es:List (Key×D)} {b:Bool} (h:eqK (.dic ds) (.dic es)=some b):(∀ p ∈ ds,cO p.2=true)∧(∀ p ∈ es,cO p.2=true)∧b=((ds.length == es.length) && ds.all (pS es)):=by
 have h':(if (ds.all (fun p=>cO p.2) && es.all (fun p=>cO p.2))=true then some ((ds.length == es.length) && ds.all (pS es)) else none)=some b:=h
 split at h'
 ·rename_i hc
  obtain ⟨h1,h2⟩:=Bool.and_eq_true_iff.mp hc
  exact ⟨List.all_eq_true.mp h1,List.all_eq_true.mp h2,(Option.some.inj h').symm⟩
 ·cases h'
theorem uq:OpR X (compareOp .NotEq) (Aq true X.A.units):=by
 intro pins s σ H v w u z Q I rv rw h
 obtain ⟨F,ds,es,b,hs,ox,oy,he,hu,q⟩:=h
 obtain ⟨h1,h2,rfl⟩:=xR he
 obtain ⟨a,vs,rfl,ha,r1⟩:=OB.dic hs ox
 obtain ⟨c,ws,rfl,hc,r2⟩:=OB.dic hs oy
 cases rv
 cases rw
 obtain ⟨_,da,ka,q1,d1⟩:=gr I.hok ha
 obtain ⟨_,db,kb,q2,d2⟩:=gr I.hok hc
 refine PySem.W.keq_ne (knd:=aL X.prog X.w) da db d1 d2 (by omega) (fun _=>Dw I hs (show X.A.in1.units + 62 < cLine by show X.A.units + 1 + 62 < cLine; omega) r2 q2 h2 r1 q1 h1) ?_
 rw [← q1.length,← q2.length,r1.length,r2.length]
 exact ⟨.bl _,H,I,rfl,q⟩
noncomputable def neE (x y:D):Option D:=match x with
 | .dic _=>(eqK x y).map fun b=>.bl (!b)
 | _=>neO x y
theorem A4 (u:Nat) (hu:u + 64 < cLine):dP .V (fun x y H Q=>(rNe x y H Q∨o4 true u x y H Q)∨Aq true u x y H Q) neE:=fun F H v w x y d Q s rx ry h q=>by
 cases x with
 | dic ds =>
  cases y with
  | dic es =>
   have h':(eqK (.dic ds) (.dic es)).map (fun b=>D.bl (!b))=some d:=h
   cases he:eqK (.dic ds) (.dic es) with
   | none=>rw [he] at h'; cases h'
   | some b=>rw [he] at h'; cases h'; exact .inr ⟨F,ds,es,b,s,rx,ry,he,hu,q _ F H (Ext.refl s) (.bl (!b))⟩
  | _=>cases h
 | _=>exact .inl (we u hu F H v w _ y d Q s rx ry h q)
theorem xI (hr:X.A.units + 64 < cLine) (ha:Ev X .O a f) (hb:Ev X .O b g):Et X (.Compare a [.NotEq] [b] pos) (tst (bin neE f g)):=nO (OpR.or (OpR.or At l7) uq) (A4 _ hr) ha hb (gh _)
end
noncomputable def wp {α:Type} (o:Option α) (P:α→Prop):Prop:=match o with
 | some a=>P a
 | none=>False
theorem ab {α:Type}{a:α}{P:α→Prop}:wp (some a) P=P a:=rfl
theorem aG {α β:Type}{o:Option α}{k:α→Option β}{P:β→Prop}:wp (o.bind k) P=wp o (fun a=>wp (k a) P):=by cases o <;> rfl
theorem bh {α β:Type}{o:Option α}{k:α→β}{P:β→Prop}:wp (o.map k) P=wp o (fun a=>P (k a)):=by cases o <;> rfl
theorem dA {α:Type}{o:Option α}{P Q:α→Prop} (h:wp o P) (w:∀ a,P a→Q a):wp o Q:=by
 cases o with
 | none=>exact h
 | some a=>exact w a h
theorem aM {α:Type}{o:Option α}{a:α} (h:wp o (fun b=>b=a)):o=some a:=by
 cases o with
 | none=>exact False.elim h
 | some b=>exact congrArg some h
theorem eG {α:Type}{o:Option α}{P:α→Prop}:wp o P ↔ ∃ a,o=some a∧P a:=by
 cases o with
 | none=>exact ⟨False.elim,fun ⟨_,h,_⟩=>by cases h⟩
 | some b=>exact ⟨fun h=>⟨b,rfl,h⟩,fun ⟨_,h,p⟩=>by cases h; exact p⟩
theorem b_ {α:Type}{c:Prop} [Decidable c] {a b:Option α}{P:α→Prop} (h:c) (q:wp a P):wp (if c then a else b) P:=by rw [if_pos h]; exact q
theorem bq {i j:Int} (h:0 < j):cz (.int i) (.int j)=some (.int (i % j)):=if_pos h
theorem qX {j:Int} (h:j≤10 ^ 200) (h0:0 < j):j.natAbs.log2 < 9000:=by
 rw [Nat.log2_lt (by omega)]
 have h1:(j.natAbs:Int)≤10 ^ 200:=by omega
 have h2:((10:Nat) ^ 200:Nat) < 2 ^ 9000:=by decide
 have h3:j.natAbs≤(10:Nat) ^ 200:=by
  have:((10:Int) ^ 200)=(((10:Nat) ^ 200:Nat):Int):=by decide
  omega
 exact Nat.lt_of_le_of_lt h3 h2
theorem cp {i j:Int} (h:0 < j) (h2:j≤10 ^ 200):bX (.int i) (.int j)=some (.int (i / j)):=if_pos ⟨h,qX h2 h⟩
theorem uG {i j:Int} (h:Builtin.Int.intBits i≤2 ^ 20) (h2:Builtin.Int.intBits j≤2 ^ 20):wX (.int i) (.int j)=some (.int (i * j)):=if_pos ⟨h,h2⟩
theorem jP {i j:Int} (h:0≤j) (h2:j≤1000000) (h3:i.natAbs < 2 ^ 64):o6 (.int i) (.int j)=some (.int (i ^ j.toNat)):=if_pos ⟨h,h2,h3⟩
theorem jS {i j:Int}:ltD (.int i) (.int j)=some (.bl (decide (i < j))):=rfl
theorem nB {i j:Str}:ltD (.str i) (.str j)=some (.bl (decide (i.cps.toList < j.cps.toList))):=rfl
theorem iH {i j:Int}:leD (.int i) (.int j)=some (.bl (decide (i≤j))):=rfl
theorem nD {i j:Str}:leD (.str i) (.str j)=some (.bl (!decide (j.cps.toList < i.cps.toList))):=rfl
theorem jT {i j:Int}:gtD (.int i) (.int j)=some (.bl (decide (j < i))):=rfl
theorem sR {i j:Int}:geD (.int i) (.int j)=some (.bl (decide (j≤i))):=rfl
theorem fV {i j:Int}:qA (.int i) (.int j)=some (.int (i - j)):=rfl
theorem tt {α:Type}{xs:List α}{i:Int} (h:0≤i) (h2:i < xs.length):atI xs i=xs[i.toNat]?:=by
 unfold atI ixN
 rw [if_pos h,if_pos h2]; rfl
theorem bZ {α:Type}{xs:List α}{i:Nat}:atI xs (i:Int)=xs[i]?:=by
 unfold atI ixN
 rw [if_pos (by omega)]
 by_cases h:(i:Int) < xs.length
 ·rw [if_pos h]; rfl
 ·rw [if_neg h]
  exact (List.getElem?_eq_none (by omega)).symm
theorem vI {α:Type}{xs:List α}{i:Int}{P:α→Prop} (h:0≤i) (h2:i < xs.length) (q:∀ d ∈ xs,P d):wp (atI xs i) P:=by
 have hlt:i.toNat < xs.length:=by omega
 rw [tt h h2,List.getElem?_eq_getElem hlt]
 exact q _ (List.getElem_mem hlt)
theorem ix (x:Str):x.length=x.cps.toList.length:=by
 show x.cps.size=_
 simp
theorem zz {z:Str}{i:Int} (hz:z.length≤16777216) (h:0≤i) (h2:i < z.length):ixD (.str z) (.int i)=some (.str ⟨#[z.cps.toList.getD i.toNat 0]⟩):=by
 show (if z.length≤16777216 then (atI z.cps.toList i).map fun c=>D.str ⟨#[c]⟩ else none)=_
 rw [ix] at h2
 rw [if_pos hz,tt h h2]
 have hlt:i.toNat < z.cps.toList.length:=by omega
 rw [List.getElem?_eq_getElem hlt,List.getD_eq_getElem?_getD,List.getElem?_eq_getElem hlt]
 rfl
theorem mV (x y:Str):(x ++ y).cps.toList=x.cps.toList ++ y.cps.toList:=by
 show (x.cps ++ y.cps).toList=_
 simp
theorem di {i j:Int}:cB (.int i) (.int j)=some (.int (i + j)):=rfl
theorem ym {i j:Str} (h:i.length + j.length≤16777216):cB (.str i) (.str j)=some (.str (i ++ j)):=if_pos h
theorem qg {i j:List D} (h:i.length + j.length≤16777216):cB (.tup i) (.tup j)=some (.tup (i ++ j)):=if_pos h
theorem sN {xs:List D}{i:Int}:ixD (.lst xs) (.int i)=atI xs i:=rfl
theorem sL {xs:List D}{i:Int}:ixD (.tup xs) (.int i)=atI xs i:=rfl
theorem sM {xs:List Int}{i:Int}:ixD (.scr xs) (.int i)=(atI xs i).map D.int:=rfl
theorem pP {xs:List D}:uO (.lst xs)=some (.int xs.length):=rfl
theorem pM {xs:List D}:uO (.tup xs)=some (.int xs.length):=rfl
theorem pO {xs:List Int}:uO (.scr xs)=some (.int xs.length):=rfl
theorem xb {x:Str} (h:x.length≤16777216):uO (.str x)=some (.int x.length):=if_pos h
theorem sg {xs:List D}{lo hi:Option Int}:slD (.lst xs) lo hi=some (.lst (cA xs lo hi)):=rfl
theorem gB {xs:List D}{lo hi:Option Int}:slD (.tup xs) lo hi=some (.tup (cA xs lo hi)):=rfl
theorem m3 {xs:List Int}{lo hi:Option Int}:slD (.scr xs) lo hi=some (.lst ((cA xs lo hi).map D.int)):=rfl
theorem yK {x:Str}{lo hi:Option Int} (h:x.length≤16777216):slD (.str x) lo hi=some (.str (Txt.slice x lo hi)):=if_pos h
theorem dF {i j:Int}:eqO (.int i) (.int j)=some (.bl (decide (i=j))):=rfl
theorem nQ {i j:Str}:eqO (.str i) (.str j)=some (.bl (decide (i=j))):=rfl
theorem rl {i j:Bool}:eqO (.bl i) (.bl j)=some (.bl (decide (i=j))):=rfl
theorem eA {i j:Int}:neO (.int i) (.int j)=some (.bl (!decide (i=j))):=rfl
theorem sC {i j:Str}:neO (.str i) (.str j)=some (.bl (!decide (i=j))):=rfl
theorem sP {c:Nat}{z:Str}:inO (.str ⟨#[c]⟩) (.str z)=some (.bl (decide (c ∈ z.cps.toList))):=by
 show some (D.bl (!(Builtin.Str.occurrences z ⟨#[c]⟩ 0 z.length 1).isEmpty))=_
 rw [PySem.StrLaws.found_one]
theorem pA {c:Nat}{z:Str}:wS (.str ⟨#[c]⟩) (.str z)=some (.bl (!decide (c ∈ z.cps.toList))):=by
 show some (D.bl (!(!(Builtin.Str.occurrences z ⟨#[c]⟩ 0 z.length 1).isEmpty)))=_
 rw [PySem.StrLaws.found_one]
noncomputable def AX (g:DE→Option Out) (P:Out→Prop):Out→Prop
 | .nx E=>wp (g E) P
 | r=>P r
theorem aq {g:DE→Option Out}{P:Out→Prop}{E:DE}:AX g P (.nx E)=wp (g E) P:=rfl
theorem ca {g:DE→Option Out}{P:Out→Prop}{d:D}:AX g P (.rt d)=P (.rt d):=rfl
theorem aw {f g:DE→Option Out}{E:DE}{P:Out→Prop}:wp (av f g E) P=wp (f E) (AX g P):=by
 unfold av; rw [aG]
 congr 1
 funext r
 cases r <;> rfl
noncomputable def ifK (f g:DE→Option Out) (E:DE) (P:Out→Prop) (b:Bool):Prop:=wp (if b=true then f E else g E) P
theorem cm {f g:DE→Option Out}{E:DE}{P:Out→Prop}:ifK f g E P true=wp (f E) P:=rfl
theorem bx {f g:DE→Option Out}{E:DE}{P:Out→Prop}:ifK f g E P false=wp (g E) P:=rfl
theorem bv {c:DE→Option Bool}{f g:DE→Option Out}{E:DE}{P:Out→Prop}:wp (ifS c f g E) P=wp (c E) (ifK f g E P):=by
 unfold ifS; rw [aG]; rfl
theorem rg {f g:DE→Option Out}{E:DE}{P:Out→Prop}{b:Bool} (h1:b=true→wp (f E) P) (h2:b=false→wp (g E) P):ifK f g E P b:=by
 cases b with
 | true=>exact h1 rfl
 | false=>exact h2 rfl
theorem iJ {f g:DE→Option Out}{E:DE}{P:Out→Prop}{c:Prop} [Decidable c] (h1:c→wp (f E) P) (h2:¬ c→wp (g E) P):ifK f g E P (decide c) :=
 rg (fun h=>h1 (of_decide_eq_true h)) fun h=>h2 (of_decide_eq_false h)
noncomputable def yM (P:D→Prop):Out→Prop
 | .rt d=>P d
 | .nx _=>P .non
 | _=>False
theorem ax {P:D→Prop}{d:D}:yM P (.rt d)=P d:=rfl
theorem m7 {P:D→Prop}{E:DE}:yM P (.nx E)=P .non:=rfl
theorem az {n m:Nat}{b:DE→Option Out}{ds:List D}{P:D→Prop} (h:ds.length=n):wp (bi n m b ds) P=wp (b (ds.map Sl.val ++ List.replicate (m - n) Sl.no)) (yM P):=by
 unfold bi
 rw [if_pos h,aG]
 congr 1
 funext r
 cases r <;> rfl
theorem fU {n:Nat} (h:n≤16777216):n≤sizeLine:=h
theorem eQ {n:Nat} (h:n < 16777216):n < sizeLine:=h
theorem be {n:Nat} (h:n≤16777216):(n≤sizeLine)=True:=eq_true h
theorem jr {n:Nat} (h:n < 16777216):(n < sizeLine)=True:=eq_true h
theorem cj {f:DE→Option (List D)} {E:DE}:eU f E=(f E).bind jt:=rfl
theorem km {f:DE→Option (List D)} {E:DE}:v_ f E=(f E).bind l0:=rfl
theorem cY {j:Int} (h : -4000000000≤j) (h2:j≤4000000000):jt [.int j]=some (cV 0 j.toNat):=if_pos ⟨by omega,by omega⟩
theorem uc {i j:Int} (h : -4000000000≤i) (h2:i≤4000000000) (h3 : -4000000000≤j) (h4:j≤4000000000):l0 [.int i,.int j]=some (cV i (j - i).toNat):=if_pos ⟨⟨by omega,by omega⟩,⟨by omega,by omega⟩⟩
noncomputable def pI (gf:D→DE→Option DE) (fb:DE→Option Out) (xs:List D) (E:DE):Option Out:=kG (fun x E1=>(gf x E1).bind fb) xs E
theorem bD {fi:DE→Option (List D)} {gf:D→DE→Option DE}{fb:DE→Option Out}{E:DE}{P:Out→Prop}:wp (cR fi gf fb E) P=wp (fi E) (fun xs=>wp (pI gf fb xs E) P):=by
 unfold cR; rw [aG]; rfl
section
variable {α:Type} (enc:α→D) (ys:List α) (I:List α→DE→Prop) {gf:D→DE→Option DE}{fb:DE→Option Out}{xs:List D}{E:DE}{P:Out→Prop}
theorem vH (hx:xs=ys.map enc) (h0:I [] E)
  (step:∀ pre x post E,ys=pre ++ x :: post→I pre E→wp (gf (enc x) E) fun E1=>wp (fb E1) fun r=>match r with | .nx E'=>I (pre ++ [x]) E' | .ct E'=>I (pre ++ [x]) E' | .bk E'=>P (.nx E') | .rt d=>P (.rt d)) (fin:∀ E',I ys E'→P (.nx E')):wp (pI gf fb xs E) P:=by
 subst hx
 have go:∀ (post pre:List α) (E:DE),ys=pre ++ post→I pre E→wp (pI gf fb (post.map enc) E) P:=by
  intro post
  induction post with
  | nil=>intro pre E h i; rw [List.append_nil] at h; subst h; exact fin E i
  | cons x post ih =>
   intro pre E h i
   show wp (((gf (enc x) E).bind fb).bind _) P
   rw [aG,aG]
   refine dA (step pre x post E h i) fun E1 q1=>dA q1 fun r q=>?_
   have nxt:∀ E',I (pre ++ [x]) E'→wp (pI gf fb (post.map enc) E') P:=fun E' i'=>ih (pre ++ [x]) E' (by rw [h]; simp) i'
   cases r with
   | nx E'=>exact nxt E' q
   | ct E'=>exact nxt E' q
   | bk E'=>exact q
   | rt d=>exact q
 exact go ys [] E rfl h0
theorem bM (hx:xs=ys.map enc) (h0:I [] E)
  (step:∀ pre x post E,ys=pre ++ x :: post→I pre E→wp (gf (enc x) E) fun E1=>wp (fb E1) fun r=>match r with | .nx E'=>I (pre ++ [x]) E' | .ct E'=>I (pre ++ [x]) E' | _=>False) (fin:∀ E',I ys E'→P (.nx E')):wp (pI gf fb xs E) P :=
 vH enc ys I hx h0 (fun pre x post E h i=>dA (step pre x post E h i) fun E1 q=>dA q fun r q=>by cases r <;> first | exact q | exact False.elim q) fin
end
theorem dS {α:Type} (enc:α→D) (f:α→D) {gf:D→DE→Option DE}{cf:DE→Option Bool}{ef:DE→Option D}{E:DE}:∀ (ys:List α),(∀ x ∈ ys,wp (gf (enc x) E) fun E1=>cf E1=some true∧ef E1=some (f x))→bu gf cf ef E (ys.map enc)=some (ys.map f)
 | [],_=>rfl
 | x :: ys,h=>by
  obtain ⟨E1,h1,h2,h3⟩:=eG.mp (h x List.mem_cons_self)
  show (gf (enc x) E).bind _=_
  rw [h1]
  show (cf E1).bind _=_
  rw [h2]
  show (if true=true then (ef E1).bind (fun y=>(bu gf cf ef E (ys.map enc)).map fun zs=>y :: zs) else bu gf cf ef E (ys.map enc))=_
  rw [if_pos rfl,h3,dS enc f ys fun y hy=>h y (List.mem_cons_of_mem _ hy)]
  rfl
theorem iT {α:Type} (enc:α→D) (p:α→Bool) (f:α→D) {gf:D→DE→Option DE}{cf:DE→Option Bool}{ef:DE→Option D}{E:DE}:∀ (ys:List α),(∀ x ∈ ys,wp (gf (enc x) E) fun E1=>cf E1=some (p x)∧(p x=true→ef E1=some (f x)))→bu gf cf ef E (ys.map enc)=some ((ys.filter p).map f)
 | [],_=>rfl
 | x :: ys,h=>by
  obtain ⟨E1,h1,h2,h3⟩:=eG.mp (h x List.mem_cons_self)
  have ih:=iT enc p f (gf:=gf) (cf:=cf) (ef:=ef) (E:=E) ys fun y hy=>h y (List.mem_cons_of_mem _ hy)
  show (gf (enc x) E).bind _=_
  rw [h1]
  show (cf E1).bind _=_
  rw [h2]
  show (if p x=true then (ef E1).bind (fun y=>(bu gf cf ef E (ys.map enc)).map fun zs=>y :: zs) else bu gf cf ef E (ys.map enc))=_
  cases hp:p x with
  | true =>
   rw [if_pos rfl,h3 hp,ih,List.filter_cons_of_pos hp]
   rfl
  | false =>
   rw [if_neg (by simp),ih,List.filter_cons_of_neg (by simp [hp])]
theorem cn {α:Type} (f:α→Bool):∀ ys:List α,lB (ys.map fun x=>D.bl (f x))=some (ys.map f)
 | []=>rfl
 | x :: ys=>by
  show (lB (ys.map fun x=>D.bl (f x))).map _=_
  rw [cn f ys]; rfl
noncomputable def mk (l:List Nat):Str:=⟨l.toArray⟩
theorem dE (l:List Nat):(mk l).cps.toList=l:=by simp [mk]
theorem Dj (x:Str):mk x.cps.toList=x:=by cases x; simp [mk]
theorem d7 (l:List Nat):(mk l).length=l.length:=by rw [ix,dE]
theorem BA (a b:List Nat):mk a ++ mk b=mk (a ++ b):=mU (by rw [mV,dE,dE,dE])
theorem Bz {a b:List Nat}:mk a=mk b ↔ a=b:=⟨fun h=>by rw [← dE a,h,dE],fun h=>by rw [h]⟩
theorem clip_eq (v:Option Int) (n d:Nat) (hd:d≤n):(match v with | none=>(d:Int) | some i=>max (0:Int) (min (if i < 0 then i + (n:Int) else i) (n:Int)):Int)=((HT.sIx n d v:Nat):Int):=by
 cases v with
 | none=>rfl
 | some i =>
  show max 0 (min (if i < 0 then i + (n:Int) else i) n)=((if i < 0 then (i + (n:Int)).toNat else min i.toNat n:Nat):Int)
  by_cases h:i < 0
  ·rw [if_pos h,if_pos h,Int.min_eq_left (Int.add_le_of_le_sub_right (by rw [Int.sub_self]; exact Int.le_of_lt h)),Int.ofNat_toNat,Int.max_comm]
  ·have h0:=Int.not_lt.mp h
   rw [if_neg h,if_neg h,Int.max_eq_right (Int.le_min.mpr ⟨h0,Int.natCast_nonneg n⟩)]; omega
theorem sIx_le (v:Option Int) (n d:Nat) (hd:d≤n):HT.sIx n d v≤n:=by
 cases v with
 | none=>exact hd
 | some i =>
  show (if i < 0 then (i + (n:Int)).toNat else min i.toNat n)≤n
  split <;> omega
theorem rf (lo hi:Option Int) (n:Nat):Builtin.Str.strSliceIndices lo hi 1 n=(List.range (HT.sIx n n hi - HT.sIx n 0 lo)).map fun k=>HT.sIx n 0 lo + k:=by
 have e1:=clip_eq lo n 0 (Nat.zero_le _)
 have e2:=clip_eq hi n n (Nat.le_refl _)
 have e:Builtin.Str.strSliceIndices lo hi 1 n=sliceRange (HT.sIx n 0 lo:Nat) (HT.sIx n n hi:Nat) 1:=by
  rw [← e1,← e2]
  unfold Builtin.Str.strSliceIndices
  cases lo <;> cases hi <;> rfl
 rw [e]
 unfold sliceRange
 rw [if_pos (by decide)]
 dsimp only
 have ec:(if ((HT.sIx n 0 lo:Nat):Int) < ((HT.sIx n n hi:Nat):Int) then (((HT.sIx n n hi:Nat):Int) - ((HT.sIx n 0 lo:Nat):Int) + 1 - 1) / 1 else 0).toNat=HT.sIx n n hi - HT.sIx n 0 lo:=by
  split <;> omega
 rw [ec]
 refine List.map_congr_left fun k _=>?_
 omega
theorem gq {α:Type} (l:List α) (a m:Nat):((List.range m).map (fun k=>a + k)).filterMap (fun i=>l[i]?)=(l.drop a).take m:=by
 induction m with
 | zero=>simp
 | succ m ih =>
  rw [List.range_succ,List.map_append,List.filterMap_append,ih,List.take_add_one]
  congr 1
  rw [List.getElem?_drop]
  show List.filterMap (fun i=>l[i]?) [a + m]=_
  cases h:l[a + m]? with
  | none=>simp [h]
  | some x=>simp [h]
theorem vX (l:List Nat) (lo hi:Option Int):Txt.slice (mk l) lo hi=mk (cA l lo hi):=by
 unfold Txt.slice
 rw [rf,d7]
 have hf:(((List.range (HT.sIx l.length l.length hi - HT.sIx l.length 0 lo)).map fun k=>HT.sIx l.length 0 lo + k).filterMap fun i=>(mk l).cps[i]?)=cA l lo hi:=by
  have e:(fun i:Nat=>(mk l).cps[i]?)=fun i=>l[i]?:=by
   funext i
   rw [← Array.getElem?_toList,dE]
  rw [e,gq]; rfl
 split
 ·rename_i hc
  have hlen:HT.sIx l.length l.length hi - HT.sIx l.length 0 lo=l.length:=by
   simpa using hc
  have h1:=sIx_le hi l.length l.length (Nat.le_refl _)
  have:cA l lo hi=l:=by
   unfold cA
   rcases Nat.eq_zero_or_pos l.length with h0 | h0
   ·rw [List.length_eq_zero_iff.mp h0]; simp
   ·have h2:HT.sIx l.length 0 lo=0:=by omega
    rw [hlen,h2]; simp
  rw [this]
 ·show mk _=_
  rw [hf]
theorem A0 (l:List Nat) (n:Int):kn (mk l) n=mk (List.replicate n.toNat l).flatten:=by unfold kn; rw [dE]; rfl
theorem x9 {α:Type} (l:List α) (k:Nat):cA l none (some (k:Int))=l.take k:=by
 unfold cA
 rw [HT.sIx_none,HT.sIx_nat]
 simp
theorem kY {α:Type} (l:List α) (k:Nat):cA l (some (k:Int)) none=l.drop k:=by
 unfold cA
 rw [HT.sIx_none,HT.sIx_nat]
 rcases Nat.le_total k l.length with h | h
 ·rw [Nat.min_eq_left h,List.take_of_length_le (by simp)]
 ·rw [Nat.min_eq_right h]; simp [List.drop_eq_nil_of_le h]
theorem nT {α:Type} (l:List α) (a b:Nat):cA l (some (a:Int)) (some (b:Int))=(l.take b).drop a:=by
 unfold cA
 rw [HT.sIx_nat,HT.sIx_nat,List.drop_take]
 rcases Nat.le_total a l.length with h | h
 ·rw [Nat.min_eq_left h]
  rcases Nat.le_total b l.length with h2 | h2
  ·rw [Nat.min_eq_left h2]
  ·rw [Nat.min_eq_right h2,List.take_of_length_le (by simp),List.take_of_length_le (by simp; omega)]
 ·rw [Nat.min_eq_right h]; simp [List.drop_eq_nil_of_le h]
theorem gK {xs:List D}{i:Int}:ixE (.lst xs) (.int i)=atI xs i:=rfl
theorem dc {xs:List D}{i:Int}:ixE (.tup xs) (.int i)=atI xs i:=rfl
theorem nE {xs:List Int}{i:Int}:ixE (.scr xs) (.int i)=(atI xs i).map D.int:=rfl
theorem BL {l:List Nat}{i:Int} (hz:l.length≤16777216) (h:0≤i) (h2:i < l.length):ixE (.str (mk l)) (.int i)=some (.str (mk [l.getD i.toNat 0])):=by
 have e:=zz (z:=mk l) (i:=i) (by rw [d7]; exact hz) h (by rw [d7]; exact h2)
 rw [dE] at e
 exact e
theorem d8 {xs:List D}:aV (.lst xs)=some (.int xs.length):=rfl
theorem br {xs:List D}:aV (.tup xs)=some (.int xs.length):=rfl
theorem kJ {xs:List Int}:aV (.scr xs)=some (.int xs.length):=rfl
theorem pL {xs:List (Key×D)}:aV (.dic xs)=some (.int xs.length):=rfl
theorem zr {l:List Nat} (h:l.length≤16777216):aV (.str (mk l))=some (.int l.length):=by
 have e:=xb (x:=mk l) (by rw [d7]; exact h)
 rw [d7] at e
 exact e
theorem wY {i j:Int} (h:Builtin.Int.intBits i≤2 ^ 20) (h2:Builtin.Int.intBits j≤2 ^ 20):pE (.int i) (.int j)=some (.int (i * j)):=uG h h2
theorem zo {l:List Nat}{n:Int} (h0:0≤n) (h1:n < 1048576) (h2:l.length * n.toNat≤16777216):pE (.str (mk l)) (.int n)=some (.str (mk (List.replicate n.toNat l).flatten)):=by
 show (if 0≤n∧n < 2 ^ 20∧(mk l).length * n.toNat≤sizeLine then some (D.str (kn (mk l) n)) else none)=_
 rw [if_pos ⟨h0,h1,by rw [d7]; exact h2⟩,A0]
theorem n9 {a b:List Nat} (h:a.length + b.length≤16777216):cB (.str (mk a)) (.str (mk b))=some (.str (mk (a ++ b))):=by
 rw [ym (by rw [d7,d7]; exact h),BA]
theorem vY {l:List Nat}{lo hi:Option Int} (h:l.length≤16777216):slD (.str (mk l)) lo hi=some (.str (mk (cA l lo hi))):=by
 rw [yK (by rw [d7]; exact h),vX]
theorem a7 {α:Type} (enc:α→D) (f:α→D) {i:Nat}{ef:DE→Option D}{E:DE} (ys:List α) (h:∀ x ∈ ys,ef (E.set i (.val (enc x)))=some (f x)):bu (nmG i) noT ef E (ys.map enc)=some (ys.map f) :=
 dS enc f ys fun x hx=>⟨rfl,h x hx⟩
theorem mv (ss:List Str):(ss.map D.str).all bV=true:=by
 rw [List.all_eq_true]
 intro d hd
 obtain ⟨x,_,rfl⟩:=List.mem_map.mp hd
 rfl
theorem zL (a b:Str):eqV (.str a) (.str b)=decide (a=b):=by
 show decide _=_
 by_cases h:a=b
 ·simp [h]
 ·simp [h]
theorem pR (x:Str) (ss:List Str):inV (.str x) ((ss.map D.str).map toV)=decide (x ∈ ss):=by
 unfold inV
 induction ss with
 | nil=>rfl
 | cons y r ih =>
  rw [Eo,Eo,List.any_cons,ih]
  show (eqV (.str y) (.str x) || decide (x ∈ r))=_
  rw [zL]
  by_cases h:x=y
  ·simp [h]
  ·have h':¬ y=x:=fun z=>h z.symm
   simp [h,h']
theorem zE {x:Str}{ss:List Str}:inE (.str x) (.lst (ss.map D.str))=some (.bl (decide (x ∈ ss))):=by
 show (inD (.str x) (.lst (ss.map D.str))).map D.bl=_
 show ((if bV (.str x) && (ss.map D.str).all bV then some (inV (toV (.str x)) ((ss.map D.str).map toV)) else none):Option Bool).map D.bl=_
 rw [mv]
 show some (D.bl (inV (.str x) ((ss.map D.str).map toV)))=_
 rw [pR]
theorem zD {x:Str}{ss:List Str}:inE (.str x) (.tup (ss.map D.str))=some (.bl (decide (x ∈ ss))):=zE
theorem wU {x:Str}{ss:List Str}:uD (.str x) (.lst (ss.map D.str))=some (.bl (!decide (x ∈ ss))):=by
 show (inD (.str x) (.lst (ss.map D.str))).map (fun b=>D.bl (!b))=_
 show ((if bV (.str x) && (ss.map D.str).all bV then some (inV (toV (.str x)) ((ss.map D.str).map toV)) else none):Option Bool).map (fun b=>D.bl (!b))=_
 rw [mv]
 show some (D.bl (!inV (.str x) ((ss.map D.str).map toV)))=_
 rw [pR]
theorem wT {x:Str}{ss:List Str}:uD (.str x) (.tup (ss.map D.str))=some (.bl (!decide (x ∈ ss))):=wU
theorem tW {ss:List Str} (h:ss.length < 64):eS (.lst (ss.map D.str))=some (.lst ((b7 ss).map D.str)):=by
 show (eR (ss.map D.str)).bind _=_
 rw [lO]
 exact if_pos h
theorem oG {ss:List Str} (h:ss.length + 1 < 4096) (h2:(ded ss).length < 64):fW (.lst (ss.map D.str))=some (.lst ((b7 (ded ss)).map D.str)):=by
 show (eR (ss.map D.str)).bind _=_
 rw [lO]
 exact if_pos ⟨h,h2⟩
theorem a8 {xs:List D}:aT (.lst xs)=some (.tup xs):=rfl
theorem j0 {xs:List D}:aT (.tup xs)=some (.tup xs):=rfl
theorem mf {xs:List D}:Ax (.lst xs)=some (.lst xs):=rfl
theorem me {xs:List D}:Ax (.tup xs)=some (.lst xs):=rfl
theorem c9 {α:Type} (f:α→D):∀ xs:List α,toPs (xs.map f)=xs.map fun x=>toP (f x)
 | []=>by rw [Er,toPs]; rfl
 | x :: xs=>by rw [Eo,toPs,c9 f xs]; rfl
theorem ie {α:Type} [DecidableEq α] (f:α→PyData) (h:∀ a b,PyData.eqv (f a) (f b)=decide (a=b)):∀ xs ys:List α,PyData.eqvAll (xs.map f) (ys.map f)=decide (xs=ys)
 | [],[]=>by simp [PyData.eqvAll]
 | [],_ :: _=>by simp [PyData.eqvAll]
 | _ :: _,[]=>by simp [PyData.eqvAll]
 | x :: xs,y :: ys=>by
  rw [Eo,Eo,PyData.eqvAll,h,ie f h xs ys]
  by_cases e:x=y
  ·by_cases e2:xs=ys
   ·simp [e,e2]
   ·simp [e2]
  ·simp [e]
theorem ij {α:Type} (f:α→PyData):∀ xs:List α,(∀ x ∈ xs,(f x).canLay0=true)→PyData.canLayAll0 (xs.map f)=true
 | [],_=>by simp [PyData.canLayAll0]
 | x :: xs,h=>by
  rw [Eo,PyData.canLayAll0,h x List.mem_cons_self,ij f xs fun y hy=>h y (List.mem_cons_of_mem _ hy)]; rfl
theorem fH {α:Type} (f:α→PyData) (n:Nat):∀ xs:List α,(∀ x ∈ xs,(f x).depth≤n)→PyData.depthAll (xs.map f)≤n
 | [],_=>by rw [Er,PyData.depthAll]; exact Nat.zero_le _
 | x :: xs,h=>by
  rw [Eo,PyData.depthAll]
  exact Nat.max_le.mpr ⟨h x List.mem_cons_self,fH f n xs fun y hy=>h y (List.mem_cons_of_mem _ hy)⟩
structure i4 (n:Nat) (d:D):Prop where
 lay:(toP d).canLay0=true
 dep:(toP d).depth≤n
theorem i4.ok {n:Nat}{d:D} (h:i4 n d) (hn:n≤60):cO d=true:=by
 unfold cO
 rw [h.lay,decide_eq_true (Nat.le_trans h.dep hn)]; rfl
theorem eZ {x:Str} (h:∀ c ∈ x.cps.toList,c≤122):i4 0 (.str x):=by
 refine ⟨?_,by rw [toP,PyData.depth]; exact Nat.le_refl _⟩
 rw [toP,PyData.canLay0]
 unfold PyData.strOk
 rw [← Array.all_toList,List.all_eq_true]
 intro c hc
 exact decide_eq_true (Nat.lt_of_le_of_lt (h c hc) (by decide))
theorem iL {α:Type}{n:Nat} (f:α→D) (xs:List α) (h:∀ x ∈ xs,i4 n (f x)):i4 (n + 1) (.lst (xs.map f)):=by
 constructor
 ·rw [toP,PyData.canLay0,c9]; exact ij _ xs fun x hx=>(h x hx).lay
 ·rw [toP,PyData.depth,c9]; exact Nat.succ_le_succ (fH _ n xs fun x hx=>(h x hx).dep)
theorem gp {α:Type}{n:Nat} (f:α→D) (xs:List α) (h:∀ x ∈ xs,i4 n (f x)):i4 (n + 1) (.tup (xs.map f)):=by
 constructor
 ·rw [toP,PyData.canLay0,c9]; exact ij _ xs fun x hx=>(h x hx).lay
 ·rw [toP,PyData.depth,c9]; exact Nat.succ_le_succ (fH _ n xs fun x hx=>(h x hx).dep)
theorem u5 {n:Nat} (xs:List D) (h:∀ x ∈ xs,i4 n x):i4 (n + 1) (.tup xs):=by
 have:=gp (fun d:D=>d) xs h
 rwa [List.map_id'] at this
noncomputable def fR (x y:D):Bool:=PyData.eqv (toP x) (toP y)
theorem iO (a b:Str):fR (.str a) (.str b)=decide (a=b):=by
 unfold fR
 rw [toP,toP,PyData.eqv]
 by_cases h:a=b
 ·simp [h]
 ·simp [h]
theorem pX {α:Type} [DecidableEq α] (f:α→D) (h:∀ a b,fR (f a) (f b)=decide (a=b)) (xs ys:List α):fR (.lst (xs.map f)) (.lst (ys.map f))=decide (xs=ys):=by
 unfold fR
 rw [toP,toP,PyData.eqv,c9,c9]
 exact ie _ h xs ys
theorem kT {α:Type} [DecidableEq α] (f:α→D) (h:∀ a b,fR (f a) (f b)=decide (a=b)) (xs ys:List α):fR (.tup (xs.map f)) (.tup (ys.map f))=decide (xs=ys):=by
 unfold fR
 rw [toP,toP,PyData.eqv,c9,c9]
 exact ie _ h xs ys
theorem va (a b c d:D):fR (.tup [a,b]) (.tup [c,d])=(fR a c && fR b d):=by
 simp [fR,toP,toPs,PyData.eqv,PyData.eqvAll]
theorem xQ {n:Nat}{x y:D} (hx:i4 n x) (hy:i4 n y) (hn:n≤60) (hs:scD x y=none):eqO x y=some (.bl (fR x y)):=by
 unfold eqO eqD
 rw [hs,hx.ok hn,hy.ok hn]; rfl
theorem pB {n:Nat}{x y:D} (hx:i4 n x) (hy:i4 n y) (hn:n≤60) (hs:scD x y=none):neO x y=some (.bl (!fR x y)):=by
 unfold neO eqD
 rw [hs,hx.ok hn,hy.ok hn]; rfl
noncomputable def lF (x:Str):Prop:=∀ c ∈ x.cps.toList,c≤122
theorem xP {ss ts:List Str} (hs:∀ x ∈ ss,lF x) (ht:∀ x ∈ ts,lF x):eqO (.lst (ss.map D.str)) (.lst (ts.map D.str))=some (.bl (decide (ss=ts))):=by
 rw [xQ (n:=1) (iL _ _ fun x hx=>eZ (hs x hx)) (iL _ _ fun x hx=>eZ (ht x hx)) (by decide) rfl,pX _ iO]
theorem vb {ss:List Str} (hs:∀ x ∈ ss,lF x):eqO (.lst (ss.map D.str)) (.lst [])=some (.bl (decide (ss=[]))):=xP hs (ts:=[]) fun _ h=>by cases h
noncomputable abbrev Dm:=List (Key×List D)
noncomputable def dv (qs:List (Key×Addr)):List (Key×V):=qs.map fun q=>(q.1,V.ref q.2)
inductive Lds (B:Hp×Hp) (F H:Hp):List (Key×Addr)→Dm→Prop
 | nil:Lds B F H [] []
 | cons {k:Key}{p:Addr}{xs:List V}{ds:List D}{qs:List (Key×Addr)} {m:Dm}:H p=some (.lst xs)→F p=none→B.2 p=none→Reps F xs ds→Lds B F H qs m→Lds B F H ((k,p) :: qs) ((k,ds) :: m)
section
variable {B:Hp×Hp}{F H F' H':Hp}
theorem Lds.ext (x:Ext F H F' H'):∀ {qs:List (Key×Addr)} {m:Dm},Lds B F H qs m→Lds B F' H' qs m
 := fun r=>by
  cases r with
  | nil=>exact .nil
  | cons h1 h2 h3 h4 t=>exact .cons (x.same _ _ h1) (x.new _ h2 (by rw [h1]; simp)) h3 (h4.mono x.fr) (Lds.ext x t)
theorem Lds.off {c:Addr}{o:HO}:∀ {qs:List (Key×Addr)} {m:Dm},c ∉ qs.map (·.2)→Lds B F H qs m→Lds B F (upd H c o) qs m
 | [],_,_,h=>by cases h; exact .nil
 | _ :: _,_,hc,h=>by
  cases h with
  | cons h1 h2 h3 h4 t =>
   rw [Eo,List.mem_cons,not_or] at hc
   exact .cons (by rw [ah (Ne.symm hc.1)]; exact h1) h2 h3 h4 (Lds.off hc.2 t)
theorem Lds.snoc {k:Key}{p:Addr}{xs:List V}{ds:List D} (h1:H p=some (.lst xs)) (h2:F p=none) (h3:B.2 p=none) (h4:Reps F xs ds):∀ {qs:List (Key×Addr)} {m:Dm},Lds B F H qs m→Lds B F H (qs ++ [(k,p)]) (m ++ [(k,ds)])
 := fun r=>by
  cases r with
  | nil=>exact .cons h1 h2 h3 h4 .nil
  | cons g1 g2 g3 g4 t=>exact .cons g1 g2 g3 g4 (Lds.snoc h1 h2 h3 h4 t)
theorem Lds.keys:∀ {qs:List (Key×Addr)} {m:Dm},Lds B F H qs m→qs.map (·.1)=m.map (·.1)
 := fun r=>by
  cases r with
  | nil=>rfl
  | cons _ _ _ _ t=>rw [Eo,Eo,Lds.keys t]
theorem Lds.dom:∀ {qs:List (Key×Addr)} {m:Dm},Lds B F H qs m→∀ p ∈ qs.map (·.2),H p ≠ none∧F p=none∧B.2 p=none
 := fun r p h=>by
  cases r with
  | nil=>cases h
  | cons g1 g2 g3 g4 t =>
   rcases List.mem_cons.mp h with e | h
   ·rw [e]; exact ⟨by rw [g1]; simp,g2,g3⟩
   ·exact Lds.dom t p h
end
noncomputable def jL:Dm→Key→D→Option Dm
 | [],_,_=>none
 | (k',ds) :: r,k,d=>if k'=k then (if ds.length < sizeLine then some ((k',ds ++ [d]) :: r) else none) else (jL r k d).map fun r'=>(k',ds) :: r'
theorem Lds.app {B:Hp×Hp}{F H:Hp}{k:Key}{d:D}:∀ {qs:List (Key×Addr)} {m m':Dm},Lds B F H qs m→(qs.map (·.2)).Nodup→jL m k d=some m' →
  ∃ p xs,c6 (dv qs) k=some (.ref p)∧p ∈ qs.map (·.2)∧H p=some (.lst xs)∧xs.length < sizeLine∧∀ v,Rep F v d→Lds B F (upd H p (.lst (xs ++ [v]))) qs m'
 | _,_,m',.nil,_,h=>by cases h
 | _,_,m',@Lds.cons _ _ _ k' p xs ds qs m g1 g2 g3 g4 t,hn,h=>by
  rw [Eo,List.nodup_cons] at hn
  unfold jL at h
  by_cases e:k'=k
  ·rw [if_pos e] at h
   split at h
   ·rename_i hz
    cases h
    refine ⟨p,xs,ip e,by simp,g1,by rw [g4.length]; exact hz,fun v rv=>?_⟩
    exact .cons ap g2 g3 (g4.append (.cons rv .nil)) (t.off hn.1)
   ·cases h
  ·rw [if_neg e] at h
   cases ha:jL m k d with
   | none=>rw [ha] at h; cases h
   | some m1 =>
    rw [ha] at h
    cases h
    obtain ⟨p1,xs1,q1,q2,q3,q4,q5⟩:=Lds.app t hn.2 ha
    have hne:p ≠ p1:=fun z=>hn.1 (by rw [z]; exact q2)
    refine ⟨p1,xs1,(iq e).trans q1,List.mem_cons_of_mem _ q2,q3,q4,fun v rv=>?_⟩
    exact .cons (by rw [ah hne]; exact g1) g2 g3 g4 (q5 v rv)
noncomputable def iC (a:Addr):Sl:=.rob ⟨0,some a,[]⟩
noncomputable def ei (E:DE):Prop:=(∀ (j:Nat) d,E[j]? ≠ some (.own d))∧∀ (j:Nat) s,E[j]? ≠ some (.obj s)
theorem ei.set {E:DE} (h:ei E) (i:Nat) {z:Sl} (h1:∀ d,z ≠ .own d) (h2:∀ s,z ≠ .obj s):ei (E.set i z):=by
 refine ⟨fun j d e=>?_,fun j s e=>?_⟩
 ·rw [List.getElem?_set] at e
  split at e
  ·split at e
   ·exact h1 d (Option.some.inj e)
   ·cases e
  ·exact h.1 j d e
 ·rw [List.getElem?_set] at e
  split at e
  ·split at e
   ·exact h2 s (Option.some.inj e)
   ·cases e
  ·exact h.2 j s e
structure Ok2 (i:Nat) (a:Addr) (B:Hp×Hp) (F H:Hp) (σ:St) (E:DE) (m:Dm):Prop where
 ok:Ok B F H σ E
 at_:E[i]? = some (iC a)
 no:ei E
 dol:∃ qs,H a=some (.dK (dv qs))∧F a=none∧B.2 a=none∧(a :: qs.map (·.2)).Nodup∧Lds B F H qs m
section
variable {i:Nat}{a:Addr}{B:Hp×Hp}{F H F' H':Hp} {σ:St}{E:DE}{m:Dm}
theorem Ok2.σ_ (k:Ok2 i a B F H σ E m):σ[i]? = some (some (.ref a)):=by
 obtain ⟨fp,q⟩:=k.ok.ob
 rcases q.rob i _ k.at_ with ⟨b,ps,q1,q2⟩ | ⟨_,b,q1,q2⟩
 ·obtain ⟨b',ps',dx,fs,e1,e2,e3,_⟩:=q2
  have e4:=e2 a rfl
  cases e1
  rw [e4] at q1; exact q1
 ·cases q1; exact q2
theorem Ok2.ext (k:Ok2 i a B F H σ E m) (x:Ext F H F' H'):Ok2 i a B F' H' σ E m:=by
 obtain ⟨qs,h1,h2,h3,h4,h5⟩:=k.dol
 exact ⟨k.ok.ext x,k.at_,k.no,qs,x.same _ _ h1,x.new _ h2 (by rw [h1]; simp),h3,h4,h5.ext x⟩
theorem Ok.updN (k:Ok B F H σ E) (hn:ei E) {c:Addr}{o:HO} (hF:F c=none) (hB:B.2 c=none):Ok B F (upd H c o) σ E:=by
 refine ⟨⟨fun b u e=>?_,k.ent.fr,fun b u e=>?_,k.ent.new⟩,k.len,k.val,fun j d h=>(hn.1 j d h).elim,fun j l d e b _ h=>(hn.1 j d h).elim,?_⟩
 ·have:b ≠ c:=fun z=>by rw [z,hB] at e; cases e
  rw [ah this]; exact k.ent.same b u e
 ·have:b ≠ c:=fun z=>by rw [z,hF] at e; cases e
  rw [ah this]; exact k.sub b u e
 ·obtain ⟨fp,q⟩:=k.ob
  exact ⟨fp,q.to (fun _ _ e=>e) (fun j s h=>⟨h,rfl⟩) (fun j s h=>⟨h,rfl⟩) (fun j s h=>(hn.2 j s h).elim) (fun j l s d b h=>(hn.2 j s h).elim)⟩
end
noncomputable abbrev Fin:=Hp×Hp→Hp→lG→Out→Prop
noncomputable def qm (Φ:Fin):Prop:=∀ B F F' Z r,Fr F F'→Φ B F Z r→Φ B F' Z r
noncomputable def tSG (Φ:Fin) (f:DE→Option Out):TS:=fun Z σ H=>∃ B F E r,Ok B F H σ E∧f E=some r∧Φ B F Z r
structure EsG (X:Cx) (Φ:Fin) (sts:List Stmt) (f:DE→Option Out):Prop where
 h:PSs X sts (tSG Φ f)
noncomputable def t2 (Φ:Fin) (i:Nat) (a:Addr) (G:DE→Dm→Option Out):TS:=fun Z σ H=>∃ B F E m r,Ok2 i a B F H σ E m∧G E m=some r∧Φ B F Z r
noncomputable def tb2 (i:Nat) (a:Addr) (G:DE→Dm→Option (DE×Dm)):TS:=fun Z σ H=>∃ B F E m p,Ok2 i a B F H σ E m∧G E m=some p∧∀ σ' F' H',Ok2 i a B F' H' σ' p.1 p.2→Fr F F'→Z.nx σ' H'
structure Ex2 (X:Cx) (Φ:Fin) (i:Nat) (a:Addr) (sts:List Stmt) (G:DE→Dm→Option Out):Prop where
 h:PSs X sts (t2 Φ i a G)
structure Eb2 (X:Cx) (i:Nat) (a:Addr) (st:Stmt) (G:DE→Dm→Option (DE×Dm)):Prop where
 h:PS X st (tb2 i a G)
section
variable {X:Cx} {Φ:Fin}{i:Nat}{a:Addr}
theorem yw {st:Stmt}{bO:List Stmt}{Gb:DE→Dm→Option (DE×Dm)} {G:DE→Dm→Option Out} (hΦ:qm Φ) (h:Eb2 X i a st Gb) (h2:Ex2 X Φ i a bO G):Ex2 X Φ i a (st :: bO) (fun E m=>(Gb E m).bind fun p=>G p.1 p.2) :=
 ⟨fun pins s σ H Z I zz162_0=>by
  obtain ⟨B,F,E,m,r,k,q,w⟩:=zz162_0
  have q:(Gb E m).bind (fun p=>G p.1 p.2)=some r:=q
  cases hb:Gb E m with
  | none=>rw [hb] at q; cases q
  | some p =>
   rw [hb] at q
   refine iE h.h h2.h pins s σ H Z I ⟨B,F,E,m,p,k,hb,fun σ' F' H' k' y=>⟨B,F',p.1,p.2,r,k',q,hΦ B F F' Z r y w⟩⟩⟩
noncomputable def qo (i:Nat) (gf:D→DE→Option DE):Prop:=∀ d E E',gf d E=some E'→E'[i]? = E[i]?∧(ei E→ei E')
theorem gJ {i j:Nat} (h:j ≠ i):qo i (nmG j):=fun d E E' e=>by
 cases e
 exact ⟨List.getElem?_set_ne h,fun hn=>hn.set j (by simp) (by simp)⟩
noncomputable def fN (gf:D→DE→Option DE) (Gb:DE→Dm→Option (DE×Dm)):List D→DE→Dm→Option (DE×Dm)
 | [],E,m=>some (E,m)
 | x :: xs,E,m=>(gf x E).bind fun E1=>(Gb E1 m).bind fun p=>fN gf Gb xs p.1 p.2
theorem Cf {tg iter:Expr}{body:Stmt}{pos:Pos}{fi:DE→Option (List D)} {gf:D→DE→Option DE}{Gb:DE→Dm→Option (DE×Dm)} (hp:PassesOwn (model X.prog X.w) X.A X.env X.xe) (hc:X.calm=true) (hi:Ei X tg iter fi) (hg:Eg X tg gf) (hk:qo i gf) (hb:Eb2 X i a body Gb)
  (hs:∀ x,foldedSetIterable iter X.env x=pure x:=by intro _; rfl):Eb2 X i a (.For tg iter [body] [] pos) (fun E m=>(fi E).bind fun xs=>fN gf Gb xs E m):=⟨fun pins s σ H Z I zz163_0=>by
 obtain ⟨B,F,E,m,p,k,q,w⟩:=zz163_0
 refine wq hp hc hi.h hg.h (nc hb.h) hs pins s σ H Z I ?_
 have q:(fi E).bind (fun xs=>fN gf Gb xs E m)=some p:=q
 cases hf:fi E with
 | none=>rw [hf] at q; cases q
 | some xs =>
  rw [hf] at q
  have q:fN gf Gb xs E m=some p:=q
  refine ⟨B,F,E,xs,k.ok,hf,fun J F1 H1 x1 it=>?_⟩
  refine ⟨fun n mm σ' H'=>∃ F' E' m',Ok2 i a B F' H' σ' E' m'∧Fr F1 F'∧n≤xs.length∧mm=xs.length - n∧fN gf Gb (xs.drop n) E' m'=some p,⟨_,F1,E,m,k.ext x1,fun _ _ e=>e,Nat.zero_le _,rfl,q⟩,?_⟩
  rintro n mm σ' H' ⟨F',E',m',k',y,hn,rfl,ql⟩
  obtain ⟨st,gn⟩:=it n F' H' y k'.ok.sub
  by_cases hlt:n < xs.length
  ·right
   have hx:xs[n]? = some xs[n]:=by simp [hlt]
   obtain ⟨go,yl⟩:=gn _ hx
   rw [List.drop_eq_getElem_cons hlt] at ql
   unfold fN at ql
   refine ⟨go,fun σ2 H2=>∃ F2 E2 m2,Ok2 i a B F2 H2 σ2 E2 m2∧Fr F1 F2∧fN gf Gb (xs.drop (n + 1)) E2 m2=some p,?_,?_⟩
   ·rintro σ2 H2 ⟨F2,E2,m2,k2,y2,q2⟩
    exact ⟨xs.length - (n + 1),by omega,F2,E2,m2,k2,y2,hlt,rfl,q2⟩
   ·intro x H2 hy
    obtain ⟨F3,x3,r3⟩:=yl x H2 hy
    cases hgf:gf xs[n] E' with
    | none=>simp [hgf] at ql
    | some E3 =>
     cases hfb:Gb E3 m' with
     | none=>simp [hgf,hfb] at ql
     | some p1 =>
      simp only [hgf,hfb,Ef] at ql
      have k3:=k'.ext x3
      obtain ⟨c1,c2⟩:=hk _ _ _ hgf
      refine ⟨B,F3,E',xs[n],E3,k3.ok,r3,hgf,fun σ4 F4 H4 k4 x4=>?_⟩
      have y4:Fr F1 F4:=fun b o e=>x4.fr b o (x3.fr b o (y b o e))
      obtain ⟨qs,d1,d2,d3,d4,d5⟩:=k3.dol
      have k4':Ok2 i a B F4 H4 σ4 E3 m':=⟨k4,c1.trans k3.at_,c2 k3.no,qs,x4.same _ _ d1,x4.new _ d2 (by rw [d1]; simp),d3,d4,d5.ext x4⟩
      exact ⟨B,F4,E3,m',p1,k4',hfb,fun σ5 F5 H5 k5 y5=>⟨F5,p1.1,p1.2,k5,fun b o e=>y5 b o (y4 b o e),ql⟩⟩
  ·left
   have e:n=xs.length:=by omega
   subst e
   refine ⟨st rfl,?_⟩
   rw [List.drop_length] at ql
   cases ql
   exact w σ' F' H' k' fun b o e=>y b o (x1.fr b o e)⟩
theorem Cd {j:Nat}{x:Str}{pos pos':Pos}{e:Expr}{f:DE→Option D} (hN:X.N.Nodup) (hi:X.N[j]? = some x) (hx:Loc X.env.scope x) (he:Ev X .V e f) (hj:j ≠ i) (hs:swapsWith e (some (.Name x pos')) pos.line X.env=pure false:=by rfl)
  (hf:X.fn x=true∨X.env.scope.names.lookup x=some .local:=by first | exact .inl rfl | exact .inr rfl | assumption):Eb2 X i a (.Assign [.Name x pos'] e pos) (fun E m=>(f E).map fun d=>(E.set j (.val d),m)):=⟨fun pins s σ H Z I zz164_0=>by
 obtain ⟨B,F,E,m,p,k,q,w⟩:=zz164_0
 have q:(f E).map (fun d=>(E.set j (.val d),m))=some p:=q
 cases hfe:f E with
 | none=>rw [hfe] at q; cases q
 | some d =>
  rw [hfe] at q
  cases q
  refine ng hN hi hx he.h hs hf pins s σ H Z I ⟨B,F,E,d,k.ok,hfe,fun v F' H' x' r=>?_⟩
  have k':=k.ext x'
  exact w _ F' H' ⟨k'.ok.set_val r j,(List.getElem?_set_ne hj).trans k'.at_,k'.no.set j (by simp) (by simp),k'.dol⟩ x'.fr⟩
theorem Ce {o:Expr}{ka:Expr}{pos pos' lp:Pos}{f:DE→Option D} (hu:X.A.units + 64 < cLine) (ho:PE X o (fT i)) (hk:Ev X .V ka f) (hs:swapsWith (.List [] lp) (some (.Subscript o ka pos')) pos.line X.env=pure false:=by rfl) :
  Eb2 X i a (.Assign [.Subscript o ka pos'] (.List [] lp) pos) (fun E m=>(f E).bind fun d=>(bT d).bind fun k=>if (m.any fun q=>decide (q.1=k))=false∧m.length < sizeLine then some (E,m ++ [(k,[])]) else none):=⟨fun pins s σ H Z I zz165_0=>by
 obtain ⟨B,F,E,m,p,k,q,w⟩:=zz165_0
 have q:(f E).bind (fun d=>(bT d).bind fun k=>if (m.any fun q=>decide (q.1=k))=false∧m.length < sizeLine then some (E,m ++ [(k,[])]) else none)=some p:=q
 cases hfe:f E with
 | none=>rw [hfe] at q; cases q
 | some d =>
  cases hkd:bT d with
  | none=>simp [hfe,hkd] at q
  | some ky =>
   simp only [hfe,hkd,Ef] at q
   split at q
   ·rename_i hc
    cases q
    refine sk (ib hu) ho hk.h (dh ak).h hs pins s σ H Z I ⟨B,F,E,.lst [],k.ok,rfl,fun v F1 H1 x1 r1=>?_⟩
    obtain ⟨l,o1,rfl,n0,n1,n2,n3⟩:=r1
    have k1:=k.ext x1
    refine ⟨.ref a,k1.σ_,B,F1,E,d,k1.ok,hfe,fun u F2 H2 x2 r2=>?_⟩
    have k2:=k1.ext x2
    obtain ⟨qs,g1,g2,g3,h4,g5⟩:=k.dol
    have x12:=x1.trans x2
    have h1:=x12.same _ _ g1
    have h2:=x12.new _ g2 (by rw [g1]; simp)
    have h3:=g3
    have h5:=g5.ext x12
    have hl2:H2 l=some o1:=x2.same _ _ n1
    have ek:=cQ (F:=F2) (H:=H2) hkd (.inl r2)
    subst ek
    obtain ⟨xs,rfl⟩:∃ xs,o1=.lst xs:=by cases o1 <;> first | exact ⟨_,rfl⟩ | exact False.elim n3
    have n3':Reps F1 xs []:=n3
    cases n3'
    have hlen:qs.length=m.length:=by
     have:=congrArg List.length h5.keys
     simpa using this
    have hlB:B.2 l=none:=k.ok.ent.nofree n0
    have hlF:F2 l=none:=x2.new _ n2 (by rw [n1]; simp)
    have hla:l ≠ a:=fun z=>by rw [z,g1] at n0; cases n0
    have hlq:l ∉ qs.map (·.2):=fun z=>(g5.dom l z).1 n0
    have hnone:c6 (dv qs) ky=none:=by
     have:ky ∉ (dv qs).map (·.1):=fun z=>by
      have e1:(dv qs).map (·.1)=m.map (·.1):=by
       rw [← h5.keys]; unfold dv; rw [List.map_map]; rfl
      rw [e1] at z
      obtain ⟨y,hy,e⟩:=List.mem_map.mp z
      have:=hc.1
      rw [List.any_eq_false] at this
      exact this y hy (decide_eq_true e)
     cases hv:c6 (dv qs) ky with
     | none=>rfl
     | some v=>exact absurd (yA hv) this
    refine ⟨a,_,rfl,vD.k h1 (by unfold dv; rw [List.length_map,hlen]; exact hc.2),?_⟩
    rw [wm _ hnone]
    refine w σ F2 _ ⟨k2.ok.updN k2.no h2 h3,k2.at_,k2.no,qs ++ [(ky,l)],?_,h2,h3,?_,?_⟩ (x1.trans x2).fr
    ·rw [ap]; unfold dv; rw [List.map_append]; rfl
    ·rw [List.map_append]
     rw [List.nodup_cons] at h4 ⊢
     refine ⟨fun z=>?_,?_⟩
     ·rcases List.mem_append.mp z with z | z
      ·exact h4.1 z
      ·exact hla (List.mem_singleton.mp z).symm
     ·refine List.nodup_append.mpr ⟨h4.2,by simp,fun b hb c hc' e=>?_⟩
      rw [List.mem_singleton.mp hc'] at e
      have e':b=l:=e
      rw [e'] at hb
      exact hlq hb
    ·refine (h5.off (fun z=>by
      rw [List.nodup_cons] at h4
      exact h4.1 z)).snoc (by rw [ah hla]; exact hl2) hlF hlB .nil
   ·cases q⟩
theorem Cg {o ka e:Expr}{spos apos cpos dpos:Pos}{f g:DE→Option D} (hu:X.A.units + 64 < cLine) (ho:PE X o (fT i)) (hk:Ev X .V ka f) (he:Ev X .V e g) (hsl:Af ka:=by intro _ _; rfl) (hbase:attributeBase (.Subscript o ka dpos) "append" X.env (eval (.Subscript o ka dpos) X.env)=eval (.Subscript o ka dpos) X.env:=by rfl)
  (hfew:((backTo cpos (starEach [e] X.env)).all (fun x => !x.1) && (backToKw cpos (keywordEach [] X.env)).all (fun x=>x.1.isSome) && decide (([e]:List Expr).length + ([]:List Keyword).length + (if ([]:List Keyword).isEmpty then 0 else 1) < 30))=true:=by rfl)
  (hline:(apos.endLine == cpos.line)=true:=by rfl) (hns:aO e=true:=by rfl) (hs:swapsWith (.Call (.Attribute (.Subscript o ka dpos) "append" apos) [e] [] cpos) none spos.line X.env=pure false:=by rfl) :
  Eb2 X i a (.Expr (.Call (.Attribute (.Subscript o ka dpos) "append" apos) [e] [] cpos) spos) (fun E m=>(f E).bind fun d=>(bT d).bind fun k=>(g E).bind fun v=>(jL m k v).map fun m'=>(E,m')):=⟨fun pins s σ H Z I zz166_0=>by
 obtain ⟨B,F,E,m,p,k,q,w⟩:=zz166_0
 have q:(f E).bind (fun d=>(bT d).bind fun k=>(g E).bind fun v=>(jL m k v).map fun m'=>(E,m'))=some p:=q
 cases hfe:f E with
 | none=>rw [hfe] at q; cases q
 | some d =>
  cases hkd:bT d with
  | none=>simp [hfe,hkd] at q
  | some ky =>
   cases hge:g E with
   | none=>simp [hfe,hkd,hge] at q
   | some y =>
    simp only [hfe,hkd,hge,Ef] at q
    cases ha:jL m ky y with
    | none=>rw [ha] at q; cases q
    | some m' =>
     rw [ha] at q
     cases q
     refine fC (sw PySem.F.plainAttrs_list PySem.F.slot_list_append PySem.F.type_list_append jb (su (ib hu) ho hk.h hsl) (c_ he.h gg (aA e [] X.env hns)) hbase hfew hline (aA e [] X.env hns) rfl) hs pins s σ H Z I ?_
     refine ⟨.ref a,k.σ_,B,F,E,d,k.ok,hfe,fun u F1 H1 x1 r1=>?_⟩
     obtain ⟨qs,g1,g2,g3,g4,g5⟩:=k.dol
     have ek:=cQ (F:=F1) (H:=H1) hkd (.inl r1)
     subst ek
     have hn:=(List.nodup_cons.mp g4)
     obtain ⟨pp,xs,q1,q2,q3,q4,_⟩:=Lds.app g5 hn.2 ha
     refine ⟨a,.ref pp,rfl,by rw [← q1]; exact jp.k (x1.same _ _ g1),?_⟩
     refine ⟨.inl ⟨rfl,xs,SqL.of (x1.same _ _ q3)⟩,B,F1,E,y,(k.ext x1).ok,hge,fun v F2 H2 x2 rv=>?_⟩
     have x12:=x1.trans x2
     refine ⟨pp,xs,v,rfl,rfl,x12.same _ _ q3,q4,?_⟩
     have k2:=k.ext x12
     have h5:=g5.ext x12
     obtain ⟨pp',xs',r1',r2',r3',_,r5'⟩:=Lds.app h5 hn.2 ha
     have e1:pp'=pp:=by
      rw [q1] at r1'
      cases r1'; rfl
     subst e1
     have e2:xs'=xs:=by
      rw [x12.same _ _ q3] at r3'
      cases r3'; rfl
     subst e2
     obtain ⟨_,d2,d3⟩:=h5.dom pp' q2
     have hpa:a ≠ pp':=fun z=>hn.1 (by rw [z]; exact q2)
     exact w σ F2 _ ⟨k2.ok.updN k2.no d2 d3,k2.at_,k2.no,qs,by rw [ah hpa]; exact x12.same _ _ g1,x12.new _ g2 (by rw [g1]; simp),g3,g4,r5' v rv⟩ x12.fr⟩
theorem uh {st:Stmt}{bO:List Stmt}{t:TS}{u:Addr→TS} (h1:PS X st t) (h2:∀ c,PSs X bO (u c)):PSs X (st :: bO) (Cz t fun Z σ H=>∃ c,u c Z σ H) :=
 iE h1 fun pins s σ H Z I zz167_0=>by obtain ⟨c,h⟩:=zz167_0; exact h2 c pins s σ H Z I h
theorem Ok.set_raw {B:Hp×Hp}{F H:Hp} {σ:St}{E:DE} (k:Ok B F H σ E) (hn:ei E) (i:Nat) (c:Addr):Ok B F H (σ.set i (some (.ref c))) (E.set i (iC c)):=by
 have hl:=k.len
 have hn':ei (E.set i (iC c)):=hn.set i (by intro d e; cases e) (by intro d e; cases e)
 refine ⟨k.ent,by rw [List.length_set,List.length_set]; exact hl,fun j d h=>?_,fun j d h=>(hn'.1 j d h).elim,fun j l d e b _ h=>(hn'.1 j d h).elim,?_⟩
 ·rw [List.getElem?_set] at h
  split at h
  ·split at h
   ·cases h
   ·cases h
  ·rename_i hne
   rw [List.getElem?_set_ne hne]; exact k.val j d h
 ·obtain ⟨fp,q⟩:=k.ob
  refine ⟨fp,fun j s h=>(hn'.2 j s h).elim,fun j l s d b h=>(hn'.2 j s h).elim,fun j l s t _ h=>(hn'.2 j s h).elim,fun j s h=>?_⟩
  rw [List.getElem?_set] at h
  split at h
  ·rename_i hij
   subst hij
   split at h
   ·rename_i hlt
    cases h
    exact .inr ⟨rfl,c,rfl,by rw [List.getElem?_set_self (by omega)]⟩
   ·cases h
  ·rename_i hne
   rw [List.getElem?_set_ne hne]
   exact q.rob j s h
end
noncomputable def dmD (m:Dm):D:=.dic (m.map fun q=>(q.1,D.lst q.2))
theorem Lds.repK {B:Hp×Hp}{F H F2:Hp}:∀ {qs:List (Key×Addr)} {m:Dm},Lds B F H qs m→(∀ b o,F b=some o→F2 b=some o)→(∀ p ∈ qs.map (·.2),F2 p=H p)→RepK F2 (dv qs) (m.map fun q=>(q.1,D.lst q.2))
 := fun {qs m} h hf hp=>by
  cases h with
  | nil=>exact .nil
  | cons h1 h2 h3 h4 t =>
   exact .cons (.lst (by rw [hp _ (by simp)]; exact h1) (h4.mono hf)) (Lds.repK t hf fun p hm=>hp p (by simp at hm ⊢; exact .inr hm))
theorem vG {X:Cx} {Φ:Fin}{i:Nat}{a:Addr}{bO:List Stmt}{f:DE→Option Out} (hΦ:qm Φ) (h:EsG X Φ bO f):Ex2 X Φ i a bO (fun E m=>f (E.set i (.val (dmD m)))):=⟨fun pins s σ H Z I zz168_0=>by
 obtain ⟨B,F,E,m,r,k,q,w⟩:=zz168_0
 obtain ⟨qs,h1,h2,h3,h4,h5⟩:=k.dol
 obtain ⟨ob,I'⟩:=xu I h1
 have hn:=List.nodup_cons.mp h4
 let F1:Hp:=fun b=>if b ∈ qs.map (·.2) then H b else F b
 let F2:Hp:=upd F1 a (.frz ob (.dK (dv qs)))
 have nq:∀ b o,F b=some o→b ∉ qs.map (·.2):=fun b o e z=>by rw [(h5.dom b z).2.1] at e; cases e
 have up:∀ b o,F b=some o→F2 b=some o:=fun b o e=>by
  have hb:b ≠ a:=fun z=>by rw [z,h2] at e; cases e
  show upd F1 a _ b=_
  rw [ah hb]
  show (if b ∈ qs.map (·.2) then H b else F b)=_
  rw [if_neg (nq b o e)]; exact e
 have sub2:∀ b o,F2 b=some o→upd H a (.frz ob (.dK (dv qs))) b=some o:=fun b o e=>by
  by_cases hb:b=a
  ·subst hb
   have e':upd F1 b (.frz ob (.dK (dv qs))) b=some o:=e
   rw [ap] at e' ⊢; exact e'
  ·have e':upd F1 a (.frz ob (.dK (dv qs))) b=some o:=e
   rw [ah hb] at e' ⊢
   have e2:(if b ∈ qs.map (·.2) then H b else F b)=some o:=e'
   split at e2
   ·exact e2
   ·exact k.ok.sub b o e2
 have hF2q:∀ p ∈ qs.map (·.2),F2 p=H p:=fun p hp=>by
  have hb:p ≠ a:=fun z=>hn.1 (by rw [← z]; exact hp)
  show upd F1 a _ p=_
  rw [ah hb]
  exact if_pos hp
 have k2:Ok B F2 (upd H a (.frz ob (.dK (dv qs)))) σ (E.set i (.val (dmD m))):=by
  have hE:=k.no
  have hE':ei (E.set i (.val (dmD m))):=hE.set i (by simp) (by simp)
  refine ⟨⟨fun b u e=>?_,fun b u e=>up b u (k.ok.ent.fr b u e),sub2,fun b e n=>?_⟩,by rw [List.length_set]; exact k.ok.len,fun j d hd=>?_,fun j d hd=>(hE'.1 j d hd).elim,fun j l d e b _ hd=>(hE'.1 j d hd).elim,?_⟩
  ·have hb:b ≠ a:=fun z=>by rw [z,h3] at e; cases e
   rw [ah hb]; exact k.ok.ent.same b u e
  ·have hb:b ≠ a:=fun z=>n (by rw [z]; exact h3)
   have hq:b ∉ qs.map (·.2):=fun z=>n (h5.dom b z).2.2
   show upd F1 a _ b=none
   rw [ah hb]
   show (if b ∈ qs.map (·.2) then H b else F b)=none
   rw [if_neg hq]; exact k.ok.ent.new b e n
  ·rw [List.getElem?_set] at hd
   split at hd
   ·rename_i hij
    subst hij
    split at hd
    ·cases hd
     exact ⟨_,k.σ_,.dic (by show upd F1 a _ a=_; exact ap) (h5.repK up hF2q)⟩
    ·cases hd
   ·obtain ⟨v,r1,r2⟩:=k.ok.val j d hd
    exact ⟨v,r1,r2.mono up⟩
  ·obtain ⟨fp,q⟩:=k.ok.ob
   refine ⟨fp,fun j s hj=>(hE'.2 j s hj).elim,fun j l s d b hj=>(hE'.2 j s hj).elim,fun j l s t _ hj=>(hE'.2 j s hj).elim,fun j s hj=>?_⟩
   rw [List.getElem?_set] at hj
   split at hj
   ·split at hj
    ·cases hj
    ·cases hj
   ·rcases q.rob j s hj with ⟨c,ps,q1,q2⟩ | q2
    ·exact .inl ⟨c,ps,q1,q2.move up fun p _ o e=>up p o e⟩
    ·exact .inr q2
 exact h.h pins s σ _ Z I' ⟨B,F2,_,r,k2,q,hΦ B F F2 Z r up w⟩⟩
noncomputable def lh (i:Nat):Fin:=fun B F Z r=>match r with
 | .nx E'=>∃ d,E'[i]? = some (.own d)∧∀ v F' H',Ext B.1 B.2 F' H'→rM .F B.2 F' H' v d→Z.rt v H'
 | _=>False
theorem nA (i:Nat):qm (lh i):=fun B F F' Z r y w=>w
theorem Av {X:Cx}{i:Nat}{e:Expr}{pos:Pos} (ho:PE X e (fT i)):EsG X (lh i) [.Return (some e) pos] bp:=⟨fun pins s σ H Z I zz169_0=>by
 obtain ⟨B,F,E,r,k,q,w⟩:=zz169_0
 cases q
 obtain ⟨d,hd,w⟩:=w
 obtain ⟨a,o,h1,h2,h3,h4,h5⟩:=k.own i d hd
 exact nc (wn ho) pins s σ H Z I ⟨.ref a,h1,w _ F H k.ent ⟨a,o,rfl,h4,h2,h3,h5⟩⟩⟩
theorem kE {X:Cx}{i:Nat}{st:Stmt}{bO:List Stmt}{f g:DE→Option Out} (h:Es X st f) (h2:EsG X (lh i) bO g):EsG X (lh i) (st :: bO) (av f g):=⟨fun pins s σ H Z I zz170_0=>by
 obtain ⟨B,F,E,r,k,q,w⟩:=zz170_0
 refine iE h.h h2.h pins s σ H Z I ?_
 unfold av at q
 cases hf:f E with
 | none=>simp [hf] at q
 | some r1 =>
  rw [hf] at q
  cases r1 with
  | nx E'=>exact ⟨B,F,E,.nx E',k,hf,fun σ' F' H' k' y=>⟨B,F',E',r,k',q,w⟩⟩
  | rt d=>cases q; exact w.elim
  | bk E'=>cases q; exact w.elim
  | ct E'=>cases q; exact w.elim⟩
noncomputable def spN (n:Nat) (g:List D→Option D):Sp:=fun vs H Q _=>∃ F ds d,(∀ a o,F a=some o→H a=some o)∧Reps F vs ds∧ds.length=n∧g ds=some d∧∀ v F' H',Ext F H F' H'→rM .F H F' H' v d→Q v H'
noncomputable def ub (i n m:Nat) (b:DE→Option Out) (ds:List D):Option D:=if ds.length=n then (b (ds.map Sl.val ++ List.replicate (m - n) Sl.no)).bind fun r=>match r with
 | .nx E=>match E[i]? with
  | some (.own d)=>some d
  | _=>none
 | _=>none
 else none
theorem fnN {P:Program}{w:World}{K:PySem.W.Frag}{mg:Str→Option Value}{base:Heap}{x qual:Str}{st:Stmt}{f:Addr}{fd:FuncData}{N ps:List Str}{k k1 n m i:Nat}{b:DE→Option Out}{g:List D→Option D} (Fn:Fun K x qual st f fd) (S:aF N ps (ag st))
  (hn:ps.length=n) (hm:N.length=m) (hk:k + 1=k1) (hg:g=ub i n m b)
  (hbody:∀ (cdv:Value) (A:Around) (outer:List Env) (s:Shared) (H:Hp) (E:XK),dM k (A.deeper (envOfC qual (ag st) s.heap.objs.size f cdv)) →
   EsG (nS CX0 P w K mg base N qual (ag st) f cdv A outer s H E).nox (lh i) (eE st) b):bC P w K mg base CX0 k1 f fd ps (spN n g):=by
 subst hn hm hk hg
 refine Fn.ok S (fun vs H Q E h=>?_) (fun cdv A outer s H vs Q E hr h=>?_)
 ·obtain ⟨F,ds,d,_,r,hl,_⟩:=h
  rw [r.length,hl]
 ·obtain ⟨F,ds,d,hs,r,hl,hg,q⟩:=h
  refine ⟨_,(hbody cdv A outer s H E hr).h,?_⟩
  unfold ub at hg
  rw [if_pos hl] at hg
  cases hb:b (ds.map Sl.val ++ List.replicate (N.length - ps.length) Sl.no) with
  | none=>rw [hb] at hg; cases hg
  | some rr =>
   rw [hb] at hg
   have k0:=o_ (N:=N) hs r
   rw [hl] at k0
   refine ⟨(F,H),F,_,rr,k0,hb,?_⟩
   cases rr with
   | nx E' =>
    have hg':(match E'[i]? with | some (.own d)=>some d | _=>none)=some d:=hg
    cases he:E'[i]? with
    | none=>rw [he] at hg'; cases hg'
    | some z =>
     rw [he] at hg'
     cases z with
     | own d'=>cases hg'; exact ⟨_,he,fun v F' H' x r'=>q v F' H' x r'⟩
     | _=>cases hg'
   | rt d'=>cases hg
   | bk E'=>cases hg
   | ct E'=>cases hg
section
variable {X:Cx}{e:Expr}{pos:Pos}
theorem e7 {k:Nat}{fa:Addr}{fd:FuncData}{ps:List Str}{x:Str}{p:Pos}{es:List Expr}{n:Nat}{g:List D→Option D}{f:DE→Option (List D)} (Fn:bC X.prog X.w X.K X.mg X.base CX0 k fa fd ps (spN n g)) (hr:dM k X.A) (hg:Gl X x)
  (hm:X.mg x=some (.ref fa)) (hk:PySem.W.keepIn X.K (.ref fa)=true) (hb:bc X.K fd ps []) (ha:Ea X (e :: es) f) (hdb:(x == ("__debug__" : Str))=false:=by decide)
  (he:aO e=true:=by rfl) (hpl:es.all aO=true:=by rfl):Ev X .F (.Call (.Name x p) (e :: es) [] pos) (ao n g f) :=
 PE.by (jQ Fn hr hg hm hk hb .nil sx ha.h hdb (aA e es X.env he) (du pos X.env es hpl)) fun σ H Q zz171_0=>by
  obtain ⟨B,F,E,d,k,q,w⟩:=zz171_0
  unfold ao at q
  cases hf:f E with
  | none=>simp [hf] at q
  | some ds =>
   simp only [hf,Ef] at q
   split at q
   ·rename_i hn
    refine ⟨B,F,E,ds,k,hf,fun vs F1 H1 x1 r1=>⟨F1,ds,d,x1.sub,by rw [List.append_nil]; exact r1,hn,q,fun v F2 H2 x2 r2=>w v F2 H2 (x1.trans x2) (r2.anti fun p hp=>x1.nofree hp)⟩⟩
   ·cases q
end
end L2.Cu
namespace L2
open PySem PySem.Spec PyProof.Rows
noncomputable def BC (sp:Sp):Sp:=fun vs H Q E=>vs.length ≠ 0∧(∃ H' Q' E',sp vs H' Q' E')∧∃ a vs1,H a=some (.dK vs1)∧∀ ob,sp vs (upd H a (.frz ob (.dK vs1))) (fun v H'=>H' a=some (.frz ob (.dK vs1))→Q v (upd H' a (.dK vs1))) E
theorem bC.lend {P:Program}{w:World}{K:PySem.W.Frag}{mg:Str→Option Value}{base:Heap}{k:Nat}{f:Addr}{fd:FuncData}{ps:List Str}{sp:Sp} (Fn:bC P w K mg base CX0 k f fd ps sp):bC P w K mg base CX0 k f fd ps (BC sp):=by
 refine ⟨fun vs H Q E h=>?_,fun A outer s H args us vs Q E hr he hb hv h=>?_⟩
 ·obtain ⟨_,⟨H',Q',E',h⟩,_⟩:=h
  exact Fn.len vs H' Q' E' h
 ·obtain ⟨_,_,a,vs1,ha,hsp⟩:=h
  obtain ⟨z1,z2,us1,rel,dd⟩:=he.hok a _ ha
  obtain ⟨ob,es,ep,g1,g2⟩:=id dd
  have e2:yr P w K mg base A outer s (upd H a (.frz ob (.dK vs1))):=by
   refine ⟨he.frames,he.mod,fun b o e=>⟨(he.bs b o e).1,?_⟩,he.bsz,he.funs,fun b hb'=>?_,fun b o e=>?_,he.bare⟩
   ·have hb:b ≠ a:=fun z=>by have:=(he.bs b o e).2; rw [z,ha] at this; cases this
    rw [ah hb]; exact (he.bs b o e).2
   ·have hb:b ≠ a:=fun z=>by have:=he.frf b hb'; rw [z,ha] at this; cases this
    rw [ah hb]; exact he.frf b hb'
   ·by_cases hb:b=a
    ·subst hb
     rw [ap] at e
     cases e
     exact ⟨g1,z1,z2,us1,rel,dd⟩
    ·rw [ah hb] at e
     refine (he.hok b o e).stay (fun _ _ _ q=>q) (fun c q=>?_) fun c xs q=>?_
     ·have hc:c ≠ a:=fun z=>by rw [z,ha] at q; cases q
      rw [ah hc]; exact q
     ·have hc:c ≠ a:=fun z=>by rw [z,ha] at q; cases q
      rw [ah hc]; exact q
  refine codeAny_mono (Fn.run A outer s _ args us vs _ E hr e2 hb hv (hsp ob)) fun r s' q=>?_
  match r,q with
  | .ok (.ret u),q =>
   obtain ⟨v,H',os,bare,un,hok,rv,q⟩:=q
   have hfa:H' a=some (.frz ob (.dK vs1)):=un.frzs a ob _ ap
   refine ⟨v,upd H' a (.dK vs1),os,bare,⟨fun b o e n hb' hx=>?_,fun b o e n hb' hx=>?_,fun b o e n hx=>?_,fun b o e hx=>un.there b o e hx,fun b xs e=>?_,fun b o u e=>?_,fun b ps e=>?_⟩,fun b o e=>?_,rv,q hfa⟩
   ·have hb:b ≠ a:=fun z=>by rw [z,ha] at n; cases n
    exact un.keep b o e (by rw [ah hb]; exact n) hb' hx
   ·have hb:b ≠ a:=fun z=>by rw [z,ha] at n; cases n
    exact un.slot b o e (by rw [ah hb]; exact n) hb' hx
   ·have hb:b ≠ a:=fun z=>by rw [z,ha] at n; cases n
    rw [ah hb]
    exact un.free b o e (by rw [ah hb]; exact n) hx
   ·have hb:b ≠ a:=fun z=>by rw [z,ha] at e; cases e
    rw [ah hb]
    exact un.tups b xs (by rw [ah hb]; exact e)
   ·have hb:b ≠ a:=fun z=>by rw [z,ha] at e; cases e
    rw [ah hb]
    exact un.frzs b o u (by rw [ah hb]; exact e)
   ·have hb:b ≠ a:=fun z=>by rw [z,ha] at e; cases e
    rw [ah hb]
    exact un.tbls b ps (by rw [ah hb]; exact e)
   ·by_cases hb:b=a
    ·subst hb
     rw [ap] at e
     cases e
     obtain ⟨_,y1,y2,us2,rel2,dd2⟩:=hok b _ hfa
     exact ⟨y1,y2,us2,rel2,dd2⟩
    ·rw [ah hb] at e
     refine (hok b o e).stay (fun _ _ _ q=>q) (fun c q=>?_) fun c xs q=>?_
     ·have hc:c ≠ a:=fun z=>by rw [z,hfa] at q; cases q
      rw [ah hc]; exact q
     ·have hc:c ≠ a:=fun z=>by rw [z,hfa] at q; cases q
      rw [ah hc]; exact q
  | .ok .next,q=>exact q
  | .ok .brk,q=>exact q
  | .ok .cont,q=>exact q
  | .error e,q=>exact q
end L2
namespace L2.Cu
open PySem PySem.Spec PyProof.Rows
noncomputable def iG (i n:Nat) (g:List D→Option D) (f:DE→Option (List D)) (ok:D→Bool) (E:DE):Option D:=match E[i]? with
 | some (.own (.dic kvs))=>(f E).bind fun ds=>if ds.length + 1=n then (g (.dic kvs :: ds)).bind fun d=>if ok d=true then some d else none else none
 | _=>none
theorem pK {F1 H1 F' H':Hp}{a:Addr}{ob:Obj}{vs1:List (Key×V)} (ha:H1 a=some (.dK vs1)) (hF:F1 a=none) (x:Ext (upd F1 a (.frz ob (.dK vs1))) (upd H1 a (.frz ob (.dK vs1))) F' H') :
  Ext F1 H1 (fun b=>if b=a then none else F' b) (upd H' a (.dK vs1)) where
 same:=fun b u e=>by
  by_cases hb:b=a
  ·subst hb; rw [ap]; rw [ha] at e; exact e
  ·rw [ah hb]; exact x.same b u (by rw [ah hb]; exact e)
 fr:=fun b u e=>by
  have hb:b ≠ a:=fun z=>by rw [z,hF] at e; cases e
  show (if b=a then none else F' b)=_
  rw [if_neg hb]; exact x.fr b u (by rw [ah hb]; exact e)
 sub:=fun b u e=>by
  have e':(if b=a then none else F' b)=some u:=e
  split at e'
  ·cases e'
  ·rename_i hb
   rw [ah hb]; exact x.sub b u e'
 new:=fun b e n=>by
  show (if b=a then none else F' b)=none
  by_cases hb:b=a
  ·rw [if_pos hb]
  ·rw [if_neg hb]; exact x.new b (by rw [ah hb]; exact e) (by rw [ah hb]; exact n)
theorem pV {F:Hp}{v:V}{d:D} (F2:Hp) (r:Rep F v d) (h:bV d=true):Rep F2 v d:=by
 cases r <;> first | exact .non | exact .bl _ | exact .int _ | exact .str _ | cases h
section
variable {X:Cx}{pos:Pos}{o:Expr}{i:Nat}
theorem nK {k:Nat}{fa:Addr}{fd:FuncData}{ps:List Str}{x:Str}{p:Pos}{es:List Expr}{n:Nat}{g:List D→Option D}{f:DE→Option (List D)} (Fn:bC X.prog X.w X.K X.mg X.base CX0 k fa fd ps (spD n g)) (hr:dM k X.A) (hg:Gl X x)
  (hm:X.mg x=some (.ref fa)) (hk:PySem.W.keepIn X.K (.ref fa)=true) (hb:bc X.K fd ps []) (ho:PE X o (fT i)) (ha:Ea X es f) (hdb:(x == ("__debug__" : Str))=false:=by decide)
  (he:aO o=true:=by rfl) (hpl:es.all aO=true:=by rfl):Ev X .V (.Call (.Name x p) (o :: es) [] pos) (iG i n g f bV) :=
 PE.by (jQ Fn.lend hr hg hm hk hb .nil sx (c_ ho ha.h (aA o es X.env he)) hdb (aA o es X.env he) (du pos X.env es hpl)) fun σ H Q zz172_0=>by
  obtain ⟨B,F,E,d,k,q,w⟩:=zz172_0
  unfold iG at q
  split at q
  ·rename_i kvs hd
   cases hf:f E with
   | none=>simp [hf] at q
   | some ds =>
    simp only [hf,Ef] at q
    split at q
    ·rename_i hn
     cases hgd:g (.dic kvs :: ds) with
     | none=>simp [hgd] at q
     | some d' =>
      simp only [hgd,Ef] at q
      split at q
      ·rename_i hfl
       cases q
       obtain ⟨a,vs1,h1,h2,h3,h4⟩:=gF k hd
       refine ⟨.ref a,h1,B,F,E,ds,k,hf,fun vs F1 H1 x1 r1=>?_⟩
       have ha1:=x1.same _ _ h2
       have hF1:=x1.new _ h3 (by rw [h2]; simp)
       have up:∀ ob,∀ b u,F1 b=some u→upd F1 a (.frz ob (.dK vs1)) b=some u:=fun ob b u e=>by rw [ah (fun z=>by rw [z,hF1] at e; cases e)]; exact e
       have spd:∀ ob (Q':VK),(∀ v F' H',Ext (upd F1 a (.frz ob (.dK vs1))) (upd H1 a (.frz ob (.dK vs1))) F' H'→Rep F' v d→Q' v H')→spD n g (.ref a :: vs) (upd H1 a (.frz ob (.dK vs1))) Q' E0:=fun ob Q' hq=>by
        refine ⟨upd F1 a (.frz ob (.dK vs1)),.dic kvs :: ds,d,fun b u e=>?_,.cons (.dic ap ((h4.mono x1.fr).mono (up ob))) (r1.mono (up ob)),hn,hgd,hq⟩
        by_cases hb':b=a
        ·subst hb'; rw [ap] at e ⊢; exact e
        ·rw [ah hb'] at e ⊢; exact x1.sub b u e
       refine ⟨by simp,⟨_,_,_,by rw [List.append_nil]; exact spd default (fun _ _=>True) fun _ _ _ _ _=>trivial⟩,a,vs1,ha1,fun ob=>?_⟩
       rw [List.append_nil]
       refine spd ob _ fun v F' H' x2 r2 hfa=>?_
       exact w v _ _ (x1.trans (pK ha1 hF1 x2)) (pV _ r2 hfl)
      ·cases q
    ·cases q
  ·cases q
noncomputable def sB:D→Bool
 | .dic kvs=>(kvs.all fun p=>match p.2 with
  | .tup ds=>ds.all bV
  | _=>false)
 | _=>false
theorem oX {F F2:Hp}:∀ {vs:List V}{ds:List D},Reps F vs ds→ds.all bV=true→Reps F2 vs ds
 := fun r h=>by
  cases r with
  | nil=>exact .nil
  | cons r t =>
   rw [List.all_cons,Bool.and_eq_true] at h
   exact .cons (pV _ r h.1) (oX t h.2)
theorem oZ {F F2:Hp} (h2:∀ b vs,F b=some (.tup vs)→F2 b=some (.tup vs)):∀ {vs:List (Key×V)} {ds:List (Key×D)},RepK F vs ds→(ds.all fun p=>match p.2 with | .tup ds=>ds.all bV | _=>false)=true→RepK F2 vs ds
 := fun z h=>by
  cases z with
  | nil=>exact .nil
  | cons r t =>
   rw [List.all_cons,Bool.and_eq_true] at h
   refine .cons ?_ (oZ h2 t h.2)
   cases r with
   | tup e rs=>exact .tup (h2 _ _ e) (oX rs h.1)
   | _=>cases h.1
theorem xE {k:Nat}{fa:Addr}{fd:FuncData}{ps:List Str}{x:Str}{p:Pos}{es:List Expr}{n:Nat}{g:List D→Option D}{f:DE→Option (List D)} (Fn:bC X.prog X.w X.K X.mg X.base CX0 k fa fd ps (spN n g)) (hr:dM k X.A) (hg:Gl X x)
  (hm:X.mg x=some (.ref fa)) (hk:PySem.W.keepIn X.K (.ref fa)=true) (hb:bc X.K fd ps []) (ho:PE X o (fT i)) (ha:Ea X es f) (hdb:(x == ("__debug__" : Str))=false:=by decide)
  (he:aO o=true:=by rfl) (hpl:es.all aO=true:=by rfl):Ev X .F (.Call (.Name x p) (o :: es) [] pos) (iG i n g f sB) :=
 PE.by (jQ Fn.lend hr hg hm hk hb .nil sx (c_ ho ha.h (aA o es X.env he)) hdb (aA o es X.env he) (du pos X.env es hpl)) fun σ H Q zz173_0=>by
  obtain ⟨B,F,E,d,k,q,w⟩:=zz173_0
  unfold iG at q
  split at q
  ·rename_i kvs hd
   cases hf:f E with
   | none=>simp [hf] at q
   | some ds =>
    simp only [hf,Ef] at q
    split at q
    ·rename_i hn
     cases hgd:g (.dic kvs :: ds) with
     | none=>simp [hgd] at q
     | some d' =>
      simp only [hgd,Ef] at q
      split at q
      ·rename_i hfl
       cases q
       obtain ⟨a,vs1,h1,h2,h3,h4⟩:=gF k hd
       refine ⟨.ref a,h1,B,F,E,ds,k,hf,fun vs F1 H1 x1 r1=>?_⟩
       have ha1:=x1.same _ _ h2
       have hF1:=x1.new _ h3 (by rw [h2]; simp)
       have up:∀ ob,∀ b u,F1 b=some u→upd F1 a (.frz ob (.dK vs1)) b=some u:=fun ob b u e=>by rw [ah (fun z=>by rw [z,hF1] at e; cases e)]; exact e
       have spd:∀ ob (Q':VK),(∀ v F' H',Ext (upd F1 a (.frz ob (.dK vs1))) (upd H1 a (.frz ob (.dK vs1))) F' H'→rM .F (upd H1 a (.frz ob (.dK vs1))) F' H' v d→Q' v H')→spN n g (.ref a :: vs) (upd H1 a (.frz ob (.dK vs1))) Q' E0:=fun ob Q' hq=>by
        refine ⟨upd F1 a (.frz ob (.dK vs1)),.dic kvs :: ds,d,fun b u e=>?_,.cons (.dic ap ((h4.mono x1.fr).mono (up ob))) (r1.mono (up ob)),hn,hgd,hq⟩
        by_cases hb':b=a
        ·subst hb'; rw [ap] at e ⊢; exact e
        ·rw [ah hb'] at e ⊢; exact x1.sub b u e
       refine ⟨by simp,⟨_,_,_,by rw [List.append_nil]; exact spd default (fun _ _=>True) fun _ _ _ _ _=>trivial⟩,a,vs1,ha1,fun ob=>?_⟩
       rw [List.append_nil]
       refine spd ob _ fun v F' H' x2 r2 hfa=>?_
       obtain ⟨c,oc,rfl,n0,n1,n2,n3⟩:=r2
       have hca:c ≠ a:=fun z=>by rw [z,ap] at n0; cases n0
       rw [ah hca] at n0
       refine w _ _ _ (x1.trans (pK ha1 hF1 x2)) ⟨c,oc,rfl,x1.nofree n0,by rw [ah hca]; exact n1,by show (if c=a then none else F' c)=none; rw [if_neg hca]; exact n2,?_⟩
       cases d with
       | dic ks =>
        cases oc with
        | dK ws =>
         refine oZ (F:=F') (fun b vs e=>?_) (show RepK F' ws ks from n3) hfl
         have hb':b ≠ a:=fun z=>by rw [z] at e; rw [x2.sub _ _ e] at hfa; cases hfa
         show (if b=a then none else F' b)=_
         rw [if_neg hb']; exact e
        | _=>exact False.elim n3
       | _=>cases hfl
      ·cases q
    ·cases q
  ·cases q
noncomputable def z7 (i:Nat) (E:DE):Option Out:=match E[i]? with
 | some (.own (.dic _))=>some (.nx (E.set i (.own (.dic []))))
 | _=>none
noncomputable def y0 (i:Nat) (f:DE→Option D) (E:DE):Option Out:=match E[i]? with
 | some (.own (.dic kvs))=>(f E).bind fun x=>(bT x).bind fun k=>if (cF kvs k).isSome=true then some (.nx (E.set i (.own (.dic (kvs.filter fun p=>decide (p.1 ≠ k)))))) else none
 | _=>none
theorem RepK.drop {F:Hp}{k:Key}:∀ {vs:List (Key×V)} {ds:List (Key×D)},RepK F vs ds→RepK F (e8 vs k) (ds.filter fun p=>decide (p.1 ≠ k))
 := fun z=>by
  cases z with
  | nil=>exact .nil
  | @cons k' v d vs ds r t =>
   by_cases e:k'=k
   ·rw [ve e,List.filter_cons_of_neg (by simp [e])]; exact RepK.drop t
   ·rw [vf e,List.filter_cons_of_pos (by simp [e])]; exact .cons r (RepK.drop t)
theorem zJ {ka:Expr}{f:DE→Option D}{apos cpos spos:Pos} (ho:PE X o (fT i)) (hk:Ev X .V ka f) (hm:M1 X o "pop" apos ka cpos) (hs:swapsWith (.Call (.Attribute o "pop" apos) [ka] [] cpos) none spos.line X.env=pure false:=by rfl) :
  Es X (.Expr (.Call (.Attribute o "pop" apos) [ka] [] cpos) spos) (y0 i f):=PS.by (fC (wG ho hk.h hm) hs) fun Z σ H zz174_0=>by
 obtain ⟨B,F,E,r,k,q,w⟩:=zz174_0
 unfold y0 at q
 split at q
 ·rename_i kvs hd
  cases hf:f E with
  | none=>simp [hf] at q
  | some x =>
   cases hkd:bT x with
   | none=>simp [hf,hkd] at q
   | some ky =>
    simp only [hf,hkd,Ef] at q
    split at q
    ·rename_i hv
     cases q
     obtain ⟨a,vs,h1,h2,h3,h4⟩:=gF k hd
     refine ⟨.ref a,h1,a,rfl,.inl ⟨vs,.inl h2⟩,B,F,E,x,k,hf,fun u F1 H1 x1 r1=>?_⟩
     have ek:=cQ (F:=F1) (H:=H1) hkd (.inl r1)
     subst ek
     obtain ⟨d,hd'⟩:=Option.isSome_iff_exists.mp hv
     obtain ⟨v,hv',_⟩:=(RepK.val (k:=ky) (h4.mono x1.fr)).1 d hd'
     refine ⟨vs,ky,v,x1.same _ _ h2,rfl,hv',?_⟩
     exact w σ F1 _ ((k.ext x1).rewrite hd h1 (o':=.dK (e8 vs ky)) (d':=.dic (kvs.filter fun p=>decide (p.1 ≠ ky))) (h4.mono x1.fr).drop) x1.fr
    ·cases q
 ·cases q
end
end L2.Cu
namespace L2
open PySem PySem.Spec PyProof.Rows
section
variable {prog:Program}{w:World}{A:Around}{E:Value→Shared→Prop}{s:Shared}
theorem kH:typeLookup (.type "list") "keys" = pure none:=by rw [typeLookup_type,builtinLookup_eq_fast]; kernel_rfl
theorem uQ {a:Addr}{o:Obj}{xs:Array Value}{k:Nat}{Q:Option Value→Shared→Prop} (hx:s.heap.get? a=some o) (hc:o.cls=.type "list") (hdat:o.data=.seq xs k) (hd:o.dict=none) (hA:A.handled=none)
  (h:∀ h' tk,(∀ b ob,s.heap.get? b=some ob→h'.get? b=some ob)→Q none { s with heap:=h',toks:=tk }):wpAny (model prog w) A (getAttr? (.ref a) "keys") Q E s:=by
 obtain ⟨c,dct,dat,sl⟩:=o
 simp only at hc hdat hd
 subst hc hdat hd
 obtain ⟨hp,g,d,tk,os⟩:=s
 have hT:∀ tk',(⟨hp,g,d,tk',os⟩:Shared).TypeIs (.ref a) "list" := fun _=>⟨_,hx,rfl⟩
 have f1:=sub_AttributeError
 have f3:=F.slot_list_getattribute.lookup
 have f4:=F.slot_list_getattribute.bind (.ref a)
 have f5:=am_list_getattr_none
 unfold getAttr? getAttrBy? getAttrBy
 repeat (any_goals (first | assumption | exact hT _ | ((with_reducible show wpAny _ _ (call (Value.builtin "list.__getattribute__") _ _) _ _ _); refine call_meets F.slot_list_getattribute (hT _) am_entry_list_getattribute (F.args_list_getattribute_2 _ _) (meets_getattribute_miss_list a xs k sl "keys" _ kH (by decide +kernel) (by size_fits)) ⟨hx,hA,fun h' tk' e hx'=>?_⟩) | wp_step))
 obtain ⟨t',u',he⟩:=hx'.there
 show wpAny _ _ (getattributeRaised _ _ _ _ _ _ _) _ _ _
 unfold getattributeRaised
 repeat (any_goals (first | assumption | wp_step))
 exact h _ _ hx'.keeps
theorem mz:entryFor table "dict.update.loop" = some Builtin.«dict.update.loop»:=entryFor_of_tree (by kernel_rfl)
theorem gE:plainId "dict.update.loop" = true:=by decide +kernel
end
section
variable {w:World}{prog:Program}{K:Type} [DecidableEq K] {knd:KeyKind prog w K}{A:Around}{R:Result→Shared→Prop}{I:Addr}{fp wr:List Addr}{G:Array GenState→Array GenState→Prop}{n:Nat}{P:Nat→Value→Prop}{St:Nat→Shared→Prop}
theorem oF {xs:List (K×Value)} {k:K}{v:Value} (h:k ∉ xs.map (·.1)):stored xs k v=xs ++ [(k,v)]:=by
 unfold stored
 have:(xs.any fun p=>decide (p.1=k))=false:=by
  rw [List.any_eq_false]
  intro p hp e
  exact h (List.mem_map.mpr ⟨p,hp,of_decide_eq_true e⟩)
 simp_all
theorem rA (W:WalksS prog w A.in1 I fp wr G n P St) (D:Addr) (hDf:D ∉ fp) (kvs:List (K×Value)) (hn:kvs.length=n) (hz:n≤sizeLine) (hnd:(kvs.map (·.1)).Nodup) (h0:Heap)
  (hval:∀ i v,P i v→∃ p key val k,v=.ref p∧p ∉ D :: wr∧IsTup h0 p #[key,val]∧kvs[i]? = some (k,val)∧knd.is k key=true) :
  ∀ (m i:Nat) (s:Shared) (z:Int),n - i=m→i≤n→St i s→s.heap.DictOf knd D (kvs.take i)→(∀ b o,b ∉ D :: wr→h0.get? b=some o→s.heap.get? b=some o)→(∀ s',Moved (D :: wr) G s s'→s'.heap.DictOf knd D kvs→R (.ok (.ret .none)) s') →
   codeAny (model prog w) A (.builtin "dict.update.loop" ⟨[.ref D,.ref I,rawInt z,.none],[]⟩) R s:=by
 have hDw:D ∉ wr:=fun h=>hDf (W.sub _ h)
 have hsub:∀ b ∈ wr,b ∈ D :: wr:=fun b hb=>List.mem_cons_of_mem _ hb
 intro m
 induction m with
 | zero =>
  intro i s z hk hi hst hS h0k hR
  obtain rfl:i=n:=by omega
  refine codeAny_builtin mz ?_
  rw [Around.under_plainId gE _]
  show wpAny _ A.in1 (pyNext (.ref I) >>= _) _ _ s
  refine wpAny_bind (W.done s _ _ hst fun s' hm=>?_)
  rw [List.take_of_length_le (by omega)] at hS
  show wpAny _ A.in1 (Builtin.Dict.addKeywords D [] >>= _) _ _ s'
  refine wpAny_bind (wpAny_pure ?_)
  refine wpAny_pure (hR s' (hm.mono hsub) ?_)
  obtain ⟨o,es,ep,ho,r⟩:=hS
  exact ⟨o,es,ep,hm.heap D o hDw ho,r⟩
 | succ m ih =>
  intro i s z hk hi hst hS h0k hR
  have hlt:i < n:=by omega
  refine codeAny_builtin mz ?_
  rw [Around.under_plainId gE _]
  show wpAny _ A.in1 (pyNext (.ref I) >>= _) _ _ s
  refine wpAny_bind (W.item i s _ _ hlt hst fun v s' hP hst' hm=>?_)
  obtain ⟨p,key,val,k,rfl,hp,ht,hx,hkey⟩:=hval i v hP
  have hS':s'.heap.DictOf knd D (kvs.take i):=by
   obtain ⟨o,es,ep,ho,r⟩:=hS
   exact ⟨o,es,ep,hm.heap D o hDw ho,r⟩
  have hk':∀ b o,b ∉ D :: wr→h0.get? b=some o→s'.heap.get? b=some o:=fun b o hb e=>hm.heap b o (fun z=>hb (hsub b z)) (h0k b o hb e)
  obtain ⟨ot,hot,hct,nt,hdt⟩:=ht
  have hot':=hk' p ot hp hot
  have hTt:s'.TypeIs (.ref p) "tuple" := ⟨_,hot',hct⟩
  refine wpAny_bind (wpAny_holding (wpAny_bind (wpAny_tryCatch ?_)))
  unfold Builtin.Dict.pairItems
  refine wpAny_bind (wpAny_typeOf hTt ?_)
  rw [if_pos (by decide)]
  refine wpAny_bind (wpAny_seqItems hot' hdt ?_)
  refine wpAny_pure ?_
  show wpAny _ A.in1 (holding [key,val] (dictSet D key val)) _ _ s'
  refine wpAny_holding (wpAny_dictSet_pairs hkey hS' (fun h' hd' sb=>?_) (by rw [List.length_take]; omega))
  have hil:i < kvs.length:=by omega
  have e1:kvs.take (i + 1)=kvs.take i ++ [(k,val)]:=by rw [List.take_add_one,hx]; rfl
  have hnk:k ∉ (kvs.take i).map (·.1):=by
   have h1:=hnd
   rw [← List.take_append_drop (i + 1) kvs,e1,List.map_append,List.map_append] at h1
   have h2:=(List.nodup_append.mp h1).1
   have h3:=(List.nodup_append.mp h2).2.2
   exact fun z=>h3 k z k (by simp) rfl
  rw [oF hnk,← e1] at hd'
  refine wpAny_pure ⟨plainId_quiet gE _,ih (i + 1) _ _ (by omega) hlt (W.frame _ s' _ _ hst' (Nat.le_succ _) fun b hb o e=>?_) hd' (fun b o hb e=>?_) fun s'' hm'' hS''=>?_⟩
  ·rw [sb.2 b (fun h:b=D=>hDf (by rw [← h]; exact hb))]; exact e
  ·rw [sb.2 b (fun h:b=D=>hb (by rw [h]; exact List.mem_cons_self))]; exact hk' b o hb e
  ·refine hR s'' (Moved.trans W.gtrans ((hm.mono hsub).then_heap (Nat.le_succ _) fun b o hb e=>?_) hm'') hS''
   rw [sb.2 b (fun h:b=D=>hb (by rw [h]; exact List.mem_cons_self))]; exact e
end
section
variable {X:Cx}
noncomputable def wj (K:PySem.W.Frag):List V→Hp→VK→Prop:=fun xs H Q=>∃ (l:Addr) (qs:List Addr) (kvs:List (Key×V)),xs=[.ref l]∧SqL K H l (qs.map V.ref)∧Paired (fun (p:Addr) (kv:Key×V)=>H p=some (.tup [kV kv.1,kv.2])) qs kvs∧(kvs.map (·.1)).Nodup∧∀ a,H a=none→Q (.ref a) (upd H a (.dK kvs))
theorem l6 {β:Type}{R:Addr→β→Prop}:∀ {qs:List Addr}{kvs:List β},Paired R qs kvs→∀ (i:Nat) (p:Addr),qs[i]? = some p→∃ kv,kvs[i]? = some kv∧R p kv
 := fun q i p h=>by
  cases q with
  | nil=>cases h
  | cons r t =>
   cases i with
   | zero=>cases h; exact ⟨_,rfl,r⟩
   | succ i=>exact l6 t i p h
theorem Ay {pins:List (Addr×Obj)} {σ:St}{H:Hp}{s:Shared} (I:Inv X pins σ H s):∀ {qs:List Addr}{kvs:List (Key×V)},Paired (fun (p:Addr) (kv:Key×V)=>H p=some (.tup [kV kv.1,kv.2])) qs kvs →
  ∃ vs:List (Key×Value),KV kvs vs∧Paired (fun (p:Addr) (kv:Key×Value)=>∃ ku,IsTup s.heap p #[ku,kv.2]∧(aL X.prog X.w).is kv.1 ku=true) qs vs
 := fun {qs kvs} z=>by
  cases z with
  | nil=>exact ⟨[],.nil,.nil⟩
  | @cons p kv qs kvs r t =>
   obtain ⟨vs,q1,q2⟩:=Ay I t
   obtain ⟨its,rv,ht,_⟩:=I.tuple (SqT.of r)
   obtain ⟨ku,u,rfl,r1,r2⟩:∃ ku u,its=[ku,u]∧aW (kV kv.1) ku∧aW kv.2 u:=by
    cases rv with
    | cons a rv =>
     cases rv with
     | cons b rv=>cases rv; exact ⟨_,_,rfl,a,b⟩
   exact ⟨(kv.1,u) :: vs,.cons ⟨rfl,r2⟩ q1,.cons ⟨ku,ht,iI r1⟩ q2⟩
theorem vM {xs:List V}{us:List Value} (h:aZ xs us) (i:Nat) (u:Value) (hu:us[i]? = some u):∃ x,xs[i]? = some x∧aW x u:=by
 have hl:=h.length
 obtain ⟨hi,_⟩:=List.getElem?_eq_some_iff.mp hu
 have hx:xs[i]? = some xs[i]:=by simp [hl,hi]
 obtain ⟨u',h1,h2⟩:=aZ.get h hx
 rw [hu] at h1
 cases h1
 exact ⟨_,hx,h2⟩
theorem rC (hc:X.calm=true):dj X (.type "dict") (wj X.K):=by
 intro pins s σ H xs us Q I r h
 obtain ⟨l,qs,kvs,rfl,hl,hp,hnd,q⟩:=h
 obtain ⟨u,rfl,ru⟩:=jZ r
 cases ru
 obtain ⟨vs,rel,hpv⟩:=Ay I hp
 obtain ⟨its,rv,pl,hz⟩:=I.list hl
 obtain ⟨o,n,ho,hcl,hdi,hdat⟩:=pl
 have hh:X.A.handled=none:=I.ok.hd hc
 have hlen:kvs.length=qs.length:=(Paired.length hp).symm
 have hz':kvs.length≤sizeLine:=by rw [hlen]; simpa using hz
 have hnv:(vs.map (·.1)).Nodup:=by rw [← rel.keys]; exact hnd
 have hll:vs.length=its.length:=by rw [← rel.length,hlen,← rv.length,List.length_map]
 refine callType_codes (Q₁:=fun obj s₁=>obj=.ref s.heap.objs.size∧s₁={ s with heap:=s.heap.push { cls:=.type "dict",data:=.dict #[] } }) F.kt_called_dict (F.kt_typeCall_dict_1 _) F.entry_dict_init (kt_code_dict_new _ ⟨rfl,rfl⟩) ?_
 rintro obj s₁ ⟨rfl,rfl⟩
 have hnew:(s.heap.push { cls:=.type "dict",data:=.dict #[] }).DictOf (aL X.prog X.w) s.heap.objs.size []:=Heap.DictOf.new s.heap
 have ho1:(s.heap.push { cls:=.type "dict",data:=.dict #[] }).get? l=some o:=Heap.get?_push_of_some _ ho
 refine ⟨hnew.typeIs,F.args_dict_init_2 _ _,?_⟩
 unfold Builtin.«dict.__init__»
 refine wpAny_bind ?_
 unfold Builtin.Dict.selfAndRest
 refine wpAny_bind (wpAny_notOrdered_dict hnew.typeIs ?_)
 show wpAny _ _ (pure (s.heap.objs.size,[Value.ref l])) _ _ _
 refine wpAny_pure ?_
 show wpAny _ _ (Builtin.Dict.updateFrom "dict.__init__" s.heap.objs.size (.ref l) [] .none) _ _ _
 unfold Builtin.Dict.updateFrom
 refine wpAny_bind (wpAny_typeOf (s:={ s with heap:=s.heap.push { cls:=.type "dict",data:=.dict #[] } }) (T := "list") ⟨_,ho1,hcl⟩ ?_)
 rw [if_pos (by decide)]
 refine wpAny_bind (uQ (s:={ s with heap:=s.heap.push { cls:=.type "dict",data:=.dict #[] } }) ho1 hcl hdat hdi (by simp [hh]) fun h1 tk1 kp=>?_)
 rw [if_pos (show (none:Option Value).isNone=true from rfl)]
 have ho2:h1.get? l=some o:=kp l o ho1
 have hl1:h1.IsList l its.toArray:=⟨o,ho2,hcl,n,hdat⟩
 have hlt:s.heap.objs.size < h1.objs.size:=by
  obtain ⟨od,_,_,hg,_⟩:=hnew
  exact Heap.lt_size (kp _ _ hg)
 have hls:l < s.heap.objs.size:=Heap.lt_size ho
 have hneI:l ≠ h1.objs.size:=Nat.ne_of_lt (Nat.lt_trans hls hlt)
 have hDf:s.heap.objs.size ∉ [h1.objs.size,l]:=by
  simp only [List.mem_cons,List.mem_singleton,List.not_mem_nil,or_false,not_or]
  exact ⟨Nat.ne_of_lt hlt,Nat.ne_of_gt hls⟩
 have hD1:h1.DictOf (aL X.prog X.w) s.heap.objs.size []:=by
  obtain ⟨od,es,ep,hg,rr⟩:=hnew
  exact ⟨od,es,ep,kp _ _ hg,rr⟩
 refine wpAny_bind (wpAny_rule ?_)
 refine wpAny_bind (wpAny_pyIter_list (s:={ s with heap:=h1,toks:=tk1 }) hl1 ?_)
 refine wpAny_pure ⟨plainId_quiet gE _,?_⟩
 refine rA ((Walks.list (show X.A.in1.in1.handled=none by simp [hh]) _ l hneI its.toArray).toS) s.heap.objs.size hDf vs (by simpa using hll) (by rw [List.size_toArray,← hll,← rel.length]; exact hz') hnv h1 (fun i v hi=>?_) (its.toArray.size - 0) 0 _ 0 (by omega) (Nat.zero_le _)
  ⟨⟨_,Heap.get?_push_size _ rfl,rfl,rfl⟩,hl1.push _⟩ (by rw [List.take_zero]; exact hD1.push _) (fun b ob hb e=>Heap.get?_push_of_some _ e) fun s' hm hS'=>?_
 ·have hi':its[i]? = some v:=by simpa using hi
  obtain ⟨p,hpq,rfl⟩:∃ p,qs[i]? = some p∧v=.ref p:=by
   obtain ⟨x,hx,rx⟩:=vM rv i v hi'
   rw [List.getElem?_map] at hx
   cases hq:qs[i]? with
   | none=>rw [hq] at hx; cases hx
   | some p=>rw [hq] at hx; cases hx; exact ⟨p,rfl,rx⟩
  obtain ⟨kv,hkv,ku,⟨ot,hot,hct⟩,hk⟩:=l6 hpv i p hpq
  have hps:p < s.heap.objs.size:=Heap.lt_size hot
  refine ⟨p,ku,kv.2,kv.1,rfl,?_,⟨ot,kp p ot (Heap.get?_push_of_some _ hot),hct⟩,hkv,hk⟩
  simp only [List.mem_cons,List.mem_singleton,List.not_mem_nil,or_false,not_or]
  exact ⟨Nat.ne_of_lt hps,Nat.ne_of_lt (Nat.lt_trans hps hlt)⟩
 ·obtain ⟨h',g',d',tk',os'⟩:=s'
  have eg:g'=s.gens:=hm.gens
  have ed:d'=s.drawn:=hm.drawn
  have eo:os'=s.os:=hm.os
  subst eg; subst ed; subst eo
  refine ⟨rfl,.ref s.heap.objs.size,_,I.laid (a:=s.heap.objs.size) (o:=.dK kvs) (fun b ob e=>?_) (Nat.le_refl _) (jk hz' (beq_eq_false_iff_ne.mpr (Ne.symm (Nat.ne_of_lt I.big))) rel hS'),rfl,q _ (I.hok.fresh (Nat.le_refl _))⟩
  have hb:b < s.heap.objs.size:=Heap.lt_size e
  refine hm.heap b ob ?_ (Heap.get?_push_of_some _ (kp b ob (Heap.get?_push_of_some _ e)))
  simp only [List.mem_cons,List.mem_singleton,List.not_mem_nil,or_false,not_or]
  exact ⟨Nat.ne_of_lt hb,Nat.ne_of_lt (Nat.lt_trans hb hlt)⟩
end
section
variable {X:Cx}{o:Expr}{apos cpos:Pos}{td:TE}
noncomputable def yF (td:TE):TE:=fun σ H Q=>td σ H fun x H1=>∃ a kvs,x=.ref a∧H1 a=some (.dK kvs)∧Q .non (upd H1 a (.dK []))
theorem ul (ho:PE X o td) (hbase:attributeBase o "clear" X.env (eval o X.env)=eval o X.env:=by rfl) (hline:(apos.endLine == cpos.line)=true:=by rfl):PE X (.Call (.Attribute o "clear" apos) [] [] cpos) (yF td):=by
 intro pins s σ H Q I h
 refine wpAny_Call_method0_late hbase hline (thn (ho pins s σ H _ I h) fun u s1 zz175_0=>?_)
 obtain ⟨x,H1,I1,rx,a,kvs,ex,ha,q1⟩:=zz175_0
 subst ex
 obtain rfl:u=Value.ref a:=rx
 obtain ⟨t1,t2,_⟩:=re I1 (.inl ⟨kvs,.inl ha⟩)
 exact ⟨"dict","dict.clear",PySem.F.plainAttrs_dict,PySem.F.slot_dict_clear,PySem.F.type_dict_clear,t1,t2,Calls.callWith_builtin rfl (PySem.evalArgs_none (zX I1 ha fun s2 I2=>⟨.non,_,I2,rfl,q1⟩))⟩
end
end L2
namespace L2.Cu
open PySem PySem.Spec PyProof.Rows
section
variable {X:Cx}{pos p:Pos}{o e:Expr}{i:Nat}{f:DE→Option D}
theorem u_ {apos cpos spos:Pos} (ho:PE X o (fT i)) (hbase:attributeBase o "clear" X.env (eval o X.env)=eval o X.env:=by rfl) (hline:(apos.endLine == cpos.line)=true:=by rfl)
  (hs:swapsWith (.Call (.Attribute o "clear" apos) [] [] cpos) none spos.line X.env=pure false:=by rfl):Es X (.Expr (.Call (.Attribute o "clear" apos) [] [] cpos) spos) (z7 i) :=
 PS.by (fC (ul ho hbase hline) hs) fun Z σ H zz176_0=>by
  obtain ⟨B,F,E,r,k,q,w⟩:=zz176_0
  unfold z7 at q
  split at q
  ·rename_i kvs hd
   cases q
   obtain ⟨a,vs,h1,h2,h3,h4⟩:=gF k hd
   exact ⟨.ref a,h1,a,vs,rfl,h2,w σ F _ (k.rewrite hd h1 (o':=.dK []) (d':=.dic []) .nil) fun _ _ e=>e⟩
  ·cases q
noncomputable def eK:List D→Option (List (Key×D))
 | []=>some []
 | .tup [k,v] :: r=>(bT k).bind fun ky=>(eK r).map fun q=>(ky,v) :: q
 | _=>none
noncomputable def p9:D→Option D
 | .lst ds=>(eK ds).bind fun kvs=>if (kvs.map (·.1)).Nodup then some (.dic kvs) else none
 | _=>none
theorem l5 {F H:Hp} (s:∀ a u,F a=some u→H a=some u):∀ {vs:List V}{ds:List D}{kvs:List (Key×D)},Reps F vs ds→eK ds=some kvs →
  ∃ (qs:List Addr) (ws:List (Key×V)),vs=qs.map V.ref∧Paired (fun (p:Addr) (kv:Key×V)=>H p=some (.tup [kV kv.1,kv.2])) qs ws∧RepK F ws kvs
 := fun {vs ds kvs} z h=>by
  cases z with
  | nil=>cases h; exact ⟨[],[],rfl,.nil,.nil⟩
  | @cons v0 d vs ds r t =>
   refine Classical.byContradiction fun hn=>?_
   unfold eK at h
   split at h
   ·rename_i e; cases e
   ·rename_i k v r' e
    cases e
    cases hk:bT k with
    | none=>simp [hk] at h
    | some ky =>
     cases hr:eK ds with
     | none=>simp [hk,hr] at h
     | some q =>
      simp only [hk,hr,Ef,Ej] at h
      cases h
      obtain ⟨qs,ws,rfl,h2,h3⟩:=l5 s t hr
      cases r with
      | tup ha rs =>
       cases rs with
       | cons r1 rs =>
        cases rs with
        | cons r2 rs =>
         cases rs
         have ek:=cQ (F:=F) (H:=H) hk (.inl r1)
         subst ek
         exact hn ⟨_ :: qs,(ky,_) :: ws,rfl,.cons (s _ _ ha) h2,.cons r2 h3⟩
   ·cases h
theorem wg {K:PySem.W.Frag}:lE .F (wj K) p9:=fun F H v x d Q s rx h q=>by
 match x,h with
 | .lst ds,h =>
  have h':(eK ds).bind (fun kvs=>if (kvs.map (·.1)).Nodup then some (D.dic kvs) else none)=some d:=h
  cases hp:eK ds with
  | none=>simp [hp] at h'
  | some kvs =>
   simp only [hp,Ef] at h'
   split at h'
   ·rename_i hn
    cases h'
    obtain ⟨a,vs,rfl,ha,rs⟩:=OB.lst s rx
    obtain ⟨qs,ws,rfl,h2,h3⟩:=l5 s rs hp
    exact ⟨a,qs,ws,rfl,SqL.of ha,h2,by rw [h3.keys]; exact hn,fun l hl=>q _ F _ (Ext.lay s hl) ⟨l,_,rfl,hl,ap,nofr s hl,h3⟩⟩
   ·cases h'
theorem xG (hc:X.calm=true) (hg:Gl X "dict") (hm:X.mg "dict" = none) (hv:bootBuiltins "dict" = some (.type "dict")) (ha:Ev X .O e f) (he:aO e=true:=by rfl):Ev X .F (.Call (.Name "dict" p) [e] [] pos) (un p9 f) :=
 xB (rC hc) wg hg hm hv ha (by decide) (by decide) he
end
noncomputable def n_ (i:Nat) (gs:List D→DE→Option DE):Prop:=∀ ds E E',gs ds E=some E'→E'[i]? = E[i]?∧(ei E→ei E')
theorem ml {i:Nat}:n_ i ck:=fun ds E E' e=>by
 cases ds with
 | nil=>cases e; exact ⟨rfl,id⟩
 | cons d r=>cases e
theorem d9 {i:Nat}{g:D→DE→Option DE}{gs:List D→DE→Option DE} (h:qo i g) (h2:n_ i gs):n_ i (aN g gs):=fun ds E E' e=>by
 cases ds with
 | nil=>cases e
 | cons d r =>
  have e':(g d E).bind (fun E1=>gs r E1)=some E':=e
  cases hg:g d E with
  | none=>rw [hg] at e'; cases e'
  | some E1 =>
   rw [hg] at e'
   obtain ⟨a1,a2⟩:=h d E E1 hg
   obtain ⟨b1,b2⟩:=h2 r E1 E' e'
   exact ⟨b1.trans a1,fun z=>b2 (a2 z)⟩
theorem mj {i n:Nat}{gs:List D→DE→Option DE} (h:n_ i gs):qo i (ci n gs):=fun d E E' e=>by
 cases d with
 | tup ds =>
  have e':(if ds.length=n then gs ds E else none)=some E':=e
  split at e'
  ·exact h ds E E' e'
  ·cases e'
 | _=>cases e
noncomputable def v7 (Gb:DE→Dm→Option (DE×Dm)) (G:DE→Dm→Option Out) (E:DE) (m:Dm):Option Out:=(Gb E m).bind fun p=>G p.1 p.2
noncomputable def qZ (i:Nat) (f:DE→Option Out) (E:DE) (m:Dm):Option Out:=f (E.set i (.val (dmD m)))
noncomputable def xz (fi:DE→Option (List D)) (gf:D→DE→Option DE) (Gb:DE→Dm→Option (DE×Dm)) (E:DE) (m:Dm):Option (DE×Dm):=(fi E).bind fun xs=>fN gf Gb xs E m
noncomputable def AW (j:Nat) (f:DE→Option D) (E:DE) (m:Dm):Option (DE×Dm):=(f E).map fun d=>(E.set j (.val d),m)
noncomputable def Bb (f:DE→Option D) (E:DE) (m:Dm):Option (DE×Dm):=(f E).bind fun d=>(bT d).bind fun k=>if (m.any fun q=>decide (q.1=k))=false∧m.length < sizeLine then some (E,m ++ [(k,[])]) else none
noncomputable def Ch (f g:DE→Option D) (E:DE) (m:Dm):Option (DE×Dm):=(f E).bind fun d=>(bT d).bind fun k=>(g E).bind fun v=>(jL m k v).map fun m'=>(E,m')
section
variable {X:Cx} {Φ:Fin}{i:Nat}{a:Addr}
theorem qq {st:Stmt}{bO:List Stmt}{Gb:DE→Dm→Option (DE×Dm)} {G:DE→Dm→Option Out} (hΦ:qm Φ) (h:Eb2 X i a st Gb) (h2:Ex2 X Φ i a bO G):Ex2 X Φ i a (st :: bO) (v7 Gb G):=yw hΦ h h2
theorem AJ {bO:List Stmt}{f:DE→Option Out} (hΦ:qm Φ) (h:EsG X Φ bO f):Ex2 X Φ i a bO (qZ i f):=vG hΦ h
theorem nX {tg iter:Expr}{body:Stmt}{pos:Pos}{fi:DE→Option (List D)} {gf:D→DE→Option DE}{Gb:DE→Dm→Option (DE×Dm)} (hp:PassesOwn (model X.prog X.w) X.A X.env X.xe) (hc:X.calm=true) (hi:Ei X tg iter fi) (hg:Eg X tg gf) (hk:qo i gf) (hb:Eb2 X i a body Gb)
  (hs:∀ x,foldedSetIterable iter X.env x=pure x:=by intro _; rfl):Eb2 X i a (.For tg iter [body] [] pos) (xz fi gf Gb):=Cf hp hc hi hg hk hb hs
theorem Aa {j:Nat}{x:Str}{pos pos':Pos}{e:Expr}{f:DE→Option D} (hN:X.N.Nodup) (hi:X.N[j]? = some x) (hx:Loc X.env.scope x) (he:Ev X .V e f) (hj:j ≠ i) (hs:swapsWith e (some (.Name x pos')) pos.line X.env=pure false:=by rfl)
  (hf:X.fn x=true∨X.env.scope.names.lookup x=some .local:=by first | exact .inl rfl | exact .inr rfl | assumption):Eb2 X i a (.Assign [.Name x pos'] e pos) (AW j f):=Cd hN hi hx he hj hs hf
theorem Ab {o:Expr}{ka:Expr}{pos pos' lp:Pos}{f:DE→Option D} (hu:X.A.units + 64 < cLine) (ho:PE X o (fT i)) (hk:Ev X .V ka f) (hs:swapsWith (.List [] lp) (some (.Subscript o ka pos')) pos.line X.env=pure false:=by rfl) :
  Eb2 X i a (.Assign [.Subscript o ka pos'] (.List [] lp) pos) (Bb f):=Ce hu ho hk hs
theorem Ac {o ka e:Expr}{spos apos cpos dpos:Pos}{f g:DE→Option D} (hu:X.A.units + 64 < cLine) (ho:PE X o (fT i)) (hk:Ev X .V ka f) (he:Ev X .V e g) (hsl:Af ka:=by intro _ _; rfl) (hbase:attributeBase (.Subscript o ka dpos) "append" X.env (eval (.Subscript o ka dpos) X.env)=eval (.Subscript o ka dpos) X.env:=by rfl)
  (hfew:((backTo cpos (starEach [e] X.env)).all (fun x => !x.1) && (backToKw cpos (keywordEach [] X.env)).all (fun x=>x.1.isSome) && decide (([e]:List Expr).length + ([]:List Keyword).length + (if ([]:List Keyword).isEmpty then 0 else 1) < 30))=true:=by rfl)
  (hline:(apos.endLine == cpos.line)=true:=by rfl) (hns:aO e=true:=by rfl) (hs:swapsWith (.Call (.Attribute (.Subscript o ka dpos) "append" apos) [e] [] cpos) none spos.line X.env=pure false:=by rfl) :
  Eb2 X i a (.Expr (.Call (.Attribute (.Subscript o ka dpos) "append" apos) [e] [] cpos) spos) (Ch f g):=Cg hu ho hk he hsl hbase hfew hline hns hs
end
noncomputable def oD (t:Nat) (d:D):DE:=List.replicate t Sl.no ++ [Sl.own d]
theorem oB (t:Nat) (d:D):(oD t d)[t]? = some (.own d):=by
 unfold oD
 rw [List.getElem?_append_right (by simp)]
 simp
noncomputable def yt (t i:Nat) (G:DE→Dm→Option Out) (E:DE) (d:D):Prop:=ei E∧∀ a,∃ E',G (E.set i (iC a)) []=some (.nx E')∧E'[t]? = some (.own d)
noncomputable def jj (t i:Nat) (G:DE→Dm→Option Out) (E:DE):Option Out:=@dite _ (∃ d,yt t i G E d) (Classical.propDecidable _) (fun h=>some (.nx (oD t (Classical.choose h)))) fun _=>none
theorem vc {t i:Nat}{G:DE→Dm→Option Out}{E:DE}{d:D} (h:yt t i G E d):jj t i G E=some (.nx (oD t d)):=by
 unfold jj
 have hx:∃ d,yt t i G E d:=⟨d,h⟩
 rw [dif_pos hx]
 have h2:=Classical.choose_spec hx
 obtain ⟨E1,a1,a2⟩:=h.2 0
 obtain ⟨E2,b1,b2⟩:=h2.2 0
 rw [a1] at b1
 cases b1
 rw [a2] at b2
 injection b2 with b2
 injection b2 with b2
 rw [← b2]
theorem rj {X:Cx}{t i:Nat}{x:Str}{pos pos' dp:Pos}{bO:List Stmt}{G:DE→Dm→Option Out} (hN:X.N.Nodup) (hi:X.N[i]? = some x) (hx:Loc X.env.scope x) (hrest:∀ a,Ex2 X (lh t) i a bO G) (hlen:∀ E:DE,(∃ B F H σ,Ok B F H σ E∧σ.length=X.N.length)→i < E.length) (hs:swapsWith (.Dict [] [] dp) (some (.Name x pos')) pos.line X.env=pure false:=by rfl)
  (hf:X.fn x=true∨X.env.scope.names.lookup x=some .local:=by first | exact .inl rfl | exact .inr rfl | assumption):EsG X (lh t) (.Assign [.Name x pos'] (.Dict [] [] dp) pos :: bO) (jj t i G):=⟨fun pins s σ H Z I zz177_0=>by
 obtain ⟨B,F,E,r,k,q,w⟩:=zz177_0
 unfold jj at q
 by_cases hx':∃ d,yt t i G E d
 ·rw [dif_pos hx'] at q
  cases q
  obtain ⟨hn,hall⟩:=Classical.choose_spec hx'
  obtain ⟨d,hd,w⟩:=w
  rw [oB] at hd
  injection hd with hd
  injection hd with hd
  have hlt:i < E.length:=hlen E ⟨B,F,H,σ,k,I.len⟩
  refine uh (ng hN hi hx (gM (pos:=dp)).h hs hf) (fun c=>(hrest c).h) pins s σ H Z I ?_
  refine ⟨B,F,E,.dic [],k,rfl,fun v F' H' x' rv=>?_⟩
  obtain ⟨p,o,rfl,n0,n1,n2,n3⟩:=rv
  obtain ⟨vs,rfl⟩:∃ vs,o=.dK vs:=by cases o <;> first | exact ⟨_,rfl⟩ | exact False.elim n3
  have n3':RepK F' vs []:=n3
  cases n3'
  have k':=k.ext x'
  obtain ⟨E',e1,e2⟩:=hall p
  exact ⟨p,B,F',E.set i (iC p),[],.nx E',⟨k'.set_raw hn i p,by rw [List.getElem?_set_self hlt],hn.set i (by intro d e; cases e) (by intro d e; cases e),[],n1,n2,k.ent.nofree n0,by simp,.nil⟩,e1,⟨d,by rw [e2,hd],w⟩⟩
 ·rw [dif_neg hx'] at q; cases q⟩
theorem wQ {E:DE} (h:∀ z ∈ E,(∀ d,z ≠ .own d)∧∀ s,z ≠ .obj s):ei E :=
 ⟨fun j d e=>(h _ (List.mem_of_getElem? e)).1 d rfl,fun j s e=>(h _ (List.mem_of_getElem? e)).2 s rfl⟩
theorem yx {Gb:DE→Dm→Option (DE×Dm)} {G:DE→Dm→Option Out}{E:DE}{m:Dm}{P:Out→Prop}:wp (v7 Gb G E m) P=wp (Gb E m) fun p=>wp (G p.1 p.2) P:=aG
theorem r8 {fi:DE→Option (List D)} {gf:D→DE→Option DE}{Gb:DE→Dm→Option (DE×Dm)} {E:DE}{m:Dm}{P:DE×Dm→Prop}:wp (xz fi gf Gb E m) P=wp (fi E) fun xs=>wp (fN gf Gb xs E m) P:=aG
theorem jY {α:Type} (enc:α→D) (ys:List α) {gf:D→DE→Option DE}{Gb:DE→Dm→Option (DE×Dm)} {E:DE}{m:Dm}{xs:List D}{P:DE×Dm→Prop} (I:List α→DE→Dm→Prop) (hx:xs=ys.map enc) (h0:I [] E m)
  (hstep:∀ pre y post E m,ys=pre ++ y :: post→I pre E m→wp (gf (enc y) E) fun E1=>wp (Gb E1 m) fun p=>I (pre ++ [y]) p.1 p.2) (hend:∀ E m,I ys E m→P (E,m)):wp (fN gf Gb xs E m) P:=by
 subst hx
 have key:∀ (zs pre:List α) (E:DE) (m:Dm),ys=pre ++ zs→I pre E m→wp (fN gf Gb (zs.map enc) E m) P:=by
  intro zs
  induction zs with
  | nil =>
   intro pre E m e h
   rw [List.append_nil] at e
   subst e
   exact hend E m h
  | cons z zs ih =>
   intro pre E m e h
   have h1:=hstep pre z zs E m e h
   rw [Eo]
   show wp ((gf (enc z) E).bind fun E1=>(Gb E1 m).bind fun p=>fN gf Gb (zs.map enc) p.1 p.2) P
   rw [aG]
   refine dA h1 fun E1 h2=>?_
   rw [aG]
   exact dA h2 fun p h3=>ih (pre ++ [z]) p.1 p.2 (by rw [e]; simp) h3
 exact key ys [] E m rfl h0
theorem rZ {i n m:Nat}{b:DE→Option Out}{ds:List D}{d:D} (h:ds.length=n) (hb:wp (b (ds.map Sl.val ++ List.replicate (m - n) Sl.no)) fun r=>∃ E',r=.nx E'∧E'[i]? = some (.own d)):ub i n m b ds=some d:=by
 unfold ub
 rw [if_pos h]
 obtain ⟨r,e,E',rfl,h2⟩:=eG.mp hb
 rw [e]
 show (match E'[i]? with | some (.own d)=>some d | _=>none)=some d
 rw [h2]
noncomputable def bkL (ns:List Str) (f:Str→D):List (Key×D):=ns.map fun n=>(Sum.inr n,f n)
noncomputable def bk (ns:List Str) (f:Str→D):D:=.dic (bkL ns f)
noncomputable def bm (ns:List Str) (f:Str→List D):Dm:=ns.map fun n=>(Sum.inr n,f n)
theorem DG (ns:List Str) (f:Str→List D):dmD (bm ns f)=bk ns fun n=>.lst (f n):=by
 unfold dmD bm bk bkL
 rw [List.map_map]; rfl
theorem eC {a b:Str} (h:(Sum.inr a:Key)=Sum.inr b):a=b:=by injection h
theorem tw {n:Str}{d:D}:∀ {ns:List Str}{f:Str→List D},ns.Nodup→n ∈ ns→(f n).length < sizeLine→jL (bm ns f) (.inr n) d=some (bm ns fun x=>if x=n then f x ++ [d] else f x)
 | [],_,_,h,_=>by cases h
 | x :: ns,f,hn,h,hl=>by
  rw [List.nodup_cons] at hn
  show jL ((Sum.inr x,f x) :: bm ns f) _ _=_
  unfold jL
  by_cases e:x=n
  ·subst e
   rw [if_pos rfl,if_pos hl]
   show some ((Sum.inr x,f x ++ [d]) :: bm ns f)=some ((Sum.inr x,if x=x then f x ++ [d] else f x) :: bm ns fun y=>if y=x then f y ++ [d] else f y)
   rw [if_pos rfl]
   congr 2
   unfold bm
   refine List.map_congr_left fun y hy=>?_
   show ((Sum.inr y:Key),f y)=(Sum.inr y,if y=x then f y ++ [d] else f y)
   rw [if_neg (fun z=>hn.1 (by rw [← z]; exact hy))]
  ·have hm:n ∈ ns:=by
    rcases List.mem_cons.mp h with h | h
    ·exact absurd h.symm e
    ·exact h
   rw [if_neg (fun z=>e (eC z)),tw hn.2 hm hl]
   show some ((Sum.inr x,f x) :: bm ns _)=some ((Sum.inr x,if x=n then f x ++ [d] else f x) :: bm ns _)
   rw [if_neg e]
theorem jN {n:Str}{f:Str→D}:∀ {ns:List Str},n ∈ ns→cF (bkL ns f) (.inr n)=some (f n)
 | [],h=>by cases h
 | x :: ns,h=>by
  show ((((Sum.inr x:Key),f x) :: bkL ns f).find? fun p=>decide (p.1=Sum.inr n)).map (·.2)=_
  rw [List.find?_cons]
  by_cases e:x=n
  ·subst e; simp
  ·have:decide ((Sum.inr x:Key)=Sum.inr n)=false:=decide_eq_false fun z=>e (eC z)
   simp only [this]
   rcases List.mem_cons.mp h with h | h
   ·exact absurd h.symm e
   ·exact jN h
theorem oo {n:Str}{f:Str→D}:∀ {ns:List Str},n ∉ ns→cF (bkL ns f) (.inr n)=none
 | [],_=>rfl
 | x :: ns,h=>by
  rw [List.mem_cons,not_or] at h
  show ((((Sum.inr x:Key),f x) :: bkL ns f).find? fun p=>decide (p.1=Sum.inr n)).map (·.2)=_
  rw [List.find?_cons]
  have:decide ((Sum.inr x:Key)=Sum.inr n)=false:=decide_eq_false fun z=>h.1 (eC z).symm
  simp only [this]
  exact oo h.2
theorem sK (f:Str→D):∀ ns:List Str,lr (bkL ns f)=some ns
 | []=>rfl
 | x :: ns=>by
  show (lr (bkL ns f)).map _=_
  rw [sK f ns]; rfl
end L2.Cu
namespace L2
open PySem PySem.Spec PyProof.Rows
theorem ll (its:List Value):slicePick its.toArray none none (some (-1))=its.reverse.toArray:=by
 unfold slicePick
 have e:sliceBounds none none (some (-1)) its.toArray.size=((its.length:Int) - 1,-1,-1):=rfl
 rw [e]
 have e2:sliceRange ((its.length:Int) - 1) (-1) (-1)=(List.range its.length).map fun k:Nat=>((its.length:Int) - 1 + (-1) * (k:Int)).toNat:=by
  unfold sliceRange
  dsimp only
  rw [if_neg (by decide)]
  congr 2
  by_cases h:((its.length:Int) - 1) > -1
  ·rw [if_pos h,show (its.length:Int) - 1 - -1 - -1 - 1=its.length by omega,show (-(-1):Int)=1 from rfl,Int.ediv_one]; omega
  ·rw [if_neg h]; omega
 show ((sliceRange ((its.length:Int) - 1) (-1) (-1)).filterMap _).toArray=_
 rw [e2,List.filterMap_map]
 have h:=wx its
 rw [List.size_toArray] at h
 conv=>rhs; rw [← h]
 congr 1
 congr 1
 funext k
 show its.toArray[((its.length:Int) - 1 + (-1) * (k:Int)).toNat]? = its.toArray[((its.length:Int) - 1 + (k:Int) * (-1)).toNat]?
 rw [Int.mul_comm]
noncomputable def CA (K:PySem.W.Frag) (te:TE) (ts:TO):TE:=fun σ H Q=>te σ H fun x H1=>ts σ H1 fun l H2=>∃ a xs,x=.ref a∧l=some (-1)∧SqL K H2 a xs∧∀ p,H2 p=none→Q (.ref p) (upd H2 p (.lst xs.reverse))
theorem zd {X:Cx}{e st:Expr}{te:TE}{ts:TO}{p2 pos:Pos} (he:PE X e te) (hst:PO X (some st) ts):PE X (.Subscript e (.Slice none none (some st) p2) pos) (CA X.K te ts):=by
 intro pins s σ H Q I h
 refine Subscript_ (thn (he pins s σ H _ I h) fun v s1 zz178_0=>?_)
 obtain ⟨x,H1,I1,r1,q1⟩:=zz178_0
 refine wpAny_Slice ?_
 rw [evalPart_none]
 refine wpAny_pure (wpAny_pure (thn (hst pins s1 σ H1 _ I1 q1) fun vs s2 zz179_0=>?_))
 obtain ⟨l,H2,I2,pl,q2⟩:=zz179_0
 obtain ⟨a,xs,rfl,rfl,hx,q⟩:=q2
 cases r1
 cases pl with
 | int i t =>
  have I4:Inv X pins σ H2 { s2 with heap:=s2.heap.push { cls:=.type "slice",data:=.fields #[.none,.none,.int (-1) t] } }:=I2.kept (t':=s2.toks) fun b ob q=>Heap.get?_push_of_some _ q
  obtain ⟨its,r,ht,hz⟩:=I4.list hx
  show wpAny (model X.prog X.w) X.A (subscriptTail e (.Slice none none (some st) p2) (.ref a) (.ref s2.heap.objs.size)) (EP X pins σ Q) X.xe { s2 with heap:=s2.heap.push { cls:=.type "slice",data:=.fields #[.none,.none,.int (-1) t] } }
  refine tail_any (ops:=[.ref a,.ref s2.heap.objs.size]) ht.isList.typeIs slot_list_getitem.lookup (wpAny_getItem_list_slice ht.isList (Heap.IsSliceOf.new ..) .none .none (.int (-1) t) (by simp) ?_ (by rw [List.size_toArray,← r.length]; exact hz)) (by with_unfolding_all rfl)
  rw [ll]
  exact ⟨.ref _,_,I4.laid (t':=s2.toks) (o:=.lst xs.reverse) (fun b ob q=>Heap.get?_push_of_some _ q) (Nat.le_refl _) ⟨by rw [List.length_reverse]; exact hz,_,0,r.reverse,Heap.get?_push_size _ rfl⟩,rfl,q _ I4.fresh⟩
end L2
namespace L2.Cu
open PySem PySem.Spec PyProof.Rows
noncomputable def AZ (x y:D):Option D:=match x,y with
 | .lst z,.int n=>if n = -1 then some (.lst z.reverse) else none
 | _,_=>none
theorem zG {X:Cx}{e st:Expr}{f g:DE→Option D}{p2 pos:Pos} (ha:Ev X .O e f) (hb:Ev X .V st g):Ev X .V (.Subscript e (.Slice none none (some st) p2) pos) (bin AZ f g) :=
 PE.by (zd ha.h (sn hb.h)) fun σ H Q zz180_0=>by
  obtain ⟨B,F,E,d,k,q,w⟩:=zz180_0
  unfold bin at q
  cases h1:f E with
  | none=>simp [h1] at q
  | some x =>
   cases h2:g E with
   | none=>simp [h1,h2] at q
   | some y =>
    simp only [h1,h2,Ef] at q
    refine ⟨B,F,E,x,k,h1,fun v F1 H1 x1 r1=>⟨B,F1,E,y,k.ext x1,h2,fun v2 F2 H2 x2 r2=>?_⟩⟩
    match x,y,q with
    | .lst z,.int n,q =>
     have q':(if n = -1 then some (D.lst z.reverse) else none)=some d:=q
     by_cases hn:n = -1
     ·rw [if_pos hn] at q'
      cases q'
      subst hn
      have r3:OB F2 H2 v (.lst z):=OB.ext x2 r1
      obtain ⟨p,vs,rfl,hp,rp⟩:=r3.lst x2.sub
      refine ⟨-1,?_,p,vs,rfl,rfl,SqL.of hp,fun c hc=>?_⟩
      ·cases r2; rfl
      ·have x3:=Ext.freeze (o:=HO.lst vs.reverse) x2.sub hc
       exact w _ _ _ ((x1.trans x2).trans x3) (.lst ap (rp.reverse.mono x3.fr))
     ·rw [if_neg hn] at q'; cases q'
end L2.Cu
namespace L2.Cu.Sh
open PySem PySem.Spec PyProof.Rows
noncomputable def b__Lmixed:DE→Option Out :=
 (ay (bin cz (bin pE (aa 0) (cst (.int 271828182845904523536028747135266249775724709369995957496697))) (bin o6 (cst (.int 10)) (cst (.int 60)))))
noncomputable def g__Lmixed:List D→Option D:=bi 1 1 b__Lmixed
noncomputable def b__Lcell:DE→Option Out :=
 (av (ifS (tst (bin ltD (aa 1) (un aV (aa 0))))
 (ay (ao 1 g__Lmixed (ac (bin ixE (aa 0) (aa 1)) ai)))
 bp)
 (ay (cst (.int 0))))
noncomputable def g__Lcell:List D→Option D:=bi 2 2 b__Lcell
noncomputable def b__Ltexts:DE→Option Out :=
 (av (aS 3 (cst (.str "abcdefghijklmnopqrstuvwxyz")))
 (av (aS 4 (bin cz (aa 0) (cst (.int 3))))
 (av (aS 5 (bin cz (bin bX (aa 0) (cst (.int 3))) (aa 2)))
 (av (aS 6 (bin cz (bin bX (aa 0) (cst (.int 40))) (bin cB (aa 5) (cst (.int 1)))))
 (av (aS 0 (bin bX (aa 0) (cst (.int 600))))
 (av (aS 7 (cst (.str "")))
 (av (cR (eU (ac (var 2) ai)) (nmG 8)
 (av (aS 7 (bin cB (aa 7) (bin ixE (aa 3) (bin cz (aa 0) (cst (.int 26))))))
 (aS 0 (bin bX (aa 0) (cst (.int 26))))))
 (av (ifS (tst (bin eqO (aa 4) (cst (.int 0))))
 (ay (aD [8] (eU (ac (var 1) ai)) (nmG 8) noT (bJ (aa 7) noP (bQ (bin cB (cst (.int 1)) (aa 8))))))
 bp)
 (av (ifS (tst (bin eqO (aa 4) (cst (.int 1))))
 (ay (aD [8] (eU (ac (var 1) ai)) (nmG 8) noT (bin cB (bin cB (bJ (aa 7) noP (bQ (var 6))) (bin ixE (aa 3) (bin cz (bin cB (aa 0) (aa 8)) (cst (.int 26))))) (bJ (aa 7) (bQ (var 6)) (bQ (var 5))))))
 bp)
 (ay (aD [8] (eU (ac (var 1) ai)) (nmG 8) noT (bin pE (bin ixE (aa 3) (bin cz (bin cB (aa 0) (aa 8)) (cst (.int 26)))) (bin cB (cst (.int 1)) (aa 5))))))))))))))
noncomputable def g__Ltexts:List D→Option D:=bi 3 9 b__Ltexts
noncomputable def b__Lplay:DE→Option Out :=
 (av (bL 3 (bS ai))
 (av (aS 4 (c8 ai))
 (av (cR (aP aX (var 0)) (nmG 5)
 (av (aS 5 (ao 1 g__Lmixed (ac (var 5) ai)))
 (av (aS 6 (aD [8] (aP aX (var 1)) (nmG 8) (tst (bin uD (aa 8) (aa 4))) (var 8)))
 (av (bL 7 (bS ai))
 (av (cR (aP aX (var 6)) (nmG 8)
 (av (ifS (tst (bin eqO (bin cz (aa 5) (cst (.int 3))) (cst (.int 0))))
 (dk 7 (var 8))
 bp)
 (aS 5 (bin bX (aa 5) (cst (.int 3))))))
 (av (ifS (orT (tst (bin eqO (aa 7) (bS ai))) (tst (bin eqO (un aV (aa 7)) (un aV (aa 1)))))
 (bL 7 (bS (ac (bin ixE (aa 6) (bin cz (aa 5) (un aV (aa 6)))) ai)))
 bp)
 (av (aS 5 (bin bX (aa 5) (cst (.int 5))))
 (av (bL 9 (bS ai))
 (av (cR (eU (ac (bin cB (cst (.int 1)) (bin cz (aa 5) (cst (.int 5)))) ai)) (nmG 10)
 (av (aS 5 (bin bX (aa 5) (cst (.int 7))))
 (dk 9 (bin ixE (aa 2) (bin cz (aa 5) (un aV (aa 2)))))))
 (av (aS 4 (un aT (un eS (aa 7))))
 (dk 3 (c8 (ac (var 4) (ac (un aT (aa 9)) ai))))))))))))))
 (ay (un aT (aa 3))))))
noncomputable def g__Lplay:List D→Option D:=bi 3 11 b__Lplay
noncomputable def b__Lsame (gIH:List D→Option D):DE→Option Out :=
 (av (ifS (tst (isF "tuple" (aa 1)))
 (av (ifS (orT (cw (tst (isF "tuple" (aa 0)))) (tst (bin neO (un aV (aa 0)) (un aV (aa 1)))))
 (ay (cst (.bl false)))
 bp)
 (ay (un c7 (aD [2] (eU (ac (un aV (aa 1)) ai)) (nmG 2) noT (ao 2 gIH (ac (bin ixE (aa 0) (aa 2)) (ac (bin ixE (aa 1) (aa 2)) ai)))))))
 bp)
 (av (ifS (tst (isF "str" (aa 1)))
 (ay (bI (isF "str" (aa 0)) (bin eqO (aa 0) (aa 1))))
 bp)
 (ay (bI (isF "int" (aa 0)) (bI (ny (isF "bool" (aa 0))) (bin eqO (aa 0) (aa 1)))))))
noncomputable def g__Lsame:Nat→List D→Option D
 | 0=>fun _=>none
 | k + 1=>bi 2 3 (b__Lsame (g__Lsame k))
end L2.Cu.Sh
namespace L2.Cu
open PySem PySem.Spec PyProof.Rows
theorem pq {α:Type} (f:Nat→α) (m:Nat) (h:∀ i j,i < m→j < m→f i=f j→i=j):((List.range m).map f).Nodup:=by
 induction m with
 | zero=>exact List.nodup_nil
 | succ m ih =>
  rw [List.range_succ,List.map_append,List.nodup_append]
  refine ⟨ih fun i j hi hj e=>h i j (by omega) (by omega) e,List.pairwise_singleton _ _,fun a ha b hb=>?_⟩
  obtain ⟨i,hi,rfl⟩:=List.mem_map.mp ha
  obtain ⟨j,hj,rfl⟩:=List.mem_map.mp hb
  rw [List.mem_range] at hi
  rw [List.mem_singleton] at hj
  subst hj
  intro e
  have:=h i j (by omega) (by omega) e
  omega
noncomputable def Ag (l:List Nat):Prop:=∀ c ∈ l,97≤c∧c≤122
structure Wd (M:Nat) (x:Str):Prop where
 pos:1≤x.length
 le:x.length≤M
 low:Ag x.cps.toList
theorem Wd.mk' {M:Nat}{l:List Nat} (h1:1≤l.length) (h2:l.length≤M) (h3:Ag l):Wd M (L2.Cu.mk l):=⟨by rw [d7]; exact h1,by rw [d7]; exact h2,by rw [dE]; exact h3⟩
theorem yj:Str.ofString "abcdefghijklmnopqrstuvwxyz" = mk (List.range' 97 26):=by decide
theorem xT:Str.ofString "" = mk []:=by decide
theorem vv {i:Int} (h:0≤i) (h2:i < 26):(List.range' 97 26).getD i.toNat 0=97 + i.toNat:=by
 have hlt:i.toNat < 26:=by omega
 rw [List.getD_eq_getElem?_getD,List.getElem?_range' hlt]
 simp
theorem je {i:Int} (h:0≤i) (h2:i < 26):ixE (.str (mk (List.range' 97 26))) (.int i)=some (.str (mk [97 + i.toNat])):=by
 rw [BL (by decide) h (by simpa using h2),vv h h2]
namespace Sh
theorem wZ {c:Int} (h:Builtin.Int.intBits c≤2 ^ 20):g__Lmixed [.int c]=some (.int (c * 271828182845904523536028747135266249775724709369995957496697 % 10 ^ 60)):=by
 have hb:Builtin.Int.intBits 271828182845904523536028747135266249775724709369995957496697≤2 ^ 20:=by decide
 refine aM ?_
 simp only [g__Lmixed,b__Lmixed,ab,az,ax,ay,bin,cst,aa,bq,jP,Ef,Ej,Eo,Er,Eu,Ex,Em,En,on,List.replicate,Nat.reduceAdd,Nat.reduceSub,Int.reduceLT,Int.reduceLE,Int.reducePow,Int.reduceToNat,Int.reduceAbs,Nat.reducePow,Nat.reduceLT,wY h hb]
theorem kF {c:Int} (h:Builtin.Int.intBits c≤2 ^ 20):wp (g__Lmixed [.int c]) fun d=>∃ e:Int,d=.int e∧0≤e:=by
 rw [wZ h]
 exact ⟨_,rfl,Int.emod_nonneg _ (by decide)⟩
theorem tm {ns:List Int} (hb:∀ i ∈ ns,Builtin.Int.intBits i≤2 ^ 20) (k:Nat):wp (g__Lcell [.scr ns,.int k]) fun d=>∃ e:Int,d=.int e∧0≤e:=by
 simp only [g__Lcell,b__Lcell,ab,az,aw,bv,bin,un,aa,tst,asB,jS,Ef,Eo,Er,Eu,Ex,Em,En,on,Eh,List.replicate,Nat.reduceAdd,Nat.reduceSub,kJ]
 refine iJ (fun h=>?_) fun h=>?_
 ·have hk:k < ns.length:=by omega
  simp only [bh,ca,ax,ay,bin,aa,ao,ac,ai,Ef,Ej,Em,En,on,Eh,reduceIte,Nat.reduceAdd,nE,bZ,List.getElem?_eq_getElem hk]
  exact kF (hb _ (List.getElem_mem hk))
 ·simp only [ab,aq,ax,ay,bp,cst,Ej,D.int.injEq]
  exact ⟨0,rfl,Int.le_refl 0⟩
theorem xU {c:Int}{i j:Nat} (hi:i < 26) (hj:j < 26) (e:97 + ((c + i) % 26).toNat=97 + ((c + j) % 26).toNat):i=j:=by omega
theorem ro (c:Int):97≤97 + (c % 26).toNat∧97 + (c % 26).toNat≤122:=by omega
theorem oA (c mI MI:Int) (m M:Nat) (hmI:mI=m) (hMI:MI=M) (hm:m≤M) (hM:M≤12) (hM1:1≤M):wp (g__Ltexts [.int c,.int mI,.int MI]) fun d=>∃ ss:List Str,d=.lst (ss.map D.str)∧ss.length=m∧ss.Nodup∧∀ x ∈ ss,Wd M x:=by
 have hM0:(0:Int) < MI:=by omega
 have h26:m≤26:=Nat.le_trans hm (Nat.le_trans hM (by decide))
 have fin:∀ f:Nat→List Nat,(∀ i j,i < m→j < m→f i=f j→i=j)→(∀ i,i < m→1≤(f i).length∧(f i).length≤M∧Ag (f i))→∃ ss:List Str,D.lst ((List.range m).map fun k=>D.str (mk (f k)))=.lst (ss.map D.str)∧ss.length=m∧ss.Nodup∧∀ x ∈ ss,Wd M x:=fun f h1 h2 =>
  ⟨(List.range m).map fun k=>mk (f k),by rw [List.map_map]; rfl,by simp,pq _ m fun i j hi hj e=>h1 i j hi hj (Bz.mp e),fun x hx=>by
   obtain ⟨k,hk,rfl⟩:=List.mem_map.mp hx
   obtain ⟨a,b,c⟩:=h2 k (List.mem_range.mp hk)
   exact Wd.mk' a b c⟩
 have hs0:0≤c / 3 % MI:=Int.emod_nonneg _ (by omega)
 have hs1:c / 3 % MI < MI:=Int.emod_lt_of_pos _ hM0
 generalize hsI:c / 3 % MI=sI at hs0 hs1
 have hszp:(0:Int) < sI + 1:=by omega
 have ha0:0≤c / 40 % (sI + 1):=Int.emod_nonneg _ (by omega)
 have ha1:c / 40 % (sI + 1) < sI + 1:=Int.emod_lt_of_pos _ hszp
 generalize haI:c / 40 % (sI + 1)=aI at ha0 ha1
 obtain ⟨sz,hsz⟩:∃ sz:Nat,sI=sz:=⟨sI.toNat,by omega⟩
 obtain ⟨at',hat⟩:∃ at':Nat,aI=at':=⟨aI.toNat,by omega⟩
 have hat1:at'≤sz:=by omega
 simp only [g__Ltexts,b__Ltexts,ab,az,aw,aq,aS,bD,bin,cst,var,aa,ac,ai,cj,bq,cp,Ef,Ej,Eo,Er,Eu,Ex,Em,En,Ek,El,on,Eh,List.replicate,Nat.reduceAdd,Nat.reduceSub,Int.reduceLT,Int.reduceLE,Int.reducePow,di,bq hM0,yj,xT,hsI,bq hszp,haI]
 rw [cY (by omega) (by omega),show MI.toNat=M by omega]
 simp only [ab]
 refine bM (fun i:Nat=>D.int (0 + i)) (List.range M) (fun pre E=>∃ (c':Int) (l:List Nat) (sl:Sl),E=[Sl.val (D.int c'),Sl.val (D.int mI),Sl.val (D.int MI),Sl.val (D.str (mk (List.range' 97 26))),Sl.val (D.int (c % 3)),Sl.val (D.int sI),Sl.val (D.int aI),Sl.val (D.str (mk l)),sl]∧l.length=pre.length∧Ag l) ?_ ?_ ?_ ?_
 ·rfl
 ·exact ⟨c / 600,[],Sl.no,rfl,rfl,fun c h=>by cases h⟩
 ·rintro pre k post E hs ⟨c',l,sl,rfl,hl,hlow⟩
  have hl':pre.length < 12:=by
   have:=congrArg List.length hs
   simp at this
   omega
  have h0:0≤c' % 26:=Int.emod_nonneg _ (by decide)
  have h1:c' % 26 < 26:=Int.emod_lt_of_pos _ (by decide)
  simp only [ab,aG,bh,aw,aq,aS,bin,cst,aa,nmG,bq,cp,Ef,Ek,El,on,Eh,Int.reduceLT,Int.reduceLE,Int.reducePow,je h0 h1]
  rw [n9 (by simp; omega)]
  simp only [ab]
  refine ⟨_,_,_,rfl,by simp [hl],fun x hx=>?_⟩
  rcases List.mem_append.mp hx with h | h
  ·exact hlow x h
  ·rw [List.mem_singleton.mp h]; exact ro _
 ·rintro E ⟨c',l,sl,rfl,hl,hlow⟩
  rw [List.length_range] at hl
  have hz:l.length≤16777216:=by omega
  simp only [ab,aw,aq,bv,bin,cst,aa,tst,asB,Ef,on,Eh,dF]
  refine iJ (fun h=>?_) fun h=>?_
  ·simp only [aG,bh,ca,ax,ay,var,ac,ai,cj,aQ,aD,Ef,Ej,Ek,El,on,Eh,Ey,List.foldl_nil]
   rw [cY (by omega) (by omega),show mI.toNat=m by omega]
   simp only [ab]
   refine b_ (fU (by simp [cV]; omega)) ?_
   rw [show cV 0 m=(List.range m).map (fun i:Nat=>D.int (0 + i)) from rfl,a7 (fun i:Nat=>D.int (0 + i)) (fun k=>D.str (mk (l.take (1 + k)))) (List.range m) fun k hk=>?_]
   ·simp only [ab,Ej]
    have ht:∀ i,i < m→(l.take (1 + i)).length=1 + i:=fun i hi=>List.length_take_of_le (by omega)
    refine fin _ (fun i j hi hj e=>?_) fun i hi=>⟨by rw [ht i hi]; exact Nat.le_add_right 1 i,by rw [ht i hi]; omega,fun c hc=>hlow c (List.mem_of_mem_take hc)⟩
    have:=congrArg List.length e
    rw [ht i hi,ht j hj] at this
    exact Nat.add_left_cancel this
   ·refine aM ?_
    simp only [ab,bin,cst,aa,noP,bQ,bJ,Ef,Ek,El,on,Eh,di,vY hz]
    rw [show (1:Int) + (0 + (k:Nat))=((1 + k:Nat):Int) by omega,x9]
  ·simp only [ab,aw,aq,bv,bp,bin,cst,aa,tst,asB,Ef,on,Eh,dF]
   refine iJ (fun h2=>?_) fun h2=>?_
   ·simp only [aG,bh,ca,ax,ay,var,ac,ai,cj,aQ,aD,Ef,Ej,Ek,El,on,Eh,Ey,List.foldl_nil]
    rw [cY (by omega) (by omega),show mI.toNat=m by omega]
    simp only [ab]
    refine b_ (fU (by simp [cV]; omega)) ?_
    rw [show cV 0 m=(List.range m).map (fun i:Nat=>D.int (0 + i)) from rfl,a7 (fun i:Nat=>D.int (0 + i)) (fun k:Nat=>D.str (mk (l.take at' ++ [97 + ((c' + k) % 26).toNat] ++ (l.take sz).drop at'))) (List.range m) fun k hk=>?_]
    ·simp only [ab,Ej]
     have ht:∀ y:Nat,(l.take at' ++ [y] ++ (l.take sz).drop at').length=sz + 1:=fun y=>by
      rw [List.length_append,List.length_append,List.length_drop,List.length_take_of_le (by omega),List.length_take_of_le (by omega),List.length_singleton]; omega
     refine fin _ (fun i j hi hj e=>?_) fun i hi=>⟨by rw [ht]; exact Nat.le_add_left 1 sz,by rw [ht]; omega,fun c hc=>?_⟩
     ·have e1:=List.append_cancel_right e
      have e2:=List.append_cancel_left e1
      injection e2 with e3
      exact xU (Nat.lt_of_lt_of_le hi h26) (Nat.lt_of_lt_of_le hj h26) e3
     ·simp only [List.mem_append] at hc
      rcases hc with (hc | hc) | hc
      ·exact hlow c (List.mem_of_mem_take hc)
      ·rw [List.mem_singleton.mp hc]; exact ro _
      ·exact hlow c (List.mem_of_mem_take (List.mem_of_mem_drop hc))
    ·refine aM ?_
     have h0:0≤(c' + (0 + (k:Nat))) % 26:=Int.emod_nonneg _ (by decide)
     have h1:(c' + (0 + (k:Nat))) % 26 < 26:=Int.emod_lt_of_pos _ (by decide)
     simp only [aG,bin,cst,var,aa,noP,bQ,bJ,bq,Ef,Ek,El,on,Eh,Int.reduceLT,di,vY hz,je h0 h1]
     rw [hat,hsz,x9,nT]
     have hx:(l.take at').length≤l.length:=List.length_take_le' ..
     have hy:((l.take sz).drop at').length≤l.length:=Nat.le_trans (by rw [List.length_drop]; exact Nat.sub_le _ _) (List.length_take_le' sz l)
     have hlm:l.length≤12:=by omega
     rw [n9 (Nat.le_trans (Nat.add_le_add (Nat.le_trans hx hlm) (Nat.le_refl _)) (by simp only [List.length_singleton]; decide))]
     simp only [ab]
     rw [n9 (Nat.le_trans (Nat.add_le_add (by rw [List.length_append]; exact Nat.add_le_add (Nat.le_trans hx hlm) (Nat.le_refl _)) (Nat.le_trans hy hlm)) (by simp only [List.length_singleton]; decide))]
     simp only [ab]
     rw [show c' + (0 + (k:Int))=c' + k by omega]
   ·simp only [ab,aG,bh,aq,ax,ay,bp,var,ac,ai,cj,aQ,aD,Ef,Ej,Ek,El,on,Eh,Ey,List.foldl_nil]
    rw [cY (by omega) (by omega),show mI.toNat=m by omega]
    simp only [ab]
    refine b_ (fU (by simp [cV]; omega)) ?_
    rw [show cV 0 m=(List.range m).map (fun i:Nat=>D.int (0 + i)) from rfl,a7 (fun i:Nat=>D.int (0 + i)) (fun k:Nat=>D.str (mk (List.replicate (1 + sz) [97 + ((c' + k) % 26).toNat]).flatten)) (List.range m) fun k hk=>?_]
    ·simp only [ab,Ej]
     refine fin _ (fun i j hi hj e=>?_) fun i hi=>⟨by simp,by simp; omega,fun c hc=>?_⟩
     ·rw [Nat.add_comm 1 sz,List.replicate_succ,List.replicate_succ,List.flatten_cons,List.flatten_cons] at e
      injection e with e3
      exact xU (Nat.lt_of_lt_of_le hi h26) (Nat.lt_of_lt_of_le hj h26) e3
     ·obtain ⟨y,hy,hcy⟩:=List.mem_flatten.mp hc
      rw [(List.mem_replicate.mp hy).2] at hcy
      rw [List.mem_singleton.mp hcy]; exact ro _
    ·refine aM ?_
     have h0:0≤(c' + (0 + (k:Nat))) % 26:=Int.emod_nonneg _ (by decide)
     have h1:(c' + (0 + (k:Nat))) % 26 < 26:=Int.emod_lt_of_pos _ (by decide)
     simp only [bin,cst,aa,bq,Ef,Ek,El,on,Eh,Int.reduceLT,di,je h0 h1]
     rw [zo (by omega) (by omega) (by simp; omega)]
     simp only [ab]
     rw [show c' + (0 + (k:Int))=c' + k by omega,show ((1:Int) + sI).toNat=1 + sz by omega]
end Sh
noncomputable abbrev Sp:=List Str×List Str
noncomputable def aJ (ss:List Str):D:=.tup (ss.map D.str)
noncomputable def bB (s:Sp):D:=.tup [aJ s.1,aJ s.2]
noncomputable def cN (p:List Sp):D:=.tup (p.map bB)
noncomputable def ltS (a b:Str):Prop:=a.cps.toList < b.cps.toList
structure rT (names words:List Str) (s:Sp):Prop where
 ne:s.1 ≠ []
 le:s.1.length≤names.length
 lt:s.1.length < names.length∨names.length≤1
 sub:∀ n ∈ s.1,n ∈ names
 ris:s.1.Pairwise ltS
 wne:s.2 ≠ []
 wle:s.2.length≤5
 wsub:∀ w ∈ s.2,w ∈ words
noncomputable def og (a b:Sp):Prop:=∀ n ∈ a.1,n ∉ b.1
noncomputable def fQ:List Sp→Prop
 | a :: b :: r=>og a b∧fQ (b :: r)
 | _=>True
theorem fQ.snoc:∀ {p:List Sp}{s:Sp},fQ p→(∀ a,p.getLast? = some a→og a s)→fQ (p ++ [s])
 | [],_,_,_=>trivial
 | [a],s,_,h=>⟨h a rfl,trivial⟩
 | a :: b :: r,s,h,hl=>⟨h.1,fQ.snoc (p:=b :: r) h.2 fun x hx=>hl x (by rw [List.getLast?_cons_cons]; exact hx)⟩
structure rV (names words:List Str) (p:List Sp):Prop where
 each:∀ s ∈ p,rT names words s
 apart:fQ p
noncomputable def cK (p:List Sp):List Str:=(p.getLast?.map (·.1)).getD []
theorem kK (p:List Sp) (s:Sp):cK (p ++ [s])=s.1:=by simp [cK]
theorem vV {ss:List Str} (h:ss.Nodup):(b7 ss).Pairwise ltS:=by
 have h1:=gX ss
 have h2:(b7 ss).Nodup:=(bg ss).nodup_iff.mpr h
 refine List.Pairwise.imp₂ (fun a b hab hne=>?_) h1 h2
 unfold leS at hab
 simp only [Bool.not_eq_true',decide_eq_false_iff_not] at hab
 rcases List.le_iff_lt_or_eq.mp (List.not_lt.mp hab) with z | z
 ·exact z
 ·exact absurd (mU z) hne
theorem Wd.lowS {M:Nat}{x:Str} (h:Wd M x):lF x:=fun c hc=>(h.low c hc).2
theorem gH {α:Type} [DecidableEq α]:∀ {l m:List α},l.Nodup→(∀ x ∈ l,x ∈ m)→l.length≤m.length
 | [],_,_,_=>Nat.zero_le _
 | x :: l,m,h,hs=>by
  obtain ⟨hx,hn⟩:=List.nodup_cons.mp h
  have hm:=hs x List.mem_cons_self
  have:=gH (l:=l) (m:=m.erase x) hn fun y hy=>(List.mem_erase_of_ne (fun z=>hx (by rw [← z]; exact hy))).mpr (hs y (List.mem_cons_of_mem _ hy))
  rw [List.length_erase_of_mem hm] at this
  have:=List.length_pos_of_mem hm
  rw [Em]
  omega
namespace Sh
theorem y7 (cells:List Int) (names words:List Str) (hb:∀ i ∈ cells,Builtin.Int.intBits i≤2 ^ 20) (hc:cells.length≤61) (hn:names.Nodup) (hn2:2≤names.length) (hn8:names.length≤8) (hnw:∀ x ∈ names,lF x) (hw:1≤words.length) :
  wp (g__Lplay [.lst (cells.map D.int),.lst (names.map D.str),.lst (words.map D.str)]) fun d=>∃ p,d=cN p∧p.length=cells.length∧rV names words p:=by
 simp only [g__Lplay,b__Lplay,ab,az,aw,aq,aS,bL,bD,var,ai,c8,bS,aP,aX,Ef,Ej,Eo,Er,Eu,Ex,Em,En,Ek,El,on,List.replicate,reduceIte,Nat.reduceAdd,Nat.reduceSub,Nat.reduceLeDiff,be]
 refine bM D.int cells (fun pre E=>∃ (p:List Sp) (s5 s6 s7 s8 s9 s10:Sl),E=[Sl.val (D.lst (cells.map D.int)),Sl.val (D.lst (names.map D.str)),Sl.val (D.lst (words.map D.str)),Sl.own (D.lst (p.map bB)),Sl.val (D.tup ((cK p).map D.str)),s5,s6,s7,s8,s9,s10] ∧
  p.length=pre.length∧rV names words p∧(cK p).length < names.length) rfl ?_ ?_ ?_
 ·exact ⟨[],_,_,_,_,_,_,rfl,rfl,⟨fun _ h=>(by cases h),trivial⟩,by show 0 < _; omega⟩
 ·rintro pre c post E hs ⟨p,s5,s6,s7,s8,s9,s10,rfl,hpl,hgood,hlast⟩
  have hcm:c ∈ cells:=by rw [hs]; simp
  have hpre:pre.length < cells.length:=by rw [hs]; simp
  try simp only [ab,aG,bh,aw,aq,aS,bL,bD,var,ao,ac,ai,bS,aP,nmG,aQ,aD,aX,Ef,Ej,Em,En,Ek,El,on,Eh,Ey,List.foldl_nil,reduceIte,Nat.reduceAdd,Nat.reduceLeDiff,be]
  refine dA (kF (hb c hcm)) ?_
  rintro _ ⟨e,rfl,he⟩
  try simp only [ab,aG,bh,az,aw,aq,ca,ax,m7,aS,bL,bv,cm,bx,bD,ay,CT,bp,bin,un,dr,cst,var,aa,tst,asB,cw,DI,orT,bI,orV,ny,ifV,ao,ac,ai,c8,bS,aP,cj,km,noP,bQ,bJ,nmG,ci,aN,ck,isF,jl,xZ,noT,aQ,aD,fV,bq,cp,jP,Di,jS,nB,iH,nD,jT,sR,c7,DH,a5,aX,tyN,Ef,Ej,Option.bind_none,Option.map_none,Eo,Er,Eu,Ex,Em,En,Ek,El,on,Eh,List.replicate,Ey,List.foldl_nil,reduceIte,Nat.reduceAdd,Nat.reduceSub,Int.reduceLT,Int.reduceLE,Int.reducePow,Int.reduceToNat,Int.reduceAdd,Int.reduceSub,Int.reduceMul,Int.reduceNeg,Int.reduceAbs,Nat.reducePow,Nat.reduceLT,Nat.reduceLeDiff,Nat.reduceMul,and_true,true_and,and_self,Bool.not_true,Bool.not_false,Bool.false_eq_true,decide_true,decide_false,Option.some.injEq,D.int.injEq,D.bl.injEq,b9,String.reduceBEq,beq_self_eq_true,Bool.true_or,Bool.or_true,Bool.false_or,Bool.or_false,Bool.and_true,Bool.true_and,Bool.and_false,Bool.false_and,Bool.or_self,Bool.and_self,reduceCtorEq,di,sN,sL,sM,pP,pM,pO,sg,gB,m3,dF,nQ,rl,eA,sC,sP,pA,be,jr,bT,gK,dc,nE,d8,br,kJ,pL,dk,ly,nY,fj,gA,gl,fZ,a8,j0,mf,me,ff,Do,cP,Aw,zB,eB]
  refine b_ (fU (by simp; omega)) ?_
  rw [iT D.str (fun n => !decide (n ∈ cK p)) D.str names fun x hx=>?_]
  ·try simp only [ab,Ej]
   generalize hfr:names.filter (fun n => !decide (n ∈ cK p))=free
   have hfsub:∀ n ∈ free,n ∈ names∧n ∉ cK p:=fun n hn=>by
    rw [← hfr,List.mem_filter] at hn
    exact ⟨hn.1,by simpa using hn.2⟩
   have hfnd:free.Nodup:=by rw [← hfr]; exact hn.filter _
   have hfl:free.length≤8:=by rw [← hfr]; exact Nat.le_trans (List.length_filter_le _ _) hn8
   have hfne:0 < free.length:=by
    rcases Nat.eq_zero_or_pos free.length with h0 | h0
    ·exfalso
     have hall:∀ n ∈ names,n ∈ cK p:=fun n hn'=>by
      by_cases hm:n ∈ cK p
      ·exact hm
      ·have:n ∈ free:=by rw [← hfr,List.mem_filter]; exact ⟨hn',by simpa using hm⟩
       rw [List.length_eq_zero_iff.mp h0] at this
       cases this
     have:=gH hn hall
     omega
    ·exact h0
   refine bM D.str free (fun pr E=>∃ (some':List Str) (e':Int) (sl:Sl),E=[Sl.val (D.lst (cells.map D.int)),Sl.val (D.lst (names.map D.str)),Sl.val (D.lst (words.map D.str)),Sl.own (D.lst (p.map bB)),Sl.val (D.tup ((cK p).map D.str)),Sl.val (D.int e'),Sl.val (D.lst (free.map D.str)),Sl.own (D.lst (some'.map D.str)),sl,s9,s10]∧some'.Sublist pr) rfl ⟨[],_,_,rfl,.slnil⟩ ?_ ?_
   ·rintro pr x po E hsx ⟨so,e',sl,rfl,hsub⟩
    have hl:so.length≤8:=Nat.le_trans hsub.length_le (by rw [hsx] at hfl; simp at hfl; omega)
    try simp only [ab,aG,aw,bv,bin,cst,aa,tst,asB,nmG,bq,Ef,Ek,El,on,Eh,Int.reduceLT,dF]
    refine iJ (fun h=>?_) fun h=>?_
    ·try simp only [var,Ef,Ek,El,on,Eh,dk]
     refine b_ (eQ (by simp; omega)) ?_
     try simp only [ab,aq,aS,bin,cst,aa,cp,Ef,Ej,Ek,El,on,Eh,Int.reduceLT,Int.reduceLE,Int.reducePow]
     exact ⟨so ++ [x],_,_,by rw [List.map_append]; rfl,hsub.append (List.Sublist.refl _)⟩
    ·try simp only [ab,aq,aS,bp,bin,cst,aa,cp,Ef,Ej,Ek,El,on,Eh,Int.reduceLT,Int.reduceLE,Int.reducePow]
     exact ⟨so,_,_,rfl,hsub.trans (List.sublist_append_left _ _)⟩
   ·rintro E ⟨so,e',sl,rfl,hsub⟩
    have hsl:so.length≤8:=Nat.le_trans hsub.length_le hfl
    have hsmem:∀ n ∈ so,n ∈ free:=fun n hn'=>hsub.subset hn'
    have hsnd:so.Nodup:=hsub.nodup hfnd
    have hslow:∀ x ∈ so,lF x:=fun x hx=>hnw x (hfsub x (hsmem x hx)).1
    have hfl0:(0:Int) < (free.length:Int):=by omega
    have key:∀ (so':List Str),so'.Nodup→so' ≠ []→so'.length < names.length→(∀ n ∈ so',n ∈ free)→wp ((av (aS 5 (bin bX (aa 5) (cst (.int 5)))) (av (bL 9 (bS ai)) (av (cR (eU (ac (bin cB (cst (.int 1)) (bin cz (aa 5) (cst (.int 5)))) ai)) (nmG 10) (av (aS 5 (bin bX (aa 5) (cst (.int 7)))) (dk 9 (bin ixE (aa 2) (bin cz (aa 5) (un aV (aa 2))))))) (av (aS 4 (un aT (un eS (aa 7)))) (dk 3 (c8 (ac (var 4) (ac (un aT (aa 9)) ai)))))))) [Sl.val (D.lst (cells.map D.int)),Sl.val (D.lst (names.map D.str)),Sl.val (D.lst (words.map D.str)),Sl.own (D.lst (p.map bB)),Sl.val (D.tup ((cK p).map D.str)),Sl.val (D.int e'),Sl.val (D.lst (free.map D.str)),Sl.own (D.lst (so'.map D.str)),sl,s9,s10])
      (fun r=>match r with | .nx E'=>∃ (p:List Sp) (s5 s6 s7 s8 s9 s10:Sl),E'=[Sl.val (D.lst (cells.map D.int)),Sl.val (D.lst (names.map D.str)),Sl.val (D.lst (words.map D.str)),Sl.own (D.lst (p.map bB)),Sl.val (D.tup ((cK p).map D.str)),s5,s6,s7,s8,s9,s10]∧p.length=(pre ++ [c]).length∧rV names words p∧(cK p).length < names.length | .ct E'=>∃ (p:List Sp) (s5 s6 s7 s8 s9 s10:Sl),E'=[Sl.val (D.lst (cells.map D.int)),Sl.val (D.lst (names.map D.str)),Sl.val (D.lst (words.map D.str)),Sl.own (D.lst (p.map bB)),Sl.val (D.tup ((cK p).map D.str)),s5,s6,s7,s8,s9,s10]∧p.length=(pre ++ [c]).length∧rV names words p∧(cK p).length < names.length | _=>False):=by
     intro so' h1 h2 h3 h4
     try simp only [ab,aw,aq,aS,bL,bD,bin,cst,aa,ac,ai,bS,cj,bq,cp,Ef,Ej,En,Ek,El,on,Eh,reduceIte,Int.reduceLT,Int.reduceLE,Int.reducePow,Nat.reduceLeDiff,di,be]
     have hr:1≤1 + e' / 5 % 5∧1 + e' / 5 % 5≤5:=by omega
     rw [cY (by omega) (by omega)]
     try simp only [ab]
     refine bM (fun i:Nat=>D.int (0 + i)) (List.range (1 + e' / 5 % 5).toNat) (fun pr E=>∃ (ws:List Str) (e':Int) (sl2:Sl),E=[Sl.val (D.lst (cells.map D.int)),Sl.val (D.lst (names.map D.str)),Sl.val (D.lst (words.map D.str)),Sl.own (D.lst (p.map bB)),Sl.val (D.tup ((cK p).map D.str)),Sl.val (D.int e'),Sl.val (D.lst (free.map D.str)),Sl.own (D.lst (so'.map D.str)),sl,Sl.own (D.lst (ws.map D.str)),sl2]∧ws.length=pr.length∧∀ w ∈ ws,w ∈ words) rfl ⟨[],_,_,rfl,rfl,fun _ h=>by cases h⟩ ?_ ?_
     ·rintro pr k po E hk ⟨ws,e2,sl2,rfl,hwl,hws⟩
      have hwp:(0:Int) < ((words.map D.str).length:Int):=by simp; omega
      have hpl':pr.length < 5:=by
       have:=congrArg List.length hk
       simp at this
       omega
      simp only [ab,aG,bh,aw,aq,aS,bin,un,cst,aa,nmG,bq,cp,Ef,Ek,El,on,Eh,Int.reduceLT,Int.reduceLE,Int.reducePow,gK,d8,dk,bq hwp]
      refine vI (Int.emod_nonneg _ (by omega)) (Int.emod_lt_of_pos _ hwp) fun d hd=>?_
      obtain ⟨x,hx,rfl⟩:=List.mem_map.mp hd
      refine b_ (eQ (by simp; omega)) ?_
      try simp only [ab]
      exact ⟨ws ++ [x],_,_,by rw [List.map_append]; rfl,by simp [hwl],fun w hw'=>by
       rcases List.mem_append.mp hw' with z | z
       ·exact hws w z
       ·rw [List.mem_singleton.mp z]; exact hx⟩
     ·rintro E ⟨ws,e2,sl2,rfl,hwl,hws⟩
      rw [List.length_range] at hwl
      simp only [ab,aw,aq,aS,un,var,aa,ac,ai,c8,Ef,Ej,Em,En,Ek,El,on,Eh,reduceIte,Nat.reduceAdd,Nat.reduceLeDiff,be,dk,a8,tW (show so'.length < 64 by omega)]
      refine b_ (eQ (by simp; omega)) ?_
      try simp only [ab]
      have hperm:=bg so'
      have hdisj:∀ n ∈ cK p,n ∉ b7 so':=fun n hn' hm=>(hfsub n (h4 n (hperm.mem_iff.mp hm))).2 hn'
      refine ⟨p ++ [(b7 so',ws)],Sl.val (D.int e2),Sl.val (D.lst (free.map D.str)),Sl.own (D.lst (so'.map D.str)),sl,Sl.own (D.lst (ws.map D.str)),sl2,?_,by simp [hpl],⟨fun s hs'=>?_,?_⟩,?_⟩
      ·rw [kK,List.map_append]; rfl
      ·rcases List.mem_append.mp hs' with z | z
       ·exact hgood.each s z
       ·rw [List.mem_singleton.mp z]
        refine ⟨fun z=>h2 (List.length_eq_zero_iff.mp (by rw [← hperm.length_eq,show b7 so'=[] from z]; rfl)),by rw [hperm.length_eq]; omega,.inl (by rw [hperm.length_eq]; exact h3),fun n hn'=>(hfsub n (h4 n (hperm.mem_iff.mp hn'))).1,vV h1,fun z=>?_,by simp only; omega,hws⟩
        rw [show ws=[] from z] at hwl
        simp at hwl
        omega
      ·refine hgood.apart.snoc fun a ha n hn'=>?_
       have:cK p=a.1:=by unfold cK; rw [ha]; rfl
       exact hdisj n (by rw [this]; exact hn')
      ·rw [kK]
       show (b7 so').length < _
       rw [hperm.length_eq]; exact h3
    have one:wp ((bL 7 (bS (ac (bin ixE (aa 6) (bin cz (aa 5) (un aV (aa 6)))) ai))) [Sl.val (D.lst (cells.map D.int)),Sl.val (D.lst (names.map D.str)),Sl.val (D.lst (words.map D.str)),Sl.own (D.lst (p.map bB)),Sl.val (D.tup ((cK p).map D.str)),Sl.val (D.int e'),Sl.val (D.lst (free.map D.str)),Sl.own (D.lst (so.map D.str)),sl,s9,s10]) (fun r=>∃ x,x ∈ free∧r=.nx [Sl.val (D.lst (cells.map D.int)),Sl.val (D.lst (names.map D.str)),Sl.val (D.lst (words.map D.str)),Sl.own (D.lst (p.map bB)),Sl.val (D.tup ((cK p).map D.str)),Sl.val (D.int e'),Sl.val (D.lst (free.map D.str)),Sl.own (D.lst ([x].map D.str)),sl,s9,s10]):=by
     have hfp:(0:Int) < ((free.map D.str).length:Int):=by simp; omega
     simp only [ab,aG,bh,bL,bin,un,aa,ac,ai,bS,bq,Ef,Ej,Eo,Er,Em,En,Ek,El,on,Eh,reduceIte,Nat.reduceAdd,Nat.reduceLeDiff,be,gK,d8,bq hfp]
     refine vI (Int.emod_nonneg _ (by omega)) (Int.emod_lt_of_pos _ hfp) fun d hd=>?_
     obtain ⟨x,hx,rfl⟩:=List.mem_map.mp hd
     skip
     try simp only [ab,aG,bh,az,aw,aq,ca,ax,m7,aS,bL,bv,cm,bx,bD,ay,CT,bp,bin,un,dr,cst,var,aa,tst,asB,cw,DI,orT,bI,orV,ny,ifV,ao,ac,ai,c8,bS,aP,cj,km,noP,bQ,bJ,nmG,ci,aN,ck,isF,jl,xZ,noT,aQ,aD,fV,bq,cp,jP,Di,jS,nB,iH,nD,jT,sR,c7,DH,a5,aX,tyN,Ef,Ej,Option.bind_none,Option.map_none,Eo,Er,Eu,Ex,Em,En,Ek,El,on,Eh,List.replicate,Ey,List.foldl_nil,reduceIte,Nat.reduceAdd,Nat.reduceSub,Int.reduceLT,Int.reduceLE,Int.reducePow,Int.reduceToNat,Int.reduceAdd,Int.reduceSub,Int.reduceMul,Int.reduceNeg,Int.reduceAbs,Nat.reducePow,Nat.reduceLT,Nat.reduceLeDiff,Nat.reduceMul,and_true,true_and,and_self,Bool.not_true,Bool.not_false,Bool.false_eq_true,decide_true,decide_false,Option.some.injEq,D.int.injEq,D.bl.injEq,b9,String.reduceBEq,beq_self_eq_true,Bool.true_or,Bool.or_true,Bool.false_or,Bool.or_false,Bool.and_true,Bool.true_and,Bool.and_false,Bool.false_and,Bool.or_self,Bool.and_self,reduceCtorEq,di,sN,sL,sM,pP,pM,pO,sg,gB,m3,dF,nQ,rl,eA,sC,sP,pA,be,jr,bT,gK,dc,nE,d8,br,kJ,pL,dk,ly,nY,fj,gA,gl,fZ,a8,j0,mf,me,ff,Do,cP,Aw,zB,eB]
     exact ⟨x,hx,rfl⟩
    have single:∀ x,x ∈ free→([x]:List Str).Nodup∧([x]:List Str) ≠ []∧([x]:List Str).length < names.length∧∀ n ∈ [x],n ∈ free:=fun x hx=>⟨List.pairwise_singleton _ _,by simp,by simp; omega,fun n hn'=>by rw [List.mem_singleton.mp hn']; exact hx⟩
    have hcond:orT (tst (bin eqO (aa 7) (bS ai))) (tst (bin eqO (un aV (aa 7)) (un aV (aa 1)))) [Sl.val (D.lst (cells.map D.int)),Sl.val (D.lst (names.map D.str)),Sl.val (D.lst (words.map D.str)),Sl.own (D.lst (p.map bB)),Sl.val (D.tup ((cK p).map D.str)),Sl.val (D.int e'),Sl.val (D.lst (free.map D.str)),Sl.own (D.lst (so.map D.str)),sl,s9,s10]=some (decide (so=[]) || decide (so.length=names.length)):=by
     refine aM ?_
     simp only [bin,un,aa,tst,asB,orT,ai,bS,Ef,En,on,Eh,reduceIte,Nat.reduceLeDiff,dF,be,d8,vb hslow]
     by_cases hso:so=[]
     ·simp only [hso,ab,Er,En,reduceIte,decide_true,Bool.true_or]
     ·simp only [hso,ab,reduceIte,Bool.false_eq_true,decide_false,Bool.false_or,List.length_map]
      congr 1
      exact propext ⟨fun h=>by omega,fun h=>by omega⟩
    rw [aq,aw,bv,hcond,ab]
    refine rg (fun h=>?_) fun h=>?_
    ·refine dA one ?_
     rintro _ ⟨x,hx,rfl⟩
     obtain ⟨a1,a2,a3,a4⟩:=single x hx
     rw [aq]
     exact key [x] a1 a2 a3 a4
    ·simp only [Bool.or_eq_false_iff,decide_eq_false_iff_not] at h
     rw [show bp _=some (Out.nx _) from rfl,ab,aq]
     refine key so hsnd h.1 ?_ hsmem
     have h1:so.length ≠ names.length:=h.2
     have h2:so.length≤names.length:=Nat.le_trans hsub.length_le (by rw [← hfr]; exact List.length_filter_le _ _)
     omega
  ·simp only [ab,bin,var,aa,tst,asB,nmG,Ef,Ek,El,on,Eh,true_and,Bool.true_and,wT]
   exact fun _=>trivial
 ·rintro E ⟨p,s5,s6,s7,s8,s9,s10,rfl,hpl,hgood,hlast⟩
  try simp only [ab,aq,ax,ay,un,aa,Ef,Ej,on,Eh,a8]
  exact ⟨p,rfl,hpl,hgood⟩
end Sh
theorem oV (n:Nat):cV 0 n=(List.range n).map (fun i:Nat=>D.int (0 + i)):=rfl
theorem tu {α:Type}{xs:List α}{i:Nat}:atI xs (0 + (i:Int))=xs[i]?:=by rw [Int.zero_add]; exact bZ
theorem n5 {α:Type} [DecidableEq α] (xs ys:List α) (h:xs.length=ys.length):((List.range ys.length).map fun i=>decide (xs[i]? = ys[i]?)).all id=decide (xs=ys):=by
 rw [List.all_map]
 by_cases e:xs=ys
 ·subst e
  rw [decide_eq_true rfl,List.all_eq_true]
  intro i _
  simp
 ·rw [decide_eq_false e]
  rw [Bool.eq_false_iff]
  intro hall
  rw [List.all_eq_true] at hall
  refine e (List.ext_getElem? fun i=>?_)
  rcases Nat.lt_or_ge i ys.length with hi | hi
  ·have:=hall i (List.mem_range.mpr hi)
   simpa using this
  ·rw [List.getElem?_eq_none (by omega),List.getElem?_eq_none hi]
namespace Sh
theorem v8 (k:Nat) (a b:Str):g__Lsame (k + 1) [.str a,.str b]=some (.bl (decide (a=b))):=by
 refine aM ?_
 simp only [g__Lsame,b__Lsame,ab,az,aw,aq,ca,ax,bv,cm,bx,ay,bp,bin,aa,tst,asB,bI,isF,tyN,Ef,Ej,Eo,Er,Eu,Ex,Em,En,on,Eh,List.replicate,reduceIte,Nat.reduceAdd,Nat.reduceSub,b9,String.reduceBEq,beq_self_eq_true,Bool.or_false,Bool.and_false,nQ]
theorem v9 (k:Nat) (a b:Int):g__Lsame (k + 1) [.int a,.int b]=some (.bl (decide (a=b))):=by
 refine aM ?_
 simp only [g__Lsame,b__Lsame,ab,az,aw,aq,ax,bv,bx,ay,bp,bin,aa,tst,asB,bI,ny,isF,tyN,Ef,Ej,Eo,Er,Eu,Ex,Em,En,on,Eh,List.replicate,reduceIte,Nat.reduceAdd,Nat.reduceSub,Bool.not_false,b9,String.reduceBEq,beq_self_eq_true,Bool.or_false,Bool.and_true,Bool.and_false,dF]
theorem oQ {α:Type} [DecidableEq α] (enc:α→D) (k:Nat) (h:∀ a b,g__Lsame k [enc a,enc b]=some (.bl (decide (a=b)))) (xs ys:List α) (hx:xs.length≤4000000) (hy:ys.length≤4000000):g__Lsame (k + 1) [.tup (xs.map enc),.tup (ys.map enc)]=some (.bl (decide (xs=ys))):=by
 have hylen:(ys.map enc).length=ys.length:=List.length_map ..
 have hxlen:(xs.map enc).length=xs.length:=List.length_map ..
 by_cases hl:xs.length=ys.length
 ·have hc:bu (nmG 2) noT (ao 2 (g__Lsame k) (ac (bin ixE (aa 0) (aa 2)) (ac (bin ixE (aa 1) (aa 2)) ai))) [Sl.val (D.tup (xs.map enc)),Sl.val (D.tup (ys.map enc)),Sl.no] (cV 0 ys.length)=some ((List.range ys.length).map fun i=>D.bl (decide (xs[i]? = ys[i]?))):=by
   rw [oV]
   refine a7 _ _ _ fun i hi=>?_
   rw [List.mem_range] at hi
   have hi':i < xs.length:=by omega
   refine aM ?_
   simp only [ab,bin,aa,ao,ac,ai,Ef,Ej,Em,En,Ek,El,on,Eh,reduceIte,Nat.reduceAdd,Option.some.injEq,dc,tu,List.getElem?_map,List.getElem?_eq_getElem hi,List.getElem?_eq_getElem hi',h]
  have e0:decide ((xs.length:Int)=(ys.length:Int))=true:=by simp [hl]
  have hz:(cV 0 ys.length).length≤16777216:=by simp [cV]; omega
  have hr:jt [D.int (ys.length:Int)]=some (cV 0 ys.length):=by rw [cY (by omega) (by omega),Int.toNat_natCast]
  refine aM ?_
  simp only [g__Lsame,b__Lsame,ab,az,aw,aq,ca,ax,bv,cm,bx,ay,bp,bin,un,aa,tst,asB,cw,orT,ac,ai,cj,isF,aQ,aD,c7,tyN,Ef,Ej,Eo,Er,Eu,Ex,Em,En,Ek,El,on,Eh,List.replicate,Ey,List.foldl_nil,reduceIte,Nat.reduceAdd,Nat.reduceSub,Bool.not_true,Bool.false_eq_true,D.bl.injEq,b9,String.reduceBEq,beq_self_eq_true,Bool.or_false,Bool.and_false,eA,be,br,hylen,hxlen,e0,hr,hc,be hz,cn]
  rw [n5 xs ys hl]
 ·have e0:decide ((xs.length:Int)=(ys.length:Int))=false:=by simp; omega
  have hne:xs ≠ ys:=fun z=>hl (by rw [z])
  refine aM ?_
  simp only [g__Lsame,b__Lsame,ab,az,aw,ca,ax,bv,cm,ay,bin,un,cst,aa,tst,asB,cw,orT,isF,tyN,Ef,Ej,Eo,Er,Eu,Ex,Em,En,on,Eh,List.replicate,reduceIte,Nat.reduceAdd,Nat.reduceSub,Bool.not_true,Bool.not_false,Bool.false_eq_true,b9,String.reduceBEq,beq_self_eq_true,Bool.or_false,Bool.and_false,eA,br,hylen,hxlen,e0,decide_eq_false hne]
theorem t9 (k:Nat) (ss ts:List Str) (hx:ss.length≤4000000) (hy:ts.length≤4000000):g__Lsame (k + 2) [.tup (ss.map D.str),.tup (ts.map D.str)]=some (.bl (decide (ss=ts))):=oQ D.str (k + 1) (v8 k) ss ts hx hy
theorem t_ (k:Nat) (ss ts:List Int) (hx:ss.length≤4000000) (hy:ts.length≤4000000):g__Lsame (k + 2) [.tup (ss.map D.int),.tup (ts.map D.int)]=some (.bl (decide (ss=ts))):=oQ D.int (k + 1) (v9 k) ss ts hx hy
end Sh
end L2.Cu
namespace L2.Cu.Sh
open PySem PySem.Spec PyProof.Rows
noncomputable def b_names_in:DE→Option Out :=
 (av (bL 1 (bS ai))
 (av (cR (aP a5 (var 0)) (ci 2 (aN (nmG 2) (aN (nmG 3) ck)))
 (ly 1 (aa 2)))
 (ay (un aT (un fW (aa 1))))))
noncomputable def g_names_in:List D→Option D:=bi 1 4 b_names_in
noncomputable def b_begins:DE→Option Out :=
 (av (bL 1 (bS ai))
 (av (aS 2 (cst (.int 0)))
 (av (cR (aP a5 (var 0)) (ci 2 (aN (nmG 3) (aN (nmG 4) ck)))
 (av (dk 1 (var 2))
 (nY 2 (un aV (aa 4)))))
 (ay (un aT (aa 1))))))
noncomputable def g_begins:List D→Option D:=bi 1 5 b_begins
noncomputable def b_words_in:DE→Option Out :=
 (av (bL 1 (bS ai))
 (av (cR (aP a5 (var 0)) (ci 2 (aN (nmG 2) (aN (nmG 3) ck)))
 (ly 1 (aa 3)))
 (ay (un aT (aa 1)))))
noncomputable def g_words_in:List D→Option D:=bi 1 4 b_words_in
end L2.Cu.Sh
namespace L2.Cu
open PySem PySem.Spec PyProof.Rows
noncomputable def bz (p:List Sp) (n:Str):List Str:=p.foldl (fun h s=>if n ∈ s.1 then [] else h ++ s.2) []
theorem lK (p:List Sp) (s:Sp) (n:Str):bz (p ++ [s]) n=if n ∈ s.1 then [] else bz p n ++ s.2:=by unfold bz; rw [List.foldl_append]; rfl
noncomputable def aj (p:List Sp):List Str:=p.flatMap (·.2)
noncomputable def aB (p:List Sp):List Str:=p.flatMap (·.1)
theorem bP (p:List Sp) (s:Sp):aj (p ++ [s])=aj p ++ s.2:=by simp [aj]
theorem dI (p:List Sp) (s:Sp):aB (p ++ [s])=aB p ++ s.1:=by simp [aB]
theorem dt {p pre post:List Sp} (h:p=pre ++ post):(aj pre).length≤(aj p).length:=by
 subst h; simp [aj]
theorem d6 {p pre post:List Sp} (h:p=pre ++ post):(aB pre).length≤(aB p).length:=by
 subst h; simp [aB]
theorem io (n:Str):∀ p:List Sp,(bz p n).length≤(aj p).length:=by
 intro p
 have key:∀ (q:List Sp) (h:List Str),(q.foldl (fun h s=>if n ∈ s.1 then [] else h ++ s.2) h).length≤h.length + (aj q).length:=by
  intro q
  induction q with
  | nil=>intro h; simp [aj]
  | cons s q ih =>
   intro h
   rw [Ey]
   refine Nat.le_trans (ih _) ?_
   have e:(aj (s :: q)).length=s.2.length + (aj q).length:=by simp [aj]
   rw [e]
   split
   ·simp; omega
   ·rw [List.length_append]; omega
 have:=key p []
 simpa [bz] using this
noncomputable def gv:List Sp→Int→List Int
 | [],_=>[]
 | s :: r,t=>t :: gv r (t + s.2.length)
theorem mN:∀ (p:List Sp) (s:Sp) (t:Int),gv (p ++ [s]) t=gv p t ++ [t + (aj p).length]
 | [],s,t=>by simp [gv,aj]
 | a :: p,s,t=>by
  rw [Eu,gv,mN p s,gv,Eu]
  have e:(aj (a :: p)).length=a.2.length + (aj p).length:=by simp [aj]
  rw [e]
  congr 3
  omega
theorem k9:∀ (p:List Sp) (t:Int),(gv p t).length=p.length
 | [],_=>rfl
 | s :: p,t=>by rw [gv,Em,k9 p,Em]
theorem w6 {α β:Type} (f:α→β) (l:List α) (x:α):l.map f ++ [f x]=(l ++ [x]).map f:=by simp
namespace Sh
theorem oi (p:List Sp) (hw:(aj p).length≤1000000):g_words_in [cN p]=some (aJ (aj p)):=by
 refine aM ?_
 simp only [g_words_in,b_words_in,ab,az,aw,aq,bL,bD,var,ai,bS,aP,a5,Ef,Ej,Eo,Er,Eu,Ex,Em,En,Ek,El,on,List.replicate,reduceIte,Nat.reduceAdd,Nat.reduceSub,Nat.reduceLeDiff,be,cN]
 refine bM bB p (fun pre E=>∃ s2 s3,E=[Sl.val (D.tup (p.map bB)),Sl.own (D.lst ((aj pre).map D.str)),s2,s3]) rfl ⟨_,_,rfl⟩ ?_ ?_
 ·rintro pre s post E hs ⟨s4,s5,rfl⟩
  have h2:=dt (p:=p) (pre:=pre ++ [s]) (post:=post) (by rw [hs]; simp)
  rw [bP,List.length_append] at h2
  simp only [ab,aa,nmG,ci,aN,ck,Ef,Em,En,Ek,El,on,Eh,reduceIte,Nat.reduceAdd,ly,fZ,bB,aJ]
  refine b_ (fU (by simp; omega)) ?_
  simp only [ab]
  exact ⟨_,_,by rw [bP,List.map_append]⟩
 ·rintro E ⟨s4,s5,rfl⟩
  simp only [ab,aq,ax,ay,un,aa,Ef,Ej,on,Eh,a8,aJ]
theorem pD (p:List Sp) (hw:(aB p).length≤4000) (hd:(ded (aB p)).length < 64):g_names_in [cN p]=some (aJ (b7 (ded (aB p)))):=by
 refine aM ?_
 simp only [g_names_in,b_names_in,ab,az,aw,aq,bL,bD,var,ai,bS,aP,a5,Ef,Ej,Eo,Er,Eu,Ex,Em,En,Ek,El,on,List.replicate,reduceIte,Nat.reduceAdd,Nat.reduceSub,Nat.reduceLeDiff,be,cN]
 refine bM bB p (fun pre E=>∃ s2 s3,E=[Sl.val (D.tup (p.map bB)),Sl.own (D.lst ((aB pre).map D.str)),s2,s3]) rfl ⟨_,_,rfl⟩ ?_ ?_
 ·rintro pre s post E hs ⟨s4,s5,rfl⟩
  have h2:=d6 (p:=p) (pre:=pre ++ [s]) (post:=post) (by rw [hs]; simp)
  rw [dI,List.length_append] at h2
  simp only [ab,aa,nmG,ci,aN,ck,Ef,Em,En,Ek,El,on,Eh,reduceIte,Nat.reduceAdd,ly,fZ,bB,aJ]
  refine b_ (fU (by simp; omega)) ?_
  simp only [ab]
  exact ⟨_,_,by rw [dI,List.map_append]⟩
 ·rintro E ⟨s4,s5,rfl⟩
  simp only [ab,aq,ax,ay,un,aa,Ef,Ej,on,Eh,a8,aJ,oG (show (aB p).length + 1 < 4096 by omega) hd]
theorem vt (p:List Sp) (hp:p.length≤1000000):g_begins [cN p]=some (.tup ((gv p 0).map D.int)):=by
 refine aM ?_
 simp only [g_begins,b_begins,ab,az,aw,aq,aS,bL,bD,cst,var,ai,bS,aP,a5,Ef,Ej,Eo,Er,Eu,Ex,Em,En,Ek,El,on,List.replicate,reduceIte,Nat.reduceAdd,Nat.reduceSub,Nat.reduceLeDiff,be,cN]
 refine bM bB p (fun pre E=>∃ t s3 s4,E=[Sl.val (D.tup (p.map bB)),Sl.own (D.lst ((gv pre 0).map D.int)),Sl.val (D.int t),s3,s4]∧t=(aj pre).length) rfl ⟨_,_,_,rfl,rfl⟩ ?_ ?_
 ·rintro pre s post E hs ⟨t,s3,s4,rfl,ht⟩
  have hl:pre.length < p.length:=by rw [hs]; simp
  simp only [ab,aw,var,nmG,ci,aN,ck,Ef,Em,En,Ek,El,on,Eh,reduceIte,Nat.reduceAdd,dk,bB,aJ]
  refine b_ (eQ (by simp [k9]; omega)) ?_
  simp only [ab,aq,un,aa,Ef,Ek,El,on,Eh,br,nY]
  refine ⟨t + ((s.2.map D.str).length:Nat),Sl.val (D.tup (s.1.map D.str)),Sl.val (D.tup (s.2.map D.str)),?_,?_⟩
  ·rw [w6,mN,← ht,Int.zero_add]
  ·rw [ht,bP]; simp
 ·rintro E ⟨t,s3,s4,rfl,ht⟩
  simp only [ab,aq,ax,ay,un,aa,Ef,Ej,on,Eh,a8]
end Sh
noncomputable def g9 (m:List (Str×Int)) (n:Str) (t:Int):List (Str×Int):=if (m.any fun q=>decide (q.1=n))=true then m.map (fun q=>if q.1=n then (q.1,t) else q) else m ++ [(n,t)]
noncomputable def ig (m:List (Str×Int)):List (Key×D):=m.map fun q=>(Sum.inr q.1,D.int q.2)
theorem sJ (a b:Str):decide ((Sum.inr a:Key)=Sum.inr b)=decide (a=b):=by
 by_cases h:a=b
 ·simp [h]
 ·simp [h]
theorem o5 (m:List (Str×Int)) (n:Str) (t:Int):iD (ig m) (.inr n) (.int t)=ig (g9 m n t):=by
 have ha:((ig m).any fun kv=>decide (kv.1=Sum.inr n))=m.any fun q=>decide (q.1=n):=by
  unfold ig
  rw [List.any_map]
  congr 1
  funext q
  exact sJ q.1 n
 unfold iD g9
 rw [ha]
 split
 ·unfold ig
  rw [List.map_map,List.map_map]
  refine List.map_congr_left fun q _=>?_
  by_cases h:q.1=n
  ·simp [h]
  ·simp [h]
 ·unfold ig; simp
noncomputable def lx (m:List (Str×Int)) (n:Str):Option Int:=(m.find? fun q=>decide (q.1=n)).map (·.2)
theorem vN (m:List (Str×Int)) (n:Str):cF (ig m) (.inr n)=(lx m n).map D.int:=by
 unfold cF lx ig
 induction m with
 | nil=>rfl
 | cons q r ih =>
  rw [Eo,List.find?_cons,List.find?_cons,sJ]
  cases decide (q.1=n)
  ·exact ih
  ·rfl
theorem xx (m:List (Str×Int)) (n k:Str) (t:Int):lx (g9 m n t) k=if k=n then some t else lx m k:=by
 unfold g9
 by_cases ha:(m.any fun q=>decide (q.1=n))=true
 ·rw [if_pos ha]
  unfold lx
  induction m with
  | nil=>simp at ha
  | cons q r ih =>
   rw [Eo,List.find?_cons,List.find?_cons]
   by_cases hq:q.1=n
   ·rw [if_pos hq]
    by_cases hk:k=n
    ·subst hk; simp [hq]
    ·have h1:¬ q.1=k:=fun z=>hk (by rw [← z,hq])
     simp only [decide_eq_false h1,if_neg hk]
     by_cases hr:(r.any fun q=>decide (q.1=n))=true
     ·have:=ih hr
      rw [if_neg hk] at this
      exact this
     ·have e:r.map (fun q=>if q.1=n then (q.1,t) else q)=r:=by
       conv=>rhs; rw [← List.map_id r]
       refine List.map_congr_left fun x hx=>?_
       have:¬ x.1=n:=fun z=>hr (List.any_eq_true.mpr ⟨x,hx,decide_eq_true z⟩)
       simp [this]
      rw [e]
   ·rw [if_neg hq]
    by_cases hqk:q.1=k
    ·have hk:¬ k=n:=fun z=>hq (by rw [hqk,z])
     simp [hqk,if_neg hk]
    ·simp only [decide_eq_false hqk]
     have hr:(r.any fun q=>decide (q.1=n))=true:=by
      rw [List.any_cons,decide_eq_false hq] at ha
      simpa using ha
     exact ih hr
 ·rw [if_neg ha]
  unfold lx
  rw [List.find?_append]
  by_cases hk:k=n
  ·subst hk
   have:m.find? (fun q=>decide (q.1=k))=none:=List.find?_eq_none.mpr fun x hx z=>ha (List.any_eq_true.mpr ⟨x,hx,z⟩)
   rw [this]
   simp
  ·have h1:¬ n=k:=fun z=>hk z.symm
   rw [if_neg hk]
   cases m.find? (fun q=>decide (q.1=k)) with
   | some x=>rfl
   | none=>simp [h1]
theorem xh (m:List (Str×Int)) (n:Str) (t:Int):(g9 m n t).map (·.1)=if n ∈ m.map (·.1) then m.map (·.1) else m.map (·.1) ++ [n]:=by
 have hm:(m.any fun q=>decide (q.1=n))=true ↔ n ∈ m.map (·.1):=by
  rw [List.any_eq_true,List.mem_map]
  exact ⟨fun zz181_0=>by obtain ⟨x,h1,h2⟩:=zz181_0; exact ⟨x,h1,of_decide_eq_true h2⟩,fun zz182_0=>by obtain ⟨x,h1,h2⟩:=zz182_0; exact ⟨x,h1,decide_eq_true h2⟩⟩
 unfold g9
 by_cases h:(m.any fun q=>decide (q.1=n))=true
 ·rw [if_pos h,if_pos (hm.mp h),List.map_map]
  refine List.map_congr_left fun q _=>?_
  show (if q.1=n then (q.1,t) else q).1=q.1
  split <;> rfl
 ·rw [if_neg h,if_neg fun z=>h (hm.mpr z)]; simp
theorem gd {n x:Nat}{pre post:List Nat} (h:List.range n=pre ++ x :: post):x=pre.length∧x < n:=by
 have h1:(List.range n)[pre.length]? = some x:=by rw [h]; simp
 obtain ⟨h2,h3⟩:=List.getElem?_eq_some_iff.mp h1
 rw [List.getElem_range] at h3
 rw [List.length_range] at h2
 exact ⟨h3.symm,by omega⟩
theorem zV (xs ys:List Str):ded (xs ++ ys)=ys.foldl (fun acc x=>if x ∈ acc then acc else acc ++ [x]) (ded xs):=by unfold ded; rw [List.foldl_append]
structure fI (p:List Sp) (m:List (Str×Int)):Prop where
 keys:m.map (·.1)=ded (aB p)
 win:∀ n,∃ k:Nat,(lx m n).getD 0=(k:Int)∧k≤(aj p).length∧bz p n=(aj p).drop k
theorem fI.next {p:List Sp}{m:List (Str×Int)} (h:fI p m) (s:Sp):fI (p ++ [s]) (s.1.foldl (fun m n=>g9 m n ((aj (p ++ [s])).length:Int)) m):=by
 have hk:∀ (ns:List Str) (m:List (Str×Int)) (t:Int),(ns.foldl (fun m n=>g9 m n t) m).map (·.1)=ns.foldl (fun acc x=>if x ∈ acc then acc else acc ++ [x]) (m.map (·.1)):=by
  intro ns
  induction ns with
  | nil=>intro m t; rfl
  | cons n ns ih=>intro m t; rw [Ey,ih,xh,Ey]
 have hg:∀ (ns:List Str) (m:List (Str×Int)) (t:Int) (k:Str),lx (ns.foldl (fun m n=>g9 m n t) m) k=if k ∈ ns then some t else lx m k:=by
  intro ns
  induction ns with
  | nil=>intro m t k; simp
  | cons n ns ih =>
   intro m t k
   rw [Ey,ih,xx]
   by_cases h1:k ∈ ns
   ·simp [h1]
   ·by_cases h2:k=n
    ·simp [h2]
    ·simp [h1,h2]
 refine ⟨?_,fun n=>?_⟩
 ·rw [hk,h.keys,dI,zV]
 ·rw [hg,lK]
  by_cases hn:n ∈ s.1
  ·rw [if_pos hn,if_pos hn]
   exact ⟨_,rfl,Nat.le_refl _,by rw [List.drop_length]⟩
  ·rw [if_neg hn,if_neg hn]
   obtain ⟨k,h1,h2,h3⟩:=h.win n
   refine ⟨k,h1,by rw [bP,List.length_append]; omega,?_⟩
   rw [h3,bP,List.drop_append_of_le_length h2]
theorem eP {α:Type}{l:List α}{k:Nat} (h:k < l.length):l.take (k + 1)=l.take k ++ [l[k]]:=by
 rw [List.take_add_one,List.getElem?_eq_getElem h]; rfl
end L2.Cu
namespace L2.Cu.Sh
open PySem PySem.Spec PyProof.Rows
noncomputable def b_is_letters:DE→Option Out :=
 (ay (bI (isF "str" (aa 0)) (bI (dr leD leD (cst (.int 1)) (un aV (aa 0)) (aa 1)) (un c7 (aD [2] (aP aX (var 0)) (nmG 2) noT (dr leD leD (cst (.str "a")) (aa 2) (cst (.str "z"))))))))
noncomputable def g_is_letters:List D→Option D:=bi 2 3 b_is_letters
noncomputable def b_is_name:DE→Option Out :=
 (ay (ao 2 g_is_letters (ac (var 0) (ac (cst (.int 8)) ai))))
noncomputable def g_is_name:List D→Option D:=bi 1 1 b_is_name
noncomputable def b_is_word:DE→Option Out :=
 (ay (ao 2 g_is_letters (ac (var 0) (ac (cst (.int 12)) ai))))
noncomputable def g_is_word:List D→Option D:=bi 1 1 b_is_word
noncomputable def b_are_names:DE→Option Out :=
 (ay (un c7 (aD [1] (aP aX (var 0)) (nmG 1) noT (ao 1 g_is_name (ac (var 1) ai)))))
noncomputable def g_are_names:List D→Option D:=bi 1 2 b_are_names
noncomputable def b_are_words:DE→Option Out :=
 (ay (un c7 (aD [1] (aP aX (var 0)) (nmG 1) noT (ao 1 g_is_word (ac (var 1) ai)))))
noncomputable def g_are_words:List D→Option D:=bi 1 2 b_are_words
noncomputable def b_is_rising:DE→Option Out :=
 (ay (un c7 (aD [1,2] (mR (ac (var 0) (ac (bJ (aa 0) (bQ (cst (.int 1))) noP) ai))) (ci 2 (aN (nmG 1) (aN (nmG 2) ck))) noT (bin ltD (aa 1) (aa 2)))))
noncomputable def g_is_rising:List D→Option D:=bi 1 3 b_is_rising
noncomputable def b_is_speech_names:DE→Option Out :=
 (ay (bI (isF "tuple" (aa 0)) (bI (dr leD leD (cst (.int 1)) (un aV (aa 0)) (cst (.int 8))) (bI (ao 1 g_are_names (ac (var 0) ai)) (ao 1 g_is_rising (ac (var 0) ai))))))
noncomputable def g_is_speech_names:List D→Option D:=bi 1 1 b_is_speech_names
noncomputable def b_is_speech_words:DE→Option Out :=
 (ay (bI (isF "tuple" (aa 0)) (bI (bin gtD (un aV (aa 0)) (cst (.int 0))) (ao 1 g_are_words (ac (var 0) ai)))))
noncomputable def g_is_speech_words:List D→Option D:=bi 1 1 b_is_speech_words
noncomputable def b__Ltruth:DE→Option Out :=
 (ay (bI (isF "bool" (aa 0)) (bin eqO (aa 0) (aa 1))))
noncomputable def g__Ltruth:List D→Option D:=bi 2 2 b__Ltruth
end L2.Cu.Sh
namespace L2.Cu
open PySem PySem.Spec PyProof.Rows
theorem xa {x:Str} (h:x.length≤16777216):aV (.str x)=some (.int x.length):=by
 have:=zr (l:=x.cps.toList) (by rw [← ix]; exact h)
 rw [Dj,← ix] at this
 exact this
theorem w9 (a b:Nat):decide ([a] < [b])=decide (a < b):=by
 congr 1
 apply propext
 rw [List.cons_lt_cons_iff]
 simp
theorem DY (c:Nat):(!decide ([c] < (Str.ofString "a").cps.toList))=decide (97≤c):=by
 have e:(Str.ofString "a").cps.toList=[97]:=by decide
 rw [e,w9]
 by_cases h:97≤c
 ·simp [h]
 ·simp [h]; omega
theorem DX (c:Nat):(!decide ((Str.ofString "z").cps.toList < [c]))=decide (c≤122):=by
 have e:(Str.ofString "z").cps.toList=[122]:=by decide
 rw [e,w9]
 by_cases h:c≤122
 ·simp [h]
 ·simp [h]; omega
noncomputable def BB (x:Str):Bool:=x.cps.toList.all fun c=>decide (97≤c) && decide (c≤122)
noncomputable def isT (M:Int) (x:Str):Bool:=decide (1≤(x.length:Int)) && (decide ((x.length:Int)≤M) && BB x)
noncomputable def isL (M:Int):D→Bool
 | .str x=>isT M x
 | _=>false
theorem BQ {M:Int}{d:D} (h:isL M d=true):∃ x,d=.str x∧isT M x=true:=by
 cases d <;> first | exact ⟨_,rfl,h⟩ | cases h
noncomputable def xo:D→Bool
 | .str _=>true
 | _=>false
noncomputable def mq:D→Bool
 | .tup _=>true
 | _=>false
theorem yC (d:D) (h:xo d=false):b9 (tyN d) "str" = false:=by
 cases d <;> first | rfl | cases h
theorem iw (d:D) (h:mq d=false):b9 (tyN d) "tuple" = false:=by
 cases d <;> first | rfl | cases h
namespace Sh
theorem vP (a b:Bool):g__Ltruth [.bl a,.bl b]=some (.bl (a == b)):=by
 refine aM ?_
 simp only [g__Ltruth,b__Ltruth,ab,az,ax,ay,bin,aa,asB,bI,isF,tyN,Ef,Ej,Eo,Er,Eu,Ex,Em,En,on,Eh,List.replicate,reduceIte,Nat.reduceAdd,Nat.reduceSub,D.bl.injEq,b9,String.reduceBEq,beq_self_eq_true,Bool.or_false,Bool.and_false,rl]
 cases a <;> cases b <;> rfl
theorem pJ {x:Str}{m:Int} (hx:x.length≤16777216):g_is_letters [.str x,.int m]=some (.bl (isT m x)):=by
 have hs:(fY x).length≤16777216:=by
  unfold fY
  rw [List.length_map,← ix]; exact hx
 have hc:bu (nmG 2) noT (dr leD leD (cst (D.str (Str.ofString "a"))) (aa 2) (cst (D.str (Str.ofString "z")))) [Sl.val (D.str x),Sl.val (D.int m),Sl.no] (fY x)=some (x.cps.toList.map fun c=>D.bl (decide (97≤c) && decide (c≤122))):=by
  refine dS (fun c:Nat=>D.str ⟨#[c]⟩) (fun c=>D.bl (decide (97≤c) && decide (c≤122))) x.cps.toList fun c _=>?_
  simp only [ab,dr,cst,aa,asB,nmG,noT,nD,Ef,Ek,El,on,Eh,true_and,Bool.true_and]
  rw [DY]
  by_cases h:97≤c
  ·simp only [h,reduceIte,decide_true,Option.some.injEq,D.bl.injEq,Bool.true_and]; rw [DX]
  ·simp only [h,reduceIte,Bool.false_eq_true,decide_false,Bool.false_and]
 refine aM ?_
 simp only [g_is_letters,b_is_letters,aG,bh,az,ax,ay,un,dr,cst,var,aa,asB,bI,aP,isF,aQ,aD,iH,aX,tyN,Ef,Ej,Eo,Er,Eu,Ex,Em,En,Ek,El,on,Eh,List.replicate,Ey,List.foldl_nil,reduceIte,Nat.reduceAdd,Nat.reduceSub,b9,String.reduceBEq,beq_self_eq_true,Bool.or_false,Bool.and_false,xa hx,isT]
 by_cases h1:1≤(x.length:Int)
 ·by_cases h2:(x.length:Int)≤m
  ·simp only [h1,h2,ab,c7,Ef,Ej,reduceIte,decide_true,D.bl.injEq,Bool.true_and,be,hs,hc,cn,List.all_map,BB]
   rfl
  ·simp only [h1,h2,ab,reduceIte,Bool.false_eq_true,decide_true,decide_false,Bool.and_false,Bool.false_and]
 ·simp only [h1,ab,reduceIte,Bool.false_eq_true,decide_false,Bool.false_and]
theorem qY {d:D}{m:Int} (h:xo d=false):g_is_letters [d,.int m]=some (.bl false):=by
 refine aM ?_
 simp only [g_is_letters,b_is_letters,az,ab,aG,bh,ay,bI,isF,yC d h,aa,Em,En,Nat.reduceAdd,Nat.reduceSub,Eo,Er,Eu,Ex,on,asB,Bool.false_eq_true,reduceIte,ax]
noncomputable def SmS (d:D):Prop:=∀ x,d=.str x→x.length≤1000
theorem kI {d:D}{m:Int} (hd:SmS d):g_is_letters [d,.int m]=some (.bl (isL m d)):=by
 cases h:xo d with
 | true =>
  cases d with
  | str x=>exact pJ (Nat.le_trans (hd x rfl) (by decide))
  | _=>cases h
 | false =>
  rw [qY h]
  cases d <;> first | rfl | cases h
theorem rc {d:D} (hd:SmS d):g_is_word [d]=some (.bl (isL 12 d)):=by
 refine aM ?_
 simp only [g_is_word,b_is_word,ab,az,ax,ay,cst,var,ao,ac,ai,Ef,Ej,Eo,Er,Eu,Ex,Em,En,on,List.replicate,reduceIte,Nat.reduceAdd,Nat.reduceSub,kI hd]
theorem kM {d:D} (hd:SmS d):g_is_name [d]=some (.bl (isL 8 d)):=by
 refine aM ?_
 simp only [g_is_name,b_is_name,ab,az,ax,ay,cst,var,ao,ac,ai,Ef,Ej,Eo,Er,Eu,Ex,Em,En,on,List.replicate,reduceIte,Nat.reduceAdd,Nat.reduceSub,kI hd]
theorem n4 {ds:List D} (hl:ds.length≤1000) (hd:∀ d ∈ ds,SmS d):g_are_names [.tup ds]=some (.bl (ds.all (isL 8))):=by
 have hc:bu (nmG 1) noT (ao 1 g_is_name (ac (var 1) ai)) [Sl.val (D.tup ds),Sl.no] ds=some (ds.map fun d=>D.bl (isL 8 d)):=by
  have:=a7 (fun d:D=>d) (fun d=>D.bl (isL 8 d)) (i:=1) (ef:=ao 1 g_is_name (ac (var 1) ai)) (E:=[Sl.val (D.tup ds),Sl.no]) ds fun d hd'=>by
   refine aM ?_
   simp only [ab,var,ao,ac,ai,Ef,Ej,Em,En,Ek,El,on,Eh,reduceIte,Nat.reduceAdd,kM (hd d hd')]
  rwa [List.map_id'] at this
 have hs:ds.length≤16777216:=by omega
 refine aM ?_
 simp only [g_are_names,b_are_names,ab,az,ax,ay,un,var,aP,aQ,aD,c7,aX,Ef,Ej,Eo,Er,Eu,Ex,Em,En,Ek,El,on,List.replicate,Ey,List.foldl_nil,reduceIte,Nat.reduceAdd,Nat.reduceSub,D.bl.injEq,be,hs,hc,cn,List.all_map]
 rfl
theorem iU {ds:List D} (hl:ds.length≤1000) (hd:∀ d ∈ ds,SmS d):g_are_words [.tup ds]=some (.bl (ds.all (isL 12))):=by
 have hc:bu (nmG 1) noT (ao 1 g_is_word (ac (var 1) ai)) [Sl.val (D.tup ds),Sl.no] ds=some (ds.map fun d=>D.bl (isL 12 d)):=by
  have:=a7 (fun d:D=>d) (fun d=>D.bl (isL 12 d)) (i:=1) (ef:=ao 1 g_is_word (ac (var 1) ai)) (E:=[Sl.val (D.tup ds),Sl.no]) ds fun d hd'=>by
   refine aM ?_
   simp only [ab,var,ao,ac,ai,Ef,Ej,Em,En,Ek,El,on,Eh,reduceIte,Nat.reduceAdd,rc (hd d hd')]
  rwa [List.map_id'] at this
 have hs:ds.length≤16777216:=by omega
 refine aM ?_
 simp only [g_are_words,b_are_words,ab,az,ax,ay,un,var,aP,aQ,aD,c7,aX,Ef,Ej,Eo,Er,Eu,Ex,Em,En,Ek,El,on,List.replicate,Ey,List.foldl_nil,reduceIte,Nat.reduceAdd,Nat.reduceSub,D.bl.injEq,be,hs,hc,cn,List.all_map]
 rfl
end Sh
theorem uL {a b c:Str} (h:ltS a b) (h':ltS b c):ltS a c:=List.lt_trans h h'
noncomputable def jE (ss:List Str):Bool:=((ss.zip (ss.drop 1)).map fun q=>decide (q.1.cps.toList < q.2.cps.toList)).all id
theorem oW:∀ ss:List Str,jE ss=true ↔ ss.Pairwise ltS
 | []=>by simp [jE]
 | [a]=>by simp [jE]
 | a :: b :: r=>by
  have ih:=oW (b :: r)
  have e:jE (a :: b :: r)=(decide (a.cps.toList < b.cps.toList) && jE (b :: r)):=by simp [jE]
  rw [e,Bool.and_eq_true,ih,decide_eq_true_eq]
  constructor
  ·rintro ⟨h1,h2⟩
   refine List.pairwise_cons.mpr ⟨fun x hx=>?_,h2⟩
   rcases List.mem_cons.mp hx with z | z
   ·rw [z]; exact h1
   ·exact uL h1 ((List.pairwise_cons.mp h2).1 x z)
  ·intro h
   obtain ⟨h1,h2⟩:=List.pairwise_cons.mp h
   exact ⟨h1 b List.mem_cons_self,h2⟩
noncomputable def strOf:D→Option Str
 | .str x=>some x
 | _=>none
noncomputable def dU (ds:List D):List Str:=ds.filterMap strOf
theorem j1 (ss:List Str):dU (ss.map D.str)=ss:=by
 unfold dU
 induction ss with
 | nil=>rfl
 | cons a r ih=>rw [Eo,List.filterMap_cons]; simp only [strOf]; rw [ih]
theorem la {M:Int}:∀ {ds:List D},ds.all (isL M)=true→ds=(dU ds).map D.str
 | [],_=>rfl
 | d :: ds,h=>by
  rw [List.all_cons,Bool.and_eq_true] at h
  obtain ⟨x,rfl,_⟩:=BQ h.1
  have:=la h.2
  show _ :: _=(List.filterMap strOf (D.str x :: ds)).map D.str
  rw [List.filterMap_cons]
  simp only [strOf,Eo]
  exact congrArg _ this
noncomputable def jH:D→Bool
 | .tup ds=>decide (1≤(ds.length:Int)) && (decide ((ds.length:Int)≤8) && (ds.all (isL 8) && jE (dU ds)))
 | _=>false
noncomputable def lv:D→Bool
 | .tup ds=>decide (0 < (ds.length:Int)) && ds.all (isL 12)
 | _=>false
noncomputable def D0:D→Bool
 | .tup [a,b]=>jH a && lv b
 | _=>false
noncomputable def SmT (P:D→Prop) (d:D):Prop:=∀ ds,d=.tup ds→ds.length≤1000∧∀ x ∈ ds,P x
namespace Sh
noncomputable abbrev Sm1:=SmT SmS
theorem vE (ss:List Str):List.zipWith (fun a b=>D.tup [a,b]) (ss.map D.str) (cA (ss.map D.str) (some 1) none)=(ss.zip (ss.drop 1)).map fun q=>D.tup [D.str q.1,D.str q.2]:=by
 have e:cA (ss.map D.str) (some 1) none=(ss.drop 1).map D.str:=by
  have:=kY (ss.map D.str) 1
  rw [List.map_drop]; exact this
 rw [e,List.zipWith_map,List.zip,List.map_zipWith]
theorem nG (ss:List Str) (hl:ss.length≤1000):g_is_rising [.tup (ss.map D.str)]=some (.bl (jE ss)):=by
 have hc:bu (ci 2 (aN (nmG 1) (aN (nmG 2) ck))) noT (bin ltD (aa 1) (aa 2)) [Sl.val (D.tup (ss.map D.str)),Sl.no,Sl.no] ((ss.zip (ss.drop 1)).map fun q=>D.tup [D.str q.1,D.str q.2])=some ((ss.zip (ss.drop 1)).map fun q=>D.bl (decide (q.1.cps.toList < q.2.cps.toList))):=by
  refine dS (fun q:Str×Str=>D.tup [D.str q.1,D.str q.2]) (fun q=>D.bl (decide (q.1.cps.toList < q.2.cps.toList))) _ fun q _=>?_
  simp only [ab,bin,aa,nmG,ci,aN,ck,noT,nB,Ef,Em,En,Ek,El,on,Eh,reduceIte,Nat.reduceAdd,true_and,Bool.true_and]
 have hs:((ss.zip (ss.drop 1)).map fun q:Str×Str=>D.tup [D.str q.1,D.str q.2]).length≤16777216:=by simp; omega
 refine aM ?_
 simp only [g_is_rising,b_is_rising,mR,tK,ab,az,ax,ay,un,cst,var,aa,ac,ai,noP,bQ,bJ,aQ,aD,c7,a5,Ef,Ej,Eo,Er,Eu,Ex,Em,En,Ek,El,on,List.replicate,Ey,List.foldl_nil,reduceIte,Nat.reduceAdd,Nat.reduceSub,gB,be,vE,hs,hc,cn,List.all_map,jE]
theorem wW {d:D} (hd:Sm1 d):g_is_speech_names [d]=some (.bl (jH d)):=by
 cases h:mq d with
 | true =>
  cases d with
  | tup ds =>
   obtain ⟨hl,hx⟩:=hd ds rfl
   refine aM ?_
   simp only [g_is_speech_names,b_is_speech_names,aG,bh,az,ax,ay,un,dr,cst,var,aa,asB,bI,ao,ac,ai,isF,iH,tyN,Ef,Ej,Eo,Er,Eu,Ex,Em,En,on,List.replicate,reduceIte,Nat.reduceAdd,Nat.reduceSub,b9,String.reduceBEq,beq_self_eq_true,Bool.or_false,Bool.and_false,br,jH]
   by_cases h1:1≤(ds.length:Int)
   ·by_cases h2:(ds.length:Int)≤8
    ·simp only [h1,h2,ab,Ef,reduceIte,decide_true,Bool.true_and,n4 hl hx]
     cases h3:ds.all (isL 8) with
     | true =>
      have hr:g_is_rising [.tup ds]=some (.bl (jE (dU ds))):=by
       have e:=la h3
       conv=>lhs; rw [e]
       exact nG _ (by
        have:=congrArg List.length e
        simp at this
        omega)
      simp only [ab,reduceIte,Bool.true_and,hr]
     | false=>simp only [ab,reduceIte,Bool.false_eq_true,Bool.false_and]
    ·simp only [h1,h2,ab,reduceIte,Bool.false_eq_true,decide_true,decide_false,Bool.and_false,Bool.false_and]
   ·simp only [h1,ab,reduceIte,Bool.false_eq_true,decide_false,Bool.false_and]
  | _=>cases h
 | false =>
  have e:g_is_speech_names [d]=some (.bl false):=by
   refine aM ?_
   simp only [g_is_speech_names,b_is_speech_names,az,ab,aG,bh,ay,bI,isF,iw d h,aa,Em,En,Nat.reduceAdd,Nat.reduceSub,Eo,Er,Eu,Ex,on,asB,Bool.false_eq_true,reduceIte,ax]
  rw [e]
  cases d <;> first | rfl | cases h
theorem vJ {d:D} (hd:Sm1 d):g_is_speech_words [d]=some (.bl (lv d)):=by
 cases h:mq d with
 | true =>
  cases d with
  | tup ds =>
   obtain ⟨hl,hx⟩:=hd ds rfl
   refine aM ?_
   simp only [g_is_speech_words,b_is_speech_words,bh,az,ax,ay,bin,un,cst,var,aa,asB,bI,ao,ac,ai,isF,jT,tyN,Ef,Ej,Eo,Er,Eu,Ex,Em,En,on,List.replicate,reduceIte,Nat.reduceAdd,Nat.reduceSub,b9,String.reduceBEq,beq_self_eq_true,Bool.or_false,Bool.and_false,br,lv]
   by_cases h1:0 < (ds.length:Int)
   ·simp only [h1,ab,reduceIte,decide_true,Bool.true_and,iU hl hx]
   ·simp only [h1,ab,reduceIte,Bool.false_eq_true,decide_false,Bool.false_and]
  | _=>cases h
 | false =>
  have e:g_is_speech_words [d]=some (.bl false):=by
   refine aM ?_
   simp only [g_is_speech_words,b_is_speech_words,az,ab,aG,bh,ay,bI,isF,iw d h,aa,Em,En,Nat.reduceAdd,Nat.reduceSub,Eo,Er,Eu,Ex,on,asB,Bool.false_eq_true,reduceIte,ax]
  rw [e]
  cases d <;> first | rfl | cases h
end Sh
theorem sO {M:Int}{x:Str} (h:isT M x=true):lF x:=by
 unfold isT at h
 rw [Bool.and_eq_true,Bool.and_eq_true] at h
 intro c hc
 have:=List.all_eq_true.mp h.2.2 c hc
 rw [Bool.and_eq_true] at this
 exact of_decide_eq_true this.2
noncomputable def sD:D→List Str
 | .tup [.tup as,_]=>dU as
 | _=>[]
noncomputable def D_ (a b:D):Bool:=(sD a).any fun n=>decide (n ∈ sD b)
noncomputable def nb (ds:List D):Bool:=((ds.zip (ds.drop 1)).map fun q=>D_ q.1 q.2).any id
theorem Wd.isT {M:Nat}{x:Str} (h:Wd M x):isT M x=true:=by
 unfold L2.Cu.isT BB
 have h1:=h.pos
 have h2:=h.le
 rw [decide_eq_true (by omega),decide_eq_true (by omega),List.all_eq_true.mpr fun c hc=>by
  have:=h.low c hc
  rw [decide_eq_true this.1,decide_eq_true this.2]; rfl]
 rfl
theorem zA {M:Int}{x:Str} (h:isT M x=true):(x.length:Int)≤M:=by
 unfold isT at h
 rw [Bool.and_eq_true,Bool.and_eq_true] at h
 exact of_decide_eq_true h.2.1
structure im (s:Sp):Prop where
 ne:s.1 ≠ []
 le:s.1.length≤8
 nm:∀ n ∈ s.1,isT 8 n=true
 ris:s.1.Pairwise ltS
 wne:s.2 ≠ []
 wle:s.2.length≤8
 wd:∀ w ∈ s.2,isT 12 w=true
theorem n6 {M:Int}{ss:List Str} (h:∀ x ∈ ss,isT M x=true):(ss.map D.str).all (isL M)=true:=by
 rw [List.all_map,List.all_eq_true]; exact h
theorem sF {α:Type}{l:List α} (h:l ≠ []):1≤l.length:=by
 cases l with
 | nil=>exact absurd rfl h
 | cons _ _=>simp
theorem xp {s:Sp} (h:im s):D0 (bB s)=true:=by
 show (jH (aJ s.1) && lv (aJ s.2))=true
 have h1:=sF h.ne
 have h2:=sF h.wne
 have h3:=h.le
 have e1:jH (aJ s.1)=true:=by
  show (decide (1≤((s.1.map D.str).length:Int)) && (decide (((s.1.map D.str).length:Int)≤8) && ((s.1.map D.str).all (isL 8) && jE (dU (s.1.map D.str)))))=true
  rw [j1,(oW _).mpr h.ris,n6 h.nm,List.length_map,decide_eq_true (by omega),decide_eq_true (by omega)]
  rfl
 have e2:lv (aJ s.2)=true:=by
  show (decide (0 < ((s.2.map D.str).length:Int)) && (s.2.map D.str).all (isL 12))=true
  rw [n6 h.wd,List.length_map,decide_eq_true (by omega)]
  rfl
 rw [e1,e2]
 rfl
theorem fQ.at:∀ {p:List Sp},fQ p→∀ (i:Nat) (h:i + 1 < p.length),og p[i] p[i + 1]
 | a :: b :: r,h,0,_=>h.1
 | a :: b :: r,h,i + 1,hi=>fQ.at (p:=b :: r) h.2 i (by simpa using hi)
 | [],_,_,h=>by simp at h
 | [_],_,_,h=>by simp at h
namespace Sh
theorem sf {x:Str} (h:x.length≤1000):SmS (.str x):=fun y e=>by cases e; exact h
end Sh
theorem rT.fine {names words:List Str}{s:Sp} (h:rT names words s) (hn:∀ x ∈ names,Wd 8 x) (hw:∀ x ∈ words,Wd 12 x) (hl:names.length≤8):im s :=
 ⟨h.ne,Nat.le_trans h.le hl,fun n hx=>(hn n (h.sub n hx)).isT,h.ris,h.wne,Nat.le_trans h.wle (by decide),fun w hx=>(hw w (h.wsub w hx)).isT⟩
theorem xN (a b:Sp):fR (bB a) (bB b)=decide (a=b):=by
 show fR (.tup [aJ a.1,aJ a.2]) (.tup [aJ b.1,aJ b.2])=_
 rw [va,show fR (aJ a.1) (aJ b.1)=decide (a.1=b.1) from kT D.str iO _ _,show fR (aJ a.2) (aJ b.2)=decide (a.2=b.2) from kT D.str iO _ _,← Bool.decide_and]
 congr 1
 exact propext Prod.ext_iff.symm
theorem u6 {s:Sp} (h:im s):i4 2 (bB s):=u5 [aJ s.1,aJ s.2] fun x hx=>by
 rcases List.mem_cons.mp hx with z | z
 ·rw [z]; exact gp D.str s.1 fun n hn=>eZ (sO (h.nm n hn))
 ·rw [List.mem_singleton.mp z]; exact gp D.str s.2 fun n hn=>eZ (sO (h.wd n hn))
theorem zY {α:Type}{l:List α}{a b:Option Int}{x:α} (h:x ∈ cA l a b):x ∈ l:=by
 unfold cA at h
 exact List.mem_of_mem_drop (List.mem_of_mem_take h)
open PySem PySem.W PySem.Calls PyProof.Rows PySem.Spec Att
theorem Ca (P:Params):((boot_heap P).isNs mainGlobals,(boot_heap P).objs.size,(boot_heap P).nsMap mainGlobals "__annotations__")=(true,11,some (.ref 6)):=by kernel_rfl
noncomputable abbrev rK (p q:Program) (loose:List Str) (Xt:Shared→Bool) {α:Type} (Yf:Shared→α) (a:α) (N:Nat):Prop:=∀ (w:World) (os:OsState),
 (PySem.W.Fast.tw14082659384304107361 PySem.W.Fast.tw14364793385576792824 p w 11 (some (.ref 6)) N ⟨boot_heap w.params,Array.mk [],boot_drawn,boot_toks,os⟩ (topStub p)).map
  (fun s=>(staticsOk (importedModules p.main.body) (boot_heap w.params) s.heap && namesBound p s.heap && gensDone s && laidKept (boot_heap w.params) s.heap,
   PySem.W.Fast.tw4187177175401517315 q loose (importedModules p.main.body) Xt true s,Yf s))=some (true,openGood q loose,a)
theorem zt {p q:Program}{loose:List Str}{Xt:Shared→Bool} {α:Type}{Yf:Shared→α}{a:α}{N:Nat} (e:opening p=plainProg p.main.scope.names) (hN:Nat.ble 600 N=true) (f:∀ s,fenceModules? p s=some s)
  (h:rK p q loose Xt Yf a N):LeftO p q loose Xt Yf (fun _=>a) N:=fun w=>by
 obtain ⟨⟨hp,gs,d,k,os⟩,e1,e2⟩:=Option.map_eq_some_iff.mp (boot_open e hN f w)
 obtain ⟨rfl,rfl,rfl,rfl⟩:hp=boot_heap w.params∧gs=Array.mk []∧d=boot_drawn∧k=boot_toks:=by simpa using e2
 obtain ⟨s,r1,r2⟩:=Option.map_eq_some_iff.mp (h w os)
 rw [← PySem.W.Fast.te14082659384304107361,← PySem.W.Fast.te14364793385576792824] at r1
 rw [← PySem.W.Fast.te4187177175401517315] at r2
 obtain ⟨b1,b2⟩:=Prod.mk.inj (Ca w.params)
 obtain ⟨b2,b3⟩:=Prod.mk.inj b2
 obtain ⟨c1,c2⟩:=Prod.mk.inj r2
 have t:topFrom treeTable p w N ⟨boot_heap w.params,Array.mk [],boot_drawn,boot_toks,os⟩=some s:=by
  unfold topFrom
  dsimp only
  rw [b1,b2,b3,r1]
  show (match staticsOk (importedModules p.main.body) (boot_heap w.params) s.heap && namesBound p s.heap && gensDone s && laidKept (boot_heap w.params) s.heap with | true=>some s | false=>none)=_
  rw [c1]
 unfold openEnds
 rw [e1]
 show (topFrom treeTable p w N _).map _=_
 rw [t]
 exact congrArg some c2
noncomputable def KH (h:Heap):Frag:=(List.range h.objs.size).filterMap fun a=>match h.get? a with
 | some o=>if o.cls == Value.type "list" then none else some (a,o)
 | none=>none
theorem w_ {K:Frag}{a:Addr}{o:Obj}:K.lookup a=some o→(a,o) ∈ K:=by
 induction K with
 | nil=>intro e; cases e
 | cons p r ih =>
  intro e
  obtain ⟨b,x⟩:=p
  rw [List.lookup_cons] at e
  cases hb:a == b with
  | true=>rw [hb] at e; cases e; rw [beq_iff_eq.mp hb]; exact .head _
  | false=>rw [hb] at e; exact .tail _ (ih e)
theorem w5 {h:Heap}{a:Addr}{o:Obj} (m:(a,o) ∈ KH h):h.get? a=some o∧o.cls ≠ Value.type "list" := by
 obtain ⟨b,_,e⟩:=List.mem_filterMap.mp m
 cases hb:h.get? b with
 | none=>rw [hb] at e; cases e
 | some x =>
  rw [hb] at e
  dsimp only at e
  by_cases hc:(x.cls == Value.type "list")=true
  ·rw [if_pos hc] at e; cases e
  ·rw [if_neg hc] at e; cases e; exact ⟨hb,fun q=>hc (beq_iff_eq.mpr q)⟩
theorem DL (h:Heap):(KH h).In h:=fun _ _ e=>(w5 (w_ e)).1
theorem vC (h:Heap):nz (KH h)=true:=List.all_eq_true.mpr fun p m=>by
 have:=(w5 (a:=p.1) (o:=p.2) m).2
 simpa using this
noncomputable def cJ (s:Stmt):Str:=match s with
 | .FunctionDef n _ _ _ _ _ _ _ _ _=>n
 | _ => ""
noncomputable abbrev dm (p:Program) (i:Nat):Stmt:=p.main.body.getD i (.Pass ⟨0,0,0,0⟩)
noncomputable def AF (fd:FuncData):FuncData:={ fd with kwdefaults:=.none,doc:=.none,pyModule:=.none,annotations:=none,code:=.none,closureTuple:=.none }
noncomputable def BW (K:Frag) (qual:Str) (f:Addr):Option (FuncData×Bool×Bool):=match K.lookup f with
 | some ⟨_,_,.func fd,_⟩=>some (AF fd,codeIn K fd.code qual,keepIn K (.ref f))
 | _=>none
noncomputable def xA (K:Frag) (st:Stmt):Option (FuncData×Bool×Bool):=match nsIn K mainGlobals (cJ st) with
 | some (some (.ref f))=>BW K (cJ st) f
 | _=>none
noncomputable abbrev AB (x qual:Str) (st:Stmt):Option (FuncData×Bool×Bool):=some (fnOf x qual (jW st) (eE st) (ag st) .none .none .none .none none .none .none,true,true)
noncomputable def Cw:Option (Option Value)→Option (Option Value)
 | some (some (.int n _))=>some (some (.int n 0))
 | x=>x
theorem Dz {K:Frag}{x qual:Str}{st:Stmt}{f:Addr} (e:BW K qual f=AB x qual st):∃ fd,Fun K x qual st f fd:=by
 unfold BW at e
 split at e
 ·rename_i oc od fd sl hl
  obtain ⟨e1,e2⟩:=Prod.mk.inj (Option.some.inj e)
  obtain ⟨e2,e3⟩:=Prod.mk.inj e2
  refine ⟨fd,⟨oc,od,fd.kwdefaults,fd.doc,fd.pyModule,fd.annotations,fd.code,fd.closureTuple,sl,?_,hl,e2⟩,e3⟩
  cases fd
  simp only [AF,FuncData.mk.injEq,true_and] at e1 ⊢
  exact e1
 ·cases e
structure TT (p:Program) (ds:List Nat) (zs:List Str) (cs:List (Str×Int)) {β:Type} (mo:Frag→β) (mb:β) (K:Frag) (mg:Str→Option Value) where
 f:Nat→Addr
 fd:Nat→FuncData
 F:∀ i,i ∈ ds→Fun K (cJ (dm p i)) (cJ (dm p i)) (dm p i) (f i) (fd i)
 m:∀ i,i ∈ ds→mg (cJ (dm p i))=some (.ref (f i))
 z:∀ x,x ∈ zs→mg x=none
 t:Str→Tok
 c:∀ y,y ∈ cs→mg y.1=some (.int y.2 (t y.1))
 o:mo K=mb
noncomputable abbrev iM (p:Program) (ds:List Nat) (zs:List Str) (cs:List (Str×Int)) {β:Type} (mo:Frag→β) (K:Frag):=(ds.map fun i=>xA K (dm p i),zs.map (nsIn K mainGlobals),(cs.map fun c=>Cw (nsIn K mainGlobals c.1)),mo K)
noncomputable abbrev p0 (p:Program) (ds:List Nat) (zs:List Str) (cs:List (Str×Int)) {β:Type} (mb:β):=((ds.map fun i=>AB (cJ (dm p i)) (cJ (dm p i)) (dm p i)),(zs.map fun _=>some none:List (Option (Option Value))),(cs.map fun c=>(some (some (.int c.2 0)):Option (Option Value))),mb)
theorem Ct {p:Program}{ds:List Nat}{zs:List Str}{cs:List (Str×Int)} {β:Type}{mo:Frag→β}{mb:β}{K:Frag}{h:Heap}{mg:Str→Option Value} (X:K.In h) (G:h.Ns mainGlobals mg) (e:iM p ds zs cs mo K=p0 p ds zs cs mb):Nonempty (TT p ds zs cs mo mb K mg):=by
 obtain ⟨e1,e⟩:=Prod.mk.inj e
 obtain ⟨e2,e⟩:=Prod.mk.inj e
 obtain ⟨e3,e4⟩:=Prod.mk.inj e
 have A:∀ i,∃ f fd,i ∈ ds→Fun K (cJ (dm p i)) (cJ (dm p i)) (dm p i) f fd∧mg (cJ (dm p i))=some (.ref f):=fun i=>by
  by_cases hi:i ∈ ds
  ·have q:=List.map_inj_left.mp e1 i hi
   unfold xA at q
   split at q
   ·rename_i f hf
    obtain ⟨fd,r⟩:=Dz q
    exact ⟨f,fd,fun _=>⟨r,mg_of X G hf⟩⟩
   ·cases q
  ·exact ⟨0,default,fun q=>absurd q hi⟩
 have B:∀ x,∃ t,∀ n,(x,n) ∈ cs→mg x=some (.int n t):=fun x=>by
  by_cases hx:∃ n,(x,n) ∈ cs
  ·obtain ⟨n,hn⟩:=hx
   have q:=List.map_inj_left.mp e3 _ hn
   dsimp only at q
   have u:∃ n' t,nsIn K mainGlobals x=some (some (.int n' t)):=by
    unfold Cw at q
    split at q
    ·rename_i n' t hh; exact ⟨n',t,hh⟩
    ·rename_i hh; exact absurd q (hh n 0)
   obtain ⟨n',t,hh⟩:=u
   refine ⟨t,fun n₂ h₂=>?_⟩
   have q₂:=List.map_inj_left.mp e3 _ h₂
   dsimp only at q₂
   rw [hh] at q₂
   have z:=Option.some.inj (Option.some.inj q₂)
   injection z with z
   subst z
   exact mg_of X G hh
  ·exact ⟨0,fun n hn=>absurd ⟨n,hn⟩ hx⟩
 exact ⟨⟨fun i=>(A i).choose,fun i=>(A i).choose_spec.choose,fun i hi=>((A i).choose_spec.choose_spec hi).1,fun i hi=>((A i).choose_spec.choose_spec hi).2,
  fun x hx=>mg_none_of X G (List.map_inj_left.mp e2 x hx),fun x=>(B x).choose,fun y hy=>(B y.1).choose_spec y.2 hy,e4⟩⟩
theorem Cr {l:OpenLaw}{n k:Nat}{q:Program}{loose:List Str}{XP:(Str→Option Value)→Heap→Prop}{YP:World→Heap→Prop}{d:DefRec}{x:Str}{g:List D→Option D}
  (hn:l.most=some n) (hn2:n≤sizeLine) (hdf:d.params.defaults=[]) (hr:dM k callerA)
  (F:∀ (w:World) (mg:Str→Option Value) (fa:Addr) (h:Heap),YP w h→h.Ns mainGlobals mg→mg d.name=some (.ref fa)→∃ K:Frag,K.In h∧nz K=true ∧
   ∃ fd:FuncData,(∀ (s:Shared) (u:Value),BindsTo s fd ⟨[u],[]⟩ [(x,u)])∧∀ base:Heap,K.In base→base.Ns mainGlobals mg→bC l.prog w K mg base CX0 k fa fd [x] (spD 1 g))
  (law:∀ ns:List Int,ns.length≤n→(∀ i ∈ ns,Builtin.Int.intBits i≤2 ^ 20)→g [.scr ns]=some (.bl true)):WalkO q loose XP YP l.row.toRowW d [] (fun f vs=>PySem.call f vs):=by
 intro w s₀ s₁ mg mb G Y fa o pm cd doc dV kV ho hd hcd hD hmg hg args vals as hpre hlay hrd hwl hlo
 obtain rfl:dV=.none:=Dflts.none hD hdf
 obtain rfl:kV=.none:=Dflts.noKw hD
 obtain ⟨a,vs,ns,rfl,rfl,hobj,hints,hlen⟩:=tZ hn hpre hwl
 obtain ⟨K,KX,hK,fd,hb,hF⟩:=F w mg fa _ Y G.T.g hmg
 have run:=xg (CX:=CX0) (sp:=spD 1 g) KX G.T.g G.T.b G.T.builtins G.T.nolimit hg hobj hints (Nat.le_trans hlen hn2) hr hF hb
  (fun H hO hS=>BD (fun o ho=>pz hK ho) hS hO (law ns hlen (z_ hlay))) fun _ _ _ z=>z
 refine enter_call (codeAny_mono run fun r s' hq=>?_)
 obtain ⟨rfl,h2,h3,h4⟩:=hq
 exact ⟨.inl ⟨.bool true,.bool true,[],rfl,fun _=>rfl,.bool true,ui l _,fun _=>⟨List.Pairwise.nil,fun _ hm=>(nomatch hm)⟩⟩,h2,h3,h4⟩
noncomputable abbrev hJ (p:Program):List Str:=(p.main.scope.names.map (·.1)).filter fun x => !(x == ("law" : Str))
theorem Dc {l:OpenLaw}{n k i N:Nat}{x:Str}{g:List D→Option D}{ds:List Nat}{zs:List Str}{cs:List (Str×Int)} {β:Type}{mo:Frag→β}{mb:β}{d:DefRec}
  (run:rK l.prog (view l.prog [i]) (hJ l.prog) (fun s=>xlAt (view l.prog [i]) [] s && recOk [] s) (fun s=>iM l.prog ds zs cs mo (KH s.heap)) (p0 l.prog ds zs cs mb) N)
  (said:PySem.W.Fast.tw9446332074065402090 l=true) (e:opening l.prog=plainProg l.prog.main.scope.names) (hN:Nat.ble 600 N=true) (f:∀ s,fenceModules? l.prog s=some s)
  (hdef:defOf (view l.prog [i]) l.name=some (d,[])) (hp:l.prog.theDef l.name=some (d.params,d.body,d.scope)) (hk:kwWritten? d.params.kwonlyargs d.params.kw_defaults=some [])
  (ok:(chainsOk (view l.prog [i]) && opensWell l.prog && (frees l.row.toRowW && l.row.within.isEmpty))=true) (hb:l.prog.bare) (hw:l.row.toRowW.promised)
  (hn:l.most=some n) (hn2:n≤sizeLine) (hdf:d.params.defaults=[]) (hr:dM k callerA) (hnm:d.name=cJ (dm l.prog i)) (hi:i ∈ ds)
  (F:∀ {w:World}{K:Frag}{mg:Str→Option Value} (T:TT l.prog ds zs cs mo mb K mg) (base:Heap),K.In base→base.Ns mainGlobals mg→bC l.prog w K mg base CX0 k (T.f i) (T.fd i) [x] (spD 1 g))
  (B:∀ (kV doc pm:Value) (an:Option Addr) (cdv ct:Value) (u:Value),bindArgs (fnOf (cJ (dm l.prog i)) (cJ (dm l.prog i)) (jW (dm l.prog i)) (eE (dm l.prog i)) (ag (dm l.prog i)) .none kV doc pm an cdv ct) ⟨[u],[]⟩=pure [(x,u)])
  (law:∀ ns:List Int,ns.length≤n→(∀ i ∈ ns,Builtin.Int.intBits i≤2 ^ 20)→g [.scr ns]=some (.bl true)):l.Holds:=by
 have sd:l.wellSaid=true:=by rw [PySem.W.Fast.te9446332074065402090]; exact said
 refine holds_law sd fun k1=>holds_open (q:=view l.prog [i]) (loose:=hJ l.prog) (Xt:=fun s=>xlAt (view l.prog [i]) [] s && recOk [] s) (XP:=XL (view l.prog [i]) []) (Yf:=fun s=>iM l.prog ds zs cs mo (KH s.heap)) (Ya:=fun _=>p0 l.prog ds zs cs mb)
  (YP:=fun _ h=>∃ K:Frag,K.In h∧nz K=true∧iM l.prog ds zs cs mo K=p0 l.prog ds zs cs mb) (N:=N) (d:=d) (kwd:=[])
  (zt e hN f run) (fun w s y=>⟨KH s.heap,DL _,vC _,y⟩) (fun w h h' y kp=>?_) (fun s q=>xl_of s (Bool.and_eq_true_iff.mp q).1) XL.keeps hdef hp hk (fun s q=>recFacts_of (Bool.and_eq_true_iff.mp q).2) (Bool.or_true _) k1 ok hb hw ?_
 ·obtain ⟨K,a,b,c⟩:=y
  exact ⟨K,a.keeps kp,b,c⟩
 ·refine Cr (x:=x) hn hn2 hdf hr (fun w mg fa h Y G hm=>?_) law
  obtain ⟨K,a,b,c⟩:=Y
  obtain ⟨T⟩:=Ct (mg:=mg) a G c
  refine ⟨K,a,b,T.fd i,?_,?_⟩
  ·obtain ⟨oc,od,kV,doc,pm,an,cdv,ct,osl,q,_⟩:=(T.F i hi).ex
   rw [q]
   exact fun s u=>.of_eq (B kV doc pm an cdv ct u)
  ·have:=hm.symm.trans (hnm ▸ T.m i hi)
   cases this
   exact fun base kb nb=>F T base kb nb
end L2.Cu
namespace L2.Cu.Wk
open PySem PySem.Spec PyProof.Rows
noncomputable def cv (i:Nat):Stmt:=PySem.Challenge.pw_cuebook_k12_books_cut.main.body.getD i (.Pass ⟨0,0,0,0⟩)
noncomputable abbrev lZ:Stmt:=cv 34
noncomputable abbrev vB:List Str:=["_law_cell_here"]
theorem qG:aF vB ["_law_cell_here"] (ag lZ):=⟨rfl,rfl,rfl,by decide +kernel,rfl,by decide +kernel,by decide +kernel⟩
noncomputable abbrev oT:Stmt:=cv 35
noncomputable abbrev yp:List Str:=["_law_script","_law_k"]
theorem t8:aF yp ["_law_script","_law_k"] (ag oT):=⟨rfl,rfl,rfl,by decide +kernel,rfl,by decide +kernel,by decide +kernel⟩
noncomputable abbrev eT:Stmt:=cv 36
noncomputable abbrev gO:List Str:=["_law_cell_here","_law_many","_law_most","_law_letters","_law_way","_law_size","_law_at","_law_stem","_law_k"]
theorem bw:aF gO ["_law_cell_here","_law_many","_law_most"] (ag eT):=⟨rfl,rfl,rfl,by decide +kernel,rfl,by decide +kernel,by decide +kernel⟩
noncomputable abbrev kj:Stmt:=cv 37
noncomputable abbrev qk:List Str:=["_law_cells","_law_names","_law_words","_law_play_here","_law_ahead","_law_cell_here","_law_free","_law_some","_law_name","_law_row","_law_k"]
theorem bn:aF qk ["_law_cells","_law_names","_law_words"] (ag kj):=⟨rfl,rfl,rfl,by decide +kernel,rfl,by decide +kernel,by decide +kernel⟩
noncomputable abbrev gc:Stmt:=cv 40
noncomputable abbrev jC:List Str:=["_law_play_here","_law_found","_law_told","_law_last","_law_names","_law_words","_law_name"]
theorem bK:aF jC ["_law_play_here"] (ag gc):=⟨rfl,rfl,rfl,by decide +kernel,rfl,by decide +kernel,by decide +kernel⟩
noncomputable abbrev kl:Stmt:=cv 41
noncomputable abbrev rS:List Str:=["_law_windows_here","_law_cells","_law_found","_law_at","_law_cell_here","_law_row","_law_heard","_law_size"]
theorem bR:aF rS ["_law_windows_here","_law_cells"] (ag kl):=⟨rfl,rfl,rfl,by decide +kernel,rfl,by decide +kernel,by decide +kernel⟩
noncomputable abbrev i9:Stmt:=cv 42
noncomputable abbrev mQ:List Str:=["_law_play_here","_law_windows_here","_law_counts_here","_law_found","_law_at","_law_names","_law_words","_law_k","_law_heard","_law_cue","_law_j"]
theorem cb:aF mQ ["_law_play_here","_law_windows_here","_law_counts_here"] (ag i9):=⟨rfl,rfl,rfl,by decide +kernel,rfl,by decide +kernel,by decide +kernel⟩
noncomputable abbrev dX:Stmt:=cv 20
noncomputable abbrev gy:List Str:=["play","last_ends","place","counts","names","words","name"]
theorem bd:aF gy ["play"] (ag dX):=⟨rfl,rfl,rfl,by decide +kernel,rfl,by decide +kernel,by decide +kernel⟩
noncomputable abbrev ke:Stmt:=cv 7
noncomputable abbrev rO:List Str:=["thing"]
theorem oM:aF rO ["thing"] (ag ke):=⟨rfl,rfl,rfl,by decide +kernel,rfl,by decide +kernel,by decide +kernel⟩
noncomputable abbrev kg:Stmt:=cv 23
noncomputable abbrev rQ:List Str:=["thing","size"]
theorem oO:aF rQ ["thing","size"] (ag kg):=⟨rfl,rfl,rfl,by decide +kernel,rfl,by decide +kernel,by decide +kernel⟩
noncomputable abbrev fA:Stmt:=cv 24
noncomputable abbrev iZ:List Str:=["thing","row","number","size"]
theorem eI:aF iZ ["thing","row"] (ag fA):=⟨rfl,rfl,rfl,by decide +kernel,rfl,by decide +kernel,by decide +kernel⟩
noncomputable abbrev kh:Stmt:=cv 25
noncomputable abbrev rR:List Str:=["play","thing","at","row"]
theorem f8:aF rR ["play","thing"] (ag kh):=⟨rfl,rfl,rfl,by decide +kernel,rfl,by decide +kernel,by decide +kernel⟩
noncomputable abbrev f_:Stmt:=cv 26
noncomputable abbrev lg:List Str:=["play","thing","amiss"]
theorem fK:aF lg ["play","thing"] (ag f_):=⟨rfl,rfl,rfl,by decide +kernel,rfl,by decide +kernel,by decide +kernel⟩
noncomputable abbrev kd:Stmt:=cv 16
noncomputable abbrev rN:List Str:=["play","found","names","words"]
theorem el:aF rN ["play"] (ag kd):=⟨rfl,rfl,rfl,by decide +kernel,rfl,by decide +kernel,by decide +kernel⟩
noncomputable abbrev kc:Stmt:=cv 17
noncomputable abbrev rL:List Str:=["play","found","names","words"]
theorem ej:aF rL ["play"] (ag kc):=⟨rfl,rfl,rfl,by decide +kernel,rfl,by decide +kernel,by decide +kernel⟩
noncomputable abbrev oS:Stmt:=cv 18
noncomputable abbrev yo:List Str:=["play","places","spoken","names","words"]
theorem dQ:aF yo ["play"] (ag oS):=⟨rfl,rfl,rfl,by decide +kernel,rfl,by decide +kernel,by decide +kernel⟩
noncomputable abbrev Al:Stmt:=cv 27
noncomputable abbrev AG:List Str:=["play","counts","entries","name","heard","speech","begin","row","many","books"]
theorem dW:aF AG ["play","counts"] (ag Al):=⟨rfl,rfl,rfl,by decide +kernel,rfl,by decide +kernel,by decide +kernel⟩
noncomputable abbrev ki:Stmt:=cv 38
noncomputable abbrev qj:List Str:=["_law_found","_law_due","_law_k"]
theorem i6:aF qj ["_law_found","_law_due"] (ag ki):=⟨rfl,rfl,rfl,by decide +kernel,rfl,by decide +kernel,by decide +kernel⟩
noncomputable abbrev i8:Stmt:=cv 43
noncomputable abbrev mP:List Str:=["_law_found","_law_due","_law_name"]
theorem j_:aF mP ["_law_found","_law_due"] (ag i8):=⟨rfl,rfl,rfl,by decide +kernel,rfl,by decide +kernel,by decide +kernel⟩
noncomputable abbrev lY:Stmt:=cv 39
noncomputable abbrev vA:List Str:=["_law_found","_law_due"]
theorem qF:aF vA ["_law_found","_law_due"] (ag lY):=⟨rfl,rfl,rfl,by decide +kernel,rfl,by decide +kernel,by decide +kernel⟩
noncomputable abbrev fw:Stmt:=cv 8
noncomputable abbrev iY:List Str:=["thing","most","sign"]
theorem gR:aF iY ["thing","most"] (ag fw):=⟨rfl,rfl,rfl,by decide +kernel,rfl,by decide +kernel,by decide +kernel⟩
noncomputable abbrev lX:Stmt:=cv 10
noncomputable abbrev vz:List Str:=["thing"]
theorem qE:aF vz ["thing"] (ag lX):=⟨rfl,rfl,rfl,by decide +kernel,rfl,by decide +kernel,by decide +kernel⟩
noncomputable abbrev lW:Stmt:=cv 9
noncomputable abbrev vy:List Str:=["thing"]
theorem qD:aF vy ["thing"] (ag lW):=⟨rfl,rfl,rfl,by decide +kernel,rfl,by decide +kernel,by decide +kernel⟩
noncomputable abbrev ga:Stmt:=cv 12
noncomputable abbrev jA:List Str:=["things","thing"]
theorem iA:aF jA ["things"] (ag ga):=⟨rfl,rfl,rfl,by decide +kernel,rfl,by decide +kernel,by decide +kernel⟩
noncomputable abbrev oR:Stmt:=cv 28
noncomputable abbrev yn:List Str:=["thing"]
theorem t0:aF yn ["thing"] (ag oR):=⟨rfl,rfl,rfl,by decide +kernel,rfl,by decide +kernel,by decide +kernel⟩
noncomputable abbrev gb:Stmt:=cv 11
noncomputable abbrev jB:List Str:=["things","thing"]
theorem iB:aF jB ["things"] (ag gb):=⟨rfl,rfl,rfl,by decide +kernel,rfl,by decide +kernel,by decide +kernel⟩
noncomputable abbrev f9:Stmt:=cv 13
noncomputable abbrev jz:List Str:=["names","early","late"]
theorem fu:aF jz ["names"] (ag f9):=⟨rfl,rfl,rfl,by decide +kernel,rfl,by decide +kernel,by decide +kernel⟩
noncomputable abbrev er:Stmt:=cv 14
noncomputable abbrev iX:List Str:=["thing"]
theorem gZ:aF iX ["thing"] (ag er):=⟨rfl,rfl,rfl,by decide +kernel,rfl,by decide +kernel,by decide +kernel⟩
noncomputable abbrev em:Stmt:=cv 15
noncomputable abbrev iW:List Str:=["thing"]
theorem gY:aF iW ["thing"] (ag em):=⟨rfl,rfl,rfl,by decide +kernel,rfl,by decide +kernel,by decide +kernel⟩
noncomputable abbrev kf:Stmt:=cv 29
noncomputable abbrev rP:List Str:=["name","thing"]
theorem oN:aF rP ["name","thing"] (ag kf):=⟨rfl,rfl,rfl,by decide +kernel,rfl,by decide +kernel,by decide +kernel⟩
noncomputable abbrev gC:Stmt:=cv 30
noncomputable abbrev jo:List Str:=["name","thing","entry"]
theorem g0:aF jo ["name","thing"] (ag gC):=⟨rfl,rfl,rfl,by decide +kernel,rfl,by decide +kernel,by decide +kernel⟩
noncomputable abbrev g6:Stmt:=cv 31
noncomputable abbrev lf:List Str:=["thing","name","entries"]
theorem f7:aF lf ["thing"] (ag g6):=⟨rfl,rfl,rfl,by decide +kernel,rfl,by decide +kernel,by decide +kernel⟩
noncomputable abbrev m5:Stmt:=cv 32
noncomputable abbrev tH:List Str:=["books","found","name","entries","entry"]
theorem f6:aF tH ["books"] (ag m5):=⟨rfl,rfl,rfl,by decide +kernel,rfl,by decide +kernel,by decide +kernel⟩
noncomputable abbrev i7:Stmt:=cv 21
noncomputable abbrev mO:List Str:=["row","many","size"]
theorem j9:aF mO ["row","many"] (ag i7):=⟨rfl,rfl,rfl,by decide +kernel,rfl,by decide +kernel,by decide +kernel⟩
noncomputable abbrev m6:Stmt:=cv 22
noncomputable abbrev tI:List Str:=["play","many","row"]
theorem oP:aF tI ["play","many"] (ag m6):=⟨rfl,rfl,rfl,by decide +kernel,rfl,by decide +kernel,by decide +kernel⟩
noncomputable abbrev lV:Stmt:=cv 44
noncomputable abbrev qi:List Str:=["_law_script","_law_cell_here","_law_names","_law_words","_law_play_here","_law_windows_here","_law_counts_here","_law_due","_law_found","_law_many","_law_ones","_law_name","_law_entry","_law_row","_law_heard"]
theorem cU:aF qi ["_law_script"] (ag lV):=⟨rfl,rfl,rfl,by decide +kernel,rfl,by decide +kernel,by decide +kernel⟩
noncomputable abbrev ds:List Nat:=[34,35,36,37,40,41,42,20,7,23,24,25,26,16,17,18,27,38,43,39,8,10,9,12,28,11,13,14,15,29,30,31,32,21,22,44]
noncomputable abbrev zs:List Str:=["all","bool","dict","enumerate","int","isinstance","len","min","range","set","sorted","str","tuple","zip"]
noncomputable abbrev cs:List (Str×Int):=[("NAME_LETTERS",8),("SPEECH_NAMES",8),("WORD_LETTERS",12)]
noncomputable abbrev TX (K:PySem.W.Frag) (mg:Str→Option Value):=TT PySem.Challenge.pw_cuebook_k12_books_cut ds zs cs (fun _=>()) () K mg
section
variable {K:PySem.W.Frag}{mg:Str→Option Value} (T:TX K mg)
noncomputable abbrev TX.f__Lmixed:=T.f 34
noncomputable abbrev TX.fd__Lmixed:=T.fd 34
theorem TX.F__Lmixed:Fun K "_law_mixed" "_law_mixed" lZ T.f__Lmixed T.fd__Lmixed:=T.F 34 (by decide)
theorem TX.m__Lmixed:mg "_law_mixed" = some (.ref T.f__Lmixed):=T.m 34 (by decide)
theorem TX.b__Lmixed:bc K T.fd__Lmixed ["_law_cell_here"] []:=T.F__Lmixed.binds fun _ _ _ _ _ _ us hl=>by obtain ⟨u0,rfl⟩:=ul1 hl; rfl
noncomputable abbrev TX.f__Lcell:=T.f 35
noncomputable abbrev TX.fd__Lcell:=T.fd 35
theorem TX.F__Lcell:Fun K "_law_cell" "_law_cell" oT T.f__Lcell T.fd__Lcell:=T.F 35 (by decide)
theorem TX.m__Lcell:mg "_law_cell" = some (.ref T.f__Lcell):=T.m 35 (by decide)
theorem TX.b__Lcell:bc K T.fd__Lcell ["_law_script","_law_k"] []:=T.F__Lcell.binds fun _ _ _ _ _ _ us hl=>by obtain ⟨u0,u1,rfl⟩:=ul2 hl; rfl
noncomputable abbrev TX.f__Ltexts:=T.f 36
noncomputable abbrev TX.fd__Ltexts:=T.fd 36
theorem TX.F__Ltexts:Fun K "_law_texts" "_law_texts" eT T.f__Ltexts T.fd__Ltexts:=T.F 36 (by decide)
theorem TX.m__Ltexts:mg "_law_texts" = some (.ref T.f__Ltexts):=T.m 36 (by decide)
theorem TX.b__Ltexts:bc K T.fd__Ltexts ["_law_cell_here","_law_many","_law_most"] []:=T.F__Ltexts.binds fun _ _ _ _ _ _ us hl=>by obtain ⟨u0,u1,u2,rfl⟩:=ul3 hl; rfl
noncomputable abbrev TX.f__Lplay:=T.f 37
noncomputable abbrev TX.fd__Lplay:=T.fd 37
theorem TX.F__Lplay:Fun K "_law_play" "_law_play" kj T.f__Lplay T.fd__Lplay:=T.F 37 (by decide)
theorem TX.m__Lplay:mg "_law_play" = some (.ref T.f__Lplay):=T.m 37 (by decide)
theorem TX.b__Lplay:bc K T.fd__Lplay ["_law_cells","_law_names","_law_words"] []:=T.F__Lplay.binds fun _ _ _ _ _ _ us hl=>by obtain ⟨u0,u1,u2,rfl⟩:=ul3 hl; rfl
noncomputable abbrev TX.f__Lwindows:=T.f 40
noncomputable abbrev TX.fd__Lwindows:=T.fd 40
theorem TX.F__Lwindows:Fun K "_law_windows" "_law_windows" gc T.f__Lwindows T.fd__Lwindows:=T.F 40 (by decide)
theorem TX.m__Lwindows:mg "_law_windows" = some (.ref T.f__Lwindows):=T.m 40 (by decide)
theorem TX.b__Lwindows:bc K T.fd__Lwindows ["_law_play_here"] []:=T.F__Lwindows.binds fun _ _ _ _ _ _ us hl=>by obtain ⟨u0,rfl⟩:=ul1 hl; rfl
noncomputable abbrev TX.f__Lcounts:=T.f 41
noncomputable abbrev TX.fd__Lcounts:=T.fd 41
theorem TX.F__Lcounts:Fun K "_law_counts" "_law_counts" kl T.f__Lcounts T.fd__Lcounts:=T.F 41 (by decide)
theorem TX.m__Lcounts:mg "_law_counts" = some (.ref T.f__Lcounts):=T.m 41 (by decide)
theorem TX.b__Lcounts:bc K T.fd__Lcounts ["_law_windows_here","_law_cells"] []:=T.F__Lcounts.binds fun _ _ _ _ _ _ us hl=>by obtain ⟨u0,u1,rfl⟩:=ul2 hl; rfl
noncomputable abbrev TX.f__Lbooks:=T.f 42
noncomputable abbrev TX.fd__Lbooks:=T.fd 42
theorem TX.F__Lbooks:Fun K "_law_books" "_law_books" i9 T.f__Lbooks T.fd__Lbooks:=T.F 42 (by decide)
theorem TX.m__Lbooks:mg "_law_books" = some (.ref T.f__Lbooks):=T.m 42 (by decide)
theorem TX.b__Lbooks:bc K T.fd__Lbooks ["_law_play_here","_law_windows_here","_law_counts_here"] []:=T.F__Lbooks.binds fun _ _ _ _ _ _ us hl=>by obtain ⟨u0,u1,u2,rfl⟩:=ul3 hl; rfl
noncomputable abbrev TX.f_whole_counts:=T.f 20
noncomputable abbrev TX.fd_whole_counts:=T.fd 20
theorem TX.F_whole_counts:Fun K "whole_counts" "whole_counts" dX T.f_whole_counts T.fd_whole_counts:=T.F 20 (by decide)
theorem TX.m_whole_counts:mg "whole_counts" = some (.ref T.f_whole_counts):=T.m 20 (by decide)
theorem TX.b_whole_counts:bc K T.fd_whole_counts ["play"] []:=T.F_whole_counts.binds fun _ _ _ _ _ _ us hl=>by obtain ⟨u0,rfl⟩:=ul1 hl; rfl
noncomputable abbrev TX.f_is_whole:=T.f 7
noncomputable abbrev TX.fd_is_whole:=T.fd 7
theorem TX.F_is_whole:Fun K "is_whole" "is_whole" ke T.f_is_whole T.fd_is_whole:=T.F 7 (by decide)
theorem TX.m_is_whole:mg "is_whole" = some (.ref T.f_is_whole):=T.m 7 (by decide)
theorem TX.b_is_whole:bc K T.fd_is_whole ["thing"] []:=T.F_is_whole.binds fun _ _ _ _ _ _ us hl=>by obtain ⟨u0,rfl⟩:=ul1 hl; rfl
noncomputable abbrev TX.f_is_count:=T.f 23
noncomputable abbrev TX.fd_is_count:=T.fd 23
theorem TX.F_is_count:Fun K "is_count" "is_count" kg T.f_is_count T.fd_is_count:=T.F 23 (by decide)
theorem TX.m_is_count:mg "is_count" = some (.ref T.f_is_count):=T.m 23 (by decide)
theorem TX.b_is_count:bc K T.fd_is_count ["thing","size"] []:=T.F_is_count.binds fun _ _ _ _ _ _ us hl=>by obtain ⟨u0,u1,rfl⟩:=ul2 hl; rfl
noncomputable abbrev TX.f_are_counts:=T.f 24
noncomputable abbrev TX.fd_are_counts:=T.fd 24
theorem TX.F_are_counts:Fun K "are_counts" "are_counts" fA T.f_are_counts T.fd_are_counts:=T.F 24 (by decide)
theorem TX.m_are_counts:mg "are_counts" = some (.ref T.f_are_counts):=T.m 24 (by decide)
theorem TX.b_are_counts:bc K T.fd_are_counts ["thing","row"] []:=T.F_are_counts.binds fun _ _ _ _ _ _ us hl=>by obtain ⟨u0,u1,rfl⟩:=ul2 hl; rfl
noncomputable abbrev TX.f_amiss_at:=T.f 25
noncomputable abbrev TX.fd_amiss_at:=T.fd 25
theorem TX.F_amiss_at:Fun K "amiss_at" "amiss_at" kh T.f_amiss_at T.fd_amiss_at:=T.F 25 (by decide)
theorem TX.m_amiss_at:mg "amiss_at" = some (.ref T.f_amiss_at):=T.m 25 (by decide)
theorem TX.b_amiss_at:bc K T.fd_amiss_at ["play","thing"] []:=T.F_amiss_at.binds fun _ _ _ _ _ _ us hl=>by obtain ⟨u0,u1,rfl⟩:=ul2 hl; rfl
noncomputable abbrev TX.f_check_counts:=T.f 26
noncomputable abbrev TX.fd_check_counts:=T.fd 26
theorem TX.F_check_counts:Fun K "check_counts" "check_counts" f_ T.f_check_counts T.fd_check_counts:=T.F 26 (by decide)
theorem TX.m_check_counts:mg "check_counts" = some (.ref T.f_check_counts):=T.m 26 (by decide)
theorem TX.b_check_counts:bc K T.fd_check_counts ["play","thing"] []:=T.F_check_counts.binds fun _ _ _ _ _ _ us hl=>by obtain ⟨u0,u1,rfl⟩:=ul2 hl; rfl
noncomputable abbrev TX.f_names_in:=T.f 16
noncomputable abbrev TX.fd_names_in:=T.fd 16
theorem TX.F_names_in:Fun K "names_in" "names_in" kd T.f_names_in T.fd_names_in:=T.F 16 (by decide)
theorem TX.m_names_in:mg "names_in" = some (.ref T.f_names_in):=T.m 16 (by decide)
theorem TX.b_names_in:bc K T.fd_names_in ["play"] []:=T.F_names_in.binds fun _ _ _ _ _ _ us hl=>by obtain ⟨u0,rfl⟩:=ul1 hl; rfl
noncomputable abbrev TX.f_words_in:=T.f 17
noncomputable abbrev TX.fd_words_in:=T.fd 17
theorem TX.F_words_in:Fun K "words_in" "words_in" kc T.f_words_in T.fd_words_in:=T.F 17 (by decide)
theorem TX.m_words_in:mg "words_in" = some (.ref T.f_words_in):=T.m 17 (by decide)
theorem TX.b_words_in:bc K T.fd_words_in ["play"] []:=T.F_words_in.binds fun _ _ _ _ _ _ us hl=>by obtain ⟨u0,rfl⟩:=ul1 hl; rfl
noncomputable abbrev TX.f_begins:=T.f 18
noncomputable abbrev TX.fd_begins:=T.fd 18
theorem TX.F_begins:Fun K "begins" "begins" oS T.f_begins T.fd_begins:=T.F 18 (by decide)
theorem TX.m_begins:mg "begins" = some (.ref T.f_begins):=T.m 18 (by decide)
theorem TX.b_begins:bc K T.fd_begins ["play"] []:=T.F_begins.binds fun _ _ _ _ _ _ us hl=>by obtain ⟨u0,rfl⟩:=ul1 hl; rfl
noncomputable abbrev TX.f_cut:=T.f 27
noncomputable abbrev TX.fd_cut:=T.fd 27
theorem TX.F_cut:Fun K "cut" "cut" Al T.f_cut T.fd_cut:=T.F 27 (by decide)
theorem TX.m_cut:mg "cut" = some (.ref T.f_cut):=T.m 27 (by decide)
theorem TX.b_cut:bc K T.fd_cut ["play","counts"] []:=T.F_cut.binds fun _ _ _ _ _ _ us hl=>by obtain ⟨u0,u1,rfl⟩:=ul2 hl; rfl
noncomputable abbrev TX.f__Lsame:=T.f 38
noncomputable abbrev TX.fd__Lsame:=T.fd 38
theorem TX.F__Lsame:Fun K "_law_same" "_law_same" ki T.f__Lsame T.fd__Lsame:=T.F 38 (by decide)
theorem TX.m__Lsame:mg "_law_same" = some (.ref T.f__Lsame):=T.m 38 (by decide)
theorem TX.b__Lsame:bc K T.fd__Lsame ["_law_found","_law_due"] []:=T.F__Lsame.binds fun _ _ _ _ _ _ us hl=>by obtain ⟨u0,u1,rfl⟩:=ul2 hl; rfl
noncomputable abbrev TX.f__Lright:=T.f 43
noncomputable abbrev TX.fd__Lright:=T.fd 43
theorem TX.F__Lright:Fun K "_law_right" "_law_right" i8 T.f__Lright T.fd__Lright:=T.F 43 (by decide)
theorem TX.m__Lright:mg "_law_right" = some (.ref T.f__Lright):=T.m 43 (by decide)
theorem TX.b__Lright:bc K T.fd__Lright ["_law_found","_law_due"] []:=T.F__Lright.binds fun _ _ _ _ _ _ us hl=>by obtain ⟨u0,u1,rfl⟩:=ul2 hl; rfl
noncomputable abbrev TX.f__Ltruth:=T.f 39
noncomputable abbrev TX.fd__Ltruth:=T.fd 39
theorem TX.F__Ltruth:Fun K "_law_truth" "_law_truth" lY T.f__Ltruth T.fd__Ltruth:=T.F 39 (by decide)
theorem TX.m__Ltruth:mg "_law_truth" = some (.ref T.f__Ltruth):=T.m 39 (by decide)
theorem TX.b__Ltruth:bc K T.fd__Ltruth ["_law_found","_law_due"] []:=T.F__Ltruth.binds fun _ _ _ _ _ _ us hl=>by obtain ⟨u0,u1,rfl⟩:=ul2 hl; rfl
noncomputable abbrev TX.f_is_letters:=T.f 8
noncomputable abbrev TX.fd_is_letters:=T.fd 8
theorem TX.F_is_letters:Fun K "is_letters" "is_letters" fw T.f_is_letters T.fd_is_letters:=T.F 8 (by decide)
theorem TX.m_is_letters:mg "is_letters" = some (.ref T.f_is_letters):=T.m 8 (by decide)
theorem TX.b_is_letters:bc K T.fd_is_letters ["thing","most"] []:=T.F_is_letters.binds fun _ _ _ _ _ _ us hl=>by obtain ⟨u0,u1,rfl⟩:=ul2 hl; rfl
noncomputable abbrev TX.f_is_name:=T.f 10
noncomputable abbrev TX.fd_is_name:=T.fd 10
theorem TX.F_is_name:Fun K "is_name" "is_name" lX T.f_is_name T.fd_is_name:=T.F 10 (by decide)
theorem TX.m_is_name:mg "is_name" = some (.ref T.f_is_name):=T.m 10 (by decide)
theorem TX.b_is_name:bc K T.fd_is_name ["thing"] []:=T.F_is_name.binds fun _ _ _ _ _ _ us hl=>by obtain ⟨u0,rfl⟩:=ul1 hl; rfl
noncomputable abbrev TX.f_is_word:=T.f 9
noncomputable abbrev TX.fd_is_word:=T.fd 9
theorem TX.F_is_word:Fun K "is_word" "is_word" lW T.f_is_word T.fd_is_word:=T.F 9 (by decide)
theorem TX.m_is_word:mg "is_word" = some (.ref T.f_is_word):=T.m 9 (by decide)
theorem TX.b_is_word:bc K T.fd_is_word ["thing"] []:=T.F_is_word.binds fun _ _ _ _ _ _ us hl=>by obtain ⟨u0,rfl⟩:=ul1 hl; rfl
noncomputable abbrev TX.f_are_words:=T.f 12
noncomputable abbrev TX.fd_are_words:=T.fd 12
theorem TX.F_are_words:Fun K "are_words" "are_words" ga T.f_are_words T.fd_are_words:=T.F 12 (by decide)
theorem TX.m_are_words:mg "are_words" = some (.ref T.f_are_words):=T.m 12 (by decide)
theorem TX.b_are_words:bc K T.fd_are_words ["things"] []:=T.F_are_words.binds fun _ _ _ _ _ _ us hl=>by obtain ⟨u0,rfl⟩:=ul1 hl; rfl
noncomputable abbrev TX.f_is_cue:=T.f 28
noncomputable abbrev TX.fd_is_cue:=T.fd 28
theorem TX.F_is_cue:Fun K "is_cue" "is_cue" oR T.f_is_cue T.fd_is_cue:=T.F 28 (by decide)
theorem TX.m_is_cue:mg "is_cue" = some (.ref T.f_is_cue):=T.m 28 (by decide)
theorem TX.b_is_cue:bc K T.fd_is_cue ["thing"] []:=T.F_is_cue.binds fun _ _ _ _ _ _ us hl=>by obtain ⟨u0,rfl⟩:=ul1 hl; rfl
noncomputable abbrev TX.f_are_names:=T.f 11
noncomputable abbrev TX.fd_are_names:=T.fd 11
theorem TX.F_are_names:Fun K "are_names" "are_names" gb T.f_are_names T.fd_are_names:=T.F 11 (by decide)
theorem TX.m_are_names:mg "are_names" = some (.ref T.f_are_names):=T.m 11 (by decide)
theorem TX.b_are_names:bc K T.fd_are_names ["things"] []:=T.F_are_names.binds fun _ _ _ _ _ _ us hl=>by obtain ⟨u0,rfl⟩:=ul1 hl; rfl
noncomputable abbrev TX.f_is_rising:=T.f 13
noncomputable abbrev TX.fd_is_rising:=T.fd 13
theorem TX.F_is_rising:Fun K "is_rising" "is_rising" f9 T.f_is_rising T.fd_is_rising:=T.F 13 (by decide)
theorem TX.m_is_rising:mg "is_rising" = some (.ref T.f_is_rising):=T.m 13 (by decide)
theorem TX.b_is_rising:bc K T.fd_is_rising ["names"] []:=T.F_is_rising.binds fun _ _ _ _ _ _ us hl=>by obtain ⟨u0,rfl⟩:=ul1 hl; rfl
noncomputable abbrev TX.f_is_speech_names:=T.f 14
noncomputable abbrev TX.fd_is_speech_names:=T.fd 14
theorem TX.F_is_speech_names:Fun K "is_speech_names" "is_speech_names" er T.f_is_speech_names T.fd_is_speech_names:=T.F 14 (by decide)
theorem TX.m_is_speech_names:mg "is_speech_names" = some (.ref T.f_is_speech_names):=T.m 14 (by decide)
theorem TX.b_is_speech_names:bc K T.fd_is_speech_names ["thing"] []:=T.F_is_speech_names.binds fun _ _ _ _ _ _ us hl=>by obtain ⟨u0,rfl⟩:=ul1 hl; rfl
noncomputable abbrev TX.f_is_speech_words:=T.f 15
noncomputable abbrev TX.fd_is_speech_words:=T.fd 15
theorem TX.F_is_speech_words:Fun K "is_speech_words" "is_speech_words" em T.f_is_speech_words T.fd_is_speech_words:=T.F 15 (by decide)
theorem TX.m_is_speech_words:mg "is_speech_words" = some (.ref T.f_is_speech_words):=T.m 15 (by decide)
theorem TX.b_is_speech_words:bc K T.fd_is_speech_words ["thing"] []:=T.F_is_speech_words.binds fun _ _ _ _ _ _ us hl=>by obtain ⟨u0,rfl⟩:=ul1 hl; rfl
noncomputable abbrev TX.f_is_entry:=T.f 29
noncomputable abbrev TX.fd_is_entry:=T.fd 29
theorem TX.F_is_entry:Fun K "is_entry" "is_entry" kf T.f_is_entry T.fd_is_entry:=T.F 29 (by decide)
theorem TX.m_is_entry:mg "is_entry" = some (.ref T.f_is_entry):=T.m 29 (by decide)
theorem TX.b_is_entry:bc K T.fd_is_entry ["name","thing"] []:=T.F_is_entry.binds fun _ _ _ _ _ _ us hl=>by obtain ⟨u0,u1,rfl⟩:=ul2 hl; rfl
noncomputable abbrev TX.f_is_book:=T.f 30
noncomputable abbrev TX.fd_is_book:=T.fd 30
theorem TX.F_is_book:Fun K "is_book" "is_book" gC T.f_is_book T.fd_is_book:=T.F 30 (by decide)
theorem TX.m_is_book:mg "is_book" = some (.ref T.f_is_book):=T.m 30 (by decide)
theorem TX.b_is_book:bc K T.fd_is_book ["name","thing"] []:=T.F_is_book.binds fun _ _ _ _ _ _ us hl=>by obtain ⟨u0,u1,rfl⟩:=ul2 hl; rfl
noncomputable abbrev TX.f_is_books:=T.f 31
noncomputable abbrev TX.fd_is_books:=T.fd 31
theorem TX.F_is_books:Fun K "is_books" "is_books" g6 T.f_is_books T.fd_is_books:=T.F 31 (by decide)
theorem TX.m_is_books:mg "is_books" = some (.ref T.f_is_books):=T.m 31 (by decide)
theorem TX.b_is_books:bc K T.fd_is_books ["thing"] []:=T.F_is_books.binds fun _ _ _ _ _ _ us hl=>by obtain ⟨u0,rfl⟩:=ul1 hl; rfl
noncomputable abbrev TX.f_sizes:=T.f 32
noncomputable abbrev TX.fd_sizes:=T.fd 32
theorem TX.F_sizes:Fun K "sizes" "sizes" m5 T.f_sizes T.fd_sizes:=T.F 32 (by decide)
theorem TX.m_sizes:mg "sizes" = some (.ref T.f_sizes):=T.m 32 (by decide)
theorem TX.b_sizes:bc K T.fd_sizes ["books"] []:=T.F_sizes.binds fun _ _ _ _ _ _ us hl=>by obtain ⟨u0,rfl⟩:=ul1 hl; rfl
noncomputable abbrev TX.f_at_most:=T.f 21
noncomputable abbrev TX.fd_at_most:=T.fd 21
theorem TX.F_at_most:Fun K "at_most" "at_most" i7 T.f_at_most T.fd_at_most:=T.F 21 (by decide)
theorem TX.m_at_most:mg "at_most" = some (.ref T.f_at_most):=T.m 21 (by decide)
theorem TX.b_at_most:bc K T.fd_at_most ["row","many"] []:=T.F_at_most.binds fun _ _ _ _ _ _ us hl=>by obtain ⟨u0,u1,rfl⟩:=ul2 hl; rfl
noncomputable abbrev TX.f_alike:=T.f 22
noncomputable abbrev TX.fd_alike:=T.fd 22
theorem TX.F_alike:Fun K "alike" "alike" m6 T.f_alike T.fd_alike:=T.F 22 (by decide)
theorem TX.m_alike:mg "alike" = some (.ref T.f_alike):=T.m 22 (by decide)
theorem TX.b_alike:bc K T.fd_alike ["play","many"] []:=T.F_alike.binds fun _ _ _ _ _ _ us hl=>by obtain ⟨u0,u1,rfl⟩:=ul2 hl; rfl
noncomputable abbrev TX.f_law:=T.f 44
noncomputable abbrev TX.fd_law:=T.fd 44
theorem TX.F_law:Fun K "law" "law" lV T.f_law T.fd_law:=T.F 44 (by decide)
theorem TX.m_NAME_LETTERS:mg "NAME_LETTERS" = some (.int 8 (T.t "NAME_LETTERS")):=T.c ("NAME_LETTERS",8) (.head _)
theorem TX.m_SPEECH_NAMES:mg "SPEECH_NAMES" = some (.int 8 (T.t "SPEECH_NAMES")):=T.c ("SPEECH_NAMES",8) (.tail _ (.head _))
theorem TX.m_WORD_LETTERS:mg "WORD_LETTERS" = some (.int 12 (T.t "WORD_LETTERS")):=T.c ("WORD_LETTERS",12) (.tail _ (.tail _ (.head _)))
theorem TX.n_all (T:TX K mg):mg "all" = none:=T.z _ (.head _)
theorem TX.n_bool (T:TX K mg):mg "bool" = none:=T.z _ (.tail _ (.head _))
theorem TX.n_dict (T:TX K mg):mg "dict" = none:=T.z _ (.tail _ (.tail _ (.head _)))
theorem TX.n_enumerate (T:TX K mg):mg "enumerate" = none:=T.z _ (.tail _ (.tail _ (.tail _ (.head _))))
theorem TX.n_int (T:TX K mg):mg "int" = none:=T.z _ (.tail _ (.tail _ (.tail _ (.tail _ (.head _)))))
theorem TX.n_isinstance (T:TX K mg):mg "isinstance" = none:=T.z _ (.tail _ (.tail _ (.tail _ (.tail _ (.tail _ (.head _))))))
theorem TX.n_len (T:TX K mg):mg "len" = none:=T.z _ (.tail _ (.tail _ (.tail _ (.tail _ (.tail _ (.tail _ (.head _)))))))
theorem TX.n_min (T:TX K mg):mg "min" = none:=T.z _ (.tail _ (.tail _ (.tail _ (.tail _ (.tail _ (.tail _ (.tail _ (.head _))))))))
theorem TX.n_range (T:TX K mg):mg "range" = none:=T.z _ (.tail _ (.tail _ (.tail _ (.tail _ (.tail _ (.tail _ (.tail _ (.tail _ (.head _)))))))))
theorem TX.n_set (T:TX K mg):mg "set" = none:=T.z _ (.tail _ (.tail _ (.tail _ (.tail _ (.tail _ (.tail _ (.tail _ (.tail _ (.tail _ (.head _))))))))))
theorem TX.n_sorted (T:TX K mg):mg "sorted" = none:=T.z _ (.tail _ (.tail _ (.tail _ (.tail _ (.tail _ (.tail _ (.tail _ (.tail _ (.tail _ (.tail _ (.head _)))))))))))
theorem TX.n_str (T:TX K mg):mg "str" = none:=T.z _ (.tail _ (.tail _ (.tail _ (.tail _ (.tail _ (.tail _ (.tail _ (.tail _ (.tail _ (.tail _ (.tail _ (.head _))))))))))))
theorem TX.n_tuple (T:TX K mg):mg "tuple" = none:=T.z _ (.tail _ (.tail _ (.tail _ (.tail _ (.tail _ (.tail _ (.tail _ (.tail _ (.tail _ (.tail _ (.tail _ (.tail _ (.head _)))))))))))))
theorem TX.n_zip (T:TX K mg):mg "zip" = none:=T.z _ (.tail _ (.tail _ (.tail _ (.tail _ (.tail _ (.tail _ (.tail _ (.tail _ (.tail _ (.tail _ (.tail _ (.tail _ (.tail _ (.head _))))))))))))))
end
section
variable {P:Program}{w:World}{K:PySem.W.Frag}{mg:Str→Option Value}{base:Heap}
noncomputable def b__Lmixed:DE→Option Out :=
 (ay (bin cz (bin pE (aa 0) (cst (.int 271828182845904523536028747135266249775724709369995957496697))) (bin o6 (cst (.int 10)) (cst (.int 60)))))
noncomputable def g__Lmixed:List D→Option D:=bi 1 1 b__Lmixed
theorem hX (T:TX K mg):bC P w K mg base CX0 2 T.f__Lmixed T.fd__Lmixed ["_law_cell_here"] (spD 1 g__Lmixed) :=
 fnG (k:=1) (b:=b__Lmixed) T.F__Lmixed qG rfl rfl rfl rfl fun cdv A outer s H E hr =>
   (am (aK (cL (Ev.obs (sT (al 0) (Ev.obs ar))) (Ev.obs (xC (Ev.obs ar) (Ev.obs ar))))))
noncomputable def b__Lcell:DE→Option Out :=
 (av (ifS (tst (bin ltD (aa 1) (un aV (aa 0))))
 (ay (ao 1 g__Lmixed (ac (bin ixE (aa 0) (aa 1)) ai)))
 bp)
 (ay (cst (.int 0))))
noncomputable def g__Lcell:List D→Option D:=bi 2 2 b__Lcell
theorem l_ (T:TX K mg):bC P w K mg base CX0 3 T.f__Lcell T.fd__Lcell ["_law_script","_law_k"] (spD 2 g__Lcell) :=
 fnG (k:=2) (b:=b__Lcell) T.F__Lcell t8 rfl rfl rfl rfl fun cdv A outer s H E hr =>
   (af (c4 (AD  (al 1) (Ev.obs (aR rfl T.n_len (al 0))))
   (am (aK (aE (hX T) (hr.mono (by decide)) rfl T.m__Lmixed T.F__Lmixed.kp T.b__Lmixed (ae (a6 hr.units (al 0) (al 1) (fun _ _=>rfl)) ak))))
   bE)
   (am (aK ar)))
noncomputable def b__Ltexts:DE→Option Out :=
 (av (aS 3 (cst (.str "abcdefghijklmnopqrstuvwxyz")))
 (av (aS 4 (bin cz (aa 0) (cst (.int 3))))
 (av (aS 5 (bin cz (bin bX (aa 0) (cst (.int 3))) (aa 2)))
 (av (aS 6 (bin cz (bin bX (aa 0) (cst (.int 40))) (bin cB (aa 5) (cst (.int 1)))))
 (av (aS 0 (bin bX (aa 0) (cst (.int 600))))
 (av (aS 7 (cst (.str "")))
 (av (cR (eU (ac (var 2) ai)) (nmG 8)
 (av (aS 7 (bin cB (aa 7) (bin ixE (aa 3) (bin cz (aa 0) (cst (.int 26))))))
 (aS 0 (bin bX (aa 0) (cst (.int 26))))))
 (av (ifS (tst (bin eqO (aa 4) (cst (.int 0))))
 (ay (aD [8] (eU (ac (var 1) ai)) (nmG 8) noT (bJ (aa 7) noP (bQ (bin cB (cst (.int 1)) (aa 8))))))
 bp)
 (av (ifS (tst (bin eqO (aa 4) (cst (.int 1))))
 (ay (aD [8] (eU (ac (var 1) ai)) (nmG 8) noT (bin cB (bin cB (bJ (aa 7) noP (bQ (var 6))) (bin ixE (aa 3) (bin cz (bin cB (aa 0) (aa 8)) (cst (.int 26))))) (bJ (aa 7) (bQ (var 6)) (bQ (var 5))))))
 bp)
 (ay (aD [8] (eU (ac (var 1) ai)) (nmG 8) noT (bin pE (bin ixE (aa 3) (bin cz (bin cB (aa 0) (aa 8)) (cst (.int 26)))) (bin cB (cst (.int 1)) (aa 5))))))))))))))
noncomputable def g__Ltexts:List D→Option D:=bi 3 9 b__Ltexts
theorem kB (T:TX K mg):bC P w K mg base CX0 2 T.f__Ltexts T.fd__Ltexts ["_law_cell_here","_law_many","_law_most"] (spD 3 g__Ltexts) :=
 fnG (k:=1) (b:=b__Ltexts) T.F__Ltexts bw rfl rfl rfl rfl fun cdv A outer s H E hr =>
   (af (bb (i:=3) bw.nd rfl (Or.inr rfl) kQ)
   (af (bb (i:=4) bw.nd rfl (Or.inl rfl) (cL (al 0) (Ev.obs ar)))
   (af (bb (i:=5) bw.nd rfl (Or.inr rfl) (cL (Ev.obs (cT (al 0) (Ev.obs ar))) (al 2)))
   (af (bb (i:=6) bw.nd rfl (Or.inr rfl) (cL (Ev.obs (cT (al 0) (Ev.obs ar))) (Ev.obs (cM (al 5) (Ev.obs ar)))))
   (af (bb (i:=0) bw.nd rfl (Or.inr rfl) (cT (al 0) (Ev.obs ar)))
   (af (bb (i:=7) bw.nd rfl (Or.inr rfl) kQ)
   (af (cr PassesOwn.never rfl (cH rfl T.n_range (ae (aC 2) ak)) (au (i:=8) bw.nd rfl (Or.inl rfl))
   (af (bb (i:=7) bw.nd rfl (Or.inr rfl) (cM (al 7) (Ev.obs (a6 hr.units (al 3) (Ev.obs (cL (al 0) (Ev.obs ar))) (fun _ _=>rfl)))))
   (am (bb (i:=0) bw.nd rfl (Or.inr rfl) (cT (al 0) (Ev.obs ar))))))
   (af (c4 (jw hr.units (al 4) (Ev.obs ar))
   (am (aK (Ev.frz (bj (js:=[8]) (Blk.of (sc:=ag eT) (N:=gO) (by decide +kernel) rfl rfl) rfl (cH rfl T.n_range (ae (aC 1) ak)) aY (fun _ _ _ _=>(au (i:=8) bw.nd rfl (Or.inl rfl))) (fun _ _ _ _=>a9) (fun _ _ _ _=>(dg (al 7) iP (cG (cM (Ev.obs ar) (al 8)))))))))
   bE)
   (af (c4 (jw hr.units (al 4) (Ev.obs ar))
   (am (aK (Ev.frz (bj (js:=[8]) (Blk.of (sc:=ag eT) (N:=gO) (by decide +kernel) rfl rfl) rfl (cH rfl T.n_range (ae (aC 1) ak)) aY (fun _ _ _ _=>(au (i:=8) bw.nd rfl (Or.inl rfl))) (fun _ _ _ _=>a9) (fun _ _ _ _=>(cM (Ev.obs (cM (Ev.obs (dg (al 7) iP (cG (aC 6)))) (Ev.obs (a6 hr.units (al 3) (Ev.obs (cL (Ev.obs (cM (al 0) (al 8))) (Ev.obs ar))) (fun _ _=>rfl))))) (Ev.obs (dg (al 7) (cG (aC 6)) (cG (aC 5))))))))))
   bE)
   (am (aK (Ev.frz (bj (js:=[8]) (Blk.of (sc:=ag eT) (N:=gO) (by decide +kernel) rfl rfl) rfl (cH rfl T.n_range (ae (aC 1) ak)) aY (fun _ _ _ _=>(au (i:=8) bw.nd rfl (Or.inl rfl))) (fun _ _ _ _=>a9) (fun _ _ _ _=>(sT (Ev.obs (a6 hr.units (al 3) (Ev.obs (cL (Ev.obs (cM (al 0) (al 8))) (Ev.obs ar))) (fun _ _=>rfl))) (Ev.obs (cM (Ev.obs ar) (al 5))))))))))))))))))
noncomputable def b__Lplay:DE→Option Out :=
 (av (bL 3 (bS ai))
 (av (aS 4 (c8 ai))
 (av (cR (aP aX (var 0)) (nmG 5)
 (av (aS 5 (ao 1 g__Lmixed (ac (var 5) ai)))
 (av (aS 6 (aD [8] (aP aX (var 1)) (nmG 8) (tst (bin uD (aa 8) (aa 4))) (var 8)))
 (av (bL 7 (bS ai))
 (av (cR (aP aX (var 6)) (nmG 8)
 (av (ifS (tst (bin eqO (bin cz (aa 5) (cst (.int 3))) (cst (.int 0))))
 (dk 7 (var 8))
 bp)
 (aS 5 (bin bX (aa 5) (cst (.int 3))))))
 (av (ifS (orT (tst (bin eqO (aa 7) (bS ai))) (tst (bin eqO (un aV (aa 7)) (un aV (aa 1)))))
 (bL 7 (bS (ac (bin ixE (aa 6) (bin cz (aa 5) (un aV (aa 6)))) ai)))
 bp)
 (av (aS 5 (bin bX (aa 5) (cst (.int 5))))
 (av (bL 9 (bS ai))
 (av (cR (eU (ac (bin cB (cst (.int 1)) (bin cz (aa 5) (cst (.int 5)))) ai)) (nmG 10)
 (av (aS 5 (bin bX (aa 5) (cst (.int 7))))
 (dk 9 (bin ixE (aa 2) (bin cz (aa 5) (un aV (aa 2)))))))
 (av (aS 4 (un aT (un eS (aa 7))))
 (dk 3 (c8 (ac (var 4) (ac (un aT (aa 9)) ai))))))))))))))
 (ay (un aT (aa 3))))))
noncomputable def g__Lplay:List D→Option D:=bi 3 11 b__Lplay
theorem uy (T:TX K mg):bC P w K mg base CX0 3 T.f__Lplay T.fd__Lplay ["_law_cells","_law_names","_law_words"] (spD 3 g__Lplay) :=
 fnG (k:=2) (b:=b__Lplay) T.F__Lplay bn rfl rfl rfl rfl fun cdv A outer s H E hr =>
   (af (cq (i:=3) bn.nd rfl (Or.inl rfl) (dh ak))
   (af (bb (i:=4) bn.nd rfl (Or.inr rfl) (eN ak))
   (af (cr PassesOwn.never rfl (bW (aC 0)) (au (i:=5) bn.nd rfl (Or.inl rfl))
   (af (bb (i:=5) bn.nd rfl (Or.inl rfl) (aE (hX T) (hr.mono (by decide)) rfl T.m__Lmixed T.F__Lmixed.kp T.b__Lmixed (ae (aC 5) ak)))
   (af (xL (i:=6) bn.nd rfl (Or.inl rfl) (js:=[8]) (Blk.of (sc:=ag kj) (N:=qk) (by decide +kernel) rfl rfl) rfl (bW (aC 1)) aY (fun _ _ _ _=>(au (i:=8) bn.nd rfl (Or.inl rfl))) (fun _ _ _ _=>(xV (zI hr.units (al 8) (al 4) rfl))) (fun _ _ _ _=>(aC 8)) rfl)
   (af (cq (i:=7) bn.nd rfl (Or.inl rfl) (dh ak))
   (af (cr PassesOwn.never rfl (bW (aC 6)) (au (i:=8) bn.nd rfl (Or.inl rfl))
   (af (c4 (jw hr.units (Ev.obs (cL (al 5) (Ev.obs ar))) (Ev.obs ar))
   (am (c5 (i:=7) (pv 7) (aC 8)))
   bE)
   (am (bb (i:=5) bn.nd rfl (Or.inl rfl) (cT (al 5) (Ev.obs ar))))))
   (af (c4 (Ew.et (gV (jw hr.units (al 7) (Ev.obs (dh ak))) (fG (jw hr.units (Ev.obs (aR rfl T.n_len (al 7))) (Ev.obs (aR rfl T.n_len (al 1)))))))
   (am (cq (i:=7) bn.nd rfl (Or.inl rfl) (dh (ae (a6 hr.units (al 6) (Ev.obs (cL (al 5) (Ev.obs (aR rfl T.n_len (al 6))))) (fun _ _=>rfl)) ak))))
   bE)
   (af (bb (i:=5) bn.nd rfl (Or.inl rfl) (cT (al 5) (Ev.obs ar)))
   (af (cq (i:=9) bn.nd rfl (Or.inl rfl) (dh ak))
   (af (cr PassesOwn.never rfl (cH rfl T.n_range (ae (cM (Ev.obs ar) (Ev.obs (cL (al 5) (Ev.obs ar)))) ak)) (au (i:=10) bn.nd rfl (Or.inl rfl))
   (af (bb (i:=5) bn.nd rfl (Or.inl rfl) (cT (al 5) (Ev.obs ar)))
   (am (c5 (i:=9) (pv 9) (a6 hr.units (al 2) (Ev.obs (cL (al 5) (Ev.obs (aR rfl T.n_len (al 2))))) (fun _ _=>rfl))))))
   (af (bb (i:=4) bn.nd rfl (Or.inr rfl) (bt rfl T.n_tuple rfl (Ev.obs (kR rfl rfl T.n_sorted rfl (al 7)))))
   (am (c5 (i:=3) (pv 3) (eN (ae (aC 4) (ae (bt rfl T.n_tuple rfl (al 9)) ak)))))))))))))))
   (am (aK (bt rfl T.n_tuple rfl (al 3)))))))
noncomputable def b__Lwindows:DE→Option Out :=
 (av (bL 1 (bS ai))
 (av (aS 2 (c8 ai))
 (av (bL 3 jl)
 (av (cR (aP a5 (var 0)) (ci 2 (aN (nmG 4) (aN (nmG 5) ck)))
 (av (dk 1 (aD [6] (aP aX (var 4)) (nmG 6) noT (bJ (aa 2) (bQ (gl (aa 3) (var 6) (cst (.int 0)))) noP)))
 (av (aS 2 (bin cB (aa 2) (aa 5)))
 (cR (aP aX (var 4)) (nmG 6)
 (fj 3 (var 6) (un aV (aa 2)))))))
 (fun E=>(ay (var 1)) (fzE 1 E))))))
noncomputable def dJ:List D→Option D:=bi 1 7 b__Lwindows
theorem nu (T:TX K mg):bC P w K mg base CX0 2 T.f__Lwindows T.fd__Lwindows ["_law_play_here"] (spD 1 dJ) :=
 fnG (k:=1) (b:=b__Lwindows) T.F__Lwindows bK rfl rfl rfl rfl fun cdv A outer s H E hr =>
   (af (cq (i:=1) bK.nd rfl (Or.inl rfl) (dh ak))
   (af (bb (i:=2) bK.nd rfl (Or.inr rfl) (eN ak))
   (af (cq (i:=3) bK.nd rfl (Or.inr rfl) gM)
   (af (cr PassesOwn.never rfl (kU (aC 0)) (dy rfl (aU (au (i:=4) bK.nd rfl (Or.inl rfl)) (aU (au (i:=5) bK.nd rfl (Or.inl rfl)) cI)))
   (af (c5 (i:=1) (pv 1) (Ev.frz (bj (js:=[6]) (Blk.of (sc:=ag gc) (N:=jC) (by decide +kernel) rfl rfl) rfl (bW (aC 4)) aY (fun _ _ _ _=>(au (i:=6) bK.nd rfl (Or.inl rfl))) (fun _ _ _ _=>a9) (fun _ _ _ _=>(dg (al 2) (cG (nM hr.units (al 3) (aC 6) ar)) iP)))))
   (af (bb (i:=2) bK.nd rfl (Or.inr rfl) (cM (al 2) (al 5)))
   (am (cr PassesOwn.never rfl (bW (aC 4)) (au (i:=6) bK.nd rfl (Or.inl rfl))
   (am (jh hr.units (i:=3) (pv 3) (aC 6) (aR rfl T.n_len (al 2)))))))))
   (am (AE 1 (aK (aC 1))))))))
noncomputable def b__Lcounts:DE→Option Out :=
 (av (bL 2 (bS ai))
 (av (cR (eU (ac (un aV (aa 0)) ai)) (nmG 3)
 (av (aS 4 (cst (.int 0)))
 (av (ifS (tst (bin ltD (aa 3) (un aV (aa 1))))
 (aS 4 (ao 1 g__Lmixed (ac (bin ixE (aa 1) (aa 3)) ai)))
 bp)
 (av (bL 5 (bS ai))
 (av (cR (aP aX (bin ixE (aa 0) (aa 3))) (nmG 6)
 (av (aS 7 (un aV (aa 6)))
 (av (dk 5 (ff cP (ac (var 7) (ac (bin ixE (bS (ac (bin cB (cst (.int 1)) (bin cz (bin bX (aa 4) (cst (.int 4))) (cst (.int 3)))) (ac (bin cB (cst (.int 1)) (bin cz (bin bX (aa 4) (cst (.int 4))) (bin cB (aa 7) (cst (.int 1))))) (ac (var 7) (ac (cst (.int 1)) ai))))) (bin cz (aa 4) (cst (.int 4)))) ai))))
 (aS 4 (bin bX (aa 4) (bin o6 (cst (.int 10)) (cst (.int 6))))))))
 (dk 2 (un aT (aa 5))))))))
 (ay (un aT (aa 2)))))
noncomputable def d_:List D→Option D:=bi 2 8 b__Lcounts
theorem pj (T:TX K mg):bC P w K mg base CX0 3 T.f__Lcounts T.fd__Lcounts ["_law_windows_here","_law_cells"] (spD 2 d_) :=
 fnG (k:=2) (b:=b__Lcounts) T.F__Lcounts bR rfl rfl rfl rfl fun cdv A outer s H E hr =>
   (af (cq (i:=2) bR.nd rfl (Or.inl rfl) (dh ak))
   (af (cr PassesOwn.never rfl (cH rfl T.n_range (ae (aR rfl T.n_len (al 0)) ak)) (au (i:=3) bR.nd rfl (Or.inl rfl))
   (af (bb (i:=4) bR.nd rfl (Or.inl rfl) ar)
   (af (c4 (AD  (al 3) (Ev.obs (aR rfl T.n_len (al 1))))
   (am (bb (i:=4) bR.nd rfl (Or.inl rfl) (aE (hX T) (hr.mono (by decide)) rfl T.m__Lmixed T.F__Lmixed.kp T.b__Lmixed (ae (a6 hr.units (al 1) (al 3) (fun _ _=>rfl)) ak))))
   bE)
   (af (cq (i:=5) bR.nd rfl (Or.inl rfl) (dh ak))
   (af (cr PassesOwn.never rfl (bW (a6 hr.units (al 0) (al 3) (fun _ _=>rfl))) (au (i:=6) bR.nd rfl (Or.inl rfl))
   (af (bb (i:=7) bR.nd rfl (Or.inl rfl) (aR rfl T.n_len (al 6)))
   (af (c5 (i:=5) (pv 5) (nJ rfl rfl T.n_min rfl (ae (aC 7) (ae (a6 hr.units (Ev.obs (dh (ae (cM (Ev.obs ar) (Ev.obs (cL (Ev.obs (cT (al 4) (Ev.obs ar))) (Ev.obs ar)))) (ae (cM (Ev.obs ar) (Ev.obs (cL (Ev.obs (cT (al 4) (Ev.obs ar))) (Ev.obs (cM (al 7) (Ev.obs ar)))))) (ae (aC 7) (ae ar ak)))))) (Ev.obs (cL (al 4) (Ev.obs ar))) (fun _ _=>rfl)) ak))))
   (am (bb (i:=4) bR.nd rfl (Or.inl rfl) (cT (al 4) (Ev.obs (xC (Ev.obs ar) (Ev.obs ar)))))))))
   (am (c5 (i:=2) (pv 2) (bt rfl T.n_tuple rfl (al 5)))))))))
   (am (aK (bt rfl T.n_tuple rfl (al 2))))))
noncomputable def b__Lbooks:DE→Option Out :=
 (av (bL 3 jl)
 (av (cR (eU (ac (un aV (aa 0)) ai)) (nmG 4)
 (av (gA (bin ixE (aa 0) (aa 4)) (ci 2 (aN (nmG 5) (aN (nmG 6) ck))))
 (cR (eU (ac (un aV (aa 5)) ai)) (nmG 7)
 (av (aS 8 (bin ixE (bin ixE (aa 1) (aa 4)) (aa 7)))
 (av (aS 9 (un aT (aD [10] (v_ (ac (bin qA (un aV (aa 8)) (bin ixE (bin ixE (aa 2) (aa 4)) (aa 7))) (ac (un aV (aa 8)) ai))) (nmG 10) noT (bin ixE (aa 8) (aa 10)))))
 (fj 3 (bin ixE (aa 5) (aa 7)) (bin cB (gl (aa 3) (bin ixE (aa 5) (aa 7)) (c8 ai)) (c8 (ac (c8 (ac (var 9) (ac (var 5) (ac (var 6) ai)))) ai)))))))))
 (fun E=>(ay (var 3)) (fzE 3 E))))
noncomputable def c3:List D→Option D:=bi 3 11 b__Lbooks
theorem kC (T:TX K mg):bC P w K mg base CX0 2 T.f__Lbooks T.fd__Lbooks ["_law_play_here","_law_windows_here","_law_counts_here"] (spD 3 c3) :=
 fnG (k:=1) (b:=b__Lbooks) T.F__Lbooks cb rfl rfl rfl rfl fun cdv A outer s H E hr =>
   (af (cq (i:=3) cb.nd rfl (Or.inl rfl) gM)
   (af (cr PassesOwn.never rfl (cH rfl T.n_range (ae (aR rfl T.n_len (al 0)) ak)) (au (i:=4) cb.nd rfl (Or.inl rfl))
   (af (u9 (a6 hr.units (al 0) (al 4) (fun _ _=>rfl)) (dy rfl (aU (au (i:=5) cb.nd rfl (Or.inl rfl)) (aU (au (i:=6) cb.nd rfl (Or.inl rfl)) cI))))
   (am (cr PassesOwn.never rfl (cH rfl T.n_range (ae (aR rfl T.n_len (al 5)) ak)) (au (i:=7) cb.nd rfl (Or.inl rfl))
   (af (bb (i:=8) cb.nd rfl (Or.inr rfl) (a6 hr.units (Ev.obs (a6 hr.units (al 1) (al 4) (fun _ _=>rfl))) (al 7) (fun _ _=>rfl)))
   (af (bb (i:=9) cb.nd rfl (Or.inl rfl) (bt rfl T.n_tuple rfl (Ev.obs (bj (js:=[10]) (Blk.of (sc:=ag i9) (N:=mQ) (by decide +kernel) rfl rfl) rfl (vd rfl T.n_range (ae (rh (Ev.obs (aR rfl T.n_len (al 8))) (Ev.obs (a6 hr.units (Ev.obs (a6 hr.units (al 2) (al 4) (fun _ _=>rfl))) (al 7) (fun _ _=>rfl)))) (ae (aR rfl T.n_len (al 8)) ak))) aY (fun _ _ _ _=>(au (i:=10) cb.nd rfl (Or.inl rfl))) (fun _ _ _ _=>a9) (fun _ _ _ _=>(a6 hr.units (al 8) (al 10) (fun _ _=>rfl)))))))
   (am (jh hr.units (i:=3) (pv 3) (a6 hr.units (al 5) (al 7) (fun _ _=>rfl)) (cM (Ev.obs (nM hr.units (al 3) (a6 hr.units (al 5) (al 7) (fun _ _=>rfl)) (eN ak))) (Ev.obs (eN (ae (eN (ae (aC 9) (ae (aC 5) (ae (aC 6) ak)))) ak))))))))))))
   (am (AE 3 (aK (aC 3))))))
noncomputable def b_whole_counts:DE→Option Out :=
 (av (bL 1 jl)
 (av (aS 2 (cst (.int 0)))
 (av (bL 3 (bS ai))
 (av (cR (aP a5 (var 0)) (ci 2 (aN (nmG 4) (aN (nmG 5) ck)))
 (av (dk 3 (un aT (aD [6] (aP aX (var 4)) (nmG 6) noT (bin qA (aa 2) (gl (aa 1) (var 6) (cst (.int 0)))))))
 (av (nY 2 (un aV (aa 5)))
 (cR (aP aX (var 4)) (nmG 6)
 (fj 1 (var 6) (var 2))))))
 (ay (un aT (aa 3)))))))
noncomputable def cE:List D→Option D:=bi 1 7 b_whole_counts
theorem fM (T:TX K mg):bC P w K mg base CX0 2 T.f_whole_counts T.fd_whole_counts ["play"] (spD 1 cE) :=
 fnG (k:=1) (b:=b_whole_counts) T.F_whole_counts bd rfl rfl rfl rfl fun cdv A outer s H E hr =>
   (af (cq (i:=1) bd.nd rfl (Or.inr rfl) gM)
   (af (bb (i:=2) bd.nd rfl (Or.inr rfl) ar)
   (af (cq (i:=3) bd.nd rfl (Or.inl rfl) (dh ak))
   (af (cr PassesOwn.never rfl (kU (aC 0)) (dy rfl (aU (au (i:=4) bd.nd rfl (Or.inl rfl)) (aU (au (i:=5) bd.nd rfl (Or.inl rfl)) cI)))
   (af (c5 (i:=3) (pv 3) (bt rfl T.n_tuple rfl (Ev.obs (bj (js:=[6]) (Blk.of (sc:=ag dX) (N:=gy) (by decide +kernel) rfl rfl) rfl (bW (aC 4)) aY (fun _ _ _ _=>(au (i:=6) bd.nd rfl (Or.inl rfl))) (fun _ _ _ _=>a9) (fun _ _ _ _=>(rh (al 2) (Ev.obs (nM hr.units (al 1) (aC 6) ar))))))))
   (af (xM (i:=2) bd.nd rfl (Or.inr rfl) (aR rfl T.n_len (al 5)))
   (am (cr PassesOwn.never rfl (bW (aC 4)) (au (i:=6) bd.nd rfl (Or.inl rfl))
   (am (nP hr.units (i:=1) (pv 1) (aC 6) (aC 2))))))))
   (am (aK (bt rfl T.n_tuple rfl (al 3))))))))
noncomputable def b_is_whole:DE→Option Out :=
 (ay (bI (isF "int" (aa 0)) (ny (isF "bool" (aa 0)))))
noncomputable def ic:List D→Option D:=bi 1 1 b_is_whole
theorem pc (T:TX K mg):bC P w K mg base CX0 2 T.f_is_whole T.fd_is_whole ["thing"] (spD 1 ic) :=
 fnG (k:=1) (b:=b_is_whole) T.F_is_whole oM rfl rfl rfl rfl fun cdv A outer s H E hr =>
   (am (aK (cg (ba (T := "int") rfl rfl T.n_isinstance rfl rfl T.n_int rfl (al 0)) (dL (xD (ba (T := "bool") rfl rfl T.n_isinstance rfl rfl T.n_bool rfl (al 0)))))))
noncomputable def b_is_count:DE→Option Out :=
 (ay (bI (ao 1 ic (ac (var 0) ai)) (dr leD leD (ff cP (ac (cst (.int 1)) (ac (var 1) ai))) (aa 0) (aa 1))))
noncomputable def fE:List D→Option D:=bi 2 2 b_is_count
theorem pe (T:TX K mg):bC P w K mg base CX0 3 T.f_is_count T.fd_is_count ["thing","size"] (spD 2 fE) :=
 fnG (k:=2) (b:=b_is_count) T.F_is_count oO rfl rfl rfl rfl fun cdv A outer s H E hr =>
   (am (aK (cg (aE (pc T) (hr.mono (by decide)) rfl T.m_is_whole T.F_is_whole.kp T.b_is_whole (ae (aC 0) ak)) (dL (jU (Ev.obs (nJ rfl rfl T.n_min rfl (ae ar (ae (aC 1) ak)))) (al 0) (al 1))))))
noncomputable def b_are_counts:DE→Option Out :=
 (av (ifS (orT (cw (tst (isF "tuple" (aa 0)))) (tst (bin neO (un aV (aa 0)) (un aV (aa 1)))))
 (ay (cst (.bl false)))
 bp)
 (ay (un c7 (aD [2,3] (mR (ac (var 0) (ac (var 1) ai))) (ci 2 (aN (nmG 2) (aN (nmG 3) ck))) noT (ao 2 fE (ac (var 2) (ac (var 3) ai)))))))
noncomputable def df:List D→Option D:=bi 2 4 b_are_counts
theorem lq (T:TX K mg):bC P w K mg base CX0 4 T.f_are_counts T.fd_are_counts ["thing","row"] (spD 2 df) :=
 fnG (k:=3) (b:=b_are_counts) T.F_are_counts eI rfl rfl rfl rfl fun cdv A outer s H E hr =>
   (af (c4 (Ew.et (gV (dw (cW (ba (T := "tuple") rfl rfl T.n_isinstance rfl rfl T.n_tuple rfl (al 0)))) (fG (xJ hr.units (Ev.obs (aR rfl T.n_len (al 0))) (Ev.obs (aR rfl T.n_len (al 1)))))))
   (am (aK iN))
   bE)
   (am (aK (eO rfl rfl T.n_all rfl (Ev.obs (bj (js:=[2,3]) (Blk.of (sc:=ag fA) (N:=iZ) (by decide +kernel) rfl rfl) rfl (nR rfl T.n_zip (ae (aC 0) (ae (aC 1) ak))) (gx.js (kw (dR (gG (by decide)) (dR (gG (by decide)) kx)))) (fun _ _ _ _=>(dy rfl (aU (au (i:=2) eI.nd rfl (Or.inl rfl)) (aU (au (i:=3) eI.nd rfl (Or.inl rfl)) cI)))) (fun _ _ _ _=>a9) (fun _ _ _ _=>(aE (pe T) (hr.mono (by decide)) rfl T.m_is_count T.F_is_count.kp T.b_is_count (ae (aC 2) (ae (aC 3) ak))))))))))
noncomputable def b_amiss_at:DE→Option Out :=
 (av (ifS (cw (tst (isF "tuple" (aa 1))))
 (ay (un aV (aa 0)))
 bp)
 (av (cR (sU (ac (ao 1 cE (ac (var 0) ai)) ai)) (ci 2 (aN (nmG 2) (aN (nmG 3) ck)))
 (ifS (orT (tst (bin eqO (aa 2) (un aV (aa 1)))) (cw (tst (ao 2 df (ac (bin ixE (aa 1) (aa 2)) (ac (var 3) ai))))))
 (ay (var 2))
 bp))
 (ay (ifV (tst (bin eqO (un aV (aa 1)) (un aV (aa 0)))) (cst .non) (un aV (aa 0))))))
noncomputable def fF:List D→Option D:=bi 2 4 b_amiss_at
theorem ph (T:TX K mg):bC P w K mg base CX0 5 T.f_amiss_at T.fd_amiss_at ["play","thing"] (spD 2 fF) :=
 fnG (k:=4) (b:=b_amiss_at) T.F_amiss_at f8 rfl rfl rfl rfl fun cdv A outer s H E hr =>
   (af (c4 (dw (cW (ba (T := "tuple") rfl rfl T.n_isinstance rfl rfl T.n_tuple rfl (al 1))))
   (am (aK (aR rfl T.n_len (al 0))))
   bE)
   (af (cr PassesOwn.never rfl (zN rfl T.n_enumerate (ae (aE (fM T) (hr.mono (by decide)) rfl T.m_whole_counts T.F_whole_counts.kp T.b_whole_counts (ae (aC 0) ak)) ak)) (dy rfl (aU (au (i:=2) f8.nd rfl (Or.inl rfl)) (aU (au (i:=3) f8.nd rfl (Or.inl rfl)) cI)))
   (am (c4 (Ew.et (gV (jw hr.units (al 2) (Ev.obs (aR rfl T.n_len (al 1)))) (fG (dw (cW (aE (lq T) (hr.mono (by decide)) rfl T.m_are_counts T.F_are_counts.kp T.b_are_counts (ae (a6 hr.units (al 1) (al 2) (fun _ _=>rfl)) (ae (aC 3) ak))))))))
   (am (aK (aC 2)))
   bE)))
   (am (aK (DB (jw hr.units (Ev.obs (aR rfl T.n_len (al 1))) (Ev.obs (aR rfl T.n_len (al 0)))) BY (aR rfl T.n_len (al 0)))))))
noncomputable def b_check_counts:DE→Option Out :=
 (av (aS 2 (ao 2 fF (ac (var 0) (ac (var 1) ai))))
 (ifS (tst (un eB (var 2)))
 noS
 bp))
noncomputable def de:List D→Option D:=bi 2 3 b_check_counts
theorem jF (T:TX K mg):bC P w K mg base CX0 6 T.f_check_counts T.fd_check_counts ["play","thing"] (spD 2 de) :=
 fnG (k:=5) (b:=b_check_counts) T.F_check_counts fK rfl rfl rfl rfl fun cdv A outer s H E hr =>
   (af (bb (i:=2) fK.nd rfl (Or.inl rfl) (aE (ph T) (hr.mono (by decide)) rfl T.m_amiss_at T.F_amiss_at.kp T.b_amiss_at (ae (aC 0) (ae (aC 1) ak))))
   (am (c4 (u7 (aC 2))
   (am xK)
   bE)))
noncomputable def b_names_in:DE→Option Out :=
 (av (bL 1 (bS ai))
 (av (cR (aP a5 (var 0)) (ci 2 (aN (nmG 2) (aN (nmG 3) ck)))
 (ly 1 (aa 2)))
 (ay (un aT (un fW (aa 1))))))
noncomputable def g_names_in:List D→Option D:=bi 1 4 b_names_in
theorem pb (T:TX K mg):bC P w K mg base CX0 2 T.f_names_in T.fd_names_in ["play"] (spD 1 g_names_in) :=
 fnG (k:=1) (b:=b_names_in) T.F_names_in el rfl rfl rfl rfl fun cdv A outer s H E hr =>
   (af (cq (i:=1) el.nd rfl (Or.inl rfl) (dh ak))
   (af (cr PassesOwn.never rfl (kU (aC 0)) (dy rfl (aU (au (i:=2) el.nd rfl (Or.inl rfl)) (aU (au (i:=3) el.nd rfl (Or.inl rfl)) cI)))
   (am (mw (i:=1) (pv 1) (al 2))))
   (am (aK (bt rfl T.n_tuple rfl (Ev.obs (nI hr.units rfl rfl T.n_sorted rfl rfl T.n_set rfl (al 1))))))))
noncomputable def b_words_in:DE→Option Out :=
 (av (bL 1 (bS ai))
 (av (cR (aP a5 (var 0)) (ci 2 (aN (nmG 2) (aN (nmG 3) ck)))
 (ly 1 (aa 3)))
 (ay (un aT (aa 1)))))
noncomputable def g_words_in:List D→Option D:=bi 1 4 b_words_in
theorem o9 (T:TX K mg):bC P w K mg base CX0 2 T.f_words_in T.fd_words_in ["play"] (spD 1 g_words_in) :=
 fnG (k:=1) (b:=b_words_in) T.F_words_in ej rfl rfl rfl rfl fun cdv A outer s H E hr =>
   (af (cq (i:=1) ej.nd rfl (Or.inl rfl) (dh ak))
   (af (cr PassesOwn.never rfl (kU (aC 0)) (dy rfl (aU (au (i:=2) ej.nd rfl (Or.inl rfl)) (aU (au (i:=3) ej.nd rfl (Or.inl rfl)) cI)))
   (am (mw (i:=1) (pv 1) (al 3))))
   (am (aK (bt rfl T.n_tuple rfl (al 1))))))
noncomputable def b_begins:DE→Option Out :=
 (av (bL 1 (bS ai))
 (av (aS 2 (cst (.int 0)))
 (av (cR (aP a5 (var 0)) (ci 2 (aN (nmG 3) (aN (nmG 4) ck)))
 (av (dk 1 (var 2))
 (nY 2 (un aV (aa 4)))))
 (ay (un aT (aa 1))))))
noncomputable def g_begins:List D→Option D:=bi 1 5 b_begins
theorem ux (T:TX K mg):bC P w K mg base CX0 2 T.f_begins T.fd_begins ["play"] (spD 1 g_begins) :=
 fnG (k:=1) (b:=b_begins) T.F_begins dQ rfl rfl rfl rfl fun cdv A outer s H E hr =>
   (af (cq (i:=1) dQ.nd rfl (Or.inl rfl) (dh ak))
   (af (bb (i:=2) dQ.nd rfl (Or.inl rfl) ar)
   (af (cr PassesOwn.never rfl (kU (aC 0)) (dy rfl (aU (au (i:=3) dQ.nd rfl (Or.inl rfl)) (aU (au (i:=4) dQ.nd rfl (Or.inl rfl)) cI)))
   (af (c5 (i:=1) (pv 1) (aC 2))
   (am (xM (i:=2) dQ.nd rfl (Or.inl rfl) (aR rfl T.n_len (al 4))))))
   (am (aK (bt rfl T.n_tuple rfl (al 1)))))))
noncomputable def b_cut:DE→Option Out :=
 (av (sW (ao 2 de (ac (var 0) (ac (var 1) ai))))
 (jj 9 2 (v7 (xz (aP bH (ao 1 g_names_in (ac (var 0) ai))) (nmG 3)
 (Bb (var 3)))
 (v7 (AW 4 (ao 1 g_words_in (ac (var 0) ai)))
 (v7 (xz (rX (ac (var 0) (ac (ao 1 g_begins (ac (var 0) ai)) (ac (var 1) ai)))) (ci 3 (aN (nmG 5) (aN (nmG 6) (aN (nmG 7) ck))))
 (xz (mR (ac (bin ixE (aa 5) (cst (.int 0))) (ac (var 7) ai))) (ci 2 (aN (nmG 3) (aN (nmG 8) ck)))
 (Ch (var 3) (c8 (ac (bJ (aa 4) (bQ (bin qA (aa 6) (aa 8))) (bQ (var 6))) (ac (bin ixE (aa 5) (cst (.int 0))) (ac (bin ixE (aa 5) (cst (.int 1))) ai)))))))
 (qZ 2 (av (bL 9 jl)
 (av (cR (aP bH (var 2)) (nmG 3)
 (fj 9 (var 3) (un aT (bin ixE (aa 2) (aa 3)))))
 bp))))))))
noncomputable def gU:List D→Option D:=ub 9 2 10 b_cut
theorem nn (T:TX K mg):bC P w K mg base CX0 7 T.f_cut T.fd_cut ["play","counts"] (spN 2 gU) :=
 fnN (k:=6) (i:=9) (b:=b_cut) T.F_cut dW rfl rfl rfl rfl fun cdv A outer s H E hr =>
   (kE (zK (aE (jF T) (hr.mono (by decide)) rfl T.m_check_counts T.F_check_counts.kp T.b_check_counts (ae (aC 0) (ae (aC 1) ak))))
   (rj (i:=2) (hlen:=fun E h=>by obtain ⟨B,F,H,σ,k,e⟩:=h; rw [← k.len,e]; exact (by decide:2 < AG.length)) dW.nd rfl (Or.inl rfl) fun _ =>
   (qq (nA 9) (nX PassesOwn.never rfl (eD (aE (pb T) (hr.mono (by decide)) rfl T.m_names_in T.F_names_in.kp T.b_names_in (ae (aC 0) ak))) (au (i:=3) dW.nd rfl (Or.inl rfl)) (gJ (by decide))
   (Ab hr.units (pv 2) (aC 3)))
   (qq (nA 9) (Aa (j:=4) dW.nd rfl (Or.inl rfl) (aE (o9 T) (hr.mono (by decide)) rfl T.m_words_in T.F_words_in.kp T.b_words_in (ae (aC 0) ak)) (by decide))
   (qq (nA 9) (nX PassesOwn.never rfl (zM rfl T.n_zip (ae (aC 0) (ae (aE (ux T) (hr.mono (by decide)) rfl T.m_begins T.F_begins.kp T.b_begins (ae (aC 0) ak)) (ae (aC 1) ak)))) (dy rfl (aU (au (i:=5) dW.nd rfl (Or.inl rfl)) (aU (au (i:=6) dW.nd rfl (Or.inl rfl)) (aU (au (i:=7) dW.nd rfl (Or.inl rfl)) cI)))) (mj (d9 (gJ (by decide)) (d9 (gJ (by decide)) (d9 (gJ (by decide)) ml))))
   (nX PassesOwn.never rfl (nR rfl T.n_zip (ae (a6 hr.units (al 5) (Ev.obs ar) (fun _ _=>rfl)) (ae (aC 7) ak))) (dy rfl (aU (au (i:=3) dW.nd rfl (Or.inl rfl)) (aU (au (i:=8) dW.nd rfl (Or.inl rfl)) cI))) (mj (d9 (gJ (by decide)) (d9 (gJ (by decide)) ml)))
   (Ac hr.units (pv 2) (aC 3) (eN (ae (dg (al 4) (cG (rh (al 6) (al 8))) (cG (aC 6))) (ae (a6 hr.units (al 5) (Ev.obs ar) (fun _ _=>rfl)) (ae (a6 hr.units (al 5) (Ev.obs ar) (fun _ _=>rfl)) ak)))))))
   (AJ (nA 9) (kE (cq (i:=9) dW.nd rfl (Or.inl rfl) gM)
   (kE (cr PassesOwn.never rfl (eD (aC 2)) (au (i:=3) dW.nd rfl (Or.inl rfl))
   (am (nP hr.units (i:=9) (pv 9) (aC 3) (bt rfl T.n_tuple rfl (Ev.obs (a6 hr.units (al 2) (al 3) (fun _ _=>rfl)))))))
   (Av (pv 9))))))))))
noncomputable def b__Lsame (gIH:List D→Option D):DE→Option Out :=
 (av (ifS (tst (isF "tuple" (aa 1)))
 (av (ifS (orT (cw (tst (isF "tuple" (aa 0)))) (tst (bin neO (un aV (aa 0)) (un aV (aa 1)))))
 (ay (cst (.bl false)))
 bp)
 (ay (un c7 (aD [2] (eU (ac (un aV (aa 1)) ai)) (nmG 2) noT (ao 2 gIH (ac (bin ixE (aa 0) (aa 2)) (ac (bin ixE (aa 1) (aa 2)) ai)))))))
 bp)
 (av (ifS (tst (isF "str" (aa 1)))
 (ay (bI (isF "str" (aa 0)) (bin eqO (aa 0) (aa 1))))
 bp)
 (ay (bI (isF "int" (aa 0)) (bI (ny (isF "bool" (aa 0))) (bin eqO (aa 0) (aa 1)))))))
noncomputable def g__Lsame:Nat→List D→Option D
 | 0=>fun _=>none
 | k + 1=>bi 2 3 (b__Lsame (g__Lsame k))
theorem l9 (T:TX K mg):∀ k:Nat,bC P w K mg base CX0 (2 + k) T.f__Lsame T.fd__Lsame ["_law_found","_law_due"] (spD 2 (g__Lsame k))
 | 0=>fnG (k:=1) (b:=noS) T.F__Lsame i6 rfl rfl rfl (by funext ds; unfold bi; split <;> rfl) fun cdv A outer s H E hr=>u8
 | k + 1=>fnG (k:=2 + k) (b:=b__Lsame (g__Lsame k)) T.F__Lsame i6 rfl rfl (by omega) rfl fun cdv A outer s H E hr=>have IH:=l9 T k
   (af (c4 (cW (ba (T := "tuple") rfl rfl T.n_isinstance rfl rfl T.n_tuple rfl (al 1)))
   (af (c4 (Ew.et (gV (dw (cW (ba (T := "tuple") rfl rfl T.n_isinstance rfl rfl T.n_tuple rfl (al 0)))) (fG (xJ hr.units (Ev.obs (aR rfl T.n_len (al 0))) (Ev.obs (aR rfl T.n_len (al 1)))))))
   (am (aK iN))
   bE)
   (am (aK (eO rfl rfl T.n_all rfl (Ev.obs (bj (js:=[2]) (Blk.of (sc:=ag ki) (N:=qj) (by decide +kernel) rfl rfl) rfl (cH rfl T.n_range (ae (aR rfl T.n_len (al 1)) ak)) aY (fun _ _ _ _=>(au (i:=2) i6.nd rfl (Or.inl rfl))) (fun _ _ _ _=>a9) (fun _ _ _ _=>(aE IH (hr.mono (by omega)) rfl T.m__Lsame T.F__Lsame.kp T.b__Lsame (ae (a6 hr.units (al 0) (al 2) (fun _ _=>rfl)) (ae (a6 hr.units (al 1) (al 2) (fun _ _=>rfl)) ak))))))))))
   bE)
   (af (c4 (cW (ba (T := "str") rfl rfl T.n_isinstance rfl rfl T.n_str rfl (al 1)))
   (am (aK (cg (ba (T := "str") rfl rfl T.n_isinstance rfl rfl T.n_str rfl (al 0)) (dL (xF hr.units (al 0) (al 1))))))
   bE)
   (am (aK (cg (ba (T := "int") rfl rfl T.n_isinstance rfl rfl T.n_int rfl (al 0)) (cg (xD (ba (T := "bool") rfl rfl T.n_isinstance rfl rfl T.n_bool rfl (al 0))) (dL (xF hr.units (al 0) (al 1)))))))))
noncomputable def b__Lright:DE→Option Out :=
 (av (ifS (orT (cw (tst (isF "dict" (aa 0)))) (tst (bin neE (un eS (aa 0)) (un eS (aa 1)))))
 (ay (cst (.bl false)))
 bp)
 (ay (un c7 (aD [2] (aP bH (var 1)) (nmG 2) noT (ao 2 (g__Lsame 6) (ac (bin ixE (aa 0) (aa 2)) (ac (bin ixE (aa 1) (aa 2)) ai)))))))
noncomputable def bo:List D→Option D:=bi 2 3 b__Lright
theorem dZ (T:TX K mg):bC P w K mg base CX0 9 T.f__Lright T.fd__Lright ["_law_found","_law_due"] (spD 2 bo) :=
 fnG (k:=8) (b:=b__Lright) T.F__Lright j_ rfl rfl rfl rfl fun cdv A outer s H E hr =>
   (af (c4 (Ew.et (gV (dw (cW (ba (T := "dict") rfl rfl T.n_isinstance rfl rfl T.n_dict rfl (al 0)))) (fG (xI hr.units (Ev.obs (kR rfl rfl T.n_sorted rfl (al 0))) (Ev.obs (kR rfl rfl T.n_sorted rfl (al 1)))))))
   (am (aK iN))
   bE)
   (am (aK (eO rfl rfl T.n_all rfl (Ev.obs (bj (js:=[2]) (Blk.of (sc:=ag i8) (N:=mP) (by decide +kernel) rfl rfl) rfl (eD (aC 1)) aY (fun _ _ _ _=>(au (i:=2) j_.nd rfl (Or.inl rfl))) (fun _ _ _ _=>a9) (fun _ _ _ _=>(aE (l9 T 6) (hr.mono (by decide)) rfl T.m__Lsame T.F__Lsame.kp T.b__Lsame (ae (a6 hr.units (al 0) (al 2) (fun _ _=>rfl)) (ae (a6 hr.units (al 1) (al 2) (fun _ _=>rfl)) ak))))))))))
noncomputable def b__Ltruth:DE→Option Out :=
 (ay (bI (isF "bool" (aa 0)) (bin eqO (aa 0) (aa 1))))
noncomputable def g__Ltruth:List D→Option D:=bi 2 2 b__Ltruth
theorem qU (T:TX K mg):bC P w K mg base CX0 2 T.f__Ltruth T.fd__Ltruth ["_law_found","_law_due"] (spD 2 g__Ltruth) :=
 fnG (k:=1) (b:=b__Ltruth) T.F__Ltruth qF rfl rfl rfl rfl fun cdv A outer s H E hr =>
   (am (aK (cg (ba (T := "bool") rfl rfl T.n_isinstance rfl rfl T.n_bool rfl (al 0)) (dL (xF hr.units (al 0) (al 1))))))
noncomputable def b_is_letters:DE→Option Out :=
 (ay (bI (isF "str" (aa 0)) (bI (dr leD leD (cst (.int 1)) (un aV (aa 0)) (aa 1)) (un c7 (aD [2] (aP aX (var 0)) (nmG 2) noT (dr leD leD (cst (.str "a")) (aa 2) (cst (.str "z"))))))))
noncomputable def g_is_letters:List D→Option D:=bi 2 3 b_is_letters
theorem gS (T:TX K mg):bC P w K mg base CX0 2 T.f_is_letters T.fd_is_letters ["thing","most"] (spD 2 g_is_letters) :=
 fnG (k:=1) (b:=b_is_letters) T.F_is_letters gR rfl rfl rfl rfl fun cdv A outer s H E hr =>
   (am (aK (cg (ba (T := "str") rfl rfl T.n_isinstance rfl rfl T.n_str rfl (al 0)) (cg (jU (Ev.obs ar) (Ev.obs (aR rfl T.n_len (al 0))) (al 1)) (dL (eO rfl rfl T.n_all rfl (Ev.obs (bj (js:=[2]) (Blk.of (sc:=ag fw) (N:=iY) (by decide +kernel) rfl rfl) rfl (bW (aC 0)) aY (fun _ _ _ _=>(au (i:=2) gR.nd rfl (Or.inl rfl))) (fun _ _ _ _=>a9) (fun _ _ _ _=>(jU (Ev.obs kQ) (al 2) (Ev.obs kQ)))))))))))
noncomputable def b_is_name:DE→Option Out :=
 (ay (ao 2 g_is_letters (ac (var 0) (ac (cst (.int 8)) ai))))
noncomputable def g_is_name:List D→Option D:=bi 1 1 b_is_name
theorem kA (T:TX K mg):bC P w K mg base CX0 3 T.f_is_name T.fd_is_name ["thing"] (spD 1 g_is_name) :=
 fnG (k:=2) (b:=b_is_name) T.F_is_name qE rfl rfl rfl rfl fun cdv A outer s H E hr =>
   (am (aK (aE (gS T) (hr.mono (by decide)) rfl T.m_is_letters T.F_is_letters.kp T.b_is_letters (ae (aC 0) (ae (nL (v:=.int 8) rfl T.m_NAME_LETTERS ⟨_,rfl⟩ fun _=>.int _) ak)))))
noncomputable def b_is_word:DE→Option Out :=
 (ay (ao 2 g_is_letters (ac (var 0) (ac (cst (.int 12)) ai))))
noncomputable def g_is_word:List D→Option D:=bi 1 1 b_is_word
theorem qR (T:TX K mg):bC P w K mg base CX0 3 T.f_is_word T.fd_is_word ["thing"] (spD 1 g_is_word) :=
 fnG (k:=2) (b:=b_is_word) T.F_is_word qD rfl rfl rfl rfl fun cdv A outer s H E hr =>
   (am (aK (aE (gS T) (hr.mono (by decide)) rfl T.m_is_letters T.F_is_letters.kp T.b_is_letters (ae (aC 0) (ae (nL (v:=.int 12) rfl T.m_WORD_LETTERS ⟨_,rfl⟩ fun _=>.int _) ak)))))
noncomputable def b_are_words:DE→Option Out :=
 (ay (un c7 (aD [1] (aP aX (var 0)) (nmG 1) noT (ao 1 g_is_word (ac (var 1) ai)))))
noncomputable def g_are_words:List D→Option D:=bi 1 2 b_are_words
theorem iF (T:TX K mg):bC P w K mg base CX0 4 T.f_are_words T.fd_are_words ["things"] (spD 1 g_are_words) :=
 fnG (k:=3) (b:=b_are_words) T.F_are_words iA rfl rfl rfl rfl fun cdv A outer s H E hr =>
   (am (aK (eO rfl rfl T.n_all rfl (Ev.obs (bj (js:=[1]) (Blk.of (sc:=ag ga) (N:=jA) (by decide +kernel) rfl rfl) rfl (bW (aC 0)) aY (fun _ _ _ _=>(au (i:=1) iA.nd rfl (Or.inl rfl))) (fun _ _ _ _=>a9) (fun _ _ _ _=>(aE (qR T) (hr.mono (by decide)) rfl T.m_is_word T.F_is_word.kp T.b_is_word (ae (aC 1) ak))))))))
noncomputable def b_is_cue:DE→Option Out :=
 (ay (bI (isF "tuple" (aa 0)) (ao 1 g_are_words (ac (var 0) ai))))
noncomputable def eV:List D→Option D:=bi 1 1 b_is_cue
theorem uw (T:TX K mg):bC P w K mg base CX0 5 T.f_is_cue T.fd_is_cue ["thing"] (spD 1 eV) :=
 fnG (k:=4) (b:=b_is_cue) T.F_is_cue t0 rfl rfl rfl rfl fun cdv A outer s H E hr =>
   (am (aK (cg (ba (T := "tuple") rfl rfl T.n_isinstance rfl rfl T.n_tuple rfl (al 0)) (dL (aE (iF T) (hr.mono (by decide)) rfl T.m_are_words T.F_are_words.kp T.b_are_words (ae (aC 0) ak))))))
noncomputable def b_are_names:DE→Option Out :=
 (ay (un c7 (aD [1] (aP aX (var 0)) (nmG 1) noT (ao 1 g_is_name (ac (var 1) ai)))))
noncomputable def g_are_names:List D→Option D:=bi 1 2 b_are_names
theorem nr (T:TX K mg):bC P w K mg base CX0 4 T.f_are_names T.fd_are_names ["things"] (spD 1 g_are_names) :=
 fnG (k:=3) (b:=b_are_names) T.F_are_names iB rfl rfl rfl rfl fun cdv A outer s H E hr =>
   (am (aK (eO rfl rfl T.n_all rfl (Ev.obs (bj (js:=[1]) (Blk.of (sc:=ag gb) (N:=jB) (by decide +kernel) rfl rfl) rfl (bW (aC 0)) aY (fun _ _ _ _=>(au (i:=1) iB.nd rfl (Or.inl rfl))) (fun _ _ _ _=>a9) (fun _ _ _ _=>(aE (kA T) (hr.mono (by decide)) rfl T.m_is_name T.F_is_name.kp T.b_is_name (ae (aC 1) ak))))))))
noncomputable def b_is_rising:DE→Option Out :=
 (ay (un c7 (aD [1,2] (mR (ac (var 0) (ac (bJ (aa 0) (bQ (cst (.int 1))) noP) ai))) (ci 2 (aN (nmG 1) (aN (nmG 2) ck))) noT (bin ltD (aa 1) (aa 2)))))
noncomputable def g_is_rising:List D→Option D:=bi 1 3 b_is_rising
theorem nk (T:TX K mg):bC P w K mg base CX0 2 T.f_is_rising T.fd_is_rising ["names"] (spD 1 g_is_rising) :=
 fnG (k:=1) (b:=b_is_rising) T.F_is_rising fu rfl rfl rfl rfl fun cdv A outer s H E hr =>
   (am (aK (eO rfl rfl T.n_all rfl (Ev.obs (bj (js:=[1,2]) (Blk.of (sc:=ag f9) (N:=jz) (by decide +kernel) rfl rfl) rfl (nR rfl T.n_zip (ae (aC 0) (ae (dg (al 0) (cG ar) iP) ak))) (gx.js (kw (dR (gG (by decide)) (dR (gG (by decide)) kx)))) (fun _ _ _ _=>(dy rfl (aU (au (i:=1) fu.nd rfl (Or.inl rfl)) (aU (au (i:=2) fu.nd rfl (Or.inl rfl)) cI)))) (fun _ _ _ _=>a9) (fun _ _ _ _=>(DA  (al 1) (al 2))))))))
noncomputable def b_is_speech_names:DE→Option Out :=
 (ay (bI (isF "tuple" (aa 0)) (bI (dr leD leD (cst (.int 1)) (un aV (aa 0)) (cst (.int 8))) (bI (ao 1 g_are_names (ac (var 0) ai)) (ao 1 g_is_rising (ac (var 0) ai))))))
noncomputable def g_is_speech_names:List D→Option D:=bi 1 1 b_is_speech_names
theorem hV (T:TX K mg):bC P w K mg base CX0 5 T.f_is_speech_names T.fd_is_speech_names ["thing"] (spD 1 g_is_speech_names) :=
 fnG (k:=4) (b:=b_is_speech_names) T.F_is_speech_names gZ rfl rfl rfl rfl fun cdv A outer s H E hr =>
   (am (aK (cg (ba (T := "tuple") rfl rfl T.n_isinstance rfl rfl T.n_tuple rfl (al 0)) (cg (jU (Ev.obs ar) (Ev.obs (aR rfl T.n_len (al 0))) (Ev.obs (nL (v:=.int 8) rfl T.m_SPEECH_NAMES ⟨_,rfl⟩ fun _=>.int _))) (cg (aE (nr T) (hr.mono (by decide)) rfl T.m_are_names T.F_are_names.kp T.b_are_names (ae (aC 0) ak)) (dL (aE (nk T) (hr.mono (by decide)) rfl T.m_is_rising T.F_is_rising.kp T.b_is_rising (ae (aC 0) ak))))))))
noncomputable def b_is_speech_words:DE→Option Out :=
 (ay (bI (isF "tuple" (aa 0)) (bI (bin gtD (un aV (aa 0)) (cst (.int 0))) (ao 1 g_are_words (ac (var 0) ai)))))
noncomputable def g_is_speech_words:List D→Option D:=bi 1 1 b_is_speech_words
theorem hU (T:TX K mg):bC P w K mg base CX0 5 T.f_is_speech_words T.fd_is_speech_words ["thing"] (spD 1 g_is_speech_words) :=
 fnG (k:=4) (b:=b_is_speech_words) T.F_is_speech_words gY rfl rfl rfl rfl fun cdv A outer s H E hr =>
   (am (aK (cg (ba (T := "tuple") rfl rfl T.n_isinstance rfl rfl T.n_tuple rfl (al 0)) (cg (AC  (Ev.obs (aR rfl T.n_len (al 0))) (Ev.obs ar)) (dL (aE (iF T) (hr.mono (by decide)) rfl T.m_are_words T.F_are_words.kp T.b_are_words (ae (aC 0) ak)))))))
noncomputable def b_is_entry:DE→Option Out :=
 (av (ifS (orT (cw (tst (isF "tuple" (aa 1)))) (tst (bin neO (un aV (aa 1)) (cst (.int 3)))))
 (ay (cst (.bl false)))
 bp)
 (ay (bI (ao 1 eV (ac (bin ixE (aa 1) (cst (.int 0))) ai)) (bI (ao 1 g_is_speech_names (ac (bin ixE (aa 1) (cst (.int 1))) ai)) (bI (bin inE (aa 0) (bin ixE (aa 1) (cst (.int 1)))) (ao 1 g_is_speech_words (ac (bin ixE (aa 1) (cst (.int 2))) ai)))))))
noncomputable def cc:List D→Option D:=bi 2 2 b_is_entry
theorem pd (T:TX K mg):bC P w K mg base CX0 6 T.f_is_entry T.fd_is_entry ["name","thing"] (spD 2 cc) :=
 fnG (k:=5) (b:=b_is_entry) T.F_is_entry oN rfl rfl rfl rfl fun cdv A outer s H E hr =>
   (af (c4 (Ew.et (gV (dw (cW (ba (T := "tuple") rfl rfl T.n_isinstance rfl rfl T.n_tuple rfl (al 1)))) (fG (xJ hr.units (Ev.obs (aR rfl T.n_len (al 1))) (Ev.obs ar)))))
   (am (aK iN))
   bE)
   (am (aK (cg (aE (uw T) (hr.mono (by decide)) rfl T.m_is_cue T.F_is_cue.kp T.b_is_cue (ae (a6 hr.units (al 1) (Ev.obs ar) (fun _ _=>rfl)) ak)) (cg (aE (hV T) (hr.mono (by decide)) rfl T.m_is_speech_names T.F_is_speech_names.kp T.b_is_speech_names (ae (a6 hr.units (al 1) (Ev.obs ar) (fun _ _=>rfl)) ak)) (cg (B0 hr.units (al 0) (Ev.obs (a6 hr.units (al 1) (Ev.obs ar) (fun _ _=>rfl))) rfl) (dL (aE (hU T) (hr.mono (by decide)) rfl T.m_is_speech_words T.F_is_speech_words.kp T.b_is_speech_words (ae (a6 hr.units (al 1) (Ev.obs ar) (fun _ _=>rfl)) ak)))))))))
noncomputable def b_is_book:DE→Option Out :=
 (av (ifS (orT (cw (tst (ao 1 g_is_name (ac (var 0) ai)))) (orT (cw (tst (isF "tuple" (aa 1)))) (tst (bin eqO (un aV (aa 1)) (cst (.int 0))))))
 (ay (cst (.bl false)))
 bp)
 (ay (bI (un c7 (aD [2] (aP aX (var 1)) (nmG 2) noT (ao 2 cc (ac (var 0) (ac (var 2) ai))))) (un c7 (aD [2] (aP aX (bJ (aa 1) (bQ (cst (.int 1))) noP)) (nmG 2) noT (bin gtD (un aV (bin ixE (aa 2) (cst (.int 0)))) (cst (.int 0))))))))
noncomputable def cZ:List D→Option D:=bi 2 3 b_is_book
theorem qS (T:TX K mg):bC P w K mg base CX0 7 T.f_is_book T.fd_is_book ["name","thing"] (spD 2 cZ) :=
 fnG (k:=6) (b:=b_is_book) T.F_is_book g0 rfl rfl rfl rfl fun cdv A outer s H E hr =>
   (af (c4 (Ew.et (gV (dw (cW (aE (kA T) (hr.mono (by decide)) rfl T.m_is_name T.F_is_name.kp T.b_is_name (ae (aC 0) ak)))) (gV (dw (cW (ba (T := "tuple") rfl rfl T.n_isinstance rfl rfl T.n_tuple rfl (al 1)))) (fG (jw hr.units (Ev.obs (aR rfl T.n_len (al 1))) (Ev.obs ar))))))
   (am (aK iN))
   bE)
   (am (aK (cg (eO rfl rfl T.n_all rfl (Ev.obs (bj (js:=[2]) (Blk.of (sc:=ag gC) (N:=jo) (by decide +kernel) rfl rfl) rfl (bW (aC 1)) aY (fun _ _ _ _=>(au (i:=2) g0.nd rfl (Or.inl rfl))) (fun _ _ _ _=>a9) (fun _ _ _ _=>(aE (pd T) (hr.mono (by decide)) rfl T.m_is_entry T.F_is_entry.kp T.b_is_entry (ae (aC 0) (ae (aC 2) ak))))))) (dL (eO rfl rfl T.n_all rfl (Ev.obs (bj (js:=[2]) (Blk.of (sc:=ag gC) (N:=jo) (by decide +kernel) rfl rfl) rfl (bW (dg (al 1) (cG ar) iP)) aY (fun _ _ _ _=>(au (i:=2) g0.nd rfl (Or.inl rfl))) (fun _ _ _ _=>a9) (fun _ _ _ _=>(AC  (Ev.obs (aR rfl T.n_len (Ev.obs (a6 hr.units (al 2) (Ev.obs ar) (fun _ _=>rfl))))) (Ev.obs ar)))))))))))
noncomputable def b_is_books:DE→Option Out :=
 (ay (bI (isF "dict" (aa 0)) (un c7 (aD [1,2] (aP kL (var 0)) (ci 2 (aN (nmG 1) (aN (nmG 2) ck))) noT (ao 2 cZ (ac (var 1) (ac (var 2) ai)))))))
noncomputable def ce:List D→Option D:=bi 1 3 b_is_books
theorem pf (T:TX K mg):bC P w K mg base CX0 8 T.f_is_books T.fd_is_books ["thing"] (spD 1 ce) :=
 fnG (k:=7) (b:=b_is_books) T.F_is_books f7 rfl rfl rfl rfl fun cdv A outer s H E hr =>
   (am (aK (cg (ba (T := "dict") rfl rfl T.n_isinstance rfl rfl T.n_dict rfl (al 0)) (dL (eO rfl rfl T.n_all rfl (Ev.obs (bj (js:=[1,2]) (Blk.of (sc:=ag g6) (N:=lf) (by decide +kernel) rfl rfl) rfl (pZ (aC 0)) (gx.js (kw (dR (gG (by decide)) (dR (gG (by decide)) kx)))) (fun _ _ _ _=>(dy rfl (aU (au (i:=1) f7.nd rfl (Or.inl rfl)) (aU (au (i:=2) f7.nd rfl (Or.inl rfl)) cI)))) (fun _ _ _ _=>a9) (fun _ _ _ _=>(aE (qS T) (hr.mono (by decide)) rfl T.m_is_book T.F_is_book.kp T.b_is_book (ae (aC 1) (ae (aC 2) ak)))))))))))
noncomputable def b_sizes:DE→Option Out :=
 (av (bL 1 jl)
 (av (cR (aP kL (var 0)) (ci 2 (aN (nmG 2) (aN (nmG 3) ck)))
 (fj 1 (var 2) (un aT (aD [4] (aP bH (var 3)) (nmG 4) noT (un aV (bin ixE (aa 4) (cst (.int 0))))))))
 bp))
noncomputable def dO:List D→Option D:=ub 1 1 5 b_sizes
theorem kz (T:TX K mg):bC P w K mg base CX0 2 T.f_sizes T.fd_sizes ["books"] (spN 1 dO) :=
 fnN (k:=1) (i:=1) (b:=b_sizes) T.F_sizes f6 rfl rfl rfl rfl fun cdv A outer s H E hr =>
   (kE (cq (i:=1) f6.nd rfl (Or.inl rfl) gM)
   (kE (cr PassesOwn.never rfl (pZ (aC 0)) (dy rfl (aU (au (i:=2) f6.nd rfl (Or.inl rfl)) (aU (au (i:=3) f6.nd rfl (Or.inl rfl)) cI)))
   (am (nP hr.units (i:=1) (pv 1) (aC 2) (bt rfl T.n_tuple rfl (Ev.obs (bj (js:=[4]) (Blk.of (sc:=ag m5) (N:=tH) (by decide +kernel) rfl rfl) rfl (eD (aC 3)) aY (fun _ _ _ _=>(au (i:=4) f6.nd rfl (Or.inl rfl))) (fun _ _ _ _=>a9) (fun _ _ _ _=>(aR rfl T.n_len (Ev.obs (a6 hr.units (al 4) (Ev.obs ar) (fun _ _=>rfl)))))))))))
   (Av (pv 1))))
noncomputable def b_at_most:DE→Option Out :=
 (ay (un aT (aD [2] (aP aX (var 0)) (nmG 2) noT (ff cP (ac (var 1) (ac (var 2) ai))))))
noncomputable def eW:List D→Option D:=bi 2 3 b_at_most
theorem qT (T:TX K mg):bC P w K mg base CX0 2 T.f_at_most T.fd_at_most ["row","many"] (spD 2 eW) :=
 fnG (k:=1) (b:=b_at_most) T.F_at_most j9 rfl rfl rfl rfl fun cdv A outer s H E hr =>
   (am (aK (bt rfl T.n_tuple rfl (Ev.obs (bj (js:=[2]) (Blk.of (sc:=ag i7) (N:=mO) (by decide +kernel) rfl rfl) rfl (bW (aC 0)) aY (fun _ _ _ _=>(au (i:=2) j9.nd rfl (Or.inl rfl))) (fun _ _ _ _=>a9) (fun _ _ _ _=>(nJ rfl rfl T.n_min rfl (ae (aC 1) (ae (aC 2) ak)))))))))
noncomputable def b_alike:DE→Option Out :=
 (ay (un aT (aD [2] (aP aX (ao 1 cE (ac (var 0) ai))) (nmG 2) noT (ao 2 eW (ac (var 2) (ac (var 1) ai))))))
noncomputable def iK:List D→Option D:=bi 2 3 b_alike
theorem wP (T:TX K mg):bC P w K mg base CX0 3 T.f_alike T.fd_alike ["play","many"] (spD 2 iK) :=
 fnG (k:=2) (b:=b_alike) T.F_alike oP rfl rfl rfl rfl fun cdv A outer s H E hr =>
   (am (aK (bt rfl T.n_tuple rfl (Ev.obs (bj (js:=[2]) (Blk.of (sc:=ag m6) (N:=tI) (by decide +kernel) rfl rfl) rfl (bW (aE (fM T) (hr.mono (by decide)) rfl T.m_whole_counts T.F_whole_counts.kp T.b_whole_counts (ae (aC 0) ak))) aY (fun _ _ _ _=>(au (i:=2) oP.nd rfl (Or.inl rfl))) (fun _ _ _ _=>a9) (fun _ _ _ _=>(aE (qT T) (hr.mono (by decide)) rfl T.m_at_most T.F_at_most.kp T.b_at_most (ae (aC 2) (ae (aC 1) ak)))))))))
noncomputable def yh:DE→Option Out :=
 (av (aS 1 (ao 2 g__Lcell (ac (var 0) (ac (cst (.int 0)) ai))))
 (av (aS 2 (ao 3 g__Ltexts (ac (ao 2 g__Lcell (ac (var 0) (ac (cst (.int 1)) ai))) (ac (bin cB (cst (.int 2)) (bin cz (aa 1) (cst (.int 7)))) (ac (cst (.int 8)) ai)))))
 (av (aS 3 (ao 3 g__Ltexts (ac (bin bX (aa 1) (cst (.int 100))) (ac (bin cB (cst (.int 1)) (bin cz (bin bX (aa 1) (cst (.int 4))) (cst (.int 4)))) (ac (cst (.int 12)) ai)))))
 (av (aS 4 (ao 3 g__Lplay (ac (bJ (aa 0) (bQ (cst (.int 3))) (bQ (cst (.int 63)))) (ac (var 2) (ac (var 3) ai)))))
 (av (aS 5 (ao 1 dJ (ac (var 4) ai)))
 (av (aS 6 (ao 2 d_ (ac (var 5) (ac (bin AZ (bJ (aa 0) (bQ (cst (.int 3))) (bQ (cst (.int 63)))) (cst (.int (-1)))) ai))))
 (av (aS 7 (ao 3 c3 (ac (var 4) (ac (var 5) (ac (var 6) ai)))))
 (av (bL 8 (ao 2 gU (ac (var 4) (ac (var 6) ai))))
 (av (ifS (orT (cw (tst (iG 8 2 bo (ac (var 7) ai) bV))) (cw (tst (ao 2 g__Ltruth (ac (iG 8 1 ce ai bV) (ac (cst (.bl true)) ai))))))
 (ay (cst (.bl false)))
 bp)
 (av (bL 9 (iG 8 1 dO ai sB))
 (av (ifS (cw (tst (iG 9 2 bo (ac (un p9 (aD [11] (aP bH (var 7)) (nmG 11) noT (c8 (ac (var 11) (ac (un aT (aD [12] (aP bH (bin ixE (aa 7) (aa 11))) (nmG 12) noT (un aV (bin ixE (aa 12) (cst (.int 0)))))) ai))))) ai) bV)))
 (ay (cst (.bl false)))
 bp)
 (av (z7 9)
 (av (fj 8 (cst (.str "nobody")) (c8 ai))
 (av (ifS (tst (bin neE (aa 4) (c8 ai)))
 (y0 8 (bin ixE (bin ixE (bin ixE (aa 4) (cst (.int 0))) (cst (.int 0))) (cst (.int 0))))
 bp)
 (av (ifS (orT (cw (tst (ao 2 bo (ac (ao 2 gU (ac (var 4) (ac (var 6) ai))) (ac (var 7) ai))))) (cw (tst (ao 2 bo (ac (ao 1 dO (ac (var 7) ai)) (ac (ao 1 dO (ac (ao 2 gU (ac (var 4) (ac (var 6) ai))) ai)) ai))))))
 (ay (cst (.bl false)))
 bp)
 (av (aS 10 (un aT (aD [13] (aP bH (var 5)) (nmG 13) noT (un aT (aD [14] (aP bH (var 13)) (nmG 14) noT (ff cP (ac (cst (.int 1)) (ac (un aV (aa 14)) ai))))))))
 (ay (ao 2 bo (ac (ao 2 gU (ac (var 4) (ac (ao 2 iK (ac (var 4) (ac (cst (.int 1)) ai))) ai))) (ac (ao 3 c3 (ac (var 4) (ac (var 5) (ac (var 10) ai)))) ai))))))))))))))))))))
noncomputable def pT:List D→Option D:=bi 1 15 yh
theorem By (T:TX K mg):bC P w K mg base CX0 10 T.f_law T.fd_law ["_law_script"] (spD 1 pT) :=
 fnG (k:=9) (b:=yh) T.F_law cU rfl rfl rfl rfl fun cdv A outer s H E hr =>
   (af (bb (i:=1) cU.nd rfl (Or.inl rfl) (aE (l_ T) (hr.mono (by decide)) rfl T.m__Lcell T.F__Lcell.kp T.b__Lcell (ae (aC 0) (ae ar ak))))
   (af (bb (i:=2) cU.nd rfl (Or.inl rfl) (aE (kB T) (hr.mono (by decide)) rfl T.m__Ltexts T.F__Ltexts.kp T.b__Ltexts (ae (aE (l_ T) (hr.mono (by decide)) rfl T.m__Lcell T.F__Lcell.kp T.b__Lcell (ae (aC 0) (ae ar ak))) (ae (cM (Ev.obs ar) (Ev.obs (cL (al 1) (Ev.obs ar)))) (ae ar ak)))))
   (af (bb (i:=3) cU.nd rfl (Or.inl rfl) (aE (kB T) (hr.mono (by decide)) rfl T.m__Ltexts T.F__Ltexts.kp T.b__Ltexts (ae (cT (al 1) (Ev.obs ar)) (ae (cM (Ev.obs ar) (Ev.obs (cL (Ev.obs (cT (al 1) (Ev.obs ar))) (Ev.obs ar)))) (ae ar ak)))))
   (af (bb (i:=4) cU.nd rfl (Or.inl rfl) (aE (uy T) (hr.mono (by decide)) rfl T.m__Lplay T.F__Lplay.kp T.b__Lplay (ae (dg (al 0) (cG ar) (cG ar)) (ae (aC 2) (ae (aC 3) ak)))))
   (af (bb (i:=5) cU.nd rfl (Or.inl rfl) (aE (nu T) (hr.mono (by decide)) rfl T.m__Lwindows T.F__Lwindows.kp T.b__Lwindows (ae (aC 4) ak)))
   (af (bb (i:=6) cU.nd rfl (Or.inl rfl) (aE (pj T) (hr.mono (by decide)) rfl T.m__Lcounts T.F__Lcounts.kp T.b__Lcounts (ae (aC 5) (ae (zG (Ev.obs (dg (al 0) (cG ar) (cG ar))) BZ) ak))))
   (af (bb (i:=7) cU.nd rfl (Or.inr rfl) (aE (kC T) (hr.mono (by decide)) rfl T.m__Lbooks T.F__Lbooks.kp T.b__Lbooks (ae (aC 4) (ae (aC 5) (ae (aC 6) ak)))))
   (af (cq (i:=8) cU.nd rfl (Or.inl rfl) (e7 (nn T) (hr.mono (by decide)) rfl T.m_cut T.F_cut.kp T.b_cut (ae (aC 4) (ae (aC 6) ak))))
   (af (c4 (Ew.et (gV (dw (cW (nK (dZ T) (hr.mono (by decide)) rfl T.m__Lright T.F__Lright.kp T.b__Lright (pv 8) (ae (aC 7) ak)))) (fG (dw (cW (aE (qU T) (hr.mono (by decide)) rfl T.m__Ltruth T.F__Ltruth.kp T.b__Ltruth (ae (nK (pf T) (hr.mono (by decide)) rfl T.m_is_books T.F_is_books.kp T.b_is_books (pv 8) ak) (ae iN ak))))))))
   (am (aK iN))
   bE)
   (af (cq (i:=9) cU.nd rfl (Or.inl rfl) (xE (kz T) (hr.mono (by decide)) rfl T.m_sizes T.F_sizes.kp T.b_sizes (pv 8) ak))
   (af (c4 (dw (cW (nK (dZ T) (hr.mono (by decide)) rfl T.m__Lright T.F__Lright.kp T.b__Lright (pv 9) (ae (Ev.frz (xG rfl rfl T.n_dict rfl (Ev.obs (bj (js:=[11]) (Blk.of (sc:=ag lV) (N:=qi) (by decide +kernel) rfl rfl) rfl (eD (aC 7)) aY (fun _ _ _ _=>(au (i:=11) cU.nd rfl (Or.inl rfl))) (fun _ _ _ _=>a9) (fun _ _ _ _=>(eN (ae (aC 11) (ae (bt rfl T.n_tuple rfl (Ev.obs (bj (js:=[12]) (Blk.of2 (sc:=ag lV) (N:=qi) (by decide +kernel) rfl rfl) rfl (eD (a6 hr.units (al 7) (al 11) (fun _ _=>rfl))) aY (fun _ _ _ _=>(au (i:=12) cU.nd rfl (Or.inl rfl))) (fun _ _ _ _=>a9) (fun _ _ _ _=>(aR rfl T.n_len (Ev.obs (a6 hr.units (al 12) (Ev.obs ar) (fun _ _=>rfl)))))))) ak)))))))) ak))))
   (am (aK iN))
   bE)
   (af (u_ (i:=9) (pv 9))
   (af (jh hr.units (i:=8) (pv 8) kQ (eN ak))
   (af (c4 (xI hr.units (al 4) (Ev.obs (eN ak)))
   (am (zJ (i:=8) (pv 8) (a6 hr.units (Ev.obs (a6 hr.units (Ev.obs (a6 hr.units (al 4) (Ev.obs ar) (fun _ _=>rfl))) (Ev.obs ar) (fun _ _=>rfl))) (Ev.obs ar) (fun _ _=>rfl)) ⟨rfl,rfl,rfl,rfl⟩))
   bE)
   (af (c4 (Ew.et (gV (dw (cW (aE (dZ T) (hr.mono (by decide)) rfl T.m__Lright T.F__Lright.kp T.b__Lright (ae (Ev.frz (e7 (nn T) (hr.mono (by decide)) rfl T.m_cut T.F_cut.kp T.b_cut (ae (aC 4) (ae (aC 6) ak)))) (ae (aC 7) ak))))) (fG (dw (cW (aE (dZ T) (hr.mono (by decide)) rfl T.m__Lright T.F__Lright.kp T.b__Lright (ae (Ev.frz (e7 (kz T) (hr.mono (by decide)) rfl T.m_sizes T.F_sizes.kp T.b_sizes (ae (aC 7) ak))) (ae (Ev.frz (e7 (kz T) (hr.mono (by decide)) rfl T.m_sizes T.F_sizes.kp T.b_sizes (ae (Ev.frz (e7 (nn T) (hr.mono (by decide)) rfl T.m_cut T.F_cut.kp T.b_cut (ae (aC 4) (ae (aC 6) ak)))) ak))) ak))))))))
   (am (aK iN))
   bE)
   (af (bb (i:=10) cU.nd rfl (Or.inl rfl) (bt rfl T.n_tuple rfl (Ev.obs (bj (js:=[13]) (Blk.of (sc:=ag lV) (N:=qi) (by decide +kernel) rfl rfl) rfl (eD (aC 5)) aY (fun _ _ _ _=>(au (i:=13) cU.nd rfl (Or.inl rfl))) (fun _ _ _ _=>a9) (fun _ _ _ _=>(bt rfl T.n_tuple rfl (Ev.obs (bj (js:=[14]) (Blk.of2 (sc:=ag lV) (N:=qi) (by decide +kernel) rfl rfl) rfl (eD (aC 13)) aY (fun _ _ _ _=>(au (i:=14) cU.nd rfl (Or.inl rfl))) (fun _ _ _ _=>a9) (fun _ _ _ _=>(nJ rfl rfl T.n_min rfl (ae ar (ae (aR rfl T.n_len (al 14)) ak))))))))))))
   (am (aK (aE (dZ T) (hr.mono (by decide)) rfl T.m__Lright T.F__Lright.kp T.b__Lright (ae (Ev.frz (e7 (nn T) (hr.mono (by decide)) rfl T.m_cut T.F_cut.kp T.b_cut (ae (aC 4) (ae (aE (wP T) (hr.mono (by decide)) rfl T.m_alike T.F_alike.kp T.b_alike (ae (aC 4) (ae ar ak))) ak)))) (ae (aE (kC T) (hr.mono (by decide)) rfl T.m__Lbooks T.F__Lbooks.kp T.b__Lbooks (ae (aC 4) (ae (aC 5) (ae (aC 10) ak)))) ak)))))))))))))))))))))
end
end L2.Cu.Wk
namespace L2.Cu
open PySem PySem.Spec PyProof.Rows
noncomputable def stW (p:List Sp) (n:Str):Int:=((aj p).length:Int) - ((bz p n).length:Int)
theorem fI.get {p:List Sp}{m:List (Str×Int)} (h:fI p m) (n:Str):((cF (ig m) (Sum.inr n)).getD (D.int 0))=D.int (stW p n)∧∀ (hz:True),cA ((aj p).map D.str) (some (stW p n)) none=(bz p n).map D.str:=by
 obtain ⟨k,hk1,hk2,hk3⟩:=h.win n
 have e:stW p n=(k:Int):=by unfold stW; rw [hk3,List.length_drop]; omega
 refine ⟨?_,fun _=>?_⟩
 ·rw [e,vN]
  cases hgp:lx m n with
  | none=>rw [hgp] at hk1; simp at hk1; simp [hk1]
  | some v=>rw [hgp] at hk1; simp at hk1; simp [hk1]
 ·rw [e,kY,← List.map_drop,← hk3]
theorem wk (m:List (Str×Int)) (n:Str) (t:Int):(g9 m n t).length≤m.length + 1:=by
 unfold g9; split <;> simp
theorem kP (t:Int):∀ (ns:List Str) (m:List (Str×Int)),(ns.foldl (fun m n=>g9 m n t) m).length≤m.length + ns.length
 | [],m=>by simp
 | a :: r,m=>by
  refine Nat.le_trans (kP t r _) ?_
  have:=wk m a t
  show (g9 m a t).length + r.length≤_
  rw [Em]; omega
theorem fI.len {p:List Sp}{m:List (Str×Int)} (h:fI p m):m.length≤(aB p).length:=by
 have h3:m.length=(ded (aB p)).length:=by rw [← h.keys,List.length_map]
 rw [h3]
 exact gH (mD _) fun x hx=>(zU _ _).mp hx
theorem qf:∀ (p:List Sp) (t:Int) (k:Nat),k < p.length→(gv p t)[k]? = some (t + (aj (p.take k)).length)
 | [],_,k,h=>by simp at h
 | s :: p,t,0,_=>by simp [gv,aj]
 | s :: p,t,k + 1,h=>by
  rw [gv,Eh,qf p (t + s.2.length) k (by simpa using h)]
  have e:(aj ((s :: p).take (k + 1))).length=s.2.length + (aj (p.take k)).length:=by simp [aj]
  rw [e]
  congr 1
  omega
theorem fQ.at_:∀ {p:List Sp} (h:fQ p) (k:Nat) (a b:Sp),p[k]? = some a→p[k + 1]? = some b→og a b
 | [],_,_,_,_,h1,_=>by simp at h1
 | [x],_,k,_,_,_,h2=>by simp at h2
 | x :: y :: r,h,0,a,b,h1,h2=>by simp at h1 h2; subst h1; subst h2; exact h.1
 | x :: y :: r,h,k + 1,a,b,h1,h2=>by
  rw [Eh] at h1 h2
  exact fQ.at_ (p:=y :: r) h.2 k a b h1 h2
theorem rV.heard {names words:List Str}{p:List Sp} (h:rV names words p) {k:Nat} (hk:k + 1 < p.length) {n:Str} (hn:n ∈ (p[k + 1]).1):1≤(bz (p.take (k + 1)) n).length:=by
 have hk':k < p.length:=by omega
 have hap:=h.apart.at_ k p[k] p[k + 1] (List.getElem?_eq_getElem hk') (List.getElem?_eq_getElem hk)
 have hnn:n ∉ (p[k]).1:=fun z=>hap n z hn
 rw [eP hk',lK,if_neg hnn,List.length_append]
 have hw:=(h.each p[k] (List.getElem_mem hk')).wne
 have:0 < (p[k]).2.length:=List.length_pos_iff.mpr hw
 omega
theorem oh {q:List Sp} (h:∀ s ∈ q,s.2.length≤5):(aj q).length≤5 * q.length:=by
 induction q with
 | nil=>simp [aj]
 | cons s q ih =>
  have h1:=ih fun x hx=>h x (List.mem_cons_of_mem _ hx)
  have h2:=h s List.mem_cons_self
  have e:(aj (s :: q)).length=s.2.length + (aj q).length:=by simp [aj]
  rw [e,Em]; omega
theorem pC {q:List Sp} (h:∀ s ∈ q,s.1.length≤8):(aB q).length≤8 * q.length:=by
 induction q with
 | nil=>simp [aB]
 | cons s q ih =>
  have h1:=ih fun x hx=>h x (List.mem_cons_of_mem _ hx)
  have h2:=h s List.mem_cons_self
  have e:(aB (s :: q)).length=s.1.length + (aB q).length:=by simp [aB]
  rw [e,Em]; omega
theorem w4 {p:List Sp}{n w:Str} (h:w ∈ bz p n):w ∈ aj p:=by
 have key:∀ (q:List Sp) (a:List Str),w ∈ q.foldl (fun h s=>if n ∈ s.1 then [] else h ++ s.2) a→w ∈ a∨w ∈ aj q:=by
  intro q
  induction q with
  | nil=>intro a h; exact .inl h
  | cons s q ih =>
   intro a h
   rw [Ey] at h
   have e:aj (s :: q)=s.2 ++ aj q:=by simp [aj]
   rw [e]
   rcases ih _ h with z | z
   ·split at z
    ·cases z
    ·rcases List.mem_append.mp z with y | y
     ·exact .inl y
     ·exact .inr (List.mem_append_left _ y)
   ·exact .inr (List.mem_append_right _ z)
 rcases key p [] h with z | z
 ·cases z
 ·exact z
theorem oj (p:List Sp) (n:Str):bz p n <:+ aj p:=by
 have key:∀ (q:List Sp) (a w:List Str),a <:+ w→q.foldl (fun h s=>if n ∈ s.1 then [] else h ++ s.2) a <:+ w ++ aj q:=by
  intro q
  induction q with
  | nil=>intro a w h; simpa [aj] using h
  | cons s q ih =>
   intro a w h
   rw [Ey,show aj (s :: q)=s.2 ++ aj q by simp [aj],← List.append_assoc]
   refine ih _ _ ?_
   split
   ·exact List.nil_suffix
   ·obtain ⟨t,ht⟩:=h
    exact ⟨t,by rw [← ht,List.append_assoc]⟩
 have:=key p [] [] (List.suffix_refl _)
 rw [Ex] at this
 exact this
theorem mT (p:List Sp) (k:Nat):(aj p).take (aj (p.take k)).length=aj (p.take k):=by
 have e:aj p=aj (p.take k) ++ aj (p.drop k):=by
  unfold aj
  rw [← List.flatMap_append,List.take_append_drop]
 conv=>lhs; rw [e]
 rw [List.take_left]
theorem rD (p:List Sp):gv p 0=(List.range p.length).map fun k=>((aj (p.take k)).length:Int):=by
 refine List.ext_getElem? fun k=>?_
 rcases Nat.lt_or_ge k p.length with h | h
 ·rw [qf p 0 k h,List.getElem?_map,List.getElem?_range h,Int.zero_add]; rfl
 ·rw [List.getElem?_eq_none (by rw [k9]; exact h),List.getElem?_eq_none (by simpa using h)]
theorem fh {α β γ δ:Type} (f:β→γ→δ) (a:α→β) (b:α→γ):∀ l:List α,List.zipWith f (l.map a) (l.map b)=l.map fun x=>f (a x) (b x)
 | []=>rfl
 | x :: l=>by rw [Eo,Eo,List.zipWith_cons_cons,fh f a b l,Eo]
theorem ko {α:Type} (l:List α) (d:α):(List.range l.length).map (fun j=>l.getD j d)=l:=by
 refine List.ext_getElem? fun k=>?_
 rcases Nat.lt_or_ge k l.length with h | h
 ·rw [List.getElem?_map,List.getElem?_range h,List.getElem?_eq_getElem h]
  simp [h]
 ·rw [List.getElem?_eq_none h,List.getElem?_eq_none (by simpa using h)]
noncomputable def dH (p:List Sp) (k:Nat):List Str:=(p.getD k ([],[])).1
theorem jO {p:List Sp}{k:Nat} (h:k < p.length):dH p k=(p[k]).1:=by
 unfold dH
 rw [List.getD_eq_getElem?_getD,List.getElem?_eq_getElem h]; rfl
noncomputable def wcD (p:List Sp) (k:Nat):D:=.tup ((dH p k).map fun n=>D.int ((bz (p.take k) n).length:Int))
namespace Wk
theorem zO:g_words_in=Sh.g_words_in:=rfl
theorem xW:g_begins=Sh.g_begins:=rfl
theorem zR:g_names_in=Sh.g_names_in:=rfl
theorem fJ (p:List Sp) (hp:p.length≤1000) (hN:(aB p).length≤10000) (hW:(aj p).length≤10000):cE [cN p]=some (.tup ((List.range p.length).map (wcD p))):=by
 refine aM ?_
 simp only [cE,b_whole_counts,ab,az,aw,aq,aS,bL,bD,cst,var,ai,bS,aP,jl,a5,Ef,Ej,Eo,Er,Eu,Ex,Em,En,Ek,El,on,List.replicate,reduceIte,Nat.reduceAdd,Nat.reduceSub,Nat.reduceLeDiff,be,cN]
 refine bM bB p (fun pre E=>∃ (m:List (Str×Int)) (s4 s5 s6:Sl),E=[Sl.val (D.tup (p.map bB)),Sl.own (D.dic (ig m)),Sl.val (D.int ((aj pre).length:Int)),Sl.own (D.lst ((List.range pre.length).map (wcD p))),s4,s5,s6]∧fI pre m) rfl ⟨[],_,_,_,rfl,⟨rfl,fun n=>⟨0,rfl,Nat.zero_le _,rfl⟩⟩⟩ ?_ ?_
 ·rintro pre s post E hs ⟨m,s4,s5,s6,rfl,hm⟩
  have h2:=d6 (p:=p) (pre:=pre ++ [s]) (post:=post) (by rw [hs]; simp)
  rw [dI,List.length_append] at h2
  have hpl:pre.length < p.length:=by rw [hs]; simp
  have hml:=hm.len
  have htk:p.take pre.length=pre:=by rw [hs]; simp
  have hgd:dH p pre.length=s.1:=by unfold dH; rw [hs]; simp
  have hrow:wcD p pre.length=D.tup (s.1.map fun n=>D.int ((bz pre n).length:Int)):=by unfold wcD; rw [htk,hgd]
  simp only [ab,aG,aw,un,var,aP,nmG,ci,aN,ck,aQ,aD,aX,Ef,Em,En,Ek,El,on,Eh,Ey,List.foldl_nil,reduceIte,Nat.reduceAdd,dk,bB,aJ]
  refine b_ (fU (by simp; omega)) ?_
  rw [a7 D.str (fun n=>D.int ((bz pre n).length:Int)) s.1 fun n hn=>?_]
  ·simp only [ab,Ej,a8]
   refine b_ (eQ (by simp; omega)) ?_
   simp only [ab,aw,aq,bD,un,var,aa,aP,aX,Ef,Ek,El,on,Eh,br,nY]
   have hlen:((aj pre).length:Int) + ((s.2.map D.str).length:Int)=((aj (pre ++ [s])).length:Int):=by rw [bP]; simp
   rw [hlen]
   refine bM D.str s.1 (fun pr E=>∃ s6,E=[Sl.val (D.tup (p.map bB)),Sl.own (D.dic (ig (pr.foldl (fun m n=>g9 m n ((aj (pre ++ [s])).length:Int)) m))),Sl.val (D.int ((aj (pre ++ [s])).length:Int)),Sl.own (D.lst ((List.range pre.length).map (wcD p) ++ [D.tup (s.1.map fun n=>D.int ((bz pre n).length:Int))])),Sl.val (D.tup (s.1.map D.str)),Sl.val (D.tup (s.2.map D.str)),s6]) rfl ⟨_,rfl⟩ ?_ ?_
   ·rintro pr n po E hpr ⟨s6',rfl⟩
    simp only [ab,var,nmG,Ef,Ek,El,on,Eh,bT,fj]
    refine b_ (eQ ?_) ?_
    ·have q1:=kP ((aj (pre ++ [s])).length:Int) pr m
     have q2:pr.length≤s.1.length:=by rw [hpr]; simp
     unfold ig
     rw [List.length_map]
     omega
    ·simp only [ab]
     refine ⟨Sl.val (D.str n),?_⟩
     rw [o5,List.foldl_append]; rfl
   ·rintro E ⟨s6',rfl⟩
    refine ⟨_,Sl.val (D.tup (s.1.map D.str)),Sl.val (D.tup (s.2.map D.str)),s6',?_,hm.next s⟩
    rw [List.length_append,List.length_singleton,List.range_succ,List.map_append,List.map_singleton,hrow]
  ·obtain ⟨g1,g2⟩:=hm.get n
   refine aM ?_
   simp only [ab,bin,cst,var,aa,fV,Ef,Ej,Ek,El,on,Eh,D.int.injEq,bT,gl,g1]
   congr 1
   unfold stW
   omega
 ·rintro E ⟨m,s4,s5,s6,rfl,hm⟩
  simp only [ab,aq,ax,ay,un,aa,Ef,Ej,on,Eh,a8]
noncomputable def bU (p:List Sp) (k:Nat):D:=.lst ((dH p k).map fun n=>aJ (bz (p.take k) n))
theorem qr (p:List Sp) (hp:p.length≤1000) (hN:(aB p).length≤10000) (hW:(aj p).length≤10000):dJ [cN p]=some (.lst ((List.range p.length).map (bU p))):=by
 refine aM ?_
 simp only [dJ,b__Lwindows,ab,az,aw,aq,aS,bL,bD,ay,var,ai,c8,bS,aP,jl,a5,Ef,Ej,Eo,Er,Eu,Ex,Em,En,Ek,El,on,List.replicate,reduceIte,Nat.reduceAdd,Nat.reduceSub,Nat.reduceLeDiff,be,cN]
 refine bM bB p (fun pre E=>∃ (m:List (Str×Int)) (s4 s5 s6:Sl),E=[Sl.val (D.tup (p.map bB)),Sl.own (D.lst ((List.range pre.length).map (bU p))),Sl.val (D.tup ((aj pre).map D.str)),Sl.own (D.dic (ig m)),s4,s5,s6]∧fI pre m) rfl ⟨[],_,_,_,rfl,⟨rfl,fun n=>⟨0,rfl,Nat.zero_le _,rfl⟩⟩⟩ ?_ ?_
 ·rintro pre s post E hs ⟨m,s4,s5,s6,rfl,hm⟩
  have h1:=dt (p:=p) (pre:=pre ++ [s]) (post:=post) (by rw [hs]; simp)
  have h2:=d6 (p:=p) (pre:=pre ++ [s]) (post:=post) (by rw [hs]; simp)
  rw [bP,List.length_append] at h1
  rw [dI,List.length_append] at h2
  have hpl:pre.length < p.length:=by rw [hs]; simp
  have hml:=hm.len
  have htk:p.take pre.length=pre:=by rw [hs]; simp
  have hgd:dH p pre.length=s.1:=by unfold dH; rw [hs]; simp
  have hrow:bU p pre.length=D.lst (s.1.map fun n=>aJ (bz pre n)):=by unfold bU; rw [htk,hgd]
  simp only [ab,aG,aw,var,aP,nmG,ci,aN,ck,aQ,aD,aX,Ef,Em,En,Ek,El,on,Eh,Ey,List.foldl_nil,reduceIte,Nat.reduceAdd,dk,bB,aJ]
  refine b_ (fU (by simp; omega)) ?_
  rw [a7 D.str (fun n=>D.tup ((bz pre n).map D.str)) s.1 fun n hn=>?_]
  ·simp only [ab,Ej]
   refine b_ (eQ (by simp; omega)) ?_
   simp only [ab,bh,aw,aq,aS,bD,bin,var,aa,aP,aX,Ef,Ek,El,on,Eh]
   rw [qg (by simp; omega)]
   simp only [ab]
   refine bM D.str s.1 (fun pr E=>∃ s6,E=[Sl.val (D.tup (p.map bB)),Sl.own (D.lst ((List.range pre.length).map (bU p) ++ [D.lst (s.1.map fun n=>D.tup ((bz pre n).map D.str))])),Sl.val (D.tup ((aj pre).map D.str ++ s.2.map D.str)),Sl.own (D.dic (ig (pr.foldl (fun m n=>g9 m n ((aj (pre ++ [s])).length:Int)) m))),Sl.val (D.tup (s.1.map D.str)),Sl.val (D.tup (s.2.map D.str)),s6]) rfl ⟨_,rfl⟩ ?_ ?_
   ·rintro pr n po E hpr ⟨s6',rfl⟩
    have hlen:((((aj pre).map D.str ++ s.2.map D.str).length:Nat):Int)=((aj (pre ++ [s])).length:Int):=by rw [bP]; simp
    simp only [ab,un,var,aa,nmG,Ef,Ek,El,on,Eh,bT,br,fj,hlen]
    refine b_ (eQ ?_) ?_
    ·have q1:=kP ((aj (pre ++ [s])).length:Int) pr m
     have q2:pr.length≤s.1.length:=by rw [hpr]; simp
     unfold ig
     rw [List.length_map]
     omega
    ·simp only [ab]
     refine ⟨Sl.val (D.str n),?_⟩
     rw [o5,List.foldl_append]; rfl
   ·rintro E ⟨s6',rfl⟩
    refine ⟨_,Sl.val (D.tup (s.1.map D.str)),Sl.val (D.tup (s.2.map D.str)),s6',?_,hm.next s⟩
    rw [List.length_append,List.length_singleton,List.range_succ,List.map_append,List.map_singleton,hrow,bP,List.map_append]
    rfl
  ·obtain ⟨g1,g2⟩:=hm.get n
   refine aM ?_
   simp only [ab,cst,var,aa,noP,bQ,bJ,Ef,Ej,Ek,El,on,Eh,gB,bT,gl,g1,g2 trivial]
 ·rintro E ⟨m,s4,s5,s6,rfl,hm⟩
  simp only [fzE,ab,aq,ax,Ej,Ek,El,on,Eh]
end Wk
noncomputable abbrev CS:=List (Str×Nat)×List Str
noncomputable def plain (s:CS):Sp:=(s.1.map (·.1),s.2)
noncomputable def ad (q:List CS):List Sp:=q.map plain
noncomputable def e9 (s:CS):D:=.tup (s.1.map fun z=>.int (z.2:Int))
noncomputable def e_ (q:List CS):D:=.tup (q.map e9)
noncomputable def gt (p:List Sp) (z:Str×Nat):List Str:=(bz p z.1).drop ((bz p z.1).length - z.2)
noncomputable def iQ (pre:List CS) (s:CS) (z:Str×Nat):D:=.tup [aJ (gt (ad pre) z),aJ (plain s).1,aJ s.2]
noncomputable def qH (pre:List CS) (s:CS):List (Str×D):=s.1.map fun z=>(z.1,iQ pre s z)
noncomputable def RA:List CS→List CS→List (Str×D)
 | _,[]=>[]
 | pre,s :: r=>qH pre s ++ RA (pre ++ [s]) r
noncomputable def RR (q:List CS):List (Str×D):=RA [] q
theorem tE:∀ (r pre:List CS) (s:CS),RA pre (r ++ [s])=RA pre r ++ qH (pre ++ r) s
 | [],pre,s=>by simp [RA]
 | x :: r,pre,s=>by simp [RA,tE r,List.append_assoc]
theorem tD (q:List CS) (s:CS):RR (q ++ [s])=RR q ++ qH q s:=by unfold RR; rw [tE]; simp
noncomputable def aH (R:List (Str×D)) (n:Str):List D:=(R.filter fun x=>decide (x.1=n)).map (·.2)
theorem jy (R:List (Str×D)) (n:Str) (d:D):aH (R ++ [(n,d)])=fun x=>if x=n then aH R x ++ [d] else aH R x:=by
 funext x
 unfold aH
 rw [List.filter_append]
 by_cases e:x=n
 ·subst e
  simp
 ·rw [if_neg e,List.filter_cons_of_neg (by simpa using fun z=>e z.symm)]
  simp
theorem cX (R:List (Str×D)) (n:Str):(aH R n).length≤R.length:=by
 unfold aH
 rw [List.length_map]
 exact List.length_filter_le _ _
theorem qh:∀ (q pre:List CS),(RA pre q).map (·.1)=aB (ad q)
 | [],_=>rfl
 | s :: q,pre=>by
  show (qH pre s ++ RA (pre ++ [s]) q).map (·.1)=_
  rw [List.map_append,qh q]
  unfold qH ad aB
  rw [List.map_map,Eo,List.flatMap_cons]
  rfl
theorem lb (q:List CS):(RR q).map (·.1)=aB (ad q):=qh q []
noncomputable def fg (q:List CS):Prop:=∀ pre s post,q=pre ++ s :: post→∀ z ∈ s.1,z.2≤(bz (ad pre) z.1).length∧(bz (ad pre) z.1 ≠ []→1≤z.2)
theorem bF (a b:List CS):ad (a ++ b)=ad a ++ ad b:=List.map_append
theorem pY (q:List CS):cN (ad q)=.tup (q.map fun s=>bB (plain s)):=by
 unfold cN ad
 rw [List.map_map]; rfl
theorem tO {t i:Nat}{G:DE→Dm→Option Out}{E:DE}{d:D}{P:Out→Prop} (hE:ei E) (h:∀ a,wp (G (E.set i (iC a)) []) fun r=>∃ E',r=.nx E'∧E'[t]? = some (.own d)) (k:P (.nx (oD t d))):wp (jj t i G E) P:=by
 have he:yt t i G E d:=⟨hE,fun a=>by
  obtain ⟨r,e,E',rfl,h2⟩:=eG.mp (h a)
  exact ⟨E',e,h2⟩⟩
 rw [vc he]
 exact k
theorem oE {a b:List Str} (h:a <:+ b) {m:Nat} (hm:m≤a.length):b.drop (b.length - m)=a.drop (a.length - m):=by
 obtain ⟨c,rfl⟩:=h
 rw [List.length_append,List.drop_append]
 have:c.drop (c.length + a.length - m)=[]:=List.drop_eq_nil_of_le (by omega)
 rw [this,Ex]
 congr 1
 omega
namespace Wk
theorem lC (rs:List (Str×Nat)) (f:Str→Nat) (h:∀ z ∈ rs,z.2≤f z.1∧(1≤f z.1→1≤z.2)) (hl:rs.length≤1000):df [.tup (rs.map fun z=>.int (z.2:Int)),.tup (rs.map fun z=>.int (f z.1:Int))]=some (.bl true):=by
 have hz:List.zipWith (fun a b=>D.tup [a,b]) (rs.map fun z=>D.int (z.2:Int)) (rs.map fun z=>D.int (f z.1:Int))=rs.map fun z=>D.tup [.int (z.2:Int),.int (f z.1:Int)]:=fh _ _ _ rs
 have hc:∀ E:DE,E.length=4→bu (ci 2 (aN (nmG 2) (aN (nmG 3) ck))) noT (ao 2 fE (ac (var 2) (ac (var 3) ai))) E (rs.map fun z=>D.tup [.int (z.2:Int),.int (f z.1:Int)])=some (rs.map fun _=>D.bl true):=fun E hE=>by
  obtain ⟨e0,e1,e2,e3,rfl⟩:∃ e0 e1 e2 e3,E=[e0,e1,e2,e3]:=by
   match E,hE with
   | [a,b,c,d],_=>exact ⟨a,b,c,d,rfl⟩
  refine dS _ _ rs fun z hz=>?_
  obtain ⟨h1,h2⟩:=h z hz
  simp only [ab,var,ao,ac,ai,nmG,ci,aN,ck,noT,Ef,Ej,Em,En,Ek,El,on,Eh,reduceIte,Nat.reduceAdd,true_and,Bool.true_and]
  refine aM ?_
  simp only [fE,b_is_count,ic,b_is_whole,ab,aG,bh,az,ax,ay,dr,cst,var,aa,asB,bI,ny,ao,ac,ai,isF,iH,tyN,Ef,Ej,Eo,Er,Eu,Ex,Em,En,on,Eh,List.replicate,reduceIte,Nat.reduceAdd,Nat.reduceSub,Bool.not_false,b9,String.reduceBEq,beq_self_eq_true,Bool.or_false,Bool.and_true,Bool.and_false,ff,cP]
  have q1:(if ((f z.1:Nat):Int) < 1 then ((f z.1:Nat):Int) else 1)≤(z.2:Int):=by
   split
   ·omega
   ·have:=h2 (by omega)
    omega
  rw [if_pos (decide_eq_true q1)]
  show D.bl _=D.bl true
  rw [decide_eq_true (by omega)]
 have hb:(rs.map fun _=>true).all id=true:=by simp
 refine aM ?_
 simp only [df,b_are_counts,ab,aG,bh,az,aw,aq,ax,bv,bx,ay,bp,bin,un,var,aa,tst,asB,cw,orT,ac,ai,isF,aQ,aD,c7,a5,tyN,Ef,Ej,Eo,Er,Eu,Ex,Em,En,Ek,El,on,Eh,List.replicate,Ey,List.foldl_nil,reduceIte,Nat.reduceAdd,Nat.reduceSub,Bool.not_true,Bool.false_eq_true,decide_true,b9,String.reduceBEq,beq_self_eq_true,Bool.or_false,Bool.and_false,eA,br,mR,tK,hz,List.length_map]
 refine b_ (fU (by omega)) ?_
 rw [hc _ rfl]
 simp only [ab,Ej,cn (fun _:Str×Nat=>true),hb]
theorem Cq {q pre post:List CS}{s:CS} (h:q=pre ++ s :: post):wcD (ad q) pre.length=.tup (s.1.map fun z=>.int ((bz (ad pre) z.1).length:Int)):=by
 have e1:(ad q).take pre.length=ad pre:=by
  rw [h,bF]
  have:(ad pre).length=pre.length:=List.length_map _
  rw [← this,List.take_left]
 have e2:dH (ad q) pre.length=s.1.map (·.1):=by
  unfold dH
  have hl:(ad pre).length=pre.length:=List.length_map _
  rw [h,bF,List.getD_eq_getElem?_getD,List.getElem?_append_right (by omega),hl,Nat.sub_self]
  rfl
 unfold wcD
 rw [e1,e2,List.map_map]
 rfl
theorem j3 {α:Type}{q:List α}{k:Nat} (h:k < q.length):q=q.take k ++ q[k] :: q.drop (k + 1):=by
 rw [← List.drop_eq_getElem_cons h,List.take_append_drop]
theorem rm (n:Nat) (g:Nat→D):fO ((List.range n).map g) 0=(List.range n).map fun i:Nat=>D.tup [.int (i:Int),g i]:=by
 refine List.ext_getElem? fun i=>?_
 rw [ji,List.getElem?_map,List.getElem?_map]
 by_cases h:i < n
 ·rw [List.getElem?_range h]
  simp
 ·rw [List.getElem?_eq_none (by simpa using h)]
  rfl
theorem yb (q:List CS) (hq:fg q) (h8:∀ s ∈ q,s.1.length≤1000) (hp:q.length≤1000) (hN:(aB (ad q)).length≤10000) (hW:(aj (ad q)).length≤10000):de [cN (ad q),e_ q]=some .non:=by
 have hl:(ad q).length=q.length:=List.length_map _
 have hwc:=fJ (ad q) (by omega) hN hW
 rw [hl] at hwc
 have ha:fF [cN (ad q),e_ q]=some .non:=by
  refine aM ?_
  simp only [fF,b_amiss_at,ab,az,aw,aq,bv,bx,bD,bp,var,aa,tst,asB,cw,ao,ac,ai,isF,tyN,Ef,Ej,Eo,Er,Eu,Ex,Em,En,on,Eh,List.replicate,reduceIte,Nat.reduceAdd,Nat.reduceSub,Bool.not_true,b9,String.reduceBEq,beq_self_eq_true,Bool.or_false,Bool.and_false,e_,sU,hwc]
  have he:sV [D.tup ((List.range q.length).map (wcD (ad q)))]=some ((List.range q.length).map fun i:Nat=>D.tup [.int (i:Int),wcD (ad q) i]):=by
   show some (fO _ 0)=_
   rw [rm]
  rw [he]
  simp only [ab]
  refine bM (fun i:Nat=>D.tup [.int (i:Int),wcD (ad q) i]) (List.range q.length) (fun pre E=>∃ s2 s3,E=[Sl.val (cN (ad q)),Sl.val (D.tup (List.map e9 q)),s2,s3]) rfl ⟨_,_,rfl⟩ ?_ ?_
  ·rintro pre k post E hs ⟨s2,s3,rfl⟩
   obtain ⟨hk1,hk2⟩:=gd hs
   have hsp:=j3 hk2
   have hat:(q.take k).length=k:=by rw [List.length_take]; omega
   have hw:=Cq hsp
   rw [hat] at hw
   have hcnt:atI (q.map e9) (k:Int)=some (e9 q[k]):=by
    rw [bZ,List.getElem?_map,List.getElem?_eq_getElem hk2]; rfl
   have hac:df [e9 q[k],wcD (ad q) k]=some (.bl true):=by
    rw [hw]
    refine lC (q[k]).1 (fun n=>(bz (ad (q.take k)) n).length) (fun z hz=>?_) (h8 _ (List.getElem_mem hk2))
    obtain ⟨a1,a2⟩:=hq _ _ _ hsp z hz
    exact ⟨a1,fun h=>a2 (fun e=>by rw [e] at h; simp at h)⟩
   have hne:decide ((k:Int)=(q.length:Int))=false:=decide_eq_false (by omega)
   simp only [ab,aG,bv,bx,bp,bin,un,var,aa,tst,asB,cw,orT,ao,ac,ai,nmG,ci,aN,ck,Ef,Ej,Em,En,Ek,El,on,Eh,reduceIte,Nat.reduceAdd,Bool.not_true,Bool.false_eq_true,dF,dc,br,List.length_map,hcnt,hac,hne]
   exact ⟨_,_,rfl⟩
  ·rintro E ⟨s2,s3,rfl⟩
   simp only [ab,aq,ax,ay,bin,un,cst,aa,tst,asB,ifV,Ef,Ej,on,Eh,reduceIte,decide_true,dF,br,cN,List.length_map,hl]
 refine aM ?_
 simp only [de,b_check_counts,ab,az,aw,aq,m7,aS,bv,bx,bp,un,var,tst,asB,ao,ac,ai,Ef,Ej,Eo,Er,Eu,Ex,Em,En,Ek,El,on,Eh,List.replicate,reduceIte,Nat.reduceAdd,Nat.reduceSub,eB,ha]
end Wk
noncomputable def atC (q:List CS) (k:Nat):CS:=q.getD k ([],[])
theorem w8 {β:Type} (f:CS→β) (q:List CS):q.map f=(List.range q.length).map fun k=>f (atC q k):=by
 have:=congrArg (List.map f) (ko q ([],[]))
 rw [List.map_map] at this
 exact this.symm
theorem lH {α:Type} (a b c:α→D):∀ l:List α,dl (l.map a) (l.map b) (l.map c)=l.map fun x=>D.tup [a x,b x,c x]
 | []=>rfl
 | x :: l=>by rw [Eo,Eo,Eo,dl,lH a b c l]; rfl
theorem jm {q:List CS}{k:Nat} (h:k < q.length):atC q k=q[k]:=by
 unfold atC; rw [List.getD_eq_getElem?_getD,List.getElem?_eq_getElem h]; rfl
theorem Cb {n:Str}{ns:List Str}{f:Str→List D} (h:n ∉ ns):((bm ns f).any fun q=>decide (q.1=(Sum.inr n:Key)))=false:=by
 rw [List.any_eq_false]
 intro q hq e
 obtain ⟨y,hy,rfl⟩:=List.mem_map.mp hq
 exact h (by rw [← eC (of_decide_eq_true e)]; exact hy)
theorem uF {q pre post:List CS}{s:CS} (h:q=pre ++ s :: post) {z:Str×Nat} (hz:z ∈ s.1):z.1 ∈ aB (ad q):=by
 unfold aB
 refine List.mem_flatMap.mpr ⟨plain s,?_,List.mem_map.mpr ⟨z,hz,rfl⟩⟩
 rw [h]
 exact List.mem_map.mpr ⟨s,by simp,rfl⟩
theorem il (q:List CS):(RR q).length=(aB (ad q)).length:=by rw [← lb,List.length_map]
theorem jR {x:Str}{l:List Str}:x ∈ ded l ↔ x ∈ l:=by
 have key:∀ (l acc:List Str),x ∈ l.foldl (fun acc x=>if x ∈ acc then acc else acc ++ [x]) acc ↔ x ∈ acc∨x ∈ l:=by
  intro l
  induction l with
  | nil=>intro acc; simp
  | cons y l ih =>
   intro acc
   rw [Ey,ih]
   by_cases hy:y ∈ acc
   ·rw [if_pos hy]
    constructor
    ·rintro (h | h)
     ·exact .inl h
     ·exact .inr (List.mem_cons_of_mem _ h)
    ·rintro (h | h)
     ·exact .inl h
     ·rcases List.mem_cons.mp h with rfl | h
      ·exact .inl hy
      ·exact .inr h
   ·rw [if_neg hy]
    simp [or_assoc]
 have:=key l []
 simpa [ded] using this
theorem gI (l:List Str):(ded l).Nodup:=by
 have key:∀ (l acc:List Str),acc.Nodup→(l.foldl (fun acc x=>if x ∈ acc then acc else acc ++ [x]) acc).Nodup:=by
  intro l
  induction l with
  | nil=>intro acc h; exact h
  | cons y l ih =>
   intro acc h
   rw [Ey]
   refine ih _ ?_
   split
   ·exact h
   ·rename_i hy
    exact List.nodup_append.mpr ⟨h,by simp,fun a ha b hb e=>hy (by rw [← List.mem_singleton.mp hb,← e]; exact ha)⟩
 exact key l [] (by simp)
noncomputable def cC (q:List CS):List Str:=b7 (ded (aB (ad q)))
theorem jc {q:List CS}{n:Str}:n ∈ cC q ↔ n ∈ aB (ad q):=by
 unfold cC
 rw [(bg _).mem_iff,jR]
theorem gk (q:List CS):(cC q).Nodup:=(bg _).nodup_iff.mpr (gI _)
noncomputable def bkD (q:List CS) (n:Str):D:=.tup (aH (RR q) n)
theorem kq {n:Str}{d:D}{ns:List Str}{f:Str→D} (h:n ∉ ns):iD (bkL ns f) (.inr n) d=bkL ns f ++ [(.inr n,d)]:=by
 unfold iD
 have:((bkL ns f).any fun q=>decide (q.1=(Sum.inr n:Key)))=false:=by
  rw [List.any_eq_false]
  intro q hq e
  obtain ⟨y,hy,rfl⟩:=List.mem_map.mp hq
  exact h (by rw [← eC (of_decide_eq_true e)]; exact hy)
 rw [if_neg (by rw [this]; simp)]
theorem nW (ns:List Str) (f:Str→D):bH (bk ns f)=some (ns.map D.str):=by
 show some ((bkL ns f).map fun p=>cD p.1)=_
 unfold bkL
 rw [List.map_map]; rfl
theorem nF {ns:List Str}{f:Str→D}{n:Str} (h:n ∈ ns):ixE (bk ns f) (.str n)=some (f n):=by
 show (bT (.str n)).bind (fun k=>cF (bkL ns f) k)=_
 exact jN h
theorem nv {α:Type}{ks pre post:List α}{n:α} (hn:ks.Nodup) (hs:ks=pre ++ n :: post):n ∉ pre:=fun z=>by
 rw [hs] at hn
 exact (List.nodup_append.mp hn).2.2 n z n (by simp) rfl
namespace Wk
theorem B_ (q:List CS) (hq:fg q) (h8:∀ s ∈ q,s.1.length≤1000) (hp:q.length≤1000) (hN:(aB (ad q)).length≤4000) (hd:(ded (aB (ad q))).length < 64) (hW:(aj (ad q)).length≤10000):gU [cN (ad q),e_ q]=some (bk (cC q) (bkD q)):=by
 have hl:(ad q).length=q.length:=List.length_map _
 have hck:=yb q hq h8 hp (by omega) hW
 have hwi:g_words_in [cN (ad q)]=some (aJ (aj (ad q))):=by rw [zO]; exact Sh.oi _ (by omega)
 have hbg:g_begins [cN (ad q)]=some (.tup ((gv (ad q) 0).map D.int)):=by rw [xW]; exact Sh.vt _ (by omega)
 have hnm:g_names_in [cN (ad q)]=some (aJ (cC q)):=by rw [zR]; exact Sh.pD _ hN hd
 have hkl:(cC q).length < 64:=by unfold cC; rw [(bg _).length_eq]; exact hd
 refine rZ rfl ?_
 simp only [b_cut,sW,ab,aw,aq,var,ao,ac,ai,Ef,Ej,Eo,Er,Eu,Ex,Em,En,on,Eh,List.replicate,reduceIte,Nat.reduceAdd,Nat.reduceSub,hck]
 refine tO (d:=bk (cC q) (bkD q)) (wQ fun z hz=>?_) (fun a=>?_) ⟨_,rfl,oB _ _⟩
 ·simp only [List.mem_cons,List.not_mem_nil,or_false] at hz
  rcases hz with rfl | rfl | rfl | rfl | rfl | rfl | rfl | rfl | rfl | rfl <;> constructor <;> intro _ e <;> cases e
 ·simp only [yx,r8,var,ao,ac,ai,aP,Ef,Ej,Em,En,Ek,El,on,reduceIte,Nat.reduceAdd,hnm]
  have hi:bH (aJ (cC q))=some ((cC q).map D.str):=rfl
  rw [hi]
  simp only [ab]
  refine jY D.str (cC q) (fun pre E m=>∃ s3,E=[Sl.val (cN (ad q)),Sl.val (e_ q),iC a,s3,Sl.no,Sl.no,Sl.no,Sl.no,Sl.no,Sl.no]∧m=bm pre fun _=>[]) rfl ⟨_,rfl,rfl⟩ ?_ ?_
  ·rintro pre n post E m hs ⟨s3,rfl,rfl⟩
   have hn:=nv (gk q) hs
   have hpl:pre.length≤(cC q).length:=by rw [hs]; simp
   simp only [ab,aG,var,nmG,Ek,El,on,Eh,bT,Bb]
   refine b_ ⟨Cb hn,eQ (by unfold bm; rw [List.length_map]; omega)⟩ ?_
   refine ⟨_,rfl,?_⟩
   unfold bm
   rw [List.map_append]; rfl
  ·rintro E m ⟨s3,rfl,rfl⟩
   have hz:dl (q.map fun s=>bB (plain s)) ((gv (ad q) 0).map D.int) (q.map e9)=(List.range q.length).map fun k:Nat=>D.tup [bB (plain (atC q k)),.int ((aj ((ad q).take k)).length:Int),e9 (atC q k)]:=by
    rw [rD,hl,List.map_map,w8 (fun s=>bB (plain s)) q,w8 e9 q,lH]; rfl
   simp only [ab,aG,bh,var,ao,ac,ai,Ef,Ej,Em,En,Ek,El,on,Eh,reduceIte,Nat.reduceAdd,AW,hwi,rX,hbg]
   have hz2:rY [cN (ad q),.tup ((gv (ad q) 0).map D.int),e_ q]=some ((List.range q.length).map fun k:Nat=>D.tup [bB (plain (atC q k)),.int ((aj ((ad q).take k)).length:Int),e9 (atC q k)]):=by
    rw [pY,← hz]; rfl
   rw [hz2]
   simp only [ab]
   refine jY (fun k:Nat=>D.tup [bB (plain (atC q k)),.int ((aj ((ad q).take k)).length:Int),e9 (atC q k)]) (List.range q.length) (fun pre E m=>∃ s3 s5 s6 s7 s8,E=[Sl.val (cN (ad q)),Sl.val (e_ q),iC a,s3,Sl.val (aJ (aj (ad q))),s5,s6,s7,s8,Sl.no]∧m=bm (cC q) (aH (RR (q.take pre.length)))) rfl ⟨_,_,_,_,_,rfl,rfl⟩ ?_ ?_
   ·rintro pre k post E m hs ⟨s3,s5,s6,s7,s8,rfl,rfl⟩
    obtain ⟨hk1,hk2⟩:=gd hs
    subst hk1
    have hsp:=j3 hk2
    rw [← jm hk2] at hsp
    obtain ⟨s,hsd⟩:∃ s,s=atC q pre.length:=⟨_,rfl⟩
    rw [← hsd] at hsp ⊢
    have htk:(ad q).take pre.length=ad (q.take pre.length):=by unfold ad; rw [List.map_take]
    have hzz:tK [aJ (plain s).1,e9 s]=some (s.1.map fun z=>D.tup [.str z.1,.int (z.2:Int)]):=by
     show some (List.zipWith _ ((s.1.map (·.1)).map D.str) (s.1.map _))=_
     rw [List.map_map,fh]; rfl
    have hat:atI [aJ (plain s).1,aJ (plain s).2] 0=some (aJ (plain s).1):=rfl
    have hat1:atI [aJ (plain s).1,aJ (plain s).2] 1=some (aJ (plain s).2):=rfl
    simp only [ab,aG,bh,bin,cst,var,aa,ac,ai,nmG,ci,aN,ck,Ef,Ej,Em,En,Ek,El,on,Eh,reduceIte,Nat.reduceAdd,dc,r8,mR,bB,hat,hzz]
    refine jY (fun z:Str×Nat=>D.tup [.str z.1,.int (z.2:Int)]) s.1 (fun pr E m=>∃ s3 s8,E=[Sl.val (cN (ad q)),Sl.val (e_ q),iC a,s3,Sl.val (aJ (aj (ad q))),Sl.val (.tup [aJ (plain s).1,aJ (plain s).2]),Sl.val (.int ((aj ((ad q).take pre.length)).length:Int)),Sl.val (e9 s),s8,Sl.no]∧m=bm (cC q) (aH (RR (q.take pre.length) ++ pr.map fun z=>(z.1,iQ (q.take pre.length) s z)))) rfl ⟨_,_,rfl,by rw [Er,List.append_nil]⟩ ?_ ?_
    ·rintro pr z po E m hs' ⟨s3,s8,rfl,rfl⟩
     have hzm:z ∈ s.1:=by rw [hs']; simp
     obtain ⟨hz1,hz3⟩:=hq _ _ _ hsp z hzm
     have hmem:z.1 ∈ cC q:=jc.mpr (uF hsp hzm)
     have hle:=io z.1 (ad (q.take pre.length))
     have hcut:cA ((aj (ad q)).map D.str) (some (((aj ((ad q).take pre.length)).length:Int) - (z.2:Int))) (some ((aj ((ad q).take pre.length)).length:Int))=(gt (ad (q.take pre.length)) z).map D.str:=by
      rw [htk,show ((aj (ad (q.take pre.length))).length:Int) - (z.2:Int)=(((aj (ad (q.take pre.length))).length - z.2:Nat):Int) by omega,nT,← List.map_take,← htk,mT,← List.map_drop,htk]
      unfold gt
      rw [oE (oj _ _) hz1]
     have hbl:(aH (RR (q.take pre.length) ++ pr.map fun z=>(z.1,iQ (q.take pre.length) s z)) z.1).length < sizeLine:=by
      refine eQ ?_
      have h1:=cX (RR (q.take pre.length) ++ pr.map fun z=>(z.1,iQ (q.take pre.length) s z)) z.1
      rw [List.length_append,List.length_map,il] at h1
      have h2:(aB (ad (q.take pre.length))).length≤(aB (ad q)).length:=by
       rw [← htk]; exact d6 (p:=ad q) (List.take_append_drop _ _).symm
      have h3:pr.length≤s.1.length:=by rw [hs']; simp
      have h4:s.1.length≤1000:=h8 s (by rw [hsp]; simp)
      omega
     simp only [ab,aG,bh,bin,cst,var,aa,ac,ai,c8,bQ,bJ,nmG,ci,aN,ck,fV,Ef,Ej,Em,En,Ek,El,on,Eh,reduceIte,Nat.reduceAdd,Nat.reduceLeDiff,gB,be,bT,dc,Ch,aJ,hcut]
     show wp (jL _ _ (iQ (q.take pre.length) s z)) _
     rw [tw (gk q) hmem hbl]
     refine ⟨_,_,rfl,?_⟩
     rw [List.map_append,List.map_singleton,← List.append_assoc,jy]
    ·rintro E m ⟨s3,s8,rfl,rfl⟩
     refine ⟨_,_,_,_,_,rfl,?_⟩
     rw [List.length_append,List.length_singleton,eP hk2,tD,← jm hk2,← hsd]
     rfl
   ·rintro E m ⟨s3,s5,s6,s7,s8,rfl,rfl⟩
    rw [List.length_range,List.take_length]
    simp only [qZ,DG,ab,aw,aq,bL,bD,var,aP,jl,Ef,Ej,Ek,El,on,Eh,nW]
    refine bM D.str (cC q) (fun pre E=>∃ s3,E=[Sl.val (cN (ad q)),Sl.val (e_ q),Sl.val (bk (cC q) fun n=>.lst (aH (RR q) n)),s3,Sl.val (aJ (aj (ad q))),s5,s6,s7,s8,Sl.own (.dic (bkL pre (bkD q)))]) rfl ⟨_,rfl⟩ ?_ ?_
    ·rintro pre n post E hs ⟨s3,rfl⟩
     have hn:=nv (gk q) hs
     have hm:n ∈ cC q:=by rw [hs]; simp
     have hpl:pre.length≤(cC q).length:=by rw [hs]; simp
     simp only [ab,bin,un,var,aa,nmG,Ef,Ek,El,on,Eh,bT,fj,a8,nF hm,kq hn]
     refine b_ (eQ (by unfold bkL; rw [List.length_map]; omega)) ?_
     refine ⟨Sl.val (D.str n),?_⟩
     unfold bkL
     rw [List.map_append]; rfl
    ·rintro E ⟨s3,rfl⟩
     simp only [ab,aq,bp]
     exact ⟨_,rfl,rfl⟩
end Wk
theorem yW {ns:List Str}{f:Str→D}{n:Str}{d:D}:iD (bkL (ded ns) f) (.inr n) d=bkL (ded (ns ++ [n])) (fun x=>if x=n then d else f x):=by
 rw [kX]
 by_cases h:n ∈ ded ns
 ·rw [if_pos h]
  unfold iD
  have:((bkL (ded ns) f).any fun q=>decide (q.1=(Sum.inr n:Key)))=true:=by
   rw [List.any_eq_true]
   exact ⟨(Sum.inr n,f n),List.mem_map.mpr ⟨n,h,rfl⟩,decide_eq_true rfl⟩
  rw [if_pos this]
  unfold bkL
  rw [List.map_map]
  refine List.map_congr_left fun x hx=>?_
  show (if (Sum.inr x:Key)=Sum.inr n then ((Sum.inr x:Key),d) else (Sum.inr x,f x))=(Sum.inr x,if x=n then d else f x)
  by_cases e:x=n
  ·rw [if_pos e,if_pos (by rw [e])]
  ·rw [if_neg e,if_neg (fun z=>e (eC z))]
 ·rw [if_neg h,kq h]
  unfold bkL
  rw [List.map_append,List.map_singleton]
  show _=_ ++ [((Sum.inr n:Key),if n=n then d else f n)]
  rw [if_pos rfl]
  congr 1
  refine List.map_congr_left fun x hx=>?_
  show ((Sum.inr x:Key),f x)=(Sum.inr x,if x=n then d else f x)
  rw [if_neg (fun z=>h (by rw [← z]; exact hx))]
theorem qe {R:List (Str×D)} {n:Str} (h:n ∉ R.map (·.1)):aH R n=[]:=by
 unfold aH
 rw [List.map_eq_nil_iff,List.filter_eq_nil_iff]
 intro x hx e
 exact h (List.mem_map.mpr ⟨x,hx,of_decide_eq_true e⟩)
noncomputable def duD (R:List (Str×D)):List (Key×D):=bkL (ded (R.map (·.1))) fun n=>.tup (aH R n)
theorem B8 (R:List (Str×D)) (n:Str):(cF (duD R) (.inr n)).getD (.tup [])=.tup (aH R n):=by
 unfold duD
 by_cases h:n ∈ ded (R.map (·.1))
 ·rw [jN h]; rfl
 ·rw [oo h,qe (fun z=>h (jR.mpr z))]; rfl
theorem B7 (R:List (Str×D)) (n:Str) (d:D):iD (duD R) (.inr n) (.tup (aH R n ++ [d]))=duD (R ++ [(n,d)]):=by
 unfold duD
 rw [yW,List.map_append,List.map_singleton,jy]
 congr 1
 funext x
 show (if x=n then D.tup (aH R n ++ [d]) else D.tup (aH R x))=D.tup (if x=n then aH R x ++ [d] else aH R x)
 by_cases e:x=n
 ·rw [if_pos e,if_pos e,e]
 ·rw [if_neg e,if_neg e]
theorem zT (R:List (Str×D)):(duD R).length≤R.length:=by
 unfold duD bkL
 rw [List.length_map]
 have:∀ (l acc:List Str),(l.foldl (fun acc x=>if x ∈ acc then acc else acc ++ [x]) acc).length≤acc.length + l.length:=by
  intro l
  induction l with
  | nil=>intro acc; simp
  | cons y l ih =>
   intro acc
   rw [Ey]
   refine Nat.le_trans (ih _) ?_
   split
   ·rw [Em]; omega
   ·rw [List.length_append,List.length_singleton,Em]; omega
 have:=this (R.map (·.1)) []
 simpa [ded] using this
theorem vm (w:List Str) (a m:Nat) (h:a + m=w.length) (E:DE) (h8:E[8]? = some (.val (aJ w))) (hl:E.length=11):bu (nmG 10) noT (bin ixE (aa 8) (aa 10)) E (cV (a:Int) m)=some ((w.drop a).map D.str):=by
 have e1:cV (a:Int) m=(List.range m).map fun i:Nat=>D.int ((a:Int) + i):=rfl
 rw [e1,a7 (fun i:Nat=>D.int ((a:Int) + i)) (fun i=>.str (w.getD (a + i) (mk []))) _ fun i hi=>?_]
 ·congr 1
  refine List.ext_getElem? fun i=>?_
  rw [List.getElem?_map,List.getElem?_map,List.getElem?_drop]
  by_cases h2:i < m
  ·rw [List.getElem?_range h2,List.getElem?_eq_getElem (by omega)]
   show some (D.str _)=some (D.str _)
   rw [List.getD_eq_getElem?_getD,List.getElem?_eq_getElem (by omega)]; rfl
  ·rw [List.getElem?_eq_none (by simpa using h2),List.getElem?_eq_none (by omega)]; rfl
 ·rw [List.mem_range] at hi
  refine aM ?_
  have h8':(E.set 10 (.val (.int ((a:Int) + i))))[8]? = some (.val (aJ w)):=by rw [List.getElem?_set_ne (by decide)]; exact h8
  have h10:(E.set 10 (.val (.int ((a:Int) + i))))[10]? = some (.val (.int ((a:Int) + i))):=by rw [List.getElem?_set_self (by omega)]
  have ha:atI (w.map D.str) ((a:Int) + i)=some (.str (w.getD (a + i) (mk []))):=by
   rw [show (a:Int) + (i:Int)=((a + i:Nat):Int) by omega,bZ,List.getElem?_map,List.getD_eq_getElem?_getD,List.getElem?_eq_getElem (by omega)]; rfl
  simp only [bin,aa,h8',h10,aJ,dc,Ef,ha,ab]
namespace Wk
noncomputable def vL (q:List CS):D:=.lst ((List.range q.length).map (bU (ad q)))
theorem yy {q pre post:List CS}{s:CS} (h:q=pre ++ s :: post):bU (ad q) pre.length=.lst (s.1.map fun z=>aJ (bz (ad pre) z.1)):=by
 have hl:(ad pre).length=pre.length:=List.length_map _
 have e1:(ad q).take pre.length=ad pre:=by
  rw [h,bF,← hl,List.take_left]
 have e2:dH (ad q) pre.length=s.1.map (·.1):=by
  unfold dH
  rw [h,bF,List.getD_eq_getElem?_getD,List.getElem?_append_right (by omega),hl,Nat.sub_self]
  rfl
 unfold bU
 rw [e1,e2,List.map_map]
 rfl
noncomputable def inB:DE→Option Out:=(av (aS 8 (bin ixE (bin ixE (aa 1) (aa 4)) (aa 7)))
 (av (aS 9 (un aT (aD [10] (v_ (ac (bin qA (un aV (aa 8)) (bin ixE (bin ixE (aa 2) (aa 4)) (aa 7))) (ac (un aV (aa 8)) ai))) (nmG 10) noT (bin ixE (aa 8) (aa 10)))))
 (fj 3 (bin ixE (aa 5) (aa 7)) (bin cB (gl (aa 3) (bin ixE (aa 5) (aa 7)) (c8 ai)) (c8 (ac (c8 (ac (var 9) (ac (var 5) (ac (var 6) ai)))) ai))))))
theorem BS {P W C Wk Ck NN WW:D}{k j:Int}{R:List (Str×D)} {w:List Str}{m:Nat}{n:Str}{s8 s9:Sl} (b4:ixE W (.int k)=some Wk) (b2:ixE Wk (.int j)=some (aJ w)) (b5:ixE C (.int k)=some Ck) (b3:ixE Ck (.int j)=some (.int (m:Int))) (b1:ixE NN (.int j)=some (.str n)) (hm:m≤w.length) (hw:w.length≤10000) (hR:R.length≤10000) :
  inB [Sl.val P,Sl.val W,Sl.val C,Sl.own (.dic (duD R)),Sl.val (.int k),Sl.val NN,Sl.val WW,Sl.val (.int j),s8,s9,Sl.no]=some (.nx [Sl.val P,Sl.val W,Sl.val C,Sl.own (.dic (duD (R ++ [(n,.tup [aJ (w.drop (w.length - m)),NN,WW])]))),Sl.val (.int k),Sl.val NN,Sl.val WW,Sl.val (.int j),Sl.val (aJ w),Sl.val (aJ (w.drop (w.length - m))),Sl.no]):=by
 have hlw:aV (aJ w)=some (.int (w.length:Int)):=by
  show some (D.int ((w.map D.str).length:Int))=_
  rw [List.length_map]
 have hrg:l0 [.int ((w.length:Int) - (m:Int)),.int (w.length:Int)]=some (cV ((w.length - m:Nat):Int) m):=by
  rw [uc (by omega) (by omega) (by omega) (by omega),show (w.length:Int) - (m:Int)=((w.length - m:Nat):Int) by omega,show ((w.length:Int) - ((w.length - m:Nat):Int)).toNat=m by omega]
 have hrz:(cV ((w.length - m:Nat):Int) m).length≤16777216:=by unfold cV; simp; omega
 have hbl:=cX R n
 have hdl:=zT R
 have hc:=vm w (w.length - m) m (by omega) [Sl.val P,Sl.val W,Sl.val C,Sl.own (.dic (duD R)),Sl.val (.int k),Sl.val NN,Sl.val WW,Sl.val (.int j),Sl.val (aJ w),s9,Sl.no] rfl rfl
 refine aM ?_
 unfold inB
 simp only [ab,aG,aw,aq,aS,bin,un,var,aa,ac,ai,c8,km,aQ,aD,fV,Ef,Ej,Em,En,Ek,El,on,Eh,Ey,List.foldl_nil,reduceIte,Nat.reduceAdd,Nat.reduceLeDiff,be,bT,fj,gl,a8,b1,b2,b3,b4,b5,hlw,hrg,be hrz,hc,B8]
 rw [qg (by simp; omega)]
 simp only [ab,B7]
 rw [if_pos (eQ (by omega))]
 rfl
theorem m8 (n:Nat) (h:n≤4000000):jt [D.int (n:Int)]=some ((List.range n).map fun i:Nat=>D.int (i:Int)):=by
 rw [cY (by omega) (by omega),Int.toNat_natCast]
 unfold cV
 simp only [Int.zero_add]
theorem ye (q:List CS) (hq:fg q) (h8:∀ s ∈ q,s.1.length≤1000) (hp:q.length≤1000) (hN:(aB (ad q)).length≤4000) (hW:(aj (ad q)).length≤10000):c3 [cN (ad q),vL q,e_ q]=some (bk (ded (aB (ad q))) (bkD q)):=by
 have hl:(ad q).length=q.length:=List.length_map _
 have hrl:((ad q).map bB).length=q.length:=by rw [List.length_map,hl]
 refine aM ?_
 have hr:=m8 q.length (by omega)
 simp only [c3,b__Lbooks,ab,az,aw,aq,bL,bD,ay,un,var,aa,ac,ai,cj,jl,Ef,Ej,Eo,Er,Eu,Ex,Em,En,Ek,El,on,List.replicate,Nat.reduceAdd,Nat.reduceSub,br,cN,hrl,hr]
 refine bM (fun i:Nat=>D.int (i:Int)) (List.range q.length) (fun pre E=>∃ s4 s5 s6 s7 s8 s9,E=[Sl.val (D.tup ((ad q).map bB)),Sl.val (vL q),Sl.val (e_ q),Sl.own (.dic (duD (RR (q.take pre.length)))),s4,s5,s6,s7,s8,s9,Sl.no]) rfl ⟨_,_,_,_,_,_,rfl⟩ ?_ ?_
 ·rintro pre k post E hs ⟨s4,s5,s6,s7,s8,s9,rfl⟩
  obtain ⟨hk1,hk2⟩:=gd hs
  subst hk1
  have hsp:=j3 hk2
  rw [← jm hk2] at hsp
  obtain ⟨s,hsd⟩:∃ s,s=atC q pre.length:=⟨_,rfl⟩
  rw [← hsd] at hsp
  have htl:(q.take pre.length).length=pre.length:=by rw [List.length_take]; omega
  have hpk:atI ((ad q).map bB) (pre.length:Int)=some (.tup [aJ (plain s).1,aJ s.2]):=by
   rw [bZ,List.getElem?_map]
   unfold ad
   rw [List.getElem?_map,List.getElem?_eq_getElem hk2,← jm hk2,← hsd]; rfl
  have hwk:atI ((List.range q.length).map (bU (ad q))) (pre.length:Int)=some (.lst (s.1.map fun z=>aJ (bz (ad (q.take pre.length)) z.1))):=by
   rw [bZ,List.getElem?_map,List.getElem?_range hk2,Ej,← yy hsp,htl]
  have hck:atI (q.map e9) (pre.length:Int)=some (e9 s):=by
   rw [bZ,List.getElem?_map,List.getElem?_eq_getElem hk2,← jm hk2,← hsd]; rfl
  have hs1:s.1.length≤1000:=h8 s (by rw [hsp]; simp)
  have hln:aV (aJ (plain s).1)=some (.int (s.1.length:Int)):=by
   show some (D.int (((s.1.map (·.1)).map D.str).length:Int))=_
   rw [List.length_map,List.length_map]
  have hr2:=m8 s.1.length (by omega)
  simp only [ab,aG,bh,aw,aq,bD,bin,un,aa,ac,ai,cj,nmG,ci,aN,ck,Ef,Ej,Em,En,Ek,El,on,Eh,reduceIte,Nat.reduceAdd,dc,gA,hpk,hln,hr2]
  refine bM (fun i:Nat=>D.int (i:Int)) (List.range s.1.length) (fun pr E=>∃ s7 s8 s9,E=[Sl.val (D.tup ((ad q).map bB)),Sl.val (vL q),Sl.val (e_ q),Sl.own (.dic (duD (RR (q.take pre.length) ++ (s.1.take pr.length).map fun z=>(z.1,iQ (q.take pre.length) s z)))),Sl.val (.int (pre.length:Int)),Sl.val (aJ (plain s).1),Sl.val (aJ s.2),s7,s8,s9,Sl.no]) rfl ⟨_,_,_,by rw [En,List.take_zero,Er,List.append_nil]⟩ ?_ ?_
  ·rintro pr j po E hs' ⟨s7,s8,s9,rfl⟩
   obtain ⟨hj1,hj2⟩:=gd hs'
   subst hj1
   obtain ⟨z,hzd⟩:∃ z,z=s.1[pr.length]:=⟨_,rfl⟩
   have hzm:z ∈ s.1:=by rw [hzd]; exact List.getElem_mem _
   obtain ⟨hz1,hz3⟩:=hq _ _ _ hsp z hzm
   obtain ⟨w,hw⟩:∃ w,w=bz (ad (q.take pre.length)) z.1:=⟨_,rfl⟩
   rw [← hw] at hz1
   have a1:atI ((plain s).1.map D.str) (pr.length:Int)=some (.str z.1):=by
    rw [bZ,List.getElem?_map]
    unfold plain
    rw [List.getElem?_map,List.getElem?_eq_getElem hj2,← hzd]; rfl
   have a2:atI (s.1.map fun z=>aJ (bz (ad (q.take pre.length)) z.1)) (pr.length:Int)=some (aJ w):=by
    rw [bZ,List.getElem?_map,List.getElem?_eq_getElem hj2,← hzd,hw]; rfl
   have a3:atI (s.1.map fun z=>D.int (z.2:Int)) (pr.length:Int)=some (.int (z.2:Int)):=by
    rw [bZ,List.getElem?_map,List.getElem?_eq_getElem hj2,← hzd]; rfl
   have hwl:w.length≤10000:=by
    have h1:=io z.1 (ad (q.take pre.length))
    have h2:(aj (ad (q.take pre.length))).length≤(aj (ad q)).length:=dt (p:=ad q) (post:=ad (q.drop pre.length)) (by rw [← bF,List.take_append_drop])
    rw [← hw] at h1
    omega
   have b1:ixE (aJ (plain s).1) (.int (pr.length:Int))=some (.str z.1):=a1
   have b2:ixE (.lst (s.1.map fun z=>aJ (bz (ad (q.take pre.length)) z.1))) (.int (pr.length:Int))=some (aJ w):=a2
   have b3:ixE (e9 s) (.int (pr.length:Int))=some (.int (z.2:Int)):=a3
   have b4:ixE (vL q) (.int (pre.length:Int))=some (.lst (s.1.map fun z=>aJ (bz (ad (q.take pre.length)) z.1))):=hwk
   have b5:ixE (e_ q) (.int (pre.length:Int))=some (e9 s):=hck
   have hRl:(RR (q.take pre.length) ++ (s.1.take pr.length).map fun z=>(z.1,iQ (q.take pre.length) s z)).length≤10000:=by
    have h2:(aB (ad (q.take pre.length))).length≤(aB (ad q)).length:=d6 (p:=ad q) (post:=ad (q.drop pre.length)) (by rw [← bF,List.take_append_drop])
    rw [List.length_append,List.length_map,il,List.length_take]
    omega
   have hin:=BS (P:=D.tup ((ad q).map bB)) (WW:=aJ s.2) (s8:=s8) (s9:=s9) b4 b2 b5 b3 b1 hz1 hwl hRl
   show wp (inB [Sl.val (D.tup ((ad q).map bB)),Sl.val (vL q),Sl.val (e_ q),Sl.own (.dic (duD (RR (q.take pre.length) ++ (s.1.take pr.length).map fun z=>(z.1,iQ (q.take pre.length) s z)))),Sl.val (.int (pre.length:Int)),Sl.val (aJ (plain s).1),Sl.val (aJ s.2),Sl.val (.int (pr.length:Int)),s8,s9,Sl.no]) _
   rw [hin]
   refine ⟨Sl.val (.int (pr.length:Int)),Sl.val (aJ w),Sl.val (aJ (w.drop (w.length - z.2))),?_⟩
   rw [List.length_append,List.length_singleton,eP hj2,List.map_append,List.map_singleton,← List.append_assoc,← hzd,hw]
   rfl
  ·rintro E ⟨s7,s8,s9,rfl⟩
   refine ⟨Sl.val (.int (pre.length:Int)),Sl.val (aJ (plain s).1),Sl.val (aJ s.2),s7,s8,s9,?_⟩
   rw [List.length_range,List.take_length,List.length_append,List.length_singleton,eP hk2,tD,← jm hk2,← hsd]
   rfl
 ·rintro E ⟨s4,s5,s6,s7,s8,s9,rfl⟩
  simp only [fzE,ab,aq,ax,Ej,Ek,El,on,Eh,List.length_range,List.take_length]
  unfold bk duD
  rw [lb]
  rfl
end Wk
theorem rH:∀ (r pre:List CS) (x:Str×D),x ∈ RA pre r→∃ p1 s p2 z,r=p1 ++ s :: p2∧z ∈ s.1∧x=(z.1,iQ (pre ++ p1) s z)
 | [],_,_,h=>by cases h
 | s :: r,pre,x,h=>by
  rcases List.mem_append.mp h with h | h
  ·obtain ⟨z,hz,rfl⟩:=List.mem_map.mp h
   exact ⟨[],s,r,z,rfl,hz,by rw [List.append_nil]⟩
  ·obtain ⟨p1,s',p2,z,rfl,hz,rfl⟩:=rH r _ x h
   exact ⟨s :: p1,s',p2,z,rfl,hz,by rw [List.append_assoc]; rfl⟩
theorem Ci {q:List CS}{x:Str×D} (h:x ∈ RR q):∃ p1 s p2 z,q=p1 ++ s :: p2∧z ∈ s.1∧x=(z.1,iQ p1 s z):=rH q [] x h
theorem gu {q:List CS}{n:Str}{e:D} (h:e ∈ aH (RR q) n):∃ p1 s p2 z,q=p1 ++ s :: p2∧z ∈ s.1∧z.1=n∧e=iQ p1 s z:=by
 obtain ⟨x,hx,rfl⟩:=List.mem_map.mp h
 obtain ⟨h1,h2⟩:=List.mem_filter.mp hx
 obtain ⟨p1,s,p2,z,e1,e2,rfl⟩:=Ci h1
 exact ⟨p1,s,p2,z,e1,e2,of_decide_eq_true h2,rfl⟩
noncomputable def szE:D→Int
 | .tup (.tup c :: _)=>c.length
 | _=>0
noncomputable def szD (q:List CS) (n:Str):D:=.tup (((aH (RR q) n).map szE).map D.int)
theorem wV {ss:List Str} (h:∀ x ∈ ss,lF x):neE (.lst (ss.map D.str)) (.lst (ss.map D.str))=some (.bl false):=by
 show neO _ _=_
 rw [pB (n:=1) (iL _ _ fun x hx=>eZ (h x hx)) (iL _ _ fun x hx=>eZ (h x hx)) (by decide) rfl,pX _ iO,decide_eq_true rfl]; rfl
theorem oH {ks:List Str} (f:Str→D) (h:ks.length < 64):eS (bk ks f)=some (.lst ((b7 ks).map D.str)):=by
 show (lr (bkL ks f)).bind (fun ss=>if ss.length < 64 then some (D.lst ((b7 ss).map D.str)) else none)=_
 rw [sK,Ef,if_pos h]
theorem tf (p:List Sp) (z:Str×Nat):(gt p z).length≤(aj p).length:=by
 unfold gt
 rw [List.length_drop]
 have:=io z.1 p
 omega
theorem o7 (f:Str→D):∀ ns:List Str,eK (ns.map fun n=>D.tup [.str n,f n])=some (bkL ns f)
 | []=>rfl
 | n :: ns=>by
  show (bT (.str n)).bind (fun ky=>(eK (ns.map fun n=>D.tup [.str n,f n])).map fun q=>(ky,f n) :: q)=_
  rw [o7 f ns]; rfl
theorem xY (f:Str→D) {ns:List Str} (h:ns.Nodup):p9 (.lst (ns.map fun n=>D.tup [.str n,f n]))=some (bk ns f):=by
 show (eK _).bind _=_
 rw [o7,Ef]
 have:((bkL ns f).map (·.1)).Nodup:=by
  unfold bkL
  rw [List.map_map]
  exact List.Pairwise.map _ (fun a b hab e=>hab (eC e)) h
 rw [if_pos this]; rfl
namespace Sh
theorem lU (k:Nat) (ds:List D) (h:∀ d ∈ ds,g__Lsame k [d,d]=some (.bl true)) (hx:ds.length≤4000000):g__Lsame (k + 1) [.tup ds,.tup ds]=some (.bl true):=by
 have hc:bu (nmG 2) noT (ao 2 (g__Lsame k) (ac (bin ixE (aa 0) (aa 2)) (ac (bin ixE (aa 1) (aa 2)) ai))) [Sl.val (D.tup ds),Sl.val (D.tup ds),Sl.no] (cV 0 ds.length)=some ((List.range ds.length).map fun _=>D.bl true):=by
  rw [oV]
  refine a7 _ _ _ fun i hi=>?_
  rw [List.mem_range] at hi
  refine aM ?_
  simp only [ab,bin,aa,ao,ac,ai,Ef,Ej,Em,En,Ek,El,on,Eh,reduceIte,Nat.reduceAdd,dc,tu,List.getElem?_eq_getElem hi,h _ (List.getElem_mem hi)]
 have hz:(cV 0 ds.length).length≤16777216:=by simp [cV]; omega
 have hr:jt [D.int (ds.length:Int)]=some (cV 0 ds.length):=by rw [cY (by omega) (by omega),Int.toNat_natCast]
 have hb:((List.range ds.length).map fun _=>true).all id=true:=by simp
 refine aM ?_
 simp only [g__Lsame,b__Lsame,ab,az,aw,aq,ca,ax,bv,cm,bx,ay,bp,bin,un,aa,tst,asB,cw,orT,ac,ai,cj,isF,aQ,aD,c7,tyN,Ef,Ej,Eo,Er,Eu,Ex,Em,En,Ek,El,on,Eh,List.replicate,Ey,List.foldl_nil,reduceIte,Nat.reduceAdd,Nat.reduceSub,Bool.not_true,Bool.false_eq_true,decide_true,b9,String.reduceBEq,beq_self_eq_true,Bool.or_false,Bool.and_false,eA,be,br,hr,hc,be hz,cn (fun _:Nat=>true),hb]
end Sh
namespace Wk
theorem rq:∀ k:Nat,g__Lsame k=Sh.g__Lsame k
 | 0=>rfl
 | k + 1=>by
  show bi 2 _ (b__Lsame (g__Lsame k))=bi 2 _ (Sh.b__Lsame (Sh.g__Lsame k))
  rw [rq k]; rfl
theorem ua (q:List CS) (hN:(aB (ad q)).length≤4000) (hW:(aj (ad q)).length≤10000) (h8:∀ s ∈ q,s.1.length≤1000∧s.2.length≤1000) (n:Str):g__Lsame 6 [bkD q n,bkD q n]=some (.bl true):=by
 rw [rq]
 have hbl:=cX (RR q) n
 rw [il] at hbl
 refine Sh.lU 5 _ (fun d hd=>?_) (by omega)
 obtain ⟨p1,s,p2,z,e1,e2,e3,rfl⟩:=gu hd
 obtain ⟨a1,a2⟩:=h8 s (by rw [e1]; simp)
 have hw:(aj (ad p1)).length≤(aj (ad q)).length:=dt (p:=ad q) (post:=ad (s :: p2)) (by rw [← bF,e1])
 have hcl:=tf (ad p1) z
 have hT:∀ ss:List Str,ss.length≤4000000→Sh.g__Lsame 4 [aJ ss,aJ ss]=some (.bl true):=fun ss h=>by
  have:=Sh.t9 2 ss ss h h
  rwa [decide_eq_true rfl] at this
 refine Sh.lU 4 _ (fun d hd=>?_) (by simp)
 rcases List.mem_cons.mp hd with rfl | hd
 ·exact hT _ (by omega)
 ·rcases List.mem_cons.mp hd with rfl | hd
  ·exact hT _ (by unfold plain; rw [List.length_map]; omega)
  ·rw [List.mem_singleton.mp hd]; exact hT _ (by omega)
theorem lT (q:List CS) (hN:(aB (ad q)).length≤4000) (n:Str):g__Lsame 6 [szD q n,szD q n]=some (.bl true):=by
 rw [rq]
 have hbl:=cX (RR q) n
 rw [il] at hbl
 have:=Sh.t_ 4 ((aH (RR q) n).map szE) ((aH (RR q) n).map szE) (by rw [List.length_map]; omega) (by rw [List.length_map]; omega)
 rwa [decide_eq_true rfl] at this
theorem g8 (ks ls:List Str) (f:Str→D) (hp:ks.Perm ls) (hk:ks.length < 64) (hlow:∀ n ∈ ks,lF n) (hsame:∀ n ∈ ls,g__Lsame 6 [f n,f n]=some (.bl true)):bo [bk ks f,bk ls f]=some (.bl true):=by
 have s1:=oH f hk
 have s2:=oH (ks:=ls) f (by rw [← hp.length_eq]; exact hk)
 rw [← lj hp] at s2
 have hne:=wV (ss:=b7 ks) fun x hx=>hlow x ((bg ks).mem_iff.mp hx)
 have hc:bu (nmG 2) noT (ao 2 (g__Lsame 6) (ac (bin ixE (aa 0) (aa 2)) (ac (bin ixE (aa 1) (aa 2)) ai))) [Sl.val (bk ks f),Sl.val (bk ls f),Sl.no] (ls.map D.str)=some (ls.map fun _=>D.bl true):=by
  refine a7 _ _ _ fun n hn=>?_
  refine aM ?_
  simp only [ab,bin,aa,ao,ac,ai,Ef,Ej,Em,En,Ek,El,on,Eh,reduceIte,Nat.reduceAdd,nF hn,nF (hp.mem_iff.mpr hn),hsame n hn]
 have hb:(ls.map fun _=>true).all id=true:=by simp
 have hll:ls.length≤16777216:=by rw [← hp.length_eq]; omega
 have hor:orT (cw (tst (isF "dict" (aa 0)))) (tst (bin neE (un eS (aa 0)) (un eS (aa 1)))) [Sl.val (bk ks f),Sl.val (bk ls f),Sl.no]=some false:=by
  have hi0:tst (isF "dict" (aa 0)) [Sl.val (bk ks f),Sl.val (bk ls f),Sl.no]=some true:=rfl
  have hn0:tst (bin neE (un eS (aa 0)) (un eS (aa 1))) [Sl.val (bk ks f),Sl.val (bk ls f),Sl.no]=some false:=by
   unfold tst bin un aa
   rw [on,Eh,on]
   simp only [Ef,s1,s2,hne,asB,Ej]
  unfold orT cw
  rw [hi0,hn0]; rfl
 refine aM ?_
 simp only [bo,b__Lright,az,aw,bv,Eo,Er,List.replicate,Eu,Ex,Em,En,Nat.reduceAdd,Nat.reduceSub,reduceIte,hor]
 simp only [ab,aq,ax,bx,ay,bp,un,var,aP,aQ,aD,c7,Ef,Ej,Ek,El,on,Eh,Ey,List.foldl_nil,reduceIte,be,nW,List.length_map,be hll,hc,cn (fun _:Str=>true),hb]
theorem oI (q:List CS) (ns:List Str) (hn:ns.Nodup) (hl:ns.length < 64) (hN:(aB (ad q)).length≤4000):dO [bk ns (bkD q)]=some (bk ns (szD q)):=by
 have hit:kL (bk ns (bkD q))=some (ns.map fun n=>D.tup [.str n,bkD q n]):=by
  show some ((bkL ns (bkD q)).map fun p=>D.tup [cD p.1,p.2])=_
  unfold bkL
  rw [List.map_map]; rfl
 refine rZ rfl ?_
 simp only [b_sizes,ab,aw,aq,bL,bD,var,aP,jl,Ef,Ej,Eo,Er,Eu,Ex,Ek,El,on,List.replicate,Nat.reduceSub,hit]
 refine bM (fun n=>D.tup [.str n,bkD q n]) ns (fun pre E=>∃ s2 s3,E=[Sl.val (bk ns (bkD q)),Sl.own (.dic (bkL pre (szD q))),s2,s3,Sl.no]) rfl ⟨_,_,rfl⟩ ?_ ?_
 ·rintro pre n post E hs ⟨s2,s3,rfl⟩
  have hnp:=nv hn hs
  have hpl:pre.length≤ns.length:=by rw [hs]; simp
  have hbl:=cX (RR q) n
  rw [il] at hbl
  have hik:bH (bkD q n)=some ((aH (RR q) n).map id):=by rw [List.map_id]; rfl
  have hc:bu (nmG 4) noT (un aV (bin ixE (aa 4) (cst (.int 0)))) [Sl.val (bk ns (bkD q)),Sl.own (.dic (bkL pre (szD q))),Sl.val (.str n),Sl.val (bkD q n),Sl.no] ((aH (RR q) n).map id)=some ((aH (RR q) n).map fun e=>D.int (szE e)):=by
   refine a7 _ _ _ fun e he=>?_
   obtain ⟨p1,s,p2,z,e1,e2,e3,rfl⟩:=gu he
   rfl
  simp only [ab,un,var,aP,nmG,ci,aN,ck,aQ,aD,Ef,Ej,Em,En,Ek,El,on,Eh,Ey,List.foldl_nil,reduceIte,Nat.reduceAdd,be,bT,fj,a8,hik,hc,List.length_map,be (show (aH (RR q) n).length≤16777216 by omega)]
  rw [kq hnp,if_pos (eQ (by unfold bkL; rw [List.length_map]; omega))]
  refine ⟨Sl.val (.str n),Sl.val (bkD q n),?_⟩
  have e1:bkL (pre ++ [n]) (szD q)=bkL pre (szD q) ++ [(Sum.inr n,szD q n)]:=by
   unfold bkL
   rw [List.map_append]; rfl
  have e2:szD q n=.tup ((aH (RR q) n).map fun e=>D.int (szE e)):=by
   unfold szD
   rw [List.map_map]; rfl
  rw [e1,e2]
 ·rintro E ⟨s2,s3,rfl⟩
  exact ⟨_,rfl,rfl⟩
end Wk
noncomputable def kO:D→Bool
 | .tup ds=>ds.all (isL 12)
 | _=>false
noncomputable def u4 (x:Str):D→Bool
 | .tup ds=>decide (x ∈ dU ds)
 | _=>false
noncomputable def jf (x:Str):D→Bool
 | .tup [c,n,w]=>kO c && (jH n && (u4 x n && lv w))
 | _=>false
noncomputable def iS:D→Bool
 | .tup (.tup cs :: _)=>decide (0 < (cs.length:Int))
 | _=>false
noncomputable def jI:Key→D→Bool
 | .inr x,.tup es=>isT 8 x && (!decide ((es.length:Int)=0) && (es.all (jf x) && (es.drop 1).all iS))
 | _,_=>false
noncomputable def isBk:D→Bool
 | .dic kvs=>kvs.all fun p=>jI p.1 p.2
 | _=>false
noncomputable def vw (P:D→Prop) (d:D):Prop:=∀ ds,d=.tup ds→ds.length≤1000∧∀ x ∈ ds,P x
theorem vw.to {P Q:D→Prop}{d:D} (hd:vw P d) (h:∀ x,P x→Q x):SmT Q d:=fun ds e=>⟨Nat.le_trans (hd ds e).1 (by decide),fun x hx=>h x ((hd ds e).2 x hx)⟩
noncomputable abbrev SmP:=vw Sh.SmS
noncomputable abbrev SmN:=vw SmP
noncomputable abbrev SmB:=vw SmN
theorem SmP.sm {d:D} (h:SmP d):Sh.Sm1 d:=vw.to h fun _ h=>h
noncomputable def SmD (d:D):Prop:=∀ kvs,d=.dic kvs→kvs.length≤1000∧(kvs.map (·.1)).Nodup∧∀ p ∈ kvs,Sh.SmS (cD p.1)∧SmB p.2
noncomputable def AA:D→Bool
 | .dic _=>true
 | _=>false
theorem yD (d:D) (h:AA d=false):b9 (tyN d) "dict" = false:=by
 cases d <;> first | rfl | cases h
theorem xr {x:Str}{ds:List D} (h:ds.length ≠ 3):jf x (.tup ds)=false:=by
 match ds,h with
 | [],_=>rfl
 | [_],_=>rfl
 | [_,_],_=>rfl
 | [_,_,_],h=>exact absurd rfl h
 | _ :: _ :: _ :: _ :: _,_=>rfl
theorem Az (a b c:D):atI [a,b,c] 0=some a:=rfl
theorem Dn (a b c:D):atI [a,b,c] 1=some b:=rfl
theorem Dl (a b c:D):atI [a,b,c] 2=some c:=rfl
namespace Wk
theorem D8:g_are_words=Sh.g_are_words:=rfl
theorem D7:g_is_speech_names=Sh.g_is_speech_names:=rfl
theorem D6:g_is_speech_words=Sh.g_is_speech_words:=rfl
theorem B5:g_is_name=Sh.g_is_name:=rfl
theorem uX {d:D} (hd:SmP d):eV [d]=some (.bl (kO d)):=by
 cases h:mq d with
 | true =>
  cases d with
  | tup ds =>
   obtain ⟨hl,hx⟩:=hd.sm ds rfl
   refine aM ?_
   simp only [eV,b_is_cue,D8,ab,az,ax,ay,var,aa,asB,bI,ao,ac,ai,isF,tyN,Ef,Ej,Eo,Er,Eu,Ex,Em,En,on,List.replicate,reduceIte,Nat.reduceAdd,Nat.reduceSub,b9,String.reduceBEq,beq_self_eq_true,Bool.or_false,Bool.and_false,Sh.iU hl hx,kO]
  | _=>cases h
 | false =>
  have e:eV [d]=some (.bl false):=by
   refine aM ?_
   simp only [eV,b_is_cue,az,ab,aG,bh,ay,bI,isF,iw d h,aa,Em,En,Nat.reduceAdd,Nat.reduceSub,Eo,Er,Eu,Ex,on,asB,Bool.false_eq_true,reduceIte,ax]
  rw [e]
  cases d <;> first | rfl | cases h
theorem BU {x:Str}{n:D} (h:jH n=true):inE (.str x) n=some (.bl (u4 x n)):=by
 cases n with
 | tup ns =>
  have h':(decide (1≤(ns.length:Int)) && (decide ((ns.length:Int)≤8) && (ns.all (isL 8) && jE (dU ns))))=true:=h
  rw [Bool.and_eq_true,Bool.and_eq_true,Bool.and_eq_true] at h'
  have e:=la h'.2.2.1
  have:inE (.str x) (.tup ns)=some (.bl (decide (x ∈ dU ns))):=by
   conv=>lhs; rw [e]
   exact zD
  exact this
 | _=>cases h
theorem xS {x:Str}{d:D} (hd:SmN d):cc [.str x,d]=some (.bl (jf x d)):=by
 cases h:mq d with
 | true =>
  cases d with
  | tup ds =>
   obtain ⟨hl,hx⟩:=hd ds rfl
   by_cases h3:ds.length=3
   ·match ds,h3 with
    | [c,n,w],_ =>
     have hc:=hx c (by simp)
     have hn:=hx n (by simp)
     have hw:=hx w (by simp)
     have e3:decide (((3:Nat):Int)=3)=true:=by decide
     refine aM ?_
     simp only [cc,b_is_entry,ab,bh,az,aw,aq,ax,bv,bx,ay,bp,bin,un,cst,aa,tst,asB,cw,orT,bI,ao,ac,ai,isF,tyN,Ef,Ej,Eo,Er,Eu,Ex,Em,En,on,Eh,List.replicate,reduceIte,Nat.reduceAdd,Nat.reduceSub,Bool.not_true,Bool.false_eq_true,b9,String.reduceBEq,beq_self_eq_true,Bool.or_false,Bool.and_false,eA,dc,br,D7,D6,jf,Az,Dn,Dl,e3,uX hc,Sh.wW hn.sm,Sh.vJ hw.sm]
     cases kO c with
     | false=>simp only [ab,reduceIte,Bool.false_eq_true,Bool.false_and]
     | true =>
      cases k2:jH n with
      | false=>simp only [ab,reduceIte,Bool.false_eq_true,Bool.and_false,Bool.false_and]
      | true =>
       simp only [Ef,reduceIte,Bool.true_and,BU k2]
       cases u4 x n with
       | false=>simp only [ab,reduceIte,Bool.false_eq_true,Bool.false_and]
       | true=>simp only [ab,reduceIte,Bool.true_and]
   ·have e:decide ((ds.length:Int)=3)=false:=decide_eq_false (by omega)
    refine aM ?_
    simp only [cc,b_is_entry,ab,az,aw,ca,ax,bv,cm,ay,bin,un,cst,aa,tst,asB,cw,orT,isF,tyN,Ef,Ej,Eo,Er,Eu,Ex,Em,En,on,Eh,List.replicate,reduceIte,Nat.reduceAdd,Nat.reduceSub,Bool.not_true,Bool.not_false,Bool.false_eq_true,b9,String.reduceBEq,beq_self_eq_true,Bool.or_false,Bool.and_false,eA,br,e,xr h3]
  | _=>cases h
 | false =>
  have e:cc [.str x,d]=some (.bl false):=by
   refine aM ?_
   simp only [cc,b_is_entry,az,aw,bv,orT,cw,tst,isF,iw d h,aa,Em,En,Nat.reduceAdd,Nat.reduceSub,Eo,Er,Eu,Ex,on,Eh,asB,Bool.false_eq_true,reduceIte,Ej,Ef,Bool.not_false,ab,cm,ay,cst,ca,ax]
  rw [e]
  cases d <;> first | rfl | cases h
theorem xt {x:Str}{d:D} (h:jf x d=true):∃ cs ns ws:List D,d=.tup [.tup cs,.tup ns,.tup ws]:=by
 match d,h with
 | .tup [c,n,w],h =>
  have h':(kO c && (jH n && (u4 x n && lv w)))=true:=h
  rw [Bool.and_eq_true,Bool.and_eq_true,Bool.and_eq_true] at h'
  obtain ⟨h1,h2,_,h4⟩:=h'
  cases c <;> first | cases h1 | skip
  cases n <;> first | cases h2 | skip
  cases w <;> first | cases h4 | skip
  exact ⟨_,_,_,rfl⟩
theorem z9 {k:Key}{d:D} (hk:Sh.SmS (cD k)) (hd:SmB d):cZ [cD k,d]=some (.bl (jI k d)):=by
 have hnm:g_is_name [cD k]=some (.bl (isL 8 (cD k))):=by rw [B5]; exact Sh.kM hk
 cases k with
 | inl o =>
  have e:isL 8 (cD (.inl o))=false:=by cases o <;> rfl
  rw [e] at hnm
  refine aM ?_
  simp only [cZ,b_is_book,ab,az,aw,ca,ax,bv,cm,ay,bin,un,cst,var,aa,tst,asB,cw,orT,ao,ac,ai,isF,tyN,Ef,Ej,Eo,Er,Eu,Ex,Em,En,on,Eh,List.replicate,reduceIte,Nat.reduceAdd,Nat.reduceSub,Bool.not_false,b9,String.reduceBEq,Bool.or_false,Bool.and_false,hnm,jI]
 | inr x =>
  have e:isL 8 (cD (.inr x))=isT 8 x:=rfl
  rw [e] at hnm
  cases hx:isT 8 x with
  | false =>
   rw [hx] at hnm
   refine aM ?_
   have e2:jI (.inr x) d=false:=by
    cases d <;> first | rfl | (show (isT 8 x && _)=false; rw [hx]; rfl)
   simp only [cZ,b_is_book,ab,az,aw,ca,ax,bv,cm,ay,bin,un,cst,var,aa,tst,asB,cw,orT,ao,ac,ai,isF,tyN,Ef,Ej,Eo,Er,Eu,Ex,Em,En,on,Eh,List.replicate,reduceIte,Nat.reduceAdd,Nat.reduceSub,Bool.not_false,b9,String.reduceBEq,Bool.or_false,Bool.and_false,hnm,e2]
  | true =>
   rw [hx] at hnm
   cases h:mq d with
   | false =>
    have e2:jI (.inr x) d=false:=by cases d <;> first | rfl | cases h
    refine aM ?_
    simp only [cZ,b_is_book,az,aw,bv,orT,cw,tst,isF,iw d h,ao,ac,ai,var,hnm,aa,Em,En,Nat.reduceAdd,Nat.reduceSub,Eo,Er,Eu,Ex,on,Eh,asB,Bool.false_eq_true,reduceIte,Ej,Ef,Bool.not_false,Bool.not_true,ab,cm,ay,cst,ca,ax,e2]
   | true =>
    cases d with
    | tup es =>
     obtain ⟨hl,hes⟩:=hd es rfl
     have hs:es.length≤16777216:=by omega
     have hc1:bu (nmG 2) noT (ao 2 cc (ac (var 0) (ac (var 2) ai))) [Sl.val (cD (.inr x)),Sl.val (D.tup es),Sl.no] es=some (es.map fun e=>D.bl (jf x e)):=by
      have:=a7 (fun d:D=>d) (fun e=>D.bl (jf x e)) (i:=2) (ef:=ao 2 cc (ac (var 0) (ac (var 2) ai))) (E:=[Sl.val (cD (.inr x)),Sl.val (D.tup es),Sl.no]) es fun e he=>by
       have h9:=xS (x:=x) (hes e he)
       refine aM ?_
       simp only [ab,var,ao,ac,ai,Ef,Ej,Em,En,Ek,El,on,Eh,reduceIte,Nat.reduceAdd,cD,h9]
      rwa [List.map_id'] at this
     have a1:(es.map fun e=>jf x e).all id=es.all (jf x):=by rw [List.all_map]; rfl
     refine aM ?_
     simp only [cZ,b_is_book,ab,az,aw,bv,bin,un,cst,var,aa,tst,asB,cw,orT,ao,ac,ai,isF,tyN,Ef,Ej,Eo,Er,Eu,Ex,Em,En,on,Eh,List.replicate,reduceIte,Nat.reduceAdd,Nat.reduceSub,Bool.not_true,Bool.false_eq_true,b9,String.reduceBEq,beq_self_eq_true,Bool.or_false,Bool.true_and,Bool.and_false,dF,br,hnm,jI,hx]
     by_cases h0:(es.length:Int)=0
     ·simp only [h0,ab,ca,ax,cm,ay,cst,Ej,Bool.not_true,decide_true,Bool.false_and]
     ·simp only [h0,ab,bh,aq,ax,bx,ay,bp,un,cst,var,aa,asB,bI,aP,noP,bQ,bJ,aQ,aD,c7,aX,Ef,Ej,Ek,El,on,Eh,Ey,List.foldl_nil,reduceIte,Bool.not_false,decide_false,Bool.true_and,gB,be,hs,hc1,cn,a1]
      cases k1:es.all (jf x) with
      | false=>simp only [ab,reduceIte,Bool.false_eq_true,Bool.false_and]
      | true =>
       have hcut:cA es (some 1) none=es.drop 1:=kY es 1
       have hs2:(es.drop 1).length≤16777216:=by rw [List.length_drop]; omega
       have hc2:bu (nmG 2) noT (bin gtD (un aV (bin ixE (aa 2) (cst (.int 0)))) (cst (.int 0))) [Sl.val (cD (.inr x)),Sl.val (D.tup es),Sl.no] (es.drop 1)=some ((es.drop 1).map fun e=>D.bl (iS e)):=by
        have:=a7 (fun d:D=>d) (fun e=>D.bl (iS e)) (i:=2) (ef:=bin gtD (un aV (bin ixE (aa 2) (cst (.int 0)))) (cst (.int 0))) (E:=[Sl.val (cD (.inr x)),Sl.val (D.tup es),Sl.no]) (es.drop 1) fun e he=>by
         obtain ⟨cs,ns,ws,rfl⟩:=xt (List.all_eq_true.mp k1 e (List.mem_of_mem_drop he))
         refine aM ?_
         simp only [ab,bin,un,cst,aa,jT,Ef,Ek,El,on,Eh,dc,br,Az,iS]
        rwa [List.map_id'] at this
       have a2:((es.drop 1).map fun e=>iS e).all id=(es.drop 1).all iS:=by rw [List.all_map]; rfl
       simp only [ab,c7,Ef,Ej,reduceIte,Bool.true_and,be,hcut,hs2,hc2,cn,a2]
    | _=>cases h
theorem q_ {d:D} (hd:SmD d):ce [d]=some (.bl (isBk d)):=by
 cases h:AA d with
 | true =>
  cases d with
  | dic kvs =>
   obtain ⟨hl,hn,hp⟩:=hd kvs rfl
   have hs:(kvs.map fun p=>D.tup [cD p.1,p.2]).length≤16777216:=by rw [List.length_map]; omega
   have hc:bu (ci 2 (aN (nmG 1) (aN (nmG 2) ck))) noT (ao 2 cZ (ac (var 1) (ac (var 2) ai))) [Sl.val (D.dic kvs),Sl.no,Sl.no] (kvs.map fun p=>D.tup [cD p.1,p.2])=some (kvs.map fun p=>D.bl (jI p.1 p.2)):=by
    refine dS (fun p:Key×D=>D.tup [cD p.1,p.2]) (fun p=>D.bl (jI p.1 p.2)) _ fun p hp'=>?_
    have:=z9 (hp p hp').1 (hp p hp').2
    simp only [ab,var,ao,ac,ai,nmG,ci,aN,ck,noT,Ef,Ej,Em,En,Ek,El,on,Eh,reduceIte,Nat.reduceAdd,true_and,Bool.true_and,this]
   have a1:(kvs.map fun p=>jI p.1 p.2).all id=kvs.all fun p=>jI p.1 p.2:=by rw [List.all_map]; rfl
   refine aM ?_
   simp only [ce,b_is_books,ab,az,ax,ay,un,var,aa,asB,bI,aP,isF,aQ,aD,c7,tyN,Ef,Ej,Eo,Er,Eu,Ex,Em,En,Ek,El,on,List.replicate,Ey,List.foldl_nil,reduceIte,Nat.reduceAdd,Nat.reduceSub,b9,String.reduceBEq,beq_self_eq_true,Bool.or_false,Bool.and_false,be,kL,hs,hc,cn,a1,isBk]
  | _=>cases h
 | false =>
  have e:ce [d]=some (.bl false):=by
   refine aM ?_
   simp only [ce,b_is_books,az,ab,aG,bh,ay,bI,isF,yD d h,aa,Em,En,Nat.reduceAdd,Nat.reduceSub,Eo,Er,Eu,Ex,on,asB,Bool.false_eq_true,reduceIte,ax]
  rw [e]
  cases d <;> first | rfl | cases h
end Wk
theorem xq {s:Sp} (h:im s):jH (aJ s.1)=true∧lv (aJ s.2)=true:=by
 have h':(jH (aJ s.1) && lv (aJ s.2))=true:=xp h
 rwa [Bool.and_eq_true] at h'
theorem vK {q pre post:List CS}{s:CS} (hq:fg q) (h:q=pre ++ s :: post) {z:Str×Nat} (hz:z ∈ s.1) (hw:bz (ad pre) z.1 ≠ []):gt (ad pre) z ≠ []:=by
 obtain ⟨h1,h2⟩:=hq pre s post h z hz
 have h3:=h2 hw
 unfold gt
 intro e
 have:=congrArg List.length e
 rw [List.length_drop,En] at this
 have hl:0 < (bz (ad pre) z.1).length:=List.length_pos_iff.mpr hw
 omega
theorem s_ {p:List Sp}{z:Str×Nat}{w:Str} (h:w ∈ gt p z):w ∈ aj p:=w4 (List.mem_of_mem_drop h)
structure cS (names words:List Str) (q:List CS):Prop where
 good:rV names words (ad q)
 cnt:fg q
 nw:∀ x ∈ names,Wd 8 x
 ww:∀ x ∈ words,Wd 12 x
 n8:names.length≤8
 len:q.length≤60
theorem cS.fine {names words:List Str}{q:List CS} (h:cS names words q) {s:CS} (hs:s ∈ q):im (plain s):=(h.good.each (plain s) (List.mem_map.mpr ⟨s,hs,rfl⟩)).fine h.nw h.ww h.n8
theorem cS.words {names words:List Str}{q pre post:List CS} (h:cS names words q) (e:q=pre ++ post) {w:Str} (hw:w ∈ aj (ad pre)):w ∈ words:=by
 obtain ⟨s,hs,hw⟩:=List.mem_flatMap.mp hw
 refine (h.good.each s ?_).wsub w hw
 rw [e,bF]
 exact List.mem_append_left _ hs
theorem cS.entry {names words:List Str}{q p1 p2:List CS}{s:CS}{z:Str×Nat} (h:cS names words q) (e:q=p1 ++ s :: p2) (hz:z ∈ s.1):jf z.1 (iQ p1 s z)=true:=by
 have hf:=h.fine (s:=s) (by rw [e]; simp)
 obtain ⟨h1,h2⟩:=xq hf
 have h3:kO (aJ (gt (ad p1) z))=true:=n6 fun x hx=>(h.ww x (h.words e (s_ hx))).isT
 have h4:u4 z.1 (aJ (plain s).1)=true:=by
  show decide (z.1 ∈ dU ((plain s).1.map D.str))=true
  rw [j1]
  exact decide_eq_true (List.mem_map.mpr ⟨z,hz,rfl⟩)
 show (kO (aJ (gt (ad p1) z)) && (jH (aJ (plain s).1) && (u4 z.1 (aJ (plain s).1) && lv (aJ s.2))))=true
 rw [h3,h1,h4]
 exact h2
theorem ud {l:List Str} (h:l.Pairwise ltS):l.Nodup:=h.imp fun {a b} hab e=>by
 rw [e] at hab
 exact List.lt_irrefl _ hab
theorem yf (A B:List (Str×D)) (n:Str):aH (A ++ B) n=aH A n ++ aH B n:=by unfold aH; rw [List.filter_append,List.map_append]
theorem yN {pre:List CS}{s:CS} (h:(s.1.map (·.1)).Nodup) (n:Str):(aH (qH pre s) n).length≤1:=by
 have key:∀ l:List (Str×Nat),(l.map (·.1)).Nodup→((l.map fun z=>(z.1,iQ pre s z)).filter fun x=>decide (x.1=n)).length≤1:=by
  intro l
  induction l with
  | nil=>intro _; simp
  | cons z l ih =>
   intro hn
   rw [Eo,List.nodup_cons] at hn
   have:=ih hn.2
   rw [Eo,List.filter_cons]
   split
   ·rename_i e
    have e':z.1=n:=of_decide_eq_true e
    have:((l.map fun z=>(z.1,iQ pre s z)).filter fun x=>decide (x.1=n))=[]:=by
     rw [List.filter_eq_nil_iff]
     intro x hx hd
     obtain ⟨y,hy,rfl⟩:=List.mem_map.mp hx
     exact hn.1 (by rw [e',← of_decide_eq_true hd]; exact List.mem_map.mpr ⟨y,hy,rfl⟩)
    rw [Em,this]
    simp
   ·exact this
 unfold aH
 rw [List.length_map]
 exact key _ h
theorem vg {α:Type}{A B:List α} (h:A.length≤1) {x:α} (hx:x ∈ (A ++ B).drop 1):x ∈ B:=by
 match A,h with
 | [],_=>exact List.mem_of_mem_drop hx
 | [a],_=>exact hx
theorem cS.behind {names words:List Str}{q:List CS} (h:cS names words q) {n:Str}{d:D} (hd:d ∈ (aH (RR q) n).drop 1):iS d=true:=by
 match q,h,hd with
 | [],_,hd=>cases hd
 | s0 :: r,h,hd =>
  have hnd:(s0.1.map (·.1)).Nodup:=ud (h.good.each (plain s0) (List.mem_map.mpr ⟨s0,by simp,rfl⟩)).ris
  have e0:RR (s0 :: r)=qH [] s0 ++ RA [s0] r:=rfl
  rw [e0,yf] at hd
  have hd:=vg (yN hnd n) hd
  obtain ⟨x,hx,rfl⟩:=List.mem_map.mp hd
  obtain ⟨p1,s,p2,z,e1,e2,rfl⟩:=rH _ _ _ (List.mem_filter.mp hx).1
  have eq0:s0 :: r=(s0 :: p1) ++ s :: p2:=by rw [e1]; rfl
  have epl:ad (s0 :: r)=ad (s0 :: p1) ++ plain s :: ad p2:=by rw [eq0,bF]; rfl
  have hk:p1.length + 1 < (ad (s0 :: r)).length:=by
   rw [epl]; unfold ad; simp
  have hlen:(ad (s0 :: p1)).length=p1.length + 1:=by unfold ad; simp
  have hget:(ad (s0 :: r))[p1.length + 1]=plain s:=by
   have:(ad (s0 :: r))[p1.length + 1]? = some (plain s):=by
    rw [epl,← hlen,List.getElem?_append_right (Nat.le_refl _),Nat.sub_self]; rfl
   rw [List.getElem?_eq_getElem hk] at this
   exact Option.some.inj this
  have hh:=h.good.heard hk (n:=z.1) (by rw [hget]; exact List.mem_map.mpr ⟨z,e2,rfl⟩)
  have htk:(ad (s0 :: r)).take (p1.length + 1)=ad (s0 :: p1):=by rw [epl,← hlen,List.take_left]
  rw [htk] at hh
  have hne:=vK h.cnt eq0 e2 (by intro e; rw [e] at hh; simp at hh)
  show decide (0 < (((gt (ad (s0 :: p1)) z).map D.str).length:Int))=true
  rw [List.length_map]
  have:=List.length_pos_iff.mpr hne
  exact decide_eq_true (by omega)
theorem cS.names {names words:List Str}{q:List CS} (h:cS names words q) {n:Str} (hn:n ∈ aB (ad q)):n ∈ names:=by
 obtain ⟨s,hs,hw⟩:=List.mem_flatMap.mp hn
 exact (h.good.each s hs).sub n hw
theorem cS.book {names words:List Str}{q:List CS} (h:cS names words q) {n:Str} (hn:n ∈ aB (ad q)):jI (.inr n) (bkD q n)=true:=by
 have h1:L2.Cu.isT 8 n=true:=(h.nw n (h.names hn)).isT
 have h2:decide (((aH (RR q) n).length:Int)=0)=false:=by
  rw [← lb] at hn
  obtain ⟨x,hx,rfl⟩:=List.mem_map.mp hn
  have:x.2 ∈ aH (RR q) x.1:=List.mem_map.mpr ⟨x,List.mem_filter.mpr ⟨hx,decide_eq_true rfl⟩,rfl⟩
  have:=List.length_pos_of_mem this
  exact decide_eq_false (by omega)
 have h3:(aH (RR q) n).all (jf n)=true:=by
  rw [List.all_eq_true]
  intro e he
  obtain ⟨p1,s,p2,z,e1,e2,rfl,rfl⟩:=gu he
  exact h.entry e1 e2
 have h4:((aH (RR q) n).drop 1).all iS=true:=by
  rw [List.all_eq_true]
  intro e he
  exact h.behind he
 show (L2.Cu.isT 8 n && (!decide (((aH (RR q) n).length:Int)=0) && ((aH (RR q) n).all (jf n) && ((aH (RR q) n).drop 1).all iS)))=true
 rw [h1,h2,h3,h4]; rfl
theorem cS.wordsN {names words:List Str}{q:List CS} (h:cS names words q):(aj (ad q)).length≤300:=by
 have h1:=oh (q:=ad q) fun s hs=>(h.good.each s hs).wle
 have h2:(ad q).length=q.length:=List.length_map _
 have:=h.len
 omega
theorem cS.namesN {names words:List Str}{q:List CS} (h:cS names words q):(aB (ad q)).length≤480:=by
 have h1:=pC (q:=ad q) fun s hs=>Nat.le_trans (h.good.each s hs).le h.n8
 have h2:(ad q).length=q.length:=List.length_map _
 have:=h.len
 omega
theorem cS.ded {names words:List Str}{q:List CS} (h:cS names words q):(ded (aB (ad q))).length≤8 :=
 Nat.le_trans (gH (gI _) fun x hx=>h.names (jR.mp hx)) h.n8
theorem cS.s8 {names words:List Str}{q:List CS} (h:cS names words q):∀ s ∈ q,s.1.length≤8∧s.2.length≤5:=fun s hs=>by
 have:=h.good.each (plain s) (List.mem_map.mpr ⟨s,hs,rfl⟩)
 have h1:=Nat.le_trans this.le h.n8
 unfold plain at h1
 rw [List.length_map] at h1
 exact ⟨h1,this.wle⟩
theorem mX {ss:List Str} (hl:ss.length≤1000) (h:∀ x ∈ ss,L2.Cu.isT 12 x=true):SmP (aJ ss):=fun ds e=>by
 cases e
 refine ⟨by rw [List.length_map]; exact hl,fun x hx=>?_⟩
 obtain ⟨y,hy,rfl⟩:=List.mem_map.mp hx
 have:=zA (h y hy)
 exact Sh.sf (by omega)
theorem cS.sm {names words:List Str}{q:List CS} (h:cS names words q) (n:Str):SmB (bkD q n):=fun ds e=>by
 cases e
 have hl:=cX (RR q) n
 rw [il] at hl
 have:=h.namesN
 refine ⟨by omega,fun d hd=>?_⟩
 obtain ⟨p1,s,p2,z,e1,e2,e3,rfl⟩:=gu hd
 intro ds e
 cases e
 have hs:s ∈ q:=by rw [e1]; simp
 have hf:=h.fine hs
 have h12:∀ x ∈ (plain s).1,L2.Cu.isT 12 x=true:=fun x hx=>by
  have hw:=h.nw x ((h.good.each (plain s) (List.mem_map.mpr ⟨s,hs,rfl⟩)).sub x hx)
  exact Wd.isT (M:=12) ⟨hw.pos,Nat.le_trans hw.le (by decide),hw.low⟩
 have hcl:=tf (ad p1) z
 have hw:(aj (ad p1)).length≤(aj (ad q)).length:=dt (p:=ad q) (post:=ad (s :: p2)) (by rw [← bF,e1])
 have hwn:=h.wordsN
 refine ⟨by simp,fun x hx=>?_⟩
 rcases List.mem_cons.mp hx with rfl | hx
 ·exact mX (by omega) fun x hx=>(h.ww x (h.words e1 (s_ hx))).isT
 ·rcases List.mem_cons.mp hx with rfl | hx
  ·exact mX (Nat.le_trans hf.le (by decide)) h12
  ·rw [List.mem_singleton.mp hx]
   exact mX (Nat.le_trans hf.wle (by decide)) hf.wd
theorem cS.smD {names words:List Str}{q:List CS} (h:cS names words q) {ks:List Str} (hk:∀ n ∈ ks,n ∈ aB (ad q)) (hn:ks.Nodup) (hl:ks.length≤1000):SmD (bk ks (bkD q)):=fun kvs e=>by
 cases e
 refine ⟨by unfold bkL; rw [List.length_map]; exact hl,?_,fun p hp=>?_⟩
 ·unfold bkL
  rw [List.map_map]
  exact List.Pairwise.map _ (fun a b hab e=>hab (eC e)) hn
 ·obtain ⟨n,hn,rfl⟩:=List.mem_map.mp hp
  have:=(h.nw n (h.names (hk n hn))).le
  exact ⟨Sh.sf (by omega),h.sm n⟩
theorem cS.isBk {names words:List Str}{q:List CS} (h:cS names words q) {ks:List Str} (hk:∀ n ∈ ks,n ∈ aB (ad q)):isBk (bk ks (bkD q))=true:=by
 show (bkL ks (bkD q)).all (fun p=>jI p.1 p.2)=true
 rw [List.all_eq_true]
 intro p hp
 obtain ⟨n,hn,rfl⟩:=List.mem_map.mp hp
 exact h.book (hk n hn)
namespace Wk
theorem lu {names words:List Str}{q:List CS} (h:cS names words q):ce [bk (cC q) (bkD q)]=some (.bl true):=by
 have hd:=h.ded
 have hkl:(cC q).length≤8:=by unfold cC; rw [(bg _).length_eq]; exact hd
 rw [q_ (h.smD (fun n hn=>jc.mp hn) (gk q) (by omega)),h.isBk fun n hn=>jc.mp hn]
end Wk
theorem fg.snoc {q:List CS}{s:CS} (h:fg q) (hs:∀ z ∈ s.1,z.2≤(bz (ad q) z.1).length∧(bz (ad q) z.1 ≠ []→1≤z.2)):fg (q ++ [s]):=by
 intro pre t post e z hz
 rcases List.eq_nil_or_concat post with rfl | ⟨po,x,rfl⟩
 ·obtain ⟨e1,e2⟩:=List.append_inj' e rfl
  injection e2 with e3 _
  subst e1
  subst e3
  exact hs z hz
 ·have e':q ++ [s]=(pre ++ t :: po) ++ [x]:=by rw [e]; simp
  obtain ⟨e1,_⟩:=List.append_inj' e' rfl
  exact h pre t po e1 z hz
theorem C8 (c a b sz:Int) (ha:1≤a) (hb:1≤b):∃ v:Int,atI [D.int a,D.int b,D.int sz,D.int 1] (c % 4)=some (.int v)∧(1≤v∨v=sz):=by
 have:c % 4=0∨c % 4=1∨c % 4=2∨c % 4=3:=by omega
 rcases this with h | h | h | h <;> rw [h]
 ·exact ⟨a,rfl,.inl ha⟩
 ·exact ⟨b,rfl,.inl hb⟩
 ·exact ⟨sz,rfl,.inr rfl⟩
 ·exact ⟨1,rfl,.inl (by omega)⟩
noncomputable def yI (p:List Sp) (k:Nat):List Str:=(p.getD k ([],[])).2
theorem yH (p:List Sp) (k:Nat):(dH p k,yI p k)=p.getD k ([],[]):=rfl
noncomputable def sA (p:List Sp) (k:Nat):List (Str×Nat):=(dH p k).map fun n=>(n,min 1 (bz (p.take k) n).length)
noncomputable def fL (p:List Sp):List CS:=(List.range p.length).map fun k=>(sA p k,yI p k)
theorem qL (p:List Sp) (k:Nat):plain (sA p k,yI p k)=p.getD k ([],[]):=by
 unfold plain sA
 rw [List.map_map,← yH]
 congr 1
 exact List.map_id _
theorem ge (p:List Sp):ad (fL p)=p:=by
 unfold ad fL
 rw [List.map_map]
 refine Eq.trans (List.map_congr_left fun k _=>qL p k) (ko p ([],[]))
theorem ya (p:List Sp):fg (fL p):=by
 intro pre s post e z hz
 have h1:(fL p)[pre.length]? = some s:=by rw [e]; simp
 have hlt:pre.length < p.length:=by
  have:=congrArg List.length e
  unfold fL at this
  simp at this
  omega
 unfold fL at h1
 rw [List.getElem?_map,List.getElem?_range hlt] at h1
 have h2:s=(sA p pre.length,yI p pre.length):=(Option.some.inj h1).symm
 have h3:ad pre=p.take pre.length:=by
  have h4:=congrArg ad e
  rw [ge,bF] at h4
  have hl:(ad pre).length=pre.length:=List.length_map _
  rw [h4,← hl,List.take_left]
 rw [h2] at hz
 obtain ⟨n,hn,rfl⟩:=List.mem_map.mp hz
 rw [h3]
 refine ⟨Nat.min_le_right _ _,fun hne=>?_⟩
 have h5:0 < (bz (p.take pre.length) n).length:=List.length_pos_iff.mpr hne
 show 1≤min 1 (bz (p.take pre.length) n).length
 omega
theorem mF (p:List Sp):e_ (fL p)=.tup ((List.range p.length).map fun k=>.tup ((dH p k).map fun n=>.int ((min 1 (bz (p.take k) n).length:Nat):Int))):=by
 unfold e_ fL
 rw [List.map_map]
 congr 1
 refine List.map_congr_left fun k _=>?_
 show D.tup (List.map _ (List.map _ (dH p k)))=_
 rw [List.map_map]; rfl
theorem sE (n:Nat):(if (n:Int) < 1 then (n:Int) else 1)=((min 1 n:Nat):Int):=by
 split <;> omega
namespace Wk
theorem zS:g__Lmixed=Sh.g__Lmixed:=rfl
noncomputable def z6:DE→Option Out :=
 (av (bL 5 (bS ai))
 (av (cR (aP aX (bin ixE (aa 0) (aa 3))) (nmG 6)
 (av (aS 7 (un aV (aa 6)))
 (av (dk 5 (ff cP (ac (var 7) (ac (bin ixE (bS (ac (bin cB (cst (.int 1)) (bin cz (bin bX (aa 4) (cst (.int 4))) (cst (.int 3)))) (ac (bin cB (cst (.int 1)) (bin cz (bin bX (aa 4) (cst (.int 4))) (bin cB (aa 7) (cst (.int 1))))) (ac (var 7) (ac (cst (.int 1)) ai))))) (bin cz (aa 4) (cst (.int 4)))) ai))))
 (aS 4 (bin bX (aa 4) (bin o6 (cst (.int 10)) (cst (.int 6))))))))
 (dk 2 (un aT (aa 5)))))
theorem p_:b__Lcounts=(av (bL 2 (bS ai))
 (av (cR (eU (ac (un aV (aa 0)) ai)) (nmG 3)
 (av (aS 4 (cst (.int 0)))
 (av (ifS (tst (bin ltD (aa 3) (un aV (aa 1))))
 (aS 4 (ao 1 g__Lmixed (ac (bin ixE (aa 1) (aa 3)) ai)))
 bp) z6)))
 (ay (un aT (aa 2))))):=rfl
theorem zZ {W C:D}{k c:Int}{L:List D}{ns:List Str}{f:Str→List Str}{s5 s6 s7:Sl} (hix:ixE W (.int k)=some (.lst (ns.map fun n=>aJ (f n)))) (hL:L.length≤10000) (hw:∀ n,(f n).length≤10000) (hl:ns.length≤1000) :
  wp (z6 [Sl.val W,Sl.val C,Sl.own (.lst L),Sl.val (.int k),Sl.val (.int c),s5,s6,s7]) fun r=>∃ (rs:List (Str×Nat)) (s4 s5 s6 s7:Sl),r=.nx [Sl.val W,Sl.val C,Sl.own (.lst (L ++ [.tup (rs.map fun z=>.int (z.2:Int))])),Sl.val (.int k),s4,s5,s6,s7]∧rs.map (·.1)=ns∧∀ z ∈ rs,z.2≤(f z.1).length∧(f z.1 ≠ []→1≤z.2):=by
 have p6:o6 (.int 10) (.int 6)=some (.int (10 ^ 6)):=jP (by omega) (by omega) (by decide)
 unfold z6
 simp only [ab,aw,aq,bL,bD,bin,aa,ai,bS,aP,aX,Ef,Ej,En,Ek,El,on,Eh,reduceIte,Nat.reduceLeDiff,be,hix]
 refine bM (fun n=>aJ (f n)) ns (fun pre E=>∃ (rs:List (Str×Nat)) (c:Int) (s6 s7:Sl),E=[Sl.val W,Sl.val C,Sl.own (.lst L),Sl.val (.int k),Sl.val (.int c),Sl.own (.lst (rs.map fun z=>.int (z.2:Int))),s6,s7]∧rs.map (·.1)=pre∧∀ z ∈ rs,z.2≤(f z.1).length∧(f z.1 ≠ []→1≤z.2)) rfl ⟨[],c,_,_,rfl,rfl,fun z hz=>by cases hz⟩ ?_ ?_
 ·rintro pre n post E hs ⟨rs,c,s6,s7,rfl,h1,h2⟩
  have hln:aV (aJ (f n))=some (.int ((f n).length:Int)):=by
   show some (D.int (((f n).map D.str).length:Int))=_
   rw [List.length_map]
  have hpos:(0:Int) < ((f n).length:Int) + 1:=by omega
  have hrl:rs.length≤ns.length:=by
   have:=congrArg List.length h1
   rw [List.length_map] at this
   rw [this,hs]; simp
  have hm0:=Int.emod_nonneg (c / 4) (show ((f n).length:Int) + 1 ≠ 0 by omega)
  obtain ⟨v,hv,hv2⟩:=C8 c (1 + c / 4 % 3) (1 + c / 4 % (((f n).length:Int) + 1)) ((f n).length:Int) (by omega) (by omega)
  simp only [ab,aG,bh,aw,aq,aS,bin,un,cst,var,aa,ac,ai,bS,nmG,bq,cp,Ef,Ej,Em,En,Ek,El,on,Eh,reduceIte,Nat.reduceAdd,Int.reduceLT,Int.reduceLE,Int.reducePow,Nat.reduceLeDiff,di,be,jr,gK,dk,ff,cP,hln,bq hpos,hv,p6,List.length_map,jr (show rs.length < 16777216 by omega)]
  refine ⟨rs ++ [(n,(if v < ((f n).length:Int) then v else ((f n).length:Int)).toNat)],c / 1000000,Sl.val (aJ (f n)),Sl.val (.int ((f n).length:Int)),?_,by rw [List.map_append,h1]; rfl,fun z hz=>?_⟩
  ·have e:(((if v < ((f n).length:Int) then v else ((f n).length:Int)).toNat:Nat):Int)=if v < ((f n).length:Int) then v else ((f n).length:Int):=by
    split
    ·rcases hv2 with h | h <;> omega
    ·omega
   rw [List.map_append,List.map_singleton,e]
  ·rcases List.mem_append.mp hz with hz | hz
   ·exact h2 z hz
   ·rw [List.mem_singleton.mp hz]
    refine ⟨?_,fun hne=>?_⟩
    ·show (if v < ((f n).length:Int) then v else ((f n).length:Int)).toNat≤(f n).length
     split <;> omega
    ·have hp:0 < (f n).length:=List.length_pos_iff.mpr hne
     show 1≤(if v < ((f n).length:Int) then v else ((f n).length:Int)).toNat
     split
     ·rcases hv2 with h | h <;> omega
     ·omega
 ·rintro E ⟨rs,c,s6,s7,rfl,h1,h2⟩
  simp only [ab,aq,un,aa,Ef,Ek,El,on,Eh,reduceIte,jr,dk,a8,jr (show L.length < 16777216 by omega)]
  exact ⟨rs,_,_,_,_,rfl,h1,h2⟩
theorem vk (p:List Sp) (cs:List Int) (hb:∀ i ∈ cs,Builtin.Int.intBits i≤2 ^ 20) (hp:p.length≤1000) (h8:∀ s ∈ p,s.1.length≤1000) (hW:(aj p).length≤10000):wp (d_ [.lst ((List.range p.length).map (bU p)),.lst (cs.map D.int)]) fun d=>∃ q,ad q=p∧fg q∧d=e_ q:=by
 have hr:=m8 p.length (by omega)
 simp only [d_,p_,ab,az,aw,aq,bL,bD,un,aa,ac,ai,bS,cj,Ef,Ej,Eo,Er,Eu,Ex,Em,En,Ek,El,on,List.replicate,reduceIte,Nat.reduceAdd,Nat.reduceSub,Nat.reduceLeDiff,be,d8,List.length_map,List.length_range,hr]
 refine bM (fun i:Nat=>D.int (i:Int)) (List.range p.length) (fun pre E=>∃ (q:List CS) (s3 s4 s5 s6 s7:Sl),E=[Sl.val (.lst ((List.range p.length).map (bU p))),Sl.val (.lst (cs.map D.int)),Sl.own (.lst (q.map e9)),s3,s4,s5,s6,s7]∧ad q=p.take pre.length∧fg q) rfl ⟨[],_,_,_,_,_,rfl,rfl,fun pre s post e=>by cases pre <;> cases e⟩ ?_ ?_
 ·rintro pre k post E hs ⟨q,s3,s4,s5,s6,s7,rfl,hq1,hq2⟩
  obtain ⟨hk1,hk2⟩:=gd hs
  subst hk1
  have hql:q.length=pre.length:=by
   have:=congrArg List.length hq1
   rw [List.length_take] at this
   unfold ad at this
   rw [List.length_map] at this
   omega
  have hwin:ixE (.lst ((List.range p.length).map (bU p))) (.int (pre.length:Int))=some (.lst ((dH p pre.length).map fun n=>aJ (bz (p.take pre.length) n))):=by
   show atI ((List.range p.length).map (bU p)) (pre.length:Int)=_
   rw [bZ,List.getElem?_map,List.getElem?_range hk2]; rfl
  have hwl:∀ n,(bz (p.take pre.length) n).length≤10000:=fun n=>by
   have h1:=io n (p.take pre.length)
   have h2:(aj (p.take pre.length)).length≤(aj p).length:=dt (p:=p) (post:=p.drop pre.length) (by rw [List.take_append_drop])
   omega
  have hnl:(dH p pre.length).length≤1000:=by rw [jO hk2]; exact h8 _ (List.getElem_mem hk2)
  have fin:∀ c:Int,wp (z6 [Sl.val (.lst ((List.range p.length).map (bU p))),Sl.val (.lst (cs.map D.int)),Sl.own (.lst (q.map e9)),Sl.val (.int (pre.length:Int)),Sl.val (.int c),s5,s6,s7]) fun r=>match r with
    | .nx E'=>∃ (q:List CS) (s3 s4 s5 s6 s7:Sl),E'=[Sl.val (.lst ((List.range p.length).map (bU p))),Sl.val (.lst (cs.map D.int)),Sl.own (.lst (q.map e9)),s3,s4,s5,s6,s7]∧ad q=p.take (pre ++ [pre.length]).length∧fg q
    | .ct E'=>∃ (q:List CS) (s3 s4 s5 s6 s7:Sl),E'=[Sl.val (.lst ((List.range p.length).map (bU p))),Sl.val (.lst (cs.map D.int)),Sl.own (.lst (q.map e9)),s3,s4,s5,s6,s7]∧ad q=p.take (pre ++ [pre.length]).length∧fg q
    | _=>False:=fun c=>by
   refine dA (zZ hwin (by rw [List.length_map]; omega) hwl hnl) ?_
   rintro r ⟨rs,t4,t5,t6,t7,rfl,h1,h2⟩
   refine ⟨q ++ [(rs,(p[pre.length]).2)],Sl.val (.int (pre.length:Int)),t4,t5,t6,t7,?_,?_,hq2.snoc ?_⟩
   ·rw [List.map_append]; rfl
   ·rw [bF,hq1,List.length_append,List.length_singleton,eP hk2]
    congr 1
    show [(rs.map (·.1),(p[pre.length]).2)]=[p[pre.length]]
    rw [h1,jO hk2]
   ·intro z hz
    rw [hq1]
    exact h2 z hz
  simp only [ab,aG,aw,aq,aS,bv,bin,un,cst,aa,tst,asB,nmG,jS,Ej,Ek,El,on,Eh,d8]
  refine iJ (fun h=>?_) fun h=>?_
  ·rw [List.length_map] at h
   have hlt:pre.length < cs.length:=by omega
   have hcell:atI (cs.map D.int) (pre.length:Int)=some (.int cs[pre.length]):=by
    rw [bZ,List.getElem?_map,List.getElem?_eq_getElem hlt]; rfl
   simp only [bh,aq,aS,bin,aa,ao,ac,ai,Ef,Ej,Em,En,Ek,El,on,Eh,reduceIte,Nat.reduceAdd,gK,hcell,zS]
   refine dA (Sh.kF (hb _ (List.getElem_mem hlt))) ?_
   rintro _ ⟨e,rfl,he⟩
   exact fin e
  ·simp only [ab,aq,bp]
   exact fin 0
 ·rintro E ⟨q,s3,s4,s5,s6,s7,rfl,hq1,hq2⟩
  simp only [ab,aq,ax,ay,un,aa,Ef,Ej,on,Eh,a8]
  rw [List.length_range,List.take_length] at hq1
  exact ⟨q,hq1,hq2,rfl⟩
theorem rE (ns:List Str) (f:Str→Nat) (hl:ns.length≤1000):eW [.tup (ns.map fun n=>.int (f n:Int)),.int 1]=some (.tup (ns.map fun n=>.int ((min 1 (f n):Nat):Int))):=by
 have hc:bu (nmG 2) noT (ff cP (ac (var 1) (ac (var 2) ai))) [Sl.val (.tup (ns.map fun n=>.int (f n:Int))),Sl.val (.int 1),Sl.no] (ns.map fun n=>.int (f n:Int))=some (ns.map fun n=>.int ((min 1 (f n):Nat):Int)):=by
  refine a7 (fun n=>D.int (f n:Int)) _ ns fun n _=>?_
  refine aM ?_
  simp only [ab,var,ac,ai,Ef,Ej,Ek,El,on,Eh,D.int.injEq,ff,cP]
  exact sE (f n)
 refine aM ?_
 simp only [eW,b_at_most,ab,az,ax,ay,un,var,aP,aQ,aD,aX,Ef,Ej,Eo,Er,Eu,Ex,Em,En,Ek,El,on,List.replicate,Ey,List.foldl_nil,reduceIte,Nat.reduceAdd,Nat.reduceSub,be,a8,List.length_map,be (show ns.length≤16777216 by omega),hc]
theorem yk (p:List Sp) (hp:p.length≤1000) (h8:∀ s ∈ p,s.1.length≤1000) (hN:(aB p).length≤10000) (hW:(aj p).length≤10000):iK [cN p,.int 1]=some (e_ (fL p)):=by
 have hwc:=fJ p hp hN hW
 have hc:bu (nmG 2) noT (ao 2 eW (ac (var 2) (ac (var 1) ai))) [Sl.val (cN p),Sl.val (.int 1),Sl.no] ((List.range p.length).map (wcD p))=some ((List.range p.length).map fun k=>.tup ((dH p k).map fun n=>.int ((min 1 (bz (p.take k) n).length:Nat):Int))):=by
  refine a7 (wcD p) _ _ fun k hk=>?_
  have hk':=List.mem_range.mp hk
  have:=rE (dH p k) (fun n=>(bz (p.take k) n).length) (by rw [jO hk']; exact h8 _ (List.getElem_mem hk'))
  refine aM ?_
  simp only [ab,var,ao,ac,ai,Ef,Ej,Em,En,Ek,El,on,Eh,reduceIte,Nat.reduceAdd,wcD,this]
 refine aM ?_
 rw [mF]
 simp only [iK,b_alike,ab,az,ax,ay,un,var,ao,ac,ai,aP,aQ,aD,aX,Ef,Ej,Eo,Er,Eu,Ex,Em,En,Ek,El,on,List.replicate,Ey,List.foldl_nil,reduceIte,Nat.reduceAdd,Nat.reduceSub,be,a8,hwc,List.length_map,List.length_range,be (show p.length≤16777216 by omega),hc]
end Wk
theorem wa (xs:List D):AZ (.lst xs) (.int (-1))=some (.lst xs.reverse):=rfl
theorem cS.ones {names words:List Str}{q:List CS} (h:cS names words q):cS names words (fL (ad q)) :=
 ⟨by rw [ge]; exact h.good,ya _,h.nw,h.ww,h.n8,by
  have h2:(ad q).length=q.length:=List.length_map _
  unfold fL
  rw [List.length_map,List.length_range,h2]
  exact h.len⟩
theorem wR (q:List CS) (ks:List Str):sB (.dic (bkL ks (szD q)))=true:=by
 show (bkL ks (szD q)).all _=true
 rw [List.all_eq_true]
 intro p hp
 obtain ⟨n,hn,rfl⟩:=List.mem_map.mp hp
 show (((aH (RR q) n).map szE).map D.int).all bV=true
 rw [List.all_map,List.all_eq_true]
 intro _ _; rfl
theorem yz {kvs:List (Key×D)} {k k':Key}{v:D} (h:(cF kvs k').isSome=true):(cF (iD kvs k v) k').isSome=true:=by
 unfold cF at h ⊢
 rw [Option.isSome_map,List.find?_isSome] at h ⊢
 obtain ⟨x,hx,e⟩:=h
 unfold iD
 split
 ·refine ⟨if x.1=k then (x.1,v) else x,List.mem_map.mpr ⟨x,hx,rfl⟩,?_⟩
  split <;> exact e
 ·exact ⟨x,List.mem_append_left _ hx,e⟩
theorem uE {p:List Sp} (h:∀ s ∈ p,im s):neE (cN p) (.tup [])=some (.bl (!decide (p=[]))):=by
 show neO (.tup (p.map bB)) (.tup [])=_
 have:=pB (x:=.tup (p.map bB)) (y:=.tup (([]:List Sp).map bB)) (n:=3) (gp bB p fun s hs=>u6 (h s hs)) (gp bB [] fun s hs=>by cases hs) (by decide) rfl
 rw [kT bB xN] at this
 exact this
theorem at0 (x:D) (l:List D):ixE (.tup (x :: l)) (.int 0)=some x:=by
 show atI (x :: l) ((0:Nat):Int)=_
 rw [bZ]; rfl
namespace Wk
theorem B6:g__Lcell=Sh.g__Lcell:=rfl
theorem zQ:g__Ltexts=Sh.g__Ltexts:=rfl
theorem B4:g__Lplay=Sh.g__Lplay:=rfl
theorem zP:g__Ltruth=Sh.g__Ltruth:=rfl
structure Ec (q:List CS):Prop where
 books:c3 [cN (ad q),.lst ((List.range (ad q).length).map (bU (ad q))),e_ q]=some (.dic (bkL (ded (aB (ad q))) (bkD q)))
 cut:gU [cN (ad q),e_ q]=some (.dic (bkL (cC q) (bkD q)))
 right:bo [.dic (bkL (cC q) (bkD q)),.dic (bkL (ded (aB (ad q))) (bkD q))]=some (.bl true)
 isb:ce [.dic (bkL (cC q) (bkD q))]=some (.bl true)
 sz1:dO [.dic (bkL (cC q) (bkD q))]=some (.dic (bkL (cC q) (szD q)))
 sz2:dO [.dic (bkL (ded (aB (ad q))) (bkD q))]=some (.dic (bkL (ded (aB (ad q))) (szD q)))
 rsz1:bo [.dic (bkL (cC q) (szD q)),.dic (bkL (ded (aB (ad q))) (szD q))]=some (.bl true)
 rsz2:bo [.dic (bkL (ded (aB (ad q))) (szD q)),.dic (bkL (cC q) (szD q))]=some (.bl true)
theorem Cv {names words:List Str}{q:List CS} (h:cS names words q):Ec q:=by
 have hN:=h.namesN
 have hW:=h.wordsN
 have hd:=h.ded
 have h8:=h.s8
 have hlen:=h.len
 have hl:(ad q).length=q.length:=List.length_map _
 have hkl:(cC q).length≤8:=by unfold cC; rw [(bg _).length_eq]; exact hd
 have hlow:∀ n ∈ aB (ad q),lF n:=fun n hn=>(h.nw n (h.names hn)).lowS
 have hperm:(cC q).Perm (ded (aB (ad q))):=bg _
 refine ⟨?_,B_ q h.cnt (fun s hs=>by have:=(h8 s hs).1; omega) (by omega) (by omega) (by omega) (by omega),?_,lu h,oI q _ (gk q) (by omega) (by omega),oI q _ (gI _) (by omega) (by omega),?_,?_⟩
 ·rw [hl]
  exact ye q h.cnt (fun s hs=>by have:=(h8 s hs).1; omega) (by omega) (by omega) (by omega)
 ·exact g8 _ _ _ hperm (by omega) (fun n hn=>hlow n (jc.mp hn)) fun n _=>ua q (by omega) (by omega) (fun s hs=>by have:=h8 s hs; omega) n
 ·exact g8 _ _ _ hperm (by omega) (fun n hn=>hlow n (jc.mp hn)) fun n _=>lT q (by omega) n
 ·exact g8 _ _ _ hperm.symm (by omega) (fun n hn=>hlow n (jR.mp hn)) fun n _=>lT q (by omega) n
theorem zp (q:List CS) (n:Str) (E:DE) (i:Nat) (h:i < E.length):bu (nmG i) noT (un aV (bin ixE (aa i) (cst (.int 0)))) E (aH (RR q) n)=some (((aH (RR q) n).map szE).map D.int):=by
 have:=a7 (fun d:D=>d) (fun e=>D.int (szE e)) (i:=i) (ef:=un aV (bin ixE (aa i) (cst (.int 0)))) (E:=E) (aH (RR q) n) fun e he=>by
  obtain ⟨p1,s,p2,z,e1,e2,e3,rfl⟩:=gu he
  unfold un bin aa cst
  rw [List.getElem?_set_self h]; rfl
 rw [List.map_id'] at this
 rw [this,List.map_map]; rfl
theorem AS (q:List CS) (ks:List Str) (E:DE) (hE:E.length=15) (h7:E[7]? = some (.val (.dic (bkL ks (bkD q))))) (hN:(aB (ad q)).length≤4000) :
  bu (nmG 11) noT (c8 (ac (var 11) (ac (un aT (aD [12] (aP bH (bin ixE (aa 7) (aa 11))) (nmG 12) noT (un aV (bin ixE (aa 12) (cst (.int 0)))))) ai))) E (ks.map D.str)=some (ks.map fun n=>D.tup [.str n,szD q n]):=by
 refine a7 D.str _ ks fun n hn=>?_
 have hbl:=cX (RR q) n
 rw [il] at hbl
 have g7:(E.set 11 (.val (.str n)))[7]? = some (.val (.dic (bkL ks (bkD q)))):=by rw [List.getElem?_set_ne (by decide)]; exact h7
 have g11:(E.set 11 (.val (.str n)))[11]? = some (.val (.str n)):=by rw [List.getElem?_set_self (by omega)]
 have hix:ixE (.dic (bkL ks (bkD q))) (.str n)=some (.tup (aH (RR q) n)):=nF hn
 have hik:bH (.tup (aH (RR q) n))=some (aH (RR q) n):=rfl
 have hle:=zp q n (aQ [12] (E.set 11 (.val (.str n)))) 12 (by unfold aQ; simp; omega)
 have hcf:aD [12] (aP bH (bin ixE (aa 7) (aa 11))) (nmG 12) noT (un aV (bin ixE (aa 12) (cst (.int 0)))) (E.set 11 (.val (.str n)))=some (.lst (((aH (RR q) n).map szE).map D.int)):=by
  unfold aD aP bin aa
  rw [g7,g11]
  simp only [Ef,hix,hik]
  rw [if_pos (fU (by omega))]
  exact congrArg (Option.map D.lst) hle
 have hv:var 11 (E.set 11 (.val (.str n)))=some (.str n):=by unfold var; rw [g11]
 have hun:un aT (aD [12] (aP bH (bin ixE (aa 7) (aa 11))) (nmG 12) noT (un aV (bin ixE (aa 12) (cst (.int 0))))) (E.set 11 (.val (.str n)))=some (szD q n):=by
  show (aD [12] (aP bH (bin ixE (aa 7) (aa 11))) (nmG 12) noT (un aV (bin ixE (aa 12) (cst (.int 0)))) (E.set 11 (.val (.str n)))).bind aT=_
  rw [hcf]; rfl
 unfold c8 ac ai
 rw [hv,hun]
 rfl
theorem zm (p:List Sp) (E:DE) (hE:E.length=15) (h8:∀ s ∈ p,s.1.length≤1000) :
  bu (nmG 13) noT (un aT (aD [14] (aP bH (var 13)) (nmG 14) noT (ff cP (ac (cst (.int 1)) (ac (un aV (aa 14)) ai))))) E ((List.range p.length).map (bU p))=some ((List.range p.length).map fun k=>.tup ((dH p k).map fun n=>.int ((min 1 (bz (p.take k) n).length:Nat):Int))):=by
 refine a7 (bU p) _ _ fun k hk=>?_
 have hk':=List.mem_range.mp hk
 have hnl:(dH p k).length≤1000:=by rw [jO hk']; exact h8 _ (List.getElem_mem hk')
 have g13:(E.set 13 (.val (bU p k)))[13]? = some (.val (bU p k)):=by rw [List.getElem?_set_self (by omega)]
 have hv:var 13 (E.set 13 (.val (bU p k)))=some (bU p k):=by unfold var; rw [g13]
 have hik:bH (bU p k)=some ((dH p k).map fun n=>aJ (bz (p.take k) n)):=rfl
 have hc:bu (nmG 14) noT (ff cP (ac (cst (.int 1)) (ac (un aV (aa 14)) ai))) (aQ [14] (E.set 13 (.val (bU p k)))) ((dH p k).map fun n=>aJ (bz (p.take k) n))=some ((dH p k).map fun n=>.int ((min 1 (bz (p.take k) n).length:Nat):Int)):=by
  refine a7 (fun n=>aJ (bz (p.take k) n)) _ _ fun n _=>?_
  have g14:((aQ [14] (E.set 13 (.val (bU p k)))).set 14 (.val (aJ (bz (p.take k) n))))[14]? = some (.val (aJ (bz (p.take k) n))):=by
   rw [List.getElem?_set_self (by unfold aQ; simp; omega)]
  have hln:aV (aJ (bz (p.take k) n))=some (.int ((bz (p.take k) n).length:Int)):=by
   show some (D.int (((bz (p.take k) n).map D.str).length:Int))=_
   rw [List.length_map]
  unfold ff ac un aa cst ai
  rw [g14]
  simp only [Ef,hln,Ej,cP]
  rw [sE]
 have hcf:aD [14] (aP bH (var 13)) (nmG 14) noT (ff cP (ac (cst (.int 1)) (ac (un aV (aa 14)) ai))) (E.set 13 (.val (bU p k)))=some (.lst ((dH p k).map fun n=>.int ((min 1 (bz (p.take k) n).length:Nat):Int))):=by
  unfold aD aP
  rw [hv]
  simp only [Ef,hik]
  rw [if_pos (fU (by rw [List.length_map]; omega)),hc]; rfl
 show (aD [14] (aP bH (var 13)) (nmG 14) noT (ff cP (ac (cst (.int 1)) (ac (un aV (aa 14)) ai))) (E.set 13 (.val (bU p k)))).bind aT=_
 rw [hcf]; rfl
theorem zu {ns:List Int}{c c1:Int}{Nm Wd P C C1:D}{ks Ld Wl Lo:List D}{B K Z Y K1 B1:List (Key×D)} {b:Bool}
  (k0:Sh.g__Lcell [.scr ns,.int 0]=some (.int c)) (k1:Sh.g__Lcell [.scr ns,.int 1]=some (.int c1))
  (hnm:Sh.g__Ltexts [.int c1,.int (2 + c % 7),.int 8]=some Nm) (hwd:Sh.g__Ltexts [.int (c / 100),.int (1 + c / 4 % 4),.int 12]=some Wd)
  (hpl:Sh.g__Lplay [.lst ((cA ns (some 3) (some 63)).map D.int),Nm,Wd]=some P) (hwi:dJ [P]=some (.lst Wl))
  (hct:d_ [.lst Wl,.lst ((cA ns (some 3) (some 63)).map D.int).reverse]=some C)
  (hbk:c3 [P,.lst Wl,C]=some (.dic B)) (hcu:gU [P,C]=some (.dic K)) (hri:bo [.dic K,.dic B]=some (.bl true)) (his:ce [.dic K]=some (.bl true))
  (hsz:dO [.dic K]=some (.dic Z)) (hnd:sB (.dic Z)=true)
  (hik:bH (.dic B)=some ks) (hkl:ks.length≤16777216)
  (hco:∀ E:DE,E.length=15→E[7]? = some (.val (.dic B))→bu (nmG 11) noT (c8 (ac (var 11) (ac (un aT (aD [12] (aP bH (bin ixE (aa 7) (aa 11))) (nmG 12) noT (un aV (bin ixE (aa 12) (cst (.int 0)))))) ai))) E ks=some Ld)
  (hdi:p9 (.lst Ld)=some (.dic Y)) (hr1:bo [.dic Z,.dic Y]=some (.bl true)) (hKl:K.length < 16777216) (hne:neE P (.tup [])=some (.bl b))
  (hpop:b=true→∃ d0 d1 n,ixE P (.int 0)=some d0∧ixE d0 (.int 0)=some d1∧ixE d1 (.int 0)=some (.str n)∧(cF K (.inr n)).isSome=true)
  (hs2:dO [.dic B]=some (.dic Y)) (hr2:bo [.dic Y,.dic Z]=some (.bl true))
  (hWl:Wl.length≤16777216)
  (hon:∀ E:DE,E.length=15→bu (nmG 13) noT (un aT (aD [14] (aP bH (var 13)) (nmG 14) noT (ff cP (ac (cst (.int 1)) (ac (un aV (aa 14)) ai))))) E Wl=some Lo)
  (hLo:D.tup Lo=C1) (hal:iK [P,.int 1]=some C1) (hb1:c3 [P,.lst Wl,C1]=some (.dic B1)) (hc1:gU [P,C1]=some (.dic K1)) (hr3:bo [.dic K1,.dic B1]=some (.bl true)):pT [.scr ns]=some (.bl true):=by
 have t1:Sh.g__Ltruth [.bl true,.bl true]=some (.bl true):=by rw [Sh.vP]; rfl
 have hKc:=hco [Sl.val (.scr ns),Sl.val (.int c),Sl.val Nm,Sl.val Wd,Sl.val P,Sl.val (.lst Wl),Sl.val C,Sl.val (.dic B),Sl.own (.dic K),Sl.own (.dic Z),Sl.no,Sl.no,Sl.no,Sl.no,Sl.no] rfl rfl
 refine aM ?_
 simp only [pT,yh,B6,zQ,B4,zP]
 generalize hKK:av (ifS (orT (cw (tst (ao 2 bo (ac (ao 2 gU _) _)))) _) _ _) _=KK
 have bO:∀ kvs,wp (KK [Sl.val (.scr ns),Sl.val (.int c),Sl.val Nm,Sl.val Wd,Sl.val P,Sl.val (.lst Wl),Sl.val C,Sl.val (.dic B),Sl.own (.dic kvs),Sl.own (.dic []),Sl.no,Sl.no,Sl.no,Sl.no,Sl.no]) (yM fun b=>b=D.bl true):=by
  intro kvs
  have ho:=hon [Sl.val (.scr ns),Sl.val (.int c),Sl.val Nm,Sl.val Wd,Sl.val P,Sl.val (.lst Wl),Sl.val C,Sl.val (.dic B),Sl.own (.dic kvs),Sl.own (.dic []),Sl.no,Sl.no,Sl.no,Sl.no,Sl.no] rfl
  have hiw:bH (.lst Wl)=some Wl:=rfl
  rw [← hKK]
  simp only [ab,aw,aq,ax,aS,bv,bx,ay,bp,un,cst,var,tst,asB,cw,orT,ao,ac,ai,aP,aQ,aD,Ef,Ej,Em,En,Ek,El,on,Eh,Ey,List.foldl_nil,reduceIte,Nat.reduceAdd,Bool.not_true,Bool.false_eq_true,be,a8,hcu,hri,hsz,hs2,hr2,hiw,be hWl,ho,hLo,hal,hb1,hc1,hr3]
 simp only [ab,az,aw,aq,aS,bL,bv,bx,bp,bin,un,cst,var,aa,tst,asB,cw,orT,ao,ac,ai,c8,aP,bQ,bJ,aQ,aD,bq,cp,Ef,Ej,Eo,Er,Eu,Ex,Em,En,Ek,El,on,Eh,List.replicate,Ey,List.foldl_nil,reduceIte,Nat.reduceAdd,Nat.reduceSub,Int.reduceLT,Int.reduceLE,Int.reducePow,Int.reduceNeg,Nat.reduceLeDiff,Bool.not_true,Bool.false_eq_true,di,m3,be,jr,bT,fj,k0,k1,hnm,hwd,hpl,hwi,wa,hct,hbk,hcu,iG,hri,his,bV,t1,hsz,hnd,hik,be hkl,hKc,hdi,hr1,z7,jr hKl,hne]
 refine rg (fun h=>?_) fun h=>?_
 ·obtain ⟨d0,d1,n,i0,i1,i2,hv⟩:=hpop h
  simp only [ab,aq,bin,cst,aa,Ef,Ek,El,on,Eh,reduceIte,bT,y0,i0,i1,i2,yz hv]
  exact bO _
 ·simp only [ab,aq,bp]
  exact bO _
theorem xf (ns:List Int) (hn:ns.length≤63) (hb:∀ i ∈ ns,Builtin.Int.intBits i≤2 ^ 20):pT [.scr ns]=some (.bl true):=by
 obtain ⟨_,k0,c,rfl,hc⟩:=eG.mp (Sh.tm hb 0)
 obtain ⟨_,k1,c1,rfl,hc1⟩:=eG.mp (Sh.tm hb 1)
 have k0':Sh.g__Lcell [.scr ns,.int 0]=some (.int c):=k0
 have k1':Sh.g__Lcell [.scr ns,.int 1]=some (.int c1):=k1
 have a0:0≤c % 7:=Int.emod_nonneg _ (by decide)
 have a1:c % 7 < 7:=Int.emod_lt_of_pos _ (by decide)
 have b0:0≤c / 4 % 4:=Int.emod_nonneg _ (by decide)
 have b1:c / 4 % 4 < 4:=Int.emod_lt_of_pos _ (by decide)
 obtain ⟨_,hnm,names,rfl,nl,nd,nw⟩:=eG.mp (Sh.oA c1 (2 + c % 7) 8 (2 + (c % 7).toNat) 8 (by omega) rfl (by omega) (by omega) (by omega))
 obtain ⟨_,hwd,words,rfl,wl,wd,ww⟩:=eG.mp (Sh.oA (c / 100) (1 + c / 4 % 4) 12 (1 + (c / 4 % 4).toNat) 12 (by omega) rfl (by omega) (by omega) (by omega))
 have n8:names.length≤8:=by omega
 obtain ⟨cs,hcs⟩:∃ cs,cs=cA ns (some 3) (some 63):=⟨_,rfl⟩
 have hcl:cs.length≤60:=by
  have e:cA ns (some 3) (some 63)=(ns.take 63).drop 3:=nT ns 3 63
  rw [hcs,e,List.length_drop,List.length_take]; omega
 have hcm:∀ i ∈ cs,Builtin.Int.intBits i≤2 ^ 20:=fun i hi=>hb i (by rw [hcs] at hi; exact zY hi)
 obtain ⟨_,hpl,p,rfl,plen,pgood⟩:=eG.mp (Sh.y7 cs names words hcm (by omega) nd (by omega) n8 (fun x hx=>(nw x hx).lowS) (by omega))
 have p8:∀ s ∈ p,s.1.length≤8:=fun s hs=>Nat.le_trans (pgood.each s hs).le n8
 have pN:=pC p8
 have pW:=oh fun s hs=>(pgood.each s hs).wle
 have hwi:=qr p (by omega) (by omega) (by omega)
 obtain ⟨_,hct,q,hq1,hq2,rfl⟩:=eG.mp (vk p cs.reverse (fun i hi=>hcm i (List.mem_reverse.mp hi)) (by omega) (fun s hs=>by have:=p8 s hs; omega) (by omega))
 rw [List.map_reverse] at hct
 have hql:q.length≤60:=by
  have h2:(ad q).length=q.length:=List.length_map _
  rw [← h2,hq1]; omega
 have hF:cS names words q:=⟨by rw [hq1]; exact pgood,hq2,nw,ww,n8,hql⟩
 have T:=Cv hF
 have T1:=Cv hF.ones
 have hal:=yk p (by omega) (fun s hs=>by have:=p8 s hs; omega) (by omega) (by omega)
 rw [← hq1] at hpl hwi hct hal
 have eo:ad (fL (ad q))=ad q:=ge _
 have Tb:=T1.books
 have Tc:=T1.cut
 have Tr:=T1.right
 rw [eo] at Tb Tc Tr
 have hfine:∀ s ∈ ad q,im s:=fun s hs=>by
  obtain ⟨t,ht,rfl⟩:=List.mem_map.mp hs
  exact hF.fine ht
 have hN:=hF.namesN
 have hd:=hF.ded
 have hkl:(cC q).length≤8:=by unfold cC; rw [(bg _).length_eq]; exact hd
 have hpl8:∀ s ∈ ad q,s.1.length≤1000:=fun s hs=>Nat.le_trans (hfine s hs).le (by decide)
 have hpq:(ad q).length≤60:=by
  have h2:(ad q).length=q.length:=List.length_map _
  omega
 rw [hcs] at hpl hct
 refine zu k0' k1' hnm hwd hpl hwi hct T.books T.cut T.right T.isb T.sz1 (wR q _) (nW _ _) (by rw [List.length_map]; omega) (fun E hE h7=>AS q _ E hE h7 (by omega)) (xY _ (gI _)) T.rsz1 (by unfold bkL; rw [List.length_map]; omega) (uE hfine) (fun h=>?_) T.sz2 T.rsz2 (by rw [List.length_map,List.length_range]; omega) (fun E hE=>zm (ad q) E hE hpl8) (mF _).symm hal Tb Tc Tr
 have hne:ad q ≠ []:=by simpa using h
 cases hpp:ad q with
 | nil=>exact absurd hpp hne
 | cons s r =>
  have hs:=hfine s (by rw [hpp]; simp)
  cases hs1:s.1 with
  | nil=>exact absurd hs1 hs.ne
  | cons n m =>
   refine ⟨bB s,aJ s.1,n,at0 (bB s) (r.map bB),at0 (aJ s.1) [aJ s.2],?_,?_⟩
   ·rw [hs1]
    exact at0 (.str n) (m.map D.str)
   have hm:n ∈ cC q:=jc.mpr (by rw [hpp]; unfold aB; rw [List.flatMap_cons,hs1]; simp)
   rw [jN hm]; rfl
end Wk
end L2.Cu
namespace L2.Cu.Wk
open PySem PySem.W PyProof.Rows
set_option maxRecDepth 100000
set_option maxHeartbeats 0
theorem DV:rK PySem.Challenge.pw_cuebook_k12_books_cut (view PySem.Challenge.pw_cuebook_k12_books_cut [44]) (hJ PySem.Challenge.pw_cuebook_k12_books_cut) (fun s=>xlAt (view PySem.Challenge.pw_cuebook_k12_books_cut [44]) [] s && recOk [] s) (fun s=>iM PySem.Challenge.pw_cuebook_k12_books_cut ds zs cs (fun _=>()) (KH s.heap)) (p0 PySem.Challenge.pw_cuebook_k12_books_cut ds zs cs ()) 20000:=fun w os=>by kernel_rfl
theorem CN:PySem.W.Fast.tw9446332074065402090 PySem.Challenge.rw_cuebook_k12_books_cut=true:=by kernel_rfl
theorem Dk (hw:PySem.Challenge.rw_cuebook_k12_books_cut.row.toRowW.promised):PySem.Challenge.rw_cuebook_k12_books_cut.Holds :=
  Dc (l:=PySem.Challenge.rw_cuebook_k12_books_cut) (n:=63) (k:=10) (x := "_law_script") (g:=pT) DV CN (by kernel_rfl) rfl (fun s=>by kernel_rfl) rfl rfl rfl (by decide +kernel) ⟨rfl,rfl,rfl,rfl,rfl,by decide +kernel⟩ hw rfl (by decide) rfl ⟨rfl,by decide,by decide⟩ rfl (by decide) (fun T base kb nb=>By T) (fun _ _ _ _ _ _ _=>rfl) xf
end L2.Cu.Wk
open PySem PySem.W PyProof.Rows
set_option maxRecDepth 100000 in
set_option maxHeartbeats 0 in
theorem PySem.Challenge.cw_cuebook_k12_books_cut_holds : PySem.Challenge.rw_cuebook_k12_books_cut.Holds := by
  refine L2.Cu.Wk.Dk ?hw
  case hw=>w_witness2
