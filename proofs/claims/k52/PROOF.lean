import PyProof.Rows.All
import Wide.All
import OpenK.AllK
import Wide.FinOn
import Lean
import PyProof.EqAt
import PyProof.EqKinds
import PyProof.TupleCall
import PyProof.FString
import OpenK.KOwn
import KE.KTryMore
import PyProof.NsDelKeeps
import PyProof.StrBlock2
import PyProof.AutoListH
import KE.KIntText
import PyProof.Rows.StrIntSpec
import KE.KRevIter
import PyProof.StrWalks
import PyProof.CompUse
import PyProof.NeKinds
import PyProof.Rows.Range3
import PyProof.Rows.EnumRows
import PyProof.ConsumeWalk
import PyProof.Rows.SeqGen
import PyProof.StrLawsRepr
import PyProof.ZipIter
import PyProof.Rows.FactsT2
import PyProof.EnumMake
import PyProof.DictWalks
import PyProof.DictTruth
import PyProof.ListRange
import PyProof.ListStr
import PyProof.TupleOfGen
import PyProof.TupleOfSeq
import PyProof.MinMaxWalk
import PyProof.WalkInts
import KE.KSortAsk
import PyProof.MeetsSeq3
import KE.KRevSl
import PyProof.Rows.SeqMore
import PyProof.ListMulRoad
import PyProof.Rows.SumAny
import PyProof.SeqI3
import PySem.Challenge.RW_cosetyard_k52_rings_and_times
-- CHANGE: your row's module here, as the last of these rows
set_option Elab.async false
set_option linter.all false
set_option maxRecDepth 100000
namespace L2
open PySem PySem.Spec PyProof.Rows
abbrev Key := Sum Int Str
def keyIs : Key → Value → Bool
  | .inl k, v => Value.isInt k v
  | .inr x, v => Value.isStrOf x v
def keyH (w : World) : Key → Int
  | .inl k => hashInt k
  | .inr x => hashStr w x
theorem keyIs_shape : ∀ {k : Key} {v : Value}, keyIs k v = true → (∃ i t, k = Sum.inl i ∧ v = Value.int i t) ∨ (∃ x t, k = Sum.inr x ∧ v = Value.str x t)
  | .inl i, v, h => by
    obtain ⟨t, e⟩ := Value.isInt_shape (k := i) (v := v) h
    exact .inl ⟨i, t, rfl, e⟩
  | .inr x, v, h => by
    obtain ⟨t, e⟩ := Value.isStrOf_shape (x := x) (v := v) h
    exact .inr ⟨x, t, rfl, e⟩
theorem key_ll (a b : Int) : decide ((Sum.inl a : Key) = Sum.inl b) = (a == b) := by
  by_cases e : a = b
  · subst e; simp
  · have h : ¬ (Sum.inl a : Key) = Sum.inl b := fun q => e (Sum.inl.inj q)
    rw [decide_eq_false h]
    exact (beq_eq_false_iff_ne.mpr e).symm
theorem key_rr (a b : Str) : decide ((Sum.inr a : Key) = Sum.inr b) = decide (a = b) := by
  by_cases e : a = b
  · subst e; simp
  · have h : ¬ (Sum.inr a : Key) = Sum.inr b := fun q => e (Sum.inr.inj q)
    rw [decide_eq_false h, decide_eq_false e]
theorem key_lr (a : Int) (b : Str) : decide ((Sum.inl a : Key) = Sum.inr b) = false := decide_eq_false (fun q => nomatch q)
theorem key_rl (a : Str) (b : Int) : decide ((Sum.inr a : Key) = Sum.inl b) = false := decide_eq_false (fun q => nomatch q)
def mixKind (prog : Program) (w : World) : PySem.KeyKind prog w Key where
  is := keyIs
  hash := keyH w
  inj := fun v a b ha hb => by
    rcases keyIs_shape ha with ⟨i, t, rfl, rfl⟩ | ⟨x, t, rfl, rfl⟩
    · rcases keyIs_shape hb with ⟨j, u, rfl, e⟩ | ⟨y, u, rfl, e⟩
      · injection e with e1 _; rw [e1]
      · exact nomatch e
    · rcases keyIs_shape hb with ⟨j, u, rfl, e⟩ | ⟨y, u, rfl, e⟩
      · exact nomatch e
      · injection e with e1 _; rw [e1]
  byValue := fun k v h => by
    rcases keyIs_shape h with ⟨i, t, rfl, rfl⟩ | ⟨x, t, rfl, rfl⟩ <;> rfl
  pyHash := fun hv h => by
    rcases keyIs_shape hv with ⟨i, t, rfl, rfl⟩ | ⟨x, t, rfl, rfl⟩
    · exact wpAny_pyHash_int h
    · exact wpAny_pyHash_str h
  eqBool := fun hu hv h => by
    rcases keyIs_shape hu with ⟨i, t, rfl, rfl⟩ | ⟨x, t, rfl, rfl⟩
    · rcases keyIs_shape hv with ⟨j, u, rfl, rfl⟩ | ⟨y, u, rfl, rfl⟩
      · rw [key_ll] at h; exact wpAny_eqBool_int h
      · rw [key_lr] at h; exact SeqAt.EqAt.int_str i t y u _ _ _ _ h
    · rcases keyIs_shape hv with ⟨j, u, rfl, rfl⟩ | ⟨y, u, rfl, rfl⟩
      · rw [key_rl] at h; exact SeqAt.EqAt.str_int x t j u _ _ _ _ h
      · rw [key_rr] at h; exact wpAny_eqBool_str h
  «strs» := fun k x t v h => by
    rcases keyIs_shape h with ⟨i, u, rfl, e⟩ | ⟨y, u, rfl, e⟩
    · exact nomatch e
    · injection e with e1 _
      subst e1
      cases v <;> rfl
end L2
namespace L2
open PySem PySem.Spec PyProof.Rows
inductive V where
  | non | bl (b : Bool) | int (i : Int) | str (x : Str) | byt (b : Array UInt8) | flt (b : UInt64) | ref (a : Addr) | ty (n : String)
  deriving DecidableEq
def RelV : V → Value → Prop
  | .non, u => u = Value.none
  | .bl b, u => u = Value.bool b
  | .int i, u => ∃ t, u = Value.int i t
  | .str x, u => ∃ t, u = Value.str x t
  | .byt b, u => ∃ t, u = Value.bytes b t
  | .flt b, u => ∃ t, u = Value.float b t
  | .ref a, u => u = Value.ref a
  | .ty n, u => u = Value.type n
abbrev Vals : List V → List Value → Prop := Paired RelV
theorem Vals.length {xs : List V} {us : List Value} (r : Vals xs us) : xs.length = us.length := Paired.length r
theorem Vals.get : ∀ {xs : List V} {us : List Value} {i : Nat} {x : V}, Vals xs us → xs[i]? = some x → ∃ u, us[i]? = some u ∧ RelV x u
  | _, _, _, _, .nil, e => by simp at e
  | _, _, 0, _, .cons r _, e => by simp at e; subst e; exact ⟨_, rfl, r⟩
  | _, _, i + 1, x, .cons _ t, e => by
    obtain ⟨u, h1, h2⟩ := Vals.get (i := i) (x := x) t (by simpa using e)
    exact ⟨u, by simpa using h1, h2⟩
theorem Vals.set {x : V} {u : Value} (r : RelV x u) : ∀ {xs : List V} {us : List Value} (i : Nat), Vals xs us → Vals (xs.set i x) (us.set i u)
  | _, _, _, .nil => .nil
  | _, _, 0, .cons _ t => .cons r t
  | _, _, i + 1, .cons q t => .cons q (Vals.set r i t)
theorem Vals.append : ∀ {xs ys : List V} {us ws : List Value}, Vals xs us → Vals ys ws → Vals (xs ++ ys) (us ++ ws)
  | _, _, _, _, .nil, s => s
  | _, _, _, _, .cons r t, s => .cons r (Vals.append t s)
theorem Vals.take : ∀ {xs : List V} {us : List Value} (n : Nat), Vals xs us → Vals (xs.take n) (us.take n)
  | _, _, 0, _ => .nil
  | _, _, _ + 1, .nil => .nil
  | _, _, n + 1, .cons r t => .cons r (Vals.take n t)
theorem Vals.drop : ∀ {xs : List V} {us : List Value} (n : Nat), Vals xs us → Vals (xs.drop n) (us.drop n)
  | _, _, 0, r => r
  | _, _, _ + 1, .nil => .nil
  | _, _, n + 1, .cons _ t => Vals.drop n t
def RelO : Option V → Option Value → Prop
  | some v, some u => RelV v u
  | none, none => True
  | _, _ => False
def KV {κ : Type} : List (κ × V) → List (κ × Value) → Prop := Paired fun (p : κ × V) (q : κ × Value) => p.1 = q.1 ∧ RelV p.2 q.2
def kV : Key → V
  | .inl i => .int i
  | .inr x => .str x
inductive HO where
  /-- a list -/
  | lst (xs : List V)
  /-- a tuple (never changes) -/
  | tup (xs : List V)
  /-- a dict whose keys are ints and texts; one whose keys are tuples of ints and texts (the empty one is both) -/
  | dK (kvs : List (Key × V)) | dT (kvs : List (List Key × V))
  /-- a set of ints: its members, its size -/
  | set (S : Int → Bool) (n : Nat)
  /-- an instance of the class at C, its dict at dx, its attributes -/
  | ins (C dx : Addr) (fs : List (Str × V))
  /-- the dict of the instance at x -/
  | own (x : Addr)
  /-- the dict of an exception -/
  | xd (fs : List (Str × V))
  /-- a bound method, f of x -/
  | met (f x : Addr)
  /-- a range object lo, lo + 1, .. below hi -/
  | rng (lo hi : Int)
  /-- a thing that is known to the object (the script; a dict while a loop walks it): read, never written while it is so -/
  | frz (o : Obj) (u : HO)
  /-- a code object's table -/
  | tbl (ps : Array Value)
  /-- any other thing, by what is true of its one object (a def of one's own: SetO a S n := HO.ext fun h => ..) -/
  | ext (φ : Heap → Prop)
abbrev Hp := Addr → Option HO
def upd (H : Hp) (a : Addr) (o : HO) : Hp := fun b => if b = a then some o else H b
theorem upd_same {H : Hp} {a : Addr} {o : HO} : upd H a o a = some o := by unfold upd; rw [if_pos rfl]
theorem upd_ne {H : Hp} {a b : Addr} {o : HO} (h : b ≠ a) : upd H a o b = H b := by unfold upd; rw [if_neg h]
theorem ne_of_none {H : Hp} {a b : Addr} {o : HO} (h : H a = some o) (h' : H b = none) : a ≠ b := by
  intro e; subst e; rw [h] at h'; cases h'
section
variable (P : Program) (w : World)
def ObjOk (H : Hp) (h : Heap) (a : Addr) : HO → Prop
  | .lst xs => xs.length ≤ sizeLine ∧ ∃ (its : List Value) (n : Nat), Vals xs its ∧ h.get? a = some { cls := .type "list", data := .seq its.toArray n }
  | .tup xs => xs.length ≤ sizeLine ∧ ∃ its : List Value, Vals xs its ∧ IsTup h a its.toArray
  | .dK kvs => kvs.length ≤ sizeLine ∧ (a == sysModules) = false ∧ ∃ vs, KV kvs vs ∧ h.DictOf (mixKind P w) a vs
  | .dT kvs => kvs.length ≤ sizeLine ∧ (a == sysModules) = false ∧ ∃ xs : List (List Key × Addr × Value),
      Paired (fun (p : List Key × V) (q : List Key × Addr × Value) => p.1 = q.1 ∧ H q.2.1 = some (.tup (p.1.map kV)) ∧ RelV p.2 q.2.2) kvs xs ∧
      ∃ o es ep, h.get? a = some o ∧ o.ExactDict ∧ o.data = .dict es ep ∧ es.toList = xs.map (entryOfKey (tupleKind (mixKind P w))) ∧ (xs.map (·.1)).Nodup
  | .set S n => h.SetOf (intKind P w) a S n
  | .ins C dx fs => H dx = some (.own a) ∧ fs.length ≤ 1000 ∧ dx ≠ a ∧ h.get? a = some (PySem.W.instObj C dx) ∧
      ∃ mA, h.Ns1 dx mA ∧ (∀ f, RelO (fs.lookup f) (mA f)) ∧ PySem.Within mA (fs.map (·.1))
  | .own _ => ∃ o, h.get? a = some o
  | .xd fs => ∃ mA, h.Ns1 a mA ∧ ∀ f, RelO (fs.lookup f) (mA f)
  | .rng lo hi => ∃ t u v, h.get? a = some { cls := .type "range", data := .fields #[.int lo t, .int hi u, .int 1 v] }
  | .frz o u => h.get? a = some o ∧ ObjOk H h a u
  | .tbl ps => h.get? a = some { cls := .none, data := .fields ps }
  | .met f x => h.get? a = some (PySem.W.methodObj (.ref f) (.ref x))
  | .ext φ => φ h ∧ (∃ o, h.get? a = some o) ∧ ∀ h1 h2 : Heap, φ h1 → (∀ o, h1.get? a = some o → h2.get? a = some o) → φ h2
def HOk (H : Hp) (h : Heap) : Prop := ∀ a o, H a = some o → ObjOk P w H h a o
end
section
variable {P : Program} {w : World} {H H' : Hp} {h h' : Heap} {a : Addr} {o : HO}
theorem ObjOk.lt (x : ObjOk P w H h a o) : a < h.objs.size := by
  cases o with
  | lst xs => obtain ⟨_, _, _, _, e⟩ := x; exact Heap.lt_size e
  | tup xs => obtain ⟨_, _, _, p⟩ := x; exact p.lt
  | dK kvs => obtain ⟨_, _, _, _, o, _, _, e, _⟩ := x; exact Heap.lt_size e
  | dT kvs => obtain ⟨_, _, _, _, o, _, _, e, _⟩ := x; exact Heap.lt_size e
  | set S n => obtain ⟨o, _, _, _, e, _⟩ := x; exact Heap.lt_size e
  | ins C dx fs => obtain ⟨_, _, _, e, _⟩ := x; exact Heap.lt_size e
  | own y => obtain ⟨_, e⟩ := x; exact Heap.lt_size e
  | xd fs => obtain ⟨_, ⟨_, _, _, e, _⟩, _⟩ := x; exact Heap.lt_size e
  | rng lo hi => obtain ⟨_, _, _, e⟩ := x; exact Heap.lt_size e
  | frz ob u => obtain ⟨e, _⟩ := x; exact Heap.lt_size e
  | tbl ps => exact Heap.lt_size (show h.get? a = some _ from x)
  | met f y => exact Heap.lt_size (show h.get? a = some _ from x)
  | ext φ => obtain ⟨_, ⟨_, e⟩, _⟩ := x; exact Heap.lt_size e
theorem Paired.mapP {α β : Type} {F G : α → β → Prop} : ∀ {l₁ : List α} {l₂ : List β}, Paired F l₁ l₂ → (∀ a b, F a b → G a b) → Paired G l₁ l₂
  | _, _, .nil, _ => .nil
  | _, _, .cons r t, f => .cons (f _ _ r) (Paired.mapP t f)
theorem ObjOk.stay (x : ObjOk P w H h a o) (k : ∀ b u, (b = a ∨ H b = some (.own a)) → h.get? b = some u → h'.get? b = some u)
    (ho : ∀ b, H b = some (.own a) → H' b = some (.own a)) (ht : ∀ b xs, H b = some (.tup xs) → H' b = some (.tup xs)) : ObjOk P w H' h' a o := by
  induction o with
  | lst xs => obtain ⟨z, its, n, r, e⟩ := x; exact ⟨z, its, n, r, k _ _ (.inl rfl) e⟩
  | tup xs => obtain ⟨z, its, r, ob, e, c⟩ := x; exact ⟨z, its, r, ob, k _ _ (.inl rfl) e, c⟩
  | dK kvs => obtain ⟨z, y, vs, r, ob, es, ep, e, c⟩ := x; exact ⟨z, y, vs, r, ob, es, ep, k _ _ (.inl rfl) e, c⟩
  | dT kvs =>
    obtain ⟨z, y, xs, r, ob, es, ep, e, c⟩ := x
    exact ⟨z, y, xs, Paired.mapP r fun p q z => ⟨z.1, ht _ _ z.2.1, z.2.2⟩, ob, es, ep, k _ _ (.inl rfl) e, c⟩
  | set S n => obtain ⟨ob, es, ep, t, e, c⟩ := x; exact ⟨ob, es, ep, t, k _ _ (.inl rfl) e, c⟩
  | ins C dx fs =>
    obtain ⟨d, z, ne, e, mA, ⟨od, es, ep, e2, c⟩, r⟩ := x
    exact ⟨ho _ d, z, ne, k _ _ (.inl rfl) e, mA, ⟨od, es, ep, k _ _ (.inr d) e2, c⟩, r⟩
  | own y => obtain ⟨ob, e⟩ := x; exact ⟨ob, k _ _ (.inl rfl) e⟩
  | xd fs => obtain ⟨mA, ⟨od, es, ep, e, c⟩, r⟩ := x; exact ⟨mA, ⟨od, es, ep, k _ _ (.inl rfl) e, c⟩, r⟩
  | rng lo hi => obtain ⟨t, u, v, e⟩ := x; exact ⟨t, u, v, k _ _ (.inl rfl) e⟩
  | frz ob u ih => obtain ⟨e, q⟩ := x; exact ⟨k _ _ (.inl rfl) e, ih q⟩
  | tbl ps =>
    have e : h.get? a = some { cls := .none, data := .fields ps } := x
    show h'.get? a = some { cls := .none, data := .fields ps }
    exact k a _ (.inl rfl) e
  | met f y =>
    have e : h.get? a = some (PySem.W.methodObj (.ref f) (.ref y)) := x
    show h'.get? a = some (PySem.W.methodObj (.ref f) (.ref y))
    exact k a _ (.inl rfl) e
  | ext φ => obtain ⟨p, ⟨o, e⟩, st⟩ := x; exact ⟨st _ _ p fun o q => k _ _ (.inl rfl) q, ⟨o, k _ _ (.inl rfl) e⟩, st⟩
theorem HOk.lt (x : HOk P w H h) (e : H a = some o) : a < h.objs.size := (x a o e).lt
theorem HOk.fresh (x : HOk P w H h) (e : h.objs.size ≤ a) : H a = none := by
  cases q : H a with
  | none => rfl
  | some u => exact absurd (Nat.lt_of_lt_of_le (x.lt q) e) (Nat.lt_irrefl _)
theorem HOk.kept (x : HOk P w H h) (k : ∀ b u, h.get? b = some u → h'.get? b = some u) : HOk P w H h' := fun a o e =>
  (x a o e).stay (fun b u _ q => k b u q) (fun _ q => q) fun _ _ q => q
theorem HOk.laid (x : HOk P w H h) (k : ∀ b u, h.get? b = some u → h'.get? b = some u) (hp : h.objs.size ≤ a) (new : ObjOk P w (upd H a o) h' a o) : HOk P w (upd H a o) h' := fun b u e => by
  have hn := x.fresh hp
  by_cases hb : b = a
  · subst hb; rw [upd_same] at e; cases e; exact new
  · rw [upd_ne hb] at e
    exact (x b u e).stay (fun c v _ q => k c v q) (fun c q => by rw [upd_ne (ne_of_none q hn)]; exact q) fun c xs q => by rw [upd_ne (ne_of_none q hn)]; exact q
end
def Rd (H : Hp) (a : Addr) (u : HO) : Prop := H a = some u ∨ ∃ o, H a = some (.frz o u)
theorem Rd.of {H : Hp} {a : Addr} {u : HO} (h : H a = some u) : Rd H a u := .inl h
theorem Rd.ok {P : Program} {w : World} {H : Hp} {h : Heap} {a : Addr} {u : HO} (r : Rd H a u) (x : HOk P w H h) : ObjOk P w H h a u := by
  rcases r with r | ⟨o, r⟩
  · exact x a u r
  · obtain ⟨_, q⟩ := x a _ r
    exact q
def Mut : Option HO → Prop
  | some (.lst _) => True
  | some (.dK _) => True
  | some (.dT _) => True
  | some (.set _ _) => True
  | some (.ins _ _ _) => True
  | some (.ext _) => True
  | _ => False
section
variable {P : Program} {w : World} {H : Hp} {h h' : Heap} {x e : Addr} {o' : HO}
theorem HOk.write (ok : HOk P w H h) (mu : Mut (H x)) (he : e = x ∨ H e = some (.own x)) (k : ∀ b u, b ≠ e → h.get? b = some u → h'.get? b = some u) (heo : ∃ u, h'.get? e = some u)
    (new : ObjOk P w (upd H x o') h' x o') : HOk P w (upd H x o') h' := fun b u q => by
  have nown : ∀ c y, H c = some (.own y) → c ≠ x := fun c y r z => by subst z; rw [r] at mu; exact mu
  have ntup : ∀ c xs, H c = some (.tup xs) → c ≠ x := fun c xs r z => by subst z; rw [r] at mu; exact mu
  by_cases hb : b = x
  · subst hb; rw [upd_same] at q; cases q; exact new
  · rw [upd_ne hb] at q
    by_cases hbe : b = e
    · have q' : H b = some (.own x) := by
        rcases he with z | z
        · exact absurd (hbe.trans z) hb
        · rw [hbe]; exact z
      rw [q] at q'; cases q'
      obtain ⟨v, hv⟩ := heo
      exact ⟨v, by rw [hbe]; exact hv⟩
    · refine (ok b u q).stay (fun c v hc r => k c v ?_ r) (fun c r => by rw [upd_ne (nown c b r)]; exact r) fun c xs r => by rw [upd_ne (ntup c xs r)]; exact r
      rcases hc with rfl | hc
      · exact hbe
      · rintro rfl
        rcases he with z | z
        · exact nown c b hc z
        · rw [hc] at z; cases z; exact hb rfl
end
structure Un (fs ex : List Addr) (H H' : Hp) (h h' : Heap) : Prop where
  keep : ∀ b o, h.get? b = some o → H b = none → b ∉ fs → b ∉ ex → h'.get? b = some o
  slot : ∀ b o, h.get? b = some o → H b = none → b ∈ fs → b ∉ ex → ∃ sl, h'.get? b = some { o with slots := sl }
  free : ∀ b o, h.get? b = some o → H b = none → b ∉ ex → H' b = none
  there : ∀ b o, h.get? b = some o → b ∉ ex → ∃ o', h'.get? b = some o'
  tups : ∀ b xs, H b = some (.tup xs) → H' b = some (.tup xs)
  frzs : ∀ b o u, H b = some (.frz o u) → H' b = some (.frz o u)
  tbls : ∀ b ps, H b = some (.tbl ps) → ∃ more, H' b = some (.tbl (ps ++ more))
section
variable {fs fs' ex ex' : List Addr} {H H1 H2 : Hp} {h h1 h2 h' : Heap} {a x e : Addr} {o : HO}
theorem Un.any (u : Un fs ex H H1 h h1) {b : Addr} {ob : Obj} (q : h.get? b = some ob) (n : H b = none) (hx : b ∉ ex) : ∃ sl, h1.get? b = some { ob with slots := sl } := by
  by_cases hb : b ∈ fs
  · exact u.slot b ob q n hb hx
  · exact ⟨ob.slots, u.keep b ob q n hb hx⟩
theorem Un.trans (a : Un fs ex H H1 h h1) (b : Un fs ex H1 H2 h1 h2) : Un fs ex H H2 h h2 where
  keep := fun c ob q n hc hx => b.keep c ob (a.keep c ob q n hc hx) (a.free c ob q n hx) hc hx
  slot := fun c ob q n hc hx => by
    obtain ⟨sl, e1⟩ := a.slot c ob q n hc hx
    obtain ⟨sl', e2⟩ := b.slot c _ e1 (a.free c ob q n hx) hc hx
    exact ⟨sl', e2⟩
  free := fun c ob q n hx => by
    obtain ⟨o', e1⟩ := a.there c ob q hx
    exact b.free c o' e1 (a.free c ob q n hx) hx
  there := fun c ob q hx => by
    obtain ⟨o', e1⟩ := a.there c ob q hx
    exact b.there c o' e1 hx
  tups := fun c xs q => b.tups c xs (a.tups c xs q)
  frzs := fun c ob xs q => b.frzs c ob xs (a.frzs c ob xs q)
  tbls := fun c ps q => by
    obtain ⟨m1, e1⟩ := a.tbls c ps q
    obtain ⟨m2, e2⟩ := b.tbls c _ e1
    exact ⟨m1 ++ m2, by rw [e2, Array.append_assoc]⟩
theorem Un.kept (k : ∀ b u, h.get? b = some u → h'.get? b = some u) : Un fs ex H H h h' :=
  ⟨fun b ob q _ _ _ => k b ob q, fun b ob q _ _ _ => ⟨ob.slots, k b ob q⟩, fun _ _ _ n _ => n, fun b ob q _ => ⟨ob, k b ob q⟩, fun _ _ q => q, fun _ _ _ q => q, fun _ ps q => ⟨#[], by rw [q]; simp⟩⟩
theorem Un.refl : Un fs ex H H h h := Un.kept fun _ _ q => q
theorem Un.laid (k : ∀ b u, h.get? b = some u → h'.get? b = some u) (hp : h.objs.size ≤ a) (hn : H a = none) : Un fs ex H (upd H a o) h h' where
  keep := fun b u q _ _ _ => k b u q
  slot := fun b u q _ _ _ => ⟨u.slots, k b u q⟩
  free := fun b u q n _ => by rw [upd_ne (Nat.ne_of_lt (Nat.lt_of_lt_of_le (Heap.lt_size q) hp))]; exact n
  there := fun b u q _ => ⟨u, k b u q⟩
  tups := fun b xs q => by rw [upd_ne (ne_of_none q hn)]; exact q
  frzs := fun b u xs q => by rw [upd_ne (ne_of_none q hn)]; exact q
  tbls := fun b ps q => ⟨#[], by rw [upd_ne (ne_of_none q hn), q]; simp⟩
theorem Un.write (mu : Mut (H x)) (he : e = x ∨ H e = some (.own x)) (k : ∀ b u, b ≠ e → h.get? b = some u → h'.get? b = some u) (heo : ∃ u, h'.get? e = some u) : Un fs ex H (upd H x o) h h' := by
  have hx : ∀ b, H b = none → b ≠ x := fun b n z => by subst z; rw [n] at mu; exact mu
  have hb : ∀ b, H b = none → b ≠ e := fun b n z => by
    subst z
    rcases he with r | r
    · exact hx b n r
    · rw [n] at r; cases r
  have hm : ∀ b u, H b = some u → ¬ Mut (some u) → b ≠ x := fun b u q nm z => by subst z; rw [q] at mu; exact nm mu
  refine ⟨fun b u q n _ _ => k b u (hb b n) q, fun b u q n _ _ => ⟨u.slots, k b u (hb b n) q⟩, fun b u q n _ => by rw [upd_ne (hx b n)]; exact n, fun b u q _ => ?_,
    fun b xs q => by rw [upd_ne (hm b _ q fun z => z)]; exact q, fun b u xs q => by rw [upd_ne (hm b _ q fun z => z)]; exact q, fun b ps q => ⟨#[], by rw [upd_ne (hm b _ q fun z => z), q]; simp⟩⟩
  by_cases hbe : b = e
  · subst hbe; exact heo
  · exact ⟨u, k b u hbe q⟩
theorem Un.mono (u : Un fs ex H H1 h h1) (hs : ∀ b ∈ fs, b ∈ fs') (hx : ∀ b ∈ ex, b ∈ ex') : Un fs' ex' H H1 h h1 :=
  ⟨fun b ob q n hb he => u.keep b ob q n (fun z => hb (hs b z)) fun z => he (hx b z), fun _ _ q n _ he => u.any q n fun z => he (hx _ z), fun b ob q n he => u.free b ob q n fun z => he (hx b z), fun b ob q he => u.there b ob q fun z => he (hx b z), u.tups, u.frzs, u.tbls⟩
end
def trk (h : Heap) (H : Hp) : List Addr := (List.range h.objs.size).filter fun a => (H a).isSome
def hidT (h : Heap) (H : Hp) : Heap := PySem.W.hideAll h (trk h H)
theorem hidT_size (h : Heap) (H : Hp) : (hidT h H).objs.size = h.objs.size := PySem.W.hideAll_size _ _
theorem hidT_get {h : Heap} {H : Hp} {b : Addr} {o : Obj} (e : h.get? b = some o) (n : H b = none) : (hidT h H).get? b = some o :=
  PySem.W.hideAll_get _ e fun hm => by
    have q : (H b).isSome = true := (List.mem_filter.mp hm).2
    rw [n] at q; simp at q
theorem of_hidT {h : Heap} {H : Hp} {b : Addr} {o : Obj} (e : (hidT h H).get? b = some o) : h.get? b = some o ∧ H b = none := by
  have e' : h.get? b = some o := PySem.W.of_hideAll (trk h H) e
  refine ⟨e', ?_⟩
  cases q : H b with
  | none => rfl
  | some x =>
    have hm : b ∈ trk h H := List.mem_filter.mpr ⟨List.mem_range.mpr (Heap.lt_size e'), by simp [q]⟩
    have z : (hidT h H).get? b = none := PySem.W.hideAll_none (trk h H) hm
    rw [z] at e; cases e
def allNews (g h : Heap) (L : Addr) : List (Addr × Obj) := (List.range h.objs.size).filterMap fun a => if a = L ∨ (g.get? a).isSome = true then none else (h.get? a).map fun o => (a, o)
def rest (g h : Heap) (L d : Addr) : List (Addr × Obj) := (allNews g h L).filter fun p => decide (p.1 ≠ d)
end L2
namespace L2
open PySem PySem.Spec PyProof.Rows
structure Mod (K : PySem.W.Frag) (mg : Str → Option Value) (base : Heap) : Prop where
  kin : K.In base
  glob : base.Ns mainGlobals mg
  blt : ∃ mb, base.Ns builtinsNs mb ∧ ∀ x : Str, x ≠ "__name__" → mb x = bootBuiltins x
  nolimit : base.NoLimit
structure Cx where
  prog : Program
  w : World
  K : PySem.W.Frag
  mg : Str → Option Value
  base : Heap
  A : Around
  N : List Str
  s₀ : Shared
  H₀ : Hp
  env : Env
  outer : List Env
  stack : List Env
  ex : List Addr
  fn : Str → Bool
  calm : Bool
  pn : List (Addr × Obj)
  xe : Value → Shared → Prop
def frs (l : List Env) : List Addr := l.filterMap (·.frame)
abbrev Cx.fs (X : Cx) : List Addr := frs X.outer
def Vis (sc : Scope) (x : Str) : Prop := sc.names.lookup x = some .local ∨ sc.names.lookup x = some .cell ∨ sc.names.lookup x = some .free
def Loc (sc : Scope) (x : Str) : Prop := sc.names.lookup x = some .local ∨ sc.names.lookup x = some .cell
def Look (env : Env) (h : Heap) (m : Str → Option Value) (x : Str) (u : Value) : Prop :=
  (env.kindOf x = some .local ∧ m x = some u) ∨ ((env.kindOf x = some .cell ∨ env.kindOf x = some .free) ∧ ∃ c, env.cells.lookup x = some c ∧ h.IsCell c (some u))
structure Cx.Ok (X : Cx) : Prop where
  mod : Mod X.K X.mg X.base
  kind : X.env.scope.kind = .function
  glob : X.env.globals = mainGlobals
  blt : X.env.builtins = builtinsNs
  above : X.s₀.heap.objs.size ≤ X.env.locals
  inj : ∀ x y c, X.env.cells.lookup x = some c → X.env.cells.lookup y = some c → x = y
  has : ∀ x, (X.env.kindOf x = some .cell ∨ X.env.kindOf x = some .free) → ∃ c, X.env.cells.lookup x = some c
  cab : ∀ x c, X.fn x = true → X.env.cells.lookup x = some c → X.s₀.heap.objs.size ≤ c
  hd : X.calm = true → X.A.handled = none
  frames : X.A.frames = some X.stack
  stk : X.stack = X.outer ∨ (X.stack = X.env :: X.outer ∧ X.env.frame = some X.env.locals)
  exf : ∀ b ∈ X.ex, b ≠ X.env.locals ∧ ∀ x c, X.env.cells.lookup x = some c → c ≠ b
  bs : ∀ b o, X.base.get? b = some o → X.s₀.heap.get? b = some o ∧ X.H₀ b = none
  bsz : X.base.objs.size ≤ X.s₀.heap.objs.size
  noex : ∀ b o, X.base.get? b = some o → b ∉ X.ex
  exfs : ∀ b ∈ X.ex, b ∉ X.fs
  funs : X.s₀.heap.FunFrames X.base X.outer
  frf : ∀ b ∈ X.fs, X.H₀ b = none
structure Inv (X : Cx) (pins : List (Addr × Obj)) (σ : List (Option V)) (H : Hp) (s : Shared) : Prop where
  ok : X.Ok
  os : s.os = X.s₀.os
  bare : AllBare s.gens
  base : Un X.fs X.ex X.H₀ H X.s₀.heap s.heap
  loc : ∃ m, s.heap.Ns X.env.locals m ∧ ∀ (i : Nat) (x : Str) (v : V), X.N[i]? = some x → σ[i]? = some (some v) → Vis X.env.scope x → ∃ u, RelV v u ∧ Look X.env s.heap m x u
  cell : ∀ x c, X.env.cells.lookup x = some c → ∃ v, s.heap.IsCell c v
  free : H X.env.locals = none
  freeC : ∀ x c, X.env.cells.lookup x = some c → H c = none
  pin : ∀ p ∈ X.pn ++ pins, s.heap.get? p.1 = some p.2 ∧ H p.1 = none ∧ p.1 ≠ X.env.locals ∧ p.1 ∉ X.fs ∧ ∀ v, p.2.data ≠ .cell v
  hok : HOk X.prog X.w H s.heap
  len : σ.length = X.N.length
section
variable {X : Cx} {pins : List (Addr × Obj)} {σ : List (Option V)} {H H' : Hp} {s : Shared} {h' : Heap}
theorem Cx.Ok.nofr (ok : X.Ok) {b : Addr} {o : Obj} (e : X.base.get? b = some o) : b ∉ X.fs := fun hb => by
  have := (ok.funs.mem hb).1
  rw [e] at this; cases this
theorem Inv.bs (I : Inv X pins σ H s) : ∀ b o, X.base.get? b = some o → s.heap.get? b = some o ∧ H b = none := fun b o e =>
  ⟨I.base.keep b o (I.ok.bs b o e).1 (I.ok.bs b o e).2 (I.ok.nofr e) (I.ok.noex b o e), I.base.free b o (I.ok.bs b o e).1 (I.ok.bs b o e).2 (I.ok.noex b o e)⟩
theorem Inv.bk (I : Inv X pins σ H s) : ∀ b o, X.base.get? b = some o → s.heap.get? b = some o := fun b o e => (I.bs b o e).1
theorem Inv.mod (I : Inv X pins σ H s) : Mod X.K X.mg X.base := I.ok.mod
theorem Inv.kIn (I : Inv X pins σ H s) : X.K.In s.heap := I.ok.mod.kin.keeps I.bk
theorem Inv.nolimit (I : Inv X pins σ H s) : s.heap.NoLimit := I.ok.mod.nolimit.keeps I.bk
theorem Inv.fr (I : Inv X pins σ H s) : ∃ m, Fr X.base X.env.locals s.heap m :=
  let ⟨m, hn, _⟩ := I.loc
  ⟨m, hn, I.bk, Nat.le_trans I.ok.bsz I.ok.above⟩
theorem Inv.lt (I : Inv X pins σ H s) : X.env.locals < s.heap.objs.size := let ⟨_, hn, _⟩ := I.loc; hn.lt
theorem Inv.sz (I : Inv X pins σ H s) : X.s₀.heap.objs.size ≤ s.heap.objs.size := Nat.le_trans I.ok.above (Nat.le_of_lt I.lt)
theorem Inv.nofs (I : Inv X pins σ H s) {a : Addr} (h : s.heap.objs.size ≤ a) : a ∉ X.fs := fun hb => by
  obtain ⟨_, o, ho, _⟩ := I.ok.funs.mem hb
  exact absurd (Nat.lt_of_lt_of_le (Heap.lt_size ho) (Nat.le_trans I.sz h)) (Nat.lt_irrefl _)
theorem Inv.cne (I : Inv X pins σ H s) : ∀ x c, X.env.cells.lookup x = some c → c ≠ X.env.locals := fun x c e z => by
  obtain ⟨v, o, ho, hd⟩ := I.cell x c e
  obtain ⟨m, ⟨o', es, ep, ho', hd', _⟩, _⟩ := I.loc
  rw [z, ho'] at ho; cases ho; rw [hd'] at hd; cases hd
theorem Inv.funs (I : Inv X pins σ H s) : s.heap.FunFrames X.base X.outer := by
  have all : ∀ (l : List Env), (∀ b ∈ frs l, b ∈ X.fs) → X.s₀.heap.FunFrames X.base l → s.heap.FunFrames X.base l := by
    intro l
    induction l with
    | nil => intro _ _; trivial
    | cons env r ih =>
      intro hs hl
      obtain ⟨hk, ⟨L, o, hf, hn, ho, hd⟩, hr⟩ := hl
      have hL : L ∈ X.fs := hs L (by unfold frs; rw [List.filterMap_cons, hf]; exact List.mem_cons_self)
      obtain ⟨sl, e⟩ := I.base.slot L o ho (I.ok.frf L hL) hL fun z => I.ok.exfs L z hL
      exact ⟨hk, ⟨L, _, hf, hn, e, hd⟩, ih (fun b hb => hs b (by unfold frs; rw [List.filterMap_cons, hf]; exact List.mem_cons_of_mem _ hb)) hr⟩
  exact all X.outer (fun _ hb => hb) I.ok.funs
theorem Inv.stack (I : Inv X pins σ H s) : s.heap.FunFrames X.base X.stack := by
  rcases I.ok.stk with e | ⟨e, hf⟩
  · rw [e]; exact I.funs
  · rw [e]
    obtain ⟨m, hn, _⟩ := I.loc
    refine .cons (by rw [I.ok.kind]; decide) hf hn ?_ I.funs
    exact Heap.get?_none_of_le (Nat.le_trans I.ok.bsz I.ok.above)
theorem Inv.stkSub (I : Inv X pins σ H s) : ∀ b ∈ frs X.stack, b ∈ X.env.locals :: X.fs := fun b hb => by
  rcases I.ok.stk with e | ⟨e, hf⟩
  · rw [e] at hb; exact List.mem_cons_of_mem _ hb
  · rw [e] at hb
    unfold frs at hb
    rw [List.filterMap_cons, hf] at hb
    exact hb
theorem Inv.stkFree (I : Inv X pins σ H s) : ∀ b ∈ frs X.stack, H b = none := fun b hb => by
  rcases List.mem_cons.mp (I.stkSub b hb) with e | hb
  · rw [e]; exact I.free
  · obtain ⟨_, o, ho, _⟩ := I.ok.funs.mem hb
    exact I.base.free b o ho (I.ok.frf b hb) fun z => I.ok.exfs b z hb
theorem Inv.step {g' : Array GenState} {t' : Nat} {d' : Drawn} {ch : List Addr} (I : Inv X pins σ H s)
    (hch : ∀ b ∈ ch, (b ∈ X.ex ∨ X.s₀.heap.objs.size ≤ b) ∧ b ≠ X.env.locals ∧ (∀ x c, X.env.cells.lookup x = some c → c ≠ b) ∧ ∀ p ∈ X.pn ++ pins, p.1 ≠ b)
    (keep : ∀ b o, b ≠ X.env.locals → b ∉ X.fs → b ∉ ch → s.heap.get? b = some o → H b = none → h'.get? b = some o)
    (slot : ∀ b o, b ≠ X.env.locals → b ∈ X.fs → b ∉ ch → s.heap.get? b = some o → H b = none → ∃ sl, h'.get? b = some { o with slots := sl }) (free : ∀ b o, b ∉ ch → s.heap.get? b = some o → H b = none → H' b = none)
    (there : ∀ b o, b ∉ ch → s.heap.get? b = some o → ∃ o', h'.get? b = some o')
    (tups : ∀ b xs, H b = some (.tup xs) → H' b = some (.tup xs)) (frzs : ∀ b o u, H b = some (.frz o u) → H' b = some (.frz o u)) (tbls : ∀ b ps, H b = some (.tbl ps) → ∃ more, H' b = some (.tbl (ps ++ more)))
    (ns : ∀ m, s.heap.Ns X.env.locals m → h'.Ns X.env.locals m) (hok : HOk X.prog X.w H' h') (hg : AllBare g') :
    Inv X pins σ H' { s with heap := h', gens := g', drawn := d', toks := t' } := by
  have neL : ∀ b o, X.s₀.heap.get? b = some o → b ≠ X.env.locals := fun b o e => Nat.ne_of_lt (Nat.lt_of_lt_of_le (Heap.lt_size e) I.ok.above)
  have neC : ∀ b o, X.s₀.heap.get? b = some o → b ∉ X.ex → b ∉ ch := fun b o e hx hb => by
    rcases (hch b hb).1 with z | z
    · exact hx z
    · exact absurd (Nat.lt_of_lt_of_le (Heap.lt_size e) z) (Nat.lt_irrefl _)
  have cellK : ∀ x c, X.env.cells.lookup x = some c → ∀ v, s.heap.IsCell c v → h'.IsCell c v := fun x c e v ⟨o, ho, hd⟩ => by
    have nch : c ∉ ch := fun z => (hch c z).2.2.1 x c e rfl
    by_cases hc : c ∈ X.fs
    · obtain ⟨sl, q⟩ := slot c o (I.cne x c e) hc nch ho (I.freeC x c e)
      exact ⟨_, q, hd⟩
    · exact ⟨o, keep c o (I.cne x c e) hc nch ho (I.freeC x c e), hd⟩
  refine ⟨I.ok, I.os, hg, ⟨fun b o e n hb hx => ?_, fun b o e n hb hx => ?_, fun b o e n hx => ?_, fun b o e hx => ?_, fun b xs e => tups b xs (I.base.tups b xs e), fun b o xs e => frzs b o xs (I.base.frzs b o xs e), fun b ps e => ?_⟩, ?_, fun x c e => ?_, ?_, fun x c e => ?_, fun p hp => ?_, hok, I.len⟩
  · exact keep b o (neL b o e) hb (neC b o e hx) (I.base.keep b o e n hb hx) (I.base.free b o e n hx)
  · obtain ⟨sl, e1⟩ := I.base.slot b o e n hb hx
    obtain ⟨sl', e2⟩ := slot b _ (neL b o e) hb (neC b o e hx) e1 (I.base.free b o e n hx)
    exact ⟨sl', e2⟩
  · obtain ⟨o', e1⟩ := I.base.there b o e hx
    exact free b o' (neC b o e hx) e1 (I.base.free b o e n hx)
  · obtain ⟨o', e1⟩ := I.base.there b o e hx
    exact there b o' (neC b o e hx) e1
  · obtain ⟨m1, e1⟩ := I.base.tbls b ps e
    obtain ⟨m2, e2⟩ := tbls b _ e1
    exact ⟨m1 ++ m2, by rw [e2, Array.append_assoc]⟩
  · obtain ⟨m, hn, hl⟩ := I.loc
    refine ⟨m, ns m hn, fun i x v e1 e2 e3 => ?_⟩
    obtain ⟨u, r, l⟩ := hl i x v e1 e2 e3
    refine ⟨u, r, ?_⟩
    rcases l with l | ⟨k, c, e, z⟩
    · exact .inl l
    · exact .inr ⟨k, c, e, cellK x c e _ z⟩
  · obtain ⟨v, z⟩ := I.cell x c e
    exact ⟨v, cellK x c e v z⟩
  · obtain ⟨m, ⟨o, _, _, ho, _⟩, _⟩ := I.loc
    exact free _ o (fun z => (hch _ z).2.1 rfl) ho I.free
  · obtain ⟨v, o, ho, hd⟩ := I.cell x c e
    exact free c o (fun z => (hch c z).2.2.1 x c e rfl) ho (I.freeC x c e)
  · obtain ⟨e, n, ne, nf, d⟩ := I.pin p hp
    have nch : p.1 ∉ ch := fun z => (hch p.1 z).2.2.2 p hp rfl
    exact ⟨keep p.1 p.2 ne nf nch e n, free p.1 p.2 nch e n, ne, nf, d⟩
theorem Inv.un {t' : Nat} (I : Inv X pins σ H s) (u : Un X.fs [] H H' s.heap h') (hok : HOk X.prog X.w H' h') : Inv X pins σ H' { s with heap := h', toks := t' } := by
  obtain ⟨m, ⟨o, es, ep, ho, r⟩, _⟩ := id I.loc
  obtain ⟨sl, hL⟩ := u.any ho I.free (by simp)
  exact I.step (g' := s.gens) (d' := s.drawn) (ch := []) (fun _ z => nomatch z) (fun b o _ hb _ e n => u.keep b o e n hb (by simp)) (fun b o _ hb _ e n => u.slot b o e n hb (by simp)) (fun b o _ e n => u.free b o e n (by simp)) (fun b o _ e => u.there b o e (by simp)) u.tups u.frzs u.tbls (fun m' hm => by
    obtain ⟨o', es', ep', ho', r'⟩ := hm
    rw [ho] at ho'; cases ho'
    exact ⟨_, es', ep', hL, r'⟩) hok I.bare
theorem Inv.call {g' : Array GenState} {t' : Nat} {d' : Drawn} {ch : List Addr} (I : Inv X pins σ H s) (u : Un (frs X.stack) ch H H' s.heap h') (hok : HOk X.prog X.w H' h') (hg : AllBare g')
    (hch : ∀ b ∈ ch, (b ∈ X.ex ∨ X.s₀.heap.objs.size ≤ b) ∧ b ≠ X.env.locals ∧ (∀ x c, X.env.cells.lookup x = some c → c ≠ b) ∧ ∀ p ∈ X.pn ++ pins, p.1 ≠ b) :
    Inv X pins σ H' { s with heap := h', gens := g', drawn := d', toks := t' } := by
  obtain ⟨m, ⟨o, es, ep, ho, r⟩, _⟩ := id I.loc
  obtain ⟨sl, hL⟩ := u.any ho I.free fun z => (hch _ z).2.1 rfl
  exact I.step (ch := ch) hch (fun b o hL hb hc e n => u.keep b o e n (fun z => (List.mem_cons.mp (I.stkSub b z)).elim hL hb) hc) (fun b o _ _ hc e n => u.any e n hc) (fun b o hc e n => u.free b o e n hc) (fun b o hc e => u.there b o e hc) u.tups u.frzs u.tbls (fun m' hm => by
    obtain ⟨o', es', ep', ho', r'⟩ := hm
    rw [ho] at ho'; cases ho'
    exact ⟨_, es', ep', hL, r'⟩) hok hg
theorem Inv.turned {t' : Nat} {it : Addr} (I : Inv X pins σ H s) (k : ∀ b o, b ≠ it → s.heap.get? b = some o → h'.get? b = some o) (hn : H it = none) (hL : it ≠ X.env.locals)
    (h1 : it ∈ X.ex ∨ X.s₀.heap.objs.size ≤ it) (h2 : ∀ x c, X.env.cells.lookup x = some c → c ≠ it) (h3 : ∀ p ∈ X.pn ++ pins, p.1 ≠ it) : Inv X pins σ H { s with heap := h', toks := t' } := by
  have nit : ∀ b u, H b = some u → b ≠ it := fun b u e z => by rw [z, hn] at e; cases e
  refine I.step (g' := s.gens) (d' := s.drawn) (ch := [it]) (fun b hb => ?_) (fun b o _ _ hc e _ => k b o (fun z => hc (by simp [z])) e) (fun b o _ _ hc e _ => ⟨o.slots, k b o (fun z => hc (by simp [z])) e⟩) (fun _ _ _ _ n => n)
    (fun b o hc e => ⟨o, k b o (fun z => hc (by simp [z])) e⟩) (fun _ _ e => e) (fun _ _ _ e => e) (fun b ps e => ⟨#[], by rw [e]; simp⟩) (fun m hm => ?_) (fun b u e => ?_) I.bare
  · have e : b = it := by simpa using hb
    subst e
    exact ⟨h1, hL, h2, h3⟩
  · obtain ⟨o, es, ep, ho, r⟩ := hm
    exact ⟨o, es, ep, k _ o (Ne.symm hL) ho, r⟩
  · refine (I.hok b u e).stay (fun c v hc q => k c v ?_ q) (fun _ q => q) fun _ _ q => q
    rcases hc with z | z
    · rw [z]; exact nit b u e
    · exact nit c _ z
theorem Inv.tok (I : Inv X pins σ H s) (t : Nat) : Inv X pins σ H { s with toks := t } := I.un (h' := s.heap) (t' := t) Un.refl I.hok
theorem Inv.kept {t' : Nat} (I : Inv X pins σ H s) (k : ∀ b u, s.heap.get? b = some u → h'.get? b = some u) : Inv X pins σ H { s with heap := h', toks := t' } := I.un (Un.kept k) (I.hok.kept k)
theorem Inv.laid {a : Addr} {o : HO} {t' : Nat} (I : Inv X pins σ H s) (k : ∀ b u, s.heap.get? b = some u → h'.get? b = some u) (hp : s.heap.objs.size ≤ a) (new : ObjOk X.prog X.w (upd H a o) h' a o) :
    Inv X pins σ (upd H a o) { s with heap := h', toks := t' } := I.un (Un.laid k hp (I.hok.fresh hp)) (I.hok.laid k hp new)
theorem Inv.write {x e : Addr} {o : HO} {t' : Nat} (I : Inv X pins σ H s) (mu : Mut (H x)) (he : e = x ∨ H e = some (.own x)) (k : ∀ b u, b ≠ e → s.heap.get? b = some u → h'.get? b = some u) (heo : ∃ u, h'.get? e = some u)
    (new : ObjOk X.prog X.w (upd H x o) h' x o) : Inv X pins σ (upd H x o) { s with heap := h', toks := t' } := I.un (Un.write mu he k heo) (I.hok.write mu he k heo new)
theorem Inv.pins_of {pins' : List (Addr × Obj)} (I : Inv X pins σ H s) (h : ∀ p ∈ pins', s.heap.get? p.1 = some p.2 ∧ H p.1 = none ∧ p.1 ≠ X.env.locals ∧ p.1 ∉ X.fs ∧ ∀ v, p.2.data ≠ .cell v) : Inv X pins' σ H s :=
  ⟨I.ok, I.os, I.bare, I.base, I.loc, I.cell, I.free, I.freeC, fun p hp => (List.mem_append.mp hp).elim (fun z => I.pin p (List.mem_append_left _ z)) (h p), I.hok, I.len⟩
theorem nodup_ix {N : List Str} (hN : N.Nodup) {i j : Nat} {x : Str} (a : N[i]? = some x) (b : N[j]? = some x) : i = j := by
  obtain ⟨h1, e1⟩ := List.getElem?_eq_some_iff.mp a
  obtain ⟨h2, e2⟩ := List.getElem?_eq_some_iff.mp b
  exact (List.getElem_inj hN).mp (e1.trans e2.symm)
theorem store_ok2 {M : Model} {A : Around} {E : Value → Shared → Prop} {i : Nat} {x : Str} {v : V} {u : Value} {Q : Unit → Shared → Prop} (I : Inv X pins σ H s) (hN : X.N.Nodup) (hi : X.N[i]? = some x) (hx : Loc X.env.scope x) (r : RelV v u)
    (h : ∀ s', Inv X pins (σ.set i (some v)) H s' → (∃ a, Heap.SameBut a s.heap s'.heap ∧ (a = X.env.locals ∨ X.env.cells.lookup x = some a)) → Q () s') (hf : X.fn x = true ∨ X.env.scope.names.lookup x = some .local := by first | exact .inl rfl | exact .inr rfl | assumption) : wpAny M A (storeName X.env x u) Q E s := by
  obtain ⟨m, hn, hl⟩ := id I.loc
  have hcls : (X.env.scope.kind == .class || (X.env.scope.kind == .module && X.env.locals != X.env.globals)) = false := by rw [I.ok.kind]; rfl
  have hiσ : i < σ.length := by rw [I.len]; exact (List.getElem?_eq_some_iff.mp hi).1
  have cne := I.cne
  have tracked : ∀ {a : Addr} {h' : Heap}, (∃ o, s.heap.get? a = some o ∧ H a = none) → Heap.SameBut a s.heap h' → HOk X.prog X.w H h' := fun {a h'} ha hs b ob e => by
    obtain ⟨_, _, hfree⟩ := ha
    refine (I.hok b ob e).stay (fun c w' hc q => (hs.2 c ?_).trans q) (fun _ q => q) fun _ _ q => q
    rintro rfl
    rcases hc with rfl | hc
    · rw [hfree] at e; cases e
    · rw [hfree] at hc; cases hc
  rcases hx with hk | hk
  · refine wpAny_storeName_local hk hn (fun h' hn' hs => ?_) hcls
    obtain ⟨oL, _, _, hoL, _⟩ := id hn
    refine h _ ⟨I.ok, I.os, I.bare, ⟨fun b o e n hb hx => ?_, fun b o e n hb hx => ?_, I.base.free, fun b o e hx => ?_, I.base.tups, I.base.frzs, I.base.tbls⟩, ⟨_, hn', fun j y v' e1 e2 e3 => ?_⟩, fun y c e => ?_, I.free, I.freeC, fun p hp => ?_, tracked ⟨oL, hoL, I.free⟩ hs, by simpa using I.len⟩ ⟨_, hs, .inl rfl⟩
    · exact (hs.2 b (Nat.ne_of_lt (Nat.lt_of_lt_of_le (Heap.lt_size e) I.ok.above))).trans (I.base.keep b o e n hb hx)
    · obtain ⟨sl, e1⟩ := I.base.slot b o e n hb hx
      exact ⟨sl, (hs.2 b (Nat.ne_of_lt (Nat.lt_of_lt_of_le (Heap.lt_size e) I.ok.above))).trans e1⟩
    · obtain ⟨o', e1⟩ := I.base.there b o e hx
      exact ⟨o', (hs.2 b (Nat.ne_of_lt (Nat.lt_of_lt_of_le (Heap.lt_size e) I.ok.above))).trans e1⟩
    · by_cases hj : j = i
      · subst hj
        rw [hi] at e1; cases e1
        rw [List.getElem?_set_self hiσ] at e2
        cases e2
        exact ⟨u, r, .inl ⟨hk, by simp⟩⟩
      · rw [List.getElem?_set_ne (Ne.symm hj)] at e2
        obtain ⟨u', r', q⟩ := hl j y v' e1 e2 e3
        refine ⟨u', r', ?_⟩
        rcases q with ⟨k, e⟩ | ⟨k, c, e, z⟩
        · refine .inl ⟨k, ?_⟩
          have : y ≠ x := fun e => hj (nodup_ix hN e1 (e ▸ hi))
          simp [this, e]
        · exact .inr ⟨k, c, e, z.sameBut hs (cne y c e)⟩
    · obtain ⟨w', z⟩ := I.cell y c e
      exact ⟨w', z.sameBut hs (cne y c e)⟩
    · obtain ⟨e, n, ne, nf, d⟩ := I.pin p hp
      exact ⟨(hs.2 p.1 ne).trans e, n, ne, nf, d⟩
  · have hfn : X.fn x = true := by
      rcases hf with z | z
      · exact z
      · rw [z] at hk; cases hk
    obtain ⟨c, hc⟩ := I.ok.has x (.inl hk)
    obtain ⟨w', z⟩ := I.cell x c hc
    refine wpAny_storeName_cell I.ok.kind hk hc z (fun h' hc' hs => ?_)
    obtain ⟨oc, hoc, hocd⟩ := id z
    refine h { s with heap := h' } ⟨I.ok, I.os, I.bare, ⟨fun b o e n hb hx => ?_, fun b o e n hb hx => ?_, I.base.free, fun b o e hx => ?_, I.base.tups, I.base.frzs, I.base.tbls⟩, ⟨m, hn.sameBut hs (Ne.symm (cne x c hc)), fun j y v' e1 e2 e3 => ?_⟩, fun y c' e => ?_, I.free, I.freeC, fun p hp => ?_, tracked ⟨oc, hoc, I.freeC x c hc⟩ hs, by simpa using I.len⟩ ⟨c, hs, .inr hc⟩
    · exact (hs.2 b (Nat.ne_of_lt (Nat.lt_of_lt_of_le (Heap.lt_size e) (I.ok.cab x c hfn hc)))).trans (I.base.keep b o e n hb hx)
    · obtain ⟨sl, e1⟩ := I.base.slot b o e n hb hx
      exact ⟨sl, (hs.2 b (Nat.ne_of_lt (Nat.lt_of_lt_of_le (Heap.lt_size e) (I.ok.cab x c hfn hc)))).trans e1⟩
    · obtain ⟨o', e1⟩ := I.base.there b o e hx
      exact ⟨o', (hs.2 b (Nat.ne_of_lt (Nat.lt_of_lt_of_le (Heap.lt_size e) (I.ok.cab x c hfn hc)))).trans e1⟩
    · by_cases hj : j = i
      · subst hj
        rw [hi] at e1; cases e1
        rw [List.getElem?_set_self hiσ] at e2
        cases e2
        exact ⟨u, r, .inr ⟨.inl hk, c, hc, hc'⟩⟩
      · rw [List.getElem?_set_ne (Ne.symm hj)] at e2
        obtain ⟨u', r', q⟩ := hl j y v' e1 e2 e3
        refine ⟨u', r', ?_⟩
        rcases q with q | ⟨k, c', e, z'⟩
        · exact .inl q
        · refine .inr ⟨k, c', e, z'.sameBut hs ?_⟩
          rintro rfl
          exact hj (nodup_ix hN e1 (I.ok.inj _ _ _ e hc ▸ hi))
    · by_cases hcc : c' = c
      · subst hcc; exact ⟨_, hc'⟩
      · obtain ⟨w2, z2⟩ := I.cell y c' e
        exact ⟨w2, z2.sameBut hs hcc⟩
    · obtain ⟨e, n, ne, nf, d⟩ := I.pin p hp
      refine ⟨(hs.2 p.1 ?_).trans e, n, ne, nf, d⟩
      intro q
      rw [q, hoc] at e
      have q' : oc = p.2 := Option.some.inj e
      exact d w' (by rw [← q']; exact hocd)
theorem store_ok {M : Model} {A : Around} {E : Value → Shared → Prop} {i : Nat} {x : Str} {v : V} {u : Value} {Q : Unit → Shared → Prop} (I : Inv X pins σ H s) (hN : X.N.Nodup) (hi : X.N[i]? = some x) (hx : Loc X.env.scope x) (r : RelV v u)
    (h : ∀ s', Inv X pins (σ.set i (some v)) H s' → Q () s') (hf : X.fn x = true ∨ X.env.scope.names.lookup x = some .local := by first | exact .inl rfl | exact .inr rfl | assumption) : wpAny M A (storeName X.env x u) Q E s :=
  store_ok2 I hN hi hx r (fun s' I' _ => h s' I') hf
end
abbrev XK := Value → Option Addr → Hp → Prop
abbrev St := List (Option V)
abbrev VK := V → Hp → Prop
abbrev TE := St → Hp → VK → Prop
abbrev TT := St → Hp → (Bool → Hp → Prop) → Prop
abbrev TA := St → Hp → (List V → Hp → Prop) → Prop
structure Ends where
  nx : St → Hp → Prop
  rt : VK
  bk : St → Hp → Prop := fun _ _ => False
  ct : St → Hp → Prop := fun _ _ => False
abbrev TS := Ends → St → Hp → Prop
def EP (X : Cx) (pins : List (Addr × Obj)) (σ : St) (Q : VK) (u : Value) (s' : Shared) : Prop := ∃ v H', Inv X pins σ H' s' ∧ RelV v u ∧ Q v H'
def TP (X : Cx) (pins : List (Addr × Obj)) (σ : St) (Q : Bool → Hp → Prop) (b : Bool) (s' : Shared) : Prop := ∃ H', Inv X pins σ H' s' ∧ Q b H'
def AP (X : Cx) (pins : List (Addr × Obj)) (σ : St) (Q : List V → Hp → Prop) (us : List Value) (s' : Shared) : Prop := ∃ vs H', Inv X pins σ H' s' ∧ Vals vs us ∧ Q vs H'
def SP (X : Cx) (pins : List (Addr × Obj)) (D : Ends) (f : Flow) (s' : Shared) : Prop :=
  match f with
  | .next => ∃ σ' H', Inv X pins σ' H' s' ∧ D.nx σ' H'
  | .brk => ∃ σ' H', Inv X pins σ' H' s' ∧ D.bk σ' H'
  | .cont => ∃ σ' H', Inv X pins σ' H' s' ∧ D.ct σ' H'
  | .ret u => ∃ v σ' H', Inv X pins σ' H' s' ∧ RelV v u ∧ D.rt v H'
def PE (X : Cx) (e : Expr) (t : TE) : Prop :=
  ∀ (pins : List (Addr × Obj)) (s : Shared) (σ : St) (H : Hp) (Q : VK), Inv X pins σ H s → t σ H Q → wpAny (model X.prog X.w) X.A (eval e X.env) (EP X pins σ Q) X.xe s
def PT (X : Cx) (e : Expr) (t : TT) : Prop :=
  ∀ (pins : List (Addr × Obj)) (s : Shared) (σ : St) (H : Hp) (Q : Bool → Hp → Prop), Inv X pins σ H s → t σ H Q → wpAny (model X.prog X.w) X.A (isTrue e X.env (eval e X.env)) (TP X pins σ Q) X.xe s
def PW (X : Cx) (e : Expr) (t : TT) : Prop :=
  ∀ (whole : Sem Value) (pins : List (Addr × Obj)) (s : Shared) (σ : St) (H : Hp) (Q : Bool → Hp → Prop), Inv X pins σ H s → t σ H Q → wpAny (model X.prog X.w) X.A (isTrue e X.env whole) (TP X pins σ Q) X.xe s
theorem PW.pt {X : Cx} {e : Expr} {t : TT} (h : PW X e t) : PT X e t := h _
def PA (X : Cx) (es : List Expr) (t : TA) : Prop :=
  ∀ (pos : Pos) (pins : List (Addr × Obj)) (s : Shared) (σ : St) (H : Hp) (Q : List V → Hp → Prop), Inv X pins σ H s → t σ H Q → wpAny (model X.prog X.w) X.A (spliced (backTo pos (starEach es X.env))) (AP X pins σ Q) X.xe s
def PS (X : Cx) (st : Stmt) (t : TS) : Prop :=
  ∀ (pins : List (Addr × Obj)) (s : Shared) (σ : St) (H : Hp) (D : Ends), Inv X pins σ H s → t D σ H → wpAny (model X.prog X.w) X.A (exec st X.env) (SP X pins D) X.xe s
def PSs (X : Cx) (st : List Stmt) (t : TS) : Prop :=
  ∀ (pins : List (Addr × Obj)) (s : Shared) (σ : St) (H : Hp) (D : Ends), Inv X pins σ H s → t D σ H → wpAny (model X.prog X.w) X.A (execs st X.env) (SP X pins D) X.xe s
theorem thn {α : Type} {t : Sem α} {Q Q' : α → Shared → Prop} {M : Model} {A : Around} {E : Value → Shared → Prop} {s : Shared} (h : wpAny M A t Q E s) (hQ : ∀ a s, Q a s → Q' a s) : wpAny M A t Q' E s := wpAny_mono h hQ fun _ _ x => x
end L2
namespace L2
open PySem PySem.Spec PyProof.Rows
section
variable {X : Cx}
def tVar (i : Nat) : TE := fun σ H Q => ∃ v, σ[i]? = some (some v) ∧ Q v H
def tC (v : V) : TE := fun _ H Q => Q v H
theorem pe_var {i : Nat} {x : Str} {pos : Pos} (hN : X.N[i]? = some x) (hv : Vis X.env.scope x) (hd : (x == ("__debug__" : Str)) = false := by decide) (hcd : (x == ("__classdict__" : Str)) = false := by decide) : PE X (.Name x pos) (tVar i) := by
  intro pins s σ H Q I h
  obtain ⟨v, e, h⟩ := h
  obtain ⟨m, hn, hl⟩ := I.loc
  obtain ⟨u, r, l⟩ := hl i x v hN e hv
  have fin : EP X pins σ Q u s := ⟨v, H, I, r, h⟩
  rcases l with ⟨hk, hm⟩ | ⟨hk, c, hc, hcell⟩
  · exact wpAny_Name (wpAny_loadName_local I.ok.kind hk hn hm fin) hd
  · rcases hk with hk | hk
    · exact wpAny_Name (wpAny_loadName_cell I.ok.kind hk hc hcell fin) hd
    · exact wpAny_Name (wpAny_loadName_free I.ok.kind hk hc hcell fin hcd) hd
theorem pe_int {i j pos} : PE X (.Constant (.int i) j pos) (tC (.int i)) := fun _ _ _ H _ I h => wpAny_Constant_int ⟨.int i, H, I.tok _, ⟨_, rfl⟩, h⟩
theorem pe_bl {b j pos} : PE X (.Constant (.bool b) j pos) (tC (.bl b)) := fun _ _ _ H _ I h => Constant_bool ⟨.bl b, H, I, rfl, h⟩
def Gl (X : Cx) (x : Str) : Prop := X.env.kindOf x = some .globalImplicit
theorem ld_glob {E : Value → Shared → Prop} {pins : List (Addr × Obj)} {s : Shared} {σ : St} {H : Hp} {x : Str} {u : Value} {pos : Pos} {Q : Value → Shared → Prop} (I : Inv X pins σ H s) (hg : Gl X x) (hm : X.mg x = some u) (h : Q u s)
    (hd : (x == ("__debug__" : Str)) = false := by decide) : wpAny (model X.prog X.w) X.A (eval (.Name x pos) X.env) Q E s :=
  Calls.Name_function_global I.ok.kind hg (Calls.loadGlobal_global (by rw [I.ok.glob]; exact I.mod.glob.keeps I.bk) hm h) hd
theorem ld_blt {E : Value → Shared → Prop} {pins : List (Addr × Obj)} {s : Shared} {σ : St} {H : Hp} {x : Str} {u : Value} {pos : Pos} {Q : Value → Shared → Prop} (I : Inv X pins σ H s) (hg : Gl X x) (hm : X.mg x = none) (hv : bootBuiltins x = some u) (h : Q u s)
    (hn : x ≠ "__name__" := by decide) (hd : (x == ("__debug__" : Str)) = false := by decide) : wpAny (model X.prog X.w) X.A (eval (.Name x pos) X.env) Q E s := by
  obtain ⟨mb, h1, h2⟩ := I.mod.blt
  exact Calls.Name_function_global I.ok.kind hg (Calls.loadGlobal_builtin (by rw [I.ok.glob]; exact I.mod.glob.keeps I.bk) hm (by rw [I.ok.blt]; exact h1.keeps I.bk) ((h2 x hn).trans hv) h) hd
theorem pe_bltn {x : Str} {v : V} {u : Value} {pos : Pos} (hg : Gl X x) (hm : X.mg x = none) (hv : bootBuiltins x = some u) (r : RelV v u) (hn : x ≠ "__name__" := by decide) (hd : (x == ("__debug__" : Str)) = false := by decide) : PE X (.Name x pos) (tC v) :=
  fun _ _ _ H _ I h => ld_blt I hg hm hv ⟨v, H, I, r, h⟩ hn hd
variable {a b : Expr} {ta tb : TE} {pos : Pos}
def tB (t : TE) : TT := fun σ H Q => t σ H fun x H1 => ∃ c, x = .bl c ∧ Q c H1
theorem pt_val {e : Expr} {t : TE} (h : PE X e t) (he : ∀ whole, isTrue e X.env whole = (do let v ← whole; standAt e.pos; holding [v] (truthy v)) := by intro _; rfl) : PT X e (tB t) := by
  intro pins s σ H Q I hw
  refine isTrue_plain (thn (h pins s σ H _ I hw) fun v s1 ⟨x, H1, I1, r1, q1⟩ => ?_) (he _)
  obtain ⟨d, rfl, q⟩ := q1
  cases r1
  exact wpAny_truthy_bool ⟨H1, I1, q⟩
variable {tA tB' : TT} {rest : List Expr}
def tOr (t u : TT) : TT := fun σ H Q => t σ H fun c H1 => if c = true then Q true H1 else u σ H1 Q
def tNot (t : TT) : TT := fun σ H Q => t σ H fun c H1 => Q (!c) H1
theorem pw_or1 (ha : PT X a tA) : PW X (.BoolOp .Or [a] pos) tA := by
  intro wh pins s σ H Q I h
  refine isTrue_or (thn (ha pins s σ H Q I h) fun c s1 e => ?_)
  cases c with
  | false => exact isTrue_or_nil e
  | true => exact e
theorem pw_or (ha : PT X a tA) (hb : PW X (.BoolOp .Or (b :: rest) pos) tB') : PW X (.BoolOp .Or (a :: b :: rest) pos) (tOr tA tB') := by
  intro wh pins s σ H Q I h
  refine isTrue_or (thn (ha pins s σ H _ I h) fun c s1 ⟨H1, I1, q1⟩ => ?_)
  cases c with
  | true => exact ⟨H1, I1, q1⟩
  | false => exact hb wh pins s1 σ H1 Q I1 q1
theorem pt_not (ha : PT X a tA) : PT X (.UnaryOp .Not a pos) (tNot tA) := by
  intro pins s σ H Q I h
  exact isTrue_not (ha pins s σ H (fun c H1 => Q (!c) H1) I h)
def tAndV (ta tb : TE) : TE := fun σ H Q => ta σ H fun x H1 => ∃ c, x = .bl c ∧ if c = true then tb σ H1 Q else Q (.bl false) H1
def tNotV (ta : TE) : TE := fun σ H Q => ta σ H fun x H1 => ∃ c, x = .bl c ∧ Q (.bl (!c)) H1
theorem pe_one {op} {t : TE} (h : PE X a t) : PE X (.BoolOp op [a] pos) t := fun pins s σ H Q I hw => BoolOp_one (h pins s σ H Q I hw)
theorem pe_and (ha : PE X a ta) (hb : PE X (.BoolOp .And (b :: rest) pos) tb) : PE X (.BoolOp .And (a :: b :: rest) pos) (tAndV ta tb) := by
  intro pins s σ H Q I h
  refine BoolOp_and (thn (ha pins s σ H _ I h) fun v s1 ⟨x, H1, I1, r1, q1⟩ => ?_)
  obtain ⟨c, rfl, q1⟩ := q1
  cases r1
  refine wpAny_truthy_bool ?_
  cases c with
  | true => exact hb pins s1 σ H1 Q I1 q1
  | false => exact ⟨.bl false, H1, I1, rfl, q1⟩
theorem pe_not (ha : PE X a ta) : PE X (.UnaryOp .Not a pos) (tNotV ta) := by
  intro pins s σ H Q I h
  refine UnaryOp_ (thn (ha pins s σ H _ I h) fun v s1 ⟨x, H1, I1, r1, q1⟩ => ?_)
  obtain ⟨c, rfl, q1⟩ := q1
  cases r1
  exact not_of (wpAny_truthy_bool ⟨.bl (!c), H1, I1, rfl, q1⟩)
end
end L2
namespace L2
open PySem PySem.Spec PyProof.Rows
def SqL (K : PySem.W.Frag) (H : Hp) (a : Addr) (xs : List V) : Prop :=
  Rd H a (.lst xs) ∨
    ∃ (o : Obj) (its : Array Value) (n : Nat), K.lookup a = some o ∧ o.cls = .type "list" ∧ o.dict = none ∧ o.data = .seq its n ∧ its.size ≤ sizeLine ∧ Vals xs its.toList
def SqT (K : PySem.W.Frag) (H : Hp) (a : Addr) (xs : List V) : Prop :=
  Rd H a (.tup xs) ∨
    ∃ (o : Obj) (its : Array Value) (n : Nat), K.lookup a = some o ∧ o.cls = .type "tuple" ∧ o.data = .seq its n ∧ its.size ≤ sizeLine ∧ Vals xs its.toList
def absV : Value → Option V
  | .none => some .non
  | .bool b => some (.bl b)
  | .int i _ => some (.int i)
  | .str x _ => some (.str x)
  | .bytes b _ => some (.byt b)
  | .float b _ => some (.flt b)
  | .ref a => some (.ref a)
  | .type n => some (.ty n)
  | _ => none
theorem RelV.abs {x : V} {u : Value} (r : RelV x u) : absV u = some x := by
  cases x with
  | non => cases r; rfl
  | bl _ => cases r; rfl
  | int _ => obtain ⟨t, rfl⟩ := r; rfl
  | str _ => obtain ⟨t, rfl⟩ := r; rfl
  | byt _ => obtain ⟨t, rfl⟩ := r; rfl
  | flt _ => obtain ⟨t, rfl⟩ := r; rfl
  | ref _ => cases r; rfl
  | ty _ => cases r; rfl
theorem RelV.inj {x y : V} {u : Value} (r : RelV x u) (q : RelV y u) : x = y := Option.some.inj (r.abs.symm.trans q.abs)
theorem Vals.inj : ∀ {xs ys : List V} {us : List Value}, Vals xs us → Vals ys us → xs = ys
  | _, _, _, .nil, .nil => rfl
  | _, _, _, .cons r t, .cons r' t' => by rw [r.inj r', Vals.inj t t']
section
variable {X : Cx} {pins : List (Addr × Obj)} {σ : St} {H : Hp} {s : Shared} {a : Addr} {xs ys : List V}
theorem SqL.of {K : PySem.W.Frag} (h : H a = some (.lst xs)) : SqL K H a xs := .inl (.inl h)
theorem SqT.of {K : PySem.W.Frag} (h : H a = some (.tup xs)) : SqT K H a xs := .inl (.inl h)
theorem Inv.list (I : Inv X pins σ H s) (h : SqL X.K H a xs) : ∃ its : List Value, Vals xs its ∧ PlainL s.heap a its.toArray ∧ xs.length ≤ sizeLine := by
  rcases h with h | ⟨o, its, n, hk, hc, hd, hs, hz, r⟩
  · obtain ⟨z, its, n, r, e⟩ := h.ok I.hok
    exact ⟨its, r, ⟨_, n, e, rfl, rfl, rfl⟩, z⟩
  · refine ⟨its.toList, r, ⟨o, n, I.kIn a o hk, hc, hd, by simpa using hs⟩, ?_⟩
    have e := r.length
    simp only [Array.length_toList] at e
    omega
theorem Inv.tuple (I : Inv X pins σ H s) (h : SqT X.K H a xs) : ∃ its : List Value, Vals xs its ∧ IsTup s.heap a its.toArray ∧ xs.length ≤ sizeLine := by
  rcases h with h | ⟨o, its, n, hk, hc, hs, hz, r⟩
  · obtain ⟨z, its, r, p⟩ := h.ok I.hok
    exact ⟨its, r, p, z⟩
  · refine ⟨its.toList, r, ⟨o, I.kIn a o hk, hc, n, by simpa using hs⟩, ?_⟩
    have e := r.length
    simp only [Array.length_toList] at e
    omega
theorem Inv.list_inj (I : Inv X pins σ H s) (h : SqL X.K H a xs) (h' : SqL X.K H a ys) : xs = ys := by
  obtain ⟨its, r, ⟨o, n, e, _, _, d⟩, _⟩ := I.list h
  obtain ⟨its', r', ⟨o', n', e', _, _, d'⟩, _⟩ := I.list h'
  rw [e] at e'; cases e'
  rw [d] at d'
  injection d' with d1 _
  have : its = its' := by simpa using congrArg Array.toList d1
  subst this
  exact r.inj r'
end
abbrev Cx.wish (X : Cx) (E : Value → Shared → Prop) : Cx := { X with xe := E }
abbrev Cx.nox (X : Cx) : Cx := X.wish fun _ _ => False
theorem Cx.Ok.wish {X : Cx} (ok : X.Ok) (E : Value → Shared → Prop) : (X.wish E).Ok :=
  ⟨ok.mod, ok.kind, ok.glob, ok.blt, ok.above, ok.inj, ok.has, ok.cab, ok.hd, ok.frames, ok.stk, ok.exf, ok.bs, ok.bsz, ok.noex, ok.exfs, ok.funs, ok.frf⟩
theorem Cx.Ok.unwish {X : Cx} {E : Value → Shared → Prop} (ok : (X.wish E).Ok) : X.Ok :=
  ⟨ok.mod, ok.kind, ok.glob, ok.blt, ok.above, ok.inj, ok.has, ok.cab, ok.hd, ok.frames, ok.stk, ok.exf, ok.bs, ok.bsz, ok.noex, ok.exfs, ok.funs, ok.frf⟩
section
variable {X : Cx} {pins : List (Addr × Obj)} {σ : St} {H : Hp} {s : Shared} {E : Value → Shared → Prop}
theorem Inv.wish (I : Inv X pins σ H s) (E : Value → Shared → Prop) : Inv (X.wish E) pins σ H s := ⟨I.ok.wish E, I.os, I.bare, I.base, I.loc, I.cell, I.free, I.freeC, I.pin, I.hok, I.len⟩
theorem Inv.unwish (I : Inv (X.wish E) pins σ H s) : Inv X pins σ H s := ⟨I.ok.unwish, I.os, I.bare, I.base, I.loc, I.cell, I.free, I.freeC, I.pin, I.hok, I.len⟩
theorem SP.unwish {D : Ends} {f : Flow} {s' : Shared} (h : SP (X.wish E) pins D f s') : SP X pins D f s' := by
  cases f with
  | next => obtain ⟨σ', H', I, q⟩ := h; exact ⟨σ', H', I.unwish, q⟩
  | brk => obtain ⟨σ', H', I, q⟩ := h; exact ⟨σ', H', I.unwish, q⟩
  | cont => obtain ⟨σ', H', I, q⟩ := h; exact ⟨σ', H', I.unwish, q⟩
  | ret u => obtain ⟨v, σ', H', I, r, q⟩ := h; exact ⟨v, σ', H', I.unwish, r, q⟩
theorem PE.nox {e : Expr} {t : TE} (h : PE X.nox e t) : PE X e t := fun pins s σ H Q I hw =>
  wpAny_mono (h pins s σ H Q (I.wish _) hw) (fun _ _ ⟨v, H', I', r, q⟩ => ⟨v, H', I'.unwish, r, q⟩) fun _ _ z => False.elim z
theorem PT.nox {e : Expr} {t : TT} (h : PT X.nox e t) : PT X e t := fun pins s σ H Q I hw =>
  wpAny_mono (h pins s σ H Q (I.wish _) hw) (fun _ _ ⟨H', I', q⟩ => ⟨H', I'.unwish, q⟩) fun _ _ z => False.elim z
theorem PSs.nox {st : List Stmt} {t : TS} (h : PSs X.nox st t) : PSs X st t := fun pins s σ H D I hw =>
  wpAny_mono (h pins s σ H D (I.wish _) hw) (fun _ _ q => q.unwish) fun _ _ z => False.elim z
end
section
variable {X : Cx} {st : Stmt} {rest : List Stmt} {t u : TS} {e : Expr} {te : TE} {pos : Pos}
def tNext : TS := fun D σ H => D.nx σ H
def tSeq (t u : TS) : TS := fun D σ H => t { D with nx := u D } σ H
theorem pss_nil : PSs X [] tNext := fun _ _ σ H _ I h => wpAny_execs_nil ⟨σ, H, I, h⟩
theorem pss_cons (h1 : PS X st t) (h2 : PSs X rest u) : PSs X (st :: rest) (tSeq t u) := by
  intro pins s σ H D I h
  refine wpAny_execs_cons (thn (h1 pins s σ H { D with nx := u D } I h) fun f s1 q => ?_)
  cases f with
  | next =>
    obtain ⟨σ', H', I', q⟩ := q
    exact h2 pins s1 σ' H' D I' q
  | ret v => exact q
  | brk => exact q
  | cont => exact q
theorem pss_one (h1 : PS X st t) : PSs X [st] t := by
  intro pins s σ H D I h
  refine wpAny_execs_cons (thn (h1 pins s σ H D I h) fun f s1 q => ?_)
  cases f with
  | next => exact wpAny_execs_nil q
  | ret v => exact q
  | brk => exact q
  | cont => exact q
theorem Inv.quiet {pins : List (Addr × Obj)} {σ : St} {H : Hp} {s : Shared} (I : Inv X pins σ H s) : interactive X.env = false := by simp [interactive, I.ok.kind]
def tDrop (te : TE) : TS := fun D σ H => te σ H fun _ H1 => D.nx σ H1
theorem ps_expr (he : PE X e te) (hs : swapsWith e none pos.line X.env = pure false := by rfl) : PS X (.Expr e pos) (tDrop te) := by
  intro pins s σ H D I h
  exact wpAny_Expr_any (thn (he pins s σ H _ I h) fun v s1 ⟨x, H1, I1, r1, q1⟩ => ⟨σ, H1, I1, q1⟩) I.quiet hs
def tRet (te : TE) : TS := fun D σ H => te σ H D.rt
theorem ps_ret (he : PE X e te) : PS X (.Return (some e) pos) (tRet te) := by
  intro pins s σ H D I h
  exact wpAny_Return_some (thn (he pins s σ H _ I h) fun v s1 ⟨x, H1, I1, r1, q1⟩ => ⟨x, σ, H1, I1, r1, q1⟩)
def tIfS (c : TT) (t u : TS) : TS := fun D σ H => c σ H fun b H1 => if b = true then t D σ H1 else u D σ H1
theorem ps_if {c : Expr} {a b : List Stmt} {tc : TT} (hc : PT X c tc) (ha : PSs X a t) (hb : PSs X b u) : PS X (.If c a b pos) (tIfS tc t u) := by
  intro pins s σ H D I h
  refine wpAny_If (thn (hc pins s σ H _ I h) fun d s1 ⟨H1, I1, q1⟩ => ?_)
  cases d with
  | true => exact ha pins s1 σ H1 D I1 q1
  | false => exact hb pins s1 σ H1 D I1 q1
end
abbrev TG := V → St → Hp → (St → Hp → Prop) → Prop
abbrev TGs := List V → St → Hp → (St → Hp → Prop) → Prop
def PG (X : Cx) (target : Expr) (t : TG) : Prop :=
  ∀ (pins : List (Addr × Obj)) (s : Shared) (σ : St) (H : Hp) (v : V) (u : Value) (Q : St → Hp → Prop), Inv X pins σ H s → RelV v u → t v σ H Q →
    wpAny (model X.prog X.w) X.A (assign target X.env u) (fun _ s' => ∃ σ' H', Inv X pins σ' H' s' ∧ Q σ' H') X.xe s
def PGs (X : Cx) (ts : List Expr) (t : TGs) : Prop :=
  ∀ (pins : List (Addr × Obj)) (s : Shared) (σ : St) (H : Hp) (vs : List V) (us : List Value) (Q : St → Hp → Prop), Inv X pins σ H s → Vals vs us → t vs σ H Q →
    wpAny (model X.prog X.w) X.A (assignInOrder ((assignEach ts X.env).map (·.2)) us) (fun _ s' => ∃ σ' H', Inv X pins σ' H' s' ∧ Q σ' H') X.xe s
abbrev TSet := V → V → V → Hp → (Hp → Prop) → Prop
def PSet (X : Cx) (t : TSet) : Prop :=
  ∀ (pins : List (Addr × Obj)) (s : Shared) (σ : St) (H : Hp) (o i v : V) (ov iv u : Value) (Q : Hp → Prop), Inv X pins σ H s → RelV o ov → RelV i iv → RelV v u → t o i v H Q →
    wpAny (model X.prog X.w) X.A (setItem ov iv u) (fun _ s' => ∃ H', Inv X pins σ H' s' ∧ Q H') X.xe s
section
variable {X : Cx} {pos : Pos}
def gName (i : Nat) : TG := fun v σ H Q => Q (σ.set i (some v)) H
theorem pg_name {i : Nat} {x : Str} (hN : X.N.Nodup) (hi : X.N[i]? = some x) (hx : Loc X.env.scope x) (hf : X.fn x = true ∨ X.env.scope.names.lookup x = some .local := by first | exact .inl rfl | exact .inr rfl | assumption) : PG X (.Name x pos) (gName i) := by
  intro pins s σ H v u Q I r h
  exact wpAny_assign_Name (store_ok I hN hi hx r (fun s' I' => ⟨_, H, I', h⟩) hf)
def gNil : TGs := fun vs σ H Q => vs = [] ∧ Q σ H
def gCons (t : TG) (u : TGs) : TGs := fun vs σ H Q => ∃ v r, vs = v :: r ∧ t v σ H fun σ' H' => u r σ' H' Q
theorem pgs_nil : PGs X [] gNil := by
  intro pins s σ H vs us Q I r h
  obtain ⟨e, h⟩ := h
  subst e
  cases r
  exact assignInOrder_nil ⟨σ, H, I, h⟩
theorem pgs_cons {e : Expr} {es : List Expr} {t : TG} {u : TGs} (h1 : PG X e t) (h2 : PGs X es u)
    (hs : (assignEach (e :: es) X.env).map (·.2) = assign e X.env :: (assignEach es X.env).map (·.2) := by rfl) : PGs X (e :: es) (gCons t u) := by
  intro pins s σ H vs us Q I r h
  obtain ⟨v, vr, e1, h⟩ := h
  subst e1
  cases r with
  | cons r rr =>
    rw [hs]
    refine assignInOrder_cons (thn (h1 pins s σ H _ _ _ I r h) fun _ s1 ⟨σ1, H1, I1, q1⟩ => ?_)
    exact h2 pins s1 σ1 H1 _ _ Q I1 rr q1
def gTup (K : PySem.W.Frag) (n : Nat) (t : TGs) : TG := fun v σ H Q => ∃ a xs, v = .ref a ∧ SqT K H a xs ∧ xs.length = n ∧ t xs σ H Q
theorem pg_tup {es : List Expr} {k : Nat} {t : TGs} {n : Nat} (hc : X.calm = true) (h : PGs X es t)
    (hn : (assignEach es X.env).length = n := by rfl) (hst : (assignEach es X.env).findIdx? (·.1) = none := by rfl) : PG X (.Tuple es k pos) (gTup X.K n t) := by
  intro pins s σ H v u Q I r hw
  obtain ⟨a, xs, e1, hq, hl, hw⟩ := hw
  subst e1
  cases r
  obtain ⟨its, rv, ht, hz⟩ := I.tuple hq
  refine assign_Tuple_tuple (I.ok.hd hc) ht (by simp [hn, ← hl, rv.length]) hst fun h' hx => ?_
  have I1 : Inv X pins σ H { s with heap := h' } := I.kept (t' := s.toks) fun b o e => hx b o (Nat.ne_of_lt (Heap.lt_size e)) e
  exact h pins _ σ H xs _ Q I1 (by simpa using rv) hw
def gSub (to ti : TE) (t : TSet) : TG := fun v σ H Q => to σ H fun o H1 => ti σ H1 fun i H2 => t o i v H2 fun H3 => Q σ H3
theorem pg_sub {o i : Expr} {to ti : TE} {t : TSet} (ho : PE X o to) (hi : PE X i ti) (hs : PSet X t)
    (ha : ∀ v, assign (.Subscript o i pos) X.env v = (do
      let ov ← holding [v] (eval o X.env)
      let iv ← holding [v, ov] (eval i X.env)
      standAt pos
      holding [v, ov, iv] (setItem ov iv v)
      release [v, ov, iv] []) := by intro _; rfl) : PG X (.Subscript o i pos) (gSub to ti t) := by
  intro pins s σ H v u Q I r h
  rw [ha]
  refine wpAny_bind (wpAny_holding (thn (ho pins s σ H _ I h) fun ov s1 ⟨x, H1, I1, r1, q1⟩ => ?_))
  refine wpAny_bind (wpAny_holding (thn (hi pins s1 σ H1 _ I1 q1) fun iv s2 ⟨y, H2, I2, r2, q2⟩ => ?_))
  refine wpAny_bind (wpAny_standAt (wpAny_bind (wpAny_holding (thn (hs pins s2 σ H2 x y v ov iv u _ I2 r1 r2 r q2) fun _ s3 ⟨H3, I3, q3⟩ => ?_))))
  exact wpAny_release ⟨σ, H3, I3, q3⟩
def tAsg (te : TE) (g : TG) : TS := fun D σ H => te σ H fun x H1 => g x σ H1 D.nx
theorem ps_asg {tg e : Expr} {te : TE} {g : TG} (he : PE X e te) (hg : PG X tg g) (hs : swapsWithSole [tg] e pos.line X.env = pure false := by rfl) (hw : swappedStores [tg] e X.env = pure none := by rfl)
    (h1 : (assignEach [tg] X.env).map (·.2) = [assign tg X.env] := by rfl) : PS X (.Assign [tg] e pos) (tAsg te g) := by
  intro pins s σ H D I h
  refine wpAny_Assign_stores (thn (he pins s σ H _ I h) fun v s1 ⟨x, H1, I1, r1, q1⟩ => ?_) hs hw
  rw [h1]
  exact thn (hg pins s1 σ H1 x v _ I1 r1 q1) fun _ s2 q => q
theorem ps_set {i : Nat} {x : Str} {e : Expr} {te : TE} {pos' : Pos} (hN : X.N.Nodup) (hi : X.N[i]? = some x) (hx : Loc X.env.scope x) (he : PE X e te) (hs : swapsWith e (some (.Name x pos')) pos.line X.env = pure false := by rfl) (hf : X.fn x = true ∨ X.env.scope.names.lookup x = some .local := by first | exact .inl rfl | exact .inr rfl | assumption) :
    PS X (.Assign [.Name x pos'] e pos) (tAsg te (gName i)) := by
  intro pins s σ H D I h
  refine wpAny_Assign_Name (thn (he pins s σ H _ I h) fun v s1 ⟨y, H1, I1, r1, q1⟩ => ?_) hs
  exact store_ok I1 hN hi hx r1 (fun s2 I2 => ⟨_, H1, I2, q1⟩) hf
end
section
variable {X : Cx} {pos : Pos}
def tWhile (c : TT) (tb : TS) : TS := fun D σ H => ∃ W : Nat → St → Hp → Prop, (∃ m, W m σ H) ∧ ∀ m σ H, W m σ H →
  c σ H fun b H1 => if b = true then ∃ N : St → Hp → Prop, (∀ σ' H', N σ' H' → ∃ m', m' < m ∧ W m' σ' H') ∧ tb { D with nx := N, ct := N, bk := D.nx } σ H1 else D.nx σ H1
theorem ps_while {c : Expr} {body : List Stmt} {tc : TT} {tb : TS} (hp : PassesOwn (model X.prog X.w) X.A X.env X.xe) (hc : PT X c tc) (hb : PSs X body tb) : PS X (.While c body [] pos) (tWhile tc tb) := by
  intro pins s σ H D I h
  obtain ⟨W, ⟨m0, w0⟩, turn⟩ := h
  refine wpAny_While (codeAny_whileLoop (fun n s' => ∃ σ' H', Inv X pins σ' H' s' ∧ W n σ' H') ?_ m0 ⟨σ, H, I, w0⟩)
  rintro n s1 ⟨σ1, H1, I1, w1⟩
  refine wpAny_passesOwn hp (thn (hc pins s1 σ1 H1 _ I1 (turn n σ1 H1 w1)) fun b s2 ⟨H2, I2, q2⟩ => ?_)
  cases b with
  | true =>
    obtain ⟨N, hN, q2⟩ := q2
    rw [if_pos rfl]
    refine wpAny_passesOwn hp (thn (hb pins s2 σ1 H2 _ I2 q2) fun f s3 q3 => ?_)
    cases f with
    | next =>
      obtain ⟨σ3, H3, I3, n3⟩ := q3
      obtain ⟨m', hm, w3⟩ := hN σ3 H3 n3
      exact ⟨m', hm, σ3, H3, I3, w3⟩
    | cont =>
      obtain ⟨σ3, H3, I3, n3⟩ := q3
      obtain ⟨m', hm, w3⟩ := hN σ3 H3 n3
      exact ⟨m', hm, σ3, H3, I3, w3⟩
    | brk => exact q3
    | ret v => exact q3
  | false =>
    rw [if_neg Bool.false_ne_true]
    exact wpAny_execs_nil ⟨σ1, H2, I2, q2⟩
end
structure It where
  go : Nat → Hp → Prop
  yld : Nat → Hp → V → Hp → Prop
  stop : Nat → Hp → Prop
def FpOk (X : Cx) (pins : List (Addr × Obj)) (H : Hp) (b : Addr) : Prop :=
  H b = none ∧ b ≠ X.env.locals ∧ b ∉ X.fs ∧ (b ∈ X.ex ∨ X.s₀.heap.objs.size ≤ b) ∧ (∀ x c, X.env.cells.lookup x = some c → c ≠ b) ∧ ∀ p ∈ X.pn ++ pins, p.1 ≠ b
theorem Inv.fpOk {X : Cx} {pins : List (Addr × Obj)} {σ : St} {H H' : Hp} {s : Shared} {b : Addr} (I : Inv X pins σ H s) (hb : s.heap.objs.size ≤ b) (hn : H' b = none) : FpOk X pins H' b := by
  refine ⟨hn, Nat.ne_of_gt (Nat.lt_of_lt_of_le I.lt hb), I.nofs hb, .inr (Nat.le_trans I.sz hb), fun x c e z => ?_, fun p hp z => ?_⟩
  · obtain ⟨v, q⟩ := I.cell x c e
    exact absurd (Nat.lt_of_lt_of_le q.lt (by rw [z]; exact hb)) (Nat.lt_irrefl _)
  · exact absurd (Nat.lt_of_lt_of_le (Heap.lt_size (I.pin p hp).1) (by rw [z]; exact hb)) (Nat.lt_irrefl _)
structure Turn (P : Program) (w : World) (K : PySem.W.Frag) (tg : Expr) (J : It) (fp : List Addr) (it : Addr) (tn : Nat → Heap → Prop) : Prop where
  mem : it ∈ fp
  obj : ∀ i h, tn i h → ∀ b ∈ fp, ∃ o, h.get? b = some o ∧ ∀ v, o.data ≠ .cell v
  keep : ∀ i h h', tn i h → (∀ b ∈ fp, ∀ o, h.get? b = some o → h'.get? b = some o) → tn i h'
  item : ∀ (X : Cx), X.prog = P → X.w = w → X.K = K → X.calm = true → ∀ (i : Nat) (pins : List (Addr × Obj)) (s : Shared) (σ : St) (H : Hp) (E : Value → Shared → Prop), Inv X pins σ H s → (∀ b ∈ fp, FpOk X pins H b) → tn i s.heap → J.go i H →
    wpAny (model P w) X.A (pyNext (.ref it)) (fun r s1 => ∃ u, r = some u ∧
      wpAny (model P w) X.A (letOwnedTupleGo tg (.ref it) u) (fun _ s2 => ∃ x H', Inv X pins σ H' s2 ∧ RelV x u ∧ J.yld i H x H' ∧ tn (i + 1) s2.heap ∧ ∀ b ∈ fp, H' b = none) E s1) E s
  done : ∀ (X : Cx), X.prog = P → X.w = w → X.K = K → X.calm = true → ∀ (i : Nat) (pins : List (Addr × Obj)) (s : Shared) (σ : St) (H : Hp) (E : Value → Shared → Prop), Inv X pins σ H s → (∀ b ∈ fp, FpOk X pins H b) → tn i s.heap → J.stop i H →
    wpAny (model P w) X.A (pyNext (.ref it)) (fun r s1 => r = none ∧ Inv X pins σ H s1) E s
  self : ∀ (A : Around) (i : Nat) (s : Shared) (Q : Value → Shared → Prop) (E : Value → Shared → Prop), tn i s.heap → Q (.ref it) s → wpAny (model P w) A (pyIter (.ref it)) Q E s
abbrev TI := St → Hp → (It → Hp → Prop) → Prop
def PIE (X : Cx) (pins : List (Addr × Obj)) (σ : St) (tg : Expr) (R : It → Hp → Prop) (itv : Value) (s2 : Shared) : Prop :=
  ∃ (it : Addr) (fp : List Addr) (tn : Nat → Heap → Prop) (J : It) (H' : Hp), itv = .ref it ∧ Inv X pins σ H' s2 ∧ Turn X.prog X.w X.K tg J fp it tn ∧ tn 0 s2.heap ∧ (∀ b ∈ fp, FpOk X pins H' b) ∧ R J H'
def PI (X : Cx) (tg iter : Expr) (wi : TI) : Prop :=
  ∀ (pins : List (Addr × Obj)) (s : Shared) (σ : St) (H : Hp) (R : It → Hp → Prop), Inv X pins σ H s → wi σ H R →
    wpAny (model X.prog X.w) X.A (eval iter X.env) (fun v s1 => wpAny (model X.prog X.w) X.A (pyIter v) (PIE X pins σ tg R) X.xe s1) X.xe s
theorem go_of {M : Model} {A : Around} {E : Value → Shared → Prop} {s : Shared} {tg : Expr} {it : Addr} {u : Value} {o : Obj} {n : String} {vs : Array Value} {Q : Unit → Shared → Prop} (ho : s.heap.get? it = some o) (hc : o.cls = .type n) (hd : o.data = .fields vs)
    (hn : ["enumerate", "zip", "dict_itemiterator", "dict_reverseitemiterator", "odict_iterator", "itertools.zip_longest", "itertools.pairwise"].contains n = false) (hQ : Q () s) : wpAny M A (letOwnedTupleGo tg (.ref it) u) Q E s := by
  unfold letOwnedTupleGo
  cases tg <;> first
    | exact wpAny_pure hQ
    | (cases u <;> first
        | exact wpAny_pure hQ
        | (refine wpAny_bind (wpAny_load ho ?_)
           rw [hc, hd]
           show wpAny M A (if (["enumerate", "zip", "dict_itemiterator", "dict_reverseitemiterator", "odict_iterator", "itertools.zip_longest", "itertools.pairwise"].contains n && vs[0]? == some (rawInt _)) = true then _ else _) Q E s
           rw [if_neg (by intro h; rw [hn, Bool.false_and] at h; cases h)]
           exact wpAny_pure hQ))
def Itl (K : PySem.W.Frag) (a : Addr) : It :=
  ⟨fun i H => ∃ xs x, SqL K H a xs ∧ xs[i]? = some x, fun i H x H' => H' = H ∧ ∀ xs, SqL K H a xs → xs[i]? = some x, fun i H => ∃ xs, SqL K H a xs ∧ xs.length ≤ i⟩
def Itr (lo : Int) (n : Nat) : It := ⟨fun i _ => i < n, fun i H x H' => H' = H ∧ x = .int (lo + i), fun i _ => n ≤ i⟩
theorem turn_list {P : Program} {w : World} {K : PySem.W.Frag} {tg : Expr} (a it : Addr) : Turn P w K tg (Itl K a) [it] it (fun i h => h.IsListIter it a i) where
  mem := by simp
  obj := fun i h st b hb => by
    have e : b = it := by simpa using hb
    subst e
    obtain ⟨o, e, c, d⟩ := st
    exact ⟨o, e, fun v z => by rw [d] at z; cases z⟩
  keep := fun i h h' st k => st.at fun o e => k it (by simp) o e
  item := by
    intro X hP hw hK hc i pins s σ H E I hf st hg
    subst hP hw hK
    obtain ⟨xs, x, hq, hx⟩ := hg
    obtain ⟨its, rv, p, hz⟩ := I.list hq
    obtain ⟨u, hu, ru⟩ := rv.get hx
    obtain ⟨f0, f1, f2, f3, f4, f5⟩ := hf it (by simp)
    refine wpAny_pyNext_list_item st p.isList (x := u) (by simpa using hu) fun h' st' sb => ?_
    have I1 : Inv X pins σ H { s with heap := h' } := I.turned (t' := s.toks) (fun b o hb e => (sb.2 b hb).trans e) f0 f1 f3 f4 f5
    obtain ⟨o, e, c, d⟩ := id st'
    exact ⟨u, rfl, go_of (s := { s with heap := h' }) e c d (by decide) ⟨x, H, I1, ru, ⟨rfl, fun ys hy => by rw [I.list_inj hy hq]; exact hx⟩, st', fun b hb => (hf b hb).1⟩⟩
  done := by
    intro X hP hw hK hc i pins s σ H E I hf st hg
    subst hP hw hK
    obtain ⟨xs, hq, hx⟩ := hg
    obtain ⟨its, rv, p, hz⟩ := I.list hq
    obtain ⟨f0, f1, f2, f3, f4, f5⟩ := hf it (by simp)
    have hl := rv.length
    exact wpAny_pyNext_list_end (I.ok.hd hc) st p.isList (by simp; omega) fun h' eb => ⟨rfl, I.turned (t' := s.toks) (fun b o hb e => eb b o hb e) f0 f1 f3 f4 f5⟩
  self := fun _ _ _ _ _ st h => wpAny_pyIter_listiter st h
theorem turn_range {P : Program} {w : World} {K : PySem.W.Frag} {tg : Expr} (it : Addr) (lo : Int) (n : Nat) : Turn P w K tg (Itr lo n) [it] it (fun i h => IsRangeIter h it (lo + (i : Nat) * 1) ((n : Int) - (i : Nat)) 1) where
  mem := by simp
  obj := fun i h st b hb => by
    have e : b = it := by simpa using hb
    subst e
    exact ⟨_, st, fun v z => by
      have z' : Data.fields _ = Data.cell v := z
      cases z'⟩
  keep := fun i h h' st k => k it (by simp) _ st
  item := by
    intro X hP hw hK hc i pins s σ H E I hf st hg
    subst hP hw hK
    obtain ⟨f0, f1, f2, f3, f4, f5⟩ := hf it (by simp)
    have W := Walks.range (prog := X.prog) (w := X.w) (I.ok.hd hc) it lo 1 n
    refine W.item i s _ _ hg st fun v h' tk hv st' kk => ?_
    obtain ⟨t, rfl⟩ := hv
    have I1 : Inv X pins σ H { s with heap := h', toks := tk } := I.turned (fun b o hb e => kk b o (by simpa using hb) e) f0 f1 f3 f4 f5
    refine ⟨_, rfl, go_of (s := { s with heap := h', toks := tk }) (n := "range_iterator") st' rfl rfl (by decide) ⟨.int (lo + i), H, I1, ⟨t, ?_⟩, ⟨rfl, rfl⟩, st', fun b hb => (hf b hb).1⟩⟩
    rw [Int.mul_one]
  done := by
    intro X hP hw hK hc i pins s σ H E I hf st hg
    subst hP hw hK
    obtain ⟨f0, f1, f2, f3, f4, f5⟩ := hf it (by simp)
    exact wpAny_pyNext_range_end (I.ok.hd hc) st (by have : n ≤ i := hg; omega) fun h' eb => ⟨rfl, I.turned (t' := s.toks) (fun b o hb e => eb b o hb e) f0 f1 f3 f4 f5⟩
  self := fun _ _ _ _ _ st h => wpAny_pyIter_rangeiter st h
end L2
namespace L2
open PySem PySem.Spec PyProof.Rows
section
variable {X : Cx} {tg : Expr}
def iList (K : PySem.W.Frag) (tl : TE) : TI := fun σ H R => tl σ H fun x H1 => ∃ a, x = .ref a ∧ (∃ xs, SqL K H1 a xs) ∧ R (Itl K a) H1
theorem pi_list {l : Expr} {tl : TE} (hl : PE X l tl) : PI X tg l (iList X.K tl) := by
  intro pins s σ H R I h
  refine thn (hl pins s σ H _ I h) fun v s1 ⟨x, H1, I1, r1, q1⟩ => ?_
  obtain ⟨a, e, ⟨xs, hq⟩, q⟩ := q1
  subst e
  cases r1
  obtain ⟨its, rv, p, hz⟩ := I1.list hq
  refine wpAny_pyIter_list p.isList ?_
  refine ⟨s1.heap.objs.size, [s1.heap.objs.size], _, _, H1, rfl, I1.kept (t' := s1.toks) fun b o e => Heap.get?_push_of_some _ e, turn_list a _, ⟨_, Heap.get?_push_size _ rfl, rfl, rfl⟩, fun b hb => ?_, q⟩
  have e : b = s1.heap.objs.size := by simpa using hb
  subst e
  exact I1.fpOk (Nat.le_refl _) (I1.hok.fresh (Nat.le_refl _))
theorem range_it {pins : List (Addr × Obj)} {σ : St} {H : Hp} {s : Shared} {R : It → Hp → Prop} {E : Value → Shared → Prop} {lo hi : Int} {t u v : Tok} {tk : Nat} (I : Inv X pins σ H s) (h1 : -(2 ^ 62) ≤ lo) (h2 : lo < 2 ^ 62) (h3 : -(2 ^ 62) ≤ hi) (h4 : hi < 2 ^ 62)
    (q : R (Itr lo (hi - lo).toNat) H) : wpAny (model X.prog X.w) X.A (pyIter (.ref s.heap.objs.size)) (PIE X pins σ tg R) E { s with heap := s.heap.push { cls := .type "range", data := .fields #[.int lo t, .int hi u, .int 1 v] }, toks := tk } := by
  refine wpAny_pyIter_range (IsRange.new ..) (small_one h1 h2 h3 h4) ?_
  have I1 : Inv X pins σ H { s with heap := s.heap.push { cls := .type "range", data := .fields #[.int lo t, .int hi u, .int 1 v] }, toks := tk } := I.kept fun b o e => Heap.get?_push_of_some _ e
  refine ⟨(s.heap.push { cls := .type "range", data := .fields #[.int lo t, .int hi u, .int 1 v] }).objs.size, [(s.heap.push { cls := .type "range", data := .fields #[.int lo t, .int hi u, .int 1 v] }).objs.size], _, _, H, rfl,
    I1.kept (t' := tk) fun b o e => Heap.get?_push_of_some _ e, turn_range _ lo (hi - lo).toNat, ?_, fun b hb => ?_, q⟩
  · have e1 : lo + ((0 : Nat) : Int) * 1 = lo := by simp
    have e2 : (((hi - lo).toNat : Nat) : Int) - ((0 : Nat) : Int) = Builtin.Range.rangeSize lo hi 1 := by rw [rangeSize_one]; split <;> omega
    show IsRangeIter _ _ (lo + ((0 : Nat) : Int) * 1) ((((hi - lo).toNat : Nat) : Int) - ((0 : Nat) : Int)) 1
    rw [e1, e2]
    exact Heap.get?_push_size _ rfl
  · have e : b = (s.heap.push { cls := .type "range", data := .fields #[.int lo t, .int hi u, .int 1 v] }).objs.size := by simpa using hb
    subst e
    exact I1.fpOk (Nat.le_refl _) (I1.hok.fresh (Nat.le_refl _))
def iRng1 (ta : TA) : TI := fun σ H R => ta σ H fun vs H1 => ∃ j : Int, vs = [.int j] ∧ -(2 ^ 62) ≤ j ∧ j < 2 ^ 62 ∧ R (Itr 0 j.toNat) H1
theorem pi_range1 {a : Expr} {ta : TA} {p pos : Pos} (hg : Gl X "range") (hm : X.mg "range" = none) (ha : PA X [a] ta) (hs : starEach [a] X.env = [(false, eval a X.env)] := by rfl) : PI X tg (.Call (.Name "range" p) [a] [] pos) (iRng1 ta) := by
  intro pins s σ H R I h
  refine Call_ (ld_blt I hg hm boot_range (PyProof.Rows.callWith_type1 (thn (ha pos pins s σ H _ I h) fun us s1 ⟨vs, H1, I1, r1, q1⟩ => ?_) hs rfl))
  obtain ⟨j, e, q1, q2, q⟩ := q1
  subst e
  cases r1 with
  | cons r rr =>
    cases rr
    obtain ⟨t, rfl⟩ := r
    exact call_range_1 (range_it I1 (by omega) (by omega) q1 q2 (by simpa using q))
def tFor (wi : TI) (g : TG) (tb : TS) : TS := fun D σ H => wi σ H fun J H1 => ∃ W : Nat → Nat → St → Hp → Prop, (∃ m, W 0 m σ H1) ∧ ∀ i m σ H, W i m σ H →
  (J.stop i H ∧ D.nx σ H) ∨ (J.go i H ∧ ∃ N : St → Hp → Prop, (∀ σ' H', N σ' H' → ∃ m', m' < m ∧ W (i + 1) m' σ' H') ∧ ∀ x H', J.yld i H x H' → g x σ H' fun σ2 H2 => tb { D with nx := N, ct := N, bk := D.nx } σ2 H2)
def pinsAt (fp : List Addr) (h : Heap) : List (Addr × Obj) := fp.filterMap fun b => (h.get? b).map fun o => (b, o)
theorem mem_pinsAt {fp : List Addr} {h : Heap} {b : Addr} {o : Obj} (hb : b ∈ fp) (e : h.get? b = some o) : (b, o) ∈ pinsAt fp h := List.mem_filterMap.mpr ⟨b, hb, by rw [e]; rfl⟩
theorem of_pinsAt {fp : List Addr} {h : Heap} {p : Addr × Obj} (hp : p ∈ pinsAt fp h) : p.1 ∈ fp ∧ h.get? p.1 = some p.2 := by
  obtain ⟨b, hb, e⟩ := List.mem_filterMap.mp hp
  cases q : h.get? b with
  | none => rw [q] at e; cases e
  | some o =>
    rw [q] at e
    have e' : (b, o) = p := Option.some.inj e
    subst e'
    exact ⟨hb, q⟩
theorem Inv.pinned {pins : List (Addr × Obj)} {σ : St} {H : Hp} {s : Shared} {fp : List Addr} (I : Inv X pins σ H s) (hf : ∀ b ∈ fp, FpOk X pins H b) (ho : ∀ b ∈ fp, ∃ o, s.heap.get? b = some o ∧ ∀ v, o.data ≠ .cell v) : Inv X (pins ++ pinsAt fp s.heap) σ H s :=
  I.pins_of fun p hp => (List.mem_append.mp hp).elim (fun z => I.pin p (List.mem_append_right _ z)) fun z => by
    obtain ⟨hb, e⟩ := of_pinsAt z
    obtain ⟨f0, f1, f2, _⟩ := hf p.1 hb
    obtain ⟨o, e', d⟩ := ho p.1 hb
    rw [e] at e'; cases e'
    exact ⟨e, f0, f1, f2, d⟩
theorem Inv.unpinned {pins pl : List (Addr × Obj)} {σ : St} {H : Hp} {s : Shared} (I : Inv X (pins ++ pl) σ H s) : Inv X pins σ H s := I.pins_of fun p hp => I.pin p (List.mem_append_right _ (List.mem_append_left _ hp))
theorem ps_for {iter : Expr} {body : List Stmt} {wi : TI} {g : TG} {tb : TS} {pos : Pos} (hp : PassesOwn (model X.prog X.w) X.A X.env X.xe) (hc : X.calm = true) (hi : PI X tg iter wi) (hg : PG X tg g) (hb : PSs X body tb)
    (hs : ∀ x, foldedSetIterable iter X.env x = pure x := by intro _; rfl) : PS X (.For tg iter body [] pos) (tFor wi g tb) := by
  intro pins s σ H D I h
  refine wpAny_For (thn (hi pins s σ H _ I h) fun v s1 h1 => thn h1 fun itv s2 h2 => ?_) hs
  obtain ⟨it, fp, tn, J, H2, e, I2, T, st2, f2, W, ⟨m0, w0⟩, turn⟩ := h2
  subst e
  -- what stays true of the iterator's objects through the loop
  have stat : ∀ {H' : Hp}, (∀ b ∈ fp, H' b = none) → ∀ b ∈ fp, FpOk X pins H' b := fun hn b hb => ⟨hn b hb, (f2 b hb).2⟩
  refine codeAny_forLoop_any (fun n s' => ∃ i σ' H', Inv X pins σ' H' s' ∧ tn i s'.heap ∧ (∀ b ∈ fp, H' b = none) ∧ W i n σ' H') ?_ m0 ⟨0, σ, H2, I2, st2, fun b hb => (f2 b hb).1, w0⟩
  rintro n s3 ⟨i, σ3, H3, I3, st3, fr3, w3⟩
  rcases turn i n σ3 H3 w3 with ⟨stop, qn⟩ | ⟨go, N, hN, step⟩
  · refine wpAny_passesOwn hp (thn (T.done X rfl rfl rfl hc i pins s3 σ3 H3 X.xe I3 (stat fr3) st3 stop) fun r s4 ⟨hr, I4⟩ => ?_)
    subst hr
    exact wpAny_execs_nil ⟨σ3, H3, I4, qn⟩
  · refine wpAny_passesOwn hp (thn (T.item X rfl rfl rfl hc i pins s3 σ3 H3 X.xe I3 (stat fr3) st3 go) fun r s4 ⟨u, hr, h4⟩ => ?_)
    subst hr
    refine wpAny_passesOwn hp (thn h4 fun _ s5 ⟨x, H5, I5, r5, y5, st5, fr5⟩ => ?_)
    have I5' := I5.pinned (stat fr5) (T.obj _ _ st5)
    refine wpAny_passesOwn hp (thn (hg _ s5 σ3 H5 x u _ I5' r5 (step x H5 y5)) fun _ s6 ⟨σ6, H6, I6, q6⟩ => ?_)
    refine wpAny_passesOwn hp (thn (hb _ s6 σ6 H6 _ I6 q6) fun f s7 q7 => ?_)
    have again : ∀ {σ7 : St} {H7 : Hp}, Inv X (pins ++ pinsAt fp s5.heap) σ7 H7 s7 → N σ7 H7 → ∃ m, m < n ∧ ∃ i σ' H', Inv X pins σ' H' s7 ∧ tn i s7.heap ∧ (∀ b ∈ fp, H' b = none) ∧ W i m σ' H' := fun {σ7 H7} I7 n7 => by
      obtain ⟨m', hm, w7⟩ := hN σ7 H7 n7
      refine ⟨m', hm, i + 1, σ7, H7, I7.unpinned, T.keep _ _ _ st5 fun b hb o e => (I7.pin (b, o) (List.mem_append_right _ (List.mem_append_right _ (mem_pinsAt hb e)))).1, fun b hb => ?_, w7⟩
      obtain ⟨o, e, d⟩ := T.obj _ _ st5 b hb
      exact (I7.pin (b, o) (List.mem_append_right _ (List.mem_append_right _ (mem_pinsAt hb e)))).2.1
    cases f with
    | next => obtain ⟨σ7, H7, I7, n7⟩ := q7; exact again I7 n7
    | cont => obtain ⟨σ7, H7, I7, n7⟩ := q7; exact again I7 n7
    | brk => obtain ⟨σ7, H7, I7, q7⟩ := q7; exact ⟨σ7, H7, I7.unpinned, q7⟩
    | ret v => obtain ⟨x7, σ7, H7, I7, r7, q7⟩ := q7; exact ⟨x7, σ7, H7, I7.unpinned, r7, q7⟩
end
theorem for_list {K : PySem.W.Frag} {a : Addr} {xs : List V} {g : TG} {tb : TS} {D : Ends} {σ : St} {H : Hp} (Pv : Nat → St → Hp → Prop) (h0 : Pv 0 σ H) (hl : ∀ i σ H, i ≤ xs.length → Pv i σ H → SqL K H a xs)
    (hs : ∀ i x σ H, xs[i]? = some x → Pv i σ H → g x σ H fun σ2 H2 => tb { D with nx := Pv (i + 1), ct := Pv (i + 1), bk := D.nx } σ2 H2) (hd : ∀ σ H, Pv xs.length σ H → D.nx σ H) :
    ∃ W : Nat → Nat → St → Hp → Prop, (∃ m, W 0 m σ H) ∧ ∀ i m σ H, W i m σ H →
      ((Itl K a).stop i H ∧ D.nx σ H) ∨ ((Itl K a).go i H ∧ ∃ N : St → Hp → Prop, (∀ σ' H', N σ' H' → ∃ m', m' < m ∧ W (i + 1) m' σ' H') ∧ ∀ x H', (Itl K a).yld i H x H' → g x σ H' fun σ2 H2 => tb { D with nx := N, ct := N, bk := D.nx } σ2 H2) := by
  refine ⟨fun i m σ H => m = xs.length - i ∧ i ≤ xs.length ∧ Pv i σ H, ⟨xs.length, by simp, Nat.zero_le _, h0⟩, ?_⟩
  rintro i m σ H ⟨rfl, hi, p⟩
  have q := hl i σ H hi p
  by_cases hlt : i < xs.length
  · refine .inr ⟨⟨xs, xs[i], q, by simp [hlt]⟩, Pv (i + 1), fun σ' H' p' => ⟨xs.length - (i + 1), by omega, rfl, hlt, p'⟩, fun x H' y => ?_⟩
    obtain ⟨e, y⟩ := y
    subst e
    exact hs i x σ _ (y xs q) p
  · have e : i = xs.length := by omega
    subst e
    exact .inl ⟨⟨xs, q, Nat.le_refl _⟩, hd σ H p⟩
theorem for_range {lo : Int} {n : Nat} {g : TG} {tb : TS} {D : Ends} {σ : St} {H : Hp} (Pv : Nat → St → Hp → Prop) (h0 : Pv 0 σ H)
    (hs : ∀ i σ H, i < n → Pv i σ H → g (.int (lo + i)) σ H fun σ2 H2 => tb { D with nx := Pv (i + 1), ct := Pv (i + 1), bk := D.nx } σ2 H2) (hd : ∀ σ H, Pv n σ H → D.nx σ H) :
    ∃ W : Nat → Nat → St → Hp → Prop, (∃ m, W 0 m σ H) ∧ ∀ i m σ H, W i m σ H →
      ((Itr lo n).stop i H ∧ D.nx σ H) ∨ ((Itr lo n).go i H ∧ ∃ N : St → Hp → Prop, (∀ σ' H', N σ' H' → ∃ m', m' < m ∧ W (i + 1) m' σ' H') ∧ ∀ x H', (Itr lo n).yld i H x H' → g x σ H' fun σ2 H2 => tb { D with nx := N, ct := N, bk := D.nx } σ2 H2) := by
  refine ⟨fun i m σ H => m = n - i ∧ i ≤ n ∧ Pv i σ H, ⟨n, by simp, Nat.zero_le _, h0⟩, ?_⟩
  rintro i m σ H ⟨rfl, hi, p⟩
  by_cases hlt : i < n
  · refine .inr ⟨hlt, Pv (i + 1), fun σ' H' p' => ⟨n - (i + 1), by omega, rfl, hlt, p'⟩, fun x H' y => ?_⟩
    obtain ⟨e, y⟩ := y
    subst e y
    exact hs i σ _ hlt p
  · have e : i = n := by omega
    subst e
    exact .inl ⟨Nat.le_refl _, hd σ H p⟩
end L2
namespace L2
open PySem PySem.Spec PyProof.Rows
abbrev R2 := V → V → Hp → VK → Prop
def OpR (X : Cx) (f : Value → Value → Sem Value) (r : R2) : Prop :=
  ∀ (pins : List (Addr × Obj)) (s : Shared) (σ : St) (H : Hp) (x y : V) (v u : Value) (Q : VK), Inv X pins σ H s → RelV x v → RelV y u → r x y H Q →
    wpAny (model X.prog X.w) X.A (f v u) (EP X pins σ Q) X.xe s
def CallR (X : Cx) (f : Value) (r : List V → Hp → VK → Prop) : Prop :=
  ∀ (pins : List (Addr × Obj)) (s : Shared) (σ : St) (H : Hp) (xs : List V) (us : List Value) (Q : VK), Inv X pins σ H s → Vals xs us → r xs H Q →
    wpAny (model X.prog X.w) X.A (call f us) (EP X pins σ Q) X.xe s
def tOp (r : R2) (ta tb : TE) : TE := fun σ H Q => ta σ H fun x H1 => tb σ H1 fun y H2 => r x y H2 Q
def rI (C : Int → Int → Prop) (g : Int → Int → V) : R2 := fun x y H Q => ∃ i j, x = .int i ∧ y = .int j ∧ C i j ∧ Q (g i j) H
def rI0 (g : Int → Int → V) : R2 := fun x y H Q => ∃ i j, x = .int i ∧ y = .int j ∧ Q (g i j) H
section
variable {X : Cx} {a b c : Expr} {ta tb tc : TE} {pos : Pos}
theorem binT (ha : PE X a ta) (hb : PE X b tb) {pins : List (Addr × Obj)} {s : Shared} {σ : St} {H : Hp} {R : V → V → Hp → Prop} (I : Inv X pins σ H s)
    (h : ta σ H fun x H1 => tb σ H1 fun y H2 => R x y H2) {Q : Value → Shared → Prop} {f : Value → Value → Sem Value}
    (hf : ∀ v u s2 x y H2, Inv X pins σ H2 s2 → RelV x v → RelV y u → R x y H2 → wpAny (model X.prog X.w) X.A (f v u) Q X.xe s2) :
    wpAny (model X.prog X.w) X.A (eval a X.env) (fun v s₁ => wpAny (model X.prog X.w) X.A (eval b X.env) (fun u s₂ => wpAny (model X.prog X.w) X.A (f v u) Q X.xe s₂) X.xe s₁) X.xe s := by
  refine thn (ha pins s σ H _ I h) fun v s1 ⟨x, H1, I1, r1, q1⟩ => ?_
  refine thn (hb pins s1 σ H1 _ I1 q1) fun u s2 ⟨y, H2, I2, r2, q2⟩ => ?_
  exact hf v u s2 x y H2 I2 r1 r2 q2
theorem pe_op {op : Operator} {r : R2} (ho : OpR X (binaryOp op) r) (ha : PE X a ta) (hb : PE X b tb) : PE X (.BinOp a op b pos) (tOp r ta tb) := by
  intro pins s σ H Q I h
  exact wpAny_BinOp (binT ha hb I h fun v u s2 x y H2 I2 rx ry q => ho pins s2 σ H2 x y v u Q I2 rx ry q)
theorem opI {f : Value → Value → Sem Value} {C : Int → Int → Prop} {g : Int → Int → Int}
    (rule : ∀ (i j : Int) (t u : Tok) (s : Shared) (Q : Value → Shared → Prop) (E : Value → Shared → Prop), C i j → Q (.int (g i j) s.toks) { s with toks := s.toks + 1 } → wpAny (model X.prog X.w) X.A (f (.int i t) (.int j u)) Q E s) :
    OpR X f (rI C fun i j => .int (g i j)) := by
  intro pins s σ H x y v u Q I rx ry h
  obtain ⟨i, j, rfl, rfl, hc, q⟩ := h
  obtain ⟨t, rfl⟩ := rx
  obtain ⟨t', rfl⟩ := ry
  exact rule i j t t' s _ _ hc ⟨.int (g i j), H, I.tok _, ⟨_, rfl⟩, q⟩
theorem opI0 {f : Value → Value → Sem Value} {g : Int → Int → Int}
    (rule : ∀ (i j : Int) (t u : Tok) (s : Shared) (Q : Value → Shared → Prop) (E : Value → Shared → Prop), Q (.int (g i j) s.toks) { s with toks := s.toks + 1 } → wpAny (model X.prog X.w) X.A (f (.int i t) (.int j u)) Q E s) :
    OpR X f (rI0 fun i j => .int (g i j)) := by
  intro pins s σ H x y v u Q I rx ry h
  obtain ⟨i, j, rfl, rfl, q⟩ := h
  obtain ⟨t, rfl⟩ := rx
  obtain ⟨t', rfl⟩ := ry
  exact rule i j t t' s _ _ ⟨.int (g i j), H, I.tok _, ⟨_, rfl⟩, q⟩
theorem opB0 {f : Value → Value → Sem Value} {g : Int → Int → Bool}
    (rule : ∀ (i j : Int) (t u : Tok) (s : Shared) (Q : Value → Shared → Prop) (E : Value → Shared → Prop), Q (.bool (g i j)) s → wpAny (model X.prog X.w) X.A (f (.int i t) (.int j u)) Q E s) :
    OpR X f (rI0 fun i j => .bl (g i j)) := by
  intro pins s σ H x y v u Q I rx ry h
  obtain ⟨i, j, rfl, rfl, q⟩ := h
  obtain ⟨t, rfl⟩ := rx
  obtain ⟨t', rfl⟩ := ry
  exact rule i j t t' s _ _ ⟨.bl (g i j), H, I, rfl, q⟩
def CDiv (i j : Int) : Prop := 0 < j ∧ j < 1073741824
def CMul (i j : Int) : Prop := (-(2 ^ 64) < i ∧ i < 2 ^ 64) ∨ (-(2 ^ 64) < j ∧ j < 2 ^ 64)
theorem CMul.ok {i j : Int} (h : CMul i j) : IntMulOk i j := by
  rcases h with ⟨h1, h2⟩ | ⟨h1, h2⟩
  · exact .of_left (intBits_le_64 h1 h2)
  · exact .of_right (intBits_le_64 h1 h2)
theorem op_add : OpR X (binaryOp .Add) (rI0 fun i j => .int (i + j)) := opI0 fun _ _ _ _ _ _ _ q => add_int q
theorem op_sub : OpR X (binaryOp .Sub) (rI0 fun i j => .int (i - j)) := opI0 fun _ _ _ _ _ _ _ q => sub_int q
theorem op_mul : OpR X (binaryOp .Mult) (rI CMul fun i j => .int (i * j)) := opI fun _ _ _ _ _ _ _ hc q => mul_int q hc.ok
theorem op_fdiv : OpR X (binaryOp .FloorDiv) (rI CDiv fun i j => .int (i / j)) := opI fun i j _ _ _ _ _ hc q => by
  have h1 : (0 : Int) < j := hc.1
  have h2 : j < 1073741824 := hc.2
  exact floordiv_int (by omega) (by rw [Int.fdiv_eq_ediv_of_nonneg i (by omega)]; exact q) (.inl (PyProof.noPylong_small (by omega)))
theorem op_mod : OpR X (binaryOp .Mod) (rI (fun _ j => 0 < j) fun i j => .int (i % j)) := opI fun i j _ _ _ _ _ hc q => by
  have h1 : (0 : Int) < j := hc
  exact mod_int' (by omega) (by rw [Int.fmod_eq_emod_of_nonneg i (by omega)]; exact q)
end
def scal : V → V → Bool
  | .non, .non => true | .non, .int _ => true | .int _, .non => true | .non, .bl _ => true | .bl _, .non => true | .non, .str _ => true | .str _, .non => true
  | .int _, .int _ => true | .bl _, .bl _ => true | .str _, .str _ => true | .byt _, .byt _ => true
  | .int _, .str _ => true | .str _, .int _ => true | .bl _, .str _ => true | .str _, .bl _ => true
  | _, _ => false
def rEq : R2 := fun x y H Q => scal x y = true ∧ Q (.bl (decide (x = y))) H
def rNe : R2 := fun x y H Q => scal x y = true ∧ Q (.bl (!decide (x = y))) H
theorem dec_int {i j : Int} : decide (V.int i = V.int j) = (i == j) := by
  rw [Bool.eq_iff_iff]
  simp
theorem dec_bl {i j : Bool} : decide (V.bl i = V.bl j) = (i == j) := by
  rw [Bool.eq_iff_iff]
  simp
theorem dec_str {i j : Str} : decide (V.str i = V.str j) = (i == j) := by
  rw [Bool.eq_iff_iff]
  simp
theorem dec_byt {i j : Array UInt8} : decide (V.byt i = V.byt j) = (i.toList == j.toList) := by
  rw [Bool.eq_iff_iff]
  cases i
  cases j
  simp
section
variable {X : Cx} {a b c : Expr} {ta tb tc : TE} {pos : Pos}
theorem fin_bl {pins : List (Addr × Obj)} {σ : St} {H : Hp} {s : Shared} {Q : VK} {k k' : Bool} (I : Inv X pins σ H s) (q : Q (.bl k) H) (e : k = k') : EP X pins σ Q (.bool k') s := by
  subst e
  exact ⟨.bl k, H, I, rfl, q⟩
theorem op_eq : OpR X (compareOp .Eq) rEq := by
  intro pins s σ H x y v u Q I rx ry h
  obtain ⟨hs, q⟩ := h
  cases x with
  | non =>
    cases rx
    cases y with
    | non => cases ry; exact PySem.EqNone.eq_none_none (fin_bl I q (by simp))
    | bl j => cases ry; exact PySem.EqNone.eq_none_bool (fin_bl I q (by simp))
    | int j => obtain ⟨t', rfl⟩ := ry; exact PySem.EqNone.eq_none_int (fin_bl I q (by simp))
    | str j => obtain ⟨t', rfl⟩ := ry; exact PySem.EqNone.eq_none_str (fin_bl I q (by simp))
    | _ => exact absurd (show false = true from hs) Bool.false_ne_true
  | bl i =>
    cases rx
    cases y with
    | non => cases ry; exact PySem.EqNone.eq_bool_none (fin_bl I q (by simp))
    | bl j => cases ry; exact eq_bool (fin_bl I q dec_bl)
    | str j => obtain ⟨t', rfl⟩ := ry; exact PySem.EqMixed.eq_bool_str (fin_bl I q (by simp))
    | _ => exact absurd (show false = true from hs) Bool.false_ne_true
  | int i =>
    obtain ⟨t, rfl⟩ := rx
    cases y with
    | non => cases ry; exact PySem.EqNone.eq_int_none (fin_bl I q (by simp))
    | int j => obtain ⟨t', rfl⟩ := ry; exact eq_int (fin_bl I q dec_int)
    | str j => obtain ⟨t', rfl⟩ := ry; exact PySem.EqMixed.eq_int_str (fin_bl I q (by simp))
    | _ => exact absurd (show false = true from hs) Bool.false_ne_true
  | str i =>
    obtain ⟨t, rfl⟩ := rx
    cases y with
    | non => cases ry; exact PySem.EqNone.eq_str_none (fin_bl I q (by simp))
    | bl j => cases ry; exact PySem.EqMixed.eq_str_bool (fin_bl I q (by simp))
    | int j => obtain ⟨t', rfl⟩ := ry; exact PySem.EqMixed.eq_str_int (fin_bl I q (by simp))
    | str j => obtain ⟨t', rfl⟩ := ry; exact eq_str (fin_bl I q dec_str)
    | _ => exact absurd (show false = true from hs) Bool.false_ne_true
  | byt i =>
    obtain ⟨t, rfl⟩ := rx
    cases y with
    | byt j => obtain ⟨t', rfl⟩ := ry; exact PySem.W.eq_bytes (fin_bl I q dec_byt)
    | _ => exact absurd (show false = true from hs) Bool.false_ne_true
  | _ => cases y <;> exact absurd (show false = true from hs) Bool.false_ne_true
theorem op_ne : OpR X (compareOp .NotEq) rNe := by
  intro pins s σ H x y v u Q I rx ry h
  obtain ⟨hs, q⟩ := h
  cases x with
  | non =>
    cases rx
    cases y with
    | non => cases ry; exact PySem.EqNone.ne_none_none (fin_bl I q (by simp))
    | bl j => cases ry; exact PySem.EqNone.ne_none_bool (fin_bl I q (by simp))
    | int j => obtain ⟨t', rfl⟩ := ry; exact PySem.EqNone.ne_none_int (fin_bl I q (by simp))
    | str j => obtain ⟨t', rfl⟩ := ry; exact PySem.EqNone.ne_none_str (fin_bl I q (by simp))
    | _ => exact absurd (show false = true from hs) Bool.false_ne_true
  | bl i =>
    cases rx
    cases y with
    | non => cases ry; exact PySem.EqNone.ne_bool_none (fin_bl I q (by simp))
    | bl j => cases ry; exact ne_bool (fin_bl I q (congrArg not dec_bl))
    | str j => obtain ⟨t', rfl⟩ := ry; exact PySem.EqMixed.ne_bool_str (fin_bl I q (by simp))
    | _ => exact absurd (show false = true from hs) Bool.false_ne_true
  | int i =>
    obtain ⟨t, rfl⟩ := rx
    cases y with
    | non => cases ry; exact PySem.EqNone.ne_int_none (fin_bl I q (by simp))
    | int j => obtain ⟨t', rfl⟩ := ry; exact ne_int (fin_bl I q (congrArg not dec_int))
    | str j => obtain ⟨t', rfl⟩ := ry; exact PySem.EqMixed.ne_int_str (fin_bl I q (by simp))
    | _ => exact absurd (show false = true from hs) Bool.false_ne_true
  | str i =>
    obtain ⟨t, rfl⟩ := rx
    cases y with
    | non => cases ry; exact PySem.EqNone.ne_str_none (fin_bl I q (by simp))
    | bl j => cases ry; exact PySem.EqMixed.ne_str_bool (fin_bl I q (by simp))
    | int j => obtain ⟨t', rfl⟩ := ry; exact PySem.EqMixed.ne_str_int (fin_bl I q (by simp))
    | str j => obtain ⟨t', rfl⟩ := ry; exact ne_str (fin_bl I q (congrArg not dec_str))
    | _ => exact absurd (show false = true from hs) Bool.false_ne_true
  | byt i =>
    obtain ⟨t, rfl⟩ := rx
    cases y with
    | byt j => obtain ⟨t', rfl⟩ := ry; exact PySem.W.ne_bytes (fin_bl I q (congrArg not dec_byt))
    | _ => exact absurd (show false = true from hs) Bool.false_ne_true
  | _ => cases y <;> exact absurd (show false = true from hs) Bool.false_ne_true
theorem op_lt : OpR X (compareOp .Lt) (rI0 fun i j => .bl (decide (i < j))) := opB0 fun _ _ _ _ _ _ _ q => lt_int q
theorem op_le : OpR X (compareOp .LtE) (rI0 fun i j => .bl (decide (i ≤ j))) := opB0 fun _ _ _ _ _ _ _ q => le_int q
theorem op_gt : OpR X (compareOp .Gt) (rI0 fun i j => .bl (decide (j < i))) := opB0 fun _ _ _ _ _ _ _ q => gt_int q
theorem nomark (b : Expr) {op : CmpOp} (h : op ≠ .In := by decide) (h2 : op ≠ .NotIn := by decide) : behindInMarks op b = false := by
  have e1 : (op == CmpOp.In) = false := by cases op <;> first | rfl | exact absurd rfl h
  have e2 : (op == CmpOp.NotIn) = false := by cases op <;> first | rfl | exact absurd rfl h2
  cases b <;> simp [behindInMarks, e1, e2]
theorem pe_cmpR {op : CmpOp} {r : R2} (ho : OpR X (compareOp op) r) (ha : PE X a ta) (hb : PE X b tb) (hm : behindInMarks op b = false) : PE X (.Compare a [op] [b] pos) (tOp r ta tb) := by
  intro pins s σ H Q I h
  exact wpAny_Compare1 (binT ha hb I h fun v u s2 x y H2 I2 rx ry q => ho pins s2 σ H2 x y v u Q I2 rx ry q) hm
def tTest (t : TE) : TT := fun σ H Q => t σ H fun x H' => ∃ k, x = .bl k ∧ Q k H'
theorem pt_cmpR {op : CmpOp} {r : R2} (ho : OpR X (compareOp op) r) (ha : PE X a ta) (hb : PE X b tb) (hm : behindInMarks op b = false) : PT X (.Compare a [op] [b] pos) (tTest (tOp r ta tb)) := by
  intro pins s σ H Q I h
  refine wpAny_isTrue_Compare1 (thn (ha pins s σ H _ I h) fun v s1 ⟨x, H1, I1, r1, q1⟩ => thn (hb pins s1 σ H1 _ I1 q1) fun u s2 ⟨y, H2, I2, r2, q2⟩ =>
    thn (ho pins s2 σ H2 x y v u _ I2 r1 r2 q2) fun c s3 ⟨z, H3, I3, r3, k, e, q3⟩ => ?_) hm
  subst e
  cases r3
  exact wpAny_truthy_bool ⟨H3, I3, q3⟩
theorem line63 : (sizeLine : Nat) < 2 ^ 63 := by rw [sizeLine_eq]; decide
theorem vals1 {x : V} {us : List Value} (r : Vals [x] us) : ∃ u, us = [u] ∧ RelV x u := by
  cases r with
  | cons r1 r2 => cases r2; exact ⟨_, rfl, r1⟩
theorem vals2 {x y : V} {us : List Value} (r : Vals [x, y] us) : ∃ u w', us = [u, w'] ∧ RelV x u ∧ RelV y w' := by
  cases r with
  | cons r1 r2 =>
    cases r2 with
    | cons r3 r4 => cases r4; exact ⟨_, _, rfl, r1, r3⟩
end
end L2
namespace L2
open PySem PySem.Spec PyProof.Rows
structure ObjM (h : Heap) (x dx C : Addr) (mA : Str → Option Value) : Prop where
  obj : h.get? x = some (PySem.W.instObj C dx)
  ns : h.Ns1 dx mA
  ne : dx ≠ x
theorem lookIn_ns {h : Heap} {dx : Addr} {mA : Str → Option Value} (n : h.Ns1 dx mA) : ∃ od, h.get? dx = some od ∧ ∀ name, PySem.W.lookIn name od = some (mA name) := by
  obtain ⟨o, es, ep, ho, hd, hk, _, hm⟩ := n
  refine ⟨o, ho, fun name => ?_⟩
  have e := hm name
  unfold nsFind findBy at e
  rw [← Array.find?_toList] at e
  unfold PySem.W.lookIn
  rw [hd]
  dsimp only
  split
  · rename_i y q
    rw [q] at e
    exact congrArg some e
  · rename_i q
    rw [q] at e
    have a : es.toList.any (·.refKey) = false := by
      rw [List.any_eq_false]
      intro y hy
      obtain ⟨z, t, hkey⟩ := hk y (Array.mem_toList_iff.mp hy)
      simp [DictEntry.refKey, hkey]
    have a' : ¬ es.toList.any (·.refKey) = true := by rw [a]; exact Bool.false_ne_true
    rw [if_neg a']
    exact congrArg some e
theorem ObjM.look {h : Heap} {x dx C : Addr} {mA : Str → Option Value} (I : ObjM h x dx C mA) : ∃ od, PySem.W.InstAt h x (PySem.W.instObj C dx) C (some od) ∧ ∀ name, PySem.W.lookIn name od = some (mA name) :=
  let ⟨od, ho, hl⟩ := lookIn_ns I.ns
  ⟨od, ⟨I.obj, rfl, rfl, ho⟩, hl⟩
section
variable {prog : Program} {w : World} {A : Around} {E : Value → Shared → Prop} {s : Shared} {K : PySem.W.Frag} {x dx C f : Addr} {mA : Str → Option Value} {name : Str} {v : Value}
end
section
variable {P : Program} {w : World} {H H' : Hp} {h h' : Heap} {a C dx : Addr} {fs fs' : List (Str × V)}
theorem ins_get (hok : HOk P w H h) (e : H a = some (.ins C dx fs)) : ∃ mA, ObjM h a dx C mA ∧ (∀ f, RelO (fs.lookup f) (mA f)) ∧ PySem.Within mA (fs.map (·.1)) ∧ fs.length ≤ 1000 ∧ H dx = some (.own a) := by
  obtain ⟨d, z, ne, ob, mA, n, r, q⟩ := (show ObjOk P w H h a (.ins C dx fs) from hok a _ e)
  exact ⟨mA, ⟨ob, n, ne⟩, r, q, z, d⟩
end
structure Cls (K : PySem.W.Frag) (C : Addr) : Prop where
  pg : PySem.W.plainGet K C Str.empty = true
  hd : PySem.W.hasDictIn K C = true
  po : PySem.W.plainOver K C = true
  sa : PySem.W.findIn K (.ref C) "__setattr__" = some (some (.builtin "object.__setattr__"))
theorem Cls.get {K : PySem.W.Frag} {C : Addr} (c : Cls K C) (f : Str) : PySem.W.plainGet K C f = true := c.pg
structure Con (K : PySem.W.Frag) (C : Addr) (f : Str) (v : V) (u : Value) : Prop where
  at_ : PySem.W.findIn K (.ref C) f = some (some u)
  rel : RelV v u
  get : PySem.W.specialIn K u "__get__" = some none
  cp : PySem.W.copiedNames.contains f = false
structure Meth (K : PySem.W.Frag) (C : Addr) (m : Str) (f : Addr) : Prop where
  at_ : PySem.W.findIn K (.ref C) m = some (some (.ref f))
  fn : PySem.W.isFn K (.ref f) = true
  kp : PySem.W.keepIn K (.ref f) = true
section
variable {X : Cx} {pins : List (Addr × Obj)} {σ : St} {H : Hp} {s : Shared} {a C dx : Addr} {fs : List (Str × V)} {f : Str} {v : V} {A : Around} {E : Value → Shared → Prop}
end
section
variable {X : Cx} {o e value : Expr} {f : Str} {pos pos' tpos : Pos} {ta tv : TE}
end
section
variable {X : Cx} {pins : List (Addr × Obj)} {σ : St} {H : Hp} {s : Shared} {A : Around} {E : Value → Shared → Prop} {Q : Value → Shared → Prop} {c : Value} {b : Bool}
inductive TyOf (K : PySem.W.Frag) (H : Hp) : V → Value → Prop where
  | non : TyOf K H .non (.type "NoneType")
  | bl (x : Bool) : TyOf K H (.bl x) (.type "bool")
  | int (i : Int) : TyOf K H (.int i) (.type "int")
  | str (x : Str) : TyOf K H (.str x) (.type "str")
  | flt (x : UInt64) : TyOf K H (.flt x) (.type "float")
  | lst {a : Addr} {xs : List V} (e : H a = some (.lst xs)) : TyOf K H (.ref a) (.type "list")
  | frz {a : Addr} {o : Obj} {xs : List V} (e : H a = some (.frz o (.lst xs))) : TyOf K H (.ref a) (.type "list")
  | tup {a : Addr} {xs : List V} (e : H a = some (.tup xs)) : TyOf K H (.ref a) (.type "tuple")
  | dK {a : Addr} {kvs : List (Key × V)} (e : H a = some (.dK kvs)) : TyOf K H (.ref a) (.type "dict")
  | dT {a : Addr} {kvs : List (List Key × V)} (e : H a = some (.dT kvs)) : TyOf K H (.ref a) (.type "dict")
  | ins {a C dx : Addr} {fs : List (Str × V)} (e : H a = some (.ins C dx fs)) (cl : Cls K C) (ha : PySem.W.findIn K (.ref C) "__class__" = some (some (.builtin "object.__class__")))
      (hn : PySem.W.specialIn K (.builtin "object.__class__") "__get__" = some (some (.builtin "getset_descriptor.__get__"))) (htk : PySem.W.takesIn K (.builtin "object.__class__") = some true)
      (hm : PySem.W.mroIn K C (.type "object") = some true) : TyOf K H (.ref a) (.ref C)
theorem isinst_ok {x : V} {u t : Value} (I : Inv X pins σ H s) (rx : RelV x u) (ty : TyOf X.K H x t) (e : PySem.W.kitOne X.K t c = some b) (h : ∀ tk, Q (.bool b) { s with toks := tk }) :
    wpAny (model X.prog X.w) A (call (.builtin "isinstance") [u, c]) Q E s := by
  cases ty with
  | non => cases (show u = Value.none from rx); exact PySem.W.kia_one PySem.W.kitx_none I.kIn True.intro e (fun z => nomatch z) h
  | bl y => cases (show u = Value.bool y from rx); exact PySem.W.kia_one PySem.W.kitx_bool I.kIn True.intro e (fun z => nomatch z) h
  | int i => obtain ⟨t, q⟩ := (show ∃ t, u = Value.int i t from rx); cases q; exact PySem.W.kia_one PySem.W.kitx_int I.kIn True.intro e (fun z => nomatch z) h
  | str y => obtain ⟨t, q⟩ := (show ∃ t, u = Value.str y t from rx); cases q; exact PySem.W.kia_one PySem.W.kitx_str I.kIn True.intro e (fun z => nomatch z) h
  | flt y => obtain ⟨t, q⟩ := (show ∃ t, u = Value.float y t from rx); cases q; exact PySem.W.kia_one PySem.W.kitx_float I.kIn True.intro e (fun z => nomatch z) h
  | @lst a xs ea =>
    cases (show u = Value.ref a from rx)
    obtain ⟨_, _, n, _, h1⟩ := (show ObjOk X.prog X.w H s.heap a (.lst xs) from I.hok a _ ea)
    exact PySem.W.kia_one PySem.W.kitx_list I.kIn ⟨_, h1, rfl⟩ e (fun z => nomatch z) h
  | @frz a ob xs ea =>
    cases (show u = Value.ref a from rx)
    obtain ⟨_, _, _, n, _, h1⟩ := (show ObjOk X.prog X.w H s.heap a (.frz ob (.lst xs)) from I.hok a _ ea)
    exact PySem.W.kia_one PySem.W.kitx_list I.kIn ⟨_, h1, rfl⟩ e (fun z => nomatch z) h
  | @tup a xs ea =>
    cases (show u = Value.ref a from rx)
    obtain ⟨_, _, _, p⟩ := (show ObjOk X.prog X.w H s.heap a (.tup xs) from I.hok a _ ea)
    obtain ⟨o, h1, h2, _⟩ := p
    exact PySem.W.kia_one PySem.W.kitx_tuple I.kIn ⟨o, h1, h2⟩ e (fun z => nomatch z) h
  | @dK a kvs ea =>
    cases (show u = Value.ref a from rx)
    obtain ⟨_, _, vs, _, p⟩ := (show ObjOk X.prog X.w H s.heap a (.dK kvs) from I.hok a _ ea)
    obtain ⟨o, es, ep, h1, h2, _⟩ := p
    exact PySem.W.kia_one PySem.W.kitx_dict I.kIn ⟨o, h1, h2.1⟩ e (fun z => nomatch z) h
  | @dT a kvs ea =>
    cases (show u = Value.ref a from rx)
    obtain ⟨_, _, xs, _, o, es, ep, h1, h2, _⟩ := (show ObjOk X.prog X.w H s.heap a (.dT kvs) from I.hok a _ ea)
    exact PySem.W.kia_one PySem.W.kitx_dict I.kIn ⟨o, h1, h2.1⟩ e (fun z => nomatch z) h
  | @ins a C dx fs ea cl ha hn htk hm =>
    cases (show u = Value.ref a from rx)
    obtain ⟨mA, O, _⟩ := ins_get I.hok ea
    obtain ⟨od, J, _⟩ := O.look
    exact PySem.W.kia_one (PySem.W.kitx_own (cl.get _) cl.hd ha hn htk hm) I.kIn J e (fun z => nomatch z) h
end
end L2
namespace L2
open PySem PySem.Spec PyProof.Rows
structure Room (k : Nat) (A : Around) : Prop where
  hd : A.handled = none
  dp : A.depth + 3 * k + 5 < recursionLimit
  un : A.units + 16 * k + 200 < cLine
theorem Room.mono {j k : Nat} {A : Around} (r : Room k A) (h : j ≤ k) : Room j A := ⟨r.hd, by have := r.dp; omega, by have := r.un; omega⟩
theorem Room.deeper {k : Nat} {A : Around} (r : Room (k + 1) A) (env : Env) : Room k (A.deeper env) :=
  ⟨r.hd, by have := r.dp; show A.depth + 1 + 3 * k + 5 < _; omega, by have := r.un; show A.units + 3 + 16 * k + 200 < _; omega⟩
theorem Room.in1 {k : Nat} {A : Around} (r : Room (k + 1) A) : Room k A.in1 :=
  ⟨r.hd, by have := r.dp; show A.depth + 3 * k + 5 < _; omega, by have := r.un; show A.units + 1 + 16 * k + 200 < _; omega⟩
theorem Room.depth {k : Nat} {A : Around} (r : Room k A) : A.depth < recursionLimit := by have := r.dp; omega
theorem Room.units {k : Nat} {A : Around} (r : Room k A) : A.units + 64 < cLine := by have := r.un; omega
def tNil : TA := fun _ H Q => Q [] H
def tCons (ta : TE) (tr : TA) : TA := fun σ H Q => ta σ H fun x H1 => tr σ H1 fun xs H2 => Q (x :: xs) H2
section
variable {X : Cx} {e : Expr} {es : List Expr} {te : TE} {t : TA} {pos : Pos}
theorem pa_nil : PA X [] tNil := fun _ _ _ _ H Q I h => Calls.spliced_nil ⟨[], H, I, .nil, h⟩
theorem pa_cons (ha : PE X e te) (hr : PA X es t) (hs : starEach (e :: es) X.env = (false, eval e X.env) :: starEach es X.env := by rfl) : PA X (e :: es) (tCons te t) := by
  intro pos pins s σ H Q I h
  rw [hs]
  show wpAny _ _ (spliced ((false, eval e X.env) :: backTo pos (starEach es X.env))) _ _ s
  refine Calls.spliced_cons (thn (ha pins s σ H _ I h) fun u s1 ⟨x, H1, I1, r1, q1⟩ => ?_)
  exact thn (hr pos pins s1 σ H1 _ I1 q1) fun us s2 ⟨xs, H2, I2, r2, q2⟩ => ⟨x :: xs, H2, I2, .cons r1 r2, q2⟩
def tLst (t : TA) : TE := fun σ H Q => t σ H fun xs H1 => xs.length ≤ sizeLine ∧ ∀ p, H1 p = none → Q (.ref p) (upd H1 p (.lst xs))
theorem pe_lst (h : PA X es t) : PE X (.List es pos) (tLst t) := by
  intro pins s σ H Q I hq
  refine wpAny_List_spliced (thn (h pos pins s σ H _ I hq) fun us s1 ⟨xs, H1, I1, r, z, q⟩ => ⟨by rw [← r.length]; exact z, ?_⟩)
  have hf : H1 s1.heap.objs.size = none := I1.hok.fresh (Nat.le_refl _)
  refine ⟨.ref s1.heap.objs.size, upd H1 s1.heap.objs.size (.lst xs), I1.laid (t' := s1.toks) (fun b u e => Heap.get?_push_of_some _ e) (Nat.le_refl _) ?_, rfl, q _ hf⟩
  exact ⟨z, us, 0, r, Heap.get?_push_size _ rfl⟩
end
abbrev Sp := List V → Hp → VK → XK → Prop
abbrev CXT := List Env → Hp → Shared → XK → Value → Shared → Prop
structure Env0 (P : Program) (w : World) (K : PySem.W.Frag) (mg : Str → Option Value) (base : Heap) (A : Around) (outer : List Env) (s : Shared) (H : Hp) : Prop where
  frames : A.frames = some outer
  mod : Mod K mg base
  bs : ∀ b o, base.get? b = some o → s.heap.get? b = some o ∧ H b = none
  bsz : base.objs.size ≤ s.heap.objs.size
  funs : s.heap.FunFrames base outer
  frf : ∀ b ∈ frs outer, H b = none
  hok : HOk P w H s.heap
  bare : AllBare s.gens
def CE (outer : List Env) (P : Program) (w : World) (H : Hp) (s : Shared) (Q : VK) (u : Value) (s' : Shared) : Prop :=
  ∃ v H', s'.os = s.os ∧ AllBare s'.gens ∧ Un (frs outer) [] H H' s.heap s'.heap ∧ HOk P w H' s'.heap ∧ RelV v u ∧ Q v H'
def CR (CX : CXT) (outer : List Env) (P : Program) (w : World) (H : Hp) (s : Shared) (Q : VK) (E : XK) (r : Result) (s' : Shared) : Prop :=
  match r with
  | .ok (.ret u) => CE outer P w H s Q u s'
  | .ok _ => False
  | .error e => CX outer H s E e s'
structure FnOk (P : Program) (w : World) (K : PySem.W.Frag) (mg : Str → Option Value) (base : Heap) (CX : CXT) (k : Nat) (f : Addr) (fd : FuncData) (ps : List Str) (sp : Sp) : Prop where
  len : ∀ vs H Q E, sp vs H Q E → vs.length = ps.length
  run : ∀ (A : Around) (outer : List Env) (s : Shared) (H : Hp) (args : Args) (us : List Value) (vs : List V) (Q : VK) (E : XK), Room k A → Env0 P w K mg base A outer s H → BindsTo s fd args (ps.zip us) → Vals vs us → sp vs H Q E →
    codeAny (model P w) A (.call (.ref f) args) (CR CX outer P w H s Q E) s
theorem FnOk.mono {P : Program} {w : World} {K : PySem.W.Frag} {mg : Str → Option Value} {base : Heap} {CX : CXT} {j k : Nat} {f : Addr} {fd : FuncData} {ps : List Str} {sp : Sp} (F : FnOk P w K mg base CX j f fd ps sp) (h : j ≤ k) :
    FnOk P w K mg base CX k f fd ps sp := ⟨F.len, fun A outer s H args us vs Q E hr => F.run A outer s H args us vs Q E (hr.mono h)⟩
theorem Env0.in1 {P : Program} {w : World} {K : PySem.W.Frag} {mg : Str → Option Value} {base : Heap} {A : Around} {outer : List Env} {s : Shared} {H : Hp} (e : Env0 P w K mg base A outer s H) :
    Env0 P w K mg base A.in1 outer s H := ⟨e.frames, e.mod, e.bs, e.bsz, e.funs, e.frf, e.hok, e.bare⟩
section
variable {X : Cx} {pins : List (Addr × Obj)} {σ : St} {H : Hp} {s s' : Shared}
theorem Inv.env0 (I : Inv X pins σ H s) : Env0 X.prog X.w X.K X.mg X.base X.A X.stack s H :=
  ⟨I.ok.frames, I.ok.mod, I.bs, Nat.le_trans I.ok.bsz I.sz, I.stack, I.stkFree, I.hok, I.bare⟩
theorem Inv.after {Q : VK} {u : Value} (I : Inv X pins σ H s) (h : CE X.stack X.prog X.w H s Q u s') : EP X pins σ Q u s' := by
  obtain ⟨v, H', os, bare, un, hok, r, q⟩ := h
  obtain ⟨hh, g, d, t, os'⟩ := s'
  obtain rfl : os' = s.os := os
  exact ⟨v, H', I.call (h' := hh) (g' := g) (d' := d) (t' := t) (ch := []) un hok bare (fun b z => absurd z (by simp)), r, q⟩
end
def tCall (sp : Sp) (dvs : List V) (E : XK) (t : TA) : TE := fun σ H Q => t σ H fun vs H1 => sp (vs ++ dvs) H1 Q E
def Binds (K : PySem.W.Frag) (fd : FuncData) (ps : List Str) (ds : List Value) : Prop :=
  ∀ (s : Shared) (us : List Value), K.In s.heap → (us ++ ds).length = ps.length → BindsTo s fd ⟨us, []⟩ (ps.zip (us ++ ds))
theorem Binds.all {K : PySem.W.Frag} {fd : FuncData} {ps : List Str} (h : ∀ us : List Value, us.length = ps.length → bindArgs fd ⟨us, []⟩ = pure (ps.zip us)) : Binds K fd ps [] := fun s us _ hl => by
  rw [List.append_nil] at hl ⊢
  exact .of_eq (h us hl)
def Passes (CX : CXT) (X : Cx) (E : XK) : Prop := ∀ (pins : List (Addr × Obj)) (σ : St) (H : Hp) (s : Shared) (e : Value) (s' : Shared), Inv X pins σ H s → CX X.stack H s E e s' → X.xe e s'
section
variable {X : Cx} {CX : CXT} {k : Nat} {f C : Addr} {fd : FuncData} {ps : List Str} {sp : Sp} {dvs : List V} {ds : List Value} {E : XK} {x m : Str} {p pos apos : Pos} {e o : Expr} {es : List Expr} {ta : TE} {t : TA}
theorem run_fn {pins : List (Addr × Obj)} {σ : St} {H : Hp} {s : Shared} {Q : VK} {us : List Value} {vs : List V} (F : FnOk X.prog X.w X.K X.mg X.base CX k f fd ps sp) (hr : Room k X.A) (hb : Binds X.K fd ps ds) (hd : Vals dvs ds) (hx : Passes CX X E)
    (I : Inv X pins σ H s) (r : Vals vs us) (h : sp (vs ++ dvs) H Q E) : wpAny (model X.prog X.w) X.A (call (.ref f) us) (EP X pins σ Q) X.xe s := by
  have r2 : Vals (vs ++ dvs) (us ++ ds) := r.append hd
  have hl : (us ++ ds).length = ps.length := by rw [← r2.length]; exact F.len _ _ _ _ h
  refine wpAny_call (codeAny_mono (F.run X.A X.stack s H ⟨us, []⟩ (us ++ ds) (vs ++ dvs) Q E hr I.env0 (hb s us I.kIn hl) r2 h) fun r s' hq => ?_)
  cases r with
  | error e => exact hx pins σ H s e s' I hq
  | ok fl =>
    cases fl with
    | ret u => exact I.after hq
    | next => exact False.elim hq
    | brk => exact False.elim hq
    | cont => exact False.elim hq
theorem pe_call (F : FnOk X.prog X.w X.K X.mg X.base CX k f fd ps sp) (hr : Room k X.A) (hg : Gl X x) (hm : X.mg x = some (.ref f)) (hk : PySem.W.keepIn X.K (.ref f) = true) (hb : Binds X.K fd ps ds) (hd : Vals dvs ds) (hx : Passes CX X E)
    (ha : PA X (e :: es) t) (hdb : (x == ("__debug__" : Str)) = false := by decide) (he : starEach (e :: es) X.env = (false, eval e X.env) :: starEach es X.env := by rfl) (hpl : (backTo pos (starEach es X.env)).any (·.1) = false := by rfl) :
    PE X (.Call (.Name x p) (e :: es) [] pos) (tCall sp dvs E t) := by
  intro pins s σ H Q I h
  refine wpAny_Call_Name_kw (ld_glob I hg hm ?_ hdb)
  refine PySem.W.callWith_K (h₀ := X.base) I.ok.mod.kin hk (thn (ha pos pins s σ H _ I h) fun us s1 ⟨vs, H1, I1, r, q⟩ => ⟨I1.kIn, ?_⟩) he hpl
  exact run_fn F hr hb hd hx I1 r q
structure Mk (K : PySem.W.Frag) (C f : Addr) : Prop where
  makes : PySem.W.makesIn K C = true
  init : PySem.W.findIn K (.ref C) "__init__" = some (some (.ref f))
  fn : PySem.W.isFn K (.ref f) = true
  kp : PySem.W.keepIn K (.ref C) = true
end
section
variable {X : Cx} {CX : CXT} {k : Nat} {f C : Addr} {fd : FuncData} {ps ks : List Str} {sp : Sp} {E : XK} {x m : Str} {p pos apos kpos : Pos} {e o : Expr} {es : List Expr} {kws : List Keyword} {te ta : TE} {t tk : TA} {nm : Option Str}
structure KBinds (K : PySem.W.Frag) (fd : FuncData) (ps ks : List Str) (g : List Value → List Value → List Value) (gV : List V → List V → List V) : Prop where
  to : ∀ (s : Shared) (us ws : List Value), K.In s.heap → (g us ws).length = ps.length → BindsTo s fd ⟨us, ks.zip ws⟩ (ps.zip (g us ws))
  rel : ∀ {vs : List V} {us : List Value} {zs : List V} {ws : List Value}, Vals vs us → Vals zs ws → Vals (gV vs zs) (g us ws)
variable {g : List Value → List Value → List Value} {gV : List V → List V → List V}
end
structure FnScope (N P : List Str) (sc : Scope) : Prop where
  kind : sc.kind = .function
  co : sc.isCoroutine = false
  gen : sc.isGenerator = false
  nd : N.Nodup
  pre : N.take P.length = P
  par : ∀ x ∈ P, sc.names.lookup x = some .local ∨ sc.names.lookup x = some .cell
  nofree : ∀ y ∈ sc.names, y.2 ≠ .free
theorem bindL_out {kindOf : Str → Option NameKind} {x : Str} : ∀ {binds : List (Str × Value)} {m : Str → Option Value}, (∀ v, (x, v) ∉ binds) → bindL kindOf binds m x = m x
  | [], _, _ => rfl
  | (n, v) :: r, m, h => by
    unfold bindL
    rw [bindL_out fun w hw => h w (List.mem_cons_of_mem _ hw)]
    split
    · have : x ≠ n := by rintro rfl; exact h v List.mem_cons_self
      simp [this]
    · rfl
theorem bindC_out {kindOf : Str → Option NameKind} {x : Str} : ∀ {binds : List (Str × Value)} {m : Str → Option Value}, (∀ v, (x, v) ∉ binds) → bindC kindOf binds m x = m x
  | [], _, _ => rfl
  | (n, v) :: r, m, h => by
    unfold bindC
    rw [bindC_out fun w hw => h w (List.mem_cons_of_mem _ hw)]
    split
    · rfl
    · have : x ≠ n := by rintro rfl; exact h v List.mem_cons_self
      simp [this]
theorem bindL_get {kindOf : Str → Option NameKind} {x : Str} {v : Value} : ∀ {P : List Str} {vs : List Value} {i : Nat} {m : Str → Option Value}, P.Nodup → P[i]? = some x → vs[i]? = some v → kindOf x = some .local →
    bindL kindOf (P.zip vs) m x = some v
  | [], _, _, _, _, h, _, _ => by simp at h
  | _ :: _, [], _, _, _, _, h, _ => by simp at h
  | p :: P, w :: vs, 0, m, nd, h1, h2, hk => by
    simp at h1 h2; subst h1; subst h2
    show bindL kindOf ((p, w) :: P.zip vs) m p = _
    unfold bindL
    rw [bindL_out fun v hv => (List.nodup_cons.mp nd).1 (List.of_mem_zip hv).1, if_pos hk]
    simp
  | p :: P, w :: vs, i + 1, m, nd, h1, h2, hk => by
    show bindL kindOf ((p, w) :: P.zip vs) m x = _
    unfold bindL
    exact bindL_get (i := i) (List.nodup_cons.mp nd).2 (by simpa using h1) (by simpa using h2) hk
theorem bindC_get {kindOf : Str → Option NameKind} {x : Str} {v : Value} : ∀ {P : List Str} {vs : List Value} {i : Nat} {m : Str → Option Value}, P.Nodup → P[i]? = some x → vs[i]? = some v → kindOf x ≠ some .local →
    bindC kindOf (P.zip vs) m x = some v
  | [], _, _, _, _, h, _, _ => by simp at h
  | _ :: _, [], _, _, _, _, h, _ => by simp at h
  | p :: P, w :: vs, 0, m, nd, h1, h2, hk => by
    simp at h1 h2; subst h1; subst h2
    show bindC kindOf ((p, w) :: P.zip vs) m p = _
    unfold bindC
    rw [bindC_out fun v hv => (List.nodup_cons.mp nd).1 (List.of_mem_zip hv).1, if_neg hk]
    simp
  | p :: P, w :: vs, i + 1, m, nd, h1, h2, hk => by
    show bindC kindOf ((p, w) :: P.zip vs) m x = _
    unfold bindC
    exact bindC_get (i := i) (List.nodup_cons.mp nd).2 (by simpa using h1) (by simpa using h2) hk
def start (N : List Str) (vs : List V) : St := vs.map some ++ List.replicate (N.length - vs.length) none
def cxOf (CX : CXT) (P : Program) (w : World) (K : PySem.W.Frag) (mg : Str → Option Value) (base : Heap) (N : List Str) (qual : Str) (scope : Scope) (f : Addr) (cd : Value) (A : Around) (outer : List Env) (s : Shared) (H : Hp) (E : XK) : Cx where
  prog := P
  w := w
  K := K
  mg := mg
  base := base
  A := A.deeper (envOfC qual scope s.heap.objs.size f cd)
  N := N
  s₀ := s
  H₀ := H
  env := envOfC qual scope s.heap.objs.size f cd
  outer := outer
  stack := envOfC qual scope s.heap.objs.size f cd :: outer
  ex := []
  calm := true
  fn := fun _ => true
  pn := []
  xe := fun e s' => wpAny (model P w) (A.deeper (envOfC qual scope s.heap.objs.size f cd)) (leaving (envOfC qual scope s.heap.objs.size f cd) e) (fun _ s'' => CX outer H s E e s'') (fun e' s'' => CX outer H s E e' s'') s'
theorem cell_has {sc : Scope} {n : Nat} {x : Str} (h : sc.names.lookup x = some .cell) : ∃ c, (cellsFrom n sc.names []).lookup x = some c := by
  have q := PySem.W.cellsFrom_some sc.names n [] (.inl h)
  exact Option.isSome_iff_exists.mp q
theorem inv_start {CX : CXT} {P : Program} {w : World} {K : PySem.W.Frag} {mg : Str → Option Value} {base : Heap} {N ps : List Str} {qual : Str} {scope : Scope} {f : Addr} {cd : Value} {A : Around} {outer : List Env} {s s1 : Shared} {H : Hp} {E : XK} {us : List Value} {vs : List V}
    (S : FnScope N ps scope) (hd : A.handled = none) (e0 : Env0 P w K mg base A outer s H) (hl : vs.length = ps.length) (r : Vals vs us)
    (x : InCallC s s.heap.objs.size (bindL (envOfC qual scope s.heap.objs.size f cd).kindOf (ps.zip us) fun _ => none) (cellsFrom (s.heap.objs.size + 1) scope.names []) (bindC (envOfC qual scope s.heap.objs.size f cd).kindOf (ps.zip us) fun _ => none) s1) :
    Inv (cxOf CX P w K mg base N qual scope f cd A outer s H E) [] (start N vs) H s1 := by
  have hpl : ps.length ≤ N.length := by have := congrArg List.length S.pre; rw [List.length_take] at this; omega
  obtain ⟨h1, tk, rfl, hk⟩ := x.done
  have noA : ∀ b : Addr, b ∉ (cxOf CX P w K mg base N qual scope f cd A outer s H E).ex := fun b z => absurd (show b ∈ ([] : List Addr) from z) (by simp)
  refine ⟨⟨e0.mod, S.kind, rfl, rfl, Nat.le_refl _, fun y z c h1 h2 => ?_, fun y hy => ?_, fun y c _ h => ?_, fun _ => hd, Around.frames_deeper e0.frames, .inr ⟨rfl, rfl⟩, fun b z => absurd z (noA b), e0.bs, e0.bsz, fun b _ _ => noA b, fun b z => absurd z (noA b), e0.funs, e0.frf⟩,
    rfl, e0.bare, Un.kept hk, ⟨_, x.toInCall.ns, fun i y v h1 h2 h3 => ?_⟩, fun y c h => ⟨_, x.cell y c h⟩, e0.hok.fresh (Nat.le_refl _), fun y c h => ?_, fun p hp => absurd (show p ∈ ([] : List (Addr × Obj)) from hp) (by simp), e0.hok.kept hk, ?_⟩
  · exact name_of_addr x.apart (PySem.mem_of_lookup h1) (PySem.mem_of_lookup h2)
  · have hy : scope.names.lookup y = some .cell ∨ scope.names.lookup y = some .free := hy
    rcases hy with hy | hy
    · exact cell_has hy
    · exact absurd rfl (S.nofree _ (PySem.mem_of_lookup hy))
  · exact Nat.le_of_lt (x.above y c (PySem.mem_of_lookup h))
  · have hi : i < vs.length := by
      unfold start at h2
      by_cases hi : i < vs.length
      · exact hi
      · rw [List.getElem?_append_right (by simpa using hi)] at h2
        rw [List.getElem?_replicate] at h2
        split at h2 <;> cases h2
    have ha : vs[i]? = some v := by
      unfold start at h2
      rw [List.getElem?_append_left (by simpa using hi), List.getElem?_map] at h2
      cases e : vs[i]? with
      | none => rw [e] at h2; cases h2
      | some a => rw [e] at h2; cases h2; rfl
    obtain ⟨u, hu, rv⟩ := r.get ha
    have hp : ps[i]? = some y := by
      rw [← S.pre, List.getElem?_take_of_lt (by omega)]; exact h1
    have ndP : ps.Nodup := by rw [← S.pre]; exact S.nd.sublist (List.take_sublist _ _)
    refine ⟨u, rv, ?_⟩
    rcases S.par y (List.mem_of_getElem? hp) with k | k
    · exact .inl ⟨k, bindL_get ndP hp hu k⟩
    · obtain ⟨c, e⟩ := cell_has (n := s.heap.objs.size + 1) k
      refine .inr ⟨.inl k, c, e, ?_⟩
      have q := x.cell y c e
      rw [bindC_get ndP hp hu (by show scope.names.lookup y ≠ _; rw [k]; decide)] at q
      exact q
  · exact e0.hok.fresh (Nat.le_of_lt (x.above y c (PySem.mem_of_lookup h)))
  · unfold start
    show _ = N.length
    rw [List.length_append, List.length_map, List.length_replicate]
    omega
theorem fn_of {CX : CXT} {P : Program} {w : World} {K : PySem.W.Frag} {mg : Str → Option Value} {base : Heap} {k : Nat} {f : Addr} {name qual : Str} {params : Arguments} {body : List Stmt} {scope : Scope} {dV kV doc pm cdv ct oc : Value} {an od : Option Addr}
    {osl : Array (Option Value)} {N ps : List Str} {sp : Sp} (lk : K.lookup f = some ⟨oc, od, .func (PySem.W.fnOf name qual params body scope dV kV doc pm an cdv ct), osl⟩) (hcd : PySem.W.codeIn K cdv qual = true) (S : FnScope N ps scope)
    (len : ∀ vs H Q E, sp vs H Q E → vs.length = ps.length)
    (hbody : ∀ (A : Around) (outer : List Env) (s : Shared) (H : Hp) (vs : List V) (Q : VK) (E : XK), Room k (A.deeper (envOfC qual scope s.heap.objs.size f cdv)) → sp vs H Q E →
      ∃ t, PSs (cxOf CX P w K mg base N qual scope f cdv A outer s H E) body t ∧ t { nx := fun _ H' => Q .non H', rt := Q } (start N vs) H) :
    FnOk P w K mg base CX (k + 1) f (PySem.W.fnOf name qual params body scope dV kV doc pm an cdv ct) ps sp := by
  refine ⟨len, fun A outer s H args us vs Q E hr e0 hb r hsp => ?_⟩
  have hl := len _ _ _ _ hsp
  have KX : K.In s.heap := e0.mod.kin.keeps fun b o e => (e0.bs b o e).1
  have lim : s.heap.NoLimit := e0.mod.nolimit.keeps fun b o e => (e0.bs b o e).1
  have hkind : ∀ y ∈ ps.zip us, scope.names.lookup y.1 = some .local ∨ (scope.names.lookup y.1 = some .cell ∧ ((cellsFrom (s.heap.objs.size + 1) scope.names []).lookup y.1).isSome = true) := fun ⟨n, v⟩ hy => by
    rcases S.par n (List.of_mem_zip hy).1 with q | q
    · exact .inl q
    · exact .inr ⟨q, PySem.W.cellsFrom_some _ _ _ (.inl q)⟩
  refine codeAny_call_function hr.depth (KX _ _ lk) rfl S.co S.gen rfl (PySem.W.codeRec_of KX hcd) (hb _ _ _ _ ?_)
  refine wpAny_newFunctionEnv_cells S.kind hkind fun env he s1 x => ?_
  subst he
  refine ⟨lim.keeps x.toInCall.keep, codeAny_func ?_⟩
  obtain ⟨t, ht, hq⟩ := hbody A outer s H vs Q E (hr.deeper _) hsp
  have I : Inv (cxOf CX P w K mg base N qual scope f cdv A outer s H E) [] (start N vs) H s1 := inv_start S hr.hd e0 hl r x
  refine wpAny_mono (ht [] s1 (start N vs) H _ I hq) (fun fl s' hs => ?_) fun e s' hs => hs
  have fin : ∀ {σ' : St} {H' : Hp} {v : V} {u : Value}, Inv (cxOf CX P w K mg base N qual scope f cdv A outer s H E) [] σ' H' s' → RelV v u → Q v H' → CE outer P w H s Q u s' :=
    fun {σ' H' v u} J rv q => ⟨v, H', J.os, J.bare, J.base, J.hok, rv, q⟩
  cases fl with
  | ret u =>
    obtain ⟨v, σ', H', J, rv, q⟩ := hs
    exact fin J rv q
  | next =>
    obtain ⟨σ', H', J, q⟩ := hs
    exact fin (v := V.non) (u := Value.none) J rfl q
  | brk =>
    obtain ⟨_, _, _, q⟩ := hs
    exact False.elim q
  | cont =>
    obtain ⟨_, _, _, q⟩ := hs
    exact False.elim q
end L2
namespace L2
open PySem PySem.Spec PyProof.Rows
section
variable {X : Cx} {x : Str} {p pos : Pos} {e : Expr} {es : List Expr} {t : TA} {id T : String} {r : List V → Hp → VK → Prop}
def tCB (r : List V → Hp → VK → Prop) (t : TA) : TE := fun σ H Q => t σ H fun vs H1 => r vs H1 Q
theorem pe_callB (hc : CallR X (.builtin id) r) (hg : Gl X x) (hm : X.mg x = none) (hv : bootBuiltins x = some (.builtin id)) (ha : PA X (e :: es) t) (hn : x ≠ "__name__" := by decide) (hdb : (x == ("__debug__" : Str)) = false := by decide)
    (he : starEach (e :: es) X.env = (false, eval e X.env) :: starEach es X.env := by rfl) (hpl : (backTo pos (starEach es X.env)).any (·.1) = false := by rfl) : PE X (.Call (.Name x p) (e :: es) [] pos) (tCB r t) := by
  intro pins s σ H Q I h
  refine wpAny_Call_Name_kw (ld_blt I hg hm hv ?_ hn hdb)
  exact PyProof.Rows.callWith_builtin1 (thn (ha pos pins s σ H _ I h) fun us s1 ⟨vs, H1, I1, r1, q1⟩ => hc pins s1 σ H1 vs us Q I1 r1 q1) he hpl
theorem pe_callTy (hc : CallR X (.type T) r) (hg : Gl X x) (hm : X.mg x = none) (hv : bootBuiltins x = some (.type T)) (ha : PA X (e :: es) t) (hn : x ≠ "__name__" := by decide) (hdb : (x == ("__debug__" : Str)) = false := by decide)
    (he : starEach (e :: es) X.env = (false, eval e X.env) :: starEach es X.env := by rfl) (hpl : (backTo pos (starEach es X.env)).any (·.1) = false := by rfl) : PE X (.Call (.Name x p) (e :: es) [] pos) (tCB r t) := by
  intro pins s σ H Q I h
  refine wpAny_Call_Name_kw (ld_blt I hg hm hv ?_ hn hdb)
  exact PyProof.Rows.callWith_type1 (thn (ha pos pins s σ H _ I h) fun us s1 ⟨vs, H1, I1, r1, q1⟩ => hc pins s1 σ H1 vs us Q I1 r1 q1) he hpl
end
end L2
namespace HT
open PySem PyProof.Rows
section
open PySem.SeqAt
open PySem.AutoSeq1 (wpAny_loadPart')
open PySem.MeetsSeq PySem.MeetsSeq2 PySem.MeetsSeq3
end
section
variable {prog : Program} {w : World} {A : Around} {E : Value → Shared → Prop} {s : Shared}
def sIx (n d : Nat) : Option Int → Nat
  | none => d
  | some v => if v < 0 then (v + (n : Int)).toNat else min v.toNat n
theorem sIx_nat (n d k : Nat) : sIx n d (some (k : Int)) = min k n := by
  show (if (k : Int) < 0 then ((k : Int) + (n : Int)).toNat else min (k : Int).toNat n) = min k n
  rw [if_neg (by omega), Int.toNat_natCast]
end
end HT
namespace L2
open PySem PySem.Spec PyProof.Rows
abbrev TO := St → Hp → (Option Int → Hp → Prop) → Prop
def PO (X : Cx) (e : Option Expr) (t : TO) : Prop :=
  ∀ (pins : List (Addr × Obj)) (s : Shared) (σ : St) (H : Hp) (Q : Option Int → Hp → Prop), Inv X pins σ H s → t σ H Q →
    wpAny (model X.prog X.w) X.A (evalPart e X.env) (fun u s' => ∃ o H', Inv X pins σ H' s' ∧ IsPart u o ∧ Q o H') X.xe s
def tNoPart : TO := fun _ H Q => Q none H
def tPart (t : TE) : TO := fun σ H Q => t σ H fun x H1 => ∃ i, x = .int i ∧ Q (some i) H1
section
variable {X : Cx} {e : Expr} {te : TE} {lo hi : Option Expr} {tl th : TO} {pos p2 : Pos}
theorem po_none : PO X none tNoPart := by
  intro pins s σ H Q I h
  rw [evalPart_none]
  exact wpAny_pure ⟨none, H, I, .none, h⟩
theorem po_some (h : PE X e te) : PO X (some e) (tPart te) := by
  intro pins s σ H Q I hw
  rw [evalPart_some]
  refine thn (h pins s σ H _ I hw) fun u s1 ⟨x, H1, I1, r1, q1⟩ => ?_
  obtain ⟨i, rfl, q⟩ := q1
  obtain ⟨t, rfl⟩ := r1
  exact ⟨some i, H1, I1, .int i t, q⟩
def SlR (X : Cx) (r : V → Option Int → Option Int → Hp → VK → Prop) : Prop :=
  ∀ (pins : List (Addr × Obj)) (s : Shared) (σ : St) (H : Hp) (x : V) (v vl vu : Value) (lo hi : Option Int) (sl : Addr) (Q : VK), Inv X pins σ H s → RelV x v → s.heap.IsSliceOf sl vl vu .none → IsPart vl lo → IsPart vu hi → r x lo hi H Q →
    ∃ T id, typeLookup (.type T) "__getitem__" = pure (some (.builtin id)) ∧ s.TypeIs v T ∧ wpAny (model X.prog X.w) X.A (getItem v (.ref sl)) (EP X pins σ Q) X.xe s
def tSl (r : V → Option Int → Option Int → Hp → VK → Prop) (te : TE) (tl th : TO) : TE := fun σ H Q => te σ H fun x H1 => tl σ H1 fun l H2 => th σ H2 fun u H3 => r x l u H3 Q
theorem pe_slice {r : V → Option Int → Option Int → Hp → VK → Prop} (hr : SlR X r) (he : PE X e te) (hl : PO X lo tl) (hu : PO X hi th) : PE X (.Subscript e (.Slice lo hi none p2) pos) (tSl r te tl th) := by
  intro pins s σ H Q I h
  refine Subscript_ (thn (he pins s σ H _ I h) fun v s1 ⟨x, H1, I1, r1, q1⟩ => ?_)
  refine wpAny_Slice (thn (hl pins s1 σ H1 _ I1 q1) fun vl s2 ⟨l, H2, I2, pl, q2⟩ => thn (hu pins s2 σ H2 _ I2 q2) fun vu s3 ⟨u, H3, I3, pu, q3⟩ => ?_)
  rw [evalPart_none]
  refine wpAny_pure ?_
  have I4 : Inv X pins σ H3 { s3 with heap := s3.heap.push { cls := .type "slice", data := .fields #[vl, vu, .none] } } := I3.kept (t' := s3.toks) fun b ob q => Heap.get?_push_of_some _ q
  obtain ⟨T, id, hT, ht, hg⟩ := hr pins { s3 with heap := s3.heap.push { cls := .type "slice", data := .fields #[vl, vu, .none] } } σ H3 x v vl vu l u s3.heap.objs.size Q I4 r1 (Heap.IsSliceOf.new ..) pl pu q3
  show wpAny (model X.prog X.w) X.A (subscriptTail e (.Slice lo hi none p2) v (.ref s3.heap.objs.size)) (EP X pins σ Q) X.xe { s3 with heap := s3.heap.push { cls := .type "slice", data := .fields #[vl, vu, .none] } }
  exact tail_any (ops := [.ref s3.heap.objs.size, v]) ht hT hg (by with_unfolding_all rfl)
def cutV (xs : List V) (lo hi : Option Int) : List V := (xs.drop (HT.sIx xs.length 0 lo)).take (HT.sIx xs.length xs.length hi - HT.sIx xs.length 0 lo)
theorem cutV_length (xs : List V) (lo hi : Option Int) : (cutV xs lo hi).length ≤ xs.length := by
  unfold cutV
  rw [List.length_take, List.length_drop]
  omega
end
end L2
namespace L2
open PySem PySem.Spec PyProof.Rows
def ixN (n : Nat) (i : Int) : Option Nat := if 0 ≤ i then (if i < n then some i.toNat else none) else if -(n : Int) ≤ i then some (i + n).toNat else none
def atI {α : Type} (xs : List α) (i : Int) : Option α := (ixN xs.length i).bind fun j => xs[j]?
theorem ixN_seq {n : Nat} {i : Int} {j : Nat} (h : ixN n i = some j) : seqIndex? i n = some j ∧ j < n ∧ -(n : Int) ≤ i ∧ i < n := by
  unfold ixN at h
  by_cases h0 : 0 ≤ i
  · rw [if_pos h0] at h
    by_cases h1 : i < n
    · rw [if_pos h1] at h
      have e : i.toNat = j := Option.some.inj h
      exact ⟨by rw [seqIndex_of h0 h1, e], by omega, by omega, h1⟩
    · rw [if_neg h1] at h; cases h
  · rw [if_neg h0] at h
    by_cases h1 : -(n : Int) ≤ i
    · rw [if_pos h1] at h
      have e : (i + n).toNat = j := Option.some.inj h
      exact ⟨by rw [seqIndex_neg (by omega) h1, e], by omega, h1, by omega⟩
    · rw [if_neg h1] at h; cases h
theorem atI_get {α : Type} {xs : List α} {i : Int} {v : α} (h : atI xs i = some v) : ∃ j, seqIndex? i xs.length = some j ∧ xs[j]? = some v ∧ j < xs.length ∧ -(xs.length : Int) ≤ i ∧ i < xs.length := by
  unfold atI at h
  cases e : ixN xs.length i with
  | none => rw [e] at h; cases h
  | some j =>
    rw [e] at h
    obtain ⟨h1, h2, h3, h4⟩ := ixN_seq e
    exact ⟨j, h1, h, h2, h3, h4⟩
theorem atI_nat {α : Type} {xs : List α} {j : Nat} {v : α} (h : xs[j]? = some v) : atI xs (j : Int) = some v := by
  have hj : j < xs.length := (List.getElem?_eq_some_iff.mp h).1
  have e : ixN xs.length (j : Int) = some j := by
    unfold ixN
    rw [if_pos (by omega), if_pos (by omega)]; simp
  unfold atI; rw [e]; exact h
theorem atI_last {α : Type} (xs : List α) (v : α) : atI (xs ++ [v]) (-1) = some v := by
  have hl : (xs ++ [v]).length = xs.length + 1 := by simp
  have e : ixN (xs ++ [v]).length (-1) = some xs.length := by
    unfold ixN
    rw [hl, if_neg (by decide), if_pos (by omega)]
    congr 1
    omega
  unfold atI
  rw [e]
  show (xs ++ [v])[xs.length]? = some v
  simp
def PlainIx (b : Expr) : Prop := ∀ o i, subscripted b false o i = operate [o, i] (getItem o i)
def IxR (X : Cx) (r : R2) : Prop :=
  ∀ (value slice : Expr) (pins : List (Addr × Obj)) (s : Shared) (σ : St) (H : Hp) (x y : V) (v u : Value) (Q : VK), Inv X pins σ H s → RelV x v → RelV y u → r x y H Q →
    subscripted slice false v u = operate [v, u] (getItem v u) → wpAny (model X.prog X.w) X.A (subscriptTail value slice v u) (EP X pins σ Q) X.xe s
def MtR (X : Cx) (id : String) (r : V → List V → Hp → VK → Prop) : Prop :=
  ∀ (pins : List (Addr × Obj)) (s : Shared) (σ : St) (H : Hp) (x : V) (xs : List V) (v : Value) (us : List Value) (Q : VK), Inv X pins σ H s → RelV x v → Vals xs us → r x xs H Q →
    wpAny (model X.prog X.w) X.A (call (.builtin id) (v :: us)) (EP X pins σ Q) X.xe s
section
variable {X : Cx} {a b : Expr} {ta tb : TE} {pos : Pos}
theorem pe_ix {r : R2} (hr : IxR X r) (ha : PE X a ta) (hb : PE X b tb) (hs : PlainIx b) : PE X (.Subscript a b pos) (tOp r ta tb) := by
  intro pins s σ H Q I h
  exact Subscript_ (binT ha hb I h fun v u s2 x y H2 I2 rx ry q => hr a b pins s2 σ H2 x y v u Q I2 rx ry q (hs _ _))
def rIxL (K : PySem.W.Frag) : R2 := fun x y H Q => ∃ p xs i v, x = .ref p ∧ y = .int i ∧ SqL K H p xs ∧ atI xs i = some v ∧ Q v H
theorem ix_list : IxR X (rIxL X.K) := by
  intro value slice pins s σ H x y v u Q I rx ry h hs
  obtain ⟨p, xs, i, z, rfl, rfl, hq, he, q⟩ := h
  cases rx
  obtain ⟨t, rfl⟩ := ry
  obtain ⟨its, r, pl, hz⟩ := I.list hq
  obtain ⟨j, h1, h2, h3, h4, h5⟩ := atI_get he
  obtain ⟨w, ew, rw'⟩ := r.get h2
  have hl := r.length
  have hn := line63
  have fin : EP X pins σ Q w s := ⟨z, H, I, rw', q⟩
  by_cases h0 : 0 ≤ i
  · have hj : i.toNat = j := by
      rw [seqIndex_of h0 h5] at h1
      exact Option.some.inj h1
    exact item_listR pl.isList h0 (by omega) (by rw [hj]; simpa using ew) fin hs
  · have hj : (i + (its.toArray.size : Int)).toNat = j := by
      rw [seqIndex_neg (by omega) h4] at h1
      rw [List.size_toArray, ← hl]
      exact Option.some.inj h1
    exact subscriptTail_builtinR (x := w) pl.isList.typeIs slot_list_getitem.lookup
      (wpAny_getItem_list_neg (Q := fun r s' => r = w ∧ EP X pins σ Q r s') pl.isList (by omega) (by rw [List.size_toArray] <;> omega) (by omega) (by rw [hj]; simpa using ew) ⟨rfl, fin⟩) hs
theorem mapSeq_set (its : List Value) (n j : Nat) (u : Value) : Obj.mapSeq (·.setIfInBounds j u) { cls := .type "list", data := .seq its.toArray n } = { cls := .type "list", data := .seq (its.set j u).toArray n } := by
  simp [Obj.mapSeq]
theorem Inv.lst {pins : List (Addr × Obj)} {σ : St} {H : Hp} {s : Shared} {p : Addr} {xs : List V} (I : Inv X pins σ H s) (h : H p = some (.lst xs)) :
    ∃ (its : List Value) (n : Nat), Vals xs its ∧ s.heap.get? p = some { cls := .type "list", data := .seq its.toArray n } ∧ xs.length ≤ sizeLine := by
  obtain ⟨z, its, n, r, e⟩ := I.hok p _ h
  exact ⟨its, n, r, e, z⟩
theorem Inv.lstUpd {pins : List (Addr × Obj)} {σ : St} {H : Hp} {s : Shared} {p : Addr} {xs ys : List V} {its its' : List Value} {n n' : Nat} {f : Obj → Obj} (I : Inv X pins σ H s) (h : H p = some (.lst xs))
    (ho : s.heap.get? p = some { cls := .type "list", data := .seq its.toArray n }) (hf : f { cls := .type "list", data := .seq its.toArray n } = { cls := .type "list", data := .seq its'.toArray n' }) (r : Vals ys its') (hz : ys.length ≤ sizeLine) (t : Nat) :
    Inv X pins σ (upd H p (.lst ys)) { s with heap := s.heap.update p f, toks := t } := by
  have e : (s.heap.update p f).get? p = some { cls := .type "list", data := .seq its'.toArray n' } := by
    rw [Heap.get?_update_self f ho (by rw [hf] <;> rfl), hf]
  refine I.write (x := p) (e := p) (by rw [h]; trivial) (.inl rfl) (fun b u hb q => (Heap.get?_update_other _ _ (Ne.symm hb)).trans q) ⟨_, e⟩ ?_
  exact ⟨hz, its', n', r, e⟩
def rSetL : V → V → V → Hp → (Hp → Prop) → Prop := fun o i v H Q => ∃ p xs k j, o = .ref p ∧ i = .int k ∧ H p = some (.lst xs) ∧ ixN xs.length k = some j ∧ Q (upd H p (.lst (xs.set j v)))
theorem set_list : PSet X rSetL := by
  intro pins s σ H o i v ov iv u Q I ro ri rv h
  obtain ⟨p, xs, k, j, rfl, rfl, hp, hj, q⟩ := h
  cases ro
  obtain ⟨t, rfl⟩ := ri
  obtain ⟨its, n, r, ho, hz⟩ := I.lst hp
  obtain ⟨h1, h2, h3, h4⟩ := ixN_seq hj
  have hl := r.length
  have hn := line63
  have I' : Inv X pins σ (upd H p (.lst (xs.set j v))) { s with heap := s.heap.update p (Obj.mapSeq (·.setIfInBounds j u)) } :=
    I.lstUpd hp ho (mapSeq_set its n j u) (r.set rv j) (by rw [List.length_set]; exact hz) s.toks
  by_cases h0 : 0 ≤ k
  · have hk : k.toNat = j := by
      rw [seqIndex_of h0 h4] at h1
      exact Option.some.inj h1
    exact PySem.W.ki_setAt ho h0 (by omega) (by rw [List.size_toArray, ← hl]; exact h4) (by rw [hk]; exact ⟨_, I', q⟩)
  · have hk : (k + (its.toArray.size : Int)).toNat = j := by
      rw [seqIndex_neg (by omega) h3] at h1
      rw [List.size_toArray, ← hl]
      exact Option.some.inj h1
    exact PySem.W.ki_setBack ho (by omega) (by rw [List.size_toArray, ← hl]; exact h3) (by omega) (by rw [hk]; exact ⟨_, I', q⟩)
theorem slice_bounds (lo hi : Option Int) (n : Nat) : (sliceBounds lo hi none n).1 = ((HT.sIx n 0 lo : Nat) : Int) ∧ (sliceBounds lo hi none n).2.1 = ((HT.sIx n n hi : Nat) : Int) ∧ (sliceBounds lo hi none n).2.2 = 1 := by
  refine ⟨?_, ?_, rfl⟩
  · cases lo with
    | none => simp [sliceBounds, HT.sIx]
    | some i =>
      simp only [sliceBounds, HT.sIx, Option.getD_none, show (1 : Int) > 0 by decide, if_true]
      by_cases h : i < 0
      · simp only [h, if_true] <;> omega
      · simp only [h, if_false] <;> omega
  · cases hi with
    | none => simp [sliceBounds, HT.sIx]
    | some i =>
      simp only [sliceBounds, HT.sIx, Option.getD_none, show (1 : Int) > 0 by decide, if_true]
      by_cases h : i < 0
      · simp only [h, if_true] <;> omega
      · simp only [h, if_false] <;> omega
theorem slicePick_cut (its : List Value) (lo hi : Option Int) : slicePick its.toArray lo hi none = ((its.drop (HT.sIx its.length 0 lo)).take (HT.sIx its.length its.length hi - HT.sIx its.length 0 lo)).toArray := by
  obtain ⟨h1, h2, h3⟩ := slice_bounds lo hi its.toArray.size
  unfold slicePick
  rw [h1, h2, h3]
  simp only [sliceRange_one, pick_run, List.size_toArray] <;> rfl
def rSlL (K : PySem.W.Frag) : V → Option Int → Option Int → Hp → VK → Prop := fun x lo hi H Q => ∃ a xs, x = .ref a ∧ SqL K H a xs ∧ ∀ p, H p = none → Q (.ref p) (upd H p (.lst (cutV xs lo hi)))
theorem sl_list : SlR X (rSlL X.K) := by
  intro pins s σ H x v vl vu lo hi sl Q I rx hs pl pu h
  obtain ⟨a, xs, rfl, hx, q⟩ := h
  cases rx
  obtain ⟨its, r, ht, hz⟩ := I.list hx
  have hlen := r.length
  refine ⟨"list", _, slot_list_getitem.lookup, ht.isList.typeIs, ?_⟩
  refine wpAny_getItem_list_slice ht.isList hs pl pu .none (by simp) ?_ (by rw [List.size_toArray] <;> omega)
  rw [slicePick_cut, ← hlen]
  refine ⟨.ref s.heap.objs.size, _, I.laid (t' := s.toks) (o := .lst (cutV xs lo hi)) (fun b ob q => Heap.get?_push_of_some _ q) (Nat.le_refl _) ?_, rfl, q _ (I.hok.fresh (Nat.le_refl _))⟩
  exact ⟨Nat.le_trans (cutV_length xs lo hi) hz, _, 0, (r.drop (HT.sIx xs.length 0 lo)).take (HT.sIx xs.length xs.length hi - HT.sIx xs.length 0 lo), Heap.get?_push_size _ rfl⟩
theorem call_len_seq : CallR X (.builtin "len") (fun xs H Q => ∃ p ys, xs = [.ref p] ∧ (SqL X.K H p ys ∨ SqT X.K H p ys) ∧ Q (.int ys.length) H) := by
  intro pins s σ H xs us Q I r h
  obtain ⟨p, ys, rfl, hq, q⟩ := h
  obtain ⟨u, rfl, rx⟩ := vals1 r
  cases rx
  have hn := line63
  rcases hq with hq | hq
  · obtain ⟨its, r', pl, hz⟩ := I.list hq
    have hlen := r'.length
    exact Calls.call_len_list pl.isList (by simp only [List.size_toArray] <;> omega) ⟨.int ys.length, H, I.tok _, ⟨s.toks + 1, by rw [List.size_toArray, hlen]⟩, q⟩
  · obtain ⟨its, r', pl, hz⟩ := I.tuple hq
    have hlen := r'.length
    exact len_tuple pl (by simp only [List.size_toArray] <;> omega) ⟨.int ys.length, H, I.tok _, ⟨s.toks + 1, by rw [List.size_toArray, hlen]⟩, q⟩
theorem call_list_of : CallR X (.type "list") (fun xs H Q => ∃ p ys, xs = [.ref p] ∧ (SqL X.K H p ys ∨ SqT X.K H p ys) ∧ ∀ l, H l = none → Q (.ref l) (upd H l (.lst ys))) := by
  intro pins s σ H xs us Q I r h
  obtain ⟨p, ys, rfl, hq, q⟩ := h
  obtain ⟨u, rfl, rx⟩ := vals1 r
  cases rx
  have fin : ∀ (its : List Value), Vals ys its → ys.length ≤ sizeLine → ∀ (h' : Heap) (c' : Nat), (∀ b o', s.heap.get? b = some o' → h'.get? b = some o') →
      h'.get? s.heap.objs.size = some { cls := .type "list", dict := none, data := .seq its.toArray c', slots := #[] } → EP X pins σ Q (.ref s.heap.objs.size) { s with heap := h' } := fun its r' hz h' c' kp e =>
    ⟨.ref s.heap.objs.size, _, I.laid (t' := s.toks) kp (Nat.le_refl _) (show ObjOk X.prog X.w _ h' _ (.lst ys) from ⟨hz, its, c', r', e⟩), rfl, q _ (I.hok.fresh (Nat.le_refl _))⟩
  rcases hq with hq | hq
  · obtain ⟨its, r', pl, hz⟩ := I.list hq
    have hlen := r'.length
    obtain ⟨o, ho, hc, n, hd⟩ := pl.isList
    exact call_list_seq p (.inl rfl) ho hc hd (fun h' c' kp e => fin its r' hz h' c' kp e) (by simp only [List.size_toArray] <;> omega)
  · obtain ⟨its, r', pl, hz⟩ := I.tuple hq
    have hlen := r'.length
    obtain ⟨o, ho, hc, n, hd⟩ := pl
    exact call_list_seq p (.inr rfl) ho hc hd (fun h' c' kp e => fin its r' hz h' c' kp e) (by simp only [List.size_toArray] <;> omega)
def tyV (K : PySem.W.Frag) (T : String) (x : V) (H : Hp) : Prop := match x with
  | .str _ => T = "str"
  | .int _ => T = "int"
  | .ref p => (T = "list" ∧ ∃ xs, SqL K H p xs) ∨ (T = "tuple" ∧ ∃ o, K.lookup p = some o ∧ o.cls = .type "tuple" ∧ o.dict = none) ∨
      (T = "dict" ∧ ((∃ kvs, H p = some (.dK kvs)) ∨ ∃ kvs, H p = some (.dT kvs))) ∨ (T = "set" ∧ ∃ S n, H p = some (.set S n))
  | _ => False
theorem tyV_is {pins : List (Addr × Obj)} {σ : St} {H : Hp} {s : Shared} {T : String} {x : V} {v : Value} (I : Inv X pins σ H s) (r : RelV x v) (ty : tyV X.K T x H) :
    s.TypeIs v T ∧ ∀ a, v = .ref a → ∃ ob, s.heap.get? a = some ob ∧ ob.dict = none := by
  cases x with
  | str z =>
    obtain ⟨t, rfl⟩ := r
    cases (show T = "str" from ty)
    exact ⟨typeIs_str s z t, fun _ e => nomatch e⟩
  | int i =>
    obtain ⟨t, rfl⟩ := r
    cases (show T = "int" from ty)
    exact ⟨typeIs_int s i t, fun _ e => nomatch e⟩
  | ref p =>
    cases r
    rcases ty with ⟨rfl, xs, hq⟩ | ⟨rfl, o, hk, hc, hd⟩ | ⟨rfl, hk⟩ | ⟨rfl, S, n, hk⟩
    · obtain ⟨its, _, pl, _⟩ := I.list hq
      refine ⟨pl.isList.typeIs, fun a e => ?_⟩
      cases e
      obtain ⟨o, n, e, c, hd, _⟩ := pl
      exact ⟨o, e, hd⟩
    · refine ⟨⟨o, I.kIn p o hk, hc⟩, fun a e => ?_⟩
      cases e
      exact ⟨o, I.kIn _ o hk, hd⟩
    · have z : ∃ o, s.heap.get? p = some o ∧ o.ExactDict := by
        rcases hk with ⟨kvs, hk⟩ | ⟨kvs, hk⟩
        · obtain ⟨_, _, _, _, o, _, _, e, ex, _⟩ := I.hok p _ hk
          exact ⟨o, e, ex⟩
        · obtain ⟨_, _, _, _, o, _, _, e, ex, _⟩ := I.hok p _ hk
          exact ⟨o, e, ex⟩
      obtain ⟨o, e, ex⟩ := z
      refine ⟨⟨o, e, ex.1⟩, fun a e2 => ?_⟩
      cases e2
      exact ⟨o, e, ex.2.1⟩
    · obtain ⟨o, _, _, _, e, ex, _⟩ := I.hok p _ hk
      refine ⟨⟨o, e, ex.1⟩, fun a e2 => ?_⟩
      cases e2
      exact ⟨o, e, ex.2.1⟩
  | _ => exact False.elim ty
def tBM (K : PySem.W.Frag) (T : String) (r : V → List V → Hp → VK → Prop) (to : TE) (t : TA) : TE := fun σ H Q => to σ H fun x H1 => tyV K T x H1 ∧ t σ H1 fun xs H2 => r x xs H2 Q
variable {o e : Expr} {es : List Expr} {to : TE} {t : TA} {name : Str} {apos cpos : Pos} {T id : String} {r : V → List V → Hp → VK → Prop}
theorem pe_bm (pa : PlainAttrs T) (slot : Slot T name id) (hty : typeOf (.builtin id) = pure (.type "method_descriptor")) (hm : MtR X id r) (ho : PE X o to) (ha : PA X (e :: es) t)
    (hbase : attributeBase o name X.env (eval o X.env) = eval o X.env := by rfl)
    (hfew : ((backTo cpos (starEach (e :: es) X.env)).all (fun x => !x.1) && (backToKw cpos (keywordEach [] X.env)).all (fun x => x.1.isSome)
      && decide ((e :: es).length + ([] : List Keyword).length + (if ([] : List Keyword).isEmpty then 0 else 1) < 30)) = true := by rfl)
    (hline : (apos.endLine == cpos.line) = true := by rfl) (hs : starEach (e :: es) X.env = (false, eval e X.env) :: starEach es X.env := by rfl) (hplain : (backTo cpos (starEach es X.env)).any (·.1) = false := by rfl) :
    PE X (.Call (.Attribute o name apos) (e :: es) [] cpos) (tBM X.K T r to t) := by
  intro pins s σ H Q I h
  refine wpAny_Call_method_late hbase hfew hline rfl (thn (ho pins s σ H _ I h) fun v s1 ⟨x, H1, I1, r1, ty, q1⟩ => ?_)
  obtain ⟨h1, h2⟩ := tyV_is I1 r1 ty
  refine ⟨T, id, pa, slot, hty, h1, h2, ?_⟩
  have hA := ha cpos pins s1 σ H1 _ I1 q1
  rw [hs] at hA ⊢
  refine Calls.callWith_builtin (by show (false || (backTo cpos (starEach es X.env)).any (·.1)) = false; rw [hplain] <;> rfl) (Calls.evalArgs_plain ?_)
  exact thn hA fun us s2 ⟨vs, H2, I2, r2, q2⟩ => hm pins s2 σ H2 x vs v us Q I2 r1 r2 q2
/- xs.append(e), list.index on a module's tuple .. are MtR facts of 06m -/
end
end L2
namespace L2
open PySem PySem.Spec PyProof.Rows
def MtM (X : Cx) (id : String) (r : V → List V → Hp → VK → Prop) : Prop :=
  ∀ (pins : List (Addr × Obj)) (s : Shared) (σ : St) (H : Hp) (x : V) (xs : List V) (v : Value) (us : List Value) (Q : VK), Inv X pins σ H s → RelV x v → Vals xs us → r x xs H Q →
    wpAny (model X.prog X.w) X.A (call (.builtin id) (v :: us)) (EP X pins σ Q) X.xe s
theorem Vals.one : ∀ {x : V} {us : List Value}, Vals [x] us → ∃ u, us = [u] ∧ RelV x u
  | _, _, .cons r .nil => ⟨_, rfl, r⟩
theorem Vals.zero : ∀ {us : List Value}, Vals [] us → us = []
  | _, .nil => rfl
theorem Vals.reverse {xs : List V} {us : List Value} (h : Vals xs us) : Vals xs.reverse us.reverse := by
  induction h with
  | nil => exact .nil
  | cons r t ih => rw [List.reverse_cons, List.reverse_cons]; exact Vals.append ih (.cons r .nil)
theorem Vals.rep {xs : List V} {us : List Value} (h : Vals xs us) : ∀ k : Nat, Vals (List.replicate k xs).flatten (List.replicate k us).flatten
  | 0 => .nil
  | k + 1 => by
    rw [List.replicate_succ, List.replicate_succ, List.flatten_cons, List.flatten_cons]
    exact Vals.append h (Vals.rep h k)
theorem foldl_rep (its : List Value) : ∀ (k : Nat) (acc : List Value),
    List.foldl (fun x1 x2 => x1 ++ x2) acc.toArray (List.replicate k its.toArray) = (acc ++ (List.replicate k its).flatten).toArray
  | 0, acc => by simp
  | k + 1, acc => by
    have e : acc.toArray ++ its.toArray = (acc ++ its).toArray := by simp
    have e2 : (acc ++ its) ++ (List.replicate k its).flatten = acc ++ (List.replicate (k + 1) its).flatten := by
      rw [List.replicate_succ, List.flatten_cons, List.append_assoc]
    rw [← e2, ← foldl_rep its k (acc ++ its), ← e, List.replicate_succ, List.foldl_cons]
section
variable {X : Cx} {pins : List (Addr × Obj)} {σ : St} {H : Hp} {s : Shared} {l b : Addr} {xs ys zs : List V}
theorem Inv.lset {its its' : List Value} {n : Nat} {f : Array Value → Array Value} {t' : Nat} (I : Inv X pins σ H s) (hH : H l = some (.lst xs))
    (e : s.heap.get? l = some { cls := .type "list", data := .seq its.toArray n }) (hf : f its.toArray = its'.toArray) (hv : Vals ys its') (hz : ys.length ≤ sizeLine) :
    Inv X pins σ (upd H l (.lst ys)) { s with heap := s.heap.update l (Obj.mapSeq f), toks := t' } := by
  have q := PySem.IsL.update e f
  rw [hf] at q
  refine I.write (x := l) (e := l) (by rw [hH]; exact trivial) (.inl rfl) (fun b' u hb hu => (Heap.get?_update_other s.heap (Obj.mapSeq f) (Ne.symm hb)).trans hu) ⟨_, q⟩ ?_
  exact ⟨hz, its', _, hv, q⟩
theorem Inv.lnew {its : List Value} {t' : Nat} (I : Inv X pins σ H s) (hv : Vals ys its) (hz : ys.length ≤ sizeLine) :
    Inv X pins σ (upd H s.heap.objs.size (.lst ys)) { s with heap := s.heap.push { cls := .type "list", data := .seq its.toArray }, toks := t' } :=
  I.laid (fun _ _ q => Heap.get?_push_of_some _ q) (Nat.le_refl _) ⟨hz, its, 0, hv, Heap.get?_push_size _ rfl⟩
theorem Inv.fresh (I : Inv X pins σ H s) : H s.heap.objs.size = none := I.hok.fresh (Nat.le_refl _)
theorem Inv.lstM (I : Inv X pins σ H s) (hH : H l = some (.lst xs)) : xs.length ≤ sizeLine ∧ ∃ (its : List Value) (n : Nat), Vals xs its ∧ xs.length = its.length ∧ s.heap.get? l = some { cls := .type "list", data := .seq its.toArray n } := by
  obtain ⟨z, its, n, r, e⟩ := I.hok l _ hH
  exact ⟨z, its, n, r, r.length, e⟩
theorem notLongL {n : Nat} (h : n ≤ sizeLine) : Builtin.List.listTooLong n = false := by
  unfold Builtin.List.listTooLong
  exact decide_eq_false (by omega)
end
section
variable {X : Cx}
def rAppend : V → List V → Hp → VK → Prop := fun x vs H Q => ∃ l xs y, x = .ref l ∧ vs = [y] ∧ H l = some (.lst xs) ∧ xs.length < sizeLine ∧ Q .non (upd H l (.lst (xs ++ [y])))
theorem mt_append : MtM X "list.append" rAppend := by
  intro pins s σ H x vs v us Q I rx rv h
  obtain ⟨l, xs, y, rfl, rfl, hH, hz, q⟩ := h
  cases rx
  obtain ⟨u, rfl, ru⟩ := rv.one
  obtain ⟨z, its, n, r, hl, e⟩ := I.lstM hH
  refine call_meets F.slot_list_append ⟨_, e, rfl⟩ F.entry_list_append (F.args_list_append_2 _ _) (PySem.list_append l its.toArray n u (by rw [List.size_toArray]; omega)) ⟨e, ?_⟩
  refine ⟨.non, _, I.lset (its' := its ++ [u]) hH e (by simp) (r.append (.cons ru .nil)) ?_, rfl, q⟩
  rw [List.length_append, List.length_singleton]
  omega
def rCat : R2 := fun x y H Q => ∃ l b xs zs, x = .ref l ∧ y = .ref b ∧ H l = some (.lst xs) ∧ H b = some (.lst zs) ∧ xs.length + zs.length ≤ sizeLine ∧ ∀ p, H p = none → Q (.ref p) (upd H p (.lst (xs ++ zs)))
theorem op_cat : OpR X (binaryOp .Add) rCat := by
  intro pins s σ H x y v u Q I rx ry h
  obtain ⟨l, b, xs, zs, rfl, rfl, hH, hB, hz, q⟩ := h
  cases rx
  cases ry
  obtain ⟨z, its, n, r, hl, e⟩ := I.lstM hH
  obtain ⟨z2, its2, n2, r2, hl2, e2⟩ := I.lstM hB
  refine PySem.P.add_list e e2 ?_ (by rw [List.size_toArray, List.size_toArray]; omega)
  have ea : its.toArray ++ its2.toArray = (its ++ its2).toArray := by simp
  rw [ea]
  exact ⟨.ref _, _, I.lnew (t' := s.toks) (r.append r2) (by rw [List.length_append]; omega), rfl, q _ I.fresh⟩
def rRep : R2 := fun x y H Q => ∃ l k xs, x = .ref l ∧ y = .int k ∧ H l = some (.lst xs) ∧ -(2 ^ 63) ≤ k ∧ k < 2 ^ 63 ∧ xs.length * k.toNat ≤ sizeLine ∧
  ∀ p, H p = none → Q (.ref p) (upd H p (.lst (List.replicate k.toNat xs).flatten))
theorem len_rep {α : Type} (xs : List α) (k : Nat) : (List.replicate k xs).flatten.length = k * xs.length := by
  induction k with
  | zero => simp
  | succ k ih => rw [List.replicate_succ, List.flatten_cons, List.length_append, ih, Nat.succ_mul, Nat.add_comm]
theorem op_rep : OpR X (binaryOp .Mult) rRep := by
  intro pins s σ H x y v u Q I rx ry h
  obtain ⟨l, k, xs, rfl, rfl, hH, h1, h2, hz, q⟩ := h
  cases rx
  obtain ⟨t, rfl⟩ := ry
  obtain ⟨z, its, n, r, hl, e⟩ := I.lstM hH
  have hlen : its.toArray.size * k.toNat ≤ sizeLine := by rw [List.size_toArray, ← hl]; exact hz
  have hcap : ¬ its.toArray.size * k.toNat > (2 ^ 63 - 1) / 8 := by
    have : (sizeLine : Nat) ≤ (2 ^ 63 - 1) / 8 := by decide
    omega
  have hfit : ¬ (!Builtin.List.listFitsIndex k) = true := by
    rw [fitsIndex_both h1 h2]
    exact Bool.false_ne_true
  have hlong : ¬ Builtin.List.listTooLong (its.toArray.size * k.toNat) = true := by
    rw [notLongL hlen]
    exact Bool.false_ne_true
  have hnew : List.foldl (fun x1 x2 => x1 ++ x2) #[] (List.replicate (if its.toArray.isEmpty = true then 0 else k.toNat) its.toArray) = (List.replicate k.toNat its).flatten.toArray := by
    have f0 : ∀ m : Nat, List.foldl (fun x1 x2 => x1 ++ x2) #[] (List.replicate m its.toArray) = (List.replicate m its).flatten.toArray := fun m => by
      have := foldl_rep its m []
      rw [List.nil_append] at this
      exact this
    rw [f0]
    cases its with
    | nil => simp
    | cons a r' => rw [if_neg (by simp)]
  refine wpAny_binaryOp_repeat_ref (T := "list") (U := "int") (by decide) ⟨_, e, rfl⟩ (fun s' => typeIs_int s' k t) noFill_list_mul F.fills_int_mul F.slot_int_rmul repeat_list F.slot_int_index.lookup
    (call_meets F.slot_int_rmul (typeIs_int s k t) F.entry_int_rmul (F.args_int_rmul_2 _ _) (int___rmul___int_list k t l its.toArray n)
      ⟨e, rfl, ⟨_, e, rfl⟩, call_meets F.slot_list_mul ⟨_, e, rfl⟩ F.entry_list_mul (F.args_list_mul_2 _ _) (AutoListH.list___mul___list_int_3 l its.toArray n k t hfit hcap hlong) ⟨e, ?_⟩⟩)
  rw [hnew]
  exact ⟨.ref _, _, I.lnew (t' := s.toks) (r.rep k.toNat) (by rw [len_rep, Nat.mul_comm]; exact hz), rfl, q _ I.fresh⟩
end
section
variable {prog : Program} {w : World} {A : Around} {E : Value → Shared → Prop} {s : Shared}
end
section
variable {X : Cx}
end
end L2
namespace Att
open PySem PySem.W PySem.Calls PyProof.Rows
theorem ints_of_wellAll {P : Params} {h : Heap} : ∀ (ns : List Int) (vs : List Value), WellAll P h vs (ns.map WData.int) → IntsAre vs ns := by
  intro ns
  induction ns with
  | nil =>
    intro vs w
    rw [List.map_nil] at w
    cases w
    exact .nil
  | cons n ns ih =>
    intro vs w
    rw [List.map_cons] at w
    cases w with
    | cons a b =>
      cases a
      exact .cons _ _ (ih _ b)
theorem script_of {l : OpenLaw} {n : Nat} (hn : l.most = some n) {P : Params} {h : Heap} {args : List WData} {vals : List Value}
    (hpre : l.row.toRowW.claim.pre args = true) (hwl : WellAll P h vals args) :
    ∃ a vs ns, vals = [Value.ref a] ∧ args = [WData.list (ns.map WData.int)] ∧ h.get? a = some { cls := .type "list", data := .seq vs.toArray } ∧ IntsAre vs ns ∧ ns.length ≤ n := by
  have hsh : WShape.hasAll [] args [.list .int] = true := (pre_splitW hpre).1
  have hc : l.pre.holds [] { args := args } = true := (pre_splitW hpre).2
  obtain ⟨d, r, rfl, h1, h2⟩ := hasAllW_cons hsh
  obtain rfl := hasAllW_nil h2
  obtain ⟨xs, rfl, h3⟩ := hasW_list h1
  obtain ⟨ns, rfl⟩ := items_int h3
  have hlen : ns.length ≤ n := by
    unfold OpenLaw.pre at hc
    have h4 : (WTm.not (.lt (.lit (.int (n : Int))) (.len (.arg 0)))).holds [] { args := [.list (ns.map .int)] } = true := by
      have h4 := (holds_andW hc).1
      rw [hn] at h4
      exact h4
    have h5 := condW_of h4 (w_not (w_lt w_lit (w_len_list (w_arg rfl))))
    rw [List.length_map] at h5
    refine Nat.le_of_not_lt fun q => ?_
    have q' : (n : Int) < ((ns.length : Nat) : Int) := by omega
    first
      | (rw [decide_eq_true q'] at h5; exact absurd h5 (by decide))
      | (simp at h5; omega)
  cases hwl with
  | cons w1 w2 =>
    cases w2
    cases w1 with
    | list ho hall => exact ⟨_, _, ns, rfl, rfl, ho, ints_of_wellAll ns _ hall, hlen⟩
theorem post_true (l : OpenLaw) (args : List WData) : l.row.toRowW.claim.post args (.bool true) args = true :=
  postW_of (r := l.row.toRowW) (X := (true == true))
    (show WShape.has [] (.bool true) .bool = true by first | rfl | decide | simp [WShape.has, WShape.arms, WShape.armsAll])
    (show (WTm.eq .res (.lit (.bool true))).value [] { args := args, res := some (.bool true), after := args } = some (.bool (true == true)) from w_eq_bool (w_res rfl) w_lit) rfl
theorem attach_call {l : OpenLaw} {n : Nat} {q : Program} {loose : List Str} {XP : (Str → Option Value) → Heap → Prop} {YP : World → Heap → Prop} {d : DefRec}
    (hn : l.most = some n) (hdf : d.params.defaults = [])
    (call : ∀ (w : World) (s₀ s₁ : Shared) (mg mb : Str → Option Value) (fa : Addr) (o : Obj) (pm cd doc : Value) (a : Addr) (vs : List Value) (ns : List Int),
      Ground q loose [] XP w s₀ mg mb s₁.heap → YP w s₁.heap →
      s₁.heap.get? fa = some o → o.data = .func (docDef d.name d.params d.body d.scope pm cd doc) → s₁.heap.CodeRec cd d.name → mg d.name = some (.ref fa) →
      s₁.heap.get? a = some { cls := .type "list", data := .seq vs.toArray } → IntsAre vs ns → ns.length ≤ n → s₁.gens = #[] →
      codeAny (model l.prog w) callerA (.call (.ref fa) ⟨[.ref a], []⟩) (fun r s' => r = .ok (.ret (.bool true)) ∧ OldK s₁.heap s'.heap ∧ s'.os = s₁.os ∧ AllBare s'.gens) s₁) :
    WalkO q loose XP YP l.row.toRowW d [] (fun f vs => PySem.call f vs) := by
  intro w s₀ s₁ mg mb G Y fa o pm cd doc dV kV ho hd hcd hD hmg hg args vals as hpre hlay hrd hwl hlo
  obtain rfl : dV = .none := Dflts.none hD hdf
  obtain rfl : kV = .none := Dflts.noKw hD
  obtain ⟨a, vs, ns, rfl, rfl, hobj, hints, hlen⟩ := script_of hn hpre hwl
  refine enter_call (codeAny_mono (call w s₀ s₁ mg mb fa o pm cd doc a vs ns G Y ho (fd_plain hd) hcd hmg hobj hints hlen hg) fun r s' hq => ?_)
  obtain ⟨rfl, h2, h3, h4⟩ := hq
  exact ⟨.inl ⟨.bool true, .bool true, [], rfl, fun _ => rfl, .bool true, post_true l _, fun _ => ⟨List.Pairwise.nil, fun _ hm => (nomatch hm)⟩⟩, h2, h3, h4⟩
section
variable {prog : Program} {w : World} {A : Around} {E : Value → Shared → Prop} {s : Shared} {K : Frag}
end
end Att
namespace L2
open PySem PySem.Spec PyProof.Rows
theorem vals_ints : ∀ {vs : List Value} {ns : List Int}, IntsAre vs ns → Vals (ns.map V.int) vs
  | _, _, .nil => .nil
  | _, _, .cons n t h => .cons ⟨t, rfl⟩ (vals_ints h)
def Only (H : Hp) : Prop := ∀ b, H b = none ∨ ∃ o xs, H b = some (.frz o (.lst xs))
theorem law_call {P : Program} {w : World} {K : PySem.W.Frag} {mg mb : Str → Option Value} {CX : CXT} {k : Nat} {fa a : Addr} {fd : FuncData} {x : Str} {sp : Sp} {s₁ : Shared} {vs : List Value} {ns : List Int}
    (KX : K.In s₁.heap) (hns : s₁.heap.Ns mainGlobals mg) (hb : s₁.heap.Ns builtinsNs mb) (hbb : ∀ x : Str, x ≠ "__name__" → mb x = bootBuiltins x) (hlim : s₁.heap.NoLimit) (hg : s₁.gens = #[])
    (ha : s₁.heap.get? a = some { cls := .type "list", data := .seq vs.toArray }) (hi : IntsAre vs ns) (hl : ns.length ≤ sizeLine) (hr : Room k callerA)
    (F : ∀ base : Heap, K.In base → base.Ns mainGlobals mg → FnOk P w K mg base CX k fa fd [x] sp) (hbind : ∀ (s : Shared) (u : Value), BindsTo s fd ⟨[u], []⟩ [(x, u)])
    (hsp : ∀ H : Hp, Only H → SqL K H a (ns.map V.int) → sp [.ref a] H (fun v _ => v = .bl true) fun _ _ _ => False)
    (hCX : ∀ H e s', CX [] H s₁ (fun _ _ _ => False) e s' → False) :
    codeAny (model P w) callerA (.call (.ref fa) ⟨[.ref a], []⟩) (fun r s' => r = .ok (.ret (.bool true)) ∧ OldK s₁.heap s'.heap ∧ s'.os = s₁.os ∧ AllBare s'.gens) s₁ := by
  have rv := vals_ints hi
  have lenV := hi.length
  -- from an abstract heap in which nothing but the script may be tracked
  have core : ∀ H : Hp, Only H → SqL K H a (ns.map V.int) → HOk P w H s₁.heap → (∀ b, H b ≠ none → b = a) → (H a ≠ none → K.lookup a = none) →
      codeAny (model P w) callerA (.call (.ref fa) ⟨[.ref a], []⟩) (fun r s' => r = .ok (.ret (.bool true)) ∧ OldK s₁.heap s'.heap ∧ s'.os = s₁.os ∧ AllBare s'.gens) s₁ := by
    intro H hO hS hok hA hK
    have base_of : ∀ {b : Addr} {o : Obj}, s₁.heap.get? b = some o → H b = none → (hidT s₁.heap H).get? b = some o := fun e n => hidT_get e n
    have noA : ∀ {b : Addr} {o : Obj} {es : Array DictEntry} {ep : Nat}, s₁.heap.get? b = some o → o.data = .dict es ep → H b = none := fun {b o es ep} e d => by
      cases q : H b with
      | none => rfl
      | some u =>
        have e' : b = a := hA b (by rw [q]; simp)
        subst e'
        rw [ha] at e; cases e
        have d' : Data.seq vs.toArray _ = Data.dict es ep := d
        cases d'
    have nsK : ∀ {b : Addr} {m : Str → Option Value}, s₁.heap.Ns b m → (hidT s₁.heap H).Ns b m := fun {b m} ⟨o, es, ep, e, d, r⟩ => ⟨o, es, ep, base_of e (noA e d), d, r⟩
    have hKb : K.In (hidT s₁.heap H) := fun b o e => base_of (KX b o e) (by
      cases q : H b with
      | none => rfl
      | some u =>
        have e' : b = a := hA b (by rw [q]; simp)
        subst e'
        rw [hK (by rw [q]; simp)] at e; cases e)
    have hM : Mod K mg (hidT s₁.heap H) := ⟨hKb, nsK hns, ⟨mb, nsK hb, hbb⟩, let ⟨mc, h1, h2⟩ := hlim; ⟨mc, nsK h1, h2⟩⟩
    have e0 : Env0 P w K mg (hidT s₁.heap H) callerA [] s₁ H := ⟨rfl, hM, fun b o e => of_hidT e, Nat.le_of_eq (hidT_size _ _), trivial, fun b hb => absurd (show b ∈ ([] : List Addr) from hb) (by simp), hok, .of_eq hg⟩
    refine codeAny_mono ((F _ hKb (nsK hns)).run callerA [] s₁ H ⟨[.ref a], []⟩ [.ref a] [.ref a] _ _ hr e0 (hbind s₁ (.ref a)) (.cons rfl .nil) (hsp H hO hS)) fun r s' h => ?_
    cases r with
    | error e => exact (hCX H e s' h).elim
    | ok fl =>
      cases fl with
      | next => exact False.elim h
      | brk => exact False.elim h
      | cont => exact False.elim h
      | ret u =>
        obtain ⟨v, H', os, bare, un, hok', r', q⟩ := h
        have q' : v = .bl true := q
        subst q'
        obtain rfl : u = Value.bool true := r'
        refine ⟨rfl, OldK.of_keep fun b o e => ?_, os, bare⟩
        cases q : H b with
        | none => exact un.keep b o e q (by intro z; exact absurd (show b ∈ ([] : List Addr) from z) (by simp)) (by simp)
        | some u =>
          rcases hO b with z | ⟨ob, xs, z⟩
          · rw [q] at z; cases z
          · have z2 := un.frzs b ob _ z
            obtain ⟨e1, _⟩ := hok b _ z
            obtain ⟨e2, _⟩ := hok' b _ z2
            rw [e] at e1; cases e1
            exact e2
  cases hk : K.lookup a with
  | some o =>
    -- the script is one of the module's own objects
    have e := KX a o hk
    rw [ha] at e
    cases e
    refine core (fun _ => none) (fun _ => .inl rfl) (.inr ⟨_, vs.toArray, _, hk, rfl, rfl, rfl, by rw [List.size_toArray, lenV]; exact hl, by simpa using rv⟩) (fun b u z => by have z' : (none : Option HO) = some u := z; cases z') (fun b z => absurd rfl z) fun z => absurd rfl z
  | none =>
    refine core (fun b => if b = a then some (.frz { cls := .type "list", data := .seq vs.toArray } (.lst (ns.map V.int))) else none) (fun b => ?_) (.inl (.inr ⟨{ cls := .type "list", data := .seq vs.toArray }, if_pos rfl⟩)) (fun b u z => ?_) (fun b z => ?_) fun _ => hk
    · by_cases hb : b = a
      · exact .inr ⟨_, _, if_pos hb⟩
      · exact .inl (if_neg hb)
    · by_cases hb : b = a
      · have z' := (if_pos hb).symm.trans z
        cases z'
        subst hb
        exact ⟨ha, by rw [List.length_map]; exact hl, vs, _, rv, ha⟩
      · have z' := (if_neg hb).symm.trans z
        cases z'
    · by_cases hb : b = a
      · exact hb
      · exact absurd (if_neg hb) z
end L2
namespace L2
open PySem PySem.Spec PyProof.Rows
theorem walk_of {l : PySem.W.OpenLaw} {n k : Nat} {q : Program} {loose : List Str} {XP : (Str → Option Value) → Heap → Prop} {YP : World → Heap → Prop} {d : DefRec} {K : Params → PySem.W.Frag} {CX : World → CXT} {sp : World → Sp} {x : Str}
    (hn : l.most = some n) (hn2 : n ≤ sizeLine) (hdf : d.params.defaults = []) (hr : Room k callerA)
    (hY : ∀ (w : World) (h : Heap), YP w h → (K w.params).In h)
    (F : ∀ (w : World) (mg : Str → Option Value) (fa : Addr) (h : Heap), (K w.params).In h → h.Ns mainGlobals mg → mg d.name = some (.ref fa) →
      ∃ fd : FuncData, (∀ (s : Shared) (u : Value), BindsTo s fd ⟨[u], []⟩ [(x, u)]) ∧
        ∀ base : Heap, (K w.params).In base → base.Ns mainGlobals mg → FnOk l.prog w (K w.params) mg base (CX w) k fa fd [x] (sp w))
    (hsp : ∀ (w : World) (H : Hp) (a : Addr) (ns : List Int), ns.length ≤ n → Only H → SqL (K w.params) H a (ns.map V.int) → sp w [.ref a] H (fun v _ => v = .bl true) fun _ _ _ => False)
    (hCX : ∀ (w : World) (H : Hp) (s : Shared) (e : Value) (s' : Shared), CX w [] H s (fun _ _ _ => False) e s' → False) :
    PySem.W.WalkO q loose XP YP l.row.toRowW d [] (fun f vs => PySem.call f vs) := by
  refine Att.attach_call hn hdf fun w s₀ s₁ mg mb fa o pm cd doc a vs ns G Y ho hd hcd hmg hobj hints hlen hg => ?_
  have KX := hY w _ Y
  obtain ⟨fd, hb, hF⟩ := F w mg fa _ KX G.T.g hmg
  exact law_call KX G.T.g G.T.b G.T.builtins G.T.nolimit hg hobj hints (Nat.le_trans hlen hn2) hr hF hb (fun H hO hS => hsp w H a ns hlen hO hS) fun H e s' => hCX w H s₁ e s'
end L2
namespace L2
open PySem PySem.Spec PyProof.Rows
def defArgs (s : Stmt) : Arguments := match s with
  | .FunctionDef _ a _ _ _ _ _ _ _ _ => a
  | _ => { posonlyargs := [], args := [], vararg := none, kwonlyargs := [], kw_defaults := [], kwarg := none, defaults := [] }
def defBody (s : Stmt) : List Stmt := match s with
  | .FunctionDef _ _ b _ _ _ _ _ _ _ => b
  | _ => []
def defScope (s : Stmt) : Scope := match s with
  | .FunctionDef _ _ _ _ _ _ sc _ _ _ => sc
  | _ => { kind := .function, names := [], isGenerator := false, isCoroutine := false }
abbrev CX0 : CXT := fun _ _ _ _ _ _ => False
abbrev E0 : XK := fun _ _ _ => False
theorem pass0 {X : Cx} : Passes CX0 X E0 := fun _ _ _ _ _ _ _ h => h.elim
structure Fun (K : PySem.W.Frag) (x qual : Str) (st : Stmt) (f : Addr) (fd : FuncData) : Prop where
  ex : ∃ (oc : Value) (od : Option Addr) (kV doc pm : Value) (an : Option Addr) (cdv ct : Value) (osl : Array (Option Value)),
    fd = PySem.W.fnOf x qual (defArgs st) (defBody st) (defScope st) .none kV doc pm an cdv ct ∧ K.lookup f = some ⟨oc, od, .func fd, osl⟩ ∧ PySem.W.codeIn K cdv qual = true
  kp : PySem.W.keepIn K (.ref f) = true
section
variable {P : Program} {w : World} {K : PySem.W.Frag} {mg : Str → Option Value} {base : Heap}
theorem Fun.ok {x qual : Str} {st : Stmt} {f : Addr} {fd : FuncData} {N ps : List Str} {k : Nat} {sp : Sp} (F : Fun K x qual st f fd) (S : FnScope N ps (defScope st)) (len : ∀ vs H Q E, sp vs H Q E → vs.length = ps.length)
    (hbody : ∀ (cdv : Value) (A : Around) (outer : List Env) (s : Shared) (H : Hp) (vs : List V) (Q : VK) (E : XK), Room k (A.deeper (envOfC qual (defScope st) s.heap.objs.size f cdv)) → sp vs H Q E →
      ∃ t, PSs (cxOf CX0 P w K mg base N qual (defScope st) f cdv A outer s H E).nox (defBody st) t ∧ t { nx := fun _ H' => Q .non H', rt := Q } (start N vs) H) : FnOk P w K mg base CX0 (k + 1) f fd ps sp := by
  obtain ⟨oc, od, kV, doc, pm, an, cdv, ct, osl, rfl, lk, hcd⟩ := F.ex
  refine fn_of lk hcd S len fun A outer s H vs Q E hr hsp => ?_
  obtain ⟨t, h, q⟩ := hbody cdv A outer s H vs Q E hr hsp
  exact ⟨t, h.nox, q⟩
theorem Fun.binds {x qual : Str} {st : Stmt} {f : Addr} {fd : FuncData} {ps : List Str} (F : Fun K x qual st f fd)
    (h : ∀ (kV doc pm : Value) (an : Option Addr) (cdv ct : Value) (us : List Value), us.length = ps.length → bindArgs (PySem.W.fnOf x qual (defArgs st) (defBody st) (defScope st) .none kV doc pm an cdv ct) ⟨us, []⟩ = pure (ps.zip us)) : Binds K fd ps [] := by
  obtain ⟨oc, od, kV, doc, pm, an, cdv, ct, osl, rfl, lk, hcd⟩ := F.ex
  exact .all (h kV doc pm an cdv ct)
theorem fun_mk {x qual : Str} {st : Stmt} {f : Addr} {oc : Value} {od an : Option Addr} {osl : Array (Option Value)} {kV doc pm cdv ct : Value} (l : K.lookup f = some ⟨oc, od, .func (PySem.W.fnOf x qual (defArgs st) (defBody st) (defScope st) .none kV doc pm an cdv ct), osl⟩)
    (c : PySem.W.codeIn K cdv qual = true) (k : PySem.W.keepIn K (.ref f) = true) : Fun K x qual st f (PySem.W.fnOf x qual (defArgs st) (defBody st) (defScope st) .none kV doc pm an cdv ct) := ⟨⟨oc, od, kV, doc, pm, an, cdv, ct, osl, rfl, l, c⟩, k⟩
end
theorem hu_of {A : Around} {k : Nat} (hr : Room k A) : A.units + 1 < cLine := Nat.lt_of_le_of_lt (Nat.add_le_add_left (by decide : 1 ≤ 64) _) hr.units
section
variable {X : Cx}
theorem pv (i : Nat) {x : Str} {pos : Pos} (hN : X.N[i]? = some x := by rfl) (hv : Vis X.env.scope x := by first | exact Or.inl rfl | exact Or.inr (Or.inl rfl) | exact Or.inr (Or.inr rfl)) (hd : (x == ("__debug__" : Str)) = false := by decide)
    (hcd : (x == ("__classdict__" : Str)) = false := by decide) : PE X (.Name x pos) (tVar i) := pe_var hN hv hd hcd
end
theorem iteF {A B : Prop} (h : B) : if false = true then A else B := by
  rw [if_neg Bool.false_ne_true]
  exact h
theorem iteT {A B : Prop} (h : A) : if true = true then A else B := by
  rw [if_pos rfl]
  exact h
theorem ite2 {c A B : Prop} [Decidable c] (h1 : c → A) (h2 : ¬ c → B) : if c then A else B := by
  by_cases h : c
  · rw [if_pos h]
    exact h1 h
  · rw [if_neg h]
    exact h2 h
theorem iteNS {c A B : Prop} [Decidable c] (hc : c) (h : B) : if (!decide c) = true then A else B := by
  rw [decide_eq_true hc]
  exact iteF h
def Same (H H' : Hp) : Prop := ∀ b o, H b = some o → H' b = some o
theorem Same.refl (H : Hp) : Same H H := fun _ _ h => h
theorem Same.trans {H H1 H2 : Hp} (a : Same H H1) (b : Same H1 H2) : Same H H2 := fun c o h => b c o (a c o h)
theorem Same.free {H H' : Hp} (e : Same H H') {l : Addr} (h : H' l = Option.none) : H l = Option.none := by
  cases q : H l with
  | none => rfl
  | some o =>
    rw [e l o q] at h
    cases h
theorem Same.seq {K : PySem.W.Frag} {H H' : Hp} {a : Addr} {xs : List V} (e : Same H H') (h : SqL K H a xs) : SqL K H' a xs := by
  rcases h with (h | ⟨o, h⟩) | h
  · exact .inl (.inl (e _ _ h))
  · exact .inl (.inr ⟨o, e _ _ h⟩)
  · exact .inr h
end L2
set_option Elab.async false
set_option linter.all false
set_option maxRecDepth 100000
set_option maxHeartbeats 4000000
namespace L2
open PySem PySem.Spec PyProof.Rows
section
variable {prog : Program} {w : World} {A : Around} {R : Result → Shared → Prop} {s : Shared}
end
structure CompScope (X : Cx) (x : Str) (fns : List Str) (ixs : List Nat) (scope : Scope) (cl : List (Str × Addr)) : Prop where
  clos : closureFor scope X.env = pure cl
  sub : ∀ y c, cl.lookup y = some c → X.env.cells.lookup y = some c
  cell : ∀ y ∈ scope.names, y.2 ≠ .cell
  kind : scope.kind = .function
  names : ∀ y ∈ scope.names, y.2 = .local → scope.names.lookup y.1 = some .local
  own : scope.names.lookup x = some .local
  has : ∀ y, ((relabel scope X.env).names.lookup y = some .cell ∨ (relabel scope X.env).names.lookup y = some .free) → ∃ c, cl.lookup y = some c
  nd : (x :: fns).Nodup
  len : ixs.length = fns.length
  at_ : ∀ (j : Nat) (y : Str), fns[j]? = some y → ∃ i : Nat, ixs[j]? = some i ∧ X.N[i]? = some y ∧ (X.env.kindOf y = some .cell ∨ X.env.kindOf y = some .free) ∧ ∃ c, cl.lookup y = some c ∧ ((relabel scope X.env).names.lookup y = some .cell ∨ (relabel scope X.env).names.lookup y = some .free)
section
variable {X : Cx} {elt iter : Expr} {x : Str} {px pos : Pos} {scope : Scope} {cl : List (Str × Addr)} {fns : List Str} {ixs : List Nat} {wi : TI} {te : TE}
end
def tCut (t : TS) : TS := fun D σ H => ∃ G : St → Hp → Prop, t { D with nx := G } σ H ∧ ∀ σ' H', G σ' H' → D.nx σ' H'
theorem ps_cut {X : Cx} {st : Stmt} {t : TS} (h : PS X st t) : PS X st (tCut t) := by
  intro pins s σ H D I ⟨G, h1, h2⟩
  refine thn (h pins s σ H { D with nx := G } I h1) fun f s' q => ?_
  cases f with
  | next => obtain ⟨σ', H', I', g⟩ := q; exact ⟨σ', H', I', h2 σ' H' g⟩
  | _ => exact q
end L2
set_option Elab.async false
set_option linter.all false
set_option maxRecDepth 100000
set_option maxHeartbeats 4000000
namespace L2
open PySem PySem.Spec PyProof.Rows
namespace Rv
def IsRv (h : Heap) (it t : Addr) (i : Int) : Prop := ∃ o, h.get? it = some o ∧ o.cls = .type "reversed" ∧ o.data = .fields #[.ref t, rawInt i]
theorem IsRv.typeIs {s : Shared} {it t : Addr} {i : Int} (x : IsRv s.heap it t i) : s.TypeIs (.ref it) "reversed" := let ⟨o, ho, hc, _⟩ := x; ⟨o, ho, hc⟩
theorem IsRv.at {h h' : Heap} {it t : Addr} {i : Int} (x : IsRv h it t i) (e : ∀ o, h.get? it = some o → h'.get? it = some o) : IsRv h' it t i := let ⟨o, ho, r⟩ := x; ⟨o, e _ ho, r⟩
section
variable {prog : Program} {w : World} {A : Around} {E : Value → Shared → Prop} {s : Shared}
end
end Rv
section
variable {X : Cx} {tg : Expr}
end
end L2
set_option Elab.async false
set_option linter.all false
set_option maxRecDepth 100000
set_option maxHeartbeats 4000000
namespace L2
open PySem PySem.Spec PyProof.Rows
def intV (ns : List Int) : List V := ns.map V.int
theorem ints_at {ns : List Int} {i : Nat} {z : Int} (h : ns[i]? = some z) : (intV ns)[i]? = some (V.int z) := by
  unfold intV; rw [List.getElem?_map, h]; rfl
theorem ints_len (ns : List Int) : (intV ns).length = ns.length := List.length_map ..
theorem ints_of_at {ns : List Int} {i : Nat} {v : V} (h : (intV ns)[i]? = some v) : ∃ z, v = V.int z ∧ ns[i]? = some z := by
  unfold intV at h
  rw [List.getElem?_map] at h
  cases e : ns[i]? with
  | none => rw [e] at h; cases h
  | some z => rw [e] at h; exact ⟨z, (Option.some.inj h).symm, rfl⟩
theorem ints_app (a b : List Int) : intV (a ++ b) = intV a ++ intV b := List.map_append ..
theorem all_eq (ns ms : List Int) : ((List.range (min ns.length ms.length)).all (fun j => decide (ns[j]? = ms[j]?)) && ns.length == ms.length) = decide (ns = ms) := by
  rw [Bool.eq_iff_iff, Bool.and_eq_true, List.all_eq_true, decide_eq_true_iff, beq_iff_eq]
  constructor
  · rintro ⟨h1, h2⟩
    refine List.ext_getElem? fun i => ?_
    by_cases hi : i < ns.length
    · exact of_decide_eq_true (h1 i (List.mem_range.mpr (by omega)))
    · rw [List.getElem?_eq_none (by omega), List.getElem?_eq_none (by omega)]
  · rintro rfl
    exact ⟨fun j _ => decide_eq_true rfl, rfl⟩
section
variable {X : Cx}
theorem eqItems {A : Around} {s : Shared} {ns ms : List Int} {its its2 : List Value} (r1 : Vals (intV ns) its) (r2 : Vals (intV ms) its2) (j : Nat) (h1 : j < its.toArray.size) (h2 : j < its2.toArray.size) :
    SeqAt.EqAt A s its.toArray[j] its2.toArray[j] (decide (ns[j]? = ms[j]?)) := by
  have l1 := r1.length
  have l2 := r2.length
  rw [ints_len] at l1 l2
  have g1 : j < its.length := by simpa using h1
  have g2 : j < its2.length := by simpa using h2
  have e1 : ns[j]? = some ns[j] := List.getElem?_eq_getElem (by omega)
  have e2 : ms[j]? = some ms[j] := List.getElem?_eq_getElem (by omega)
  obtain ⟨u, hu, t, rfl⟩ := r1.get (ints_at e1)
  obtain ⟨v, hv, t', rfl⟩ := r2.get (ints_at e2)
  have f1 : its.toArray[j] = Value.int ns[j] t := by
    rw [List.getElem_toArray]
    exact Option.some.inj ((List.getElem?_eq_getElem g1).symm.trans hu)
  have f2 : its2.toArray[j] = Value.int ms[j] t' := by
    rw [List.getElem_toArray]
    exact Option.some.inj ((List.getElem?_eq_getElem g2).symm.trans hv)
  rw [f1, f2, e1, e2]
  have := SeqAt.EqAt.int_int (A := A) (s := s) ns[j] t ms[j] t'
  have e : decide (some ns[j] = some ms[j]) = (ns[j] == ms[j]) := by
    rw [Bool.eq_iff_iff, decide_eq_true_iff, beq_iff_eq]
    exact ⟨Option.some.inj, congrArg some⟩
  rw [e]
  exact this
def rIsi (K : PySem.W.Frag) : List V → Hp → VK → Prop := fun xs H Q => ∃ x T t b, xs = [x, .ty T] ∧ TyOf K H x t ∧ PySem.W.kitOne K t (.type T) = some b ∧ Q (.bl b) H
theorem call_isi : CallR X (.builtin "isinstance") (rIsi X.K) := by
  intro pins s σ H xs us Q I r h
  obtain ⟨x, T, t, b, rfl, ty, e, q⟩ := h
  obtain ⟨u, w', rfl, rx, ry⟩ := vals2 r
  cases ry
  exact isinst_ok I rx ty e fun tk => ⟨.bl b, H, I.tok tk, rfl, q⟩
theorem kit_self (K : PySem.W.Frag) (T : String) : PySem.W.kitOne K (.type T) (.type T) = some true := by
  unfold PySem.W.kitOne
  rw [if_pos (beq_self_eq_true _)]
theorem kit_int_bool (K : PySem.W.Frag) : PySem.W.kitOne K (.type "int") (.type "bool") = some false := by
  first | rfl | kernel_rfl | decide +kernel
end
end L2
set_option Elab.async false
set_option linter.all false
set_option maxRecDepth 100000
set_option maxHeartbeats 4000000
namespace L2
open PySem PySem.Spec PyProof.Rows
theorem Same.upd {H : Hp} {a : Addr} {o : HO} (h : H a = Option.none) : Same H (upd H a o) := fun b u e => by
  rw [upd_ne (ne_of_none e h)]
  exact e
section
variable {X : Cx}
end
end L2
namespace HT
open PySem PyProof.Rows
section
variable {prog : Program} {w : World} {A : Around} {E : Value → Shared → Prop} {s : Shared}
end
end HT
namespace L2
open PySem PySem.Spec PyProof.Rows
section
variable {X : Cx} {e : Expr} {te : TE} {lo hi : Option Expr} {st : Expr} {tl th ts : TO} {pos p2 : Pos}
end
end L2
set_option Elab.async false
set_option linter.all false
set_option maxRecDepth 100000
set_option maxHeartbeats 4000000
namespace L2
open PySem PySem.Spec PyProof.Rows
def tx (l : List Nat) : Str := ⟨l.toArray⟩
section
variable {X : Cx} {pos : Pos}
end
end L2
set_option Elab.async false
set_option linter.all false
set_option maxRecDepth 100000
set_option maxHeartbeats 4000000
namespace L2
open PySem PySem.Spec PyProof.Rows
structure Def (K : PySem.W.Frag) (mg : Str → Option Value) (x : Str) (st : Stmt) (ps : List Str) (f : Addr) (fd : FuncData) : Prop where
  F : Fun K x x st f fd
  m : mg x = some (.ref f)
  b : Binds K fd ps []
section
variable {X : Cx}
end
theorem cut_ints (ns : List Int) (lo hi : Option Int) : cutV (intV ns) lo hi = intV ((ns.drop (HT.sIx ns.length 0 lo)).take (HT.sIx ns.length ns.length hi - HT.sIx ns.length 0 lo)) := by
  unfold cutV intV
  rw [List.length_map, List.map_take, List.map_drop]
theorem emod_nat (r : Int) {n : Nat} (h : 0 < n) : ∃ j : Nat, r % (n : Int) = (j : Int) ∧ j < n := by
  have h1 := Int.emod_nonneg r (show (n : Int) ≠ 0 by omega)
  have h2 := Int.emod_lt_of_pos r (show (0 : Int) < (n : Int) by omega)
  exact ⟨(r % (n : Int)).toNat, by omega, by omega⟩
end L2
set_option Elab.async false
set_option linter.all false
set_option maxRecDepth 100000
namespace L2
open PySem PySem.Spec PyProof.Rows
section
variable {κ : Type} [DecidableEq κ]
def valV (kvs : List (κ × V)) (k : κ) : Option V := (kvs.find? fun kv => decide (kv.1 = k)).map (·.2)
def putK (kvs : List (κ × V)) (k : κ) (v : V) : List (κ × V) :=
  if (kvs.any fun kv => decide (kv.1 = k)) = true then kvs.map (fun kv => if kv.1 = k then (kv.1, v) else kv) else kvs ++ [(k, v)]
def dropK (kvs : List (κ × V)) (k : κ) : List (κ × V) := kvs.filter fun kv => decide (kv.1 ≠ k)
theorem valV_pos {p : κ × V} {r : List (κ × V)} {k : κ} (e : p.1 = k) : valV (p :: r) k = some p.2 := by simp [valV, List.find?_cons, e]
theorem valV_neg {p : κ × V} {r : List (κ × V)} {k : κ} (e : ¬ p.1 = k) : valV (p :: r) k = valV r k := by simp [valV, List.find?_cons, e]
theorem RelO.getD {o : Option V} {u : Option Value} {d : V} {d' : Value} (r : RelO o u) (rd : RelV d d') : RelV (o.getD d) (u.getD d') := by
  cases o with
  | none => cases u with
    | none => exact rd
    | some _ => exact (show False from r).elim
  | some _ => cases u with
    | none => exact (show False from r).elim
    | some _ => exact r
theorem KV.val {kvs : List (κ × V)} {vs : List (κ × Value)} (r : KV kvs vs) (k : κ) : RelO (valV kvs k) (valueAt vs k) := by
  unfold KV at r
  induction r with
  | nil => exact True.intro
  | @cons p q ps qs h t ih =>
    obtain ⟨h1, h2⟩ := h
    by_cases e : p.1 = k
    · have e' : q.1 = k := h1.symm.trans e
      have b : valueAt (q :: qs) k = some q.2 := by simp [valueAt, List.find?_cons, e']
      rw [valV_pos e, b]; exact h2
    · have e' : ¬ q.1 = k := fun z => e (h1.trans z)
      have b : valueAt (q :: qs) k = valueAt qs k := by simp [valueAt, List.find?_cons, e']
      rw [valV_neg e, b]; exact ih
theorem KV.any {kvs : List (κ × V)} {vs : List (κ × Value)} (r : KV kvs vs) (k : κ) : (kvs.any fun kv => decide (kv.1 = k)) = vs.any fun kv => decide (kv.1 = k) := by
  unfold KV at r
  induction r with
  | nil => rfl
  | cons h t ih => rw [List.any_cons, List.any_cons, ih, h.1]
theorem KV.drop {kvs : List (κ × V)} {vs : List (κ × Value)} (r : KV kvs vs) (k : κ) : KV (dropK kvs k) (without vs k) := by
  unfold KV at r ⊢
  unfold dropK without
  induction r with
  | nil => exact .nil
  | @cons p q ps qs h t ih =>
    obtain ⟨h1, h2⟩ := h
    rw [List.filter_cons, List.filter_cons]
    by_cases e : p.1 = k
    · have a : ¬ decide (p.1 ≠ k) = true := by simp [e]
      have b : ¬ decide (q.1 ≠ k) = true := by simp [h1.symm.trans e]
      rw [if_neg a, if_neg b]; exact ih
    · have e' : ¬ q.1 = k := fun z => e (h1.trans z)
      have a : decide (p.1 ≠ k) = true := by simp [e]
      have b : decide (q.1 ≠ k) = true := by simp [e']
      rw [if_pos a, if_pos b]; exact .cons ⟨h1, h2⟩ ih
theorem KV.keys {kvs : List (κ × V)} {vs : List (κ × Value)} (r : KV kvs vs) : kvs.map (·.1) = vs.map (·.1) := by
  unfold KV at r
  induction r with
  | nil => rfl
  | cons h t ih => rw [List.map_cons, List.map_cons, ih, h.1]
theorem KV.length {kvs : List (κ × V)} {vs : List (κ × Value)} (r : KV kvs vs) : kvs.length = vs.length := Paired.length r
end
abbrev KT (H : Hp) : List (List Key × V) → List (List Key × Addr × Value) → Prop := Paired fun p q => p.1 = q.1 ∧ H q.2.1 = some (.tup (p.1.map kV)) ∧ RelV p.2 q.2.2
theorem KT.val {H : Hp} {kvs : List (List Key × V)} {xs : List (List Key × Addr × Value)} (r : KT H kvs xs) (k : List Key) : RelO (valV kvs k) ((atKey xs k).map (·.2)) := by
  induction r with
  | nil => exact True.intro
  | @cons p q ps qs h t ih =>
    obtain ⟨h1, _, h2⟩ := h
    by_cases e : p.1 = k
    · have e' : q.1 = k := h1.symm.trans e
      have b : atKey (q :: qs) k = some q.2 := by simp [atKey, List.find?_cons, e']
      rw [valV_pos e, b]; exact h2
    · have e' : ¬ q.1 = k := fun z => e (h1.trans z)
      have b : atKey (q :: qs) k = atKey qs k := by simp [atKey, List.find?_cons, e']
      rw [valV_neg e, b]; exact ih
theorem KT.keeps {H H' : Hp} {kvs : List (List Key × V)} {xs : List (List Key × Addr × Value)} (r : KT H kvs xs) (ht : ∀ b ys, H b = some (.tup ys) → H' b = some (.tup ys)) : KT H' kvs xs :=
  Paired.mapP r fun _ _ z => ⟨z.1, ht _ _ z.2.1, z.2.2⟩
section
variable {P : Program} {w : World} {H : Hp} {h : Heap} {a : Addr}
end
def DGet (H : Hp) (a : Addr) (y : V) (r : Option V) : Prop :=
  (∃ kvs k, Rd H a (.dK kvs) ∧ y = kV k ∧ r = valV kvs k) ∨ ∃ kvs k b, Rd H a (.dT kvs) ∧ y = .ref b ∧ H b = some (.tup (k.map kV)) ∧ r = valV kvs k
def DPut (H : Hp) (a : Addr) (y v : V) (H' : Hp) : Prop :=
  (∃ kvs k, H a = some (.dK kvs) ∧ y = kV k ∧ kvs.length < sizeLine ∧ H' = upd H a (.dK (putK kvs k v))) ∨
  ∃ kvs k b, H a = some (.dT kvs) ∧ y = .ref b ∧ H b = some (.tup (k.map kV)) ∧ kvs.length < sizeLine ∧ H' = upd H a (.dT (putK kvs k v))
theorem DGet.k {H : Hp} {a : Addr} {kvs : List (Key × V)} {k : Key} (e : H a = some (.dK kvs)) : DGet H a (kV k) (valV kvs k) := .inl ⟨kvs, k, .inl e, rfl, rfl⟩
theorem DGet.t {H : Hp} {a b : Addr} {kvs : List (List Key × V)} {k : List Key} (e : H a = some (.dT kvs)) (eb : H b = some (.tup (k.map kV))) : DGet H a (.ref b) (valV kvs k) := .inr ⟨kvs, k, b, .inl e, rfl, eb, rfl⟩
theorem DPut.k {H : Hp} {a : Addr} {kvs : List (Key × V)} {k : Key} {v : V} (e : H a = some (.dK kvs)) (hl : kvs.length < sizeLine) : DPut H a (kV k) v (upd H a (.dK (putK kvs k v))) := .inl ⟨kvs, k, e, rfl, hl, rfl⟩
theorem DPut.t {H : Hp} {a b : Addr} {kvs : List (List Key × V)} {k : List Key} {v : V} (e : H a = some (.dT kvs)) (eb : H b = some (.tup (k.map kV))) (hl : kvs.length < sizeLine) :
    DPut H a (.ref b) v (upd H a (.dT (putK kvs k v))) := .inr ⟨kvs, k, b, e, rfl, eb, hl, rfl⟩
section
variable {X : Cx} {pins : List (Addr × Obj)} {σ : St} {H : Hp} {s : Shared} {a : Addr} {y v : V} {u r : Value} {o : Option V} {A : Around} {E : Value → Shared → Prop}
end
section
variable {X : Cx} {pins : List (Addr × Obj)} {σ : St} {H : Hp} {s : Shared} {a : Addr} {kvs : List (Key × V)} {k : Key} {u : Value} {A : Around} {E : Value → Shared → Prop}
end
section
variable {X : Cx} {o i e value : Expr} {pos pos' tpos : Pos} {td ty tv : TE}
end
section
variable {X : Cx} {pos : Pos}
end
structure M1 (X : Cx) (o : Expr) (m : Str) (apos : Pos) (e : Expr) (cpos : Pos) : Prop where
  base : attributeBase o m X.env (eval o X.env) = eval o X.env
  few : ((backTo cpos (starEach [e] X.env)).all (fun x => !x.1) && (backToKw cpos (keywordEach [] X.env)).all (fun x => x.1.isSome)
    && decide (([e] : List Expr).length + ([] : List Keyword).length + (if ([] : List Keyword).isEmpty then 0 else 1) < 30)) = true
  line : (apos.endLine == cpos.line) = true
  trees : backTo cpos (starEach [e] X.env) = [(false, eval e X.env)]
structure M2 (X : Cx) (o : Expr) (m : Str) (apos : Pos) (e f : Expr) (cpos : Pos) : Prop where
  base : attributeBase o m X.env (eval o X.env) = eval o X.env
  few : ((backTo cpos (starEach [e, f] X.env)).all (fun x => !x.1) && (backToKw cpos (keywordEach [] X.env)).all (fun x => x.1.isSome)
    && decide (([e, f] : List Expr).length + ([] : List Keyword).length + (if ([] : List Keyword).isEmpty then 0 else 1) < 30)) = true
  line : (apos.endLine == cpos.line) = true
  trees : backTo cpos (starEach [e, f] X.env) = [(false, eval e X.env), (false, eval f X.env)]
section
variable {X : Cx} {pins : List (Addr × Obj)} {σ : St} {H : Hp} {s : Shared} {a : Addr} {y d : V} {u r : Value} {o : Option V} {A : Around} {E : Value → Shared → Prop}
end
section
variable {X : Cx} {o e f : Expr} {apos cpos : Pos} {td ty tx : TE}
end
section
variable {X : Cx} {pins : List (Addr × Obj)} {σ : St} {H : Hp} {s : Shared} {a : Addr} {kvs : List (Key × V)} {A : Around} {E : Value → Shared → Prop}
end
section
variable {X : Cx} {pins : List (Addr × Obj)} {σ : St} {H : Hp} {s : Shared} {a : Addr} {y : V} {u : Value} {A : Around} {E : Value → Shared → Prop}
end
end L2
set_option Elab.async false
set_option linter.all false
set_option maxRecDepth 100000
set_option maxHeartbeats 4000000
namespace L2
open PySem PySem.Spec PyProof.Rows
section
variable {X : Cx} {pos : Pos}
end
end L2
set_option Elab.async false
set_option linter.all false
set_option maxRecDepth 100000
set_option maxHeartbeats 4000000
namespace L2
open PySem PySem.Spec PyProof.Rows
section
variable {X : Cx} {pins : List (Addr × Obj)} {σ : St} {H : Hp} {s : Shared} {h' : Heap}
theorem Inv.turnLaid {fp : List Addr} {a : Addr} {o : HO} {t' : Nat} (I : Inv X pins σ H s) (k : ∀ b u, b ∉ fp → s.heap.get? b = some u → h'.get? b = some u) (hf : ∀ b ∈ fp, FpOk X pins H b)
    (hp : s.heap.objs.size ≤ a) (new : ObjOk X.prog X.w (upd H a o) h' a o) : Inv X pins σ (upd H a o) { s with heap := h', toks := t' } := by
  have hn := I.hok.fresh hp
  have nf : ∀ b u, H b = some u → b ∉ fp := fun b u e z => by rw [(hf b z).1] at e; cases e
  refine I.step (g' := s.gens) (d' := s.drawn) (ch := fp) (fun b hb => ⟨(hf b hb).2.2.2.1, (hf b hb).2.1, (hf b hb).2.2.2.2.1, (hf b hb).2.2.2.2.2⟩) (fun b o _ _ hc e _ => k b o hc e) (fun b o _ _ hc e _ => ⟨o.slots, k b o hc e⟩)
    (fun b o _ e n => by rw [upd_ne (Nat.ne_of_lt (Nat.lt_of_lt_of_le (Heap.lt_size e) hp))]; exact n) (fun b o hc e => ⟨o, k b o hc e⟩) (fun b xs e => by rw [upd_ne (ne_of_none e hn)]; exact e)
    (fun b o u e => by rw [upd_ne (ne_of_none e hn)]; exact e) (fun b ps e => ⟨#[], by rw [upd_ne (ne_of_none e hn), e]; simp⟩) (fun m hm => ?_) (fun b u e => ?_) I.bare
  · obtain ⟨o, es, ep, ho, r⟩ := hm
    exact ⟨o, es, ep, k _ o (fun z => (hf _ z).2.1 rfl) ho, r⟩
  · by_cases hb : b = a
    · subst hb; rw [upd_same] at e; cases e; exact new
    · rw [upd_ne hb] at e
      refine (I.hok b u e).stay (fun c v hc q => k c v ?_ q) (fun c q => by rw [upd_ne (ne_of_none q hn)]; exact q) fun c xs q => by rw [upd_ne (ne_of_none q hn)]; exact q
      rcases hc with z | z
      · rw [z]; exact nf b u e
      · exact nf c _ z
theorem Inv.turnedL {fp : List Addr} {t' : Nat} (I : Inv X pins σ H s) (k : ∀ b u, b ∉ fp → s.heap.get? b = some u → h'.get? b = some u) (hf : ∀ b ∈ fp, FpOk X pins H b) : Inv X pins σ H { s with heap := h', toks := t' } := by
  have nf : ∀ b u, H b = some u → b ∉ fp := fun b u e z => by rw [(hf b z).1] at e; cases e
  refine I.step (g' := s.gens) (d' := s.drawn) (ch := fp) (fun b hb => ⟨(hf b hb).2.2.2.1, (hf b hb).2.1, (hf b hb).2.2.2.2.1, (hf b hb).2.2.2.2.2⟩) (fun b o _ _ hc e _ => k b o hc e) (fun b o _ _ hc e _ => ⟨o.slots, k b o hc e⟩)
    (fun b o _ e n => n) (fun b o hc e => ⟨o, k b o hc e⟩) (fun b xs e => e) (fun b o u e => e) (fun b ps e => ⟨#[], by rw [e]; simp⟩) (fun m hm => ?_) (fun b u e => ?_) I.bare
  · obtain ⟨o, es, ep, ho, r⟩ := hm
    exact ⟨o, es, ep, k _ o (fun z => (hf _ z).2.1 rfl) ho, r⟩
  · refine (I.hok b u e).stay (fun c v hc q => k c v ?_ q) (fun c q => q) fun c xs q => q
    rcases hc with z | z
    · rw [z]; exact nf b u e
    · exact nf c _ z
end
namespace En
section
variable {prog : Program} {w : World} {A : Around} {E : Value → Shared → Prop} {s : Shared}
end
end En
end L2
set_option Elab.async false
set_option linter.all false
set_option maxRecDepth 100000
set_option maxHeartbeats 4000000
namespace L2
open PySem PySem.Spec PyProof.Rows
section
variable {X : Cx}
end
end L2
set_option Elab.async false
set_option linter.all false
set_option maxRecDepth 100000
set_option maxHeartbeats 4000000
namespace L2
open PySem PySem.Spec PyProof.Rows
section
variable {X : Cx}
end
end L2
set_option Elab.async false
set_option linter.all false
set_option maxRecDepth 100000
set_option maxHeartbeats 4000000
namespace L2
open PySem PySem.Spec PyProof.Rows
def CXw (P : Program) (w : World) : CXT := fun outer H s E e s' => ∃ (x C : Addr) (B : Heap) (H' : Hp) (a0 : Value), e = .ref x ∧ s'.os = s.os ∧ AllBare s'.gens ∧ Heap.FlyingW B outer x (.ref C) a0 s'.heap ∧
  Un (frs outer) [] H H' s.heap s'.heap ∧ HOk P w H' B ∧ (∀ b o, s.heap.get? b = some o → H b = none → b ∉ frs outer → B.get? b = some o) ∧ (∀ b o, s.heap.get? b = some o → b ∉ frs outer → ∃ o', B.get? b = some o') ∧ E (.ref C) none H'
section
variable {P : Program} {w : World} {K : PySem.W.Frag} {mg : Str → Option Value} {base : Heap} {N : List Str} {qual : Str} {scope : Scope} {f : Addr} {cd : Value} {A : Around} {outer : List Env} {s : Shared} {H : Hp} {E : XK}
  {pins : List (Addr × Obj)} {σ : St} {H1 : Hp} {s1 : Shared}
end
end L2
set_option Elab.async false
set_option linter.all false
set_option maxRecDepth 100000
set_option maxHeartbeats 4000000
namespace L2
open PySem PySem.Spec PyProof.Rows
section
variable {X : Cx} {pos : Pos}
end
section
variable {P : Program} {w : World} {K : PySem.W.Frag} {mg : Str → Option Value} {base : Heap}
end
end L2
set_option Elab.async false
set_option linter.all false
set_option maxRecDepth 100000
set_option maxHeartbeats 4000000
namespace L2
open PySem PySem.Spec PyProof.Rows
theorem ObjOk.get {P : Program} {w : World} {H : Hp} {h : Heap} {a : Addr} {o : HO} (x : ObjOk P w H h a o) : ∃ u, h.get? a = some u := by
  cases o with
  | lst xs => obtain ⟨_, _, _, _, e⟩ := x; exact ⟨_, e⟩
  | tup xs => obtain ⟨_, _, _, ob, e, _⟩ := x; exact ⟨_, e⟩
  | dK kvs => obtain ⟨_, _, _, _, o, _, _, e, _⟩ := x; exact ⟨_, e⟩
  | dT kvs => obtain ⟨_, _, _, _, o, _, _, e, _⟩ := x; exact ⟨_, e⟩
  | set S n => obtain ⟨o, _, _, _, e, _⟩ := x; exact ⟨_, e⟩
  | ins C dx fs => obtain ⟨_, _, _, e, _⟩ := x; exact ⟨_, e⟩
  | own y => exact x
  | xd fs => obtain ⟨_, ⟨_, _, _, e, _⟩, _⟩ := x; exact ⟨_, e⟩
  | rng lo hi => obtain ⟨_, _, _, e⟩ := x; exact ⟨_, e⟩
  | frz ob u => obtain ⟨e, _⟩ := x; exact ⟨_, e⟩
  | tbl ps => exact ⟨_, show h.get? a = some _ from x⟩
  | met f y => exact ⟨_, show h.get? a = some _ from x⟩
  | ext φ => obtain ⟨_, e, _⟩ := x; exact e
def ExAt (x C : Addr) (h : Heap) : Prop := ∃ ob vs, h.get? x = some ob ∧ ob.cls = .ref C ∧ ob.data = .fields vs
theorem ExAt.stay {x C : Addr} {h1 h2 : Heap} (p : ExAt x C h1) (k : ∀ o, h1.get? x = some o → h2.get? x = some o) : ExAt x C h2 := by
  obtain ⟨ob, vs, e, r⟩ := p
  exact ⟨ob, vs, k _ e, r⟩
def Thr (X : Cx) (pins : List (Addr × Obj)) (σ : St) (H' : Hp) (x C : Addr) (s : Shared) : Prop :=
  ∃ (B : Heap) (H1 : Hp) (s1 : Shared) (a0 : Value), Inv X pins σ H1 s1 ∧ s.os = s1.os ∧ AllBare s.gens ∧ Heap.FlyingW B X.stack x (.ref C) a0 s.heap ∧ Un (frs X.stack) [] H1 H' s1.heap s.heap ∧ HOk X.prog X.w H' B ∧
    (∀ b o, s1.heap.get? b = some o → H1 b = none → b ∉ frs X.stack → B.get? b = some o) ∧ (∀ b o, s1.heap.get? b = some o → b ∉ frs X.stack → ∃ o', B.get? b = some o')
section
variable {X : Cx} {pins : List (Addr × Obj)} {σ : St} {H' : Hp} {x C : Addr} {s : Shared}
theorem Thr.of {E : XK} {H : Hp} {s1 : Shared} {e : Value} (I : Inv X pins σ H s1) (cx : CXw X.prog X.w X.stack H s1 E e s) : ∃ x C H', e = .ref x ∧ Thr X pins σ H' x C s ∧ E (.ref C) none H' := by
  obtain ⟨x, C, B, H', a0, rfl, os, bare, fl, un, hokB, kb, tb, q⟩ := cx
  exact ⟨x, C, H', rfl, ⟨B, H, s1, a0, I, os, bare, fl, un, hokB, kb, tb⟩, q⟩
theorem Inv.noRec {H : Hp} {s1 : Shared} (I : Inv X pins σ H s1) {b : Addr} (hb : b ∈ frs X.stack) : ∃ o, s1.heap.get? b = some o ∧ ∀ vs, o.data ≠ .fields vs := by
  obtain ⟨_, o, e, n⟩ := I.stack.mem hb
  exact ⟨o, e, n⟩
theorem Thr.look {Q : Unit → Shared → Prop} {E : Value → Shared → Prop} {A : Around} (t : Thr X pins σ H' x C s) (hst : X.stack = X.env :: X.outer) (hf : X.env.frame = some X.env.locals) (hA : A.frames = some X.stack)
    (h : ∀ h', Thr X pins σ H' x C { s with heap := h' } → Q () { s with heap := h' }) :
    wpAny (model X.prog X.w) A (noteFrame (.ref x) X.env) (fun _ s2 => wpAny (model X.prog X.w) A (setFlight (.ref x) none) Q E s2) E s := by
  obtain ⟨B, H1, s1, a0, I, os, bare, fl, un, hok, kb, tb⟩ := t
  have fl' := fl
  rw [hst] at fl'
  refine wpAny_looks_onW (base := B) (hA.trans (by rw [hst])) hf fl' fun h2 hh u1 => ?_
  refine wpAny_landsW hh fun h3 fl3 u2 => h h3 ?_
  have u := u1.trans u2
  have fr : ∀ b o, s1.heap.get? b = some o → b ∈ frs X.stack → ∃ sl, h3.get? b = some { o with slots := sl } := fun b o e hb => by
    obtain ⟨o2, e2, nr⟩ := I.noRec hb
    rw [e] at e2
    cases e2
    obtain ⟨sl, e4⟩ := un.slot b o e (I.stkFree b hb) hb (by simp)
    obtain ⟨sl2, e5⟩ := u b _ e4 nr
    exact ⟨sl2, e5⟩
  refine ⟨B, H1, s1, a0, I, os, bare, by rw [hst]; exact fl3, ⟨fun b o e1 e2 e3 _ => fl3.1 b o (kb b o e1 e2 e3), fun b o e1 _ e3 _ => fr b o e1 e3, un.free, fun b o e1 _ => ?_, un.tups, un.frzs, un.tbls⟩, hok, kb, tb⟩
  by_cases hb : b ∈ frs X.stack
  · obtain ⟨sl, e5⟩ := fr b o e1 hb
    exact ⟨_, e5⟩
  · obtain ⟨o', e4⟩ := tb b o e1 hb
    exact ⟨o', fl3.1 b o' e4⟩
theorem Thr.again {Q : Unit → Shared → Prop} {E : Value → Shared → Prop} {A : Around} (t : Thr X pins σ H' x C s) (h : ∀ h', Thr X pins σ H' x C { s with heap := h' } → Q () { s with heap := h' }) :
    wpAny (model X.prog X.w) A (setFlight (.ref x) none) Q E s := by
  obtain ⟨B, H1, s1, a0, I, os, bare, fl, un, hok, kb, tb⟩ := t
  refine lands_againW fl fun h3 fl3 u => h h3 ?_
  have fr : ∀ b o, s1.heap.get? b = some o → b ∈ frs X.stack → ∃ sl, h3.get? b = some { o with slots := sl } := fun b o e hb => by
    obtain ⟨o2, e2, nr⟩ := I.noRec hb
    rw [e] at e2
    cases e2
    obtain ⟨sl, e4⟩ := un.slot b o e (I.stkFree b hb) hb (by simp)
    obtain ⟨sl2, e5⟩ := u b _ e4 nr
    exact ⟨sl2, e5⟩
  refine ⟨B, H1, s1, a0, I, os, bare, fl3, ⟨fun b o e1 e2 e3 _ => fl3.1 b o (kb b o e1 e2 e3), fun b o e1 _ e3 _ => fr b o e1 e3, un.free, fun b o e1 _ => ?_, un.tups, un.frzs, un.tbls⟩, hok, kb, tb⟩
  by_cases hb : b ∈ frs X.stack
  · obtain ⟨sl, e5⟩ := fr b o e1 hb
    exact ⟨_, e5⟩
  · obtain ⟨o', e4⟩ := tb b o e1 hb
    exact ⟨o', fl3.1 b o' e4⟩
theorem Thr.none (t : Thr X pins σ H' x C s) : H' x = none := by
  obtain ⟨B, H1, s1, a0, I, os, bare, fl, un, hok, kb, tb⟩ := t
  cases e : H' x with
  | none => rfl
  | some u =>
    obtain ⟨o, e1⟩ := (hok x u e).get
    rw [fl.2.1] at e1
    cases e1
theorem Thr.at (t : Thr X pins σ H' x C s) : ExAt x C s.heap := by
  obtain ⟨B, H1, s1, a0, I, os, bare, fl, un, hok, kb, tb⟩ := t
  obtain ⟨oe, vs, he, hc, hd, _⟩ := fl.first
  exact ⟨oe, vs, he, hc, hd⟩
end
abbrev XR := Addr → St → Hp → Prop
def XP (X : Cx) (pins : List (Addr × Obj)) (R : XR) (e : Value) (s : Shared) : Prop := ∃ x C σ H, e = .ref x ∧ Thr X pins σ H x C s ∧ R C σ H
section
variable {X : Cx} {k : Nat} {f : Addr} {fd : FuncData} {ps : List Str} {sp : Sp} {x : Str} {p pos : Pos} {e : Expr} {es : List Expr} {t : TA}
end
abbrev TH := Ends → Addr → St → Hp → Prop
section
variable {X : Cx} {y n : Str} {Y : Addr} {np pos : Pos} {b₀ : Stmt} {suite : List Stmt} {rest : List ExceptHandler} {tb : TS} {tr : TH} {i : Nat}
end
end L2
set_option Elab.async false
set_option linter.all false
set_option maxRecDepth 100000
set_option maxHeartbeats 4000000
namespace L2
open PySem PySem.Spec PyProof.Rows PySem.Calls PySem.W Builtin Builtin.ObjectAttr Builtin.Getset_descriptor
structure ExcI (K : PySem.W.Frag) (C : Addr) : Prop where
  ga : findIn K (.ref C) "__getattribute__" = some (some (.builtin "BaseException.__getattribute__"))
  gt : findIn K (.ref C) "__getattr__" = some none
  cl : isClsIn K C = true
  at_ : findIn K (.ref C) "__class__" = some (some (.builtin "object.__class__"))
  gs : specialIn K (.builtin "object.__class__") "__get__" = some (some (.builtin "getset_descriptor.__get__"))
  tk : takesIn K (.builtin "object.__class__") = some true
  mo : mroIn K C (.type "object") = some true
  be : subIn K (.ref C) (.type "BaseException") = some true
section
variable {prog : Program} {w : World} {A : Around} {E : Value → Shared → Prop} {s : Shared} {K : PySem.W.Frag} {x C : Addr}
end
section
variable {X : Cx}
end
end L2
set_option Elab.async false
set_option linter.all false
set_option maxRecDepth 100000
set_option maxHeartbeats 4000000
namespace L2
open PySem PySem.Spec PyProof.Rows
section
variable {P : Program} {w : World} {K : PySem.W.Frag} {mg : Str → Option Value} {base : Heap}
end
end L2
set_option Elab.async false
set_option linter.all false
set_option maxRecDepth 100000
set_option maxHeartbeats 4000000
namespace L2
open PySem PySem.Spec PyProof.Rows
section
variable {X : Cx}
theorem mul_one : ∀ n : Nat, n ≤ 64 → ∀ c ∈ [40, 41], Txt.mul (tx [c]) (n : Int) = tx (List.replicate n c) := by decide +kernel
end
end L2
set_option Elab.async false
set_option linter.all false
set_option maxRecDepth 100000
set_option maxHeartbeats 4000000
namespace L2
open PySem PySem.Spec PyProof.Rows
section
variable {prog : Program} {w : World} {A : Around} {R : Result → Shared → Prop} {s : Shared}
end
section
variable {X : Cx} {elt iter cnd : Expr} {x : Str} {px pos : Pos} {scope : Scope} {cl : List (Str × Addr)} {fns : List Str} {ixs : List Nat} {wi : TI} {tt : TT} {te : TE}
end
end L2
set_option Elab.async false
set_option linter.all false
set_option maxRecDepth 10000
set_option maxHeartbeats 400000
namespace L2
open PySem PySem.Spec PyProof.Rows
section
variable {X : Cx}
end
end L2
set_option Elab.async false
set_option linter.all false
set_option maxRecDepth 100000
set_option maxHeartbeats 4000000
namespace L2
open PySem PySem.Spec PyProof.Rows
section
variable {X : Cx}
end
end L2
set_option Elab.async false
set_option linter.all false
set_option maxRecDepth 100000
set_option maxHeartbeats 4000000
namespace L2
open PySem PySem.Spec PyProof.Rows
section
variable {X : Cx} {tg : Expr}
end
end L2
set_option Elab.async false
set_option linter.all false
set_option maxRecDepth 100000
set_option maxHeartbeats 4000000
namespace L2
open PySem PySem.Spec PyProof.Rows
section
variable {X : Cx} {elt iter cnd : Expr} {x : Str} {px pos : Pos} {scope : Scope} {cl : List (Str × Addr)} {fns : List Str} {ixs : List Nat} {wi : TI} {tt : TT} {te : TE}
end
end L2
set_option Elab.async false
set_option linter.all false
set_option maxRecDepth 100000
set_option maxHeartbeats 4000000
namespace L2
open PySem PySem.Spec PyProof.Rows
section
variable {X : Cx}
def rEqLI : R2 := fun x y H Q => ∃ a b ns ms, x = .ref a ∧ y = .ref b ∧ H a = some (.lst (intV ns)) ∧ H b = some (.lst (intV ms)) ∧ Q (.bl (decide (ns = ms))) H
theorem op_eqLI (hu : X.A.units < cLine) : OpR X (compareOp .Eq) rEqLI := by
  intro pins s σ H x y v u Q I rx ry h
  obtain ⟨a, b, ns, ms, rfl, rfl, ha, hb, q⟩ := h
  cases rx
  cases ry
  obtain ⟨its, r1, p1, _⟩ := I.list (SqL.of ha)
  obtain ⟨its2, r2, p2, _⟩ := I.list (SqL.of hb)
  have l1 := r1.length
  have l2 := r2.length
  rw [ints_len] at l1 l2
  by_cases hl : ns.length = ms.length
  · refine SeqAt.eq_listAt (e := fun j => decide (ns[j]? = ms[j]?)) p1.isList p2.isList (by rw [List.size_toArray, List.size_toArray]; omega) hu (fun j h1 h2 => eqItems r1 r2 j h1 h2) ⟨.bl (decide (ns = ms)), H, I, ?_, q⟩
    show _ = Value.bool (decide (ns = ms))
    congr 1
    rw [← all_eq, List.size_toArray, ← l1]
    simp [hl]
  · have e : decide (ns = ms) = false := decide_eq_false (fun z => hl (by rw [z]))
    rw [e] at q
    refine SeqAt.eq_list_lengthsAt p1.isList p2.isList ?_ hu ⟨.bl false, H, I, rfl, q⟩
    rw [List.size_toArray, List.size_toArray]
    simp
    omega
end
end L2
set_option Elab.async false
set_option linter.all false
set_option maxRecDepth 100000
set_option maxHeartbeats 4000000
namespace L2
open PySem PySem.Spec PyProof.Rows
def rng (lo : Int) (n : Nat) : List Int := (List.range n).map fun i : Nat => lo + (i : Int)
theorem rng_len (lo : Int) (n : Nat) : (rng lo n).length = n := by unfold rng; rw [List.length_map, List.length_range]
theorem rng_at {lo : Int} {n i : Nat} (h : i < n) : (rng lo n)[i]? = some (lo + (i : Int)) := by
  unfold rng
  rw [List.getElem?_map, List.getElem?_range h]
  rfl
theorem vals_get : ∀ (zs : List Int) (us : List Value), us.length = zs.length → (∀ (i : Nat) (z : Int) (u : Value), zs[i]? = some z → us[i]? = some u → ∃ t, u = .int z t) → Vals (intV zs) us
  | [], [], _, _ => .nil
  | z :: zs, u :: us, hl, h => .cons (h 0 z u rfl rfl) (vals_get zs us (by simpa using hl) fun i z u h1 h2 => h (i + 1) z u h1 h2)
  | [], _ :: _, hl, _ => by simp at hl
  | _ :: _, [], hl, _ => by simp at hl
theorem items_vals {lo : Int} {n : Nat} {acc : Array Value} (h : ItemsOf (fun i v => ∃ t, v = Value.int (lo + ↑i * 1) t) acc n) : Vals (intV (rng lo n)) acc.toList := by
  refine vals_get _ _ ?_ fun i z u h1 h2 => ?_
  · rw [rng_len, Array.length_toList]
    exact h.1
  · have hi : i < n := by
      have := (List.getElem?_eq_some_iff.mp h1).1
      rw [rng_len] at this
      exact this
    rw [rng_at hi] at h1
    obtain ⟨t, e⟩ := h.2 i u (by rw [← Array.getElem?_toList]; exact h2)
    exact ⟨t, by rw [e, ← Option.some.inj h1, Int.mul_one]⟩
section
variable {X : Cx} {a b : Expr} {ta : TA} {p p2 pos pos2 : Pos}
def tLR1 (ta : TA) : TE := fun σ H Q => ta σ H fun vs H1 => ∃ j : Nat, vs = [.int j] ∧ j ≤ 10000 ∧ ∀ l, H1 l = none → Q (.ref l) (upd H1 l (.lst (intV (rng 0 j))))
theorem list_range {pins : List (Addr × Obj)} {σ : St} {H : Hp} {s : Shared} {Q : VK} {lo hi : Int} {t u v : Tok} {tk : Nat} (hc : X.calm = true) (I : Inv X pins σ H s) (h1 : 0 ≤ lo) (h2 : lo ≤ 10000) (h3 : 0 ≤ hi) (h4 : hi ≤ 10000)
    (q : ∀ l, H l = none → Q (.ref l) (upd H l (.lst (intV (rng lo (hi - lo).toNat))))) : wpAny (model X.prog X.w) X.A (call (.type "list") [.ref s.heap.objs.size]) (EP X pins σ Q) X.xe { s with heap := s.heap.push { cls := .type "range", data := .fields #[.int lo t, .int hi u, .int 1 v] }, toks := tk } := by
  have I1 : Inv X pins σ H { s with heap := s.heap.push { cls := .type "range", data := .fields #[.int lo t, .int hi u, .int 1 v] }, toks := tk } := I.kept fun b o e => Heap.get?_push_of_some _ e
  have hsz : Builtin.Range.rangeSize lo hi 1 = (((hi - lo).toNat : Nat) : Int) := by rw [rangeSize_one]; split <;> omega
  refine call_list_range (n := (hi - lo).toNat) (I.ok.hd hc) (IsRange.new ..) (small_one (by omega) (by omega) (by omega) (by omega)) hsz (by omega) fun h' tk' acc' c' kp hg hit => ?_
  refine ⟨.ref _, _, I1.laid (t' := tk') (o := .lst (intV (rng lo (hi - lo).toNat))) kp (Nat.le_refl _) ⟨?_, acc'.toList, c', items_vals hit, ?_⟩, rfl, q _ (I1.hok.fresh (Nat.le_refl _))⟩
  · rw [ints_len, rng_len]
    exact Nat.le_trans (show (hi - lo).toNat ≤ 10000 by omega) (by decide)
  · rw [Array.toArray_toList]
    exact hg
theorem pe_listRange1 (hc : X.calm = true) (hgl : Gl X "list") (hml : X.mg "list" = none) (hg : Gl X "range") (hm : X.mg "range" = none) (ha : PA X [a] ta) (hs : starEach [a] X.env = [(false, eval a X.env)] := by rfl)
    (hs2 : starEach [.Call (.Name "range" p) [a] [] pos] X.env = [(false, eval (.Call (.Name "range" p) [a] [] pos) X.env)] := by rfl) : PE X (.Call (.Name "list" p2) [.Call (.Name "range" p) [a] [] pos] [] pos2) (tLR1 ta) := by
  intro pins s σ H Q I h
  refine wpAny_Call_Name_kw (ld_blt I hgl hml boot_list ?_)
  refine PyProof.Rows.callWith_type1 ?_ hs2 rfl
  rw [hs2]
  show wpAny _ _ (spliced ((false, eval (.Call (.Name "range" p) [a] [] pos) X.env) :: backTo pos2 [])) _ _ s
  refine Calls.spliced_cons ?_
  refine Call_ (ld_blt I hg hm boot_range (PyProof.Rows.callWith_type1 (thn (ha pos pins s σ H _ I h) fun us s1 ⟨vs, H1, I1, r1, q1⟩ => ?_) hs rfl))
  obtain ⟨j, e, hj, q⟩ := q1
  subst e
  cases r1 with
  | cons r rr =>
    cases rr
    obtain ⟨t, rfl⟩ := r
    refine call_range_1 (Calls.spliced_nil ?_)
    exact list_range hc I1 (by omega) (by omega) (by omega) (by omega) (by simpa using q)
end
end L2
set_option Elab.async false
set_option linter.all false
set_option maxRecDepth 100000
set_option maxHeartbeats 4000000
namespace L2
open PySem PySem.Spec PyProof.Rows
def RowsAt (H : Hp) (rs : List Addr) (rows : List (List Int)) : Prop := rs.length = rows.length ∧ ∀ (i : Nat) (r : Addr) (ns : List Int), rs[i]? = some r → rows[i]? = some ns → H r = some (.lst (intV ns))
def TabAt (H : Hp) (a : Addr) (rows : List (List Int)) : Prop := ∃ rs : List Addr, H a = some (.lst (rs.map V.ref)) ∧ RowsAt H rs rows
theorem RowsAt.same {H H' : Hp} {rs : List Addr} {rows : List (List Int)} (h : RowsAt H rs rows) (s : Same H H') : RowsAt H' rs rows := ⟨h.1, fun i r ns h1 h2 => s _ _ (h.2 i r ns h1 h2)⟩
theorem TabAt.same {H H' : Hp} {a : Addr} {rows : List (List Int)} (h : TabAt H a rows) (s : Same H H') : TabAt H' a rows := by
  obtain ⟨rs, h1, h2⟩ := h
  exact ⟨rs, s _ _ h1, h2.same s⟩
theorem vals_refs {rs : List Addr} : ∀ {us : List Value}, Vals (rs.map V.ref) us → us = rs.map Value.ref := by
  induction rs with
  | nil => intro us r; cases r; rfl
  | cons c rs ih =>
    intro us r
    cases r with
    | cons r0 r1 => cases r0; rw [ih r1]; rfl
theorem all_eqG {α : Type} [DecidableEq α] {ns ms : List α} (h : ns.length = ms.length) : (List.range ns.length).all (fun j => decide (ns[j]? = ms[j]?)) = decide (ns = ms) := by
  rw [Bool.eq_iff_iff, List.all_eq_true, decide_eq_true_iff]
  constructor
  · intro h1
    refine List.ext_getElem? fun i => ?_
    by_cases hi : i < ns.length
    · exact of_decide_eq_true (h1 i (List.mem_range.mpr hi))
    · rw [List.getElem?_eq_none (by omega), List.getElem?_eq_none (by omega)]
  · rintro rfl j _
    exact decide_eq_true rfl
section
variable {X : Cx} {pins : List (Addr × Obj)} {σ : St} {H : Hp} {s : Shared} {A : Around}
end
section
variable {X : Cx}
def rNeLI : R2 := fun x y H Q => ∃ a b ns ms, x = .ref a ∧ y = .ref b ∧ H a = some (.lst (intV ns)) ∧ H b = some (.lst (intV ms)) ∧ Q (.bl (!decide (ns = ms))) H
theorem op_neLI (hu : X.A.units < cLine) : OpR X (compareOp .NotEq) rNeLI := by
  intro pins s σ H x y v u Q I rx ry h
  obtain ⟨a, b, ns, ms, rfl, rfl, ha, hb, q⟩ := h
  cases rx
  cases ry
  obtain ⟨its, r1, p1, _⟩ := I.list (SqL.of ha)
  obtain ⟨its2, r2, p2, _⟩ := I.list (SqL.of hb)
  have l1 := r1.length
  have l2 := r2.length
  rw [ints_len] at l1 l2
  by_cases hl : ns.length = ms.length
  · refine SeqAt.RcNeAt.lists (e := fun j => decide (ns[j]? = ms[j]?)) p1.isList p2.isList (by rw [List.size_toArray, List.size_toArray]; omega) hu (fun j h1 h2 => eqItems r1 r2 j h1 h2) X.prog X.w X.xe _ ⟨.bl (!decide (ns = ms)), H, I, ?_, q⟩
    show _ = Value.bool (!decide (ns = ms))
    rw [List.size_toArray, ← l1, all_eqG hl]
  · have e : decide (ns = ms) = false := decide_eq_false (fun z => hl (by rw [z]))
    rw [e] at q
    refine SeqAt.RcNeAt.lists_lengths p1.isList p2.isList ?_ hu X.prog X.w X.xe _ ⟨.bl true, H, I, rfl, q⟩
    rw [List.size_toArray, List.size_toArray]
    simp
    omega
end
end L2
set_option Elab.async false
set_option linter.all false
set_option maxRecDepth 100000
set_option maxHeartbeats 4000000
namespace L2
open PySem PySem.Spec PyProof.Rows
def TupsAt (H : Hp) (ps : List Addr) (ws : List (List Int)) : Prop := ps.length = ws.length ∧ ∀ (i : Nat) (p : Addr) (w : List Int), ps[i]? = some p → ws[i]? = some w → H p = some (.tup (intV w))
def WordsAt (H : Hp) (a : Addr) (ws : List (List Int)) : Prop := ∃ ps : List Addr, H a = some (.lst (ps.map V.ref)) ∧ TupsAt H ps ws
theorem TupsAt.keep {H H' : Hp} {ps : List Addr} {ws : List (List Int)} (h : TupsAt H ps ws) (s : ∀ p xs, H p = some (.tup xs) → H' p = some (.tup xs)) : TupsAt H' ps ws := ⟨h.1, fun i p w h1 h2 => s _ _ (h.2 i p w h1 h2)⟩
theorem TupsAt.same {H H' : Hp} {ps : List Addr} {ws : List (List Int)} (h : TupsAt H ps ws) (s : Same H H') : TupsAt H' ps ws := h.keep fun p xs e => s _ _ e
theorem WordsAt.same {H H' : Hp} {a : Addr} {ws : List (List Int)} (h : WordsAt H a ws) (s : Same H H') : WordsAt H' a ws := by
  obtain ⟨ps, h1, h2⟩ := h
  exact ⟨ps, s _ _ h1, h2.same s⟩
theorem TupsAt.snoc {H : Hp} {ps : List Addr} {ws : List (List Int)} {p : Addr} {w : List Int} (h : TupsAt H ps ws) (hp : H p = some (.tup (intV w))) : TupsAt H (ps ++ [p]) (ws ++ [w]) := by
  refine ⟨by rw [List.length_append, List.length_append, h.1]; rfl, fun i q u h1 h2 => ?_⟩
  by_cases hi : i < ps.length
  · rw [List.getElem?_append_left hi] at h1
    rw [List.getElem?_append_left (by rw [← h.1]; exact hi)] at h2
    exact h.2 i q u h1 h2
  · rw [List.getElem?_append_right (by omega)] at h1
    rw [List.getElem?_append_right (by rw [← h.1]; omega)] at h2
    rw [List.mem_singleton.mp (List.mem_of_getElem? h1), List.mem_singleton.mp (List.mem_of_getElem? h2)]
    exact hp
section
variable {X : Cx} {pins : List (Addr × Obj)} {σ : St} {H : Hp} {s : Shared} {A : Around}
end
section
variable {X : Cx}
end
end L2
set_option Elab.async false
set_option linter.all false
set_option maxRecDepth 100000
set_option maxHeartbeats 4000000
namespace L2
open PySem PySem.Spec PyProof.Rows
section
variable {X : Cx}
def isInt (k : Int) : Value → Bool
  | .int z _ => z == k
  | _ => false
def rIndexL : V → List V → Hp → VK → Prop := fun x vs H Q => ∃ (a : Addr) (ns : List Int) (k : Int), x = .ref a ∧ vs = [.int k] ∧ H a = some (.lst (intV ns)) ∧ k ∈ ns ∧ ∀ i : Nat, ns[i]? = some k → (∀ j, j < i → ns[j]? ≠ some k) → Q (.int i) H
theorem first_ofI {l : List Int} {c : Int} (h : c ∈ l) : ∃ i : Nat, l[i]? = some c ∧ ∀ j, j < i → l[j]? ≠ some c := by
  induction l with
  | nil => cases h
  | cons a l ih =>
    by_cases e : a = c
    · exact ⟨0, by rw [e]; rfl, fun j hj => by omega⟩
    · obtain ⟨i, h1, h2⟩ := ih ((List.mem_cons.mp h).resolve_left (Ne.symm e))
      refine ⟨i + 1, h1, fun j hj => ?_⟩
      cases j with
      | zero => exact fun z => e (Option.some.inj z)
      | succ j => exact h2 j (by omega)
theorem mt_list_index : MtM X "list.index" rIndexL := by
  intro pins s σ H x vs v us Q I rx rv h
  obtain ⟨a, ns, k, rfl, rfl, hH, hm, q⟩ := h
  cases rx
  obtain ⟨u, rfl, ru⟩ := rv.one
  obtain ⟨t, rfl⟩ := ru
  obtain ⟨z, its, n, r, hl, e⟩ := I.lstM hH
  rw [ints_len] at z hl
  obtain ⟨i, h1, h2⟩ := first_ofI hm
  have hi : i < ns.length := (List.getElem?_eq_some_iff.mp h1).1
  have at_ : ∀ (m : Nat) (hm : m < its.toArray.size), isInt k its.toArray[m] = decide (ns[m]? = some k) := fun m hm => by
    have hm' : m < its.length := by simpa using hm
    have hn : ns[m]? = some (ns[m]'(by omega)) := List.getElem?_eq_getElem (by omega)
    obtain ⟨w, hw, t', rfl⟩ := r.get (ints_at hn)
    have f1 : its.toArray[m] = Value.int (ns[m]'(by omega)) t' := by
      rw [List.getElem_toArray]
      exact Option.some.inj ((List.getElem?_eq_getElem hm').symm.trans hw)
    rw [f1, hn]
    show (ns[m]'(by omega) == k) = _
    rw [Bool.eq_iff_iff, beq_iff_eq, decide_eq_true_iff]
    exact ⟨fun z => by rw [z], fun z => Option.some.inj z⟩
  have hsz : (sizeLine : Nat) < 2 ^ 62 := by decide
  refine call_meets F.slot_list_index ⟨_, e, rfl⟩ F.entry_list_index (F.args_list_index_2 _ _)
    (SeqAt.list_indexAt a its.toArray n none #[] (.int k t) (isInt k) i (by rw [List.size_toArray]; omega) (by omega) (by rw [at_]; exact decide_eq_true h1) (fun m hm hlt => by rw [at_]; exact decide_eq_false (h2 m hlt))) ⟨e, fun y hy => ?_, ?_⟩
  · obtain ⟨m, hm, ey⟩ := List.mem_iff_getElem.mp (Array.mem_toList_iff.mpr hy)
    have hm' : m < its.length := by simpa using hm
    have hn : ns[m]? = some (ns[m]'(by omega)) := List.getElem?_eq_getElem (by omega)
    obtain ⟨w, hw, t', rfl⟩ := r.get (ints_at hn)
    have f1 : y = Value.int (ns[m]'(by omega)) t' := by
      rw [← ey]
      exact Option.some.inj ((List.getElem?_eq_getElem hm').symm.trans hw)
    rw [f1]
    exact SeqAt.EqAt.int_int _ t' k t
  · exact ⟨.int i, H, I.tok _, ⟨_, rfl⟩, q i h1 h2⟩
end
end L2
set_option Elab.async false
set_option linter.all false
set_option maxRecDepth 100000
set_option maxHeartbeats 4000000
namespace L2
open PySem PySem.Spec PyProof.Rows
section
variable {X : Cx} {tg : Expr}
end
end L2
set_option Elab.async false
set_option linter.all false
set_option maxRecDepth 100000
set_option maxHeartbeats 4000000
namespace L2
open PySem PySem.Spec PyProof.Rows
theorem ne_cls {h : Heap} {a b : Addr} {o u : Obj} (ha : h.get? a = some o) (hb : h.get? b = some u) (hc : o.cls ≠ u.cls) : a ≠ b := fun z => by
  subst z
  rw [ha] at hb
  exact hc (by rw [Option.some.inj hb])
section
variable {X : Cx}
end
end L2
set_option Elab.async false
set_option linter.all false
set_option maxRecDepth 100000
set_option maxHeartbeats 4000000
namespace L2
open PySem PySem.Spec PyProof.Rows
section
variable {X : Cx}
end
end L2
set_option Elab.async false
set_option linter.all false
set_option maxRecDepth 100000
set_option maxHeartbeats 4000000
namespace L2
open PySem PySem.Spec PyProof.Rows
def Itz (K : PySem.W.Frag) (a b : Addr) : It :=
  ⟨fun i H => ∃ xs x ys y, SqL K H a xs ∧ xs[i]? = some x ∧ SqL K H b ys ∧ ys[i]? = some y,
   fun i H x H' => ∃ p v u, H p = none ∧ (∀ ys, SqL K H a ys → ys[i]? = some v) ∧ (∀ ys, SqL K H b ys → ys[i]? = some u) ∧ x = .ref p ∧ H' = upd H p (.tup [v, u]),
   fun i H => ∃ xs ys, SqL K H a xs ∧ SqL K H b ys ∧ (xs.length ≤ i ∨ ys.length ≤ i)⟩
def ZipSt (z TI TO i1 i2 l1 l2 : Addr) (i : Nat) (h : Heap) : Prop := IsZip h z TI TO .none ∧ IsPair h TI (.ref i1) (.ref i2) ∧ (∃ a b, IsPair h TO a b) ∧ h.IsListIter i1 l1 i ∧ h.IsListIter i2 l2 i
theorem zip_apart {h : Heap} {n l1 l2 : Addr} {o1 o2 : Obj} {i : Nat} (hl1 : h.get? l1 = some o1) (hc1 : o1.cls = .type "list") (hl2 : h.get? l2 = some o2) (hc2 : o2.cls = .type "list") (st : ZipSt (n + 4) (n + 2) (n + 3) n (n + 1) l1 l2 i h) : ZipApart (n + 4) (n + 2) (n + 3) n (n + 1) l1 l2 := by
  obtain ⟨hz, hTI, ⟨a, b, hTO⟩, ⟨p1, g1, k1, _⟩, ⟨p2, g2, k2, _⟩⟩ := st
  exact ⟨(fun zz => by have zz : @Eq Nat _ _ := zz; omega), (fun zz => by have zz : @Eq Nat _ _ := zz; omega), (fun zz => by have zz : @Eq Nat _ _ := zz; omega), (fun zz => by have zz : @Eq Nat _ _ := zz; omega), (fun zz => by have zz : @Eq Nat _ _ := zz; omega), (fun zz => by have zz : @Eq Nat _ _ := zz; omega), (fun zz => by have zz : @Eq Nat _ _ := zz; omega), (fun zz => by have zz : @Eq Nat _ _ := zz; omega), (fun zz => by have zz : @Eq Nat _ _ := zz; omega), (fun zz => by have zz : @Eq Nat _ _ := zz; omega),
    ne_cls hl1 hz (by rw [hc1]; show Value.type "list" ≠ Value.type "zip"; decide), ne_cls hl1 hTO (by rw [hc1]; show Value.type "list" ≠ Value.type "tuple"; decide), ne_cls hl1 g1 (by rw [hc1, k1]; decide), ne_cls hl1 g2 (by rw [hc1, k2]; decide),
    ne_cls hl2 hz (by rw [hc2]; show Value.type "list" ≠ Value.type "zip"; decide), ne_cls hl2 hTO (by rw [hc2]; show Value.type "list" ≠ Value.type "tuple"; decide), ne_cls hl2 g1 (by rw [hc2, k1]; decide), ne_cls hl2 g2 (by rw [hc2, k2]; decide)⟩
theorem turn_zip {P : Program} {w : World} {K : PySem.W.Frag} {elts : List Expr} {x1 : Nat} {tp : Pos} (n a b : Addr) :
    Turn P w K (.Tuple elts x1 tp) (Itz K a b) [n + 4, n + 2, n + 3, n, n + 1] (n + 4) (ZipSt (n + 4) (n + 2) (n + 3) n (n + 1) a b) where
  mem := by simp
  obj := fun i h st c hc => by
    obtain ⟨hz, hTI, ⟨ta, tb, hTO⟩, ⟨p1, g1, k1, d1⟩, ⟨p2, g2, k2, d2⟩⟩ := st
    simp only [List.mem_cons, List.not_mem_nil, or_false] at hc
    rcases hc with rfl | rfl | rfl | rfl | rfl
    · exact ⟨_, hz, fun v z => by cases z⟩
    · exact ⟨_, hTI, fun v z => by cases z⟩
    · exact ⟨_, hTO, fun v z => by cases z⟩
    · exact ⟨_, g1, fun v z => by rw [d1] at z; cases z⟩
    · exact ⟨_, g2, fun v z => by rw [d2] at z; cases z⟩
  keep := fun i h h' st k => by
    obtain ⟨hz, hTI, ⟨ta, tb, hTO⟩, h1, h2⟩ := st
    exact ⟨k _ (by simp) _ hz, k _ (by simp) _ hTI, ⟨ta, tb, k _ (by simp) _ hTO⟩, h1.at fun o e => k _ (by simp) o e, h2.at fun o e => k _ (by simp) o e⟩
  item := by
    intro X hP hw hK hc i pins s σ H E I hf st hg
    subst hP hw hK
    obtain ⟨xs, x, ys, y, hq, hx, hq2, hy⟩ := hg
    obtain ⟨its, rv, p, hz1⟩ := I.list hq
    obtain ⟨u, hu, ru⟩ := rv.get hx
    obtain ⟨its2, rv2, p2, hz2⟩ := I.list hq2
    obtain ⟨u2, hu2, ru2⟩ := rv2.get hy
    obtain ⟨o1, ho1, hc1, hd1⟩ := id p.isList
    obtain ⟨o2, ho2, hc2, hd2⟩ := id p2.isList
    have D := zip_apart ho1 hc1 ho2 hc2 st
    obtain ⟨hz, hTI, ⟨ta, tb, hTO⟩, h1, h2⟩ := st
    refine wpAny_pyNext_zip_item D hz hTI hTO h1 h2 p.isList p2.isList (x := u) (y := u2) (by simpa using hu) (by simpa using hu2) fun h' hz' hTO' h1' h2' hT' hsz hk => ?_
    refine ⟨_, rfl, ?_⟩
    refine wpAny_letOwnedTupleGo_zip hz' fun h'' hz'' hs'' => ?_
    have hnz : n + 4 < s.heap.objs.size := Heap.lt_size hz
    have hT2 : h''.get? s.heap.objs.size = some { cls := .type "tuple", data := .seq #[u, u2] } := (hs''.2 _ (Nat.ne_of_gt hnz)).trans hT'
    have hkk : ∀ b ob, b ∉ [n + 4, n + 2, n + 3, n, n + 1] → s.heap.get? b = some ob → h''.get? b = some ob := fun b ob hb q => by
      simp only [List.mem_cons, List.not_mem_nil, or_false, not_or] at hb
      exact (hs''.2 b hb.1).trans (hk b ob hb.1 hb.2.2.1 hb.2.2.2.1 hb.2.2.2.2 q)
    have hfr := I.hok.fresh (Nat.le_refl s.heap.objs.size)
    have hTI2 : h''.get? (n + 2) = some { cls := .type "tuple", data := .seq #[.ref n, .ref (n + 1)] } := (hs''.2 _ (fun zz => by have zz : @Eq Nat _ _ := zz; omega)).trans (hk _ _ (fun zz => by have zz : @Eq Nat _ _ := zz; omega) (fun zz => by have zz : @Eq Nat _ _ := zz; omega) (fun zz => by have zz : @Eq Nat _ _ := zz; omega) (fun zz => by have zz : @Eq Nat _ _ := zz; omega) hTI)
    refine ⟨.ref s.heap.objs.size, _, I.turnLaid (fp := [n + 4, n + 2, n + 3, n, n + 1]) (a := s.heap.objs.size) (o := .tup [x, y]) (h' := h'') (t' := s.toks) hkk hf (Nat.le_refl _) ?_, rfl, ⟨_, x, y, hfr, fun ys hy => by rw [I.list_inj hy hq]; exact hx, fun zs hzs => by rw [I.list_inj hzs hq2]; exact hy, rfl, rfl⟩, ⟨hz'', hTI2, ⟨_, _, (hs''.2 _ (fun zz => by have zz : @Eq Nat _ _ := zz; omega)).trans hTO'⟩, h1'.at fun o e => (hs''.2 _ (fun zz => by have zz : @Eq Nat _ _ := zz; omega)).trans e, h2'.at fun o e => (hs''.2 _ (fun zz => by have zz : @Eq Nat _ _ := zz; omega)).trans e⟩, fun c hc => ?_⟩
    · exact ⟨by show 2 ≤ sizeLine; decide, [u, u2], .cons ru (.cons ru2 .nil), _, hT2, rfl, _, rfl⟩
    · rw [upd_ne]
      · exact (hf c hc).1
      · intro z
        subst z
        simp only [List.mem_cons, List.not_mem_nil, or_false] at hc
        have key : ∀ a, a ≤ n + 4 → s.heap.objs.size ≠ a := fun a ha z => absurd (Nat.lt_of_le_of_lt ha hnz) (by rw [z]; exact Nat.lt_irrefl _)
        rcases hc with hc | hc | hc | hc | hc
        · exact key _ (Nat.le_refl _) hc
        · exact key _ (Nat.add_le_add_left (by decide) n) hc
        · exact key _ (Nat.add_le_add_left (by decide) n) hc
        · exact key _ (Nat.le_add_right _ _) hc
        · exact key _ (Nat.add_le_add_left (by decide) n) hc
  done := by
    intro X hP hw hK hc i pins s σ H E I hf st hg
    subst hP hw hK
    obtain ⟨xs, ys, hq, hq2, hend⟩ := hg
    obtain ⟨its, rv, p, hz1⟩ := I.list hq
    obtain ⟨its2, rv2, p2, hz2⟩ := I.list hq2
    obtain ⟨o1, ho1, hc1, hd1⟩ := id p.isList
    obtain ⟨o2, ho2, hc2, hd2⟩ := id p2.isList
    have D := zip_apart ho1 hc1 ho2 hc2 st
    obtain ⟨hz, hTI, ⟨ta, tb, hTO⟩, h1, h2⟩ := st
    have hl1 := rv.length
    have hl2 := rv2.length
    refine wpAny_pyNext_zip_end (I.ok.hd hc) D hz hTI hTO h1 h2 p.isList p2.isList ?_ fun h' hk => ⟨rfl, I.turnedL (fp := [n + 4, n + 2, n + 3, n, n + 1]) (t' := s.toks) (fun b o hb q => ?_) hf⟩
    · rcases hend with h | h
      · exact .inl (by rw [List.getElem?_toArray]; exact List.getElem?_eq_none (by omega))
      · exact .inr (by rw [List.getElem?_toArray]; exact List.getElem?_eq_none (by omega))
    · simp only [List.mem_cons, List.not_mem_nil, or_false, not_or] at hb
      exact hk b o hb.1 hb.2.2.1 hb.2.2.2.1 hb.2.2.2.2 q
  self := fun A i s Q E st h => wpAny_pyIter_zip st.1 h
section
variable {X : Cx}
def iZip (K : PySem.W.Frag) (ta : TA) : TI := fun σ H R => ta σ H fun vs H1 => ∃ a b, vs = [.ref a, .ref b] ∧ (∃ xs, SqL K H1 a xs) ∧ (∃ xs, SqL K H1 b xs) ∧ R (Itz K a b) H1
theorem pi_zip {a b : Expr} {ta : TA} {elts : List Expr} {x1 : Nat} {tp p pos : Pos} (hg : Gl X "zip") (hm : X.mg "zip" = none) (ha : PA X [a, b] ta) (hs : starEach [a, b] X.env = (false, eval a X.env) :: starEach [b] X.env := by rfl)
    (hs2 : ((backTo pos (starEach [b] X.env)).any (·.1)) = false := by rfl) : PI X (.Tuple elts x1 tp) (.Call (.Name "zip" p) [a, b] [] pos) (iZip X.K ta) := by
  intro pins s σ H R I h
  refine Call_ (ld_blt I hg hm boot_zip (PyProof.Rows.callWith_type1 (thn (ha pos pins s σ H _ I h) fun us s1 ⟨vs, H1, I1, r1, q1⟩ => ?_) hs hs2))
  obtain ⟨l1, l2, e, ⟨xs, hq⟩, ⟨ys, hq2⟩, q⟩ := q1
  subst e
  cases r1 with
  | cons r rr =>
    cases rr with
    | cons r' rr =>
      cases rr
      cases r
      cases r'
      obtain ⟨its, rv, pl, hz⟩ := I1.list hq
      obtain ⟨its2, rv2, pl2, hz2⟩ := I1.list hq2
      refine call_zip_2 pl.isList pl2.isList fun h' hz' hTI hTO hi1 hi2 hsz hk => ?_
      have I3 : Inv X pins σ H1 { s1 with heap := h' } := I1.kept (t' := s1.toks) hk
      have T := turn_zip (P := X.prog) (w := X.w) (K := X.K) (elts := elts) (x1 := x1) (tp := tp) s1.heap.objs.size l1 l2
      have st : ZipSt (s1.heap.objs.size + 4) (s1.heap.objs.size + 2) (s1.heap.objs.size + 3) s1.heap.objs.size (s1.heap.objs.size + 1) l1 l2 0 h' := ⟨hz', hTI, ⟨_, _, hTO⟩, hi1, hi2⟩
      refine T.self _ 0 { s1 with heap := h' } _ _ st ⟨_, _, _, _, H1, rfl, I3, T, st, fun c hc => ?_, q⟩
      simp only [List.mem_cons, List.not_mem_nil, or_false] at hc
      have hle : s1.heap.objs.size ≤ c := by rcases hc with rfl | rfl | rfl | rfl | rfl <;> first | exact Nat.le_add_right _ _ | exact Nat.le_refl _
      exact I1.fpOk hle (I1.hok.fresh hle)
end
theorem for_zip {K : PySem.W.Frag} {a b : Addr} {xs ys : List V} {g : TG} {tb : TS} {D : Ends} {σ : St} {H : Hp} (Pv : Nat → St → Hp → Prop) (hxy : xs.length = ys.length) (h0 : Pv 0 σ H) (hl : ∀ i σ H, i ≤ xs.length → Pv i σ H → SqL K H a xs ∧ SqL K H b ys)
    (hs : ∀ i v u σ H p, xs[i]? = some v → ys[i]? = some u → H p = none → Pv i σ H → g (.ref p) σ (upd H p (.tup [v, u])) fun σ2 H2 => tb { D with nx := Pv (i + 1), ct := Pv (i + 1), bk := D.nx } σ2 H2) (hd : ∀ σ H, Pv xs.length σ H → D.nx σ H) :
    ∃ W : Nat → Nat → St → Hp → Prop, (∃ m, W 0 m σ H) ∧ ∀ i m σ H, W i m σ H →
      ((Itz K a b).stop i H ∧ D.nx σ H) ∨ ((Itz K a b).go i H ∧ ∃ N : St → Hp → Prop, (∀ σ' H', N σ' H' → ∃ m', m' < m ∧ W (i + 1) m' σ' H') ∧ ∀ x H', (Itz K a b).yld i H x H' → g x σ H' fun σ2 H2 => tb { D with nx := N, ct := N, bk := D.nx } σ2 H2) := by
  refine ⟨fun i m σ H => m = xs.length - i ∧ i ≤ xs.length ∧ Pv i σ H, ⟨xs.length, by simp, Nat.zero_le _, h0⟩, ?_⟩
  rintro i m σ H ⟨rfl, hi, p⟩
  obtain ⟨q, q2⟩ := hl i σ H hi p
  by_cases hlt : i < xs.length
  · refine .inr ⟨⟨xs, _, ys, _, q, List.getElem?_eq_getElem hlt, q2, List.getElem?_eq_getElem (show i < ys.length by omega)⟩, Pv (i + 1), fun σ' H' p' => ⟨xs.length - (i + 1), by omega, rfl, hlt, p'⟩, fun x H' y => ?_⟩
    obtain ⟨r, v, u, hr, hv, hu, rfl, rfl⟩ := y
    exact hs i v u σ H r (hv xs q) (hu ys q2) hr p
  · have e : i = xs.length := by omega
    subst e
    exact .inl ⟨⟨xs, ys, q, q2, .inl (Nat.le_refl _)⟩, hd σ H p⟩
end L2
set_option Elab.async false
set_option linter.all false
set_option maxRecDepth 100000
set_option maxHeartbeats 4000000
namespace L2
open PySem PySem.Spec PyProof.Rows
namespace En
section
variable {prog : Program} {w : World} {A : Around} {E : Value → Shared → Prop} {s : Shared}
end
end En
end L2
set_option Elab.async false
set_option linter.all false
set_option maxRecDepth 100000
set_option maxHeartbeats 4000000
namespace L2
open PySem PySem.Spec PyProof.Rows
namespace En
open AutoSeq1 (wpAny_loadPart')
section
variable {prog : Program} {w : World} {A : Around} {E : Value → Shared → Prop} {s : Shared}
end
end En
section
variable {X : Cx}
end
end L2
set_option Elab.async false
set_option linter.all false
set_option maxRecDepth 100000
set_option maxHeartbeats 4000000
namespace L2
open PySem PySem.Spec PyProof.Rows
namespace En
open AutoSeq1 (wpAny_loadPart')
section
variable {prog : Program} {w : World} {A : Around} {E : Value → Shared → Prop} {s : Shared}
end
end En
section
variable {X : Cx}
end
end L2
set_option Elab.async false
set_option linter.all false
set_option maxRecDepth 100000
set_option maxHeartbeats 4000000
namespace L2
open PySem PySem.Spec PyProof.Rows
section
variable {X : Cx}
end
section
variable {X : Cx} {tg : Expr}
end
section
variable {X : Cx} {pins : List (Addr × Obj)} {σ : St} {H : Hp} {s : Shared} {A : Around}
end
section
variable {X : Cx}
end
end L2
set_option Elab.async false
set_option linter.all false
set_option maxRecDepth 100000
set_option maxHeartbeats 4000000
namespace L2
open PySem PySem.Spec PyProof.Rows
def RawD (h : Heap) (d : Addr) (es : Array DictEntry) (ep : Nat) : Prop := ∃ o, h.get? d = some o ∧ o.ExactDict ∧ o.data = .dict es ep
namespace Dk
section
variable {prog : Program} {w : World} {A : Around} {E : Value → Shared → Prop} {s : Shared} {d : Addr} {es : Array DictEntry} {ep : Nat}
theorem typ (hm : RawD s.heap d es ep) : s.TypeIs (.ref d) "dict" := let ⟨o, ho, hc, _⟩ := hm; ⟨o, ho, hc.1⟩
theorem iter {Q : Value → Shared → Prop} (hd : (d == sysModules) = false) (hm : RawD s.heap d es ep)
    (hQ : Q (.ref s.heap.objs.size) { s with heap := s.heap.push { cls := .type "dict_keyiterator", data := .fields #[.ref d, .int 0 0, .int es.size 0, .int ep 0] } }) : wpAny (model prog w) A (pyIter (.ref d)) Q E s := by
  have hT := typ hm
  obtain ⟨o, ho, hc, hdat⟩ := hm
  refine wpAny_pyIter_slot hT F.slot_dict_iter (wpAny_call_entry F.slot_dict_iter hT F.entry_dict_iter ?_ (F.args_dict_iter_1 _))
  unfold Builtin.«dict.__iter__»
  refine wpAny_bind ?_
  unfold Builtin.Dict.dictSlotNone
  refine wpAny_bind (wpAny_notOrdered_dict hT ?_)
  show wpAny _ _ (pure (Value.ref d)) _ _ s
  refine wpAny_pure ?_
  show wpAny _ _ (Builtin.Dict.showsAll d >>= _) _ _ s
  unfold Builtin.Dict.showsAll
  rw [if_neg (by rw [hd]; exact Bool.false_ne_true)]
  refine wpAny_bind (wpAny_pure (wpAny_bind (wpAny_dictEntries ho hdat (wpAny_bind (wpAny_dictEpoch ho hdat ?_)))))
  exact wpAny_bind (wpAny_newObj_type (wpAny_pure ⟨_, rfl, "dict_keyiterator", _, ⟨_, Heap.get?_push_size _ rfl, rfl⟩, F.slot_dict_keyiterator_next.lookup, by simpa [rawInt] using hQ⟩))
theorem item {it : Addr} {i : Nat} {en : DictEntry} {Q : Option Value → Shared → Prop} (hit : s.heap.IsKeyIter it d i es.size ep) (hm : RawD s.heap d es ep) (hx : es[i]? = some en)
    (hQ : ∀ g1, g1.IsKeyIter it d (i + 1) es.size ep → Heap.SameBut it s.heap g1 → Q (some en.key) { s with heap := g1 }) : wpAny (model prog w) A (pyNext (.ref it)) Q E s := by
  obtain ⟨o, ho, hc, hd⟩ := id hit
  obtain ⟨od, hod, hcd, hdd⟩ := id hm
  unfold pyNext
  refine wpAny_bind (wpAny_attempt (wpAny_callSpecial?_slot (name := Str.ofString "__next__") hit.typeIs F.slot_dict_keyiterator_next (wpAny_call_entry F.slot_dict_keyiterator_next hit.typeIs F.entry_dict_keyiterator_next ?_ (F.args_dict_keyiterator_next_1 _))))
  refine wpAny_bind (wpAny_pure (wpAny_bind (wpAny_bind ?_)))
  first | refine wpAny_bind (wpAny_typeNameOfWhole_keyiter hit.typeIs (wpAny_pure ?_)) | refine wpAny_bind (wpAny_typeNameOf_keyiter hit.typeIs (wpAny_pure ?_))
  refine wpAny_bind (wpAny_fieldsOf ho hd ?_)
  have own : Builtin.Dict_items.ownsTuple "dict_keyiterator" = false := by decide
  simp only [own, Bool.false_eq_true, if_false]
  show wpAny _ _ (if (Value.ref d == Value.none) = true then _ else _) _ _ s
  rw [if_neg (show ¬ ((Value.ref d == Value.none) = true) from Bool.false_ne_true)]
  refine wpAny_bind (wpAny_pure (wpAny_bind (wpAny_dictEntries hod hdd ?_)))
  rw [if_neg (by simp)]
  refine wpAny_bind (wpAny_pure (wpAny_bind (wpAny_dictEpoch hod hdd ?_)))
  rw [if_neg (by simp)]
  refine wpAny_pure ?_
  simp only [show ¬ ((i : Int) < 0) from by omega, if_false, Int.toNat_natCast, hx]
  refine wpAny_bind ?_
  first | refine wpAny_bind (wpAny_typeNameOfWhole_keyiter hit.typeIs (wpAny_pure ?_)) | refine wpAny_bind (wpAny_typeNameOf_keyiter hit.typeIs (wpAny_pure ?_))
  refine wpAny_bind (wpAny_isOneOf_keyiter hit.typeIs ?_)
  show wpAny _ _ (setField (.ref it) 1 (rawInt ((i : Int) + 1)) >>= _) _ _ s
  refine wpAny_bind (wpAny_setField ho hd (by simp) ?_)
  have j1 : (s.heap.update it (Obj.mapFields (·.setIfInBounds 1 (rawInt ((i : Int) + 1))))).IsKeyIter it d (i + 1) es.size ep :=
    ⟨_, Heap.get?_update_self _ ho (Obj.isFreed_of_fields (Obj.data_mapFields hd _)), (Obj.cls_mapFields ..).trans hc, by rw [Obj.data_mapFields hd]; simp [rawInt]⟩
  refine wpAny_bind (wpAny_holding ?_)
  refine wpAny_bind (wpAny_isOneOf_keyiter (s := { s with heap := s.heap.update it (Obj.mapFields (·.setIfInBounds 1 (rawInt ((i : Int) + 1)))) }) j1.typeIs ?_)
  show wpAny _ _ (pure en.key) _ _ _
  exact wpAny_pure (wpAny_pure ⟨_, rfl, wpAny_pure (hQ _ j1 (Heap.SameBut.update ..))⟩)
theorem fin {it : Addr} {i : Nat} {Q : Option Value → Shared → Prop} (hh : A.handled = none) (hit : s.heap.IsKeyIter it d i es.size ep) (hm : RawD s.heap d es ep) (hx : es[i]? = none)
    (hQ : ∀ g1, Heap.ExtBut it s.heap g1 → Q none { s with heap := g1 }) : wpAny (model prog w) A (pyNext (.ref it)) Q E s := by
  obtain ⟨o, ho, hc, hd⟩ := id hit
  obtain ⟨od, hod, hcd, hdd⟩ := id hm
  unfold pyNext
  refine wpAny_bind (wpAny_attempt (wpAny_callSpecial?_slot (name := Str.ofString "__next__") hit.typeIs F.slot_dict_keyiterator_next (wpAny_call_entry F.slot_dict_keyiterator_next hit.typeIs F.entry_dict_keyiterator_next ?_ (F.args_dict_keyiterator_next_1 _))))
  refine wpAny_bind (wpAny_pure (wpAny_bind (wpAny_bind ?_)))
  first | refine wpAny_bind (wpAny_typeNameOfWhole_keyiter hit.typeIs (wpAny_pure ?_)) | refine wpAny_bind (wpAny_typeNameOf_keyiter hit.typeIs (wpAny_pure ?_))
  refine wpAny_bind (wpAny_fieldsOf ho hd ?_)
  have own : Builtin.Dict_items.ownsTuple "dict_keyiterator" = false := by decide
  simp only [own, Bool.false_eq_true, if_false]
  show wpAny _ _ (if (Value.ref d == Value.none) = true then _ else _) _ _ s
  rw [if_neg (show ¬ ((Value.ref d == Value.none) = true) from Bool.false_ne_true)]
  refine wpAny_bind (wpAny_pure (wpAny_bind (wpAny_dictEntries hod hdd ?_)))
  rw [if_neg (by simp)]
  refine wpAny_bind (wpAny_pure (wpAny_bind (wpAny_dictEpoch hod hdd ?_)))
  rw [if_neg (by simp)]
  refine wpAny_pure ?_
  simp only [show ¬ ((i : Int) < 0) from by omega, if_false, Int.toNat_natCast, hx]
  refine wpAny_bind ?_
  first | refine wpAny_bind (wpAny_typeNameOfWhole_keyiter hit.typeIs (wpAny_pure ?_)) | refine wpAny_bind (wpAny_typeNameOf_keyiter hit.typeIs (wpAny_pure ?_))
  show wpAny _ _ (setField (.ref it) 0 .none >>= _) _ _ s
  refine wpAny_bind (wpAny_setField ho hd (by simp) ?_)
  show wpAny _ _ (newExc (.type "StopIteration") [] >>= _) _ _ _
  refine wpAny_bind ?_
  simp only [newExc, newTuple]
  refine wpAny_bind (wpAny_newObj_type ?_ (by size_fits))
  refine wpAny_bind (m := firstArgMember _ _) (wpAny_of_eq (a := Value.none) (by first | rfl | (simp only [firstArgMember]; rfl)) ?_)
  refine wpAny_newObj_type ?_ (by size_fits)
  simp only [raiseNew]
  refine wpAny_bind (wpAny_handled ?_)
  rw [show A.in1.handled = none from hh]
  refine wpAny_bind (wpAny_pure (wpAny_throw ?_))
  refine wpAny_bind (wpAny_isInstance (T := "StopIteration") (b := true) ⟨_, Heap.get?_push_size _ rfl, rfl⟩ isSubtype_stop ?_)
  exact wpAny_pure (hQ _ (((Heap.SameBut.update ..).extBut.push _).push _))
theorem RawD.at {h h' : Heap} (x : RawD h d es ep) (e : ∀ o, h.get? d = some o → h'.get? d = some o) : RawD h' d es ep := let ⟨o, ho, r⟩ := x; ⟨o, e _ ho, r⟩
theorem walks (hh : A.handled = none) (I : Addr) (hne : d ≠ I) : Walks prog w A I [I, d] [I] es.size (fun i v => ∃ en, es[i]? = some en ∧ v = en.key) (fun i h => h.IsKeyIter I d i es.size ep ∧ RawD h d es ep) where
  sub := fun b hb => by simp at hb; simp [hb]
  frame := fun _ _ _ st hk => ⟨st.1.at fun o e => hk I (by simp) o e, RawD.at st.2 fun o e => hk d (by simp) o e⟩
  item := fun i s Q E hi st hQ => by
    refine item (en := es[i]) st.1 st.2 (by simp [hi]) fun g1 j1 b1 => ?_
    exact hQ _ g1 s.toks ⟨_, by simp [hi], rfl⟩ ⟨j1, RawD.at st.2 fun o e => b1.extBut _ _ hne e⟩ fun b o hb e => b1.extBut b o (fun h => hb (by simp [h])) e
  done := fun s Q E st hQ => fin hh st.1 st.2 (by simp) fun g1 b1 => hQ g1 s.toks fun b o hb e => b1 b o (fun h => hb (by simp [h])) e
  self := fun _ _ _ _ st hQ => wpAny_pyIter_keyiter st.1 hQ
theorem hint {Q : Bool → Shared → Prop} (hm : RawD s.heap d es ep) (h : Q false s) : wpAny (model prog w) A (Builtin.List.listLengthHint (.ref d)) Q E s := by
  unfold Builtin.List.listLengthHint
  refine wpAny_bind (wpAny_specialOf (typ hm) F.slot_dict_len.lookup ?_)
  generalize hid : ("dict.__len__" : String) = id0
  wp_delta
  rw [show splitId id0 = some ("dict", "__len__") from by subst hid; decide +kernel]
  subst hid
  refine wpAny_bind (wpAny_isInstance (T := "dict") (b := true) (typ hm) (by rw [isSubtype_type]; kernel_rfl) ?_)
  refine wpAny_ite_split (fun hab => absurd hab (by decide)) (fun _ => ?_)
  refine wpAny_ite_split (fun _ => ?_) (fun hab => absurd (by decide +kernel) hab)
  exact wpAny_bind (wpAny_typeOf (T := "dict") (typ hm) (wpAny_pure h))
theorem extend {R : Result → Shared → Prop} (hh : A.handled = none) (hd : (d == sysModules) = false) (hm : RawD s.heap d es ep) (hlen : es.size ≤ sizeLine) (S : Addr) (res : Value) (c₀ : Nat) (hS : s.heap.get? S = some { cls := .type "list", data := .seq #[] c₀ })
    (hR : ∀ g1 tk acc' c', (∀ b o, b ≠ S → s.heap.get? b = some o → g1.get? b = some o) → g1.get? S = some { cls := .type "list", dict := none, data := .seq acc' c', slots := #[] } →
      ItemsOf (fun i v => ∃ en, es[i]? = some en ∧ v = en.key) acc' es.size → R (.ok (.ret res)) { s with heap := g1, toks := tk }) :
    wpAny (model prog w) A.in1 (Builtin.List.listExtendWith (.ref S) (.ref d) res)
      (fun fin s' => match fin with | .done f => R (.ok f) s' | .again c' => c'.quiet = true ∧ codeAny (model prog w) A c' R s') (fun e s' => R (.error e) s') s := by
  have hSd : S ≠ d := fun e => by
    obtain ⟨o, ho, hc, hdat⟩ := hm
    rw [← e, hS] at ho
    rw [← Option.some.inj ho] at hdat
    cases hdat
  have hdl : d < s.heap.objs.size := by obtain ⟨o, ho, _⟩ := hm; exact Heap.lt_size ho
  have hSI : S ≠ s.heap.objs.size := Nat.ne_of_lt (Heap.lt_size hS)
  have hdI : d ≠ s.heap.objs.size := Nat.ne_of_lt hdl
  unfold Builtin.List.listExtendWith
  refine wpAny_bind (wpAny_typeOf (T := "dict") (typ hm) ?_)
  have h1 : Builtin.List.listSameRef (.ref S) (.ref d) = false := by simp [Builtin.List.listSameRef, hSd]
  have h2 : (Value.type "dict" == Value.type "list") = false := by decide
  have h3 : (Value.type "dict" == Value.type "tuple") = false := by decide
  simp only [h1, h2, h3, Bool.or_false, Bool.false_eq_true, if_false]
  refine wpAny_bind (iter hd hm ?_)
  have hm1 : RawD (s.heap.push { cls := .type "dict_keyiterator", data := .fields #[.ref d, .int 0 0, .int es.size 0, .int ep 0] }) d es ep := RawD.at hm fun o e => Heap.get?_push_of_some _ e
  refine wpAny_bind (wpAny_holding (hint (s := { s with heap := s.heap.push { cls := .type "dict_keyiterator", data := .fields #[.ref d, .int 0 0, .int es.size 0, .int ep 0] } }) hm1 ?_))
  have hS1 := Heap.get?_push_of_some { cls := .type "dict_keyiterator", data := .fields #[.ref d, .int 0 0, .int es.size 0, .int ep 0] } hS
  have hI1 : (s.heap.push { cls := .type "dict_keyiterator", data := .fields #[.ref d, .int 0 0, .int es.size 0, .int ep 0] }).IsKeyIter s.heap.objs.size d 0 es.size ep := ⟨_, Heap.get?_push_size _ rfl, rfl, rfl⟩
  have kp : ∀ b o, s.heap.get? b = some o → (s.heap.push { cls := .type "dict_keyiterator", data := .fields #[.ref d, .int 0 0, .int es.size 0, .int ep 0] }).get? b = some o := fun b o e => Heap.get?_push_of_some _ e
  generalize s.heap.push { cls := .type "dict_keyiterator", data := .fields #[.ref d, .int 0 0, .int es.size 0, .int ep 0] } = h1' at hS1 hI1 kp hm1 ⊢
  refine wpAny_ite_split (fun _ => ?_) (fun hab => absurd (by decide +kernel) hab)
  refine wpAny_bind (wpAny_rule ?_)
  refine wpAny_bind ?_
  show wpAny _ _ (updateSeq S (·.push .none) >>= fun _ => updateSeq S (·.pop)) _ _ _
  refine wpAny_bind (wpAny_updateSeq hS1 rfl ?_)
  have hS2 := Heap.get?_update_self (Obj.mapSeq (·.push Value.none)) hS1 rfl
  refine wpAny_updateSeq (hz := by seq_fits) hS2 rfl ?_
  have hS3 := Heap.get?_update_self (Obj.mapSeq (·.pop)) hS2 rfl
  have oth : ∀ b o, b ≠ S → h1'.get? b = some o → ((h1'.update S (Obj.mapSeq (·.push Value.none))).update S (Obj.mapSeq (·.pop))).get? b = some o := fun b o hb e => (Heap.get?_update_other _ _ (Ne.symm hb)).trans ((Heap.get?_update_other _ _ (Ne.symm hb)).trans e)
  have W := (walks (prog := prog) (w := w) (A := A.in1) (d := d) (es := es) (ep := ep) hh s.heap.objs.size hdI).toS
  have hSf : S ∉ [s.heap.objs.size, d] := fun hmem => by
    rcases List.mem_cons.mp hmem with e | hmem
    · exact hSI e
    · exact hSd (List.mem_singleton.mp hmem)
  refine wpAny_pure ⟨plainId_quiet F.plain_extend_loop _, ?_⟩
  refine codeAny_extend_loopS W hlen S hSf res es.size 0 _ #[] _ rfl (Nat.zero_le _) ⟨hI1.at fun o e => oth _ o (Ne.symm hSI) e, RawD.at hm1 fun o e => oth _ o (Ne.symm hSd) e⟩ hS3 (ItemsOf.nil _) fun s' acc' c' hmv hS' hacc => ?_
  rw [Moved.eq_with hmv]
  refine hR s'.heap s'.toks acc' c' (fun b o hb e => hmv.heap b o (fun hmem => ?_) (oth b o hb (kp b o e))) hS' hacc
  rcases List.mem_cons.mp hmem with e' | hmem
  · exact hb e'
  · exact absurd (Heap.lt_size e) (by rw [List.mem_singleton.mp hmem]; exact Nat.lt_irrefl _)
theorem init {R : Result → Shared → Prop} (hh : A.handled = none) (hd : (d == sysModules) = false) (hm : RawD s.heap d es ep) (hlen : es.size ≤ sizeLine) (S : Addr) (hS : s.heap.get? S = some { cls := .type "list", data := .seq #[] })
    (hR : ∀ g1 tk acc' c', (∀ b o, b ≠ S → s.heap.get? b = some o → g1.get? b = some o) → g1.get? S = some { cls := .type "list", dict := none, data := .seq acc' c', slots := #[] } →
      ItemsOf (fun i v => ∃ en, es[i]? = some en ∧ v = en.key) acc' es.size → R (.ok (.ret .none)) { s with heap := g1, toks := tk }) :
    wpAny (model prog w) A.in1 (Builtin.«list.__init__» ⟨[.ref S, .ref d], []⟩)
      (fun fin s' => match fin with | .done f => R (.ok f) s' | .again c' => c'.quiet = true ∧ codeAny (model prog w) A c' R s') (fun e s' => R (.error e) s') s := by
  have hSd : d ≠ S := fun e => by
    obtain ⟨o, ho, hc, hdat⟩ := hm
    rw [e, hS] at ho
    rw [← Option.some.inj ho] at hdat
    cases hdat
  show wpAny _ _ (do let old ← Builtin.List.listItems (.ref S); Builtin.List.listUpdate (.ref S) (fun _ => #[]); letGo old.toList.reverse; Builtin.List.listExtendWith (.ref S) (.ref d) .none) _ _ s
  refine wpAny_bind ?_
  unfold Builtin.List.listItems
  refine wpAny_bind (wpAny_seqItems hS rfl (wpAny_pure ?_))
  show wpAny _ _ (updateSeq S (fun _ => #[]) >>= fun _ => letGo (#[] : Array Value).toList.reverse >>= fun _ => Builtin.List.listExtendWith (.ref S) (.ref d) .none) _ _ s
  refine wpAny_bind (wpAny_updateSeq hS rfl ?_)
  have hS2 := Heap.get?_update_self (Obj.mapSeq (fun _ => (#[] : Array Value))) hS rfl
  have oth : ∀ b o, b ≠ S → s.heap.get? b = some o → (s.heap.update S (Obj.mapSeq (fun _ => (#[] : Array Value)))).get? b = some o := fun b o hb e => (Heap.get?_update_other _ _ (Ne.symm hb)).trans e
  refine wpAny_bind (wpAny_letGo ?_)
  refine extend (s := { s with heap := s.heap.update S (Obj.mapSeq (fun _ => (#[] : Array Value))) }) hh hd (RawD.at hm fun o e => oth _ o hSd e) hlen S .none _ hS2 fun g1 tk acc' c' hk hS' hacc => ?_
  exact hR g1 tk acc' c' (fun b o hb e => hk b o hb (oth b o hb e)) hS' hacc
end
end Dk
section
variable {X : Cx}
end
end L2
set_option Elab.async false
set_option linter.all false
set_option maxRecDepth 100000
set_option maxHeartbeats 4000000
namespace L2
open PySem PySem.Spec PyProof.Rows
open Sem (wp)
open AutoSeq1 (wpAny_loadPart')
section
variable {prog : Program} {w : World} {A : Around} {E : Value → Shared → Prop} {s : Shared}
end
section
variable {X : Cx} {a b : Expr} {ta : TA} {p p2 pos pos2 : Pos}
end
section
variable {X : Cx}
end
end L2
set_option Elab.async false
set_option linter.all false
set_option maxRecDepth 100000
set_option maxHeartbeats 4000000
namespace L2
open PySem PySem.Spec PyProof.Rows
structure MDef (K : PySem.W.Frag) (C : Addr) (x q : Str) (st : Stmt) (ps : List Str) (f : Addr) (fd : FuncData) : Prop where
  F : Fun K x q st f fd
  m : Meth K C x f
  b : Binds K fd ps []
section
variable {X : Cx}
end
section
variable {X : Cx} {o e : Expr} {es : List Expr} {to : TE} {t : TA} {name : Str} {apos cpos : Pos} {T id : String} {r : V → List V → Hp → VK → Prop}
end
end L2
set_option Elab.async false
set_option linter.all false
set_option maxRecDepth 100000
set_option maxHeartbeats 4000000
namespace L2
open PySem PySem.Spec PyProof.Rows
section
variable {prog : Program} {w : World} {A : Around} {E : Value → Shared → Prop}
end
section
variable {X : Cx}
end
end L2
set_option Elab.async false
set_option linter.all false
set_option maxRecDepth 100000
set_option maxHeartbeats 4000000
namespace L2
open PySem PySem.Spec PyProof.Rows
open PySem.W (KasT kas_rev kas_asc kas_desc kas_tail3 kas_descPart kas_count kas_place kas_bin kas_sort kas_ask kas_ask_eq kas_runs kas_st kas_range kas_item kas_item_eq)
namespace Srt
def Gd {α : Type} (P : Nat → Nat → Prop) (f : Nat → Nat → Bool) : KasT α → (α → Prop) → Prop
  | .ret a, Q => Q a
  | .ask i j k, Q => P i j ∧ Gd P f (k (f i j)) Q
theorem Gd.bind {α β : Type} {P : Nat → Nat → Prop} {f : Nat → Nat → Bool} {g : α → KasT β} {Q : β → Prop} : ∀ {t : KasT α}, Gd P f t (fun a => Gd P f (g a) Q) → Gd P f (t.bind g) Q
  | .ret _, h => h
  | .ask i j k, h => ⟨h.1, Gd.bind (t := k (f i j)) h.2⟩
theorem Gd.wp {α : Type} {P : Nat → Nat → Prop} {f : Nat → Nat → Bool} {cmp : Nat → Nat → (Bool → Shared → Prop) → Shared → Prop} {s : Shared} (hc : ∀ i j C, P i j → C (f i j) s → cmp i j C s) {Q : α → Prop} {G : α → Shared → Prop} (hQ : ∀ a, Q a → G a s) : ∀ {t : KasT α}, Gd P f t Q → t.kasWp cmp G s
  | .ret _, h => hQ _ h
  | .ask i j k, h => hc i j _ h.1 (Gd.wp hc hQ (t := k (f i j)) h.2)
section
variable {n : Nat} {key : Nat → Int}
structure Pr (n : Nat) (p : Array Nat) : Prop where
  sz : p.size = n
  lt : ∀ i, i < n → p.getD i 0 < n
  inj : ∀ i j, i < n → j < n → p.getD i 0 = p.getD j 0 → i = j
def Up (key : Nat → Int) (p : Array Nat) (m : Nat) : Prop := ∀ i j, i < j → j < m → key (p.getD i 0) < key (p.getD j 0)
def Dn (key : Nat → Int) (p : Array Nat) (m : Nat) : Prop := ∀ i j, i < j → j < m → key (p.getD j 0) < key (p.getD i 0)
def Ok (n : Nat) (key : Nat → Int) (i j : Nat) : Prop := i < n ∧ j < n ∧ key i ≠ key j
def Inj (n : Nat) (key : Nat → Int) : Prop := ∀ i j, i < n → j < n → key i = key j → i = j
abbrev ask (key : Nat → Int) (i j : Nat) : Bool := decide (key i < key j)
theorem Pr.ok {p : Array Nat} (h : Pr n p) (hk : Inj n key) {i j : Nat} (hi : i < n) (hj : j < n) (hij : i ≠ j) : Ok n key (p.getD i 0) (p.getD j 0) :=
  ⟨h.lt i hi, h.lt j hj, fun e => hij (h.inj i j hi hj (hk _ _ (h.lt i hi) (h.lt j hj) e))⟩
theorem Up.more {p : Array Nat} {m : Nat} (h : Up key p m) (hm : 1 ≤ m) (hl : key (p.getD (m - 1) 0) < key (p.getD m 0)) : Up key p (m + 1) := fun i j hij hj => by
  by_cases e : j = m
  · subst e
    by_cases e2 : i = j - 1
    · rw [e2]; exact hl
    · exact Int.lt_trans (h i (j - 1) (by omega) (by omega)) hl
  · exact h i j hij (by omega)
theorem Dn.more {p : Array Nat} {m : Nat} (h : Dn key p m) (hm : 1 ≤ m) (hl : key (p.getD m 0) < key (p.getD (m - 1) 0)) : Dn key p (m + 1) := fun i j hij hj => by
  by_cases e : j = m
  · subst e
    by_cases e2 : i = j - 1
    · rw [e2]; exact hl
    · exact Int.lt_trans hl (h i (j - 1) (by omega) (by omega))
  · exact h i j hij (by omega)
theorem asc_ok {p : Array Nat} (hp : Pr n p) (hk : Inj n key) {Q : Nat → Prop} : ∀ (f m : Nat), 1 ≤ m → m + f ≤ n → Up key p m → (∀ m', m ≤ m' → m' ≤ m + f → Up key p m' → (m' = m + f ∨ (m' < n ∧ key (p.getD m' 0) < key (p.getD (m' - 1) 0))) → Q m') → Gd (Ok n key) (ask key) (kas_asc p f m) Q
  | 0, m, h1, h2, hu, hQ => hQ m (Nat.le_refl _) (Nat.le_refl _) hu (.inl rfl)
  | f + 1, m, h1, h2, hu, hQ => by
    have ok := hp.ok hk (i := m) (j := m - 1) (by omega) (by omega) (by omega)
    refine ⟨ok, ?_⟩
    by_cases c : key (p.getD m 0) < key (p.getD (m - 1) 0)
    · show Gd _ _ (if ask key (p.getD m 0) (p.getD (m - 1) 0) = true then _ else _) Q
      rw [if_pos (decide_eq_true c)]
      exact hQ m (Nat.le_refl _) (by omega) hu (.inr ⟨by omega, c⟩)
    · show Gd _ _ (if ask key (p.getD m 0) (p.getD (m - 1) 0) = true then _ else _) Q
      rw [if_neg (fun z => c (of_decide_eq_true z))]
      have hn := ok.2.2
      refine asc_ok hp hk f (m + 1) (by omega) (by omega) (hu.more h1 (by omega)) fun m' a1 a2 a3 a4 => hQ m' (by omega) (by omega) a3 ?_
      rcases a4 with a4 | a4
      · exact .inl (by omega)
      · exact .inr a4
theorem desc_ok {p : Array Nat} (hp : Pr n p) (hk : Inj n key) {Q : Array Nat × Nat × Nat → Prop} : ∀ (f m : Nat), 1 ≤ m → m + f ≤ n → Dn key p m → (∀ m', m ≤ m' → m' ≤ m + f → Dn key p m' → Q (p, m', 0)) → Gd (Ok n key) (ask key) (kas_desc f p m 0) Q
  | 0, m, h1, h2, hu, hQ => hQ m (Nat.le_refl _) (Nat.le_refl _) hu
  | f + 1, m, h1, h2, hu, hQ => by
    have ok := hp.ok hk (i := m) (j := m - 1) (by omega) (by omega) (by omega)
    refine ⟨ok, ?_⟩
    by_cases c : key (p.getD m 0) < key (p.getD (m - 1) 0)
    · show Gd _ _ (if ask key (p.getD m 0) (p.getD (m - 1) 0) = true then _ else _) Q
      rw [if_pos (decide_eq_true c), if_neg (by omega)]
      exact desc_ok hp hk f (m + 1) (by omega) (by omega) (hu.more h1 c) fun m' a1 a2 a3 => hQ m' (by omega) (by omega) a3
    · show Gd _ _ (if ask key (p.getD m 0) (p.getD (m - 1) 0) = true then _ else _) Q
      rw [if_neg (fun z => c (of_decide_eq_true z))]
      have hn := ok.2.2
      refine ⟨⟨ok.2.1, ok.1, Ne.symm hn⟩, ?_⟩
      show Gd _ _ (if ask key (p.getD (m - 1) 0) (p.getD m 0) = true then _ else _) Q
      rw [if_pos (decide_eq_true (by omega))]
      exact hQ m (Nat.le_refl _) (by omega) hu
theorem getD_of {p q : Array Nat} {i j : Nat} (h : p[i]? = q[j]?) : p.getD i 0 = q.getD j 0 := by
  rw [Array.getD_eq_getD_getElem?, Array.getD_eq_getD_getElem?, h]
theorem rev_at {p : Array Nat} {m : Nat} (hm : m ≤ p.size) (i : Nat) : (kas_rev p 0 m).getD i 0 = if i < m then p.getD (m - 1 - i) 0 else p.getD i 0 := by
  have e := getElem?_mirror_all (xs := p) (i := 0) (j := m) hm i
  by_cases h : i < m
  · rw [if_pos ⟨Nat.zero_le _, h⟩] at e
    rw [if_pos h, ← show 0 + m - 1 - i = m - 1 - i by omega]
    exact getD_of e
  · rw [if_neg (fun z => h z.2)] at e
    rw [if_neg h]
    exact getD_of e
theorem Pr.rev {p : Array Nat} {m : Nat} (h : Pr n p) (hm : m ≤ n) : Pr n (kas_rev p 0 m) := by
  have hz : m ≤ p.size := by rw [h.sz]; exact hm
  refine ⟨(mirror_size ..).trans h.sz, fun i hi => ?_, fun i j hi hj e => ?_⟩
  · rw [rev_at hz]
    split
    · exact h.lt _ (by omega)
    · exact h.lt _ hi
  · rw [rev_at hz, rev_at hz] at e
    split at e <;> split at e
    · have := h.inj _ _ (by omega) (by omega) e
      omega
    · have := h.inj _ _ (by omega) (by omega) e
      omega
    · have := h.inj _ _ (by omega) (by omega) e
      omega
    · exact h.inj _ _ hi hj e
theorem Dn.rev {p : Array Nat} {m : Nat} (hz : m ≤ p.size) (h : Dn key p m) : Up key (kas_rev p 0 m) m := fun i j hij hj => by
  rw [rev_at hz, rev_at hz, if_pos (by omega), if_pos hj]
  exact h _ _ (by omega) (by omega)
theorem tail_ok {p : Array Nat} {m nr : Nat} (hp : Pr n p) (hk : Inj n key) (h1 : 1 ≤ m) (h2 : m ≤ nr) (h3 : nr ≤ n) (hd : Dn key p m) {Q : Nat × Array Nat → Prop} (hQ : ∀ m' p', Pr n p' → 1 ≤ m' → m' ≤ nr → Up key p' m' → Q (m', p')) : Gd (Ok n key) (ask key) (kas_tail3 m nr p) Q := by
  unfold kas_tail3
  refine Gd.bind (asc_ok (hp.rev (by omega)) hk (nr - m) m h1 (by omega) (hd.rev (by rw [hp.sz]; omega)) fun m' a1 a2 a3 _ => ?_)
  exact hQ m' _ (hp.rev (by omega)) (by omega) (by omega) a3
theorem descPart_ok {p : Array Nat} {m nr : Nat} (hp : Pr n p) (hk : Inj n key) (h2 : m + 1 ≤ nr) (h3 : nr ≤ n) (hd : Dn key p (m + 1)) {Q : Nat × Array Nat → Prop} (hQ : ∀ m' p', Pr n p' → 1 ≤ m' → m' ≤ nr → Up key p' m' → Q (m', p')) : Gd (Ok n key) (ask key) (kas_descPart m nr p) Q := by
  unfold kas_descPart
  refine Gd.bind (desc_ok hp hk (nr - (m + 1)) (m + 1) (by omega) (by omega) hd fun m' a1 a2 a3 => ?_)
  show Gd _ _ (if 0 > 0 then _ else _) Q
  rw [if_neg (by omega)]
  exact tail_ok hp hk (by omega) (by omega) h3 a3 hQ
theorem count_ok {p : Array Nat} (hp : Pr n p) (hk : Inj n key) (h1 : 1 ≤ n) {Q : Nat × Array Nat → Prop} (hQ : ∀ m' p', Pr n p' → 1 ≤ m' → m' ≤ n → Up key p' m' → Q (m', p')) : Gd (Ok n key) (ask key) (kas_count n p) Q := by
  unfold kas_count
  refine Gd.bind (asc_ok hp hk (n - 1) 1 (Nat.le_refl _) (by omega) (fun i j hij hj => by omega) fun m a1 a2 a3 a4 => ?_)
  by_cases e : m = n
  · rw [if_pos (by simpa using e)]
    exact hQ m p hp a1 (by omega) a3
  · rw [if_neg (by simpa using e)]
    have hl : m < n ∧ key (p.getD m 0) < key (p.getD (m - 1) 0) := by
      rcases a4 with a4 | a4
      · omega
      · exact a4
    by_cases e2 : m > 1
    · rw [if_pos e2]
      refine ⟨hp.ok hk (by omega) (by omega) (by omega), ?_⟩
      show Gd _ _ (if ask key (p.getD 0 0) (p.getD (m - 1) 0) = true then _ else _) Q
      rw [if_pos (decide_eq_true (a3 0 (m - 1) (by omega) (by omega)))]
      exact hQ m p hp a1 (by omega) a3
    · rw [if_neg e2]
      have em : m = 1 := by omega
      subst em
      refine descPart_ok hp hk (by omega) (Nat.le_refl _) (fun i j hij hj => ?_) hQ
      have ei : i = 0 := by omega
      have ej : j = 1 := by omega
      rw [ei, ej]
      exact hl.2
theorem place_ok {p : Array Nat} (hp : Pr n p) (hk : Inj n key) {k : Nat} (hkn : k < n) (hu : Up key p k) {Q : Nat → Prop} (hQ : ∀ l, l ≤ k → (∀ i, i < l → key (p.getD i 0) < key (p.getD k 0)) → (∀ i, l ≤ i → i < k → key (p.getD k 0) < key (p.getD i 0)) → Q l) : ∀ (f l r : Nat), l ≤ r → r ≤ k → r - l ≤ f → (∀ i, i < l → key (p.getD i 0) < key (p.getD k 0)) → (∀ i, r ≤ i → i < k → key (p.getD k 0) < key (p.getD i 0)) → Gd (Ok n key) (ask key) (kas_place p k f l r) Q
  | 0, l, r, h1, h2, h3, h4, h5 => hQ l (by omega) h4 (by rw [show l = r by omega]; exact h5)
  | f + 1, l, r, h1, h2, h3, h4, h5 => by
    show Gd _ _ (if l ≥ r then _ else _) Q
    by_cases e : l ≥ r
    · rw [if_pos e]
      exact hQ l (by omega) h4 (by rw [show l = r by omega]; exact h5)
    · rw [if_neg e]
      have ok := hp.ok hk (i := k) (j := (l + r) / 2) hkn (by omega) (by omega)
      refine ⟨ok, ?_⟩
      show Gd _ _ (if ask key (p.getD k 0) (p.getD ((l + r) / 2) 0) = true then _ else _) Q
      by_cases c : key (p.getD k 0) < key (p.getD ((l + r) / 2) 0)
      · rw [if_pos (decide_eq_true c)]
        refine place_ok hp hk hkn hu hQ f l ((l + r) / 2) (by omega) (by omega) (by omega) h4 fun i hi hik => ?_
        by_cases e2 : i = (l + r) / 2
        · rw [e2]; exact c
        · exact Int.lt_trans c (hu _ _ (by omega) hik)
      · rw [if_neg (fun z => c (of_decide_eq_true z))]
        have hn := ok.2.2
        refine place_ok hp hk hkn hu hQ f ((l + r) / 2 + 1) r (by omega) (by omega) (by omega) (fun i hi => ?_) h5
        by_cases e2 : i = (l + r) / 2
        · rw [e2]; omega
        · have := hu i ((l + r) / 2) (by omega) (by omega)
          omega
theorem bub_at {p : Array Nat} {k l : Nat} (hk : k < p.size) (hl : l ≤ k) (i : Nat) : (bubble p k (k - l)).getD i 0 = if i = l then p.getD k 0 else if l < i ∧ i ≤ k then p.getD (i - 1) 0 else p.getD i 0 := by
  have e := getElem?_bubble hk (k - l) (by omega) i
  rw [show k - (k - l) = l by omega] at e
  by_cases h1 : i = l
  · rw [if_pos h1] at e ⊢
    exact getD_of e
  · rw [if_neg h1] at e ⊢
    by_cases h2 : l < i ∧ i ≤ k
    · rw [if_pos h2] at e ⊢
      exact getD_of e
    · rw [if_neg h2] at e ⊢
      exact getD_of e
theorem Pr.bub {p : Array Nat} {k l : Nat} (h : Pr n p) (hk : k < n) (hl : l ≤ k) : Pr n (bubble p k (k - l)) := by
  have hz : k < p.size := by rw [h.sz]; exact hk
  obtain ⟨g, hg⟩ : ∃ g : Nat → Nat, g = fun i => p.getD i 0 := ⟨_, rfl⟩
  have at_ : ∀ i, (bubble p k (k - l)).getD i 0 = if i = l then g k else if l < i ∧ i ≤ k then g (i - 1) else g i := fun i => by rw [hg]; exact bub_at hz hl i
  have lt_ : ∀ i, i < n → g i < n := fun i hi => by rw [hg]; exact h.lt i hi
  have inj_ : ∀ i j, i < n → j < n → g i = g j → i = j := fun i j hi hj e => by rw [hg] at e; exact h.inj i j hi hj e
  refine ⟨(bubble_size ..).trans h.sz, fun i hi => ?_, fun i j hi hj e => ?_⟩
  · rw [at_]
    repeat' split
    all_goals exact lt_ _ (by omega)
  · rw [at_, at_] at e
    repeat' split at e
    all_goals (have := inj_ _ _ (by omega) (by omega) e; omega)
theorem bin_ok (hk : Inj n key) {Q : Array Nat → Prop} (hQ : ∀ p, Pr n p → Up key p n → Q p) : ∀ (f : Nat) (p : Array Nat) (k : Nat), Pr n p → 1 ≤ k → k + f = n → Up key p k → Gd (Ok n key) (ask key) (kas_bin f p k) Q
  | 0, p, k, hp, _, h2, hu => hQ p hp (by rw [← h2]; exact hu)
  | f + 1, p, k, hp, h1, h2, hu => by
    refine Gd.bind (place_ok hp hk (by omega) hu (fun l hl a1 a2 => ?_) k 0 k (Nat.zero_le _) (Nat.le_refl _) (by omega) (fun i hi => by omega) (fun i h3 h4 => by omega))
    have hz : k < p.size := by rw [hp.sz]; omega
    refine bin_ok hk hQ f _ (k + 1) (hp.bub (by omega) hl) (by omega) (by omega) fun i j hij hj => ?_
    obtain ⟨g, hg⟩ : ∃ g : Nat → Nat, g = fun i => p.getD i 0 := ⟨_, rfl⟩
    have at_ : ∀ i, (bubble p k (k - l)).getD i 0 = if i = l then g k else if l < i ∧ i ≤ k then g (i - 1) else g i := fun i => by rw [hg]; exact bub_at hz hl i
    have b1 : ∀ i, i < l → key (g i) < key (g k) := fun i hi => by rw [hg]; exact a1 i hi
    have b2 : ∀ i, l ≤ i → i < k → key (g k) < key (g i) := fun i hi hik => by rw [hg]; exact a2 i hi hik
    have b3 : ∀ i j, i < j → j < k → key (g i) < key (g j) := fun i j h1 h2 => by rw [hg]; exact hu i j h1 h2
    rw [at_, at_]
    repeat' split
    all_goals first
      | omega
      | exact b1 _ (by omega)
      | exact b2 _ (by omega) (by omega)
      | exact b3 _ _ (by omega) (by omega)
theorem pr_range (n : Nat) : Pr n (List.toArray (List.range n)) := by
  have at_ : ∀ i, i < n → (List.toArray (List.range n)).getD i 0 = i := fun i hi => by simp [hi]
  refine ⟨by simp, fun i hi => by rw [at_ i hi]; exact hi, fun i j hi hj e => by rw [at_ i hi, at_ j hj] at e; exact e⟩
theorem sort_ok (hk : Inj n key) (h1 : 1 ≤ n) {Q : Array Nat → Prop} (hQ : ∀ p, Pr n p → Up key p n → Q p) : Gd (Ok n key) (ask key) (kas_sort n) Q := by
  unfold kas_sort
  refine Gd.bind (count_ok (pr_range n) hk h1 fun m p hp a1 a2 hu => ?_)
  by_cases e : m < n
  · rw [if_pos e, show max m 1 = m by omega]
    exact bin_ok hk hQ (n - m) p m hp a1 (by omega) hu
  · rw [if_neg e]
    exact hQ p hp (by rw [← show m = n by omega]; exact hu)
end
end Srt
end L2
set_option Elab.async false
set_option linter.all false
set_option maxRecDepth 100000
set_option maxHeartbeats 4000000
namespace L2
open PySem PySem.Spec PyProof.Rows
open AutoSeq1 (wpAny_loadPart')
open PySem.W (KasT kas_sort kas_ask kas_ask_eq kas_runs kas_st kas_range kas_item kas_item_eq)
namespace Srt
theorem lt_loop (x y : Addr) (xs ys : Array Value) (n k : Nat) {a c : Int} {t u : Tok} (h0 : xs[0]? = some (.int a t)) (h1 : ys[0]? = some (.int c u)) (hne : a ≠ c) :
    Meets (Builtin.«list.__eq__.loop» ⟨[.ref x, .ref y, rawInt 0, rawInt 0], []⟩)
      (fun _ R s => s.heap.get? x = some { cls := .type "list", dict := none, data := .seq xs n, slots := #[] } ∧ s.heap.get? y = some { cls := .type "list", dict := none, data := .seq ys k, slots := #[] } ∧
        R (.ok (.ret (.bool (decide (a < c))))) s) := by
  intro prog w A R s h
  obtain ⟨hp, g, d, tk, os⟩ := s
  obtain ⟨hx, hy, h⟩ := h
  wp_walk using wpAny_loadPart' hx, wpAny_loadPart' hy
  have e0 : xs[((0 : Int)).toNat]? = some (.int a t) := h0
  have e1 : ys[((0 : Int)).toNat]? = some (.int c u) := h1
  rw [e0, e1]
  refine wpAny_bind (wpAny_eqBool_int ?_)
  rw [show (a == c) = false by simpa using hne]
  wp_walk using wpAny_loadPart' hx, wpAny_loadPart' hy
  rw [e0, e1]
  refine wpAny_bind (richCompare_gives (op := .Lt) (typeIs_int _ _ t) (typeIs_int _ _ u) F.slot_int_lt F.entry_int_lt (F.args_int_lt_2 _ _) (gives_int_lt _ _ t u) (fun x => nomatch x) ?_)
  exact wpAny_pure h
theorem list_lt (x y : Addr) (xs ys : Array Value) (n k : Nat) {a c : Int} {t u : Tok} (h0 : xs[0]? = some (.int a t)) (h1 : ys[0]? = some (.int c u)) (hne : a ≠ c) :
    Meets (Builtin.«list.__lt__» ⟨[.ref x, .ref y], []⟩)
      (fun _ R s => s.heap.get? x = some { cls := .type "list", dict := none, data := .seq xs n, slots := #[] } ∧ s.heap.get? y = some { cls := .type "list", dict := none, data := .seq ys k, slots := #[] } ∧
        R (.ok (.ret (.bool (decide (a < c))))) s) := by
  intro prog w A R s h
  obtain ⟨hp, g, d, tk, os⟩ := s
  obtain ⟨hx, hy, h⟩ := h
  have f3 := AutoSeq1.sub_list_list
  wp_walk using wpAny_loadPart' hx, wpAny_loadPart' hy
  exact ⟨plainId_quiet MeetsSeq3.plain_eq_loop _, codeAny_builtin MeetsSeq3.entry_eq_loop (by
    rw [Around.under_plainId MeetsSeq3.plain_eq_loop _]
    exact lt_loop x y xs ys n k h0 h1 hne prog w A R _ ⟨hx, hy, h⟩)⟩
section
variable {prog : Program} {w : World} {A : Around} {E : Value → Shared → Prop} {s : Shared}
theorem lt_heads {x y : Addr} {xs ys : Array Value} {n k : Nat} {a c : Int} {t u : Tok} {Q : Bool → Shared → Prop} (hu : A.units < cLine) (hx : s.heap.get? x = some { cls := .type "list", dict := none, data := .seq xs n, slots := #[] }) (hy : s.heap.get? y = some { cls := .type "list", dict := none, data := .seq ys k, slots := #[] })
    (h0 : xs[0]? = some (.int a t)) (h1 : ys[0]? = some (.int c u)) (hne : a ≠ c) (h : Q (decide (a < c)) s) : wpAny (model prog w) A (keyLt' oneType' (.ref x) (.ref y)) Q E s := by
  rw [keyLt'_oneType, oneLt'_eq]
  simp only [if_true]
  refine wpAny_bind (wpAny_cRoomFor hu ?_)
  have hT : s.TypeIs (.ref x) "list" := ⟨_, hx, rfl⟩
  refine wpAny_bind (wpAny_callSpecialIfBound?_slot (id := "list.__lt__") hT F.slot_list_lt ?_)
  refine wpAny_call (codeAny_call_builtin F.slot_list_lt.plain F.entry_list_lt (F.slot_list_lt.check _ _ _ _ _ _ _ _ hT (F.args_list_lt_2 _ _) ?_))
  refine wpAny_mono (list_lt x y xs ys n k h0 h1 hne prog w A (fun r s' => r = Except.ok (Flow.ret (Value.bool (decide (a < c)))) ∧ s' = s) s ⟨hx, hy, rfl, rfl⟩) (fun fin s' hf => ?_) (fun e s' hf => by cases hf.1)
  cases fin with
  | done f =>
    obtain ⟨e, rfl⟩ := hf
    cases e
    exact wpAny_truthy_bool h
  | again c' =>
    refine ⟨hf.1, codeAny_mono hf.2 fun r s'' hr => ?_⟩
    obtain ⟨rfl, rfl⟩ := hr
    exact wpAny_truthy_bool h
theorem sort_lists {a : Addr} {vs : List Value} {nn : Nat} {key : Nat → Int} {P : PySem.Fin → Shared → Prop} (hA : s.heap.get? a = some (seqObj "list" vs.toArray nn)) (h2 : 1 ≤ vs.length) (h64 : vs.length < 64) (hk : Inj vs.length key)
    (hT : ∀ h' : Heap, (∀ b o, b ≠ a → s.heap.get? b = some o → h'.get? b = some o) → (∀ v ∈ vs, ∃ q o, v = .ref q ∧ h'.get? q = some o ∧ o.cls = .type "list") ∧ ∀ i j (C : Bool → Shared → Prop), Ok vs.length key i j → C (ask key i j) { s with heap := h' } → kas_ask prog w A oneType' vs i j C { s with heap := h' })
    (h : ∀ p : Array Nat, Pr vs.length p → Up key p vs.length → P (.done (.ret .none)) { s with heap := sortedHeap s.heap a vs (List.toArray (p.toList.map fun i => vs.getD i Value.none)) }) :
    wpAny (model prog w) A (Builtin.«list.sort» ⟨[.ref a], []⟩) P E s := by
  rw [list_sort_plain]
  have hlt : a < s.heap.objs.size := Heap.lt_size hA
  refine wpAny_bind (listItems_at hA rfl ?_)
  refine wpAny_bind (listUpdate_at hA rfl ?_ (by rw [List.size_toArray, sizeLine_eq]; omega) (Nat.zero_le _))
  obtain ⟨e1, hA1⟩ : ∃ e1, (s.heap.update a (Obj.mapSeq fun _ => #[])).get? a = some (seqObj "list" #[] e1) := ⟨_, get?_update_seq hA (fun _ => #[])⟩
  refine wpAny_bind (seqEpoch_at hA1 rfl ?_)
  refine wpAny_bind (wpAny_newTuple ?_ (by show vs.length ≤ _; rw [sizeLine_eq]; omega))
  refine wpAny_bind (wpAny_newList ?_ (Nat.zero_le _))
  refine wpAny_holding ?_
  have hA6 : (((s.heap.update a (Obj.mapSeq fun _ => #[])).push (seqObj "tuple" vs.toArray 0)).push (seqObj "list" #[] 0)).get? a = some (seqObj "list" #[] e1) := Heap.get?_push_of_some _ (Heap.get?_push_of_some _ hA1)
  have kp : ∀ b o, b ≠ a → s.heap.get? b = some o → (((s.heap.update a (Obj.mapSeq fun _ => #[])).push (seqObj "tuple" vs.toArray 0)).push (seqObj "list" #[] 0)).get? b = some o := fun b o nb e => Heap.get?_push_of_some _ (Heap.get?_push_of_some _ (by rw [Heap.get?_update_ne _ _ _ _ nb]; exact e))
  obtain ⟨ty, hask⟩ := hT _ kp
  show wpAny (model prog w) A _ P E { s with heap := ((s.heap.update a (Obj.mapSeq fun _ => #[])).push (seqObj "tuple" vs.toArray 0)).push (seqObj "list" #[] 0) }
  have fin_ : ∀ (p : Array Nat) (st' : SortSt), Pr vs.length p → Up key p vs.length → arrOf st' = p.map (kas_item (pairsOf vs)) → (arrOf st').map (·.2) = List.toArray (p.toList.map fun i => vs.getD i Value.none) := fun p st' _ _ har => by
    apply Array.toList_inj.mp
    rw [har, Array.map_map, Array.toList_map]
    exact List.map_congr_left fun i _ => by show (kas_item (pairsOf vs) i).2 = _; rw [kas_item_eq]
  dsimp only
  by_cases hsz : vs.length < 2
  · have hs2 : vs.toArray.size < 2 := by rw [List.size_toArray]; exact hsz
    rw [if_pos hs2, if_pos hs2]
    refine wpAny_bind (wpAny_pure ?_)
    rw [StateT.run_pure]
    refine wpAny_bind (wpAny_pure ?_)
    dsimp only
    refine wpAny_bind (seqEpoch_at hA6 rfl ?_)
    refine wpAny_bind (listUpdate_at hA6 rfl ?_ (Nat.zero_le _) (by rw [Array.size_map]; show (pairsOf vs).size ≤ _; rw [pairsOf_size, sizeLine_eq]; omega))
    simp only [bne_self_eq_false, Bool.false_eq_true, if_false]
    have e := kas_range (pairsOf vs)
    rw [pairsOf_size] at e
    have hf := fin_ (List.toArray (List.range vs.length)) (SortSt.mk' general' (pairsOf vs) #[] 7 none) (pr_range _) (fun i j h1 h2 => by omega) e.symm
    have hp := h (List.toArray (List.range vs.length)) (pr_range _) (fun i j h1 h2 => by omega)
    rw [← hf] at hp
    exact wpAny_pure hp
  · have hs2 : ¬ vs.toArray.size < 2 := by rw [List.size_toArray]; exact hsz
    rw [if_neg hs2, if_neg hs2]
    refine wpAny_bind (PySem.W.kas_kind (T := .type "list") (by omega) (fun v hv => ?_) (by decide) (by decide) ?_)
    · obtain ⟨q, o, rfl, ho, hc⟩ := ty v hv
      exact fun A' Q' E' s' k' q' => wpAny_typeOf (T := "list") ⟨o, k' _ _ ho, hc⟩ q'
    have est : SortSt.mk' oneType' (vs.toArray.zip vs.toArray) #[] 7 none = kas_st oneType' (pairsOf vs) (List.toArray (List.range vs.length)) := by
      have e := kas_range (pairsOf vs)
      rw [pairsOf_size] at e
      show SortSt.mk' oneType' (pairsOf vs) #[] 7 none = SortSt.mk' oneType' ((List.toArray (List.range vs.length)).map (kas_item (pairsOf vs))) #[] 7 none
      rw [e]
    generalize hH : ((s.heap.update a (Obj.mapSeq fun _ => #[])).push (seqObj "tuple" vs.toArray 0)).push (seqObj "list" #[] 0) = h6 at hA6 hask ⊢
    have gd := (sort_ok (Q := fun p => Pr vs.length p ∧ Up key p vs.length) hk h2 fun p a b => ⟨a, b⟩).wp (cmp := kas_ask prog w A oneType' vs) (s := { s with heap := h6 }) (G := fun p s' => s' = { s with heap := h6 } ∧ Pr vs.length p ∧ Up key p vs.length) hask (fun p hp => ⟨rfl, hp⟩)
    rw [kas_ask_eq] at gd
    have run := kas_runs (E := E) (Q := fun _ st' s' => ∃ p : Array Nat, arrOf st' = p.map (kas_item (pairsOf vs)) ∧ failedOf st' = none ∧ s' = { s with heap := h6 } ∧ Pr vs.length p ∧ Up key p vs.length) (by omega) h64 (fun p' st' s' a1 a2 a3 a4 => ⟨p', a2, a3, a4⟩) gd
    rw [← est] at run
    refine wpAny_bind (wpAny_mono run ?_ fun _ _ e => e)
    rintro ⟨⟨⟩, st'⟩ s' ⟨p, har, hf, rfl, hP, hU⟩
    dsimp only
    refine wpAny_bind (seqEpoch_at hA6 rfl ?_)
    rw [fin_ p st' hP hU har]
    refine wpAny_bind (listUpdate_at hA6 rfl ?_ (Nat.zero_le _) (by rw [List.size_toArray, List.length_map, Array.length_toList, hP.sz, sizeLine_eq]; omega))
    rw [hf]
    simp only [bne_self_eq_false, Bool.false_eq_true, if_false]
    refine wpAny_pure ?_
    have hp := h p hP hU
    unfold sortedHeap at hp
    rw [hH] at hp
    exact hp
theorem sorted_lists {l : Addr} {vs : List Value} {key : Nat → Int} {Q : Value → Shared → Prop} (hl : s.heap.IsList l vs.toArray) (h2 : 1 ≤ vs.length) (h64 : vs.length < 64) (hk : Inj vs.length key)
    (hT : ∀ h' : Heap, (∀ b o, s.heap.get? b = some o → h'.get? b = some o) → (∀ v ∈ vs, ∃ q o, v = .ref q ∧ h'.get? q = some o ∧ o.cls = .type "list") ∧ ∀ i j (C : Bool → Shared → Prop), Ok vs.length key i j → C (ask key i j) { s with heap := h' } → kas_ask prog w A.in1.in1 oneType' vs i j C { s with heap := h' })
    (h : ∀ p : Array Nat, Pr vs.length p → Up key p vs.length → Q (.ref (s.heap.objs.size + 1)) { s with heap := sortedAll s.heap vs (List.toArray (p.toList.map fun i => vs.getD i Value.none)) }) :
    wpAny (model prog w) A (call (.builtin "sorted") [.ref l]) Q E s := by
  refine Calls.call_function_entry kind_sorted plain_sorted entry_sorted (args_sorted1 _) ?_
  unfold Builtin.«sorted»
  refine wpAny_bind (m := checkCount "sorted" 1 1 _) (wpAny_pure ?_)
  refine wpAny_bind (collect_list hl ?_ (by rw [sizeLine_eq]; omega))
  refine wpAny_bind (wpAny_newList ?_ (by rw [sizeLine_eq]; omega))
  have hz1 : ((s.heap.push (seqObj "list" #[] 0)).update s.heap.objs.size (Obj.mapSeq (· ++ vs.toArray))).objs.size = s.heap.objs.size + 1 := by rw [Heap.size_update, size_push']
  have hL1 : (((s.heap.push (seqObj "list" #[] 0)).update s.heap.objs.size (Obj.mapSeq (· ++ vs.toArray))).push (seqObj "list" vs.toArray 0)).get? (s.heap.objs.size + 1) = some (seqObj "list" vs.toArray 0) := by
    rw [← hz1]
    exact Heap.get?_push_size _ rfl
  have kp : ∀ b o, s.heap.get? b = some o → (((s.heap.push (seqObj "list" #[] 0)).update s.heap.objs.size (Obj.mapSeq (· ++ vs.toArray))).push (seqObj "list" vs.toArray 0)).get? b = some o := fun b o e => by
    have hb := Heap.lt_size e
    refine Heap.get?_push_of_some _ ?_
    rw [Heap.get?_update_ne _ _ _ _ (Nat.ne_of_lt hb)]
    exact Heap.get?_push_of_some _ e
  show wpAny _ _ _ _ _ { s with heap := ((s.heap.push (seqObj "list" #[] 0)).update s.heap.objs.size (Obj.mapSeq (· ++ vs.toArray))).push (seqObj "list" vs.toArray 0) }
  rw [hz1]
  refine wpAny_bind (wpAny_holding (wpAny_call_entry slot_list_sort ⟨_, hL1, rfl⟩ entry_list_sort (sort_lists (key := key) hL1 h2 h64 hk (fun h' k' => hT h' fun b o e => k' b o (Nat.ne_of_lt (Nat.lt_succ_of_lt (Heap.lt_size e))) (kp b o e)) fun p hP hU => ⟨_, rfl, ?_⟩) (args_list_sort _)))
  exact wpAny_pure ⟨_, rfl, h p hP hU⟩
end
end Srt
end L2
set_option Elab.async false
set_option linter.all false
set_option maxRecDepth 100000
set_option maxHeartbeats 4000000
namespace L2
open PySem PySem.Spec PyProof.Rows
theorem vals_items : ∀ {ns : List Int} {its : List Value}, Vals (intV ns) its → ∃ ps : List (Int × Tok), its = ps.map (fun p => Value.int p.1 p.2) ∧ ps.map (·.1) = ns
  | [], _, r => by cases r; exact ⟨[], rfl, rfl⟩
  | z :: ns, _, r => by
    cases r with
    | cons r rr =>
      obtain ⟨t, rfl⟩ := r
      obtain ⟨ps, rfl, e⟩ := vals_items (ns := ns) rr
      exact ⟨(z, t) :: ps, rfl, by rw [List.map_cons, e]⟩
theorem best_min (val : Nat → Int) : ∀ n, argBest (fun i j => decide (val i < val j)) n ≤ n ∧ ∀ i, i ≤ n → val (argBest (fun i j => decide (val i < val j)) n) ≤ val i
  | 0 => ⟨Nat.le_refl _, fun i hi => by rw [show i = 0 by omega]; exact Int.le_refl _⟩
  | n + 1 => by
    obtain ⟨a, b⟩ := best_min val n
    by_cases c : val (n + 1) < val (argBest (fun i j => decide (val i < val j)) n)
    · have e : argBest (fun i j => decide (val i < val j)) (n + 1) = n + 1 := if_pos (decide_eq_true c)
      rw [e]
      refine ⟨Nat.le_refl _, fun i hi => ?_⟩
      by_cases z : i = n + 1
      · rw [z]; exact Int.le_refl _
      · have := b i (by omega)
        omega
    · have e : argBest (fun i j => decide (val i < val j)) (n + 1) = argBest (fun i j => decide (val i < val j)) n := if_neg (fun z => c (of_decide_eq_true z))
      rw [e]
      refine ⟨by omega, fun i hi => ?_⟩
      by_cases z : i = n + 1
      · rw [z]; omega
      · exact b i (by omega)
section
variable {X : Cx}
theorem call_sumL (hc : X.calm = true) : CallR X (.builtin "sum") (fun xs H Q => ∃ (p : Addr) (ns : List Int), xs = [.ref p] ∧ SqL X.K H p (intV ns) ∧ Q (.int ns.sum) H) := by
  intro pins s σ H xs us Q I r h
  obtain ⟨p, ns, rfl, hq, q⟩ := h
  obtain ⟨u, rfl, rx⟩ := vals1 r
  cases rx
  obtain ⟨its, r', pl, hz⟩ := I.list hq
  obtain ⟨ps, rfl, e⟩ := vals_items r'
  have hi : s.heap.IsList p (intItems ps.toArray) := by
    have := pl.isList
    have e2 : (ps.map fun p => Value.int p.1 p.2).toArray = intItems ps.toArray := by simp [intItems]
    rw [e2] at this
    exact this
  refine sum_intListG (I.ok.hd hc) hi fun h' tk t' k => ⟨.int ns.sum, H, I.kept k, ?_, q⟩
  rw [preSum_eq, List.take_of_length_le (by simp)]
  show ∃ t, Value.int _ t' = Value.int _ t
  exact ⟨t', by rw [← e]⟩
theorem call_minL (hc : X.calm = true) : CallR X (.builtin "min") (fun xs H Q => ∃ (p : Addr) (ns : List Int), xs = [.ref p] ∧ SqL X.K H p (intV ns) ∧ ns ≠ [] ∧ ∀ z, z ∈ ns → (∀ y ∈ ns, z ≤ y) → Q (.int z) H) := by
  intro pins s σ H xs us Q I r h
  obtain ⟨p, ns, rfl, hq, hne, q⟩ := h
  obtain ⟨u, rfl, rx⟩ := vals1 r
  cases rx
  obtain ⟨its, r', pl, hz⟩ := I.list hq
  obtain ⟨ps, rfl, e⟩ := vals_items r'
  have hi : s.heap.IsList p (intItems ps.toArray) := by
    have := pl.isList
    have e2 : (ps.map fun p => Value.int p.1 p.2).toArray = intItems ps.toArray := by simp [intItems]
    rw [e2] at this
    exact this
  have hpl : ps.length = ns.length := by rw [← e, List.length_map]
  have hpos : 0 < ns.length := List.length_pos_iff.mpr hne
  have at_ : ∀ i, i < ns.length → ns[i]? = some (numAt ps.toArray i) := fun i hi => by
    have g : ps[i]? = some (ps[i]'(by omega)) := List.getElem?_eq_getElem (by omega)
    unfold numAt
    rw [← e, List.getElem?_map, List.getElem?_toArray, g]
    rfl
  refine min_intList (I.ok.hd hc) hi (by simp; omega) fun v h' tk hv k => ?_
  obtain ⟨t, rfl⟩ := intItems_at hv
  have hsz : ps.toArray.size - 1 = ns.length - 1 := by simp [hpl]
  rw [hsz]
  obtain ⟨b1, b2⟩ := best_min (numAt ps.toArray) (ns.length - 1)
  refine ⟨.int _, H, I.kept k, ⟨t, rfl⟩, q _ ?_ fun y hy => ?_⟩
  · exact List.mem_of_getElem? (at_ _ (by omega))
  · obtain ⟨i, hi2⟩ := List.getElem?_of_mem hy
    have hil := (List.getElem?_eq_some_iff.mp hi2).1
    rw [at_ i hil] at hi2
    rw [← Option.some.inj hi2]
    exact b2 i (by omega)
def rSortL : List V → Hp → VK → Prop := fun xs H Q => ∃ (l : Addr) (rs : List Addr) (rows : List (List Int)) (hd : Nat → Int), xs = [.ref l] ∧ H l = some (.lst (rs.map V.ref)) ∧ RowsAt H rs rows ∧ 1 ≤ rows.length ∧ rows.length < 64 ∧ (∀ i r, rows[i]? = some r → r[0]? = some (hd i)) ∧ (∀ i j, i < rows.length → j < rows.length → hd i = hd j → i = j) ∧
  ∀ D (p : List Nat), H D = none → p.length = rows.length → (∀ i ∈ p, i < rows.length) → p.Nodup → (∀ i j a b : Nat, i < j → p[i]? = some a → p[j]? = some b → hd a < hd b) → Q (.ref D) (upd H D (.lst ((p.map fun i => rs.getD i 0).map V.ref)))
theorem call_sortedL (hu : X.A.units + 2 < cLine) : CallR X (.builtin "sorted") rSortL := by
  intro pins s σ H xs us Q I r h
  obtain ⟨l, rs, rows, hd, rfl, hl, hR, h1, h64, hhd, hinj, q⟩ := h
  obtain ⟨u, rfl, rx⟩ := vals1 r
  cases rx
  obtain ⟨its, v1, p1, _⟩ := I.list (SqL.of hl)
  have e1 : its = rs.map Value.ref := vals_refs v1
  subst e1
  have hrl : rs.length = rows.length := hR.1
  have hvl : (rs.map Value.ref).length = rows.length := by rw [List.length_map, hrl]
  have at_ : ∀ i, i < rows.length → (rs.map Value.ref).getD i Value.none = Value.ref (rs.getD i 0) ∧ rs[i]? = some (rs.getD i 0) := fun i hi => by
    have g : rs[i]? = some (rs[i]'(by omega)) := List.getElem?_eq_getElem (by omega)
    rw [List.getD_eq_getElem?_getD, List.getD_eq_getElem?_getD, List.getElem?_map, g]
    exact ⟨rfl, rfl⟩
  have row_ : ∀ i, i < rows.length → ∃ (jts : List Value) (n : Nat) (t : Tok), s.heap.get? (rs.getD i 0) = some { cls := .type "list", dict := none, data := .seq jts.toArray n, slots := #[] } ∧ jts.toArray[0]? = some (.int (hd i) t) := fun i hi => by
    have g2 : rows[i]? = some rows[i] := List.getElem?_eq_getElem hi
    have hr := hR.2 i _ _ (at_ i hi).2 g2
    obtain ⟨z, jts, n, rv, e⟩ := (show Rd H (rs.getD i 0) (.lst (intV rows[i])) from .inl hr).ok I.hok
    obtain ⟨w, hw, rw_⟩ := rv.get (i := 0) (x := V.int (hd i)) (ints_at (hhd i _ g2))
    obtain ⟨t, rfl⟩ := rw_
    exact ⟨jts, n, t, e, by simpa using hw⟩
  refine Srt.sorted_lists (key := hd) p1.isList (by omega) (by omega) (fun i j hi hj e => hinj i j (by omega) (by omega) e) (fun h' kp => ⟨fun v hv => ?_, fun i j C ok hC => ?_⟩) fun p hP hU => ?_
  · obtain ⟨r0, hr0, rfl⟩ := List.mem_map.mp hv
    obtain ⟨i, hi⟩ := List.getElem?_of_mem hr0
    have hil := (List.getElem?_eq_some_iff.mp hi).1
    have e0 := (at_ i (by omega)).2
    rw [hi] at e0
    obtain ⟨jts, n, t, e, _⟩ := row_ i (by omega)
    rw [← Option.some.inj e0] at e
    exact ⟨r0, _, rfl, kp _ _ e, rfl⟩
  · obtain ⟨hi, hj, hne⟩ := ok
    rw [hvl] at hi hj
    obtain ⟨jts, n, t, e, e0⟩ := row_ i hi
    obtain ⟨jts2, n2, t2, e2, e20⟩ := row_ j hj
    unfold PySem.W.kas_ask
    rw [(at_ i hi).1, (at_ j hj).1]
    exact Srt.lt_heads (show X.A.units + 2 < cLine from hu) (kp _ _ e) (kp _ _ e2) e0 e20 hne hC
  · rw [hvl] at hP hU
    have hin : ∀ i ∈ p.toList, i < rows.length := fun i hi => by
      obtain ⟨k, hk⟩ := List.getElem?_of_mem hi
      have hkl : k < rows.length := by
        have := (List.getElem?_eq_some_iff.mp hk).1
        rw [Array.length_toList, hP.sz] at this
        exact this
      have := hP.lt k hkl
      rw [Array.getD_eq_getD_getElem?, ← Array.getElem?_toList, hk] at this
      exact this
    have getp : ∀ k a, p.toList[k]? = some a → k < rows.length ∧ p.getD k 0 = a := fun k a hk => by
      have hkl := (List.getElem?_eq_some_iff.mp hk).1
      rw [Array.length_toList, hP.sz] at hkl
      refine ⟨hkl, ?_⟩
      rw [Array.getD_eq_getD_getElem?, ← Array.getElem?_toList, hk]
      rfl
    have eo : (p.toList.map fun i => (rs.map Value.ref).getD i Value.none) = (p.toList.map fun i => rs.getD i 0).map Value.ref := by
      rw [List.map_map]
      exact List.map_congr_left fun i hi => (at_ i (hin i hi)).1
    rw [eo]
    obtain ⟨ee, he⟩ := sortedAll_at s.heap (rs.map Value.ref) (List.toArray ((p.toList.map fun i => rs.getD i 0).map Value.ref))
    refine ⟨.ref (s.heap.objs.size + 1), _, I.laid (t' := s.toks) (o := .lst ((p.toList.map fun i => rs.getD i 0).map V.ref)) (fun b o e => sortedAll_old e) (Nat.le_succ _) (show ObjOk X.prog X.w _ _ _ (.lst ((p.toList.map fun i => rs.getD i 0).map V.ref)) from ⟨?_, _, ee, ?_, he⟩), rfl, q _ p.toList (I.hok.fresh (Nat.le_succ _)) ?_ hin ?_ ?_⟩
    · rw [List.length_map, List.length_map, Array.length_toList, hP.sz]
      exact Nat.le_trans (Nat.le_of_lt h64) (by decide)
    · generalize (p.toList.map fun i => rs.getD i 0) = qs
      induction qs with
      | nil => exact .nil
      | cons c qs ih => exact .cons rfl ih
    · rw [Array.length_toList, hP.sz]
    · rw [List.nodup_iff_pairwise_ne, List.pairwise_iff_getElem]
      intro i j hi hj hij z
      have g1 := getp i _ (List.getElem?_eq_getElem hi)
      have g2 := getp j _ (List.getElem?_eq_getElem hj)
      have := hP.inj i j g1.1 g2.1 (by rw [g1.2, g2.2]; exact z)
      omega
    · intro i j a b hij ha hb
      have g1 := getp i a ha
      have g2 := getp j b hb
      have := hU i j hij g2.1
      rw [g1.2, g2.2] at this
      exact this
end
end L2
set_option Elab.async false
set_option linter.all false
set_option maxRecDepth 100000
set_option maxHeartbeats 4000000
namespace M11
def flip (k : Nat) : Nat := if k % 2 = 0 then k + 1 else k - 1
def nx (T : List (List Int)) (k i : Nat) : Nat := ((T.getD i []).getD k 0).toNat
structure Tab (L : Nat) (T : List (List Int)) : Prop where
  pos : 1 ≤ T.length
  top : T.length ≤ 300
  let1 : 1 ≤ L
  let2 : L ≤ 40
  row : ∀ (i : Nat) (r : List Int), T[i]? = some r → r.length = 2 * L
  val : ∀ i k, i < T.length → k < 2 * L → ∃ r : List Int, T[i]? = some r ∧ r[k]? = some ((nx T k i : Nat) : Int)
  lt : ∀ i k, i < T.length → k < 2 * L → nx T k i < T.length
  back : ∀ i k, i < T.length → k < 2 * L → nx T (flip k) (nx T k i) = i
def pl (s : Int) : Nat := if 0 < s then 2 * s.natAbs - 2 else 2 * s.natAbs - 1
def walk (T : List (List Int)) (w : List Int) (i : Nat) : Nat := w.foldl (fun i s => nx T (pl s) i) i
def back (w : List Int) : List Int := w.reverse.map fun z => -z
structure Pm (p : Nat) (r : List Int) : Prop where
  len : r.length = p
  nd : r.Nodup
  rg : ∀ z ∈ r, 0 ≤ z ∧ z < (p : Int)
theorem Pm.at {p : Nat} {r : List Int} (h : Pm p r) {i : Nat} (hi : i < p) : ∃ j : Nat, r[i]? = some (j : Int) ∧ j < p := by
  have hl : i < r.length := by rw [h.len]; exact hi
  have := h.rg r[i] (List.getElem_mem hl)
  exact ⟨r[i].toNat, by rw [List.getElem?_eq_getElem hl, show ((r[i].toNat : Nat) : Int) = r[i] by omega], by omega⟩
theorem set_same {r : List Int} {i j : Nat} {a b : Int} (h1 : r[i]? = some a) (h2 : r[j]? = some b) : ((r.set i b).set j a).Perm r := by
  have hi := (List.getElem?_eq_some_iff.mp h1).1
  have hj := (List.getElem?_eq_some_iff.mp h2).1
  have e1 := (List.getElem?_eq_some_iff.mp h1).2
  have e2 := (List.getElem?_eq_some_iff.mp h2).2
  rw [← e1, ← e2]
  exact List.set_set_perm hi hj
theorem Pm.swap {p : Nat} {r : List Int} (h : Pm p r) {i j : Nat} {a b : Int} (h1 : r[i]? = some a) (h2 : r[j]? = some b) : Pm p ((r.set i b).set j a) := by
  have hp := set_same h1 h2
  exact ⟨by rw [hp.length_eq, h.len], hp.nodup_iff.mpr h.nd, fun z hz => h.rg z (hp.mem_iff.mp hz)⟩
def RowOk (L : Nat) (f : Nat → Int → Int) (come : List Int) (x : Int) (r : List Int) (m : Nat) : Prop := r.length = m ∧ ∀ k, k < m → ∃ j : Nat, r[k]? = some (j : Int) ∧ come[j]? = some (f k x)
theorem RowOk.more {L : Nat} {f : Nat → Int → Int} {come c2 : List Int} {x : Int} {r : List Int} {m : Nat} (h : RowOk L f come x r m) : RowOk L f (come ++ c2) x r m := ⟨h.1, fun k hk => by
  obtain ⟨j, h1, h2⟩ := h.2 k hk
  refine ⟨j, h1, ?_⟩
  rw [List.getElem?_append_left (List.getElem?_eq_some_iff.mp h2).1]
  exact h2⟩
theorem RowOk.snoc {L : Nat} {f : Nat → Int → Int} {come : List Int} {x : Int} {r : List Int} {m j : Nat} (h : RowOk L f come x r m) (hj : come[j]? = some (f m x)) : RowOk L f come x (r ++ [(j : Int)]) (m + 1) := by
  refine ⟨by rw [List.length_append, h.1]; rfl, fun k hk => ?_⟩
  by_cases e : k = m
  · subst e
    refine ⟨j, ?_, hj⟩
    rw [List.getElem?_append_right (by rw [h.1]; exact Nat.le_refl _), h.1, Nat.sub_self]
    rfl
  · obtain ⟨i, h1, h2⟩ := h.2 k (by omega)
    exact ⟨i, by rw [List.getElem?_append_left (by rw [h.1]; omega)]; exact h1, h2⟩
theorem nodup_len : ∀ (n : Nat) (l : List Nat), l.Nodup → (∀ x ∈ l, x < n) → l.length ≤ n
  | 0, [], _, _ => Nat.le_refl _
  | 0, a :: l, _, h => absurd (h a (List.mem_cons_self ..)) (by omega)
  | n + 1, l, hn, h => by
    by_cases hm : n ∈ l
    · have := nodup_len n (l.erase n) (hn.erase n) (fun x hx => by
        have h1 := (hn.mem_erase_iff).mp hx
        have h2 := h x h1.2
        have h3 := h1.1
        omega)
      rw [List.length_erase_of_mem hm] at this
      omega
    · have := nodup_len n l hn (fun x hx => by
        have h2 := h x hx
        have h3 : x ≠ n := fun z => hm (by rw [← z]; exact hx)
        omega)
      omega
theorem nodup_lenI {n : Nat} {l : List Int} (hn : l.Nodup) (h : ∀ x ∈ l, 0 ≤ x ∧ x < (n : Int)) : l.length ≤ n := by
  have h1 : (l.map Int.toNat).Nodup := by
    refine List.pairwise_map.mpr (List.Pairwise.imp_of_mem ?_ hn)
    intro a b ha hb hab z
    have := h a ha
    have := h b hb
    exact hab (by omega)
  have := nodup_len n (l.map Int.toNat) h1 (fun x hx => by
    obtain ⟨y, hy, rfl⟩ := List.mem_map.mp hx
    have := h y hy
    omega)
  rw [List.length_map] at this
  exact this
theorem Pm.surj {p : Nat} {r : List Int} (h : Pm p r) {x : Nat} (hx : x < p) : ∃ i : Nat, r[i]? = some (x : Int) ∧ i < p := by
  have hm : (x : Int) ∈ r := by
    refine Classical.byContradiction fun hm => ?_
    have := nodup_lenI (n := p) (l := (x : Int) :: r) (List.nodup_cons.mpr ⟨hm, h.nd⟩) (fun y hy => by
      rcases List.mem_cons.mp hy with e | hy
      · rw [e]; omega
      · exact h.rg y hy)
    rw [List.length_cons, h.len] at this
    omega
  obtain ⟨i, hi, e⟩ := List.mem_iff_getElem.mp hm
  exact ⟨i, by rw [List.getElem?_eq_getElem hi, e], by rw [← h.len]; exact hi⟩
def InvOf (p : Nat) (r t : List Int) : Prop := t.length = p ∧ ∀ k j : Nat, r[k]? = some (j : Int) → t[j]? = some (k : Int)
def InvTo (p : Nat) (r t : List Int) (n : Nat) : Prop := t.length = p ∧ ∀ k j : Nat, k < n → r[k]? = some (j : Int) → t[j]? = some (k : Int)
theorem InvTo.step {p n j : Nat} {r t : List Int} (h : InvTo p r t n) (hr : Pm p r) (hj : r[n]? = some (j : Int)) (hjp : j < p) : InvTo p r (t.set j (n : Int)) (n + 1) := by
  refine ⟨by rw [List.length_set]; exact h.1, fun k i hk hi => ?_⟩
  by_cases e : k = n
  · subst e
    rw [hj] at hi
    have : j = i := by have := Option.some.inj hi; omega
    subst this
    exact List.getElem?_set_self (by rw [h.1]; exact hjp)
  · have hne : j ≠ i := fun z => by
      subst z
      exact e ((List.getElem?_inj (List.getElem?_eq_some_iff.mp hi).1 hr.nd).mp (hi.trans hj.symm))
    rw [List.getElem?_set_ne hne]
    exact h.2 k i (by omega) hi
theorem InvTo.all {p : Nat} {r t : List Int} (h : InvTo p r t p) (hr : Pm p r) : InvOf p r t := ⟨h.1, fun k j hk => h.2 k j (by
  have := (List.getElem?_eq_some_iff.mp hk).1
  rw [hr.len] at this
  exact this) hk⟩
end M11
namespace M21
open M11
theorem flat_pair : ∀ {C : List (List Int)} {i j a b : Nat} {c d : List Int} {z : Int}, C.flatten.Nodup → C[i]? = some c → C[j]? = some d → c[a]? = some z → d[b]? = some z → i = j ∧ a = b
  | [], i, _, _, _, _, _, _, _, h, _, _, _ => by simp at h
  | x :: C, i, j, a, b, c, d, z, hn, hi, hj, ha, hb => by
    rw [List.flatten_cons, List.nodup_append] at hn
    obtain ⟨h1, h2, h3⟩ := hn
    have fl : ∀ {k : Nat} {e : List Int} {m : Nat}, C[k]? = some e → e[m]? = some z → z ∈ C.flatten := fun h h' => List.mem_flatten.mpr ⟨_, List.mem_of_getElem? h, List.mem_of_getElem? h'⟩
    cases i with
    | zero =>
      have e : x = c := Option.some.inj hi
      subst e
      cases j with
      | zero =>
        have e : x = d := Option.some.inj hj
        subst e
        exact ⟨rfl, (List.getElem?_inj (List.getElem?_eq_some_iff.mp ha).1 h1).mp (ha.trans hb.symm)⟩
      | succ j =>
        have hj' : C[j]? = some d := by simpa using hj
        exact absurd rfl (h3 z (List.mem_of_getElem? ha) z (fl hj' hb))
    | succ i =>
      have hi' : C[i]? = some c := by simpa using hi
      cases j with
      | zero =>
        have e : x = d := Option.some.inj hj
        subst e
        exact absurd rfl (h3 z (List.mem_of_getElem? hb) z (fl hi' ha))
      | succ j =>
        have hj' : C[j]? = some d := by simpa using hj
        have := flat_pair h2 hi' hj' ha hb
        exact ⟨by omega, this.2⟩
theorem in_nodup : ∀ {C : List (List Int)} {c : List Int}, C.flatten.Nodup → c ∈ C → c.Nodup
  | [], _, _, h => by cases h
  | x :: C, c, hn, h => by
    rw [List.flatten_cons, List.nodup_append] at hn
    rcases List.mem_cons.mp h with rfl | h
    · exact hn.1
    · exact in_nodup hn.2.1 h
structure Cut (n : Nat) (C : List (List Int)) : Prop where
  ne : ∀ c ∈ C, c ≠ []
  nd : C.flatten.Nodup
  rg : ∀ z ∈ C.flatten, 0 ≤ z ∧ z < (n : Int)
  all : ∀ x : Nat, x < n → (x : Int) ∈ C.flatten
  mn : ∀ c ∈ C, ∀ z ∈ c, c.getD 0 0 ≤ z
  up : ∀ (i j : Nat) (a b : List Int), i < j → C[i]? = some a → C[j]? = some b → a.getD 0 0 < b.getD 0 0
theorem head_at {c : List Int} (h : c ≠ []) : c[0]? = some (c.getD 0 0) := by
  cases c with
  | nil => exact absurd rfl h
  | cons x c => rfl
section
variable {n : Nat} {C : List (List Int)} (hC : Cut n C)
include hC
theorem Cut.find {x : Nat} (hx : x < n) : ∃ (i a : Nat) (c : List Int), C[i]? = some c ∧ c[a]? = some (x : Int) := by
  obtain ⟨c, hc, hxc⟩ := List.mem_flatten.mp (hC.all x hx)
  obtain ⟨i, hi⟩ := List.getElem?_of_mem hc
  obtain ⟨a, ha⟩ := List.getElem?_of_mem hxc
  exact ⟨i, a, c, hi, ha⟩
theorem Cut.in_rg {i a : Nat} {c : List Int} {z : Int} (hi : C[i]? = some c) (ha : c[a]? = some z) : 0 ≤ z ∧ z < (n : Int) := hC.rg z (List.mem_flatten.mpr ⟨c, List.mem_of_getElem? hi, List.mem_of_getElem? ha⟩)
def Ah (C : List (List Int)) (m r : Nat) : Prop := m ≤ C.length ∧ (∀ (i : Nat) (c : List Int), i < m → C[i]? = some c → c.getD 0 0 < (r : Int)) ∧ ∀ (i : Nat) (c : List Int), m ≤ i → C[i]? = some c → (r : Int) ≤ c.getD 0 0
omit hC in
theorem mem_take {m : Nat} {z : Int} : z ∈ (C.take m).flatten ↔ ∃ (i a : Nat) (c : List Int), i < m ∧ C[i]? = some c ∧ c[a]? = some z := by
  constructor
  · intro h
    obtain ⟨c, hc, hz⟩ := List.mem_flatten.mp h
    obtain ⟨i, hi⟩ := List.getElem?_of_mem hc
    obtain ⟨a, ha⟩ := List.getElem?_of_mem hz
    rw [List.getElem?_take] at hi
    by_cases e : i < m
    · rw [if_pos e] at hi; exact ⟨i, a, c, e, hi, ha⟩
    · rw [if_neg e] at hi; cases hi
  · rintro ⟨i, a, c, h1, h2, h3⟩
    refine List.mem_flatten.mpr ⟨c, List.mem_of_getElem? (i := i) ?_, List.mem_of_getElem? h3⟩
    rw [List.getElem?_take, if_pos h1]
    exact h2
theorem Ah.start : Ah C 0 0 := ⟨Nat.zero_le _, fun i c h => by omega, fun i c _ h => (hC.in_rg h (head_at (hC.ne c (List.mem_of_getElem? h)))).1⟩
theorem Ah.old {m r : Nat} (h : Ah C m r) (hr : r < n) (hm : (r : Int) ∈ (C.take m).flatten) : Ah C m (r + 1) := by
  obtain ⟨i, a, c, h1, h2, h3⟩ := mem_take.mp hm
  refine ⟨h.1, fun j d hj hd => by have := h.2.1 j d hj hd; omega, fun j d hj hd => ?_⟩
  have h4 := h.2.2 j d hj hd
  by_cases e : d.getD 0 0 = (r : Int)
  · have h5 := head_at (hC.ne d (List.mem_of_getElem? hd))
    rw [e] at h5
    have := (flat_pair hC.nd h2 hd h3 h5).1
    omega
  · omega
theorem Ah.new {m r : Nat} (h : Ah C m r) (hr : r < n) (hm : ¬ (r : Int) ∈ (C.take m).flatten) : ∃ c, C[m]? = some c ∧ c[0]? = some (r : Int) ∧ Ah C (m + 1) (r + 1) := by
  obtain ⟨i, a, c, h1, h2⟩ := hC.find hr
  have hi : m ≤ i := by
    by_cases e : i < m
    · exact absurd (mem_take.mpr ⟨i, a, c, e, h1, h2⟩) hm
    · omega
  have hc := List.mem_of_getElem? h1
  have e1 := hC.mn c hc _ (List.mem_of_getElem? h2)
  have e2 := h.2.2 i c hi h1
  have eh : c.getD 0 0 = (r : Int) := by omega
  have hml : m < C.length := by have := (List.getElem?_eq_some_iff.mp h1).1; omega
  have hm1 : C[m]? = some C[m] := List.getElem?_eq_getElem hml
  have ei : i = m := by
    by_cases e : i = m
    · exact e
    · have h3 := hC.up m i _ c (by omega) hm1 h1
      have h4 := h.2.2 m _ (Nat.le_refl _) hm1
      omega
  subst ei
  refine ⟨c, h1, by rw [head_at (hC.ne c hc), eh], by omega, fun j d hj hd => ?_, fun j d hj hd => ?_⟩
  · by_cases e : j = i
    · subst e
      rw [h1] at hd
      rw [← Option.some.inj hd]
      omega
    · have := h.2.1 j d (by omega) hd
      omega
  · have := hC.up i j c d (by omega) h1 hd
    omega
theorem Ah.end_ {m : Nat} (h : Ah C m n) : C.take m = C := by
  refine List.take_of_length_le ?_
  by_cases e : C.length ≤ m
  · exact e
  · have hm1 : C[m]? = some (C[m]'(by omega)) := List.getElem?_eq_getElem (by omega)
    have h4 := h.2.2 m _ (Nat.le_refl _) hm1
    have := (hC.in_rg hm1 (head_at (hC.ne _ (List.mem_of_getElem? hm1)))).2
    omega
end
def marks (L : List Int) (n : Nat) : List Bool := (List.range n).map fun x : Nat => decide ((x : Int) ∈ L)
theorem marks_len (L : List Int) (n : Nat) : (marks L n).length = n := by unfold marks; rw [List.length_map, List.length_range]
theorem marks_at {L : List Int} {n x : Nat} (h : x < n) : (marks L n)[x]? = some (decide ((x : Int) ∈ L)) := by
  unfold marks
  rw [List.getElem?_map, List.getElem?_range h]
  rfl
theorem marks_set {L : List Int} {n x : Nat} (h : x < n) : (marks L n).set x true = marks (L ++ [(x : Int)]) n := by
  refine List.ext_getElem? fun i => ?_
  by_cases hi : i < n
  · rw [marks_at hi]
    by_cases e : x = i
    · subst e
      rw [List.getElem?_set_self (by rw [marks_len]; exact h)]
      congr 1
      exact (decide_eq_true (by simp)).symm
    · rw [List.getElem?_set_ne e, marks_at hi]
      congr 1
      rw [decide_eq_decide]
      constructor
      · intro z; exact List.mem_append_left _ z
      · intro z
        rcases List.mem_append.mp z with z | z
        · exact z
        · have := List.mem_singleton.mp z; omega
  · rw [List.getElem?_eq_none (by rw [List.length_set, marks_len]; omega), List.getElem?_eq_none (by rw [marks_len]; omega)]
theorem marks_nil (n : Nat) : marks [] n = List.replicate n false := by
  refine List.ext_getElem? fun i => ?_
  by_cases hi : i < n
  · rw [marks_at hi, List.getElem?_replicate_of_lt hi]
    rfl
  · rw [List.getElem?_eq_none (by rw [marks_len]; omega), List.getElem?_eq_none (by rw [List.length_replicate]; omega)]
def nxt (c : List Int) (k : Nat) : Int := c.getD ((k + 1) % c.length) 0
structure Trn (n : Nat) (C : List (List Int)) (t : List Int) : Prop where
  len : t.length = n
  go : ∀ (i k : Nat) (c : List Int) (z : Int), C[i]? = some c → c[k]? = some z → t[z.toNat]? = some (nxt c k)
def bef (c : List Int) (k : Nat) : Int := if k = 0 then c.getD (c.length - 1) 0 else c.getD (k - 1) 0
structure Wr (n : Nat) (C : List (List Int)) (t : List Int) (m k : Nat) : Prop where
  len : t.length = n
  go : ∀ (i j : Nat) (c : List Int), C[i]? = some c → j < c.length → (i < m ∨ (i = m ∧ j < k)) → t[(bef c j).toNat]? = some (c.getD j 0)
theorem bef_at {c : List Int} {k : Nat} (hk : k < c.length) : ∃ j, j < c.length ∧ c[j]? = some (bef c k) ∧ (j + 1) % c.length = k := by
  unfold bef
  by_cases e : k = 0
  · rw [if_pos e]
    refine ⟨c.length - 1, by omega, ?_, ?_⟩
    · rw [List.getD_eq_getElem?_getD, List.getElem?_eq_getElem (by omega)]; rfl
    · rw [show c.length - 1 + 1 = c.length by omega, Nat.mod_self]; exact e.symm
  · rw [if_neg e]
    refine ⟨k - 1, by omega, ?_, ?_⟩
    · rw [List.getD_eq_getElem?_getD, List.getElem?_eq_getElem (by omega)]; rfl
    · rw [show k - 1 + 1 = k by omega, Nat.mod_eq_of_lt hk]
section
variable {n : Nat} {C : List (List Int)} (hC : Cut n C)
include hC
theorem Wr.step {t : List Int} {m k : Nat} {c : List Int} (h : Wr n C t m k) (hm : C[m]? = some c) (hk : k < c.length) : (bef c k).toNat < n ∧ 0 ≤ bef c k ∧ Wr n C (t.set (bef c k).toNat (c.getD k 0)) m (k + 1) := by
  obtain ⟨j, hj, hjb, hjk⟩ := bef_at hk
  have hr := hC.in_rg hm hjb
  refine ⟨by omega, hr.1, by rw [List.length_set]; exact h.len, fun i j2 d hi hj2 hor => ?_⟩
  obtain ⟨j3, hj3, hj3b, hj3k⟩ := bef_at hj2
  have hr2 := hC.in_rg hi hj3b
  by_cases e : (bef c k).toNat = (bef d j2).toNat
  · have e2 : bef d j2 = bef c k := by omega
    rw [e2] at hj3b
    obtain ⟨a1, a2⟩ := flat_pair hC.nd hi hm hj3b hjb
    subst a1
    have ed : c = d := Option.some.inj (hm.symm.trans hi)
    subst ed
    have ek : k = j2 := by rw [← hjk, ← hj3k, a2]
    subst ek
    rw [List.getElem?_set_self (by rw [h.len]; omega)]
  · rw [List.getElem?_set_ne e]
    refine h.go i j2 d hi hj2 ?_
    rcases hor with hor | ⟨h1, h2⟩
    · exact .inl hor
    · right
      refine ⟨h1, ?_⟩
      by_cases e3 : j2 = k
      · subst e3
        subst h1
        have ed : c = d := Option.some.inj (hm.symm.trans hi)
        subst ed
        exact absurd rfl e
      · omega
omit hC in
theorem Wr.next {t : List Int} {m : Nat} {c : List Int} (h : Wr n C t m c.length) (hm : C[m]? = some c) : Wr n C t (m + 1) 0 := ⟨h.len, fun i j d hi hj hor => h.go i j d hi hj (by
  rcases hor with hor | hor
  · by_cases e : i = m
    · subst e
      have ed : c = d := Option.some.inj (hm.symm.trans hi)
      subst ed
      exact .inr ⟨rfl, hj⟩
    · exact .inl (by omega)
  · omega)⟩
omit hC in
theorem Wr.done {t : List Int} (h : Wr n C t C.length 0) : Trn n C t := ⟨h.len, fun i k c z hi hk => by
  have hil := (List.getElem?_eq_some_iff.mp hi).1
  have hkl := (List.getElem?_eq_some_iff.mp hk).1
  have e : bef c ((k + 1) % c.length) = z := by
    unfold bef
    by_cases e : (k + 1) % c.length = 0
    · rw [if_pos e]
      have : k = c.length - 1 := by
        by_cases e2 : k + 1 < c.length
        · rw [Nat.mod_eq_of_lt e2] at e; omega
        · omega
      rw [← this, List.getD_eq_getElem?_getD, hk]
      rfl
    · rw [if_neg e]
      have e2 : k + 1 < c.length := by
        by_cases e2 : k + 1 < c.length
        · exact e2
        · exfalso
          rw [show k + 1 = c.length by omega, Nat.mod_self] at e
          exact e rfl
      rw [Nat.mod_eq_of_lt e2, List.getD_eq_getElem?_getD, Nat.add_sub_cancel, hk]
      rfl
  have := h.go i ((k + 1) % c.length) c hi (Nat.mod_lt _ (by omega)) (.inl hil)
  rw [e] at this
  exact this⟩
end
theorem lcm_by {m s : Nat} : m / Nat.gcd m s * s = Nat.lcm m s := by
  unfold Nat.lcm
  exact Nat.div_mul_right_comm (Nat.gcd_dvd_left m s) s
theorem gcd_step {a b : Nat} : Nat.gcd a b = Nat.gcd b (a % b) := by
  rw [Nat.gcd_comm a b, Nat.gcd_rec b a, Nat.gcd_comm]
theorem foldl_perm {f : Nat → Nat → Nat} (hf : ∀ a x y, f (f a x) y = f (f a y) x) {l1 l2 : List Nat} (h : l1.Perm l2) : ∀ a, l1.foldl f a = l2.foldl f a := by
  induction h with
  | nil => intro a; rfl
  | cons x _ ih => intro a; exact ih _
  | swap x y l => intro a; show l.foldl f (f (f a y) x) = l.foldl f (f (f a x) y); rw [hf]
  | trans _ _ ih1 ih2 => intro a; rw [ih1, ih2]
theorem lcm_comm2 (a x y : Nat) : Nat.lcm (Nat.lcm a x) y = Nat.lcm (Nat.lcm a y) x := by
  rw [Nat.lcm_assoc, Nat.lcm_comm x y, ← Nat.lcm_assoc]
def lcms (l : List Nat) : Nat := l.foldl Nat.lcm 1
theorem lcms_snoc (l : List Nat) (x : Nat) : lcms (l ++ [x]) = Nat.lcm (lcms l) x := by unfold lcms; rw [List.foldl_append]; rfl
theorem lcms_perm {l1 l2 : List Nat} (h : l1.Perm l2) : lcms l1 = lcms l2 := foldl_perm lcm_comm2 h 1
theorem lcms_pos : ∀ (l : List Nat) (a : Nat), 0 < a → (∀ x ∈ l, 0 < x) → 0 < l.foldl Nat.lcm a
  | [], a, h, _ => h
  | x :: l, a, h, hl => lcms_pos l _ (Nat.lcm_pos h (hl x (List.mem_cons_self ..))) fun y hy => hl y (List.mem_cons_of_mem _ hy)
theorem lcm_add {m s j : Nat} (hm : 0 < m) (hs : 0 < s) (hj : 1 ≤ j) (hno : ∀ i, 1 ≤ i → i < j → m * i % s ≠ 0) (h : m * j % s = 0) : m * j = Nat.lcm m s := by
  have h1 : Nat.lcm m s ∣ m * j := Nat.lcm_dvd (Nat.dvd_mul_right m j) (Nat.dvd_of_mod_eq_zero h)
  obtain ⟨t, ht⟩ : m ∣ Nat.lcm m s := Nat.dvd_lcm_left m s
  have hpos := Nat.lcm_pos hm hs
  have ht1 : 1 ≤ t := by
    cases t with
    | zero => rw [Nat.mul_zero] at ht; omega
    | succ t => omega
  have h2 : m * t % s = 0 := by rw [← ht]; exact Nat.mod_eq_zero_of_dvd (Nat.dvd_lcm_right m s)
  have h3 : j ≤ t := by
    by_cases e : j ≤ t
    · exact e
    · exact absurd h2 (hno t ht1 (by omega))
  have h4 := Nat.le_of_dvd (Nat.mul_pos hm (by omega)) h1
  have h5 : m * j ≤ m * t := Nat.mul_le_mul_left m h3
  omega
theorem lcm_ends {m s j : Nat} (hs : 0 < s) (hno : ∀ i, 1 ≤ i → i < j → m * i % s ≠ 0) : j ≤ s := by
  by_cases e : j ≤ s
  · exact e
  · exact absurd (Nat.mul_mod_left m s) (hno s hs (by omega))
structure Parts (rooms : List Int) (F : List (List Int)) (at_ : Nat) (szs : List Nat) : Prop where
  pm : F.flatten.Perm (rooms.take at_)
  ne : ∀ c ∈ F, c ≠ []
  mn : ∀ c ∈ F, ∀ z ∈ c, c.getD 0 0 ≤ z
  ln : F.map List.length = szs
theorem Parts.snoc {rooms : List Int} {F : List (List Int)} {at_ s k : Nat} {szs : List Nat} {z : Int} (h : Parts rooms F at_ szs) (hs : 1 ≤ s) (ha : at_ + s ≤ rooms.length)
    (hz : ((rooms.drop at_).take s)[k]? = some z) (hm : ∀ y ∈ (rooms.drop at_).take s, z ≤ y) : Parts rooms (F ++ [((rooms.drop at_).take s).drop k ++ ((rooms.drop at_).take s).take k]) (at_ + s) (szs ++ [s]) := by
  have hl : ((rooms.drop at_).take s).length = s := by rw [List.length_take, List.length_drop]; omega
  have hp : (((rooms.drop at_).take s).drop k ++ ((rooms.drop at_).take s).take k).Perm ((rooms.drop at_).take s) := by
    have := List.perm_append_comm (l₁ := ((rooms.drop at_).take s).drop k) (l₂ := ((rooms.drop at_).take s).take k)
    rw [List.take_append_drop] at this
    exact this
  have hk := (List.getElem?_eq_some_iff.mp hz).1
  have h0 : (((rooms.drop at_).take s).drop k ++ ((rooms.drop at_).take s).take k).getD 0 0 = z := by
    rw [List.getD_eq_getElem?_getD, List.getElem?_append_left (by rw [List.length_drop]; omega), List.getElem?_drop, Nat.add_zero, hz]
    rfl
  refine ⟨?_, fun c hc => ?_, fun c hc y hy => ?_, ?_⟩
  · rw [List.flatten_append, List.take_add]
    refine h.pm.append ?_
    show (_ ++ []).Perm _
    rw [List.append_nil]
    exact hp
  · rcases List.mem_append.mp hc with hc | hc
    · exact h.ne c hc
    · intro e
      have := hp.length_eq
      rw [← List.mem_singleton.mp hc, e, hl] at this
      simp at this
      omega
  · rcases List.mem_append.mp hc with hc | hc
    · exact h.mn c hc y hy
    · rw [List.mem_singleton.mp hc] at hy ⊢
      rw [h0]
      exact hm y (hp.mem_iff.mp hy)
  · rw [List.map_append, h.ln]
    congr 1
    show [_] = [s]
    rw [hp.length_eq, hl]
theorem flat_perm {F C : List (List Int)} (h : C.Perm F) : C.flatten.Perm F.flatten := by
  induction h with
  | nil => exact .refl _
  | cons x _ ih => exact List.Perm.append_left x ih
  | swap x y l =>
    show (y ++ (x ++ l.flatten)).Perm (x ++ (y ++ l.flatten))
    rw [← List.append_assoc, ← List.append_assoc]
    exact List.Perm.append_right _ List.perm_append_comm
  | trans _ _ ih1 ih2 => exact ih1.trans ih2
theorem Parts.cut {rooms : List Int} {F C : List (List Int)} {n : Nat} {szs : List Nat} (h : Parts rooms F n szs) (hr : Pm n rooms) (hp : C.Perm F) (hu : ∀ (i j : Nat) (a b : List Int), i < j → C[i]? = some a → C[j]? = some b → a.getD 0 0 < b.getD 0 0) : Cut n C ∧ lcms (C.map List.length) = lcms szs := by
  have ht : rooms.take n = rooms := List.take_of_length_le (by rw [hr.len]; exact Nat.le_refl _)
  have hf : C.flatten.Perm rooms := (flat_perm hp).trans (by rw [← ht]; exact h.pm)
  refine ⟨⟨fun c hc => h.ne c (hp.mem_iff.mp hc), (hf.nodup_iff).mpr hr.nd, fun z hz => hr.rg z (hf.mem_iff.mp hz), fun x hx => ?_, fun c hc => h.mn c (hp.mem_iff.mp hc), hu⟩, ?_⟩
  · obtain ⟨i, hi, _⟩ := hr.surj hx
    exact hf.mem_iff.mpr (List.mem_of_getElem? hi)
  · rw [← h.ln]
    exact lcms_perm (hp.map _)
end M21
namespace K52
open PySem L2
def top (i : Nat) : Stmt := PySem.Challenge.pw_cosetyard_k52_rings_and_times.main.body.getD i (.Pass ⟨0, 0, 0, 0⟩)
abbrev s_rings : Stmt := top 1
abbrev s_ring_from : Stmt := top 2
abbrev s_times : Stmt := top 3
abbrev s_common_measure : Stmt := top 4
abbrev s__law_whole : Stmt := top 6
abbrev s__law_at : Stmt := top 7
abbrev s__law_mix : Stmt := top 8
abbrev s__law_sizes : Stmt := top 9
abbrev s__law_rooms : Stmt := top 10
abbrev s__law_cut : Stmt := top 11
abbrev s__law_many : Stmt := top 12
abbrev s__law_same : Stmt := top 13
abbrev s_law : Stmt := top 14
structure Adr where
  f_rings : Addr
  d_rings : FuncData
  f_ring_from : Addr
  d_ring_from : FuncData
  f_times : Addr
  d_times : FuncData
  f_common_measure : Addr
  d_common_measure : FuncData
  f__law_whole : Addr
  d__law_whole : FuncData
  f__law_at : Addr
  d__law_at : FuncData
  f__law_mix : Addr
  d__law_mix : FuncData
  f__law_sizes : Addr
  d__law_sizes : FuncData
  f__law_rooms : Addr
  d__law_rooms : FuncData
  f__law_cut : Addr
  d__law_cut : FuncData
  f__law_many : Addr
  d__law_many : FuncData
  f__law_same : Addr
  d__law_same : FuncData
  f_law : Addr
  d_law : FuncData
structure Txt (K : PySem.W.Frag) (mg : Str → Option Value) (A : Adr) : Prop where
  rings : Def K mg "rings" s_rings ["turned"] A.f_rings A.d_rings
  ring_from : Def K mg "ring_from" s_ring_from ["turned", "start"] A.f_ring_from A.d_ring_from
  times : Def K mg "times" s_times ["turned"] A.f_times A.d_times
  common_measure : Def K mg "common_measure" s_common_measure ["one", "other"] A.f_common_measure A.d_common_measure
  _law_whole : Def K mg "_law_whole" s__law_whole ["_law_found"] A.f__law_whole A.d__law_whole
  _law_at : Def K mg "_law_at" s__law_at ["_law_script", "_law_k"] A.f__law_at A.d__law_at
  _law_mix : Def K mg "_law_mix" s__law_mix ["_law_number", "_law_place"] A.f__law_mix A.d__law_mix
  _law_sizes : Def K mg "_law_sizes" s__law_sizes ["_law_script"] A.f__law_sizes A.d__law_sizes
  _law_rooms : Def K mg "_law_rooms" s__law_rooms ["_law_number", "_law_many_here"] A.f__law_rooms A.d__law_rooms
  _law_cut : Def K mg "_law_cut" s__law_cut ["_law_rooms_here", "_law_sizes_here"] A.f__law_cut A.d__law_cut
  _law_many : Def K mg "_law_many" s__law_many ["_law_sizes_here"] A.f__law_many A.d__law_many
  _law_same : Def K mg "_law_same" s__law_same ["_law_found", "_law_due"] A.f__law_same A.d__law_same
  law : Def K mg "law" s_law ["_law_script"] A.f_law A.d_law
  z_zip : mg "zip" = none
  z_range : mg "range" = none
  z_len : mg "len" = none
  z_list : mg "list" = none
  z_isinstance : mg "isinstance" = none
  z_bool : mg "bool" = none
  z_int : mg "int" = none
  z_sum : mg "sum" = none
  z_min : mg "min" = none
  z_sorted : mg "sorted" = none
theorem sc_rings : FnScope ["turned", "found", "ringed", "room", "ring", "other"] ["turned"] (defScope s_rings) := ⟨rfl, rfl, rfl, by decide +kernel, rfl, by decide +kernel, by decide +kernel⟩
theorem sc_ring_from : FnScope ["turned", "start", "ring", "room"] ["turned", "start"] (defScope s_ring_from) := ⟨rfl, rfl, rfl, by decide +kernel, rfl, by decide +kernel, by decide +kernel⟩
theorem sc_times : FnScope ["turned", "many", "ring"] ["turned"] (defScope s_times) := ⟨rfl, rfl, rfl, by decide +kernel, rfl, by decide +kernel, by decide +kernel⟩
theorem sc_common_measure : FnScope ["one", "other", "rest"] ["one", "other"] (defScope s_common_measure) := ⟨rfl, rfl, rfl, by decide +kernel, rfl, by decide +kernel, by decide +kernel⟩
theorem sc__law_whole : FnScope ["_law_found"] ["_law_found"] (defScope s__law_whole) := ⟨rfl, rfl, rfl, by decide +kernel, rfl, by decide +kernel, by decide +kernel⟩
theorem sc__law_at : FnScope ["_law_script", "_law_k"] ["_law_script", "_law_k"] (defScope s__law_at) := ⟨rfl, rfl, rfl, by decide +kernel, rfl, by decide +kernel, by decide +kernel⟩
theorem sc__law_mix : FnScope ["_law_number", "_law_place", "_law_part"] ["_law_number", "_law_place"] (defScope s__law_mix) := ⟨rfl, rfl, rfl, by decide +kernel, rfl, by decide +kernel, by decide +kernel⟩
theorem sc__law_sizes : FnScope ["_law_script", "_law_found", "_law_total", "_law_cell", "_law_number", "_law_size"] ["_law_script"] (defScope s__law_sizes) := ⟨rfl, rfl, rfl, by decide +kernel, rfl, by decide +kernel, by decide +kernel⟩
theorem sc__law_rooms : FnScope ["_law_number", "_law_many_here", "_law_rooms_here", "_law_k", "_law_at_here", "_law_kept"] ["_law_number", "_law_many_here"] (defScope s__law_rooms) := ⟨rfl, rfl, rfl, by decide +kernel, rfl, by decide +kernel, by decide +kernel⟩
theorem sc__law_cut : FnScope ["_law_rooms_here", "_law_sizes_here", "_law_found", "_law_at_here", "_law_size", "_law_ring", "_law_least"] ["_law_rooms_here", "_law_sizes_here"] (defScope s__law_cut) := ⟨rfl, rfl, rfl, by decide +kernel, rfl, by decide +kernel, by decide +kernel⟩
theorem sc__law_many : FnScope ["_law_sizes_here", "_law_many_here", "_law_size", "_law_count"] ["_law_sizes_here"] (defScope s__law_many) := ⟨rfl, rfl, rfl, by decide +kernel, rfl, by decide +kernel, by decide +kernel⟩
theorem sc__law_same : FnScope ["_law_found", "_law_due", "_law_ring", "_law_part", "_law_room"] ["_law_found", "_law_due"] (defScope s__law_same) := ⟨rfl, rfl, rfl, by decide +kernel, rfl, by decide +kernel, by decide +kernel⟩
theorem sc_law : FnScope ["_law_script", "_law_sizes_here", "_law_cut_here", "_law_turned", "_law_ring", "_law_k", "_law_handed", "_law_told", "_law_many_here"] ["_law_script"] (defScope s_law) := ⟨rfl, rfl, rfl, by decide +kernel, rfl, by decide +kernel, by decide +kernel⟩
section
variable {P : Program} {w : World} {K : PySem.W.Frag} {mg : Str → Option Value} {base : Heap} {A : Adr}
def spAt (K : PySem.W.Frag) : Sp := fun vs H Q _ => ∃ (a : Addr) (ns : List Int) (k : Nat), vs = [.ref a, .int k] ∧ SqL K H a (intV ns) ∧ k ≤ 1000 ∧ ∀ z, Q (.int z) H
def spMix : Sp := fun vs H Q _ => ∃ (z p : Int), vs = [.int z, .int p] ∧ 0 ≤ p ∧ p ≤ 1000 ∧ ∀ r : Int, 0 ≤ r → Q (.int r) H
def spLaw (K : PySem.W.Frag) : Sp := fun vs H Q _ => ∃ (a : Addr) (ns : List Int), vs = [.ref a] ∧ SqL K H a (ns.map V.int) ∧ ns.length ≤ 63 ∧ ∀ H', Q (.bl true) H'
theorem ref_at {rs : List Addr} {i : Nat} {r : Addr} (h : rs[i]? = some r) : atI (rs.map V.ref) (i : Int) = some (V.ref r) := atI_nat (by rw [List.getElem?_map, h]; rfl)
theorem ok__law_at (T : Txt K mg A) : FnOk P w K mg base CX0 1 A.f__law_at A.d__law_at ["_law_script", "_law_k"] (spAt K) := by
  refine T._law_at.F.ok sc__law_at (fun vs H Q E h => ?_) (fun cdv AA outer s H vs Q E hr h => ?_)
  · obtain ⟨a, ns, n, rfl, _⟩ := h
    rfl
  · obtain ⟨a, ns, n, rfl, ha, hn, k⟩ := h
    refine ⟨_, (pss_cons (ps_if (pt_cmpR op_lt (pv 1) (pe_callB call_len_seq rfl T.z_len PySem.boot_len (pa_cons (pv 0) pa_nil)) (nomark _))
        (pss_one (ps_ret (pe_ix ix_list (pv 0) (pv 1) (fun _ _ => rfl))))
        pss_nil)
      (pss_one (ps_ret (pe_op op_add (pe_op op_mul pe_int (pv 1)) pe_int)))), ?_⟩
    refine ⟨_, rfl, _, rfl, a, _, rfl, .inl ha, _, _, rfl, rfl, _, rfl, ?_⟩
    refine ite2 (fun h => ?_) (fun h => ?_)
    · have h' : (n : Int) < ((intV ns).length : Int) := of_decide_eq_true h
      rw [ints_len] at h'
      have e0 : ns[n]? = some ns[n] := List.getElem?_eq_getElem (by omega)
      exact ⟨_, rfl, _, rfl, a, _, _, _, rfl, rfl, ha, atI_nat (ints_at e0), k _⟩
    · exact ⟨_, rfl, _, _, rfl, rfl, .inl ⟨by decide, by decide⟩, _, _, rfl, rfl, k _⟩
theorem ok__law_mix (T : Txt K mg A) : FnOk P w K mg base CX0 1 A.f__law_mix A.d__law_mix ["_law_number", "_law_place"] spMix := by
  refine T._law_mix.F.ok sc__law_mix (fun vs H Q E h => ?_) (fun cdv AA outer s H vs Q E hr h => ?_)
  · obtain ⟨z, p, rfl, _⟩ := h
    rfl
  · obtain ⟨z, p, rfl, hp, hp2, k⟩ := h
    refine ⟨_, (pss_cons (ps_set (i := 2) sc__law_mix.nd rfl (Or.inl rfl) (pe_op op_mod (pe_op op_mul (pe_op op_add (pe_op op_add (pe_op op_mod (pv 0) pe_int) (pv 1)) pe_int) (pe_op op_add (pe_op op_mul (pe_op op_mul pe_int (pv 1)) (pv 1)) pe_int)) pe_int))
      (pss_one (ps_ret (pe_op op_mod (pe_op op_mul (pv 2) (pv 2)) pe_int)))), ?_⟩
    have b1 := Int.emod_nonneg z (show (2147483629 : Int) ≠ 0 by decide)
    have b2 := Int.emod_lt_of_pos z (show (0 : Int) < 2147483629 by decide)
    refine ⟨_, rfl, _, _, rfl, rfl, (by show (0 : Int) < 2147483629; decide), _, rfl, _, _, rfl, rfl, _, _, rfl, rfl, _, rfl, _, _, rfl, rfl, .inl ⟨by decide, by decide⟩, _, rfl, _, _, rfl, rfl, .inr ⟨by omega, by omega⟩, _, _, rfl, rfl, _, _, rfl, rfl, .inl ⟨by omega, by omega⟩, _, _, rfl, rfl, (by show (0 : Int) < 2147483647; decide), ?_⟩
    generalize ((z % 2147483629 + p + 1) * (8 * p * p + 48271)) = y1
    have c1 := Int.emod_nonneg y1 (show (2147483647 : Int) ≠ 0 by decide)
    have c2 := Int.emod_lt_of_pos y1 (show (0 : Int) < 2147483647 by decide)
    generalize y1 % 2147483647 = y2 at c1 c2 ⊢
    refine ⟨_, rfl, _, rfl, _, _, rfl, rfl, .inl ⟨by omega, by omega⟩, _, _, rfl, rfl, (by show (0 : Int) < 2147483587; decide), ?_⟩
    exact k _ (Int.emod_nonneg _ (by decide))
theorem ixN_nat {n i : Nat} (h : i < n) : ixN n (i : Int) = some i := by
  unfold ixN
  rw [if_pos (by omega), if_pos (by omega), Int.toNat_natCast]
theorem ints_set (ns : List Int) (i : Nat) (z : Int) : (intV ns).set i (.int z) = intV (ns.set i z) := by
  unfold intV
  rw [List.map_set]
theorem pm_rng {p : Nat} : M11.Pm p (rng 0 p) := by
  refine ⟨rng_len 0 p, ?_, fun z hz => ?_⟩
  · unfold rng
    exact List.Pairwise.map _ (fun a b (hab : a ≠ b) (z : (0 : Int) + (a : Int) = 0 + (b : Int)) => hab (by omega)) List.nodup_range
  · unfold rng at hz
    obtain ⟨i, hi, rfl⟩ := List.mem_map.mp hz
    have := List.mem_range.mp hi
    omega
def But (p : Addr) (H H' : Hp) : Prop := ∀ q o, q ≠ p → H q = some o → H' q = some o
theorem But.trans {p : Addr} {H H1 H2 : Hp} (a : But p H H1) (b : But p H1 H2) : But p H H2 := fun q o n e => b q o n (a q o n e)
theorem But.upd {p : Addr} {H : Hp} {o : HO} : But p H (upd H p o) := fun q u n e => by rw [upd_ne n]; exact e
theorem _root_.L2.RowsAt.but {H H' : Hp} {rs : List Addr} {rows : List (List Int)} {w : Addr} (h : RowsAt H rs rows) (b : But w H H') (hw : w ∉ rs) : RowsAt H' rs rows := ⟨h.1, fun i r ns h1 h2 => b _ _ (fun z => hw (by rw [← z]; exact List.mem_of_getElem? h1)) (h.2 i r ns h1 h2)⟩
theorem _root_.L2.RowsAt.snoc {H : Hp} {rs : List Addr} {rows : List (List Int)} {r : Addr} {ns : List Int} (h : RowsAt H rs rows) (hr : H r = some (.lst (intV ns))) : RowsAt H (rs ++ [r]) (rows ++ [ns]) := by
  refine ⟨by rw [List.length_append, List.length_append, h.1]; rfl, fun i q ms h1 h2 => ?_⟩
  by_cases hi : i < rs.length
  · rw [List.getElem?_append_left hi] at h1
    rw [List.getElem?_append_left (by rw [← h.1]; exact hi)] at h2
    exact h.2 i q ms h1 h2
  · rw [List.getElem?_append_right (by omega)] at h1
    rw [List.getElem?_append_right (by rw [← h.1]; omega)] at h2
    rw [List.mem_singleton.mp (List.mem_of_getElem? h1), List.mem_singleton.mp (List.mem_of_getElem? h2)]
    exact hr
theorem rep_zero (p : Nat) : (List.replicate p [V.int 0]).flatten = intV (List.replicate p (0 : Int)) := by
  unfold intV
  rw [List.map_replicate]
  induction p with
  | zero => rfl
  | succ n ih => rw [List.replicate_succ, List.flatten_cons, ih, List.replicate_succ]; rfl
def natI (hs : List Nat) : List Int := hs.map fun r => ((r : Nat) : Int)
theorem natI_at {hs : List Nat} {i : Nat} {z : Int} (h : (natI hs)[i]? = some z) : ∃ r, hs[i]? = some r ∧ z = ((r : Nat) : Int) := by
  unfold natI at h
  rw [List.getElem?_map] at h
  cases e : hs[i]? with
  | none => rw [e] at h; cases h
  | some r => rw [e] at h; exact ⟨r, rfl, (Option.some.inj h).symm⟩
theorem natI_len (hs : List Nat) : (natI hs).length = hs.length := by unfold natI; rw [List.length_map]
theorem natI_app (F : List Nat) (j : Nat) : natI (F ++ [j]) = natI F ++ [((j : Nat) : Int)] := by unfold natI; rw [List.map_append]; rfl
def TabN (H H' : Hp) (l : Addr) (rows : List (List Int)) : Prop := ∃ rs : List Addr, H' l = some (.lst (rs.map V.ref)) ∧ RowsAt H' rs rows ∧ H l = none ∧ ∀ r ∈ rs, H r = none
def blV (bs : List Bool) : List V := bs.map V.bl
def spWhole : Sp := fun vs H Q _ => ∃ z : Int, vs = [.int z] ∧ Q (.bl true) H
def spGcd : Sp := fun vs H Q _ => ∃ a b : Nat, vs = [.int a, .int b] ∧ Q (.int ((Nat.gcd a b : Nat) : Int)) H
def spRing : Sp := fun vs H Q _ => ∃ (a : Addr) (t : List Int) (n i : Nat) (C : List (List Int)) (c : List Int) (z : Int), vs = [.ref a, .int z] ∧ H a = some (.lst (intV t)) ∧ M21.Cut n C ∧ M21.Trn n C t ∧ n ≤ 1000 ∧ C[i]? = some c ∧ c[0]? = some z ∧ ∀ l H', Same H H' → H l = none → H' l = some (.lst (intV c)) → Q (.ref l) H'
def spRings : Sp := fun vs H Q _ => ∃ (a : Addr) (t : List Int) (n : Nat) (C : List (List Int)), vs = [.ref a] ∧ H a = some (.lst (intV t)) ∧ M21.Cut n C ∧ M21.Trn n C t ∧ n ≤ 1000 ∧ ∀ l H', Same H H' → TabN H H' l C → Q (.ref l) H'
def spTimes : Sp := fun vs H Q _ => ∃ (a : Addr) (t : List Int) (n : Nat) (C : List (List Int)), vs = [.ref a] ∧ H a = some (.lst (intV t)) ∧ M21.Cut n C ∧ M21.Trn n C t ∧ n ≤ 1000 ∧ ∀ H', Same H H' → Q (.int ((M21.lcms (C.map List.length) : Nat) : Int)) H'
def spSizes (K : PySem.W.Frag) : Sp := fun vs H Q _ => ∃ (a : Addr) (ns : List Int), vs = [.ref a] ∧ SqL K H a (intV ns) ∧ ns.length ≤ 63 ∧ ∀ l szs H', Same H H' → H' l = some (.lst (intV (natI szs))) → (∀ s ∈ szs, 1 ≤ s) → szs.sum ≤ 1000 → 1 ≤ szs.length → szs.length ≤ 63 → Q (.ref l) H'
def spRooms : Sp := fun vs H Q _ => ∃ (z : Int) (n : Nat), vs = [.int z, .int n] ∧ 1 ≤ n ∧ n ≤ 1000 ∧ ∀ l rooms H', Same H H' → H' l = some (.lst (intV rooms)) → M11.Pm n rooms → Q (.ref l) H'
def spCut : Sp := fun vs H Q _ => ∃ (a b : Addr) (rooms : List Int) (szs : List Nat) (n : Nat), vs = [.ref a, .ref b] ∧ H a = some (.lst (intV rooms)) ∧ H b = some (.lst (intV (natI szs))) ∧ M11.Pm n rooms ∧ szs.sum = n ∧ n ≤ 1000 ∧ (∀ s ∈ szs, 1 ≤ s) ∧ 1 ≤ szs.length ∧ szs.length ≤ 63 ∧ ∀ l C H', Same H H' → TabAt H' l C → M21.Cut n C → M21.lcms (C.map List.length) = M21.lcms szs → 1 ≤ C.length → Q (.ref l) H'
def spManyL : Sp := fun vs H Q _ => ∃ (b : Addr) (szs : List Nat), vs = [.ref b] ∧ H b = some (.lst (intV (natI szs))) ∧ (∀ s ∈ szs, 1 ≤ s) ∧ Q (.int ((M21.lcms szs : Nat) : Int)) H
def spSame : Sp := fun vs H Q _ => ∃ (a b : Addr) (X : List (List Int)), vs = [.ref a, .ref b] ∧ TabAt H a X ∧ TabAt H b X ∧ ∀ H', Same H H' → Q (.bl true) H'
theorem ok__law_whole (T : Txt K mg A) : FnOk P w K mg base CX0 1 A.f__law_whole A.d__law_whole ["_law_found"] spWhole := by
  refine T._law_whole.F.ok sc__law_whole (fun vs H Q E h => ?_) (fun cdv AA outer s H vs Q E hr h => ?_)
  · obtain ⟨z, rfl, _⟩ := h
    rfl
  · obtain ⟨z, rfl, k⟩ := h
    refine ⟨_, (pss_one (ps_ret (pe_and (pe_callB call_isi rfl T.z_isinstance PyProof.Rows.boot_isinstance (pa_cons (pv 0) (pa_cons (pe_bltn (v := .ty "int") rfl T.z_int PyProof.Rows.boot_int rfl) pa_nil))) (pe_one (pe_not (pe_callB call_isi rfl T.z_isinstance PyProof.Rows.boot_isinstance (pa_cons (pv 0) (pa_cons (pe_bltn (v := .ty "bool") rfl T.z_bool PyProof.Rows.boot_bool rfl) pa_nil)))))))), ?_⟩
    refine ⟨_, rfl, _, _, _, _, rfl, .int z, kit_self _ _, true, rfl, iteT ?_⟩
    exact ⟨_, rfl, _, _, _, _, rfl, .int z, kit_int_bool _, false, rfl, k⟩
theorem ok_common_measure (T : Txt K mg A) : FnOk P w K mg base CX0 1 A.f_common_measure A.d_common_measure ["one", "other"] spGcd := by
  refine T.common_measure.F.ok sc_common_measure (fun vs H Q E h => ?_) (fun cdv AA outer s H vs Q E hr h => ?_)
  · obtain ⟨a, b, rfl, _⟩ := h
    rfl
  · obtain ⟨a, b, rfl, k⟩ := h
    refine ⟨_, (pss_cons (ps_cut (ps_while PassesOwn.never (pt_cmpR op_gt (pv 1) pe_int (nomark _))
        (pss_cons (ps_set (i := 2) sc_common_measure.nd rfl (Or.inl rfl) (pe_op op_mod (pv 0) (pv 1)))
        (pss_cons (ps_set (i := 0) sc_common_measure.nd rfl (Or.inl rfl) (pv 1))
        (pss_one (ps_set (i := 1) sc_common_measure.nd rfl (Or.inl rfl) (pv 2)))))))
      (pss_one (ps_ret (pv 0)))), ?_⟩
    refine ⟨fun σ' H' => ∃ v2 v1 : Option V, σ' = [some (.int ((Nat.gcd a b : Nat) : Int)), v1, v2] ∧ H' = H, ?_, ?_⟩
    · refine ⟨fun ms σ H' => ∃ (x y : Nat) (v2 : Option V), y = ms ∧ σ = [some (.int x), some (.int y), v2] ∧ H' = H ∧ Nat.gcd x y = Nat.gcd a b, ⟨_, a, b, none, rfl, rfl, rfl, rfl⟩, ?_⟩
      rintro ms σ H' ⟨x, y, v2, rfl, rfl, rfl, hg⟩
      refine ⟨_, rfl, _, _, rfl, rfl, _, rfl, ?_⟩
      refine ite2 (fun h => ?_) (fun h => ?_)
      · have hy : 0 < y := by
          have h' : (0 : Int) < (y : Int) := of_decide_eq_true h
          omega
        refine ⟨fun σ' H2 => ∃ (x' y' : Nat) (v2 : Option V), σ' = [some (.int x'), some (.int y'), v2] ∧ H2 = H' ∧ Nat.gcd x' y' = Nat.gcd a b ∧ y' < y, fun σ' H2 ⟨x', y', v2, e, e2, e3, e4⟩ => ⟨y', e4, x', y', v2, rfl, e, e2, e3⟩, ?_⟩
        refine ⟨_, rfl, _, rfl, _, _, rfl, rfl, (by show (0 : Int) < (y : Int); omega), _, rfl, _, rfl, y, x % y, some (.int ((x % y : Nat) : Int)), ?_, rfl, ?_, Nat.mod_lt _ hy⟩
        · rw [Int.natCast_emod]
          rfl
        · rw [← M21.gcd_step]
          exact hg
      · have hy : y = 0 := by
          have h' : ¬ (0 : Int) < (y : Int) := fun z => h (decide_eq_true z)
          omega
        subst hy
        rw [Nat.gcd_zero_right] at hg
        exact ⟨v2, _, by rw [hg], rfl⟩
    rintro σ' H' ⟨v2, v1, rfl, rfl⟩
    exact ⟨_, rfl, k⟩
theorem take_at {c : List Int} {i : Nat} (h : i < c.length) : c.take (i + 1) = c.take i ++ [c.getD i 0] := by
  have g : c[i]? = some c[i] := List.getElem?_eq_getElem h
  rw [List.take_succ, g, List.getD_eq_getElem?_getD, g]
  rfl
theorem getD_at {c : List Int} {i : Nat} (h : i < c.length) : c[i]? = some (c.getD i 0) := by
  rw [List.getD_eq_getElem?_getD, List.getElem?_eq_getElem h]
  rfl
theorem ok_ring_from (T : Txt K mg A) : FnOk P w K mg base CX0 1 A.f_ring_from A.d_ring_from ["turned", "start"] spRing := by
  refine T.ring_from.F.ok sc_ring_from (fun vs H Q E h => ?_) (fun cdv AA outer s H vs Q E hr h => ?_)
  · obtain ⟨a, t, n, i0, C, c, z, rfl, _⟩ := h
    rfl
  · obtain ⟨a, t, n, i0, C, c, z, rfl, ha, hC, hT, hn, hi0, hz, k⟩ := h
    refine ⟨_, (pss_cons (ps_set (i := 2) sc_ring_from.nd rfl (Or.inl rfl) (pe_lst (pa_cons (pv 1) pa_nil)))
      (pss_cons (ps_set (i := 3) sc_ring_from.nd rfl (Or.inl rfl) (pe_ix ix_list (pv 0) (pv 1) (fun _ _ => rfl)))
      (pss_cons (ps_cut (ps_while PassesOwn.never (pt_cmpR op_ne (pv 3) (pv 1) (nomark _))
        (pss_cons (ps_expr (pe_bm PySem.F.plainAttrs_list PySem.F.slot_list_append PySem.F.type_list_append mt_append (pv 2) (pa_cons (pv 3) pa_nil)))
        (pss_one (ps_set (i := 3) sc_ring_from.nd rfl (Or.inl rfl) (pe_ix ix_list (pv 0) (pv 3) (fun _ _ => rfl)))))))
      (pss_one (ps_ret (pv 2)))))), ?_⟩
    have hcl : 0 < c.length := (List.getElem?_eq_some_iff.mp hz).1
    have hcn : c.Nodup := M21.in_nodup hC.nd (List.mem_of_getElem? hi0)
    have hc1000 : c.length ≤ 1000 := by
      have := M11.nodup_lenI hcn (n := n) (fun x hx => by
        obtain ⟨b, hb⟩ := List.getElem?_of_mem hx
        exact hC.in_rg hi0 hb)
      omega
    have ez : z = c.getD 0 0 := by rw [List.getD_eq_getElem?_getD, hz]; rfl
    have tat : ∀ j, j < c.length → atI (intV t) (c.getD j 0) = some (V.int (M21.nxt c j)) := fun j hj => by
      have hr := hC.in_rg hi0 (getD_at hj)
      have h2 := hT.go i0 j c _ hi0 (getD_at hj)
      have h3 := atI_nat (ints_at h2)
      rw [show (((c.getD j 0).toNat : Nat) : Int) = c.getD j 0 by omega] at h3
      exact h3
    refine ⟨_, rfl, by show 1 ≤ sizeLine; decide, fun lr hlr => ?_⟩
    have s0 : Same H (upd H lr (.lst [.int z])) := Same.upd hlr
    have h0 : upd H lr (.lst [.int z]) lr = some (.lst (intV (c.take 1))) := by
      rw [upd_same, take_at (i := 0) hcl, ez]
      rfl
    generalize upd H lr (.lst [.int z]) = H0 at s0 h0 ⊢
    refine ⟨_, rfl, _, rfl, a, _, _, _, rfl, rfl, SqL.of (s0 _ _ ha), (by rw [ez]; exact tat 0 hcl), ?_⟩
    refine ⟨fun σ' H' => ∃ v3 : Option V, σ' = [some (.ref a), some (.int z), some (.ref lr), v3] ∧ Same H H' ∧ H' lr = some (.lst (intV c)), ?_, ?_⟩
    · refine ⟨fun ms σ H' => ∃ j : Nat, c.length - j = ms ∧ 1 ≤ j ∧ j ≤ c.length ∧ σ = [some (.ref a), some (.int z), some (.ref lr), some (.int (M21.nxt c (j - 1)))] ∧ Same H H' ∧ H' lr = some (.lst (intV (c.take j))), ⟨_, 1, rfl, Nat.le_refl _, hcl, rfl, s0, h0⟩, ?_⟩
      rintro ms σ H' ⟨j, rfl, hj1, hjl, rfl, s', h'⟩
      by_cases e : j = c.length
      · have en : M21.nxt c (j - 1) = z := by
          unfold M21.nxt
          rw [show j - 1 + 1 = c.length by omega, Nat.mod_self, ez]
        refine ⟨_, rfl, _, rfl, rfl, _, rfl, iteNS (by rw [en]) ?_⟩
        rw [e, List.take_length] at h'
        exact ⟨_, rfl, s', h'⟩
      · have en : M21.nxt c (j - 1) = c.getD j 0 := by
          unfold M21.nxt
          rw [show j - 1 + 1 = j by omega, Nat.mod_eq_of_lt (by omega)]
        rw [en]
        have hne : ¬ (V.int (c.getD j 0) = V.int z) := fun q => by
          injection q with q
          have h1 := getD_at (c := c) (i := j) (by omega)
          rw [q] at h1
          have := (List.getElem?_inj hcl hcn).mp (hz.trans h1.symm)
          omega
        refine ⟨_, rfl, _, rfl, rfl, _, rfl, ite2 (fun _ => ?_) (fun h => absurd (by rw [decide_eq_false hne]; rfl) h)⟩
        refine ⟨fun σ' H2 => ∃ j' : Nat, j' = j + 1 ∧ σ' = [some (.ref a), some (.int z), some (.ref lr), some (.int (M21.nxt c (j' - 1)))] ∧ Same H H2 ∧ H2 lr = some (.lst (intV (c.take j'))), fun σ' H2 ⟨j', e1, e2, e3, e4⟩ => ⟨c.length - j', by omega, j', rfl, by omega, by omega, e2, e3, e4⟩, ?_⟩
        refine ⟨_, rfl, .inl ⟨rfl, _, SqL.of h'⟩, _, rfl, lr, _, _, rfl, rfl, h', ?_, ?_⟩
        · rw [ints_len, List.length_take]
          exact Nat.lt_of_le_of_lt (show min j c.length ≤ 1000 by omega) (by decide)
        have s2 : Same H (upd H' lr (.lst (intV (c.take j) ++ [.int (c.getD j 0)]))) := fun b o e => by rw [upd_ne (ne_of_none e hlr)]; exact s' _ _ e
        have h2 : upd H' lr (.lst (intV (c.take j) ++ [.int (c.getD j 0)])) lr = some (.lst (intV (c.take (j + 1)))) := by rw [upd_same, take_at (by omega), ints_app]; rfl
        generalize upd H' lr (.lst (intV (c.take j) ++ [.int (c.getD j 0)])) = H2 at s2 h2 ⊢
        exact ⟨_, rfl, _, rfl, a, _, _, _, rfl, rfl, SqL.of (s2 _ _ ha), tat j (by omega), j + 1, rfl, rfl, s2, h2⟩
    rintro σ' H' ⟨v3, rfl, s', h'⟩
    exact ⟨_, rfl, k lr H' s' hlr h'⟩
theorem rep_bl (p : Nat) : (List.replicate p [V.bl false]).flatten = blV (M21.marks [] p) := by
  rw [M21.marks_nil]
  unfold blV
  induction p with
  | zero => rfl
  | succ p ih =>
    rw [List.replicate_succ, List.flatten_cons, ih, List.replicate_succ]
    rfl
theorem bl_at {bs : List Bool} {i : Nat} {b : Bool} (h : bs[i]? = some b) : (blV bs)[i]? = some (V.bl b) := by unfold blV; rw [List.getElem?_map, h]; rfl
theorem bl_len (bs : List Bool) : (blV bs).length = bs.length := by unfold blV; rw [List.length_map]
theorem ok_rings (T : Txt K mg A) : FnOk P w K mg base CX0 2 A.f_rings A.d_rings ["turned"] spRings := by
  have G_ring_from : FnOk P w K mg base CX0 1 A.f_ring_from A.d_ring_from ["turned", "start"] spRing := ok_ring_from T
  refine T.rings.F.ok sc_rings (fun vs H Q E h => ?_) (fun cdv AA outer s H vs Q E hr h => ?_)
  · obtain ⟨a, t, n, C, rfl, _⟩ := h
    rfl
  · obtain ⟨a, t, n, C, rfl, ha, hC, hT, hn, k⟩ := h
    refine ⟨_, (pss_cons (ps_set (i := 1) sc_rings.nd rfl (Or.inl rfl) (pe_lst pa_nil))
      (pss_cons (ps_set (i := 2) sc_rings.nd rfl (Or.inl rfl) (pe_op op_rep (pe_lst (pa_cons pe_bl pa_nil)) (pe_callB call_len_seq rfl T.z_len PySem.boot_len (pa_cons (pv 0) pa_nil))))
      (pss_cons (ps_for PassesOwn.never rfl (pi_range1 rfl T.z_range (pa_cons (pe_callB call_len_seq rfl T.z_len PySem.boot_len (pa_cons (pv 0) pa_nil)) pa_nil)) (pg_name (i := 3) sc_rings.nd rfl (Or.inl rfl))
        (pss_one (ps_cut (ps_if (pt_not (pt_val (pe_ix ix_list (pv 2) (pv 3) (fun _ _ => rfl))))
          (pss_cons (ps_set (i := 4) sc_rings.nd rfl (Or.inl rfl) (pe_call (G_ring_from) (hr.mono (by decide)) rfl T.ring_from.m T.ring_from.F.kp T.ring_from.b .nil pass0 (pa_cons (pv 0) (pa_cons (pv 3) pa_nil))))
          (pss_cons (ps_for PassesOwn.never rfl (pi_list (pv 4)) (pg_name (i := 5) sc_rings.nd rfl (Or.inl rfl))
            (pss_one (ps_asg pe_bl (pg_sub (pv 2) (pv 5) set_list))))
          (pss_one (ps_expr (pe_bm PySem.F.plainAttrs_list PySem.F.slot_list_append PySem.F.type_list_append mt_append (pv 1) (pa_cons (pv 4) pa_nil))))))
          pss_nil))))
      (pss_one (ps_ret (pv 1)))))), ?_⟩
    refine ⟨Nat.zero_le _, fun lf hlf => ?_⟩
    have s0 : Same H (upd H lf (.lst [])) := Same.upd hlf
    have h0 : upd H lf (.lst []) lf = some (.lst (([] : List Addr).map V.ref)) := upd_same
    generalize upd H lf (.lst []) = H0 at s0 h0 ⊢
    refine ⟨by show 1 ≤ sizeLine; decide, fun q hq => ?_⟩
    have sq : Same H0 (upd H0 q (.lst [.bl false])) := Same.upd hq
    have hqq : upd H0 q (.lst [.bl false]) q = some (.lst [.bl false]) := upd_same
    generalize upd H0 q (.lst [.bl false]) = H1 at sq hqq ⊢
    have hlen : ((intV t).length : Int) = (n : Int) := by rw [ints_len, hT.len]
    have s1 := s0.trans sq
    refine ⟨_, rfl, a, _, rfl, .inl (SqL.of (s1 _ _ ha)), q, _, _, rfl, rfl, hqq, by omega, by omega, ?_, fun rg hrg => ?_⟩
    · show 1 * ((intV t).length : Int).toNat ≤ sizeLine
      rw [hlen, Int.toNat_natCast]
      exact Nat.le_trans (show 1 * n ≤ 1000 by omega) (by decide)
    rw [hlen, Int.toNat_natCast, rep_bl]
    have s12 : Same H1 (upd H1 rg (.lst (blV (M21.marks [] n)))) := Same.upd hrg
    have h2 : upd H1 rg (.lst (blV (M21.marks [] n))) rg = some (.lst (blV (M21.marks [] n))) := upd_same
    have nfr : lf ≠ rg := fun e => by rw [← e, sq _ _ h0] at hrg; cases hrg
    have nrg : H rg = none := s1.free hrg
    generalize upd H1 rg (.lst (blV (M21.marks [] n))) = H2 at s12 h2 ⊢
    have s2 := s1.trans s12
    refine ⟨_, rfl, a, _, rfl, .inl (SqL.of (s2 _ _ ha)), (n : Int), by rw [hlen], by omega, by omega, ?_⟩
    refine for_range (lo := 0) (n := ((n : Int)).toNat) (fun r σ H3 => ∃ (m : Nat) (fps : List Addr) (v3 v4 v5 : Option V), σ = [some (.ref a), some (.ref lf), some (.ref rg), v3, v4, v5] ∧ Same H H3 ∧ M21.Ah C m r ∧ H3 lf = some (.lst (fps.map V.ref)) ∧ RowsAt H3 fps (C.take m) ∧ (∀ q ∈ fps, H q = none) ∧ lf ∉ fps ∧ rg ∉ fps ∧ H3 rg = some (.lst (blV (M21.marks (C.take m).flatten n))))
      ⟨0, [], none, none, none, rfl, s2, M21.Ah.start hC, s12 _ _ (sq _ _ h0), ⟨by simp, fun i r ns g1 => by simp at g1⟩, fun q hq => by simp at hq, by simp, by simp, h2⟩ ?_ ?_
    · rintro r σ H3 hr ⟨m, fps, v3, v4, v5, rfl, s3, hA, h3, R3, nf3, nl3, ng3, hg3⟩
      have hrn : r < n := by omega
      rw [Int.zero_add]
      refine ⟨_, ?_, fun _ _ h => h⟩
      by_cases hm : (r : Int) ∈ (C.take m).flatten
      · have hat := M21.marks_at (L := (C.take m).flatten) hrn
        rw [decide_eq_true hm] at hat
        exact ⟨_, rfl, _, rfl, rg, _, _, _, rfl, rfl, SqL.of hg3, atI_nat (bl_at hat), true, rfl, iteF ⟨m, fps, _, _, _, rfl, s3, hA.old hC hrn hm, h3, R3, nf3, nl3, ng3, hg3⟩⟩
      · have hat := M21.marks_at (L := (C.take m).flatten) hrn
        rw [decide_eq_false hm] at hat
        obtain ⟨c, hcm, hc0, hA2⟩ := hA.new hC hrn hm
        refine ⟨_, rfl, _, rfl, rg, _, _, _, rfl, rfl, SqL.of hg3, atI_nat (bl_at hat), false, rfl, iteT ?_⟩
        refine ⟨_, rfl, _, rfl, a, t, n, m, C, c, (r : Int), rfl, s3 _ _ ha, hC, hT, hn, hcm, hc0, fun l H4 s4 nl4 hl4 => ?_⟩
        have hg4 := s4 _ _ hg3
        have nlg : l ≠ rg := fun e => by rw [e, hg3] at nl4; cases nl4
        have nlf : l ≠ lf := fun e => by rw [e, h3] at nl4; cases nl4
        have eT : C.take (m + 1) = C.take m ++ [c] := by rw [List.take_succ, hcm]; rfl
        refine ⟨_, rfl, l, rfl, ⟨_, SqL.of hl4⟩, ?_⟩
        refine for_list (K := K) (a := l) (xs := intV c) (fun j σ H5 => ∃ v5 : Option V, σ = [some (.ref a), some (.ref lf), some (.ref rg), some (.int (r : Int)), some (.ref l), v5] ∧ But rg H4 H5 ∧ H5 rg = some (.lst (blV (M21.marks ((C.take m).flatten ++ c.take j) n)))) ⟨_, rfl, fun _ _ _ e => e, by rw [List.take_zero, List.append_nil]; exact hg4⟩ (fun j σ H5 _ ⟨_, _, b, _⟩ => SqL.of (b _ _ nlg hl4)) ?_ ?_
        · rintro j y σ H5 hj ⟨v5, rfl, b5, hg5⟩
          obtain ⟨z, rfl, hz⟩ := ints_of_at hj
          have hr := hC.in_rg hcm hz
          obtain ⟨x, rfl⟩ : ∃ x : Nat, z = (x : Int) := ⟨z.toNat, by omega⟩
          have hx : x < n := by omega
          refine ⟨_, rfl, _, rfl, rg, _, _, x, rfl, rfl, hg5, ixN_nat (by rw [bl_len, M21.marks_len]; exact hx), ?_⟩
          have e : (blV (M21.marks ((C.take m).flatten ++ c.take j) n)).set x (.bl true) = blV (M21.marks ((C.take m).flatten ++ c.take (j + 1)) n) := by
            rw [List.take_succ, hz]
            show _ = blV (M21.marks ((C.take m).flatten ++ (c.take j ++ [(x : Int)])) n)
            rw [← List.append_assoc, ← M21.marks_set hx]
            unfold blV
            rw [List.map_set]
          rw [e]
          exact ⟨_, rfl, b5.trans But.upd, upd_same⟩
        · rintro σ H5 ⟨v5, rfl, b5, hg5⟩
          rw [ints_len, List.take_length] at hg5
          have s35 : ∀ b o, H3 b = some o → b ≠ rg → H5 b = some o := fun b o e nb => b5 _ _ nb (s4 _ _ e)
          have hl5 := s35 _ _ h3 nfr
          have hfl : fps.length ≤ 1000 := by
            have e1 := R3.1
            rw [List.length_take] at e1
            have e2 := hA.1
            have e3 : C.length ≤ n := by
              have hd : (C.map fun c => (c.getD 0 0)).Nodup := by
                rw [List.nodup_iff_pairwise_ne, List.pairwise_map, List.pairwise_iff_getElem]
                intro i j hi hj hij z
                have := hC.up i j _ _ hij (List.getElem?_eq_getElem hi) (List.getElem?_eq_getElem hj)
                omega
              have := M11.nodup_lenI hd (n := n) (fun x hx => by
                obtain ⟨d, hd2, rfl⟩ := List.mem_map.mp hx
                obtain ⟨i, hi⟩ := List.getElem?_of_mem hd2
                exact hC.in_rg hi (M21.head_at (hC.ne d hd2)))
              rw [List.length_map] at this
              exact this
            omega
          refine ⟨_, rfl, .inl ⟨rfl, _, SqL.of hl5⟩, _, rfl, lf, _, _, rfl, rfl, hl5, ?_, ?_⟩
          · rw [List.length_map]
            exact Nat.lt_of_le_of_lt hfl (by decide)
          refine ⟨m + 1, fps ++ [l], _, _, _, rfl, fun b o e => ?_, hA2, by rw [upd_same, List.map_append]; rfl, ?_, fun p hp => ?_, fun z => ?_, fun z => ?_, ?_⟩
          · rw [upd_ne (ne_of_none e hlf)]
            exact s35 _ _ (s3 _ _ e) (ne_of_none e nrg)
          · rw [eT]
            refine RowsAt.but (w := lf) (RowsAt.snoc ⟨R3.1, fun i r ns g1 g2 => s35 _ _ (R3.2 i r ns g1 g2) (fun e => ng3 (by rw [← e]; exact List.mem_of_getElem? g1))⟩ (b5 _ _ nlg hl4)) But.upd fun z => ?_
            rcases List.mem_append.mp z with z | z
            · exact nl3 z
            · exact nlf (List.mem_singleton.mp z).symm
          · rcases List.mem_append.mp hp with hp | hp
            · exact nf3 p hp
            · rw [List.mem_singleton.mp hp]
              exact s3.free nl4
          · rcases List.mem_append.mp z with z | z
            · exact nl3 z
            · exact nlf (List.mem_singleton.mp z).symm
          · rcases List.mem_append.mp z with z | z
            · exact ng3 z
            · exact nlg (List.mem_singleton.mp z).symm
          · rw [upd_ne (Ne.symm nfr), hg5, eT, List.flatten_append]
            simp
    · rintro σ H3 ⟨m, fps, v3, v4, v5, rfl, s3, hA, h3, R3, nf3, nl3, ng3, hg3⟩
      rw [Int.toNat_natCast] at hA
      rw [hA.end_ hC] at R3
      exact ⟨_, rfl, k lf H3 s3 ⟨fps, h3, R3, hlf, nf3⟩⟩
theorem ok_times (T : Txt K mg A) : FnOk P w K mg base CX0 3 A.f_times A.d_times ["turned"] spTimes := by
  have G_rings : FnOk P w K mg base CX0 2 A.f_rings A.d_rings ["turned"] spRings := ok_rings T
  have G_common_measure : FnOk P w K mg base CX0 1 A.f_common_measure A.d_common_measure ["one", "other"] spGcd := ok_common_measure T
  refine T.times.F.ok sc_times (fun vs H Q E h => ?_) (fun cdv AA outer s H vs Q E hr h => ?_)
  · obtain ⟨a, t, n, C, rfl, _⟩ := h
    rfl
  · obtain ⟨a, t, n, C, rfl, ha, hC, hT, hn, k⟩ := h
    refine ⟨_, (pss_cons (ps_set (i := 1) sc_times.nd rfl (Or.inl rfl) pe_int)
      (pss_cons (ps_for PassesOwn.never rfl (pi_list (pe_call (G_rings) (hr.mono (by decide)) rfl T.rings.m T.rings.F.kp T.rings.b .nil pass0 (pa_cons (pv 0) pa_nil))) (pg_name (i := 2) sc_times.nd rfl (Or.inl rfl))
        (pss_one (ps_set (i := 1) sc_times.nd rfl (Or.inl rfl) (pe_op op_mul (pe_op op_fdiv (pv 1) (pe_call (G_common_measure) (hr.mono (by decide)) rfl T.common_measure.m T.common_measure.F.kp T.common_measure.b .nil pass0 (pa_cons (pv 1) (pa_cons (pe_callB call_len_seq rfl T.z_len PySem.boot_len (pa_cons (pv 2) pa_nil)) pa_nil)))) (pe_callB call_len_seq rfl T.z_len PySem.boot_len (pa_cons (pv 2) pa_nil))))))
      (pss_one (ps_ret (pv 1))))), ?_⟩
    refine ⟨_, rfl, a, t, n, C, rfl, ha, hC, hT, hn, fun l H1 s1 hN => ?_⟩
    obtain ⟨rs, hl, hR, -, -⟩ := hN
    have hrl : rs.length = C.length := hR.1
    refine ⟨l, rfl, ⟨_, SqL.of hl⟩, ?_⟩
    refine for_list (K := K) (a := l) (xs := rs.map V.ref) (fun i σ H2 => ∃ v2 : Option V, σ = [some (.ref a), some (.int ((M21.lcms ((C.take i).map List.length) : Nat) : Int)), v2] ∧ H2 = H1) ⟨none, rfl, rfl⟩ (fun i σ H2 _ ⟨_, _, e⟩ => by rw [e]; exact SqL.of hl) ?_ ?_
    · rintro i y σ H2 hi ⟨v2, rfl, rfl⟩
      rw [List.getElem?_map] at hi
      have hil : i < rs.length := by
        cases e : rs[i]? with
        | none => rw [e] at hi; cases hi
        | some r => exact (List.getElem?_eq_some_iff.mp e).1
      have q1 : rs[i]? = some rs[i] := List.getElem?_eq_getElem hil
      rw [q1] at hi
      have ey : V.ref rs[i] = y := Option.some.inj hi
      subst ey
      generalize rs[i] = rp at q1
      have q2 : C[i]? = some (C[i]'(by omega)) := List.getElem?_eq_getElem (by omega)
      generalize C[i]'(by omega) = c at q2
      have hrp := hR.2 i rp c q1 q2
      have hc0 : 0 < c.length := by
        have := hC.ne c (List.mem_of_getElem? q2)
        exact List.length_pos_iff.mpr this
      have hcn : c.Nodup := M21.in_nodup hC.nd (List.mem_of_getElem? q2)
      have hc1000 : c.length ≤ 1000 := by
        have := M11.nodup_lenI hcn (n := n) (fun x hx => by
          obtain ⟨b, hb⟩ := List.getElem?_of_mem hx
          exact hC.in_rg q2 hb)
        omega
      have eT : (C.take (i + 1)).map List.length = (C.take i).map List.length ++ [c.length] := by rw [List.take_succ, q2, List.map_append]; rfl
      rw [eT, M21.lcms_snoc]
      generalize M21.lcms ((C.take i).map List.length) = m
      have hlen : ((intV c).length : Int) = (c.length : Int) := by rw [ints_len]
      have hg : 0 < Nat.gcd m c.length := Nat.gcd_pos_of_pos_right _ hc0
      have hgl : Nat.gcd m c.length ≤ c.length := Nat.gcd_le_right _ hc0
      refine ⟨_, rfl, _, rfl, _, rfl, rp, _, rfl, .inl (SqL.of hrp), m, c.length, congrArg (fun z => [V.int (m : Int), V.int z]) hlen, _, _, rfl, rfl, ⟨by show (0 : Int) < _; omega, by omega⟩, _, rfl, rp, _, rfl, .inl (SqL.of hrp), _, _, rfl, rfl, .inr ⟨by rw [hlen]; omega, by rw [hlen]; omega⟩, some (.ref rp), ?_, rfl⟩
      refine congrArg (fun z => [some (V.ref a), some (V.int z), some (V.ref rp)]) ?_
      rw [hlen, ← Int.natCast_ediv, ← Int.natCast_mul, M21.lcm_by]
    · rintro σ H2 ⟨v2, rfl, rfl⟩
      rw [List.length_map, List.take_of_length_le (by omega)]
      exact ⟨_, rfl, k H2 s1⟩
theorem natI_sum (szs : List Nat) : (natI szs).sum = ((szs.sum : Nat) : Int) := by
  induction szs with
  | nil => rfl
  | cons s szs ih =>
    show (s : Int) + (natI szs).sum = _
    rw [ih, List.sum_cons, Int.natCast_add]
theorem sum_snoc (szs : List Nat) (s : Nat) : (szs ++ [s]).sum = szs.sum + s := by rw [List.sum_append]; simp
theorem sum_zero {szs : List Nat} (h : ∀ s ∈ szs, 1 ≤ s) (h0 : szs.sum = 0) : szs = [] := by
  cases szs with
  | nil => rfl
  | cons s szs =>
    have := h s (List.mem_cons_self ..)
    rw [List.sum_cons] at h0
    omega
theorem ok__law_sizes (T : Txt K mg A) : FnOk P w K mg base CX0 2 A.f__law_sizes A.d__law_sizes ["_law_script"] (spSizes K) := by
  have G__law_mix : FnOk P w K mg base CX0 1 A.f__law_mix A.d__law_mix ["_law_number", "_law_place"] spMix := ok__law_mix T
  refine T._law_sizes.F.ok sc__law_sizes (fun vs H Q E h => ?_) (fun cdv AA outer s H vs Q E hr h => ?_)
  · obtain ⟨a, ns, rfl, _⟩ := h
    rfl
  · obtain ⟨a, ns, rfl, hS, hlen, k⟩ := h
    refine ⟨_, (pss_cons (ps_set (i := 1) sc__law_sizes.nd rfl (Or.inl rfl) (pe_lst pa_nil))
      (pss_cons (ps_set (i := 2) sc__law_sizes.nd rfl (Or.inl rfl) pe_int)
      (pss_cons (ps_for PassesOwn.never rfl (pi_list (pe_slice sl_list (pv 0) (po_some pe_int) po_none)) (pg_name (i := 3) sc__law_sizes.nd rfl (Or.inl rfl))
        (pss_cons (ps_set (i := 4) sc__law_sizes.nd rfl (Or.inl rfl) (pe_call (G__law_mix) (hr.mono (by decide)) rfl T._law_mix.m T._law_mix.F.kp T._law_mix.b .nil pass0 (pa_cons (pv 3) (pa_cons pe_int pa_nil))))
        (pss_cons (ps_set (i := 5) sc__law_sizes.nd rfl (Or.inl rfl) (pe_op op_add pe_int (pe_op op_mod (pe_op op_fdiv (pv 4) pe_int) pe_int)))
        (pss_cons (ps_cut (ps_if (pt_cmpR op_eq (pe_op op_mod (pv 4) pe_int) pe_int (nomark _))
          (pss_one (ps_set (i := 5) sc__law_sizes.nd rfl (Or.inl rfl) (pe_op op_add pe_int (pe_op op_mod (pe_op op_fdiv (pv 4) pe_int) pe_int))))
          pss_nil))
        (pss_one (ps_cut (ps_if (pt_cmpR op_le (pe_op op_add (pv 2) (pv 5)) pe_int (nomark _))
          (pss_cons (ps_expr (pe_bm PySem.F.plainAttrs_list PySem.F.slot_list_append PySem.F.type_list_append mt_append (pv 1) (pa_cons (pv 5) pa_nil)))
          (pss_one (ps_set (i := 2) sc__law_sizes.nd rfl (Or.inl rfl) (pe_op op_add (pv 2) (pv 5)))))
          pss_nil)))))))
      (pss_cons (ps_cut (ps_if (pt_cmpR op_eq (pv 2) pe_int (nomark _))
        (pss_one (ps_expr (pe_bm PySem.F.plainAttrs_list PySem.F.slot_list_append PySem.F.type_list_append mt_append (pv 1) (pa_cons pe_int pa_nil))))
        pss_nil))
      (pss_one (ps_ret (pv 1))))))), ?_⟩
    refine ⟨Nat.zero_le _, fun lf hlf => ?_⟩
    have s0 : Same H (upd H lf (.lst [])) := Same.upd hlf
    have h0 : upd H lf (.lst []) lf = some (.lst (intV (natI []))) := upd_same
    generalize upd H lf (.lst []) = H0 at s0 h0 ⊢
    refine ⟨_, rfl, 1, rfl, a, intV ns, rfl, s0.seq hS, fun lp hlp => ?_⟩
    rw [cut_ints]
    generalize hcs : (ns.drop (HT.sIx ns.length 0 (some 1))).take (HT.sIx ns.length ns.length none - HT.sIx ns.length 0 (some 1)) = cs
    have hcl : cs.length ≤ 63 := by
      rw [← hcs, List.length_take, List.length_drop]
      omega
    have s1 : Same H0 (upd H0 lp (.lst (intV cs))) := Same.upd hlp
    have hp1 : upd H0 lp (.lst (intV cs)) lp = some (.lst (intV cs)) := upd_same
    have npf : lp ≠ lf := fun e => by rw [e, h0] at hlp; cases hlp
    generalize upd H0 lp (.lst (intV cs)) = H1 at s1 hp1 ⊢
    refine ⟨lp, rfl, ⟨_, SqL.of hp1⟩, ?_⟩
    refine for_list (K := K) (a := lp) (xs := intV cs) (fun i σ H5 => ∃ (szs : List Nat) (v3 v4 v5 : Option V), σ = [some (.ref a), some (.ref lf), some (.int ((szs.sum : Nat) : Int)), v3, v4, v5] ∧ Same H H5 ∧ H5 lp = some (.lst (intV cs)) ∧ H5 lf = some (.lst (intV (natI szs))) ∧ (∀ s ∈ szs, 1 ≤ s) ∧ szs.sum ≤ 1000 ∧ szs.length ≤ i)
      ⟨[], none, none, none, rfl, s0.trans s1, hp1, s1 _ _ h0, fun s hs => by simp at hs, by show 0 ≤ 1000; omega, Nat.le_refl _⟩ (fun i σ H5 _ ⟨_, _, _, _, _, _, e, _⟩ => SqL.of e) ?_ ?_
    · rintro i y σ H5 hi ⟨szs, v3, v4, v5, rfl, s5, hp5, hf5, hpos, hsum, hszl⟩
      obtain ⟨c, rfl, hc⟩ := ints_of_at hi
      have hil : i < cs.length := (List.getElem?_eq_some_iff.mp hc).1
      refine ⟨_, rfl, c, 1, rfl, by decide, by decide, fun r hr => ?_⟩
      have sz : ∀ m : Nat, 0 < m → m ≤ 100 → ∃ s : Nat, 1 + r / 8 % (m : Int) = (s : Int) ∧ 1 ≤ s ∧ s ≤ 100 := fun m hm hm2 => by
        have e1 := Int.emod_nonneg (r / 8) (show (m : Int) ≠ 0 by omega)
        have e2 := Int.emod_lt_of_pos (r / 8) (show (0 : Int) < (m : Int) by omega)
        exact ⟨(1 + r / 8 % (m : Int)).toNat, by omega, by omega, by omega⟩
      obtain ⟨s9, hs9, hs91, hs92⟩ := sz 9 (by omega) (by omega)
      obtain ⟨s100, hs100, hs101, hs102⟩ := sz 100 (by omega) (by omega)
      have hs9' : 1 + r / 8 % 9 = (s9 : Int) := hs9
      have hs100' : 1 + r / 8 % 100 = (s100 : Int) := hs100
      refine ⟨_, rfl, _, _, rfl, rfl, ⟨by decide, by decide⟩, _, _, rfl, rfl, (by show (0 : Int) < 9; decide), _, _, rfl, rfl, ?_⟩
      simp only [hs9']
      refine ⟨fun σ' H' => ∃ s : Nat, σ' = [some (.ref a), some (.ref lf), some (.int ((szs.sum : Nat) : Int)), some (.int c), some (.int r), some (.int s)] ∧ H' = H5 ∧ 1 ≤ s ∧ s ≤ 100, ?_, ?_⟩
      · refine ⟨_, rfl, _, _, rfl, rfl, (by show (0 : Int) < 8; decide), rfl, _, rfl, ite2 (fun _ => ?_) (fun _ => ⟨s9, rfl, rfl, hs91, hs92⟩)⟩
        refine ⟨_, rfl, _, _, rfl, rfl, ⟨by decide, by decide⟩, _, _, rfl, rfl, (by show (0 : Int) < 100; decide), _, _, rfl, rfl, s100, ?_, rfl, hs101, hs102⟩
        rw [← hs100']
        rfl
      rintro σ' H' ⟨s, rfl, rfl, hs1, hs2⟩
      refine ⟨_, ?_, fun _ _ h => h⟩
      refine ⟨_, rfl, _, rfl, _, _, rfl, rfl, _, _, rfl, rfl, _, rfl, ite2 (fun h => ?_) (fun h => ⟨szs, _, _, _, rfl, s5, hp5, hf5, hpos, hsum, by omega⟩)⟩
      have h' : ((szs.sum : Nat) : Int) + (s : Int) ≤ 1000 := of_decide_eq_true h
      refine ⟨_, rfl, .inl ⟨rfl, _, SqL.of hf5⟩, _, rfl, lf, _, _, rfl, rfl, hf5, ?_, ?_⟩
      · rw [ints_len, natI_len]
        exact Nat.lt_of_le_of_lt (show szs.length ≤ 63 by omega) (by decide)
      refine ⟨_, rfl, _, rfl, _, _, rfl, rfl, szs ++ [s], some (.int c), some (.int r), some (.int s), ?_, fun b o e => by rw [upd_ne (ne_of_none e hlf)]; exact s5 _ _ e, by rw [upd_ne npf]; exact hp5, by rw [upd_same, natI_app, ints_app]; rfl, fun x hx => ?_, by rw [sum_snoc]; omega, by rw [List.length_append]; simp only [List.length_cons, List.length_nil]; omega⟩
      · rw [sum_snoc, Int.natCast_add]
        rfl
      · rcases List.mem_append.mp hx with hx | hx
        · exact hpos x hx
        · rw [List.mem_singleton.mp hx]
          exact hs1
    rintro σ H5 ⟨szs, v3, v4, v5, rfl, s5, hp5, hf5, hpos, hsum, hszl⟩
    rw [ints_len] at hszl
    refine ⟨fun σ' H' => ∃ (szs : List Nat) (tt : Int), σ' = [some (.ref a), some (.ref lf), some (.int tt), v3, v4, v5] ∧ Same H H' ∧ H' lf = some (.lst (intV (natI szs))) ∧ (∀ s ∈ szs, 1 ≤ s) ∧ szs.sum ≤ 1000 ∧ 1 ≤ szs.length ∧ szs.length ≤ 63, ?_, ?_⟩
    · refine ⟨_, rfl, rfl, _, rfl, ite2 (fun h => ?_) (fun h => ?_)⟩
      · have h' := of_decide_eq_true h
        injection h' with h'
        have e0 : szs = [] := sum_zero hpos (by omega)
        subst e0
        refine ⟨_, rfl, .inl ⟨rfl, _, SqL.of hf5⟩, lf, _, _, rfl, rfl, hf5, (by show 0 < sizeLine; decide), ?_⟩
        exact ⟨[1], _, rfl, fun b o e => by rw [upd_ne (ne_of_none e hlf)]; exact s5 _ _ e, upd_same, fun s hs => by rw [List.mem_singleton.mp hs]; exact Nat.le_refl _, by show 1 ≤ 1000; omega, Nat.le_refl _, by show 1 ≤ 63; omega⟩
      · have hne : szs.length ≠ 0 := fun z => h (decide_eq_true (by rw [List.eq_nil_of_length_eq_zero z]; rfl))
        exact ⟨szs, _, rfl, s5, hf5, hpos, hsum, by omega, by omega⟩
    rintro σ' H6 ⟨szs, tt, rfl, s6, hf6, hpos, hsum, hl1, hl2⟩
    exact ⟨_, rfl, k lf szs H6 s6 hf6 hpos hsum hl1 hl2⟩
theorem ok__law_rooms (T : Txt K mg A) : FnOk P w K mg base CX0 2 A.f__law_rooms A.d__law_rooms ["_law_number", "_law_many_here"] spRooms := by
  have G__law_mix : FnOk P w K mg base CX0 1 A.f__law_mix A.d__law_mix ["_law_number", "_law_place"] spMix := ok__law_mix T
  refine T._law_rooms.F.ok sc__law_rooms (fun vs H Q E h => ?_) (fun cdv AA outer s H vs Q E hr h => ?_)
  · obtain ⟨z, n, rfl, _⟩ := h
    rfl
  · obtain ⟨z, n, rfl, hn1, hn2, k⟩ := h
    refine ⟨_, (pss_cons (ps_set (i := 2) sc__law_rooms.nd rfl (Or.inl rfl) (pe_listRange1 rfl rfl T.z_list rfl T.z_range (pa_cons (pv 1) pa_nil)))
      (pss_cons (ps_if (pt_cmpR op_eq (pe_op op_mod (pv 0) pe_int) pe_int (nomark _))
        (pss_one (ps_ret (pv 2)))
        pss_nil)
      (pss_cons (ps_for PassesOwn.never rfl (pi_range1 rfl T.z_range (pa_cons (pv 1) pa_nil)) (pg_name (i := 3) sc__law_rooms.nd rfl (Or.inl rfl))
        (pss_cons (ps_set (i := 4) sc__law_rooms.nd rfl (Or.inl rfl) (pe_op op_mod (pe_call (G__law_mix) (hr.mono (by decide)) rfl T._law_mix.m T._law_mix.F.kp T._law_mix.b .nil pass0 (pa_cons (pv 0) (pa_cons (pv 3) pa_nil))) (pv 1)))
        (pss_cons (ps_set (i := 5) sc__law_rooms.nd rfl (Or.inl rfl) (pe_ix ix_list (pv 2) (pv 3) (fun _ _ => rfl)))
        (pss_cons (ps_asg (pe_ix ix_list (pv 2) (pv 4) (fun _ _ => rfl)) (pg_sub (pv 2) (pv 3) set_list))
        (pss_one (ps_asg (pv 5) (pg_sub (pv 2) (pv 4) set_list)))))))
      (pss_one (ps_ret (pv 2)))))), ?_⟩
    refine ⟨_, rfl, n, rfl, by omega, fun lr hlr => ?_⟩
    have s0 : Same H (upd H lr (.lst (intV (rng 0 n)))) := Same.upd hlr
    have h0 : upd H lr (.lst (intV (rng 0 n))) lr = some (.lst (intV (rng 0 n))) := upd_same
    generalize upd H lr (.lst (intV (rng 0 n))) = H0 at s0 h0 ⊢
    refine ⟨_, rfl, _, _, rfl, rfl, (by show (0 : Int) < 4; decide), rfl, _, rfl, ite2 (fun _ => ⟨_, rfl, k lr _ H0 s0 h0 pm_rng⟩) (fun _ => ?_)⟩
    refine ⟨_, rfl, (n : Int), rfl, by omega, by omega, ?_⟩
    refine for_range (lo := 0) (n := ((n : Int)).toNat) (fun j σ H4 => ∃ (row : List Int) (v3 v4 v5 : Option V), σ = [some (.int z), some (.int n), some (.ref lr), v3, v4, v5] ∧ Same H H4 ∧ H4 lr = some (.lst (intV row)) ∧ M11.Pm n row) ⟨rng 0 n, none, none, none, rfl, s0, h0, pm_rng⟩ ?_ ?_
    · rintro j σ H4 hj ⟨row, v3, v4, v5, rfl, s4, h4, hP⟩
      have hjp : j < n := by omega
      refine ⟨_, rfl, _, rfl, z, _, rfl, by omega, by omega, fun r hr => ?_⟩
      obtain ⟨o2, ho2, ho2l⟩ := emod_nat r (n := n) (by omega)
      obtain ⟨x1, hx1, _⟩ := hP.at hjp
      obtain ⟨x2, hx2, _⟩ := hP.at ho2l
      have ej : (0 : Int) + (j : Int) = (j : Int) := by omega
      refine ⟨_, rfl, _, _, rfl, rfl, (by show (0 : Int) < (n : Int); omega), ?_⟩
      simp only [ho2, ej]
      refine ⟨_, rfl, _, rfl, lr, _, _, _, rfl, rfl, SqL.of h4, atI_nat (ints_at hx1), ?_⟩
      refine ⟨_, rfl, _, rfl, lr, _, _, _, rfl, rfl, SqL.of h4, atI_nat (ints_at hx2), _, rfl, _, rfl, lr, _, _, j, rfl, rfl, h4, ixN_nat (by rw [ints_len, hP.len]; exact hjp), ?_⟩
      rw [ints_set]
      have h6 : upd H4 lr (.lst (intV (row.set j (x2 : Int)))) lr = some (.lst (intV (row.set j (x2 : Int)))) := upd_same
      refine ⟨_, rfl, _, rfl, _, rfl, lr, _, _, o2, rfl, rfl, h6, ixN_nat (by rw [ints_len, List.length_set, hP.len]; exact ho2l), ?_⟩
      rw [ints_set]
      refine ⟨_, _, _, _, rfl, fun b o e => ?_, upd_same, hP.swap hx1 hx2⟩
      have hb : b ≠ lr := ne_of_none e hlr
      rw [upd_ne hb, upd_ne hb]
      exact s4 _ _ e
    · rintro σ H4 ⟨row, v3, v4, v5, rfl, s4, h4, hP⟩
      exact ⟨_, rfl, k lr row H4 s4 h4 hP⟩
theorem ok__law_many (T : Txt K mg A) : FnOk P w K mg base CX0 1 A.f__law_many A.d__law_many ["_law_sizes_here"] spManyL := by
  refine T._law_many.F.ok sc__law_many (fun vs H Q E h => ?_) (fun cdv AA outer s H vs Q E hr h => ?_)
  · obtain ⟨b, szs, rfl, _⟩ := h
    rfl
  · obtain ⟨b, szs, rfl, hb, hpos, k⟩ := h
    refine ⟨_, (pss_cons (ps_set (i := 1) sc__law_many.nd rfl (Or.inl rfl) pe_int)
      (pss_cons (ps_for PassesOwn.never rfl (pi_list (pv 0)) (pg_name (i := 2) sc__law_many.nd rfl (Or.inl rfl))
        (pss_cons (ps_set (i := 3) sc__law_many.nd rfl (Or.inl rfl) (pv 1))
        (pss_cons (ps_cut (ps_while PassesOwn.never (pt_cmpR op_ne (pe_op op_mod (pv 3) (pv 2)) pe_int (nomark _))
          (pss_one (ps_set (i := 3) sc__law_many.nd rfl (Or.inl rfl) (pe_op op_add (pv 3) (pv 1))))))
        (pss_one (ps_set (i := 1) sc__law_many.nd rfl (Or.inl rfl) (pv 3))))))
      (pss_one (ps_ret (pv 1))))), ?_⟩
    refine ⟨_, rfl, b, rfl, ⟨_, SqL.of hb⟩, ?_⟩
    refine for_list (K := K) (a := b) (xs := intV (natI szs)) (fun i σ H2 => ∃ v2 v3 : Option V, σ = [some (.ref b), some (.int ((M21.lcms (szs.take i) : Nat) : Int)), v2, v3] ∧ H2 = H) ⟨none, none, rfl, rfl⟩ (fun i σ H2 _ ⟨_, _, _, e⟩ => by rw [e]; exact SqL.of hb) ?_ ?_
    · rintro i y σ H2 hi ⟨v2, v3, rfl, rfl⟩
      obtain ⟨z, rfl, hz⟩ := ints_of_at hi
      obtain ⟨s, hs, rfl⟩ := natI_at hz
      have hs1 := hpos s (List.mem_of_getElem? hs)
      have eT : szs.take (i + 1) = szs.take i ++ [s] := by rw [List.take_succ, hs]; rfl
      have hm : 0 < M21.lcms (szs.take i) := M21.lcms_pos _ 1 (by omega) fun x hx => hpos x (List.mem_of_mem_take hx)
      rw [eT, M21.lcms_snoc]
      generalize M21.lcms (szs.take i) = m at hm
      refine ⟨_, rfl, ?_⟩
      refine ⟨fun σ' H' => σ' = [some (.ref b), some (.int (m : Int)), some (.int (s : Int)), some (.int ((Nat.lcm m s : Nat) : Int))] ∧ H' = H2, ?_, ?_⟩
      · refine ⟨fun ms σ H' => ∃ j : Nat, s + 1 - j = ms ∧ 1 ≤ j ∧ σ = [some (.ref b), some (.int (m : Int)), some (.int (s : Int)), some (.int ((m * j : Nat) : Int))] ∧ H' = H2 ∧ ∀ i, 1 ≤ i → i < j → m * i % s ≠ 0, ⟨_, 1, rfl, Nat.le_refl _, by rw [Nat.mul_one]; rfl, rfl, fun i h1 h2 => by omega⟩, ?_⟩
        rintro ms σ H' ⟨j, rfl, hj1, rfl, rfl, hno⟩
        by_cases e : m * j % s = 0
        · refine ⟨_, rfl, _, rfl, _, _, rfl, rfl, (by show (0 : Int) < (s : Int); omega), rfl, _, rfl, iteNS (show V.int (((m * j : Nat) : Int) % (s : Int)) = V.int 0 by rw [← Int.natCast_emod, e]; rfl) ?_⟩
          rw [M21.lcm_add hm (by omega) hj1 hno e]
          exact ⟨rfl, rfl⟩
        · have hne : ¬ (V.int (((m * j : Nat) : Int) % (s : Int)) = V.int 0) := fun q => by
            injection q with q
            rw [← Int.natCast_emod] at q
            exact e (Int.natCast_inj.mp q)
          have hno2 : ∀ i, 1 ≤ i → i < j + 1 → m * i % s ≠ 0 := fun i h1 h2 => by
            by_cases e2 : i = j
            · rw [e2]; exact e
            · exact hno i h1 (by omega)
          have hjs := M21.lcm_ends (by omega) hno2
          refine ⟨_, rfl, _, rfl, _, _, rfl, rfl, (by show (0 : Int) < (s : Int); omega), rfl, _, rfl, ite2 (fun _ => ?_) (fun h => absurd (show (!decide (V.int (((m * j : Nat) : Int) % (s : Int)) = V.int 0)) = true by rw [decide_eq_false hne]; rfl) h)⟩
          refine ⟨fun σ' H2 => ∃ j' : Nat, j' = j + 1 ∧ σ' = [some (.ref b), some (.int (m : Int)), some (.int (s : Int)), some (.int ((m * j' : Nat) : Int))] ∧ H2 = H', fun σ' H2 ⟨j', e1, e2, e3⟩ => ⟨s + 1 - j', by omega, j', rfl, by omega, e2, e3, by rw [e1]; exact hno2⟩, ?_⟩
          refine ⟨_, rfl, _, rfl, _, _, rfl, rfl, j + 1, rfl, ?_, rfl⟩
          rw [Nat.mul_succ, Int.natCast_add]
          rfl
      rintro σ' H' ⟨rfl, rfl⟩
      exact ⟨_, rfl, _, _, rfl, rfl⟩
    · rintro σ H2 ⟨v2, v3, rfl, rfl⟩
      rw [ints_len, natI_len, List.take_length]
      exact ⟨_, rfl, k⟩
theorem ok__law_same (T : Txt K mg A) : FnOk P w K mg base CX0 2 A.f__law_same A.d__law_same ["_law_found", "_law_due"] spSame := by
  have G__law_whole : FnOk P w K mg base CX0 1 A.f__law_whole A.d__law_whole ["_law_found"] spWhole := ok__law_whole T
  refine T._law_same.F.ok sc__law_same (fun vs H Q E h => ?_) (fun cdv AA outer s H vs Q E hr h => ?_)
  · obtain ⟨a, b, X, rfl, _⟩ := h
    rfl
  · obtain ⟨a, b, X, rfl, hA, hB, k⟩ := h
    have hu := Nat.lt_of_succ_lt (hu_of hr)
    refine ⟨_, (pss_cons (ps_cut (ps_if (PW.pt (pw_or (pt_not (pt_val (pe_callB call_isi rfl T.z_isinstance PyProof.Rows.boot_isinstance (pa_cons (pv 0) (pa_cons (pe_bltn (v := .ty "list") rfl T.z_list PyProof.Rows.boot_list rfl) pa_nil))))) (pw_or1 (pt_cmpR op_ne (pe_callB call_len_seq rfl T.z_len PySem.boot_len (pa_cons (pv 0) pa_nil)) (pe_callB call_len_seq rfl T.z_len PySem.boot_len (pa_cons (pv 1) pa_nil)) (nomark _)))))
        (pss_one (ps_ret pe_bl))
        pss_nil))
      (pss_cons (ps_for PassesOwn.never rfl (pi_zip rfl T.z_zip (pa_cons (pv 0) (pa_cons (pv 1) pa_nil))) (pg_tup rfl (pgs_cons (pg_name (i := 2) sc__law_same.nd rfl (Or.inl rfl)) (pgs_cons (pg_name (i := 3) sc__law_same.nd rfl (Or.inl rfl)) pgs_nil)))
        (pss_cons (ps_cut (ps_if (PW.pt (pw_or (pt_not (pt_val (pe_callB call_isi rfl T.z_isinstance PyProof.Rows.boot_isinstance (pa_cons (pv 2) (pa_cons (pe_bltn (v := .ty "list") rfl T.z_list PyProof.Rows.boot_list rfl) pa_nil))))) (pw_or1 (pt_cmpR (op_neLI hu) (pv 2) (pv 3) (nomark _)))))
          (pss_one (ps_ret pe_bl))
          pss_nil))
        (pss_one (ps_for PassesOwn.never rfl (pi_list (pv 2)) (pg_name (i := 4) sc__law_same.nd rfl (Or.inl rfl))
          (pss_one (ps_if (pt_not (pt_val (pe_call (G__law_whole) (hr.mono (by decide)) rfl T._law_whole.m T._law_whole.F.kp T._law_whole.b .nil pass0 (pa_cons (pv 4) pa_nil))))
            (pss_one (ps_ret pe_bl))
            pss_nil))))))
      (pss_one (ps_ret pe_bl)))), ?_⟩
    obtain ⟨as, ha, hra⟩ := id hA
    obtain ⟨bs, hb, hrb⟩ := id hB
    have hal : as.length = X.length := hra.1
    have hbl : bs.length = X.length := hrb.1
    refine ⟨fun σ' H' => σ' = [some (.ref a), some (.ref b), none, none, none] ∧ H' = H, ?_, ?_⟩
    · refine ⟨_, rfl, _, _, _, _, rfl, .lst ha, kit_self _ _, true, rfl, iteF ?_⟩
      refine ⟨_, rfl, a, _, rfl, .inl (SqL.of ha), _, rfl, b, _, rfl, .inl (SqL.of hb), rfl, _, rfl, ?_⟩
      exact iteNS (by rw [List.length_map, List.length_map, hal, hbl]) ⟨rfl, rfl⟩
    rintro σ' H' ⟨rfl, rfl⟩
    refine ⟨_, rfl, _, rfl, a, b, rfl, ⟨_, SqL.of ha⟩, ⟨_, SqL.of hb⟩, ?_⟩
    refine for_zip (K := K) (a := a) (b := b) (xs := as.map V.ref) (ys := bs.map V.ref) (fun n σ H2 => ∃ (v2 v3 v4 : Option V), σ = [some (.ref a), some (.ref b), v2, v3, v4] ∧ Same H' H2) (by rw [List.length_map, List.length_map, hal, hbl]) ⟨none, none, none, rfl, fun _ _ e => e⟩ (fun n σ H2 _ ⟨_, _, _, _, s⟩ => ⟨SqL.of (s _ _ ha), SqL.of (s _ _ hb)⟩) ?_ ?_
    · rintro n v u σ H2 q hv hu hq ⟨v2, v3, v4, rfl, s2⟩
      rw [List.getElem?_map] at hv hu
      have hna : n < as.length := by
        cases e : as[n]? with
        | none => rw [e] at hv; cases hv
        | some r => exact (List.getElem?_eq_some_iff.mp e).1
      have g1 : as[n]? = some as[n] := List.getElem?_eq_getElem hna
      have g2 : bs[n]? = some (bs[n]'(by omega)) := List.getElem?_eq_getElem (by omega)
      have g3 : X[n]? = some (X[n]'(by omega)) := List.getElem?_eq_getElem (by omega)
      rw [g1] at hv
      rw [g2] at hu
      have ev : V.ref as[n] = v := Option.some.inj hv
      have eu : V.ref (bs[n]'(by omega)) = u := Option.some.inj hu
      subst ev eu
      generalize as[n] = r1 at g1
      generalize bs[n]'(by omega) = r2 at g2
      generalize X[n]'(by omega) = x at g3
      have h1 := s2 _ _ (hra.2 n _ _ g1 g3)
      have h2 := s2 _ _ (hrb.2 n _ _ g2 g3)
      have s23 := Same.upd (o := .tup [.ref r1, .ref r2]) hq
      refine ⟨q, _, rfl, SqT.of upd_same, rfl, _, _, rfl, _, _, rfl, rfl, ?_⟩
      generalize upd H2 q (.tup [.ref r1, .ref r2]) = H3 at s23 ⊢
      refine ⟨fun σ' H' => σ' = [some (.ref a), some (.ref b), some (.ref r1), some (.ref r2), v4] ∧ H' = H3, ?_, ?_⟩
      · refine ⟨_, rfl, _, _, _, _, rfl, .lst (s23 _ _ h1), kit_self _ _, true, rfl, iteF ?_⟩
        refine ⟨_, rfl, _, rfl, r1, r2, x, x, rfl, rfl, s23 _ _ h1, s23 _ _ h2, _, rfl, ?_⟩
        exact iteNS rfl ⟨rfl, rfl⟩
      rintro σ' H4 ⟨rfl, rfl⟩
      refine ⟨_, rfl, r1, rfl, ⟨_, SqL.of (s23 _ _ h1)⟩, ?_⟩
      refine for_list (K := K) (a := r1) (xs := intV x) (fun i σ H5 => ∃ v4 : Option V, σ = [some (.ref a), some (.ref b), some (.ref r1), some (.ref r2), v4] ∧ H5 = H4) ⟨_, rfl, rfl⟩ (fun i σ H5 _ ⟨_, _, e⟩ => by rw [e]; exact SqL.of (s23 _ _ h1)) ?_ ?_
      · rintro i y σ H5 hi ⟨v, rfl, rfl⟩
        obtain ⟨z, rfl, _⟩ := ints_of_at hi
        exact ⟨_, rfl, z, rfl, true, rfl, iteF ⟨_, rfl, rfl⟩⟩
      · rintro σ H5 ⟨v, rfl, rfl⟩
        exact ⟨_, _, _, rfl, s2.trans s23⟩
    · rintro σ H2 ⟨v2, v3, v4, rfl, s2⟩
      exact k H2 s2
theorem sum_take_le (szs : List Nat) (i : Nat) : (szs.take i).sum ≤ szs.sum := by
  have := congrArg List.sum (List.take_append_drop i szs)
  rw [List.sum_append] at this
  omega
theorem perm_of : ∀ {A B : List Nat}, A.Nodup → (∀ x ∈ A, x ∈ B) → A.length = B.length → A.Perm B
  | [], B, _, _, hl => by rw [List.eq_nil_of_length_eq_zero hl.symm]
  | a :: A, B, hn, h, hl => by
    have ha := h a (List.mem_cons_self ..)
    have hn' := List.nodup_cons.mp hn
    refine List.Perm.trans (List.Perm.cons a (perm_of (B := B.erase a) hn'.2 (fun x hx => ?_) ?_)) (List.perm_cons_erase ha).symm
    · exact (List.mem_erase_of_ne (fun e => hn'.1 (by rw [← e]; exact hx))).mpr (h x (List.mem_cons_of_mem _ hx))
    · rw [List.length_erase_of_mem ha]
      simp only [List.length_cons] at hl
      omega
theorem cut_mid {rooms : List Int} {p s : Nat} (h : p + s ≤ rooms.length) : cutV (intV rooms) (some (p : Int)) (some ((p : Int) + (s : Int))) = intV ((rooms.drop p).take s) := by
  rw [cut_ints, ← Int.natCast_add, HT.sIx_nat, HT.sIx_nat, Nat.min_eq_left (by omega), Nat.min_eq_left (by omega), Nat.add_sub_cancel_left]
theorem cut_to {r : List Int} {p : Nat} (h : p ≤ r.length) : cutV (intV r) none (some (p : Int)) = intV (r.take p) := by
  rw [cut_ints, HT.sIx_nat, Nat.min_eq_left h]
  rfl
theorem cut_on {r : List Int} {p : Nat} (h : p ≤ r.length) : cutV (intV r) (some (p : Int)) none = intV (r.drop p) := by
  rw [cut_ints, HT.sIx_nat, Nat.min_eq_left h]
  show intV ((r.drop p).take (r.length - p)) = _
  rw [List.take_of_length_le (by rw [List.length_drop]; exact Nat.le_refl _)]
theorem ok__law_cut (T : Txt K mg A) : FnOk P w K mg base CX0 1 A.f__law_cut A.d__law_cut ["_law_rooms_here", "_law_sizes_here"] spCut := by
  refine T._law_cut.F.ok sc__law_cut (fun vs H Q E h => ?_) (fun cdv AA outer s H vs Q E hr h => ?_)
  · obtain ⟨a, b, rooms, szs, n, rfl, _⟩ := h
    rfl
  · obtain ⟨a, b, rooms, szs, n, rfl, ha, hb, hP, hsum, hn, hpos, hl1, hl2, k⟩ := h
    have hu3 := Nat.lt_of_le_of_lt (Nat.add_le_add_left (by decide : 2 ≤ 64) _) hr.units
    refine ⟨_, (pss_cons (ps_set (i := 2) sc__law_cut.nd rfl (Or.inl rfl) (pe_lst pa_nil))
      (pss_cons (ps_set (i := 3) sc__law_cut.nd rfl (Or.inl rfl) pe_int)
      (pss_cons (ps_for PassesOwn.never rfl (pi_list (pv 1)) (pg_name (i := 4) sc__law_cut.nd rfl (Or.inl rfl))
        (pss_cons (ps_set (i := 5) sc__law_cut.nd rfl (Or.inl rfl) (pe_slice sl_list (pv 0) (po_some (pv 3)) (po_some (pe_op op_add (pv 3) (pv 4)))))
        (pss_cons (ps_set (i := 6) sc__law_cut.nd rfl (Or.inl rfl) (pe_bm PySem.F.plainAttrs_list PySem.F.slot_list_index PySem.F.type_list_index mt_list_index (pv 5) (pa_cons (pe_callB (call_minL rfl) rfl T.z_min PyProof.Rows.boot_min (pa_cons (pv 5) pa_nil)) pa_nil)))
        (pss_cons (ps_expr (pe_bm PySem.F.plainAttrs_list PySem.F.slot_list_append PySem.F.type_list_append mt_append (pv 2) (pa_cons (pe_op op_cat (pe_slice sl_list (pv 5) (po_some (pv 6)) po_none) (pe_slice sl_list (pv 5) po_none (po_some (pv 6)))) pa_nil)))
        (pss_one (ps_set (i := 3) sc__law_cut.nd rfl (Or.inl rfl) (pe_op op_add (pv 3) (pv 4))))))))
      (pss_one (ps_ret (pe_callB (call_sortedL hu3) rfl T.z_sorted PyProof.Rows.boot_sorted (pa_cons (pv 2) pa_nil))))))), ?_⟩
    refine ⟨Nat.zero_le _, fun lf hlf => ?_⟩
    have s0 : Same H (upd H lf (.lst [])) := Same.upd hlf
    have h0 : upd H lf (.lst []) lf = some (.lst (([] : List Addr).map V.ref)) := upd_same
    generalize upd H lf (.lst []) = H0 at s0 h0 ⊢
    refine ⟨_, rfl, b, rfl, ⟨_, SqL.of (s0 _ _ hb)⟩, ?_⟩
    refine for_list (K := K) (a := b) (xs := intV (natI szs)) (fun i σ H2 => ∃ (F : List (List Int)) (fps : List Addr) (v4 v5 v6 : Option V), σ = [some (.ref a), some (.ref b), some (.ref lf), some (.int (((szs.take i).sum : Nat) : Int)), v4, v5, v6] ∧ Same H H2 ∧ H2 lf = some (.lst (fps.map V.ref)) ∧ RowsAt H2 fps F ∧ lf ∉ fps ∧ M21.Parts rooms F (szs.take i).sum (szs.take i))
      ⟨[], [], none, none, none, rfl, s0, h0, ⟨rfl, fun i r ns g1 => by simp at g1⟩, by simp, ⟨by simp, fun c hc => by simp at hc, fun c hc => by simp at hc, rfl⟩⟩ (fun i σ H2 _ ⟨_, _, _, _, _, _, s, _⟩ => SqL.of (s _ _ hb)) ?_ ?_
    · rintro i y σ H2 hi ⟨F, fps, v4, v5, v6, rfl, s2, h2, R2, nf2, hF⟩
      obtain ⟨z, rfl, hz⟩ := ints_of_at hi
      obtain ⟨s, hs, rfl⟩ := natI_at hz
      have hs1 := hpos s (List.mem_of_getElem? hs)
      have hil : i < szs.length := (List.getElem?_eq_some_iff.mp hs).1
      have eT : szs.take (i + 1) = szs.take i ++ [s] := by rw [List.take_succ, hs]; rfl
      have hle := sum_take_le szs (i + 1)
      rw [eT, sum_snoc] at hle
      have hfl : fps.length ≤ 63 := by
        have e1 := R2.1
        have e2 := congrArg List.length hF.ln
        rw [List.length_map, List.length_take] at e2
        omega
      rw [eT, sum_snoc]
      generalize (szs.take i).sum = p at hF hle
      generalize szs.take i = sp at hF
      have hpl : p + s ≤ rooms.length := by rw [hP.len]; omega
      refine ⟨_, rfl, _, rfl, (p : Int), rfl, _, rfl, _, rfl, _, _, rfl, rfl, (p : Int) + (s : Int), rfl, a, intV rooms, rfl, SqL.of (s2 _ _ ha), fun lq hlq => ?_⟩
      rw [cut_mid hpl]
      obtain ⟨rg, hrg⟩ : ∃ rg, rg = (rooms.drop p).take s := ⟨_, rfl⟩
      have hrl : rg.length = s := by rw [hrg, List.length_take, List.length_drop]; omega
      rw [← hrg]
      have s23 : Same H2 (upd H2 lq (.lst (intV rg))) := Same.upd hlq
      have h3 : upd H2 lq (.lst (intV rg)) lq = some (.lst (intV rg)) := upd_same
      generalize upd H2 lq (.lst (intV rg)) = H3 at s23 h3 ⊢
      refine ⟨_, rfl, .inl ⟨rfl, _, SqL.of h3⟩, _, rfl, lq, rg, rfl, SqL.of h3, (fun e => by rw [e] at hrl; simp at hrl; omega), fun z hz hzm => ⟨lq, rg, z, rfl, rfl, h3, hz, fun kk hkk _ => ?_⟩⟩
      have hkl : kk < rg.length := (List.getElem?_eq_some_iff.mp hkk).1
      have hl3 := s23 _ _ h2
      refine ⟨_, rfl, .inl ⟨rfl, _, SqL.of hl3⟩, _, rfl, _, rfl, (kk : Int), rfl, lq, intV rg, rfl, SqL.of h3, fun p1 hp1 => ?_⟩
      rw [cut_on (by omega)]
      have s34 : Same H3 (upd H3 p1 (.lst (intV (rg.drop kk)))) := Same.upd hp1
      have h4 : upd H3 p1 (.lst (intV (rg.drop kk))) p1 = some (.lst (intV (rg.drop kk))) := upd_same
      generalize upd H3 p1 (.lst (intV (rg.drop kk))) = H4 at s34 h4 ⊢
      refine ⟨_, rfl, _, rfl, (kk : Int), rfl, lq, intV rg, rfl, SqL.of (s34 _ _ h3), fun p2 hp2 => ?_⟩
      rw [cut_to (by omega)]
      have s45 : Same H4 (upd H4 p2 (.lst (intV (rg.take kk)))) := Same.upd hp2
      have h5 : upd H4 p2 (.lst (intV (rg.take kk))) p2 = some (.lst (intV (rg.take kk))) := upd_same
      generalize upd H4 p2 (.lst (intV (rg.take kk))) = H5 at s45 h5 ⊢
      refine ⟨p1, p2, _, _, rfl, rfl, s45 _ _ h4, h5, ?_, fun p3 hp3 => ?_⟩
      · rw [ints_len, ints_len, List.length_drop, List.length_take]
        exact Nat.le_trans (show rg.length - kk + min kk rg.length ≤ 1000 by omega) (by decide)
      rw [← ints_app]
      have s56 : Same H5 (upd H5 p3 (.lst (intV (rg.drop kk ++ rg.take kk)))) := Same.upd hp3
      have h6 : upd H5 p3 (.lst (intV (rg.drop kk ++ rg.take kk))) p3 = some (.lst (intV (rg.drop kk ++ rg.take kk))) := upd_same
      have s25 := (s23.trans s34).trans s45
      have np3 : p3 ≠ lf := fun e => by rw [e, s25 _ _ h2] at hp3; cases hp3
      generalize upd H5 p3 (.lst (intV (rg.drop kk ++ rg.take kk))) = H6 at s56 h6 ⊢
      have s26 := s25.trans s56
      have hl6 := s26 _ _ h2
      refine ⟨lf, _, _, rfl, rfl, hl6, ?_, ?_⟩
      · rw [List.length_map]
        exact Nat.lt_of_le_of_lt hfl (by decide)
      refine ⟨_, rfl, _, rfl, _, _, rfl, rfl, F ++ [rg.drop kk ++ rg.take kk], fps ++ [p3], some (.int (s : Int)), some (.ref lq), some (.int (kk : Int)), ?_, fun b o e => by rw [upd_ne (ne_of_none e hlf)]; exact s26 _ _ (s2 _ _ e), by rw [upd_same, List.map_append]; rfl, ?_, ?_, ?_⟩
      · rw [Int.natCast_add]
        rfl
      · refine RowsAt.but (w := lf) ((R2.same s26).snoc h6) But.upd fun q => ?_
        rcases List.mem_append.mp q with q | q
        · exact nf2 q
        · exact np3 (List.mem_singleton.mp q).symm
      · intro q
        rcases List.mem_append.mp q with q | q
        · exact nf2 q
        · exact np3 (List.mem_singleton.mp q).symm
      · rw [hrg] at hkk hzm ⊢
        exact hF.snoc hs1 hpl hkk hzm
    rintro σ H2 ⟨F, fps, v4, v5, v6, rfl, s2, h2, R2, nf2, hF⟩
    rw [ints_len, natI_len, List.take_length, hsum] at hF
    have hFl : F.length = szs.length := by have := congrArg List.length hF.ln; rw [List.length_map] at this; exact this
    have hnd : F.flatten.Nodup := by
      have e : rooms.take n = rooms := List.take_of_length_le (by rw [hP.len]; exact Nat.le_refl _)
      exact (hF.pm.nodup_iff).mpr (by rw [e]; exact hP.nd)
    have hhd : ∀ (i : Nat) (r : List Int), F[i]? = some r → r[0]? = some ((F.getD i []).getD 0 0) := fun i r hi => by
      have e : F.getD i [] = r := by rw [List.getD_eq_getElem?_getD, hi]; rfl
      rw [e]
      exact M21.head_at (hF.ne r (List.mem_of_getElem? hi))
    refine ⟨_, rfl, lf, fps, F, fun i => (F.getD i []).getD 0 0, rfl, h2, R2, by omega, by omega, hhd, fun i j hi hj e => ?_, fun D p hD hpl hpi hpn hup => ?_⟩
    · have g1 : F[i]? = some F[i] := List.getElem?_eq_getElem hi
      have g2 : F[j]? = some F[j] := List.getElem?_eq_getElem hj
      have w1 := hhd i _ g1
      have w2 := hhd j _ g2
      rw [show (F.getD i []).getD 0 0 = (F.getD j []).getD 0 0 from e] at w1
      exact (M21.flat_pair hnd g1 g2 w1 w2).1
    · have at_ : ∀ i, i < F.length → F[i]? = some (F.getD i []) ∧ fps[i]? = some (fps.getD i 0) := fun i hi => by
        have hfl : fps.length = F.length := R2.1
        have g1 : F[i]? = some F[i] := List.getElem?_eq_getElem hi
        have g2 : fps[i]? = some (fps[i]'(by omega)) := List.getElem?_eq_getElem (by omega)
        rw [List.getD_eq_getElem?_getD, List.getD_eq_getElem?_getD, g1, g2]
        exact ⟨rfl, rfl⟩
      have hCp : (p.map fun i => F.getD i []).Perm F := by
        have h1 : p.Perm (List.range F.length) := perm_of hpn (fun x hx => List.mem_range.mpr (hpi x hx)) (by rw [hpl, List.length_range])
        have h2 := h1.map fun i => F.getD i []
        have e : (List.range F.length).map (fun i => F.getD i []) = F := by
          refine List.ext_getElem? fun i => ?_
          by_cases hi : i < F.length
          · rw [List.getElem?_map, List.getElem?_range hi, (at_ i hi).1]
            rfl
          · rw [List.getElem?_eq_none (by rw [List.length_map, List.length_range]; omega), List.getElem?_eq_none (by omega)]
        rw [e] at h2
        exact h2
      obtain ⟨c1, c2⟩ := hF.cut hP hCp (fun i j x y hij hx hy => by
        rw [List.getElem?_map] at hx hy
        cases ex : p[i]? with
        | none => rw [ex] at hx; cases hx
        | some ai =>
          cases ey : p[j]? with
          | none => rw [ey] at hy; cases hy
          | some bi =>
            rw [ex] at hx
            rw [ey] at hy
            have h1 : F.getD ai [] = x := Option.some.inj hx
            have h2 : F.getD bi [] = y := Option.some.inj hy
            rw [← h1, ← h2]
            exact hup i j ai bi hij ex ey)
      have sD := Same.upd (o := .lst ((p.map fun i => fps.getD i 0).map V.ref)) hD
      refine k D _ _ (s2.trans sD) ⟨p.map fun i => fps.getD i 0, upd_same, by rw [List.length_map, List.length_map], fun i r w g1 g2 => ?_⟩ c1 c2 (by rw [List.length_map, hpl]; omega)
      rw [List.getElem?_map] at g1 g2
      cases ex : p[i]? with
      | none => rw [ex] at g1; cases g1
      | some ai =>
        rw [ex] at g1 g2
        have h1 : fps.getD ai 0 = r := Option.some.inj g1
        have h2 : F.getD ai [] = w := Option.some.inj g2
        obtain ⟨e1, e2⟩ := at_ ai (hpi ai (List.mem_of_getElem? ex))
        rw [← h1, ← h2]
        exact sD _ _ (R2.2 ai _ _ e2 e1)
theorem bef_atI {c : List Int} {k : Nat} (hk : k < c.length) : atI (intV c) ((k : Int) - 1) = some (V.int (M21.bef c k)) := by
  unfold M21.bef
  by_cases e : k = 0
  · subst e
    rw [if_pos rfl]
    have hc : c = c.take (c.length - 1) ++ [c.getD (c.length - 1) 0] := by
      have := take_at (c := c) (i := c.length - 1) (by omega)
      rw [show c.length - 1 + 1 = c.length by omega, List.take_length] at this
      exact this
    have h2 : intV c = intV (c.take (c.length - 1)) ++ [V.int (c.getD (c.length - 1) 0)] := by
      conv => lhs; rw [hc]
      rw [ints_app]
      rfl
    rw [h2]
    exact atI_last _ _
  · rw [if_neg e, show (k : Int) - 1 = ((k - 1 : Nat) : Int) by omega]
    exact atI_nat (ints_at (getD_at (by omega)))
theorem ok_law (T : Txt K mg A) : FnOk P w K mg base CX0 9 A.f_law A.d_law ["_law_script"] (spLaw K) := by
  have G__law_sizes : FnOk P w K mg base CX0 2 A.f__law_sizes A.d__law_sizes ["_law_script"] (spSizes K) := ok__law_sizes T
  have G__law_cut : FnOk P w K mg base CX0 1 A.f__law_cut A.d__law_cut ["_law_rooms_here", "_law_sizes_here"] spCut := ok__law_cut T
  have G_rings : FnOk P w K mg base CX0 2 A.f_rings A.d_rings ["turned"] spRings := ok_rings T
  have G_times : FnOk P w K mg base CX0 3 A.f_times A.d_times ["turned"] spTimes := ok_times T
  have G__law_rooms : FnOk P w K mg base CX0 2 A.f__law_rooms A.d__law_rooms ["_law_number", "_law_many_here"] spRooms := ok__law_rooms T
  have G__law_same : FnOk P w K mg base CX0 2 A.f__law_same A.d__law_same ["_law_found", "_law_due"] spSame := ok__law_same T
  have G__law_at : FnOk P w K mg base CX0 1 A.f__law_at A.d__law_at ["_law_script", "_law_k"] (spAt K) := ok__law_at T
  have G__law_whole : FnOk P w K mg base CX0 1 A.f__law_whole A.d__law_whole ["_law_found"] spWhole := ok__law_whole T
  have G__law_many : FnOk P w K mg base CX0 1 A.f__law_many A.d__law_many ["_law_sizes_here"] spManyL := ok__law_many T
  refine T.law.F.ok sc_law (fun vs H Q E h => ?_) (fun cdv AA outer s H vs Q E hr h => ?_)
  · obtain ⟨a, ns, rfl, _⟩ := h
    rfl
  · obtain ⟨a, ns, rfl, hS, hlen, k⟩ := h
    have hu := Nat.lt_of_succ_lt (hu_of hr)
    refine ⟨_, (pss_cons (ps_set (i := 1) sc_law.nd rfl (Or.inl rfl) (pe_call (G__law_sizes) (hr.mono (by decide)) rfl T._law_sizes.m T._law_sizes.F.kp T._law_sizes.b .nil pass0 (pa_cons (pv 0) pa_nil)))
      (pss_cons (ps_set (i := 2) sc_law.nd rfl (Or.inl rfl) (pe_call (G__law_cut) (hr.mono (by decide)) rfl T._law_cut.m T._law_cut.F.kp T._law_cut.b .nil pass0 (pa_cons (pe_call (G__law_rooms) (hr.mono (by decide)) rfl T._law_rooms.m T._law_rooms.F.kp T._law_rooms.b .nil pass0 (pa_cons (pe_call (G__law_at) (hr.mono (by decide)) rfl T._law_at.m T._law_at.F.kp T._law_at.b .nil pass0 (pa_cons (pv 0) (pa_cons pe_int pa_nil))) (pa_cons (pe_callB (call_sumL rfl) rfl T.z_sum PyProof.Rows.boot_sum (pa_cons (pv 1) pa_nil)) pa_nil))) (pa_cons (pv 1) pa_nil))))
      (pss_cons (ps_set (i := 3) sc_law.nd rfl (Or.inl rfl) (pe_op op_rep (pe_lst (pa_cons pe_int pa_nil)) (pe_callB (call_sumL rfl) rfl T.z_sum PyProof.Rows.boot_sum (pa_cons (pv 1) pa_nil))))
      (pss_cons (ps_for PassesOwn.never rfl (pi_list (pv 2)) (pg_name (i := 4) sc_law.nd rfl (Or.inl rfl))
        (pss_one (ps_for PassesOwn.never rfl (pi_range1 rfl T.z_range (pa_cons (pe_callB call_len_seq rfl T.z_len PySem.boot_len (pa_cons (pv 4) pa_nil)) pa_nil)) (pg_name (i := 5) sc_law.nd rfl (Or.inl rfl))
          (pss_one (ps_asg (pe_ix ix_list (pv 4) (pv 5) (fun _ _ => rfl)) (pg_sub (pv 3) (pe_ix ix_list (pv 4) (pe_op op_sub (pv 5) pe_int) (fun _ _ => rfl)) set_list))))))
      (pss_cons (ps_set (i := 6) sc_law.nd rfl (Or.inl rfl) (pe_callTy call_list_of rfl T.z_list PyProof.Rows.boot_list (pa_cons (pv 3) pa_nil)))
      (pss_cons (ps_set (i := 7) sc_law.nd rfl (Or.inl rfl) (pe_call (G_rings) (hr.mono (by decide)) rfl T.rings.m T.rings.F.kp T.rings.b .nil pass0 (pa_cons (pv 6) pa_nil)))
      (pss_cons (ps_if (pt_not (pt_val (pe_call (G__law_same) (hr.mono (by decide)) rfl T._law_same.m T._law_same.F.kp T._law_same.b .nil pass0 (pa_cons (pv 7) (pa_cons (pv 2) pa_nil)))))
        (pss_one (ps_ret pe_bl))
        pss_nil)
      (pss_cons (ps_set (i := 8) sc_law.nd rfl (Or.inl rfl) (pe_call (G_times) (hr.mono (by decide)) rfl T.times.m T.times.F.kp T.times.b .nil pass0 (pa_cons (pv 6) pa_nil)))
      (pss_cons (ps_cut (ps_if (PW.pt (pw_or (pt_not (pt_val (pe_call (G__law_whole) (hr.mono (by decide)) rfl T._law_whole.m T._law_whole.F.kp T._law_whole.b .nil pass0 (pa_cons (pv 8) pa_nil)))) (pw_or1 (pt_cmpR op_ne (pv 8) (pe_call (G__law_many) (hr.mono (by decide)) rfl T._law_many.m T._law_many.F.kp T._law_many.b .nil pass0 (pa_cons (pv 1) pa_nil)) (nomark _)))))
        (pss_one (ps_ret pe_bl))
        pss_nil))
      (pss_cons (ps_expr (pe_bm PySem.F.plainAttrs_list PySem.F.slot_list_append PySem.F.type_list_append mt_append (pe_ix ix_list (pv 7) pe_int (fun _ _ => rfl)) (pa_cons pe_int pa_nil)))
      (pss_cons (ps_expr (pe_bm PySem.F.plainAttrs_list PySem.F.slot_list_append PySem.F.type_list_append mt_append (pv 7) (pa_cons (pe_lst (pa_cons pe_int pa_nil)) pa_nil)))
      (pss_one (ps_ret (pe_and (pe_call (G__law_same) (hr.mono (by decide)) rfl T._law_same.m T._law_same.F.kp T._law_same.b .nil pass0 (pa_cons (pe_call (G_rings) (hr.mono (by decide)) rfl T.rings.m T.rings.F.kp T.rings.b .nil pass0 (pa_cons (pv 6) pa_nil)) (pa_cons (pv 2) pa_nil))) (pe_and (pe_cmpR op_eq (pe_call (G_times) (hr.mono (by decide)) rfl T.times.m T.times.F.kp T.times.b .nil pass0 (pa_cons (pv 6) pa_nil)) (pv 8) (nomark _)) (pe_one (pe_cmpR (op_eqLI hu) (pv 6) (pv 3) (nomark _)))))))))))))))))), ?_⟩
    refine ⟨_, rfl, a, ns, rfl, hS, hlen, fun lz szs H1 s1 hz1 hpos hsum hl1 hl2 => ?_⟩
    obtain ⟨n, hn⟩ : ∃ n, n = szs.sum := ⟨_, rfl⟩
    have hn1 : 1 ≤ n := by
      by_cases e : szs.sum = 0
      · have := sum_zero hpos e
        rw [this] at hl1
        simp at hl1
      · omega
    have esum : (natI szs).sum = (n : Int) := by rw [natI_sum, hn]
    rw [← hn] at hsum
    refine ⟨_, rfl, a, ns, 0, rfl, s1.seq hS, by omega, fun z0 => ⟨_, rfl, lz, natI szs, rfl, SqL.of hz1, z0, n, congrArg (fun z => [V.int z0, V.int z]) esum, hn1, hsum, fun lr rooms H2 s2 hr2 hP => ?_⟩⟩
    refine ⟨_, rfl, lr, lz, rooms, szs, n, rfl, hr2, s2 _ _ hz1, hP, hn.symm, hsum, hpos, hl1, hl2, fun lc C H3 s3 hTc hC hlc hC1 => ?_⟩
    have s13 := s2.trans s3
    refine ⟨by show 1 ≤ sizeLine; decide, fun q hq => ?_⟩
    have sq : Same H3 (upd H3 q (.lst [.int 0])) := Same.upd hq
    have hqq : upd H3 q (.lst [.int 0]) q = some (.lst [.int 0]) := upd_same
    generalize upd H3 q (.lst [.int 0]) = H4 at sq hqq ⊢
    refine ⟨_, rfl, lz, natI szs, rfl, SqL.of (sq _ _ (s13 _ _ hz1)), ?_⟩
    rw [esum]
    refine ⟨q, _, _, rfl, rfl, hqq, by omega, by omega, ?_, fun lt hlt => ?_⟩
    · rw [Int.toNat_natCast]
      exact Nat.le_trans (show 1 * n ≤ 1000 by omega) (by decide)
    rw [Int.toNat_natCast, rep_zero]
    have s45 : Same H4 (upd H4 lt (.lst (intV (List.replicate n (0 : Int))))) := Same.upd hlt
    have h5 : upd H4 lt (.lst (intV (List.replicate n (0 : Int)))) lt = some (.lst (intV (List.replicate n (0 : Int)))) := upd_same
    generalize upd H4 lt (.lst (intV (List.replicate n (0 : Int)))) = H5 at s45 h5 ⊢
    have s35 := sq.trans s45
    have nlt3 : H3 lt = none := sq.free hlt
    obtain ⟨crs, hcrs, hcR⟩ := id hTc
    have hcl : crs.length = C.length := hcR.1
    have ncl : lc ≠ lt := ne_of_none hcrs nlt3
    have hcn : ∀ (i : Nat) (c : List Int), C[i]? = some c → c.length ≤ 1000 := fun i c hi => by
      have := M11.nodup_lenI (M21.in_nodup hC.nd (List.mem_of_getElem? hi)) (n := n) (fun x hx => by
        obtain ⟨b, hb⟩ := List.getElem?_of_mem hx
        exact hC.in_rg hi hb)
      omega
    refine ⟨_, rfl, lc, rfl, ⟨_, SqL.of (s35 _ _ hcrs)⟩, ?_⟩
    refine for_list (K := K) (a := lc) (xs := crs.map V.ref) (fun m σ H6 => ∃ (t : List Int) (v4 v5 : Option V), σ = [some (.ref a), some (.ref lz), some (.ref lc), some (.ref lt), v4, v5, none, none, none] ∧ But lt H5 H6 ∧ H6 lt = some (.lst (intV t)) ∧ M21.Wr n C t m 0)
      ⟨_, none, none, rfl, fun _ _ _ e => e, h5, List.length_replicate .., fun i j c _ _ hor => by omega⟩ (fun m σ H6 _ ⟨_, _, _, _, b, _⟩ => SqL.of (b _ _ ncl (s35 _ _ hcrs))) ?_ ?_
    · rintro m y σ H6 hm ⟨t, v4, v5, rfl, b6, h6, hW⟩
      rw [List.getElem?_map] at hm
      have hml : m < crs.length := by
        cases e : crs[m]? with
        | none => rw [e] at hm; cases hm
        | some r => exact (List.getElem?_eq_some_iff.mp e).1
      have q1 : crs[m]? = some crs[m] := List.getElem?_eq_getElem hml
      rw [q1] at hm
      have ey : V.ref crs[m] = y := Option.some.inj hm
      subst ey
      generalize crs[m] = rp at q1
      have q2 : C[m]? = some (C[m]'(by omega)) := List.getElem?_eq_getElem (by omega)
      generalize C[m]'(by omega) = c at q2
      have hrp3 := hcR.2 m rp c q1 q2
      have nrp : rp ≠ lt := ne_of_none hrp3 nlt3
      have hrp := b6 _ _ nrp (s35 _ _ hrp3)
      have hc1000 := hcn m c q2
      have hlc2 : ((intV c).length : Int) = (c.length : Int) := by rw [ints_len]
      refine ⟨_, rfl, rp, _, rfl, .inl (SqL.of hrp), (c.length : Int), by rw [hlc2], by omega, by omega, ?_⟩
      refine for_range (lo := 0) (n := ((c.length : Nat) : Int).toNat) (fun j σ H7 => ∃ (t : List Int) (v5 : Option V), σ = [some (.ref a), some (.ref lz), some (.ref lc), some (.ref lt), some (.ref rp), v5, none, none, none] ∧ But lt H5 H7 ∧ H7 lt = some (.lst (intV t)) ∧ M21.Wr n C t m j) ⟨t, _, rfl, b6, h6, hW⟩ ?_ ?_
      · rintro j σ H7 hj ⟨t, v5, rfl, b7, h7, hW7⟩
        have hjl : j < c.length := by omega
        rw [Int.zero_add]
        have hrp7 := b7 _ _ nrp (s35 _ _ hrp3)
        obtain ⟨w1, w2, w3⟩ := hW7.step hC q2 hjl
        obtain ⟨x, hx⟩ : ∃ x : Nat, M21.bef c j = (x : Int) := ⟨(M21.bef c j).toNat, by omega⟩
        rw [hx, Int.toNat_natCast] at w1 w3
        have hat := bef_atI hjl
        rw [hx] at hat
        refine ⟨_, rfl, _, rfl, rp, _, _, _, rfl, rfl, SqL.of hrp7, atI_nat (ints_at (getD_at hjl)), _, rfl, _, rfl, _, rfl, _, _, rfl, rfl, rp, _, _, _, rfl, rfl, SqL.of hrp7, hat, lt, _, _, x, rfl, rfl, h7, ixN_nat (by rw [ints_len, hW7.len]; exact w1), ?_⟩
        rw [ints_set]
        exact ⟨_, _, rfl, b7.trans But.upd, upd_same, w3⟩
      · rintro σ H7 ⟨t, v5, rfl, b7, h7, hW7⟩
        rw [Int.toNat_natCast] at hW7
        exact ⟨t, _, _, rfl, b7, h7, hW7.next q2⟩
    rintro σ H6 ⟨t, v4, v5, rfl, b6, h6, hW⟩
    rw [List.length_map, hcl] at hW
    have hT := hW.done
    have s36 : Same H3 H6 := fun b o e => b6 _ _ (ne_of_none e nlt3) (s35 _ _ e)
    refine ⟨_, rfl, lt, _, rfl, .inl (SqL.of h6), fun lh hlh => ?_⟩
    have s67 : Same H6 (upd H6 lh (.lst (intV t))) := Same.upd hlh
    have h7 : upd H6 lh (.lst (intV t)) lh = some (.lst (intV t)) := upd_same
    generalize upd H6 lh (.lst (intV t)) = H7 at s67 h7 ⊢
    have hTc7 := hTc.same (s36.trans s67)
    have hz7 := (s36.trans s67) _ _ (s13 _ _ hz1)
    have ht7 := s67 _ _ h6
    refine ⟨_, rfl, lh, t, n, C, rfl, h7, hC, hT, hsum, fun lo H8 s8 hN => ?_⟩
    obtain ⟨tps, f1, f2, f3, f4⟩ := hN
    have htl : tps.length = C.length := f2.1
    refine ⟨_, rfl, _, rfl, lo, lc, C, rfl, ⟨tps, f1, f2⟩, hTc7.same s8, fun H9 s9 => ⟨true, rfl, iteF ?_⟩⟩
    have s79 := s8.trans s9
    refine ⟨_, rfl, lh, t, n, C, rfl, s79 _ _ h7, hC, hT, hsum, fun HA sA => ?_⟩
    have s7A := s79.trans sA
    refine ⟨fun σ' H' => σ' = [some (.ref a), some (.ref lz), some (.ref lc), some (.ref lt), v4, v5, some (.ref lh), some (.ref lo), some (.int ((M21.lcms (C.map List.length) : Nat) : Int))] ∧ H' = HA, ?_, ?_⟩
    · refine ⟨_, rfl, _, rfl, true, rfl, iteF ⟨_, rfl, _, rfl, lz, szs, rfl, s7A _ _ hz7, hpos, rfl, _, rfl, iteNS (by rw [hlc]) ⟨rfl, rfl⟩⟩⟩
    rintro σ' H' ⟨rfl, rfl⟩
    have s8A := s9.trans sA
    have f1A := s8A _ _ f1
    have f2A := f2.same s8A
    have g0 : tps[0]? = some (tps[0]'(by omega)) := List.getElem?_eq_getElem (by omega)
    generalize tps[0]'(by omega) = t0 at g0
    have gC : C[0]? = some (C[0]'(by omega)) := List.getElem?_eq_getElem (by omega)
    generalize C[0]'(by omega) = c0 at gC
    have ht0 := f2A.2 0 t0 c0 g0 gC
    have nt0 := f4 t0 (List.mem_of_getElem? g0)
    have hc0l := hcn 0 c0 gC
    refine ⟨_, rfl, lo, _, _, .ref t0, rfl, rfl, SqL.of f1A, ref_at (i := 0) g0, .inl ⟨rfl, _, SqL.of ht0⟩, t0, _, _, rfl, rfl, ht0, ?_, ?_⟩
    · rw [ints_len]
      exact Nat.lt_of_le_of_lt hc0l (by decide)
    have nlo : lo ≠ t0 := fun e => by
      rw [← e, f1A] at ht0
      injection ht0 with ht0
      injection ht0 with ht0
      have w1 : (tps.map V.ref)[0]? = some (V.ref t0) := by rw [List.getElem?_map, g0]; rfl
      rw [ht0] at w1
      obtain ⟨zz, e2, _⟩ := ints_of_at w1
      cases e2
    have hloB : upd H' t0 (.lst (intV c0 ++ [V.int 0])) lo = some (.lst (tps.map V.ref)) := by rw [upd_ne nlo]; exact f1A
    have s7B : Same H7 (upd H' t0 (.lst (intV c0 ++ [V.int 0]))) := fun b o e => by rw [upd_ne (ne_of_none e nt0)]; exact s7A _ _ e
    generalize upd H' t0 (.lst (intV c0 ++ [V.int 0])) = HB at hloB s7B ⊢
    refine ⟨_, rfl, .inl ⟨rfl, _, SqL.of hloB⟩, by show 1 ≤ sizeLine; decide, fun z1 hz1' => ?_⟩
    have sBC : Same HB (upd HB z1 (.lst [.int 0])) := Same.upd hz1'
    generalize upd HB z1 (.lst [.int 0]) = HC at sBC ⊢
    have hCn : C.length ≤ 1000 := by
      have hd : (C.map fun c => (c.getD 0 0)).Nodup := by
        rw [List.nodup_iff_pairwise_ne, List.pairwise_map, List.pairwise_iff_getElem]
        intro i j hi hj hij z
        have := hC.up i j _ _ hij (List.getElem?_eq_getElem hi) (List.getElem?_eq_getElem hj)
        omega
      have := M11.nodup_lenI hd (n := n) (fun x hx => by
        obtain ⟨d, hd2, rfl⟩ := List.mem_map.mp hx
        obtain ⟨i, hi⟩ := List.getElem?_of_mem hd2
        exact hC.in_rg hi (M21.head_at (hC.ne d hd2)))
      rw [List.length_map] at this
      omega
    refine ⟨lo, _, _, rfl, rfl, sBC _ _ hloB, ?_, ?_⟩
    · rw [List.length_map]
      exact Nat.lt_of_le_of_lt (show tps.length ≤ 1000 by omega) (by decide)
    have s7D : Same H7 (upd HC lo (.lst (tps.map V.ref ++ [V.ref z1]))) := fun b o e => by rw [upd_ne (ne_of_none e f3)]; exact sBC _ _ (s7B _ _ e)
    generalize upd HC lo (.lst (tps.map V.ref ++ [V.ref z1])) = HD at s7D ⊢
    refine ⟨_, rfl, lh, t, n, C, rfl, s7D _ _ h7, hC, hT, hsum, fun lo2 HE sE hN2 => ?_⟩
    obtain ⟨tps2, e1, e2, -, -⟩ := hN2
    have s7E := s7D.trans sE
    refine ⟨_, rfl, lo2, lc, C, rfl, ⟨tps2, e1, e2⟩, hTc7.same s7E, fun HF sF => ⟨true, rfl, iteT ?_⟩⟩
    have s7F := s7E.trans sF
    refine ⟨_, rfl, lh, t, n, C, rfl, s7F _ _ h7, hC, hT, hsum, fun HG sG => ?_⟩
    have s7G := s7F.trans sG
    refine ⟨_, rfl, rfl, true, congrArg V.bl (decide_eq_true rfl), iteT ?_⟩
    refine ⟨_, rfl, _, rfl, lh, lt, t, t, rfl, rfl, s7G _ _ h7, s7G _ _ ht7, ?_⟩
    rw [decide_eq_true rfl]
    exact k _
end
theorem all_mk {l : PySem.W.OpenLaw} {w : World} {K : PySem.W.Frag} {h : Heap} {mg : Str → Option Value} {fa : Addr} (X : K.In h) (G : h.Ns mainGlobals mg) (hfa : mg "law" = some (.ref fa))
    {f1 : Addr} {od1 an1 : Option Addr} {sl1 : Array (Option Value)} {oc1 kV1 dc1 pm1 cd1 ct1 : Value} {f2 : Addr} {od2 an2 : Option Addr} {sl2 : Array (Option Value)} {oc2 kV2 dc2 pm2 cd2 ct2 : Value} {f3 : Addr} {od3 an3 : Option Addr} {sl3 : Array (Option Value)} {oc3 kV3 dc3 pm3 cd3 ct3 : Value} {f4 : Addr} {od4 an4 : Option Addr} {sl4 : Array (Option Value)} {oc4 kV4 dc4 pm4 cd4 ct4 : Value} {f5 : Addr} {od5 an5 : Option Addr} {sl5 : Array (Option Value)} {oc5 kV5 dc5 pm5 cd5 ct5 : Value} {f6 : Addr} {od6 an6 : Option Addr} {sl6 : Array (Option Value)} {oc6 kV6 dc6 pm6 cd6 ct6 : Value} {f7 : Addr} {od7 an7 : Option Addr} {sl7 : Array (Option Value)} {oc7 kV7 dc7 pm7 cd7 ct7 : Value} {f8 : Addr} {od8 an8 : Option Addr} {sl8 : Array (Option Value)} {oc8 kV8 dc8 pm8 cd8 ct8 : Value} {f9 : Addr} {od9 an9 : Option Addr} {sl9 : Array (Option Value)} {oc9 kV9 dc9 pm9 cd9 ct9 : Value} {f10 : Addr} {od10 an10 : Option Addr} {sl10 : Array (Option Value)} {oc10 kV10 dc10 pm10 cd10 ct10 : Value} {f11 : Addr} {od11 an11 : Option Addr} {sl11 : Array (Option Value)} {oc11 kV11 dc11 pm11 cd11 ct11 : Value} {f12 : Addr} {od12 an12 : Option Addr} {sl12 : Array (Option Value)} {oc12 kV12 dc12 pm12 cd12 ct12 : Value} {f13 : Addr} {od13 an13 : Option Addr} {sl13 : Array (Option Value)} {oc13 kV13 dc13 pm13 cd13 ct13 : Value}
    (a1 : PySem.W.nsIn K mainGlobals "rings" = some (some (.ref f1))) (l1 : K.lookup f1 = some ⟨oc1, od1, .func (PySem.W.fnOf "rings" "rings" (defArgs s_rings) (defBody s_rings) (defScope s_rings) .none kV1 dc1 pm1 an1 cd1 ct1), sl1⟩) (c1 : PySem.W.codeIn K cd1 "rings" = true) (k1 : PySem.W.keepIn K (.ref f1) = true)
    (a2 : PySem.W.nsIn K mainGlobals "ring_from" = some (some (.ref f2))) (l2 : K.lookup f2 = some ⟨oc2, od2, .func (PySem.W.fnOf "ring_from" "ring_from" (defArgs s_ring_from) (defBody s_ring_from) (defScope s_ring_from) .none kV2 dc2 pm2 an2 cd2 ct2), sl2⟩) (c2 : PySem.W.codeIn K cd2 "ring_from" = true) (k2 : PySem.W.keepIn K (.ref f2) = true)
    (a3 : PySem.W.nsIn K mainGlobals "times" = some (some (.ref f3))) (l3 : K.lookup f3 = some ⟨oc3, od3, .func (PySem.W.fnOf "times" "times" (defArgs s_times) (defBody s_times) (defScope s_times) .none kV3 dc3 pm3 an3 cd3 ct3), sl3⟩) (c3 : PySem.W.codeIn K cd3 "times" = true) (k3 : PySem.W.keepIn K (.ref f3) = true)
    (a4 : PySem.W.nsIn K mainGlobals "common_measure" = some (some (.ref f4))) (l4 : K.lookup f4 = some ⟨oc4, od4, .func (PySem.W.fnOf "common_measure" "common_measure" (defArgs s_common_measure) (defBody s_common_measure) (defScope s_common_measure) .none kV4 dc4 pm4 an4 cd4 ct4), sl4⟩) (c4 : PySem.W.codeIn K cd4 "common_measure" = true) (k4 : PySem.W.keepIn K (.ref f4) = true)
    (a5 : PySem.W.nsIn K mainGlobals "_law_whole" = some (some (.ref f5))) (l5 : K.lookup f5 = some ⟨oc5, od5, .func (PySem.W.fnOf "_law_whole" "_law_whole" (defArgs s__law_whole) (defBody s__law_whole) (defScope s__law_whole) .none kV5 dc5 pm5 an5 cd5 ct5), sl5⟩) (c5 : PySem.W.codeIn K cd5 "_law_whole" = true) (k5 : PySem.W.keepIn K (.ref f5) = true)
    (a6 : PySem.W.nsIn K mainGlobals "_law_at" = some (some (.ref f6))) (l6 : K.lookup f6 = some ⟨oc6, od6, .func (PySem.W.fnOf "_law_at" "_law_at" (defArgs s__law_at) (defBody s__law_at) (defScope s__law_at) .none kV6 dc6 pm6 an6 cd6 ct6), sl6⟩) (c6 : PySem.W.codeIn K cd6 "_law_at" = true) (k6 : PySem.W.keepIn K (.ref f6) = true)
    (a7 : PySem.W.nsIn K mainGlobals "_law_mix" = some (some (.ref f7))) (l7 : K.lookup f7 = some ⟨oc7, od7, .func (PySem.W.fnOf "_law_mix" "_law_mix" (defArgs s__law_mix) (defBody s__law_mix) (defScope s__law_mix) .none kV7 dc7 pm7 an7 cd7 ct7), sl7⟩) (c7 : PySem.W.codeIn K cd7 "_law_mix" = true) (k7 : PySem.W.keepIn K (.ref f7) = true)
    (a8 : PySem.W.nsIn K mainGlobals "_law_sizes" = some (some (.ref f8))) (l8 : K.lookup f8 = some ⟨oc8, od8, .func (PySem.W.fnOf "_law_sizes" "_law_sizes" (defArgs s__law_sizes) (defBody s__law_sizes) (defScope s__law_sizes) .none kV8 dc8 pm8 an8 cd8 ct8), sl8⟩) (c8 : PySem.W.codeIn K cd8 "_law_sizes" = true) (k8 : PySem.W.keepIn K (.ref f8) = true)
    (a9 : PySem.W.nsIn K mainGlobals "_law_rooms" = some (some (.ref f9))) (l9 : K.lookup f9 = some ⟨oc9, od9, .func (PySem.W.fnOf "_law_rooms" "_law_rooms" (defArgs s__law_rooms) (defBody s__law_rooms) (defScope s__law_rooms) .none kV9 dc9 pm9 an9 cd9 ct9), sl9⟩) (c9 : PySem.W.codeIn K cd9 "_law_rooms" = true) (k9 : PySem.W.keepIn K (.ref f9) = true)
    (a10 : PySem.W.nsIn K mainGlobals "_law_cut" = some (some (.ref f10))) (l10 : K.lookup f10 = some ⟨oc10, od10, .func (PySem.W.fnOf "_law_cut" "_law_cut" (defArgs s__law_cut) (defBody s__law_cut) (defScope s__law_cut) .none kV10 dc10 pm10 an10 cd10 ct10), sl10⟩) (c10 : PySem.W.codeIn K cd10 "_law_cut" = true) (k10 : PySem.W.keepIn K (.ref f10) = true)
    (a11 : PySem.W.nsIn K mainGlobals "_law_many" = some (some (.ref f11))) (l11 : K.lookup f11 = some ⟨oc11, od11, .func (PySem.W.fnOf "_law_many" "_law_many" (defArgs s__law_many) (defBody s__law_many) (defScope s__law_many) .none kV11 dc11 pm11 an11 cd11 ct11), sl11⟩) (c11 : PySem.W.codeIn K cd11 "_law_many" = true) (k11 : PySem.W.keepIn K (.ref f11) = true)
    (a12 : PySem.W.nsIn K mainGlobals "_law_same" = some (some (.ref f12))) (l12 : K.lookup f12 = some ⟨oc12, od12, .func (PySem.W.fnOf "_law_same" "_law_same" (defArgs s__law_same) (defBody s__law_same) (defScope s__law_same) .none kV12 dc12 pm12 an12 cd12 ct12), sl12⟩) (c12 : PySem.W.codeIn K cd12 "_law_same" = true) (k12 : PySem.W.keepIn K (.ref f12) = true)
    (a13 : PySem.W.nsIn K mainGlobals "law" = some (some (.ref f13))) (l13 : K.lookup f13 = some ⟨oc13, od13, .func (PySem.W.fnOf "law" "law" (defArgs s_law) (defBody s_law) (defScope s_law) .none kV13 dc13 pm13 an13 cd13 ct13), sl13⟩) (c13 : PySem.W.codeIn K cd13 "law" = true) (k13 : PySem.W.keepIn K (.ref f13) = true)
    (z1 : PySem.W.nsIn K mainGlobals "zip" = some none)
    (z2 : PySem.W.nsIn K mainGlobals "range" = some none)
    (z3 : PySem.W.nsIn K mainGlobals "len" = some none)
    (z4 : PySem.W.nsIn K mainGlobals "list" = some none)
    (z5 : PySem.W.nsIn K mainGlobals "isinstance" = some none)
    (z6 : PySem.W.nsIn K mainGlobals "bool" = some none)
    (z7 : PySem.W.nsIn K mainGlobals "int" = some none)
    (z8 : PySem.W.nsIn K mainGlobals "sum" = some none)
    (z9 : PySem.W.nsIn K mainGlobals "min" = some none)
    (z10 : PySem.W.nsIn K mainGlobals "sorted" = some none)
    : ∃ fd : FuncData, (∀ (s : Shared) (v : Value), BindsTo s fd ⟨[v], []⟩ [("_law_script", v)]) ∧ ∀ base : Heap, K.In base → base.Ns mainGlobals mg → FnOk l.prog w K mg base CX0 9 fa fd ["_law_script"] (spLaw K) := by
  have e := hfa.symm.trans (PySem.W.mg_of X G a13)
  cases e
  have F1 := fun_mk (st := s_rings) l1 c1 k1
  have D1 : Def K mg "rings" s_rings ["turned"] _ _ := ⟨F1, PySem.W.mg_of X G a1, F1.binds (ps := ["turned"]) fun _ _ _ _ _ _ us hl => match us, hl with | [_], _ => rfl⟩
  have F2 := fun_mk (st := s_ring_from) l2 c2 k2
  have D2 : Def K mg "ring_from" s_ring_from ["turned", "start"] _ _ := ⟨F2, PySem.W.mg_of X G a2, F2.binds (ps := ["turned", "start"]) fun _ _ _ _ _ _ us hl => match us, hl with | [_, _], _ => rfl⟩
  have F3 := fun_mk (st := s_times) l3 c3 k3
  have D3 : Def K mg "times" s_times ["turned"] _ _ := ⟨F3, PySem.W.mg_of X G a3, F3.binds (ps := ["turned"]) fun _ _ _ _ _ _ us hl => match us, hl with | [_], _ => rfl⟩
  have F4 := fun_mk (st := s_common_measure) l4 c4 k4
  have D4 : Def K mg "common_measure" s_common_measure ["one", "other"] _ _ := ⟨F4, PySem.W.mg_of X G a4, F4.binds (ps := ["one", "other"]) fun _ _ _ _ _ _ us hl => match us, hl with | [_, _], _ => rfl⟩
  have F5 := fun_mk (st := s__law_whole) l5 c5 k5
  have D5 : Def K mg "_law_whole" s__law_whole ["_law_found"] _ _ := ⟨F5, PySem.W.mg_of X G a5, F5.binds (ps := ["_law_found"]) fun _ _ _ _ _ _ us hl => match us, hl with | [_], _ => rfl⟩
  have F6 := fun_mk (st := s__law_at) l6 c6 k6
  have D6 : Def K mg "_law_at" s__law_at ["_law_script", "_law_k"] _ _ := ⟨F6, PySem.W.mg_of X G a6, F6.binds (ps := ["_law_script", "_law_k"]) fun _ _ _ _ _ _ us hl => match us, hl with | [_, _], _ => rfl⟩
  have F7 := fun_mk (st := s__law_mix) l7 c7 k7
  have D7 : Def K mg "_law_mix" s__law_mix ["_law_number", "_law_place"] _ _ := ⟨F7, PySem.W.mg_of X G a7, F7.binds (ps := ["_law_number", "_law_place"]) fun _ _ _ _ _ _ us hl => match us, hl with | [_, _], _ => rfl⟩
  have F8 := fun_mk (st := s__law_sizes) l8 c8 k8
  have D8 : Def K mg "_law_sizes" s__law_sizes ["_law_script"] _ _ := ⟨F8, PySem.W.mg_of X G a8, F8.binds (ps := ["_law_script"]) fun _ _ _ _ _ _ us hl => match us, hl with | [_], _ => rfl⟩
  have F9 := fun_mk (st := s__law_rooms) l9 c9 k9
  have D9 : Def K mg "_law_rooms" s__law_rooms ["_law_number", "_law_many_here"] _ _ := ⟨F9, PySem.W.mg_of X G a9, F9.binds (ps := ["_law_number", "_law_many_here"]) fun _ _ _ _ _ _ us hl => match us, hl with | [_, _], _ => rfl⟩
  have F10 := fun_mk (st := s__law_cut) l10 c10 k10
  have D10 : Def K mg "_law_cut" s__law_cut ["_law_rooms_here", "_law_sizes_here"] _ _ := ⟨F10, PySem.W.mg_of X G a10, F10.binds (ps := ["_law_rooms_here", "_law_sizes_here"]) fun _ _ _ _ _ _ us hl => match us, hl with | [_, _], _ => rfl⟩
  have F11 := fun_mk (st := s__law_many) l11 c11 k11
  have D11 : Def K mg "_law_many" s__law_many ["_law_sizes_here"] _ _ := ⟨F11, PySem.W.mg_of X G a11, F11.binds (ps := ["_law_sizes_here"]) fun _ _ _ _ _ _ us hl => match us, hl with | [_], _ => rfl⟩
  have F12 := fun_mk (st := s__law_same) l12 c12 k12
  have D12 : Def K mg "_law_same" s__law_same ["_law_found", "_law_due"] _ _ := ⟨F12, PySem.W.mg_of X G a12, F12.binds (ps := ["_law_found", "_law_due"]) fun _ _ _ _ _ _ us hl => match us, hl with | [_, _], _ => rfl⟩
  have F13 := fun_mk (st := s_law) l13 c13 k13
  have D13 : Def K mg "law" s_law ["_law_script"] _ _ := ⟨F13, PySem.W.mg_of X G a13, F13.binds (ps := ["_law_script"]) fun _ _ _ _ _ _ us hl => match us, hl with | [_], _ => rfl⟩
  have T : Txt K mg ⟨f1, PySem.W.fnOf "rings" "rings" (defArgs s_rings) (defBody s_rings) (defScope s_rings) .none kV1 dc1 pm1 an1 cd1 ct1, f2, PySem.W.fnOf "ring_from" "ring_from" (defArgs s_ring_from) (defBody s_ring_from) (defScope s_ring_from) .none kV2 dc2 pm2 an2 cd2 ct2, f3, PySem.W.fnOf "times" "times" (defArgs s_times) (defBody s_times) (defScope s_times) .none kV3 dc3 pm3 an3 cd3 ct3, f4, PySem.W.fnOf "common_measure" "common_measure" (defArgs s_common_measure) (defBody s_common_measure) (defScope s_common_measure) .none kV4 dc4 pm4 an4 cd4 ct4, f5, PySem.W.fnOf "_law_whole" "_law_whole" (defArgs s__law_whole) (defBody s__law_whole) (defScope s__law_whole) .none kV5 dc5 pm5 an5 cd5 ct5, f6, PySem.W.fnOf "_law_at" "_law_at" (defArgs s__law_at) (defBody s__law_at) (defScope s__law_at) .none kV6 dc6 pm6 an6 cd6 ct6, f7, PySem.W.fnOf "_law_mix" "_law_mix" (defArgs s__law_mix) (defBody s__law_mix) (defScope s__law_mix) .none kV7 dc7 pm7 an7 cd7 ct7, f8, PySem.W.fnOf "_law_sizes" "_law_sizes" (defArgs s__law_sizes) (defBody s__law_sizes) (defScope s__law_sizes) .none kV8 dc8 pm8 an8 cd8 ct8, f9, PySem.W.fnOf "_law_rooms" "_law_rooms" (defArgs s__law_rooms) (defBody s__law_rooms) (defScope s__law_rooms) .none kV9 dc9 pm9 an9 cd9 ct9, f10, PySem.W.fnOf "_law_cut" "_law_cut" (defArgs s__law_cut) (defBody s__law_cut) (defScope s__law_cut) .none kV10 dc10 pm10 an10 cd10 ct10, f11, PySem.W.fnOf "_law_many" "_law_many" (defArgs s__law_many) (defBody s__law_many) (defScope s__law_many) .none kV11 dc11 pm11 an11 cd11 ct11, f12, PySem.W.fnOf "_law_same" "_law_same" (defArgs s__law_same) (defBody s__law_same) (defScope s__law_same) .none kV12 dc12 pm12 an12 cd12 ct12, fa, PySem.W.fnOf "law" "law" (defArgs s_law) (defBody s_law) (defScope s_law) .none kV13 dc13 pm13 an13 cd13 ct13⟩ := ⟨D1, D2, D3, D4, D5, D6, D7, D8, D9, D10, D11, D12, D13, PySem.W.mg_none_of X G z1, PySem.W.mg_none_of X G z2, PySem.W.mg_none_of X G z3, PySem.W.mg_none_of X G z4, PySem.W.mg_none_of X G z5, PySem.W.mg_none_of X G z6, PySem.W.mg_none_of X G z7, PySem.W.mg_none_of X G z8, PySem.W.mg_none_of X G z9, PySem.W.mg_none_of X G z10⟩
  exact ⟨_, fun s v => .of_eq rfl, fun base _ _ => ok_law T⟩
theorem walk {l : PySem.W.OpenLaw} {q : Program} {loose : List Str} {XP : (Str → Option Value) → Heap → Prop} {YP : World → Heap → Prop} {d : DefRec} {K : Params → PySem.W.Frag} (hn : l.most = some 63) (hdf : d.params.defaults = [])
    (hY : ∀ (w : World) (h : Heap), YP w h → (K w.params).In h)
    (F : ∀ (w : World) (mg : Str → Option Value) (fa : Addr) (h : Heap), (K w.params).In h → h.Ns mainGlobals mg → mg d.name = some (.ref fa) →
      ∃ fd : FuncData, (∀ (s : Shared) (u : Value), BindsTo s fd ⟨[u], []⟩ [("_law_script", u)]) ∧ ∀ base : Heap, (K w.params).In base → base.Ns mainGlobals mg → FnOk l.prog w (K w.params) mg base CX0 9 fa fd ["_law_script"] (spLaw (K w.params))) :
    PySem.W.WalkO q loose XP YP l.row.toRowW d [] (fun f vs => PySem.call f vs) :=
  L2.walk_of (n := 63) (k := 9) (x := "_law_script") (CX := fun w => CX0) (sp := fun w => spLaw (K w.params)) hn (by decide) hdf ⟨rfl, by decide, by decide⟩ hY F (fun _ _ a ns hl _ hS => ⟨a, ns, rfl, hS, hl, fun _ => rfl⟩) fun _ _ _ _ _ z => z
end K52
open PySem PySem.W PyProof.Rows
set_option maxRecDepth 100000 in
set_option maxHeartbeats 0 in
theorem PySem.Challenge.cw_cosetyard_k52_rings_and_times_holds : PySem.Challenge.rw_cosetyard_k52_rings_and_times.Holds := by
  w_on; o_law; k_head; (case hw => w_witness2)
  k_fill
  refine K52.walk (l := PySem.Challenge.rw_cosetyard_k52_rings_and_times) rfl rfl (fun w h Y => PySem.W.kIn_of Y) ?F
  case F =>
    intro w mg fa h KX G hmg
    refine' K52.all_mk KX G hmg ?a1 ?l1 ?c1 ?k1 ?a2 ?l2 ?c2 ?k2 ?a3 ?l3 ?c3 ?k3 ?a4 ?l4 ?c4 ?k4 ?a5 ?l5 ?c5 ?k5 ?a6 ?l6 ?c6 ?k6 ?a7 ?l7 ?c7 ?k7 ?a8 ?l8 ?c8 ?k8 ?a9 ?l9 ?c9 ?k9 ?a10 ?l10 ?c10 ?k10 ?a11 ?l11 ?c11 ?k11 ?a12 ?l12 ?c12 ?k12 ?a13 ?l13 ?c13 ?k13 ?z1 ?z2 ?z3 ?z4 ?z5 ?z6 ?z7 ?z8 ?z9 ?z10
    (case a1 => k_is)
    (case l1 => k_is)
    (case c1 => k_is)
    (case k1 => k_is)
    (case a2 => k_is)
    (case l2 => k_is)
    (case c2 => k_is)
    (case k2 => k_is)
    (case a3 => k_is)
    (case l3 => k_is)
    (case c3 => k_is)
    (case k3 => k_is)
    (case a4 => k_is)
    (case l4 => k_is)
    (case c4 => k_is)
    (case k4 => k_is)
    (case a5 => k_is)
    (case l5 => k_is)
    (case c5 => k_is)
    (case k5 => k_is)
    (case a6 => k_is)
    (case l6 => k_is)
    (case c6 => k_is)
    (case k6 => k_is)
    (case a7 => k_is)
    (case l7 => k_is)
    (case c7 => k_is)
    (case k7 => k_is)
    (case a8 => k_is)
    (case l8 => k_is)
    (case c8 => k_is)
    (case k8 => k_is)
    (case a9 => k_is)
    (case l9 => k_is)
    (case c9 => k_is)
    (case k9 => k_is)
    (case a10 => k_is)
    (case l10 => k_is)
    (case c10 => k_is)
    (case k10 => k_is)
    (case a11 => k_is)
    (case l11 => k_is)
    (case c11 => k_is)
    (case k11 => k_is)
    (case a12 => k_is)
    (case l12 => k_is)
    (case c12 => k_is)
    (case k12 => k_is)
    (case a13 => k_is)
    (case l13 => k_is)
    (case c13 => k_is)
    (case k13 => k_is)
    (case z1 => k_is)
    (case z2 => k_is)
    (case z3 => k_is)
    (case z4 => k_is)
    (case z5 => k_is)
    (case z6 => k_is)
    (case z7 => k_is)
    (case z8 => k_is)
    (case z9 => k_is)
    (case z10 => k_is)
